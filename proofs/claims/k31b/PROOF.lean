import PyProof.Rows.All
import Wide.All
import OpenK.AllK
import Wide.FinOn
import Lean
import PyProof.EqAt
import PyProof.EqKinds
import PyProof.TupleCall
import KE.KRevIter
import KE.KMinKey
import PyProof.FactsAll.range_2
import PyProof.Rows.CallKwBuiltin
import PyProof.EnumMake
import PyProof.EnumFor
import PyProof.ListNew
import PyProof.CollectIter
import PyProof.ExcClass3
import PyProof.ExcBaseAll.ValueError
import PyProof.NsDelKeeps
import PyProof.ExcAttrAll.ValueError
import PyProof.IsiBase
import KE.KIsAll
import PySem.Challenge.RW_echohouse_k31_runs_by_tables
noncomputable section
local macro_rules | `(tactic| walk_at "sc")=>`(tactic| exact ⟨rfl,rfl,rfl,by decide +kernel,rfl,by decide +kernel,by decide +kernel⟩)
set_option Elab.async false
set_option linter.all false
set_option maxRecDepth 100000
set_option maxHeartbeats 4000000
local macro_rules | `(tactic| walk_at "ev")=>do
  let ns:List Lean.Name:=[`Bool.false_eq_true,`Bool.not_false,`Bool.not_true,`Am,`An,`D2,`List.cons_append,`List.getElem?_cons_succ,`List.getElem?_cons_zero,`List.length_cons,`List.length_nil,`List.map_cons,`List.map_nil,`List.nil_append,`List.replicate_succ,`List.replicate_zero,`List.set_cons_succ,`List.set_cons_zero,`Nat.reduceAdd,`Nat.reduceLeDiff,`Nat.reduceSub,`Nat.sub_self,`Nat.zero_add,`Option.bind_none,`Option.bind_some,`and_self,`and_true,`beq_self_eq_true,`boolsOf,`BK,`ph,`bY,`Ll,`Lm,`dO,`decide_false,`decide_true,`av,`AD,`dQ,`kY,`kZ,`fC,`ai,`He,`ff,`aa,`Ln,`u9,`B4,`k9,`MI,`ck,`iJ,`fj,`bI,`aj,`kq,`cK,`aH,`mZ,`Lo,`n0,`gc,`bN,`jI,`bf,`va,`bU,`fm,`DX,`eE,`cM,`ir,`uI,`md,`ae,`aX,`eR,`iK,`vg,`Cf,`ju,`Hj,`AF,`mh,`Cg,`Hk,`MK,`Ci,`Cj,`Ck,`Cm,`Hl,`sM,`xD,`Er,`aI,`ao,`cD,`cT,`if_false,`if_true,`GG,`vj,`vk,`xJ,`vm,`AM,`xM,`sQ,`sR,`sS,`vn,`sT,`xN,`vo,`qJ,`sV,`sW,`vp,`sX,`xO,`vq,`qK,`sY,`sZ,`vt,`tf,`xQ,`vv,`qL,`tj,`tm,`vw,`tq,`xR,`vx,`qM,`tu,`tw,`vy,`tx,`xS,`vB,`qN,`tB,`tD,`vD,`tF,`xT,`vF,`qO,`tJ,`tK,`vG,`tL,`xU,`vH,`qP,`ite_false,`ite_true,`LA,`LB,`LC,`LD,`MO,`LF,`dU,`MP,`ne_eq,`not_false_eq_true,`not_true_eq_false,`reduceCtorEq,`reduceIte,`Ko,`K1,`true_and,`iE]
  let mut ls:Array (Lean.TSyntax `Lean.Parser.Tactic.simpLemma):=#[]
  for n in ns do
   unless (<- Lean.Macro.resolveGlobalName n).isEmpty do
    ls:=ls.push (<- `(Lean.Parser.Tactic.simpLemma| $(Lean.mkIdent n):ident))
  `(tactic| simp only [$[$ls],*, *])
namespace My
open PySem PySem.Spec PyProof.Rows
def tp (i:Nat):Stmt:=PySem.Challenge.pw_echohouse_k31_runs_by_tables.main.body.getD i (.Pass ⟨0,0,0,0⟩)
def hA (s:Stmt):Arguments:=match s with
 | .FunctionDef _ a _ _ _ _ _ _ _ _=>a
 | _=>⟨[],[],none,[],[],none,[]⟩
def hB (s:Stmt):List Stmt:=match s with
 | .FunctionDef _ _ b _ _ _ _ _ _ _=>b
 | _=>[]
def hS (s:Stmt):Scope:=match s with
 | .FunctionDef _ _ _ _ _ _ sc _ _ _=>sc
 | _=>{ kind:=.function,names:=[],isGenerator:=false,isCoroutine:=false }
def tc (i j:Nat):Stmt:=match tp i with
 | .ClassDef _ _ _ body _ _ _ _ _ _ _=>body.getD j (.Pass ⟨0,0,0,0⟩)
 | _=>.Pass ⟨0,0,0,0⟩
abbrev pg:Program:=PySem.Challenge.pw_echohouse_k31_runs_by_tables
abbrev lw:PySem.W.OpenLaw:=PySem.Challenge.rw_echohouse_k31_runs_by_tables
def qv:Program:={ pg with main:={ pg.main with body:=([0,2,3,4,5,6,8,9,10,11,12,13,14,15,16,17,18,20,21,22,23,24,25,27,28,29,30,31,32,33,34,35,36,37,39,40,42,43,44,45,46,48,49,50,51,52,53,54,55,56,57,58,59,60,61,62,63]:List Nat).map tp } }
def cf:Str := "/claim/cut.py"
def Mj (nm qn:Str) (t l n k:Nat) (a b c d e:Value):Obj:=⟨.type "code", none,.fields #[.str nm t,.str qn (t + 1),.str cf (t + 2),.int l 0,.int n 0,.int 0 0,.int 0 0,.int 3 0,a,.bool true,.int 181 0,b,.none,c,d,e,.int k 0,.int l 0,.str cf (k + 1)],#[]⟩
def Jh (c:Nat) (nm qn:Str) (t l n k:Nat):Obj:=Mj nm qn t l n k (.ref (c - 5)) (.ref (c - 4)) (.ref (c - 3)) (.ref (c - 2)) (.ref (c - 1))
def Lj (c:Nat) (nm qn:Str) (t l n k:Nat):Obj:=Mj nm qn t l n k (.ref (c - 3)) (.ref (c - 2)) .none .none (.ref (c - 1))
def cA (c:Nat) (nm:Str) (t l n k:Nat):Obj:=Jh c nm nm t l n k
def cB (c:Nat) (nm:Str) (t l n k:Nat):Obj:=Lj c nm nm t l n k
def Hf (s:Stmt) (nm qn:Str) (pm:Value) (c:Addr):Obj:=⟨.type "function", none,.func (PySem.W.fnOf nm qn (hA s) (hB s) (hS s) .none .none .none pm none (.ref c) .none),#[]⟩
def fh (s:Stmt) (nm:Str) (pm:Value) (c:Addr):Obj:=Hf s nm nm pm c
def de (P:Params) (x:Str) (t:Tok) (v:Value):DictEntry:=⟨PyData.keyHash P x,.str x t,v⟩
def kE:Value:=.str "law_echohouse_k31_runs_by_tables" 653
def wX:Value:=.str "echohouse.systems" 555
def DY:Value:=.str "echohouse.fracs" 417
def KZ:Value:=.str "echohouse.divisors" 313
def qD:Value:=.str "echohouse.tables" 468
def md5:Value:=.str "echohouse.turns" 545
def kk (P:Params):PySem.W.Frag:=[
(3,⟨.type "dict", none,.dict #[de P "__name__" 165 (.str "law_echohouse_k31_runs_by_tables" 653),de P "__doc__" 166 (.none),de P "__package__" 167 (.none),de P "__loader__" 168 (.builtin "__main__.__loader__#opaque"),de P "__spec__" 169 (.none),de P "__annotations__" 170 (.ref 6),de P "__builtins__" 171 (.ref 4),de P "__file__" 173 (.str "/claim/cut.py" 172),de P "__cached__" 174 (.none),de P "_wall" 193 (.ref 21),de P "EchoError" 220 (.ref 38),de P "NoTable" 243 (.ref 58),de P "NoFit" 266 (.ref 77),de P "NoTurns" 289 (.ref 96),de P "TooMany" 312 (.ref 115),de P "SHORT" 316 (.int (4000) 315),de P "SHORT_HALF" 318 (.int (256) 317),de P "SHORT_QUOTIENT" 320 (.int (8000) 319),de P "common" 329 (.ref 124),de P "half" 341 (.ref 131),de P "stepped" 351 (.ref 138),de P "step" 366 (.ref 145),de P "upper_half" 383 (.ref 152),de P "factors_joined" 399 (.ref 159),de P "divided" 405 (.ref 164),de P "low_inverse" 416 (.ref 171),de P "NOUGHT" 421 (.ref 172),de P "is_whole" 428 (.ref 179),de P "is_fraction" 437 (.ref 186),de P "frac" 446 (.ref 193),de P "plus" 457 (.ref 200),de P "times" 467 (.ref 207),de P "is_row" 475 (.ref 212),de P "is_table" 481 (.ref 217),de P "weighed" 492 (.ref 224),de P "applied" 498 (.ref 229),de P "product" 504 (.ref 234),de P "lifted" 510 (.ref 239),de P "weighed_lifted" 516 (.ref 244),de P "shared_bottom" 526 (.ref 251),de P "raised" 532 (.ref 256),de P "turned" 538 (.ref 261),de P "widened" 544 (.ref 266),de P "MOST_TURNS" 548 (.int (60) 547),de P "refuse_run" 554 (.ref 271),de P "MOST_CELLS" 558 (.int (8) 557),de P "MOST_LINES" 560 (.int (2) 559),de P "System" 621 (.ref 319),de P "is_system" 634 (.ref 330),de P "run" 652 (.ref 337),de P "_law_cell" 662 (.ref 344),de P "_law_mixed" 671 (.ref 351),de P "_law_divisor" 679 (.ref 358),de P "_law_frac" 688 (.ref 365),de P "_law_numbers" 701 (.ref 372),de P "_law_rows" 707 (.ref 377),de P "_law_four" 721 (.ref 384),de P "_law_ints" 727 (.ref 389),de P "_law_dot" 733 (.ref 394),de P "_law_is" 739 (.ref 399),de P "_law_are" 750 (.ref 406),de P "_law_shape" 759 (.ref 413),de P "_law_tables" 772 (.ref 420),de P "_law_told" 778 (.ref 425),de P "_law_good" 784 (.ref 430),de P "law" 790 (.ref 435)] 66,#[]⟩),
(123,cA 123 "common" 321 29 2 327),
(124,fh (tp 11) "common" KZ 123),
(130,cA 130 "half" 330 38 2 339),
(131,fh (tp 12) "half" KZ 130),
(172,⟨.type "tuple", none,.seq #[.int (0) 419,.int (1) 420] 0,#[]⟩),
(178,cA 178 "is_whole" 422 92 1 426),
(179,fh (tp 21) "is_whole" DY 178),
(185,cA 185 "is_fraction" 429 94 1 435),
(186,fh (tp 22) "is_fraction" DY 185),
(192,cA 192 "frac" 438 99 2 444),
(193,fh (tp 23) "frac" DY 192),
(199,cA 199 "plus" 447 108 2 455),
(200,fh (tp 24) "plus" DY 199),
(206,cA 206 "times" 458 113 2 465),
(207,fh (tp 25) "times" DY 206),
(211,cB 211 "is_row" 470 118 2 473),
(212,fh (tp 27) "is_row" qD 211),
(216,cB 216 "is_table" 476 120 3 479),
(217,fh (tp 28) "is_table" qD 216),
(223,cA 223 "weighed" 482 122 2 490),
(224,fh (tp 29) "weighed" qD 223),
(228,cB 228 "applied" 493 127 2 496),
(229,fh (tp 30) "applied" qD 228),
(233,cB 233 "product" 499 129 3 502),
(234,fh (tp 31) "product" qD 233),
(238,cB 238 "lifted" 505 133 1 508),
(239,fh (tp 32) "lifted" qD 238),
(243,cB 243 "weighed_lifted" 511 136 2 514),
(244,fh (tp 33) "weighed_lifted" qD 243),
(250,cA 250 "shared_bottom" 517 142 1 524),
(251,fh (tp 34) "shared_bottom" qD 250),
(255,cB 255 "raised" 527 147 2 530),
(256,fh (tp 35) "raised" qD 255),
(260,cB 260 "turned" 533 149 2 536),
(261,fh (tp 36) "turned" qD 260),
(265,cB 265 "widened" 539 151 2 542),
(266,fh (tp 37) "widened" qD 265),
(270,cB 270 "refuse_run" 549 155 4 552),
(271,fh (tp 40) "refuse_run" md5 270),
(282,Lj 282 "__init__" "System.__init__" 573 167 5 576),
(283,Hf (tc 44 0) "__init__" "System.__init__" wX 282),
(289,Jh 289 "cells" "System.cells" 579 174 1 583),
(290,Hf (tc 44 1) "cells" "System.cells" wX 289),
(296,Jh 296 "ins" "System.ins" 586 177 1 590),
(297,Hf (tc 44 2) "ins" "System.ins" wX 296),
(303,Jh 303 "outs" "System.outs" 593 180 1 597),
(304,Hf (tc 44 3) "outs" "System.outs" wX 303),
(308,Lj 308 "tables" "System.tables" 600 183 1 603),
(309,Hf (tc 44 4) "tables" "System.tables" wX 308),
(315,Jh 315 "told" "System.told" 606 186 1 610),
(316,Hf (tc 44 5) "told" "System.told" wX 315),
(318,⟨.type "dict", none,.dict #[de P "__module__" 568 (.str "echohouse.systems" 555),de P "__firstlineno__" 572 (.int (165) 571),de P "__init__" 578 (.ref 283),de P "cells" 585 (.ref 290),de P "ins" 592 (.ref 297),de P "outs" 599 (.ref 304),de P "tables" 605 (.ref 309),de P "told" 612 (.ref 316),de P "__static_attributes__" 614 (.ref 317),de P "__dict__" 616 (.ref 320),de P "__weakref__" 618 (.ref 321),de P "__doc__" 619 (.none)] 4,#[]⟩),
(319,⟨.type "type", none,.cls ⟨"System", [.type "object"],[.ref 319,.type "object"],318, "System", true,[],[],false,none,false⟩,#[none,none,some (.str "System" 561),some (.str "System" 569),some (.builtin "object.__new__"),some (.bool true)]⟩),
(329,cA 329 "is_system" 622 188 4 632),
(330,fh (tp 45) "is_system" wX 329),
(336,cA 336 "run" 635 195 3 650),
(337,fh (tp 46) "run" wX 336),
(343,cA 343 "_law_cell" 655 206 2 660),
(344,fh (tp 48) "_law_cell" kE 343),
(350,cA 350 "_law_mixed" 663 210 2 669),
(351,fh (tp 49) "_law_mixed" kE 350),
(357,cA 357 "_law_divisor" 672 214 2 677),
(358,fh (tp 50) "_law_divisor" kE 357),
(364,cA 364 "_law_frac" 680 220 2 686),
(365,fh (tp 51) "_law_frac" kE 364),
(371,cA 371 "_law_numbers" 689 223 2 699),
(372,fh (tp 52) "_law_numbers" kE 371),
(376,cB 376 "_law_rows" 702 237 3 705),
(377,fh (tp 53) "_law_rows" kE 376),
(383,cA 383 "_law_four" 708 239 4 719),
(384,fh (tp 54) "_law_four" kE 383),
(388,cB 388 "_law_ints" 722 247 1 725),
(389,fh (tp 55) "_law_ints" kE 388),
(393,cB 393 "_law_dot" 728 249 2 731),
(394,fh (tp 56) "_law_dot" kE 393),
(398,cB 398 "_law_is" 734 251 3 737),
(399,fh (tp 57) "_law_is" kE 398),
(405,cA 405 "_law_are" 740 258 3 748),
(406,fh (tp 58) "_law_are" kE 405),
(412,cA 412 "_law_shape" 751 265 1 757),
(413,fh (tp 59) "_law_shape" kE 412),
(419,cA 419 "_law_tables" 760 271 2 770),
(420,fh (tp 60) "_law_tables" kE 419),
(424,cB 424 "_law_told" 773 279 3 776),
(425,fh (tp 61) "_law_told" kE 424),
(429,cB 429 "_law_good" 779 289 4 782),
(430,fh (tp 62) "_law_good" kE 429),
(434,cB 434 "law" 785 303 1 788),
(435,fh (tp 63) "law" kE 434)]
def ka:List Addr:=[3,123,124,130,131,172,178,179,185,186,192,193,199,200,206,207,211,212,216,217,223,224,228,229,233,234,238,239,243,244,250,251,255,256,260,261,265,266,270,271,282,283,289,290,296,297,303,304,308,309,315,316,318,319,329,330,336,337,343,344,350,351,357,358,364,365,371,372,376,377,383,384,388,389,393,394,398,399,405,406,412,413,419,420,424,425,429,430,434,435]
theorem MM (P:Params):ka=(kk P).map (·.1):=by kernel_rfl
abbrev hk:PySem.W.Hook:=PySem.W.kHook kk ka MM
abbrev xt (s:Shared):Bool:=PySem.W.xlAt qv [] s && PySem.W.recOk (PySem.W.RowW.records lw.row.toRowW) s
open PySem.W PySem.Calls in
def ef (tb:String -> Option Builtin) (p:Program) (w:World) (n₀:Nat) (ann:Option Value):Nat -> SharedT -> Thread -> Option SharedT
 | 0,_,_=>none
 | n + 1,s,t=>match through t with
  | true=>some s
  | false=>match stepOk n₀ ann t with
   | false=>none
   | true=>match stepT (denote tb) p w s t with
    | some (s',t')=>ef tb p w n₀ ann n s' t'
    | none=>none
open PySem.W PySem.Calls in
theorem rV {tb:String -> Option Builtin} {p:Program} {w:World} {n₀:Nat} {ann:Option Value}:∀ {n:Nat} {s:SharedT} {t:Thread} {r:SharedT},ef tb p w n₀ ann n s t=some r -> topRun tb p w n₀ ann n s.abs t=some r.abs
 | 0,_,_,_,e=>by simp [ef] at e
 | n + 1,s,t,r,e=>by
  rw [ef] at e
  rw [topRun]
  cases h1:through t with
  | true=>rw [h1] at e; cases e; rfl
  | false =>
   rw [h1] at e
   dsimp only at e ⊢
   cases h2:stepOk n₀ ann t with
   | false=>rw [h2] at e; cases e
   | true =>
    rw [h2] at e
    dsimp only at e ⊢
    cases h3:stepT (denote tb) p w s t with
    | none=>rw [h3] at e; cases e
    | some x =>
     obtain ⟨s',t'⟩:=x
     rw [h3] at e
     rw [stepT_spec h3]
     exact rV e
def bt (P:Params):PySem.W.BT:=((PySem.W.boot_heap P).objs.toList.foldl (fun (x:PySem.W.BT × Nat) o=>(x.1.ins x.2 o,x.2 + 1)) (PySem.W.BT.nil,0)).1
open PySem.W PySem.Calls in
theorem JS {p q:Program} {loose:List Str} {Xt:Shared -> Bool} {α:Type} {Yf:Shared -> α} {Ya:World -> α} {N:Nat} {g0:Bool} (he:opening p=plainProg p.main.scope.names) (hN:Nat.ble 600 N=true) (hf:∀ s,fenceModules? p s=some s)
  (h0:∀ P,absHeap (bt P) 11 {}=boot_heap P)
  (hz:∀ P,((boot_heap P).isNs mainGlobals,(boot_heap P).objs.size,(boot_heap P).nsMap mainGlobals (Str.ofString "__annotations__"))=(true,11,some (.ref 6)))
  (g1:∀ w:World,(fun os:OsState=>(ef treeTable p w 11 (some (.ref 6)) N ⟨bt w.params,11,{},#[],boot_drawn,boot_toks,os⟩ (topStub p)).map fun s=>staticsOk (importedModules p.main.body) (boot_heap w.params) s.abs.heap && namesBound p s.abs.heap && gensDone s.abs && laidKept (boot_heap w.params) s.abs.heap)=fun _=>some true)
  (g2:∀ w:World,(fun os:OsState=>(ef treeTable p w 11 (some (.ref 6)) N ⟨bt w.params,11,{},#[],boot_drawn,boot_toks,os⟩ (topStub p)).map fun s=>(openSeen q loose (importedModules p.main.body) Xt g0 s.abs).1)=fun _=>some (openGood q loose).1)
  (g4:∀ w:World,(fun os:OsState=>(ef treeTable p w 11 (some (.ref 6)) N ⟨bt w.params,11,{},#[],boot_drawn,boot_toks,os⟩ (topStub p)).map fun s=>(openSeen q loose (importedModules p.main.body) Xt g0 s.abs).2)=fun _=>some (openGood q loose).2)
  (g3:∀ w:World,(fun os:OsState=>(ef treeTable p w 11 (some (.ref 6)) N ⟨bt w.params,11,{},#[],boot_drawn,boot_toks,os⟩ (topStub p)).map fun s=>Yf s.abs)=fun _=>some (Ya w)) :
  LeftO p q loose Xt Yf Ya N g0:=by
 intro w
 have b:=boot_open (p:=p) (N:=N) he hN hf w
 cases c:fencedOpening treeTable p w N with
 | none=>rw [c] at b; cases b
 | some s =>
  rw [c] at b
  obtain ⟨hp,gs,dr,tk,os⟩:=s
  simp only [Option.map_some,Option.some.injEq,Prod.mk.injEq] at b
  obtain ⟨b1,b2,b3,b4⟩:=b
  subst b1 b2 b3 b4
  have g1:=congrFun (g1 w) os
  have g2:=congrFun (g2 w) os
  have g3:=congrFun (g3 w) os
  have g4:=congrFun (g4 w) os
  have z:=hz w.params
  simp only [Prod.mk.injEq] at z
  obtain ⟨z1,z2,z3⟩:=z
  unfold openEnds
  rw [c]
  simp only [Option.bind_some]
  unfold topFrom
  rw [z1,z2,z3]
  dsimp only [Bool.true_and]
  cases e:ef treeTable p w 11 (some (.ref 6)) N ⟨bt w.params,11,{},#[],boot_drawn,boot_toks,os⟩ (topStub p) with
  | none=>rw [e] at g1; cases g1
  | some r =>
   rw [e] at g1 g2 g3 g4
   have e':=rV e
   unfold SharedT.abs at e'
   rw [h0] at e'
   have:({ toList:=[] }:Array GenState).size == 0:=rfl
   rw [this]
   try dsimp only
   rw [e']
   simp only [Option.map_some,Option.some.injEq] at g1 g2 g3 g4
   have a1:=g1
   have a2:=Prod.ext g2 g4
   have a3:=g3
   unfold SharedT.abs at a1 a2 a3
   simp only [Option.bind_some]
   rw [a1]
   try dsimp only
   show some (_,_)=_
   rw [a2,a3]
theorem h0 (P:Params):PySem.W.absHeap (bt P) 11 {}=PySem.W.boot_heap P:=by kernel_rfl
set_option maxHeartbeats 0 in
open PySem.W PySem.Calls in
theorem zv (w:World):(fun os:OsState=>(ef treeTable lw.row.prog w 11 (some (.ref 6)) 6158 ⟨bt w.params,11,{},#[],boot_drawn,boot_toks,os⟩ (topStub lw.row.prog)).map fun s=>staticsOk (importedModules lw.row.prog.main.body) (boot_heap w.params) s.abs.heap && namesBound lw.row.prog s.abs.heap && gensDone s.abs && laidKept (boot_heap w.params) s.abs.heap)=fun _=>some true:=by kernel_rfl
set_option maxHeartbeats 0 in
open PySem.W PySem.Calls in
theorem JK (w:World):(fun os:OsState=>(ef treeTable lw.row.prog w 11 (some (.ref 6)) 6158 ⟨bt w.params,11,{},#[],boot_drawn,boot_toks,os⟩ (topStub lw.row.prog)).map fun s=>(openSeen qv [] (importedModules lw.row.prog.main.body) xt true s.abs).1)=fun _=>some (openGood qv []).1:=by kernel_rfl
set_option maxHeartbeats 0 in
open PySem.W PySem.Calls in
theorem KR (w:World):(fun os:OsState=>(ef treeTable lw.row.prog w 11 (some (.ref 6)) 6158 ⟨bt w.params,11,{},#[],boot_drawn,boot_toks,os⟩ (topStub lw.row.prog)).map fun s=>(openSeen qv [] (importedModules lw.row.prog.main.body) xt true s.abs).2)=fun _=>some (openGood qv []).2:=by kernel_rfl
set_option maxHeartbeats 0 in
open PySem.W PySem.Calls in
theorem ML (w:World):(fun os:OsState=>(ef treeTable lw.row.prog w 11 (some (.ref 6)) 6158 ⟨bt w.params,11,{},#[],boot_drawn,boot_toks,os⟩ (topStub lw.row.prog)).map fun s=>hk.obs s.abs)=fun _=>some (hk.val w):=by kernel_rfl
theorem hl:PySem.W.LeftO lw.row.prog qv [] xt hk.obs hk.val 6158:=JS (by kernel_rfl) (by kernel_rfl) (fun _=>by kernel_rfl) h0 (fun _=>by kernel_rfl) zv JK KR ML
theorem ws:lw.wellSaid=true:=by kernel_rfl
end My
namespace L2
open PySem PySem.Spec PyProof.Rows
abbrev Key:=Sum Int Str
def GH:Key -> Value -> Bool
 | .inl k,v=>Value.isInt k v
 | .inr x,v=>Value.isStrOf x v
def Lz (w:World):Key -> Int
 | .inl k=>hashInt k
 | .inr x=>hashStr w x
theorem cY:∀ {k:Key} {v:Value},GH k v=true -> (∃ i t,k=Sum.inl i /\ v=Value.int i t) \/ (∃ x t,k=Sum.inr x /\ v=Value.str x t)
 | .inl i,v,h=>by
  obtain ⟨t,e⟩:=Value.isInt_shape (k:=i) (v:=v) h
  exact .inl ⟨i,t,rfl,e⟩
 | .inr x,v,h=>by
  obtain ⟨t,e⟩:=Value.isStrOf_shape (x:=x) (v:=v) h
  exact .inr ⟨x,t,rfl,e⟩
theorem Hy (a b:Int):decide ((Sum.inl a:Key)=Sum.inl b)=(a == b):=by
 by_cases e:a=b
 ·subst e; simp
 ·have h:¬ (Sum.inl a:Key)=Sum.inl b:=fun q=>e (Sum.inl.inj q)
  rw [decide_eq_false h]
  exact (beq_eq_false_iff_ne.mpr e).symm
theorem HB (a b:Str):decide ((Sum.inr a:Key)=Sum.inr b)=decide (a=b):=by
 by_cases e:a=b
 ·subst e; simp
 ·have h:¬ (Sum.inr a:Key)=Sum.inr b:=fun q=>e (Sum.inr.inj q)
  rw [decide_eq_false h,decide_eq_false e]
theorem Hz (a:Int) (b:Str):decide ((Sum.inl a:Key)=Sum.inr b)=false:=decide_eq_false (fun q=>nomatch q)
theorem HA (a:Str) (b:Int):decide ((Sum.inr a:Key)=Sum.inl b)=false:=decide_eq_false (fun q=>nomatch q)
def tQ (prog:Program) (w:World):PySem.KeyKind prog w Key where
 is:=GH
 hash:=Lz w
 inj:=fun v a b ha hb=>by
  rcases cY ha with ⟨i,t,rfl,rfl⟩ | ⟨x,t,rfl,rfl⟩
  ·rcases cY hb with ⟨j,u,rfl,e⟩ | ⟨y,u,rfl,e⟩
   ·injection e with e1 _; rw [e1]
   ·exact nomatch e
  ·rcases cY hb with ⟨j,u,rfl,e⟩ | ⟨y,u,rfl,e⟩
   ·exact nomatch e
   ·injection e with e1 _; rw [e1]
 byValue:=fun k v h=>by
  rcases cY h with ⟨i,t,rfl,rfl⟩ | ⟨x,t,rfl,rfl⟩ <;> rfl
 pyHash:=fun hv h=>by
  rcases cY hv with ⟨i,t,rfl,rfl⟩ | ⟨x,t,rfl,rfl⟩
  ·exact wpAny_pyHash_int h
  ·exact wpAny_pyHash_str h
 eqBool:=fun hu hv h=>by
  rcases cY hu with ⟨i,t,rfl,rfl⟩ | ⟨x,t,rfl,rfl⟩
  ·rcases cY hv with ⟨j,u,rfl,rfl⟩ | ⟨y,u,rfl,rfl⟩
   ·rw [Hy] at h; exact wpAny_eqBool_int h
   ·rw [Hz] at h; exact SeqAt.EqAt.int_str i t y u _ _ _ _ h
  ·rcases cY hv with ⟨j,u,rfl,rfl⟩ | ⟨y,u,rfl,rfl⟩
   ·rw [HA] at h; exact SeqAt.EqAt.str_int x t j u _ _ _ _ h
   ·rw [HB] at h; exact wpAny_eqBool_str h
 «strs»:=fun k x t v h=>by
  rcases cY h with ⟨i,u,rfl,e⟩ | ⟨y,u,rfl,e⟩
  ·exact nomatch e
  ·injection e with e1 _
   subst e1
   cases v <;> rfl
open PySem PySem.Spec PyProof.Rows
inductive V where
 | non | bl (b:Bool) | int (i:Int) | str (x:Str) | byt (b:Array UInt8) | flt (b:UInt64) | ref (a:Addr) | ty (n:String)
 deriving DecidableEq
def RelV:V -> Value -> Prop
 | .non,u=>u=Value.none
 | .bl b,u=>u=Value.bool b
 | .int i,u=>∃ t,u=Value.int i t
 | .str x,u=>∃ t,u=Value.str x t
 | .byt b,u=>∃ t,u=Value.bytes b t
 | .flt b,u=>∃ t,u=Value.float b t
 | .ref a,u=>u=Value.ref a
 | .ty n,u=>u=Value.type n
abbrev Vals:List V -> List Value -> Prop:=Paired RelV
theorem Vals.length {xs:List V} {us:List Value} (r:Vals xs us):xs.length=us.length:=Paired.length r
theorem Vals.get:∀ {xs:List V} {us:List Value} {i:Nat} {x:V},Vals xs us -> xs[i]? = some x -> ∃ u,us[i]? = some u /\ RelV x u
 | _,_,_,_,.nil,e=>by simp at e
 | _,_,0,_,.cons r _,e=>by simp at e; subst e; exact ⟨_,rfl,r⟩
 | _,_,i + 1,x,.cons _ t,e=>by
  obtain ⟨u,h1,h2⟩:=Vals.get (i:=i) (x:=x) t (by simpa using e)
  exact ⟨u,by simpa using h1,h2⟩
theorem Vals.set {x:V} {u:Value} (r:RelV x u):∀ {xs:List V} {us:List Value} (i:Nat),Vals xs us -> Vals (xs.set i x) (us.set i u)
 | _,_,_,.nil=>.nil
 | _,_,0,.cons _ t=>.cons r t
 | _,_,i + 1,.cons q t=>.cons q (Vals.set r i t)
theorem Vals.append:∀ {xs ys:List V} {us ws:List Value},Vals xs us -> Vals ys ws -> Vals (xs ++ ys) (us ++ ws)
 | _,_,_,_,.nil,s=>s
 | _,_,_,_,.cons r t,s=>.cons r (Vals.append t s)
theorem Vals.take:∀ {xs:List V} {us:List Value} (n:Nat),Vals xs us -> Vals (xs.take n) (us.take n)
 | _,_,0,_=>.nil
 | _,_,_ + 1,.nil=>.nil
 | _,_,n + 1,.cons r t=>.cons r (Vals.take n t)
theorem Vals.drop:∀ {xs:List V} {us:List Value} (n:Nat),Vals xs us -> Vals (xs.drop n) (us.drop n)
 | _,_,0,r=>r
 | _,_,_ + 1,.nil=>.nil
 | _,_,n + 1,.cons _ t=>Vals.drop n t
theorem Vals.none_of:∀ {xs:List V} {us:List Value} {i:Nat},Vals xs us -> xs[i]? = none -> us[i]? = none:=fun {xs us i} r e=>by
 have h1:=r.length
 have h2:xs.length ≤ i:=List.getElem?_eq_none_iff.mp e
 exact List.getElem?_eq_none_iff.mpr (by omega)
def qH:Option V -> Option Value -> Prop
 | some v,some u=>RelV v u
 | none,none=>True
 | _,_=>False
def KV {κ:Type}:List (κ × V) -> List (κ × Value) -> Prop:=Paired fun (p:κ × V) (q:κ × Value)=>p.1=q.1 /\ RelV p.2 q.2
def kV:Key -> V
 | .inl i=>.int i
 | .inr x=>.str x
inductive HO where
  | lst (xs:List V)
  | tup (xs:List V)
  | dK (kvs:List (Key × V)) | dT (kvs:List (List Key × V))
  | set (S:Int -> Bool) (n:Nat)
  | ins (C dx:Addr) (fs:List (Str × V))
  | own (x:Addr)
  | xd (fs:List (Str × V))
  | met (f x:Addr)
  | rng (lo hi:Int)
  | frz (o:Obj) (u:HO)
  | tbl (ps:Array Value)
  | ext (φ:Heap -> Prop)
abbrev Hp:=Addr -> Option HO
def upd (H:Hp) (a:Addr) (o:HO):Hp:=fun b=>if b=a then some o else H b
theorem aN {H:Hp} {a:Addr} {o:HO}:upd H a o a=some o:=by unfold upd; rw [if_pos rfl]
theorem az {H:Hp} {a b:Addr} {o:HO} (h:b ≠ a):upd H a o b=H b:=by unfold upd; rw [if_neg h]
theorem bx {H:Hp} {a b:Addr} {o:HO} (h:H a=some o) (h':H b=none):a ≠ b:=by
 intro e; subst e; rw [h] at h'; cases h'
section
variable (P:Program) (w:World)
def fH (H:Hp) (h:Heap) (a:Addr):HO -> Prop
 | .lst xs=>xs.length ≤ sizeLine /\ ∃ (its:List Value) (n:Nat),Vals xs its /\ h.get? a=some { cls:=.type "list", data:=.seq its.toArray n }
 | .tup xs=>xs.length ≤ sizeLine /\ ∃ its:List Value,Vals xs its /\ IsTup h a its.toArray
 | .dK kvs=>kvs.length ≤ sizeLine /\ (a == sysModules)=false /\ ∃ vs,KV kvs vs /\ h.DictOf (tQ P w) a vs
 | .dT kvs=>kvs.length ≤ sizeLine /\ (a == sysModules)=false /\ ∃ xs:List (List Key × Addr × Value),
   Paired (fun (p:List Key × V) (q:List Key × Addr × Value)=>p.1=q.1 /\ H q.2.1=some (.tup (p.1.map kV)) /\ RelV p.2 q.2.2) kvs xs /\
   ∃ o es ep,h.get? a=some o /\ o.ExactDict /\ o.data=.dict es ep /\ es.toList=xs.map (entryOfKey (tupleKind (tQ P w))) /\ (xs.map (·.1)).Nodup
 | .set S n=>h.SetOf (intKind P w) a S n
 | .ins C dx fs=>H dx=some (.own a) /\ fs.length ≤ 1000 /\ dx ≠ a /\ h.get? a=some (PySem.W.instObj C dx) /\
   ∃ mA,h.Ns1 dx mA /\ (∀ f,qH (fs.lookup f) (mA f)) /\ PySem.Within mA (fs.map (·.1))
 | .own _=>∃ o,h.get? a=some o
 | .xd fs=>∃ mA,h.Ns1 a mA /\ ∀ f,qH (fs.lookup f) (mA f)
 | .rng lo hi=>∃ t u v,h.get? a=some { cls:=.type "range", data:=.fields #[.int lo t,.int hi u,.int 1 v] }
 | .frz o u=>h.get? a=some o /\ fH H h a u
 | .tbl ps=>h.get? a=some { cls:=.none,data:=.fields ps }
 | .met f x=>h.get? a=some (PySem.W.methodObj (.ref f) (.ref x))
 | .ext φ=>φ h /\ (∃ o,h.get? a=some o) /\ ∀ h1 h2:Heap,φ h1 -> (∀ o,h1.get? a=some o -> h2.get? a=some o) -> φ h2
def mQ (H:Hp) (h:Heap):Prop:=∀ a o,H a=some o -> fH P w H h a o
end
section
variable {P:Program} {w:World} {H H':Hp} {h h':Heap} {a:Addr} {o:HO}
theorem fH.lt (x:fH P w H h a o):a < h.objs.size:=by
 cases o with
 | lst xs=>obtain ⟨_,_,_,_,e⟩:=x; exact Heap.lt_size e
 | tup xs=>obtain ⟨_,_,_,p⟩:=x; exact p.lt
 | dK kvs=>obtain ⟨_,_,_,_,o,_,_,e,_⟩:=x; exact Heap.lt_size e
 | dT kvs=>obtain ⟨_,_,_,_,o,_,_,e,_⟩:=x; exact Heap.lt_size e
 | set S n=>obtain ⟨o,_,_,_,e,_⟩:=x; exact Heap.lt_size e
 | ins C dx fs=>obtain ⟨_,_,_,e,_⟩:=x; exact Heap.lt_size e
 | own y=>obtain ⟨_,e⟩:=x; exact Heap.lt_size e
 | xd fs=>obtain ⟨_,⟨_,_,_,e,_⟩,_⟩:=x; exact Heap.lt_size e
 | rng lo hi=>obtain ⟨_,_,_,e⟩:=x; exact Heap.lt_size e
 | frz ob u=>obtain ⟨e,_⟩:=x; exact Heap.lt_size e
 | tbl ps=>exact Heap.lt_size (show h.get? a=some _ from x)
 | met f y=>exact Heap.lt_size (show h.get? a=some _ from x)
 | ext φ=>obtain ⟨_,⟨_,e⟩,_⟩:=x; exact Heap.lt_size e
theorem Paired.mapP {α β:Type} {F G:α -> β -> Prop}:∀ {l₁:List α} {l₂:List β},Paired F l₁ l₂ -> (∀ a b,F a b -> G a b) -> Paired G l₁ l₂
 | _,_,.nil,_=>.nil
 | _,_,.cons r t,f=>.cons (f _ _ r) (Paired.mapP t f)
theorem fH.stay (x:fH P w H h a o) (k:∀ b u,(b=a \/ H b=some (.own a)) -> h.get? b=some u -> h'.get? b=some u)
  (ho:∀ b,H b=some (.own a) -> H' b=some (.own a)) (ht:∀ b xs,H b=some (.tup xs) -> H' b=some (.tup xs)):fH P w H' h' a o:=by
 induction o with
 | lst xs=>obtain ⟨z,its,n,r,e⟩:=x; exact ⟨z,its,n,r,k _ _ (.inl rfl) e⟩
 | tup xs=>obtain ⟨z,its,r,ob,e,c⟩:=x; exact ⟨z,its,r,ob,k _ _ (.inl rfl) e,c⟩
 | dK kvs=>obtain ⟨z,y,vs,r,ob,es,ep,e,c⟩:=x; exact ⟨z,y,vs,r,ob,es,ep,k _ _ (.inl rfl) e,c⟩
 | dT kvs =>
  obtain ⟨z,y,xs,r,ob,es,ep,e,c⟩:=x
  exact ⟨z,y,xs,Paired.mapP r fun p q z=>⟨z.1,ht _ _ z.2.1,z.2.2⟩,ob,es,ep,k _ _ (.inl rfl) e,c⟩
 | set S n=>obtain ⟨ob,es,ep,t,e,c⟩:=x; exact ⟨ob,es,ep,t,k _ _ (.inl rfl) e,c⟩
 | ins C dx fs =>
  obtain ⟨d,z,ne,e,mA,⟨od,es,ep,e2,c⟩,r⟩:=x
  exact ⟨ho _ d,z,ne,k _ _ (.inl rfl) e,mA,⟨od,es,ep,k _ _ (.inr d) e2,c⟩,r⟩
 | own y=>obtain ⟨ob,e⟩:=x; exact ⟨ob,k _ _ (.inl rfl) e⟩
 | xd fs=>obtain ⟨mA,⟨od,es,ep,e,c⟩,r⟩:=x; exact ⟨mA,⟨od,es,ep,k _ _ (.inl rfl) e,c⟩,r⟩
 | rng lo hi=>obtain ⟨t,u,v,e⟩:=x; exact ⟨t,u,v,k _ _ (.inl rfl) e⟩
 | frz ob u ih=>obtain ⟨e,q⟩:=x; exact ⟨k _ _ (.inl rfl) e,ih q⟩
 | tbl ps =>
  have e:h.get? a=some { cls:=.none,data:=.fields ps }:=x
  show h'.get? a=some { cls:=.none,data:=.fields ps }
  exact k a _ (.inl rfl) e
 | met f y =>
  have e:h.get? a=some (PySem.W.methodObj (.ref f) (.ref y)):=x
  show h'.get? a=some (PySem.W.methodObj (.ref f) (.ref y))
  exact k a _ (.inl rfl) e
 | ext φ=>obtain ⟨p,⟨o,e⟩,st⟩:=x; exact ⟨st _ _ p fun o q=>k _ _ (.inl rfl) q,⟨o,k _ _ (.inl rfl) e⟩,st⟩
theorem mQ.lt (x:mQ P w H h) (e:H a=some o):a < h.objs.size:=(x a o e).lt
theorem mQ.fresh (x:mQ P w H h) (e:h.objs.size ≤ a):H a=none:=by
 cases q:H a with
 | none=>rfl
 | some u=>exact absurd (Nat.lt_of_lt_of_le (x.lt q) e) (Nat.lt_irrefl _)
theorem mQ.kept (x:mQ P w H h) (k:∀ b u,h.get? b=some u -> h'.get? b=some u):mQ P w H h':=fun a o e =>
 (x a o e).stay (fun b u _ q=>k b u q) (fun _ q=>q) fun _ _ q=>q
theorem mQ.laid (x:mQ P w H h) (k:∀ b u,h.get? b=some u -> h'.get? b=some u) (hp:h.objs.size ≤ a) (new:fH P w (upd H a o) h' a o):mQ P w (upd H a o) h':=fun b u e=>by
 have hn:=x.fresh hp
 by_cases hb:b=a
 ·subst hb; rw [aN] at e; cases e; exact new
 ·rw [az hb] at e
  exact (x b u e).stay (fun c v _ q=>k c v q) (fun c q=>by rw [az (bx q hn)]; exact q) fun c xs q=>by rw [az (bx q hn)]; exact q
end
def Rd (H:Hp) (a:Addr) (u:HO):Prop:=H a=some u \/ ∃ o,H a=some (.frz o u)
theorem Rd.of {H:Hp} {a:Addr} {u:HO} (h:H a=some u):Rd H a u:=.inl h
theorem Rd.ok {P:Program} {w:World} {H:Hp} {h:Heap} {a:Addr} {u:HO} (r:Rd H a u) (x:mQ P w H h):fH P w H h a u:=by
 rcases r with r | ⟨o,r⟩
 ·exact x a u r
 ·obtain ⟨_,q⟩:=x a _ r
  exact q
def KJ:Option HO -> Prop
 | some (.lst _)=>True
 | some (.dK _)=>True
 | some (.dT _)=>True
 | some (.set _ _)=>True
 | some (.ins _ _ _)=>True
 | some (.ext _)=>True
 | _=>False
section
variable {P:Program} {w:World} {H:Hp} {h h':Heap} {x e:Addr} {o':HO}
theorem mQ.write (ok:mQ P w H h) (mu:KJ (H x)) (he:e=x \/ H e=some (.own x)) (k:∀ b u,b ≠ e -> h.get? b=some u -> h'.get? b=some u) (heo:∃ u,h'.get? e=some u)
  (new:fH P w (upd H x o') h' x o'):mQ P w (upd H x o') h':=fun b u q=>by
 have nown:∀ c y,H c=some (.own y) -> c ≠ x:=fun c y r z=>by subst z; rw [r] at mu; exact mu
 have ntup:∀ c xs,H c=some (.tup xs) -> c ≠ x:=fun c xs r z=>by subst z; rw [r] at mu; exact mu
 by_cases hb:b=x
 ·subst hb; rw [aN] at q; cases q; exact new
 ·rw [az hb] at q
  by_cases hbe:b=e
  ·have q':H b=some (.own x):=by
    rcases he with z | z
    ·exact absurd (hbe.trans z) hb
    ·rw [hbe]; exact z
   rw [q] at q'; cases q'
   obtain ⟨v,hv⟩:=heo
   exact ⟨v,by rw [hbe]; exact hv⟩
  ·refine (ok b u q).stay (fun c v hc r=>k c v ?_ r) (fun c r=>by rw [az (nown c b r)]; exact r) fun c xs r=>by rw [az (ntup c xs r)]; exact r
   rcases hc with rfl | hc
   ·exact hbe
   ·rintro rfl
    rcases he with z | z
    ·exact nown c b hc z
    ·rw [hc] at z; cases z; exact hb rfl
end
structure Un (fs ex:List Addr) (H H':Hp) (h h':Heap):Prop where
 keep:∀ b o,h.get? b=some o -> H b=none -> b ∉ fs -> b ∉ ex -> h'.get? b=some o
 slot:∀ b o,h.get? b=some o -> H b=none -> b ∈ fs -> b ∉ ex -> ∃ sl,h'.get? b=some { o with slots:=sl }
 free:∀ b o,h.get? b=some o -> H b=none -> b ∉ ex -> H' b=none
 there:∀ b o,h.get? b=some o -> b ∉ ex -> ∃ o',h'.get? b=some o'
 tups:∀ b xs,H b=some (.tup xs) -> H' b=some (.tup xs)
 frzs:∀ b o u,H b=some (.frz o u) -> H' b=some (.frz o u)
 tbls:∀ b ps,H b=some (.tbl ps) -> ∃ more,H' b=some (.tbl (ps ++ more))
section
variable {fs fs' ex ex':List Addr} {H H1 H2:Hp} {h h1 h2 h':Heap} {a x e:Addr} {o:HO}
theorem Un.any (u:Un fs ex H H1 h h1) {b:Addr} {ob:Obj} (q:h.get? b=some ob) (n:H b=none) (hx:b ∉ ex):∃ sl,h1.get? b=some { ob with slots:=sl }:=by
 by_cases hb:b ∈ fs
 ·exact u.slot b ob q n hb hx
 ·exact ⟨ob.slots,u.keep b ob q n hb hx⟩
theorem Un.trans (a:Un fs ex H H1 h h1) (b:Un fs ex H1 H2 h1 h2):Un fs ex H H2 h h2 where
 keep:=fun c ob q n hc hx=>b.keep c ob (a.keep c ob q n hc hx) (a.free c ob q n hx) hc hx
 slot:=fun c ob q n hc hx=>by
  obtain ⟨sl,e1⟩:=a.slot c ob q n hc hx
  obtain ⟨sl',e2⟩:=b.slot c _ e1 (a.free c ob q n hx) hc hx
  exact ⟨sl',e2⟩
 free:=fun c ob q n hx=>by
  obtain ⟨o',e1⟩:=a.there c ob q hx
  exact b.free c o' e1 (a.free c ob q n hx) hx
 there:=fun c ob q hx=>by
  obtain ⟨o',e1⟩:=a.there c ob q hx
  exact b.there c o' e1 hx
 tups:=fun c xs q=>b.tups c xs (a.tups c xs q)
 frzs:=fun c ob xs q=>b.frzs c ob xs (a.frzs c ob xs q)
 tbls:=fun c ps q=>by
  obtain ⟨m1,e1⟩:=a.tbls c ps q
  obtain ⟨m2,e2⟩:=b.tbls c _ e1
  exact ⟨m1 ++ m2,by rw [e2,Array.append_assoc]⟩
theorem Un.kept (k:∀ b u,h.get? b=some u -> h'.get? b=some u):Un fs ex H H h h':=
 ⟨fun b ob q _ _ _=>k b ob q,fun b ob q _ _ _=>⟨ob.slots,k b ob q⟩,fun _ _ _ n _=>n,fun b ob q _=>⟨ob,k b ob q⟩,fun _ _ q=>q,fun _ _ _ q=>q,fun _ ps q=>⟨#[],by rw [q]; simp⟩⟩
theorem Un.refl:Un fs ex H H h h:=Un.kept fun _ _ q=>q
theorem Un.laid (k:∀ b u,h.get? b=some u -> h'.get? b=some u) (hp:h.objs.size ≤ a) (hn:H a=none):Un fs ex H (upd H a o) h h' where
 keep:=fun b u q _ _ _=>k b u q
 slot:=fun b u q _ _ _=>⟨u.slots,k b u q⟩
 free:=fun b u q n _=>by rw [az (Nat.ne_of_lt (Nat.lt_of_lt_of_le (Heap.lt_size q) hp))]; exact n
 there:=fun b u q _=>⟨u,k b u q⟩
 tups:=fun b xs q=>by rw [az (bx q hn)]; exact q
 frzs:=fun b u xs q=>by rw [az (bx q hn)]; exact q
 tbls:=fun b ps q=>⟨#[],by rw [az (bx q hn),q]; simp⟩
theorem Un.write (mu:KJ (H x)) (he:e=x \/ H e=some (.own x)) (k:∀ b u,b ≠ e -> h.get? b=some u -> h'.get? b=some u) (heo:∃ u,h'.get? e=some u):Un fs ex H (upd H x o) h h':=by
 have hx:∀ b,H b=none -> b ≠ x:=fun b n z=>by subst z; rw [n] at mu; exact mu
 have hb:∀ b,H b=none -> b ≠ e:=fun b n z=>by
  subst z
  rcases he with r | r
  ·exact hx b n r
  ·rw [n] at r; cases r
 have hm:∀ b u,H b=some u -> ¬ KJ (some u) -> b ≠ x:=fun b u q nm z=>by subst z; rw [q] at mu; exact nm mu
 refine ⟨fun b u q n _ _=>k b u (hb b n) q,fun b u q n _ _=>⟨u.slots,k b u (hb b n) q⟩,fun b u q n _=>by rw [az (hx b n)]; exact n,fun b u q _=>?_,
  fun b xs q=>by rw [az (hm b _ q fun z=>z)]; exact q,fun b u xs q=>by rw [az (hm b _ q fun z=>z)]; exact q,fun b ps q=>⟨#[],by rw [az (hm b _ q fun z=>z),q]; simp⟩⟩
 by_cases hbe:b=e
 ·subst hbe; exact heo
 ·exact ⟨u,k b u hbe q⟩
theorem Un.mono (u:Un fs ex H H1 h h1) (hs:∀ b ∈ fs,b ∈ fs') (hx:∀ b ∈ ex,b ∈ ex'):Un fs' ex' H H1 h h1:=
 ⟨fun b ob q n hb he=>u.keep b ob q n (fun z=>hb (hs b z)) fun z=>he (hx b z),fun _ _ q n _ he=>u.any q n fun z=>he (hx _ z),fun b ob q n he=>u.free b ob q n fun z=>he (hx b z),fun b ob q he=>u.there b ob q fun z=>he (hx b z),u.tups,u.frzs,u.tbls⟩
end
def KC (h:Heap) (H:Hp):List Addr:=(List.range h.objs.size).filter fun a=>(H a).isSome
def sO (h:Heap) (H:Hp):Heap:=PySem.W.hideAll h (KC h H)
theorem AK (h:Heap) (H:Hp):(sO h H).objs.size=h.objs.size:=PySem.W.hideAll_size _ _
theorem Cu {h:Heap} {H:Hp} {b:Addr} {o:Obj} (e:h.get? b=some o) (n:H b=none):(sO h H).get? b=some o:=
 PySem.W.hideAll_get _ e fun hm=>by
  have q:(H b).isSome=true:=(List.mem_filter.mp hm).2
  rw [n] at q; simp at q
theorem EW {h:Heap} {H:Hp} {b:Addr} {o:Obj} (e:(sO h H).get? b=some o):h.get? b=some o /\ H b=none:=by
 have e':h.get? b=some o:=PySem.W.of_hideAll (KC h H) e
 refine ⟨e',?_⟩
 cases q:H b with
 | none=>rfl
 | some x =>
  have hm:b ∈ KC h H:=List.mem_filter.mpr ⟨List.mem_range.mpr (Heap.lt_size e'),by simp [q]⟩
  have z:(sO h H).get? b=none:=PySem.W.hideAll_none (KC h H) hm
  rw [z] at e; cases e
def D3 (g h:Heap) (L:Addr):List (Addr × Obj):=(List.range h.objs.size).filterMap fun a=>if a=L \/ (g.get? a).isSome=true then none else (h.get? a).map fun o=>(a,o)
def rest (g h:Heap) (L d:Addr):List (Addr × Obj):=(D3 g h L).filter fun p=>decide (p.1 ≠ d)
open PySem PySem.Spec PyProof.Rows
structure Mod (K:PySem.W.Frag) (mg:Str -> Option Value) (base:Heap):Prop where
 kin:K.In base
 glob:base.Ns mainGlobals mg
 blt:∃ mb,base.Ns builtinsNs mb /\ ∀ x:Str,x ≠ "__name__" -> mb x=bootBuiltins x
 nolimit:base.NoLimit
structure Cx where
 prog:Program
 w:World
 K:PySem.W.Frag
 mg:Str -> Option Value
 base:Heap
 A:Around
 N:List Str
 s₀:Shared
 H₀:Hp
 env:Env
 outer:List Env
 stack:List Env
 ex:List Addr
 fn:Str -> Bool
 calm:Bool
 pn:List (Addr × Obj)
 xe:Value -> Shared -> Prop
def xC (l:List Env):List Addr:=l.filterMap (·.frame)
abbrev Cx.fs (X:Cx):List Addr:=xC X.outer
def Jc (sc:Scope) (x:Str):Prop:=sc.names.lookup x=some .local \/ sc.names.lookup x=some .cell \/ sc.names.lookup x=some .free
def Loc (sc:Scope) (x:Str):Prop:=sc.names.lookup x=some .local \/ sc.names.lookup x=some .cell
def Look (env:Env) (h:Heap) (m:Str -> Option Value) (x:Str) (u:Value):Prop:=
 (env.kindOf x=some .local /\ m x=some u) \/ ((env.kindOf x=some .cell \/ env.kindOf x=some .free) /\ ∃ c,env.cells.lookup x=some c /\ h.IsCell c (some u))
structure Cx.Ok (X:Cx):Prop where
 mod:Mod X.K X.mg X.base
 kind:X.env.scope.kind=.function
 glob:X.env.globals=mainGlobals
 blt:X.env.builtins=builtinsNs
 above:X.s₀.heap.objs.size ≤ X.env.locals
 inj:∀ x y c,X.env.cells.lookup x=some c -> X.env.cells.lookup y=some c -> x=y
 has:∀ x,(X.env.kindOf x=some .cell \/ X.env.kindOf x=some .free) -> ∃ c,X.env.cells.lookup x=some c
 cab:∀ x c,X.fn x=true -> X.env.cells.lookup x=some c -> X.s₀.heap.objs.size ≤ c
 hd:X.calm=true -> X.A.handled=none
 frames:X.A.frames=some X.stack
 stk:X.stack=X.outer \/ (X.stack=X.env :: X.outer /\ X.env.frame=some X.env.locals)
 exf:∀ b ∈ X.ex,b ≠ X.env.locals /\ ∀ x c,X.env.cells.lookup x=some c -> c ≠ b
 bs:∀ b o,X.base.get? b=some o -> X.s₀.heap.get? b=some o /\ X.H₀ b=none
 bsz:X.base.objs.size ≤ X.s₀.heap.objs.size
 noex:∀ b o,X.base.get? b=some o -> b ∉ X.ex
 exfs:∀ b ∈ X.ex,b ∉ X.fs
 funs:X.s₀.heap.FunFrames X.base X.outer
 frf:∀ b ∈ X.fs,X.H₀ b=none
structure Inv (X:Cx) (pins:List (Addr × Obj)) (σ:List (Option V)) (H:Hp) (s:Shared):Prop where
 ok:X.Ok
 os:s.os=X.s₀.os
 bare:AllBare s.gens
 base:Un X.fs X.ex X.H₀ H X.s₀.heap s.heap
 loc:∃ m,s.heap.Ns X.env.locals m /\ ∀ (i:Nat) (x:Str) (v:V),X.N[i]? = some x -> σ[i]? = some (some v) -> Jc X.env.scope x -> ∃ u,RelV v u /\ Look X.env s.heap m x u
 cell:∀ x c,X.env.cells.lookup x=some c -> ∃ v,s.heap.IsCell c v
 free:H X.env.locals=none
 freeC:∀ x c,X.env.cells.lookup x=some c -> H c=none
 pin:∀ p ∈ X.pn ++ pins,s.heap.get? p.1=some p.2 /\ H p.1=none /\ p.1 ≠ X.env.locals /\ p.1 ∉ X.fs /\ ∀ v,p.2.data ≠ .cell v
 hok:mQ X.prog X.w H s.heap
 len:σ.length=X.N.length
section
variable {X:Cx} {pins:List (Addr × Obj)} {σ:List (Option V)} {H H':Hp} {s:Shared} {h':Heap}
theorem Cx.Ok.nofr (ok:X.Ok) {b:Addr} {o:Obj} (e:X.base.get? b=some o):b ∉ X.fs:=fun hb=>by
 have:=(ok.funs.mem hb).1
 rw [e] at this; cases this
theorem Inv.bs (I:Inv X pins σ H s):∀ b o,X.base.get? b=some o -> s.heap.get? b=some o /\ H b=none:=fun b o e =>
 ⟨I.base.keep b o (I.ok.bs b o e).1 (I.ok.bs b o e).2 (I.ok.nofr e) (I.ok.noex b o e),I.base.free b o (I.ok.bs b o e).1 (I.ok.bs b o e).2 (I.ok.noex b o e)⟩
theorem Inv.bk (I:Inv X pins σ H s):∀ b o,X.base.get? b=some o -> s.heap.get? b=some o:=fun b o e=>(I.bs b o e).1
theorem Inv.mod (I:Inv X pins σ H s):Mod X.K X.mg X.base:=I.ok.mod
theorem Inv.kIn (I:Inv X pins σ H s):X.K.In s.heap:=I.ok.mod.kin.keeps I.bk
theorem Inv.nolimit (I:Inv X pins σ H s):s.heap.NoLimit:=I.ok.mod.nolimit.keeps I.bk
theorem Inv.fr (I:Inv X pins σ H s):∃ m,Fr X.base X.env.locals s.heap m:=
 let ⟨m,hn,_⟩:=I.loc
 ⟨m,hn,I.bk,Nat.le_trans I.ok.bsz I.ok.above⟩
theorem Inv.lt (I:Inv X pins σ H s):X.env.locals < s.heap.objs.size:=let ⟨_,hn,_⟩:=I.loc; hn.lt
theorem Inv.sz (I:Inv X pins σ H s):X.s₀.heap.objs.size ≤ s.heap.objs.size:=Nat.le_trans I.ok.above (Nat.le_of_lt I.lt)
theorem Inv.nofs (I:Inv X pins σ H s) {a:Addr} (h:s.heap.objs.size ≤ a):a ∉ X.fs:=fun hb=>by
 obtain ⟨_,o,ho,_⟩:=I.ok.funs.mem hb
 exact absurd (Nat.lt_of_lt_of_le (Heap.lt_size ho) (Nat.le_trans I.sz h)) (Nat.lt_irrefl _)
theorem Inv.cne (I:Inv X pins σ H s):∀ x c,X.env.cells.lookup x=some c -> c ≠ X.env.locals:=fun x c e z=>by
 obtain ⟨v,o,ho,hd⟩:=I.cell x c e
 obtain ⟨m,⟨o',es,ep,ho',hd',_⟩,_⟩:=I.loc
 rw [z,ho'] at ho; cases ho; rw [hd'] at hd; cases hd
theorem Inv.funs (I:Inv X pins σ H s):s.heap.FunFrames X.base X.outer:=by
 have all:∀ (l:List Env),(∀ b ∈ xC l,b ∈ X.fs) -> X.s₀.heap.FunFrames X.base l -> s.heap.FunFrames X.base l:=by
  intro l
  induction l with
  | nil=>intro _ _; trivial
  | cons env r ih =>
   intro hs hl
   obtain ⟨hk,⟨L,o,hf,hn,ho,hd⟩,hr⟩:=hl
   have hL:L ∈ X.fs:=hs L (by unfold xC; rw [List.filterMap_cons,hf]; exact List.mem_cons_self)
   obtain ⟨sl,e⟩:=I.base.slot L o ho (I.ok.frf L hL) hL fun z=>I.ok.exfs L z hL
   exact ⟨hk,⟨L,_,hf,hn,e,hd⟩,ih (fun b hb=>hs b (by unfold xC; rw [List.filterMap_cons,hf]; exact List.mem_cons_of_mem _ hb)) hr⟩
 exact all X.outer (fun _ hb=>hb) I.ok.funs
theorem Inv.stack (I:Inv X pins σ H s):s.heap.FunFrames X.base X.stack:=by
 rcases I.ok.stk with e | ⟨e,hf⟩
 ·rw [e]; exact I.funs
 ·rw [e]
  obtain ⟨m,hn,_⟩:=I.loc
  refine .cons (by rw [I.ok.kind]; decide) hf hn ?_ I.funs
  exact Heap.get?_none_of_le (Nat.le_trans I.ok.bsz I.ok.above)
theorem Inv.stkSub (I:Inv X pins σ H s):∀ b ∈ xC X.stack,b ∈ X.env.locals :: X.fs:=fun b hb=>by
 rcases I.ok.stk with e | ⟨e,hf⟩
 ·rw [e] at hb; exact List.mem_cons_of_mem _ hb
 ·rw [e] at hb
  unfold xC at hb
  rw [List.filterMap_cons,hf] at hb
  exact hb
theorem Inv.stkFree (I:Inv X pins σ H s):∀ b ∈ xC X.stack,H b=none:=fun b hb=>by
 rcases List.mem_cons.mp (I.stkSub b hb) with e | hb
 ·rw [e]; exact I.free
 ·obtain ⟨_,o,ho,_⟩:=I.ok.funs.mem hb
  exact I.base.free b o ho (I.ok.frf b hb) fun z=>I.ok.exfs b z hb
theorem Inv.step {g':Array GenState} {t':Nat} {d':Drawn} {ch:List Addr} (I:Inv X pins σ H s)
  (hch:∀ b ∈ ch,(b ∈ X.ex \/ X.s₀.heap.objs.size ≤ b) /\ b ≠ X.env.locals /\ (∀ x c,X.env.cells.lookup x=some c -> c ≠ b) /\ ∀ p ∈ X.pn ++ pins,p.1 ≠ b)
  (keep:∀ b o,b ≠ X.env.locals -> b ∉ X.fs -> b ∉ ch -> s.heap.get? b=some o -> H b=none -> h'.get? b=some o)
  (slot:∀ b o,b ≠ X.env.locals -> b ∈ X.fs -> b ∉ ch -> s.heap.get? b=some o -> H b=none -> ∃ sl,h'.get? b=some { o with slots:=sl }) (free:∀ b o,b ∉ ch -> s.heap.get? b=some o -> H b=none -> H' b=none)
  (there:∀ b o,b ∉ ch -> s.heap.get? b=some o -> ∃ o',h'.get? b=some o')
  (tups:∀ b xs,H b=some (.tup xs) -> H' b=some (.tup xs)) (frzs:∀ b o u,H b=some (.frz o u) -> H' b=some (.frz o u)) (tbls:∀ b ps,H b=some (.tbl ps) -> ∃ more,H' b=some (.tbl (ps ++ more)))
  (ns:∀ m,s.heap.Ns X.env.locals m -> h'.Ns X.env.locals m) (hok:mQ X.prog X.w H' h') (hg:AllBare g') :
  Inv X pins σ H' { s with heap:=h',gens:=g',drawn:=d',toks:=t' }:=by
 have neL:∀ b o,X.s₀.heap.get? b=some o -> b ≠ X.env.locals:=fun b o e=>Nat.ne_of_lt (Nat.lt_of_lt_of_le (Heap.lt_size e) I.ok.above)
 have neC:∀ b o,X.s₀.heap.get? b=some o -> b ∉ X.ex -> b ∉ ch:=fun b o e hx hb=>by
  rcases (hch b hb).1 with z | z
  ·exact hx z
  ·exact absurd (Nat.lt_of_lt_of_le (Heap.lt_size e) z) (Nat.lt_irrefl _)
 have cellK:∀ x c,X.env.cells.lookup x=some c -> ∀ v,s.heap.IsCell c v -> h'.IsCell c v:=fun x c e v hq__=>by
  obtain ⟨o,ho,hd⟩:=hq__
  have nch:c ∉ ch:=fun z=>(hch c z).2.2.1 x c e rfl
  by_cases hc:c ∈ X.fs
  ·obtain ⟨sl,q⟩:=slot c o (I.cne x c e) hc nch ho (I.freeC x c e)
   exact ⟨_,q,hd⟩
  ·exact ⟨o,keep c o (I.cne x c e) hc nch ho (I.freeC x c e),hd⟩
 refine ⟨I.ok,I.os,hg,⟨fun b o e n hb hx=>?_,fun b o e n hb hx=>?_,fun b o e n hx=>?_,fun b o e hx=>?_,fun b xs e=>tups b xs (I.base.tups b xs e),fun b o xs e=>frzs b o xs (I.base.frzs b o xs e),fun b ps e=>?_⟩,?_,fun x c e=>?_,?_,fun x c e=>?_,fun p hp=>?_,hok,I.len⟩
 ·exact keep b o (neL b o e) hb (neC b o e hx) (I.base.keep b o e n hb hx) (I.base.free b o e n hx)
 ·obtain ⟨sl,e1⟩:=I.base.slot b o e n hb hx
  obtain ⟨sl',e2⟩:=slot b _ (neL b o e) hb (neC b o e hx) e1 (I.base.free b o e n hx)
  exact ⟨sl',e2⟩
 ·obtain ⟨o',e1⟩:=I.base.there b o e hx
  exact free b o' (neC b o e hx) e1 (I.base.free b o e n hx)
 ·obtain ⟨o',e1⟩:=I.base.there b o e hx
  exact there b o' (neC b o e hx) e1
 ·obtain ⟨m1,e1⟩:=I.base.tbls b ps e
  obtain ⟨m2,e2⟩:=tbls b _ e1
  exact ⟨m1 ++ m2,by rw [e2,Array.append_assoc]⟩
 ·obtain ⟨m,hn,hl⟩:=I.loc
  refine ⟨m,ns m hn,fun i x v e1 e2 e3=>?_⟩
  obtain ⟨u,r,l⟩:=hl i x v e1 e2 e3
  refine ⟨u,r,?_⟩
  rcases l with l | ⟨k,c,e,z⟩
  ·exact .inl l
  ·exact .inr ⟨k,c,e,cellK x c e _ z⟩
 ·obtain ⟨v,z⟩:=I.cell x c e
  exact ⟨v,cellK x c e v z⟩
 ·obtain ⟨m,⟨o,_,_,ho,_⟩,_⟩:=I.loc
  exact free _ o (fun z=>(hch _ z).2.1 rfl) ho I.free
 ·obtain ⟨v,o,ho,hd⟩:=I.cell x c e
  exact free c o (fun z=>(hch c z).2.2.1 x c e rfl) ho (I.freeC x c e)
 ·obtain ⟨e,n,ne,nf,d⟩:=I.pin p hp
  have nch:p.1 ∉ ch:=fun z=>(hch p.1 z).2.2.2 p hp rfl
  exact ⟨keep p.1 p.2 ne nf nch e n,free p.1 p.2 nch e n,ne,nf,d⟩
theorem Inv.un {t':Nat} (I:Inv X pins σ H s) (u:Un X.fs [] H H' s.heap h') (hok:mQ X.prog X.w H' h'):Inv X pins σ H' { s with heap:=h',toks:=t' }:=by
 obtain ⟨m,⟨o,es,ep,ho,r⟩,_⟩:=id I.loc
 obtain ⟨sl,hL⟩:=u.any ho I.free (by simp)
 exact I.step (g':=s.gens) (d':=s.drawn) (ch:=[]) (fun _ z=>nomatch z) (fun b o _ hb _ e n=>u.keep b o e n hb (by simp)) (fun b o _ hb _ e n=>u.slot b o e n hb (by simp)) (fun b o _ e n=>u.free b o e n (by simp)) (fun b o _ e=>u.there b o e (by simp)) u.tups u.frzs u.tbls (fun m' hm=>by
  obtain ⟨o',es',ep',ho',r'⟩:=hm
  rw [ho] at ho'; cases ho'
  exact ⟨_,es',ep',hL,r'⟩) hok I.bare
theorem Inv.call {g':Array GenState} {t':Nat} {d':Drawn} {ch:List Addr} (I:Inv X pins σ H s) (u:Un (xC X.stack) ch H H' s.heap h') (hok:mQ X.prog X.w H' h') (hg:AllBare g')
  (hch:∀ b ∈ ch,(b ∈ X.ex \/ X.s₀.heap.objs.size ≤ b) /\ b ≠ X.env.locals /\ (∀ x c,X.env.cells.lookup x=some c -> c ≠ b) /\ ∀ p ∈ X.pn ++ pins,p.1 ≠ b) :
  Inv X pins σ H' { s with heap:=h',gens:=g',drawn:=d',toks:=t' }:=by
 obtain ⟨m,⟨o,es,ep,ho,r⟩,_⟩:=id I.loc
 obtain ⟨sl,hL⟩:=u.any ho I.free fun z=>(hch _ z).2.1 rfl
 exact I.step (ch:=ch) hch (fun b o hL hb hc e n=>u.keep b o e n (fun z=>(List.mem_cons.mp (I.stkSub b z)).elim hL hb) hc) (fun b o _ _ hc e n=>u.any e n hc) (fun b o hc e n=>u.free b o e n hc) (fun b o hc e=>u.there b o e hc) u.tups u.frzs u.tbls (fun m' hm=>by
  obtain ⟨o',es',ep',ho',r'⟩:=hm
  rw [ho] at ho'; cases ho'
  exact ⟨_,es',ep',hL,r'⟩) hok hg
theorem Inv.turned {t':Nat} {it:Addr} (I:Inv X pins σ H s) (k:∀ b o,b ≠ it -> s.heap.get? b=some o -> h'.get? b=some o) (hn:H it=none) (hL:it ≠ X.env.locals)
  (h1:it ∈ X.ex \/ X.s₀.heap.objs.size ≤ it) (h2:∀ x c,X.env.cells.lookup x=some c -> c ≠ it) (h3:∀ p ∈ X.pn ++ pins,p.1 ≠ it):Inv X pins σ H { s with heap:=h',toks:=t' }:=by
 have nit:∀ b u,H b=some u -> b ≠ it:=fun b u e z=>by rw [z,hn] at e; cases e
 refine I.step (g':=s.gens) (d':=s.drawn) (ch:=[it]) (fun b hb=>?_) (fun b o _ _ hc e _=>k b o (fun z=>hc (by simp [z])) e) (fun b o _ _ hc e _=>⟨o.slots,k b o (fun z=>hc (by simp [z])) e⟩) (fun _ _ _ _ n=>n)
  (fun b o hc e=>⟨o,k b o (fun z=>hc (by simp [z])) e⟩) (fun _ _ e=>e) (fun _ _ _ e=>e) (fun b ps e=>⟨#[],by rw [e]; simp⟩) (fun m hm=>?_) (fun b u e=>?_) I.bare
 ·have e:b=it:=by simpa using hb
  subst e
  exact ⟨h1,hL,h2,h3⟩
 ·obtain ⟨o,es,ep,ho,r⟩:=hm
  exact ⟨o,es,ep,k _ o (Ne.symm hL) ho,r⟩
 ·refine (I.hok b u e).stay (fun c v hc q=>k c v ?_ q) (fun _ q=>q) fun _ _ q=>q
  rcases hc with z | z
  ·rw [z]; exact nit b u e
  ·exact nit c _ z
theorem Inv.tok (I:Inv X pins σ H s) (t:Nat):Inv X pins σ H { s with toks:=t }:=I.un (h':=s.heap) (t':=t) Un.refl I.hok
theorem Inv.kept {t':Nat} (I:Inv X pins σ H s) (k:∀ b u,s.heap.get? b=some u -> h'.get? b=some u):Inv X pins σ H { s with heap:=h',toks:=t' }:=I.un (Un.kept k) (I.hok.kept k)
theorem Inv.laid {a:Addr} {o:HO} {t':Nat} (I:Inv X pins σ H s) (k:∀ b u,s.heap.get? b=some u -> h'.get? b=some u) (hp:s.heap.objs.size ≤ a) (new:fH X.prog X.w (upd H a o) h' a o) :
  Inv X pins σ (upd H a o) { s with heap:=h',toks:=t' }:=I.un (Un.laid k hp (I.hok.fresh hp)) (I.hok.laid k hp new)
theorem Inv.write {x e:Addr} {o:HO} {t':Nat} (I:Inv X pins σ H s) (mu:KJ (H x)) (he:e=x \/ H e=some (.own x)) (k:∀ b u,b ≠ e -> s.heap.get? b=some u -> h'.get? b=some u) (heo:∃ u,h'.get? e=some u)
  (new:fH X.prog X.w (upd H x o) h' x o):Inv X pins σ (upd H x o) { s with heap:=h',toks:=t' }:=I.un (Un.write mu he k heo) (I.hok.write mu he k heo new)
theorem Inv.weak {σ':List (Option V)} (I:Inv X pins σ H s) (hl:σ'.length=σ.length) (w:∀ (i:Nat) v,σ'[i]? = some (some v) -> σ[i]? = some (some v)):Inv X pins σ' H s:=
 ⟨I.ok,I.os,I.bare,I.base,let ⟨m,hn,hl'⟩:=I.loc; ⟨m,hn,fun i x v e1 e2 e3=>hl' i x v e1 (w i v e2) e3⟩,I.cell,I.free,I.freeC,I.pin,I.hok,hl.trans I.len⟩
theorem Inv.pins_of {pins':List (Addr × Obj)} (I:Inv X pins σ H s) (h:∀ p ∈ pins',s.heap.get? p.1=some p.2 /\ H p.1=none /\ p.1 ≠ X.env.locals /\ p.1 ∉ X.fs /\ ∀ v,p.2.data ≠ .cell v):Inv X pins' σ H s:=
 ⟨I.ok,I.os,I.bare,I.base,I.loc,I.cell,I.free,I.freeC,fun p hp=>(List.mem_append.mp hp).elim (fun z=>I.pin p (List.mem_append_left _ z)) (h p),I.hok,I.len⟩
theorem vV {N:List Str} (hN:N.Nodup) {i j:Nat} {x:Str} (a:N[i]? = some x) (b:N[j]? = some x):i=j:=by
 obtain ⟨h1,e1⟩:=List.getElem?_eq_some_iff.mp a
 obtain ⟨h2,e2⟩:=List.getElem?_eq_some_iff.mp b
 exact (List.getElem_inj hN).mp (e1.trans e2.symm)
theorem nI {M:Model} {A:Around} {E:Value -> Shared -> Prop} {i:Nat} {x:Str} {v:V} {u:Value} {Q:Unit -> Shared -> Prop} (I:Inv X pins σ H s) (hN:X.N.Nodup) (hi:X.N[i]? = some x) (hx:Loc X.env.scope x) (r:RelV v u)
  (h:∀ s',Inv X pins (σ.set i (some v)) H s' -> (∃ a,Heap.SameBut a s.heap s'.heap /\ (a=X.env.locals \/ X.env.cells.lookup x=some a)) -> Q () s') (hf:X.fn x=true \/ X.env.scope.names.lookup x=some .local:=by first | exact .inl rfl | exact .inr rfl | assumption):wpAny M A (storeName X.env x u) Q E s:=by
 obtain ⟨m,hn,hl⟩:=id I.loc
 have hcls:(X.env.scope.kind == .class || (X.env.scope.kind == .module && X.env.locals != X.env.globals))=false:=by rw [I.ok.kind]; rfl
 have hiσ:i < σ.length:=by rw [I.len]; exact (List.getElem?_eq_some_iff.mp hi).1
 have cne:=I.cne
 have tracked:∀ {a:Addr} {h':Heap},(∃ o,s.heap.get? a=some o /\ H a=none) -> Heap.SameBut a s.heap h' -> mQ X.prog X.w H h':=fun {a h'} ha hs b ob e=>by
  obtain ⟨_,_,hfree⟩:=ha
  refine (I.hok b ob e).stay (fun c w' hc q=>(hs.2 c ?_).trans q) (fun _ q=>q) fun _ _ q=>q
  rintro rfl
  rcases hc with rfl | hc
  ·rw [hfree] at e; cases e
  ·rw [hfree] at hc; cases hc
 rcases hx with hk | hk
 ·refine wpAny_storeName_local hk hn (fun h' hn' hs=>?_) hcls
  obtain ⟨oL,_,_,hoL,_⟩:=id hn
  refine h _ ⟨I.ok,I.os,I.bare,⟨fun b o e n hb hx=>?_,fun b o e n hb hx=>?_,I.base.free,fun b o e hx=>?_,I.base.tups,I.base.frzs,I.base.tbls⟩,⟨_,hn',fun j y v' e1 e2 e3=>?_⟩,fun y c e=>?_,I.free,I.freeC,fun p hp=>?_,tracked ⟨oL,hoL,I.free⟩ hs,by simpa using I.len⟩ ⟨_,hs,.inl rfl⟩
  ·exact (hs.2 b (Nat.ne_of_lt (Nat.lt_of_lt_of_le (Heap.lt_size e) I.ok.above))).trans (I.base.keep b o e n hb hx)
  ·obtain ⟨sl,e1⟩:=I.base.slot b o e n hb hx
   exact ⟨sl,(hs.2 b (Nat.ne_of_lt (Nat.lt_of_lt_of_le (Heap.lt_size e) I.ok.above))).trans e1⟩
  ·obtain ⟨o',e1⟩:=I.base.there b o e hx
   exact ⟨o',(hs.2 b (Nat.ne_of_lt (Nat.lt_of_lt_of_le (Heap.lt_size e) I.ok.above))).trans e1⟩
  ·by_cases hj:j=i
   ·subst hj
    rw [hi] at e1; cases e1
    rw [List.getElem?_set_self hiσ] at e2
    cases e2
    exact ⟨u,r,.inl ⟨hk,by simp⟩⟩
   ·rw [List.getElem?_set_ne (Ne.symm hj)] at e2
    obtain ⟨u',r',q⟩:=hl j y v' e1 e2 e3
    refine ⟨u',r',?_⟩
    rcases q with ⟨k,e⟩ | ⟨k,c,e,z⟩
    ·refine .inl ⟨k,?_⟩
     have:y ≠ x:=fun e=>hj (vV hN e1 (e ▸ hi))
     simp [this,e]
    ·exact .inr ⟨k,c,e,z.sameBut hs (cne y c e)⟩
  ·obtain ⟨w',z⟩:=I.cell y c e
   exact ⟨w',z.sameBut hs (cne y c e)⟩
  ·obtain ⟨e,n,ne,nf,d⟩:=I.pin p hp
   exact ⟨(hs.2 p.1 ne).trans e,n,ne,nf,d⟩
 ·have hfn:X.fn x=true:=by
   rcases hf with z | z
   ·exact z
   ·rw [z] at hk; cases hk
  obtain ⟨c,hc⟩:=I.ok.has x (.inl hk)
  obtain ⟨w',z⟩:=I.cell x c hc
  refine wpAny_storeName_cell I.ok.kind hk hc z (fun h' hc' hs=>?_)
  obtain ⟨oc,hoc,hocd⟩:=id z
  refine h { s with heap:=h' } ⟨I.ok,I.os,I.bare,⟨fun b o e n hb hx=>?_,fun b o e n hb hx=>?_,I.base.free,fun b o e hx=>?_,I.base.tups,I.base.frzs,I.base.tbls⟩,⟨m,hn.sameBut hs (Ne.symm (cne x c hc)),fun j y v' e1 e2 e3=>?_⟩,fun y c' e=>?_,I.free,I.freeC,fun p hp=>?_,tracked ⟨oc,hoc,I.freeC x c hc⟩ hs,by simpa using I.len⟩ ⟨c,hs,.inr hc⟩
  ·exact (hs.2 b (Nat.ne_of_lt (Nat.lt_of_lt_of_le (Heap.lt_size e) (I.ok.cab x c hfn hc)))).trans (I.base.keep b o e n hb hx)
  ·obtain ⟨sl,e1⟩:=I.base.slot b o e n hb hx
   exact ⟨sl,(hs.2 b (Nat.ne_of_lt (Nat.lt_of_lt_of_le (Heap.lt_size e) (I.ok.cab x c hfn hc)))).trans e1⟩
  ·obtain ⟨o',e1⟩:=I.base.there b o e hx
   exact ⟨o',(hs.2 b (Nat.ne_of_lt (Nat.lt_of_lt_of_le (Heap.lt_size e) (I.ok.cab x c hfn hc)))).trans e1⟩
  ·by_cases hj:j=i
   ·subst hj
    rw [hi] at e1; cases e1
    rw [List.getElem?_set_self hiσ] at e2
    cases e2
    exact ⟨u,r,.inr ⟨.inl hk,c,hc,hc'⟩⟩
   ·rw [List.getElem?_set_ne (Ne.symm hj)] at e2
    obtain ⟨u',r',q⟩:=hl j y v' e1 e2 e3
    refine ⟨u',r',?_⟩
    rcases q with q | ⟨k,c',e,z'⟩
    ·exact .inl q
    ·refine .inr ⟨k,c',e,z'.sameBut hs ?_⟩
     rintro rfl
     exact hj (vV hN e1 (I.ok.inj _ _ _ e hc ▸ hi))
  ·by_cases hcc:c'=c
   ·subst hcc; exact ⟨_,hc'⟩
   ·obtain ⟨w2,z2⟩:=I.cell y c' e
    exact ⟨w2,z2.sameBut hs hcc⟩
  ·obtain ⟨e,n,ne,nf,d⟩:=I.pin p hp
   refine ⟨(hs.2 p.1 ?_).trans e,n,ne,nf,d⟩
   intro q
   rw [q,hoc] at e
   have q':oc=p.2:=Option.some.inj e
   exact d w' (by rw [<- q']; exact hocd)
theorem gS {M:Model} {A:Around} {E:Value -> Shared -> Prop} {i:Nat} {x:Str} {v:V} {u:Value} {Q:Unit -> Shared -> Prop} (I:Inv X pins σ H s) (hN:X.N.Nodup) (hi:X.N[i]? = some x) (hx:Loc X.env.scope x) (r:RelV v u)
  (h:∀ s',Inv X pins (σ.set i (some v)) H s' -> Q () s') (hf:X.fn x=true \/ X.env.scope.names.lookup x=some .local:=by first | exact .inl rfl | exact .inr rfl | assumption):wpAny M A (storeName X.env x u) Q E s:=
 nI I hN hi hx r (fun s' I' _=>h s' I') hf
theorem Inv.call' {s':Shared} {ch:List Addr} (I:Inv X pins σ H s) (ho:s'.os=s.os) (u:Un (xC X.stack) ch H H' s.heap s'.heap) (hok:mQ X.prog X.w H' s'.heap) (hg:AllBare s'.gens)
  (hch:∀ b ∈ ch,(b ∈ X.ex \/ X.s₀.heap.objs.size ≤ b) /\ b ≠ X.env.locals /\ (∀ x c,X.env.cells.lookup x=some c -> c ≠ b) /\ ∀ p ∈ X.pn ++ pins,p.1 ≠ b):Inv X pins σ H' s':=by
 obtain ⟨h',g',d',t',o'⟩:=s'
 have e:o'=s.os:=ho
 subst e
 exact I.call (g':=g') (t':=t') (d':=d') u hok hg hch
end
abbrev XK:=Value -> Option Addr -> Hp -> Prop
abbrev St:=List (Option V)
abbrev VK:=V -> Hp -> Prop
abbrev TE:=St -> Hp -> VK -> Prop
abbrev TT:=St -> Hp -> (Bool -> Hp -> Prop) -> Prop
abbrev TA:=St -> Hp -> (List V -> Hp -> Prop) -> Prop
structure Ends where
 nx:St -> Hp -> Prop
 rt:VK
 bk:St -> Hp -> Prop:=fun _ _=>False
 ct:St -> Hp -> Prop:=fun _ _=>False
abbrev TS:=Ends -> St -> Hp -> Prop
def EP (X:Cx) (pins:List (Addr × Obj)) (σ:St) (Q:VK) (u:Value) (s':Shared):Prop:=∃ v H',Inv X pins σ H' s' /\ RelV v u /\ Q v H'
def TP (X:Cx) (pins:List (Addr × Obj)) (σ:St) (Q:Bool -> Hp -> Prop) (b:Bool) (s':Shared):Prop:=∃ H',Inv X pins σ H' s' /\ Q b H'
def AP (X:Cx) (pins:List (Addr × Obj)) (σ:St) (Q:List V -> Hp -> Prop) (us:List Value) (s':Shared):Prop:=∃ vs H',Inv X pins σ H' s' /\ Vals vs us /\ Q vs H'
def SP (X:Cx) (pins:List (Addr × Obj)) (D:Ends) (f:Flow) (s':Shared):Prop:=
 match f with
 | .next=>∃ σ' H',Inv X pins σ' H' s' /\ D.nx σ' H'
 | .brk=>∃ σ' H',Inv X pins σ' H' s' /\ D.bk σ' H'
 | .cont=>∃ σ' H',Inv X pins σ' H' s' /\ D.ct σ' H'
 | .ret u=>∃ v σ' H',Inv X pins σ' H' s' /\ RelV v u /\ D.rt v H'
def PE (X:Cx) (e:Expr) (t:TE):Prop:=
 ∀ (pins:List (Addr × Obj)) (s:Shared) (σ:St) (H:Hp) (Q:VK),Inv X pins σ H s -> t σ H Q -> wpAny (model X.prog X.w) X.A (eval e X.env) (EP X pins σ Q) X.xe s
def PT (X:Cx) (e:Expr) (t:TT):Prop:=
 ∀ (pins:List (Addr × Obj)) (s:Shared) (σ:St) (H:Hp) (Q:Bool -> Hp -> Prop),Inv X pins σ H s -> t σ H Q -> wpAny (model X.prog X.w) X.A (isTrue e X.env (eval e X.env)) (TP X pins σ Q) X.xe s
def PW (X:Cx) (e:Expr) (t:TT):Prop:=
 ∀ (whole:Sem Value) (pins:List (Addr × Obj)) (s:Shared) (σ:St) (H:Hp) (Q:Bool -> Hp -> Prop),Inv X pins σ H s -> t σ H Q -> wpAny (model X.prog X.w) X.A (isTrue e X.env whole) (TP X pins σ Q) X.xe s
theorem PW.pt {X:Cx} {e:Expr} {t:TT} (h:PW X e t):PT X e t:=h _
def PA (X:Cx) (es:List Expr) (t:TA):Prop:=
 ∀ (pos:Pos) (pins:List (Addr × Obj)) (s:Shared) (σ:St) (H:Hp) (Q:List V -> Hp -> Prop),Inv X pins σ H s -> t σ H Q -> wpAny (model X.prog X.w) X.A (spliced (backTo pos (starEach es X.env))) (AP X pins σ Q) X.xe s
def PS (X:Cx) (st:Stmt) (t:TS):Prop:=
 ∀ (pins:List (Addr × Obj)) (s:Shared) (σ:St) (H:Hp) (D:Ends),Inv X pins σ H s -> t D σ H -> wpAny (model X.prog X.w) X.A (exec st X.env) (SP X pins D) X.xe s
def iQ (X:Cx) (st:List Stmt) (t:TS):Prop:=
 ∀ (pins:List (Addr × Obj)) (s:Shared) (σ:St) (H:Hp) (D:Ends),Inv X pins σ H s -> t D σ H -> wpAny (model X.prog X.w) X.A (execs st X.env) (SP X pins D) X.xe s
theorem df {α:Type} {t:Sem α} {Q Q':α -> Shared -> Prop} {M:Model} {A:Around} {E:Value -> Shared -> Prop} {s:Shared} (h:wpAny M A t Q E s) (hQ:∀ a s,Q a s -> Q' a s):wpAny M A t Q' E s:=wpAny_mono h hQ fun _ _ x=>x
open PySem PySem.Spec PyProof.Rows
section
variable {X:Cx}
def fF (i:Nat):TE:=fun σ H Q=>∃ v,σ[i]? = some (some v) /\ Q v H
def tC (v:V):TE:=fun _ H Q=>Q v H
theorem HS {i:Nat} {x:Str} {pos:Pos} (hN:X.N[i]? = some x) (hv:Jc X.env.scope x) (hd:(x == ("__debug__" : Str))=false:=by decide) (hcd:(x == ("__classdict__" : Str))=false:=by decide):PE X (.Name x pos) (fF i):=by
 intro pins s σ H Q I h
 obtain ⟨v,e,h⟩:=h
 obtain ⟨m,hn,hl⟩:=I.loc
 obtain ⟨u,r,l⟩:=hl i x v hN e hv
 have fin:EP X pins σ Q u s:=⟨v,H,I,r,h⟩
 rcases l with ⟨hk,hm⟩ | ⟨hk,c,hc,hcell⟩
 ·exact wpAny_Name (wpAny_loadName_local I.ok.kind hk hn hm fin) hd
 ·rcases hk with hk | hk
  ·exact wpAny_Name (wpAny_loadName_cell I.ok.kind hk hc hcell fin) hd
  ·exact wpAny_Name (wpAny_loadName_free I.ok.kind hk hc hcell fin hcd) hd
theorem lH {i j pos}:PE X (.Constant (.int i) j pos) (tC (.int i)):=fun _ _ _ H _ I h=>wpAny_Constant_int ⟨.int i,H,I.tok _,⟨_,rfl⟩,h⟩
theorem Kd {b j pos}:PE X (.Constant (.bool b) j pos) (tC (.bl b)):=fun _ _ _ H _ I h=>Constant_bool ⟨.bl b,H,I,rfl,h⟩
def Gl (X:Cx) (x:Str):Prop:=X.env.kindOf x=some .globalImplicit
theorem tP {E:Value -> Shared -> Prop} {pins:List (Addr × Obj)} {s:Shared} {σ:St} {H:Hp} {x:Str} {u:Value} {pos:Pos} {Q:Value -> Shared -> Prop} (I:Inv X pins σ H s) (hg:Gl X x) (hm:X.mg x=some u) (h:Q u s)
  (hd:(x == ("__debug__" : Str))=false:=by decide):wpAny (model X.prog X.w) X.A (eval (.Name x pos) X.env) Q E s:=
 Calls.Name_function_global I.ok.kind hg (Calls.loadGlobal_global (by rw [I.ok.glob]; exact I.mod.glob.keeps I.bk) hm h) hd
theorem ll {E:Value -> Shared -> Prop} {pins:List (Addr × Obj)} {s:Shared} {σ:St} {H:Hp} {x:Str} {u:Value} {pos:Pos} {Q:Value -> Shared -> Prop} (I:Inv X pins σ H s) (hg:Gl X x) (hm:X.mg x=none) (hv:bootBuiltins x=some u) (h:Q u s)
  (hn:x ≠ "__name__" := by decide) (hd:(x == ("__debug__" : Str))=false:=by decide):wpAny (model X.prog X.w) X.A (eval (.Name x pos) X.env) Q E s:=by
 obtain ⟨mb,h1,h2⟩:=I.mod.blt
 exact Calls.Name_function_global I.ok.kind hg (Calls.loadGlobal_builtin (by rw [I.ok.glob]; exact I.mod.glob.keeps I.bk) hm (by rw [I.ok.blt]; exact h1.keeps I.bk) ((h2 x hn).trans hv) h) hd
theorem zN {x:Str} {v:V} {u:Value} {pos:Pos} (hg:Gl X x) (hm:X.mg x=some u) (r:RelV v u) (hd:(x == ("__debug__" : Str))=false:=by decide):PE X (.Name x pos) (tC v):=
 fun _ _ _ H _ I h=>tP I hg hm ⟨v,H,I,r,h⟩ hd
theorem Ff {x:Str} {v:V} {u:Value} {pos:Pos} (hg:Gl X x) (hm:X.mg x=none) (hv:bootBuiltins x=some u) (r:RelV v u) (hn:x ≠ "__name__" := by decide) (hd:(x == ("__debug__" : Str))=false:=by decide):PE X (.Name x pos) (tC v):=
 fun _ _ _ H _ I h=>ll I hg hm hv ⟨v,H,I,r,h⟩ hn hd
variable {a b:Expr} {ta tb:TE} {pos:Pos}
variable {tA tB':TT} {rest:List Expr}
def LQ (t u:TT):TT:=fun σ H Q=>t σ H fun c H1=>if c=true then u σ H1 Q else Q false H1
def MY (t u:TT):TT:=fun σ H Q=>t σ H fun c H1=>if c=true then Q true H1 else u σ H1 Q
def LY (t:TT):TT:=fun σ H Q=>t σ H fun c H1=>Q (!c) H1
theorem Fq (ha:PT X a tA):PW X (.BoolOp .And [a] pos) tA:=by
 intro wh pins s σ H Q I h
 refine isTrue_and (df (ha pins s σ H Q I h) fun c s1 e=>?_)
 cases c with
 | true=>exact isTrue_and_nil e
 | false=>exact e
theorem Ie (ha:PT X a tA):PW X (.BoolOp .Or [a] pos) tA:=by
 intro wh pins s σ H Q I h
 refine isTrue_or (df (ha pins s σ H Q I h) fun c s1 e=>?_)
 cases c with
 | false=>exact isTrue_or_nil e
 | true=>exact e
theorem Ia (ha:PT X a tA) (hb:PW X (.BoolOp .And (b :: rest) pos) tB'):PW X (.BoolOp .And (a :: b :: rest) pos) (LQ tA tB'):=by
 intro wh pins s σ H Q I h
 refine isTrue_and (df (ha pins s σ H _ I h) fun c s1 ⟨H1,I1,q1⟩=>?_)
 cases c with
 | true=>exact hb wh pins s1 σ H1 Q I1 q1
 | false=>exact ⟨H1,I1,q1⟩
theorem Kh (ha:PT X a tA) (hb:PW X (.BoolOp .Or (b :: rest) pos) tB'):PW X (.BoolOp .Or (a :: b :: rest) pos) (MY tA tB'):=by
 intro wh pins s σ H Q I h
 refine isTrue_or (df (ha pins s σ H _ I h) fun c s1 ⟨H1,I1,q1⟩=>?_)
 cases c with
 | true=>exact ⟨H1,I1,q1⟩
 | false=>exact hb wh pins s1 σ H1 Q I1 q1
theorem HZ (ha:PT X a tA):PT X (.UnaryOp .Not a pos) (LY tA):=by
 intro pins s σ H Q I h
 exact isTrue_not (ha pins s σ H (fun c H1=>Q (!c) H1) I h)
def Kp (ta tb:TE):TE:=fun σ H Q=>ta σ H fun x H1=>∃ c,x=.bl c /\ if c=true then tb σ H1 Q else Q (.bl false) H1
def Kx (ta:TE):TE:=fun σ H Q=>ta σ H fun x H1=>∃ c,x=.bl c /\ Q (.bl (!c)) H1
theorem HR {op} {t:TE} (h:PE X a t):PE X (.BoolOp op [a] pos) t:=fun pins s σ H Q I hw=>BoolOp_one (h pins s σ H Q I hw)
theorem HN (ha:PE X a ta) (hb:PE X (.BoolOp .And (b :: rest) pos) tb):PE X (.BoolOp .And (a :: b :: rest) pos) (Kp ta tb):=by
 intro pins s σ H Q I h
 refine BoolOp_and (df (ha pins s σ H _ I h) fun v s1 ⟨x,H1,I1,r1,q1⟩=>?_)
 obtain ⟨c,rfl,q1⟩:=q1
 cases r1
 refine wpAny_truthy_bool ?_
 cases c with
 | true=>exact hb pins s1 σ H1 Q I1 q1
 | false=>exact ⟨.bl false,H1,I1,rfl,q1⟩
theorem HQ (ha:PE X a ta):PE X (.UnaryOp .Not a pos) (Kx ta):=by
 intro pins s σ H Q I h
 refine UnaryOp_ (df (ha pins s σ H _ I h) fun v s1 ⟨x,H1,I1,r1,q1⟩=>?_)
 obtain ⟨c,rfl,q1⟩:=q1
 cases r1
 exact not_of (wpAny_truthy_bool ⟨.bl (!c),H1,I1,rfl,q1⟩)
end
open PySem PySem.Spec PyProof.Rows
def dE (K:PySem.W.Frag) (H:Hp) (a:Addr) (xs:List V):Prop:=
 Rd H a (.lst xs) \/
  ∃ (o:Obj) (its:Array Value) (n:Nat),K.lookup a=some o /\ o.cls=.type "list" /\ o.dict=none /\ o.data=.seq its n /\ its.size ≤ sizeLine /\ Vals xs its.toList
def js (K:PySem.W.Frag) (H:Hp) (a:Addr) (xs:List V):Prop:=
 Rd H a (.tup xs) \/
  ∃ (o:Obj) (its:Array Value) (n:Nat),K.lookup a=some o /\ o.cls=.type "tuple" /\ o.data=.seq its n /\ its.size ≤ sizeLine /\ Vals xs its.toList
def Lh:Value -> Option V
 | .none=>some .non
 | .bool b=>some (.bl b)
 | .int i _=>some (.int i)
 | .str x _=>some (.str x)
 | .bytes b _=>some (.byt b)
 | .float b _=>some (.flt b)
 | .ref a=>some (.ref a)
 | .type n=>some (.ty n)
 | _=>none
theorem RelV.abs {x:V} {u:Value} (r:RelV x u):Lh u=some x:=by
 cases x with
 | non=>cases r; rfl
 | bl _=>cases r; rfl
 | int _=>obtain ⟨t,rfl⟩:=r; rfl
 | str _=>obtain ⟨t,rfl⟩:=r; rfl
 | byt _=>obtain ⟨t,rfl⟩:=r; rfl
 | flt _=>obtain ⟨t,rfl⟩:=r; rfl
 | ref _=>cases r; rfl
 | ty _=>cases r; rfl
theorem RelV.inj {x y:V} {u:Value} (r:RelV x u) (q:RelV y u):x=y:=Option.some.inj (r.abs.symm.trans q.abs)
theorem Vals.inj:∀ {xs ys:List V} {us:List Value},Vals xs us -> Vals ys us -> xs=ys
 | _,_,_,.nil,.nil=>rfl
 | _,_,_,.cons r t,.cons r' t'=>by rw [r.inj r',Vals.inj t t']
section
variable {X:Cx} {pins:List (Addr × Obj)} {σ:St} {H:Hp} {s:Shared} {a:Addr} {xs ys:List V}
theorem dE.of {K:PySem.W.Frag} (h:H a=some (.lst xs)):dE K H a xs:=.inl (.inl h)
theorem js.of {K:PySem.W.Frag} (h:H a=some (.tup xs)):js K H a xs:=.inl (.inl h)
theorem Inv.list (I:Inv X pins σ H s) (h:dE X.K H a xs):∃ its:List Value,Vals xs its /\ PlainL s.heap a its.toArray /\ xs.length ≤ sizeLine:=by
 rcases h with h | ⟨o,its,n,hk,hc,hd,hs,hz,r⟩
 ·obtain ⟨z,its,n,r,e⟩:=h.ok I.hok
  exact ⟨its,r,⟨_,n,e,rfl,rfl,rfl⟩,z⟩
 ·refine ⟨its.toList,r,⟨o,n,I.kIn a o hk,hc,hd,by simpa using hs⟩,?_⟩
  have e:=r.length
  simp only [Array.length_toList] at e
  omega
theorem Inv.tuple (I:Inv X pins σ H s) (h:js X.K H a xs):∃ its:List Value,Vals xs its /\ IsTup s.heap a its.toArray /\ xs.length ≤ sizeLine:=by
 rcases h with h | ⟨o,its,n,hk,hc,hs,hz,r⟩
 ·obtain ⟨z,its,r,p⟩:=h.ok I.hok
  exact ⟨its,r,p,z⟩
 ·refine ⟨its.toList,r,⟨o,I.kIn a o hk,hc,n,by simpa using hs⟩,?_⟩
  have e:=r.length
  simp only [Array.length_toList] at e
  omega
theorem Inv.list_inj (I:Inv X pins σ H s) (h:dE X.K H a xs) (h':dE X.K H a ys):xs=ys:=by
 obtain ⟨its,r,⟨o,n,e,_,_,d⟩,_⟩:=I.list h
 obtain ⟨its',r',⟨o',n',e',_,_,d'⟩,_⟩:=I.list h'
 rw [e] at e'; cases e'
 rw [d] at d'
 injection d' with d1 _
 have:its=its':=by simpa using congrArg Array.toList d1
 subst this
 exact r.inj r'
theorem Inv.tuple_inj (I:Inv X pins σ H s) (h:js X.K H a xs) (h':js X.K H a ys):xs=ys:=by
 obtain ⟨its,r,⟨o,e,_,n,d⟩,_⟩:=I.tuple h
 obtain ⟨its',r',⟨o',e',_,n',d'⟩,_⟩:=I.tuple h'
 rw [e] at e'; cases e'
 rw [d] at d'
 injection d' with d1 _
 have:its=its':=by simpa using congrArg Array.toList d1
 subst this
 exact r.inj r'
end
abbrev Cx.wish (X:Cx) (E:Value -> Shared -> Prop):Cx:={ X with xe:=E }
abbrev Cx.nox (X:Cx):Cx:=X.wish fun _ _=>False
theorem Cx.Ok.wish {X:Cx} (ok:X.Ok) (E:Value -> Shared -> Prop):(X.wish E).Ok:=
 ⟨ok.mod,ok.kind,ok.glob,ok.blt,ok.above,ok.inj,ok.has,ok.cab,ok.hd,ok.frames,ok.stk,ok.exf,ok.bs,ok.bsz,ok.noex,ok.exfs,ok.funs,ok.frf⟩
theorem Cx.Ok.unwish {X:Cx} {E:Value -> Shared -> Prop} (ok:(X.wish E).Ok):X.Ok:=
 ⟨ok.mod,ok.kind,ok.glob,ok.blt,ok.above,ok.inj,ok.has,ok.cab,ok.hd,ok.frames,ok.stk,ok.exf,ok.bs,ok.bsz,ok.noex,ok.exfs,ok.funs,ok.frf⟩
section
variable {X:Cx} {pins:List (Addr × Obj)} {σ:St} {H:Hp} {s:Shared} {E:Value -> Shared -> Prop}
theorem Inv.wish (I:Inv X pins σ H s) (E:Value -> Shared -> Prop):Inv (X.wish E) pins σ H s:=⟨I.ok.wish E,I.os,I.bare,I.base,I.loc,I.cell,I.free,I.freeC,I.pin,I.hok,I.len⟩
theorem Inv.unwish (I:Inv (X.wish E) pins σ H s):Inv X pins σ H s:=⟨I.ok.unwish,I.os,I.bare,I.base,I.loc,I.cell,I.free,I.freeC,I.pin,I.hok,I.len⟩
theorem SP.unwish {D:Ends} {f:Flow} {s':Shared} (h:SP (X.wish E) pins D f s'):SP X pins D f s':=by
 cases f with
 | next=>obtain ⟨σ',H',I,q⟩:=h; exact ⟨σ',H',I.unwish,q⟩
 | brk=>obtain ⟨σ',H',I,q⟩:=h; exact ⟨σ',H',I.unwish,q⟩
 | cont=>obtain ⟨σ',H',I,q⟩:=h; exact ⟨σ',H',I.unwish,q⟩
 | ret u=>obtain ⟨v,σ',H',I,r,q⟩:=h; exact ⟨v,σ',H',I.unwish,r,q⟩
theorem PE.nox {e:Expr} {t:TE} (h:PE X.nox e t):PE X e t:=fun pins s σ H Q I hw =>
 wpAny_mono (h pins s σ H Q (I.wish _) hw) (fun _ _ ⟨v,H',I',r,q⟩=>⟨v,H',I'.unwish,r,q⟩) fun _ _ z=>False.elim z
theorem PT.nox {e:Expr} {t:TT} (h:PT X.nox e t):PT X e t:=fun pins s σ H Q I hw =>
 wpAny_mono (h pins s σ H Q (I.wish _) hw) (fun _ _ ⟨H',I',q⟩=>⟨H',I'.unwish,q⟩) fun _ _ z=>False.elim z
theorem iQ.nox {st:List Stmt} {t:TS} (h:iQ X.nox st t):iQ X st t:=fun pins s σ H D I hw =>
 wpAny_mono (h pins s σ H D (I.wish _) hw) (fun _ _ q=>q.unwish) fun _ _ z=>False.elim z
end
section
variable {X:Cx} {st:Stmt} {rest:List Stmt} {t u:TS} {e:Expr} {te:TE} {pos:Pos}
def Kv:TS:=fun D σ H=>D.nx σ H
def L5 (t u:TS):TS:=fun D σ H=>t { D with nx:=u D } σ H
theorem oJ:iQ X [] Kv:=fun _ _ σ H _ I h=>wpAny_execs_nil ⟨σ,H,I,h⟩
theorem cE (h1:PS X st t) (h2:iQ X rest u):iQ X (st :: rest) (L5 t u):=by
 intro pins s σ H D I h
 refine wpAny_execs_cons (df (h1 pins s σ H { D with nx:=u D } I h) fun f s1 q=>?_)
 cases f with
 | next =>
  obtain ⟨σ',H',I',q⟩:=q
  exact h2 pins s1 σ' H' D I' q
 | ret v=>exact q
 | brk=>exact q
 | cont=>exact q
theorem eH (h1:PS X st t):iQ X [st] t:=by
 intro pins s σ H D I h
 refine wpAny_execs_cons (df (h1 pins s σ H D I h) fun f s1 q=>?_)
 cases f with
 | next=>exact wpAny_execs_nil q
 | ret v=>exact q
 | brk=>exact q
 | cont=>exact q
theorem Inv.quiet {pins:List (Addr × Obj)} {σ:St} {H:Hp} {s:Shared} (I:Inv X pins σ H s):interactive X.env=false:=by simp [interactive,I.ok.kind]
def Kt (te:TE):TS:=fun D σ H=>te σ H fun _ H1=>D.nx σ H1
theorem jh (he:PE X e te) (hs:swapsWith e none pos.line X.env=pure false:=by rfl):PS X (.Expr e pos) (Kt te):=by
 intro pins s σ H D I h
 exact wpAny_Expr_any (df (he pins s σ H _ I h) fun v s1 ⟨x,H1,I1,r1,q1⟩=>⟨σ,H1,I1,q1⟩) I.quiet hs
def L4 (te:TE):TS:=fun D σ H=>te σ H D.rt
theorem pV (he:PE X e te):PS X (.Return (some e) pos) (L4 te):=by
 intro pins s σ H D I h
 exact wpAny_Return_some (df (he pins s σ H _ I h) fun v s1 ⟨x,H1,I1,r1,q1⟩=>⟨x,σ,H1,I1,r1,q1⟩)
def LW (c:TT) (t u:TS):TS:=fun D σ H=>c σ H fun b H1=>if b=true then t D σ H1 else u D σ H1
theorem Dh {c:Expr} {a b:List Stmt} {tc:TT} (hc:PT X c tc) (ha:iQ X a t) (hb:iQ X b u):PS X (.If c a b pos) (LW tc t u):=by
 intro pins s σ H D I h
 refine wpAny_If (df (hc pins s σ H _ I h) fun d s1 ⟨H1,I1,q1⟩=>?_)
 cases d with
 | true=>exact ha pins s1 σ H1 D I1 q1
 | false=>exact hb pins s1 σ H1 D I1 q1
def DN:TS:=fun _ _ _=>False
theorem Di:PS X st DN:=fun _ _ _ _ _ _ h=>h.elim
theorem A5 {sts:List Stmt}:iQ X sts DN:=fun _ _ _ _ _ _ h=>h.elim
end
abbrev TG:=V -> St -> Hp -> (St -> Hp -> Prop) -> Prop
abbrev DV:=List V -> St -> Hp -> (St -> Hp -> Prop) -> Prop
def PG (X:Cx) (target:Expr) (t:TG):Prop:=
 ∀ (pins:List (Addr × Obj)) (s:Shared) (σ:St) (H:Hp) (v:V) (u:Value) (Q:St -> Hp -> Prop),Inv X pins σ H s -> RelV v u -> t v σ H Q ->
  wpAny (model X.prog X.w) X.A (assign target X.env u) (fun _ s'=>∃ σ' H',Inv X pins σ' H' s' /\ Q σ' H') X.xe s
def IG (X:Cx) (ts:List Expr) (t:DV):Prop:=
 ∀ (pins:List (Addr × Obj)) (s:Shared) (σ:St) (H:Hp) (vs:List V) (us:List Value) (Q:St -> Hp -> Prop),Inv X pins σ H s -> Vals vs us -> t vs σ H Q ->
  wpAny (model X.prog X.w) X.A (assignInOrder ((assignEach ts X.env).map (·.2)) us) (fun _ s'=>∃ σ' H',Inv X pins σ' H' s' /\ Q σ' H') X.xe s
abbrev GV:=V -> V -> V -> Hp -> (Hp -> Prop) -> Prop
def Ja (X:Cx) (t:GV):Prop:=
 ∀ (pins:List (Addr × Obj)) (s:Shared) (σ:St) (H:Hp) (o i v:V) (ov iv u:Value) (Q:Hp -> Prop),Inv X pins σ H s -> RelV o ov -> RelV i iv -> RelV v u -> t o i v H Q ->
  wpAny (model X.prog X.w) X.A (setItem ov iv u) (fun _ s'=>∃ H',Inv X pins σ H' s' /\ Q H') X.xe s
section
variable {X:Cx} {pos:Pos}
def mi (i:Nat):TG:=fun v σ H Q=>Q (σ.set i (some v)) H
theorem ic {i:Nat} {x:Str} (hN:X.N.Nodup) (hi:X.N[i]? = some x) (hx:Loc X.env.scope x) (hf:X.fn x=true \/ X.env.scope.names.lookup x=some .local:=by first | exact .inl rfl | exact .inr rfl | assumption):PG X (.Name x pos) (mi i):=by
 intro pins s σ H v u Q I r h
 exact wpAny_assign_Name (gS I hN hi hx r (fun s' I'=>⟨_,H,I',h⟩) hf)
def Ls:DV:=fun vs σ H Q=>vs=[] /\ Q σ H
def JD (t:TG) (u:DV):DV:=fun vs σ H Q=>∃ v r,vs=v :: r /\ t v σ H fun σ' H'=>u r σ' H' Q
theorem zO:IG X [] Ls:=by
 intro pins s σ H vs us Q I r h
 obtain ⟨e,h⟩:=h
 subst e
 cases r
 exact assignInOrder_nil ⟨σ,H,I,h⟩
theorem pU {e:Expr} {es:List Expr} {t:TG} {u:DV} (h1:PG X e t) (h2:IG X es u)
  (hs:(assignEach (e :: es) X.env).map (·.2)=assign e X.env :: (assignEach es X.env).map (·.2):=by rfl):IG X (e :: es) (JD t u):=by
 intro pins s σ H vs us Q I r h
 obtain ⟨v,vr,e1,h⟩:=h
 subst e1
 cases r with
 | cons r rr =>
  rw [hs]
  refine assignInOrder_cons (df (h1 pins s σ H _ _ _ I r h) fun _ s1 ⟨σ1,H1,I1,q1⟩=>?_)
  exact h2 pins s1 σ1 H1 _ _ Q I1 rr q1
def Lv (K:PySem.W.Frag) (n:Nat) (t:DV):TG:=fun v σ H Q=>∃ a xs,v=.ref a /\ js K H a xs /\ xs.length=n /\ t xs σ H Q
theorem Dc {es:List Expr} {k:Nat} {t:DV} {n:Nat} (hc:X.calm=true) (h:IG X es t)
  (hn:(assignEach es X.env).length=n:=by rfl) (hst:(assignEach es X.env).findIdx? (·.1)=none:=by rfl):PG X (.Tuple es k pos) (Lv X.K n t):=by
 intro pins s σ H v u Q I r hw
 obtain ⟨a,xs,e1,hq,hl,hw⟩:=hw
 subst e1
 cases r
 obtain ⟨its,rv,ht,hz⟩:=I.tuple hq
 refine assign_Tuple_tuple (I.ok.hd hc) ht (by simp [hn,<- hl,rv.length]) hst fun h' hx=>?_
 have I1:Inv X pins σ H { s with heap:=h' }:=I.kept (t':=s.toks) fun b o e=>hx b o (Nat.ne_of_lt (Heap.lt_size e)) e
 exact h pins _ σ H xs _ Q I1 (by simpa using rv) hw
def sN (to ti:TE) (t:GV):TG:=fun v σ H Q=>to σ H fun o H1=>ti σ H1 fun i H2=>t o i v H2 fun H3=>Q σ H3
theorem C9 {o i:Expr} {to ti:TE} {t:GV} (ho:PE X o to) (hi:PE X i ti) (hs:Ja X t)
  (ha:∀ v,assign (.Subscript o i pos) X.env v=(do
   let ov <- holding [v] (eval o X.env)
   let iv <- holding [v,ov] (eval i X.env)
   standAt pos
   holding [v,ov,iv] (setItem ov iv v)
   release [v,ov,iv] []):=by intro _; rfl):PG X (.Subscript o i pos) (sN to ti t):=by
 intro pins s σ H v u Q I r h
 rw [ha]
 refine wpAny_bind (wpAny_holding (df (ho pins s σ H _ I h) fun ov s1 ⟨x,H1,I1,r1,q1⟩=>?_))
 refine wpAny_bind (wpAny_holding (df (hi pins s1 σ H1 _ I1 q1) fun iv s2 ⟨y,H2,I2,r2,q2⟩=>?_))
 refine wpAny_bind (wpAny_standAt (wpAny_bind (wpAny_holding (df (hs pins s2 σ H2 x y v ov iv u _ I2 r1 r2 r q2) fun _ s3 ⟨H3,I3,q3⟩=>?_))))
 exact wpAny_release ⟨σ,H3,I3,q3⟩
def Kq (te:TE) (g:TG):TS:=fun D σ H=>te σ H fun x H1=>g x σ H1 D.nx
theorem yl {tg e:Expr} {te:TE} {g:TG} (he:PE X e te) (hg:PG X tg g) (hs:swapsWithSole [tg] e pos.line X.env=pure false:=by rfl) (hw:swappedStores [tg] e X.env=pure none:=by rfl)
  (h1:(assignEach [tg] X.env).map (·.2)=[assign tg X.env]:=by rfl):PS X (.Assign [tg] e pos) (Kq te g):=by
 intro pins s σ H D I h
 refine wpAny_Assign_stores (df (he pins s σ H _ I h) fun v s1 ⟨x,H1,I1,r1,q1⟩=>?_) hs hw
 rw [h1]
 exact df (hg pins s1 σ H1 x v _ I1 r1 q1) fun _ s2 q=>q
theorem lJ {i:Nat} {x:Str} {e:Expr} {te:TE} {pos':Pos} (hN:X.N.Nodup) (hi:X.N[i]? = some x) (hx:Loc X.env.scope x) (he:PE X e te) (hs:swapsWith e (some (.Name x pos')) pos.line X.env=pure false:=by rfl) (hf:X.fn x=true \/ X.env.scope.names.lookup x=some .local:=by first | exact .inl rfl | exact .inr rfl | assumption) :
  PS X (.Assign [.Name x pos'] e pos) (Kq te (mi i)):=by
 intro pins s σ H D I h
 refine wpAny_Assign_Name (df (he pins s σ H _ I h) fun v s1 ⟨y,H1,I1,r1,q1⟩=>?_) hs
 exact gS I1 hN hi hx r1 (fun s2 I2=>⟨_,H1,I2,q1⟩) hf
def LZ (i j:Nat) (ta:TA):TS:=fun D σ H=>ta σ H fun vs H1=>∃ v w,vs=[v,w] /\ D.nx ((σ.set i (some v)).set j (some w)) H1
theorem HY {i j:Nat} {x y:Str} {a b:Expr} {ta:TA} {px py pt:Pos} {kt k2 pt2} (hc:X.calm=true) (hN:X.N.Nodup) (hi:X.N[i]? = some x) (hj:X.N[j]? = some y) (hij:i ≠ j)
  (hx:X.env.scope.names.lookup x=some .local) (hy:X.env.scope.names.lookup y=some .local) (ha:PA X [a,b] ta)
  (hw:swappedStores [.Tuple [.Name x px,.Name y py] kt pt] (.Tuple [a,b] k2 pt2) X.env=pure (some [x,y]))
  (hs:swapsWithSole [.Tuple [.Name x px,.Name y py] kt pt] (.Tuple [a,b] k2 pt2) pos.line X.env=pure false:=by rfl) :
  PS X (.Assign [.Tuple [.Name x px,.Name y py] kt pt] (.Tuple [a,b] k2 pt2) pos) (LZ i j ta):=by
 intro pins s σ H D I h
 rw [exec_Assign_arm]
 refine wpAny_bind (wpAny_standAt ?_)
 rw [hs]
 refine wpAny_bind (wpAny_pure ?_)
 rw [if_neg (by decide)]
 refine wpAny_bind (Tuple_ (df (ha _ pins s σ H _ I h) fun us s1 ⟨vs,H1,I1,r1,q1⟩=>?_))
 obtain ⟨v,w,e1,q1⟩:=q1
 subst e1
 obtain ⟨u1,u2,rfl,rv,rw'⟩:∃ u1 u2,us=[u1,u2] /\ RelV v u1 /\ RelV w u2:=by
  cases r1 with
  | cons p q =>
   cases q with
   | cons p' q' =>
    cases q'
    exact ⟨_,_,rfl,p,p'⟩
 refine wpAny_newObj_type ?_ (by show 2 ≤ sizeLine; decide)
 have I2:Inv X pins σ H1 { s1 with heap:=s1.heap.push { cls:=.type "tuple", data:=.seq [u1,u2].toArray } }:=I1.kept (t':=s1.toks) fun b o e=>Heap.get?_push_of_some _ e
 rw [hw]
 refine wpAny_bind (wpAny_pure ?_)
 show wpAny (model X.prog X.w) X.A (do rule "assign.swapped-stores"; let items <- unpackItems (.ref s1.heap.objs.size) 2 none; assignInOrder [fun v=>bindName X.env y v,fun v=>bindName X.env x v] items.reverse; pure Flow.next) _ _ _
 refine wpAny_bind (wpAny_rule (wpAny_bind (unpackItems_tuple (items:=#[u1,u2]) (I.ok.hd hc) (IsTup.new s1.heap _) fun h' hx'=>?_)))
 have I3:=I2.kept (h':=h') (t':=s1.toks) fun b o e=>hx' b o (Nat.ne_of_lt (Heap.lt_size e)) e
 show wpAny _ _ (assignInOrder [fun v=>bindName X.env y v,fun v=>bindName X.env x v] [u2,u1] >>= fun _=>pure Flow.next) _ _ _
 refine wpAny_bind (assignInOrder_cons (wpAny_bindName (gS I3 hN hj (.inl hy) rw' (fun s2 I4=>?_) (.inr hy))))
 refine assignInOrder_cons (wpAny_bindName (gS I4 hN hi (.inl hx) rv (fun s3 I5=>assignInOrder_nil (wpAny_pure ?_)) (.inr hx)))
 rw [List.set_comm _ _ (Ne.symm hij)] at I5
 exact ⟨_,H1,I5,q1⟩
end
section
variable {X:Cx} {pos:Pos}
def Iv (c:TT) (tb:TS):TS:=fun D σ H=>∃ W:Nat -> St -> Hp -> Prop,(∃ m,W m σ H) /\ ∀ m σ H,W m σ H ->
 c σ H fun b H1=>if b=true then ∃ N:St -> Hp -> Prop,(∀ σ' H',N σ' H' -> ∃ m',m' < m /\ W m' σ' H') /\ tb { D with nx:=N,ct:=N,bk:=D.nx } σ H1 else D.nx σ H1
theorem Dk {c:Expr} {body:List Stmt} {tc:TT} {tb:TS} (hp:PassesOwn (model X.prog X.w) X.A X.env X.xe) (hc:PT X c tc) (hb:iQ X body tb):PS X (.While c body [] pos) (Iv tc tb):=by
 intro pins s σ H D I h
 obtain ⟨W,⟨m0,w0⟩,turn⟩:=h
 refine wpAny_While (codeAny_whileLoop (fun n s'=>∃ σ' H',Inv X pins σ' H' s' /\ W n σ' H') ?_ m0 ⟨σ,H,I,w0⟩)
 rintro n s1 ⟨σ1,H1,I1,w1⟩
 refine wpAny_passesOwn hp (df (hc pins s1 σ1 H1 _ I1 (turn n σ1 H1 w1)) fun b s2 ⟨H2,I2,q2⟩=>?_)
 cases b with
 | true =>
  obtain ⟨N,hN,q2⟩:=q2
  rw [if_pos rfl]
  refine wpAny_passesOwn hp (df (hb pins s2 σ1 H2 _ I2 q2) fun f s3 q3=>?_)
  cases f with
  | next =>
   obtain ⟨σ3,H3,I3,n3⟩:=q3
   obtain ⟨m',hm,w3⟩:=hN σ3 H3 n3
   exact ⟨m',hm,σ3,H3,I3,w3⟩
  | cont =>
   obtain ⟨σ3,H3,I3,n3⟩:=q3
   obtain ⟨m',hm,w3⟩:=hN σ3 H3 n3
   exact ⟨m',hm,σ3,H3,I3,w3⟩
  | brk=>exact q3
  | ret v=>exact q3
 | false =>
  rw [if_neg Bool.false_ne_true]
  exact wpAny_execs_nil ⟨σ1,H2,I2,q2⟩
end
structure It where
 go:Nat -> Hp -> Prop
 yld:Nat -> Hp -> V -> Hp -> Prop
 stop:Nat -> Hp -> Prop
def qG (X:Cx) (pins:List (Addr × Obj)) (H:Hp) (b:Addr):Prop:=
 H b=none /\ b ≠ X.env.locals /\ b ∉ X.fs /\ (b ∈ X.ex \/ X.s₀.heap.objs.size ≤ b) /\ (∀ x c,X.env.cells.lookup x=some c -> c ≠ b) /\ ∀ p ∈ X.pn ++ pins,p.1 ≠ b
theorem Inv.fpOk {X:Cx} {pins:List (Addr × Obj)} {σ:St} {H H':Hp} {s:Shared} {b:Addr} (I:Inv X pins σ H s) (hb:s.heap.objs.size ≤ b) (hn:H' b=none):qG X pins H' b:=by
 refine ⟨hn,Nat.ne_of_gt (Nat.lt_of_lt_of_le I.lt hb),I.nofs hb,.inr (Nat.le_trans I.sz hb),fun x c e z=>?_,fun p hp z=>?_⟩
 ·obtain ⟨v,q⟩:=I.cell x c e
  exact absurd (Nat.lt_of_lt_of_le q.lt (by rw [z]; exact hb)) (Nat.lt_irrefl _)
 ·exact absurd (Nat.lt_of_lt_of_le (Heap.lt_size (I.pin p hp).1) (by rw [z]; exact hb)) (Nat.lt_irrefl _)
structure Turn (P:Program) (w:World) (K:PySem.W.Frag) (tg:Expr) (J:It) (fp:List Addr) (it:Addr) (tn:Nat -> Heap -> Prop):Prop where
 mem:it ∈ fp
 obj:∀ i h,tn i h -> ∀ b ∈ fp,∃ o,h.get? b=some o /\ ∀ v,o.data ≠ .cell v
 keep:∀ i h h',tn i h -> (∀ b ∈ fp,∀ o,h.get? b=some o -> h'.get? b=some o) -> tn i h'
 item:∀ (X:Cx),X.prog=P -> X.w=w -> X.K=K -> X.calm=true -> ∀ (i:Nat) (pins:List (Addr × Obj)) (s:Shared) (σ:St) (H:Hp) (E:Value -> Shared -> Prop),Inv X pins σ H s -> (∀ b ∈ fp,qG X pins H b) -> tn i s.heap -> J.go i H ->
  wpAny (model P w) X.A (pyNext (.ref it)) (fun r s1=>∃ u,r=some u /\
   wpAny (model P w) X.A (letOwnedTupleGo tg (.ref it) u) (fun _ s2=>∃ x H',Inv X pins σ H' s2 /\ RelV x u /\ J.yld i H x H' /\ tn (i + 1) s2.heap /\ ∀ b ∈ fp,H' b=none) E s1) E s
 done:∀ (X:Cx),X.prog=P -> X.w=w -> X.K=K -> X.calm=true -> ∀ (i:Nat) (pins:List (Addr × Obj)) (s:Shared) (σ:St) (H:Hp) (E:Value -> Shared -> Prop),Inv X pins σ H s -> (∀ b ∈ fp,qG X pins H b) -> tn i s.heap -> J.stop i H ->
  wpAny (model P w) X.A (pyNext (.ref it)) (fun r s1=>r=none /\ Inv X pins σ H s1) E s
 self:∀ (A:Around) (i:Nat) (s:Shared) (Q:Value -> Shared -> Prop) (E:Value -> Shared -> Prop),tn i s.heap -> Q (.ref it) s -> wpAny (model P w) A (pyIter (.ref it)) Q E s
abbrev TI:=St -> Hp -> (It -> Hp -> Prop) -> Prop
def Mf (X:Cx) (pins:List (Addr × Obj)) (σ:St) (tg:Expr) (R:It -> Hp -> Prop) (itv:Value) (s2:Shared):Prop:=
 ∃ (it:Addr) (fp:List Addr) (tn:Nat -> Heap -> Prop) (J:It) (H':Hp),itv=.ref it /\ Inv X pins σ H' s2 /\ Turn X.prog X.w X.K tg J fp it tn /\ tn 0 s2.heap /\ (∀ b ∈ fp,qG X pins H' b) /\ R J H'
def PI (X:Cx) (tg iter:Expr) (wi:TI):Prop:=
 ∀ (pins:List (Addr × Obj)) (s:Shared) (σ:St) (H:Hp) (R:It -> Hp -> Prop),Inv X pins σ H s -> wi σ H R ->
  wpAny (model X.prog X.w) X.A (eval iter X.env) (fun v s1=>wpAny (model X.prog X.w) X.A (pyIter v) (Mf X pins σ tg R) X.xe s1) X.xe s
theorem Cq {M:Model} {A:Around} {E:Value -> Shared -> Prop} {s:Shared} {tg:Expr} {it:Addr} {u:Value} {o:Obj} {n:String} {vs:Array Value} {Q:Unit -> Shared -> Prop} (ho:s.heap.get? it=some o) (hc:o.cls=.type n) (hd:o.data=.fields vs)
    (hn:["enumerate", "zip", "dict_itemiterator", "dict_reverseitemiterator", "odict_iterator", "itertools.zip_longest", "itertools.pairwise"].contains n=false) (hQ:Q () s):wpAny M A (letOwnedTupleGo tg (.ref it) u) Q E s:=by
  unfold letOwnedTupleGo
  cases tg <;> first
    | exact wpAny_pure hQ
    | (cases u <;> first
        | exact wpAny_pure hQ
        | (refine wpAny_bind (wpAny_load ho ?_)
           rw [hc,hd]
           show wpAny M A (if (["enumerate", "zip", "dict_itemiterator", "dict_reverseitemiterator", "odict_iterator", "itertools.zip_longest", "itertools.pairwise"].contains n && vs[0]? == some (rawInt _))=true then _ else _) Q E s
           rw [if_neg (by intro h; rw [hn,Bool.false_and] at h; cases h)]
           exact wpAny_pure hQ))
def La (K:PySem.W.Frag) (a:Addr):It:=
 ⟨fun i H=>∃ xs x,dE K H a xs /\ xs[i]? = some x,fun i H x H'=>H'=H /\ ∀ xs,dE K H a xs -> xs[i]? = some x,fun i H=>∃ xs,dE K H a xs /\ xs.length ≤ i⟩
def Lb (K:PySem.W.Frag) (a:Addr):It:=
 ⟨fun i H=>∃ xs x,js K H a xs /\ xs[i]? = some x,fun i H x H'=>H'=H /\ ∀ xs,js K H a xs -> xs[i]? = some x,fun i H=>∃ xs,js K H a xs /\ xs.length ≤ i⟩
def KI (lo:Int) (n:Nat):It:=⟨fun i _=>i < n,fun i H x H'=>H'=H /\ x=.int (lo + i),fun i _=>n ≤ i⟩
theorem Bn {P:Program} {w:World} {K:PySem.W.Frag} {tg:Expr} (a it:Addr):Turn P w K tg (La K a) [it] it (fun i h=>h.IsListIter it a i) where
 mem:=by simp
 obj:=fun i h st b hb=>by
  have e:b=it:=by simpa using hb
  subst e
  obtain ⟨o,e,c,d⟩:=st
  exact ⟨o,e,fun v z=>by rw [d] at z; cases z⟩
 keep:=fun i h h' st k=>st.at fun o e=>k it (by simp) o e
 item:=by
  intro X hP hw hK hc i pins s σ H E I hf st hg
  subst hP hw hK
  obtain ⟨xs,x,hq,hx⟩:=hg
  obtain ⟨its,rv,p,hz⟩:=I.list hq
  obtain ⟨u,hu,ru⟩:=rv.get hx
  obtain ⟨f0,f1,f2,f3,f4,f5⟩:=hf it (by simp)
  refine wpAny_pyNext_list_item st p.isList (x:=u) (by simpa using hu) fun h' st' sb=>?_
  have I1:Inv X pins σ H { s with heap:=h' }:=I.turned (t':=s.toks) (fun b o hb e=>(sb.2 b hb).trans e) f0 f1 f3 f4 f5
  obtain ⟨o,e,c,d⟩:=id st'
  exact ⟨u,rfl,Cq (s:={ s with heap:=h' }) e c d (by decide) ⟨x,H,I1,ru,⟨rfl,fun ys hy=>by rw [I.list_inj hy hq]; exact hx⟩,st',fun b hb=>(hf b hb).1⟩⟩
 done:=by
  intro X hP hw hK hc i pins s σ H E I hf st hg
  subst hP hw hK
  obtain ⟨xs,hq,hx⟩:=hg
  obtain ⟨its,rv,p,hz⟩:=I.list hq
  obtain ⟨f0,f1,f2,f3,f4,f5⟩:=hf it (by simp)
  have hl:=rv.length
  exact wpAny_pyNext_list_end (I.ok.hd hc) st p.isList (by simp; omega) fun h' eb=>⟨rfl,I.turned (t':=s.toks) (fun b o hb e=>eb b o hb e) f0 f1 f3 f4 f5⟩
 self:=fun _ _ _ _ _ st h=>wpAny_pyIter_listiter st h
theorem yE {P:Program} {w:World} {K:PySem.W.Frag} {tg:Expr} (a it:Addr):Turn P w K tg (Lb K a) [it] it (fun i h=>h.IsTupleIter it a i) where
 mem:=by simp
 obj:=fun i h st b hb=>by
  have e:b=it:=by simpa using hb
  subst e
  obtain ⟨o,e,c,d⟩:=st
  exact ⟨o,e,fun v z=>by rw [d] at z; cases z⟩
 keep:=fun i h h' st k=>st.at fun o e=>k it (by simp) o e
 item:=by
  intro X hP hw hK hc i pins s σ H E I hf st hg
  subst hP hw hK
  obtain ⟨xs,x,hq,hx⟩:=hg
  obtain ⟨its,rv,p,hz⟩:=I.tuple hq
  obtain ⟨u,hu,ru⟩:=rv.get hx
  obtain ⟨f0,f1,f2,f3,f4,f5⟩:=hf it (by simp)
  refine wpAny_pyNext_tuple_item st (show s.heap.IsTuple a its.toArray from p) (x:=u) (by simpa using hu) fun h' st' sb=>?_
  have I1:Inv X pins σ H { s with heap:=h' }:=I.turned (t':=s.toks) (fun b o hb e=>(sb.2 b hb).trans e) f0 f1 f3 f4 f5
  obtain ⟨o,e,c,d⟩:=id st'
  exact ⟨u,rfl,Cq (s:={ s with heap:=h' }) e c d (by decide) ⟨x,H,I1,ru,⟨rfl,fun ys hy=>by rw [I.tuple_inj hy hq]; exact hx⟩,st',fun b hb=>(hf b hb).1⟩⟩
 done:=by
  intro X hP hw hK hc i pins s σ H E I hf st hg
  subst hP hw hK
  obtain ⟨xs,hq,hx⟩:=hg
  obtain ⟨its,rv,p,hz⟩:=I.tuple hq
  obtain ⟨f0,f1,f2,f3,f4,f5⟩:=hf it (by simp)
  have hl:=rv.length
  exact wpAny_pyNext_tuple_end (I.ok.hd hc) st (show s.heap.IsTuple a its.toArray from p) (by simp; omega) fun h' eb=>⟨rfl,I.turned (t':=s.toks) (fun b o hb e=>eb b o hb e) f0 f1 f3 f4 f5⟩
 self:=fun _ _ _ _ _ st h=>wpAny_pyIter_tupleiter st h
theorem yC {P:Program} {w:World} {K:PySem.W.Frag} {tg:Expr} (it:Addr) (lo:Int) (n:Nat):Turn P w K tg (KI lo n) [it] it (fun i h=>IsRangeIter h it (lo + (i:Nat) * 1) ((n:Int) - (i:Nat)) 1) where
 mem:=by simp
 obj:=fun i h st b hb=>by
  have e:b=it:=by simpa using hb
  subst e
  exact ⟨_,st,fun v z=>by
   have z':Data.fields _=Data.cell v:=z
   cases z'⟩
 keep:=fun i h h' st k=>k it (by simp) _ st
 item:=by
  intro X hP hw hK hc i pins s σ H E I hf st hg
  subst hP hw hK
  obtain ⟨f0,f1,f2,f3,f4,f5⟩:=hf it (by simp)
  have W:=Walks.range (prog:=X.prog) (w:=X.w) (I.ok.hd hc) it lo 1 n
  refine W.item i s _ _ hg st fun v h' tk hv st' kk=>?_
  obtain ⟨t,rfl⟩:=hv
  have I1:Inv X pins σ H { s with heap:=h',toks:=tk }:=I.turned (fun b o hb e=>kk b o (by simpa using hb) e) f0 f1 f3 f4 f5
  refine ⟨_,rfl,Cq (s:={ s with heap:=h',toks:=tk }) (n := "range_iterator") st' rfl rfl (by decide) ⟨.int (lo + i),H,I1,⟨t,?_⟩,⟨rfl,rfl⟩,st',fun b hb=>(hf b hb).1⟩⟩
  rw [Int.mul_one]
 done:=by
  intro X hP hw hK hc i pins s σ H E I hf st hg
  subst hP hw hK
  obtain ⟨f0,f1,f2,f3,f4,f5⟩:=hf it (by simp)
  exact wpAny_pyNext_range_end (I.ok.hd hc) st (by have:n ≤ i:=hg; omega) fun h' eb=>⟨rfl,I.turned (t':=s.toks) (fun b o hb e=>eb b o hb e) f0 f1 f3 f4 f5⟩
 self:=fun _ _ _ _ _ st h=>wpAny_pyIter_rangeiter st h
open PySem PySem.Spec PyProof.Rows
section
variable {X:Cx} {tg:Expr}
def JM (K:PySem.W.Frag) (tl:TE):TI:=fun σ H R=>tl σ H fun x H1=>∃ a,x=.ref a /\ (∃ xs,dE K H1 a xs) /\ R (La K a) H1
def Lx (K:PySem.W.Frag) (tl:TE):TI:=fun σ H R=>tl σ H fun x H1=>∃ a,x=.ref a /\ (∃ xs,js K H1 a xs) /\ R (Lb K a) H1
theorem mD {l:Expr} {tl:TE} (hl:PE X l tl):PI X tg l (JM X.K tl):=by
 intro pins s σ H R I h
 refine df (hl pins s σ H _ I h) fun v s1 ⟨x,H1,I1,r1,q1⟩=>?_
 obtain ⟨a,e,⟨xs,hq⟩,q⟩:=q1
 subst e
 cases r1
 obtain ⟨its,rv,p,hz⟩:=I1.list hq
 refine wpAny_pyIter_list p.isList ?_
 refine ⟨s1.heap.objs.size,[s1.heap.objs.size],_,_,H1,rfl,I1.kept (t':=s1.toks) fun b o e=>Heap.get?_push_of_some _ e,Bn a _,⟨_,Heap.get?_push_size _ rfl,rfl,rfl⟩,fun b hb=>?_,q⟩
 have e:b=s1.heap.objs.size:=by simpa using hb
 subst e
 exact I1.fpOk (Nat.le_refl _) (I1.hok.fresh (Nat.le_refl _))
theorem Dd {l:Expr} {tl:TE} (hl:PE X l tl):PI X tg l (Lx X.K tl):=by
 intro pins s σ H R I h
 refine df (hl pins s σ H _ I h) fun v s1 ⟨x,H1,I1,r1,q1⟩=>?_
 obtain ⟨a,e,⟨xs,hq⟩,q⟩:=q1
 subst e
 cases r1
 obtain ⟨its,rv,p,hz⟩:=I1.tuple hq
 refine wpAny_pyIter_tuple (show s1.heap.IsTuple a its.toArray from p) ?_
 refine ⟨s1.heap.objs.size,[s1.heap.objs.size],_,_,H1,rfl,I1.kept (t':=s1.toks) fun b o e=>Heap.get?_push_of_some _ e,yE a _,⟨_,Heap.get?_push_size _ rfl,rfl,rfl⟩,fun b hb=>?_,q⟩
 have e:b=s1.heap.objs.size:=by simpa using hb
 subst e
 exact I1.fpOk (Nat.le_refl _) (I1.hok.fresh (Nat.le_refl _))
theorem Dp {pins:List (Addr × Obj)} {σ:St} {H:Hp} {s:Shared} {R:It -> Hp -> Prop} {E:Value -> Shared -> Prop} {lo hi:Int} {t u v:Tok} {tk:Nat} (I:Inv X pins σ H s) (h1 : -(2 ^ 62) ≤ lo) (h2:lo < 2 ^ 62) (h3 : -(2 ^ 62) ≤ hi) (h4:hi < 2 ^ 62)
  (q:R (KI lo (hi - lo).toNat) H):wpAny (model X.prog X.w) X.A (pyIter (.ref s.heap.objs.size)) (Mf X pins σ tg R) E { s with heap:=s.heap.push { cls:=.type "range", data:=.fields #[.int lo t,.int hi u,.int 1 v] },toks:=tk }:=by
 refine wpAny_pyIter_range (IsRange.new ..) (small_one h1 h2 h3 h4) ?_
 have I1:Inv X pins σ H { s with heap:=s.heap.push { cls:=.type "range", data:=.fields #[.int lo t,.int hi u,.int 1 v] },toks:=tk }:=I.kept fun b o e=>Heap.get?_push_of_some _ e
 refine ⟨(s.heap.push { cls:=.type "range", data:=.fields #[.int lo t,.int hi u,.int 1 v] }).objs.size,[(s.heap.push { cls:=.type "range", data:=.fields #[.int lo t,.int hi u,.int 1 v] }).objs.size],_,_,H,rfl,
  I1.kept (t':=tk) fun b o e=>Heap.get?_push_of_some _ e,yC _ lo (hi - lo).toNat,?_,fun b hb=>?_,q⟩
 ·have e1:lo + ((0:Nat):Int) * 1=lo:=by simp
  have e2:(((hi - lo).toNat:Nat):Int) - ((0:Nat):Int)=Builtin.Range.rangeSize lo hi 1:=by rw [rangeSize_one]; split <;> omega
  show IsRangeIter _ _ (lo + ((0:Nat):Int) * 1) ((((hi - lo).toNat:Nat):Int) - ((0:Nat):Int)) 1
  rw [e1,e2]
  exact Heap.get?_push_size _ rfl
 ·have e:b=(s.heap.push { cls:=.type "range", data:=.fields #[.int lo t,.int hi u,.int 1 v] }).objs.size:=by simpa using hb
  subst e
  exact I1.fpOk (Nat.le_refl _) (I1.hok.fresh (Nat.le_refl _))
def JN (ta:TA):TI:=fun σ H R=>ta σ H fun vs H1=>∃ j:Int,vs=[.int j] /\ -(2 ^ 62) ≤ j /\ j < 2 ^ 62 /\ R (KI 0 j.toNat) H1
theorem AZ {a:Expr} {ta:TA} {p pos:Pos} (hg:Gl X "range") (hm:X.mg "range" = none) (ha:PA X [a] ta) (hs:starEach [a] X.env=[(false,eval a X.env)]:=by rfl):PI X tg (.Call (.Name "range" p) [a] [] pos) (JN ta):=by
 intro pins s σ H R I h
 refine Call_ (ll I hg hm boot_range (PyProof.Rows.callWith_type1 (df (ha pos pins s σ H _ I h) fun us s1 ⟨vs,H1,I1,r1,q1⟩=>?_) hs rfl))
 obtain ⟨j,e,q1,q2,q⟩:=q1
 subst e
 cases r1 with
 | cons r rr =>
  cases rr
  obtain ⟨t,rfl⟩:=r
  exact call_range_1 (Dp I1 (by omega) (by omega) q1 q2 (by simpa using q))
def LV (wi:TI) (g:TG) (tb:TS):TS:=fun D σ H=>wi σ H fun J H1=>∃ W:Nat -> Nat -> St -> Hp -> Prop,(∃ m,W 0 m σ H1) /\ ∀ i m σ H,W i m σ H ->
 (J.stop i H /\ D.nx σ H) \/ (J.go i H /\ ∃ N:St -> Hp -> Prop,(∀ σ' H',N σ' H' -> ∃ m',m' < m /\ W (i + 1) m' σ' H') /\ ∀ x H',J.yld i H x H' -> g x σ H' fun σ2 H2=>tb { D with nx:=N,ct:=N,bk:=D.nx } σ2 H2)
def ni (fp:List Addr) (h:Heap):List (Addr × Obj):=fp.filterMap fun b=>(h.get? b).map fun o=>(b,o)
theorem fN {fp:List Addr} {h:Heap} {b:Addr} {o:Obj} (hb:b ∈ fp) (e:h.get? b=some o):(b,o) ∈ ni fp h:=List.mem_filterMap.mpr ⟨b,hb,by rw [e]; rfl⟩
theorem AS {fp:List Addr} {h:Heap} {p:Addr × Obj} (hp:p ∈ ni fp h):p.1 ∈ fp /\ h.get? p.1=some p.2:=by
 obtain ⟨b,hb,e⟩:=List.mem_filterMap.mp hp
 cases q:h.get? b with
 | none=>rw [q] at e; cases e
 | some o =>
  rw [q] at e
  have e':(b,o)=p:=Option.some.inj e
  subst e'
  exact ⟨hb,q⟩
theorem Inv.pinned {pins:List (Addr × Obj)} {σ:St} {H:Hp} {s:Shared} {fp:List Addr} (I:Inv X pins σ H s) (hf:∀ b ∈ fp,qG X pins H b) (ho:∀ b ∈ fp,∃ o,s.heap.get? b=some o /\ ∀ v,o.data ≠ .cell v):Inv X (pins ++ ni fp s.heap) σ H s:=
 I.pins_of fun p hp=>(List.mem_append.mp hp).elim (fun z=>I.pin p (List.mem_append_right _ z)) fun z=>by
  obtain ⟨hb,e⟩:=AS z
  obtain ⟨f0,f1,f2,_⟩:=hf p.1 hb
  obtain ⟨o,e',d⟩:=ho p.1 hb
  rw [e] at e'; cases e'
  exact ⟨e,f0,f1,f2,d⟩
theorem Inv.unpinned {pins pl:List (Addr × Obj)} {σ:St} {H:Hp} {s:Shared} (I:Inv X (pins ++ pl) σ H s):Inv X pins σ H s:=I.pins_of fun p hp=>I.pin p (List.mem_append_right _ (List.mem_append_left _ hp))
theorem lI {iter:Expr} {body:List Stmt} {wi:TI} {g:TG} {tb:TS} {pos:Pos} (hp:PassesOwn (model X.prog X.w) X.A X.env X.xe) (hc:X.calm=true) (hi:PI X tg iter wi) (hg:PG X tg g) (hb:iQ X body tb)
  (hs:∀ x,foldedSetIterable iter X.env x=pure x:=by intro _; rfl):PS X (.For tg iter body [] pos) (LV wi g tb):=by
 intro pins s σ H D I h
 refine wpAny_For (df (hi pins s σ H _ I h) fun v s1 h1=>df h1 fun itv s2 h2=>?_) hs
 obtain ⟨it,fp,tn,J,H2,e,I2,T,st2,f2,W,⟨m0,w0⟩,turn⟩:=h2
 subst e
 -- what stays true of the iterator's objects through the loop
 have stat:∀ {H':Hp},(∀ b ∈ fp,H' b=none) -> ∀ b ∈ fp,qG X pins H' b:=fun hn b hb=>⟨hn b hb,(f2 b hb).2⟩
 refine codeAny_forLoop_any (fun n s'=>∃ i σ' H',Inv X pins σ' H' s' /\ tn i s'.heap /\ (∀ b ∈ fp,H' b=none) /\ W i n σ' H') ?_ m0 ⟨0,σ,H2,I2,st2,fun b hb=>(f2 b hb).1,w0⟩
 rintro n s3 ⟨i,σ3,H3,I3,st3,fr3,w3⟩
 rcases turn i n σ3 H3 w3 with ⟨stop,qn⟩ | ⟨go,N,hN,step⟩
 ·refine wpAny_passesOwn hp (df (T.done X rfl rfl rfl hc i pins s3 σ3 H3 X.xe I3 (stat fr3) st3 stop) fun r s4 ⟨hr,I4⟩=>?_)
  subst hr
  exact wpAny_execs_nil ⟨σ3,H3,I4,qn⟩
 ·refine wpAny_passesOwn hp (df (T.item X rfl rfl rfl hc i pins s3 σ3 H3 X.xe I3 (stat fr3) st3 go) fun r s4 ⟨u,hr,h4⟩=>?_)
  subst hr
  refine wpAny_passesOwn hp (df h4 fun _ s5 ⟨x,H5,I5,r5,y5,st5,fr5⟩=>?_)
  have I5':=I5.pinned (stat fr5) (T.obj _ _ st5)
  refine wpAny_passesOwn hp (df (hg _ s5 σ3 H5 x u _ I5' r5 (step x H5 y5)) fun _ s6 ⟨σ6,H6,I6,q6⟩=>?_)
  refine wpAny_passesOwn hp (df (hb _ s6 σ6 H6 _ I6 q6) fun f s7 q7=>?_)
  have again:∀ {σ7:St} {H7:Hp},Inv X (pins ++ ni fp s5.heap) σ7 H7 s7 -> N σ7 H7 -> ∃ m,m < n /\ ∃ i σ' H',Inv X pins σ' H' s7 /\ tn i s7.heap /\ (∀ b ∈ fp,H' b=none) /\ W i m σ' H':=fun {σ7 H7} I7 n7=>by
   obtain ⟨m',hm,w7⟩:=hN σ7 H7 n7
   refine ⟨m',hm,i + 1,σ7,H7,I7.unpinned,T.keep _ _ _ st5 fun b hb o e=>(I7.pin (b,o) (List.mem_append_right _ (List.mem_append_right _ (fN hb e)))).1,fun b hb=>?_,w7⟩
   obtain ⟨o,e,d⟩:=T.obj _ _ st5 b hb
   exact (I7.pin (b,o) (List.mem_append_right _ (List.mem_append_right _ (fN hb e)))).2.1
  cases f with
  | next=>obtain ⟨σ7,H7,I7,n7⟩:=q7; exact again I7 n7
  | cont=>obtain ⟨σ7,H7,I7,n7⟩:=q7; exact again I7 n7
  | brk=>obtain ⟨σ7,H7,I7,q7⟩:=q7; exact ⟨σ7,H7,I7.unpinned,q7⟩
  | ret v=>obtain ⟨x7,σ7,H7,I7,r7,q7⟩:=q7; exact ⟨x7,σ7,H7,I7.unpinned,r7,q7⟩
end
open PySem PySem.Spec PyProof.Rows
abbrev R2:=V -> V -> Hp -> VK -> Prop
def nY (X:Cx) (f:Value -> Value -> Sem Value) (r:R2):Prop:=
 ∀ (pins:List (Addr × Obj)) (s:Shared) (σ:St) (H:Hp) (x y:V) (v u:Value) (Q:VK),Inv X pins σ H s -> RelV x v -> RelV y u -> r x y H Q ->
  wpAny (model X.prog X.w) X.A (f v u) (EP X pins σ Q) X.xe s
def KL (X:Cx) (f:Value -> Sem Value) (r:V -> Hp -> VK -> Prop):Prop:=
 ∀ (pins:List (Addr × Obj)) (s:Shared) (σ:St) (H:Hp) (x:V) (v:Value) (Q:VK),Inv X pins σ H s -> RelV x v -> r x H Q ->
  wpAny (model X.prog X.w) X.A (f v) (EP X pins σ Q) X.xe s
def gW (X:Cx) (f:Value) (r:List V -> Hp -> VK -> Prop):Prop:=
 ∀ (pins:List (Addr × Obj)) (s:Shared) (σ:St) (H:Hp) (xs:List V) (us:List Value) (Q:VK),Inv X pins σ H s -> Vals xs us -> r xs H Q ->
  wpAny (model X.prog X.w) X.A (call f us) (EP X pins σ Q) X.xe s
def Lf (X:Cx) (r:V -> Hp -> (Bool -> Hp -> Prop) -> Prop):Prop:=
 ∀ (pins:List (Addr × Obj)) (s:Shared) (σ:St) (H:Hp) (x:V) (v:Value) (Q:Bool -> Hp -> Prop),Inv X pins σ H s -> RelV x v -> r x H Q ->
  wpAny (model X.prog X.w) X.A (truthy v) (TP X pins σ Q) X.xe s
def Ky (r:R2) (ta tb:TE):TE:=fun σ H Q=>ta σ H fun x H1=>tb σ H1 fun y H2=>r x y H2 Q
def M1 (r:V -> Hp -> VK -> Prop) (ta:TE):TE:=fun σ H Q=>ta σ H fun x H1=>r x H1 Q
def rI (C:Int -> Int -> Prop) (g:Int -> Int -> V):R2:=fun x y H Q=>∃ i j,x=.int i /\ y=.int j /\ C i j /\ Q (g i j) H
def Fu (g:Int -> Int -> V):R2:=fun x y H Q=>∃ i j,x=.int i /\ y=.int j /\ Q (g i j) H
def rU (g:Int -> V):V -> Hp -> VK -> Prop:=fun x H Q=>∃ i,x=.int i /\ Q (g i) H
section
variable {X:Cx} {a b c:Expr} {ta tb tc:TE} {pos:Pos}
theorem G0 (ha:PE X a ta) (hb:PE X b tb) {pins:List (Addr × Obj)} {s:Shared} {σ:St} {H:Hp} {R:V -> V -> Hp -> Prop} (I:Inv X pins σ H s)
  (h:ta σ H fun x H1=>tb σ H1 fun y H2=>R x y H2) {Q:Value -> Shared -> Prop} {f:Value -> Value -> Sem Value}
  (hf:∀ v u s2 x y H2,Inv X pins σ H2 s2 -> RelV x v -> RelV y u -> R x y H2 -> wpAny (model X.prog X.w) X.A (f v u) Q X.xe s2) :
  wpAny (model X.prog X.w) X.A (eval a X.env) (fun v s₁=>wpAny (model X.prog X.w) X.A (eval b X.env) (fun u s₂=>wpAny (model X.prog X.w) X.A (f v u) Q X.xe s₂) X.xe s₁) X.xe s:=by
 refine df (ha pins s σ H _ I h) fun v s1 ⟨x,H1,I1,r1,q1⟩=>?_
 refine df (hb pins s1 σ H1 _ I1 q1) fun u s2 ⟨y,H2,I2,r2,q2⟩=>?_
 exact hf v u s2 x y H2 I2 r1 r2 q2
theorem Ke {op:Operator} {r:R2} (ho:nY X (binaryOp op) r) (ha:PE X a ta) (hb:PE X b tb):PE X (.BinOp a op b pos) (Ky r ta tb):=by
 intro pins s σ H Q I h
 exact wpAny_BinOp (G0 ha hb I h fun v u s2 x y H2 I2 rx ry q=>ho pins s2 σ H2 x y v u Q I2 rx ry q)
theorem Kf {op:UnaryOp} {r:V -> Hp -> VK -> Prop} (ho:KL X (unaryOp op) r) (ha:PE X a ta):PE X (.UnaryOp op a pos) (M1 r ta):=by
 intro pins s σ H Q I h
 exact UnaryOp_ (df (ha pins s σ H _ I h) fun v s1 ⟨x,H1,I1,r1,q1⟩=>ho pins s1 σ H1 x v Q I1 r1 q1)
theorem LI {f:Value -> Value -> Sem Value} {C:Int -> Int -> Prop} {g:Int -> Int -> Int}
  (rule:∀ (i j:Int) (t u:Tok) (s:Shared) (Q:Value -> Shared -> Prop) (E:Value -> Shared -> Prop),C i j -> Q (.int (g i j) s.toks) { s with toks:=s.toks + 1 } -> wpAny (model X.prog X.w) X.A (f (.int i t) (.int j u)) Q E s) :
  nY X f (rI C fun i j=>.int (g i j)):=by
 intro pins s σ H x y v u Q I rx ry h
 obtain ⟨i,j,rfl,rfl,hc,q⟩:=h
 obtain ⟨t,rfl⟩:=rx
 obtain ⟨t',rfl⟩:=ry
 exact rule i j t t' s _ _ hc ⟨.int (g i j),H,I.tok _,⟨_,rfl⟩,q⟩
theorem J6 {f:Value -> Value -> Sem Value} {g:Int -> Int -> Int}
  (rule:∀ (i j:Int) (t u:Tok) (s:Shared) (Q:Value -> Shared -> Prop) (E:Value -> Shared -> Prop),Q (.int (g i j) s.toks) { s with toks:=s.toks + 1 } -> wpAny (model X.prog X.w) X.A (f (.int i t) (.int j u)) Q E s) :
  nY X f (Fu fun i j=>.int (g i j)):=by
 intro pins s σ H x y v u Q I rx ry h
 obtain ⟨i,j,rfl,rfl,q⟩:=h
 obtain ⟨t,rfl⟩:=rx
 obtain ⟨t',rfl⟩:=ry
 exact rule i j t t' s _ _ ⟨.int (g i j),H,I.tok _,⟨_,rfl⟩,q⟩
theorem E5 {f:Value -> Value -> Sem Value} {g:Int -> Int -> Bool}
  (rule:∀ (i j:Int) (t u:Tok) (s:Shared) (Q:Value -> Shared -> Prop) (E:Value -> Shared -> Prop),Q (.bool (g i j)) s -> wpAny (model X.prog X.w) X.A (f (.int i t) (.int j u)) Q E s) :
  nY X f (Fu fun i j=>.bl (g i j)):=by
 intro pins s σ H x y v u Q I rx ry h
 obtain ⟨i,j,rfl,rfl,q⟩:=h
 obtain ⟨t,rfl⟩:=rx
 obtain ⟨t',rfl⟩:=ry
 exact rule i j t t' s _ _ ⟨.bl (g i j),H,I,rfl,q⟩
def K7 (i j:Int):Prop:=0 ≤ j /\ j ≤ 1000000 /\ i.natAbs < 2 ^ 64
def IV (i j:Int):Prop:=(-(2 ^ 64) < i /\ i < 2 ^ 64) \/ (-(2 ^ 64) < j /\ j < 2 ^ 64)
theorem IV.ok {i j:Int} (h:IV i j):IntMulOk i j:=by
 rcases h with ⟨h1,h2⟩ | ⟨h1,h2⟩
 ·exact .of_left (intBits_le_64 h1 h2)
 ·exact .of_right (intBits_le_64 h1 h2)
theorem HK:nY X (binaryOp .Add) (Fu fun i j=>.int (i + j)):=J6 fun _ _ _ _ _ _ _ q=>add_int q
theorem HM:nY X (binaryOp .Sub) (Fu fun i j=>.int (i - j)):=J6 fun _ _ _ _ _ _ _ q=>sub_int q
theorem Fb:nY X (binaryOp .Mod) (rI (fun _ j=>j ≠ 0) fun i j=>.int (i.fmod j)):=LI fun _ _ _ _ _ _ _ hc q=>mod_int' hc q
theorem M3 {f:Value -> Sem Value} {g:Int -> Int}
  (rule:∀ (i:Int) (t:Tok) (s:Shared) (Q:Value -> Shared -> Prop) (E:Value -> Shared -> Prop),Q (.int (g i) s.toks) { s with toks:=s.toks + 1 } -> wpAny (model X.prog X.w) X.A (f (.int i t)) Q E s) :
  KL X f (rU fun i=>.int (g i)):=by
 intro pins s σ H x v Q I rx h
 obtain ⟨i,rfl,q⟩:=h
 obtain ⟨t,rfl⟩:=rx
 exact rule i t s _ _ ⟨.int (g i),H,I.tok _,⟨_,rfl⟩,q⟩
theorem IE:KL X (unaryOp .USub) (rU fun i=>.int (-i)):=M3 fun _ _ _ _ _ q=>neg_int q
end
section
variable {X:Cx} {a b c:Expr} {ta tb tc:TE} {pos:Pos}
theorem Ka:nY X (compareOp .Lt) (Fu fun i j=>.bl (decide (i < j))):=E5 fun _ _ _ _ _ _ _ q=>lt_int q
theorem J9:nY X (compareOp .LtE) (Fu fun i j=>.bl (decide (i ≤ j))):=E5 fun _ _ _ _ _ _ _ q=>le_int q
theorem J8:nY X (compareOp .Gt) (Fu fun i j=>.bl (decide (j < i))):=E5 fun _ _ _ _ _ _ _ q=>gt_int q
theorem J7:nY X (compareOp .GtE) (Fu fun i j=>.bl (decide (j ≤ i))):=E5 fun _ _ _ _ _ _ _ q=>ge_int q
theorem nY.or {f:Value -> Value -> Sem Value} {r r':R2} (h:nY X f r) (h':nY X f r'):nY X f (fun x y H Q=>r x y H Q \/ r' x y H Q):=by
 intro pins s σ H x y v u Q I rx ry q
 rcases q with q | q
 ·exact h pins s σ H x y v u Q I rx ry q
 ·exact h' pins s σ H x y v u Q I rx ry q
theorem bK (b:Expr) {op:CmpOp} (h:op ≠ .In:=by decide) (h2:op ≠ .NotIn:=by decide):behindInMarks op b=false:=by
 have e1:(op == CmpOp.In)=false:=by cases op <;> first | rfl | exact absurd rfl h
 have e2:(op == CmpOp.NotIn)=false:=by cases op <;> first | rfl | exact absurd rfl h2
 cases b <;> simp [behindInMarks,e1,e2]
theorem Fg {op:CmpOp} {r:R2} (ho:nY X (compareOp op) r) (ha:PE X a ta) (hb:PE X b tb) (hm:behindInMarks op b=false):PE X (.Compare a [op] [b] pos) (Ky r ta tb):=by
 intro pins s σ H Q I h
 exact wpAny_Compare1 (G0 ha hb I h fun v u s2 x y H2 I2 rx ry q=>ho pins s2 σ H2 x y v u Q I2 rx ry q) hm
def GP (t:TE):TT:=fun σ H Q=>t σ H fun x H'=>∃ k,x=.bl k /\ Q k H'
theorem Fp {op:CmpOp} {r:R2} (ho:nY X (compareOp op) r) (ha:PE X a ta) (hb:PE X b tb) (hm:behindInMarks op b=false):PT X (.Compare a [op] [b] pos) (GP (Ky r ta tb)):=by
 intro pins s σ H Q I h
 refine wpAny_isTrue_Compare1 (df (ha pins s σ H _ I h) fun v s1 ⟨x,H1,I1,r1,q1⟩=>df (hb pins s1 σ H1 _ I1 q1) fun u s2 ⟨y,H2,I2,r2,q2⟩ =>
  df (ho pins s2 σ H2 x y v u _ I2 r1 r2 q2) fun c s3 ⟨z,H3,I3,r3,k,e,q3⟩=>?_) hm
 subst e
 cases r3
 exact wpAny_truthy_bool ⟨H3,I3,q3⟩
def DM (r r':R2) (ta tb tc:TE):TE:=fun σ H Q=>ta σ H fun x H1=>tb σ H1 fun y H2=>r x y H2 fun z H3=>∃ k,z=.bl k /\
 (if k=true then tc σ H3 fun w' H4=>r' y w' H4 Q else Q (.bl false) H3)
theorem Dl {op op':CmpOp} {r r':R2} (ho:nY X (compareOp op) r) (ho':nY X (compareOp op') r') (ha:PE X a ta) (hb:PE X b tb) (hc:PE X c tc)
  (hm:lastMarks [op,op'] [b,c]=false:=by with_unfolding_all rfl):PT X (.Compare a [op,op'] [b,c] pos) (GP (DM r r' ta tb tc)):=by
 intro pins s σ H Q I h
 refine isTrue_chain (df (ha pins s σ H _ I h) fun v s1 ⟨x,H1,I1,r1,q1⟩=>test_link (df (hb pins s1 σ H1 _ I1 q1) fun u s2 ⟨y,H2,I2,r2,q2⟩ =>
  df (ho pins s2 σ H2 x y v u _ I2 r1 r2 q2) fun d s3 ⟨z,H3,I3,r3,k,e,q3⟩=>?_)) hm
 subst e
 cases r3
 refine wpAny_truthy_bool ?_
 cases k with
 | false =>
  obtain ⟨k',e',q'⟩:=q3
  cases e'
  exact ite_ff ⟨H3,I3,q'⟩
 | true =>
  refine ite_tt (test_last (df (hc pins s3 σ H3 _ I3 q3) fun w' s4 ⟨z',H4,I4,r4,q4⟩=>df (ho' pins s4 σ H4 y z' u w' _ I4 r2 r4 q4) fun d' s5 ⟨z2,H5,I5,r5,k2,e2,q5⟩=>?_))
  subst e2
  cases r5
  exact wpAny_truthy_bool ⟨H5,I5,q5⟩
def GW (K:PySem.W.Frag) (x:V) (H:Hp) (k:Bool):Prop:=
 match x with
 | .non=>k=false
 | .bl b=>k=b
 | .int i=>k=(i != 0)
 | .str y=>y.length ≤ sizeLine /\ k=((y.length:Int) != 0)
 | .byt y=>y.size ≤ sizeLine /\ k=((y.size:Int) != 0)
 | .ref p=>(∃ xs,dE K H p xs /\ k = !xs.isEmpty) \/ (∃ xs,js K H p xs /\ k = !xs.isEmpty) \/ ∃ kvs,H p=some (.dK kvs) /\ k = !kvs.isEmpty
 | _=>False
theorem xI {κ:Type} {kvs:List (κ × V)} {vs:List (κ × Value)} (r:KV kvs vs):(!vs.isEmpty) = !kvs.isEmpty:=by
 cases r <;> rfl
theorem pD {xs:List V} {its:List Value} (r:Vals xs its):(!its.toArray.isEmpty) = !xs.isEmpty:=by
 cases r <;> simp
theorem ly:(sizeLine:Nat) < 2 ^ 63:=by rw [sizeLine_eq]; decide
theorem IB:Lf X (fun x H Q=>∃ k,GW X.K x H k /\ Q k H):=by
 intro pins s σ H x v Q I rx h
 obtain ⟨k,e,q⟩:=h
 have hl:=ly
 have hs:sizeLine=16777216:=sizeLine_eq
 cases x with
 | non =>
  cases rx
  have e':k=false:=e
  subst e'
  exact truthy_none ⟨H,I,q⟩
 | bl b =>
  cases rx
  have e':k=b:=e
  subst e'
  exact wpAny_truthy_bool ⟨H,I,q⟩
 | int i =>
  obtain ⟨t,rfl⟩:=rx
  have e':k=(i != 0):=e
  subst e'
  exact PySem.P.truthy_int ⟨H,I,q⟩
 | str y =>
  obtain ⟨t,rfl⟩:=rx
  obtain ⟨hy,e'⟩:y.length ≤ sizeLine /\ k=((y.length:Int) != 0):=e
  subst e'
  exact PySem.P.truthy_str (by omega) ⟨H,I.tok _,q⟩
 | byt y =>
  obtain ⟨t,rfl⟩:=rx
  obtain ⟨hy,e'⟩:y.size ≤ sizeLine /\ k=((y.size:Int) != 0):=e
  subst e'
  exact PySem.W.truthy_bytes (by omega) ⟨H,I.tok _,q⟩
 | ref p =>
  cases rx
  have e':(∃ xs,dE X.K H p xs /\ k = !xs.isEmpty) \/ (∃ xs,js X.K H p xs /\ k = !xs.isEmpty) \/ ∃ kvs,H p=some (.dK kvs) /\ k = !kvs.isEmpty:=e
  rcases e' with ⟨xs,hx,e'⟩ | ⟨xs,hx,e'⟩ | ⟨kvs,hx,e'⟩
  ·subst e'
   obtain ⟨its,r,pl,hz⟩:=I.list hx
   have hlen:=r.length
   exact wpAny_truthy_list pl.isList (by simp only [List.size_toArray]; omega) ⟨H,I.tok _,by rw [pD r]; exact q⟩
  ·subst e'
   obtain ⟨its,r,pl,hz⟩:=I.tuple hx
   have hlen:=r.length
   exact truthy_tuple pl (by simp only [List.size_toArray]; omega) ⟨H,I.tok _,by rw [pD r]; exact q⟩
  ·subst e'
   obtain ⟨hz,hS,vs,r,m⟩:kvs.length ≤ sizeLine /\ (p == sysModules)=false /\ ∃ vs,KV kvs vs /\ s.heap.DictOf (tQ X.prog X.w) p vs:=I.hok p _ hx
   have hlen:kvs.length=vs.length:=Paired.length r
   exact wpAny_truthy_dict hS m (by omega) ⟨H,I.tok _,by rw [xI r]; exact q⟩
 | _=>exact (show False from e).elim
theorem Dm (ha:PE X a ta) (he:∀ whole,isTrue a X.env whole=(do let v <- whole; standAt a.pos; holding [v] (truthy v))) :
  PT X a (fun σ H Q=>ta σ H fun x H'=>∃ k,GW X.K x H' k /\ Q k H'):=by
 intro pins s σ H Q I h
 exact isTrue_plain (df (ha pins s σ H _ I h) fun v s1 ⟨x,H1,I1,r1,q1⟩=>IB pins s1 σ H1 x v Q I1 r1 q1) (he _)
theorem yf:nY X (binaryOp .Add) (fun x y H Q=>∃ i j,x=.str i /\ y=.str j /\ i.length + j.length ≤ sizeLine /\ Q (.str (i ++ j)) H):=by
 intro pins s σ H x y v u Q I rx ry h
 obtain ⟨i,j,rfl,rfl,hz,q⟩:=h
 obtain ⟨t,rfl⟩:=rx
 obtain ⟨t',rfl⟩:=ry
 exact add_str (fun t' tk=>⟨.str (i ++ j),H,I.tok _,⟨_,rfl⟩,q⟩) hz
theorem vals1 {x:V} {us:List Value} (r:Vals [x] us):∃ u,us=[u] /\ RelV x u:=by
 cases r with
 | cons r1 r2=>cases r2; exact ⟨_,rfl,r1⟩
theorem BF:gW X (.builtin "abs") (fun xs H Q=>∃ i,xs=[.int i] /\ Q (.int (if i < 0 then -i else i)) H):=by
 intro pins s σ H xs us Q I r h
 obtain ⟨i,rfl,q⟩:=h
 obtain ⟨u,rfl,t,rfl⟩:=vals1 r
 exact call_abs_int fun u tk=>⟨.int (if i < 0 then -i else i),H,I.tok _,⟨_,rfl⟩,q⟩
end
open PySem PySem.Spec PyProof.Rows
structure w6 (h:Heap) (x dx C:Addr) (mA:Str -> Option Value):Prop where
 obj:h.get? x=some (PySem.W.instObj C dx)
 ns:h.Ns1 dx mA
 ne:dx ≠ x
theorem AN {h:Heap} {dx:Addr} {mA:Str -> Option Value} (n:h.Ns1 dx mA):∃ od,h.get? dx=some od /\ ∀ name,PySem.W.lookIn name od=some (mA name):=by
 obtain ⟨o,es,ep,ho,hd,hk,_,hm⟩:=n
 refine ⟨o,ho,fun name=>?_⟩
 have e:=hm name
 unfold nsFind findBy at e
 rw [<- Array.find?_toList] at e
 unfold PySem.W.lookIn
 rw [hd]
 dsimp only
 split
 ·rename_i y q
  rw [q] at e
  exact congrArg some e
 ·rename_i q
  rw [q] at e
  have a:es.toList.any (·.refKey)=false:=by
   rw [List.any_eq_false]
   intro y hy
   obtain ⟨z,t,hkey⟩:=hk y (Array.mem_toList_iff.mp hy)
   simp [DictEntry.refKey,hkey]
  have a':¬ es.toList.any (·.refKey)=true:=by rw [a]; exact Bool.false_ne_true
  rw [if_neg a']
  exact congrArg some e
theorem w6.look {h:Heap} {x dx C:Addr} {mA:Str -> Option Value} (I:w6 h x dx C mA):∃ od,PySem.W.InstAt h x (PySem.W.instObj C dx) C (some od) /\ ∀ name,PySem.W.lookIn name od=some (mA name):=
 let ⟨od,ho,hl⟩:=AN I.ns
 ⟨od,⟨I.obj,rfl,rfl,ho⟩,hl⟩
section
variable {prog:Program} {w:World} {A:Around} {E:Value -> Shared -> Prop} {s:Shared} {K:PySem.W.Frag} {x dx C f:Addr} {mA:Str -> Option Value} {name:Str} {v:Value}
theorem get_map {expr:Bool} {Q:Value -> Shared -> Prop} (X:K.In s.heap) (I:w6 s.heap x dx C mA) (hg:PySem.W.plainGet K C name=true) (hh:PySem.W.hasDictIn K C=true)
  (ha:PySem.W.findIn K (.ref C) name=some none) (hv:mA name=some v) (hv':PySem.W.handedIn v=true) (h:Q v { s with toks:=s.toks + 1 }) :
  wpAny (model prog w) A (getAttr (.ref x) name expr) Q E s:=by
 obtain ⟨od,J,hl⟩:=I.look
 exact PySem.W.get_value X J (PySem.W.plainGet_of hg).1 (PySem.W.findObj_own hh ha rfl (by rw [hl,hv])) hv' h
theorem Co {pl:Sem Bool} {Q:Value × List Value -> Shared -> Prop} (X:K.In s.heap) (I:w6 s.heap x dx C mA) (hg:PySem.W.plainGet K C name=true)
  (hf:PySem.W.findIn K (.ref C) name=some (some (.ref f))) (ht:PySem.W.isFn K (.ref f)=true) (hv:mA name=none) (h:Q (.ref f,[.ref x]) s) :
  wpAny (model prog w) A (getMethod (.ref x) name pl) Q E s:=by
 obtain ⟨od,J,hl⟩:=I.look
 exact PySem.W.method_fn X J (PySem.W.plainGet_of hg).1 (PySem.W.plainGet_of hg).2 hf (beq_iff_eq.mp ht) (by show (PySem.W.lookIn name od).map (·.isSome)=some false; rw [hl,hv]; rfl) h
theorem FC {ns:List Str} {Q:Unit -> Shared -> Prop} (X:K.In s.heap) (I:w6 s.heap x dx C mA)
  (hs:PySem.W.findIn K (.ref C) "__setattr__" = some (some (.builtin "object.__setattr__"))) (hp:PySem.W.plainOver K C=true) (ht:PySem.W.takerIn K C name=some none) (hh:PySem.W.hasDictIn K C=true)
  (hw:PySem.Within mA ns) (hsz:ns.length ≤ sizeLine)
  (h:∀ h',w6 h' x dx C (fun y=>if y=name then some v else mA y) -> Heap.SameBut dx s.heap h' -> Q () { s with heap:=h',toks:=s.toks + 2 }) :
  wpAny (model prog w) A (setAttr (.ref x) name v) Q E s:=by
 obtain ⟨od,J,hl⟩:=I.look
 refine PySem.W.set_plain X J hs (PySem.W.osa_open (s:={ s with toks:=s.toks + 1 }) (r:=none) X J hp ht fun b=>?_)
 obtain ⟨cd,hc,hd'⟩:=PySem.W.any_some hh
 have hx:s.heap.get? x=some ⟨.ref C,some dx,.plain,#[]⟩:=I.obj
 refine wpAny_bind (wpAny_pure (wpAny_bind (wpAny_bind (wpAny_loadPart hx (wpAny_bind (PySem.W.Looks.here (s:={ s with toks:=s.toks + 1 }) (PySem.W.looks_clsIn X hc) ?_))))))
 rw [hd']
 refine wpAny_pure (a:=some dx) (wpAny_bind (wpAny_pure (wpAny_bind ?_)))
 refine wpAny_nsSet1 (s:={ s with toks:=s.toks + 1 }) I.ns fun h' hn2 hs2=>?_
 obtain ⟨oD,esD,epD,hoD,hdD,hcD⟩:=hn2.count (PySem.Within.cons name v hw)
 refine wpAny_bind (wpAny_lookBehind hoD (by rw [hdD]; exact pastItsLine_dict (Nat.le_trans hcD (by rw [List.length_cons]; omega))) ?_)
 exact wpAny_pure (h _ ⟨(hs2.2 _ (Ne.symm I.ne)).trans I.obj,hn2,I.ne⟩ hs2)
theorem CQ {R:Result -> Shared -> Prop} {vs:List Value} {kw:List (Str × Value)} (X:K.In s.heap) (hm:PySem.W.makesIn K C=true)
  (hi:PySem.W.findIn K (.ref C) "__init__" = some (some (.ref f))) (hf:PySem.W.typeIn K (.ref f)=some (.type "function"))
  (h:codeAny (model prog w) (A.under (.builtin "type.__call__" ⟨.ref C :: vs,kw⟩)) (.call (.ref f) ⟨.ref (s.heap.objs.size + 1) :: vs,kw⟩) (PySem.W.InitBack (s.heap.objs.size + 1) R)
   { s with heap:=(s.heap.push PySem.W.emptyDict).push (PySem.W.instObj C s.heap.objs.size) }) :
  codeAny (model prog w) A (.call (.ref C) ⟨vs,kw⟩) R s:=by
 obtain ⟨hh,g,d,t,os⟩:=s
 exact PySem.W.make_core (PySem.W.makes_of X hm) (PySem.W.looks_findIn X hi) (fun self=>PySem.W.bind_fn X self hf) (.inl rfl) h
end
def ji (f:Str) (v:V):List (Str × V) -> List (Str × V)
 | []=>[(f,v)]
 | (g,x) :: r=>if g=f then (g,v) :: r else (g,x) :: ji f v r
theorem nR (f g:Str) (v:V):∀ fs:List (Str × V),(ji f v fs).lookup g=if g=f then some v else fs.lookup g
 | []=>by
  show List.lookup g [(f,v)]=_
  by_cases h:g=f
  ·have hb:(g == f)=true:=beq_iff_eq.mpr h
   simp only [List.lookup,hb,if_pos h]
  ·have hb:(g == f)=false:=beq_eq_false_iff_ne.mpr h
   simp only [List.lookup,hb,if_neg h]
 | (k,x) :: r=>by
  have ih:=nR f g v r
  rw [show ji f v ((k,x) :: r)=(if k=f then (k,v) :: r else (k,x) :: ji f v r) from rfl]
  by_cases hk:k=f
  ·rw [if_pos hk]
   by_cases h:g=k
   ·have hb:(g == k)=true:=beq_iff_eq.mpr h
    simp only [List.lookup,hb,if_pos (h.trans hk)]
   ·have hb:(g == k)=false:=beq_eq_false_iff_ne.mpr h
    simp only [List.lookup,hb,if_neg (fun e:g=f=>h (e.trans hk.symm))]
  ·rw [if_neg hk]
   by_cases h:g=k
   ·have hb:(g == k)=true:=beq_iff_eq.mpr h
    simp only [List.lookup,hb,if_neg (fun e:g=f=>hk (h.symm.trans e))]
   ·have hb:(g == k)=false:=beq_eq_false_iff_ne.mpr h
    simp only [List.lookup,hb]
    exact ih
theorem m6 (f:Str) (v:V):∀ fs:List (Str × V),f ∈ (ji f v fs).map (·.1) /\ ∀ g,g ∈ fs.map (·.1) -> g ∈ (ji f v fs).map (·.1)
 | []=>⟨by simp [ji],fun g h=>by simp at h⟩
 | (k,x) :: r=>by
  obtain ⟨i1,i2⟩:=m6 f v r
  rw [show ji f v ((k,x) :: r)=(if k=f then (k,v) :: r else (k,x) :: ji f v r) from rfl]
  by_cases hk:k=f
  ·rw [if_pos hk]
   subst hk
   exact ⟨by simp,fun g h=>by simpa using h⟩
  ·rw [if_neg hk]
   refine ⟨?_,fun g h=>?_⟩
   ·rw [List.map_cons]
    exact List.mem_cons_of_mem _ i1
   ·rw [List.map_cons] at h ⊢
    rcases List.mem_cons.mp h with e | e
    ·exact List.mem_cons.mpr (.inl e)
    ·exact List.mem_cons_of_mem _ (i2 g e)
theorem nQ (f:Str) (v:V):∀ fs:List (Str × V),(ji f v fs).length ≤ fs.length + 1
 | []=>by simp [ji]
 | (k,x) :: r=>by
  have ih:=nQ f v r
  rw [show ji f v ((k,x) :: r)=(if k=f then (k,v) :: r else (k,x) :: ji f v r) from rfl]
  by_cases hk:k=f
  ·rw [if_pos hk,List.length_cons,List.length_cons]; omega
  ·rw [if_neg hk,List.length_cons,List.length_cons]; omega
theorem qH.some_of {v:V} {o:Option Value} (r:qH (some v) o):∃ u,o=some u /\ RelV v u:=by
 cases o with
 | none=>exact (show False from r).elim
 | some u=>exact ⟨u,rfl,r⟩
theorem qH.none_of {o:Option Value} (r:qH none o):o=none:=by
 cases o with
 | none=>rfl
 | some u=>exact (show False from r).elim
theorem AJ {v:V} {u:Value} (r:RelV v u):PySem.W.handedIn u=true:=by
 cases v with
 | non=>cases (show u=Value.none from r); rfl
 | bl b=>cases (show u=Value.bool b from r); rfl
 | int i=>obtain ⟨t,e⟩:=(show ∃ t,u=Value.int i t from r); cases e; rfl
 | str x=>obtain ⟨t,e⟩:=(show ∃ t,u=Value.str x t from r); cases e; rfl
 | byt b=>obtain ⟨t,e⟩:=(show ∃ t,u=Value.bytes b t from r); cases e; rfl
 | flt b=>obtain ⟨t,e⟩:=(show ∃ t,u=Value.float b t from r); cases e; rfl
 | ref a=>cases (show u=Value.ref a from r); rfl
 | ty n=>cases (show u=Value.type n from r); rfl
section
variable {P:Program} {w:World} {H H':Hp} {h h':Heap} {a C dx:Addr} {fs fs':List (Str × V)}
theorem sP (hok:mQ P w H h) (e:H a=some (.ins C dx fs)):∃ mA,w6 h a dx C mA /\ (∀ f,qH (fs.lookup f) (mA f)) /\ PySem.Within mA (fs.map (·.1)) /\ fs.length ≤ 1000 /\ H dx=some (.own a):=by
 obtain ⟨d,z,ne,ob,mA,n,r,q⟩:=(show fH P w H h a (.ins C dx fs) from hok a _ e)
 exact ⟨mA,⟨ob,n,ne⟩,r,q,z,d⟩
end
structure lV (K:PySem.W.Frag) (C:Addr):Prop where
 pg:PySem.W.plainGet K C Str.empty=true
 hd:PySem.W.hasDictIn K C=true
 po:PySem.W.plainOver K C=true
 sa:PySem.W.findIn K (.ref C) "__setattr__" = some (some (.builtin "object.__setattr__"))
theorem lV.get {K:PySem.W.Frag} {C:Addr} (c:lV K C) (f:Str):PySem.W.plainGet K C f=true:=c.pg
def eL (K:PySem.W.Frag) (C:Addr) (f:Str):Prop:=PySem.W.findIn K (.ref C) f=some none
theorem eL.taker {K:PySem.W.Frag} {C:Addr} {f:Str} (n:eL K C f):PySem.W.takerIn K C f=some none:=by
 unfold PySem.W.takerIn
 rw [show PySem.W.findIn K (.ref C) f=some none from n]
 rfl
structure M4 (K:PySem.W.Frag) (C:Addr) (f:Str) (v:V) (u:Value):Prop where
 at_:PySem.W.findIn K (.ref C) f=some (some u)
 rel:RelV v u
 get:PySem.W.specialIn K u "__get__" = some none
 cp:PySem.W.copiedNames.contains f=false
structure Meth (K:PySem.W.Frag) (C:Addr) (m:Str) (f:Addr):Prop where
 at_:PySem.W.findIn K (.ref C) m=some (some (.ref f))
 fn:PySem.W.isFn K (.ref f)=true
 kp:PySem.W.keepIn K (.ref f)=true
section
variable {X:Cx} {pins:List (Addr × Obj)} {σ:St} {H:Hp} {s:Shared} {a C dx:Addr} {fs:List (Str × V)} {f:Str} {v:V} {A:Around} {E:Value -> Shared -> Prop}
theorem xE {b:Bool} {Q:Value -> Shared -> Prop} (I:Inv X pins σ H s) (e:H a=some (.ins C dx fs)) (c:lV X.K C) (n:eL X.K C f) (l:fs.lookup f=some v)
  (h:∀ u s',Inv X pins σ H s' -> RelV v u -> Q u s'):wpAny (model X.prog X.w) A (getAttr (.ref a) f b) Q E s:=by
 obtain ⟨mA,O,r,_,_,_⟩:=sP I.hok e
 obtain ⟨u,hu,ru⟩:=qH.some_of (v:=v) (o:=mA f) (by rw [<- l]; exact r f)
 exact get_map I.kIn O (c.get f) c.hd n hu (AJ ru) (h u _ (I.tok _) ru)
theorem xF {m:Str} {g:Addr} {pl:Sem Bool} {Q:Value × List Value -> Shared -> Prop} (I:Inv X pins σ H s) (e:H a=some (.ins C dx fs)) (c:lV X.K C) (k:Meth X.K C m g) (l:fs.lookup m=none)
  (h:Q (.ref g,[.ref a]) s):wpAny (model X.prog X.w) A (getMethod (.ref a) m pl) Q E s:=by
 obtain ⟨mA,O,r,_,_,_⟩:=sP I.hok e
 have hn:mA m=none:=qH.none_of (by rw [<- l]; exact r m)
 exact Co I.kIn O (c.get m) k.at_ k.fn hn h
theorem yy {y:V} {u:Value} {Q:Unit -> Shared -> Prop} (I:Inv X pins σ H s) (e:H a=some (.ins C dx fs)) (c:lV X.K C) (n:eL X.K C f) (hl:fs.length < 1000) (ry:RelV y u)
  (h:∀ s',Inv X pins σ (upd H a (.ins C dx (ji f y fs))) s' -> Q () s'):wpAny (model X.prog X.w) A (setAttr (.ref a) f u) Q E s:=by
 obtain ⟨mA,O,r,wi,_,ho⟩:=sP I.hok e
 have hz:(fs.map (·.1)).length ≤ sizeLine:=by rw [List.length_map,sizeLine_eq]; omega
 refine FC I.kIn O c.sa c.po n.taker c.hd wi hz fun h' O' sb=>h _ ?_
 have hd:∃ o,h'.get? dx=some o:=let ⟨o,_,_,e',_⟩:=O'.ns; ⟨o,e'⟩
 refine I.write (x:=a) (e:=dx) (by rw [e]; exact True.intro) (.inr ho) (fun b q hb z=>(sb.2 b hb).trans z) hd ?_
 refine ⟨by rw [az O.ne]; exact ho,?_,O.ne,O'.obj,_,O'.ns,fun g=>?_,fun g hg=>?_⟩
 ·have:=nQ f y fs; omega
 ·show qH ((ji f y fs).lookup g) (if g=f then some u else mA g)
  rw [nR]
  by_cases q:g=f
  ·rw [if_pos q,if_pos q]; exact ry
  ·rw [if_neg q,if_neg q]; exact r g
 ·by_cases q:g=f
  ·rw [q]; exact (m6 f y fs).1
  ·refine (m6 f y fs).2 g (wi g fun z=>hg ?_)
   show (if g=f then some u else mA g)=none
   rw [if_neg q]; exact z
theorem Inv.made (I:Inv X pins σ H s):Inv X pins σ (upd (upd H s.heap.objs.size (.own (s.heap.objs.size + 1))) (s.heap.objs.size + 1) (.ins C s.heap.objs.size []))
  { s with heap:=(s.heap.push PySem.W.emptyDict).push (PySem.W.instObj C s.heap.objs.size) }:=by
 have e1:(s.heap.push PySem.W.emptyDict).get? s.heap.objs.size=some PySem.W.emptyDict:=Heap.get?_push_size s.heap rfl
 have e2:((s.heap.push PySem.W.emptyDict).push (PySem.W.instObj C s.heap.objs.size)).get? (s.heap.objs.size + 1)=some (PySem.W.instObj C s.heap.objs.size):=by
  have:=Heap.get?_push_size (s.heap.push PySem.W.emptyDict) (o:=PySem.W.instObj C s.heap.objs.size) rfl
  rwa [Heap.size_push] at this
 have e3:(s.heap.push PySem.W.emptyDict).Ns s.heap.objs.size (fun _=>none):=⟨PySem.W.emptyDict,#[],_,e1,rfl,(fun e he=>absurd he (by simp)),fun _=>rfl⟩
 have I1:=I.laid (a:=s.heap.objs.size) (o:=.own (s.heap.objs.size + 1)) (h':=s.heap.push PySem.W.emptyDict) (t':=s.toks) (fun b u q=>Heap.get?_push_of_some _ q) (Nat.le_refl _) ⟨_,e1⟩
 refine I1.laid (a:=s.heap.objs.size + 1) (o:=.ins C s.heap.objs.size []) (t':=s.toks) (fun b u q=>Heap.get?_push_of_some _ q) (Nat.le_of_eq (Heap.size_push _ _)) ?_
 have ne:s.heap.objs.size ≠ s.heap.objs.size + 1:=Nat.ne_of_lt (Nat.lt_succ_self _)
 refine ⟨by rw [az ne,aN],Nat.zero_le _,ne,e2,fun _=>none,(Heap.Ns1.of_empty e3).at fun o q=>Heap.get?_push_of_some _ q,fun _=>True.intro,fun y hy=>absurd rfl hy⟩
theorem D6 {prog:Program} {w:World} {env:Env} {e:Expr} {f:Str} {pos:Pos} {s:Shared} {Q:Value -> Shared -> Prop} (hb:attributeBase e f env (eval e env)=eval e env)
  (h:wpAny (model prog w) A (eval e env) (fun o s₁=>wpAny (model prog w) A (getAttr o f true) Q E s₁) E s):wpAny (model prog w) A (eval (.Attribute e f pos) env) Q E s:=
 Attribute_any_ h (by rw [arm_eval_Attribute,hb])
end
def LU (K:PySem.W.Frag) (ta:TE) (f:Str):TE:=fun σ H Q=>ta σ H fun x H1=>∃ a C dx fs v,x=.ref a /\ H1 a=some (.ins C dx fs) /\ lV K C /\ eL K C f /\ fs.lookup f=some v /\ Q v H1
def LP (K:PySem.W.Frag) (ta tv:TE) (f:Str):TS:=fun D σ H=>tv σ H fun y H1=>ta σ H1 fun x H2=>∃ a C dx fs,x=.ref a /\ H2 a=some (.ins C dx fs) /\ lV K C /\ eL K C f /\ fs.length < 1000 /\
 D.nx σ (upd H2 a (.ins C dx (ji f y fs)))
section
variable {X:Cx} {o e value:Expr} {f:Str} {pos pos' tpos:Pos} {ta tv:TE}
theorem HP (he:PE X e ta) (hb:attributeBase e f X.env (eval e X.env)=eval e X.env):PE X (.Attribute e f pos) (LU X.K ta f):=by
 intro pins s σ H Q I h
 refine D6 hb (df (he pins s σ H _ I h) fun u s1 ⟨x,H1,I1,rx,a,C,dx,fs,v,ex,ea,c,n,l,q⟩=>?_)
 subst ex
 obtain rfl:u=Value.ref a:=rx
 exact xE I1 ea c n l fun u' s2 I2 ru=>⟨v,H1,I2,ru,q⟩
theorem HX (ha:PE X o ta) (hv:PE X value tv) (hs:swapsWith value (some (.Attribute o f pos')) pos.line X.env=pure false):PS X (.Assign [.Attribute o f pos'] value pos) (LP X.K ta tv f):=by
 intro pins s σ H D I h
 refine plainObj_wpAny_Assign_Attribute (df (hv pins s σ H _ I h) fun u s1 ⟨y,H1,I1,ry,q⟩=>df (ha pins s1 σ H1 _ I1 q) fun ov s2 ⟨x,H2,I2,rx,a,C,dx,fs,ex,ea,c,n,l,q2⟩=>?_) hs
 subst ex
 obtain rfl:ov=Value.ref a:=rx
 exact yy I2 ea c n l ry fun s3 I3=>⟨σ,_,I3,q2⟩
end
section
variable {X:Cx} {pins:List (Addr × Obj)} {σ:St} {H:Hp} {s:Shared} {A:Around} {E:Value -> Shared -> Prop} {Q:Value -> Shared -> Prop} {c:Value} {b:Bool}
inductive oT (K:PySem.W.Frag) (H:Hp):V -> Value -> Prop where
 | non:oT K H .non (.type "NoneType")
 | bl (x:Bool):oT K H (.bl x) (.type "bool")
 | int (i:Int):oT K H (.int i) (.type "int")
 | str (x:Str):oT K H (.str x) (.type "str")
 | flt (x:UInt64):oT K H (.flt x) (.type "float")
 | lst {a:Addr} {xs:List V} (e:H a=some (.lst xs)):oT K H (.ref a) (.type "list")
 | frz {a:Addr} {o:Obj} {xs:List V} (e:H a=some (.frz o (.lst xs))):oT K H (.ref a) (.type "list")
 | tup {a:Addr} {xs:List V} (e:H a=some (.tup xs)):oT K H (.ref a) (.type "tuple")
 | dK {a:Addr} {kvs:List (Key × V)} (e:H a=some (.dK kvs)):oT K H (.ref a) (.type "dict")
 | dT {a:Addr} {kvs:List (List Key × V)} (e:H a=some (.dT kvs)):oT K H (.ref a) (.type "dict")
 | ins {a C dx:Addr} {fs:List (Str × V)} (e:H a=some (.ins C dx fs)) (cl:lV K C) (ha:PySem.W.findIn K (.ref C) "__class__" = some (some (.builtin "object.__class__")))
   (hn:PySem.W.specialIn K (.builtin "object.__class__") "__get__" = some (some (.builtin "getset_descriptor.__get__"))) (htk:PySem.W.takesIn K (.builtin "object.__class__")=some true)
   (hm:PySem.W.mroIn K C (.type "object")=some true):oT K H (.ref a) (.ref C)
end
open PySem PySem.Spec PyProof.Rows
structure dq (k:Nat) (A:Around):Prop where
 hd:A.handled=none
 dp:A.depth + 3 * k + 5 < recursionLimit
 un:A.units + 16 * k + 200 < cLine
theorem dq.mono {j k:Nat} {A:Around} (r:dq k A) (h:j ≤ k):dq j A:=⟨r.hd,by have:=r.dp; omega,by have:=r.un; omega⟩
theorem dq.deeper {k:Nat} {A:Around} (r:dq (k + 1) A) (env:Env):dq k (A.deeper env):=
 ⟨r.hd,by have:=r.dp; show A.depth + 1 + 3 * k + 5 < _; omega,by have:=r.un; show A.units + 3 + 16 * k + 200 < _; omega⟩
theorem dq.in1 {k:Nat} {A:Around} (r:dq (k + 1) A):dq k A.in1:=
 ⟨r.hd,by have:=r.dp; show A.depth + 3 * k + 5 < _; omega,by have:=r.un; show A.units + 1 + 16 * k + 200 < _; omega⟩
theorem xY {A:Around} {C:Addr} {us:List Value} {kw:List (Str × Value)}:(A.under (.builtin "type.__call__" ⟨.ref C :: us,kw⟩)).depth=A.depth + 1:=by
 first | rfl | simp [Around.under,Code.weight,Code.isCreation,Code.isGuard,Code.isCaller,Code.frames,Code.isFrame,guardIds]
theorem xZ {A:Around} {C:Addr} {us:List Value} {kw:List (Str × Value)}:(A.under (.builtin "type.__call__" ⟨.ref C :: us,kw⟩)).units=A.units + 1:=by
 first | rfl | simp [Around.under,Code.cUnits,Code.frames,Code.isFrame]
theorem dq.make {k:Nat} {A:Around} (r:dq (k + 1) A) (C:Addr) (us:List Value) (kw:List (Str × Value)):dq k (A.under (.builtin "type.__call__" ⟨.ref C :: us,kw⟩)):=
 ⟨r.hd,by have:=r.dp; rw [xY]; omega,by have:=r.un; rw [xZ]; omega⟩
theorem dq.depth {k:Nat} {A:Around} (r:dq k A):A.depth < recursionLimit:=by have:=r.dp; omega
theorem dq.units {k:Nat} {A:Around} (r:dq k A):A.units + 64 < cLine:=by have:=r.un; omega
def Kw:TA:=fun _ H Q=>Q [] H
def Ks (ta:TE) (tr:TA):TA:=fun σ H Q=>ta σ H fun x H1=>tr σ H1 fun xs H2=>Q (x :: xs) H2
section
variable {X:Cx} {e:Expr} {es:List Expr} {te:TE} {t:TA} {pos:Pos}
theorem fv:PA X [] Kw:=fun _ _ _ _ H Q I h=>Calls.spliced_nil ⟨[],H,I,.nil,h⟩
theorem cN (ha:PE X e te) (hr:PA X es t) (hs:starEach (e :: es) X.env=(false,eval e X.env) :: starEach es X.env:=by rfl):PA X (e :: es) (Ks te t):=by
 intro pos pins s σ H Q I h
 rw [hs]
 show wpAny _ _ (spliced ((false,eval e X.env) :: backTo pos (starEach es X.env))) _ _ s
 refine Calls.spliced_cons (df (ha pins s σ H _ I h) fun u s1 ⟨x,H1,I1,r1,q1⟩=>?_)
 exact df (hr pos pins s1 σ H1 _ I1 q1) fun us s2 ⟨xs,H2,I2,r2,q2⟩=>⟨x :: xs,H2,I2,.cons r1 r2,q2⟩
def L7 (t:TA):TE:=fun σ H Q=>t σ H fun xs H1=>xs.length ≤ sizeLine /\ ∀ p,H1 p=none -> Q (.ref p) (upd H1 p (.tup xs))
def LX (t:TA):TE:=fun σ H Q=>t σ H fun xs H1=>xs.length ≤ sizeLine /\ ∀ p,H1 p=none -> Q (.ref p) (upd H1 p (.lst xs))
theorem uj {x1} (h:PA X es t):PE X (.Tuple es x1 pos) (L7 t):=by
 intro pins s σ H Q I hq
 refine wpAny_Tuple_spliced (df (h pos pins s σ H _ I hq) fun us s1 ⟨xs,H1,I1,r,z,q⟩=>⟨by rw [<- r.length]; exact z,?_⟩)
 have hf:H1 s1.heap.objs.size=none:=I1.hok.fresh (Nat.le_refl _)
 refine ⟨.ref s1.heap.objs.size,upd H1 s1.heap.objs.size (.tup xs),I1.laid (t':=s1.toks) (fun b u e=>Heap.get?_push_of_some _ e) (Nat.le_refl _) ?_,rfl,q _ hf⟩
 exact ⟨z,us,r,⟨_,Heap.get?_push_size _ rfl,rfl,_,rfl⟩⟩
theorem ui (h:PA X es t):PE X (.List es pos) (LX t):=by
 intro pins s σ H Q I hq
 refine wpAny_List_spliced (df (h pos pins s σ H _ I hq) fun us s1 ⟨xs,H1,I1,r,z,q⟩=>⟨by rw [<- r.length]; exact z,?_⟩)
 have hf:H1 s1.heap.objs.size=none:=I1.hok.fresh (Nat.le_refl _)
 refine ⟨.ref s1.heap.objs.size,upd H1 s1.heap.objs.size (.lst xs),I1.laid (t':=s1.toks) (fun b u e=>Heap.get?_push_of_some _ e) (Nat.le_refl _) ?_,rfl,q _ hf⟩
 exact ⟨z,us,0,r,Heap.get?_push_size _ rfl⟩
end
abbrev Sp:=List V -> Hp -> VK -> XK -> Prop
abbrev yM:=List Env -> Hp -> Shared -> XK -> Value -> Shared -> Prop
structure qF (P:Program) (w:World) (K:PySem.W.Frag) (mg:Str -> Option Value) (base:Heap) (A:Around) (outer:List Env) (s:Shared) (H:Hp):Prop where
 frames:A.frames=some outer
 mod:Mod K mg base
 bs:∀ b o,base.get? b=some o -> s.heap.get? b=some o /\ H b=none
 bsz:base.objs.size ≤ s.heap.objs.size
 funs:s.heap.FunFrames base outer
 frf:∀ b ∈ xC outer,H b=none
 hok:mQ P w H s.heap
 bare:AllBare s.gens
def CE (outer:List Env) (P:Program) (w:World) (H:Hp) (s:Shared) (Q:VK) (u:Value) (s':Shared):Prop:=
 ∃ v H',s'.os=s.os /\ AllBare s'.gens /\ Un (xC outer) [] H H' s.heap s'.heap /\ mQ P w H' s'.heap /\ RelV v u /\ Q v H'
def CR (CX:yM) (outer:List Env) (P:Program) (w:World) (H:Hp) (s:Shared) (Q:VK) (E:XK) (r:Result) (s':Shared):Prop:=
 match r with
 | .ok (.ret u)=>CE outer P w H s Q u s'
 | .ok _=>False
 | .error e=>CX outer H s E e s'
structure fI (P:Program) (w:World) (K:PySem.W.Frag) (mg:Str -> Option Value) (base:Heap) (CX:yM) (k:Nat) (f:Addr) (fd:FuncData) (ps:List Str) (sp:Sp):Prop where
 len:∀ vs H Q E,sp vs H Q E -> vs.length=ps.length
 run:∀ (A:Around) (outer:List Env) (s:Shared) (H:Hp) (args:Args) (us:List Value) (vs:List V) (Q:VK) (E:XK),dq k A -> qF P w K mg base A outer s H -> BindsTo s fd args (ps.zip us) -> Vals vs us -> sp vs H Q E ->
  codeAny (model P w) A (.call (.ref f) args) (CR CX outer P w H s Q E) s
theorem fI.mono {P:Program} {w:World} {K:PySem.W.Frag} {mg:Str -> Option Value} {base:Heap} {CX:yM} {j k:Nat} {f:Addr} {fd:FuncData} {ps:List Str} {sp:Sp} (F:fI P w K mg base CX j f fd ps sp) (h:j ≤ k) :
  fI P w K mg base CX k f fd ps sp:=⟨F.len,fun A outer s H args us vs Q E hr=>F.run A outer s H args us vs Q E (hr.mono h)⟩
theorem fI.imp {P:Program} {w:World} {K:PySem.W.Frag} {mg:Str -> Option Value} {base:Heap} {CX:yM} {k:Nat} {f:Addr} {fd:FuncData} {ps:List Str} {sp sp':Sp} (F:fI P w K mg base CX k f fd ps sp)
  (h:∀ vs H Q E,sp' vs H Q E -> sp vs H Q E):fI P w K mg base CX k f fd ps sp':=
 ⟨fun vs H Q E q=>F.len vs H Q E (h _ _ _ _ q),fun A outer s H args us vs Q E hr he hb hv hs=>F.run A outer s H args us vs Q E hr he hb hv (h _ _ _ _ hs)⟩
theorem qF.make {P:Program} {w:World} {K:PySem.W.Frag} {mg:Str -> Option Value} {base:Heap} {A:Around} {outer:List Env} {s:Shared} {H:Hp} (e:qF P w K mg base A outer s H) (C:Addr) (us:List Value) (kw:List (Str × Value)) :
  qF P w K mg base (A.under (.builtin "type.__call__" ⟨.ref C :: us,kw⟩)) outer s H:=⟨by first | exact e.frames | (simpa [Around.under,Code.envs,Code.isFrame,pushEnvs] using e.frames),e.mod,e.bs,e.bsz,e.funs,e.frf,e.hok,e.bare⟩
theorem qF.in1 {P:Program} {w:World} {K:PySem.W.Frag} {mg:Str -> Option Value} {base:Heap} {A:Around} {outer:List Env} {s:Shared} {H:Hp} (e:qF P w K mg base A outer s H) :
  qF P w K mg base A.in1 outer s H:=⟨e.frames,e.mod,e.bs,e.bsz,e.funs,e.frf,e.hok,e.bare⟩
section
variable {X:Cx} {pins:List (Addr × Obj)} {σ:St} {H:Hp} {s s':Shared}
theorem Inv.env0 (I:Inv X pins σ H s):qF X.prog X.w X.K X.mg X.base X.A X.stack s H:=
 ⟨I.ok.frames,I.ok.mod,I.bs,Nat.le_trans I.ok.bsz I.sz,I.stack,I.stkFree,I.hok,I.bare⟩
theorem Inv.after {Q:VK} {u:Value} (I:Inv X pins σ H s) (h:CE X.stack X.prog X.w H s Q u s'):EP X pins σ Q u s':=by
 obtain ⟨v,H',os,bare,un,hok,r,q⟩:=h
 obtain ⟨hh,g,d,t,os'⟩:=s'
 obtain rfl:os'=s.os:=os
 exact ⟨v,H',I.call (h':=hh) (g':=g) (d':=d) (t':=t) (ch:=[]) un hok bare (fun b z=>absurd z (by simp)),r,q⟩
end
def Kr (sp:Sp) (dvs:List V) (E:XK) (t:TA):TE:=fun σ H Q=>t σ H fun vs H1=>sp (vs ++ dvs) H1 Q E
def GN (C:Addr) (m:Str) (sp:Sp) (dvs:List V) (E:XK) (ta:TE) (t:TA):TE:=fun σ H Q=>ta σ H fun x H1=>∃ a dx fs,x=.ref a /\ H1 a=some (.ins C dx fs) /\ fs.lookup m=none /\
 t σ H1 fun vs H2=>sp (x :: (vs ++ dvs)) H2 Q E
def Ku (C:Addr) (sp:Sp) (dvs:List V) (E:XK) (t:TA):TE:=fun σ H Q=>t σ H fun vs H1=>∀ x dx,H1 x=none -> H1 dx=none -> dx ≠ x ->
 sp (.ref x :: (vs ++ dvs)) (upd (upd H1 dx (.own x)) x (.ins C dx [])) (fun v H2=>v=.non /\ Q (.ref x) H2) E
def Binds (K:PySem.W.Frag) (fd:FuncData) (ps:List Str) (ds:List Value):Prop:=
 ∀ (s:Shared) (us:List Value),K.In s.heap -> (us ++ ds).length=ps.length -> BindsTo s fd ⟨us,[]⟩ (ps.zip (us ++ ds))
theorem Binds.all {K:PySem.W.Frag} {fd:FuncData} {ps:List Str} (h:∀ us:List Value,us.length=ps.length -> bindArgs fd ⟨us,[]⟩=pure (ps.zip us)):Binds K fd ps []:=fun s us _ hl=>by
 rw [List.append_nil] at hl ⊢
 exact .of_eq (h us hl)
def Passes (CX:yM) (X:Cx) (E:XK):Prop:=∀ (pins:List (Addr × Obj)) (σ:St) (H:Hp) (s:Shared) (e:Value) (s':Shared),Inv X pins σ H s -> CX X.stack H s E e s' -> X.xe e s'
section
variable {X:Cx} {CX:yM} {k:Nat} {f C:Addr} {fd:FuncData} {ps:List Str} {sp:Sp} {dvs:List V} {ds:List Value} {E:XK} {x m:Str} {p pos apos:Pos} {e o:Expr} {es:List Expr} {ta:TE} {t:TA}
theorem Dv {pins:List (Addr × Obj)} {σ:St} {H:Hp} {s:Shared} {Q:VK} {us:List Value} {vs:List V} (F:fI X.prog X.w X.K X.mg X.base CX k f fd ps sp) (hr:dq k X.A) (hb:Binds X.K fd ps ds) (hd:Vals dvs ds) (hx:Passes CX X E)
  (I:Inv X pins σ H s) (r:Vals vs us) (h:sp (vs ++ dvs) H Q E):wpAny (model X.prog X.w) X.A (call (.ref f) us) (EP X pins σ Q) X.xe s:=by
 have r2:Vals (vs ++ dvs) (us ++ ds):=r.append hd
 have hl:(us ++ ds).length=ps.length:=by rw [<- r2.length]; exact F.len _ _ _ _ h
 refine wpAny_call (codeAny_mono (F.run X.A X.stack s H ⟨us,[]⟩ (us ++ ds) (vs ++ dvs) Q E hr I.env0 (hb s us I.kIn hl) r2 h) fun r s' hq=>?_)
 cases r with
 | error e=>exact hx pins σ H s e s' I hq
 | ok fl =>
  cases fl with
  | ret u=>exact I.after hq
  | next=>exact False.elim hq
  | brk=>exact False.elim hq
  | cont=>exact False.elim hq
theorem uh (F:fI X.prog X.w X.K X.mg X.base CX k f fd ps sp) (hr:dq k X.A) (hg:Gl X x) (hm:X.mg x=some (.ref f)) (hk:PySem.W.keepIn X.K (.ref f)=true) (hb:Binds X.K fd ps ds) (hd:Vals dvs ds) (hx:Passes CX X E)
  (ha:PA X (e :: es) t) (hdb:(x == ("__debug__" : Str))=false:=by decide) (he:starEach (e :: es) X.env=(false,eval e X.env) :: starEach es X.env:=by rfl) (hpl:(backTo pos (starEach es X.env)).any (·.1)=false:=by rfl) :
  PE X (.Call (.Name x p) (e :: es) [] pos) (Kr sp dvs E t):=by
 intro pins s σ H Q I h
 refine wpAny_Call_Name_kw (tP I hg hm ?_ hdb)
 refine PySem.W.callWith_K (h₀:=X.base) I.ok.mod.kin hk (df (ha pos pins s σ H _ I h) fun us s1 ⟨vs,H1,I1,r,q⟩=>⟨I1.kIn,?_⟩) he hpl
 exact Dv F hr hb hd hx I1 r q
theorem wj {pl:Sem Bool} (he:PE X o ta) (c:lV X.K C) (hm:Meth X.K C m f) (F:fI X.prog X.w X.K X.mg X.base CX k f fd ps sp) (hr:dq k X.A) (hb:Binds X.K fd ps ds) (hd:Vals dvs ds) (hx:Passes CX X E)
  (ht:eval (.Call (.Attribute o m apos) [] [] pos) X.env=(do
   let ov <- eval o X.env
   standAt apos.atName
   let (f,first) <- holding [ov] (getMethod ov m pl)
   callWith pos f first (backTo pos (starEach [] X.env)) (backToKw pos (keywordEach [] X.env))):=by rfl) :
  PE X (.Call (.Attribute o m apos) [] [] pos) (GN C m sp dvs E ta Kw):=by
 intro pins s σ H Q I h
 refine PySem.W.methodCall_KW (pl:=pl) (df (he pins s σ H _ I h) fun u s1 ⟨x,H1,I1,rx,a,dx,fs,ex,ea,l,q⟩=>?_) ht
 subst ex
 obtain rfl:u=Value.ref a:=rx
 refine xF I1 ea c hm l ?_
 exact PySem.W.callWith_K0 (first:=[.ref a]) I1.kIn hm.kp (Dv (us:=[.ref a]) (vs:=[.ref a]) F hr hb hd hx I1 (.cons rfl .nil) q)
structure Mk (K:PySem.W.Frag) (C f:Addr):Prop where
 makes:PySem.W.makesIn K C=true
 init:PySem.W.findIn K (.ref C) "__init__" = some (some (.ref f))
 fn:PySem.W.isFn K (.ref f)=true
 kp:PySem.W.keepIn K (.ref C)=true
theorem Dw {pins:List (Addr × Obj)} {σ:St} {H:Hp} {s:Shared} {Q:VK} {us:List Value} {vs:List V} (M:Mk X.K C f) (F:fI X.prog X.w X.K X.mg X.base CX k f fd ps sp) (hr:dq (k + 1) X.A) (hb:Binds X.K fd ps ds) (hd:Vals dvs ds)
  (hx:Passes CX X E) (I:Inv X pins σ H s) (r:Vals vs us)
  (h:∀ x dx,H x=none -> H dx=none -> dx ≠ x -> sp (.ref x :: (vs ++ dvs)) (upd (upd H dx (.own x)) x (.ins C dx [])) (fun v H2=>v=.non /\ Q (.ref x) H2) E) :
  wpAny (model X.prog X.w) X.A (call (.ref C) us) (EP X pins σ Q) X.xe s:=by
 have hq:=h (s.heap.objs.size + 1) s.heap.objs.size (I.hok.fresh (Nat.le_succ _)) (I.hok.fresh (Nat.le_refl _)) (Nat.ne_of_lt (Nat.lt_succ_self _))
 have I2:=Inv.made (C:=C) I
 have r2:Vals (V.ref (s.heap.objs.size + 1) :: (vs ++ dvs)) (Value.ref (s.heap.objs.size + 1) :: (us ++ ds)):=.cons rfl (r.append hd)
 have hl:(Value.ref (s.heap.objs.size + 1) :: us ++ ds).length=ps.length:=by
  have e:=r2.length
  rw [F.len _ _ _ _ hq] at e
  exact e.symm
 refine wpAny_call (CQ (f:=f) I.kIn M.makes M.init (beq_iff_eq.mp M.fn) (codeAny_mono (F.run _ X.stack _ _ ⟨Value.ref (s.heap.objs.size + 1) :: us,[]⟩ (Value.ref (s.heap.objs.size + 1) :: (us ++ ds)) _ _ E (hr.make C us [])
  (I2.env0.make C us []) (hb _ (Value.ref (s.heap.objs.size + 1) :: us) I2.kIn hl) r2 hq) fun r s' hq'=>?_))
 cases r with
 | error e=>exact hx pins σ _ _ e s' I2 hq'
 | ok fl =>
  cases fl with
  | ret u =>
   obtain ⟨v,H',I3,rv,ev,q3⟩:=I2.after hq'
   subst ev
   exact ⟨rv,⟨V.ref (s.heap.objs.size + 1),H',I3,rfl,q3⟩⟩
  | next=>exact False.elim hq'
  | brk=>exact False.elim hq'
  | cont=>exact False.elim hq'
theorem Fh (M:Mk X.K C f) (F:fI X.prog X.w X.K X.mg X.base CX k f fd ps sp) (hr:dq (k + 1) X.A) (hg:Gl X x) (hm:X.mg x=some (.ref C)) (hb:Binds X.K fd ps ds) (hd:Vals dvs ds) (hx:Passes CX X E)
  (ha:PA X (e :: es) t) (hdb:(x == ("__debug__" : Str))=false:=by decide) (he:starEach (e :: es) X.env=(false,eval e X.env) :: starEach es X.env:=by rfl) (hpl:(backTo pos (starEach es X.env)).any (·.1)=false:=by rfl) :
  PE X (.Call (.Name x p) (e :: es) [] pos) (Ku C sp dvs E t):=by
 intro pins s σ H Q I h
 refine wpAny_Call_Name_kw (tP I hg hm ?_ hdb)
 refine PySem.W.callWith_K (h₀:=X.base) I.ok.mod.kin M.kp (df (ha pos pins s σ H _ I h) fun us s1 ⟨vs,H1,I1,r,q⟩=>⟨I1.kIn,?_⟩) he hpl
 exact Dw M F hr hb hd hx I1 r q
end
section
variable {X:Cx} {CX:yM} {k:Nat} {f C:Addr} {fd:FuncData} {ps ks:List Str} {sp:Sp} {E:XK} {x m:Str} {p pos apos kpos:Pos} {e o:Expr} {es:List Expr} {kws:List Keyword} {te ta:TE} {t tk:TA} {nm:Option Str}
structure Ld (K:PySem.W.Frag) (fd:FuncData) (ps ks:List Str) (g:List Value -> List Value -> List Value) (gV:List V -> List V -> List V):Prop where
 to:∀ (s:Shared) (us ws:List Value),K.In s.heap -> (g us ws).length=ps.length -> BindsTo s fd ⟨us,ks.zip ws⟩ (ps.zip (g us ws))
 rel:∀ {vs:List V} {us:List Value} {zs:List V} {ws:List Value},Vals vs us -> Vals zs ws -> Vals (gV vs zs) (g us ws)
variable {g:List Value -> List Value -> List Value} {gV:List V -> List V -> List V}
end
structure aS (N P:List Str) (sc:Scope):Prop where
 kind:sc.kind=.function
 co:sc.isCoroutine=false
 gen:sc.isGenerator=false
 nd:N.Nodup
 pre:N.take P.length=P
 par:∀ x ∈ P,sc.names.lookup x=some .local \/ sc.names.lookup x=some .cell
 nofree:∀ y ∈ sc.names,y.2 ≠ .free
theorem rj {kindOf:Str -> Option NameKind} {x:Str}:∀ {binds:List (Str × Value)} {m:Str -> Option Value},(∀ v,(x,v) ∉ binds) -> bindL kindOf binds m x=m x
 | [],_,_=>rfl
 | (n,v) :: r,m,h=>by
  unfold bindL
  rw [rj fun w hw=>h w (List.mem_cons_of_mem _ hw)]
  split
  ·have:x ≠ n:=by rintro rfl; exact h v List.mem_cons_self
   simp [this]
  ·rfl
theorem rg {kindOf:Str -> Option NameKind} {x:Str}:∀ {binds:List (Str × Value)} {m:Str -> Option Value},(∀ v,(x,v) ∉ binds) -> bindC kindOf binds m x=m x
 | [],_,_=>rfl
 | (n,v) :: r,m,h=>by
  unfold bindC
  rw [rg fun w hw=>h w (List.mem_cons_of_mem _ hw)]
  split
  ·rfl
  ·have:x ≠ n:=by rintro rfl; exact h v List.mem_cons_self
   simp [this]
theorem rh {kindOf:Str -> Option NameKind} {x:Str} {v:Value}:∀ {P:List Str} {vs:List Value} {i:Nat} {m:Str -> Option Value},P.Nodup -> P[i]? = some x -> vs[i]? = some v -> kindOf x=some .local ->
  bindL kindOf (P.zip vs) m x=some v
 | [],_,_,_,_,h,_,_=>by simp at h
 | _ :: _,[],_,_,_,_,h,_=>by simp at h
 | p :: P,w :: vs,0,m,nd,h1,h2,hk=>by
  simp at h1 h2; subst h1; subst h2
  show bindL kindOf ((p,w) :: P.zip vs) m p=_
  unfold bindL
  rw [rj fun v hv=>(List.nodup_cons.mp nd).1 (List.of_mem_zip hv).1,if_pos hk]
  simp
 | p :: P,w :: vs,i + 1,m,nd,h1,h2,hk=>by
  show bindL kindOf ((p,w) :: P.zip vs) m x=_
  unfold bindL
  exact rh (i:=i) (List.nodup_cons.mp nd).2 (by simpa using h1) (by simpa using h2) hk
theorem rf {kindOf:Str -> Option NameKind} {x:Str} {v:Value}:∀ {P:List Str} {vs:List Value} {i:Nat} {m:Str -> Option Value},P.Nodup -> P[i]? = some x -> vs[i]? = some v -> kindOf x ≠ some .local ->
  bindC kindOf (P.zip vs) m x=some v
 | [],_,_,_,_,h,_,_=>by simp at h
 | _ :: _,[],_,_,_,_,h,_=>by simp at h
 | p :: P,w :: vs,0,m,nd,h1,h2,hk=>by
  simp at h1 h2; subst h1; subst h2
  show bindC kindOf ((p,w) :: P.zip vs) m p=_
  unfold bindC
  rw [rg fun v hv=>(List.nodup_cons.mp nd).1 (List.of_mem_zip hv).1,if_neg hk]
  simp
 | p :: P,w :: vs,i + 1,m,nd,h1,h2,hk=>by
  show bindC kindOf ((p,w) :: P.zip vs) m x=_
  unfold bindC
  exact rf (i:=i) (List.nodup_cons.mp nd).2 (by simpa using h1) (by simpa using h2) hk
def start (N:List Str) (vs:List V):St:=vs.map some ++ List.replicate (N.length - vs.length) none
def mW (CX:yM) (P:Program) (w:World) (K:PySem.W.Frag) (mg:Str -> Option Value) (base:Heap) (N:List Str) (qual:Str) (scope:Scope) (f:Addr) (cd:Value) (A:Around) (outer:List Env) (s:Shared) (H:Hp) (E:XK):Cx where
 prog:=P
 w:=w
 K:=K
 mg:=mg
 base:=base
 A:=A.deeper (envOfC qual scope s.heap.objs.size f cd)
 N:=N
 s₀:=s
 H₀:=H
 env:=envOfC qual scope s.heap.objs.size f cd
 outer:=outer
 stack:=envOfC qual scope s.heap.objs.size f cd :: outer
 ex:=[]
 calm:=true
 fn:=fun _=>true
 pn:=[]
 xe:=fun e s'=>wpAny (model P w) (A.deeper (envOfC qual scope s.heap.objs.size f cd)) (leaving (envOfC qual scope s.heap.objs.size f cd) e) (fun _ s''=>CX outer H s E e s'') (fun e' s''=>CX outer H s E e' s'') s'
theorem uT {sc:Scope} {n:Nat} {x:Str} (h:sc.names.lookup x=some .cell):∃ c,(cellsFrom n sc.names []).lookup x=some c:=by
 have q:=PySem.W.cellsFrom_some sc.names n [] (.inl h)
 exact Option.isSome_iff_exists.mp q
theorem AL {CX:yM} {P:Program} {w:World} {K:PySem.W.Frag} {mg:Str -> Option Value} {base:Heap} {N ps:List Str} {qual:Str} {scope:Scope} {f:Addr} {cd:Value} {A:Around} {outer:List Env} {s s1:Shared} {H:Hp} {E:XK} {us:List Value} {vs:List V}
  (S:aS N ps scope) (hd:A.handled=none) (e0:qF P w K mg base A outer s H) (hl:vs.length=ps.length) (r:Vals vs us)
  (x:InCallC s s.heap.objs.size (bindL (envOfC qual scope s.heap.objs.size f cd).kindOf (ps.zip us) fun _=>none) (cellsFrom (s.heap.objs.size + 1) scope.names []) (bindC (envOfC qual scope s.heap.objs.size f cd).kindOf (ps.zip us) fun _=>none) s1) :
  Inv (mW CX P w K mg base N qual scope f cd A outer s H E) [] (start N vs) H s1:=by
 have hpl:ps.length ≤ N.length:=by have:=congrArg List.length S.pre; rw [List.length_take] at this; omega
 obtain ⟨h1,tk,rfl,hk⟩:=x.done
 have noA:∀ b:Addr,b ∉ (mW CX P w K mg base N qual scope f cd A outer s H E).ex:=fun b z=>absurd (show b ∈ ([]:List Addr) from z) (by simp)
 refine ⟨⟨e0.mod,S.kind,rfl,rfl,Nat.le_refl _,fun y z c h1 h2=>?_,fun y hy=>?_,fun y c _ h=>?_,fun _=>hd,Around.frames_deeper e0.frames,.inr ⟨rfl,rfl⟩,fun b z=>absurd z (noA b),e0.bs,e0.bsz,fun b _ _=>noA b,fun b z=>absurd z (noA b),e0.funs,e0.frf⟩,
  rfl,e0.bare,Un.kept hk,⟨_,x.toInCall.ns,fun i y v h1 h2 h3=>?_⟩,fun y c h=>⟨_,x.cell y c h⟩,e0.hok.fresh (Nat.le_refl _),fun y c h=>?_,fun p hp=>absurd (show p ∈ ([]:List (Addr × Obj)) from hp) (by simp),e0.hok.kept hk,?_⟩
 ·exact name_of_addr x.apart (PySem.mem_of_lookup h1) (PySem.mem_of_lookup h2)
 ·have hy:scope.names.lookup y=some .cell \/ scope.names.lookup y=some .free:=hy
  rcases hy with hy | hy
  ·exact uT hy
  ·exact absurd rfl (S.nofree _ (PySem.mem_of_lookup hy))
 ·exact Nat.le_of_lt (x.above y c (PySem.mem_of_lookup h))
 ·have hi:i < vs.length:=by
   unfold start at h2
   by_cases hi:i < vs.length
   ·exact hi
   ·rw [List.getElem?_append_right (by simpa using hi)] at h2
    rw [List.getElem?_replicate] at h2
    split at h2 <;> cases h2
  have ha:vs[i]? = some v:=by
   unfold start at h2
   rw [List.getElem?_append_left (by simpa using hi),List.getElem?_map] at h2
   cases e:vs[i]? with
   | none=>rw [e] at h2; cases h2
   | some a=>rw [e] at h2; cases h2; rfl
  obtain ⟨u,hu,rv⟩:=r.get ha
  have hp:ps[i]? = some y:=by
   rw [<- S.pre,List.getElem?_take_of_lt (by omega)]; exact h1
  have ndP:ps.Nodup:=by rw [<- S.pre]; exact S.nd.sublist (List.take_sublist _ _)
  refine ⟨u,rv,?_⟩
  rcases S.par y (List.mem_of_getElem? hp) with k | k
  ·exact .inl ⟨k,rh ndP hp hu k⟩
  ·obtain ⟨c,e⟩:=uT (n:=s.heap.objs.size + 1) k
   refine .inr ⟨.inl k,c,e,?_⟩
   have q:=x.cell y c e
   rw [rf ndP hp hu (by show scope.names.lookup y ≠ _; rw [k]; decide)] at q
   exact q
 ·exact e0.hok.fresh (Nat.le_of_lt (x.above y c (PySem.mem_of_lookup h)))
 ·unfold start
  show _=N.length
  rw [List.length_append,List.length_map,List.length_replicate]
  omega
theorem JC {CX:yM} {P:Program} {w:World} {K:PySem.W.Frag} {mg:Str -> Option Value} {base:Heap} {k:Nat} {f:Addr} {name qual:Str} {params:Arguments} {body:List Stmt} {scope:Scope} {dV kV doc pm cdv ct oc:Value} {an od:Option Addr}
  {osl:Array (Option Value)} {N ps:List Str} {sp:Sp} (lk:K.lookup f=some ⟨oc,od,.func (PySem.W.fnOf name qual params body scope dV kV doc pm an cdv ct),osl⟩) (hcd:PySem.W.codeIn K cdv qual=true) (S:aS N ps scope)
  (len:∀ vs H Q E,sp vs H Q E -> vs.length=ps.length)
  (hbody:∀ (A:Around) (outer:List Env) (s:Shared) (H:Hp) (vs:List V) (Q:VK) (E:XK),dq k (A.deeper (envOfC qual scope s.heap.objs.size f cdv)) -> sp vs H Q E ->
   ∃ t,iQ (mW CX P w K mg base N qual scope f cdv A outer s H E) body t /\ t { nx:=fun _ H'=>Q .non H',rt:=Q } (start N vs) H) :
  fI P w K mg base CX (k + 1) f (PySem.W.fnOf name qual params body scope dV kV doc pm an cdv ct) ps sp:=by
 refine ⟨len,fun A outer s H args us vs Q E hr e0 hb r hsp=>?_⟩
 have hl:=len _ _ _ _ hsp
 have KX:K.In s.heap:=e0.mod.kin.keeps fun b o e=>(e0.bs b o e).1
 have lim:s.heap.NoLimit:=e0.mod.nolimit.keeps fun b o e=>(e0.bs b o e).1
 have hkind:∀ y ∈ ps.zip us,scope.names.lookup y.1=some .local \/ (scope.names.lookup y.1=some .cell /\ ((cellsFrom (s.heap.objs.size + 1) scope.names []).lookup y.1).isSome=true):=fun ⟨n,v⟩ hy=>by
  rcases S.par n (List.of_mem_zip hy).1 with q | q
  ·exact .inl q
  ·exact .inr ⟨q,PySem.W.cellsFrom_some _ _ _ (.inl q)⟩
 refine codeAny_call_function hr.depth (KX _ _ lk) rfl S.co S.gen rfl (PySem.W.codeRec_of KX hcd) (hb _ _ _ _ ?_)
 refine wpAny_newFunctionEnv_cells S.kind hkind fun env he s1 x=>?_
 subst he
 refine ⟨lim.keeps x.toInCall.keep,codeAny_func ?_⟩
 obtain ⟨t,ht,hq⟩:=hbody A outer s H vs Q E (hr.deeper _) hsp
 have I:Inv (mW CX P w K mg base N qual scope f cdv A outer s H E) [] (start N vs) H s1:=AL S hr.hd e0 hl r x
 refine wpAny_mono (ht [] s1 (start N vs) H _ I hq) (fun fl s' hs=>?_) fun e s' hs=>hs
 have fin:∀ {σ':St} {H':Hp} {v:V} {u:Value},Inv (mW CX P w K mg base N qual scope f cdv A outer s H E) [] σ' H' s' -> RelV v u -> Q v H' -> CE outer P w H s Q u s':=
  fun {σ' H' v u} J rv q=>⟨v,H',J.os,J.bare,J.base,J.hok,rv,q⟩
 cases fl with
 | ret u =>
  obtain ⟨v,σ',H',J,rv,q⟩:=hs
  exact fin J rv q
 | next =>
  obtain ⟨σ',H',J,q⟩:=hs
  exact fin (v:=V.non) (u:=Value.none) J rfl q
 | brk =>
  obtain ⟨_,_,_,q⟩:=hs
  exact False.elim q
 | cont =>
  obtain ⟨_,_,_,q⟩:=hs
  exact False.elim q
open PySem PySem.Spec PyProof.Rows
section
variable {X:Cx} {x:Str} {p pos:Pos} {e:Expr} {es:List Expr} {t:TA} {id T:String} {r:List V -> Hp -> VK -> Prop}
def Mo (r:List V -> Hp -> VK -> Prop) (t:TA):TE:=fun σ H Q=>t σ H fun vs H1=>r vs H1 Q
theorem C7 (hc:gW X (.builtin id) r) (hg:Gl X x) (hm:X.mg x=none) (hv:bootBuiltins x=some (.builtin id)) (ha:PA X (e :: es) t) (hn:x ≠ "__name__" := by decide) (hdb:(x == ("__debug__" : Str))=false:=by decide)
  (he:starEach (e :: es) X.env=(false,eval e X.env) :: starEach es X.env:=by rfl) (hpl:(backTo pos (starEach es X.env)).any (·.1)=false:=by rfl):PE X (.Call (.Name x p) (e :: es) [] pos) (Mo r t):=by
 intro pins s σ H Q I h
 refine wpAny_Call_Name_kw (ll I hg hm hv ?_ hn hdb)
 exact PyProof.Rows.callWith_builtin1 (df (ha pos pins s σ H _ I h) fun us s1 ⟨vs,H1,I1,r1,q1⟩=>hc pins s1 σ H1 vs us Q I1 r1 q1) he hpl
theorem kv (hc:gW X (.type T) r) (hg:Gl X x) (hm:X.mg x=none) (hv:bootBuiltins x=some (.type T)) (ha:PA X (e :: es) t) (hn:x ≠ "__name__" := by decide) (hdb:(x == ("__debug__" : Str))=false:=by decide)
  (he:starEach (e :: es) X.env=(false,eval e X.env) :: starEach es X.env:=by rfl) (hpl:(backTo pos (starEach es X.env)).any (·.1)=false:=by rfl):PE X (.Call (.Name x p) (e :: es) [] pos) (Mo r t):=by
 intro pins s σ H Q I h
 refine wpAny_Call_Name_kw (ll I hg hm hv ?_ hn hdb)
 exact PyProof.Rows.callWith_type1 (df (ha pos pins s σ H _ I h) fun us s1 ⟨vs,H1,I1,r1,q1⟩=>hc pins s1 σ H1 vs us Q I1 r1 q1) he hpl
end
end L2
namespace HT
open PySem PyProof.Rows
section
open PySem.SeqAt
open PySem.AutoSeq1 (wpAny_loadPart')
open PySem.MeetsSeq PySem.MeetsSeq2 PySem.MeetsSeq3
end
section
variable {prog:Program} {w:World} {A:Around} {E:Value -> Shared -> Prop} {s:Shared}
theorem Ea {t b:Addr} {vs ws:List Value} {Q:Value -> Shared -> Prop} (ht:IsTup s.heap t vs.toArray) (hb:IsTup s.heap b ws.toArray) (hv:vs ≠ [])
  (h1:ws=[] -> Q (.ref t) s) (h2:ws ≠ [] -> Q (.ref s.heap.objs.size) { s with heap:=s.heap.push { cls:=.type "tuple", data:=.seq (vs ++ ws).toArray } })
  (hsz:vs.length + ws.length ≤ sizeLine):wpAny (model prog w) A (binaryOp .Add (.ref t) (.ref b)) Q E s:=by
 obtain ⟨⟨cls,dd,data,sl⟩,ho,hc,n,hd⟩:=id ht
 obtain ⟨⟨cls2,dd2,data2,sl2⟩,ho2,hc2,n2,hd2⟩:=id hb
 simp only at hc hd hc2 hd2
 subst hc hd hc2 hd2
 have e:vs.toArray ++ ws.toArray=(vs ++ ws).toArray:=by simp
 by_cases hw:ws=[]
 ·exact concat_meets ⟨_,ho,rfl⟩ ⟨_,ho2,rfl⟩ noFill_tuple_add seq_tuple_add PySem.F.slot_tuple_add PySem.F.entry_tuple_add (PySem.F.args_tuple_add_2 _ _)
   (tuple_addW1 t b vs.toArray ws.toArray n n2 dd dd2 sl sl2 (by simpa using hv) (by simp [hw])) ⟨ho,ho2,h1 hw⟩
 ·refine concat_meets ⟨_,ho,rfl⟩ ⟨_,ho2,rfl⟩ noFill_tuple_add seq_tuple_add PySem.F.slot_tuple_add PySem.F.entry_tuple_add (PySem.F.args_tuple_add_2 _ _)
   (tuple_addW2 t b vs.toArray ws.toArray n n2 dd dd2 sl sl2 (by simpa using hv) (by simpa using hw) (by rw [List.size_toArray,List.size_toArray]; exact hsz)) ⟨ho,ho2,?_⟩
  rw [e]
  exact h2 hw
def fB (n d:Nat):Option Int -> Nat
 | none=>d
 | some v=>if v < 0 then (v + (n:Int)).toNat else min v.toNat n
theorem Dx (n d:Nat):fB n d none=d:=rfl
theorem mE (n d k:Nat):fB n d (some (k:Int))=min k n:=by
 show (if (k:Int) < 0 then ((k:Int) + (n:Int)).toNat else min (k:Int).toNat n)=min k n
 rw [if_neg (by omega),Int.toNat_natCast]
theorem Ii (n d:Nat) (hd:d ≤ n) (o:Option Int):fB n d o ≤ n:=by
 cases o with
 | none=>exact hd
 | some v =>
  show (if v < 0 then (v + (n:Int)).toNat else min v.toNat n) ≤ n
  by_cases hv:v < 0
  ·rw [if_pos hv]; omega
  ·rw [if_neg hv]; exact Nat.min_le_right _ _
theorem yV (v:Int) (n d:Nat):(if v < 0 then max (v + (n:Int)) 0 else min v (n:Int))=((fB n d (some v):Nat):Int):=by
 show (if v < 0 then max (v + (n:Int)) 0 else min v (n:Int))=(((if v < 0 then (v + (n:Int)).toNat else min v.toNat n):Nat):Int)
 by_cases hv:v < 0
 ·simp only [if_pos hv]; omega
 ·simp only [if_neg hv]; omega
theorem xb (lo hi:Option Int) (n:Nat):Builtin.Slice.sliceAdjust lo hi 1 (n:Int)=(((fB n 0 lo:Nat):Int),((fB n n hi:Nat):Int)):=by
 have h1:¬ ((1:Int) < 0):=by omega
 unfold Builtin.Slice.sliceAdjust
 simp only [h1,if_false]
 refine Prod.ext ?_ ?_
 ·cases lo with
  | none=>rfl
  | some v=>exact yV v n 0
 ·cases hi with
  | none=>rfl
  | some v=>exact yV v n n
theorem yk (i j:Nat):Builtin.Slice.slicePlaces (i:Int) (j:Int) 1=j - i:=by
 unfold Builtin.Slice.slicePlaces
 have h1:(1:Int) > 0:=by omega
 simp only [h1,if_true,Int.ediv_one]
 split <;> omega
theorem qg {v:Value} {o:Option Int} {Q:Option Int -> Shared -> Prop} (p:IsPart v o) (h:Q o s):wpAny (model prog w) A (Builtin.Slice.slicePartIndex v) Q E s:=by
 cases p with
 | none=>exact slicePart_none h
 | int i t=>exact slicePart_int h
theorem nC {sl:Addr} {vl vu:Value} {lo hi:Option Int} {n:Nat} {Q:Int × Int × Nat -> Shared -> Prop} (hs:s.heap.IsSliceOf sl vl vu .none) (pl:IsPart vl lo) (pu:IsPart vu hi)
  (h:Q (((fB n 0 lo:Nat):Int),1,fB n n hi - fB n 0 lo) s):wpAny (model prog w) A (Builtin.Slice.sliceApplied (.ref sl) (pure (n:Int))) Q E s:=by
 obtain ⟨os,hos,hcs,hds⟩:=id hs
 unfold Builtin.Slice.sliceApplied Builtin.Slice.sliceFields
 refine wpAny_bind (wpAny_bind (wpAny_field hos hds (x:=vl) rfl (wpAny_bind (wpAny_field hos hds (x:=vu) rfl (wpAny_bind (wpAny_field hos hds (x:=.none) rfl (wpAny_pure ?_)))))))
 refine wpAny_bind (slicePart_none ?_)
 show wpAny _ _ (if ((1:Int) == 0)=true then _ else _) _ _ s
 rw [if_neg (by decide)]
 refine wpAny_bind (qg pl (wpAny_bind (qg pu (wpAny_bind (wpAny_pure ?_)))))
 show wpAny _ _ (match Builtin.Slice.sliceAdjust lo hi 1 (n:Int) with | (lo,hi)=>pure (lo,(1:Int),Builtin.Slice.slicePlaces lo hi 1)) _ _ s
 rw [xb lo hi n]
 show wpAny _ _ (pure (((fB n 0 lo:Nat):Int),(1:Int),Builtin.Slice.slicePlaces ((fB n 0 lo:Nat):Int) ((fB n n hi:Nat):Int) 1)) _ _ s
 rw [yk]
 exact wpAny_pure h
theorem Df (xs:Array Value) (i k:Nat):((List.range k).filterMap fun (m:Nat)=>xs[((i:Int) + (m:Int) * 1).toNat]?).toArray=((xs.toList.drop i).take k).toArray:=by
 have e:(fun (m:Nat)=>xs[((i:Int) + (m:Int) * 1).toNat]?)=fun m=>xs[i + m]?:=by
  funext m
  have:((i:Int) + (m:Int) * 1).toNat=i + m:=by omega
  rw [this]
 rw [e]
 have:=pick_run xs i k
 rw [List.filterMap_map] at this
 have e2:((fun x=>xs[x]?) ∘ fun x=>i + x)=fun m=>xs[i + m]?:=rfl
 rw [e2] at this
 rw [this]
theorem mj {t sl:Addr} {items:Array Value} {vl vu:Value} {lo hi:Option Int} {Q:Value -> Shared -> Prop} (ht:IsTup s.heap t items) (hs:s.heap.IsSliceOf sl vl vu .none) (pl:IsPart vl lo) (pu:IsPart vu hi)
  (hw:¬ (fB items.size 0 lo=0 /\ fB items.size items.size hi=items.size))
  (h:Q (.ref s.heap.objs.size) { s with heap:=s.heap.push { cls:=.type "tuple", data:=.seq ((items.toList.drop (fB items.size 0 lo)).take (fB items.size items.size hi - fB items.size 0 lo)).toArray } })
  (hsz:items.size ≤ sizeLine):wpAny (model prog w) A (getItem (.ref t) (.ref sl)) Q E s:=by
 have htake:sizeOk (.seq ((items.toList.drop (fB items.size 0 lo)).take (fB items.size items.size hi - fB items.size 0 lo)).toArray):=by
  show ((items.toList.drop (fB items.size 0 lo)).take (fB items.size items.size hi - fB items.size 0 lo)).toArray.size ≤ sizeLine
  rw [List.size_toArray,List.length_take,List.length_drop,Array.length_toList]
  omega
 have hj:fB items.size items.size hi ≤ items.size:=Ii _ _ (Nat.le_refl _) hi
 obtain ⟨os,hos,hcs,hds⟩:=id hs
 have hTs:s.TypeIs (.ref sl) "slice" := ⟨os,hos,hcs⟩
 unfold getItem
 try with_reducible refine wpAny_holding ?_
 first | refine wpAny_bind (wpAny_pure ?_) | skip
 refine wpAny_bind (wpAny_sequenceKey ht.typeIs (by decide) ?_)
 refine wpAny_bind (wpAny_callSpecial?_slot (name:=Str.ofString "__getitem__") ht.typeIs PyProof.Rows.slot_tuple_getitem
  (wpAny_call_entry PyProof.Rows.slot_tuple_getitem ht.typeIs entry_tuple_getitem ?_ (args_tuple_getitem _ _)))
 show wpAny _ _ (Builtin.Tuple.tupleItemsOf (.ref t) >>= _) _ _ s
 refine wpAny_bind (tupleItemsOf_ ht ?_)
 refine wpAny_bind (wpAny_typeOf hTs ?_)
 rw [if_pos (by decide)]
 refine wpAny_bind (nC hs pl pu ?_)
 have hno:¬ ((((fB items.size 0 lo:Nat):Int) == 0 && (1:Int) == 1 && (fB items.size items.size hi - fB items.size 0 lo) == items.size)=true):=by
  intro q
  rw [Bool.and_eq_true,Bool.and_eq_true] at q
  have q1:((fB items.size 0 lo:Nat):Int)=0:=eq_of_beq q.1.1
  have q2:fB items.size items.size hi - fB items.size 0 lo=items.size:=eq_of_beq q.2
  exact hw ⟨by omega,by omega⟩
 show wpAny _ _ (if (((fB items.size 0 lo:Nat):Int) == 0 && (1:Int) == 1 && (fB items.size items.size hi - fB items.size 0 lo) == items.size)=true then _ else _) _ _ s
 rw [if_neg hno,Df]
 first
  | exact wpAny_bind (m:=Builtin.Tuple.tupleExact _) (wpAny_newObj_type (wpAny_pure ⟨_,rfl,wpAny_pure h⟩) htake)
  | exact wpAny_bind (m:=Builtin.Tuple.tupleExact _) (wpAny_newObj_type (wpAny_bind (wpAny_pure (wpAny_pure ⟨_,rfl,wpAny_pure h⟩))) htake)
  | exact wpAny_bind (wpAny_bind (m:=Builtin.Tuple.tupleExact _) (wpAny_newObj_type (wpAny_pure (wpAny_pure ⟨_,rfl,wpAny_pure h⟩)) htake))
  | exact wpAny_bind (wpAny_bind (m:=Builtin.Tuple.tupleExact _) (wpAny_newObj_type (wpAny_pure ⟨_,rfl,wpAny_pure h⟩) htake))
end
end HT
namespace L2
open PySem PySem.Spec PyProof.Rows
abbrev TO:=St -> Hp -> (Option Int -> Hp -> Prop) -> Prop
def PO (X:Cx) (e:Option Expr) (t:TO):Prop:=
 ∀ (pins:List (Addr × Obj)) (s:Shared) (σ:St) (H:Hp) (Q:Option Int -> Hp -> Prop),Inv X pins σ H s -> t σ H Q ->
  wpAny (model X.prog X.w) X.A (evalPart e X.env) (fun u s'=>∃ o H',Inv X pins σ H' s' /\ IsPart u o /\ Q o H') X.xe s
def FZ:TO:=fun _ H Q=>Q none H
def KA (t:TE):TO:=fun σ H Q=>t σ H fun x H1=>∃ i,x=.int i /\ Q (some i) H1
section
variable {X:Cx} {e:Expr} {te:TE} {lo hi:Option Expr} {tl th:TO} {pos p2:Pos}
theorem Fj:PO X none FZ:=by
 intro pins s σ H Q I h
 rw [evalPart_none]
 exact wpAny_pure ⟨none,H,I,.none,h⟩
theorem Fl (h:PE X e te):PO X (some e) (KA te):=by
 intro pins s σ H Q I hw
 rw [evalPart_some]
 refine df (h pins s σ H _ I hw) fun u s1 ⟨x,H1,I1,r1,q1⟩=>?_
 obtain ⟨i,rfl,q⟩:=q1
 obtain ⟨t,rfl⟩:=r1
 exact ⟨some i,H1,I1,.int i t,q⟩
def Gp (X:Cx) (r:V -> Option Int -> Option Int -> Hp -> VK -> Prop):Prop:=
 ∀ (pins:List (Addr × Obj)) (s:Shared) (σ:St) (H:Hp) (x:V) (v vl vu:Value) (lo hi:Option Int) (sl:Addr) (Q:VK),Inv X pins σ H s -> RelV x v -> s.heap.IsSliceOf sl vl vu .none -> IsPart vl lo -> IsPart vu hi -> r x lo hi H Q ->
  ∃ T id,typeLookup (.type T) "__getitem__" = pure (some (.builtin id)) /\ s.TypeIs v T /\ wpAny (model X.prog X.w) X.A (getItem v (.ref sl)) (EP X pins σ Q) X.xe s
theorem Gp.or {r r':V -> Option Int -> Option Int -> Hp -> VK -> Prop} (h:Gp X r) (h':Gp X r'):Gp X (fun x lo hi H Q=>r x lo hi H Q \/ r' x lo hi H Q):=by
 intro pins s σ H x v vl vu lo hi sl Q I rx hs pl pu q
 rcases q with q | q
 ·exact h pins s σ H x v vl vu lo hi sl Q I rx hs pl pu q
 ·exact h' pins s σ H x v vl vu lo hi sl Q I rx hs pl pu q
def MZ (r:V -> Option Int -> Option Int -> Hp -> VK -> Prop) (te:TE) (tl th:TO):TE:=fun σ H Q=>te σ H fun x H1=>tl σ H1 fun l H2=>th σ H2 fun u H3=>r x l u H3 Q
theorem wk {r:V -> Option Int -> Option Int -> Hp -> VK -> Prop} (hr:Gp X r) (he:PE X e te) (hl:PO X lo tl) (hu:PO X hi th):PE X (.Subscript e (.Slice lo hi none p2) pos) (MZ r te tl th):=by
 intro pins s σ H Q I h
 refine Subscript_ (df (he pins s σ H _ I h) fun v s1 ⟨x,H1,I1,r1,q1⟩=>?_)
 refine wpAny_Slice (df (hl pins s1 σ H1 _ I1 q1) fun vl s2 ⟨l,H2,I2,pl,q2⟩=>df (hu pins s2 σ H2 _ I2 q2) fun vu s3 ⟨u,H3,I3,pu,q3⟩=>?_)
 rw [evalPart_none]
 refine wpAny_pure ?_
 have I4:Inv X pins σ H3 { s3 with heap:=s3.heap.push { cls:=.type "slice", data:=.fields #[vl,vu,.none] } }:=I3.kept (t':=s3.toks) fun b ob q=>Heap.get?_push_of_some _ q
 obtain ⟨T,id,hT,ht,hg⟩:=hr pins { s3 with heap:=s3.heap.push { cls:=.type "slice", data:=.fields #[vl,vu,.none] } } σ H3 x v vl vu l u s3.heap.objs.size Q I4 r1 (Heap.IsSliceOf.new ..) pl pu q3
 show wpAny (model X.prog X.w) X.A (subscriptTail e (.Slice lo hi none p2) v (.ref s3.heap.objs.size)) (EP X pins σ Q) X.xe { s3 with heap:=s3.heap.push { cls:=.type "slice", data:=.fields #[vl,vu,.none] } }
 exact tail_any (ops:=[.ref s3.heap.objs.size,v]) ht hT hg (by with_unfolding_all rfl)
def pf (xs:List V) (lo hi:Option Int):List V:=(xs.drop (HT.fB xs.length 0 lo)).take (HT.fB xs.length xs.length hi - HT.fB xs.length 0 lo)
theorem nL (xs:List V) (lo hi:Option Int):(pf xs lo hi).length ≤ xs.length:=by
 unfold pf
 rw [List.length_take,List.length_drop]
 omega
def LO (K:PySem.W.Frag):V -> Option Int -> Option Int -> Hp -> VK -> Prop:=fun x lo hi H Q=>∃ a xs,x=.ref a /\ js K H a xs /\
 ¬ (HT.fB xs.length 0 lo=0 /\ HT.fB xs.length xs.length hi=xs.length) /\ ∀ p,H p=none -> Q (.ref p) (upd H p (.tup (pf xs lo hi)))
theorem Ip:Gp X (LO X.K):=by
 intro pins s σ H x v vl vu lo hi sl Q I rx hs pl pu h
 obtain ⟨a,xs,rfl,hx,hw,q⟩:=h
 cases rx
 obtain ⟨its,r,ht,hz⟩:=I.tuple hx
 have hlen:its.toArray.size=xs.length:=by rw [List.size_toArray]; exact r.length.symm
 refine ⟨"tuple", _,PyProof.Rows.slot_tuple_getitem.lookup,ht.typeIs,?_⟩
 refine HT.mj ht hs pl pu (by rw [hlen]; exact hw) ?_ (by rw [hlen]; exact hz)
 rw [hlen]
 refine ⟨.ref s.heap.objs.size,_,I.laid (t':=s.toks) (o:=.tup (pf xs lo hi)) (fun b ob q=>Heap.get?_push_of_some _ q) (Nat.le_refl _) ?_,rfl,q _ (I.hok.fresh (Nat.le_refl _))⟩
 exact ⟨Nat.le_trans (nL xs lo hi) hz,_,(r.drop (HT.fB xs.length 0 lo)).take (HT.fB xs.length xs.length hi - HT.fB xs.length 0 lo),IsTup.new _ _⟩
def Kj (K:PySem.W.Frag):R2:=fun x y H Q=>∃ a b xs ys,x=.ref a /\ y=.ref b /\ js K H a xs /\ js K H b ys /\ xs ≠ [] /\ xs.length + ys.length ≤ sizeLine /\
 (ys=[] -> Q (.ref a) H) /\ (ys ≠ [] -> ∀ p,H p=none -> Q (.ref p) (upd H p (.tup (xs ++ ys))))
theorem Vals.nil_iff {xs:List V} {us:List Value} (r:Vals xs us):us=[] ↔ xs=[]:=by
 cases r with
 | nil=>simp
 | cons _ _=>simp
theorem E9:nY X (binaryOp .Add) (Kj X.K):=by
 intro pins s σ H x y v u Q I rx ry h
 obtain ⟨a,b,xs,ys,rfl,rfl,ha,hb,hx,hz,q1,q2⟩:=h
 cases rx
 cases ry
 obtain ⟨its,r1,p1,_⟩:=I.tuple ha
 obtain ⟨its2,r2,p2,_⟩:=I.tuple hb
 refine HT.Ea p1 p2 (fun z=>hx (r1.nil_iff.mp z)) (fun z=>⟨.ref a,H,I,rfl,q1 (r2.nil_iff.mp z)⟩) (fun z=>?_) (by rw [<- r1.length,<- r2.length]; exact hz)
 refine ⟨.ref s.heap.objs.size,_,I.laid (t':=s.toks) (o:=.tup (xs ++ ys)) (fun b ob q=>Heap.get?_push_of_some _ q) (Nat.le_refl _) ?_,rfl,q2 (fun w=>z (r2.nil_iff.mpr w)) _ (I.hok.fresh (Nat.le_refl _))⟩
 exact ⟨by rw [List.length_append]; exact hz,_,r1.append r2,IsTup.new _ _⟩
end
open PySem PySem.Spec PyProof.Rows
def tM (n:Nat) (i:Int):Option Nat:=if 0 ≤ i then (if i < n then some i.toNat else none) else if -(n:Int) ≤ i then some (i + n).toNat else none
def mS {α:Type} (xs:List α) (i:Int):Option α:=(tM xs.length i).bind fun j=>xs[j]?
theorem zB {n:Nat} {i:Int} {j:Nat} (h:tM n i=some j):seqIndex? i n=some j /\ j < n /\ -(n:Int) ≤ i /\ i < n:=by
 unfold tM at h
 by_cases h0:0 ≤ i
 ·rw [if_pos h0] at h
  by_cases h1:i < n
  ·rw [if_pos h1] at h
   have e:i.toNat=j:=Option.some.inj h
   exact ⟨by rw [seqIndex_of h0 h1,e],by omega,by omega,h1⟩
  ·rw [if_neg h1] at h; cases h
 ·rw [if_neg h0] at h
  by_cases h1 : -(n:Int) ≤ i
  ·rw [if_pos h1] at h
   have e:(i + n).toNat=j:=Option.some.inj h
   exact ⟨by rw [seqIndex_neg (by omega) h1,e],by omega,h1,by omega⟩
  ·rw [if_neg h1] at h; cases h
theorem so {α:Type} {xs:List α} {i:Int} {v:α} (h:mS xs i=some v):∃ j,seqIndex? i xs.length=some j /\ xs[j]? = some v /\ j < xs.length /\ -(xs.length:Int) ≤ i /\ i < xs.length:=by
 unfold mS at h
 cases e:tM xs.length i with
 | none=>rw [e] at h; cases h
 | some j =>
  rw [e] at h
  obtain ⟨h1,h2,h3,h4⟩:=zB e
  exact ⟨j,h1,h,h2,h3,h4⟩
theorem sr {α:Type} {xs:List α} {j:Nat} {v:α} (h:xs[j]? = some v):mS xs (j:Int)=some v:=by
 have hj:j < xs.length:=(List.getElem?_eq_some_iff.mp h).1
 have e:tM xs.length (j:Int)=some j:=by
  unfold tM
  rw [if_pos (by omega),if_pos (by omega)]; simp
 unfold mS; rw [e]; exact h
def lW (b:Expr):Prop:=∀ o i,subscripted b false o i=operate [o,i] (getItem o i)
def DU (X:Cx) (r:R2):Prop:=
 ∀ (value slice:Expr) (pins:List (Addr × Obj)) (s:Shared) (σ:St) (H:Hp) (x y:V) (v u:Value) (Q:VK),Inv X pins σ H s -> RelV x v -> RelV y u -> r x y H Q ->
  subscripted slice false v u=operate [v,u] (getItem v u) -> wpAny (model X.prog X.w) X.A (subscriptTail value slice v u) (EP X pins σ Q) X.xe s
def Gk (X:Cx) (id:String) (r:V -> List V -> Hp -> VK -> Prop):Prop:=
 ∀ (pins:List (Addr × Obj)) (s:Shared) (σ:St) (H:Hp) (x:V) (xs:List V) (v:Value) (us:List Value) (Q:VK),Inv X pins σ H s -> RelV x v -> Vals xs us -> r x xs H Q ->
  wpAny (model X.prog X.w) X.A (call (.builtin id) (v :: us)) (EP X pins σ Q) X.xe s
section
variable {X:Cx} {a b:Expr} {ta tb:TE} {pos:Pos}
theorem DU.or {r r':R2} (h:DU X r) (h':DU X r'):DU X (fun x y H Q=>r x y H Q \/ r' x y H Q):=by
 intro value slice pins s σ H x y v u Q I rx ry q hs
 rcases q with q | q
 ·exact h value slice pins s σ H x y v u Q I rx ry q hs
 ·exact h' value slice pins s σ H x y v u Q I rx ry q hs
theorem Gk.or {id:String} {r r':V -> List V -> Hp -> VK -> Prop} (h:Gk X id r) (h':Gk X id r'):Gk X id (fun x xs H Q=>r x xs H Q \/ r' x xs H Q):=by
 intro pins s σ H x xs v us Q I rx rs q
 rcases q with q | q
 ·exact h pins s σ H x xs v us Q I rx rs q
 ·exact h' pins s σ H x xs v us Q I rx rs q
theorem C8 {r:R2} (hr:DU X r) (ha:PE X a ta) (hb:PE X b tb) (hs:lW b):PE X (.Subscript a b pos) (Ky r ta tb):=by
 intro pins s σ H Q I h
 exact Subscript_ (G0 ha hb I h fun v u s2 x y H2 I2 rx ry q=>hr a b pins s2 σ H2 x y v u Q I2 rx ry q (hs _ _))
def LK (K:PySem.W.Frag):R2:=fun x y H Q=>∃ p xs i v,x=.ref p /\ y=.int i /\ dE K H p xs /\ mS xs i=some v /\ Q v H
def LM (K:PySem.W.Frag):R2:=fun x y H Q=>∃ p xs i v,x=.ref p /\ y=.int i /\ js K H p xs /\ mS xs i=some v /\ Q v H
def LL:R2:=fun x y H Q=>∃ z i c,x=.str z /\ y=.int i /\ z.length ≤ sizeLine /\ mS z.cps.toList i=some c /\ Q (.str ⟨#[c]⟩) H
theorem tN:DU X (LK X.K):=by
 intro value slice pins s σ H x y v u Q I rx ry h hs
 obtain ⟨p,xs,i,z,rfl,rfl,hq,he,q⟩:=h
 cases rx
 obtain ⟨t,rfl⟩:=ry
 obtain ⟨its,r,pl,hz⟩:=I.list hq
 obtain ⟨j,h1,h2,h3,h4,h5⟩:=so he
 obtain ⟨w,ew,rw'⟩:=r.get h2
 have hl:=r.length
 have hn:=ly
 have fin:EP X pins σ Q w s:=⟨z,H,I,rw',q⟩
 by_cases h0:0 ≤ i
 ·have hj:i.toNat=j:=by
   rw [seqIndex_of h0 h5] at h1
   exact Option.some.inj h1
  exact item_listR pl.isList h0 (by omega) (by rw [hj]; simpa using ew) fin hs
 ·have hj:(i + (its.toArray.size:Int)).toNat=j:=by
   rw [seqIndex_neg (by omega) h4] at h1
   rw [List.size_toArray,<- hl]
   exact Option.some.inj h1
  exact subscriptTail_builtinR (x:=w) pl.isList.typeIs slot_list_getitem.lookup
   (wpAny_getItem_list_neg (Q:=fun r s'=>r=w /\ EP X pins σ Q r s') pl.isList (by omega) (by rw [List.size_toArray] <;> omega) (by omega) (by rw [hj]; simpa using ew) ⟨rfl,fin⟩) hs
theorem CA:DU X (LM X.K):=by
 intro value slice pins s σ H x y v u Q I rx ry h hs
 obtain ⟨p,xs,i,z,rfl,rfl,hq,he,q⟩:=h
 cases rx
 obtain ⟨t,rfl⟩:=ry
 obtain ⟨its,r,pl,hz⟩:=I.tuple hq
 obtain ⟨j,h1,h2,h3,h4,h5⟩:=so he
 obtain ⟨w,ew,rw'⟩:=r.get h2
 have hl:=r.length
 have hn:=ly
 have fin:EP X pins σ Q w s:=⟨z,H,I,rw',q⟩
 exact subscriptTail_builtinR (x:=w) pl.typeIs slot_tuple_getitem.lookup
  (getItem_tuple (j:=j) (Q:=fun r s'=>r=w /\ EP X pins σ Q r s') pl (by omega) (by omega) (by rw [List.size_toArray,<- hl]; exact h1) (by simpa using ew) ⟨rfl,fin⟩) hs
theorem Hv:DU X LL:=by
 intro value slice pins s σ H x y v u Q I rx ry h hs
 obtain ⟨z,i,c,rfl,rfl,hz,he,q⟩:=h
 obtain ⟨t,rfl⟩:=rx
 obtain ⟨t',rfl⟩:=ry
 obtain ⟨j,h1,h2,h3,h4,h5⟩:=so he
 have hl:z.cps.toList.length=z.length:=by simp [Str.length]
 rw [hl] at h1 h4 h5
 have hn:=ly
 exact tail_any (typeIs_str s z t) slot_str_getitem.lookup (getItem_str (c:=c) (by
  have e1:decide (i < -(2 ^ 63:Int))=false:=decide_eq_false (by omega)
  have e2:decide (i ≥ 2 ^ 63)=false:=decide_eq_false (by omega)
  rw [e1,e2,Bool.or_false]) (by rw [h1]; simpa using h2) ⟨.str ⟨#[c]⟩,H,I.tok _,⟨_,rfl⟩,q⟩) hs
theorem x8 (its:List Value) (n j:Nat) (u:Value):Obj.mapSeq (·.setIfInBounds j u) { cls:=.type "list", data:=.seq its.toArray n }={ cls:=.type "list", data:=.seq (its.set j u).toArray n }:=by
 simp [Obj.mapSeq]
theorem Inv.lst {pins:List (Addr × Obj)} {σ:St} {H:Hp} {s:Shared} {p:Addr} {xs:List V} (I:Inv X pins σ H s) (h:H p=some (.lst xs)) :
  ∃ (its:List Value) (n:Nat),Vals xs its /\ s.heap.get? p=some { cls:=.type "list", data:=.seq its.toArray n } /\ xs.length ≤ sizeLine:=by
 obtain ⟨z,its,n,r,e⟩:=I.hok p _ h
 exact ⟨its,n,r,e,z⟩
theorem Inv.lstUpd {pins:List (Addr × Obj)} {σ:St} {H:Hp} {s:Shared} {p:Addr} {xs ys:List V} {its its':List Value} {n n':Nat} {f:Obj -> Obj} (I:Inv X pins σ H s) (h:H p=some (.lst xs))
  (ho:s.heap.get? p=some { cls:=.type "list", data:=.seq its.toArray n }) (hf:f { cls:=.type "list", data:=.seq its.toArray n }={ cls:=.type "list", data:=.seq its'.toArray n' }) (r:Vals ys its') (hz:ys.length ≤ sizeLine) (t:Nat) :
  Inv X pins σ (upd H p (.lst ys)) { s with heap:=s.heap.update p f,toks:=t }:=by
 have e:(s.heap.update p f).get? p=some { cls:=.type "list", data:=.seq its'.toArray n' }:=by
  rw [Heap.get?_update_self f ho (by rw [hf] <;> rfl),hf]
 refine I.write (x:=p) (e:=p) (by rw [h]; trivial) (.inl rfl) (fun b u hb q=>(Heap.get?_update_other _ _ (Ne.symm hb)).trans q) ⟨_,e⟩ ?_
 exact ⟨hz,its',n',r,e⟩
def Kk:V -> V -> V -> Hp -> (Hp -> Prop) -> Prop:=fun o i v H Q=>∃ p xs k j,o=.ref p /\ i=.int k /\ H p=some (.lst xs) /\ tM xs.length k=some j /\ Q (upd H p (.lst (xs.set j v)))
theorem set_list:Ja X Kk:=by
 intro pins s σ H o i v ov iv u Q I ro ri rv h
 obtain ⟨p,xs,k,j,rfl,rfl,hp,hj,q⟩:=h
 cases ro
 obtain ⟨t,rfl⟩:=ri
 obtain ⟨its,n,r,ho,hz⟩:=I.lst hp
 obtain ⟨h1,h2,h3,h4⟩:=zB hj
 have hl:=r.length
 have hn:=ly
 have I':Inv X pins σ (upd H p (.lst (xs.set j v))) { s with heap:=s.heap.update p (Obj.mapSeq (·.setIfInBounds j u)) }:=
  I.lstUpd hp ho (x8 its n j u) (r.set rv j) (by rw [List.length_set]; exact hz) s.toks
 by_cases h0:0 ≤ k
 ·have hk:k.toNat=j:=by
   rw [seqIndex_of h0 h4] at h1
   exact Option.some.inj h1
  exact PySem.W.ki_setAt ho h0 (by omega) (by rw [List.size_toArray,<- hl]; exact h4) (by rw [hk]; exact ⟨_,I',q⟩)
 ·have hk:(k + (its.toArray.size:Int)).toNat=j:=by
   rw [seqIndex_neg (by omega) h3] at h1
   rw [List.size_toArray,<- hl]
   exact Option.some.inj h1
  exact PySem.W.ki_setBack ho (by omega) (by rw [List.size_toArray,<- hl]; exact h3) (by omega) (by rw [hk]; exact ⟨_,I',q⟩)
theorem uD (lo hi:Option Int) (n:Nat):(sliceBounds lo hi none n).1=((HT.fB n 0 lo:Nat):Int) /\ (sliceBounds lo hi none n).2.1=((HT.fB n n hi:Nat):Int) /\ (sliceBounds lo hi none n).2.2=1:=by
 refine ⟨?_,?_,rfl⟩
 ·cases lo with
  | none=>simp [sliceBounds,HT.fB]
  | some i =>
   simp only [sliceBounds,HT.fB,Option.getD_none,show (1:Int) > 0 by decide,if_true]
   by_cases h:i < 0
   ·simp only [h,if_true] <;> omega
   ·simp only [h,if_false] <;> omega
 ·cases hi with
  | none=>simp [sliceBounds,HT.fB]
  | some i =>
   simp only [sliceBounds,HT.fB,Option.getD_none,show (1:Int) > 0 by decide,if_true]
   by_cases h:i < 0
   ·simp only [h,if_true] <;> omega
   ·simp only [h,if_false] <;> omega
theorem qX (its:List Value) (lo hi:Option Int):slicePick its.toArray lo hi none=((its.drop (HT.fB its.length 0 lo)).take (HT.fB its.length its.length hi - HT.fB its.length 0 lo)).toArray:=by
 obtain ⟨h1,h2,h3⟩:=uD lo hi its.toArray.size
 unfold slicePick
 rw [h1,h2,h3]
 simp only [sliceRange_one,pick_run,List.size_toArray] <;> rfl
def LN (K:PySem.W.Frag):V -> Option Int -> Option Int -> Hp -> VK -> Prop:=fun x lo hi H Q=>∃ a xs,x=.ref a /\ dE K H a xs /\ ∀ p,H p=none -> Q (.ref p) (upd H p (.lst (pf xs lo hi)))
theorem z9:Gp X (LN X.K):=by
 intro pins s σ H x v vl vu lo hi sl Q I rx hs pl pu h
 obtain ⟨a,xs,rfl,hx,q⟩:=h
 cases rx
 obtain ⟨its,r,ht,hz⟩:=I.list hx
 have hlen:=r.length
 refine ⟨"list", _,slot_list_getitem.lookup,ht.isList.typeIs,?_⟩
 refine wpAny_getItem_list_slice ht.isList hs pl pu .none (by simp) ?_ (by rw [List.size_toArray] <;> omega)
 rw [qX,<- hlen]
 refine ⟨.ref s.heap.objs.size,_,I.laid (t':=s.toks) (o:=.lst (pf xs lo hi)) (fun b ob q=>Heap.get?_push_of_some _ q) (Nat.le_refl _) ?_,rfl,q _ (I.hok.fresh (Nat.le_refl _))⟩
 exact ⟨Nat.le_trans (nL xs lo hi) hz,_,0,(r.drop (HT.fB xs.length 0 lo)).take (HT.fB xs.length xs.length hi - HT.fB xs.length 0 lo),Heap.get?_push_size _ rfl⟩
theorem sx:gW X (.builtin "len") (fun xs H Q=>∃ p ys,xs=[.ref p] /\ (dE X.K H p ys \/ js X.K H p ys) /\ Q (.int ys.length) H):=by
 intro pins s σ H xs us Q I r h
 obtain ⟨p,ys,rfl,hq,q⟩:=h
 obtain ⟨u,rfl,rx⟩:=vals1 r
 cases rx
 have hn:=ly
 rcases hq with hq | hq
 ·obtain ⟨its,r',pl,hz⟩:=I.list hq
  have hlen:=r'.length
  exact Calls.call_len_list pl.isList (by simp only [List.size_toArray] <;> omega) ⟨.int ys.length,H,I.tok _,⟨s.toks + 1,by rw [List.size_toArray,hlen]⟩,q⟩
 ·obtain ⟨its,r',pl,hz⟩:=I.tuple hq
  have hlen:=r'.length
  exact len_tuple pl (by simp only [List.size_toArray] <;> omega) ⟨.int ys.length,H,I.tok _,⟨s.toks + 1,by rw [List.size_toArray,hlen]⟩,q⟩
theorem sy:gW X (.builtin "len") (fun xs H Q=>∃ z,xs=[.str z] /\ z.length ≤ sizeLine /\ Q (.int z.length) H):=by
 intro pins s σ H xs us Q I r h
 obtain ⟨z,rfl,hz,q⟩:=h
 obtain ⟨u,rfl,t,rfl⟩:=vals1 r
 have hn:=ly
 exact len_str (by omega) ⟨.int z.length,H,I.tok _,⟨_,rfl⟩,q⟩
theorem gW.or {f:Value} {r r':List V -> Hp -> VK -> Prop} (h:gW X f r) (h':gW X f r'):gW X f (fun xs H Q=>r xs H Q \/ r' xs H Q):=by
 intro pins s σ H xs us Q I rs q
 rcases q with q | q
 ·exact h pins s σ H xs us Q I rs q
 ·exact h' pins s σ H xs us Q I rs q
theorem ja:gW X (.type "list") (fun xs H Q=>∃ p ys,xs=[.ref p] /\ (dE X.K H p ys \/ js X.K H p ys) /\ ∀ l,H l=none -> Q (.ref l) (upd H l (.lst ys))):=by
 intro pins s σ H xs us Q I r h
 obtain ⟨p,ys,rfl,hq,q⟩:=h
 obtain ⟨u,rfl,rx⟩:=vals1 r
 cases rx
 have fin:∀ (its:List Value),Vals ys its -> ys.length ≤ sizeLine -> ∀ (h':Heap) (c':Nat),(∀ b o',s.heap.get? b=some o' -> h'.get? b=some o') ->
   h'.get? s.heap.objs.size=some { cls:=.type "list", dict:=none,data:=.seq its.toArray c',slots:=#[] } -> EP X pins σ Q (.ref s.heap.objs.size) { s with heap:=h' }:=fun its r' hz h' c' kp e =>
  ⟨.ref s.heap.objs.size,_,I.laid (t':=s.toks) kp (Nat.le_refl _) (show fH X.prog X.w _ h' _ (.lst ys) from ⟨hz,its,c',r',e⟩),rfl,q _ (I.hok.fresh (Nat.le_refl _))⟩
 rcases hq with hq | hq
 ·obtain ⟨its,r',pl,hz⟩:=I.list hq
  have hlen:=r'.length
  obtain ⟨o,ho,hc,n,hd⟩:=pl.isList
  exact call_list_seq p (.inl rfl) ho hc hd (fun h' c' kp e=>fin its r' hz h' c' kp e) (by simp only [List.size_toArray] <;> omega)
 ·obtain ⟨its,r',pl,hz⟩:=I.tuple hq
  have hlen:=r'.length
  obtain ⟨o,ho,hc,n,hd⟩:=pl
  exact call_list_seq p (.inr rfl) ho hc hd (fun h' c' kp e=>fin its r' hz h' c' kp e) (by simp only [List.size_toArray] <;> omega)
theorem kN:gW X (.type "tuple") (fun xs H Q=>∃ p ys,xs=[.ref p] /\ ((dE X.K H p ys /\ ∀ l,H l=none -> Q (.ref l) (upd H l (.tup ys))) \/ (js X.K H p ys /\ Q (.ref p) H))):=by
 intro pins s σ H xs us Q I r h
 obtain ⟨p,ys,rfl,h⟩:=h
 obtain ⟨u,rfl,rx⟩:=vals1 r
 cases rx
 rcases h with ⟨hq,q⟩ | ⟨hq,q⟩
 ·obtain ⟨its,r',pl,hz⟩:=I.list hq
  have hlen:=r'.length
  refine call_tuple_list pl.isList (fun h' kp=>?_) (by simp only [List.size_toArray] <;> omega)
  have I1:Inv X pins σ H { s with heap:=h' }:=I.kept (t':=s.toks) kp
  have I2:Inv X pins σ (upd H h'.objs.size (.tup ys)) { s with heap:=h'.push { cls:=.type "tuple", data:=.seq its.toArray } }:=
   I1.laid (t':=s.toks) (fun b o e=>Heap.get?_push_of_some _ e) (Nat.le_refl _) (show fH X.prog X.w _ _ _ (.tup ys) from ⟨hz,its,r',IsTup.new _ _⟩)
  exact ⟨.ref h'.objs.size,_,I2,rfl,q _ (I1.hok.fresh (Nat.le_refl _))⟩
 ·obtain ⟨its,r',pl,hz⟩:=I.tuple hq
  exact call_tuple_same pl ⟨.ref p,H,I,rfl,q⟩
def L8 (K:PySem.W.Frag) (T:String) (x:V) (H:Hp):Prop:=match x with
 | .str _=>T = "str"
 | .int _=>T = "int"
 | .ref p=>(T = "list" /\ ∃ xs,dE K H p xs) \/ (T = "tuple" /\ ∃ o,K.lookup p=some o /\ o.cls=.type "tuple" /\ o.dict=none) \/
   (T = "dict" /\ ((∃ kvs,H p=some (.dK kvs)) \/ ∃ kvs,H p=some (.dT kvs))) \/ (T = "set" /\ ∃ S n,H p=some (.set S n))
 | _=>False
theorem DQ {pins:List (Addr × Obj)} {σ:St} {H:Hp} {s:Shared} {T:String} {x:V} {v:Value} (I:Inv X pins σ H s) (r:RelV x v) (ty:L8 X.K T x H) :
  s.TypeIs v T /\ ∀ a,v=.ref a -> ∃ ob,s.heap.get? a=some ob /\ ob.dict=none:=by
 cases x with
 | str z =>
  obtain ⟨t,rfl⟩:=r
  cases (show T = "str" from ty)
  exact ⟨typeIs_str s z t,fun _ e=>nomatch e⟩
 | int i =>
  obtain ⟨t,rfl⟩:=r
  cases (show T = "int" from ty)
  exact ⟨typeIs_int s i t,fun _ e=>nomatch e⟩
 | ref p =>
  cases r
  rcases ty with ⟨rfl,xs,hq⟩ | ⟨rfl,o,hk,hc,hd⟩ | ⟨rfl,hk⟩ | ⟨rfl,S,n,hk⟩
  ·obtain ⟨its,_,pl,_⟩:=I.list hq
   refine ⟨pl.isList.typeIs,fun a e=>?_⟩
   cases e
   obtain ⟨o,n,e,c,hd,_⟩:=pl
   exact ⟨o,e,hd⟩
  ·refine ⟨⟨o,I.kIn p o hk,hc⟩,fun a e=>?_⟩
   cases e
   exact ⟨o,I.kIn _ o hk,hd⟩
  ·have z:∃ o,s.heap.get? p=some o /\ o.ExactDict:=by
    rcases hk with ⟨kvs,hk⟩ | ⟨kvs,hk⟩
    ·obtain ⟨_,_,_,_,o,_,_,e,ex,_⟩:=I.hok p _ hk
     exact ⟨o,e,ex⟩
    ·obtain ⟨_,_,_,_,o,_,_,e,ex,_⟩:=I.hok p _ hk
     exact ⟨o,e,ex⟩
   obtain ⟨o,e,ex⟩:=z
   refine ⟨⟨o,e,ex.1⟩,fun a e2=>?_⟩
   cases e2
   exact ⟨o,e,ex.2.1⟩
  ·obtain ⟨o,_,_,_,e,ex,_⟩:=I.hok p _ hk
   refine ⟨⟨o,e,ex.1⟩,fun a e2=>?_⟩
   cases e2
   exact ⟨o,e,ex.2.1⟩
 | _=>exact False.elim ty
def LR (K:PySem.W.Frag) (T:String) (r:V -> List V -> Hp -> VK -> Prop) (to:TE):TE:=fun σ H Q=>to σ H fun x H1=>L8 K T x H1 /\ r x [] H1 Q
def MV (K:PySem.W.Frag) (T:String) (r:V -> List V -> Hp -> VK -> Prop) (to:TE) (t:TA):TE:=fun σ H Q=>to σ H fun x H1=>L8 K T x H1 /\ t σ H1 fun xs H2=>r x xs H2 Q
variable {o e:Expr} {es:List Expr} {to:TE} {t:TA} {name:Str} {apos cpos:Pos} {T id:String} {r:V -> List V -> Hp -> VK -> Prop}
theorem yh (pa:PlainAttrs T) (slot:Slot T name id) (hty:typeOf (.builtin id)=pure (.type "method_descriptor")) (hm:Gk X id r) (ho:PE X o to)
  (hbase:attributeBase o name X.env (eval o X.env)=eval o X.env:=by rfl) (hline:(apos.endLine == cpos.line)=true:=by rfl):PE X (.Call (.Attribute o name apos) [] [] cpos) (LR X.K T r to):=by
 intro pins s σ H Q I h
 refine wpAny_Call_method0_late hbase hline (df (ho pins s σ H _ I h) fun v s1 ⟨x,H1,I1,r1,ty,q1⟩=>?_)
 obtain ⟨h1,h2⟩:=DQ I1 r1 ty
 exact ⟨T,id,pa,slot,hty,h1,h2,Calls.callWith_builtin rfl (PySem.evalArgs_none (hm pins s1 σ H1 x [] v [] Q I1 r1 .nil q1))⟩
theorem zM (pa:PlainAttrs T) (slot:Slot T name id) (hty:typeOf (.builtin id)=pure (.type "method_descriptor")) (hm:Gk X id r) (ho:PE X o to) (ha:PA X (e :: es) t)
  (hbase:attributeBase o name X.env (eval o X.env)=eval o X.env:=by rfl)
  (hfew:((backTo cpos (starEach (e :: es) X.env)).all (fun x=>!x.1) && (backToKw cpos (keywordEach [] X.env)).all (fun x=>x.1.isSome)
   && decide ((e :: es).length + ([]:List Keyword).length + (if ([]:List Keyword).isEmpty then 0 else 1) < 30))=true:=by rfl)
  (hline:(apos.endLine == cpos.line)=true:=by rfl) (hs:starEach (e :: es) X.env=(false,eval e X.env) :: starEach es X.env:=by rfl) (hplain:(backTo cpos (starEach es X.env)).any (·.1)=false:=by rfl) :
  PE X (.Call (.Attribute o name apos) (e :: es) [] cpos) (MV X.K T r to t):=by
 intro pins s σ H Q I h
 refine wpAny_Call_method_late hbase hfew hline rfl (df (ho pins s σ H _ I h) fun v s1 ⟨x,H1,I1,r1,ty,q1⟩=>?_)
 obtain ⟨h1,h2⟩:=DQ I1 r1 ty
 refine ⟨T,id,pa,slot,hty,h1,h2,?_⟩
 have hA:=ha cpos pins s1 σ H1 _ I1 q1
 rw [hs] at hA ⊢
 refine Calls.callWith_builtin (by show (false || (backTo cpos (starEach es X.env)).any (·.1))=false; rw [hplain] <;> rfl) (Calls.evalArgs_plain ?_)
 exact df hA fun us s2 ⟨vs,H2,I2,r2,q2⟩=>hm pins s2 σ H2 x vs v us Q I2 r1 r2 q2
/- xs.append(e),list.index on a module's tuple .. are Gk facts of 06m -/
end
open PySem PySem.Spec PyProof.Rows
def Me (X:Cx) (id:String) (r:V -> List V -> Hp -> VK -> Prop):Prop:=
 ∀ (pins:List (Addr × Obj)) (s:Shared) (σ:St) (H:Hp) (x:V) (xs:List V) (v:Value) (us:List Value) (Q:VK),Inv X pins σ H s -> RelV x v -> Vals xs us -> r x xs H Q ->
  wpAny (model X.prog X.w) X.A (call (.builtin id) (v :: us)) (EP X pins σ Q) X.xe s
theorem Vals.one:∀ {x:V} {us:List Value},Vals [x] us -> ∃ u,us=[u] /\ RelV x u
 | _,_,.cons r .nil=>⟨_,rfl,r⟩
theorem Vals.two:∀ {x y:V} {us:List Value},Vals [x,y] us -> ∃ u v,us=[u,v] /\ RelV x u /\ RelV y v
 | _,_,_,.cons r (.cons q .nil)=>⟨_,_,rfl,r,q⟩
theorem Vals.zero:∀ {us:List Value},Vals [] us -> us=[]
 | _,.nil=>rfl
theorem Vals.reverse {xs:List V} {us:List Value} (h:Vals xs us):Vals xs.reverse us.reverse:=by
 induction h with
 | nil=>exact .nil
 | cons r t ih=>rw [List.reverse_cons,List.reverse_cons]; exact Vals.append ih (.cons r .nil)
theorem Vals.rep {xs:List V} {us:List Value} (h:Vals xs us):∀ k:Nat,Vals (List.replicate k xs).flatten (List.replicate k us).flatten
 | 0=>.nil
 | k + 1=>by
  rw [List.replicate_succ,List.replicate_succ,List.flatten_cons,List.flatten_cons]
  exact Vals.append h (Vals.rep h k)
section
variable {X:Cx} {pins:List (Addr × Obj)} {σ:St} {H:Hp} {s:Shared} {l b:Addr} {xs ys zs:List V}
theorem Inv.lset {its its':List Value} {n:Nat} {f:Array Value -> Array Value} {t':Nat} (I:Inv X pins σ H s) (hH:H l=some (.lst xs))
  (e:s.heap.get? l=some { cls:=.type "list", data:=.seq its.toArray n }) (hf:f its.toArray=its'.toArray) (hv:Vals ys its') (hz:ys.length ≤ sizeLine) :
  Inv X pins σ (upd H l (.lst ys)) { s with heap:=s.heap.update l (Obj.mapSeq f),toks:=t' }:=by
 have q:=PySem.IsL.update e f
 rw [hf] at q
 refine I.write (x:=l) (e:=l) (by rw [hH]; exact trivial) (.inl rfl) (fun b' u hb hu=>(Heap.get?_update_other s.heap (Obj.mapSeq f) (Ne.symm hb)).trans hu) ⟨_,q⟩ ?_
 exact ⟨hz,its',_,hv,q⟩
theorem Inv.lnew {its:List Value} {t':Nat} (I:Inv X pins σ H s) (hv:Vals ys its) (hz:ys.length ≤ sizeLine) :
  Inv X pins σ (upd H s.heap.objs.size (.lst ys)) { s with heap:=s.heap.push { cls:=.type "list", data:=.seq its.toArray },toks:=t' }:=
 I.laid (fun _ _ q=>Heap.get?_push_of_some _ q) (Nat.le_refl _) ⟨hz,its,0,hv,Heap.get?_push_size _ rfl⟩
theorem Inv.fresh (I:Inv X pins σ H s):H s.heap.objs.size=none:=I.hok.fresh (Nat.le_refl _)
theorem Inv.lstM (I:Inv X pins σ H s) (hH:H l=some (.lst xs)):xs.length ≤ sizeLine /\ ∃ (its:List Value) (n:Nat),Vals xs its /\ xs.length=its.length /\ s.heap.get? l=some { cls:=.type "list", data:=.seq its.toArray n }:=by
 obtain ⟨z,its,n,r,e⟩:=I.hok l _ hH
 exact ⟨z,its,n,r,r.length,e⟩
end
section
variable {X:Cx}
def Ft:V -> List V -> Hp -> VK -> Prop:=fun x vs H Q=>∃ l xs y,x=.ref l /\ vs=[y] /\ H l=some (.lst xs) /\ xs.length < sizeLine /\ Q .non (upd H l (.lst (xs ++ [y])))
theorem gx:Me X "list.append" Ft:=by
 intro pins s σ H x vs v us Q I rx rv h
 obtain ⟨l,xs,y,rfl,rfl,hH,hz,q⟩:=h
 cases rx
 obtain ⟨u,rfl,ru⟩:=rv.one
 obtain ⟨z,its,n,r,hl,e⟩:=I.lstM hH
 refine call_meets F.slot_list_append ⟨_,e,rfl⟩ F.entry_list_append (F.args_list_append_2 _ _) (PySem.list_append l its.toArray n u (by rw [List.size_toArray]; omega)) ⟨e,?_⟩
 refine ⟨.non,_,I.lset (its':=its ++ [u]) hH e (by simp) (r.append (.cons ru .nil)) ?_,rfl,q⟩
 rw [List.length_append,List.length_singleton]
 omega
def Ih:V -> List V -> Hp -> VK -> Prop:=fun x vs H Q=>∃ l xs,x=.ref l /\ vs=[] /\ H l=some (.lst xs) /\ Q .non (upd H l (.lst []))
theorem vQ:Me X "list.clear" Ih:=by
 intro pins s σ H x vs v us Q I rx rv h
 obtain ⟨l,xs,rfl,rfl,hH,q⟩:=h
 cases rx
 have hus:=rv.zero
 subst hus
 obtain ⟨z,its,n,r,hl,e⟩:=I.lstM hH
 refine call_meets F.slot_list_clear ⟨_,e,rfl⟩ F.entry_list_clear (F.args_list_clear_1 _) (AutoSeq1.list_clear_list_0 l its.toArray n (by rw [List.size_toArray]; omega)) ⟨e,?_⟩
 exact ⟨.non,_,I.lset (its':=[]) (ys:=[]) hH e rfl .nil (Nat.zero_le _),rfl,q⟩
def LJ:R2:=fun x y H Q=>∃ l b xs zs,x=.ref l /\ y=.ref b /\ H l=some (.lst xs) /\ H b=some (.lst zs) /\ xs.length + zs.length ≤ sizeLine /\ ∀ p,H p=none -> Q (.ref p) (upd H p (.lst (xs ++ zs)))
theorem HL:nY X (binaryOp .Add) LJ:=by
 intro pins s σ H x y v u Q I rx ry h
 obtain ⟨l,b,xs,zs,rfl,rfl,hH,hB,hz,q⟩:=h
 cases rx
 cases ry
 obtain ⟨z,its,n,r,hl,e⟩:=I.lstM hH
 obtain ⟨z2,its2,n2,r2,JK,e2⟩:=I.lstM hB
 refine PySem.P.add_list e e2 ?_ (by rw [List.size_toArray,List.size_toArray]; omega)
 have ea:its.toArray ++ its2.toArray=(its ++ its2).toArray:=by simp
 rw [ea]
 exact ⟨.ref _,_,I.lnew (t':=s.toks) (r.append r2) (by rw [List.length_append]; omega),rfl,q _ I.fresh⟩
end
section
variable {prog:Program} {w:World} {A:Around} {E:Value -> Shared -> Prop} {s:Shared}
end
section
variable {X:Cx}
end
end L2
namespace Att
open PySem PySem.W PySem.Calls PyProof.Rows
theorem n9 {P:Params} {h:Heap}:∀ (ns:List Int) (vs:List Value),WellAll P h vs (ns.map WData.int) -> IntsAre vs ns:=by
 intro ns
 induction ns with
 | nil =>
  intro vs w
  rw [List.map_nil] at w
  cases w
  exact .nil
 | cons n ns ih =>
  intro vs w
  rw [List.map_cons] at w
  cases w with
  | cons a b =>
   cases a
   exact .cons _ _ (ih _ b)
theorem Bb {l:OpenLaw} {n:Nat} (hn:l.most=some n) {P:Params} {h:Heap} {args:List WData} {vals:List Value}
  (hpre:l.row.toRowW.claim.pre args=true) (hwl:WellAll P h vals args) :
  ∃ a vs ns,vals=[Value.ref a] /\ args=[WData.list (ns.map WData.int)] /\ h.get? a=some { cls:=.type "list", data:=.seq vs.toArray } /\ IntsAre vs ns /\ ns.length ≤ n:=by
 have hsh:WShape.hasAll [] args [.list .int]=true:=(pre_splitW hpre).1
 have hc:l.pre.holds [] { args:=args }=true:=(pre_splitW hpre).2
 obtain ⟨d,r,rfl,h1,h2⟩:=hasAllW_cons hsh
 obtain rfl:=hasAllW_nil h2
 obtain ⟨xs,rfl,h3⟩:=hasW_list h1
 obtain ⟨ns,rfl⟩:=items_int h3
 have hlen:ns.length ≤ n:=by
  unfold OpenLaw.pre at hc
  have h4:(WTm.not (.lt (.lit (.int (n:Int))) (.len (.arg 0)))).holds [] { args:=[.list (ns.map .int)] }=true:=by
   have h4:=(holds_andW hc).1
   rw [hn] at h4
   exact h4
  have h5:=condW_of h4 (w_not (w_lt w_lit (w_len_list (w_arg rfl))))
  rw [List.length_map] at h5
  refine Nat.le_of_not_lt fun q=>?_
  have q':(n:Int) < ((ns.length:Nat):Int):=by omega
  first
   | (rw [decide_eq_true q'] at h5; exact absurd h5 (by decide))
   | (simp at h5; omega)
 cases hwl with
 | cons w1 w2 =>
  cases w2
  cases w1 with
  | list ho hall=>exact ⟨_,_,ns,rfl,rfl,ho,n9 ns _ hall,hlen⟩
theorem A0 (l:OpenLaw) (args:List WData):l.row.toRowW.claim.post args (.bool true) args=true:=
 postW_of (r:=l.row.toRowW) (X:=(true == true))
  (show WShape.has [] (.bool true) .bool=true by first | rfl | decide | simp [WShape.has,WShape.arms,WShape.armsAll])
  (show (WTm.eq .res (.lit (.bool true))).value [] { args:=args,res:=some (.bool true),after:=args }=some (.bool (true == true)) from w_eq_bool (w_res rfl) w_lit) rfl
theorem uO {l:OpenLaw} {n:Nat} {q:Program} {loose:List Str} {XP:(Str -> Option Value) -> Heap -> Prop} {YP:World -> Heap -> Prop} {d:DefRec}
  (hn:l.most=some n) (hdf:d.params.defaults=[])
  (call:∀ (w:World) (s₀ s₁:Shared) (mg mb:Str -> Option Value) (fa:Addr) (o:Obj) (pm cd doc:Value) (a:Addr) (vs:List Value) (ns:List Int),
   Ground q loose [] XP w s₀ mg mb s₁.heap -> YP w s₁.heap ->
   s₁.heap.get? fa=some o -> o.data=.func (docDef d.name d.params d.body d.scope pm cd doc) -> s₁.heap.CodeRec cd d.name -> mg d.name=some (.ref fa) ->
   s₁.heap.get? a=some { cls:=.type "list", data:=.seq vs.toArray } -> IntsAre vs ns -> ns.length ≤ n -> s₁.gens = #[] ->
   codeAny (model l.prog w) callerA (.call (.ref fa) ⟨[.ref a],[]⟩) (fun r s'=>r=.ok (.ret (.bool true)) /\ OldK s₁.heap s'.heap /\ s'.os=s₁.os /\ AllBare s'.gens) s₁) :
  WalkO q loose XP YP l.row.toRowW d [] (fun f vs=>PySem.call f vs):=by
 intro w s₀ s₁ mg mb G Y fa o pm cd doc dV kV ho hd hcd hD hmg hg args vals as hpre hlay hrd hwl hlo
 obtain rfl:dV=.none:=Dflts.none hD hdf
 obtain rfl:kV=.none:=Dflts.noKw hD
 obtain ⟨a,vs,ns,rfl,rfl,hobj,hints,hlen⟩:=Bb hn hpre hwl
 refine enter_call (codeAny_mono (call w s₀ s₁ mg mb fa o pm cd doc a vs ns G Y ho (fd_plain hd) hcd hmg hobj hints hlen hg) fun r s' hq=>?_)
 obtain ⟨rfl,h2,h3,h4⟩:=hq
 exact ⟨.inl ⟨.bool true,.bool true,[],rfl,fun _=>rfl,.bool true,A0 l _,fun _=>⟨List.Pairwise.nil,fun _ hm=>(nomatch hm)⟩⟩,h2,h3,h4⟩
section
variable {prog:Program} {w:World} {A:Around} {E:Value -> Shared -> Prop} {s:Shared} {K:Frag}
end
end Att
namespace L2
open PySem PySem.Spec PyProof.Rows
theorem rW:∀ {vs:List Value} {ns:List Int},IntsAre vs ns -> Vals (ns.map V.int) vs
 | _,_,.nil=>.nil
 | _,_,.cons n t h=>.cons ⟨t,rfl⟩ (rW h)
def GU (H:Hp):Prop:=∀ b,H b=none \/ ∃ o xs,H b=some (.frz o (.lst xs))
theorem CF {P:Program} {w:World} {K:PySem.W.Frag} {mg mb:Str -> Option Value} {CX:yM} {k:Nat} {fa a:Addr} {fd:FuncData} {x:Str} {sp:Sp} {s₁:Shared} {vs:List Value} {ns:List Int}
  (KX:K.In s₁.heap) (hns:s₁.heap.Ns mainGlobals mg) (hb:s₁.heap.Ns builtinsNs mb) (hbb:∀ x:Str,x ≠ "__name__" -> mb x=bootBuiltins x) (hlim:s₁.heap.NoLimit) (hg:s₁.gens = #[])
  (ha:s₁.heap.get? a=some { cls:=.type "list", data:=.seq vs.toArray }) (hi:IntsAre vs ns) (hl:ns.length ≤ sizeLine) (hr:dq k callerA)
  (F:∀ base:Heap,K.In base -> base.Ns mainGlobals mg -> fI P w K mg base CX k fa fd [x] sp) (hbind:∀ (s:Shared) (u:Value),BindsTo s fd ⟨[u],[]⟩ [(x,u)])
  (hsp:∀ H:Hp,GU H -> dE K H a (ns.map V.int) -> sp [.ref a] H (fun v _=>v=.bl true) fun _ _ _=>False)
  (hCX:∀ H e s',CX [] H s₁ (fun _ _ _=>False) e s' -> False) :
  codeAny (model P w) callerA (.call (.ref fa) ⟨[.ref a],[]⟩) (fun r s'=>r=.ok (.ret (.bool true)) /\ OldK s₁.heap s'.heap /\ s'.os=s₁.os /\ AllBare s'.gens) s₁:=by
 have rv:=rW hi
 have lenV:=hi.length
 -- from an abstract heap in which nothing but the script may be tracked
 have core:∀ H:Hp,GU H -> dE K H a (ns.map V.int) -> mQ P w H s₁.heap -> (∀ b,H b ≠ none -> b=a) -> (H a ≠ none -> K.lookup a=none) ->
   codeAny (model P w) callerA (.call (.ref fa) ⟨[.ref a],[]⟩) (fun r s'=>r=.ok (.ret (.bool true)) /\ OldK s₁.heap s'.heap /\ s'.os=s₁.os /\ AllBare s'.gens) s₁:=by
  intro H hO hS hok hA hK
  have base_of:∀ {b:Addr} {o:Obj},s₁.heap.get? b=some o -> H b=none -> (sO s₁.heap H).get? b=some o:=fun e n=>Cu e n
  have noA:∀ {b:Addr} {o:Obj} {es:Array DictEntry} {ep:Nat},s₁.heap.get? b=some o -> o.data=.dict es ep -> H b=none:=fun {b o es ep} e d=>by
   cases q:H b with
   | none=>rfl
   | some u =>
    have e':b=a:=hA b (by rw [q]; simp)
    subst e'
    rw [ha] at e; cases e
    have d':Data.seq vs.toArray _=Data.dict es ep:=d
    cases d'
  have nsK:∀ {b:Addr} {m:Str -> Option Value},s₁.heap.Ns b m -> (sO s₁.heap H).Ns b m:=fun {b m} ⟨o,es,ep,e,d,r⟩=>⟨o,es,ep,base_of e (noA e d),d,r⟩
  have hKb:K.In (sO s₁.heap H):=fun b o e=>base_of (KX b o e) (by
   cases q:H b with
   | none=>rfl
   | some u =>
    have e':b=a:=hA b (by rw [q]; simp)
    subst e'
    rw [hK (by rw [q]; simp)] at e; cases e)
  have hM:Mod K mg (sO s₁.heap H):=⟨hKb,nsK hns,⟨mb,nsK hb,hbb⟩,let ⟨mc,h1,h2⟩:=hlim; ⟨mc,nsK h1,h2⟩⟩
  have e0:qF P w K mg (sO s₁.heap H) callerA [] s₁ H:=⟨rfl,hM,fun b o e=>EW e,Nat.le_of_eq (AK _ _),trivial,fun b hb=>absurd (show b ∈ ([]:List Addr) from hb) (by simp),hok,.of_eq hg⟩
  refine codeAny_mono ((F _ hKb (nsK hns)).run callerA [] s₁ H ⟨[.ref a],[]⟩ [.ref a] [.ref a] _ _ hr e0 (hbind s₁ (.ref a)) (.cons rfl .nil) (hsp H hO hS)) fun r s' h=>?_
  cases r with
  | error e=>exact (hCX H e s' h).elim
  | ok fl =>
   cases fl with
   | next=>exact False.elim h
   | brk=>exact False.elim h
   | cont=>exact False.elim h
   | ret u =>
    obtain ⟨v,H',os,bare,un,hok',r',q⟩:=h
    have q':v=.bl true:=q
    subst q'
    obtain rfl:u=Value.bool true:=r'
    refine ⟨rfl,OldK.of_keep fun b o e=>?_,os,bare⟩
    cases q:H b with
    | none=>exact un.keep b o e q (by intro z; exact absurd (show b ∈ ([]:List Addr) from z) (by simp)) (by simp)
    | some u =>
     rcases hO b with z | ⟨ob,xs,z⟩
     ·rw [q] at z; cases z
     ·have z2:=un.frzs b ob _ z
      obtain ⟨e1,_⟩:=hok b _ z
      obtain ⟨e2,_⟩:=hok' b _ z2
      rw [e] at e1; cases e1
      exact e2
 cases hk:K.lookup a with
 | some o =>
  -- the script is one of the module's own objects
  have e:=KX a o hk
  rw [ha] at e
  cases e
  refine core (fun _=>none) (fun _=>.inl rfl) (.inr ⟨_,vs.toArray,_,hk,rfl,rfl,rfl,by rw [List.size_toArray,lenV]; exact hl,by simpa using rv⟩) (fun b u z=>by have z':(none:Option HO)=some u:=z; cases z') (fun b z=>absurd rfl z) fun z=>absurd rfl z
 | none =>
  refine core (fun b=>if b=a then some (.frz { cls:=.type "list", data:=.seq vs.toArray } (.lst (ns.map V.int))) else none) (fun b=>?_) (.inl (.inr ⟨{ cls:=.type "list", data:=.seq vs.toArray },if_pos rfl⟩)) (fun b u z=>?_) (fun b z=>?_) fun _=>hk
  ·by_cases hb:b=a
   ·exact .inr ⟨_,_,if_pos hb⟩
   ·exact .inl (if_neg hb)
  ·by_cases hb:b=a
   ·have z':=(if_pos hb).symm.trans z
    cases z'
    subst hb
    exact ⟨ha,by rw [List.length_map]; exact hl,vs,_,rv,ha⟩
   ·have z':=(if_neg hb).symm.trans z
    cases z'
  ·by_cases hb:b=a
   ·exact hb
   ·exact absurd (if_neg hb) z
open PySem PySem.Spec PyProof.Rows
abbrev Md {K:PySem.W.Frag} {h:Heap} (_:K.In h):PySem.W.Frag:=K
theorem Ai {l:PySem.W.OpenLaw} {n k:Nat} {q:Program} {loose:List Str} {XP:(Str -> Option Value) -> Heap -> Prop} {YP:World -> Heap -> Prop} {d:DefRec} {K:Params -> PySem.W.Frag} {CX:World -> yM} {sp:World -> Sp} {x:Str}
  (hn:l.most=some n) (hn2:n ≤ sizeLine) (hdf:d.params.defaults=[]) (hr:dq k callerA)
  (hY:∀ (w:World) (h:Heap),YP w h -> (K w.params).In h)
  (F:∀ (w:World) (mg:Str -> Option Value) (fa:Addr) (h:Heap),(K w.params).In h -> h.Ns mainGlobals mg -> mg d.name=some (.ref fa) ->
   ∃ fd:FuncData,(∀ (s:Shared) (u:Value),BindsTo s fd ⟨[u],[]⟩ [(x,u)]) /\
    ∀ base:Heap,(K w.params).In base -> base.Ns mainGlobals mg -> fI l.prog w (K w.params) mg base (CX w) k fa fd [x] (sp w))
  (hsp:∀ (w:World) (H:Hp) (a:Addr) (ns:List Int),ns.length ≤ n -> GU H -> dE (K w.params) H a (ns.map V.int) -> sp w [.ref a] H (fun v _=>v=.bl true) fun _ _ _=>False)
  (hCX:∀ (w:World) (H:Hp) (s:Shared) (e:Value) (s':Shared),CX w [] H s (fun _ _ _=>False) e s' -> False) :
  PySem.W.WalkO q loose XP YP l.row.toRowW d [] (fun f vs=>PySem.call f vs):=by
 refine Att.uO hn hdf fun w s₀ s₁ mg mb fa o pm cd doc a vs ns G Y ho hd hcd hmg hobj hints hlen hg=>?_
 have KX:=hY w _ Y
 obtain ⟨fd,hb,hF⟩:=F w mg fa _ KX G.T.g hmg
 exact CF KX G.T.g G.T.b G.T.builtins G.T.nolimit hg hobj hints (Nat.le_trans hlen hn2) hr hF hb (fun H hO hS=>hsp w H a ns hlen hO hS) fun H e s'=>hCX w H s₁ e s'
end L2
/- THE LAST THEOREM (shape; LID,My.* are yours):
   My.Adr: a structure of the addresses that your layer names (classes,functions); My.Txt K t: a structure (Prop) of the equations over K;
   My.txt_mk:{K} {implicit addresses ..} (e1:nsIn K mainGlobals "law" = some (some (.ref f))) (e2:K.lookup f=some ⟨oc,od,.func (fnOf "law" "law" params body scope dV kV doc pm an cdv ct),sl⟩) (e3:codeIn K cdv "law" = true) .. : ∃ t,My.Txt K t
set_option maxRecDepth 100000 in
set_option maxHeartbeats 0 in
theorem PySem.Challenge.cw_LID_holds : PySem.Challenge.rw_LID.Holds := by
 w_on; o_law; k_head; (case hw=>w_witness2)
 k_fill
 refine L2.Ai (l:=PySem.Challenge.rw_LID) (n:=63) (k:=40) (x := "script") (CX:=fun w=>..) (sp:=fun _=>My.sp_law) rfl (by decide) rfl ⟨rfl,by decide,by decide⟩ (fun w h Y=>PySem.W.kIn_of Y) ?F ?S ?C
 case F =>
  intro w mg fa h KX G hmg
  have T:∃ t,My.Txt (L2.Md KX) t:=by
   dsimp only [L2.Md]                          -- K must stand as «<heap const> w.params» for k_is
   refine' My.txt_mk ?e1 ?e2 ?e3 ..
   (case e1=>PySem.W.k_is)                    -- in the order: a name -> its address -> its object -> its parts
   (case e2=>PySem.W.k_is)
   ..
  obtain ⟨t,T⟩:=T
  have e0:=hmg.symm.trans (PySem.W.mg_of KX G T.law)
  cases e0                                       -- fa is the law's own address
  exact ⟨_,fun s u=>.of_eq rfl,fun base kb nb=>My.law_fn T kb nb⟩     -- if «.of_eq rfl» comes too early: refine' ⟨_,?b,fun base kb nb=>My.law_fn T kb nb⟩; exact fun s u=>.of_eq rfl
 case S=>exact fun w H a ns hl hO hS=>..
 case C=>exact ..
(the tactic k_is has no namespace: write k_is) -/
namespace L2
open PySem PySem.Spec PyProof.Rows
def inClass (s:Stmt) (j:Nat):Stmt:=match s with
 | .ClassDef _ _ _ body _ _ _ _ _ _ _=>body.getD j (.Pass ⟨0,0,0,0⟩)
 | _=>.Pass ⟨0,0,0,0⟩
def jc (s:Stmt):Arguments:=match s with
 | .FunctionDef _ a _ _ _ _ _ _ _ _=>a
 | _=>{ posonlyargs:=[],args:=[],vararg:=none,kwonlyargs:=[],kw_defaults:=[],kwarg:=none,defaults:=[] }
def dy (s:Stmt):List Stmt:=match s with
 | .FunctionDef _ _ b _ _ _ _ _ _ _=>b
 | _=>[]
def ax (s:Stmt):Scope:=match s with
 | .FunctionDef _ _ _ _ _ _ sc _ _ _=>sc
 | _=>{ kind:=.function,names:=[],isGenerator:=false,isCoroutine:=false }
abbrev mP:yM:=fun _ _ _ _ _ _=>False
abbrev E0:XK:=fun _ _ _=>False
theorem rL {X:Cx}:Passes mP X E0:=fun _ _ _ _ _ _ _ h=>h.elim
structure fG (K:PySem.W.Frag) (x qual:Str) (st:Stmt) (f:Addr) (fd:FuncData):Prop where
 ex:∃ (oc:Value) (od:Option Addr) (kV doc pm:Value) (an:Option Addr) (cdv ct:Value) (osl:Array (Option Value)),
  fd=PySem.W.fnOf x qual (jc st) (dy st) (ax st) .none kV doc pm an cdv ct /\ K.lookup f=some ⟨oc,od,.func fd,osl⟩ /\ PySem.W.codeIn K cdv qual=true
 kp:PySem.W.keepIn K (.ref f)=true
section
variable {P:Program} {w:World} {K:PySem.W.Frag} {mg:Str -> Option Value} {base:Heap}
theorem fG.ok {x qual:Str} {st:Stmt} {f:Addr} {fd:FuncData} {N ps:List Str} {k:Nat} {sp:Sp} (F:fG K x qual st f fd) (S:aS N ps (ax st)) (len:∀ vs H Q E,sp vs H Q E -> vs.length=ps.length)
  (hbody:∀ (cdv:Value) (A:Around) (outer:List Env) (s:Shared) (H:Hp) (vs:List V) (Q:VK) (E:XK),dq k (A.deeper (envOfC qual (ax st) s.heap.objs.size f cdv)) -> sp vs H Q E ->
   ∃ t,iQ (mW mP P w K mg base N qual (ax st) f cdv A outer s H E).nox (dy st) t /\ t { nx:=fun _ H'=>Q .non H',rt:=Q } (start N vs) H):fI P w K mg base mP (k + 1) f fd ps sp:=by
 obtain ⟨oc,od,kV,doc,pm,an,cdv,ct,osl,rfl,lk,hcd⟩:=F.ex
 refine JC lk hcd S len fun A outer s H vs Q E hr hsp=>?_
 obtain ⟨t,h,q⟩:=hbody cdv A outer s H vs Q E hr hsp
 exact ⟨t,h.nox,q⟩
theorem fG.binds {x qual:Str} {st:Stmt} {f:Addr} {fd:FuncData} {ps:List Str} (F:fG K x qual st f fd)
  (h:∀ (kV doc pm:Value) (an:Option Addr) (cdv ct:Value) (us:List Value),us.length=ps.length -> bindArgs (PySem.W.fnOf x qual (jc st) (dy st) (ax st) .none kV doc pm an cdv ct) ⟨us,[]⟩=pure (ps.zip us)):Binds K fd ps []:=by
 obtain ⟨oc,od,kV,doc,pm,an,cdv,ct,osl,rfl,lk,hcd⟩:=F.ex
 exact .all (h kV doc pm an cdv ct)
theorem Hi {x qual:Str} {st:Stmt} {f:Addr} {oc:Value} {od an:Option Addr} {osl:Array (Option Value)} {kV doc pm cdv ct:Value} (l:K.lookup f=some ⟨oc,od,.func (PySem.W.fnOf x qual (jc st) (dy st) (ax st) .none kV doc pm an cdv ct),osl⟩)
  (c:PySem.W.codeIn K cdv qual=true) (k:PySem.W.keepIn K (.ref f)=true):fG K x qual st f (PySem.W.fnOf x qual (jc st) (dy st) (ax st) .none kV doc pm an cdv ct):=⟨⟨oc,od,kV,doc,pm,an,cdv,ct,osl,rfl,l,c⟩,k⟩
end
theorem dN {n:Nat} (h:n ≤ 1000):n < sizeLine:=Nat.lt_of_le_of_lt h (by decide)
section
variable {X:Cx}
theorem pv (i:Nat) {x:Str} {pos:Pos} (hN:X.N[i]? = some x:=by rfl) (hv:Jc X.env.scope x:=by first | exact Or.inl rfl | exact Or.inr (Or.inl rfl) | exact Or.inr (Or.inr rfl)) (hd:(x == ("__debug__" : Str))=false:=by decide)
  (hcd:(x == ("__classdict__" : Str))=false:=by decide):PE X (.Name x pos) (fF i):=HS hN hv hd hcd
end
def aJ (H H':Hp):Prop:=∀ b o,H b=some o -> H' b=some o
theorem aJ.refl (H:Hp):aJ H H:=fun _ _ h=>h
theorem aJ.trans {H H1 H2:Hp} (a:aJ H H1) (b:aJ H1 H2):aJ H H2:=fun c o h=>b c o (a c o h)
theorem aJ.free {H H':Hp} (e:aJ H H') {l:Addr} (h:H' l=Option.none):H l=Option.none:=by
 cases q:H l with
 | none=>rfl
 | some o =>
  rw [e l o q] at h
  cases h
theorem aJ.seq {K:PySem.W.Frag} {H H':Hp} {a:Addr} {xs:List V} (e:aJ H H') (h:dE K H a xs):dE K H' a xs:=by
 rcases h with (h | ⟨o,h⟩) | h
 ·exact .inl (.inl (e _ _ h))
 ·exact .inl (.inr ⟨o,e _ _ h⟩)
 ·exact .inr h
open PySem PySem.Spec PyProof.Rows
abbrev vE:List Value:=[.type "ValueError", .type "Exception", .type "BaseException", .type "object"]
structure wY (K:PySem.W.Frag) (C:Addr) (bm:List Value):Prop where
 ex:∃ N nm q bs hdct sn sub ab col dd k0 k1 k2 k3 k5 od es ep,K.lookup C=some (excClassObj nm q C N bs bm hdct sn sub ab col dd k0 k1 k2 k3 k5 "ValueError.__new__") /\ K.lookup N=some od /\ od.data=.dict es ep /\ es.all (fun e=>match e.key with | .str _ _=>true | _=>false)=true /\ nsFind es "__init__" = none
theorem wY.at {K:PySem.W.Frag} {C:Addr} {bm:List Value} (x:wY K C bm):∃ N nm q bs hdct sn sub ab col dd k0 k1 k2 k3 k5 mN,(∀ h,K.In h -> h.get? C=some (excClassObj nm q C N bs bm hdct sn sub ab col dd k0 k1 k2 k3 k5 "ValueError.__new__") /\ h.Ns N mN) /\ mN "__init__" = none:=by
 obtain ⟨N,nm,q,bs,hdct,sn,sub,ab,col,dd,k0,k1,k2,k3,k5,od,es,ep,e1,e2,e3,e4,e5⟩:=x.ex
 refine ⟨N,nm,q,bs,hdct,sn,sub,ab,col,dd,k0,k1,k2,k3,k5,nsFind es,fun h k=>⟨k _ _ e1,?_⟩,e5⟩
 have hN:h.isNs N=true:=by
  unfold Heap.isNs
  rw [k _ _ e2]
  dsimp only
  rw [e3]
  exact e4
 obtain ⟨o,es',ep',f1,f2,f3,f4⟩:=Heap.Ns.of_isNs hN
 rw [k _ _ e2] at f1
 cases f1
 rw [e3] at f2
 cases f2
 exact ⟨_,es,ep,k _ _ e2,e3,f3,fun _=>rfl⟩
structure Mz (K:PySem.W.Frag) (C:Addr) (up:List Addr):Prop where
 cls:wY K C (up.map Value.ref ++ vE)
 ups:∀ A ∈ up,∃ bm,wY K A bm
section
variable {X:Cx} {pins:List (Addr × Obj)} {σ:St} {H:Hp} {s:Shared} {C:Addr} {up:List Addr} {x:Str} {np cpos pos:Pos} {e:Expr} {t:TA}
end
theorem fH.has {P:Program} {w:World} {H:Hp} {h:Heap} {a:Addr} {o:HO} (x:fH P w H h a o):∃ ob,h.get? a=some ob:=by
 cases o with
 | lst xs=>obtain ⟨_,_,_,_,e⟩:=x; exact ⟨_,e⟩
 | tup xs=>obtain ⟨_,_,_,o,e,_⟩:=x; exact ⟨_,e⟩
 | dK kvs=>obtain ⟨_,_,_,_,o,_,_,e,_⟩:=x; exact ⟨_,e⟩
 | dT kvs=>obtain ⟨_,_,_,_,o,_,_,e,_⟩:=x; exact ⟨_,e⟩
 | set S n=>obtain ⟨o,_,_,_,e,_⟩:=x; exact ⟨_,e⟩
 | ins C dx fs=>obtain ⟨_,_,_,e,_⟩:=x; exact ⟨_,e⟩
 | own y=>exact x
 | xd fs=>obtain ⟨_,⟨_,_,_,e,_⟩,_⟩:=x; exact ⟨_,e⟩
 | rng lo hi=>obtain ⟨_,_,_,e⟩:=x; exact ⟨_,e⟩
 | frz ob u=>obtain ⟨e,_⟩:=x; exact ⟨_,e⟩
 | tbl ps=>exact ⟨_,x⟩
 | met f y=>exact ⟨_,x⟩
 | ext φ=>exact x.2.1
structure Mb (P:Program) (w:World) (outer:List Env) (H:Hp) (s:Shared) (C a:Addr) (H':Hp) (s':Shared):Prop where
 os:s'.os=s.os
 bare:AllBare s'.gens
 un:Un (xC outer) [] H H' s.heap s'.heap
 hok:mQ P w H' s'.heap
 new:s.heap.get? a=none
 nH:H' a=none
 fl:∃ B a0,Heap.FlyingW B outer a (.ref C) a0 s'.heap /\ ∀ b o,s'.heap.get? b=some o -> (H' b ≠ none \/ ((∃ o',s.heap.get? b=some o') /\ b ∉ xC outer)) -> B.get? b=some o
def L9 (P:Program) (w:World):yM:=fun outer H s E e s'=>∃ a C H',e=.ref a /\ Mb P w outer H s C a H' s' /\ E e (some C) H'
def Made (X:Cx) (pins:List (Addr × Obj)) (σ:St) (H:Hp) (C:Addr) (e:Value) (s':Shared):Prop:=∃ a h args,e=.ref a /\ Inv X pins σ H { s' with heap:=h } /\ Heap.MadeExcOf h s'.heap a (.ref C) args
def K8 (X:Cx) (pins:List (Addr × Obj)) (σ:St) (H:Hp) (C:Addr) (e:Value) (s':Shared):Prop:=∃ a s H0,e=.ref a /\ Inv X pins σ H0 s /\ Mb X.prog X.w X.stack H0 s C a H s'
section
variable {X:Cx} {pins:List (Addr × Obj)} {σ:St} {H H0:Hp} {s s':Shared} {C a:Addr} {h1 h' B:Heap}
end
open PySem PySem.Spec PyProof.Rows
section
variable {X:Cx} {pins:List (Addr × Obj)} {σ:St} {H H0:Hp} {s s':Shared} {C D a:Addr} {h1 h' B:Heap}
def IZ (a C:Addr):Heap -> Prop:=fun h=>∃ oe vs,h.get? a=some oe /\ oe.cls=.ref C /\ oe.data=.fields vs
end
open PySem PySem.Spec PyProof.Rows
section
variable {X:Cx} {pins:List (Addr × Obj)} {σ:St} {H:Hp} {s':Shared} {C D:Addr} {upC:List Addr} {bD:List Value} {e:Value} {i:Nat} {n x:Str} {b₀:Stmt} {suite:List Stmt} {np pos:Pos} {Dn:Ends} {E:Value -> Shared -> Prop}
end
open PySem PySem.Spec PyProof.Rows
structure K6 (K:PySem.W.Frag) (C:Addr) (bm:List Value):Prop where
 cls:wY K C bm
 fc:PySem.W.findIn K (.ref C) "__class__" = some (some (.builtin "object.__class__"))
 fg:PySem.W.findIn K (.ref C) "__getattribute__" = some (some (.builtin "BaseException.__getattribute__"))
 fn:PySem.W.findIn K (.ref C) "__getattr__" = some none
 ob:bm.contains (.type "object")=true
 be:bm.contains (.type "BaseException")=true
section
variable {prog:Program} {w:World} {A:Around} {E:Value -> Shared -> Prop} {h:Heap} {g:Array GenState} {d:Drawn} {t:Nat} {os:OsState} {a C:Addr} {o:Obj} {K:PySem.W.Frag} {bm:List Value}
end
end L2
namespace TM
open PySem PySem.Spec PyProof.Rows L2
inductive T where
 | non | bl (b:Bool) | int (i:Int) | str (x:Str) | ty (n:String) | tup (ts:List T) | lst (ts:List T) | scr (ts:List T) | dic | obj (C:Addr) (ns:List Str) (ts:List T) | ptr (a:Addr) | exc (C:Addr)
mutual
def Rep (K:PySem.W.Frag) (F:Hp):T -> V -> Prop
 | .non,v=>v=.non
 | .bl b,v=>v=.bl b
 | .int i,v=>v=.int i
 | .str x,v=>v=.str x
 | .ty n,v=>v=.ty n
 | .tup ts,v=>∃ a xs,v=.ref a /\ js K F a xs /\ aQ K F ts xs
 | .lst ts,v=>∃ a xs,v=.ref a /\ F a=some (.lst xs) /\ aQ K F ts xs
 | .scr ts,v=>∃ a xs,v=.ref a /\ dE K F a xs /\ aQ K F ts xs
 | .dic,v=>∃ a,v=.ref a /\ F a=some (.dK [])
 | .obj C ns ts,v=>∃ a dx vs,v=.ref a /\ F a=some (.ins C dx (ns.zip vs)) /\ vs.length=ns.length /\ aQ K F ts vs
 | .ptr a,v=>v=.ref a
 | .exc C,v=>∃ a,v=.ref a /\ F a=some (.ext (IZ a C))
def aQ (K:PySem.W.Frag) (F:Hp):List T -> List V -> Prop
 | [],xs=>xs=[]
 | t :: ts,xs=>∃ v r,xs=v :: r /\ Rep K F t v /\ aQ K F ts r
end
theorem cg {K:PySem.W.Frag} {H H':Hp} {a:Addr} {xs:List V} (e:aJ H H') (h:js K H a xs):js K H' a xs:=by
 rcases h with (h | ⟨o,h⟩) | h
 ·exact .inl (.inl (e _ _ h))
 ·exact .inl (.inr ⟨o,e _ _ h⟩)
 ·exact .inr h
mutual
theorem Rep.mono {K:PySem.W.Frag} {F F':Hp} (e:aJ F F'):∀ {t:T} {v:V},Rep K F t v -> Rep K F' t v
 | .non,_,h=>h
 | .bl _,_,h=>h
 | .int _,_,h=>h
 | .str _,_,h=>h
 | .ty _,_,h=>h
 | .tup ts,_,h=>by
  obtain ⟨a,xs,h1,h2,h3⟩:=h
  exact ⟨a,xs,h1,cg e h2,aQ.mono e h3⟩
 | .lst ts,_,h=>by
  obtain ⟨a,xs,h1,h2,h3⟩:=h
  exact ⟨a,xs,h1,e _ _ h2,aQ.mono e h3⟩
 | .scr ts,_,h=>by
  obtain ⟨a,xs,h1,h2,h3⟩:=h
  exact ⟨a,xs,h1,e.seq h2,aQ.mono e h3⟩
 | .dic,_,h=>by
  obtain ⟨a,h1,h2⟩:=h
  exact ⟨a,h1,e _ _ h2⟩
 | .obj C ns ts,_,h=>by
  obtain ⟨a,dx,vs,h1,h2,h3,h4⟩:=h
  exact ⟨a,dx,vs,h1,e _ _ h2,h3,aQ.mono e h4⟩
 | .ptr _,_,h=>h
 | .exc _,_,h=>by
  obtain ⟨a,h1,h2⟩:=h
  exact ⟨a,h1,e _ _ h2⟩
theorem aQ.mono {K:PySem.W.Frag} {F F':Hp} (e:aJ F F'):∀ {ts:List T} {vs:List V},aQ K F ts vs -> aQ K F' ts vs
 | [],_,h=>h
 | t :: ts,_,h=>by
  obtain ⟨v,r,h1,h2,h3⟩:=h
  exact ⟨v,r,h1,Rep.mono e h2,aQ.mono e h3⟩
end
section
variable {K:PySem.W.Frag} {F:Hp}
theorem aQ.length:∀ {ts:List T} {vs:List V},aQ K F ts vs -> vs.length=ts.length
 | [],_,h=>by cases h; rfl
 | t :: ts,_,h=>by
  obtain ⟨v,r,rfl,h2,h3⟩:=h
  simp [aQ.length h3]
theorem aQ.get:∀ {ts:List T} {vs:List V} {i:Nat} {t:T},aQ K F ts vs -> ts[i]? = some t -> ∃ v,vs[i]? = some v /\ Rep K F t v
 | [],_,_,_,h,e=>by simp at e
 | t :: ts,_,0,_,h,e=>by
  obtain ⟨v,r,rfl,h2,h3⟩:=h
  simp at e; subst e
  exact ⟨v,rfl,h2⟩
 | t :: ts,_,i + 1,u,h,e=>by
  obtain ⟨v,r,rfl,h2,h3⟩:=h
  obtain ⟨w,h4,h5⟩:=aQ.get (i:=i) (t:=u) h3 (by simpa using e)
  exact ⟨w,by simpa using h4,h5⟩
theorem aQ.append:∀ {ts us:List T} {vs ws:List V},aQ K F ts vs -> aQ K F us ws -> aQ K F (ts ++ us) (vs ++ ws)
 | [],_,_,_,h,h'=>by cases h; exact h'
 | t :: ts,_,_,_,h,h'=>by
  obtain ⟨v,r,rfl,h2,h3⟩:=h
  exact ⟨v,r ++ _,rfl,h2,aQ.append h3 h'⟩
theorem aQ.one {t:T} {v:V} (h:Rep K F t v):aQ K F [t] [v]:=⟨v,[],rfl,h,rfl⟩
theorem aQ.take:∀ {ts:List T} {vs:List V} (n:Nat),aQ K F ts vs -> aQ K F (ts.take n) (vs.take n)
 | _,_,0,_=>rfl
 | [],_,n + 1,h=>by cases h; rfl
 | t :: ts,_,n + 1,h=>by
  obtain ⟨v,r,rfl,h2,h3⟩:=h
  exact ⟨v,r.take n,rfl,h2,aQ.take n h3⟩
theorem aQ.drop:∀ {ts:List T} {vs:List V} (n:Nat),aQ K F ts vs -> aQ K F (ts.drop n) (vs.drop n)
 | _,_,0,h=>h
 | [],_,n + 1,h=>by cases h; rfl
 | t :: ts,_,n + 1,h=>by
  obtain ⟨v,r,rfl,h2,h3⟩:=h
  exact aQ.drop n h3
theorem rN:∀ ns:List Int,aQ K F (ns.map T.int) (ns.map V.int)
 | []=>rfl
 | n :: ns=>⟨.int n,ns.map V.int,rfl,rfl,rN ns⟩
end
structure br (F H F' H':Hp):Prop where
 sF:aJ F F'
 sH:aJ H H'
 fh:aJ F' H'
 nw:∀ a o,F' a=some o -> F a=some o \/ H a=none
theorem br.refl {F H:Hp} (h:aJ F H):br F H F H:=⟨aJ.refl _,aJ.refl _,h,fun _ _ e=>.inl e⟩
theorem br.trans {F H F1 H1 F2 H2:Hp} (a:br F H F1 H1) (b:br F1 H1 F2 H2):br F H F2 H2:=
 ⟨a.sF.trans b.sF,a.sH.trans b.sH,b.fh,fun x o e=>by
  rcases b.nw x o e with e | e
  ·exact a.nw x o e
  ·exact .inr (a.sH.free e)⟩
theorem bW {H:Hp} {p:Addr} {o:HO} (h:H p=none):aJ H (upd H p o):=fun b u q=>by rw [az (bx q h)]; exact q
theorem br.new {F H:Hp} {p:Addr} (o:HO) (h:aJ F H) (n:H p=none):br F H (upd F p o) (upd H p o):=by
 refine ⟨bW (h.free n),bW n,fun b u q=>?_,fun a u q=>?_⟩
 ·by_cases e:b=p
  ·subst e; rw [aN] at q ⊢; exact q
  ·rw [az e] at q ⊢; exact h _ _ q
 ·by_cases e:a=p
  ·subst e; exact .inr n
  ·rw [az e] at q; exact .inl q
inductive Sl where
 | sh (t:T) | own (ts:List T)
abbrev aB:=List (Option Sl)
def si (K:PySem.W.Frag) (H₀ F H:Hp):Sl -> V -> Prop
 | .sh t,v=>Rep K F t v
 | .own ts,v=>∃ p vs,v=.ref p /\ H p=some (.lst vs) /\ F p=none /\ H₀ p=none /\ aQ K F ts vs
structure aD (K:PySem.W.Frag) (F₀ H₀ F H:Hp) (σ:L2.St) (τ:aB):Prop where
 g:br F₀ H₀ F H
 len:σ.length=τ.length
 sl:∀ (i:Nat) (s:Sl),τ[i]? = some (some s) -> ∃ v,σ[i]? = some (some v) /\ si K H₀ F H s v
 dj:∀ (i j:Nat) (ts us:List T) (p:Addr),i ≠ j -> τ[i]? = some (some (.own ts)) -> τ[j]? = some (some (.own us)) -> σ[i]? = some (some (.ref p)) -> σ[j]? ≠ some (some (.ref p))
section
variable {K:PySem.W.Frag} {F₀ H₀ F H F' H':Hp} {σ:L2.St} {τ:aB}
theorem si.grow {s:Sl} {v:V} (g:br F H F' H') (h:si K H₀ F H s v):si K H₀ F' H' s v:=by
 cases s with
 | sh t=>exact Rep.mono g.sF h
 | own ts =>
  obtain ⟨p,vs,h1,h2,h3,h4,h5⟩:=h
  refine ⟨p,vs,h1,g.sH _ _ h2,?_,h4,aQ.mono g.sF h5⟩
  cases e:F' p with
  | none=>rfl
  | some o =>
   rcases g.nw p o e with q | q
   ·rw [q] at h3; cases h3
   ·rw [q] at h2; cases h2
theorem aD.grow (E:aD K F₀ H₀ F H σ τ) (g:br F H F' H'):aD K F₀ H₀ F' H' σ τ:=by
 refine ⟨E.g.trans g,E.len,fun i s e=>?_,E.dj⟩
 obtain ⟨v,h1,h2⟩:=E.sl i s e
 exact ⟨v,h1,h2.grow g⟩
theorem aD.set {i:Nat} {t:T} {v:V} (E:aD K F₀ H₀ F H σ τ) (r:Rep K F t v):aD K F₀ H₀ F H (σ.set i (some v)) (τ.set i (some (.sh t))):=by
 refine ⟨E.g,by simp [E.len],fun j s e=>?_,fun j k ts us p hjk e1 e2 e3=>?_⟩
 ·by_cases hj:i=j
  ·subst hj
   by_cases hl:i < τ.length
   ·rw [List.getElem?_set_self hl] at e
    cases e
    exact ⟨v,List.getElem?_set_self (by rw [E.len]; exact hl),r⟩
   ·rw [List.getElem?_eq_none (by simp; omega)] at e; cases e
  ·rw [List.getElem?_set_ne hj] at e
   rw [List.getElem?_set_ne hj]
   exact E.sl j s e
 ·have n1:i ≠ j:=fun z=>by
   subst z
   by_cases hl:i < τ.length
   ·rw [List.getElem?_set_self hl] at e1; cases e1
   ·rw [List.getElem?_eq_none (by simp; omega)] at e1; cases e1
  have n2:i ≠ k:=fun z=>by
   subst z
   by_cases hl:i < τ.length
   ·rw [List.getElem?_set_self hl] at e2; cases e2
   ·rw [List.getElem?_eq_none (by simp; omega)] at e2; cases e2
  rw [List.getElem?_set_ne n1] at e1 e3
  rw [List.getElem?_set_ne n2] at e2 ⊢
  exact E.dj j k ts us p hjk e1 e2 e3
theorem aD.freeze {i:Nat} {ts:List T} (E:aD K F₀ H₀ F H σ τ) (e:τ[i]? = some (some (.own ts))) :
  ∃ F' v,σ[i]? = some (some v) /\ aD K F₀ H₀ F' H σ (τ.set i (some (.sh (.lst ts)))) /\ aJ F F' /\ Rep K F' (.lst ts) v:=by
 obtain ⟨v,h1,p,vs,rfl,h2,h3,h4,h5⟩:=E.sl i _ e
 have sF:aJ F (upd F p (.lst vs)):=bW h3
 have rp:Rep K (upd F p (.lst vs)) (.lst ts) (.ref p):=⟨p,vs,rfl,aN,aQ.mono sF h5⟩
 refine ⟨upd F p (.lst vs),.ref p,h1,⟨⟨E.g.sF.trans sF,E.g.sH,fun b o q=>?_,fun b o q=>?_⟩,by simp [E.len],fun j s q=>?_,fun j k us ws r hjk e1 e2 e3=>?_⟩,sF,rp⟩
 ·by_cases z:b=p
  ·subst z; rw [aN] at q; cases q; exact h2
  ·rw [az z] at q; exact E.g.fh _ _ q
 ·by_cases z:b=p
  ·subst z; exact .inr h4
  ·rw [az z] at q; exact E.g.nw _ _ q
 ·by_cases hj:i=j
  ·subst hj
   have hl:i < τ.length:=by
    have:=(List.getElem?_eq_some_iff.mp e).1
    exact this
   rw [List.getElem?_set_self hl] at q
   cases q
   exact ⟨_,h1,rp⟩
  ·rw [List.getElem?_set_ne hj] at q
   obtain ⟨v,g1,g2⟩:=E.sl j s q
   refine ⟨v,g1,?_⟩
   cases s with
   | sh t=>exact Rep.mono sF g2
   | own us =>
    obtain ⟨r,ws,rfl,k2,k3,k4,k5⟩:=g2
    have hne:r ≠ p:=fun z=>by
     subst z
     exact E.dj i j ts us r hj e q h1 g1
    exact ⟨r,ws,rfl,k2,by rw [az hne]; exact k3,k4,aQ.mono sF k5⟩
 ·have hl:i < τ.length:=(List.getElem?_eq_some_iff.mp e).1
  have n1:i ≠ j:=fun z=>by subst z; rw [List.getElem?_set_self hl] at e1; cases e1
  have n2:i ≠ k:=fun z=>by subst z; rw [List.getElem?_set_self hl] at e2; cases e2
  rw [List.getElem?_set_ne n1] at e1
  rw [List.getElem?_set_ne n2] at e2
  exact E.dj j k us ws r hjk e1 e2 e3
theorem aD.setOwn {i:Nat} {ts:List T} {vs:List V} {p:Addr} (E:aD K F₀ H₀ F H σ τ) (n:H p=none) (r:aQ K F ts vs):aD K F₀ H₀ F (upd H p (.lst vs)) (σ.set i (some (.ref p))) (τ.set i (some (.own ts))):=by
 have sH:aJ H (upd H p (.lst vs)):=bW n
 have fp:F p=none:=E.g.fh.free n
 have old:∀ {j:Nat} {s:Sl},i ≠ j -> τ[j]? = some (some s) -> ∃ v,σ[j]? = some (some v) /\ si K H₀ F (upd H p (.lst vs)) s v:=fun {j s} hj q=>by
  obtain ⟨v,g1,g2⟩:=E.sl j s q
  refine ⟨v,g1,?_⟩
  cases s with
  | sh t=>exact g2
  | own us =>
   obtain ⟨r,ws,rfl,k2,k3,k4,k5⟩:=g2
   exact ⟨r,ws,rfl,sH _ _ k2,k3,k4,k5⟩
 refine ⟨⟨E.g.sF,E.g.sH.trans sH,E.g.fh.trans sH,E.g.nw⟩,by simp [E.len],fun j s e=>?_,fun j k ts' us q hjk e1 e2 e3 e4=>?_⟩
 ·by_cases hj:i=j
  ·subst hj
   by_cases hl:i < τ.length
   ·rw [List.getElem?_set_self hl] at e
    cases e
    exact ⟨.ref p,List.getElem?_set_self (by rw [E.len]; exact hl),p,vs,rfl,aN,fp,E.g.sH.free n,r⟩
   ·rw [List.getElem?_eq_none (by simp; omega)] at e; cases e
  ·rw [List.getElem?_set_ne hj] at e
   rw [List.getElem?_set_ne hj]
   exact old hj e
 ·by_cases hj:i=j
  ·subst hj
   have n2:i ≠ k:=hjk
   rw [List.getElem?_set_ne n2] at e2 e4
   by_cases hl:i < τ.length
   ·rw [List.getElem?_set_self (by rw [E.len]; exact hl)] at e3
    cases e3
    obtain ⟨v,g1,r',ws,rfl,k2,_⟩:=E.sl k _ e2
    rw [g1] at e4; cases e4
    rw [n] at k2; cases k2
   ·rw [List.getElem?_eq_none (by simp; omega)] at e1; cases e1
  ·rw [List.getElem?_set_ne hj] at e1 e3
   by_cases hk:i=k
   ·subst hk
    by_cases hl:i < τ.length
    ·rw [List.getElem?_set_self (by rw [E.len]; exact hl)] at e4
     cases e4
     obtain ⟨v,g1,r',ws,rfl,k2,_⟩:=E.sl j _ e1
     rw [g1] at e3; cases e3
     rw [n] at k2; cases k2
    ·rw [List.getElem?_eq_none (by simp; omega)] at e2; cases e2
   ·rw [List.getElem?_set_ne hk] at e2 e4
    exact E.dj j k ts' us q hjk e1 e2 e3 e4
theorem aD.turnOwn {i:Nat} {ts us:List T} {vs:List V} {p:Addr} (E:aD K F₀ H₀ F H σ τ) (e:τ[i]? = some (some (.own ts))) (hp:σ[i]? = some (some (.ref p))) (r:aQ K F us vs) :
  aD K F₀ H₀ F (upd H p (.lst vs)) σ (τ.set i (some (.own us))):=by
 obtain ⟨v,h1,p',vs',rfl,h2,h3,h4,h5⟩:=E.sl i _ e
 rw [hp] at h1; cases h1
 have hl:i < τ.length:=(List.getElem?_eq_some_iff.mp e).1
 refine ⟨⟨E.g.sF,fun b o q=>?_,fun b o q=>?_,E.g.nw⟩,by simp [E.len],fun j s q=>?_,fun j k ts' us' q hjk e1 e2 e3=>?_⟩
 ·rw [az (fun z=>by subst z; rw [h4] at q; cases q)]; exact E.g.sH _ _ q
 ·rw [az (fun z=>by subst z; rw [h3] at q; cases q)]; exact E.g.fh _ _ q
 ·by_cases hj:i=j
  ·subst hj
   rw [List.getElem?_set_self hl] at q; cases q
   exact ⟨_,hp,p,vs,rfl,aN,h3,h4,r⟩
  ·rw [List.getElem?_set_ne hj] at q
   obtain ⟨v,g1,g2⟩:=E.sl j s q
   refine ⟨v,g1,?_⟩
   cases s with
   | sh t=>exact g2
   | own us' =>
    obtain ⟨r',ws,rfl,k2,k3,k4,k5⟩:=g2
    have hne:r' ≠ p:=fun z=>by subst z; exact E.dj i j ts us' r' hj e q hp g1
    exact ⟨r',ws,rfl,by rw [az hne]; exact k2,k3,k4,k5⟩
 ·have q1:∃ zs,τ[j]? = some (some (.own zs)):=by
   by_cases hj:i=j
   ·subst hj; exact ⟨_,e⟩
   ·rw [List.getElem?_set_ne hj] at e1; exact ⟨_,e1⟩
  have q2:∃ zs,τ[k]? = some (some (.own zs)):=by
   by_cases hj:i=k
   ·subst hj; exact ⟨_,e⟩
   ·rw [List.getElem?_set_ne hj] at e2; exact ⟨_,e2⟩
  obtain ⟨z1,q1⟩:=q1
  obtain ⟨z2,q2⟩:=q2
  exact E.dj j k z1 z2 q hjk q1 q2 e3
end
open PySem PySem.Spec PyProof.Rows L2
abbrev FE:=aB -> Option (T × aB)
abbrev FA:=aB -> Option (List T × aB)
abbrev FT:=aB -> Option (Bool × aB)
inductive R where
 | nx (τ:aB) | rt (t:T) | bk (τ:aB) | ct (τ:aB)
abbrev FS:=aB -> Option R
abbrev FG:=T -> aB -> Option aB
section
variable (K:PySem.W.Frag) (F₀ H₀:Hp)
def tE (f:FE):TE:=fun σ H Q=>∃ F τ t τ',aD K F₀ H₀ F H σ τ /\ f τ=some (t,τ') /\ ∀ F' H' v,aD K F₀ H₀ F' H' σ τ' -> aJ F F' -> Rep K F' t v -> Q v H'
def tA (f:FA):TA:=fun σ H Q=>∃ F τ ts τ',aD K F₀ H₀ F H σ τ /\ f τ=some (ts,τ') /\ ∀ F' H' vs,aD K F₀ H₀ F' H' σ τ' -> aJ F F' -> aQ K F' ts vs -> Q vs H'
def tT (f:FT):TT:=fun σ H Q=>∃ F τ b τ',aD K F₀ H₀ F H σ τ /\ f τ=some (b,τ') /\ ∀ F' H',aD K F₀ H₀ F' H' σ τ' -> aJ F F' -> Q b H'
def rZ (F:Hp) (D:Ends):R -> Prop
 | .nx τ'=>∀ F' H' σ',aD K F₀ H₀ F' H' σ' τ' -> aJ F F' -> D.nx σ' H'
 | .rt t=>∀ F' H' v,br F₀ H₀ F' H' -> Rep K F' t v -> D.rt v H'
 | .bk τ'=>∀ F' H' σ',aD K F₀ H₀ F' H' σ' τ' -> aJ F F' -> D.bk σ' H'
 | .ct τ'=>∀ F' H' σ',aD K F₀ H₀ F' H' σ' τ' -> aJ F F' -> D.ct σ' H'
def tS (f:FS):TS:=fun D σ H=>∃ F τ r,aD K F₀ H₀ F H σ τ /\ f τ=some r /\ rZ K F₀ H₀ F D r
end
def SE (X:Cx) (e:Expr) (f:FE):Prop:=∀ F₀ H₀,PE X e (tE X.K F₀ H₀ f)
def SA (X:Cx) (es:List Expr) (f:FA):Prop:=∀ F₀ H₀,PA X es (tA X.K F₀ H₀ f)
def ST (X:Cx) (e:Expr) (f:FT):Prop:=∀ F₀ H₀,PT X e (tT X.K F₀ H₀ f)
def SW (X:Cx) (e:Expr) (f:FT):Prop:=∀ F₀ H₀,PW X e (tT X.K F₀ H₀ f)
def SS (X:Cx) (st:Stmt) (f:FS):Prop:=∀ F₀ H₀,PS X st (tS X.K F₀ H₀ f)
def qZ (X:Cx) (st:List Stmt) (f:FS):Prop:=∀ F₀ H₀,iQ X st (tS X.K F₀ H₀ f)
section
variable {X:Cx} {e a b:Expr} {pos:Pos} {f fa fb:FE}
theorem PE.weak {t t':TE} (h:PE X e t) (i:∀ σ H Q,t' σ H Q -> t σ H Q):PE X e t':=fun pins s σ H Q I q=>h pins s σ H Q I (i σ H Q q)
theorem PT.weak {t t':TT} (h:PT X e t) (i:∀ σ H Q,t' σ H Q -> t σ H Q):PT X e t':=fun pins s σ H Q I q=>h pins s σ H Q I (i σ H Q q)
theorem PW.weak {t t':TT} (h:PW X e t) (i:∀ σ H Q,t' σ H Q -> t σ H Q):PW X e t':=fun wh pins s σ H Q I q=>h wh pins s σ H Q I (i σ H Q q)
theorem PA.weak {es:List Expr} {t t':TA} (h:PA X es t) (i:∀ σ H Q,t' σ H Q -> t σ H Q):PA X es t':=fun p pins s σ H Q I q=>h p pins s σ H Q I (i σ H Q q)
theorem PS.weak {st:Stmt} {t t':TS} (h:PS X st t) (i:∀ D σ H,t' D σ H -> t D σ H):PS X st t':=fun pins s σ H D I q=>h pins s σ H D I (i D σ H q)
theorem iQ.weak {st:List Stmt} {t t':TS} (h:iQ X st t) (i:∀ D σ H,t' D σ H -> t D σ H):iQ X st t':=fun pins s σ H D I q=>h pins s σ H D I (i D σ H q)
def fC (t:T):FE:=fun τ=>some (t,τ)
def ae (i:Nat):FE:=fun τ=>match τ[i]? with
 | some (some (.sh t))=>some (t,τ)
 | some (some (.own ts))=>some (.lst ts,τ.set i (some (.sh (.lst ts))))
 | _=>none
theorem jZ {t:T} {v:V} (h:PE X e (tC v)) (r:∀ F,Rep X.K F t v):SE X e (fC t):=fun F₀ H₀=>PE.weak h fun σ H Q hq__=>by
 obtain ⟨F,τ,t',τ',E,e1,q⟩:=hq__
 cases e1
 exact q F H v E (aJ.refl _) (r F)
theorem aw {i:Int} {j}:SE X (.Constant (.int i) j pos) (fC (.int i)):=jZ lH fun _=>rfl
theorem ig {c:Bool} {j}:SE X (.Constant (.bool c) j pos) (fC (.bl c)):=jZ Kd fun _=>rfl
theorem af (i:Nat) {x:Str} (h:PE X (.Name x pos) (fF i)):SE X (.Name x pos) (ae i):=fun F₀ H₀=>PE.weak h fun σ H Q hq__=>by
 obtain ⟨F,τ,t,τ',E,e1,q⟩:=hq__
 unfold ae at e1
 split at e1
 ·next t' e2 =>
  cases e1
  obtain ⟨v,h1,h2⟩:=E.sl i _ e2
  exact ⟨v,h1,q F H v E (aJ.refl _) h2⟩
 ·next ts e2 =>
  cases e1
  obtain ⟨F',v,h1,E',sF,r⟩:=E.freeze e2
  exact ⟨v,h1,q F' H v E' sF r⟩
 ·cases e1
theorem gQ {x:Str} {n:String} (hg:Gl X x) (hm:X.mg x=none) (hv:bootBuiltins x=some (.type n)) (hn:x ≠ "__name__" := by decide) (hd:(x == ("__debug__" : Str))=false:=by decide):SE X (.Name x pos) (fC (.ty n)):=
 jZ (Ff (v:=.ty n) hg hm hv rfl hn hd) fun _=>rfl
def IQ (K:PySem.W.Frag) (g:T -> T -> Option T):R2:=fun x y H Q=>∃ F a b t,aJ F H /\ Rep K F a x /\ Rep K F b y /\ g a b=some t /\ ∀ F' H' v,br F H F' H' -> Rep K F' t v -> Q v H'
def MR (K:PySem.W.Frag) (g:T -> Option T):V -> Hp -> VK -> Prop:=fun x H Q=>∃ F a t,aJ F H /\ Rep K F a x /\ g a=some t /\ ∀ F' H' v,br F H F' H' -> Rep K F' t v -> Q v H'
def K0 (K:PySem.W.Frag) (g:List T -> Option T):List V -> Hp -> VK -> Prop:=fun xs H Q=>∃ F ts t,aJ F H /\ aQ K F ts xs /\ g ts=some t /\ ∀ F' H' v,br F H F' H' -> Rep K F' t v -> Q v H'
abbrev ot (X:Cx) (f:Value -> Value -> Sem Value) (g:T -> T -> Option T):Prop:=nY X f (IQ X.K g)
abbrev Mi (X:Cx) (f:Value -> Sem Value) (g:T -> Option T):Prop:=KL X f (MR X.K g)
abbrev kJ (X:Cx) (f:Value) (g:List T -> Option T):Prop:=gW X f (K0 X.K g)
def aH (g:T -> T -> Option T) (fa fb:FE):FE:=fun τ=>(fa τ).bind fun p=>(fb p.2).bind fun q=>(g p.1 q.1).bind fun t=>some (t,q.2)
def uI (g:T -> Option T) (fa:FE):FE:=fun τ=>(fa τ).bind fun p=>(g p.1).bind fun t=>some (t,p.2)
theorem bind_some {α β:Type} {o:Option α} {f:α -> Option β} {z:β} (h:o.bind f=some z):∃ x,o=some x /\ f x=some z:=by
 cases o with
 | none=>cases h
 | some x=>exact ⟨x,rfl,h⟩
theorem oI {g:T -> T -> Option T} {F₀ H₀:Hp} {σ:L2.St} {H:Hp} {Q:VK} (h:tE X.K F₀ H₀ (aH g fa fb) σ H Q):Ky (IQ X.K g) (tE X.K F₀ H₀ fa) (tE X.K F₀ H₀ fb) σ H Q:=by
 obtain ⟨F,τ,t,τ',E,e1,q⟩:=h
 obtain ⟨⟨x,τ1⟩,e2,e1⟩:=bind_some e1
 obtain ⟨⟨y,τ2⟩,e3,e1⟩:=bind_some e1
 obtain ⟨z,e4,e1⟩:=bind_some e1
 cases e1
 refine ⟨F,τ,x,τ1,E,e2,fun F1 H1 v1 E1 s1 r1=>⟨F1,τ1,y,_,E1,e3,fun F2 H2 v2 E2 s2 r2=>?_⟩⟩
 exact ⟨F2,x,y,t,E2.g.fh,Rep.mono s2 r1,r2,e4,fun F3 H3 v3 g3 r3=>q F3 H3 v3 (E2.grow g3) ((s1.trans s2).trans g3.sF) r3⟩
theorem aM {op:Operator} {g:T -> T -> Option T} (ho:ot X (binaryOp op) g) (ha:SE X a fa) (hb:SE X b fb):SE X (.BinOp a op b pos) (aH g fa fb):=
 fun F₀ H₀=>PE.weak (Ke ho (ha F₀ H₀) (hb F₀ H₀)) fun _ _ _=>oI
theorem GK {op:UnaryOp} {g:T -> Option T} (ho:Mi X (unaryOp op) g) (ha:SE X a fa):SE X (.UnaryOp op a pos) (uI g fa):=
 fun F₀ H₀=>PE.weak (Kf ho (ha F₀ H₀)) fun σ H Q hq__=>by
  obtain ⟨F,τ,t,τ',E,e1,q⟩:=hq__
  obtain ⟨⟨x,τ1⟩,e2,e1⟩:=bind_some e1
  obtain ⟨z,e4,e1⟩:=bind_some e1
  cases e1
  exact ⟨F,τ,x,_,E,e2,fun F1 H1 v1 E1 s1 r1=>⟨F1,x,t,E1.g.fh,r1,e4,fun F3 H3 v3 g3 r3=>q F3 H3 v3 (E1.grow g3) (s1.trans g3.sF) r3⟩⟩
theorem iD {op:CmpOp} {g:T -> T -> Option T} (ho:ot X (compareOp op) g) (ha:SE X a fa) (hb:SE X b fb) (hm:behindInMarks op b=false):SE X (.Compare a [op] [b] pos) (aH g fa fb):=
 fun F₀ H₀=>PE.weak (Fg ho (ha F₀ H₀) (hb F₀ H₀) hm) fun _ _ _=>oI
theorem bE {g:T -> T -> Option T} (ho:DU X (IQ X.K g)) (ha:SE X a fa) (hb:SE X b fb) (hs:lW b):SE X (.Subscript a b pos) (aH g fa fb):=
 fun F₀ H₀=>PE.weak (C8 ho (ha F₀ H₀) (hb F₀ H₀) hs) fun _ _ _=>oI
def eE (f:FE):FT:=fun τ=>(f τ).bind fun p=>match p.1 with | .bl c=>some (c,p.2) | _=>none
def K1:T -> Option Bool
 | .non=>some false
 | .bl c=>some c
 | .int i=>some (i != 0)
 | .str x=>if x.length ≤ sizeLine then some ((x.length:Int) != 0) else none
 | .tup ts=>some (!ts.isEmpty)
 | .lst ts=>some (!ts.isEmpty)
 | .scr ts=>some (!ts.isEmpty)
 | .dic=>some false
 | .obj _ _ _=>none
 | .ptr _=>none
 | .exc _=>none
 | .ty _=>none
def cM (f:FE):FT:=fun τ=>(f τ).bind fun p=>(K1 p.1).bind fun c=>some (c,p.2)
theorem cO {op:CmpOp} {g:T -> T -> Option T} (ho:ot X (compareOp op) g) (ha:SE X a fa) (hb:SE X b fb) (hm:behindInMarks op b=false):ST X (.Compare a [op] [b] pos) (eE (aH g fa fb)):=
 fun F₀ H₀=>PT.weak (Fp ho (ha F₀ H₀) (hb F₀ H₀) hm) fun σ H Q hq__=>by
  obtain ⟨F,τ,c,τ',E,e1,q⟩:=hq__
  obtain ⟨⟨x,τ1⟩,e2,e1⟩:=bind_some e1
  dsimp only at e1
  split at e1
  ·cases e1
   refine oI (Q:=fun x H'=>∃ k,x=V.bl k /\ Q k H') ⟨F,τ,_,_,E,e2,fun F' H' v E' s' r'=>?_⟩
   exact ⟨c,r',q F' H' E' s'⟩
  ·cases e1
theorem jg {K:PySem.W.Frag} {F:Hp} {ts:List T} {vs:List V} (h:aQ K F ts vs):vs.isEmpty=ts.isEmpty:=by
 cases ts with
 | nil=>cases h; rfl
 | cons t ts=>obtain ⟨v,r,rfl,_⟩:=h; rfl
theorem Gb {K:PySem.W.Frag} {F H:Hp} {t:T} {v:V} {c:Bool} (s:aJ F H) (r:Rep K F t v) (e:K1 t=some c):GW K v H c:=by
 cases t with
 | non=>cases r; cases e; exact rfl
 | bl _=>cases r; cases e; exact rfl
 | int _=>cases r; cases e; exact rfl
 | str x =>
  cases r
  simp only [K1] at e
  split at e
  ·next h=>cases e; exact ⟨h,rfl⟩
  ·cases e
 | ty _=>cases e
 | tup ts =>
  obtain ⟨p,xs,rfl,h1,h2⟩:=r
  cases e
  exact .inr (.inl ⟨xs,cg s h1,by rw [jg h2]⟩)
 | lst ts =>
  obtain ⟨p,xs,rfl,h1,h2⟩:=r
  cases e
  exact .inl ⟨xs,dE.of (s _ _ h1),by rw [jg h2]⟩
 | scr ts =>
  obtain ⟨p,xs,rfl,h1,h2⟩:=r
  cases e
  exact .inl ⟨xs,s.seq h1,by rw [jg h2]⟩
 | dic =>
  obtain ⟨p,rfl,h1⟩:=r
  cases e
  exact .inr (.inr ⟨[],s _ _ h1,rfl⟩)
 | obj _ _ _=>cases e
 | ptr _=>cases e
 | exc _=>cases e
theorem dP (h:SE X e f) (he:∀ whole,isTrue e X.env whole=(do let v <- whole; standAt e.pos; holding [v] (truthy v)):=by intro _; rfl):ST X e (cM f):=
 fun F₀ H₀=>PT.weak (Dm (h F₀ H₀) he) fun σ H Q hq__=>by
  obtain ⟨F,τ,c,τ',E,e1,q⟩:=hq__
  obtain ⟨⟨x,τ1⟩,e2,e1⟩:=bind_some e1
  obtain ⟨z,e4,e1⟩:=bind_some e1
  cases e1
  exact ⟨F,τ,x,_,E,e2,fun F1 H1 v1 E1 s1 r1=>⟨c,Gb E1.g.fh r1 e4,q F1 H1 E1 s1⟩⟩
variable {ta tb:FT} {rest:List Expr}
def AD (ta tb:FT):FT:=fun τ=>(ta τ).bind fun p=>if p.1=true then tb p.2 else some (false,p.2)
def mZ (ta tb:FT):FT:=fun τ=>(ta τ).bind fun p=>if p.1=true then some (true,p.2) else tb p.2
def cK (ta:FT):FT:=fun τ=>(ta τ).bind fun p=>some (!p.1,p.2)
theorem dC (h:ST X a ta):ST X (.UnaryOp .Not a pos) (cK ta):=fun F₀ H₀=>PT.weak (HZ (h F₀ H₀)) fun σ H Q hq__=>by
 obtain ⟨F,τ,c,τ',E,e1,q⟩:=hq__
 obtain ⟨⟨x,τ1⟩,e2,e1⟩:=bind_some e1
 cases e1
 exact ⟨F,τ,x,_,E,e2,fun F1 H1 E1 s1=>q F1 H1 E1 s1⟩
theorem FX (h:ST X a ta):SW X (.BoolOp .And [a] pos) ta:=fun F₀ H₀=>Fq (h F₀ H₀)
theorem kg (h:ST X a ta):SW X (.BoolOp .Or [a] pos) ta:=fun F₀ H₀=>Ie (h F₀ H₀)
theorem Iu (ha:ST X a ta) (hb:SW X (.BoolOp .And (b :: rest) pos) tb):SW X (.BoolOp .And (a :: b :: rest) pos) (AD ta tb):=fun F₀ H₀=>PW.weak (Ia (ha F₀ H₀) (hb F₀ H₀)) fun σ H Q hq__=>by
 obtain ⟨F,τ,c,τ',E,e1,q⟩:=hq__
 obtain ⟨⟨x,τ1⟩,e2,e1⟩:=bind_some e1
 refine ⟨F,τ,x,τ1,E,e2,fun F1 H1 E1 s1=>?_⟩
 dsimp only at e1
 split at e1
 ·next h=>rw [if_pos h]; exact ⟨F1,τ1,c,τ',E1,e1,fun F2 H2 E2 s2=>q F2 H2 E2 (s1.trans s2)⟩
 ·next h=>rw [if_neg h]; cases e1; exact q F1 H1 E1 s1
theorem kf (ha:ST X a ta) (hb:SW X (.BoolOp .Or (b :: rest) pos) tb):SW X (.BoolOp .Or (a :: b :: rest) pos) (mZ ta tb):=fun F₀ H₀=>PW.weak (Kh (ha F₀ H₀) (hb F₀ H₀)) fun σ H Q hq__=>by
 obtain ⟨F,τ,c,τ',E,e1,q⟩:=hq__
 obtain ⟨⟨x,τ1⟩,e2,e1⟩:=bind_some e1
 refine ⟨F,τ,x,τ1,E,e2,fun F1 H1 E1 s1=>?_⟩
 dsimp only at e1
 split at e1
 ·next h=>rw [if_pos h]; cases e1; exact q F1 H1 E1 s1
 ·next h=>rw [if_neg h]; exact ⟨F1,τ1,c,τ',E1,e1,fun F2 H2 E2 s2=>q F2 H2 E2 (s1.trans s2)⟩
theorem SW.st (h:SW X e ta):ST X e ta:=fun F₀ H₀=>(h F₀ H₀).pt
def dQ (fa fb:FE):FE:=fun τ=>(fa τ).bind fun p=>match p.1 with | .bl true=>fb p.2 | .bl false=>some (.bl false,p.2) | _=>none
def Lo (fa fb:FE):FE:=fun τ=>(fa τ).bind fun p=>match p.1 with | .bl true=>some (.bl true,p.2) | .bl false=>fb p.2 | _=>none
def Er:T -> Option T
 | .bl c=>some (.bl (!c))
 | _=>none
theorem lS {op} (h:SE X a fa):SE X (.BoolOp op [a] pos) fa:=fun F₀ H₀=>HR (h F₀ H₀)
theorem fy (ha:SE X a fa) (hb:SE X (.BoolOp .And (b :: rest) pos) fb):SE X (.BoolOp .And (a :: b :: rest) pos) (dQ fa fb):=fun F₀ H₀=>PE.weak (HN (ha F₀ H₀) (hb F₀ H₀)) fun σ H Q hq__=>by
 obtain ⟨F,τ,c,τ',E,e1,q⟩:=hq__
 obtain ⟨⟨x,τ1⟩,e2,e1⟩:=bind_some e1
 dsimp only at e1
 refine ⟨F,τ,x,τ1,E,e2,fun F1 H1 v E1 s1 r1=>?_⟩
 split at e1
 ·cases r1; exact ⟨true,rfl,by rw [if_pos rfl]; exact ⟨F1,τ1,c,τ',E1,e1,fun F2 H2 v2 E2 s2=>q F2 H2 v2 E2 (s1.trans s2)⟩⟩
 ·cases r1; cases e1; exact ⟨false,rfl,by rw [if_neg (by decide)]; exact q F1 H1 _ E1 s1 rfl⟩
 ·cases e1
theorem Ik (ha:SE X a fa):SE X (.UnaryOp .Not a pos) (uI Er fa):=fun F₀ H₀=>PE.weak (HQ (ha F₀ H₀)) fun σ H Q hq__=>by
 obtain ⟨F,τ,c,τ',E,e1,q⟩:=hq__
 obtain ⟨⟨x,τ1⟩,e2,e1⟩:=bind_some e1
 obtain ⟨z,e4,e1⟩:=bind_some e1
 cases e1
 refine ⟨F,τ,x,_,E,e2,fun F1 H1 v E1 s1 r1=>?_⟩
 dsimp only at e4
 unfold Er at e4
 split at e4
 ·cases r1; cases e4; exact ⟨_,rfl,q F1 H1 _ E1 s1 rfl⟩
 ·cases e4
def MI (t:FT) (fa fb:FE):FE:=fun τ=>(t τ).bind fun p=>if p.1=true then fa p.2 else fb p.2
variable {es:List Expr} {g:FA}
def aj:FA:=fun τ=>some ([],τ)
def aa (f:FE) (g:FA):FA:=fun τ=>(f τ).bind fun p=>(g p.2).bind fun q=>some (p.1 :: q.1,q.2)
theorem au:SA X [] aj:=fun F₀ H₀=>PA.weak fv fun σ H Q hq__=>by
 obtain ⟨F,τ,c,τ',E,e1,q⟩:=hq__
 cases e1
 exact q F H [] E (aJ.refl _) rfl
theorem ag (ha:SE X e f) (hr:SA X es g) (hs:starEach (e :: es) X.env=(false,eval e X.env) :: starEach es X.env:=by rfl):SA X (e :: es) (aa f g):=fun F₀ H₀=>PA.weak (cN (ha F₀ H₀) (hr F₀ H₀) hs) fun σ H Q hq__=>by
 obtain ⟨F,τ,c,τ',E,e1,q⟩:=hq__
 obtain ⟨⟨x,τ1⟩,e2,e1⟩:=bind_some e1
 obtain ⟨⟨y,τ2⟩,e3,e1⟩:=bind_some e1
 cases e1
 exact ⟨F,τ,x,τ1,E,e2,fun F1 H1 v E1 s1 r1=>⟨F1,τ1,y,_,E1,e3,fun F2 H2 vs E2 s2 r2=>q F2 H2 _ E2 (s1.trans s2) ⟨v,vs,rfl,Rep.mono s2 r1,r2⟩⟩⟩
def ir (g:FA):FE:=fun τ=>(g τ).bind fun p=>if p.1.length ≤ sizeLine then some (.tup p.1,p.2) else none
def iJ (g:FA):FE:=fun τ=>(g τ).bind fun p=>if p.1.length ≤ sizeLine then some (.lst p.1,p.2) else none
theorem gP {k} (h:SA X es g):SE X (.Tuple es k pos) (ir g):=fun F₀ H₀=>PE.weak (uj (h F₀ H₀)) fun σ H Q hq__=>by
 obtain ⟨F,τ,c,τ',E,e1,q⟩:=hq__
 obtain ⟨⟨x,τ1⟩,e2,e1⟩:=bind_some e1
 dsimp only at e1
 split at e1
 ·next hl =>
  cases e1
  refine ⟨F,τ,x,_,E,e2,fun F1 H1 vs E1 s1 r1=>⟨by rw [r1.length]; exact hl,fun p hp=>?_⟩⟩
  have gr:=br.new (.tup vs) E1.g.fh hp
  exact q _ _ _ (E1.grow gr) (s1.trans gr.sF) ⟨p,vs,rfl,js.of aN,aQ.mono gr.sF r1⟩
 ·cases e1
theorem qe (h:SA X es g):SE X (.List es pos) (iJ g):=fun F₀ H₀=>PE.weak (ui (h F₀ H₀)) fun σ H Q hq__=>by
 obtain ⟨F,τ,c,τ',E,e1,q⟩:=hq__
 obtain ⟨⟨x,τ1⟩,e2,e1⟩:=bind_some e1
 dsimp only at e1
 split at e1
 ·next hl =>
  cases e1
  refine ⟨F,τ,x,_,E,e2,fun F1 H1 vs E1 s1 r1=>⟨by rw [r1.length]; exact hl,fun p hp=>?_⟩⟩
  have gr:=br.new (.lst vs) E1.g.fh hp
  exact q _ _ _ (E1.grow gr) (s1.trans gr.sF) ⟨p,vs,rfl,aN,aQ.mono gr.sF r1⟩
 ·cases e1
def ai (d:List T -> Option T) (g:FA):FE:=fun τ=>(g τ).bind fun p=>(d p.1).bind fun t=>some (t,p.2)
theorem rA {d:List T -> Option T} {F₀ H₀:Hp} {σ:L2.St} {H:Hp} {Q:VK} (h:tE X.K F₀ H₀ (ai d g) σ H Q):tA X.K F₀ H₀ g σ H fun vs H1=>K0 X.K d vs H1 Q:=by
 obtain ⟨F,τ,c,τ',E,e1,q⟩:=h
 obtain ⟨⟨x,τ1⟩,e2,e1⟩:=bind_some e1
 obtain ⟨z,e4,e1⟩:=bind_some e1
 cases e1
 exact ⟨F,τ,x,_,E,e2,fun F1 H1 vs E1 s1 r1=>⟨F1,x,c,E1.g.fh,r1,e4,fun F3 H3 v3 g3 r3=>q F3 H3 v3 (E1.grow g3) (s1.trans g3.sF) r3⟩⟩
theorem aO {d:List T -> Option T} {id:String} {x:Str} {p:Pos} (hc:kJ X (.builtin id) d) (hg:Gl X x) (hm:X.mg x=none) (hv:bootBuiltins x=some (.builtin id)) (ha:SA X (e :: es) g) (hn:x ≠ "__name__" := by decide) (hdb:(x == ("__debug__" : Str))=false:=by decide)
  (he:starEach (e :: es) X.env=(false,eval e X.env) :: starEach es X.env:=by rfl) (hpl:(backTo pos (starEach es X.env)).any (·.1)=false:=by rfl):SE X (.Call (.Name x p) (e :: es) [] pos) (ai d g):=
 fun F₀ H₀=>PE.weak (C7 hc hg hm hv (ha F₀ H₀) hn hdb he hpl) fun _ _ _=>rA
theorem dM {d:List T -> Option T} {id:String} {x:Str} {p:Pos} (hc:kJ X (.type id) d) (hg:Gl X x) (hm:X.mg x=none) (hv:bootBuiltins x=some (.type id)) (ha:SA X (e :: es) g) (hn:x ≠ "__name__" := by decide) (hdb:(x == ("__debug__" : Str))=false:=by decide)
  (he:starEach (e :: es) X.env=(false,eval e X.env) :: starEach es X.env:=by rfl) (hpl:(backTo pos (starEach es X.env)).any (·.1)=false:=by rfl):SE X (.Call (.Name x p) (e :: es) [] pos) (ai d g):=
 fun F₀ H₀=>PE.weak (kv hc hg hm hv (ha F₀ H₀) hn hdb he hpl) fun _ _ _=>rA
end
def spT (K:PySem.W.Frag) (n:Nat) (d:List T -> Option T):Sp:=fun vs H Q _=>vs.length=n /\ K0 K d vs H Q
structure Def (P:Program) (w:World) (K:PySem.W.Frag) (mg:Str -> Option Value) (base:Heap) (k:Nat) (x:Str) (n:Nat) (d:List T -> Option T):Prop where
 ex:∃ f fd ps,fI P w K mg base mP k f fd ps (spT K n d) /\ Binds K fd ps [] /\ PySem.W.keepIn K (.ref f)=true /\ mg x=some (.ref f) /\ ps.length=n
theorem Def.imp {P:Program} {w:World} {K:PySem.W.Frag} {mg:Str -> Option Value} {base:Heap} {k n:Nat} {x:Str} {d d':List T -> Option T} (D:Def P w K mg base k x n d) (h:∀ ts t,d' ts=some t -> d ts=some t):Def P w K mg base k x n d':=by
 obtain ⟨f,fd,ps,F,r⟩:=D.ex
 exact ⟨f,fd,ps,F.imp fun vs H Q E ⟨l,F,ts,t,a,b,c,q⟩=>⟨l,F,ts,t,a,b,h _ _ c,q⟩,r⟩
theorem Def.mono {P:Program} {w:World} {K:PySem.W.Frag} {mg:Str -> Option Value} {base:Heap} {j k n:Nat} {x:Str} {d:List T -> Option T} (D:Def P w K mg base j x n d) (h:j ≤ k):Def P w K mg base k x n d:=by
 obtain ⟨f,fd,ps,F,r⟩:=D.ex
 exact ⟨f,fd,ps,F.mono h,r⟩
theorem Def.zero {P:Program} {w:World} {K:PySem.W.Frag} {mg:Str -> Option Value} {base:Heap} {x qual:Str} {st:Stmt} {f:Addr} {fd:FuncData} {ps:List Str} (F:fG K x qual st f fd) (hb:Binds K fd ps []) (hm:mg x=some (.ref f)):Def P w K mg base 0 x ps.length (fun _=>none):=
 ⟨f,fd,ps,⟨fun vs H Q E h=>h.1,fun A outer s H args us vs Q E _ _ _ _ h=>by obtain ⟨_,F,ts,t,_,_,e,_⟩:=h; cases e⟩,hb,F.kp,hm,rfl⟩
section
variable {X:Cx} {e:Expr} {es:List Expr} {pos:Pos} {g:FA}
theorem aL {k n:Nat} {x:Str} {p:Pos} {d:List T -> Option T} (D:Def X.prog X.w X.K X.mg X.base k x n d) (hr:dq k X.A) (hg:Gl X x) (ha:SA X (e :: es) g) (hl:∀ τ ts τ',g τ=some (ts,τ') -> ts.length=n) (hdb:(x == ("__debug__" : Str))=false:=by decide)
  (he:starEach (e :: es) X.env=(false,eval e X.env) :: starEach es X.env:=by rfl) (hpl:(backTo pos (starEach es X.env)).any (·.1)=false:=by rfl):SE X (.Call (.Name x p) (e :: es) [] pos) (ai d g):=by
 obtain ⟨f,fd,ps,F,hb,hk,hm,hn⟩:=D.ex
 intro F₀ H₀
 refine PE.weak (uh (E:=E0) (CX:=mP) F hr hg hm hk hb .nil rL (ha F₀ H₀) hdb he hpl) fun σ H Q h=>?_
 obtain ⟨F,τ,c,τ',E,e1,q⟩:=h
 obtain ⟨⟨z,τ1⟩,e2,e1⟩:=bind_some e1
 have hz:=hl _ _ _ e2
 obtain ⟨u,e4,e1⟩:=bind_some e1
 cases e1
 refine ⟨F,τ,z,_,E,e2,fun F1 H1 vs E1 s1 r1=>⟨by rw [List.append_nil,r1.length]; exact hz,F1,z,c,E1.g.fh,by rw [List.append_nil]; exact r1,e4,fun F3 H3 v3 g3 r3=>q F3 H3 v3 (E1.grow g3) (s1.trans g3.sF) r3⟩⟩
theorem aG:∀ τ ts τ',aj τ=some (ts,τ') -> ts.length=0:=fun _ _ _ h=>by cases h; rfl
theorem ah {f:FE} {g:FA} {n:Nat} (h:∀ τ ts τ',g τ=some (ts,τ') -> ts.length=n):∀ τ ts τ',aa f g τ=some (ts,τ') -> ts.length=n + 1:=fun τ ts τ' e=>by
 obtain ⟨⟨x,τ1⟩,e2,e1⟩:=bind_some e
 obtain ⟨⟨y,τ2⟩,e3,e1⟩:=bind_some e1
 cases e1
 simp [h _ _ _ e3]
end
open PySem PySem.Spec PyProof.Rows L2
section
variable {X:Cx} {e a b:Expr} {pos:Pos} {f fa fb:FE} {ga:FA} {es:List Expr}
def fj:FS:=fun _=>none
def bI:FS:=fun τ=>some (.nx τ)
def bN (f:FE):FS:=fun τ=>(f τ).bind fun p=>some (.rt p.1)
def u9 (f:FE):FS:=fun τ=>(f τ).bind fun p=>some (.nx p.2)
def ck (c:FT) (t u:FS):FS:=fun τ=>(c τ).bind fun p=>if p.1=true then t p.2 else u p.2
def bf (t u:FS):FS:=fun τ=>(t τ).bind fun r=>match r with | .nx τ'=>u τ' | r=>some r
theorem rZ.mono {K:PySem.W.Frag} {F₀ H₀ F F':Hp} {D:Ends} {r:R} (s:aJ F F') (h:rZ K F₀ H₀ F D r):rZ K F₀ H₀ F' D r:=by
 cases r with
 | nx τ=>exact fun F1 H1 σ1 E1 s1=>h F1 H1 σ1 E1 (s.trans s1)
 | rt t=>exact h
 | bk τ=>exact fun F1 H1 σ1 E1 s1=>h F1 H1 σ1 E1 (s.trans s1)
 | ct τ=>exact fun F1 H1 σ1 E1 s1=>h F1 H1 σ1 E1 (s.trans s1)
theorem iO {st:Stmt}:SS X st fj:=fun F₀ H₀=>PS.weak Di fun D σ H ⟨F,τ,r,E,e1,q⟩=>by cases e1
theorem bg (h:SE X e f):SS X (.Return (some e) pos) (bN f):=fun F₀ H₀=>PS.weak (pV (h F₀ H₀)) fun D σ H hq__=>by
 obtain ⟨F,τ,r,E,e1,q⟩:=hq__
 obtain ⟨⟨x,τ1⟩,e2,e1⟩:=bind_some e1
 cases e1
 exact ⟨F,τ,x,τ1,E,e2,fun F' H' v E' s' r'=>q F' H' v E'.g r'⟩
theorem FR (h:SE X e f) (hs:swapsWith e none pos.line X.env=pure false:=by rfl):SS X (.Expr e pos) (u9 f):=fun F₀ H₀=>PS.weak (jh (h F₀ H₀) hs) fun D σ H hq__=>by
 obtain ⟨F,τ,r,E,e1,q⟩:=hq__
 obtain ⟨⟨x,τ1⟩,e2,e1⟩:=bind_some e1
 cases e1
 exact ⟨F,τ,x,τ1,E,e2,fun F' H' v E' s' r'=>q F' H' σ E' s'⟩
theorem dm {c:Expr} {ss us:List Stmt} {tc:FT} {t u:FS} (hc:ST X c tc) (ha:qZ X ss t) (hb:qZ X us u):SS X (.If c ss us pos) (ck tc t u):=fun F₀ H₀=>PS.weak (Dh (hc F₀ H₀) (ha F₀ H₀) (hb F₀ H₀)) fun D σ H hq__=>by
 obtain ⟨F,τ,r,E,e1,q⟩:=hq__
 obtain ⟨⟨x,τ1⟩,e2,e1⟩:=bind_some e1
 refine ⟨F,τ,x,τ1,E,e2,fun F' H' E' s'=>?_⟩
 dsimp only at e1
 split at e1
 ·next h=>rw [if_pos h]; exact ⟨F',τ1,r,E',e1,q.mono s'⟩
 ·next h=>rw [if_neg h]; exact ⟨F',τ1,r,E',e1,q.mono s'⟩
theorem bR:qZ X [] bI:=fun F₀ H₀=>iQ.weak oJ fun D σ H hq__=>by
 obtain ⟨F,τ,r,E,e1,q⟩:=hq__
 cases e1
 exact q F H σ E (aJ.refl _)
theorem ay {st:Stmt} {rest:List Stmt} {t u:FS} (h1:SS X st t) (h2:qZ X rest u):qZ X (st :: rest) (bf t u):=fun F₀ H₀=>iQ.weak (cE (h1 F₀ H₀) (h2 F₀ H₀)) fun D σ H hq__=>by
 obtain ⟨F,τ,r,E,e1,q⟩:=hq__
 obtain ⟨x,e2,e1⟩:=bind_some e1
 refine ⟨F,τ,x,E,e2,?_⟩
 cases x with
 | nx τ1=>exact fun F1 H1 σ1 E1 s1=>⟨F1,τ1,r,E1,e1,q.mono s1⟩
 | rt t=>cases e1; exact q
 | bk t=>cases e1; exact q
 | ct t=>cases e1; exact q
theorem aF {st:Stmt} {t:FS} (h1:SS X st t):qZ X [st] t:=fun F₀ H₀=>eH (h1 F₀ H₀)
theorem Bl {st:List Stmt}:qZ X st fj:=fun F₀ H₀=>iQ.weak A5 fun D σ H ⟨F,τ,r,E,e1,q⟩=>by cases e1
def bU (i:Nat) (f:FE):FS:=fun τ=>(f τ).bind fun p=>some (.nx (p.2.set i (some (.sh p.1))))
def fm (i:Nat) (g:FA):FS:=fun τ=>(g τ).bind fun p=>if p.1.length ≤ sizeLine then some (.nx (p.2.set i (some (.own p.1)))) else none
theorem bJ (i:Nat) {x:Str} {pos':Pos} (hN:X.N.Nodup) (hi:X.N[i]? = some x) (hx:Loc X.env.scope x) (he:SE X e f) (hs:swapsWith e (some (.Name x pos')) pos.line X.env=pure false:=by rfl)
  (hf:X.fn x=true \/ X.env.scope.names.lookup x=some .local:=by first | exact .inl rfl | exact .inr rfl | assumption):SS X (.Assign [.Name x pos'] e pos) (bU i f):=fun F₀ H₀=>PS.weak (lJ hN hi hx (he F₀ H₀) hs hf) fun D σ H hq__=>by
 obtain ⟨F,τ,r,E,e1,q⟩:=hq__
 obtain ⟨⟨y,τ1⟩,e2,e1⟩:=bind_some e1
 cases e1
 exact ⟨F,τ,y,τ1,E,e2,fun F' H' v E' s' r'=>q F' H' _ (E'.set r') s'⟩
theorem nG (i:Nat) {x:Str} {pos':Pos} {p2:Pos} (hN:X.N.Nodup) (hi:X.N[i]? = some x) (hx:Loc X.env.scope x) (he:SA X es ga) (hs:swapsWith (.List es p2) (some (.Name x pos')) pos.line X.env=pure false:=by rfl)
  (hf:X.fn x=true \/ X.env.scope.names.lookup x=some .local:=by first | exact .inl rfl | exact .inr rfl | assumption):SS X (.Assign [.Name x pos'] (.List es p2) pos) (fm i ga):=fun F₀ H₀=>PS.weak (lJ hN hi hx (ui (he F₀ H₀)) hs hf) fun D σ H hq__=>by
 obtain ⟨F,τ,r,E,e1,q⟩:=hq__
 obtain ⟨⟨y,τ1⟩,e2,e1⟩:=bind_some e1
 dsimp only at e1
 split at e1
 ·next hl =>
  cases e1
  exact ⟨F,τ,y,τ1,E,e2,fun F' H' vs E' s' r'=>⟨by rw [r'.length]; exact hl,fun p hp=>q F' _ _ (E'.setOwn hp r') s'⟩⟩
 ·cases e1
def tG (K:PySem.W.Frag) (F₀ H₀:Hp) (fg:FG):TG:=fun v σ H Q=>∃ F τ t τ',aD K F₀ H₀ F H σ τ /\ Rep K F t v /\ fg t τ=some τ' /\ ∀ F' H' σ',aD K F₀ H₀ F' H' σ' τ' -> aJ F F' -> Q σ' H'
def MW (K:PySem.W.Frag) (F₀ H₀:Hp) (fg:List T -> aB -> Option aB):DV:=fun vs σ H Q=>∃ F τ ts τ',aD K F₀ H₀ F H σ τ /\ aQ K F ts vs /\ fg ts τ=some τ' /\ ∀ F' H' σ',aD K F₀ H₀ F' H' σ' τ' -> aJ F F' -> Q σ' H'
def SG (X:Cx) (tg:Expr) (fg:FG):Prop:=∀ F₀ H₀,PG X tg (tG X.K F₀ H₀ fg)
def IH (X:Cx) (tg:List Expr) (fg:List T -> aB -> Option aB):Prop:=∀ F₀ H₀,IG X tg (MW X.K F₀ H₀ fg)
def ao (i:Nat):FG:=fun t τ=>some (τ.set i (some (.sh t)))
def cD:List T -> aB -> Option aB
 | [],τ=>some τ
 | _ :: _,_=>none
def aI (g:FG) (gs:List T -> aB -> Option aB):List T -> aB -> Option aB
 | [],_=>none
 | t :: ts,τ=>(g t τ).bind fun τ1=>gs ts τ1
def cT (gs:List T -> aB -> Option aB):FG:=fun t τ=>match t with
 | .tup ts=>gs ts τ
 | _=>none
theorem aE (i:Nat) {x:Str} (hN:X.N.Nodup) (hi:X.N[i]? = some x) (hx:Loc X.env.scope x) (hf:X.fn x=true \/ X.env.scope.names.lookup x=some .local:=by first | exact .inl rfl | exact .inr rfl | assumption):SG X (.Name x pos) (ao i):=
 fun F₀ H₀ pins s σ H v u Q I r h=>ic hN hi hx hf pins s σ H v u Q I r (by
  obtain ⟨F,τ,t,τ',E,rt,e1,q⟩:=h
  cases e1
  exact q F H _ (E.set rt) (aJ.refl _))
theorem da:IH X [] cD:=fun F₀ H₀ pins s σ H vs us Q I r h=>zO pins s σ H vs us Q I r (by
 obtain ⟨F,τ,ts,τ',E,rt,e1,q⟩:=h
 cases ts with
 | nil=>cases e1; cases rt; exact ⟨rfl,q F H σ E (aJ.refl _)⟩
 | cons t ts=>cases e1)
theorem aT {g:FG} {gs:List T -> aB -> Option aB} (h1:SG X e g) (h2:IH X es gs) (hs:(assignEach (e :: es) X.env).map (·.2)=assign e X.env :: (assignEach es X.env).map (·.2):=by rfl):IH X (e :: es) (aI g gs):=
 fun F₀ H₀ pins s σ H vs us Q I r h=>pU (h1 F₀ H₀) (h2 F₀ H₀) hs pins s σ H vs us Q I r (by
  obtain ⟨F,τ,ts,τ',E,rt,e1,q⟩:=h
  cases ts with
  | nil=>cases e1
  | cons t ts =>
   obtain ⟨v,rr,rfl,r1,r2⟩:=rt
   obtain ⟨τ1,e2,e1⟩:=bind_some e1
   exact ⟨v,rr,rfl,F,τ,t,τ1,E,r1,e2,fun F' H' σ' E' s'=>⟨F',τ1,ts,τ',E',aQ.mono s' r2,e1,fun F2 H2 σ2 E2 s2=>q F2 H2 σ2 E2 (s'.trans s2)⟩⟩)
theorem dR:∀ ts τ τ',cD ts τ=some τ' -> ts.length=0:=fun ts τ τ' h=>by cases ts <;> first | rfl | cases h
theorem aZ {g:FG} {gs:List T -> aB -> Option aB} {n:Nat} (h:∀ ts τ τ',gs ts τ=some τ' -> ts.length=n):∀ ts τ τ',aI g gs ts τ=some τ' -> ts.length=n + 1:=fun ts τ τ' e=>by
 cases ts with
 | nil=>cases e
 | cons t ts =>
  obtain ⟨τ1,e2,e1⟩:=bind_some e
  simp [h _ _ _ e1]
theorem ek {gs:List T -> aB -> Option aB} {k:Nat} {n:Nat} (hc:X.calm=true) (h:IH X es gs) (hl:∀ ts τ τ',gs ts τ=some τ' -> ts.length=n)
  (hn:(assignEach es X.env).length=n:=by rfl) (hst:(assignEach es X.env).findIdx? (·.1)=none:=by rfl):SG X (.Tuple es k pos) (cT gs):=
 fun F₀ H₀ pins s σ H v u Q I r h'=>Dc hc (h F₀ H₀) hn hst pins s σ H v u Q I r (by
  obtain ⟨F,τ,t,τ',E,rt,e1,q⟩:=h'
  unfold cT at e1
  split at e1
  ·next ts =>
   obtain ⟨p,xs,rfl,h1,h2⟩:=rt
   exact ⟨p,xs,rfl,cg E.g.fh h1,by rw [h2.length]; exact hl _ _ _ e1,F,τ,ts,τ',E,h2,e1,q⟩
  ·cases e1)
def kZ (f:FE) (g:FG):FS:=fun τ=>(f τ).bind fun p=>(g p.1 p.2).bind fun τ'=>some (.nx τ')
theorem lT {tg:Expr} {g:FG} (he:SE X e f) (hg:SG X tg g) (hs:swapsWithSole [tg] e pos.line X.env=pure false:=by rfl) (hw:swappedStores [tg] e X.env=pure none:=by rfl)
  (h1:(assignEach [tg] X.env).map (·.2)=[assign tg X.env]:=by rfl):SS X (.Assign [tg] e pos) (kZ f g):=fun F₀ H₀=>PS.weak (yl (he F₀ H₀) (hg F₀ H₀) hs hw h1) fun D σ H hq__=>by
 obtain ⟨F,τ,r,E,e1,q⟩:=hq__
 obtain ⟨⟨y,τ1⟩,e2,e1⟩:=bind_some e1
 obtain ⟨τ2,e3,e1⟩:=bind_some e1
 cases e1
 exact ⟨F,τ,y,τ1,E,e2,fun F' H' v E' s' r'=>⟨F',τ1,y,τ2,E',r',e3,fun F2 H2 σ2 E2 s2=>q F2 H2 σ2 E2 (s'.trans s2)⟩⟩
def n0 (i j:Nat) (g:FA):FS:=fun τ=>(g τ).bind fun p=>match p.1 with
 | [v,w]=>some (.nx ((p.2.set i (some (.sh v))).set j (some (.sh w))))
 | _=>none
theorem qj {i j:Nat} {x y:Str} {px py pt:Pos} {kt k2 pt2} (hc:X.calm=true) (hN:X.N.Nodup) (hi:X.N[i]? = some x) (hj:X.N[j]? = some y) (hij:i ≠ j)
  (hx:X.env.scope.names.lookup x=some .local) (hy:X.env.scope.names.lookup y=some .local) (ha:SA X [a,b] ga)
  (hw:swappedStores [.Tuple [.Name x px,.Name y py] kt pt] (.Tuple [a,b] k2 pt2) X.env=pure (some [x,y]))
  (hs:swapsWithSole [.Tuple [.Name x px,.Name y py] kt pt] (.Tuple [a,b] k2 pt2) pos.line X.env=pure false:=by rfl) :
  SS X (.Assign [.Tuple [.Name x px,.Name y py] kt pt] (.Tuple [a,b] k2 pt2) pos) (n0 i j ga):=fun F₀ H₀=>PS.weak (HY hc hN hi hj hij hx hy (ha F₀ H₀) hw hs) fun D σ H hq__=>by
 obtain ⟨F,τ,r,E,e1,q⟩:=hq__
 obtain ⟨⟨ts,τ1⟩,e2,e1⟩:=bind_some e1
 dsimp only at e1
 split at e1
 ·next v w =>
  cases e1
  refine ⟨F,τ,_,τ1,E,e2,fun F' H' vs E' s' r'=>?_⟩
  obtain ⟨v1,r1,rfl,q1,v2,r2,rfl,q2,rfl⟩:=r'
  exact ⟨v1,v2,rfl,q F' H' _ ((E'.set q1).set q2) s'⟩
 ·cases e1
structure Walks (K:PySem.W.Frag) (F:Hp) (ts:List T) (J:It):Prop where
 go:∀ (i:Nat) t F1 H1,ts[i]? = some t -> aJ F F1 -> aJ F1 H1 -> J.go i H1
 yld:∀ (i:Nat) t F1 H1 x H2,ts[i]? = some t -> aJ F F1 -> aJ F1 H1 -> J.yld i H1 x H2 -> ∃ F2,br F1 H1 F2 H2 /\ Rep K F2 t x
 stop:∀ F1 H1,aJ F F1 -> aJ F1 H1 -> J.stop ts.length H1
def tI (K:PySem.W.Frag) (F₀ H₀:Hp) (fi:FA):TI:=fun σ H R=>∃ F τ ts τ',aD K F₀ H₀ F H σ τ /\ fi τ=some (ts,τ') /\ ∀ F' H' J,aD K F₀ H₀ F' H' σ τ' -> aJ F F' -> Walks K F' ts J -> R J H'
def SI (X:Cx) (tg iter:Expr) (fi:FA):Prop:=∀ F₀ H₀,PI X tg iter (tI X.K F₀ H₀ fi)
def dU (fg:FG) (fb:FS):List T -> FS
 | [],τ=>some (.nx τ)
 | t :: ts,τ=>(fg t τ).bind fun τ1=>(fb τ1).bind fun r=>match r with
  | .nx τ2=>dU fg fb ts τ2
  | .ct τ2=>dU fg fb ts τ2
  | .bk τ2=>some (.nx τ2)
  | .rt v=>some (.rt v)
def k9 (fi:FA) (fg:FG) (fb:FS):FS:=fun τ=>(fi τ).bind fun p=>dU fg fb p.1 p.2
theorem nF {tg iter:Expr} {body:List Stmt} {fi:FA} {fg:FG} {fb:FS} (hp:PassesOwn (model X.prog X.w) X.A X.env X.xe) (hc:X.calm=true) (hi:SI X tg iter fi) (hg:SG X tg fg) (hb:qZ X body fb)
  (hs:∀ x,foldedSetIterable iter X.env x=pure x:=by intro _; rfl):SS X (.For tg iter body [] pos) (k9 fi fg fb):=fun F₀ H₀=>PS.weak (lI hp hc (hi F₀ H₀) (hg F₀ H₀) (hb F₀ H₀) hs) fun D σ H hq__=>by
 obtain ⟨F,τ,r,E,e1,q⟩:=hq__
 obtain ⟨⟨ts,τ1⟩,e2,e1⟩:=bind_some e1
 refine ⟨F,τ,ts,τ1,E,e2,fun F' H' J E' s' W=>?_⟩
 refine ⟨fun i m σ H=>m=ts.length - i /\ i ≤ ts.length /\ ∃ F1 τ1,aD X.K F₀ H₀ F1 H σ τ1 /\ aJ F' F1 /\ dU fg fb (ts.drop i) τ1=some r,⟨_,rfl,Nat.zero_le _,F',τ1,E',aJ.refl _,e1⟩,?_⟩
 rintro i m σ1 H1 ⟨rfl,hi,F1,τ2,E1,s1,e3⟩
 by_cases hlt:i < ts.length
 ·have hd:ts.drop i=ts[i] :: ts.drop (i + 1):=List.drop_eq_getElem_cons hlt
  have hg:ts[i]? = some ts[i]:=List.getElem?_eq_getElem hlt
  rw [hd] at e3
  obtain ⟨τ3,e4,e3⟩:=bind_some e3
  obtain ⟨r',e5,e3⟩:=bind_some e3
  refine .inr ⟨W.go i _ F1 H1 hg s1 E1.g.fh,fun σ H=>∃ F1 τ1,aD X.K F₀ H₀ F1 H σ τ1 /\ aJ F' F1 /\ dU fg fb (ts.drop (i + 1)) τ1=some r,fun σ' H' n=>⟨_,by omega,rfl,hlt,n⟩,fun x H2 y=>?_⟩
  obtain ⟨F2,gr,rx⟩:=W.yld i _ F1 H1 x H2 hg s1 E1.g.fh y
  refine ⟨F2,τ2,ts[i],τ3,E1.grow gr,rx,e4,fun F3 H3 σ3 E3 s3=>⟨F3,τ3,r',E3,e5,?_⟩⟩
  have s03:aJ F' F3:=s1.trans (gr.sF.trans s3)
  cases r' with
  | nx τ4=>exact fun F4 H4 σ4 E4 s4=>⟨F4,τ4,E4,s03.trans s4,e3⟩
  | ct τ4=>exact fun F4 H4 σ4 E4 s4=>⟨F4,τ4,E4,s03.trans s4,e3⟩
  | bk τ4=>cases e3; exact fun F4 H4 σ4 E4 s4=>q F4 H4 σ4 E4 (s'.trans (s03.trans s4))
  | rt v=>cases e3; exact q
 ·have he:i=ts.length:=by omega
  subst he
  rw [List.drop_length] at e3
  cases e3
  exact .inl ⟨W.stop F1 H1 s1 E1.g.fh,q F1 H1 σ1 E1 (s'.trans s1)⟩
def xy (f:FE):FA:=fun τ=>(f τ).bind fun p=>match p.1 with | .lst ts=>some (ts,p.2) | .scr ts=>some (ts,p.2) | _=>none
def Cb (f:FE):FA:=fun τ=>(f τ).bind fun p=>match p.1 with | .tup ts=>some (ts,p.2) | _=>none
theorem qx {K:PySem.W.Frag} {F:Hp} {p:Addr} {xs:List V} {ts:List T} (h1:dE K F p xs) (h2:aQ K F ts xs):Walks K F ts (La K p):=by
 refine ⟨fun i t F1 H1 e s1 s2=>?_,fun i t F1 H1 x H2 e s1 s2 y=>?_,fun F1 H1 s1 s2=>⟨xs,(s1.trans s2).seq h1,by rw [h2.length]; exact Nat.le_refl _⟩⟩
 ·obtain ⟨v,g1,_⟩:=h2.get e
  exact ⟨xs,v,(s1.trans s2).seq h1,g1⟩
 ·obtain ⟨rfl,y⟩:=y
  obtain ⟨v,g1,g2⟩:=h2.get e
  have:=y xs ((s1.trans s2).seq h1)
  rw [g1] at this; cases this
  exact ⟨F1,br.refl s2,Rep.mono s1 g2⟩
theorem Bp {K:PySem.W.Frag} {F:Hp} {p:Addr} {xs:List V} {ts:List T} (h1:js K F p xs) (h2:aQ K F ts xs):Walks K F ts (Lb K p):=by
 refine ⟨fun i t F1 H1 e s1 s2=>?_,fun i t F1 H1 x H2 e s1 s2 y=>?_,fun F1 H1 s1 s2=>⟨xs,cg (s1.trans s2) h1,by rw [h2.length]; exact Nat.le_refl _⟩⟩
 ·obtain ⟨v,g1,_⟩:=h2.get e
  exact ⟨xs,v,cg (s1.trans s2) h1,g1⟩
 ·obtain ⟨rfl,y⟩:=y
  obtain ⟨v,g1,g2⟩:=h2.get e
  have:=y xs (cg (s1.trans s2) h1)
  rw [g1] at this; cases this
  exact ⟨F1,br.refl s2,Rep.mono s1 g2⟩
theorem PI.weak {tg it:Expr} {t t':TI} (h:PI X tg it t) (i:∀ σ H R,t' σ H R -> t σ H R):PI X tg it t':=fun pins s σ H R I q=>h pins s σ H R I (i σ H R q)
theorem zY {tg l:Expr} (h:SE X l f):SI X tg l (xy f):=fun F₀ H₀=>PI.weak (mD (h F₀ H₀)) fun σ H R hq__=>by
 obtain ⟨F,τ,ts,τ',E,e1,q⟩:=hq__
 obtain ⟨⟨x,τ1⟩,e2,e1⟩:=bind_some e1
 dsimp only at e1
 split at e1
 ·cases e1
  refine ⟨F,τ,_,τ',E,e2,fun F' H' v E' s' r'=>?_⟩
  obtain ⟨p,xs,rfl,h1,h2⟩:=r'
  exact ⟨p,rfl,⟨xs,dE.of (E'.g.fh _ _ h1)⟩,q F' H' _ E' s' (qx (dE.of h1) h2)⟩
 ·cases e1
  refine ⟨F,τ,_,τ',E,e2,fun F' H' v E' s' r'=>?_⟩
  obtain ⟨p,xs,rfl,h1,h2⟩:=r'
  exact ⟨p,rfl,⟨xs,E'.g.fh.seq h1⟩,q F' H' _ E' s' (qx h1 h2)⟩
 ·cases e1
theorem Io {tg l:Expr} (h:SE X l f):SI X tg l (Cb f):=fun F₀ H₀=>PI.weak (Dd (h F₀ H₀)) fun σ H R hq__=>by
 obtain ⟨F,τ,ts,τ',E,e1,q⟩:=hq__
 obtain ⟨⟨x,τ1⟩,e2,e1⟩:=bind_some e1
 dsimp only at e1
 split at e1
 ·cases e1
  refine ⟨F,τ,_,τ',E,e2,fun F' H' v E' s' r'=>?_⟩
  obtain ⟨p,xs,rfl,h1,h2⟩:=r'
  exact ⟨p,rfl,⟨xs,cg E'.g.fh h1⟩,q F' H' _ E' s' (Bp h1 h2)⟩
 ·cases e1
def upTo (lo:Int):Nat -> List T
 | 0=>[]
 | n + 1=>.int lo :: upTo (lo + 1) n
theorem ij:∀ (n:Nat) (lo:Int),(upTo lo n).length=n
 | 0,_=>rfl
 | n + 1,lo=>by simp [upTo,ij n]
theorem qu:∀ (n:Nat) (lo:Int) (i:Nat),i < n -> (upTo lo n)[i]? = some (.int (lo + i))
 | 0,_,_,h=>by omega
 | n + 1,lo,0,_=>by simp [upTo]
 | n + 1,lo,i + 1,h=>by
  simp only [upTo,List.getElem?_cons_succ]
  rw [qu n (lo + 1) i (by omega)]
  congr 2
  push_cast
  omega
def fq (g:FA):FA:=fun τ=>(g τ).bind fun p=>match p.1 with
 | [.int j]=>if -(2 ^ 62) ≤ j /\ j < 2 ^ 62 then some (upTo 0 j.toNat,p.2) else none
 | _=>none
theorem Bo {K:PySem.W.Frag} {F:Hp} (lo:Int) (n:Nat):Walks K F (upTo lo n) (KI lo n):=by
 have hl:∀ {i:Nat} {t:T},(upTo lo n)[i]? = some t -> i < n:=fun {i t} e=>by
  have:=(List.getElem?_eq_some_iff.mp e).1
  rwa [ij] at this
 refine ⟨fun i t F1 H1 e s1 s2=>hl e,fun i t F1 H1 x H2 e s1 s2 y=>?_,fun F1 H1 s1 s2=>by show n ≤ _; rw [ij]; exact Nat.le_refl _⟩
 obtain ⟨rfl,rfl⟩:=y
 rw [qu n lo i (hl e)] at e
 cases e
 exact ⟨F1,br.refl s2,rfl⟩
theorem mL {tg:Expr} {p:Pos} (hg:Gl X "range") (hm:X.mg "range" = none) (ha:SA X [a] ga) (hs:starEach [a] X.env=[(false,eval a X.env)]:=by rfl):SI X tg (.Call (.Name "range" p) [a] [] pos) (fq ga):=
 fun F₀ H₀=>PI.weak (AZ hg hm (ha F₀ H₀) hs) fun σ H R hq__=>by
  obtain ⟨F,τ,ts,τ',E,e1,q⟩:=hq__
  obtain ⟨⟨x,τ1⟩,e2,e1⟩:=bind_some e1
  dsimp only at e1
  split at e1
  ·split at e1
   ·next hb =>
    cases e1
    refine ⟨F,τ,_,τ',E,e2,fun F' H' vs E' s' r'=>?_⟩
    obtain ⟨v,r,rfl,q1,rfl⟩:=r'
    cases q1
    exact ⟨_,rfl,hb.1,hb.2,q F' H' _ E' s' (Bo 0 _)⟩
   ·cases e1
  ·cases e1
def eP (ft:FT) (fb:FS):Nat -> FS
 | 0,_=>none
 | n + 1,τ=>(ft τ).bind fun p=>if p.1=true then (fb p.2).bind fun r=>match r with
  | .nx τ2=>eP ft fb n τ2
  | .ct τ2=>eP ft fb n τ2
  | .bk τ2=>some (.nx τ2)
  | .rt v=>some (.rt v) else some (.nx p.2)
theorem qk (n:Nat) {c:Expr} {body:List Stmt} {ft:FT} {fb:FS} (hp:PassesOwn (model X.prog X.w) X.A X.env X.xe) (hc:ST X c ft) (hb:qZ X body fb):SS X (.While c body [] pos) (eP ft fb n):=fun F₀ H₀=>PS.weak (Dk hp (hc F₀ H₀) (hb F₀ H₀)) fun D σ H hq__=>by
 obtain ⟨F,τ,r,E,e1,q⟩:=hq__
 refine ⟨fun m σ H=>∃ F1 τ1,aD X.K F₀ H₀ F1 H σ τ1 /\ aJ F F1 /\ eP ft fb m τ1=some r,⟨n,F,τ,E,aJ.refl _,e1⟩,?_⟩
 rintro m σ1 H1 ⟨F1,τ1,E1,s1,e2⟩
 cases m with
 | zero=>cases e2
 | succ m =>
  obtain ⟨⟨x,τ2⟩,e3,e2⟩:=bind_some e2
  refine ⟨F1,τ1,x,τ2,E1,e3,fun F2 H2 E2 s2=>?_⟩
  dsimp only at e2
  split at e2
  ·next h =>
   rw [if_pos h]
   obtain ⟨r',e4,e2⟩:=bind_some e2
   refine ⟨fun σ H=>∃ F1 τ1,aD X.K F₀ H₀ F1 H σ τ1 /\ aJ F F1 /\ eP ft fb m τ1=some r,fun σ' H' n=>⟨m,Nat.lt_succ_self m,n⟩,F2,τ2,r',E2,e4,?_⟩
   cases r' with
   | nx τ4=>exact fun F4 H4 σ4 E4 s4=>⟨F4,τ4,E4,(s1.trans s2).trans s4,e2⟩
   | ct τ4=>exact fun F4 H4 σ4 E4 s4=>⟨F4,τ4,E4,(s1.trans s2).trans s4,e2⟩
   | bk τ4=>cases e2; exact fun F4 H4 σ4 E4 s4=>q F4 H4 σ4 E4 ((s1.trans s2).trans s4)
   | rt v=>cases e2; exact q
  ·next h =>
   rw [if_neg h]
   cases e2
   exact q F2 H2 σ1 E2 (s1.trans s2)
def kY (i:Nat) (f:FE):FS:=fun τ=>match τ[i]? with
 | some (some (.own _))=>(f τ).bind fun p=>match p.2[i]? with
  | some (some (.own ts))=>if ts.length < sizeLine then some (.nx (p.2.set i (some (.own (ts ++ [p.1]))))) else none
  | _=>none
 | _=>none
end
def cW (m n:Nat) (fb:FS):List T -> Option T:=fun ts=>if ts.length=n then (fb (ts.map (fun t=>some (Sl.sh t)) ++ List.replicate (m - n) none)).bind fun r=>match r with
 | .rt t=>some t
 | .nx _=>some .non
 | _=>none else none
theorem fM {K:PySem.W.Frag} {F H:Hp} {N:List Str} {vs:List V} {ts:List T} (s:aJ F H) (r:aQ K F ts vs):aD K F H F H (start N vs) (ts.map (fun t=>some (Sl.sh t)) ++ List.replicate (N.length - ts.length) none):=by
 have hl:=r.length
 have key:∀ (i:Nat) (sl:Sl),(ts.map (fun t=>some (Sl.sh t)) ++ List.replicate (N.length - ts.length) none)[i]? = some (some sl) -> ∃ t,ts[i]? = some t /\ sl=.sh t:=fun i sl e=>by
  by_cases h:i < ts.length
  ·rw [List.getElem?_append_left (by simpa using h),List.getElem?_map,List.getElem?_eq_getElem h] at e
   simp at e
   exact ⟨ts[i],List.getElem?_eq_getElem h,e.symm⟩
  ·rw [List.getElem?_append_right (by simp; omega),List.getElem?_replicate] at e
   split at e <;> cases e
 refine ⟨br.refl s,by simp [L2.start,hl],fun i sl e=>?_,fun i j us ws p _ e1 _ _=>?_⟩
 ·obtain ⟨t,e1,rfl⟩:=key i sl e
  obtain ⟨v,g1,g2⟩:=r.get e1
  refine ⟨v,?_,g2⟩
  have hi:i < vs.length:=(List.getElem?_eq_some_iff.mp g1).1
  unfold L2.start
  rw [List.getElem?_append_left (by simpa using hi),List.getElem?_map,g1]
  rfl
 ·obtain ⟨t,_,e⟩:=key i _ e1
  cases e
section
variable {P:Program} {w:World} {K:PySem.W.Frag} {mg:Str -> Option Value} {base:Heap}
theorem bZ {x qual:Str} {st:Stmt} {f:Addr} {fd:FuncData} {N ps:List Str} {k:Nat} {fb:FS} (F:fG K x qual st f fd) (S:aS N ps (ax st)) (hb:Binds K fd ps []) (hm:mg x=some (.ref f))
  (h:∀ (cdv:Value) (A:Around) (outer:List Env) (s:Shared) (H:Hp) (E:XK),dq k (A.deeper (envOfC qual (ax st) s.heap.objs.size f cdv)) -> qZ (mW mP P w K mg base N qual (ax st) f cdv A outer s H E).nox (dy st) fb) :
  Def P w K mg base (k + 1) x ps.length (cW N.length ps.length fb):=by
 refine ⟨f,fd,ps,F.ok S (fun vs H Q E z=>z.1) (fun cdv A outer s H vs Q E hr z=>?_),hb,F.kp,hm,rfl⟩
 obtain ⟨hl,F1,ts,t,sm,r,e,q⟩:=z
 unfold cW at e
 split at e
 ·next hn =>
  obtain ⟨r',e1,e⟩:=bind_some e
  refine ⟨_,h cdv A outer s H E hr F1 H,F1,_,r',?_,e1,?_⟩
  ·have:=fM (N:=N) sm r
   rw [hn] at this
   exact this
  ·cases r' with
   | rt u=>cases e; exact fun F' H' v g r'=>q F' H' v g r'
   | nx τ=>cases e; exact fun F' H' σ' E' s'=>q F' H' .non E'.g rfl
   | bk τ=>cases e
   | ct τ=>cases e
 ·cases e
end
open PySem PySem.Spec PyProof.Rows L2
def B:Nat:=2 ^ 4000
theorem Gh {n:Nat} (h:n < B):n.log2 < 4000:=by
 rcases Nat.eq_zero_or_pos n with h0 | hp
 ·rw [h0]; decide
 ·exact (Nat.log2_lt (Nat.ne_of_gt hp)).mpr h
theorem xh {i:Int} (h:i.natAbs < B):Builtin.Int.intBits i ≤ 4000:=by
 unfold Builtin.Int.intBits
 split
 ·omega
 ·have:=Gh h
  omega
theorem J4 {i j:Int} (hi:i.natAbs < B) (hj:j.natAbs < B):IntMulOk i j:=by
 have h1:=xh hi
 have h2:=xh hj
 unfold IntMulOk
 have h3:Builtin.Int.intTooBig (Builtin.Int.intBits i + Builtin.Int.intBits j)=false:=by
  unfold Builtin.Int.intTooBig
  have hb:((bitsLine:Nat):Int)=134217728:=by decide
  rw [decide_eq_false]
  show ¬ ((Builtin.Int.intBits i:Int) + (Builtin.Int.intBits j:Int) > ((bitsLine:Nat):Int))
  rw [hb]
  omega
 rw [h3]
 simp
section
variable {X:Cx}
def gI (C:Int -> Int -> Prop) [∀ i j,Decidable (C i j)] (g:Int -> Int -> T):T -> T -> Option T:=fun a b=>match a,b with
 | .int i,.int j=>if C i j then some (g i j) else none
 | _,_=>none
theorem Hk {C:Int -> Int -> Prop} [∀ i j,Decidable (C i j)] {g:Int -> Int -> T} {i j:Int}:gI C g (.int i) (.int j)=if C i j then some (g i j) else none:=rfl
theorem zJ {f:Value -> Value -> Sem Value} {C:Int -> Int -> Prop} [∀ i j,Decidable (C i j)] {g:Int -> Int -> T} {gv:Int -> Int -> V} (h:nY X f (rI C gv)) (hg:∀ K F i j,Rep K F (g i j) (gv i j)):ot X f (gI C g):=by
 intro pins s σ H x y v u Q I rx ry ⟨F,a,b,t,sm,ra,rb,e,q⟩
 unfold gI at e
 split at e
 ·cases ra
  cases rb
  split at e
  ·next hc =>
   cases e
   exact h pins s σ H _ _ v u Q I rx ry ⟨_,_,rfl,rfl,hc,q F H _ (br.refl sm) (hg _ _ _ _)⟩
  ·cases e
 ·cases e
theorem nh {f:Value -> Value -> Sem Value} {g:Int -> Int -> T} {gv:Int -> Int -> V} (h:nY X f (Fu gv)) (hg:∀ K F i j,Rep K F (g i j) (gv i j)):ot X f (gI (fun _ _=>True) g):=
 zJ (fun pins s σ H x y v u Q I rx ry ⟨i,j,e1,e2,_,q⟩=>h pins s σ H x y v u Q I rx ry ⟨i,j,e1,e2,q⟩) hg
def Lu (g g':T -> T -> Option T):T -> T -> Option T:=fun a b=>match g a b with
 | some t=>some t
 | none=>g' a b
theorem ot.or {f:Value -> Value -> Sem Value} {g g':T -> T -> Option T} (h:ot X f g) (h':ot X f g'):ot X f (Lu g g'):=by
 intro pins s σ H x y v u Q I rx ry ⟨F,a,b,t,sm,ra,rb,e,q⟩
 unfold Lu at e
 split at e
 ·next t' e'=>cases e; exact h pins s σ H x y v u Q I rx ry ⟨F,a,b,_,sm,ra,rb,e',q⟩
 ·exact h' pins s σ H x y v u Q I rx ry ⟨F,a,b,t,sm,ra,rb,e,q⟩
def yL (i j:Int):Prop:=i.natAbs < B /\ j.natAbs < B
instance (i j:Int):Decidable (yL i j):=inferInstanceAs (Decidable (_ /\ _))
def yK (i j:Int):Prop:=j ≠ 0 /\ j.natAbs < B
instance (i j:Int):Decidable (yK i j):=inferInstanceAs (Decidable (_ /\ _))
def KH (i j:Int):Prop:=j ≠ 0
instance (i j:Int):Decidable (KH i j):=inferInstanceAs (Decidable (_ ≠ _))
instance (i j:Int):Decidable (K7 i j):=inferInstanceAs (Decidable (_ /\ _ /\ _))
abbrev sN:=gI (fun _ _=>True) fun i j=>.int (i - j)
abbrev bh:=gI yL fun i j=>.int (i * j)
abbrev cG:=gI yK fun i j=>.int (i.fdiv j)
abbrev cV:=gI KH fun i j=>.int (i.fmod j)
abbrev IL:=gI (fun _ _=>True) fun i j=>.bl (decide (i < j))
abbrev AG:=gI (fun _ _=>True) fun i j=>.bl (decide (i ≤ j))
abbrev rG:=gI (fun _ _=>True) fun i j=>.bl (decide (j < i))
abbrev Lp:=gI (fun _ _=>True) fun i j=>.bl (decide (j ≤ i))
theorem yg:ot X (binaryOp .Sub) sN:=nh HM fun _ _ _ _=>rfl
theorem bB:ot X (binaryOp .Mult) bh:=zJ (C:=yL) (gv:=fun i j=>.int (i * j)) (LI fun _ _ _ _ _ _ _ hc q=>mul_int q (J4 hc.1 hc.2)) fun _ _ _ _=>rfl
theorem cu:ot X (binaryOp .FloorDiv) cG:=zJ (C:=yK) (gv:=fun i j=>.int (i.fdiv j)) (LI fun _ _ _ _ _ _ _ hc q=>floordiv_int hc.1 q (.inl (PyProof.noPylong_of_log2 (Nat.lt_trans (Gh hc.2) (by decide:4000 < 9000))))) fun _ _ _ _=>rfl
theorem dA:ot X (binaryOp .Mod) cV:=zJ (C:=KH) (gv:=fun i j=>.int (i.fmod j)) Fb fun _ _ _ _=>rfl
theorem C6:ot X (compareOp .Lt) IL:=nh Ka fun _ _ _ _=>rfl
theorem zK:ot X (compareOp .LtE) AG:=nh J9 fun _ _ _ _=>rfl
theorem nV:ot X (compareOp .Gt) rG:=nh J8 fun _ _ _ _=>rfl
theorem Kc:ot X (compareOp .GtE) Lp:=nh J7 fun _ _ _ _=>rfl
def pw:T -> T -> Option T
 | .str x,.str y=>if x.length + y.length ≤ sizeLine then some (.str (x ++ y)) else none
 | .lst xs,.lst ys=>if xs.length + ys.length ≤ sizeLine then some (.lst (xs ++ ys)) else none
 | .tup (x :: xs),.tup (y :: ys)=>if (x :: xs).length + (y :: ys).length ≤ sizeLine then some (.tup (x :: xs ++ y :: ys)) else none
 | _,_=>none
theorem Fd:ot X (binaryOp .Add) pw:=by
 intro pins s σ H x y v u Q I rx ry ⟨F,a,b,t,sm,ra,rb,e,q⟩
 unfold pw at e
 split at e
 ·split at e
  ·next hl =>
   cases e; cases ra; cases rb
   exact yf pins s σ H _ _ v u Q I rx ry ⟨_,_,rfl,rfl,hl,q F H _ (br.refl sm) rfl⟩
  ·cases e
 ·split at e
  ·next hl =>
   cases e
   obtain ⟨p1,x1,rfl,h1,h2⟩:=ra
   obtain ⟨p2,x2,rfl,h3,h4⟩:=rb
   refine HL pins s σ H _ _ v u Q I rx ry ⟨p1,p2,x1,x2,rfl,rfl,sm _ _ h1,sm _ _ h3,by rw [h2.length,h4.length]; exact hl,fun p hp=>?_⟩
   have gr:=br.new (.lst (x1 ++ x2)) sm hp
   exact q _ _ _ gr ⟨p,_,rfl,aN,aQ.mono gr.sF (h2.append h4)⟩
  ·cases e
 ·split at e
  ·next hl =>
   cases e
   obtain ⟨p1,x1,rfl,h1,h2⟩:=ra
   obtain ⟨p2,x2,rfl,h3,h4⟩:=rb
   refine E9 pins s σ H _ _ v u Q I rx ry ⟨p1,p2,x1,x2,rfl,rfl,cg sm h1,cg sm h3,fun z=>?_,by rw [h2.length,h4.length]; exact hl,fun z=>?_,fun _ p hp=>?_⟩
   ·subst z; have:=h2.length; simp at this
   ·subst z; have:=h4.length; simp at this
   ·have gr:=br.new (.tup (x1 ++ x2)) sm hp
    exact q _ _ _ gr ⟨p,_,rfl,js.of aN,aQ.mono gr.sF (h2.append h4)⟩
  ·cases e
 ·cases e
def cF:T -> T -> Option T:=Lu (gI (fun _ _=>True) fun i j=>.int (i + j)) pw
theorem dc:ot X (binaryOp .Add) cF:=ot.or (nh HK fun _ _ _ _=>rfl) Fd
theorem iK {i j:Int}:cF (.int i) (.int j)=some (.int (i + j)):=rfl
theorem vg {xs ys:List T} (h:xs.length + ys.length ≤ sizeLine):cF (.lst xs) (.lst ys)=some (.lst (xs ++ ys)):=by
 show pw (.lst xs) (.lst ys)=_
 simp only [pw,if_pos h]
theorem Cf {x y:T} {xs ys:List T} (h:(x :: xs).length + (y :: ys).length ≤ sizeLine):cF (.tup (x :: xs)) (.tup (y :: ys))=some (.tup (x :: xs ++ y :: ys)):=by
 show pw (.tup (x :: xs)) (.tup (y :: ys))=_
 simp only [pw,if_pos h]
def xD:T -> Option T
 | .int i=>some (.int (-i))
 | _=>none
theorem DR:Mi X (unaryOp .USub) xD:=by
 intro pins s σ H x v Q I rx ⟨F,a,t,sm,ra,e,q⟩
 unfold xD at e
 split at e
 ·cases e; cases ra
  exact IE pins s σ H _ v Q I rx ⟨_,rfl,q F H _ (br.refl sm) rfl⟩
 ·cases e
mutual
def D1:T -> Option PyData
 | .non=>some .none
 | .bl b=>some (.bool b)
 | .int i=>some (.int i)
 | .str x=>some (.str x)
 | .tup ts=>(qo ts).map .tuple
 | .lst ts=>(qo ts).map .list
 | .scr ts=>(qo ts).map .list
 | .ty _=>none
 | .dic=>none
 | .obj _ _ _=>none
 | .ptr _=>none
 | .exc _=>none
def qo:List T -> Option (List PyData)
 | []=>some []
 | t :: ts=>(D1 t).bind fun d=>(qo ts).bind fun ds=>some (d :: ds)
end
mutual
theorem jP {pins:List (Addr × Obj)} {σ:L2.St} {H F:Hp} {s:Shared} (I:Inv X pins σ H s) (sm:aJ F H):∀ {t:T} {d:PyData} {v:V} {u:Value},D1 t=some d -> Rep X.K F t v -> RelV v u -> ∃ as,Reads s.heap u d as
 | .non,d,v,u,e,r,ru=>by cases r; cases e; cases ru; exact ⟨_,.none⟩
 | .bl b,d,v,u,e,r,ru=>by cases r; cases e; cases ru; exact ⟨_,.bool _⟩
 | .int i,d,v,u,e,r,ru=>by cases r; cases e; obtain ⟨t,rfl⟩:=ru; exact ⟨_,.int _ _⟩
 | .str x,d,v,u,e,r,ru=>by cases r; cases e; obtain ⟨t,rfl⟩:=ru; exact ⟨_,.str _ _⟩
 | .ty _,d,v,u,e,r,ru=>by cases e
 | .dic,d,v,u,e,r,ru=>by cases e
 | .obj _ _ _,d,v,u,e,r,ru=>by cases e
 | .ptr _,d,v,u,e,r,ru=>by cases e
 | .exc _,d,v,u,e,r,ru=>by cases e
 | .tup ts,d,v,u,e,r,ru=>by
  obtain ⟨p,xs,rfl,h1,h2⟩:=r
  cases ru
  simp only [D1] at e
  cases e1:qo ts with
  | none=>rw [e1] at e; cases e
  | some ds =>
   rw [e1] at e; cases e
   obtain ⟨its,rv,⟨o,g1,g2,n,g3⟩,_⟩:=I.tuple (cg sm h1)
   obtain ⟨as,q⟩:=ie I sm e1 h2 rv
   exact ⟨_,.tuple g1 g2 g3 q⟩
 | .lst ts,d,v,u,e,r,ru=>by
  obtain ⟨p,xs,rfl,h1,h2⟩:=r
  cases ru
  simp only [D1] at e
  cases e1:qo ts with
  | none=>rw [e1] at e; cases e
  | some ds =>
   rw [e1] at e; cases e
   obtain ⟨its,rv,⟨o,n,g1,g2,_,g3⟩,_⟩:=I.list (dE.of (sm _ _ h1))
   obtain ⟨as,q⟩:=ie I sm e1 h2 rv
   exact ⟨_,.list g1 g2 g3 q⟩
 | .scr ts,d,v,u,e,r,ru=>by
  obtain ⟨p,xs,rfl,h1,h2⟩:=r
  cases ru
  simp only [D1] at e
  cases e1:qo ts with
  | none=>rw [e1] at e; cases e
  | some ds =>
   rw [e1] at e; cases e
   obtain ⟨its,rv,⟨o,n,g1,g2,_,g3⟩,_⟩:=I.list (sm.seq h1)
   obtain ⟨as,q⟩:=ie I sm e1 h2 rv
   exact ⟨_,.list g1 g2 g3 q⟩
theorem ie {pins:List (Addr × Obj)} {σ:L2.St} {H F:Hp} {s:Shared} (I:Inv X pins σ H s) (sm:aJ F H):∀ {ts:List T} {ds:List PyData} {vs:List V} {us:List Value},qo ts=some ds -> aQ X.K F ts vs -> Vals vs us -> ∃ as,ReadsAll s.heap us ds as
 | [],ds,vs,us,e,r,ru=>by cases r; cases ru; cases e; exact ⟨_,.nil⟩
 | t :: ts,ds,vs,us,e,r,ru=>by
  obtain ⟨v,rr,rfl,h1,h2⟩:=r
  cases ru with
  | cons r1 r2 =>
   simp only [qo] at e
   obtain ⟨d,e1,e⟩:=bind_some e
   obtain ⟨ds',e2,e⟩:=bind_some e
   cases e
   obtain ⟨as,q1⟩:=jP I sm e1 h1 r1
   obtain ⟨bs,q2⟩:=ie I sm e2 h2 r2
   exact ⟨_,.cons q1 q2⟩
end
def Ep (neg:Bool) (a b:T):Option T:=(D1 a).bind fun p=>(D1 b).bind fun q=>if SeqAt.shaped p=true /\ SeqAt.shaped q=true then some (.bl (if neg then !PyData.eqv p q else PyData.eqv p q)) else none
abbrev jJ:=Ep false
abbrev lU:=Ep true
theorem jw (hu:X.A.units + 64 < cLine):ot X (compareOp .Eq) jJ:=by
 intro pins s σ H x y v u Q I rx ry ⟨F,a,b,t,sm,ra,rb,e,q⟩
 obtain ⟨d1,e1,e⟩:=bind_some e
 obtain ⟨d2,e2,e⟩:=bind_some e
 split at e
 ·next hs =>
  cases e
  obtain ⟨as,q1⟩:=jP I sm e1 ra rx
  obtain ⟨bs,q2⟩:=jP I sm e2 rb ry
  exact SeqAt.compareEq_shaped q1 q2 hs.1 hs.2 hu ⟨.bl _,H,I,rfl,q F H _ (br.refl sm) rfl⟩
 ·cases e
theorem kQ (hu:X.A.units + 64 < cLine):ot X (compareOp .NotEq) lU:=by
 intro pins s σ H x y v u Q I rx ry ⟨F,a,b,t,sm,ra,rb,e,q⟩
 obtain ⟨d1,e1,e⟩:=bind_some e
 obtain ⟨d2,e2,e⟩:=bind_some e
 split at e
 ·next hs =>
  cases e
  obtain ⟨as,q1⟩:=jP I sm e1 ra rx
  obtain ⟨bs,q2⟩:=jP I sm e2 rb ry
  exact SeqAt.compareNe_shaped q1 q2 hs.1 hs.2 hu ⟨.bl _,H,I,rfl,q F H _ (br.refl sm) rfl⟩
 ·cases e
def GG:T -> Bool
 | .non=>true
 | _=>false
def MK:T -> T -> Option T
 | a,.non=>some (.bl (GG a))
 | .bl c,.bl d=>some (.bl (c == d))
 | _,_=>none
def cn:T -> T -> Option T
 | .lst ts,.int i=>mS ts i
 | .scr ts,.int i=>mS ts i
 | .tup ts,.int i=>mS ts i
 | .str x,.int i=>if x.length ≤ sizeLine then (mS x.cps.toList i).map fun c=>.str ⟨#[c]⟩ else none
 | _,_=>none
theorem su {K:PySem.W.Frag} {F:Hp} {ts:List T} {vs:List V} {i:Int} {t:T} (r:aQ K F ts vs) (e:mS ts i=some t):∃ v,mS vs i=some v /\ Rep K F t v:=by
 unfold mS at e ⊢
 rw [r.length]
 obtain ⟨j,e1,e2⟩:=bind_some e
 obtain ⟨v,g1,g2⟩:=r.get e2
 exact ⟨v,by rw [e1]; exact g1,g2⟩
theorem bG:DU X (IQ X.K cn):=by
 intro value slice pins s σ H x y v u Q I rx ry ⟨F,a,b,t,sm,ra,rb,e,q⟩ hs
 unfold cn at e
 split at e
 ·obtain ⟨p,xs,rfl,h1,h2⟩:=ra
  cases rb
  obtain ⟨w,g1,g2⟩:=su h2 e
  exact tN value slice pins s σ H _ _ v u Q I rx ry ⟨p,xs,_,w,rfl,rfl,dE.of (sm _ _ h1),g1,q F H _ (br.refl sm) g2⟩ hs
 ·obtain ⟨p,xs,rfl,h1,h2⟩:=ra
  cases rb
  obtain ⟨w,g1,g2⟩:=su h2 e
  exact tN value slice pins s σ H _ _ v u Q I rx ry ⟨p,xs,_,w,rfl,rfl,sm.seq h1,g1,q F H _ (br.refl sm) g2⟩ hs
 ·obtain ⟨p,xs,rfl,h1,h2⟩:=ra
  cases rb
  obtain ⟨w,g1,g2⟩:=su h2 e
  exact CA value slice pins s σ H _ _ v u Q I rx ry ⟨p,xs,_,w,rfl,rfl,cg sm h1,g1,q F H _ (br.refl sm) g2⟩ hs
 ·split at e
  ·next hl =>
   cases ra; cases rb
   cases e1:mS (Str.cps _).toList _ with
   | none=>rw [e1] at e; cases e
   | some c =>
    rw [e1] at e; cases e
    exact Hv value slice pins s σ H _ _ v u Q I rx ry ⟨_,_,c,rfl,rfl,hl,e1,q F H _ (br.refl sm) rfl⟩ hs
  ·cases e
 ·cases e
theorem lY {f:Value} {r:List V -> Hp -> VK -> Prop} {g:List T -> Option T} (h:gW X f r) (i:∀ vs H Q,K0 X.K g vs H Q -> r vs H Q):kJ X f g:=fun pins s σ H xs us Q I rx q=>h pins s σ H xs us Q I rx (i _ _ _ q)
def bY:List T -> Option T
 | [.lst ts]=>some (.int ts.length)
 | [.scr ts]=>some (.int ts.length)
 | [.tup ts]=>some (.int ts.length)
 | [.str x]=>if x.length ≤ sizeLine then some (.int x.length) else none
 | _=>none
theorem cS:kJ X (.builtin "len") bY:=lY (gW.or sx sy) fun vs H Q hq__=>by
 obtain ⟨F,ts,t,sm,r,e,q⟩:=hq__
 unfold bY at e
 split at e
 ·obtain ⟨v,rr,rfl,⟨p,xs,rfl,h1,h2⟩,rfl⟩:=r
  cases e
  exact .inl ⟨p,xs,rfl,.inl (dE.of (sm _ _ h1)),by rw [h2.length]; exact q F H _ (br.refl sm) rfl⟩
 ·obtain ⟨v,rr,rfl,⟨p,xs,rfl,h1,h2⟩,rfl⟩:=r
  cases e
  exact .inl ⟨p,xs,rfl,.inl (sm.seq h1),by rw [h2.length]; exact q F H _ (br.refl sm) rfl⟩
 ·obtain ⟨v,rr,rfl,⟨p,xs,rfl,h1,h2⟩,rfl⟩:=r
  cases e
  exact .inl ⟨p,xs,rfl,.inr (cg sm h1),by rw [h2.length]; exact q F H _ (br.refl sm) rfl⟩
 ·split at e
  ·next hl =>
   obtain ⟨v,rr,rfl,h1,rfl⟩:=r
   cases h1; cases e
   exact .inr ⟨_,rfl,hl,q F H _ (br.refl sm) rfl⟩
  ·cases e
 ·cases e
def mX:List T -> Option T
 | [.int i]=>some (.int (if i < 0 then -i else i))
 | _=>none
theorem pe:kJ X (.builtin "abs") mX:=lY BF fun vs H Q hq__=>by
 obtain ⟨F,ts,t,sm,r,e,q⟩:=hq__
 unfold mX at e
 split at e
 ·obtain ⟨v,rr,rfl,h1,rfl⟩:=r
  cases h1; cases e
  exact ⟨_,rfl,q F H _ (br.refl sm) rfl⟩
 ·cases e
def Ll:List T -> Option T
 | [.int i,.int j]=>some (.int (if j > i then j else i))
 | _=>none
def Lm:List T -> Option T
 | [.int i,.int j]=>some (.int (if j < i then j else i))
 | _=>none
def dList:List T -> Option T
 | [.lst ts]=>some (.lst ts)
 | [.scr ts]=>some (.lst ts)
 | [.tup ts]=>some (.lst ts)
 | _=>none
theorem oy:kJ X (.type "list") dList:=lY ja fun vs H Q hq__=>by
 obtain ⟨F,ts,t,sm,r,e,q⟩:=hq__
 unfold dList at e
 split at e
 ·obtain ⟨v,rr,rfl,⟨p,xs,rfl,h1,h2⟩,rfl⟩:=r
  cases e
  refine ⟨p,xs,rfl,.inl (dE.of (sm _ _ h1)),fun l hl=>?_⟩
  have gr:=br.new (.lst xs) sm hl
  exact q _ _ _ gr ⟨l,xs,rfl,aN,aQ.mono gr.sF h2⟩
 ·obtain ⟨v,rr,rfl,⟨p,xs,rfl,h1,h2⟩,rfl⟩:=r
  cases e
  refine ⟨p,xs,rfl,.inl (sm.seq h1),fun l hl=>?_⟩
  have gr:=br.new (.lst xs) sm hl
  exact q _ _ _ gr ⟨l,xs,rfl,aN,aQ.mono gr.sF h2⟩
 ·obtain ⟨v,rr,rfl,⟨p,xs,rfl,h1,h2⟩,rfl⟩:=r
  cases e
  refine ⟨p,xs,rfl,.inr (cg sm h1),fun l hl=>?_⟩
  have gr:=br.new (.lst xs) sm hl
  exact q _ _ _ gr ⟨l,xs,rfl,aN,aQ.mono gr.sF h2⟩
 ·cases e
def IS:T -> Option String
 | .non=>some "NoneType"
 | .bl _=>some "bool"
 | .int _=>some "int"
 | .str _=>some "str"
 | .tup _=>some "tuple"
 | .lst _=>some "list"
 | .scr _=>some "list"
 | .dic=>some "dict"
 | .obj _ _ _=>none
 | .ptr _=>none
 | .exc _=>none
 | .ty _=>none
def kinds:List String:=["int", "bool", "str", "list", "tuple", "dict"]
def KS (a c:String):Option Bool:=if c ∈ kinds then some (a == c || (a == "bool" && c == "int")) else none
def Hs (a:String):List T -> Option Bool
 | []=>some false
 | .ty c :: r=>(KS a c).bind fun b=>if b=true then some true else Hs a r
 | _ :: _=>none
theorem CD {K:PySem.W.Frag} {t:T} {a c:String} {b:Bool} (ha:IS t=some a) (h:KS a c=some b):PySem.W.kitOne K (.type a) (.type c)=some b:=by
 have ha:a ∈ ["NoneType", "bool", "int", "str", "tuple", "list", "dict"]:=by
  cases t <;> simp only [IS] at ha <;> cases ha <;> simp
 unfold KS at h
 split at h
 ·next hc =>
  cases h
  simp only [kinds,List.mem_cons,List.not_mem_nil,or_false] at hc ha
  rcases ha with rfl | rfl | rfl | rfl | rfl | rfl | rfl <;> rcases hc with rfl | rfl | rfl | rfl | rfl | rfl <;> rfl
 ·cases h
theorem zC {K:PySem.W.Frag} {F:Hp} {t:T} {a:String} (ha:IS t=some a):∀ {cs:List T} {vs:List V} {us:List Value} {b:Bool},Hs a cs=some b -> aQ K F cs vs -> Vals vs us -> PySem.W.kitAny K (.type a) us=some b
 | [],vs,us,b,h,r,ru=>by cases r; cases ru; cases h; rfl
 | .ty c :: cs,vs,us,b,h,r,ru=>by
  obtain ⟨v,rr,rfl,h1,h2⟩:=r
  cases h1
  cases ru with
  | cons r1 r2 =>
   cases r1
   obtain ⟨b',e1,h⟩:=bind_some h
   unfold PySem.W.kitAny
   rw [CD ha e1]
   cases b' with
   | true=>rw [if_pos rfl] at h; exact h
   | false=>rw [if_neg (by decide)] at h; exact zC ha h h2 r2
 | .non :: cs,vs,us,b,h,r,ru=>by cases h
 | .bl _ :: cs,vs,us,b,h,r,ru=>by cases h
 | .int _ :: cs,vs,us,b,h,r,ru=>by cases h
 | .str _ :: cs,vs,us,b,h,r,ru=>by cases h
 | .tup _ :: cs,vs,us,b,h,r,ru=>by cases h
 | .lst _ :: cs,vs,us,b,h,r,ru=>by cases h
 | .scr _ :: cs,vs,us,b,h,r,ru=>by cases h
 | .dic :: cs,vs,us,b,h,r,ru=>by cases h
 | .obj _ _ _ :: cs,vs,us,b,h,r,ru=>by cases h
 | .ptr _ :: cs,vs,us,b,h,r,ru=>by cases h
 | .exc _ :: cs,vs,us,b,h,r,ru=>by cases h
theorem vI {pins:List (Addr × Obj)} {σ:L2.St} {H F:Hp} {s:Shared} {t:T} {v:V} {u:Value} {a:String} (I:Inv X pins σ H s) (sm:aJ F H) (r:Rep X.K F t v) (ru:RelV v u) (ha:IS t=some a) :
  ∃ Hh:Heap -> Prop,PySem.W.KitX X.K u (.type a) Hh /\ Hh s.heap /\ u ≠ .builtin "__main__.__loader__#opaque" := by
 cases t with
 | non=>cases r; cases ru; cases ha; exact ⟨_,PySem.W.kitx_none,True.intro,fun z=>nomatch z⟩
 | bl _=>cases r; cases ru; cases ha; exact ⟨_,PySem.W.kitx_bool,True.intro,fun z=>nomatch z⟩
 | int _=>cases r; obtain ⟨t,rfl⟩:=ru; cases ha; exact ⟨_,PySem.W.kitx_int,True.intro,fun z=>nomatch z⟩
 | str _=>cases r; obtain ⟨t,rfl⟩:=ru; cases ha; exact ⟨_,PySem.W.kitx_str,True.intro,fun z=>nomatch z⟩
 | ty _=>cases ha
 | tup _ =>
  obtain ⟨p,xs,rfl,h1,h2⟩:=r
  cases ru; cases ha
  obtain ⟨its,rv,⟨o,g1,g2,n,g3⟩,_⟩:=I.tuple (cg sm h1)
  exact ⟨_,PySem.W.kitx_tuple,⟨o,g1,g2⟩,fun z=>nomatch z⟩
 | lst _ =>
  obtain ⟨p,xs,rfl,h1,h2⟩:=r
  cases ru; cases ha
  obtain ⟨its,rv,⟨o,n,g1,g2,_,g3⟩,_⟩:=I.list (dE.of (sm _ _ h1))
  exact ⟨_,PySem.W.kitx_list,⟨o,g1,g2⟩,fun z=>nomatch z⟩
 | scr _ =>
  obtain ⟨p,xs,rfl,h1,h2⟩:=r
  cases ru; cases ha
  obtain ⟨its,rv,⟨o,n,g1,g2,_,g3⟩,_⟩:=I.list (sm.seq h1)
  exact ⟨_,PySem.W.kitx_list,⟨o,g1,g2⟩,fun z=>nomatch z⟩
 | dic =>
  obtain ⟨p,rfl,h1⟩:=r
  cases ru; cases ha
  obtain ⟨_,_,vs,_,o,es,ep,h1,h2,_⟩:=(show fH X.prog X.w H s.heap p (.dK []) from I.hok p _ (sm _ _ h1))
  exact ⟨_,PySem.W.kitx_dict,⟨o,h1,h2.1⟩,fun z=>nomatch z⟩
 | obj _ _ _=>cases ha
 | ptr _=>cases ha
 | exc _=>cases ha
def bj:List T -> Option T
 | [t,.ty c]=>(IS t).bind fun a=>(KS a c).bind fun b=>some (.bl b)
 | [t,.tup cs]=>(IS t).bind fun a=>(Hs a cs).bind fun b=>some (.bl b)
 | _=>none
theorem eM:kJ X (.builtin "isinstance") bj:=by
 intro pins s σ H xs us Q I rx ⟨F,ts,t,sm,r,e,q⟩
 unfold bj at e
 split at e
 ·obtain ⟨a,e1,e⟩:=bind_some e
  obtain ⟨b,e2,e⟩:=bind_some e
  cases e
  obtain ⟨v,rr,rfl,h1,v2,r2,rfl,h2,rfl⟩:=r
  cases h2
  obtain ⟨u1,u2,rfl,ra,rb⟩:=Vals.two rx
  cases rb
  obtain ⟨Hh,Z,hh,hn⟩:=vI I sm h1 ra e1
  exact PySem.W.kia_one Z I.kIn hh (CD e1 e2) hn fun tk=>⟨.bl b,H,I.tok tk,rfl,q F H _ (br.refl sm) rfl⟩
 ·obtain ⟨a,e1,e⟩:=bind_some e
  obtain ⟨b,e2,e⟩:=bind_some e
  cases e
  obtain ⟨v,rr,rfl,h1,v2,r2,rfl,⟨p,xs,rfl,h3,h4⟩,rfl⟩:=r
  obtain ⟨u1,u2,rfl,ra,rb⟩:=Vals.two rx
  cases rb
  obtain ⟨Hh,Z,hh,hn⟩:=vI I sm h1 ra e1
  obtain ⟨its,rv,⟨o,g1,g2,n,g3⟩,_⟩:=I.tuple (cg sm h3)
  obtain ⟨oc,od,odt,osl⟩:=o
  dsimp only at g2 g3
  subst g2 g3
  exact PySem.W.kia_tup Z I.kIn hh g1 (zC e1 e2 h4 rv) hn fun tk=>⟨.bl b,H,I.tok tk,rfl,q F H _ (br.refl sm) rfl⟩
 ·cases e
end
open PySem PySem.Spec PyProof.Rows L2
section
variable {X:Cx} {pos:Pos}
def Ln:FE:=fun τ=>some (.dic,τ)
abbrev FO:=aB -> Option (Option Int × aB)
def tO (K:PySem.W.Frag) (F₀ H₀:Hp) (f:FO):TO:=fun σ H Q=>∃ F τ o τ',aD K F₀ H₀ F H σ τ /\ f τ=some (o,τ') /\ ∀ F' H',aD K F₀ H₀ F' H' σ τ' -> aJ F F' -> Q o H'
def SO (X:Cx) (e:Option Expr) (f:FO):Prop:=∀ F₀ H₀,PO X e (tO X.K F₀ H₀ f)
def kq:FO:=fun τ=>some (none,τ)
def gc (f:FE):FO:=fun τ=>(f τ).bind fun p=>match p.1 with | .int i=>some (some i,p.2) | _=>none
theorem PO.weak {e:Option Expr} {t t':TO} (h:PO X e t) (i:∀ σ H Q,t' σ H Q -> t σ H Q):PO X e t':=fun pins s σ H Q I q=>h pins s σ H Q I (i σ H Q q)
theorem uE:SO X none kq:=fun F₀ H₀=>PO.weak Fj fun σ H Q hq__=>by
 obtain ⟨F,τ,t,τ',E,e1,q⟩:=hq__
 cases e1
 exact q F H E (aJ.refl _)
theorem jn {e:Expr} {f:FE} (h:SE X e f):SO X (some e) (gc f):=fun F₀ H₀=>PO.weak (Fl (h F₀ H₀)) fun σ H Q hq__=>by
 obtain ⟨F,τ,t,τ',E,e1,q⟩:=hq__
 obtain ⟨⟨x,τ1⟩,e2,e1⟩:=bind_some e1
 dsimp only at e1
 split at e1
 ·cases e1
  exact ⟨F,τ,_,_,E,e2,fun F' H' v E' s' r'=>by cases r'; exact ⟨_,rfl,q F' H' E' s'⟩⟩
 ·cases e1
def kU (xs:List T) (lo hi:Option Int):List T:=(xs.drop (HT.fB xs.length 0 lo)).take (HT.fB xs.length xs.length hi - HT.fB xs.length 0 lo)
def IM (t:T) (lo hi:Option Int):Option T:=match t with
 | .lst xs=>some (.lst (kU xs lo hi))
 | .scr xs=>some (.lst (kU xs lo hi))
 | .tup xs=>if HT.fB xs.length 0 lo=0 /\ HT.fB xs.length xs.length hi=xs.length then none else some (.tup (kU xs lo hi))
 | _=>none
theorem oz {K:PySem.W.Frag} {F:Hp} {ts:List T} {vs:List V} (r:aQ K F ts vs) (lo hi:Option Int):aQ K F (kU ts lo hi) (pf vs lo hi):=by
 unfold kU pf
 rw [r.length]
 exact (r.drop _).take _
def DX (f:FE) (fl fh:FO):FE:=fun τ=>(f τ).bind fun p=>(fl p.2).bind fun q=>(fh q.2).bind fun r=>(IM p.1 q.1 r.1).bind fun t=>some (t,r.2)
theorem mI {e:Expr} {lo hi:Option Expr} {f:FE} {fl fh:FO} {p2:Pos} (he:SE X e f) (hl:SO X lo fl) (hh:SO X hi fh):SE X (.Subscript e (.Slice lo hi none p2) pos) (DX f fl fh):=
 fun F₀ H₀=>PE.weak (wk (Gp.or z9 Ip) (he F₀ H₀) (hl F₀ H₀) (hh F₀ H₀)) fun σ H Q hq__=>by
  obtain ⟨F,τ,t,τ',E,e1,q⟩:=hq__
  obtain ⟨⟨x,τ1⟩,e2,e1⟩:=bind_some e1
  obtain ⟨⟨l,τ2⟩,e3,e1⟩:=bind_some e1
  obtain ⟨⟨h,τ3⟩,e4,e1⟩:=bind_some e1
  obtain ⟨y,e5,e1⟩:=bind_some e1
  cases e1
  refine ⟨F,τ,x,τ1,E,e2,fun F1 H1 v E1 s1 r1=>⟨F1,τ1,l,τ2,E1,e3,fun F2 H2 E2 s2=>⟨F2,τ2,h,_,E2,e4,fun F3 H3 E3 s3=>?_⟩⟩⟩
  have r3:=Rep.mono (s2.trans s3) r1
  have sm:=E3.g.fh
  dsimp only at e5
  unfold IM at e5
  split at e5
  ·cases e5
   obtain ⟨p,xs,rfl,h1,h2⟩:=r3
   refine .inl ⟨p,xs,rfl,dE.of (sm _ _ h1),fun a ha=>?_⟩
   have gr:=br.new (.lst (pf xs l h)) sm ha
   exact q _ _ _ (E3.grow gr) (((s1.trans s2).trans s3).trans gr.sF) ⟨a,_,rfl,aN,aQ.mono gr.sF (oz h2 l h)⟩
  ·cases e5
   obtain ⟨p,xs,rfl,h1,h2⟩:=r3
   refine .inl ⟨p,xs,rfl,sm.seq h1,fun a ha=>?_⟩
   have gr:=br.new (.lst (pf xs l h)) sm ha
   exact q _ _ _ (E3.grow gr) (((s1.trans s2).trans s3).trans gr.sF) ⟨a,_,rfl,aN,aQ.mono gr.sF (oz h2 l h)⟩
  ·split at e5
   ·cases e5
   ·next hn =>
    cases e5
    obtain ⟨p,xs,rfl,h1,h2⟩:=r3
    refine .inr ⟨p,xs,rfl,cg sm h1,by rw [h2.length]; exact hn,fun a ha=>?_⟩
    have gr:=br.new (.tup (pf xs l h)) sm ha
    exact q _ _ _ (E3.grow gr) (((s1.trans s2).trans s3).trans gr.sF) ⟨a,_,rfl,js.of aN,aQ.mono gr.sF (oz h2 l h)⟩
  ·cases e5
theorem nE (i:Nat) {x:Str} {p1 p2 p3:Pos} {e:Expr} {f:FE} (hv:PE X (.Name x p1) (fF i)) (he:SE X e f)
  (hbase:attributeBase (.Name x p1) "append" X.env (eval (.Name x p1) X.env)=eval (.Name x p1) X.env:=by rfl)
  (hfew:((backTo p3 (starEach [e] X.env)).all (fun x=>!x.1) && (backToKw p3 (keywordEach [] X.env)).all (fun x=>x.1.isSome) && decide ([e].length + ([]:List Keyword).length + (if ([]:List Keyword).isEmpty then 0 else 1) < 30))=true:=by rfl)
  (hline:(p2.endLine == p3.line)=true:=by rfl) (hs:starEach [e] X.env=(false,eval e X.env) :: starEach [] X.env:=by rfl) (hpl:(backTo p3 (starEach [] X.env)).any (·.1)=false:=by rfl)
  (hsw:swapsWith (.Call (.Attribute (.Name x p1) "append" p2) [e] [] p3) none pos.line X.env=pure false:=by rfl) :
  SS X (.Expr (.Call (.Attribute (.Name x p1) "append" p2) [e] [] p3) pos) (kY i f):=fun F₀ H₀ =>
 PS.weak (jh (zM PySem.F.plainAttrs_list PySem.F.slot_list_append PySem.F.type_list_append gx hv (cN (he F₀ H₀) fv hs) hbase hfew hline hs hpl) hsw) fun D σ H hq__=>by
  obtain ⟨F,τ,r,E,e1,q⟩:=hq__
  unfold kY at e1
  split at e1
  ·next ts0 h0 =>
   obtain ⟨⟨t,τ1⟩,e2,e1⟩:=bind_some e1
   dsimp only at e1
   split at e1
   ·next ts h1 =>
    split at e1
    ·next hz =>
     cases e1
     obtain ⟨v,g1,p,vs,rfl,g2,g3,g4,g5⟩:=E.sl i _ h0
     refine ⟨_,g1,.inl ⟨rfl,vs,dE.of g2⟩,F,τ,t,τ1,E,e2,fun F' H' w E' s' r'=>?_⟩
     obtain ⟨v',k1,p',vs',rfl,k2,k3,k4,k5⟩:=E'.sl i _ h1
     rw [g1] at k1; cases k1
     exact ⟨p,vs',w,rfl,rfl,k2,by rw [k5.length]; exact hz,q F' _ σ (E'.turnOwn h1 g1 (k5.append (.one r'))) s'⟩
    ·cases e1
   ·cases e1
  ·cases e1
def Ir (a b c:Int):Prop:=(0 ≤ a /\ a < 2 ^ 62) /\ (0 ≤ b /\ b < 2 ^ 62) /\ (1 ≤ c /\ c < 2 ^ 29)
instance (a b c:Int):Decidable (Ir a b c):=inferInstanceAs (Decidable ((_ /\ _) /\ (_ /\ _) /\ _ /\ _))
end
open PySem PySem.Spec PyProof.Rows L2
def fJ (b:Bool) (h:Heap) (it a:Addr) (i:Nat):Prop:=match b with
 | true=>h.IsListIter it a i
 | false=>h.IsTupleIter it a i
def iU (b:Bool) (h:Heap) (a:Addr) (xs:Array Value):Prop:=match b with
 | true=>h.IsList a xs
 | false=>h.IsTuple a xs
theorem fJ.ext {b:Bool} {h h':Heap} {it a:Addr} {i:Nat} (x:fJ b h it a i) (k:∀ o,h.get? it=some o -> h'.get? it=some o):fJ b h' it a i:=by
 cases b with
 | true=>obtain ⟨o,e,r⟩:=x; exact ⟨o,k o e,r⟩
 | false=>obtain ⟨o,e,r⟩:=x; exact ⟨o,k o e,r⟩
theorem iU.ext {b:Bool} {h h':Heap} {a:Addr} {xs:Array Value} (x:iU b h a xs) (k:∀ o,h.get? a=some o -> h'.get? a=some o):iU b h' a xs:=by
 cases b with
 | true=>obtain ⟨o,e,r⟩:=x; exact ⟨o,k o e,r⟩
 | false=>obtain ⟨o,e,r⟩:=x; exact ⟨o,k o e,r⟩
theorem fJ.obj {b:Bool} {h:Heap} {it a:Addr} {i:Nat} (x:fJ b h it a i):∃ o,h.get? it=some o /\ ∀ v,o.data ≠ .cell v:=by
 cases b with
 | true=>obtain ⟨o,e,_,d⟩:=x; exact ⟨o,e,fun v z=>by rw [d] at z; cases z⟩
 | false=>obtain ⟨o,e,_,d⟩:=x; exact ⟨o,e,fun v z=>by rw [d] at z; cases z⟩
section
variable {prog:Program} {w:World} {A:Around} {E:Value -> Shared -> Prop} {s:Shared}
theorem jN {b:Bool} {it a:Addr} {i:Nat} {xs:Array Value} {x:Value} {Q:Value -> Shared -> Prop} (h1:fJ b s.heap it a i) (h2:iU b s.heap a xs) (hx:xs[i]? = some x)
  (hQ:∀ h',fJ b h' it a (i + 1) -> Heap.SameBut it s.heap h' -> Q x { s with heap:=h' }):wpAny (model prog w) A (Builtin.SmallTypes.nextOf (.ref it)) Q E s:=by
 cases b with
 | true=>exact wpAny_nextOf_list_item h1 h2 hx hQ
 | false =>
  have h1':s.heap.IsTupleIter it a i:=h1
  obtain ⟨o,ho,hc,hd⟩:=id h1'
  obtain ⟨ol,hol,_,nl,hdl⟩:=(show s.heap.IsTuple a xs from h2)
  unfold Builtin.SmallTypes.nextOf
  refine wpAny_bind (wpAny_callSpecial?_slot (name:=Str.ofString "__next__") h1'.typeIs F.slot_tuple_iterator_next (wpAny_call_entry F.slot_tuple_iterator_next h1'.typeIs F.entry_tuple_iterator_next (?_:wpAny _ _ (field (.ref it) 0 >>= _) _ _ s) (F.args_tuple_iterator_next_1 _)))
  refine wpAny_bind (wpAny_field ho hd (x:=.ref a) rfl (?_:wpAny _ _ (if (Value.ref a == Value.none)=true then _ else _) _ _ s))
  rw [if_neg (show ¬ ((Value.ref a == Value.none)=true) from Bool.false_ne_true)]
  refine (wpAny_bind (wpAny_field ho hd (x:=.int i 0) rfl ?_):wpAny _ _ (field (.ref it) 1 >>= _) _ _ s)
  refine wpAny_bind (wpAny_seqItems (a:=a) hol hdl ?_)
  simp only [Int.toNat_natCast,hx]
  refine wpAny_bind (wpAny_setField ho hd (by simp) (wpAny_pure ⟨x,rfl,wpAny_pure (hQ _ ⟨_,Heap.get?_update_self _ ho (Obj.isFreed_of_fields (Obj.data_mapFields hd _)),(Obj.cls_mapFields ..).trans hc,?_⟩ (Heap.SameBut.update ..))⟩))
  rw [Obj.data_mapFields hd] <;> simp [rawInt]
theorem pQ {b:Bool} {it a:Addr} {i:Nat} {xs:Array Value} {Q:Value -> Shared -> Prop} (hh:A.handled=none) (h1:fJ b s.heap it a i) (h2:iU b s.heap a xs) (hx:xs[i]? = none)
  (hE:∀ h' e,Heap.ExtBut it s.heap h' -> (∃ o,h'.get? e=some o /\ o.cls=.type "StopIteration") -> E (.ref e) { s with heap:=h' }):wpAny (model prog w) A (Builtin.SmallTypes.nextOf (.ref it)) Q E s:=by
 cases b with
 | true=>exact wpAny_nextOf_list_end hh h1 h2 hx hE
 | false =>
  have h1':s.heap.IsTupleIter it a i:=h1
  obtain ⟨o,ho,hc,hd⟩:=id h1'
  obtain ⟨ol,hol,_,nl,hdl⟩:=(show s.heap.IsTuple a xs from h2)
  unfold Builtin.SmallTypes.nextOf
  refine wpAny_bind (wpAny_callSpecial?_slot (name:=Str.ofString "__next__") h1'.typeIs F.slot_tuple_iterator_next (wpAny_call_entry F.slot_tuple_iterator_next h1'.typeIs F.entry_tuple_iterator_next (?_:wpAny _ _ (field (.ref it) 0 >>= _) _ _ s) (F.args_tuple_iterator_next_1 _)))
  refine wpAny_bind (wpAny_field ho hd (x:=.ref a) rfl (?_:wpAny _ _ (if (Value.ref a == Value.none)=true then _ else _) _ _ s))
  rw [if_neg (show ¬ ((Value.ref a == Value.none)=true) from Bool.false_ne_true)]
  refine (wpAny_bind (wpAny_field ho hd (x:=.int i 0) rfl ?_):wpAny _ _ (field (.ref it) 1 >>= _) _ _ s)
  refine wpAny_bind (wpAny_seqItems (a:=a) hol hdl ?_)
  simp only [Int.toNat_natCast,hx]
  refine wpAny_bind (wpAny_rule (wpAny_bind (wpAny_setField ho hd (by simp) (wpAny_bind (m:=newExc (.type "StopIteration") []) ?_))))
  simp only [newExc,newTuple]
  refine wpAny_bind (wpAny_newObj_type (wpAny_bind (m:=firstArgMember _ _) (wpAny_of_eq (a:=Value.none) (by first | rfl | (simp only [firstArgMember]; rfl)) (wpAny_newObj_type ?_ (by size_fits)))) (by size_fits))
  simp only [raiseNew]
  refine wpAny_bind (wpAny_handled ?_)
  first | rw [show A.in1.handled=none from hh] | rw [hh]
  exact wpAny_bind (wpAny_pure (wpAny_throw (hE _ _ (((Heap.SameBut.update ..).extBut.push _).push _) ⟨_,Heap.get?_push_size _ rfl,rfl⟩)))
variable {z TI TO i1 i2 l1 l2:Addr} {k:Nat} {xs ys:Array Value} {x y a b:Value} {c1 c2:Bool}
theorem DT {Q:Value -> Shared -> Prop} (D:ZipApart z TI TO i1 i2 l1 l2) (hz:IsZip s.heap z TI TO .none) (hI:IsPair s.heap TI (.ref i1) (.ref i2)) (hO:IsPair s.heap TO a b)
  (h1:fJ c1 s.heap i1 l1 k) (h2:fJ c2 s.heap i2 l2 k) (g1:iU c1 s.heap l1 xs) (g2:iU c2 s.heap l2 ys) (hx:xs[k]? = some x) (hy:ys[k]? = some y)
  (hQ:∀ h',IsZip h' z TI TO (rawInt s.heap.objs.size) -> IsPair h' TO x y -> fJ c1 h' i1 l1 (k + 1) -> fJ c2 h' i2 l2 (k + 1) -> IsPair h' s.heap.objs.size x y ->
   (∀ c o,c ≠ z -> c ≠ TO -> c ≠ i1 -> c ≠ i2 -> s.heap.get? c=some o -> h'.get? c=some o) -> Q (.ref s.heap.objs.size) { s with heap:=h' }) :
  wpAny (model prog w) A (Builtin.«zip.__next__» ⟨[.ref z],[]⟩) (fun fin s'=>∃ v,fin=.done (.ret v) /\ Q v s') E s:=by
 refine (wpAny_bind (wpAny_field hz rfl (x:=.bool false) rfl ?_):wpAny _ _ (field (.ref z) 2 >>= _) _ _ _)
 refine (wpAny_bind (wpAny_field hz rfl (x:=.ref TI) rfl ?_):wpAny _ _ (field (.ref z) 3 >>= _) _ _ _)
 refine wpAny_bind (wpAny_seqItems hI rfl ?_)
 refine (wpAny_bind ?_:wpAny _ _ (Builtin.SmallTypes.ownedTupleIsFree (.ref z) >>= _) _ _ _)
 unfold Builtin.SmallTypes.ownedTupleIsFree
 refine wpAny_bind (wpAny_field hz rfl (x:=.none) rfl (wpAny_pure ?_))
 simp only [if_true]
 refine wpAny_bind (wpAny_rule (wpAny_bind (wpAny_field hz rfl (x:=.ref TO) rfl (wpAny_bind (wpAny_setField_rec hz (by simp) fun ha za sa=>?_)))))
 replace za:IsZip ha z TI TO .ellipsis:=za
 refine wpAny_bind ?_
 simp only [List.zipIdx_cons,List.zipIdx_nil,List.forIn_cons,List.forIn_nil]
 refine wpAny_bind (wpAny_bind (wpAny_onRaise (?_:wpAny _ _ (Builtin.SmallTypes.nextOf (.ref i1) >>= _) _ _ _)))
 refine wpAny_bind (jN (h1.ext fun o e=>sa.extBut _ _ D.i1z e) (g1.ext fun o e=>sa.extBut _ _ D.l1z e) hx fun hb kb sb=>wpAny_pure ?_)
 have Ob:IsPair hb TO a b:=sb.extBut _ _ D.TOi1 (sa.extBut _ _ D.TOz hO)
 refine wpAny_bind (wpAny_seqItems Ob rfl (wpAny_bind (wpAny_updateSeq_pair Ob fun hc Oc sc=>wpAny_bind (wpAny_letGo (wpAny_pure ?_)))))
 replace Oc:IsPair hc TO x b:=Oc
 refine wpAny_bind (wpAny_bind (wpAny_onRaise (?_:wpAny _ _ (Builtin.SmallTypes.nextOf (.ref i2) >>= _) _ _ _)))
 refine wpAny_bind (jN (h2.ext fun o e=>sc.extBut _ _ D.TOi2.symm (sb.extBut _ _ D.i12.symm (sa.extBut _ _ D.i2z e))) (g2.ext fun o e=>sc.extBut _ _ D.l2TO (sb.extBut _ _ D.l2i1 (sa.extBut _ _ D.l2z e))) hy fun hd kd sd=>wpAny_pure ?_)
 have Od:IsPair hd TO x b:=sd.extBut _ _ D.TOi2 Oc
 refine wpAny_bind (wpAny_seqItems Od rfl (wpAny_bind (wpAny_updateSeq_pair Od fun he Oe se=>wpAny_bind (wpAny_letGo (wpAny_pure (wpAny_pure ?_))))))
 replace Oe:IsPair he TO x y:=Oe
 refine wpAny_bind (wpAny_seqItems Oe rfl (wpAny_bind (wpAny_newTuple ?_)))
 have ez:he.objs.size=s.heap.objs.size:=by rw [se.1,sd.1,sc.1,sb.1,sa.1]
 have ze:IsZip he z TI TO .ellipsis:=se.extBut _ _ D.TOz.symm (sd.extBut _ _ D.i2z.symm (sc.extBut _ _ D.TOz.symm (sb.extBut _ _ D.i1z.symm za)))
 have ke:∀ c o,c ≠ z -> c ≠ TO -> c ≠ i1 -> c ≠ i2 -> s.heap.get? c=some o -> he.get? c=some o:=fun c o n1 n2 n3 n4 e=>se.extBut _ _ n2 (sd.extBut _ _ n4 (sc.extBut _ _ n2 (sb.extBut _ _ n3 (sa.extBut _ _ n1 e))))
 have i1e:fJ c1 he i1 l1 (k + 1):=kb.ext fun o e=>se.extBut _ _ D.TOi1.symm (sd.extBut _ _ D.i12 (sc.extBut _ _ D.TOi1.symm e))
 have i2e:fJ c2 he i2 l2 (k + 1):=kd.ext fun o e=>se.extBut _ _ D.TOi2.symm e
 have zlt:z < he.objs.size:=Heap.lt_size ze
 refine (wpAny_bind ?_:wpAny _ _ (Builtin.SmallTypes.ownedTupleHandOut (.ref z) (.ref he.objs.size) >>= _) _ _ _)
 unfold Builtin.SmallTypes.ownedTupleHandOut
 have zf:IsZip (he.push { cls:=.type "tuple", data:=.seq #[x,y] }) z TI TO .ellipsis:=Heap.get?_push_of_some _ ze
 refine wpAny_bind (wpAny_setField_rec zf (by simp) fun hg zg sg=>?_)
 replace zg:IsZip hg z TI TO (rawInt he.objs.size):=zg
 refine wpAny_setField_rec zg (by simp) fun hh zh sh=>?_
 replace zh:IsZip hh z TI TO (rawInt he.objs.size):=zh
 have up:∀ c o,c ≠ z -> he.get? c=some o -> hh.get? c=some o:=fun c o n e=>sh.extBut _ _ n (sg.extBut _ _ n (Heap.get?_push_of_some _ e))
 have tp:IsPair hh he.objs.size x y:=sh.extBut _ _ (Nat.ne_of_gt zlt) (sg.extBut _ _ (Nat.ne_of_gt zlt) (Heap.get?_push_size _ rfl))
 rw [ez] at zh tp
 refine wpAny_pure ⟨_,rfl,(?_:Q (.ref he.objs.size) _)⟩
 rw [ez]
 exact hQ hh zh (up _ _ D.TOz Oe) (i1e.ext fun o e=>up _ o D.i1z e) (i2e.ext fun o e=>up _ o D.i2z e) tp fun c o n1 n2 n3 n4 e=>up c o n1 (ke c o n1 n2 n3 n4 e)
theorem Gf {Q:Fin -> Shared -> Prop} (hh:A.handled=none) (D:ZipApart z TI TO i1 i2 l1 l2) (hz:IsZip s.heap z TI TO .none) (hI:IsPair s.heap TI (.ref i1) (.ref i2)) (hO:IsPair s.heap TO a b)
  (h1:fJ c1 s.heap i1 l1 k) (h2:fJ c2 s.heap i2 l2 k) (g1:iU c1 s.heap l1 xs) (g2:iU c2 s.heap l2 ys) (hend:xs[k]? = none \/ ys[k]? = none)
  (hE:∀ h' e,(∀ c o,c ≠ z -> c ≠ TO -> c ≠ i1 -> c ≠ i2 -> s.heap.get? c=some o -> h'.get? c=some o) -> (∃ o,h'.get? e=some o /\ o.cls=.type "StopIteration") -> E (.ref e) { s with heap:=h' }) :
  wpAny (model prog w) A (Builtin.«zip.__next__» ⟨[.ref z],[]⟩) Q E s:=by
 refine (wpAny_bind (wpAny_field hz rfl (x:=.bool false) rfl ?_):wpAny _ _ (field (.ref z) 2 >>= _) _ _ _)
 refine (wpAny_bind (wpAny_field hz rfl (x:=.ref TI) rfl ?_):wpAny _ _ (field (.ref z) 3 >>= _) _ _ _)
 refine wpAny_bind (wpAny_seqItems hI rfl ?_)
 refine (wpAny_bind ?_:wpAny _ _ (Builtin.SmallTypes.ownedTupleIsFree (.ref z) >>= _) _ _ _)
 unfold Builtin.SmallTypes.ownedTupleIsFree
 refine wpAny_bind (wpAny_field hz rfl (x:=.none) rfl (wpAny_pure ?_))
 simp only [if_true]
 refine wpAny_bind (wpAny_rule (wpAny_bind (wpAny_field hz rfl (x:=.ref TO) rfl (wpAny_bind (wpAny_setField_rec hz (by simp) fun ha za sa=>?_)))))
 replace za:IsZip ha z TI TO .ellipsis:=za
 refine wpAny_bind ?_
 simp only [List.zipIdx_cons,List.zipIdx_nil,List.forIn_cons,List.forIn_nil]
 refine wpAny_bind (wpAny_bind (wpAny_onRaise (?_:wpAny _ _ (Builtin.SmallTypes.nextOf (.ref i1) >>= _) _ _ _)))
 cases hx:xs[k]? with
 | none =>
  refine wpAny_bind (pQ hh (h1.ext fun o e=>sa.extBut _ _ D.i1z e) (g1.ext fun o e=>sa.extBut _ _ D.l1z e) hx fun hb e sb eo=>?_)
  obtain ⟨oe,ho,hc⟩:=eo
  have zb:IsZip hb z TI TO .ellipsis:=sb _ _ D.i1z.symm za
  have ne:e ≠ z:=fun q=>by subst q; rw [zb] at ho; cases ho; simp at hc
  exact wpAny_setField_rec zb (by simp) fun hd _ sd=>hE hd e (fun c o n1 _ n3 _ q=>sd.extBut _ _ n1 (sb _ _ n3 (sa.extBut _ _ n1 q))) ⟨oe,sd.extBut _ _ ne ho,hc⟩
 | some x =>
  have hy:ys[k]? = none:=by rcases hend with h | h; rw [hx] at h; cases h; exact h
  refine wpAny_bind (jN (h1.ext fun o e=>sa.extBut _ _ D.i1z e) (g1.ext fun o e=>sa.extBut _ _ D.l1z e) hx fun hb kb sb=>wpAny_pure ?_)
  have Ob:IsPair hb TO a b:=sb.extBut _ _ D.TOi1 (sa.extBut _ _ D.TOz hO)
  refine wpAny_bind (wpAny_seqItems Ob rfl (wpAny_bind (wpAny_updateSeq_pair Ob fun hc Oc sc=>wpAny_bind (wpAny_letGo (wpAny_pure ?_)))))
  refine wpAny_bind (wpAny_bind (wpAny_onRaise (?_:wpAny _ _ (Builtin.SmallTypes.nextOf (.ref i2) >>= _) _ _ _)))
  refine wpAny_bind (pQ hh (h2.ext fun o e=>sc.extBut _ _ D.TOi2.symm (sb.extBut _ _ D.i12.symm (sa.extBut _ _ D.i2z e))) (g2.ext fun o e=>sc.extBut _ _ D.l2TO (sb.extBut _ _ D.l2i1 (sa.extBut _ _ D.l2z e))) hy fun hd e sd eo=>?_)
  obtain ⟨oe,ho,hk⟩:=eo
  have zd:IsZip hd z TI TO .ellipsis:=sd _ _ D.i2z.symm (sc.extBut _ _ D.TOz.symm (sb.extBut _ _ D.i1z.symm za))
  have ne:e ≠ z:=fun q=>by subst q; rw [zd] at ho; cases ho; simp at hk
  exact wpAny_setField_rec zd (by simp) fun hf _ sf=>hE hf e (fun c o n1 n2 n3 n4 q=>sf.extBut _ _ n1 (sd _ _ n4 (sc.extBut _ _ n2 (sb.extBut _ _ n3 (sa.extBut _ _ n1 q))))) ⟨oe,sf.extBut _ _ ne ho,hk⟩
theorem uH {Q:Option Value -> Shared -> Prop} (D:ZipApart z TI TO i1 i2 l1 l2) (hz:IsZip s.heap z TI TO .none) (hI:IsPair s.heap TI (.ref i1) (.ref i2)) (hO:IsPair s.heap TO a b)
  (h1:fJ c1 s.heap i1 l1 k) (h2:fJ c2 s.heap i2 l2 k) (g1:iU c1 s.heap l1 xs) (g2:iU c2 s.heap l2 ys) (hx:xs[k]? = some x) (hy:ys[k]? = some y)
  (hQ:∀ h',IsZip h' z TI TO (rawInt s.heap.objs.size) -> IsPair h' TO x y -> fJ c1 h' i1 l1 (k + 1) -> fJ c2 h' i2 l2 (k + 1) -> IsPair h' s.heap.objs.size x y ->
   (∀ c o,c ≠ z -> c ≠ TO -> c ≠ i1 -> c ≠ i2 -> s.heap.get? c=some o -> h'.get? c=some o) -> Q (some (.ref s.heap.objs.size)) { s with heap:=h' }):wpAny (model prog w) A (pyNext (.ref z)) Q E s:=by
 have hT:s.TypeIs (.ref z) "zip" := ⟨_,hz,rfl⟩
 unfold pyNext
 exact wpAny_bind (wpAny_attempt (wpAny_callSpecial?_slot (name:=Str.ofString "__next__") hT F.slot_zip_next (wpAny_call_entry F.slot_zip_next hT F.entry_zip_next
  (DT D hz hI hO h1 h2 g1 g2 hx hy fun h' a1 a2 a3 a4 a5 a6=>wpAny_pure (hQ h' a1 a2 a3 a4 a5 a6)) (F.args_zip_next_1 _))))
theorem wV {Q:Option Value -> Shared -> Prop} (hh:A.handled=none) (D:ZipApart z TI TO i1 i2 l1 l2) (hz:IsZip s.heap z TI TO .none) (hI:IsPair s.heap TI (.ref i1) (.ref i2)) (hO:IsPair s.heap TO a b)
  (h1:fJ c1 s.heap i1 l1 k) (h2:fJ c2 s.heap i2 l2 k) (g1:iU c1 s.heap l1 xs) (g2:iU c2 s.heap l2 ys) (hend:xs[k]? = none \/ ys[k]? = none)
  (hQ:∀ h',(∀ c o,c ≠ z -> c ≠ TO -> c ≠ i1 -> c ≠ i2 -> s.heap.get? c=some o -> h'.get? c=some o) -> Q none { s with heap:=h' }):wpAny (model prog w) A (pyNext (.ref z)) Q E s:=by
 have hT:s.TypeIs (.ref z) "zip" := ⟨_,hz,rfl⟩
 unfold pyNext
 refine wpAny_bind (wpAny_attempt (wpAny_callSpecial?_slot (name:=Str.ofString "__next__") hT F.slot_zip_next (wpAny_call_entry F.slot_zip_next hT F.entry_zip_next
  (Gf hh D hz hI hO h1 h2 g1 g2 hend fun h' e hk eo=>?_) (F.args_zip_next_1 _))))
 obtain ⟨o,ho,hc⟩:=eo
 exact wpAny_bind (wpAny_isInstance (T := "StopIteration") (b:=true) ⟨o,ho,hc⟩ isSubtype_stop (wpAny_pure (hQ _ hk)))
end
open PySem PySem.Spec PyProof.Rows L2
def xV (b:Bool) (l:Addr):Obj:=match b with
 | true=>{ cls:=.type "list_iterator", data:=.fields #[.ref l,.int 0 0] }
 | false=>{ cls:=.type "tuple_iterator", data:=.fields #[.ref l,.int 0 0] }
theorem zy {b:Bool} {l it:Addr} {h:Heap} (e:h.get? it=some (xV b l)):fJ b h it l 0:=by
 cases b with
 | true=>exact ⟨_,e,rfl,rfl⟩
 | false=>exact ⟨_,e,rfl,rfl⟩
abbrev K2 (h:Heap) (c1:Bool) (l1:Addr):Heap:=h.push (xV c1 l1)
abbrev K3 (h:Heap) (c1 c2:Bool) (l1 l2:Addr):Heap:=(K2 h c1 l1).push (xV c2 l2)
abbrev K4 (h:Heap) (c1 c2:Bool) (l1 l2:Addr):Heap:=(K3 h c1 c2 l1 l2).push { cls:=.type "tuple", data:=.seq #[.ref h.objs.size,.ref (K2 h c1 l1).objs.size] }
abbrev K5 (h:Heap) (c1 c2:Bool) (l1 l2:Addr):Heap:=(K4 h c1 c2 l1 l2).push { cls:=.type "tuple", data:=.seq #[.none,.none] }
abbrev IT (h:Heap) (c1 c2:Bool) (l1 l2:Addr):Heap:=(K5 h c1 c2 l1 l2).push { cls:=.type "zip", data:=.fields #[.none,.bool false,.bool false,.ref (K3 h c1 c2 l1 l2).objs.size,.ref (K4 h c1 c2 l1 l2).objs.size] }
abbrev BC (c1 c2:Bool) (l1 l2:Addr) (xs ys:Array Value):Prop:=Meets (Builtin.«zip.__new__» ⟨[.type "zip", .ref l1,.ref l2],[]⟩) (fun _ R s=>iU c1 s.heap l1 xs /\ iU c2 s.heap l2 ys /\
   R (.ok (.ret (.ref (K5 s.heap c1 c2 l1 l2).objs.size))) { s with heap:=IT s.heap c1 c2 l1 l2 })
theorem yJ (l1 l2:Addr) (xs ys:Array Value):BC true true l1 l2 xs ys:=.of_wp fun prog w A R s h=>by
 obtain ⟨hp,g,d,tk,os⟩:=s
 obtain ⟨q1,q2,h⟩:=h
 have hsub:=sub_zip
 have p1:Heap.IsList (Shared.heap ⟨hp,g,d,tk,os⟩) l1 xs:=q1
 have p2:Heap.IsList (Shared.heap ⟨hp.push { cls:=.type "list_iterator", data:=.fields #[.ref l1,.int 0 0] },g,d,tk,os⟩) l2 ys:=Heap.IsList.push q2 _
 wp_walk using wpAny_pyIter_list p1,wpAny_pyIter_list p2
 exact ⟨_,rfl,h⟩
theorem yI (l1 l2:Addr) (xs ys:Array Value):BC true false l1 l2 xs ys:=.of_wp fun prog w A R s h=>by
 obtain ⟨hp,g,d,tk,os⟩:=s
 obtain ⟨q1,q2,h⟩:=h
 have hsub:=sub_zip
 have p1:Heap.IsList (Shared.heap ⟨hp,g,d,tk,os⟩) l1 xs:=q1
 have p2:Heap.IsTuple (Shared.heap ⟨hp.push { cls:=.type "list_iterator", data:=.fields #[.ref l1,.int 0 0] },g,d,tk,os⟩) l2 ys:=Heap.IsTuple.push q2 _
 wp_walk using wpAny_pyIter_list p1,wpAny_pyIter_tuple p2
 exact ⟨_,rfl,h⟩
theorem yH (l1 l2:Addr) (xs ys:Array Value):BC false true l1 l2 xs ys:=.of_wp fun prog w A R s h=>by
 obtain ⟨hp,g,d,tk,os⟩:=s
 obtain ⟨q1,q2,h⟩:=h
 have hsub:=sub_zip
 have p1:Heap.IsTuple (Shared.heap ⟨hp,g,d,tk,os⟩) l1 xs:=q1
 have p2:Heap.IsList (Shared.heap ⟨hp.push { cls:=.type "tuple_iterator", data:=.fields #[.ref l1,.int 0 0] },g,d,tk,os⟩) l2 ys:=Heap.IsList.push q2 _
 wp_walk using wpAny_pyIter_tuple p1,wpAny_pyIter_list p2
 exact ⟨_,rfl,h⟩
theorem yG (l1 l2:Addr) (xs ys:Array Value):BC false false l1 l2 xs ys:=.of_wp fun prog w A R s h=>by
 obtain ⟨hp,g,d,tk,os⟩:=s
 obtain ⟨q1,q2,h⟩:=h
 have hsub:=sub_zip
 have p1:Heap.IsTuple (Shared.heap ⟨hp,g,d,tk,os⟩) l1 xs:=q1
 have p2:Heap.IsTuple (Shared.heap ⟨hp.push { cls:=.type "tuple_iterator", data:=.fields #[.ref l1,.int 0 0] },g,d,tk,os⟩) l2 ys:=Heap.IsTuple.push q2 _
 wp_walk using wpAny_pyIter_tuple p1,wpAny_pyIter_tuple p2
 exact ⟨_,rfl,h⟩
theorem qY (c1 c2:Bool) (l1 l2:Addr) (xs ys:Array Value):BC c1 c2 l1 l2 xs ys:=by
 cases c1 <;> cases c2
 ·exact yG l1 l2 xs ys
 ·exact yH l1 l2 xs ys
 ·exact yI l1 l2 xs ys
 ·exact yJ l1 l2 xs ys
section
variable {prog:Program} {w:World} {A:Around} {E:Value -> Shared -> Prop} {s:Shared}
theorem BG {c1 c2:Bool} {l1 l2:Addr} {xs ys:Array Value} {Q:Value -> Shared -> Prop} (q1:iU c1 s.heap l1 xs) (q2:iU c2 s.heap l2 ys)
  (h:∀ h',IsZip h' (s.heap.objs.size + 4) (s.heap.objs.size + 2) (s.heap.objs.size + 3) .none -> IsPair h' (s.heap.objs.size + 2) (.ref s.heap.objs.size) (.ref (s.heap.objs.size + 1)) ->
   IsPair h' (s.heap.objs.size + 3) .none .none -> fJ c1 h' s.heap.objs.size l1 0 -> fJ c2 h' (s.heap.objs.size + 1) l2 0 -> (∀ c o,s.heap.get? c=some o -> h'.get? c=some o) -> Q (.ref (s.heap.objs.size + 4)) { s with heap:=h' }) :
  wpAny (model prog w) A (call (.type "zip") [.ref l1,.ref l2]) Q E s:=by
 refine callType_new F.called_zip (by decide) (F.typeCall_zip_2 _ _) (F.newCall_zip_2 _ _) (fun obj=>F.args_object_init_3 obj _ _) F.entry_zip_new (qY c1 c2 l1 l2 xs ys) ⟨q1,q2,?_⟩
 have z1:(K2 s.heap c1 l1).objs.size=s.heap.objs.size + 1:=Heap.size_push ..
 have z2:(K3 s.heap c1 c2 l1 l2).objs.size=s.heap.objs.size + 2:=by rw [Heap.size_push,z1]
 have z3:(K4 s.heap c1 c2 l1 l2).objs.size=s.heap.objs.size + 3:=by rw [Heap.size_push,z2]
 have z4:(K5 s.heap c1 c2 l1 l2).objs.size=s.heap.objs.size + 4:=by rw [Heap.size_push,z3]
 have p:∀ {h:Heap} {o:Obj} {c:Addr} {u:Obj},h.get? c=some u -> (h.push o).get? c=some u:=fun e=>Heap.get?_push_of_some _ e
 have n1:(xV c1 l1).isFreed=false:=by cases c1 <;> rfl
 have n2:(xV c2 l2).isFreed=false:=by cases c2 <;> rfl
 have g5:(IT s.heap c1 c2 l1 l2).get? (K5 s.heap c1 c2 l1 l2).objs.size=some _:=Heap.get?_push_size _ rfl
 have g4:(IT s.heap c1 c2 l1 l2).get? (K4 s.heap c1 c2 l1 l2).objs.size=some _:=p (Heap.get?_push_size _ rfl)
 have g3:(IT s.heap c1 c2 l1 l2).get? (K3 s.heap c1 c2 l1 l2).objs.size=some _:=p (p (Heap.get?_push_size _ rfl))
 have g2:(IT s.heap c1 c2 l1 l2).get? (K2 s.heap c1 l1).objs.size=some (xV c2 l2):=p (p (p (Heap.get?_push_size _ n2)))
 have g1:(IT s.heap c1 c2 l1 l2).get? s.heap.objs.size=some (xV c1 l1):=p (p (p (p (Heap.get?_push_size _ n1))))
 show _ /\ _
 rw [z2,z3,z4] at g5
 rw [z1,z2] at g3
 rw [z3] at g4
 rw [z1] at g2
 rw [z4]
 exact ⟨⟨_,g5,rfl⟩,h _ g5 g3 g4 (zy g1) (zy g2) fun c o x=>p (p (p (p (p x))))⟩
end
def uK (b:Bool) (K:PySem.W.Frag) (H:Hp) (a:Addr) (xs:List V):Prop:=match b with
 | true=>dE K H a xs
 | false=>js K H a xs
def Lc (K:PySem.W.Frag) (c1 c2:Bool) (l1 l2:Addr):It:=
  ⟨fun i H=>∃ xs ys x y,uK c1 K H l1 xs /\ uK c2 K H l2 ys /\ xs[i]? = some x /\ ys[i]? = some y,
   fun i H v H'=>∃ p x y,v=.ref p /\ H p=none /\ H'=upd H p (.tup [x,y]) /\ (∀ xs,uK c1 K H l1 xs -> xs[i]? = some x) /\ ∀ ys,uK c2 K H l2 ys -> ys[i]? = some y,
   fun i H=>∃ xs ys,uK c1 K H l1 xs /\ uK c2 K H l2 ys /\ (xs.length ≤ i \/ ys.length ≤ i)⟩
section
variable {X:Cx} {pins:List (Addr × Obj)} {σ:L2.St} {H:Hp} {s:Shared}
theorem jo {b:Bool} {a:Addr} {xs:List V} (I:Inv X pins σ H s) (h:uK b X.K H a xs):∃ its:List Value,Vals xs its /\ iU b s.heap a its.toArray:=by
 cases b with
 | true=>obtain ⟨its,r,p,_⟩:=I.list h; exact ⟨its,r,p.isList⟩
 | false=>obtain ⟨its,r,p,_⟩:=I.tuple h; exact ⟨its,r,p⟩
theorem Ac {b:Bool} {a:Addr} {xs ys:List V} (I:Inv X pins σ H s) (h:uK b X.K H a xs) (h':uK b X.K H a ys):xs=ys:=by
 cases b with
 | true=>exact I.list_inj h h'
 | false=>exact I.tuple_inj h h'
end
structure MG (c1 c2:Bool) (z TI TO i1 i2 l1 l2:Addr) (i:Nat) (h:Heap):Prop where
 hz:IsZip h z TI TO .none
 hI:IsPair h TI (.ref i1) (.ref i2)
 hO:∃ a b,IsPair h TO a b
 h1:fJ c1 h i1 l1 i
 h2:fJ c2 h i2 l2 i
theorem qt {X:Cx} {pins:List (Addr × Obj)} {σ:L2.St} {H:Hp} {s:Shared} {h':Heap} {fp:List Addr} (I:Inv X pins σ H s) (hf:∀ b ∈ fp,qG X pins H b) (k:∀ b o,b ∉ fp -> s.heap.get? b=some o -> h'.get? b=some o):Inv X pins σ H { s with heap:=h' }:=by
 have nit:∀ b u,H b=some u -> b ∉ fp:=fun b u e z=>by rw [(hf b z).1] at e; cases e
 refine I.step (g':=s.gens) (d':=s.drawn) (t':=s.toks) (ch:=fp) (fun b hb=>?_) (fun b o _ _ hc e _=>k b o hc e) (fun b o _ _ hc e _=>⟨o.slots,k b o hc e⟩) (fun _ _ _ _ n=>n)
  (fun b o hc e=>⟨o,k b o hc e⟩) (fun _ _ e=>e) (fun _ _ _ e=>e) (fun b ps e=>⟨#[],by rw [e]; simp⟩) (fun m hm=>?_) (fun b u e=>?_) I.bare
 ·obtain ⟨_,f1,_,f3,f4,f5⟩:=hf b hb
  exact ⟨f3,f1,f4,f5⟩
 ·obtain ⟨o,es,ep,ho,r⟩:=hm
  exact ⟨o,es,ep,k _ o (fun z=>(hf _ z).2.1 rfl) ho,r⟩
 ·refine (I.hok b u e).stay (fun c v hc q=>k c v ?_ q) (fun _ q=>q) fun _ _ q=>q
  rcases hc with z | z
  ·rw [z]; exact nit b u e
  ·exact nit c _ z
theorem DP {P:Program} {w:World} {K:PySem.W.Frag} {elts:List Expr} {kx:Nat} {px:Pos} {c1 c2:Bool} {z TI TO i1 i2 l1 l2:Addr} (D:ZipApart z TI TO i1 i2 l1 l2) :
  Turn P w K (.Tuple elts kx px) (Lc K c1 c2 l1 l2) [z,TI,TO,i1,i2] z (MG c1 c2 z TI TO i1 i2 l1 l2) where
 mem:=by simp
 obj:=fun i h st b hb=>by
  simp only [List.mem_cons,List.not_mem_nil,or_false] at hb
  rcases hb with rfl | rfl | rfl | rfl | rfl
  ·exact ⟨_,st.hz,fun v q=>nomatch (show Data.fields _=Data.cell v from q)⟩
  ·exact ⟨_,st.hI,fun v q=>nomatch (show Data.seq _ _=Data.cell v from q)⟩
  ·obtain ⟨a,b,e⟩:=st.hO
   exact ⟨_,e,fun v q=>nomatch (show Data.seq _ _=Data.cell v from q)⟩
  ·exact st.h1.obj
  ·exact st.h2.obj
 keep:=fun i h h' st k=>by
  obtain ⟨a,b,e⟩:=st.hO
  exact ⟨k z (by simp) _ st.hz,k TI (by simp) _ st.hI,⟨a,b,k TO (by simp) _ e⟩,st.h1.ext fun o e=>k i1 (by simp) o e,st.h2.ext fun o e=>k i2 (by simp) o e⟩
 item:=fun X hP hw hK hc i pins s σ H E I hf st hg=>by
  subst hP hw hK
  obtain ⟨xs,ys,x,y,q1,q2,g1,g2⟩:=hg
  obtain ⟨its,r1,p1⟩:=jo I q1
  obtain ⟨jts,r2,p2⟩:=jo I q2
  obtain ⟨u,e1,ru⟩:=r1.get g1
  obtain ⟨v,e2,rv⟩:=r2.get g2
  obtain ⟨a,b,hO⟩:=st.hO
  refine uH D st.hz st.hI hO st.h1 st.h2 p1 p2 (x:=u) (y:=v) (by simpa using e1) (by simpa using e2) fun h' a1 a2 a3 a4 a5 a6=>⟨_,rfl,?_⟩
  refine wpAny_letOwnedTupleGo_zip (s:={ s with heap:=h' }) a1 fun h2 b1 b2=>?_
  have kp:∀ b o,b ∉ [z,TI,TO,i1,i2] -> s.heap.get? b=some o -> h2.get? b=some o:=fun b o hb e=>by
   simp only [List.mem_cons,List.not_mem_nil,or_false,not_or] at hb
   exact b2.extBut _ _ hb.1 (a6 b o hb.1 hb.2.2.1 hb.2.2.2.1 hb.2.2.2.2 e)
  have lz:z < s.heap.objs.size:=Heap.lt_size st.hz
  have pr:IsPair h2 s.heap.objs.size u v:=b2.extBut _ _ (Nat.ne_of_gt lz) a5
  have fr:H s.heap.objs.size=none:=I.hok.fresh (Nat.le_refl _)
  have hokA:mQ X.prog X.w (upd H s.heap.objs.size (.tup [x,y])) h2:=by
   intro c o e
   by_cases hcz:c=s.heap.objs.size
   ·subst hcz
    rw [aN] at e; cases e
    exact ⟨by show 2 ≤ sizeLine; decide,[u,v],.cons ru (.cons rv .nil),_,pr,rfl,_,rfl⟩
   ·rw [az hcz] at e
    have nf:∀ d o',H d=some o' -> d ∉ [z,TI,TO,i1,i2]:=fun d o' ed hd=>by rw [(hf d hd).1] at ed; cases ed
    have up:∀ d o',H d=some o' -> upd H s.heap.objs.size (.tup [x,y]) d=some o':=fun d o' ed=>by rw [az (bx ed fr)]; exact ed
    refine (I.hok c o e).stay (fun d v' hd q=>kp d v' ?_ q) (fun d q=>up d _ q) fun d xs q=>up d _ q
    rcases hd with rfl | hd
    ·exact nf _ o e
    ·exact nf d _ hd
  have J:Inv X pins σ (upd H s.heap.objs.size (.tup [x,y])) { s with heap:=h2 }:=by
   have ne:∀ b o,s.heap.get? b=some o -> b ≠ s.heap.objs.size:=fun b o e=>Nat.ne_of_lt (Heap.lt_size e)
   refine I.step (g':=s.gens) (d':=s.drawn) (t':=s.toks) (ch:=[z,TI,TO,i1,i2]) (fun b hb=>?_) (fun b o _ _ hc e _=>kp b o hc e) (fun b o _ _ hc e _=>⟨o.slots,kp b o hc e⟩) (fun b o _ e n=>by rw [az (ne b o e)]; exact n)
    (fun b o hc e=>⟨o,kp b o hc e⟩) (fun b xs e=>by rw [az (bx e fr)]; exact e) (fun b o u e=>by rw [az (bx e fr)]; exact e) (fun b ps e=>⟨#[],by rw [az (bx e fr),e]; simp⟩) (fun m hm=>?_) hokA I.bare
   ·obtain ⟨_,f1,_,f3,f4,f5⟩:=hf b hb
    exact ⟨f3,f1,f4,f5⟩
   ·obtain ⟨o,es,ep,ho,r⟩:=hm
    exact ⟨o,es,ep,kp _ o (fun q=>(hf _ q).2.1 rfl) ho,r⟩
  refine ⟨.ref s.heap.objs.size,_,J,rfl,⟨_,x,y,rfl,fr,rfl,fun xs' h=>by rw [Ac I h q1]; exact g1,fun ys' h=>by rw [Ac I h q2]; exact g2⟩,?_,fun b hb=>?_⟩
  ·exact ⟨b1,b2.extBut _ _ D.TIz (a6 _ _ D.TIz D.TITO D.TIi1 D.TIi2 st.hI),⟨_,_,b2.extBut _ _ D.TOz a2⟩,a3.ext fun o e=>b2.extBut _ _ D.i1z e,a4.ext fun o e=>b2.extBut _ _ D.i2z e⟩
  ·obtain ⟨o,e,_⟩:∃ o,s.heap.get? b=some o /\ True:=by
    simp only [List.mem_cons,List.not_mem_nil,or_false] at hb
    rcases hb with rfl | rfl | rfl | rfl | rfl
    ·exact ⟨_,st.hz,trivial⟩
    ·exact ⟨_,st.hI,trivial⟩
    ·exact ⟨_,hO,trivial⟩
    ·obtain ⟨o,e,_⟩:=st.h1.obj; exact ⟨o,e,trivial⟩
    ·obtain ⟨o,e,_⟩:=st.h2.obj; exact ⟨o,e,trivial⟩
   rw [az (Nat.ne_of_lt (Heap.lt_size e))]
   exact (hf b hb).1
 done:=fun X hP hw hK hc i pins s σ H E I hf st hg=>by
  subst hP hw hK
  obtain ⟨xs,ys,q1,q2,g⟩:=hg
  obtain ⟨its,r1,p1⟩:=jo I q1
  obtain ⟨jts,r2,p2⟩:=jo I q2
  obtain ⟨a,b,hO⟩:=st.hO
  have n1:=r1.length
  have n2:=r2.length
  refine wV (I.ok.hd hc) D st.hz st.hI hO st.h1 st.h2 p1 p2 ?_ fun h' k=>⟨rfl,qt I hf fun b o hb e=>?_⟩
  ·rcases g with g | g
   ·exact .inl (by simp; omega)
   ·exact .inr (by simp; omega)
  ·simp only [List.mem_cons,List.not_mem_nil,or_false,not_or] at hb
   exact k b o hb.1 hb.2.2.1 hb.2.2.2.1 hb.2.2.2.2 e
 self:=fun _ _ _ _ _ st h=>wpAny_pyIter_zip st.hz h
open PySem PySem.Spec PyProof.Rows L2
def Ko:T -> Option (Bool × List T)
 | .lst ts=>some (true,ts)
 | .scr ts=>some (true,ts)
 | .tup ts=>some (false,ts)
 | _=>none
theorem Ab {K:PySem.W.Frag} {F:Hp} {t:T} {v:V} {b:Bool} {ts:List T} (r:Rep K F t v) (e:Ko t=some (b,ts)):∃ a xs,v=.ref a /\ uK b K F a xs /\ aQ K F ts xs:=by
 cases t <;> simp only [Ko] at e <;> cases e
 ·exact r
 ·obtain ⟨a,xs,h1,h2,h3⟩:=r
  exact ⟨a,xs,h1,dE.of h2,h3⟩
 ·exact r
theorem uK.same {b:Bool} {K:PySem.W.Frag} {H H':Hp} {a:Addr} {xs:List V} (s:aJ H H') (h:uK b K H a xs):uK b K H' a xs:=by
 cases b with
 | true=>exact s.seq h
 | false=>exact cg s h
def iE:List T -> List T -> List T
 | x :: xs,y :: ys=>.tup [x,y] :: iE xs ys
 | _,_=>[]
theorem nX:∀ (xs ys:List T),(iE xs ys).length=min xs.length ys.length
 | [],_=>by simp [iE]
 | _ :: _,[]=>by simp [iE]
 | x :: xs,y :: ys=>by simp [iE,nX xs ys]
theorem qB:∀ (xs ys:List T) (i:Nat) (t:T),(iE xs ys)[i]? = some t -> ∃ x y,xs[i]? = some x /\ ys[i]? = some y /\ t=.tup [x,y]
 | [],_,i,t,e=>by simp [iE] at e
 | _ :: _,[],i,t,e=>by simp [iE] at e
 | x :: xs,y :: ys,0,t,e=>by simp [iE] at e; exact ⟨x,y,rfl,rfl,e.symm⟩
 | x :: xs,y :: ys,i + 1,t,e=>by
  obtain ⟨a,b,h1,h2,h3⟩:=qB xs ys i t (by simpa [iE] using e)
  exact ⟨a,b,by simpa using h1,by simpa using h2,h3⟩
theorem Bq {K:PySem.W.Frag} {F:Hp} {c1 c2:Bool} {l1 l2:Addr} {xs ys:List V} {ts us:List T} (h1:uK c1 K F l1 xs) (r1:aQ K F ts xs) (h2:uK c2 K F l2 ys) (r2:aQ K F us ys):Walks K F (iE ts us) (Lc K c1 c2 l1 l2):=by
 refine ⟨fun i t F1 H1 e s1 s2=>?_,fun i t F1 H1 x H2 e s1 s2 y=>?_,fun F1 H1 s1 s2=>⟨xs,ys,h1.same (s1.trans s2),h2.same (s1.trans s2),?_⟩⟩
 ·obtain ⟨a,b,e1,e2,rfl⟩:=qB ts us i t e
  obtain ⟨v,g1,_⟩:=r1.get e1
  obtain ⟨w,g2,_⟩:=r2.get e2
  exact ⟨xs,ys,v,w,h1.same (s1.trans s2),h2.same (s1.trans s2),g1,g2⟩
 ·obtain ⟨p,v,w,rfl,hp,rfl,q1,q2⟩:=y
  obtain ⟨a,b,e1,e2,rfl⟩:=qB ts us i t e
  obtain ⟨v',g1,k1⟩:=r1.get e1
  obtain ⟨w',g2,k2⟩:=r2.get e2
  have m1:=q1 xs (h1.same (s1.trans s2))
  have m2:=q2 ys (h2.same (s1.trans s2))
  rw [g1] at m1; cases m1
  rw [g2] at m2; cases m2
  have gr:=br.new (.tup [v,w]) s2 hp
  exact ⟨_,gr,p,_,rfl,js.of aN,v,[w],rfl,Rep.mono (s1.trans gr.sF) k1,w,[],rfl,Rep.mono (s1.trans gr.sF) k2,rfl⟩
 ·rw [nX,r1.length,r2.length]
  omega
def eR (g:FA):FA:=fun τ=>(g τ).bind fun p=>match p.1 with
 | [a,b]=>(Ko a).bind fun x=>(Ko b).bind fun y=>some (iE x.2 y.2,p.2)
 | _=>none
theorem nB {X:Cx} {a b:Expr} {p pos:Pos} {ga:FA} {elts:List Expr} {kx:Nat} {px:Pos} (hg:Gl X "zip") (hm:X.mg "zip" = none) (ha:SA X [a,b] ga) (hs:starEach [a,b] X.env=(false,eval a X.env) :: starEach [b] X.env:=by rfl)
  (hs2:(backTo pos (starEach [b] X.env)).any (·.1)=false:=by rfl):SI X (.Tuple elts kx px) (.Call (.Name "zip" p) [a,b] [] pos) (eR ga):=by
 intro F₀ H₀ pins s σ H R I ⟨F,τ,ts,τ',E,e1,q⟩
 obtain ⟨⟨x,τ1⟩,e2,e1⟩:=bind_some e1
 dsimp only at e1
 split at e1
 ·next t u =>
  obtain ⟨⟨c1,us⟩,e3,e1⟩:=bind_some e1
  obtain ⟨⟨c2,ws⟩,e4,e1⟩:=bind_some e1
  cases e1
  refine Call_ (ll I hg hm (show bootBuiltins "zip" = some (.type "zip") from rfl) (PyProof.Rows.callWith_type1 (df (ha F₀ H₀ pos pins s σ H (fun vs H'=>∃ l1 l2 xs ys,vs=[.ref l1,.ref l2] /\ uK c1 X.K H' l1 xs /\ uK c2 X.K H' l2 ys /\ R (Lc X.K c1 c2 l1 l2) H') I ⟨F,τ,_,_,E,e2,fun F' H' vs E' s' r'=>?_⟩) fun vs s1 ⟨ws',H1,I1,r1,q1⟩=>?_) hs hs2))
  ·obtain ⟨v1,r1,rfl,k1,v2,r2,rfl,k2,rfl⟩:=r'
   obtain ⟨l1,xs,rfl,h1,h2⟩:=Ab k1 e3
   obtain ⟨l2,ys,rfl,h3,h4⟩:=Ab k2 e4
   exact ⟨l1,l2,xs,ys,rfl,h1.same E'.g.fh,h3.same E'.g.fh,q F' H' _ E' s' (Bq h1 h2 h3 h4)⟩
  ·obtain ⟨l1,l2,xs,ys,rfl,h1,h2,q1⟩:=q1
   cases r1 with
   | cons ra rr =>
    cases rr with
    | cons rb rr =>
     cases rr; cases ra; cases rb
     obtain ⟨its,_,p1⟩:=jo I1 h1
     obtain ⟨jts,_,p2⟩:=jo I1 h2
     refine BG p1 p2 fun h' a1 a2 a3 a4 a5 kp=>wpAny_pyIter_zip (s:={ s1 with heap:=h' }) a1 ?_
     have lt:∀ {c:Bool} {l:Addr} {zs:Array Value},iU c s1.heap l zs -> l < s1.heap.objs.size:=fun {c l zs} h=>by
      cases c with
      | true=>obtain ⟨o,e,_⟩:=h; exact Heap.lt_size e
      | false=>obtain ⟨o,e,_⟩:=h; exact Heap.lt_size e
     have n1:@LT.lt Nat _ l1 s1.heap.objs.size:=lt p1
     have n2:@LT.lt Nat _ l2 s1.heap.objs.size:=lt p2
     have J:Inv X pins σ H1 { s1 with heap:=h' }:=I1.kept (t':=s1.toks) kp
     refine ⟨_,[_,_,_,_,_],_,_,H1,rfl,J,DP (c1:=c1) (c2:=c2) (z:=s1.heap.objs.size + 4) (TI:=s1.heap.objs.size + 2) (TO:=s1.heap.objs.size + 3) (i1:=s1.heap.objs.size) (i2:=s1.heap.objs.size + 1) (l1:=l1) (l2:=l2) ?_,⟨a1,a2,⟨_,_,a3⟩,a4,a5⟩,fun b hb=>?_,q1⟩
     ·constructor <;> (refine (?_:@Ne Nat _ _); omega)
     ·have hb':s1.heap.objs.size ≤ b:=by
       simp only [List.mem_cons,List.not_mem_nil,or_false] at hb
       rcases hb with rfl | rfl | rfl | rfl | rfl <;> omega
      exact I1.fpOk hb' (I1.hok.fresh hb')
 ·cases e1
open PySem PySem.Spec PyProof.Rows L2
theorem vw:bj [.non,.ty "int"]=some (.bl false):=rfl
theorem tj:bj [.non,.ty "bool"]=some (.bl false):=rfl
theorem vx:bj [.non,.ty "str"]=some (.bl false):=rfl
theorem tq:bj [.non,.ty "list"]=some (.bl false):=rfl
theorem qM:bj [.non,.ty "tuple"]=some (.bl false):=rfl
theorem tm:bj [.non,.ty "dict"]=some (.bl false):=rfl
theorem xR:bj [.non,.tup [.ty "list", .ty "tuple"]]=some (.bl false):=rfl
theorem xJ {b:Bool}:bj [(.bl b),.ty "int"]=some (.bl true):=rfl
theorem vj {b:Bool}:bj [(.bl b),.ty "bool"]=some (.bl true):=rfl
theorem xM {b:Bool}:bj [(.bl b),.ty "str"]=some (.bl false):=rfl
theorem vm {b:Bool}:bj [(.bl b),.ty "list"]=some (.bl false):=rfl
theorem sQ {b:Bool}:bj [(.bl b),.ty "tuple"]=some (.bl false):=rfl
theorem vk {b:Bool}:bj [(.bl b),.ty "dict"]=some (.bl false):=rfl
theorem AM {b:Bool}:bj [(.bl b),.tup [.ty "list", .ty "tuple"]]=some (.bl false):=rfl
theorem vp {i:Int}:bj [(.int i),.ty "int"]=some (.bl true):=rfl
theorem sV {i:Int}:bj [(.int i),.ty "bool"]=some (.bl false):=rfl
theorem vq {i:Int}:bj [(.int i),.ty "str"]=some (.bl false):=rfl
theorem sX {i:Int}:bj [(.int i),.ty "list"]=some (.bl false):=rfl
theorem qK {i:Int}:bj [(.int i),.ty "tuple"]=some (.bl false):=rfl
theorem sW {i:Int}:bj [(.int i),.ty "dict"]=some (.bl false):=rfl
theorem xO {i:Int}:bj [(.int i),.tup [.ty "list", .ty "tuple"]]=some (.bl false):=rfl
theorem vD {x:Str}:bj [(.str x),.ty "int"]=some (.bl false):=rfl
theorem tB {x:Str}:bj [(.str x),.ty "bool"]=some (.bl false):=rfl
theorem vF {x:Str}:bj [(.str x),.ty "str"]=some (.bl true):=rfl
theorem tF {x:Str}:bj [(.str x),.ty "list"]=some (.bl false):=rfl
theorem qO {x:Str}:bj [(.str x),.ty "tuple"]=some (.bl false):=rfl
theorem tD {x:Str}:bj [(.str x),.ty "dict"]=some (.bl false):=rfl
theorem xT {x:Str}:bj [(.str x),.tup [.ty "list", .ty "tuple"]]=some (.bl false):=rfl
theorem vG {ts:List T}:bj [(.tup ts),.ty "int"]=some (.bl false):=rfl
theorem tJ {ts:List T}:bj [(.tup ts),.ty "bool"]=some (.bl false):=rfl
theorem vH {ts:List T}:bj [(.tup ts),.ty "str"]=some (.bl false):=rfl
theorem tL {ts:List T}:bj [(.tup ts),.ty "list"]=some (.bl false):=rfl
theorem qP {ts:List T}:bj [(.tup ts),.ty "tuple"]=some (.bl true):=rfl
theorem tK {ts:List T}:bj [(.tup ts),.ty "dict"]=some (.bl false):=rfl
theorem xU {ts:List T}:bj [(.tup ts),.tup [.ty "list", .ty "tuple"]]=some (.bl true):=rfl
theorem vt {ts:List T}:bj [(.lst ts),.ty "int"]=some (.bl false):=rfl
theorem sY {ts:List T}:bj [(.lst ts),.ty "bool"]=some (.bl false):=rfl
theorem vv {ts:List T}:bj [(.lst ts),.ty "str"]=some (.bl false):=rfl
theorem tf {ts:List T}:bj [(.lst ts),.ty "list"]=some (.bl true):=rfl
theorem qL {ts:List T}:bj [(.lst ts),.ty "tuple"]=some (.bl false):=rfl
theorem sZ {ts:List T}:bj [(.lst ts),.ty "dict"]=some (.bl false):=rfl
theorem xQ {ts:List T}:bj [(.lst ts),.tup [.ty "list", .ty "tuple"]]=some (.bl true):=rfl
theorem vy {ts:List T}:bj [(.scr ts),.ty "int"]=some (.bl false):=rfl
theorem tu {ts:List T}:bj [(.scr ts),.ty "bool"]=some (.bl false):=rfl
theorem vB {ts:List T}:bj [(.scr ts),.ty "str"]=some (.bl false):=rfl
theorem tx {ts:List T}:bj [(.scr ts),.ty "list"]=some (.bl true):=rfl
theorem qN {ts:List T}:bj [(.scr ts),.ty "tuple"]=some (.bl false):=rfl
theorem tw {ts:List T}:bj [(.scr ts),.ty "dict"]=some (.bl false):=rfl
theorem xS {ts:List T}:bj [(.scr ts),.tup [.ty "list", .ty "tuple"]]=some (.bl true):=rfl
theorem vn:bj [.dic,.ty "int"]=some (.bl false):=rfl
theorem sR:bj [.dic,.ty "bool"]=some (.bl false):=rfl
theorem vo:bj [.dic,.ty "str"]=some (.bl false):=rfl
theorem sT:bj [.dic,.ty "list"]=some (.bl false):=rfl
theorem qJ:bj [.dic,.ty "tuple"]=some (.bl false):=rfl
theorem sS:bj [.dic,.ty "dict"]=some (.bl true):=rfl
theorem xN:bj [.dic,.tup [.ty "list", .ty "tuple"]]=some (.bl false):=rfl
theorem mh (i j:Int):jJ (.int i) (.int j)=some (.bl (decide (i=j))):=by
 show some (T.bl (i == j))=_
 rw [Bool.beq_eq_decide_eq]
theorem sM (i j:Int):lU (.int i) (.int j)=some (.bl (!decide (i=j))):=by
 show some (T.bl (!(i == j)))=_
 rw [Bool.beq_eq_decide_eq]
theorem Hj (i j:Bool):jJ (.bl i) (.bl j)=some (.bl (i == j)):=rfl
theorem Hl (i j:Bool):lU (.bl i) (.bl j)=some (.bl (!(i == j))):=rfl
theorem Am (i j:Int):yK i j ↔ (¬ j=0 /\ j.natAbs < B):=Iff.rfl
theorem An (i j:Int):yL i j ↔ (i.natAbs < B /\ j.natAbs < B):=Iff.rfl
theorem D2 (i j:Int):KH i j ↔ ¬ j=0:=Iff.rfl
theorem bQ {n:Nat} (h:n ≤ 1000):n ≤ sizeLine:=Nat.le_of_lt (dN h)
theorem LA:(0:Nat) ≤ sizeLine:=bQ (by decide)
theorem LB:(1:Nat) ≤ sizeLine:=bQ (by decide)
theorem LD:(2:Nat) ≤ sizeLine:=bQ (by decide)
theorem MO:(3:Nat) ≤ sizeLine:=bQ (by decide)
theorem LF:(4:Nat) ≤ sizeLine:=bQ (by decide)
theorem Ck {x y:T}:cn (.tup [x,y]) (.int 0)=some x:=rfl
theorem Cm {x y:T}:cn (.tup [x,y]) (.int 1)=some y:=rfl
theorem Ci {x y:T}:cn (.lst [x,y]) (.int 0)=some x:=rfl
theorem Cj {x y:T}:cn (.lst [x,y]) (.int 1)=some y:=rfl
theorem BK (a:Int):mX [.int a]=some (.int (a.natAbs:Int)):=by
 have e:(if a < 0 then -a else a)=(a.natAbs:Int):=by split <;> omega
 simp only [mX,e]
theorem Jg:(2 ^ 64:Nat) < B:=by decide +kernel
open PySem PySem.Spec PyProof.Rows L2
theorem fW (a:Int) {b:Int} (h:0 < b):0 ≤ a.fmod b /\ a.fmod b < b:=⟨Int.fmod_nonneg_of_pos _ h,Int.fmod_lt_of_pos _ h⟩
theorem C4 {n:Nat} (h:n < 2 ^ 64):((n:Int)).natAbs < B:=by have:=Jg; omega
def intsOf:List T -> Option (List Int)
 | []=>some []
 | .int i :: ts=>(intsOf ts).bind fun ns=>some (i :: ns)
 | _ :: _=>none
theorem jf:∀ ns:List Int,intsOf (ns.map T.int)=some ns
 | []=>rfl
 | n :: ns=>by simp [intsOf,jf ns]
theorem lh:∀ {ts:List T} {ns:List Int},intsOf ts=some ns -> ts=ns.map T.int
 | [],ns,h=>by cases h; rfl
 | .int i :: ts,ns,h=>by
  obtain ⟨ms,e,h⟩:=bind_some h
  cases h
  rw [lh e]; rfl
 | .non :: _,_,h=>by cases h
 | .bl _ :: _,_,h=>by cases h
 | .str _ :: _,_,h=>by cases h
 | .ty _ :: _,_,h=>by cases h
 | .tup _ :: _,_,h=>by cases h
 | .lst _ :: _,_,h=>by cases h
 | .scr _ :: _,_,h=>by cases h
 | .dic :: _,_,h=>by cases h
 | .obj _ _ _ :: _,_,h=>by cases h
 | .ptr _ :: _,_,h=>by cases h
 | .exc _ :: _,_,h=>by cases h
theorem EC {ns:List Int} {k:Int} (h0:0 ≤ k) (h1:k < (ns.length:Int)):cn (.scr (ns.map T.int)) (.int k)=some (.int (ns.getD k.toNat 0)):=by
 show mS (ns.map T.int) k=_
 obtain ⟨j,rfl⟩:=Int.eq_ofNat_of_zero_le h0
 have hk:j < ns.length:=by omega
 refine sr ?_
 rw [List.getElem?_map,List.getElem?_eq_getElem hk]
 simp [List.getD,List.getElem?_eq_getElem hk]
open PySem PySem.Spec PyProof.Rows L2
def mV (env:Env):List (Str × NameKind) -> List (Str × Addr) -> List (Str × Addr)
 | [],acc=>acc
 | (x,k) :: r,acc=>if k == .free then mV env r ((x,(env.cells.lookup x).getD 0) :: acc) else mV env r acc
theorem nK {env:Env} (f:Str × NameKind -> List (Str × Addr) -> Sem (ForInStep (List (Str × Addr)))) (hf:∀ x k cs,f (x,k) cs=if k == .free then (do let a <- cellOf env x; pure (.yield ((x,a) :: cs))) else pure (.yield cs)) :
  ∀ (names:List (Str × NameKind)) (acc:List (Str × Addr)),(∀ y ∈ names,y.2=.free -> ∃ c,env.cells.lookup y.1=some c) -> forIn names acc f=pure (mV env names acc)
 | [],acc,_=>by rw [List.forIn_nil]; rfl
 | (x,k) :: r,acc,hy=>by
  rw [List.forIn_cons,hf]
  have ih:=nK f hf r
  have hr:∀ y ∈ r,y.2=.free -> ∃ c,env.cells.lookup y.1=some c:=fun z hz=>hy z (List.mem_cons_of_mem _ hz)
  cases hk:(k == NameKind.free) with
  | true =>
   obtain ⟨c,hc⟩:=hy (x,k) List.mem_cons_self (beq_iff_eq.mp hk)
   dsimp only at hc
   simp only [if_true,mV,hc,cellOf,pure_bind,Option.getD_some,hk]
   exact ih _ hr
  | false =>
   simp only [Bool.false_eq_true,if_false,mV,pure_bind,hk]
   exact ih _ hr
theorem jb {env:Env} {scope:Scope} (h:∀ y ∈ scope.names,y.2=.free -> ∃ c,env.cells.lookup y.1=some c):closureFor scope env=pure (mV env scope.names []):=by
 simp only [closureFor]
 rw [nK (env:=env) _ (fun x k cs=>by cases hk:k == NameKind.free <;> simp [hk]) scope.names [] h]
 rfl
theorem sC {env:Env}:∀ (names:List (Str × NameKind)) (acc:List (Str × Addr)) (x:Str) (c:Addr),(∀ y ∈ names,y.2=.free -> ∃ c,env.cells.lookup y.1=some c) -> (x,c) ∈ mV env names acc -> (x,c) ∈ acc \/ (env.cells.lookup x=some c /\ (x,NameKind.free) ∈ names)
 | [],acc,x,c,_,h=>.inl h
 | (y,k) :: r,acc,x,c,hy,h=>by
  unfold mV at h
  have hr:∀ z ∈ r,z.2=.free -> ∃ c,env.cells.lookup z.1=some c:=fun z hz=>hy z (List.mem_cons_of_mem _ hz)
  cases hk:(k == NameKind.free) with
  | true =>
   rw [if_pos hk] at h
   rcases sC r _ x c hr h with h | h
   ·rcases List.mem_cons.mp h with h | h
    ·cases h
     obtain ⟨c,hc⟩:=hy (y,k) List.mem_cons_self (beq_iff_eq.mp hk)
     dsimp only at hc
     refine .inr ⟨by rw [hc]; rfl,?_⟩
     rw [beq_iff_eq.mp hk]
     exact List.mem_cons_self
    ·exact .inl h
   ·exact .inr ⟨h.1,List.mem_cons_of_mem _ h.2⟩
  | false =>
   rw [if_neg (by rw [hk]; decide)] at h
   rcases sC r _ x c hr h with h | h
   ·exact .inl h
   ·exact .inr ⟨h.1,List.mem_cons_of_mem _ h.2⟩
theorem eN:∀ {l:List (Str × Addr)} {x:Str} {c:Addr},(x,c) ∈ l -> ∃ d,l.lookup x=some d
 | (y,d) :: r,x,c,h=>by
  rw [List.lookup_cons]
  cases hb:x == y with
  | true=>exact ⟨d,rfl⟩
  | false =>
   rcases List.mem_cons.mp h with h | h
   ·cases h; simp at hb
   ·exact eN h
theorem ou {env:Env}:∀ (names:List (Str × NameKind)) (acc:List (Str × Addr)) (x:Str),((x,NameKind.free) ∈ names \/ ∃ c,(x,c) ∈ acc) -> ∃ c,(x,c) ∈ mV env names acc
 | [],acc,x,h=>by
  rcases h with h | h
  ·cases h
  ·exact h
 | (y,k) :: r,acc,x,h=>by
  unfold mV
  cases hk:(k == NameKind.free) with
  | true =>
   rw [if_pos rfl]
   refine ou r _ x ?_
   rcases h with h | ⟨c,h⟩
   ·rcases List.mem_cons.mp h with h | h
    ·cases h; exact .inr ⟨_,List.mem_cons_self⟩
    ·exact .inl h
   ·exact .inr ⟨c,List.mem_cons_of_mem _ h⟩
  | false =>
   rw [if_neg (by decide)]
   refine ou r _ x ?_
   rcases h with h | h
   ·rcases List.mem_cons.mp h with h | h
    ·cases h; cases hk
    ·exact .inl h
   ·exact .inr h
theorem xj:∀ (names:List (Str × NameKind)) (n:Nat) (acc:List (Str × Addr)) (x:Str) (c:Addr),(x,c) ∈ cellsFrom n names acc -> (x,c) ∈ acc \/ (n ≤ c /\ (x,NameKind.cell) ∈ names)
 | [],n,acc,x,c,h=>.inl h
 | (y,k) :: r,n,acc,x,c,h=>by
  unfold cellsFrom at h
  cases hk:(k == NameKind.cell) with
  | true =>
   rw [if_pos hk] at h
   rcases xj r _ _ x c h with h | ⟨h1,h2⟩
   ·rcases List.mem_cons.mp h with h | h
    ·cases h
     refine .inr ⟨Nat.le_refl _,?_⟩
     rw [beq_iff_eq.mp hk]
     exact List.mem_cons_self
    ·exact .inl h
   ·exact .inr ⟨Nat.le_of_succ_le h1,List.mem_cons_of_mem _ h2⟩
  | false =>
   rw [if_neg (by rw [hk]; decide)] at h
   rcases xj r _ _ x c h with h | ⟨h1,h2⟩
   ·exact .inl h
   ·exact .inr ⟨h1,List.mem_cons_of_mem _ h2⟩
theorem xi:∀ (names:List (Str × NameKind)) (n:Nat) (acc:List (Str × Addr)),(∀ x y c,(x,c) ∈ acc -> (y,c) ∈ acc -> x=y) -> (∀ x c,(x,c) ∈ acc -> @LT.lt Nat _ c n) -> ∀ x y c,(x,c) ∈ cellsFrom n names acc -> (y,c) ∈ cellsFrom n names acc -> x=y
 | [],n,acc,h1,_,x,y,c,h,h'=>h1 x y c h h'
 | (z,k) :: r,n,acc,h1,h2,x,y,c,h,h'=>by
  unfold cellsFrom at h h'
  cases hk:(k == NameKind.cell) with
  | true =>
   rw [if_pos hk] at h h'
   refine xi r (n + 1) _ (fun a b d ha hb=>?_) (fun a d ha=>?_) x y c h h'
   ·rcases List.mem_cons.mp ha with ha | ha <;> rcases List.mem_cons.mp hb with hb | hb
    ·cases ha; cases hb; rfl
    ·cases ha; exact absurd (h2 _ _ hb) (Nat.lt_irrefl _)
    ·cases hb; exact absurd (h2 _ _ ha) (Nat.lt_irrefl _)
    ·exact h1 a b d ha hb
   ·rcases List.mem_cons.mp ha with ha | ha
    ·cases ha; exact Nat.lt_succ_self _
    ·exact Nat.lt_succ_of_lt (h2 _ _ ha)
  | false =>
   rw [if_neg (by rw [hk]; decide)] at h h'
   exact xi r n acc h1 h2 x y c h h'
theorem oZ:∀ (names:List (Str × NameKind)) (n:Nat) (acc:List (Str × Addr)) (x:Str),((x,NameKind.cell) ∈ names \/ ∃ c,(x,c) ∈ acc) -> ∃ c,(x,c) ∈ cellsFrom n names acc
 | [],n,acc,x,h=>by
  rcases h with h | h
  ·cases h
  ·exact h
 | (y,k) :: r,n,acc,x,h=>by
  unfold cellsFrom
  cases hk:(k == NameKind.cell) with
  | true =>
   rw [if_pos rfl]
   refine oZ r _ _ x ?_
   rcases h with h | ⟨c,h⟩
   ·rcases List.mem_cons.mp h with h | h
    ·cases h; exact .inr ⟨_,List.mem_cons_self⟩
    ·exact .inl h
   ·exact .inr ⟨c,List.mem_cons_of_mem _ h⟩
  | false =>
   rw [if_neg (by decide)]
   refine oZ r _ _ x ?_
   rcases h with h | h
   ·rcases List.mem_cons.mp h with h | h
    ·cases h; cases hk
    ·exact .inl h
   ·exact .inr h
theorem sA:∀ (names:List (Str × NameKind)) (h:Heap) (acc:List (Str × Addr)) (x:Str) (c:Addr),(x,c) ∈ cellsFrom h.objs.size names acc -> (x,c) ∈ acc \/ (pushCells h names).IsCell c none
 | [],h,acc,x,c,m=>.inl m
 | (y,k) :: r,h,acc,x,c,m=>by
  unfold cellsFrom at m
  unfold pushCells
  cases hk:(k == NameKind.cell) with
  | true =>
   rw [if_pos hk] at m
   rw [if_pos rfl]
   have m':(x,c) ∈ cellsFrom (h.push { cls:=.type "cell", data:=.cell none }).objs.size r ((y,h.objs.size) :: acc):=by rw [Heap.size_push]; exact m
   rcases sA r _ _ x c m' with m | m
   ·rcases List.mem_cons.mp m with m | m
    ·cases m
     refine .inr ?_
     have q:(h.push { cls:=.type "cell", data:=.cell none }).IsCell h.objs.size none:=⟨_,Heap.get?_push_size _ rfl,rfl⟩
     exact q.keeps fun b o e=>pushCells_keeps r _ b o e
    ·exact .inl m
   ·exact .inr m
  | false =>
   rw [if_neg (by rw [hk]; decide)] at m
   rw [if_neg (by decide)]
   exact sA r h acc x c m
open PySem PySem.Spec PyProof.Rows L2
def il (X:Cx) (scope:Scope) (C:Addr) (cs:List (Str × Addr)):Env:=
 { newEnv scope C X.env.globals cs X.env.qual none .none (some X.env) builtinsNs with scope:=relabel scope X.env }
def nZ (X:Cx) (scope:Scope) (N':List Str) (C:Addr) (cs:List (Str × Addr)) (s₀:Shared) (H₀:Hp) (fp:List Addr) (pins:List (Addr × Obj)):Cx:=
 { X with N:=N',s₀:=s₀,H₀:=H₀,env:=il X scope C cs,outer:=X.stack,stack:=X.stack,ex:=fp,fn:=fun x=>scope.names.lookup x == some .cell,pn:=X.pn ++ pins,xe:=fun _ _=>False }
structure eW (X:Cx) (scope:Scope):Prop where
 kind:scope.kind=.function
 names:∀ y ∈ scope.names,y.2=.local -> scope.names.lookup y.1=some .local
 free:∀ y ∈ scope.names,y.2=.free -> (X.env.kindOf y.1=some .cell \/ X.env.kindOf y.1=some .free) /\ (y.1,NameKind.cell) ∉ scope.names /\ scope.names.lookup y.1=some .free
theorem mem_of_lookupK:∀ {l:List (Str × NameKind)} {x:Str} {k:NameKind},l.lookup x=some k -> (x,k) ∈ l
 | (y,d) :: r,x,k,h=>by
  rw [List.lookup_cons] at h
  cases hb:x == y with
  | true=>rw [hb] at h; cases h; rw [beq_iff_eq.mp hb]; exact List.mem_cons_self
  | false=>rw [hb] at h; exact List.mem_cons_of_mem _ (mem_of_lookupK h)
theorem gf {env:Env}:∀ {names:List (Str × NameKind)} {x:Str},names.lookup x=some .free ->
    ((names.map fun (n,k)=>if (k == NameKind.free && env.scope.kind == .function && env.kindOf n == some .cell) then (n,NameKind.cell) else (n,k)).lookup x=some .cell \/
     (names.map fun (n,k)=>if (k == NameKind.free && env.scope.kind == .function && env.kindOf n == some .cell) then (n,NameKind.cell) else (n,k)).lookup x=some .free)
  | (n,k) :: r,x,h=>by
    rw [List.lookup_cons] at h
    have en:∀ y:Str × NameKind,y=(if (k == NameKind.free && env.scope.kind == .function && env.kindOf n == some .cell)=true then (n,NameKind.cell) else (n,k)) -> y.1=n /\ (y.2=.cell \/ y.2=k):=fun y e=>by
      subst e
      split
      · exact ⟨rfl,.inl rfl⟩
      · exact ⟨rfl,.inr rfl⟩
    rw [List.map_cons]
    dsimp only
    generalize hy:(if (k == NameKind.free && env.scope.kind == .function && env.kindOf n == some .cell)=true then (n,NameKind.cell) else (n,k))=y
    obtain ⟨e1,e2⟩:=en y hy.symm
    obtain ⟨a,b⟩:=y
    dsimp only at e1 e2
    subst e1
    rw [List.lookup_cons]
    cases hb:x == a with
    | true =>
      rw [hb] at h
      cases h
      rcases e2 with rfl | rfl
      · exact .inl rfl
      · exact .inr rfl
    | false =>
      rw [hb] at h
      exact gf h
theorem wx {X:Cx} {scope:Scope} {x:Str} (h:(il X scope C cs).kindOf x=some .cell \/ (il X scope C cs).kindOf x=some .free):(x,NameKind.cell) ∈ scope.names \/ (x,NameKind.free) ∈ scope.names:=by
 have key:∀ k,(il X scope C cs).kindOf x=some k -> (k=.cell \/ k=.free) -> (x,NameKind.cell) ∈ scope.names \/ (x,NameKind.free) ∈ scope.names:=fun k h hk=>by
  have m:=mem_of_lookupK (show (relabel scope X.env).names.lookup x=some k from h)
  unfold relabel at m
  obtain ⟨⟨y,j⟩,m1,m2⟩:=List.mem_map.mp m
  dsimp only at m2
  split at m2
  ·next hc =>
   cases m2
   simp only [Bool.and_eq_true,beq_iff_eq] at hc
   rw [hc.1.1] at m1
   exact .inr m1
  ·cases m2
   rcases hk with rfl | rfl
   ·exact .inl m1
   ·exact .inr m1
 rcases h with h | h
 ·exact key _ h (.inl rfl)
 ·exact key _ h (.inr rfl)
section
variable {X:Cx} {pins:List (Addr × Obj)} {σ:L2.St} {H:Hp} {s:Shared} {scope:Scope} {fp:List Addr} {N':List Str} {σ':L2.St}
abbrev kL:Obj:={ cls:=.type "list", dict:=none,data:=.seq ([]:List Value).toArray }
abbrev uZ:Obj:={ cls:=.type "dict", data:=.dict #[] }
def h0 (h:Heap) (scope:Scope):Heap:=pushCells ((h.push kL).push uZ) scope.names
theorem gp {h:Heap} {b:Addr} {o:Obj} (e:h.get? b=some o):(h0 h scope).get? b=some o:=pushCells_keeps _ _ _ _ (Heap.get?_push_of_some _ (Heap.get?_push_of_some _ e))
theorem Hn (h:Heap):(h0 h scope).get? h.objs.size=some kL:=pushCells_keeps _ _ _ _ (Heap.get?_push_of_some _ (Heap.get?_push_size _ rfl))
theorem rk (I:Inv X pins σ H s) (B:eW X scope) (hf:∀ b ∈ fp,qG X pins H b) (ho:∀ b ∈ fp,∃ o,s.heap.get? b=some o) (hl:σ'.length=N'.length)
  (cap:∀ (i:Nat) (x:Str) (v:V),N'[i]? = some x -> σ'[i]? = some (some v) -> ((x,NameKind.free) ∈ scope.names /\ ∃ j:Nat,X.N[j]? = some x /\ σ[j]? = some (some v)) \/ ¬ Jc (relabel scope X.env) x) {tk:Nat} :
  Inv (nZ X scope N' (s.heap.objs.size + 1) (cellsFrom (s.heap.objs.size + 2) scope.names (mV X.env scope.names [])) s H fp pins) [] σ' (upd H s.heap.objs.size (.lst [])) { s with heap:=h0 s.heap scope,toks:=tk }:=by
 have hz1:(s.heap.push kL).objs.size=s.heap.objs.size + 1:=Heap.size_push ..
 have hz2:((s.heap.push kL).push uZ).objs.size=s.heap.objs.size + 2:=by rw [Heap.size_push,hz1]
 have hfree:∀ y ∈ scope.names,y.2=.free -> ∃ c,X.env.cells.lookup y.1=some c:=fun y hy hk=>I.ok.has y.1 (B.free y hy hk).1
 have clm:∀ x c,(x,c) ∈ mV X.env scope.names [] -> X.env.cells.lookup x=some c /\ (x,NameKind.free) ∈ scope.names:=fun x c h=>by
  rcases sC _ _ x c hfree h with h | h
  ·cases h
  ·exact h
 have cl_lt:∀ x c,(x,c) ∈ mV X.env scope.names [] -> @LT.lt Nat _ c s.heap.objs.size:=fun x c h=>by
  obtain ⟨v,q⟩:=I.cell x c (clm x c h).1
  exact q.lt
 have csm:∀ x c,(x,c) ∈ cellsFrom (s.heap.objs.size + 2) scope.names (mV X.env scope.names []) -> (X.env.cells.lookup x=some c /\ (x,NameKind.free) ∈ scope.names /\ @LT.lt Nat _ c s.heap.objs.size) \/ (@LE.le Nat _ (s.heap.objs.size + 2) c /\ (x,NameKind.cell) ∈ scope.names):=fun x c h=>by
  rcases xj _ _ _ x c h with h | h
  ·exact .inl ⟨(clm x c h).1,(clm x c h).2,cl_lt x c h⟩
  ·exact .inr h
 have hD:H s.heap.objs.size=none:=I.fresh
 have up:∀ b:Addr,@LT.lt Nat _ b s.heap.objs.size -> upd H s.heap.objs.size (.lst []) b=H b:=fun b hb=>az (Nat.ne_of_lt hb)
 have upF:∀ b:Addr,@LT.lt Nat _ s.heap.objs.size b -> upd H s.heap.objs.size (.lst []) b=none:=fun b hb=>by rw [az (Nat.ne_of_gt hb)]; exact I.hok.fresh (Nat.le_of_lt hb)
 have flt:∀ b ∈ fp,@LT.lt Nat _ b s.heap.objs.size:=fun b hb=>by obtain ⟨o,e⟩:=ho b hb; exact Heap.lt_size e
 refine ⟨⟨I.ok.mod,B.kind,I.ok.glob,I.ok.blt,Nat.le_succ _,fun x y c h1 h2=>?_,fun x hx=>?_,fun x c hx h=>?_,I.ok.hd,I.ok.frames,.inl rfl,fun b hb=>⟨?_,fun x c h=>?_⟩,I.bs,Nat.le_trans I.ok.bsz I.sz,fun b o e hb=>?_,fun b hb z=>?_,I.stack,I.stkFree⟩,
  rfl,I.bare,?_,⟨fun _=>none,?_,fun i x v e1 e2 e3=>?_⟩,fun x c h=>?_,upF _ (Nat.lt_succ_self _),fun x c h=>?_,fun p hp=>?_,?_,hl⟩
 ·exact xi _ _ _ (fun a b d ha hb=>I.ok.inj a b d (clm a d ha).1 (clm b d hb).1) (fun a d ha=>Nat.lt_of_lt_of_le (cl_lt a d ha) (Nat.le_add_right _ 2)) x y c (PySem.mem_of_lookup h1) (PySem.mem_of_lookup h2)
 ·have hm:∃ c,(x,c) ∈ cellsFrom (s.heap.objs.size + 2) scope.names (mV X.env scope.names []):=by
   rcases wx hx with h | h
   ·exact oZ _ _ _ x (.inl h)
   ·exact oZ _ _ _ x (.inr (ou _ _ x (.inl h)))
  obtain ⟨c,hm⟩:=hm
  exact eN hm
 ·have hx':scope.names.lookup x=some .cell:=beq_iff_eq.mp hx
  rcases csm x c (PySem.mem_of_lookup h) with ⟨_,h2,_⟩ | ⟨h1,_⟩
  ·exact absurd (mem_of_lookupK hx') (B.free _ h2 rfl).2.1
  ·exact Nat.le_trans (Nat.le_add_right _ 2) h1
 ·exact Nat.ne_of_lt (Nat.lt_succ_of_lt (flt b hb))
 ·rcases csm x c (PySem.mem_of_lookup h) with ⟨h1,_,_⟩ | ⟨h1,_⟩
  ·exact (hf b hb).2.2.2.2.1 x c h1
  ·exact Nat.ne_of_gt (Nat.lt_of_lt_of_le (flt b hb) (Nat.le_trans (Nat.le_add_right _ 2) h1))
 ·rcases (hf b hb).2.2.2.1 with z | z
  ·exact I.ok.noex b o e z
  ·exact absurd (Nat.lt_of_lt_of_le (Heap.lt_size e) (Nat.le_trans I.ok.bsz z)) (Nat.lt_irrefl _)
 ·rcases List.mem_cons.mp (I.stkSub b z) with z | z
  ·exact (hf b hb).2.1 z
  ·exact (hf b hb).2.2.1 z
 ·exact Un.laid (fun b o e=>gp e) (Nat.le_refl _) hD
 ·have q:=Heap.Ns.new (s.heap.push kL) (.type "dict")
  rw [hz1] at q
  exact q.keeps fun b o e=>pushCells_keeps _ _ b o e
 ·rcases cap i x v e1 e2 with ⟨hx,j,hj,hv⟩ | hn
  ·obtain ⟨m,hm,hlk⟩:=I.loc
   have hk:=(B.free _ hx rfl).1
   have vis:Jc X.env.scope x:=by
    rcases hk with hk | hk
    ·exact .inr (.inl hk)
    ·exact .inr (.inr hk)
   obtain ⟨u,r,l⟩:=hlk j x v hj hv vis
   refine ⟨u,r,.inr ?_⟩
   rcases l with ⟨z,_⟩ | ⟨_,c,hc,hcell⟩
   ·rcases hk with hk | hk <;> (rw [show X.env.kindOf x=X.env.scope.names.lookup x from rfl] at hk z; rw [hk] at z; cases z)
   ·obtain ⟨c',hc'⟩:=eN (Classical.choose_spec (oZ scope.names (s.heap.objs.size + 2) (mV X.env scope.names []) x (.inr (ou _ _ x (.inl hx)))))
    have ec:c'=c:=by
     rcases csm x c' (PySem.mem_of_lookup hc') with ⟨h1,_,_⟩ | ⟨_,h2⟩
     ·rw [hc] at h1; exact (Option.some.inj h1).symm
     ·exact absurd h2 (B.free _ hx rfl).2.1
    subst ec
    refine ⟨?_,c',hc',hcell.keeps fun b o e=>gp e⟩
    rcases e3 with e3 | e3 | e3
    ·rcases gf (env:=X.env) (B.free _ hx rfl).2.2 with q | q
     ·exact .inl q
     ·exact .inr q
    ·exact .inl e3
    ·exact .inr e3
  ·exact absurd e3 hn
 ·rcases sA scope.names ((s.heap.push kL).push uZ) (mV X.env scope.names []) x c (by rw [hz2]; exact PySem.mem_of_lookup h) with m | m
  ·obtain ⟨v,q⟩:=I.cell x c (clm x c m).1
   exact ⟨v,q.keeps fun b o e=>gp e⟩
  ·exact ⟨none,m⟩
 ·rcases csm x c (PySem.mem_of_lookup h) with ⟨h1,_,h3⟩ | ⟨h1,_⟩
  ·rw [up c h3]; exact I.freeC x c h1
  ·exact upF c (Nat.lt_of_lt_of_le (Nat.lt_add_of_pos_right (by decide)) h1)
 ·have hp':p ∈ X.pn ++ pins:=by simpa [nZ] using hp
  obtain ⟨e,n,ne,nf,d⟩:=I.pin p hp'
  have lt:@LT.lt Nat _ p.1 s.heap.objs.size:=Heap.lt_size e
  refine ⟨gp e,by rw [up _ lt]; exact n,Nat.ne_of_lt (Nat.lt_succ_of_lt lt),fun z=>?_,d⟩
  rcases List.mem_cons.mp (I.stkSub _ z) with z | z
  ·exact ne z
  ·exact nf z
 ·exact I.hok.laid (fun b o e=>gp e) (Nat.le_refl _) ⟨Nat.zero_le _,[],0,.nil,Hn s.heap⟩
end
open PySem PySem.Spec PyProof.Rows L2
abbrev Af (ifs:List Expr) (env:Env):Sem Bool:=forIn ifs true fun c r=>if r=true then do let ok <- isTrue c env (eval c env); pure (ForInStep.yield ok) else pure (ForInStep.yield r)
theorem rC {prog:Program} {w:World} {A:Around} {R:Result -> Shared -> Prop} {s:Shared} {elt target iter:Expr} {ifs:List Expr} {scope:Scope} {pos:Pos} {it acc:Value} {env:Env} (I:Nat -> Shared -> Prop)
  (turn:∀ n s,I n s -> wpAny (model prog w) A (pyNext it) (fun r s₁=>match r with
   | none=>R (.ok .next) s₁
   | some v=>wpAny (model prog w) A (letOwnedTupleGo target it v) (fun _ s₂=>wpAny (model prog w) A (assign target env v) (fun _ s₃=>wpAny (model prog w) A (Af ifs env) (fun ok s₄ =>
     if ok=true then wpAny (model prog w) A (eval elt env) (fun x s₅=>wpAny (model prog w) A (call (.builtin "list.append") [acc,x]) (fun _ s₆=>∃ m,m < n /\ I m s₆) (fun _ _=>False) s₅) (fun _ _=>False) s₄
     else ∃ m,m < n /\ I m s₄) (fun _ _=>False) s₃) (fun _ _=>False) s₂) (fun _ _=>False) s₁) (fun _ _=>False) s)
  (n:Nat) (h:I n s):codeAny (model prog w) A (.compLoop (.ListComp elt [⟨target,iter,ifs,0⟩] scope pos) 0 it acc env) R s:=by
 have no:∀ {α:Type} {m:Sem α} {Q:α -> Shared -> Prop} {E:Value -> Shared -> Prop} {s:Shared},wpAny (model prog w) A m Q (fun _ _=>False) s -> wpAny (model prog w) A m Q E s:=fun h=>wpAny_mono h (fun _ _ q=>q) fun _ _ z=>z.elim
 refine codeAny_loop rfl I (fun n s hI=>?_) n h
 refine (wpAny_noted ?_:wpAny _ A ((compTurn (.ListComp elt [⟨target,iter,ifs,0⟩] scope pos) 0 it acc env).onRaise (fun x=>do noteFrame x env; theTreesLotGoes x)) _ _ s)
 rw [compTurn_list]
 refine wpAny_bind (wpAny_standAt (wpAny_bind (wpAny_mono (no (turn n s hI)) (fun r s₁ h₁=>?_) fun _ _ z=>z)))
 cases r with
 | none=>exact wpAny_pure h₁
 | some v =>
  refine wpAny_bind (wpAny_mono (no h₁) (fun _ s₂ h₂=>wpAny_bind (wpAny_mono (no h₂) (fun _ s₃ h₃=>wpAny_bind (wpAny_mono (no h₃) (fun ok s₄ h₄=>?_) fun _ _ z=>z)) fun _ _ z=>z)) fun _ _ z=>z)
  cases ok with
  | false=>exact wpAny_pure ⟨rfl,h₄⟩
  | true=>exact wpAny_bind (wpAny_bind (wpAny_mono (no h₄) (fun x s₅ h₅=>wpAny_bind (wpAny_mono (no h₅) (fun _ s₆ h₆=>wpAny_pure (wpAny_pure ⟨rfl,h₆⟩)) fun _ _ z=>z)) fun _ _ z=>z))
def bX:aB -> Bool
 | []=>true
 | some (.own _) :: _=>false
 | _ :: r=>bX r
theorem dH:∀ {τ:aB} {i:Nat} {ts:List T},bX τ=true -> τ[i]? ≠ some (some (.own ts))
 | [],i,ts,_=>by simp
 | some (.own _) :: _,i,ts,h=>by cases h
 | some (.sh t) :: r,0,ts,h=>by simp
 | none :: r,0,ts,h=>by simp
 | some (.sh t) :: r,i + 1,ts,h=>by rw [List.getElem?_cons_succ]; exact dH (τ:=r) h
 | none :: r,i + 1,ts,h=>by rw [List.getElem?_cons_succ]; exact dH (τ:=r) h
def eQ (fg:FG) (ft:FT) (fe:FE):List T -> aB -> List T -> Option (List T)
 | [],_,acc=>some acc
 | t :: ts,τ,acc=>(fg t τ).bind fun τ1=>(ft τ1).bind fun p=>if p.1=true then (fe p.2).bind fun q=>if bX q.2=true /\ acc.length < sizeLine then eQ fg ft fe ts q.2 (acc ++ [q.1]) else none
  else if bX p.2=true then eQ fg ft fe ts p.2 acc else none
def frz1 (j:Nat) (τ:aB):aB:=match τ[j]? with
 | some (some (.own ts))=>τ.set j (some (.sh (.lst ts)))
 | _=>τ
def frzAll:List Nat -> aB -> aB
 | [],τ=>τ
 | j :: r,τ=>frzAll r (frz1 j τ)
def uS {α:Type} (l:List (Option α)) (j:Nat):Option α:=match l[j]? with
 | some x=>x
 | none=>none
def cv {α:Type} (no:Nat) (cap:List Nat) (l:List (Option α)):List (Option α):=List.replicate no none ++ cap.map (uS l)
def cm (no:Nat) (cap:List Nat) (fi:FA) (fg:FG) (ft:FT) (fe:FE):FE:=fun τ=>(fi τ).bind fun p =>
 if bX (cv no cap (frzAll cap p.2))=true then (eQ fg ft fe p.1 (cv no cap (frzAll cap p.2)) []).bind fun us=>some (.lst us,frzAll cap p.2) else none
def av:FT:=fun τ=>some (true,τ)
def BB (X:Cx) (ifs:List Expr) (ft:FT):Prop:=∀ F₀ H₀ pins s σ H Q,Inv X pins σ H s -> tT X.K F₀ H₀ ft σ H Q -> wpAny (model X.prog X.w) X.A (Af ifs X.env) (TP X pins σ Q) X.xe s
theorem bu {X:Cx}:BB X [] av:=fun F₀ H₀ pins s σ H Q I hq__=>by
 obtain ⟨F,τ,b,τ',E,e,q⟩:=hq__
 cases e
 exact wpAny_tests_nil ⟨H,I,q F H E (aJ.refl _)⟩
theorem FW {X:Cx} {c:Expr} {ft:FT} (h:ST X c ft):BB X [c] ft:=fun F₀ H₀ pins s σ H Q I q=>wpAny_tests_one (h F₀ H₀ pins s σ H Q I q)
section
variable {K:PySem.W.Frag} {F₀ H₀ F H:Hp} {σ:L2.St} {τ:aB}
theorem aD.frz1 (E:aD K F₀ H₀ F H σ τ) (j:Nat):∃ F',aD K F₀ H₀ F' H σ (TM.frz1 j τ) /\ aJ F F':=by
 unfold TM.frz1
 split
 ·next ts e =>
  obtain ⟨F',v,_,E',s',_⟩:=E.freeze e
  exact ⟨F',E',s'⟩
 ·exact ⟨F,E,aJ.refl _⟩
theorem aD.frzAll:∀ (cap:List Nat) {F:Hp} {τ:aB},aD K F₀ H₀ F H σ τ -> ∃ F',aD K F₀ H₀ F' H σ (TM.frzAll cap τ) /\ aJ F F'
 | [],F,τ,E=>⟨F,E,aJ.refl _⟩
 | j :: r,F,τ,E=>by
  obtain ⟨F1,E1,s1⟩:=E.frz1 j
  obtain ⟨F2,E2,s2⟩:=aD.frzAll r E1
  exact ⟨F2,E2,s1.trans s2⟩
theorem aD.rebase {H':Hp} (E:aD K F₀ H₀ F H σ τ) (ha:bX τ=true) (s:aJ F H'):aD K F H' F H' σ τ:=by
 refine ⟨br.refl s,E.len,fun i sl e=>?_,fun i j ts us p _ e1=>absurd e1 (dH ha)⟩
 obtain ⟨v,h1,h2⟩:=E.sl i sl e
 cases sl with
 | sh t=>exact ⟨v,h1,h2⟩
 | own ts=>exact absurd e (dH ha)
theorem mU {α:Type} {no:Nat} {cap:List Nat} {l:List (Option α)} {i:Nat} {x:α} (h:(cv no cap l)[i]? = some (some x)):∃ k j:Nat,i=no + k /\ cap[k]? = some j /\ l[j]? = some (some x):=by
 unfold cv at h
 by_cases hi:i < no
 ·rw [List.getElem?_append_left (by simpa using hi),List.getElem?_replicate] at h
  split at h <;> cases h
 ·rw [List.getElem?_append_right (by simpa using hi),List.length_replicate,List.getElem?_map] at h
  cases e:cap[i - no]? with
  | none=>rw [e] at h; cases h
  | some j =>
   rw [e] at h
   have h':uS l j=some x:=Option.some.inj h
   unfold uS at h'
   split at h'
   ·next y ey=>exact ⟨i - no,j,by omega,e,by rw [ey,h']⟩
   ·cases h'
theorem Aw {α:Type} {no:Nat} {cap:List Nat} {l:List (Option α)} {k j:Nat} {x:α} (h1:cap[k]? = some j) (h2:l[j]? = some (some x)):(cv no cap l)[no + k]? = some (some x):=by
 unfold cv
 rw [List.getElem?_append_right (by simp),List.length_replicate,Nat.add_sub_cancel_left,List.getElem?_map,h1]
 show some (uS l j)=_
 unfold uS
 rw [h2]
theorem aD.block {H':Hp} {no:Nat} {cap:List Nat} (E:aD K F₀ H₀ F H σ τ) (ha:bX (cv no cap τ)=true) (s:aJ F H'):aD K F H' F H' (cv no cap σ) (cv no cap τ):=by
 refine ⟨br.refl s,by simp [cv],fun i sl e=>?_,fun i j ts us p _ e1=>absurd e1 (dH ha)⟩
 obtain ⟨k,j,rfl,hk,hj⟩:=mU e
 obtain ⟨v,h1,h2⟩:=E.sl j sl hj
 refine ⟨v,Aw hk h1,?_⟩
 cases sl with
 | sh t=>exact h2
 | own ts=>exact absurd e (dH ha)
end
section
variable {X:Cx}
structure CompEnd (X:Cx) (pins:List (Addr × Obj)) (σ:L2.St) (F₀ H₀ F:Hp) (τ:aB) (rs:List T) (D C:Addr) (s:Shared):Prop where
 ex:∃ (H F3:Hp) (vs:List V),Inv X pins σ H s /\ aD X.K F₀ H₀ F3 H σ τ /\ aJ F F3 /\ F3 D=none /\ H D=some (.lst vs) /\ H₀ D=none /\ aQ X.K F3 rs vs /\ H C=none
 ns:∃ m,s.heap.Ns C m
 cl:C ≠ X.env.locals
 c0:X.s₀.heap.objs.size ≤ C
 cc:∀ x c,X.env.cells.lookup x=some c -> c ≠ C
 cp:∀ p ∈ X.pn ++ pins,p.1 ≠ C
 ow:∀ (j:Nat) us p,τ[j]? = some (some (.own us)) -> σ[j]? = some (some (.ref p)) -> p ≠ D
theorem rB {elt tg iter:Expr} {ifs:List Expr} {scope:Scope} {pos:Pos} {N':List Str} {no:Nat} {cap:List Nat} {fi:FA} {fg:FG} {ft:FT} {fe:FE} (hx:X.xe=fun _ _=>False) (hc:X.calm=true) (B:eW X scope) (hN:N'.length=no + cap.length)
  (hcap:∀ (k j:Nat),cap[k]? = some j -> ∃ x,N'[no + k]? = some x /\ X.N[j]? = some x /\ (x,NameKind.free) ∈ scope.names) (hi:SI X tg iter fi)
  (hg:∀ C cs s₀ H₀ fp pins,SG (nZ X scope N' C cs s₀ H₀ fp pins) tg fg) (ht:∀ C cs s₀ H₀ fp pins,BB (nZ X scope N' C cs s₀ H₀ fp pins) ifs ft) (he:∀ C cs s₀ H₀ fp pins,SE (nZ X scope N' C cs s₀ H₀ fp pins) elt fe)
  {F₀ H₀ F H:Hp} {pins:List (Addr × Obj)} {s:Shared} {σ:L2.St} {τ τ1:aB} {ts rs:List T} (I:Inv X pins σ H s) (E:aD X.K F₀ H₀ F H σ τ) (e2:fi τ=some (ts,τ1)) (ha:bX (cv no cap (frzAll cap τ1))=true) (e3:eQ fg ft fe ts (cv no cap (frzAll cap τ1)) []=some rs)
  {post:Value -> Addr -> Result -> Shared -> Prop} (hpost:∀ D C s',CompEnd X pins σ F₀ H₀ F (frzAll cap τ1) rs D C s' -> post (.ref D) C (.ok .next) s') :
  wpAny (model X.prog X.w) X.A (eval iter X.env) (fun x s₁=>wpAny (model X.prog X.w) X.A (pyIter x) (fun it s₂=>wpAny (model X.prog X.w) X.A (newList []) (fun acc s₃ =>
   wpAny (model X.prog X.w) X.A (newFunctionEnv scope X.env.globals (mV X.env scope.names []) [] X.env.qual none .none (some X.env)) (fun cenv s₄ =>
    codeAny (model X.prog X.w) X.A (.compStart (.ListComp elt [⟨tg,iter,ifs,0⟩] scope pos) 0 it acc { cenv with scope:=relabel scope X.env }) (post acc cenv.locals) s₄) X.xe s₃) X.xe s₂) X.xe s₁) X.xe s:=by
 refine df (hi F₀ H₀ pins s σ H (fun J H1=>∃ F1,aD X.K F₀ H₀ F1 H1 σ τ1 /\ aJ F F1 /\ Walks X.K F1 ts J) I ⟨F,τ,ts,τ1,E,e2,fun F1 H1 J E1 s1 W=>⟨F1,E1,s1,W⟩⟩) fun v s1 h1=>df h1 fun itv s2 h2=>?_
 obtain ⟨it,fp,tn,J,H1,rfl,I2,Tn,st2,f2,F1,E1,sF1,W⟩:=h2
 obtain ⟨F2,E2,sF2⟩:=E1.frzAll cap
 have W2:Walks X.K F2 ts J:=⟨fun i t F3 H3 e a b=>W.go i t F3 H3 e (sF2.trans a) b,fun i t F3 H3 x H4 e a b y=>W.yld i t F3 H3 x H4 e (sF2.trans a) b y,fun F3 H3 a b=>W.stop F3 H3 (sF2.trans a) b⟩
 refine wpAny_newObj_type ?_
 have hz:(s2.heap.push kL).objs.size=s2.heap.objs.size + 1:=Heap.size_push ..
 have hz2:((s2.heap.push kL).push uZ).objs.size=s2.heap.objs.size + 2:=by rw [Heap.size_push,hz]
 simp only [newFunctionEnv,Option.isSome_some,if_true]
 refine wpAny_bind (wpAny_alloc ?_)
 refine wpAny_bind (wpAny_layCells _ (fun name kind cells=>by cases hkc:kind == NameKind.cell <;> simp [hkc]) _ _ _ _ ?_)
 simp only [List.forIn_nil]
 refine wpAny_bind (wpAny_pure (wpAny_pure ?_))
 have loop:codeAny (model X.prog X.w) X.A (.compLoop (.ListComp elt [⟨tg,iter,ifs,0⟩] scope pos) 0 (.ref it) (.ref s2.heap.objs.size) (il X scope (s2.heap.objs.size + 1) (cellsFrom (s2.heap.objs.size + 2) scope.names (mV X.env scope.names []))))
   (post (.ref s2.heap.objs.size) (s2.heap.objs.size + 1)) { s2 with heap:=h0 s2.heap scope }:=by
  have Ib:=rk (N':=N') (σ':=cv no cap σ) (tk:=s2.toks) I2 B f2 (fun b hb=>by obtain ⟨o,e,_⟩:=Tn.obj 0 _ st2 b hb; exact ⟨o,e⟩) (by simp [cv,hN]) (fun i x v a1 a2=>by
   obtain ⟨k,j,rfl,hk,hj⟩:=mU a2
   obtain ⟨x',b1,b2,b3⟩:=hcap k j hk
   rw [a1] at b1; cases b1
   exact .inl ⟨b3,j,b2,hj⟩)
  generalize hX':nZ X scope N' (s2.heap.objs.size + 1) (cellsFrom (s2.heap.objs.size + 2) scope.names (mV X.env scope.names [])) s2 H1 fp pins=X' at Ib
  have hg':SG X' tg fg:=by rw [<- hX']; exact hg _ _ _ _ _ _
  have ht':BB X' ifs ft:=by rw [<- hX']; exact ht _ _ _ _ _ _
  have he':SE X' elt fe:=by rw [<- hX']; exact he _ _ _ _ _ _
  have xP:X'.prog=X.prog:=by rw [<- hX']; rfl
  have xw:X'.w=X.w:=by rw [<- hX']; rfl
  have xK:X'.K=X.K:=by rw [<- hX']; rfl
  have xA:X'.A=X.A:=by rw [<- hX']; rfl
  have xc:X'.calm=true:=by rw [<- hX']; exact hc
  have xx:X'.xe=fun _ _=>False:=by rw [<- hX']; rfl
  have xe':X'.env=il X scope (s2.heap.objs.size + 1) (cellsFrom (s2.heap.objs.size + 2) scope.names (mV X.env scope.names [])):=by rw [<- hX']; rfl
  have xex:X'.ex=fp:=by rw [<- hX']; rfl
  have xfs:X'.fs=xC X.stack:=by rw [<- hX']; rfl
  have xpn:X'.pn=X.pn ++ pins:=by rw [<- hX']; rfl
  have xs0:X'.s₀=s2:=by rw [<- hX']; rfl
  have xH0:X'.H₀=H1:=by rw [<- hX']; rfl
  have xl:X'.env.locals=s2.heap.objs.size + 1:=by rw [<- hX']; rfl
  rw [<- xe',<- xP,<- xw,<- xA]
  have hD1:H1 s2.heap.objs.size=none:=I2.fresh
  have fpk:∀ {Hc:Hp} {σc:L2.St} {pc:List (Addr × Obj)} {sc:Shared},Inv X' pc σc Hc sc -> (∀ b ∈ fp,Hc b=none) -> ∀ b ∈ fp,qG X' [] Hc b:=fun {Hc σc pc sc} Ic hn b hb=>by
   have q1:=Ic.ok.exf b (by rw [xex]; exact hb)
   have q2:=Ic.ok.exfs b (by rw [xex]; exact hb)
   refine ⟨hn b hb,q1.1,q2,.inl (by rw [xex]; exact hb),q1.2,fun p hp=>?_⟩
   rw [xpn,List.append_nil] at hp
   exact (f2 b hb).2.2.2.2.2 p hp
  refine rC (fun n s3=>∃ i σ3 H3 F3 τ3 us vs,Inv X' [] σ3 H3 s3 /\ tn i s3.heap /\ (∀ b ∈ fp,H3 b=none) /\ aD X.K F3 H3 F3 H3 σ3 τ3 /\ bX τ3=true /\ F3 s2.heap.objs.size=none /\ H3 s2.heap.objs.size=some (.lst vs) /\ aQ X.K F3 us vs /\ aJ F2 F3 /\ aJ H1 H3 /\
   (∀ a o,F3 a=some o -> F2 a=some o \/ H1 a=none) /\ i ≤ ts.length /\ n=ts.length - i /\ eQ fg ft fe (ts.drop i) τ3 us=some rs) ?_ ts.length ?_
  ·rintro n s3 ⟨i,σ3,H3,F3,τ3,us,vs,I3,st3,fr3,E3,ha3,fD,hD,rv,sF,sH,nw,hi',rfl,ec⟩
   by_cases hlt:i < ts.length
   ·have hgi:ts[i]? = some ts[i]:=List.getElem?_eq_getElem hlt
    rw [List.drop_eq_getElem_cons hlt] at ec
    obtain ⟨τ4,e4,ec⟩:=bind_some ec
    obtain ⟨⟨b,τ5⟩,e5,ec⟩:=bind_some ec
    have go:=W2.go i _ F3 H3 hgi sF E3.g.fh
    have itm:=(xP ▸ xw ▸ xK ▸ Tn:Turn X'.prog X'.w X'.K tg J fp it tn).item X' rfl rfl rfl xc i [] s3 σ3 H3 (fun _ _=>False) I3 (fpk I3 fr3) st3 go
    refine df itm fun r s4 ⟨u,hr,h4⟩=>?_
    subst hr
    refine df h4 fun _ s5 ⟨x,H5,I5,r5,y5,st5,fr5⟩=>?_
    have I5':=I5.pinned (fpk I5 fr5) (Tn.obj _ _ st5)
    obtain ⟨F5,gr,rx⟩:=W2.yld i _ F3 H3 x H5 hgi sF E3.g.fh y5
    have a1:=hg' F3 H3 _ s5 σ3 H5 x u (fun σ6 H6=>∃ F6,aD X.K F3 H3 F6 H6 σ6 τ4 /\ aJ F5 F6) I5' r5 (by rw [xK]; exact ⟨F5,τ3,ts[i],τ4,E3.grow gr,rx,e4,fun F6 H6 σ6 E6 s6=>⟨F6,E6,s6⟩⟩)
    rw [xx] at a1
    refine df a1 fun _ s6 ⟨σ6,H6,I6,F6,E6,sF6⟩=>?_
    have a2:=ht' F3 H3 _ s6 σ6 H6 (fun b' H7=>b'=b /\ ∃ F7,aD X.K F3 H3 F7 H7 σ6 τ5 /\ aJ F6 F7) I6 (by rw [xK]; exact ⟨F6,τ4,b,τ5,E6,e5,fun F7 H7 E7 s7=>⟨rfl,F7,E7,s7⟩⟩)
    rw [xx] at a2
    refine df a2 fun ok s7 ⟨H7,I7,hok,F7,E7,sF7⟩=>?_
    subst hok
    have tail:∀ {σc:L2.St} {Hc:Hp} {sc:Shared},Inv X' ([] ++ ni fp s5.heap) σc Hc sc -> tn (i + 1) sc.heap /\ ∀ b ∈ fp,Hc b=none:=fun {σc Hc sc} Ic=>by
     refine ⟨Tn.keep _ _ _ st5 fun b hb o e=>(Ic.pin (b,o) (List.mem_append_right _ (List.mem_append_right _ (fN hb e)))).1,fun b hb=>?_⟩
     obtain ⟨o,e,d⟩:=Tn.obj _ _ st5 b hb
     exact (Ic.pin (b,o) (List.mem_append_right _ (List.mem_append_right _ (fN hb e)))).2.1
    have keepD:∀ {Fc Hc:Hp} {σc:L2.St} {τc:aB},aD X.K F3 H3 Fc Hc σc τc -> Fc s2.heap.objs.size=none:=fun {Fc Hc σc τc} Ec=>by
     cases eF:Fc s2.heap.objs.size with
     | none=>rfl
     | some o =>
      rcases Ec.g.nw _ o eF with z | z
      ·rw [fD] at z; cases z
      ·rw [hD] at z; cases z
    have newF:∀ {Fc Hc:Hp} {σc:L2.St} {τc:aB},aD X.K F3 H3 Fc Hc σc τc -> ∀ a o,Fc a=some o -> F2 a=some o \/ H1 a=none:=fun {Fc Hc σc τc} Ec a o eF=>by
     rcases Ec.g.nw a o eF with z | z
     ·exact nw a o z
     ·exact .inr (sH.free z)
    cases b':ok with
    | false =>
     subst b'
     dsimp only at ec
     rw [if_neg (by decide)] at ec
     split at ec
     ·next ha =>
      rw [if_neg (by decide)]
      obtain ⟨t1,t2⟩:=tail I7
      exact ⟨ts.length - (i + 1),by omega,i + 1,σ6,H7,F7,τ5,us,vs,I7.unpinned,t1,t2,E7.rebase ha E7.g.fh,ha,keepD E7,E7.g.sH _ _ hD,aQ.mono E7.g.sF rv,sF.trans E7.g.sF,sH.trans E7.g.sH,newF E7,hlt,rfl,ec⟩
     ·cases ec
    | true =>
     subst b'
     dsimp only at ec
     rw [if_pos rfl] at ec
     rw [if_pos rfl]
     obtain ⟨⟨y0,τ6⟩,e6,ec⟩:=bind_some ec
     dsimp only at ec
     split at ec
     ·next ha =>
      have a3:=he' F3 H3 _ s7 σ6 H7 (fun y H8=>∃ F8,aD X.K F3 H3 F8 H8 σ6 τ6 /\ Rep X.K F8 y0 y) I7 (by rw [xK]; exact ⟨F7,τ5,y0,τ6,E7,e6,fun F8 H8 y E8 s8 r8=>⟨F8,E8,r8⟩⟩)
      rw [xx] at a3
      refine df a3 fun yv s8 ⟨y,H8,I8,ry,F8,E8,rp⟩=>?_
      have dD:H8 s2.heap.objs.size=some (.lst vs):=E8.g.sH _ _ hD
      have a4:=gx (X:=X') _ s8 σ6 H8 (.ref s2.heap.objs.size) [y] (.ref s2.heap.objs.size) [yv] (fun _ H9=>H9=upd H8 s2.heap.objs.size (.lst (vs ++ [y]))) I8 rfl (.cons ry .nil) ⟨s2.heap.objs.size,vs,y,rfl,rfl,dD,by rw [rv.length]; exact ha.2,rfl⟩
      rw [xx] at a4
      refine df a4 fun _ s9 ⟨_,H9,I9,_,e9⟩=>?_
      subst e9
      obtain ⟨t1,t2⟩:=tail I9
      have kD:=keepD E8
      have sm:aJ F8 (upd H8 s2.heap.objs.size (.lst (vs ++ [y]))):=fun c o z=>by rw [az (fun w=>by subst w; rw [kD] at z; cases z)]; exact E8.g.fh _ _ z
      have sm1:aJ H1 (upd H8 s2.heap.objs.size (.lst (vs ++ [y]))):=fun c o z=>by rw [az (fun w=>by subst w; rw [hD1] at z; cases z)]; exact E8.g.sH _ _ (sH _ _ z)
      exact ⟨ts.length - (i + 1),by omega,i + 1,σ6,_,F8,τ6,us ++ [y0],vs ++ [y],I9.unpinned,t1,t2,E8.rebase ha.1 sm,ha.1,kD,aN,(aQ.mono E8.g.sF rv).append (.one rp),sF.trans E8.g.sF,sm1,newF E8,hlt,rfl,ec⟩
     ·cases ec
   ·have hie:i=ts.length:=by omega
    subst hie
    rw [List.drop_length] at ec
    cases ec
    have dn:=(xP ▸ xw ▸ xK ▸ Tn:Turn X'.prog X'.w X'.K tg J fp it tn).done X' rfl rfl rfl xc ts.length [] s3 σ3 H3 (fun _ _=>False) I3 (fpk I3 fr3) st3 (W2.stop F3 H3 sF E3.g.fh)
    refine df dn fun r s4 ⟨hr,I4⟩=>?_
    subst hr
    obtain ⟨m4,hm4,_⟩:=I4.loc
    rw [xl] at hm4
    have un:=I4.base
    rw [xfs,xex,xH0,xs0] at un
    have ox:=I4.os
    rw [xs0] at ox
    have hok4:=I4.hok
    rw [xP,xw] at hok4
    have IX:Inv X pins σ H3 s4:=I2.call' ox un hok4 I4.bare fun b hb=>⟨(f2 b hb).2.2.2.1,(f2 b hb).2.1,(f2 b hb).2.2.2.2.1,(f2 b hb).2.2.2.2.2⟩
    have hC:H3 (s2.heap.objs.size + 1)=none:=by have:=I4.free; rw [xl] at this; exact this
    have lC:@LT.lt Nat _ X.env.locals s2.heap.objs.size:=I2.lt
    have gr:br F2 H1 F3 H3:=⟨sF,sH,E3.g.fh,nw⟩
    refine hpost _ _ _ ⟨⟨H3,F3,vs,IX,E2.grow gr,(sF1.trans sF2).trans sF,fD,hD,E2.g.sH.free hD1,rv,hC⟩,⟨m4,hm4⟩,Nat.ne_of_gt (Nat.lt_succ_of_lt lC),Nat.le_trans I2.sz (Nat.le_succ _),
     fun x c hxc=>by obtain ⟨v,z⟩:=I2.cell x c hxc; exact Nat.ne_of_lt (Nat.lt_succ_of_lt z.lt),fun p hp=>Nat.ne_of_lt (Nat.lt_succ_of_lt (Heap.lt_size (I2.pin p hp).1)),fun j us p j1 j2=>?_⟩
    obtain ⟨v,k1,p',vs',rfl,k2,_⟩:=E2.sl j _ j1
    rw [j2] at k1; cases k1
    exact bx k2 hD1
  ·refine ⟨0,cv no cap σ,upd H1 s2.heap.objs.size (.lst []),F2,cv no cap (frzAll cap τ1),[],[],Ib,Tn.keep _ _ _ st2 fun b hb o e=>gp e,fun b hb=>?_,E2.block ha (E2.g.fh.trans (bW hD1)),ha,E2.g.fh.free hD1,aN,rfl,aJ.refl _,bW hD1,fun a o z=>.inl z,Nat.zero_le _,rfl,e3⟩
   obtain ⟨o,e,_⟩:=Tn.obj 0 _ st2 b hb
   rw [az (Nat.ne_of_lt (Heap.lt_size e))]
   exact (f2 b hb).1
 have fin:∀ {C:Addr} {cs:List (Str × Addr)},C=s2.heap.objs.size + 1 -> cs=cellsFrom (s2.heap.objs.size + 2) scope.names (mV X.env scope.names []) ->
   codeAny (model X.prog X.w) X.A (.compStart (.ListComp elt [⟨tg,iter,ifs,0⟩] scope pos) 0 (.ref it) (.ref s2.heap.objs.size) (il X scope C cs)) (post (.ref s2.heap.objs.size) C) { s2 with heap:=h0 s2.heap scope }:=fun {C cs} h1 h2=>by
  subst h1 h2
  exact codeAny_compStart_list loop (Tn.self _ 0 _ _ _ (Tn.keep _ _ _ st2 fun b hb o e=>gp e) loop)
 exact fin hz (by rw [<- hz2])
theorem cI {elt tg iter:Expr} {ifs:List Expr} {scope:Scope} {pos:Pos} {N':List Str} {no:Nat} {cap:List Nat} {fi:FA} {fg:FG} {ft:FT} {fe:FE} (hx:X.xe=fun _ _=>False) (hc:X.calm=true) (B:eW X scope) (hN:N'.length=no + cap.length)
  (hcap:∀ (k j:Nat),cap[k]? = some j -> ∃ x,N'[no + k]? = some x /\ X.N[j]? = some x /\ (x,NameKind.free) ∈ scope.names) (hi:SI X tg iter fi)
  (hg:∀ C cs s₀ H₀ fp pins,SG (nZ X scope N' C cs s₀ H₀ fp pins) tg fg) (ht:∀ C cs s₀ H₀ fp pins,BB (nZ X scope N' C cs s₀ H₀ fp pins) ifs ft) (he:∀ C cs s₀ H₀ fp pins,SE (nZ X scope N' C cs s₀ H₀ fp pins) elt fe)
  (hs:∀ x,foldedSetIterable iter X.env x=pure x:=by intro _; rfl):SE X (.ListComp elt [⟨tg,iter,ifs,0⟩] scope pos) (cm no cap fi fg ft fe):=by
 intro F₀ H₀ pins s σ H Q I ⟨F,τ,t,τ',E,e1,q⟩
 obtain ⟨⟨ts,τ1⟩,e2,e1⟩:=bind_some e1
 dsimp only at e1
 split at e1
 ·next ha =>
  obtain ⟨rs,e3,e1⟩:=bind_some e1
  cases e1
  have hfree:∀ y ∈ scope.names,y.2=.free -> ∃ c,X.env.cells.lookup y.1=some c:=fun y hy hk=>I.ok.has y.1 (B.free y hy hk).1
  rw [eval_ListComp]
  refine wpAny_comprehension_free (use:=none) rfl hs (jb hfree) B.kind B.names (rB hx hc B hN hcap hi hg ht he I E e2 ha e3 fun D C s' Z=>?_)
  obtain ⟨H3,F3,vs,IX,E3,sF,fD,hD,h0D,rv,hC⟩:=Z.ex
  obtain ⟨m,hm⟩:=Z.ns
  refine ⟨m,hm,fun h' sb=>⟨.ref D,H3,IX.turned (t':=s'.toks) (it:=C) (fun b o hb e=>(sb.2 b hb).trans e) hC Z.cl (.inr Z.c0) Z.cc Z.cp,rfl,?_⟩⟩
  have gr:br F3 H3 (upd F3 D (.lst vs)) H3 \/ True:=.inr trivial
  have sU:aJ F3 (upd F3 D (.lst vs)):=bW fD
  refine q (upd F3 D (.lst vs)) H3 (.ref D) ⟨⟨E3.g.sF.trans sU,E3.g.sH,fun c o z=>?_,fun c o z=>?_⟩,E3.len,fun j sl ej=>?_,E3.dj⟩ (sF.trans sU) ⟨D,vs,rfl,aN,aQ.mono sU rv⟩
  ·by_cases w:c=D
   ·subst w; rw [aN] at z; cases z; exact hD
   ·rw [az w] at z; exact E3.g.fh _ _ z
  ·by_cases w:c=D
   ·subst w; exact .inr h0D
   ·rw [az w] at z; exact E3.g.nw _ _ z
  ·obtain ⟨v,k1,k2⟩:=E3.sl j sl ej
   refine ⟨v,k1,?_⟩
   cases sl with
   | sh t=>exact Rep.mono sU k2
   | own us =>
    obtain ⟨p,ws,rfl,g2,g3,g4,g5⟩:=k2
    exact ⟨p,ws,rfl,g2,by rw [az (Z.ow j us p ej k1)]; exact g3,g4,aQ.mono sU g5⟩
 ·cases e1
theorem aD.putOwn {K:PySem.W.Frag} {F₀ H₀ F H:Hp} {σ:L2.St} {τ:aB} {i:Nat} {rs:List T} {vs:List V} {D:Addr} (E:aD K F₀ H₀ F H σ τ) (fD:F D=none) (hD:H D=some (.lst vs)) (h0:H₀ D=none) (r:aQ K F rs vs)
  (ow:∀ (j:Nat) us p,τ[j]? = some (some (.own us)) -> σ[j]? = some (some (.ref p)) -> p ≠ D):aD K F₀ H₀ F H (σ.set i (some (.ref D))) (τ.set i (some (.own rs))):=by
 refine ⟨E.g,by simp [E.len],fun j s e=>?_,fun j k ts' us q hjk e1 e2 e3 e4=>?_⟩
 ·by_cases hj:i=j
  ·subst hj
   by_cases hl:i < τ.length
   ·rw [List.getElem?_set_self hl] at e
    cases e
    exact ⟨.ref D,List.getElem?_set_self (by rw [E.len]; exact hl),D,vs,rfl,hD,fD,h0,r⟩
   ·rw [List.getElem?_eq_none (by simp; omega)] at e; cases e
  ·rw [List.getElem?_set_ne hj] at e
   rw [List.getElem?_set_ne hj]
   exact E.sl j s e
 ·by_cases hj:i=j
  ·subst hj
   rw [List.getElem?_set_ne hjk] at e2 e4
   by_cases hl:i < τ.length
   ·rw [List.getElem?_set_self (by rw [E.len]; exact hl)] at e3
    cases e3
    exact ow k us _ e2 e4 rfl
   ·rw [List.getElem?_eq_none (by simp; omega)] at e1; cases e1
  ·rw [List.getElem?_set_ne hj] at e1 e3
   by_cases hk:i=k
   ·subst hk
    by_cases hl:i < τ.length
    ·rw [List.getElem?_set_self (by rw [E.len]; exact hl)] at e4
     cases e4
     exact ow j ts' _ e1 e3 rfl
    ·rw [List.getElem?_eq_none (by simp; omega)] at e2; cases e2
   ·rw [List.getElem?_set_ne hk] at e2 e4
    exact E.dj j k ts' us q hjk e1 e2 e3 e4
def dF (i no:Nat) (cap:List Nat) (fi:FA) (fg:FG) (ft:FT) (fe:FE):FS:=fun τ=>(fi τ).bind fun p =>
 if bX (cv no cap (frzAll cap p.2))=true then (eQ fg ft fe p.1 (cv no cap (frzAll cap p.2)) []).bind fun us=>some (.nx ((frzAll cap p.2).set i (some (.own us)))) else none
theorem jq {i:Nat} {y:Str} {py spos:Pos} {elt tg iter:Expr} {ifs:List Expr} {scope:Scope} {pos:Pos} {N':List Str} {no:Nat} {cap:List Nat} {fi:FA} {fg:FG} {ft:FT} {fe:FE} (hNd:X.N.Nodup) (hiy:X.N[i]? = some y) (hy:X.env.scope.names.lookup y=some .local)
  (hx:X.xe=fun _ _=>False) (hc:X.calm=true) (B:eW X scope) (hN:N'.length=no + cap.length)
  (hcap:∀ (k j:Nat),cap[k]? = some j -> ∃ x,N'[no + k]? = some x /\ X.N[j]? = some x /\ (x,NameKind.free) ∈ scope.names) (hi:SI X tg iter fi)
  (hg:∀ C cs s₀ H₀ fp pins,SG (nZ X scope N' C cs s₀ H₀ fp pins) tg fg) (ht:∀ C cs s₀ H₀ fp pins,BB (nZ X scope N' C cs s₀ H₀ fp pins) ifs ft) (he:∀ C cs s₀ H₀ fp pins,SE (nZ X scope N' C cs s₀ H₀ fp pins) elt fe)
  (hsw:swapsWith (.ListComp elt [⟨tg,iter,ifs,0⟩] scope pos) (some (.Name y py)) spos.line X.env=pure true:=by rfl) (hs:∀ x,foldedSetIterable iter X.env x=pure x:=by intro _; rfl) :
  SS X (.Assign [.Name y py] (.ListComp elt [⟨tg,iter,ifs,0⟩] scope pos) spos) (dF i no cap fi fg ft fe):=by
 intro F₀ H₀ pins s σ H Dn I ⟨F,τ,r,E,e1,q⟩
 obtain ⟨⟨ts,τ1⟩,e2,e1⟩:=bind_some e1
 dsimp only at e1
 split at e1
 ·next ha =>
  obtain ⟨rs,e3,e1⟩:=bind_some e1
  cases e1
  have hfree:∀ y ∈ scope.names,y.2=.free -> ∃ c,X.env.cells.lookup y.1=some c:=fun y hy hk=>I.ok.has y.1 (B.free y hy hk).1
  rw [exec_Assign_Name_used _ _ _ _ hsw]
  refine wpAny_bind (wpAny_standAt (wpAny_bind (?_:wpAny _ X.A (do let _ <- comprehension (.ListComp elt [⟨tg,iter,ifs,0⟩] scope pos) scope X.env _ (newList []) false (eval iter X.env) (some (assign (.Name y py) X.env))) _ _ s)))
  refine wpAny_bind (df (wpAny_comprehension_free (use:=some (assign (.Name y py) X.env)) (Q:=fun _ s'=>SP X pins Dn .next s') rfl hs (jb hfree) B.kind B.names (rB hx hc B hN hcap hi hg ht he I E e2 ha e3 fun D C s' Z=>?_)) fun _ s' hq=>wpAny_pure (wpAny_pure hq))
  obtain ⟨H3,F3,vs,IX,E3,sF,fD,hD,h0D,rv,hC⟩:=Z.ex
  obtain ⟨m,hm⟩:=Z.ns
  refine (wpAny_assign_Name (nI IX hNd hiy (.inl hy) (v:=.ref D) rfl (fun s'' I'' w=>?_) (.inr hy)):wpAny _ X.A (assign (.Name y py) X.env (.ref D)) _ _ _)
  obtain ⟨a,sb,hab⟩:=w
  have aC:C ≠ a:=fun z=>by
   subst z
   rcases hab with z | z
   ·exact Z.cl z
   ·exact Z.cc _ _ z rfl
  refine ⟨m,hm.sameBut sb aC,fun h' sb'=>⟨_,H3,I''.turned (t':=s''.toks) (it:=C) (fun b o hb e=>(sb'.2 b hb).trans e) hC Z.cl (.inr Z.c0) Z.cc Z.cp,?_⟩⟩
  exact q F3 H3 _ (E3.putOwn fD hD h0D rv Z.ow) sF
 ·cases e1
end
def uR (sc scope:Scope):Bool:=scope.kind == .function && scope.names.all fun y=>(y.2 != .local || scope.names.lookup y.1 == some .local) &&
 (y.2 != .free || ((sc.names.lookup y.1 == some .cell || sc.names.lookup y.1 == some .free) && scope.names.all (fun z=>!(z.1 == y.1 && z.2 == .cell)) && scope.names.lookup y.1 == some .free))
theorem aK {X:Cx} {scope:Scope} (h:uR X.env.scope scope=true):eW X scope:=by
 unfold uR at h
 simp only [Bool.and_eq_true,List.all_eq_true,Bool.or_eq_true,bne_iff_ne,beq_iff_eq,Bool.not_eq_true',Bool.and_eq_false_iff,ne_eq] at h
 refine ⟨h.1,fun y hy hk=>?_,fun y hy hk=>?_⟩
 ·rcases (h.2 y hy).1 with z | z
  ·exact absurd hk z
  ·exact z
 ·rcases (h.2 y hy).2 with z | ⟨⟨z1,z2⟩,z3⟩
  ·exact absurd hk z
  ·refine ⟨z1,fun m=>?_,z3⟩
   rcases z2 _ m with w | w
   ·simp at w
   ·simp at w
def oY (N N':List Str) (scope:Scope) (no:Nat):List Nat -> Bool
 | []=>true
 | j :: r=>(match N'[no]?,N[j]? with | some x,some y=>x == y && scope.names.any (fun z=>z.1 == x && z.2 == .free) | _,_=>false) && oY N N' scope (no + 1) r
theorem bH {N N':List Str} {scope:Scope}:∀ {no:Nat} {cap:List Nat},oY N N' scope no cap=true -> ∀ (k j:Nat),cap[k]? = some j -> ∃ x,N'[no + k]? = some x /\ N[j]? = some x /\ (x,NameKind.free) ∈ scope.names
 | no,[],_,k,j,e=>by simp at e
 | no,c :: r,h,k,j,e=>by
  simp only [oY,Bool.and_eq_true] at h
  cases k with
  | zero =>
   simp at e
   subst e
   have h1:=h.1
   split at h1
   ·next x y ex ey =>
    simp only [Bool.and_eq_true,beq_iff_eq,List.any_eq_true] at h1
    obtain ⟨rfl,z,hz,z1,z2⟩:=h1
    refine ⟨x,ex,ey,?_⟩
    obtain ⟨a,b⟩:=z
    dsimp only at z1 z2
    subst z1 z2
    exact hz
   ·cases h1
  | succ k =>
   obtain ⟨x,h1,h2,h3⟩:=bH h.2 k j (by simpa using e)
   exact ⟨x,by rw [show no + (k + 1)=no + 1 + k by omega]; exact h1,h2,h3⟩
open PySem PySem.Spec PyProof.Rows L2
inductive O where
 | val (t:T) | lst (os:List O)
mutual
def cQ (K:PySem.W.Frag) (F H:Hp):O -> V -> List Addr -> Prop
 | .val t,v,A=>A=[] /\ Rep K F t v
 | .lst os,v,A=>∃ p vs B,v=.ref p /\ A=p :: B /\ H p=some (.lst vs) /\ F p=none /\ aU K F H os vs B
def aU (K:PySem.W.Frag) (F H:Hp):List O -> List V -> List Addr -> Prop
 | [],vs,A=>vs=[] /\ A=[]
 | o :: os,vs,A=>∃ v r B C,vs=v :: r /\ A=B ++ C /\ cQ K F H o v B /\ aU K F H os r C
end
mutual
def O.tr:O -> T
 | .val t=>t
 | .lst os=>.lst (O.trs os)
def O.trs:List O -> List T
 | []=>[]
 | o :: os=>o.tr :: O.trs os
end
section
variable {K:PySem.W.Frag} {F H F' H':Hp}
mutual
theorem cQ.move (sF:aJ F F'):∀ {o:O} {v:V} {A:List Addr},(∀ a ∈ A,H' a=H a /\ F' a=none) -> cQ K F H o v A -> cQ K F' H' o v A
 | .val t,v,A,_,h=>⟨h.1,Rep.mono sF h.2⟩
 | .lst os,v,A,hA,h=>by
  obtain ⟨p,vs,B,rfl,rfl,h1,h2,h3⟩:=h
  have hp:=hA p List.mem_cons_self
  exact ⟨p,vs,B,rfl,rfl,hp.1.trans h1,hp.2,aU.move sF (fun a ha=>hA a (List.mem_cons_of_mem _ ha)) h3⟩
theorem aU.move (sF:aJ F F'):∀ {os:List O} {vs:List V} {A:List Addr},(∀ a ∈ A,H' a=H a /\ F' a=none) -> aU K F H os vs A -> aU K F' H' os vs A
 | [],vs,A,_,h=>h
 | o :: os,vs,A,hA,h=>by
  obtain ⟨v,r,B,C,rfl,rfl,h1,h2⟩:=h
  exact ⟨v,r,B,C,rfl,rfl,cQ.move sF (fun a ha=>hA a (List.mem_append_left _ ha)) h1,aU.move sF (fun a ha=>hA a (List.mem_append_right _ ha)) h2⟩
end
mutual
theorem cQ.at:∀ {o:O} {v:V} {A:List Addr},cQ K F H o v A -> ∀ a ∈ A,F a=none /\ ∃ vs,H a=some (.lst vs)
 | .val t,v,A,h,a,ha=>by rw [h.1] at ha; cases ha
 | .lst os,v,A,h,a,ha=>by
  obtain ⟨p,vs,B,rfl,rfl,h1,h2,h3⟩:=h
  rcases List.mem_cons.mp ha with rfl | ha
  ·exact ⟨h2,vs,h1⟩
  ·exact aU.at h3 a ha
theorem aU.at:∀ {os:List O} {vs:List V} {A:List Addr},aU K F H os vs A -> ∀ a ∈ A,F a=none /\ ∃ vs,H a=some (.lst vs)
 | [],vs,A,h,a,ha=>by rw [h.2] at ha; cases ha
 | o :: os,vs,A,h,a,ha=>by
  obtain ⟨v,r,B,C,rfl,rfl,h1,h2⟩:=h
  rcases List.mem_append.mp ha with ha | ha
  ·exact cQ.at h1 a ha
  ·exact aU.at h2 a ha
end
mutual
theorem cQ.rep (sF:aJ F F'):∀ {o:O} {v:V} {A:List Addr},(∀ a ∈ A,F' a=H a) -> cQ K F H o v A -> Rep K F' o.tr v
 | .val t,v,A,_,h=>Rep.mono sF h.2
 | .lst os,v,A,hA,h=>by
  obtain ⟨p,vs,B,rfl,rfl,h1,h2,h3⟩:=h
  exact ⟨p,vs,rfl,(hA p List.mem_cons_self).trans h1,aU.rep sF (fun a ha=>hA a (List.mem_cons_of_mem _ ha)) h3⟩
theorem aU.rep (sF:aJ F F'):∀ {os:List O} {vs:List V} {A:List Addr},(∀ a ∈ A,F' a=H a) -> aU K F H os vs A -> aQ K F' (O.trs os) vs
 | [],vs,A,_,h=>h.1
 | o :: os,vs,A,hA,h=>by
  obtain ⟨v,r,B,C,rfl,rfl,h1,h2⟩:=h
  exact ⟨v,r,rfl,cQ.rep sF (fun a ha=>hA a (List.mem_append_left _ ha)) h1,aU.rep sF (fun a ha=>hA a (List.mem_append_right _ ha)) h2⟩
end
theorem aU.app:∀ {os us:List O} {vs ws:List V} {A B:List Addr},aU K F H os vs A -> aU K F H us ws B -> aU K F H (os ++ us) (vs ++ ws) (A ++ B)
 | [],_,_,_,_,_,h,h'=>by obtain ⟨rfl,rfl⟩:=h; exact h'
 | o :: os,_,_,_,_,_,h,h'=>by
  obtain ⟨v,r,B,C,rfl,rfl,h1,h2⟩:=h
  exact ⟨v,r ++ _,B,C ++ _,rfl,by rw [List.append_assoc],h1,aU.app h2 h'⟩
theorem aU.one {o:O} {v:V} {A:List Addr} (h:cQ K F H o v A):aU K F H [o] [v] A:=⟨v,[],A,[],rfl,by simp,h,rfl,rfl⟩
theorem aU.length:∀ {os:List O} {vs:List V} {A:List Addr},aU K F H os vs A -> vs.length=os.length
 | [],_,_,h=>by rw [h.1]; rfl
 | o :: os,_,_,h=>by
  obtain ⟨v,r,B,C,rfl,rfl,h1,h2⟩:=h
  simp [aU.length h2]
theorem aU.split:∀ {os:List O} {vs:List V} {A:List Addr} {k:Nat} {o:O},aU K F H os vs A -> os[k]? = some o ->
  ∃ (ws:List V) (v:V) (xs:List V) (B C D:List Addr),vs=ws ++ v :: xs /\ ws.length=k /\ A=B ++ (C ++ D) /\ aU K F H (os.take k) ws B /\ cQ K F H o v C /\ aU K F H (os.drop (k + 1)) xs D
 | [],_,_,k,o,h,e=>by simp at e
 | o :: os,_,_,0,o',h,e=>by
  obtain ⟨v,r,B,C,rfl,rfl,h1,h2⟩:=h
  simp at e; subst e
  exact ⟨[],v,r,[],B,C,rfl,rfl,rfl,⟨rfl,rfl⟩,h1,by simpa using h2⟩
 | o :: os,_,_,k + 1,o',h,e=>by
  obtain ⟨v,r,B,C,rfl,rfl,h1,h2⟩:=h
  obtain ⟨ws,w,xs,B',C',D',rfl,rfl,rfl,g1,g2,g3⟩:=aU.split (k:=k) h2 (by simpa using e)
  exact ⟨v :: ws,w,xs,B ++ B',C',D',rfl,rfl,by simp [List.append_assoc],⟨v,ws,B,B',rfl,rfl,h1,g1⟩,g2,by simpa using g3⟩
def frzO (F H:Hp) (A:List Addr):Hp:=fun a=>if a ∈ A then H a else F a
theorem cH {A:List Addr} {a:Addr} (h:a ∈ A):frzO F H A a=H a:=if_pos h
theorem bP {A:List Addr} {a:Addr} (h:a ∉ A):frzO F H A a=F a:=if_neg h
theorem bV {A:List Addr} (h:∀ a ∈ A,F a=none):aJ F (frzO F H A):=fun a o e=>by
 rw [bP (fun m=>by rw [h a m] at e; cases e)]; exact e
theorem cQ.frz {o:O} {v:V} {A:List Addr} (h:cQ K F H o v A):Rep K (frzO F H A) o.tr v:=cQ.rep (bV fun a ha=>(h.at a ha).1) (fun a ha=>cH ha) h
theorem br.frzO {F₀ H₀:Hp} {A:List Addr} (g:br F₀ H₀ F H) (h:∀ a ∈ A,F a=none) (h0:∀ a ∈ A,H₀ a=none):br F₀ H₀ (frzO F H A) H:=by
 refine ⟨g.sF.trans (bV h),g.sH,fun a o e=>?_,fun a o e=>?_⟩
 ·by_cases m:a ∈ A
  ·rw [cH m] at e; exact e
  ·rw [bP m] at e; exact g.fh _ _ e
 ·by_cases m:a ∈ A
  ·exact .inr (h0 a m)
  ·rw [bP m] at e; exact g.nw _ _ e
end
section
variable {K:PySem.W.Frag} {F₀ H₀ F H F' H':Hp} {σ:L2.St} {τ:aB} {A:List Addr}
def Apart (σ:L2.St) (τ:aB) (A:List Addr):Prop:=∀ (j:Nat) us p,τ[j]? = some (some (.own us)) -> σ[j]? = some (some (.ref p)) -> p ∉ A
theorem aD.frzO (E:aD K F₀ H₀ F H σ τ) (h:∀ a ∈ A,F a=none) (h0:∀ a ∈ A,H₀ a=none) (ow:Apart σ τ A):aD K F₀ H₀ (TM.frzO F H A) H σ τ:=by
 refine ⟨E.g.frzO h h0,E.len,fun i s e=>?_,E.dj⟩
 obtain ⟨v,h1,h2⟩:=E.sl i s e
 refine ⟨v,h1,?_⟩
 cases s with
 | sh t=>exact Rep.mono (bV h) h2
 | own ts =>
  obtain ⟨p,vs,rfl,k2,k3,k4,k5⟩:=h2
  exact ⟨p,vs,rfl,k2,by rw [bP (ow i ts p e h1)]; exact k3,k4,aQ.mono (bV h) k5⟩
theorem aD.hp (E:aD K F₀ H₀ F H σ τ) (s:aJ H H'):aD K F₀ H₀ F H' σ τ:=by
 refine ⟨⟨E.g.sF,E.g.sH.trans s,E.g.fh.trans s,E.g.nw⟩,E.len,fun i sl e=>?_,E.dj⟩
 obtain ⟨v,h1,h2⟩:=E.sl i sl e
 refine ⟨v,h1,?_⟩
 cases sl with
 | sh t=>exact h2
 | own ts =>
  obtain ⟨p,vs,rfl,k2,k3,k4,k5⟩:=h2
  exact ⟨p,vs,rfl,s _ _ k2,k3,k4,k5⟩
end
abbrev gX:=aB -> Option (O × aB)
def Mp (K:PySem.W.Frag) (F₀ H₀:Hp) (f:gX):TE:=fun σ H Q=>∃ F τ o τ',aD K F₀ H₀ F H σ τ /\ f τ=some (o,τ') /\
 ∀ F' H' v A,aD K F₀ H₀ F' H' σ τ' -> aJ F F' -> cQ K F' H' o v A -> A.Nodup -> (∀ a ∈ A,H₀ a=none) -> Apart σ τ' A -> Q v H'
def qC (X:Cx) (e:Expr) (f:gX):Prop:=∀ F₀ H₀,PE X e (Mp X.K F₀ H₀ f)
section
variable {X:Cx} {e:Expr} {pos:Pos}
def MJ (f:gX):FE:=fun τ=>(f τ).bind fun p=>some (p.1.tr,p.2)
theorem qC.se {f:gX} (h:qC X e f):SE X e (MJ f):=fun F₀ H₀=>PE.weak (h F₀ H₀) fun σ H Q hq__=>by
 obtain ⟨F,τ,t,τ',E,e1,q⟩:=hq__
 obtain ⟨⟨o,τ1⟩,e2,e1⟩:=bind_some e1
 cases e1
 refine ⟨F,τ,o,τ1,E,e2,fun F' H' v A E' s' r nd h0 ow=>?_⟩
 have hF:∀ a ∈ A,F' a=none:=fun a ha=>(r.at a ha).1
 exact q _ H' v (E'.frzO hF h0 ow) (s'.trans (bV hF)) r.frz
def md (f:FE):gX:=fun τ=>(f τ).bind fun p=>some (.val p.1,p.2)
theorem SE.seo {f:FE} (h:SE X e f):qC X e (md f):=fun F₀ H₀=>PE.weak (h F₀ H₀) fun σ H Q hq__=>by
 obtain ⟨F,τ,t,τ',E,e1,q⟩:=hq__
 obtain ⟨⟨o,τ1⟩,e2,e1⟩:=bind_some e1
 cases e1
 exact ⟨F,τ,o,τ1,E,e2,fun F' H' v E' s' r=>q F' H' v [] E' s' ⟨rfl,r⟩ List.nodup_nil (fun a ha=>by cases ha) (fun j us p _ _ m=>by cases m)⟩
theorem aU.vals {K:PySem.W.Frag} {F H:Hp}:∀ {ts:List T} {vs:List V},aQ K F ts vs -> aU K F H (ts.map O.val) vs []
 | [],_,h=>⟨h,rfl⟩
 | t :: ts,_,h=>by
  obtain ⟨v,r,rfl,h2,h3⟩:=h
  exact ⟨v,r,[],[],rfl,rfl,⟨rfl,h2⟩,aU.vals h3⟩
theorem cQ.new {K:PySem.W.Frag} {F H:Hp} {p:Addr} {ts:List T} {vs:List V} (s:aJ F H) (n:H p=none) (r:aQ K F ts vs):cQ K F (upd H p (.lst vs)) (.lst (ts.map O.val)) (.ref p) [p]:=
 ⟨p,vs,[],rfl,rfl,aN,s.free n,.vals r⟩
theorem apart_new {K:PySem.W.Frag} {F₀ H₀ F H:Hp} {σ:L2.St} {τ:aB} {p:Addr} (E:aD K F₀ H₀ F H σ τ) (n:H p=none):Apart σ τ [p]:=fun j us q e1 e2 m=>by
 rw [List.mem_singleton] at m
 subst m
 obtain ⟨v,k1,p',vs',rfl,k2,_⟩:=E.sl j _ e1
 rw [e2] at k1; cases k1
 rw [n] at k2; cases k2
def Es (t:T) (l h:Option Int):Option O:=match t with
 | .lst ts=>some (.lst ((kU ts l h).map .val))
 | _=>none
def B7 (f:FE) (fl fh:FO):gX:=fun τ=>(f τ).bind fun p=>(fl p.2).bind fun q=>(fh q.2).bind fun r=>(Es p.1 q.1 r.1).bind fun t=>some (t,r.2)
theorem Bc {e:Expr} {lo hi:Option Expr} {f:FE} {fl fh:FO} {p2:Pos} (he:SE X e f) (hl:SO X lo fl) (hh:SO X hi fh):qC X (.Subscript e (.Slice lo hi none p2) pos) (B7 f fl fh):=
 fun F₀ H₀=>PE.weak (wk z9 (he F₀ H₀) (hl F₀ H₀) (hh F₀ H₀)) fun σ H Q hq__=>by
  obtain ⟨F,τ,t,τ',E,e1,q⟩:=hq__
  obtain ⟨⟨x,τ1⟩,e2,e1⟩:=bind_some e1
  obtain ⟨⟨l,τ2⟩,e3,e1⟩:=bind_some e1
  obtain ⟨⟨h,τ3⟩,e4,e1⟩:=bind_some e1
  obtain ⟨y,e5,e1⟩:=bind_some e1
  cases e1
  refine ⟨F,τ,x,τ1,E,e2,fun F1 H1 v E1 s1 r1=>⟨F1,τ1,l,τ2,E1,e3,fun F2 H2 E2 s2=>⟨F2,τ2,h,_,E2,e4,fun F3 H3 E3 s3=>?_⟩⟩⟩
  have r3:=Rep.mono (s2.trans s3) r1
  have sm:=E3.g.fh
  dsimp only at e5
  unfold Es at e5
  split at e5
  ·cases e5
   obtain ⟨p,xs,rfl,h1,h2⟩:=r3
   refine ⟨p,xs,rfl,dE.of (sm _ _ h1),fun a ha=>?_⟩
   exact q F3 _ _ [a] (E3.hp (bW ha)) ((s1.trans s2).trans s3) (cQ.new sm ha (oz h2 l h)) (by simp) (fun b hb=>by rw [List.mem_singleton] at hb; subst hb; exact E3.g.sH.free ha) (apart_new E3 ha)
  ·cases e5
end
open PySem PySem.Spec PyProof.Rows L2
def ip (fg:FG) (ft:FT) (fe:gX):List T -> aB -> List O -> Option (List O)
 | [],_,acc=>some acc
 | t :: ts,τ,acc=>(fg t τ).bind fun τ1=>(ft τ1).bind fun p=>if p.1=true then (fe p.2).bind fun q=>if bX q.2=true /\ acc.length < sizeLine then ip fg ft fe ts q.2 (acc ++ [q.1]) else none
  else if bX p.2=true then ip fg ft fe ts p.2 acc else none
section
variable {X:Cx}
structure oQ (X:Cx) (pins:List (Addr × Obj)) (σ:L2.St) (F₀ H₀ F:Hp) (τ:aB) (rs:List O) (D C:Addr) (s:Shared):Prop where
 ex:∃ (H F3:Hp) (vs:List V) (As:List Addr),Inv X pins σ H s /\ aD X.K F₀ H₀ F3 H σ τ /\ aJ F F3 /\ F3 D=none /\ H D=some (.lst vs) /\ H₀ D=none /\ aU X.K F3 H rs vs As /\ As.Nodup /\ (∀ a ∈ As,H₀ a=none /\ a ≠ D) /\ Apart σ τ As /\ H C=none
 ns:∃ m,s.heap.Ns C m
 cl:C ≠ X.env.locals
 c0:X.s₀.heap.objs.size ≤ C
 cc:∀ x c,X.env.cells.lookup x=some c -> c ≠ C
 cp:∀ p ∈ X.pn ++ pins,p.1 ≠ C
 ow:∀ (j:Nat) us p,τ[j]? = some (some (.own us)) -> σ[j]? = some (some (.ref p)) -> p ≠ D
theorem o9 {elt tg iter:Expr} {ifs:List Expr} {scope:Scope} {pos:Pos} {N':List Str} {no:Nat} {cap:List Nat} {fi:FA} {fg:FG} {ft:FT} {fe:gX} (hx:X.xe=fun _ _=>False) (hc:X.calm=true) (B:eW X scope) (hN:N'.length=no + cap.length)
  (hcap:∀ (k j:Nat),cap[k]? = some j -> ∃ x,N'[no + k]? = some x /\ X.N[j]? = some x /\ (x,NameKind.free) ∈ scope.names) (hi:SI X tg iter fi)
  (hg:∀ C cs s₀ H₀ fp pins,SG (nZ X scope N' C cs s₀ H₀ fp pins) tg fg) (ht:∀ C cs s₀ H₀ fp pins,BB (nZ X scope N' C cs s₀ H₀ fp pins) ifs ft) (he:∀ C cs s₀ H₀ fp pins,qC (nZ X scope N' C cs s₀ H₀ fp pins) elt fe)
  {F₀ H₀ F H:Hp} {pins:List (Addr × Obj)} {s:Shared} {σ:L2.St} {τ τ1:aB} {ts:List T} {rs:List O} (I:Inv X pins σ H s) (E:aD X.K F₀ H₀ F H σ τ) (e2:fi τ=some (ts,τ1)) (ha:bX (cv no cap (frzAll cap τ1))=true) (e3:ip fg ft fe ts (cv no cap (frzAll cap τ1)) []=some rs)
  {post:Value -> Addr -> Result -> Shared -> Prop} (hpost:∀ D C s',oQ X pins σ F₀ H₀ F (frzAll cap τ1) rs D C s' -> post (.ref D) C (.ok .next) s') :
  wpAny (model X.prog X.w) X.A (eval iter X.env) (fun x s₁=>wpAny (model X.prog X.w) X.A (pyIter x) (fun it s₂=>wpAny (model X.prog X.w) X.A (newList []) (fun acc s₃ =>
   wpAny (model X.prog X.w) X.A (newFunctionEnv scope X.env.globals (mV X.env scope.names []) [] X.env.qual none .none (some X.env)) (fun cenv s₄ =>
    codeAny (model X.prog X.w) X.A (.compStart (.ListComp elt [⟨tg,iter,ifs,0⟩] scope pos) 0 it acc { cenv with scope:=relabel scope X.env }) (post acc cenv.locals) s₄) X.xe s₃) X.xe s₂) X.xe s₁) X.xe s:=by
 refine df (hi F₀ H₀ pins s σ H (fun J H1=>∃ F1,aD X.K F₀ H₀ F1 H1 σ τ1 /\ aJ F F1 /\ Walks X.K F1 ts J) I ⟨F,τ,ts,τ1,E,e2,fun F1 H1 J E1 s1 W=>⟨F1,E1,s1,W⟩⟩) fun v s1 h1=>df h1 fun itv s2 h2=>?_
 obtain ⟨it,fp,tn,J,H1,rfl,I2,Tn,st2,f2,F1,E1,sF1,W⟩:=h2
 obtain ⟨F2,E2,sF2⟩:=E1.frzAll cap
 have W2:Walks X.K F2 ts J:=⟨fun i t F3 H3 e a b=>W.go i t F3 H3 e (sF2.trans a) b,fun i t F3 H3 x H4 e a b y=>W.yld i t F3 H3 x H4 e (sF2.trans a) b y,fun F3 H3 a b=>W.stop F3 H3 (sF2.trans a) b⟩
 refine wpAny_newObj_type ?_
 have hz:(s2.heap.push kL).objs.size=s2.heap.objs.size + 1:=Heap.size_push ..
 have hz2:((s2.heap.push kL).push uZ).objs.size=s2.heap.objs.size + 2:=by rw [Heap.size_push,hz]
 simp only [newFunctionEnv,Option.isSome_some,if_true]
 refine wpAny_bind (wpAny_alloc ?_)
 refine wpAny_bind (wpAny_layCells _ (fun name kind cells=>by cases hkc:kind == NameKind.cell <;> simp [hkc]) _ _ _ _ ?_)
 simp only [List.forIn_nil]
 refine wpAny_bind (wpAny_pure (wpAny_pure ?_))
 have loop:codeAny (model X.prog X.w) X.A (.compLoop (.ListComp elt [⟨tg,iter,ifs,0⟩] scope pos) 0 (.ref it) (.ref s2.heap.objs.size) (il X scope (s2.heap.objs.size + 1) (cellsFrom (s2.heap.objs.size + 2) scope.names (mV X.env scope.names []))))
   (post (.ref s2.heap.objs.size) (s2.heap.objs.size + 1)) { s2 with heap:=h0 s2.heap scope }:=by
  have Ib:=rk (N':=N') (σ':=cv no cap σ) (tk:=s2.toks) I2 B f2 (fun b hb=>by obtain ⟨o,e,_⟩:=Tn.obj 0 _ st2 b hb; exact ⟨o,e⟩) (by simp [cv,hN]) (fun i x v a1 a2=>by
   obtain ⟨k,j,rfl,hk,hj⟩:=mU a2
   obtain ⟨x',b1,b2,b3⟩:=hcap k j hk
   rw [a1] at b1; cases b1
   exact .inl ⟨b3,j,b2,hj⟩)
  generalize hX':nZ X scope N' (s2.heap.objs.size + 1) (cellsFrom (s2.heap.objs.size + 2) scope.names (mV X.env scope.names [])) s2 H1 fp pins=X' at Ib
  have hg':SG X' tg fg:=by rw [<- hX']; exact hg _ _ _ _ _ _
  have ht':BB X' ifs ft:=by rw [<- hX']; exact ht _ _ _ _ _ _
  have he':qC X' elt fe:=by rw [<- hX']; exact he _ _ _ _ _ _
  have xP:X'.prog=X.prog:=by rw [<- hX']; rfl
  have xw:X'.w=X.w:=by rw [<- hX']; rfl
  have xK:X'.K=X.K:=by rw [<- hX']; rfl
  have xA:X'.A=X.A:=by rw [<- hX']; rfl
  have xc:X'.calm=true:=by rw [<- hX']; exact hc
  have xx:X'.xe=fun _ _=>False:=by rw [<- hX']; rfl
  have xe':X'.env=il X scope (s2.heap.objs.size + 1) (cellsFrom (s2.heap.objs.size + 2) scope.names (mV X.env scope.names [])):=by rw [<- hX']; rfl
  have xex:X'.ex=fp:=by rw [<- hX']; rfl
  have xfs:X'.fs=xC X.stack:=by rw [<- hX']; rfl
  have xpn:X'.pn=X.pn ++ pins:=by rw [<- hX']; rfl
  have xs0:X'.s₀=s2:=by rw [<- hX']; rfl
  have xH0:X'.H₀=H1:=by rw [<- hX']; rfl
  have xl:X'.env.locals=s2.heap.objs.size + 1:=by rw [<- hX']; rfl
  rw [<- xe',<- xP,<- xw,<- xA]
  have hD1:H1 s2.heap.objs.size=none:=I2.fresh
  have fpk:∀ {Hc:Hp} {σc:L2.St} {pc:List (Addr × Obj)} {sc:Shared},Inv X' pc σc Hc sc -> (∀ b ∈ fp,Hc b=none) -> ∀ b ∈ fp,qG X' [] Hc b:=fun {Hc σc pc sc} Ic hn b hb=>by
   have q1:=Ic.ok.exf b (by rw [xex]; exact hb)
   have q2:=Ic.ok.exfs b (by rw [xex]; exact hb)
   refine ⟨hn b hb,q1.1,q2,.inl (by rw [xex]; exact hb),q1.2,fun p hp=>?_⟩
   rw [xpn,List.append_nil] at hp
   exact (f2 b hb).2.2.2.2.2 p hp
  refine rC (fun n s3=>∃ i σ3 H3 F3 τ3 us vs As,Inv X' [] σ3 H3 s3 /\ tn i s3.heap /\ (∀ b ∈ fp,H3 b=none) /\ aD X.K F3 H3 F3 H3 σ3 τ3 /\ bX τ3=true /\ F3 s2.heap.objs.size=none /\ H3 s2.heap.objs.size=some (.lst vs) /\ (aU X.K F3 H3 us vs As /\ As.Nodup /\ ∀ a ∈ As,H1 a=none /\ a ≠ s2.heap.objs.size) /\ aJ F2 F3 /\ aJ H1 H3 /\
   (∀ a o,F3 a=some o -> F2 a=some o \/ H1 a=none) /\ i ≤ ts.length /\ n=ts.length - i /\ ip fg ft fe (ts.drop i) τ3 us=some rs) ?_ ts.length ?_
  ·rintro n s3 ⟨i,σ3,H3,F3,τ3,us,vs,As,I3,st3,fr3,E3,ha3,fD,hD,⟨rv,nd,fr⟩,sF,sH,nw,hi',rfl,ec⟩
   by_cases hlt:i < ts.length
   ·have hgi:ts[i]? = some ts[i]:=List.getElem?_eq_getElem hlt
    rw [List.drop_eq_getElem_cons hlt] at ec
    obtain ⟨τ4,e4,ec⟩:=bind_some ec
    obtain ⟨⟨b,τ5⟩,e5,ec⟩:=bind_some ec
    have go:=W2.go i _ F3 H3 hgi sF E3.g.fh
    have itm:=(xP ▸ xw ▸ xK ▸ Tn:Turn X'.prog X'.w X'.K tg J fp it tn).item X' rfl rfl rfl xc i [] s3 σ3 H3 (fun _ _=>False) I3 (fpk I3 fr3) st3 go
    refine df itm fun r s4 ⟨u,hr,h4⟩=>?_
    subst hr
    refine df h4 fun _ s5 ⟨x,H5,I5,r5,y5,st5,fr5⟩=>?_
    have I5':=I5.pinned (fpk I5 fr5) (Tn.obj _ _ st5)
    obtain ⟨F5,gr,rx⟩:=W2.yld i _ F3 H3 x H5 hgi sF E3.g.fh y5
    have a1:=hg' F3 H3 _ s5 σ3 H5 x u (fun σ6 H6=>∃ F6,aD X.K F3 H3 F6 H6 σ6 τ4 /\ aJ F5 F6) I5' r5 (by rw [xK]; exact ⟨F5,τ3,ts[i],τ4,E3.grow gr,rx,e4,fun F6 H6 σ6 E6 s6=>⟨F6,E6,s6⟩⟩)
    rw [xx] at a1
    refine df a1 fun _ s6 ⟨σ6,H6,I6,F6,E6,sF6⟩=>?_
    have a2:=ht' F3 H3 _ s6 σ6 H6 (fun b' H7=>b'=b /\ ∃ F7,aD X.K F3 H3 F7 H7 σ6 τ5 /\ aJ F6 F7) I6 (by rw [xK]; exact ⟨F6,τ4,b,τ5,E6,e5,fun F7 H7 E7 s7=>⟨rfl,F7,E7,s7⟩⟩)
    rw [xx] at a2
    refine df a2 fun ok s7 ⟨H7,I7,hok,F7,E7,sF7⟩=>?_
    subst hok
    have tail:∀ {σc:L2.St} {Hc:Hp} {sc:Shared},Inv X' ([] ++ ni fp s5.heap) σc Hc sc -> tn (i + 1) sc.heap /\ ∀ b ∈ fp,Hc b=none:=fun {σc Hc sc} Ic=>by
     refine ⟨Tn.keep _ _ _ st5 fun b hb o e=>(Ic.pin (b,o) (List.mem_append_right _ (List.mem_append_right _ (fN hb e)))).1,fun b hb=>?_⟩
     obtain ⟨o,e,d⟩:=Tn.obj _ _ st5 b hb
     exact (Ic.pin (b,o) (List.mem_append_right _ (List.mem_append_right _ (fN hb e)))).2.1
    have keepD:∀ {Fc Hc:Hp} {σc:L2.St} {τc:aB},aD X.K F3 H3 Fc Hc σc τc -> Fc s2.heap.objs.size=none:=fun {Fc Hc σc τc} Ec=>by
     cases eF:Fc s2.heap.objs.size with
     | none=>rfl
     | some o =>
      rcases Ec.g.nw _ o eF with z | z
      ·rw [fD] at z; cases z
      ·rw [hD] at z; cases z
    have newF:∀ {Fc Hc:Hp} {σc:L2.St} {τc:aB},aD X.K F3 H3 Fc Hc σc τc -> ∀ a o,Fc a=some o -> F2 a=some o \/ H1 a=none:=fun {Fc Hc σc τc} Ec a o eF=>by
     rcases Ec.g.nw a o eF with z | z
     ·exact nw a o z
     ·exact .inr (sH.free z)
    have mv:∀ {Fc Hc Hd:Hp} {σc:L2.St} {τc:aB},aD X.K F3 H3 Fc Hc σc τc -> (∀ a,a ≠ s2.heap.objs.size -> Hd a=Hc a) -> aU X.K Fc Hd us vs As:=fun {Fc Hc Hd σc τc} Ec hd=>by
     refine aU.move Ec.g.sF (fun a ha=>?_) rv
     obtain ⟨f1,ws,f2⟩:=rv.at a ha
     refine ⟨by rw [hd a (fr a ha).2,Ec.g.sH _ _ f2,f2],?_⟩
     cases eF:Fc a with
     | none=>rfl
     | some o =>
      rcases Ec.g.nw _ o eF with z | z
      ·rw [f1] at z; cases z
      ·rw [f2] at z; cases z
    cases b':ok with
    | false =>
     subst b'
     dsimp only at ec
     rw [if_neg (by decide)] at ec
     split at ec
     ·next ha =>
      rw [if_neg (by decide)]
      obtain ⟨t1,t2⟩:=tail I7
      exact ⟨ts.length - (i + 1),by omega,i + 1,σ6,H7,F7,τ5,us,vs,As,I7.unpinned,t1,t2,E7.rebase ha E7.g.fh,ha,keepD E7,E7.g.sH _ _ hD,⟨mv E7 (fun _ _=>rfl),nd,fr⟩,sF.trans E7.g.sF,sH.trans E7.g.sH,newF E7,hlt,rfl,ec⟩
     ·cases ec
    | true =>
     subst b'
     dsimp only at ec
     rw [if_pos rfl] at ec
     rw [if_pos rfl]
     obtain ⟨⟨y0,τ6⟩,e6,ec⟩:=bind_some ec
     dsimp only at ec
     split at ec
     ·next ha =>
      have a3:=he' F3 H3 _ s7 σ6 H7 (fun y H8=>∃ F8 Ay,aD X.K F3 H3 F8 H8 σ6 τ6 /\ cQ X.K F8 H8 y0 y Ay /\ Ay.Nodup /\ ∀ a ∈ Ay,H3 a=none) I7 (by rw [xK]; exact ⟨F7,τ5,y0,τ6,E7,e6,fun F8 H8 y Ay E8 s8 r8 n8 h8 _=>⟨F8,Ay,E8,r8,n8,h8⟩⟩)
      rw [xx] at a3
      refine df a3 fun yv s8 ⟨y,H8,I8,ry,F8,Ay,E8,rp,ndy,hy8⟩=>?_
      have dD:H8 s2.heap.objs.size=some (.lst vs):=E8.g.sH _ _ hD
      have a4:=gx (X:=X') _ s8 σ6 H8 (.ref s2.heap.objs.size) [y] (.ref s2.heap.objs.size) [yv] (fun _ H9=>H9=upd H8 s2.heap.objs.size (.lst (vs ++ [y]))) I8 rfl (.cons ry .nil) ⟨s2.heap.objs.size,vs,y,rfl,rfl,dD,by rw [rv.length]; exact ha.2,rfl⟩
      rw [xx] at a4
      refine df a4 fun _ s9 ⟨_,H9,I9,_,e9⟩=>?_
      subst e9
      obtain ⟨t1,t2⟩:=tail I9
      have kD:=keepD E8
      have sm:aJ F8 (upd H8 s2.heap.objs.size (.lst (vs ++ [y]))):=fun c o z=>by rw [az (fun w=>by subst w; rw [kD] at z; cases z)]; exact E8.g.fh _ _ z
      have sm1:aJ H1 (upd H8 s2.heap.objs.size (.lst (vs ++ [y]))):=fun c o z=>by rw [az (fun w=>by subst w; rw [hD1] at z; cases z)]; exact E8.g.sH _ _ (sH _ _ z)
      have yD:∀ a ∈ Ay,a ≠ s2.heap.objs.size:=fun a ha z=>by have:=hy8 a ha; rw [z,hD] at this; cases this
      have rp9:cQ X.K F8 (upd H8 s2.heap.objs.size (.lst (vs ++ [y]))) y0 y Ay:=cQ.move (aJ.refl _) (fun a ha=>⟨az (yD a ha),(rp.at a ha).1⟩) rp
      have all9:aU X.K F8 (upd H8 s2.heap.objs.size (.lst (vs ++ [y]))) (us ++ [y0]) (vs ++ [y]) (As ++ Ay):=(mv E8 (fun a ha=>az ha)).app (.one rp9)
      have nd9:(As ++ Ay).Nodup:=List.nodup_append.mpr ⟨nd,ndy,fun a ha b hb z=>by subst z; obtain ⟨_,ws,f2⟩:=rv.at a ha; rw [hy8 a hb] at f2; cases f2⟩
      have fr9:∀ a ∈ As ++ Ay,H1 a=none /\ a ≠ s2.heap.objs.size:=fun a ha=>by
       rcases List.mem_append.mp ha with ha | ha
       ·exact fr a ha
       ·exact ⟨sH.free (hy8 a ha),yD a ha⟩
      exact ⟨ts.length - (i + 1),by omega,i + 1,σ6,_,F8,τ6,us ++ [y0],vs ++ [y],As ++ Ay,I9.unpinned,t1,t2,E8.rebase ha.1 sm,ha.1,kD,aN,⟨all9,nd9,fr9⟩,sF.trans E8.g.sF,sm1,newF E8,hlt,rfl,ec⟩
     ·cases ec
   ·have hie:i=ts.length:=by omega
    subst hie
    rw [List.drop_length] at ec
    cases ec
    have dn:=(xP ▸ xw ▸ xK ▸ Tn:Turn X'.prog X'.w X'.K tg J fp it tn).done X' rfl rfl rfl xc ts.length [] s3 σ3 H3 (fun _ _=>False) I3 (fpk I3 fr3) st3 (W2.stop F3 H3 sF E3.g.fh)
    refine df dn fun r s4 ⟨hr,I4⟩=>?_
    subst hr
    obtain ⟨m4,hm4,_⟩:=I4.loc
    rw [xl] at hm4
    have un:=I4.base
    rw [xfs,xex,xH0,xs0] at un
    have ox:=I4.os
    rw [xs0] at ox
    have hok4:=I4.hok
    rw [xP,xw] at hok4
    have IX:Inv X pins σ H3 s4:=I2.call' ox un hok4 I4.bare fun b hb=>⟨(f2 b hb).2.2.2.1,(f2 b hb).2.1,(f2 b hb).2.2.2.2.1,(f2 b hb).2.2.2.2.2⟩
    have hC:H3 (s2.heap.objs.size + 1)=none:=by have:=I4.free; rw [xl] at this; exact this
    have lC:@LT.lt Nat _ X.env.locals s2.heap.objs.size:=I2.lt
    have gr:br F2 H1 F3 H3:=⟨sF,sH,E3.g.fh,nw⟩
    have ap3:Apart σ (frzAll cap τ1) As:=fun j us p j1 j2 m=>by
     obtain ⟨v,k1,p',vs',rfl,k2,_⟩:=E2.sl j _ j1
     rw [j2] at k1; cases k1
     rw [(fr _ m).1] at k2; cases k2
    refine hpost _ _ _ ⟨⟨H3,F3,vs,As,IX,E2.grow gr,(sF1.trans sF2).trans sF,fD,hD,E2.g.sH.free hD1,rv,nd,fun a ha=>⟨E2.g.sH.free (fr a ha).1,(fr a ha).2⟩,ap3,hC⟩,⟨m4,hm4⟩,Nat.ne_of_gt (Nat.lt_succ_of_lt lC),Nat.le_trans I2.sz (Nat.le_succ _),
     fun x c hxc=>by obtain ⟨v,z⟩:=I2.cell x c hxc; exact Nat.ne_of_lt (Nat.lt_succ_of_lt z.lt),fun p hp=>Nat.ne_of_lt (Nat.lt_succ_of_lt (Heap.lt_size (I2.pin p hp).1)),fun j us p j1 j2=>?_⟩
    obtain ⟨v,k1,p',vs',rfl,k2,_⟩:=E2.sl j _ j1
    rw [j2] at k1; cases k1
    exact bx k2 hD1
  ·refine ⟨0,cv no cap σ,upd H1 s2.heap.objs.size (.lst []),F2,cv no cap (frzAll cap τ1),[],[],[],Ib,Tn.keep _ _ _ st2 fun b hb o e=>gp e,fun b hb=>?_,E2.block ha (E2.g.fh.trans (bW hD1)),ha,E2.g.fh.free hD1,aN,⟨⟨rfl,rfl⟩,List.nodup_nil,fun a ha=>by cases ha⟩,aJ.refl _,bW hD1,fun a o z=>.inl z,Nat.zero_le _,rfl,e3⟩
   obtain ⟨o,e,_⟩:=Tn.obj 0 _ st2 b hb
   rw [az (Nat.ne_of_lt (Heap.lt_size e))]
   exact (f2 b hb).1
 have fin:∀ {C:Addr} {cs:List (Str × Addr)},C=s2.heap.objs.size + 1 -> cs=cellsFrom (s2.heap.objs.size + 2) scope.names (mV X.env scope.names []) ->
   codeAny (model X.prog X.w) X.A (.compStart (.ListComp elt [⟨tg,iter,ifs,0⟩] scope pos) 0 (.ref it) (.ref s2.heap.objs.size) (il X scope C cs)) (post (.ref s2.heap.objs.size) C) { s2 with heap:=h0 s2.heap scope }:=fun {C cs} h1 h2=>by
  subst h1 h2
  exact codeAny_compStart_list loop (Tn.self _ 0 _ _ _ (Tn.keep _ _ _ st2 fun b hb o e=>gp e) loop)
 exact fin hz (by rw [<- hz2])
def cJ (no:Nat) (cap:List Nat) (fi:FA) (fg:FG) (ft:FT) (fe:gX):gX:=fun τ=>(fi τ).bind fun p =>
 if bX (cv no cap (frzAll cap p.2))=true then (ip fg ft fe p.1 (cv no cap (frzAll cap p.2)) []).bind fun us=>some (.lst us,frzAll cap p.2) else none
theorem oQ.fin {pins:List (Addr × Obj)} {σ:L2.St} {F₀ H₀ F:Hp} {τ:aB} {rs:List O} {D C:Addr} {s:Shared} (Z:oQ X pins σ F₀ H₀ F τ rs D C s) :
  ∃ (H F3:Hp) (As:List Addr),Inv X pins σ H s /\ aD X.K F₀ H₀ F3 H σ τ /\ aJ F F3 /\ cQ X.K F3 H (.lst rs) (.ref D) As /\ As.Nodup /\ (∀ a ∈ As,H₀ a=none) /\ Apart σ τ As /\ H C=none:=by
 obtain ⟨H,F3,vs,As,IX,E3,sF,fD,hD,h0D,rv,nd,h0,ap,hC⟩:=Z.ex
 refine ⟨H,F3,D :: As,IX,E3,sF,⟨D,vs,As,rfl,rfl,hD,fD,rv⟩,List.nodup_cons.mpr ⟨fun m=>(h0 D m).2 rfl,nd⟩,fun a ha=>?_,fun j us p e1 e2 m=>?_,hC⟩
 ·rcases List.mem_cons.mp ha with rfl | ha
  ·exact h0D
  ·exact (h0 a ha).1
 ·rcases List.mem_cons.mp m with rfl | m
  ·exact Z.ow j us _ e1 e2 rfl
  ·exact ap j us p e1 e2 m
theorem fA {elt tg iter:Expr} {ifs:List Expr} {scope:Scope} {pos:Pos} {N':List Str} {no:Nat} {cap:List Nat} {fi:FA} {fg:FG} {ft:FT} {fe:gX} (hx:X.xe=fun _ _=>False) (hc:X.calm=true) (B:eW X scope) (hN:N'.length=no + cap.length)
  (hcap:∀ (k j:Nat),cap[k]? = some j -> ∃ x,N'[no + k]? = some x /\ X.N[j]? = some x /\ (x,NameKind.free) ∈ scope.names) (hi:SI X tg iter fi)
  (hg:∀ C cs s₀ H₀ fp pins,SG (nZ X scope N' C cs s₀ H₀ fp pins) tg fg) (ht:∀ C cs s₀ H₀ fp pins,BB (nZ X scope N' C cs s₀ H₀ fp pins) ifs ft) (he:∀ C cs s₀ H₀ fp pins,qC (nZ X scope N' C cs s₀ H₀ fp pins) elt fe)
  (hs:∀ x,foldedSetIterable iter X.env x=pure x:=by intro _; rfl):qC X (.ListComp elt [⟨tg,iter,ifs,0⟩] scope pos) (cJ no cap fi fg ft fe):=by
 intro F₀ H₀ pins s σ H Q I ⟨F,τ,t,τ',E,e1,q⟩
 obtain ⟨⟨ts,τ1⟩,e2,e1⟩:=bind_some e1
 dsimp only at e1
 split at e1
 ·next ha =>
  obtain ⟨rs,e3,e1⟩:=bind_some e1
  cases e1
  have hfree:∀ y ∈ scope.names,y.2=.free -> ∃ c,X.env.cells.lookup y.1=some c:=fun y hy hk=>I.ok.has y.1 (B.free y hy hk).1
  rw [eval_ListComp]
  refine wpAny_comprehension_free (use:=none) rfl hs (jb hfree) B.kind B.names (o9 hx hc B hN hcap hi hg ht he I E e2 ha e3 fun D C s' Z=>?_)
  obtain ⟨H3,F3,As,IX,E3,sF,ro,nd,h0,ap,hC⟩:=Z.fin
  obtain ⟨m,hm⟩:=Z.ns
  refine ⟨m,hm,fun h' sb=>⟨.ref D,H3,IX.turned (t':=s'.toks) (it:=C) (fun b o hb e=>(sb.2 b hb).trans e) hC Z.cl (.inr Z.c0) Z.cc Z.cp,rfl,?_⟩⟩
  exact q F3 H3 (.ref D) As E3 sF ro nd h0 ap
 ·cases e1
def GO (K:PySem.W.Frag) (F₀ H₀:Hp) (i:Nat) (f:gX):TS:=fun D σ H=>∃ F τ o τ',aD K F₀ H₀ F H σ τ /\ f τ=some (o,τ') /\
 ∀ F' H' v A,aD K F₀ H₀ F' H' σ τ' -> aJ F F' -> cQ K F' H' o v A -> A.Nodup -> (∀ a ∈ A,H₀ a=none) -> Apart σ τ' A -> D.nx (σ.set i (some v)) H'
theorem wt (i:Nat) {y:Str} {py spos:Pos} {elt tg iter:Expr} {ifs:List Expr} {scope:Scope} {pos:Pos} {N':List Str} {no:Nat} {cap:List Nat} {fi:FA} {fg:FG} {ft:FT} {fe:gX} (hNd:X.N.Nodup) (hiy:X.N[i]? = some y) (hy:X.env.scope.names.lookup y=some .local)
  (hx:X.xe=fun _ _=>False) (hc:X.calm=true) (B:eW X scope) (hN:N'.length=no + cap.length)
  (hcap:∀ (k j:Nat),cap[k]? = some j -> ∃ x,N'[no + k]? = some x /\ X.N[j]? = some x /\ (x,NameKind.free) ∈ scope.names) (hi:SI X tg iter fi)
  (hg:∀ C cs s₀ H₀ fp pins,SG (nZ X scope N' C cs s₀ H₀ fp pins) tg fg) (ht:∀ C cs s₀ H₀ fp pins,BB (nZ X scope N' C cs s₀ H₀ fp pins) ifs ft) (he:∀ C cs s₀ H₀ fp pins,qC (nZ X scope N' C cs s₀ H₀ fp pins) elt fe)
  (hsw:swapsWith (.ListComp elt [⟨tg,iter,ifs,0⟩] scope pos) (some (.Name y py)) spos.line X.env=pure true:=by rfl) (hs:∀ x,foldedSetIterable iter X.env x=pure x:=by intro _; rfl) (F₀ H₀:Hp) :
  PS X (.Assign [.Name y py] (.ListComp elt [⟨tg,iter,ifs,0⟩] scope pos) spos) (GO X.K F₀ H₀ i (cJ no cap fi fg ft fe)):=by
 intro pins s σ H Dn I ⟨F,τ,r,τ',E,e1,q⟩
 obtain ⟨⟨ts,τ1⟩,e2,e1⟩:=bind_some e1
 dsimp only at e1
 split at e1
 ·next ha =>
  obtain ⟨rs,e3,e1⟩:=bind_some e1
  cases e1
  have hfree:∀ y ∈ scope.names,y.2=.free -> ∃ c,X.env.cells.lookup y.1=some c:=fun y hy hk=>I.ok.has y.1 (B.free y hy hk).1
  rw [exec_Assign_Name_used _ _ _ _ hsw]
  refine wpAny_bind (wpAny_standAt (wpAny_bind (?_:wpAny _ X.A (do let _ <- comprehension (.ListComp elt [⟨tg,iter,ifs,0⟩] scope pos) scope X.env _ (newList []) false (eval iter X.env) (some (assign (.Name y py) X.env))) _ _ s)))
  refine wpAny_bind (df (wpAny_comprehension_free (use:=some (assign (.Name y py) X.env)) (Q:=fun _ s'=>SP X pins Dn .next s') rfl hs (jb hfree) B.kind B.names (o9 hx hc B hN hcap hi hg ht he I E e2 ha e3 fun D C s' Z=>?_)) fun _ s' hq=>wpAny_pure (wpAny_pure hq))
  obtain ⟨H3,F3,As,IX,E3,sF,ro,nd,h0,ap,hC⟩:=Z.fin
  obtain ⟨m,hm⟩:=Z.ns
  refine (wpAny_assign_Name (nI IX hNd hiy (.inl hy) (v:=.ref D) rfl (fun s'' I'' w=>?_) (.inr hy)):wpAny _ X.A (assign (.Name y py) X.env (.ref D)) _ _ _)
  obtain ⟨a,sb,hab⟩:=w
  have aC:C ≠ a:=fun z=>by
   subst z
   rcases hab with z | z
   ·exact Z.cl z
   ·exact Z.cc _ _ z rfl
  refine ⟨m,hm.sameBut sb aC,fun h' sb'=>⟨_,H3,I''.turned (t':=s''.toks) (it:=C) (fun b o hb e=>(sb'.2 b hb).trans e) hC Z.cl (.inr Z.c0) Z.cc Z.cp,?_⟩⟩
  exact q F3 H3 _ As E3 sF ro nd h0 ap
 ·cases e1
end
open PySem PySem.Spec PyProof.Rows L2
def kX (H:Hp) (A:List Addr):Hp:=fun a=>if a ∈ A then none else H a
theorem h9 {H:Hp} {A:List Addr} {a:Addr} (h:a ∈ A):kX H A a=none:=if_pos h
theorem dh {H:Hp} {A:List Addr} {a:Addr} (h:a ∉ A):kX H A a=H a:=if_neg h
theorem AB {H:Hp} {A:List Addr}:aJ (kX H A) H:=fun a o e=>by
 by_cases m:a ∈ A
 ·rw [h9 m] at e; cases e
 ·rw [dh m] at e; exact e
def MS (K:PySem.W.Frag) (n:Nat) (d:O -> List T -> Option T):Sp:=fun vs H Q _=>vs.length=n /\ ∃ F o v ws ts A t,aJ F H /\ vs=v :: ws /\ cQ K F H o v A /\ A.Nodup /\ aQ K F ts ws /\ d o ts=some t /\
 ∀ F' H' v',br F (kX H A) F' H' -> Rep K F' t v' -> Q v' H'
structure Ao (P:Program) (w:World) (K:PySem.W.Frag) (mg:Str -> Option Value) (base:Heap) (k:Nat) (x:Str) (n:Nat) (d:O -> List T -> Option T):Prop where
 ex:∃ f fd ps,fI P w K mg base mP k f fd ps (MS K n d) /\ Binds K fd ps [] /\ PySem.W.keepIn K (.ref f)=true /\ mg x=some (.ref f) /\ ps.length=n
theorem Ao.imp {P:Program} {w:World} {K:PySem.W.Frag} {mg:Str -> Option Value} {base:Heap} {k n:Nat} {x:Str} {d d':O -> List T -> Option T} (D:Ao P w K mg base k x n d) (h:∀ o ts t,d' o ts=some t -> d o ts=some t):Ao P w K mg base k x n d':=by
 obtain ⟨f,fd,ps,F,r⟩:=D.ex
 exact ⟨f,fd,ps,F.imp fun vs H Q E ⟨l,F,o,v,ws,ts,A,t,a,b,c,nd,r,e,q⟩=>⟨l,F,o,v,ws,ts,A,t,a,b,c,nd,r,h _ _ _ e,q⟩,r⟩
theorem Ao.mono {P:Program} {w:World} {K:PySem.W.Frag} {mg:Str -> Option Value} {base:Heap} {j k n:Nat} {x:Str} {d:O -> List T -> Option T} (D:Ao P w K mg base j x n d) (h:j ≤ k):Ao P w K mg base k x n d:=by
 obtain ⟨f,fd,ps,F,r⟩:=D.ex
 exact ⟨f,fd,ps,F.mono h,r⟩
section
variable {K:PySem.W.Frag} {F₀ H₀ F₁ H₁ F H F' H':Hp} {σ:L2.St} {τ:aB}
theorem aD.back (E:aD K F₁ H₁ F H σ τ) (ha:bX τ=true) (g:br F₀ H₀ F₁ H₁):aD K F₀ H₀ F H σ τ:=by
 refine ⟨g.trans E.g,E.len,fun i sl e=>?_,fun i j ts us p _ e1=>absurd e1 (dH ha)⟩
 obtain ⟨v,h1,h2⟩:=E.sl i sl e
 cases sl with
 | sh t=>exact ⟨v,h1,h2⟩
 | own ts=>exact absurd e (dH ha)
theorem aD.to (E:aD K F₁ H₁ F H σ τ) (ha:bX τ=true) (sF:aJ F F') (g:br F₀ H₀ F' H'):aD K F₀ H₀ F' H' σ τ:=by
 refine ⟨g,E.len,fun i sl e=>?_,fun i j ts us p _ e1=>absurd e1 (dH ha)⟩
 obtain ⟨v,h1,h2⟩:=E.sl i sl e
 cases sl with
 | sh t=>exact ⟨v,h1,Rep.mono sF h2⟩
 | own ts=>exact absurd e (dH ha)
theorem cQ.over {o:O} {v:V} {A:List Addr} (g:br F H F' H') (h:cQ K F H o v A):cQ K F' H' o v A:=by
 refine cQ.move g.sF (fun a ha=>?_) h
 obtain ⟨f1,ws,f2⟩:=h.at a ha
 refine ⟨by rw [g.sH _ _ f2,f2],?_⟩
 cases eF:F' a with
 | none=>rfl
 | some o =>
  rcases g.nw _ o eF with z | z
  ·rw [f1] at z; cases z
  ·rw [f2] at z; cases z
end
section
variable {X:Cx} {e:Expr} {f:FE} {ft:FT} {es:List Expr} {g:FA}
theorem SE.any (h:SE X e f):PE X e (fun σ H Q=>∃ F₀ H₀,tE X.K F₀ H₀ f σ H Q):=fun pins s σ H Q I ⟨F₀,H₀,q⟩=>h F₀ H₀ pins s σ H Q I q
theorem ST.any (h:ST X e ft):PT X e (fun σ H Q=>∃ F₀ H₀,tT X.K F₀ H₀ ft σ H Q):=fun pins s σ H Q I ⟨F₀,H₀,q⟩=>h F₀ H₀ pins s σ H Q I q
theorem SA.any (h:SA X es g):PA X es (fun σ H Q=>∃ F₀ H₀,tA X.K F₀ H₀ g σ H Q):=fun p pins s σ H Q I ⟨F₀,H₀,q⟩=>h F₀ H₀ p pins s σ H Q I q
theorem qZ.any {ss:List Stmt} {fs:FS} (h:qZ X ss fs):iQ X ss (fun D σ H=>∃ F₀ H₀,tS X.K F₀ H₀ fs D σ H):=fun pins s σ H D I ⟨F₀,H₀,q⟩=>h F₀ H₀ pins s σ H D I q
def Mg (X:Cx) (S:Stmt) (i:Nat) (fo:gX):Prop:=∀ F₀ H₀,PS X S (GO X.K F₀ H₀ i fo)
theorem wL {i:Nat} {y:Str} {py spos:Pos} {elt tg iter:Expr} {ifs:List Expr} {scope:Scope} {pos:Pos} {N':List Str} {no:Nat} {cap:List Nat} {fi:FA} {fg:FG} {ft:FT} {fe:gX} (hNd:X.N.Nodup) (hiy:X.N[i]? = some y) (hy:X.env.scope.names.lookup y=some .local)
  (hx:X.xe=fun _ _=>False) (hc:X.calm=true) (B:eW X scope) (hN:N'.length=no + cap.length)
  (hcap:∀ (k j:Nat),cap[k]? = some j -> ∃ x,N'[no + k]? = some x /\ X.N[j]? = some x /\ (x,NameKind.free) ∈ scope.names) (hi:SI X tg iter fi)
  (hg:∀ C cs s₀ H₀ fp pins,SG (nZ X scope N' C cs s₀ H₀ fp pins) tg fg) (ht:∀ C cs s₀ H₀ fp pins,BB (nZ X scope N' C cs s₀ H₀ fp pins) ifs ft) (he:∀ C cs s₀ H₀ fp pins,qC (nZ X scope N' C cs s₀ H₀ fp pins) elt fe)
  (hsw:swapsWith (.ListComp elt [⟨tg,iter,ifs,0⟩] scope pos) (some (.Name y py)) spos.line X.env=pure true:=by rfl) (hs:∀ x,foldedSetIterable iter X.env x=pure x:=by intro _; rfl) :
  Mg X (.Assign [.Name y py] (.ListComp elt [⟨tg,iter,ifs,0⟩] scope pos) spos) i (cJ no cap fi fg ft fe):=
 fun F₀ H₀=>wt i hNd hiy hy hx hc B hN hcap hi hg ht he hsw hs F₀ H₀
end
open PySem PySem.Spec PyProof.Rows L2
section
variable {X:Cx}
def boolsOf:List T -> Option (List Bool)
 | []=>some []
 | .bl b :: r=>(boolsOf r).bind fun bs=>some (b :: bs)
 | _=>none
def ph:List T -> Option T
 | [.lst ts]=>(boolsOf ts).bind fun bs=>some (.bl (bs.all id))
 | _=>none
theorem rl {K:PySem.W.Frag} {F:Hp}:∀ {ts:List T} {bs:List Bool} {vs:List V} {its:List Value},boolsOf ts=some bs -> aQ K F ts vs -> Vals vs its -> its=bs.map Value.bool
 | [],bs,vs,its,e,r,z=>by
  cases e; cases r; cases z; rfl
 | t :: ts,bs,vs,its,e,r,z=>by
  obtain ⟨v,rr,rfl,h1,h2⟩:=r
  unfold boolsOf at e
  split at e
  ·next he=>cases he
  ·next b r0 he =>
   cases he
   obtain ⟨bs',e1,e2⟩:=bind_some e
   cases e2
   cases h1
   cases z with
   | cons rz zz =>
    cases rz
    rw [rl e1 h2 zz]
    rfl
  ·cases e
theorem EE {s:Shared} {h':Heap} {o:Obj} (hk:∀ b x,b ∉ [s.heap.objs.size] -> (s.heap.push o).get? b=some x -> h'.get? b=some x):∀ b x,s.heap.get? b=some x -> h'.get? b=some x:=
 fun b x e=>hk b x (fun hm=>by rw [List.mem_singleton.mp hm] at e; exact Nat.lt_irrefl _ (Heap.lt_size e)) (Heap.get?_push_of_some _ e)
theorem range_all (bs:List Bool):((List.range bs.length).all fun i=>(bs[i]?).getD true)=bs.all id:=by
 induction bs with
 | nil=>rfl
 | cons b bs ih =>
  rw [List.length_cons,List.range_succ_eq_map,List.all_cons,List.all_map]
  simp only [List.all_cons,List.getElem?_cons_zero,Option.getD_some,id]
  rw [<- ih]
  congr 1
theorem xo (hc:X.calm=true):kJ X (.builtin "all") ph:=by
 intro pins s σ H xs us Q I rx ⟨F,ts,t,sm,r,e,q⟩
 unfold ph at e
 split at e
 ·next ts =>
  obtain ⟨bs,e1,e2⟩:=bind_some e
  cases e2
  obtain ⟨v,rr,rfl,⟨p,vs,rfl,h1,h2⟩,rfl⟩:=r
  obtain ⟨u,rfl,ru⟩:=Vals.one rx
  cases ru
  obtain ⟨its,rv,pl,hz⟩:=I.list (dE.of (sm _ _ h1))
  have hb:=rl e1 h2 rv
  subst hb
  have hl:=pl.isList
  have hlt:@LT.lt Nat _ p s.heap.objs.size:=by obtain ⟨_,e,_⟩:=hl; exact Heap.lt_size e
  refine call_all_walk (wpAny_pyIter_list hl ?_)
  refine ⟨s.heap.objs.size,[s.heap.objs.size,p],[s.heap.objs.size],(bs.map Value.bool).toArray.size,_,_,fun i=>(bs[i]?).getD true,rfl,PySem.Walks.list (A:=X.A.in1) (I.ok.hd hc) _ p (Nat.ne_of_lt hlt) (bs.map Value.bool).toArray,
   ⟨⟨_,Heap.get?_push_size _ rfl,rfl,rfl⟩,hl.push _⟩,fun i v s' Q' E' hP hQ=>?_,fun h' tk hk=>?_⟩
  ·have hP':(bs.map Value.bool)[i]? = some v:=by simpa using hP
   rw [List.getElem?_map] at hP'
   cases eb:bs[i]? with
   | none=>rw [eb] at hP'; cases hP'
   | some b =>
    rw [eb] at hP'
    have:v=.bool b:=(Option.some.inj hP').symm
    subst this
    simp only [eb,Option.getD_some] at hQ
    exact wpAny_truthy_bool hQ
  ·have e:((List.range (bs.map Value.bool).toArray.size).all fun i=>(bs[i]?).getD true)=bs.all id:=by
    rw [List.size_toArray,List.length_map]
    exact range_all bs
   rw [e]
   exact ⟨.bl _,H,I.kept (t':=tk) (EE hk),rfl,q F H _ (br.refl sm) rfl⟩
 ·cases e
def dO:List T -> Option T
 | [.lst ts]=>some (.tup ts)
 | [.tup ts]=>some (.tup ts)
 | _=>none
theorem iI:kJ X (.type "tuple") dO:=lY kN fun vs H Q hq__=>by
 obtain ⟨F,ts,t,sm,r,e,q⟩:=hq__
 unfold dO at e
 split at e
 ·obtain ⟨v,rr,rfl,⟨p,xs,rfl,h1,h2⟩,rfl⟩:=r
  cases e
  refine ⟨p,xs,rfl,.inl ⟨dE.of (sm _ _ h1),fun l hl=>?_⟩⟩
  have gr:=br.new (.tup xs) sm hl
  exact q _ _ _ gr ⟨l,xs,rfl,js.of aN,aQ.mono gr.sF h2⟩
 ·obtain ⟨v,rr,rfl,⟨p,xs,rfl,h1,h2⟩,rfl⟩:=r
  cases e
  exact ⟨p,xs,rfl,.inr ⟨cg sm h1,q F H _ (br.refl sm) ⟨p,xs,rfl,h1,h2⟩⟩⟩
 ·cases e
theorem EJ:Gk X "int.bit_length" (fun x vs H Q=>∃ i,x=.int i /\ vs=[] /\ Q (.int (Builtin.Int.intBits i)) H):=by
 intro pins s σ H x vs v us Q I rx rv ⟨i,hx,hvs,q⟩
 subst hx; subst hvs
 obtain ⟨t,rfl⟩:=rx
 have:=rv.zero
 subst this
 exact PyProof.Rows.call_int_bit_length ⟨.int _,H,I.tok _,⟨_,rfl⟩,q⟩
def ju:T -> Option T
 | .int i=>some (.int (Builtin.Int.intBits i))
 | _=>none
theorem ky {e:Expr} {f:FE} {p2 p3:Pos} (he:SE X e f) (hbase:attributeBase e "bit_length" X.env (eval e X.env)=eval e X.env:=by rfl) (hline:(p2.endLine == p3.line)=true:=by rfl) :
  SE X (.Call (.Attribute e "bit_length" p2) [] [] p3) (uI ju f):=fun F₀ H₀ =>
 PE.weak (yh PySem.F.plainAttrs_int PySem.F.slot_int_bit_length PySem.F.type_int_bit_length EJ (he F₀ H₀) hbase hline) fun σ H Q hq__=>by
  obtain ⟨F,τ,t,τ',E,e1,q⟩:=hq__
  obtain ⟨⟨x,τ1⟩,e2,e1⟩:=bind_some e1
  obtain ⟨z,e4,e1⟩:=bind_some e1
  cases e1
  refine ⟨F,τ,x,_,E,e2,fun F1 H1 v1 E1 s1 r1=>?_⟩
  dsimp only at e4
  unfold ju at e4
  split at e4
  ·cases e4; cases r1
   exact ⟨rfl,_,rfl,rfl,q F1 H1 _ E1 s1 rfl⟩
  ·cases e4
theorem gO {x:Str} {i:Int} {t:Tok} {pos:Pos} (hg:Gl X x) (hm:X.mg x=some (.int i t)) (hd:(x == ("__debug__" : Str))=false:=by decide):SE X (.Name x pos) (fC (.int i)):=jZ (zN (v:=.int i) hg hm ⟨_,rfl⟩ hd) fun _=>rfl
def aX (f:FE):FA:=fun τ=>(f τ).bind fun p=>match p.1 with | .lst ts=>some (ts,p.2) | .scr ts=>some (ts,p.2) | .tup ts=>some (ts,p.2) | _=>none
theorem cj {tg l:Expr} {f:FE} (h:SE X l f):SI X tg l (aX f):=by
 intro F₀ H₀ pins s σ H R I ⟨F,τ,ts,τ',E,e1,q⟩
 obtain ⟨⟨x,τ1⟩,e2,e1⟩:=bind_some e1
 dsimp only at e1
 split at e1
 ·exact zY h F₀ H₀ pins s σ H R I ⟨F,τ,ts,τ',E,by unfold xy; rw [e2]; exact e1,q⟩
 ·exact zY h F₀ H₀ pins s σ H R I ⟨F,τ,ts,τ',E,by unfold xy; rw [e2]; exact e1,q⟩
 ·exact Io h F₀ H₀ pins s σ H R I ⟨F,τ,ts,τ',E,by unfold Cb; rw [e2]; exact e1,q⟩
 ·cases e1
end
theorem Eo {P:Program} {w:World} {K:PySem.W.Frag} {mg:Str -> Option Value} {base:Heap} {x qual:Str} {st:Stmt} {f:Addr} {fd:FuncData} {N ps:List Str} {k:Nat} {fb:FS} (F:fG K x qual st f fd) (S:aS N ps (ax st))
  (h:∀ (cdv:Value) (A:Around) (outer:List Env) (s:Shared) (H:Hp) (E:XK),dq k (A.deeper (envOfC qual (ax st) s.heap.objs.size f cdv)) -> qZ (mW mP P w K mg base N qual (ax st) f cdv A outer s H E).nox (dy st) fb) :
  fI P w K mg base mP (k + 1) f fd ps (spT K ps.length (cW N.length ps.length fb)):=by
 refine F.ok S (fun vs H Q E z=>z.1) (fun cdv A outer s H vs Q E hr z=>?_)
 obtain ⟨hl,F1,ts,t,sm,r,e,q⟩:=z
 unfold cW at e
 split at e
 ·next hn =>
  obtain ⟨r',e1,e⟩:=bind_some e
  refine ⟨_,h cdv A outer s H E hr F1 H,F1,_,r',?_,e1,?_⟩
  ·have:=fM (N:=N) sm r
   rw [hn] at this
   exact this
  ·cases r' with
   | rt u=>cases e; exact fun F' H' v g r'=>q F' H' v g r'
   | nx τ=>cases e; exact fun F' H' σ' E' s'=>q F' H' .non E'.g rfl
   | bk τ=>cases e
   | ct τ=>cases e
 ·cases e
open PySem PySem.Spec PyProof.Rows L2
theorem SS.any {X:Cx} {st:Stmt} {fs:FS} (h:SS X st fs):PS X st (fun D σ H=>∃ F₀ H₀,tS X.K F₀ H₀ fs D σ H):=fun pins s σ H D I ⟨F₀,H₀,q⟩=>h F₀ H₀ pins s σ H D I q
structure eU (K:PySem.W.Frag) (F0 H0 F H:Hp) (p:Addr) (os:List O) (A:List Addr):Prop where
 g:br F0 H0 F H
 r:cQ K F H (.lst os) (.ref p) A
 nd:A.Nodup
 h0:∀ a ∈ A,H0 a=none
section
variable {K:PySem.W.Frag} {F0 H0 F H F1 H1:Hp} {p:Addr} {os:List O} {A:List Addr}
theorem eU.hp (S:eU K F0 H0 F H p os A) (s:aJ H H1):eU K F0 H0 F H1 p os A:=
 ⟨⟨S.g.sF,S.g.sH.trans s,S.g.fh.trans s,S.g.nw⟩,cQ.move (aJ.refl _) (fun a ha=>by obtain ⟨f1,ws,f2⟩:=S.r.at a ha; exact ⟨by rw [s _ _ f2,f2],f1⟩) S.r,S.nd,S.h0⟩
theorem eU.over (S:eU K F0 H0 F H p os A) (g:br F H F1 H1):eU K F0 H0 F1 H1 p os A:=⟨S.g.trans g,S.r.over g,S.nd,S.h0⟩
theorem eU.root (S:eU K F0 H0 F H p os A):∃ vs B,A=p :: B /\ H p=some (.lst vs) /\ F p=none /\ aU K F H os vs B:=by
 obtain ⟨p',vs,B,e,rfl,h1,h2,h3⟩:=S.r
 cases e
 exact ⟨vs,B,rfl,h1,h2,h3⟩
theorem eU.fin (S:eU K F0 H0 F H p os A):∃ F',br F0 H0 F' H /\ Rep K F' (.lst (O.trs os)) (.ref p):=
 ⟨frzO F H A,S.g.frzO (fun a ha=>(S.r.at a ha).1) S.h0,S.r.frz⟩
theorem FF {α:Type} (a:List α) (x y:α) (b:List α):(a ++ x :: b).set a.length y=a ++ y :: b:=by
 rw [List.set_append_right _ _ (Nat.le_refl _),Nat.sub_self,List.set_cons_zero]
theorem zV {os:List O} {j:Nat} {o:O} (o':O) (e:os[j]? = some o):os.set j o'=os.take j ++ ([o'] ++ os.drop (j + 1)):=by
 rw [List.set_eq_take_append_cons_drop,if_pos (List.getElem?_eq_some_iff.mp e).1]
 rfl
theorem eU.put (S:eU K F0 H0 F H p os A) {j:Nat} {o:O} {vs:List V} {t:T} {v:V} (e:os[j]? = some o) (hp:H p=some (.lst vs)) (r:Rep K F t v):∃ A',eU K F0 H0 F (upd H p (.lst (vs.set j v))) p (os.set j (.val t)) A':=by
 obtain ⟨vs',B,rfl,h1,h2,h3⟩:=S.root
 rw [hp] at h1; cases h1
 obtain ⟨ws,v0,xs,B1,C,D,rfl,rfl,rfl,g1,g2,g3⟩:=h3.split e
 have nd:=List.nodup_cons.mp S.nd
 have mv:∀ {us:List O} {zs:List V} {E:List Addr},(∀ a ∈ E,a ∈ B1 ++ (C ++ D)) -> aU K F H us zs E -> aU K F (upd H p (.lst ((ws ++ v0 :: xs).set ws.length v))) us zs E:=fun sub h=>aU.move (aJ.refl _) (fun a ha=>⟨az (fun z=>nd.1 (z ▸ sub a ha)),(h.at a ha).1⟩) h
 have s1:∀ a ∈ B1,a ∈ B1 ++ (C ++ D):=fun a ha=>List.mem_append_left _ ha
 have s2:∀ a ∈ D,a ∈ B1 ++ (C ++ D):=fun a ha=>List.mem_append_right _ (List.mem_append_right _ ha)
 have p0:H0 p=none:=S.h0 p List.mem_cons_self
 refine ⟨p :: (B1 ++ ([] ++ D)),⟨⟨S.g.sF,fun a o' ha=>?_,fun a o' ha=>?_,S.g.nw⟩,⟨p,_,_,rfl,rfl,aN,h2,?_⟩,?_,fun a ha=>?_⟩⟩
 ·rw [az (fun z=>by subst z; rw [p0] at ha; cases ha)]; exact S.g.sH _ _ ha
 ·rw [az (fun z=>by subst z; rw [h2] at ha; cases ha)]; exact S.g.fh _ _ ha
 ·rw [zV (.val t) e]
  have all:=(mv s1 g1).app ((aU.one (K:=K) (F:=F) (H:=upd H p (.lst ((ws ++ v0 :: xs).set ws.length v))) (o:=.val t) ⟨rfl,r⟩).app (mv s2 g3))
  have e2:(ws ++ v0 :: xs).set ws.length v=ws ++ ([v] ++ xs):=FF ws v0 v xs
  rw [<- e2] at all
  exact all
 ·refine List.nodup_cons.mpr ⟨fun m=>nd.1 ?_,?_⟩
  ·rcases List.mem_append.mp m with m | m
   ·exact s1 _ m
   ·exact s2 _ m
  ·rw [List.nil_append]
   obtain ⟨n1,n2,n3⟩:=List.nodup_append.mp nd.2
   obtain ⟨n4,n5,n6⟩:=List.nodup_append.mp n2
   exact List.nodup_append.mpr ⟨n1,n5,fun a ha b hb=>n3 a ha b (List.mem_append_right _ hb)⟩
 ·rcases List.mem_cons.mp ha with rfl | ha
  ·exact p0
  ·refine S.h0 a (List.mem_cons_of_mem _ ?_)
   rcases List.mem_append.mp ha with m | m
   ·exact s1 _ m
   ·exact s2 _ m
theorem eU.more (S:eU K F0 H0 F H p os A) {vs:List V} {t:T} {v:V} (hp:H p=some (.lst vs)) (r:Rep K F t v):eU K F0 H0 F (upd H p (.lst (vs ++ [v]))) p (os ++ [.val t]) A:=by
 obtain ⟨vs',B,rfl,h1,h2,h3⟩:=S.root
 rw [hp] at h1; cases h1
 have nd:=List.nodup_cons.mp S.nd
 have p0:H0 p=none:=S.h0 p List.mem_cons_self
 refine ⟨⟨S.g.sF,fun a o' ha=>?_,fun a o' ha=>?_,S.g.nw⟩,⟨p,_,_,rfl,rfl,aN,h2,?_⟩,S.nd,S.h0⟩
 ·rw [az (fun z=>by subst z; rw [p0] at ha; cases ha)]; exact S.g.sH _ _ ha
 ·rw [az (fun z=>by subst z; rw [h2] at ha; cases ha)]; exact S.g.fh _ _ ha
 ·have m1:aU K F (upd H p (.lst (vs ++ [v]))) os vs B:=aU.move (aJ.refl _) (fun a ha=>⟨az (fun z=>nd.1 (z ▸ ha)),(h3.at a ha).1⟩) h3
  have all:=m1.app (aU.one (K:=K) (F:=F) (H:=upd H p (.lst (vs ++ [v]))) (o:=.val t) ⟨rfl,r⟩)
  rw [List.append_nil] at all
  exact all
def iV:List O -> Bool
 | []=>true
 | .val _ :: r=>iV r
 | _ :: _=>false
theorem aU.plain:∀ {ro:List O} {ws:List V} {C:List Addr},iV ro=true -> aU K F H ro ws C -> C=[] /\ aQ K F (O.trs ro) ws
 | [],ws,C,_,h=>⟨h.2,h.1⟩
 | .val t :: r,ws,C,ha,h=>by
  obtain ⟨v,q,B,D,rfl,rfl,⟨rfl,h1⟩,h2⟩:=h
  obtain ⟨rfl,h3⟩:=aU.plain (ro:=r) ha h2
  exact ⟨rfl,v,q,rfl,h1,h3⟩
 | .lst _ :: r,ws,C,ha,h=>by cases ha
theorem eU.row (S:eU K F0 H0 F H p os A) {j:Nat} {ro:List O} (e:os[j]? = some (.lst ro)) (ha:iV ro=true):∃ vs q ws,H p=some (.lst vs) /\ vs[j]? = some (.ref q) /\ H q=some (.lst ws) /\ aQ K F (O.trs ro) ws /\ vs.length=os.length:=by
 obtain ⟨vs,B,rfl,h1,h2,h3⟩:=S.root
 have hl:=h3.length
 obtain ⟨ws,v0,xs,B1,C,D,rfl,rfl,rfl,g1,⟨q,zs,C',rfl,rfl,k1,k2,k3⟩,g3⟩:=h3.split e
 obtain ⟨rfl,k4⟩:=k3.plain ha
 exact ⟨_,q,zs,h1,by rw [List.getElem?_append_right (Nat.le_refl _),Nat.sub_self,List.getElem?_cons_zero],k1,k4,hl⟩
theorem eU.turn (S:eU K F0 H0 F H p os A) {j:Nat} {ro:List O} {vs:List V} {q:Addr} {ts:List T} {ws:List V} (e:os[j]? = some (.lst ro)) (ha:iV ro=true) (hp:H p=some (.lst vs)) (hq:vs[j]? = some (.ref q)) (r:aQ K F ts ws) :
  eU K F0 H0 F (upd H q (.lst ws)) p (os.set j (.lst (ts.map O.val))) A:=by
 obtain ⟨vs',B,rfl,h1,h2,h3⟩:=S.root
 rw [hp] at h1; cases h1
 obtain ⟨us,v0,xs,B1,C,D,rfl,rfl,rfl,g1,⟨q',zs,C',rfl,rfl,k1,k2,k3⟩,g3⟩:=h3.split e
 rw [List.getElem?_append_right (Nat.le_refl _),Nat.sub_self,List.getElem?_cons_zero] at hq
 cases hq
 obtain ⟨rfl,k4⟩:=k3.plain ha
 have nd:=List.nodup_cons.mp S.nd
 obtain ⟨n1,n2,n3⟩:=List.nodup_append.mp nd.2
 obtain ⟨n4,n5,n6⟩:=List.nodup_append.mp n2
 have q0:H0 q=none:=S.h0 q (List.mem_cons_of_mem _ (List.mem_append_right _ (List.mem_append_left _ List.mem_cons_self)))
 have qp:p ≠ q:=fun z=>nd.1 (z ▸ (List.mem_append_right _ (List.mem_append_left _ List.mem_cons_self)))
 have mv:∀ {us:List O} {zs:List V} {E:List Addr},(∀ a ∈ E,a ≠ q) -> aU K F H us zs E -> aU K F (upd H q (.lst ws)) us zs E:=fun sub h=>aU.move (aJ.refl _) (fun a ha=>⟨az (sub a ha),(h.at a ha).1⟩) h
 have s1:∀ a ∈ B1,a ≠ q:=fun a ha=>n3 a ha q (List.mem_append_left _ List.mem_cons_self)
 have s2:∀ a ∈ D,a ≠ q:=fun a ha z=>n6 q List.mem_cons_self a ha z.symm
 refine ⟨⟨S.g.sF,fun a o' ha=>?_,fun a o' ha=>?_,S.g.nw⟩,⟨p,_,_,rfl,rfl,(az qp).trans hp,h2,?_⟩,S.nd,S.h0⟩
 ·rw [az (fun z=>by subst z; rw [q0] at ha; cases ha)]; exact S.g.sH _ _ ha
 ·rw [az (fun z=>by subst z; rw [k2] at ha; cases ha)]; exact S.g.fh _ _ ha
 ·rw [zV _ e]
  exact (mv s1 g1).app ((aU.one (K:=K) (F:=F) (H:=upd H q (.lst ws)) (o:=.lst (ts.map O.val)) ⟨q,ws,[],rfl,rfl,aN,k2,.vals r⟩).app (mv s2 g3))
theorem iP:∀ (ts:List T),O.trs (ts.map O.val)=ts
 | []=>rfl
 | t :: ts=>by rw [List.map_cons,O.trs,iP ts]; rfl
end
open PySem PySem.Spec PyProof.Rows L2
def MU (K:PySem.W.Frag) (n:Nat) (d:List T -> Option O):Sp:=fun vs H Q _=>vs.length=n /\ ∃ F ts o,aJ F H /\ aQ K F ts vs /\ d ts=some o /\
 ∀ F' H' v A,br F H F' H' -> cQ K F' H' o v A -> A.Nodup -> (∀ a ∈ A,H a=none) -> Q v H'
structure gB (P:Program) (w:World) (K:PySem.W.Frag) (mg:Str -> Option Value) (base:Heap) (k:Nat) (x:Str) (n:Nat) (d:List T -> Option O):Prop where
 ex:∃ f fd ps,fI P w K mg base mP k f fd ps (MU K n d) /\ Binds K fd ps [] /\ PySem.W.keepIn K (.ref f)=true /\ mg x=some (.ref f) /\ ps.length=n
section
variable {P:Program} {w:World} {K:PySem.W.Frag} {mg:Str -> Option Value} {base:Heap} {j k n:Nat} {x:Str}
theorem gB.imp {d d':List T -> Option O} (D:gB P w K mg base k x n d) (h:∀ ts o,d' ts=some o -> d ts=some o):gB P w K mg base k x n d':=by
 obtain ⟨f,fd,ps,F,r⟩:=D.ex
 exact ⟨f,fd,ps,F.imp fun vs H Q E ⟨l,F,ts,o,a,b,c,q⟩=>⟨l,F,ts,o,a,b,h _ _ c,q⟩,r⟩
theorem gB.mono {d:List T -> Option O} (D:gB P w K mg base j x n d) (h:j ≤ k):gB P w K mg base k x n d:=by
 obtain ⟨f,fd,ps,F,r⟩:=D.ex
 exact ⟨f,fd,ps,F.mono h,r⟩
theorem gB.plain {d:List T -> Option O} (D:gB P w K mg base k x n d):Def P w K mg base k x n (fun ts=>(d ts).bind fun o=>some o.tr):=by
 obtain ⟨f,fd,ps,F,r⟩:=D.ex
 refine ⟨f,fd,ps,F.imp fun vs H Q E ⟨l,F,ts,t,a,b,c,q⟩=>?_,r⟩
 obtain ⟨o,e1,e2⟩:=bind_some c
 cases e2
 exact ⟨l,F,ts,o,a,b,e1,fun F' H' v A g ro nd h0=>q _ H' v (g.frzO (fun a ha=>(ro.at a ha).1) h0) ro.frz⟩
end
section
variable {X:Cx} {e:Expr} {es:List Expr} {pos:Pos} {g:FA}
def ff (d:List T -> Option O) (g:FA):gX:=fun τ=>(g τ).bind fun p=>(d p.1).bind fun o=>some (o,p.2)
theorem oV {K:PySem.W.Frag} {F₀ H₀ F H:Hp} {σ:L2.St} {τ:aB} {A:List Addr} (E:aD K F₀ H₀ F H σ τ) (n:∀ a ∈ A,H a=none):Apart σ τ A:=fun j us q e1 e2 m=>by
 obtain ⟨v,k1,p',vs',rfl,k2,_⟩:=E.sl j _ e1
 rw [e2] at k1; cases k1
 rw [n _ m] at k2; cases k2
theorem iN {k n:Nat} {x:Str} {p:Pos} {d:List T -> Option O} (D:gB X.prog X.w X.K X.mg X.base k x n d) (hr:dq k X.A) (hg:Gl X x) (ha:SA X (e :: es) g) (hl:∀ τ ts τ',g τ=some (ts,τ') -> ts.length=n) (hdb:(x == ("__debug__" : Str))=false:=by decide)
  (he:starEach (e :: es) X.env=(false,eval e X.env) :: starEach es X.env:=by rfl) (hpl:(backTo pos (starEach es X.env)).any (·.1)=false:=by rfl):qC X (.Call (.Name x p) (e :: es) [] pos) (ff d g):=by
 obtain ⟨f,fd,ps,F,hb,hk,hm,hn⟩:=D.ex
 intro F₀ H₀
 refine PE.weak (uh (E:=E0) (CX:=mP) F hr hg hm hk hb .nil rL (ha F₀ H₀) hdb he hpl) fun σ H Q h=>?_
 obtain ⟨F,τ,c,τ',E,e1,q⟩:=h
 obtain ⟨⟨z,τ1⟩,e2,e1⟩:=bind_some e1
 have hz:=hl _ _ _ e2
 obtain ⟨u,e4,e1⟩:=bind_some e1
 cases e1
 refine ⟨F,τ,z,_,E,e2,fun F1 H1 vs E1 s1 r1=>⟨by rw [List.append_nil,r1.length]; exact hz,F1,z,c,E1.g.fh,by rw [List.append_nil]; exact r1,e4,fun F3 H3 v3 A g3 r3 nd h0=>?_⟩⟩
 exact q F3 H3 v3 A (E1.grow g3) (s1.trans g3.sF) r3 nd (fun a ha=>E1.g.sH.free (h0 a ha)) (oV E1 h0)
abbrev yN:=aB -> Option O
def M0 (K:PySem.W.Frag) (F₀ H₀:Hp) (f:yN):TS:=fun D σ H=>∃ F τ o,aD K F₀ H₀ F H σ τ /\ f τ=some o /\ ∀ F' H' v A,br F₀ H₀ F' H' -> cQ K F' H' o v A -> A.Nodup -> (∀ a ∈ A,H₀ a=none) -> D.rt v H'
def Jb (X:Cx) (ss:List Stmt) (f:yN):Prop:=∀ F₀ H₀,iQ X ss (M0 X.K F₀ H₀ f)
def jI (f:gX):yN:=fun τ=>(f τ).bind fun p=>some p.1
theorem oO {f:gX} (h:qC X e f):Jb X [.Return (some e) pos] (jI f):=fun F₀ H₀=>iQ.weak (eH (pV (h F₀ H₀))) fun D σ H hq__=>by
 obtain ⟨F,τ,o,E,e1,q⟩:=hq__
 obtain ⟨⟨x,τ1⟩,e2,e1⟩:=bind_some e1
 cases e1
 exact ⟨F,τ,_,τ1,E,e2,fun F' H' v A E' _ r nd h0 _=>q F' H' v A E'.g r nd h0⟩
def va (t:FS) (u:yN):yN:=fun τ=>(t τ).bind fun r=>match r with | .nx τ'=>u τ' | _=>none
theorem wK {st:Stmt} {rest:List Stmt} {t:FS} {u:yN} (h1:SS X st t) (h2:Jb X rest u):Jb X (st :: rest) (va t u):=fun F₀ H₀=>iQ.weak (cE (h1 F₀ H₀) (h2 F₀ H₀)) fun D σ H hq__=>by
 obtain ⟨F,τ,o,E,e1,q⟩:=hq__
 obtain ⟨x,e2,e1⟩:=bind_some e1
 refine ⟨F,τ,x,E,e2,?_⟩
 cases x with
 | nx τ1=>exact fun F1 H1 σ1 E1 s1=>⟨F1,τ1,o,E1,e1,q⟩
 | rt t=>cases e1
 | bk t=>cases e1
 | ct t=>cases e1
end
def jG (m n:Nat) (fb:yN):List T -> Option O:=fun ts=>if ts.length=n then fb (ts.map (fun t=>some (Sl.sh t)) ++ List.replicate (m - n) none) else none
section
variable {P:Program} {w:World} {K:PySem.W.Frag} {mg:Str -> Option Value} {base:Heap}
theorem lZ {x qual:Str} {st:Stmt} {f:Addr} {fd:FuncData} {N ps:List Str} {k:Nat} {fb:yN} (F:fG K x qual st f fd) (S:aS N ps (ax st)) (hb:Binds K fd ps []) (hm:mg x=some (.ref f))
  (h:∀ (cdv:Value) (A:Around) (outer:List Env) (s:Shared) (H:Hp) (E:XK),dq k (A.deeper (envOfC qual (ax st) s.heap.objs.size f cdv)) -> Jb (mW mP P w K mg base N qual (ax st) f cdv A outer s H E).nox (dy st) fb) :
  gB P w K mg base (k + 1) x ps.length (jG N.length ps.length fb):=by
 refine ⟨f,fd,ps,F.ok S (fun vs H Q E z=>z.1) (fun cdv A outer s H vs Q E hr z=>?_),hb,F.kp,hm,rfl⟩
 obtain ⟨hl,F1,ts,o,sm,r,e,q⟩:=z
 unfold jG at e
 split at e
 ·next hn =>
  refine ⟨_,h cdv A outer s H E hr F1 H,F1,_,o,?_,e,fun F' H' v A g ro nd h0=>q F' H' v A g ro nd h0⟩
  have:=fM (N:=N) sm r
  rw [hn] at this
  exact this
 ·cases e
end
section
variable {X:Cx} {e:Expr} {es:List Expr} {pos:Pos} {g:FA}
def He (fo:gX) (g:FA) (d:O -> List T -> Option T):FE:=fun τ=>(fo τ).bind fun p=>if bX p.2=true then (g p.2).bind fun r=>if bX r.2=true then (d p.1 r.1).bind fun t=>some (t,r.2) else none else none
def B4 (fo:gX) (f:FE):FS:=fun τ=>(fo τ).bind fun p=>match p.1 with
 | .lst os=>if bX p.2=true /\ os.length < sizeLine then (f p.2).bind fun r=>if bX r.2=true then some (.nx r.2) else none else none
 | _=>none
theorem Dz {x:Str} {a:Addr} {i j:Int} {t t':Tok} {od:Option Addr} {n:Nat} {sl:Array (Option Value)} {pos:Pos} (hg:Gl X x) (hm:X.mg x=some (.ref a)) (hK:X.K.lookup a=some ⟨.type "tuple", od,.seq #[.int i t,.int j t'] n,sl⟩) (hd:(x == ("__debug__" : Str))=false:=by decide) :
  SE X (.Name x pos) (fC (.tup [.int i,.int j])):=
 jZ (zN (v:=.ref a) hg hm rfl hd) fun F=>⟨a,[.int i,.int j],rfl,.inr ⟨_,_,n,hK,rfl,rfl,bQ (n:=2) (by decide),.cons ⟨_,rfl⟩ (.cons ⟨_,rfl⟩ .nil)⟩,⟨_,_,rfl,rfl,_,_,rfl,rfl,rfl⟩⟩
end
open PySem PySem.Spec PyProof.Rows L2
section
variable {X:Cx}
def BS:List T -> Option T
 | [.lst ts]=>(intsOf ts).bind fun ns=>some (.int ns.sum)
 | _=>none
theorem ints_get {K:PySem.W.Frag} {F:Hp}:∀ {ns:List Int} {vs:List V} {its:List Value},aQ K F (ns.map T.int) vs -> Vals vs its -> ∃ xs:List (Int × Tok),its=xs.map (fun p=>Value.int p.1 p.2) /\ xs.map (·.1)=ns
 | [],vs,its,r,z=>by
  cases r; cases z; exact ⟨[],rfl,rfl⟩
 | n :: ns,vs,its,r,z=>by
  obtain ⟨v,rr,rfl,h1,h2⟩:=r
  cases h1
  cases z with
  | cons rz zz =>
   obtain ⟨t,rfl⟩:=rz
   obtain ⟨xs,e1,e2⟩:=ints_get h2 zz
   exact ⟨(n,t) :: xs,by rw [e1]; rfl,by rw [List.map_cons,e2]⟩
theorem BI (hc:X.calm=true):kJ X (.builtin "sum") BS:=by
 intro pins s σ H xs us Q I rx ⟨F,ts,t,sm,r,e,q⟩
 unfold BS at e
 split at e
 ·next ts =>
  obtain ⟨ns,e1,e2⟩:=bind_some e
  cases e2
  have et:=lh e1
  subst et
  obtain ⟨v,rr,rfl,⟨p,vs,rfl,h1,h2⟩,rfl⟩:=r
  obtain ⟨u,rfl,ru⟩:=Vals.one rx
  cases ru
  obtain ⟨its,rv,pl,hz⟩:=I.list (dE.of (sm _ _ h1))
  obtain ⟨xs,ex,en⟩:=ints_get h2 rv
  have hl:s.heap.IsList p (intItems xs.toArray):=by
   have:=pl.isList
   rw [ex] at this
   simpa [intItems] using this
  refine sum_intListG (I.ok.hd hc) hl fun h' tk t' hk=>?_
  have e2:preSum (numAt xs.toArray) xs.toArray.size=ns.sum:=by
   rw [preSum_eq,List.take_of_length_le (by simp),<- en]
  rw [e2]
  exact ⟨.int _,H,I.kept (t':=tk) hk,⟨t',rfl⟩,q F H _ (br.refl sm) rfl⟩
 ·cases e
end
open PySem PySem.Spec PyProof.Rows L2
section
variable {prog:Program} {w:World} {A:Around} {E:Value -> Shared -> Prop} {s:Shared}
end
section
variable {X:Cx}
end
open PySem PySem.Spec PyProof.Rows L2
section
variable {prog:Program} {w:World} {A:Around} {R:Result -> Shared -> Prop} {I:Addr} {fp wr:List Addr} {n:Nat} {P:Nat -> Value -> Prop} {St:Nat -> Heap -> Prop} {kw:List (Str × Value)}
abbrev mT (a:Array Value) (c:Nat):Obj:={ cls:=.type "list", dict:=none,data:=.seq a c,slots:=#[] }
theorem oH:(toString "max" ++ toString ".loop" : String) = "max.loop" := by decide
theorem EM (W:PySem.Walks prog w A.in1 I fp wr n P St) (bt:Nat -> Nat -> Bool) (hcmp:CmpOf prog w A.in1 .Gt P bt) (S:Addr) (hSf:S ∉ fp) (k:Nat) :
  ∀ (j:Nat) (s:Shared) (vb:Value) (c:Nat),n - (j + 1)=k -> j + 1 ≤ n -> St (j + 1) s.heap -> P (argBest bt j) vb -> s.heap.get? S=some (mT #[vb,vb] c) ->
  (∀ v h' tk,P (argBest bt (n - 1)) v -> (∀ b o,b ∉ wr -> b ≠ S -> s.heap.get? b=some o -> h'.get? b=some o) -> R (.ok (.ret v)) { s with heap:=h',toks:=tk }) -> codeAny (model prog w) A (.builtin "max.loop" ⟨[.ref I,.none,.ref S],kw⟩) R s:=by
 have hSw:S ∉ wr:=fun h=>hSf (W.sub _ h)
 induction k with
 | zero =>
  intro j s vb c hk hj hst hPb hS hR
  have hin:j + 1=n:=by omega
  refine codeAny_builtin F.entry_max_loop (?_:_); rw [Around.under_plainId F.plain_max_loop _]
  show wpAny _ A.in1 (seqItems? (.ref S) >>= _) _ _ s; refine wpAny_bind (wpAny_seqItems hS rfl ?_)
  show wpAny _ A.in1 (tryCatch (pyNext (.ref I)) _ >>= _) _ _ s; refine wpAny_bind (wpAny_tryCatch (W.done s _ _ (hin ▸ hst) fun h' tk hk'=>?_))
  show wpAny _ A.in1 (updateSeq S (fun _=>#[]) >>= _) _ _ _; refine wpAny_bind (wpAny_updateSeq (hk' S _ hSw hS) rfl (wpAny_bind (wpAny_letGo (wpAny_pure ?_))))
  exact hR vb _ tk (by rw [<- hin]; exact hPb) fun b o hbw hbS e=>(Heap.get?_update_other _ _ (Ne.symm hbS)).trans (hk' b o hbw e)
 | succ k ih =>
  intro j s vb c hk hj hst hPb hS hR
  have hlt:j + 1 < n:=by omega
  refine codeAny_builtin F.entry_max_loop (?_:_); rw [Around.under_plainId F.plain_max_loop _]
  show wpAny _ A.in1 (seqItems? (.ref S) >>= _) _ _ s; refine wpAny_bind (wpAny_seqItems hS rfl ?_)
  show wpAny _ A.in1 (tryCatch (pyNext (.ref I)) _ >>= _) _ _ s; refine wpAny_bind (wpAny_tryCatch (W.item (j + 1) s _ _ hlt hst fun v h' tk hP hst' hk'=>?_))
  have hS':=hk' S _ hSw hS
  show wpAny _ A.in1 (tryCatch (holding [v,v] (richCompare .Gt v vb >>= _)) _ >>= _) _ _ _; refine wpAny_bind (wpAny_tryCatch (wpAny_holding (wpAny_bind (hcmp (j + 1) (argBest bt j) v vb _ _ _ hP hPb (wpAny_bind (wpAny_holding (wpAny_truthy_bool (wpAny_bind (wpAny_letGo (wpAny_pure ?_))))))))))
  cases hb:bt (j + 1) (argBest bt j) with
  | true =>
   simp only [if_true]
   refine wpAny_bind (wpAny_updateSeq hS' rfl (wpAny_bind (wpAny_letGo (?_:_)))); rw [oH]
   refine wpAny_pure ⟨plainId_quiet F.plain_max_loop _,ih (j + 1) _ v _ (by omega) hlt (W.frame _ _ _ hst' fun b hbf o e=>(Heap.get?_update_other _ _ (fun h:S=b=>hSf (by rw [h]; exact hbf))).trans e) (by simp only [argBest,hb,if_true]; exact hP) (Heap.get?_update_self _ hS' rfl) fun v' h'' tk'' hP' hk''=>?_⟩
   exact hR v' h'' tk'' hP' fun b o hbw hbS e=>hk'' b o hbw hbS ((Heap.get?_update_other _ _ (Ne.symm hbS)).trans (hk' b o hbw e))
  | false =>
   simp only [Bool.false_eq_true,if_false]
   refine wpAny_bind (wpAny_letGo (?_:_)); rw [oH]
   refine wpAny_pure ⟨plainId_quiet F.plain_max_loop _,ih (j + 1) _ vb c (by omega) hlt hst' (by simp only [argBest,hb,Bool.false_eq_true,if_false]; exact hPb) hS' fun v' h'' tk'' hP' hk''=>?_⟩
   exact hR v' h'' tk'' hP' fun b o hbw hbS e=>hk'' b o hbw hbS (hk' b o hbw e)
theorem CT (W:PySem.Walks prog w A.in1 I fp wr n P St) (bt:Nat -> Nat -> Bool) (hcmp:CmpOf prog w A.in1 .Gt P bt) (S:Addr) (hSf:S ∉ fp) (hn:0 < n) {s:Shared} {c:Nat} (hst:St 0 s.heap) (hS:s.heap.get? S=some (mT #[] c))
  (hR:∀ v h' tk,P (argBest bt (n - 1)) v -> (∀ b o,b ∉ wr -> b ≠ S -> s.heap.get? b=some o -> h'.get? b=some o) -> R (.ok (.ret v)) { s with heap:=h',toks:=tk }):codeAny (model prog w) A (.builtin "max.loop" ⟨[.ref I,.none,.ref S],kw⟩) R s:=by
 have hSw:S ∉ wr:=fun h=>hSf (W.sub _ h)
 refine codeAny_builtin F.entry_max_loop (?_:_); rw [Around.under_plainId F.plain_max_loop _]
 show wpAny _ A.in1 (seqItems? (.ref S) >>= _) _ _ s; refine wpAny_bind (wpAny_seqItems hS rfl ?_)
 show wpAny _ A.in1 (tryCatch (pyNext (.ref I)) _ >>= _) _ _ s; refine wpAny_bind (wpAny_tryCatch (W.item 0 s _ _ hn hst fun v h' tk hP hst' hk'=>?_))
 have hS':=hk' S _ hSw hS
 show wpAny _ A.in1 (updateSeq S (fun _=>#[v,v]) >>= _) _ _ _; refine wpAny_bind (wpAny_updateSeq hS' rfl (?_:_)); rw [oH]
 refine wpAny_pure ⟨plainId_quiet F.plain_max_loop _,EM W bt hcmp S hSf _ 0 _ v _ rfl hn (W.frame _ _ _ hst' fun b hbf o e=>(Heap.get?_update_other _ _ (fun h:S=b=>hSf (by rw [h]; exact hbf))).trans e) hP (Heap.get?_update_self _ hS' rfl) fun v' h'' tk'' hP' hk''=>?_⟩
 exact hR v' h'' tk'' hP' fun b o hbw hbS e=>hk'' b o hbw hbS ((Heap.get?_update_other _ _ (Ne.symm hbS)).trans (hk' b o hbw e))
theorem EL (W:PySem.Walks prog w A.in1 I fp wr n P St) (hn:n=0) (S:Addr) (hSf:S ∉ fp) {d:Value} {s:Shared} {c:Nat} (hst:St 0 s.heap) (hS:s.heap.get? S=some (mT #[] c))
  (hR:∀ h' tk,(∀ b o,b ∉ wr -> b ≠ S -> s.heap.get? b=some o -> h'.get? b=some o) -> R (.ok (.ret d)) { s with heap:=h',toks:=tk }):codeAny (model prog w) A (.builtin "max.loop" ⟨[.ref I,.none,.ref S],[("default", d)]⟩) R s:=by
 refine codeAny_builtin F.entry_max_loop (?_:_); rw [Around.under_plainId F.plain_max_loop _]
 show wpAny _ A.in1 (seqItems? (.ref S) >>= _) _ _ s; refine wpAny_bind (wpAny_seqItems hS rfl ?_)
 show wpAny _ A.in1 (tryCatch (pyNext (.ref I)) _ >>= _) _ _ s; refine wpAny_bind (wpAny_tryCatch (W.done s _ _ (hn.symm ▸ hst) fun h' tk hk'=>?_))
 exact wpAny_bind (wpAny_rule (wpAny_pure (hR h' tk fun b o hbw _ e=>hk' b o hbw e)))
end
def bestOf (ns:List Int):Int:=ns.getD (argBest (fun i j=>decide (ns.getD i 0 > ns.getD j 0)) (ns.length - 1)) 0
theorem Av (a v:Value):argsOk "max" ⟨[a],[(Str.ofString "default", v)]⟩:=by unfold argsOk; kernel_rfl
theorem pR (xs:List (Int × Tok)) (i:Nat):numAt xs.toArray i=(xs.map (·.1)).getD i 0:=by
 unfold numAt
 rw [List.getElem?_toArray,List.getD_eq_getElem?_getD,List.getElem?_map]
section
variable {prog:Program} {w:World} {A:Around} {E:Value -> Shared -> Prop} {s:Shared}
theorem EK {l:Addr} {xs:List (Int × Tok)} {d:Value} {Q:Value -> Shared -> Prop} (hh:A.handled=none) (hl:s.heap.IsList l (intItems xs.toArray))
  (h:∀ v h' tk,(∀ b o,s.heap.get? b=some o -> h'.get? b=some o) -> (xs=[] /\ v=d \/ xs ≠ [] /\ ∃ t,v=Value.int (bestOf (xs.map (·.1))) t) -> Q v { s with heap:=h',toks:=tk }) :
  wpAny (model prog w) A (call (.builtin "max") [.ref l] [(Str.ofString "default", d)]) Q E s:=by
 obtain ⟨ol,hol,_⟩:=id hl
 have hll:@LT.lt Nat _ l s.heap.objs.size:=Heap.lt_size hol
 refine kmk_tree PySem.F.kind_max PySem.F.plain_max PySem.F.entry_max (Av _ _) ?_
 show wpAny _ A.in1 (Builtin.Builtins.bindParams "max" ["key", "default"] 0 ⟨[],[(Str.ofString "default", d)]⟩ >>= _) _ _ s
 refine wpAny_bind (wpAny_of_eq (show Builtin.Builtins.bindParams "max" ["key", "default"] 0 ⟨[],[(Str.ofString "default", d)]⟩=pure [none,some d] from rfl) ?_)
 refine wpAny_bind (wpAny_pure (wpAny_bind (wpAny_pyIter_list hl (wpAny_bind (wpAny_newObj_type ?_)))))
 rw [oH]
 have hz:(s.heap.push { cls:=.type "list_iterator", data:=.fields #[.ref l,.int 0 0] }).objs.size=s.heap.objs.size + 1:=Heap.size_push ..
 have W:=PySem.Walks.list (prog:=prog) (w:=w) (A:=A.in1) hh s.heap.objs.size l (Nat.ne_of_lt hll) (intItems xs.toArray)
 have st0:((s.heap.push { cls:=.type "list_iterator", data:=.fields #[.ref l,.int 0 0] }).push (mT #[] 0)).IsListIter s.heap.objs.size l 0 /\ ((s.heap.push { cls:=.type "list_iterator", data:=.fields #[.ref l,.int 0 0] }).push (mT #[] 0)).IsList l (intItems xs.toArray):=
  ⟨⟨_,Heap.get?_push_of_some _ (Heap.get?_push_size _ rfl),rfl,rfl⟩,(hl.push _).push _⟩
 have hSf:(s.heap.push { cls:=.type "list_iterator", data:=.fields #[.ref l,.int 0 0] }).objs.size ∉ [s.heap.objs.size,l]:=fun m=>by
  rw [hz] at m
  rcases List.mem_cons.mp m with m | m
  ·exact absurd m (Nat.succ_ne_self _)
  ·rw [List.mem_singleton] at m; rw [<- m] at hll; exact absurd hll (by omega)
 have keep:∀ {h':Heap},(∀ b o,b ∉ [s.heap.objs.size] -> b ≠ (s.heap.push { cls:=.type "list_iterator", data:=.fields #[.ref l,.int 0 0] }).objs.size -> ((s.heap.push { cls:=.type "list_iterator", data:=.fields #[.ref l,.int 0 0] }).push (mT #[] 0)).get? b=some o -> h'.get? b=some o) -> ∀ b o,s.heap.get? b=some o -> h'.get? b=some o:=fun k b o e=>by
  have hb:@LT.lt Nat _ b s.heap.objs.size:=Heap.lt_size e
  exact k b o (fun m=>by rw [List.mem_singleton.mp m] at hb; exact Nat.lt_irrefl _ hb) (fun m=>by rw [m,hz] at hb; omega) (Heap.get?_push_of_some _ (Heap.get?_push_of_some _ e))
 cases xs with
 | nil=>exact wpAny_pure ⟨plainId_quiet F.plain_max_loop _,EL W (by simp [intItems]) _ hSf st0 (Heap.get?_push_size _ rfl) fun h' tk hk=>h d h' tk (keep hk) (.inl ⟨rfl,rfl⟩)⟩
 | cons x xs =>
  have val:∀ i v,(intItems (x :: xs).toArray)[i]? = some v -> ∃ t,v=Value.int (numAt (x :: xs).toArray i) t:=fun i v e=>intItems_at e
  refine wpAny_pure ⟨plainId_quiet F.plain_max_loop _,CT W _ (CmpOf.ints_gt (numAt (x :: xs).toArray) val) _ hSf (by simp [intItems]) st0 (Heap.get?_push_size _ rfl) fun v h' tk hP hk=>h v h' tk (keep hk) (.inr ⟨by simp,?_⟩)⟩
  obtain ⟨t,e⟩:=val _ _ hP
  refine ⟨t,e.trans ?_⟩
  congr 1
  rw [pR]
  unfold bestOf
  simp only [pR]
  congr 2
  simp [intItems]
end
section
variable {X:Cx}
def zo:T -> T -> Option T
 | .lst ts,.int d=>(intsOf ts).bind fun ns=>some (.int (if ns=[] then d else bestOf ns))
 | _,_=>none
theorem Fy {e d:Expr} {f fd:FE} {p pos kp:Pos} (hc:X.calm=true) (hg:Gl X "max") (hm:X.mg "max" = none) (he:SE X e f) (hd:SE X d fd) (hs:starEach [e] X.env=[(false,eval e X.env)]:=by rfl) :
  SE X (.Call (.Name "max" p) [e] [⟨some "default", d,kp⟩] pos) (aH zo f fd):=by
 intro F₀ H₀ pins s σ H Q I h
 obtain ⟨F,τ,t,τ',E,e1,q⟩:=h
 obtain ⟨⟨x,τ1⟩,e2,e1⟩:=bind_some e1
 obtain ⟨⟨y,τ2⟩,e3,e1⟩:=bind_some e1
 obtain ⟨z,e4,e1⟩:=bind_some e1
 cases e1
 refine wpAny_Call_Name_kw (ll I hg hm PyProof.Rows.boot_max (PyProof.Rows.callWith_kw ?_ (by rw [hs]; rfl) (by rw [hs]; rfl)))
 rw [hs]
 refine Calls.spliced_cons (df (he F₀ H₀ pins s σ H (fun v H1=>∃ F1,aD X.K F₀ H₀ F1 H1 σ τ1 /\ aJ F F1 /\ Rep X.K F1 x v) I ⟨F,τ,x,τ1,E,e2,fun F1 H1 v E1 s1 r1=>⟨F1,E1,s1,r1⟩⟩) fun u s1 ⟨v1,H1,I1,ru,F1,E1,sF1,r1⟩=>Calls.spliced_nil ?_)
 refine PyProof.Rows.kws_cons (df (hd F₀ H₀ pins s1 σ H1 (fun v H2=>∃ F2,aD X.K F₀ H₀ F2 H2 σ _ /\ aJ F1 F2 /\ Rep X.K F2 y v) I1 ⟨F1,τ1,y,_,E1,e3,fun F2 H2 v E2 s2 r2=>⟨F2,E2,s2,r2⟩⟩) fun u2 s2 ⟨v2,H2,I2,ru2,F2,E2,sF2,r2⟩=>PyProof.Rows.kws_nil ?_)
 dsimp only at e4
 unfold zo at e4
 split at e4
 ·next ts dd =>
  obtain ⟨ns,e5,e6⟩:=bind_some e4
  cases e6
  have et:=lh e5
  subst et
  obtain ⟨pl,vs,rfl,h1,h2⟩:=Rep.mono sF2 r1
  cases ru
  cases r2
  obtain ⟨its,rv,pl',hz⟩:=I2.list (dE.of (E2.g.fh _ _ h1))
  obtain ⟨xs,ex,en⟩:=ints_get h2 rv
  have hl:s2.heap.IsList pl (intItems xs.toArray):=by
   have:=pl'.isList
   rw [ex] at this
   simpa [intItems] using this
  obtain ⟨td,rfl⟩:=ru2
  refine EK (I2.ok.hd hc) hl fun v h' tk hk hv=>?_
  have I3:=I2.kept (t':=tk) hk
  rcases hv with ⟨hx,rfl⟩ | ⟨hx,t,rfl⟩
  ·subst hx
   subst en
   exact ⟨V.int _,H2,I3,⟨_,rfl⟩,q F2 H2 _ E2 (sF1.trans sF2) rfl⟩
  ·refine ⟨.int (bestOf (xs.map (·.1))),H2,I3,⟨_,rfl⟩,q F2 H2 _ E2 (sF1.trans sF2) ?_⟩
   have hne:ns ≠ []:=fun z=>hx (by rw [z] at en; simpa using en)
   rw [if_neg hne,<- en]
   rfl
 ·cases e4
end
open PySem PySem.Spec PyProof.Rows L2
section
variable {X:Cx}
end
open PySem PySem.Spec PyProof.Rows L2
def Fits (K:PySem.W.Frag) (F:Hp):L2.St -> aB -> Prop
 | [],[]=>True
 | _ :: σ,none :: τ=>Fits K F σ τ
 | some v :: σ,some (.sh t) :: τ=>Rep K F t v /\ Fits K F σ τ
 | _,_=>False
theorem Fits.len {K:PySem.W.Frag} {F:Hp}:∀ {σ:L2.St} {τ:aB},Fits K F σ τ -> σ.length=τ.length
 | [],[],_=>rfl
 | [],_ :: _,h=>by cases h
 | _ :: _,[],h=>by cases h
 | _ :: σ,none :: τ,h=>by have:Fits K F σ τ:=h; simp [this.len]
 | some v :: σ,some (.sh t) :: τ,h=>by simp [(h.2:Fits K F σ τ).len]
 | none :: σ,some (.sh t) :: τ,h=>by cases h
 | none :: σ,some (.own t) :: τ,h=>by cases h
 | some v :: σ,some (.own t) :: τ,h=>by cases h
theorem Fits.get {K:PySem.W.Frag} {F:Hp}:∀ {σ:L2.St} {τ:aB} {i:Nat} {s:Sl},Fits K F σ τ -> τ[i]? = some (some s) -> ∃ t v,s=.sh t /\ σ[i]? = some (some v) /\ Rep K F t v
 | [],[],i,s,_,e=>by simp at e
 | [],_ :: _,_,_,h,_=>by cases h
 | _ :: _,[],_,_,h,_=>by cases h
 | _ :: σ,none :: τ,0,s,h,e=>by simp at e
 | _ :: σ,none :: τ,i + 1,s,h,e=>Fits.get (σ:=σ) (τ:=τ) (i:=i) h (by simpa using e)
 | some v :: σ,some (.sh t) :: τ,0,s,h,e=>by simp at e; exact ⟨t,v,e.symm,rfl,h.1⟩
 | some v :: σ,some (.sh t) :: τ,i + 1,s,h,e=>Fits.get (σ:=σ) (τ:=τ) (i:=i) h.2 (by simpa using e)
 | none :: σ,some (.sh t) :: τ,_,_,h,_=>by cases h
 | none :: σ,some (.own t) :: τ,_,_,h,_=>by cases h
 | some v :: σ,some (.own t) :: τ,_,_,h,_=>by cases h
abbrev uq (ts:List T):O:=.lst (ts.map O.val)
theorem wO:∀ tss:List (List T),O.trs (tss.map uq)=tss.map T.lst
 | []=>rfl
 | ts :: tss=>by
  rw [List.map_cons,List.map_cons,O.trs,wO tss]
  show T.lst (O.trs (ts.map O.val)) :: _=_
  rw [iP]
theorem fK:∀ ts:List T,iV (ts.map O.val)=true
 | []=>rfl
 | _ :: ts=>fK ts
theorem uJ {K:PySem.W.Frag} {F:Hp} {t:T} {v:V} (h:Rep K F t v):∀ {ts:List T} {vs:List V} (m:Nat),aQ K F ts vs -> aQ K F (ts.set m t) (vs.set m v)
 | [],_,_,r=>by cases r; rfl
 | a :: ts,_,0,r=>by obtain ⟨w,q,rfl,h1,h2⟩:=r; exact ⟨v,q,rfl,h,h2⟩
 | a :: ts,_,m + 1,r=>by obtain ⟨w,q,rfl,h1,h2⟩:=r; exact ⟨w,_,rfl,h1,uJ h m h2⟩
theorem qC.any {X:Cx} {e:Expr} {f:gX} (h:qC X e f):PE X e (fun σ H Q=>∃ F₀ H₀,Mp X.K F₀ H₀ f σ H Q):=fun pins s σ H Q I ⟨F₀,H₀,q⟩=>h F₀ H₀ pins s σ H Q I q
theorem SI.any {X:Cx} {tg e:Expr} {f:FA} (h:SI X tg e f):PI X tg e (fun σ H R=>∃ F₀ H₀,tI X.K F₀ H₀ f σ H R):=fun pins s σ H R I ⟨F₀,H₀,q⟩=>h F₀ H₀ pins s σ H R I q
theorem eU.at {K:PySem.W.Frag} {F0 H0 F H:Hp} {p:Addr} {A:List Addr} {tss:List (List T)} (S:eU K F0 H0 F H p (tss.map uq) A) {j:Nat} {ts:List T} (e:tss[j]? = some ts) :
  ∃ vs q ws,H p=some (.lst vs) /\ vs[j]? = some (.ref q) /\ H q=some (.lst ws) /\ aQ K F ts ws /\ vs.length=tss.length:=by
 obtain ⟨vs,q,ws,h1,h2,h3,h4,h5⟩:=S.row (j:=j) (ro:=ts.map O.val) (by rw [List.getElem?_map,e]; rfl) (fK ts)
 exact ⟨vs,q,ws,h1,h2,h3,by rw [iP] at h4; exact h4,by rw [h5,List.length_map]⟩
theorem eU.turnRow {K:PySem.W.Frag} {F0 H0 F H:Hp} {p:Addr} {A:List Addr} {tss:List (List T)} (S:eU K F0 H0 F H p (tss.map uq) A) {j:Nat} {ts us:List T} {vs ws:List V} {q:Addr} (e:tss[j]? = some ts) (hp:H p=some (.lst vs)) (hq:vs[j]? = some (.ref q)) (r:aQ K F us ws) :
  eU K F0 H0 F (upd H q (.lst ws)) p ((tss.set j us).map uq) A:=by
 have:=S.turn (j:=j) (ro:=ts.map O.val) (ts:=us) (ws:=ws) (by rw [List.getElem?_map,e]; rfl) (fK ts) hp hq r
 rw [List.map_set]
 exact this
theorem eU.len {K:PySem.W.Frag} {F0 H0 F H:Hp} {p:Addr} {A:List Addr} {os:List O} (S:eU K F0 H0 F H p os A):∃ vs,H p=some (.lst vs) /\ vs.length=os.length:=by
 obtain ⟨vs,B,_,h1,_,h3⟩:=S.root
 exact ⟨vs,h1,h3.length⟩
open PySem PySem.Spec PyProof.Rows L2
def kd:T -> Nat
 | .non=>1 | .bl _=>2 | .int _=>0 | .str _=>3 | .ty _=>4 | .tup _=>5 | .lst _=>5 | .scr _=>5 | .dic=>5 | .obj _ _ _=>5 | .ptr _=>5 | .exc _=>5
def KQ (us ts:List T):Bool:=us.length != ts.length || (List.zip us ts).any fun p=>kd p.1 != kd p.2
mutual
def apart (us:List T):T -> Bool
 | .tup ts=>jB us ts
 | .lst ts=>KQ us ts && jB us ts
 | .scr _=>false
 | .obj _ _ ts=>jB us ts
 | _=>true
def jB (us:List T):List T -> Bool
 | []=>true
 | t :: ts=>apart us t && jB us ts
end
def MN:V -> Nat
 | .non=>1 | .bl _=>2 | .int _=>0 | .str _=>3 | .ty _=>4 | .ref _=>5 | _=>6
theorem JQ {K:PySem.W.Frag} {F:Hp} {t:T} {v:V} (h:Rep K F t v):kd t=MN v:=by
 cases t with
 | non=>rw [show v=_ from h]; rfl
 | bl b=>rw [show v=_ from h]; rfl
 | int b=>rw [show v=_ from h]; rfl
 | str b=>rw [show v=_ from h]; rfl
 | ty b=>rw [show v=_ from h]; rfl
 | tup ts=>obtain ⟨a,xs,e,_⟩:=h; rw [e]; rfl
 | lst ts=>obtain ⟨a,xs,e,_⟩:=h; rw [e]; rfl
 | scr ts=>obtain ⟨a,xs,e,_⟩:=h; rw [e]; rfl
 | dic=>obtain ⟨a,e,_⟩:=h; rw [e]; rfl
 | obj _ _ _=>obtain ⟨a,_,_,e,_⟩:=h; rw [e]; rfl
 | ptr _=>rw [show v=_ from h]; rfl
 | exc _=>obtain ⟨a,e,_⟩:=h; rw [e]; rfl
theorem Hx {K:PySem.W.Frag} {F:Hp} {t u:T} {v:V} (h:Rep K F t v) (h':Rep K F u v):kd t=kd u:=(JQ h).trans (JQ h').symm
theorem yY {K:PySem.W.Frag} {F:Hp}:∀ {us ts:List T} {vs:List V},aQ K F us vs -> aQ K F ts vs -> KQ us ts=false
 | [],[],_,_,_=>rfl
 | [],t :: ts,_,h,h'=>by
  obtain ⟨v,r,e,_⟩:=h'
  rw [show _=[] from h] at e; cases e
 | u :: us,[],_,h,h'=>by
  obtain ⟨v,r,e,_⟩:=h
  rw [show _=[] from h'] at e; cases e
 | u :: us,t :: ts,_,h,h'=>by
  obtain ⟨v,r,rfl,h1,h2⟩:=h
  obtain ⟨v',r',e,h3,h4⟩:=h'
  cases e
  have ih:=yY h2 h4
  unfold KQ at ih ⊢
  simp only [List.length_cons,List.zip_cons_cons,List.any_cons,Hx h1 h3,bne_self_eq_false,Bool.false_or] at ih ⊢
  simpa using ih
mutual
theorem Rep.drop {K:PySem.W.Frag} {F:Hp} {a:Addr} {us:List T} {vs:List V} (ha:F a=some (.lst vs)) (hu:aQ K F us vs):∀ {t:T} {v:V},apart us t=true -> Rep K F t v -> Rep K (kX F [a]) t v
 | .non,_,_,h=>h
 | .bl _,_,_,h=>h
 | .int _,_,_,h=>h
 | .str _,_,_,h=>h
 | .ty _,_,_,h=>h
 | .tup ts,_,k,h=>by
  obtain ⟨b,xs,h1,h2,h3⟩:=h
  refine ⟨b,xs,h1,?_,aQ.drop' ha hu (by simpa [apart] using k) h3⟩
  rcases h2 with (h2 | ⟨o,h2⟩) | h2
  ·refine .inl (.inl ?_)
   rw [dh (fun m=>by rw [List.mem_singleton.mp m,ha] at h2; cases h2)]; exact h2
  ·refine .inl (.inr ⟨o,?_⟩)
   rw [dh (fun m=>by rw [List.mem_singleton.mp m,ha] at h2; cases h2)]; exact h2
  ·exact .inr h2
 | .lst ts,_,k,h=>by
  obtain ⟨b,xs,h1,h2,h3⟩:=h
  have k':KQ us ts=true /\ jB us ts=true:=by simpa [apart] using k
  refine ⟨b,xs,h1,?_,aQ.drop' ha hu k'.2 h3⟩
  rw [dh (fun m=>by
   rw [List.mem_singleton.mp m,ha] at h2
   cases h2
   rw [yY hu h3] at k'
   exact absurd k'.1 (by decide))]
  exact h2
 | .scr _,_,k,_=>by simp [apart] at k
 | .dic,_,_,h=>by
  obtain ⟨b,h1,h2⟩:=h
  refine ⟨b,h1,?_⟩
  rw [dh (fun m=>by rw [List.mem_singleton.mp m,ha] at h2; cases h2)]
  exact h2
 | .obj C ns ts,_,k,h=>by
  obtain ⟨b,dx,xs,h1,h2,h3,h4⟩:=h
  refine ⟨b,dx,xs,h1,?_,h3,aQ.drop' ha hu (by simpa [apart] using k) h4⟩
  rw [dh (fun m=>by rw [List.mem_singleton.mp m,ha] at h2; cases h2)]
  exact h2
 | .ptr _,_,_,h=>h
 | .exc _,_,_,h=>by
  obtain ⟨b,h1,h2⟩:=h
  refine ⟨b,h1,?_⟩
  rw [dh (fun m=>by rw [List.mem_singleton.mp m,ha] at h2; cases h2)]
  exact h2
theorem aQ.drop' {K:PySem.W.Frag} {F:Hp} {a:Addr} {us:List T} {vs:List V} (ha:F a=some (.lst vs)) (hu:aQ K F us vs):∀ {ts:List T} {ws:List V},jB us ts=true -> aQ K F ts ws -> aQ K (kX F [a]) ts ws
 | [],_,_,h=>h
 | t :: ts,_,k,h=>by
  obtain ⟨v,r,h1,h2,h3⟩:=h
  have k':apart us t=true /\ jB us ts=true:=by simpa [jB] using k
  exact ⟨v,r,h1,Rep.drop ha hu k'.1 h2,aQ.drop' ha hu k'.2 h3⟩
end
section
variable {X:Cx} {e:Expr} {pos:Pos}
end
open PySem PySem.Spec PyProof.Rows L2
def K9 (K:PySem.W.Frag) (l:Addr):It:=
  ⟨fun i H=>∃ xs x,dE K H l xs /\ xs[i]? = some x,
   fun i H v H'=>∃ p x,v=.ref p /\ H p=none /\ H'=upd H p (.tup [.int i,x]) /\ ∀ xs,dE K H l xs -> xs[i]? = some x,
   fun i H=>∃ xs,dE K H l xs /\ xs.length ≤ i⟩
structure Mx (e it l:Addr) (i:Nat) (h:Heap):Prop where
 he:∃ old,IsEnum h e it (i:Int) old
 hi:h.IsListIter it l i
theorem Bm {P:Program} {w:World} {K:PySem.W.Frag} {elts:List Expr} {kx:Nat} {px:Pos} {e it l:Addr} (hei:e ≠ it) :
  Turn P w K (.Tuple elts kx px) (K9 K l) [e,it] e (Mx e it l) where
 mem:=by simp
 obj:=fun i h st b hb=>by
  simp only [List.mem_cons,List.not_mem_nil,or_false] at hb
  rcases hb with rfl | rfl
  ·obtain ⟨old,q⟩:=st.he
   exact ⟨_,q,fun v q=>nomatch (show Data.fields _=Data.cell v from q)⟩
  ·obtain ⟨o,ho,hc,hd⟩:=st.hi
   exact ⟨o,ho,fun v q=>by rw [hd] at q; cases q⟩
 keep:=fun i h h' st k=>by
  obtain ⟨old,q⟩:=st.he
  exact ⟨⟨old,k e (by simp) _ q⟩,st.hi.at fun o x=>k it (by simp) o x⟩
 item:=fun X hP hw hK hc i pins s σ H E I hf st hg=>by
  subst hP hw hK
  obtain ⟨xs,x,q1,g1⟩:=hg
  obtain ⟨its,r1,p1⟩:=jo (b:=true) I q1
  obtain ⟨u,e1,ru⟩:=r1.get g1
  obtain ⟨old,he⟩:=st.he
  refine wpAny_pyNext_enum_item he st.hi p1 (x:=u) (by simpa using e1) hei fun h' ho hit' hT hsz hk=>⟨_,rfl,?_⟩
  refine wpAny_letOwnedTupleGo_enum (s:={ s with heap:=h',toks:=s.toks + 1 }) ho fun h2 b1 b2=>?_
  have le:e < s.heap.objs.size:=Heap.lt_size he
  have li:it < s.heap.objs.size:=by obtain ⟨_,x,_⟩:=st.hi; exact Heap.lt_size x
  have kp:∀ b o,b ∉ [e,it] -> s.heap.get? b=some o -> h2.get? b=some o:=fun b o hb z=>by
   simp only [List.mem_cons,List.not_mem_nil,or_false,not_or] at hb
   exact (b2.2 b hb.1).trans (hk b o hb.1 hb.2 z)
  have pr:h2.get? s.heap.objs.size=some { cls:=.type "tuple", data:=.seq #[.int i s.toks,u] }:=(b2.2 _ (Nat.ne_of_gt le)).trans hT
  have fr:H s.heap.objs.size=none:=I.hok.fresh (Nat.le_refl _)
  have hokA:mQ X.prog X.w (upd H s.heap.objs.size (.tup [.int i,x])) h2:=by
   intro c o z
   by_cases hcz:c=s.heap.objs.size
   ·subst hcz
    rw [aN] at z; cases z
    exact ⟨by show 2 ≤ sizeLine; decide,[.int i s.toks,u],.cons ⟨_,rfl⟩ (.cons ru .nil),_,pr,rfl,_,rfl⟩
   ·rw [az hcz] at z
    have nf:∀ d o',H d=some o' -> d ∉ [e,it]:=fun d o' ed hd=>by rw [(hf d hd).1] at ed; cases ed
    have up:∀ d o',H d=some o' -> upd H s.heap.objs.size (.tup [.int i,x]) d=some o':=fun d o' ed=>by rw [az (bx ed fr)]; exact ed
    refine (I.hok c o z).stay (fun d v' hd q=>kp d v' ?_ q) (fun d q=>up d _ q) fun d xs q=>up d _ q
    rcases hd with rfl | hd
    ·exact nf _ o z
    ·exact nf d _ hd
  have J:Inv X pins σ (upd H s.heap.objs.size (.tup [.int i,x])) { s with heap:=h2,toks:=s.toks + 1 }:=by
   have ne:∀ b o,s.heap.get? b=some o -> b ≠ s.heap.objs.size:=fun b o e=>Nat.ne_of_lt (Heap.lt_size e)
   refine I.step (g':=s.gens) (d':=s.drawn) (t':=s.toks + 1) (ch:=[e,it]) (fun b hb=>?_) (fun b o _ _ hc e _=>kp b o hc e) (fun b o _ _ hc e _=>⟨o.slots,kp b o hc e⟩) (fun b o _ e n=>by rw [az (ne b o e)]; exact n)
    (fun b o hc e=>⟨o,kp b o hc e⟩) (fun b xs e=>by rw [az (bx e fr)]; exact e) (fun b o u e=>by rw [az (bx e fr)]; exact e) (fun b ps e=>⟨#[],by rw [az (bx e fr),e]; simp⟩) (fun m hm=>?_) hokA I.bare
   ·obtain ⟨_,f1,_,f3,f4,f5⟩:=hf b hb
    exact ⟨f3,f1,f4,f5⟩
   ·obtain ⟨o,es,ep,ho,r⟩:=hm
    exact ⟨o,es,ep,kp _ o (fun q=>(hf _ q).2.1 rfl) ho,r⟩
  refine ⟨.ref s.heap.objs.size,_,J,rfl,⟨_,x,rfl,fr,rfl,fun xs' h=>by rw [I.list_inj h q1]; exact g1⟩,⟨⟨u,by simpa using b1⟩,hit'.at fun o z=>(b2.2 it (Ne.symm hei)).trans z⟩,fun b hb=>?_⟩
  have:b ≠ s.heap.objs.size:=by
   simp only [List.mem_cons,List.not_mem_nil,or_false] at hb
   rcases hb with rfl | rfl
   ·exact Nat.ne_of_lt le
   ·exact Nat.ne_of_lt li
  rw [az this]
  exact (hf b hb).1
 done:=fun X hP hw hK hc i pins s σ H E I hf st hg=>by
  subst hP hw hK
  obtain ⟨xs,q1,g⟩:=hg
  obtain ⟨its,r1,p1⟩:=jo (b:=true) I q1
  obtain ⟨old,he⟩:=st.he
  have n1:=r1.length
  refine wpAny_pyNext_enum_end (I.ok.hd hc) he st.hi p1 (by simp; omega) fun h' k=>⟨rfl,qt I hf fun b o hb e=>?_⟩
  simp only [List.mem_cons,List.not_mem_nil,or_false,not_or] at hb
  exact k b o hb.2 e
 self:=fun _ _ _ _ _ st h=>by
  obtain ⟨old,he⟩:=st.he
  exact wpAny_pyIter_enum he h
open PySem PySem.Spec PyProof.Rows L2
def hide:aB -> aB
 | []=>[]
 | some (.own _) :: τ=>none :: hide τ
 | some (.sh t) :: τ=>some (.sh t) :: hide τ
 | none :: τ=>none :: hide τ
theorem dS:∀ τ:aB,(hide τ).length=τ.length
 | []=>rfl
 | some (.own _) :: τ=>by simp [hide,dS τ]
 | some (.sh t) :: τ=>by simp [hide,dS τ]
 | none :: τ=>by simp [hide,dS τ]
theorem gF:∀ {τ:aB} {j:Nat} {s:Sl},(hide τ)[j]? = some (some s) -> τ[j]? = some (some s) /\ ∃ t,s=.sh t
 | [],j,s,h=>by simp [hide] at h
 | some (.own _) :: τ,0,s,h=>by simp [hide] at h
 | some (.sh t) :: τ,0,s,h=>by simp [hide] at h; subst h; exact ⟨rfl,t,rfl⟩
 | none :: τ,0,s,h=>by simp [hide] at h
 | some (.own _) :: τ,j + 1,s,h=>by simpa using gF (τ:=τ) (j:=j) (by simpa [hide] using h)
 | some (.sh t) :: τ,j + 1,s,h=>by simpa using gF (τ:=τ) (j:=j) (by simpa [hide] using h)
 | none :: τ,j + 1,s,h=>by simpa using gF (τ:=τ) (j:=j) (by simpa [hide] using h)
section
variable {K:PySem.W.Frag} {F₀ H₀ F H F' H':Hp} {σ:L2.St} {τ:aB}
theorem aD.look {i:Nat} {us:List T} {vs:List V} {a:Addr} (E:aD K F₀ H₀ F H σ τ) (hs:σ[i]? = some (some (.ref a))) (h2:H a=some (.lst vs)) (h3:F a=none) (h5:aQ K F us vs) :
  aD K (upd F a (.lst vs)) H (upd F a (.lst vs)) H σ ((hide τ).set i (some (.sh (.lst us)))):=by
 have sF:aJ F (upd F a (.lst vs)):=bW h3
 have sH:aJ (upd F a (.lst vs)) H:=fun b o eb=>by
  by_cases hb:b=a
  ·rw [hb,aN] at eb; cases eb; rw [hb]; exact h2
  ·rw [az hb] at eb; exact E.g.fh b o eb
 have rp:Rep K (upd F a (.lst vs)) (.lst us) (.ref a):=⟨a,vs,rfl,aN,aQ.mono sF h5⟩
 have all:∀ {j:Nat} {s:Sl},((hide τ).set i (some (.sh (.lst us))))[j]? = some (some s) -> (∃ t,s=.sh t) /\ ∃ v,σ[j]? = some (some v) /\ si K H (upd F a (.lst vs)) H s v:=fun {j s} e=>by
  by_cases hj:i=j
  ·subst hj
   by_cases hl:i < (hide τ).length
   ·rw [List.getElem?_set_self hl] at e; cases e
    exact ⟨⟨_,rfl⟩,_,hs,rp⟩
   ·rw [List.getElem?_eq_none (by simp; omega)] at e; cases e
  ·rw [List.getElem?_set_ne hj] at e
   obtain ⟨e1,t,rfl⟩:=gF e
   obtain ⟨v,k1,k2⟩:=E.sl j _ e1
   exact ⟨⟨t,rfl⟩,v,k1,Rep.mono sF k2⟩
 refine ⟨br.refl sH,by simp [dS,E.len],fun j s e=>(all e).2,fun j k ts ws p _ e1=>?_⟩
 obtain ⟨t,z⟩:=(all e1).1
 cases z
theorem aD.drop {i:Nat} (E:aD K F₀ H₀ F H σ τ):aD K F₀ H₀ F H σ (τ.set i none):=by
 have key:∀ {j:Nat} {s:Sl},(τ.set i none)[j]? = some (some s) -> τ[j]? = some (some s):=fun {j s} e=>by
  by_cases hj:i=j
  ·subst hj
   by_cases hl:i < τ.length
   ·rw [List.getElem?_set_self hl] at e; cases e
   ·rw [List.getElem?_eq_none (by simp; omega)] at e; cases e
  ·rw [List.getElem?_set_ne hj] at e; exact e
 exact ⟨E.g,by simp [E.len],fun j s e=>E.sl j s (key e),fun j k ts us p hjk e1 e2=>E.dj j k ts us p hjk (key e1) (key e2)⟩
theorem aD.putOwn2 {i:Nat} {ts:List T} {vs:List V} {p:Addr} (E:aD K F₀ H₀ F H σ τ) (hp:H p=some (.lst vs)) (fp:F p=none) (h0:H₀ p=none) (ap:Apart σ τ [p]) (r:aQ K F ts vs) :
  aD K F₀ H₀ F H (σ.set i (some (.ref p))) (τ.set i (some (.own ts))):=by
 refine ⟨E.g,by simp [E.len],fun j s e=>?_,fun j k ts' us q hjk e1 e2 e3 e4=>?_⟩
 ·by_cases hj:i=j
  ·subst hj
   by_cases hl:i < τ.length
   ·rw [List.getElem?_set_self hl] at e
    cases e
    exact ⟨.ref p,List.getElem?_set_self (by rw [E.len]; exact hl),p,vs,rfl,hp,fp,h0,r⟩
   ·rw [List.getElem?_eq_none (by simp; omega)] at e; cases e
  ·rw [List.getElem?_set_ne hj] at e
   rw [List.getElem?_set_ne hj]
   exact E.sl j s e
 ·by_cases hj:i=j
  ·subst hj
   rw [List.getElem?_set_ne hjk] at e2 e4
   by_cases hl:i < τ.length
   ·rw [List.getElem?_set_self (by rw [E.len]; exact hl)] at e3
    cases e3
    exact ap k us p e2 e4 (List.mem_singleton.mpr rfl)
   ·rw [List.getElem?_eq_none (by simp; omega)] at e1; cases e1
  ·rw [List.getElem?_set_ne hj] at e1 e3
   by_cases hk:i=k
   ·subst hk
    by_cases hl:i < τ.length
    ·rw [List.getElem?_set_self (by rw [E.len]; exact hl)] at e4
     cases e4
     exact ap j ts' p e1 e3 (List.mem_singleton.mpr rfl)
    ·rw [List.getElem?_eq_none (by simp; omega)] at e2; cases e2
   ·rw [List.getElem?_set_ne hk] at e2 e4
    exact E.dj j k ts' us q hjk e1 e2 e3 e4
end
section
variable {X:Cx} {e:Expr} {pos:Pos}
theorem aQ.put {K:PySem.W.Frag} {F:Hp}:∀ {ts:List T} {vs:List V} {t:T} {v:V} (j:Nat),aQ K F ts vs -> Rep K F t v -> aQ K F (ts.set j t) (vs.set j v)
 | [],_,_,_,_,h,_=>by cases h; rfl
 | t :: ts,_,_,_,0,h,r=>by
  obtain ⟨v,rr,rfl,h2,h3⟩:=h
  exact ⟨_,rr,rfl,r,h3⟩
 | t :: ts,_,_,_,j + 1,h,r=>by
  obtain ⟨v,rr,rfl,h2,h3⟩:=h
  exact ⟨v,_,rfl,h2,aQ.put j h3 r⟩
def je (i:Nat) (f g:FE):FS:=fun τ=>(f τ).bind fun p=>match p.2[i]? with
 | some (some _)=>(g p.2).bind fun r=>match r.2[i]?,r.1 with
  | some (some (.own us)),.int k=>(tM us.length k).bind fun j=>some (.nx (r.2.set i (some (.own (us.set j p.1)))))
  | _,_=>none
 | _=>none
theorem wJ (i:Nat) {x:Str} {p1 p2:Pos} {v:Expr} {f g:FE} (hv:PE X (.Name x p1) (fF i)) (hf:SE X v f) (hg:SE X e g)
  (ha:∀ u,assign (.Subscript (.Name x p1) e p2) X.env u=(do
   let ov <- holding [u] (eval (.Name x p1) X.env)
   let iv <- holding [u,ov] (eval e X.env)
   standAt p2
   holding [u,ov,iv] (setItem ov iv u)
   release [u,ov,iv] []):=by intro _; rfl)
  (hs:swapsWithSole [.Subscript (.Name x p1) e p2] v pos.line X.env=pure false:=by rfl) (hw:swappedStores [.Subscript (.Name x p1) e p2] v X.env=pure none:=by rfl)
  (h1:(assignEach [.Subscript (.Name x p1) e p2] X.env).map (·.2)=[assign (.Subscript (.Name x p1) e p2) X.env]:=by rfl) :
  SS X (.Assign [.Subscript (.Name x p1) e p2] v pos) (je i f g):=fun F₀ H₀=>PS.weak (yl (hf F₀ H₀) (C9 hv (hg F₀ H₀) set_list ha) hs hw h1) fun D σ H hq__=>by
 obtain ⟨F,τ,r,E,e1,q⟩:=hq__
 obtain ⟨⟨t,τ1⟩,e2,e1⟩:=bind_some e1
 refine ⟨F,τ,t,τ1,E,e2,fun F1 H1 w E1 s1 r1=>?_⟩
 dsimp only at e1
 split at e1
 ·next s e3 =>
  obtain ⟨⟨y,τ2⟩,e4,e1⟩:=bind_some e1
  obtain ⟨v0,g1,_⟩:=E1.sl i _ e3
  refine ⟨v0,g1,F1,τ1,y,τ2,E1,e4,fun F2 H2 w2 E2 s2 r2=>?_⟩
  dsimp only at e1
  split at e1
  ·next _ us k e5 =>
   obtain ⟨j,e7,e1⟩:=bind_some e1
   cases e1
   cases r2
   obtain ⟨v',k1,p,vs,rfl,k2,k3,k4,k5⟩:=E2.sl i _ e5
   rw [g1] at k1; cases k1
   exact ⟨p,vs,k,j,rfl,rfl,k2,by rw [k5.length]; exact e7,q F2 _ σ (E2.turnOwn e5 g1 (k5.put j (Rep.mono s2 r1))) (s1.trans s2)⟩
  ·cases e1
 ·cases e1
def B8 (i:Nat):gX:=fun τ=>match τ[i]? with
 | some (some (.own us))=>some (.lst (us.map .val),τ.set i none)
 | _=>none
theorem DA (i:Nat) {x:Str} {p1:Pos} (hv:PE X (.Name x p1) (fF i)):qC X (.Name x p1) (B8 i):=fun F₀ H₀=>PE.weak hv fun σ H Q hq__=>by
 obtain ⟨F,τ,o,τ',E,e1,q⟩:=hq__
 unfold B8 at e1
 split at e1
 ·next us e3 =>
  cases e1
  obtain ⟨v,g1,p,vs,rfl,g2,g3,g4,g5⟩:=E.sl i _ e3
  refine ⟨_,g1,q F H _ [p] E.drop (aJ.refl _) ⟨p,vs,[],rfl,rfl,g2,g3,.vals g5⟩ (by simp) (fun b hb=>by rw [List.mem_singleton] at hb; subst hb; exact g4) fun j ws p' ej sj m=>?_⟩
  rw [List.mem_singleton] at m
  subst m
  have hj:i ≠ j:=fun z=>by
   subst z
   by_cases hl:i < τ.length
   ·rw [List.getElem?_set_self hl] at ej; cases ej
   ·rw [List.getElem?_eq_none (by simp; omega)] at ej; cases ej
  rw [List.getElem?_set_ne hj] at ej
  exact E.dj i j us ws p' hj e3 ej g1 sj
 ·cases e1
def nN (i:Nat) (f:gX):FS:=fun τ=>(f τ).bind fun p=>match p.1 with
 | .lst os=>some (.nx (p.2.set i (some (.own (O.trs os)))))
 | .val t=>some (.nx (p.2.set i (some (.sh t))))
theorem Ad (i:Nat) {x:Str} {pos':Pos} {f:gX} (hN:X.N.Nodup) (hi:X.N[i]? = some x) (hx:Loc X.env.scope x) (he:qC X e f) (hs:swapsWith e (some (.Name x pos')) pos.line X.env=pure false:=by rfl)
  (hf:X.fn x=true \/ X.env.scope.names.lookup x=some .local:=by first | exact .inl rfl | exact .inr rfl | assumption):SS X (.Assign [.Name x pos'] e pos) (nN i f):=fun F₀ H₀=>PS.weak (lJ hN hi hx (he F₀ H₀) hs hf) fun D σ H hq__=>by
 obtain ⟨F,τ,r,E,e1,q⟩:=hq__
 obtain ⟨⟨o,τ1⟩,e2,e1⟩:=bind_some e1
 refine ⟨F,τ,o,τ1,E,e2,fun F' H' v A E' s' ro nd h0 ap=>?_⟩
 dsimp only at e1
 split at e1
 ·next os =>
  cases e1
  obtain ⟨p,vs,B,rfl,rfl,h1,h2,h3⟩:=ro
  have nd':=List.nodup_cons.mp nd
  have hF:∀ a ∈ B,F' a=none:=fun a ha=>(h3.at a ha).1
  have E1:=E'.frzO (A:=B) hF (fun a ha=>h0 a (List.mem_cons_of_mem _ ha)) (fun j us p' e1 e2 m=>ap j us p' e1 e2 (List.mem_cons_of_mem _ m))
  refine q _ H' _ (E1.putOwn2 (i:=i) h1 (by rw [bP nd'.1]; exact h2) (h0 p List.mem_cons_self) (fun j us p' e1 e2 m=>ap j us p' e1 e2 (by rw [List.mem_singleton.mp m]; exact List.mem_cons_self)) (aU.rep (bV hF) (fun a ha=>cH ha) h3)) (s'.trans (bV hF))
 ·cases e1
  exact q F' H' _ (E'.set ro.2) s'
end
section
variable {P:Program} {w:World} {K:PySem.W.Frag} {mg:Str -> Option Value} {base:Heap}
end
open PySem PySem.Spec PyProof.Rows L2
section
variable {prog:Program} {w:World} {A:Around} {E:Value -> Shared -> Prop} {s:Shared}
end
section
variable {X:Cx}
end
open PySem PySem.Spec PyProof.Rows L2
section
variable {X:Cx}
end
open PySem PySem.Spec PyProof.Rows L2
def En (f:Str):List Str -> List T -> Option T
 | n :: ns,t :: ts=>if f=n then some t else En f ns ts
 | _,_=>none
theorem zm {K:PySem.W.Frag} {F:Hp} {f:Str}:∀ {ns:List Str} {ts:List T} {vs:List V} {t:T},aQ K F ts vs -> En f ns ts=some t -> ∃ v,(ns.zip vs).lookup f=some v /\ Rep K F t v
 | [],_,_,_,_,e=>by cases e
 | n :: ns,[],_,_,_,e=>by cases e
 | n :: ns,t :: ts,_,u,r,e=>by
  obtain ⟨v,rr,rfl,h1,h2⟩:=r
  unfold En at e
  rw [List.zip_cons_cons,List.lookup_cons]
  by_cases h:f=n
  ·rw [if_pos h] at e
   cases e
   rw [beq_iff_eq.mpr h]
   exact ⟨v,rfl,h1⟩
  ·rw [if_neg h] at e
   rw [beq_eq_false_iff_ne.mpr h]
   exact zm h2 e
theorem lB {f:Str}:∀ {ns:List Str} {vs:List V},f ∉ ns -> (ns.zip vs).lookup f=none
 | [],_,_=>by simp
 | n :: ns,[],_=>by simp
 | n :: ns,v :: vs,h=>by
  rw [List.zip_cons_cons,List.lookup_cons,beq_eq_false_iff_ne.mpr (show f ≠ n from fun z=>h (by rw [z]; exact List.mem_cons_self))]
  exact lB fun m=>h (List.mem_cons_of_mem _ m)
theorem wu {f:Str} {y:V}:∀ {ns:List Str} {vs:List V},f ∉ ns -> vs.length=ns.length -> ji f y (ns.zip vs)=(ns ++ [f]).zip (vs ++ [y])
 | [],[],_,_=>rfl
 | [],_ :: _,_,h=>by cases h
 | _ :: _,[],_,h=>by cases h
 | n :: ns,v :: vs,h,hl=>by
  rw [List.zip_cons_cons,show ji f y ((n,v) :: ns.zip vs)=(if n=f then (n,y) :: ns.zip vs else (n,v) :: ji f y (ns.zip vs)) from rfl,if_neg (show ¬ n=f from fun z=>h (by rw [z]; exact List.mem_cons_self)),wu (fun m=>h (List.mem_cons_of_mem _ m)) (by simpa using hl)]
  rfl
section
variable {X:Cx} {e:Expr} {es:List Expr} {pos:Pos}
def xv (Cs:List Addr) (f:Str) (fe:FE):FE:=fun τ=>(fe τ).bind fun p=>match p.1 with
 | .obj C ns ts=>if C ∈ Cs then (En f ns ts).bind fun t=>some (t,p.2) else none
 | _=>none
theorem qd {Cs:List Addr} {f:Str} {fe:FE} (hC:∀ C ∈ Cs,lV X.K C /\ eL X.K C f) (he:SE X e fe) (hb:attributeBase e f X.env (eval e X.env)=eval e X.env:=by rfl):SE X (.Attribute e f pos) (xv Cs f fe):=
 fun F₀ H₀=>PE.weak (HP (he F₀ H₀) hb) fun σ H Q h=>by
  obtain ⟨F,τ,t,τ',E,e1,q⟩:=h
  obtain ⟨⟨x,τ1⟩,e2,e1⟩:=bind_some e1
  dsimp only at e1
  split at e1
  ·next C ns ts =>
   split at e1
   ·next hm =>
    obtain ⟨u,e3,e1⟩:=bind_some e1
    cases e1
    refine ⟨F,τ,_,_,E,e2,fun F1 H1 v E1 s1 r1=>?_⟩
    obtain ⟨a,dx,vs,rfl,h1,h2,h3⟩:=r1
    obtain ⟨w,l1,l2⟩:=zm h3 e3
    exact ⟨a,C,dx,_,w,rfl,E1.g.fh _ _ h1,(hC C hm).1,(hC C hm).2,l1,q F1 H1 w E1 s1 l2⟩
   ·cases e1
  ·cases e1
end
structure fX (P:Program) (w:World) (K:PySem.W.Frag) (mg:Str -> Option Value) (base:Heap) (k:Nat) (C:Addr) (m:Str) (n:Nat) (d:List T -> Option T):Prop where
 cl:lV K C
 ex:∃ f fd ps,fI P w K mg base mP k f fd ps (spT K n d) /\ Binds K fd ps [] /\ Meth K C m f /\ ps.length=n
section
variable {P:Program} {w:World} {K:PySem.W.Frag} {mg:Str -> Option Value} {base:Heap} {j k n:Nat} {C:Addr} {m:Str}
theorem fX.imp {d d':List T -> Option T} (D:fX P w K mg base k C m n d) (h:∀ ts t,d' ts=some t -> d ts=some t):fX P w K mg base k C m n d':=by
 obtain ⟨f,fd,ps,F,r⟩:=D.ex
 exact ⟨D.cl,f,fd,ps,F.imp fun vs H Q E z=>by
  obtain ⟨l,F,ts,t,a,b,c,q⟩:=z
  exact ⟨l,F,ts,t,a,b,h _ _ c,q⟩,r⟩
theorem fX.mono {d:List T -> Option T} (D:fX P w K mg base j C m n d) (h:j ≤ k):fX P w K mg base k C m n d:=by
 obtain ⟨f,fd,ps,F,r⟩:=D.ex
 exact ⟨D.cl,f,fd,ps,F.mono h,r⟩
theorem oG {x qual:Str} {st:Stmt} {f:Addr} {fd:FuncData} {N ps:List Str} {fb:FS} (F:fG K x qual st f fd) (S:aS N ps (ax st)) (hb:Binds K fd ps []) (cl:lV K C) (hm:Meth K C m f)
  (h:∀ (cdv:Value) (A:Around) (outer:List Env) (s:Shared) (H:Hp) (E:XK),dq k (A.deeper (envOfC qual (ax st) s.heap.objs.size f cdv)) -> qZ (mW mP P w K mg base N qual (ax st) f cdv A outer s H E).nox (dy st) fb) :
  fX P w K mg base (k + 1) C m ps.length (cW N.length ps.length fb):=by
 refine ⟨cl,f,fd,ps,F.ok S (fun vs H Q E z=>z.1) (fun cdv A outer s H vs Q E hr z=>?_),hb,hm,rfl⟩
 obtain ⟨hl,F1,ts,t,sm,r,e,q⟩:=z
 unfold cW at e
 split at e
 ·next hn =>
  obtain ⟨r',e1,e⟩:=bind_some e
  refine ⟨_,h cdv A outer s H E hr F1 H,F1,_,r',?_,e1,?_⟩
  ·have:=fM (N:=N) sm r
   rw [hn] at this
   exact this
  ·cases r' with
   | rt u=>cases e; exact fun F' H' v g r'=>q F' H' v g r'
   | nx τ=>cases e; exact fun F' H' σ' E' s'=>q F' H' .non E'.g rfl
   | bk τ=>cases e
   | ct τ=>cases e
 ·cases e
end
section
variable {X:Cx} {o e:Expr} {es:List Expr} {pos apos:Pos} {g:FA} {fo:FE} {k n:Nat} {m:Str}
def vc (C:Addr):List (Addr × (List T -> Option T)) -> Option (List T -> Option T)
 | []=>none
 | a :: r=>if C=a.1 then some a.2 else vc C r
theorem rE {C:Addr} {d:List T -> Option T}:∀ {l:List (Addr × (List T -> Option T))},vc C l=some d -> (C,d) ∈ l
 | [],h=>by cases h
 | a :: r,h=>by
  unfold vc at h
  split at h
  ·next e=>cases h; subst e; exact List.mem_cons_self
  ·exact List.mem_cons_of_mem _ (rE h)
def dk (alts:List (Addr × (List T -> Option T))) (m:Str) (fo:FE) (g:FA):FE:=fun τ=>(fo τ).bind fun p=>match p.1 with
 | .obj C ns ts=>if m ∈ ns then none else (vc C alts).bind fun d=>(g p.2).bind fun q=>(d (.obj C ns ts :: q.1)).bind fun t=>some (t,q.2)
 | _=>none
theorem AO {alts:List (Addr × (List T -> Option T))} {F₀ H₀:Hp} {σ:L2.St} {H:Hp} {Q:VK} (h:tE X.K F₀ H₀ (dk alts m fo g) σ H Q) (hl:∀ τ ts τ',g τ=some (ts,τ') -> ts.length + 1=n) :
  ∃ C d,(C,d) ∈ alts /\ GN C m (spT X.K n d) [] E0 (tE X.K F₀ H₀ fo) (tA X.K F₀ H₀ g) σ H Q:=by
 obtain ⟨F,τ,t,τ',E,e1,q⟩:=h
 obtain ⟨⟨x,τ1⟩,e2,e1⟩:=bind_some e1
 dsimp only at e1
 split at e1
 ·next C ns ts =>
  split at e1
  ·cases e1
  ·next hm =>
   obtain ⟨d,e3,e1⟩:=bind_some e1
   obtain ⟨⟨us,τ2⟩,e4,e1⟩:=bind_some e1
   obtain ⟨u,e5,e1⟩:=bind_some e1
   cases e1
   refine ⟨C,d,rE e3,F,τ,_,τ1,E,e2,fun F1 H1 v E1 s1 r1=>?_⟩
   obtain ⟨a,dx,vs,rfl,h1,h2,h3⟩:=id r1
   refine ⟨a,dx,_,rfl,E1.g.fh _ _ h1,lB hm,F1,τ1,us,_,E1,e4,fun F2 H2 ws E2 s2 r2=>?_⟩
   refine ⟨by rw [List.append_nil,List.length_cons,r2.length]; exact hl _ _ _ e4,F2,.obj C ns ts :: us,_,E2.g.fh,⟨_,_,rfl,Rep.mono s2 r1,by rw [List.append_nil]; exact r2⟩,e5,fun F3 H3 v3 g3 r3=>?_⟩
   exact q F3 H3 v3 (E2.grow g3) ((s1.trans s2).trans g3.sF) r3
 ·cases e1
theorem fz {pl:Sem Bool} {alts:List (Addr × (List T -> Option T))} (hD:∀ a ∈ alts,fX X.prog X.w X.K X.mg X.base k a.1 m 1 a.2) (hr:dq k X.A) (he:SE X o fo)
  (ht:eval (.Call (.Attribute o m apos) [] [] pos) X.env=(do
   let ov <- eval o X.env
   standAt apos.atName
   let (f,first) <- holding [ov] (getMethod ov m pl)
   callWith pos f first (backTo pos (starEach [] X.env)) (backToKw pos (keywordEach [] X.env))):=by rfl) :
  SE X (.Call (.Attribute o m apos) [] [] pos) (dk alts m fo aj):=by
 intro F₀ H₀ pins s σ H Q I h
 obtain ⟨C,d,hm,h'⟩:=AO (n:=1) h (fun τ ts τ' e=>by cases e; rfl)
 have D:=hD _ hm
 obtain ⟨f,fd,ps,Fk,hb,hme,hn⟩:=D.ex
 refine wj (E:=E0) (CX:=mP) (he F₀ H₀) D.cl hme Fk hr hb .nil rL ht pins s σ H Q I ?_
 obtain ⟨F,τ,t,τ',E,e1,q⟩:=h'
 refine ⟨F,τ,t,τ',E,e1,fun F1 H1 v E1 s1 r1=>?_⟩
 obtain ⟨a,dx,fs,h1,h2,h3,F2,τ2,us,τ3,E2,e2,q2⟩:=q F1 H1 v E1 s1 r1
 cases e2
 exact ⟨a,dx,fs,h1,h2,h3,q2 F2 H1 [] E2 (aJ.refl _) rfl⟩
end
abbrev wZ:=List Str × List T
def MT (K:PySem.W.Frag) (C:Addr) (n:Nat) (d:List T -> Option wZ):Sp:=fun vs H Q _=>vs.length=n + 1 /\ ∃ F x dx ws ts r,vs=.ref x :: ws /\ H x=some (.ins C dx []) /\ F x=none /\ aJ F H /\ aQ K F ts ws /\ d ts=some r /\
 ∀ F' H' us,br F (kX H [x]) F' H' -> H' x=some (.ins C dx (r.1.zip us)) -> F' x=none -> us.length=r.1.length -> aQ K F' r.2 us -> Q .non H'
structure oS (P:Program) (w:World) (K:PySem.W.Frag) (mg:Str -> Option Value) (base:Heap) (k:Nat) (x:Str) (C:Addr) (n:Nat) (d:List T -> Option wZ):Prop where
 ex:∃ j f fd ps,k=j + 1 /\ Mk K C f /\ fI P w K mg base mP j f fd ps (MT K C n d) /\ Binds K fd ps [] /\ mg x=some (.ref C) /\ ps.length=n + 1
theorem oS.mono {P:Program} {w:World} {K:PySem.W.Frag} {mg:Str -> Option Value} {base:Heap} {j k n:Nat} {x:Str} {C:Addr} {d:List T -> Option wZ} (D:oS P w K mg base j x C n d) (h:j ≤ k):oS P w K mg base k x C n d:=by
 obtain ⟨i,f,fd,ps,hj,M,F,r⟩:=D.ex
 exact ⟨k - 1,f,fd,ps,by omega,M,F.mono (by omega),r⟩
theorem oS.imp {P:Program} {w:World} {K:PySem.W.Frag} {mg:Str -> Option Value} {base:Heap} {k n:Nat} {x:Str} {C:Addr} {d d':List T -> Option wZ} (D:oS P w K mg base k x C n d) (h:∀ ts r,d' ts=some r -> d ts=some r):oS P w K mg base k x C n d':=by
 obtain ⟨i,f,fd,ps,hj,M,F,r⟩:=D.ex
 exact ⟨i,f,fd,ps,hj,M,F.imp fun vs H Q E z=>by
  obtain ⟨l,F,x,dx,ws,ts,r,a,b,c,dd,e,g,q⟩:=z
  exact ⟨l,F,x,dx,ws,ts,r,a,b,c,dd,e,h _ _ g,q⟩,r⟩
section
variable {X:Cx} {e:Expr} {es:List Expr} {pos:Pos} {g:FA}
def zi (C:Addr) (d:List T -> Option wZ) (g:FA):FE:=fun τ=>(g τ).bind fun p=>(d p.1).bind fun r=>some (.obj C r.1 r.2,p.2)
theorem Fx {k n:Nat} {x:Str} {p:Pos} {C:Addr} {d:List T -> Option wZ} (D:oS X.prog X.w X.K X.mg X.base k x C n d) (hr:dq k X.A) (hg:Gl X x) (ha:SA X (e :: es) g) (hl:∀ τ ts τ',g τ=some (ts,τ') -> ts.length=n) (hdb:(x == ("__debug__" : Str))=false:=by decide)
  (he:starEach (e :: es) X.env=(false,eval e X.env) :: starEach es X.env:=by rfl) (hpl:(backTo pos (starEach es X.env)).any (·.1)=false:=by rfl):SE X (.Call (.Name x p) (e :: es) [] pos) (zi C d g):=by
 obtain ⟨j,f,fd,ps,hj,M,Fk,hb,hm,hn⟩:=D.ex
 subst hj
 intro F₀ H₀
 refine PE.weak (Fh (E:=E0) (CX:=mP) M Fk hr hg hm hb .nil rL (ha F₀ H₀) hdb he hpl) fun σ H Q h=>?_
 obtain ⟨F,τ,t,τ',E,e1,q⟩:=h
 obtain ⟨⟨ts,τ1⟩,e2,e1⟩:=bind_some e1
 obtain ⟨r,e3,e1⟩:=bind_some e1
 cases e1
 refine ⟨F,τ,ts,_,E,e2,fun F1 H1 vs E1 s1 r1=>fun a dx na ndx ne=>?_⟩
 have fa:F1 a=none:=E1.g.fh.free na
 have fd':F1 dx=none:=E1.g.fh.free ndx
 have sm:aJ F1 (upd (upd H1 dx (.own a)) a (.ins C dx [])):=fun b o z=>by
  rw [az (bx z fa),az (bx z fd')]
  exact E1.g.fh b o z
 have sm1:aJ H1 (upd (upd H1 dx (.own a)) a (.ins C dx [])):=fun b o z=>by
  rw [az (bx z na),az (bx z ndx)]
  exact z
 refine ⟨by rw [List.append_nil,List.length_cons,r1.length,hl _ _ _ e2],F1,a,dx,vs,ts,r,by rw [List.append_nil],aN,fa,sm,r1,e3,fun F' H' us gr hx fx hlu ru=>⟨rfl,?_⟩⟩
 have sF:aJ F' (upd F' a (.ins C dx (r.1.zip us))):=bW fx
 have g2:br F1 H1 (upd F' a (.ins C dx (r.1.zip us))) H':=by
  refine ⟨gr.sF.trans sF,fun b o z=>gr.sH b o ?_,fun b o z=>?_,fun b o z=>?_⟩
  ·rw [dh (fun m=>by rw [List.mem_singleton.mp m,na] at z; cases z)]
   exact sm1 b o z
  ·by_cases hb:b=a
   ·rw [hb,aN] at z; cases z; rw [hb]; exact hx
   ·rw [az hb] at z; exact gr.fh b o z
  ·by_cases hb:b=a
   ·exact .inr (by rw [hb]; exact na)
   ·rw [az hb] at z
    rcases gr.nw b o z with y | y
    ·exact .inl y
    ·rw [dh (fun m=>hb (List.mem_singleton.mp m))] at y
     exact .inr (sm1.free y)
 exact q _ H' (.ref a) (E1.grow g2) (s1.trans g2.sF) ⟨a,dx,us,rfl,aN,hlu,aQ.mono sF ru⟩
end
abbrev FI:=aB -> List Str -> List T -> Option wZ
def MX (K:PySem.W.Frag) (C x:Addr) (F₀ H₀:Hp) (f:FI):TS:=fun D σ H=>∃ F τ ns us vs dx r,aD K F₀ H₀ F H σ τ /\ bX τ=true /\ τ[0]? = some (some (.sh (.ptr x))) /\ H x=some (.ins C dx (ns.zip vs)) /\ F x=none /\ H₀ x=none /\ vs.length=ns.length /\ ns.length < 1000 /\ aQ K F us vs /\ f τ ns us=some r /\
 ∀ F' H' σ' us',br F₀ H₀ F' H' -> H' x=some (.ins C dx (r.1.zip us')) -> F' x=none -> us'.length=r.1.length -> aQ K F' r.2 us' -> D.nx σ' H'
def II (X:Cx) (C:Addr) (ss:List Stmt) (f:Addr -> FI):Prop:=∀ x F₀ H₀,iQ X ss (MX X.K C x F₀ H₀ (f x))
section
variable {X:Cx} {C:Addr} {e:Expr} {rest:List Stmt} {pos:Pos}
def JL:Addr -> FI:=fun _ _ ns us=>some (ns,us)
theorem FK:II X C [] JL:=fun x F₀ H₀=>iQ.weak oJ fun D σ H h=>by
 obtain ⟨F,τ,ns,us,vs,dx,r,E,ha,h0,hx,fx,h0x,hl,hk,ru,e1,q⟩:=h
 cases e1
 exact q F H σ vs E.g hx fx hl ru
def Ex (f:Str) (fe:FE) (fr:Addr -> FI):Addr -> FI:=fun x τ ns us=>(fe τ).bind fun p=>if bX p.2=true /\ ¬ f ∈ ns /\ ns.length < 999 then match (p.2[0]? : Option (Option Sl)) with
 | some (some (.sh (.ptr y)))=>if y=x then fr x p.2 (ns ++ [f]) (us ++ [p.1]) else none
 | _=>none else none
theorem FJ {f:Str} {fe:FE} {fr:Addr -> FI} {y:Str} {p1 p2:Pos} (hc:lV X.K C) (hn:eL X.K C f) (hy:PE X (.Name y p1) (fF 0)) (he:SE X e fe) (hr:II X C rest fr)
  (hs:swapsWith e (some (.Attribute (.Name y p1) f p2)) pos.line X.env=pure false:=by rfl):II X C (.Assign [.Attribute (.Name y p1) f p2] e pos :: rest) (Ex f fe fr):=fun x F₀ H₀=>iQ.weak (cE (HX hy he.any hs) (hr x F₀ H₀)) fun D σ H h=>by
 obtain ⟨F,τ,ns,us,vs,dx,r,E,ha,h0,hx,fx,h0x,hl,hk,ru,e1,q⟩:=h
 obtain ⟨⟨t,τ1⟩,e2,e1⟩:=bind_some e1
 dsimp only at e1
 split at e1
 ·next hc1 =>
  split at e1
  ·next y1 hp1 =>
   split at e1
   ·next hyx =>
    subst hyx
    refine ⟨F,H,F,τ,t,τ1,E.rebase ha E.g.fh,e2,fun F1 H1 w E1 s1 r1=>?_⟩
    have hx1:=E1.g.sH _ _ hx
    have fx1:F1 y1=none:=by
     cases eF:F1 y1 with
     | none=>rfl
     | some o =>
      rcases E1.g.nw _ o eF with z | z
      ·rw [fx] at z; cases z
      ·rw [hx] at z; cases z
    obtain ⟨v0,k1,k2⟩:=E.sl 0 _ h0
    cases (show v0=.ref y1 from k2)
    refine ⟨_,k1,y1,C,dx,_,rfl,hx1,hc,hn,by rw [List.length_zip]; omega,?_⟩
    rw [wu hc1.2.1 hl]
    have E2:aD X.K F₀ H₀ F1 (upd H1 y1 (.ins C dx ((ns ++ [f]).zip (vs ++ [w])))) σ τ1:=by
     refine E1.to hc1.1 (aJ.refl _) ⟨E.g.sF.trans E1.g.sF,fun b o z=>?_,fun b o z=>?_,fun b o z=>?_⟩
     ·rw [az (fun y=>by rw [y,h0x] at z; cases z)]
      exact E1.g.sH _ _ (E.g.sH _ _ z)
     ·rw [az (fun y=>by rw [y,fx1] at z; cases z)]
      exact E1.g.fh _ _ z
     ·rcases E1.g.nw b o z with y | y
      ·exact E.g.nw b o y
      ·exact .inr (E.g.sH.free y)
    refine ⟨F1,τ1,ns ++ [f],us ++ [t],vs ++ [w],dx,r,E2,hc1.1,hp1,aN,fx1,h0x,by simp [hl],by rw [List.length_append]; simp only [List.length_cons,List.length_nil]; omega,(aQ.mono E1.g.sF ru).append (.one r1),e1,q⟩
   ·cases e1
  ·cases e1
 ·cases e1
def Cv (t:FS) (fr:Addr -> FI):Addr -> FI:=fun x τ ns us=>(t τ).bind fun r=>match r with
 | .nx τ1=>if bX τ1=true then match (τ1[0]? : Option (Option Sl)) with
  | some (some (.sh (.ptr y)))=>if y=x then fr x τ1 ns us else none
  | _=>none else none
 | _=>none
theorem zZ {st:Stmt} {t:FS} {fr:Addr -> FI} (hst:SS X st t) (hr:II X C rest fr):II X C (st :: rest) (Cv t fr):=fun x F₀ H₀=>iQ.weak (cE hst.any (hr x F₀ H₀)) fun D σ H h=>by
 obtain ⟨F,τ,ns,us,vs,dx,r,E,ha,h0,hx,fx,h0x,hl,hk,ru,e1,q⟩:=h
 obtain ⟨r1,e2,e1⟩:=bind_some e1
 refine ⟨F,H,F,τ,r1,E.rebase ha E.g.fh,e2,?_⟩
 cases r1 with
 | nx τ1 =>
  dsimp only at e1
  split at e1
  ·next hs =>
   split at e1
   ·next y1 hp1 =>
    split at e1
    ·next hyx =>
     subst hyx
     refine fun F1 H1 σ1 E1 s1=>?_
     have hx1:=E1.g.sH _ _ hx
     have fx1:F1 y1=none:=by
      cases eF:F1 y1 with
      | none=>rfl
      | some o =>
       rcases E1.g.nw _ o eF with z | z
       ·rw [fx] at z; cases z
       ·rw [hx] at z; cases z
     exact ⟨F1,τ1,ns,us,vs,dx,r,E1.back hs E.g,hs,hp1,hx1,fx1,h0x,hl,hk,aQ.mono E1.g.sF ru,e1,q⟩
    ·cases e1
   ·cases e1
  ·cases e1
 | rt t=>cases e1
 | bk t=>cases e1
 | ct t=>cases e1
end
def Ei (m n:Nat) (fb:Addr -> FI) (ts:List T) (r:wZ):Prop:=ts.length=n /\ ∀ x:Addr,fb x (some (.sh (.ptr x)) :: (ts.map (fun t=>some (Sl.sh t)) ++ List.replicate (m - (n + 1)) none)) [] []=some r
open Classical in
def dI (m n:Nat) (fb:Addr -> FI):List T -> Option wZ:=fun ts=>if h:∃ r,Ei m n fb ts r then some h.choose else none
theorem Jj {m n:Nat} {fb:Addr -> FI} {ts:List T} {r:wZ} (h:Ei m n fb ts r):dI m n fb ts=some r:=by
 unfold dI
 have hh:∃ r,Ei m n fb ts r:=⟨r,h⟩
 rw [dif_pos hh]
 have h1:=hh.choose_spec.2 0
 rw [h.2 0] at h1
 exact h1.symm
theorem G1 {m n:Nat} {fb:Addr -> FI} {ts:List T} {r:wZ} (h:dI m n fb ts=some r):Ei m n fb ts r:=by
 unfold dI at h
 split at h
 ·next hh=>cases h; exact hh.choose_spec
 ·cases h
theorem mR:∀ (ts:List T) (j:Nat),bX (ts.map (fun t=>some (Sl.sh t)) ++ List.replicate j none)=true
 | [],0=>rfl
 | [],j + 1=>by rw [List.replicate_succ]; exact mR [] j
 | t :: ts,j=>mR ts j
theorem Ey {P:Program} {w:World} {K:PySem.W.Frag} {mg:Str -> Option Value} {base:Heap} {k n:Nat} {x cx:Str} {C:Addr} {qual:Str} {st:Stmt} {f:Addr} {fd:FuncData} {N ps:List Str} {fb:Addr -> FI} (F:fG K x qual st f fd) (S:aS N ps (ax st)) (hb:Binds K fd ps []) (M:Mk K C f) (hm:mg cx=some (.ref C)) (hn:ps.length=n + 1)
  (h:∀ (cdv:Value) (A:Around) (outer:List Env) (s:Shared) (H:Hp) (E:XK),dq k (A.deeper (envOfC qual (ax st) s.heap.objs.size f cdv)) -> II (mW mP P w K mg base N qual (ax st) f cdv A outer s H E).nox C (dy st) fb) :
  oS P w K mg base (k + 2) cx C n (dI N.length n fb):=by
 refine ⟨k + 1,f,fd,ps,rfl,M,F.ok S (fun vs H Q E z=>by rw [hn]; exact z.1) (fun cdv A outer s H vs Q E hr z=>?_),hb,hm,hn⟩
 obtain ⟨hl,F1,a,dx,ws,ts,r,rfl,hx,fx,sm,rw1,e,q⟩:=z
 obtain ⟨hlen,hf⟩:=G1 e
 refine ⟨_,h cdv A outer s H E hr a F1 (kX H [a]),?_⟩
 have r1:aQ K F1 (.ptr a :: ts) (.ref a :: ws):=⟨_,_,rfl,rfl,rw1⟩
 have E0:=fM (N:=N) sm r1
 have hsh:bX ((T.ptr a :: ts).map (fun t=>some (Sl.sh t)) ++ List.replicate (N.length - (T.ptr a :: ts).length) none)=true:=mR _ _
 have g0:br F1 (kX H [a]) F1 H:=⟨aJ.refl _,AB,sm,fun _ _ z=>.inl z⟩
 have E1:=E0.to hsh (aJ.refl _) g0
 refine ⟨F1,_,[],[],[],dx,r,E1,hsh,rfl,hx,fx,h9 List.mem_cons_self,rfl,by decide,rfl,?_,fun F' H' σ' us' g' h1 h2 h3 h4=>q F' H' us' g' h1 h2 h3 h4⟩
 have:=hf a
 rw [<- hlen] at this
 exact this
open PySem PySem.Spec PyProof.Rows L2
structure Mc (K:PySem.W.Frag) (Ct C:Addr) (b:Bool):Prop where
 cl:lV K C
 ha:PySem.W.findIn K (.ref C) "__class__" = some (some (.builtin "object.__class__"))
 hn:PySem.W.specialIn K (.builtin "object.__class__") "__get__" = some (some (.builtin "getset_descriptor.__get__"))
 htk:PySem.W.takesIn K (.builtin "object.__class__")=some true
 hm:PySem.W.mroIn K C (.type "object")=some true
 kit:PySem.W.kitOne K (.ref C) (.ref Ct)=some b
section
variable {X:Cx} {e:Expr} {pos:Pos}
structure MC (K:PySem.W.Frag) (C:Addr):Prop where
 makes:PySem.W.makesIn K C=true
 init:PySem.W.findIn K (.ref C) "__init__" = some (some (.builtin "object.__init__"))
 kp:PySem.W.keepIn K (.ref C)=true
end
open PySem PySem.Spec PyProof.Rows L2
section
variable {X:Cx} {e:Expr} {pos:Pos} {f:FE}
end
open PySem PySem.Spec PyProof.Rows L2
structure rY (K:PySem.W.Frag) (F₀ H₀ F H:Hp) (σ:L2.St) (τ:aB) (x:Nat) (p:Addr) (tss:List (List T)) (A:List Addr):Prop where
 E:aD K F₀ H₀ F H σ τ
 hx:τ[x]? = some (some (.sh (.ptr p)))
 r:cQ K F H (.lst (tss.map uq)) (.ref p) A
 nd:A.Nodup
 h0:∀ a ∈ A,H₀ a=none
 ap:Apart σ τ A
section
variable {K:PySem.W.Frag} {F₀ H₀ F H F' H':Hp} {σ σ':L2.St} {τ τ':aB} {x:Nat} {p:Addr} {tss:List (List T)} {A:List Addr}
theorem rY.lies (D:rY K F₀ H₀ F H σ τ x p tss A) {a:Addr} (ha:a ∈ A):F a=none /\ ∃ vs,H a=some (.lst vs):=D.r.at a ha
theorem rY.back (D:rY K F₀ H₀ F H σ τ x p tss A) (E':aD K F₀ (frzO H₀ H A) F' H' σ' τ') (s:aJ F F') (hx:τ'[x]? = some (some (.sh (.ptr p)))):rY K F₀ H₀ F' H' σ' τ' x p tss A:=by
 have out:∀ {a:Addr},frzO H₀ H A a=none -> a ∉ A /\ H₀ a=none:=fun {a} e=>by
  have m:a ∉ A:=fun m=>by
   obtain ⟨vs,k⟩:=(D.lies m).2
   rw [cH m,k] at e; cases e
  exact ⟨m,by rw [bP m] at e; exact e⟩
 refine ⟨⟨⟨E'.g.sF,fun a o e=>?_,E'.g.fh,fun a o e=>?_⟩,E'.len,fun i s e=>?_,E'.dj⟩,hx,cQ.move s (fun a ha=>?_) D.r,D.nd,D.h0,fun j us q e1 e2=>?_⟩
 ·have m:a ∉ A:=fun m=>by rw [D.h0 a m] at e; cases e
  exact E'.g.sH _ _ (by rw [bP m]; exact e)
 ·rcases E'.g.nw a o e with z | z
  ·exact .inl z
  ·exact .inr (out z).2
 ·obtain ⟨v,h1,h2⟩:=E'.sl i s e
  refine ⟨v,h1,?_⟩
  cases s with
  | sh t=>exact h2
  | own ts =>
   obtain ⟨q,vs,rfl,k1,k2,k3,k4⟩:=h2
   exact ⟨q,vs,rfl,k1,k2,(out k3).2,k4⟩
 ·obtain ⟨f1,vs,f2⟩:=D.lies ha
  refine ⟨by rw [f2]; exact E'.g.sH _ _ (by rw [cH ha]; exact f2),?_⟩
  cases eF:F' a with
  | none=>rfl
  | some o =>
   rcases E'.g.nw a o eF with z | z
   ·rw [D.E.g.sF _ _ z] at f1; cases f1
   ·exact absurd ha (out z).1
 ·obtain ⟨v,h1,q',vs,rfl,k1,k2,k3,k4⟩:=E'.sl j _ e1
  rw [e2] at h1; cases h1
  exact (out k3).1
theorem rY.grow (D:rY K F₀ H₀ F H σ τ x p tss A) (g:br F H F' H'):rY K F₀ H₀ F' H' σ τ x p tss A:=⟨D.E.grow g,D.hx,D.r.over g,D.nd,D.h0,D.ap⟩
theorem rY.held (D:rY K F₀ H₀ F H σ τ x p tss A):eU K F₀ H₀ F H p (tss.map uq) A:=⟨D.E.g,D.r,D.nd,D.h0⟩
theorem rY.get (D:rY K F₀ H₀ F H σ τ x p tss A):σ[x]? = Option.some (Option.some (.ref p)):=by
 obtain ⟨v,h1,h2⟩:=D.E.sl x _ D.hx
 have:v=.ref p:=h2
 rw [h1,this]
end
abbrev FD:=Addr -> List (List T) -> aB -> Option (List (List T) × aB)
def mm (x:Nat) (p:Addr) (τ:aB):Bool:=match τ[x]? with
 | some (some (.sh (.ptr q)))=>Nat.beq q p
 | _=>false
theorem vi {x:Nat} {p:Addr} {τ:aB} (h:mm x p τ=true):τ[x]? = some (some (.sh (.ptr p))):=by
 unfold mm at h
 split at h
 ·next q e=>rw [e,Nat.eq_of_beq_eq_true h]
 ·cases h
theorem lj {x:Nat} {p:Addr} {τ:aB} (h:τ[x]? = some (some (.sh (.ptr p)))):mm x p τ=true:=by
 unfold mm
 rw [h]
 exact Nat.beq_refl p
theorem SG.any {X:Cx} {tg:Expr} {g:FG} (h:SG X tg g):PG X tg (fun v σ H Q=>∃ F₀ H₀,tG X.K F₀ H₀ g v σ H Q):=fun pins s σ H v u Q I r ⟨F₀,H₀,q⟩=>h F₀ H₀ pins s σ H v u Q I r q
section
variable {X:Cx} {e:Expr} {pos:Pos} {x:Nat}
def Gs (x:Nat) (c:FT) (f g:FD):FD:=fun p tss τ=>(c τ).bind fun q=>if mm x p q.2=true then (if q.1=true then f p tss q.2 else g p tss q.2) else none
end
theorem wB {K:PySem.W.Frag} {F H:Hp}:∀ {tss:List (List T)} {vs:List V} {B:List Addr} {k:Nat} {q:Addr} {row:List T},aU K F H (tss.map uq) vs B -> tss[k]? = some row -> vs[k]? = some (.ref q) -> q ∈ B
 | [],_,_,k,_,_,_,e,_=>by simp at e
 | r :: tss,vs,B,k,q,row,h,e,e'=>by
  obtain ⟨v,r',B1,C,rfl,rfl,h1,h2⟩:=h
  cases k with
  | zero =>
   cases e'
   obtain ⟨q',ws,B2,hq,rfl,_⟩:=h1
   cases hq
   exact List.mem_append_left _ List.mem_cons_self
  | succ k=>exact List.mem_append_right _ (wB h2 e e')
section
variable {K:PySem.W.Frag} {F₀ H₀ F H F' H':Hp} {σ σ':L2.St} {τ τ':aB} {x:Nat} {p:Addr} {tss:List (List T)} {A:List Addr}
theorem rY.upd (D:rY K F₀ H₀ F H σ τ x p tss A) {a:Addr} (ha:a ∈ A) (o:HO):aD K F₀ H₀ F (L2.upd H a o) σ τ:=by
 refine ⟨⟨D.E.g.sF,fun b u e=>?_,fun b u e=>?_,D.E.g.nw⟩,D.E.len,fun i s e=>?_,D.E.dj⟩
 ·rw [az (fun z=>by rw [z,D.h0 a ha] at e; cases e)]; exact D.E.g.sH _ _ e
 ·rw [az (fun z=>by rw [z,(D.lies ha).1] at e; cases e)]; exact D.E.g.fh _ _ e
 ·obtain ⟨v,h1,h2⟩:=D.E.sl i s e
  refine ⟨v,h1,?_⟩
  cases s with
  | sh t=>exact h2
  | own ts =>
   obtain ⟨q,vs,rfl,k1,k2,k3,k4⟩:=h2
   exact ⟨q,vs,rfl,by rw [az (show q ≠ a from fun z=>D.ap i ts q e h1 (by rw [z]; exact ha))]; exact k1,k2,k3,k4⟩
theorem rY.put (D:rY K F₀ H₀ F H σ τ x p tss A) {k l:Nat} {row:List T} {t:T} {w:V} (er:tss[k]? = some row) (r:Rep K F t w) :
  ∃ vs qa ws,H p=some (.lst vs) /\ vs[k]? = some (.ref qa) /\ H qa=some (.lst ws) /\ ws.length=row.length /\ vs.length=tss.length /\ rY K F₀ H₀ F (L2.upd H qa (.lst (ws.set l w))) σ τ x p (tss.set k (row.set l t)) A:=by
 obtain ⟨vs,qa,ws,h1,h2,h3,h4,h5⟩:=D.held.at er
 have S:=D.held.turnRow (us:=row.set l t) (ws:=ws.set l w) er h1 h2 (uJ r l h4)
 obtain ⟨vs',B,hA,g1,g2,g3⟩:=D.held.root
 rw [h1] at g1; cases g1
 have m:qa ∈ A:=by rw [hA]; exact List.mem_cons_of_mem _ (wB g3 er h2)
 exact ⟨vs,qa,ws,h1,h2,h3,h4.length,h5,D.upd m _,D.hx,S.r,S.nd,S.h0,D.ap⟩
theorem rY.look (D:rY K F₀ H₀ F H σ τ x p tss A):aD K (frzO F H A) H (frzO F H A) H σ ((hide τ).set x (Option.some (.sh (.lst (tss.map T.lst))))):=by
 have sF:aJ F (frzO F H A):=bV fun a ha=>(D.lies ha).1
 have sH:aJ (frzO F H A) H:=fun b o eb=>by
  by_cases m:b ∈ A
  ·rw [cH m] at eb; exact eb
  ·rw [bP m] at eb; exact D.E.g.fh b o eb
 have rp:Rep K (frzO F H A) (.lst (tss.map T.lst)) (.ref p):=by
  have:=D.r.frz
  rw [O.tr,wO] at this
  exact this
 have all:∀ {j:Nat} {s:Sl},((hide τ).set x (Option.some (.sh (.lst (tss.map T.lst)))))[j]? = Option.some (Option.some s) -> (∃ t,s=.sh t) /\ ∃ v,σ[j]? = Option.some (Option.some v) /\ si K H (frzO F H A) H s v:=fun {j s} e=>by
  by_cases hj:x=j
  ·subst hj
   by_cases hl:x < (hide τ).length
   ·rw [List.getElem?_set_self hl] at e; cases e
    exact ⟨⟨_,rfl⟩,_,D.get,rp⟩
   ·rw [List.getElem?_eq_none (by simp; omega)] at e; cases e
  ·rw [List.getElem?_set_ne hj] at e
   obtain ⟨e1,t,rfl⟩:=gF e
   obtain ⟨v,k1,k2⟩:=D.E.sl j _ e1
   exact ⟨⟨t,rfl⟩,v,k1,Rep.mono sF k2⟩
 refine ⟨br.refl sH,by simp [dS,D.E.len],fun j s e=>(all e).2,fun j k ts ws p _ e1=>?_⟩
 obtain ⟨t,z⟩:=(all e1).1
 cases z
theorem lg (hF:∀ a ∈ A,F a=none) (g:br (frzO F H A) H F' H'):br F H (kX F' A) H':=by
 refine ⟨fun b u e=>?_,g.sH,fun b u e=>?_,fun b u e=>?_⟩
 ·have m:b ∉ A:=fun m=>by rw [hF b m] at e; cases e
  rw [dh m]
  exact g.sF b u (by rw [bP m]; exact e)
 ·by_cases m:b ∈ A
  ·rw [h9 m] at e; cases e
  ·rw [dh m] at e; exact g.fh b u e
 ·by_cases m:b ∈ A
  ·rw [h9 m] at e; cases e
  ·rw [dh m] at e
   rcases g.nw b u e with z | z
   ·rw [bP m] at z; exact .inl z
   ·exact .inr z
end
section
variable {X:Cx} {e:Expr} {pos:Pos} {x:Nat}
end
open PySem PySem.Spec PyProof.Rows L2
section
variable {X:Cx} {e:Expr} {pos:Pos}
end
open PySem PySem.Spec PyProof.Rows L2
inductive R2 where
 | nx (τ:aB) | ro (o:O)
def Lg (K:PySem.W.Frag) (F₀ H₀ F:Hp) (D:Ends):R2 -> Prop
 | .nx τ'=>∀ F' H' σ',aD K F₀ H₀ F' H' σ' τ' -> aJ F F' -> D.nx σ' H'
 | .ro o=>∀ F' H' v A,br F₀ H₀ F' H' -> cQ K F' H' o v A -> A.Nodup -> (∀ a ∈ A,H₀ a=none) -> D.rt v H'
theorem Lg.mono {K:PySem.W.Frag} {F₀ H₀ F F':Hp} {D:Ends}:∀ {r:R2},aJ F F' -> Lg K F₀ H₀ F D r -> Lg K F₀ H₀ F' D r
 | .nx _,s,h=>fun F1 H1 σ1 E1 s1=>h F1 H1 σ1 E1 (s.trans s1)
 | .ro _,_,h=>h
section
variable {X:Cx} {e:Expr} {pos:Pos}
end
open PySem PySem.Spec PyProof.Rows L2
section
variable {X:Cx} {e:Expr} {pos:Pos} {x:Nat}
end
section
variable {X:Cx} {i j:Nat}
end
open PySem PySem.Spec PyProof.Rows L2
section
variable {X:Cx}
end
open PySem PySem.Spec PyProof.Rows L2
section
variable {X:Cx} {a b c:Expr} {fa fb fc:FE} {pos:Pos}
def jH (g g':T -> T -> Option T) (fa fb fc:FE):FE:=fun τ=>(fa τ).bind fun p=>(fb p.2).bind fun q=>(g p.1 q.1).bind fun z=>match z with
 | .bl true=>(fc q.2).bind fun r=>(g' q.1 r.1).bind fun t=>some (t,r.2)
 | .bl false=>some (.bl false,q.2)
 | _=>none
theorem xk {g g':T -> T -> Option T} {K:PySem.W.Frag} {F₀ H₀:Hp} {σ:L2.St} {H:Hp} {Q:VK} (h:tE K F₀ H₀ (jH g g' fa fb fc) σ H Q):DM (IQ K g) (IQ K g') (tE K F₀ H₀ fa) (tE K F₀ H₀ fb) (tE K F₀ H₀ fc) σ H Q:=by
 obtain ⟨F,τ,t,τ',E,e1,q⟩:=h
 obtain ⟨⟨x,τ1⟩,e2,e1⟩:=bind_some e1
 obtain ⟨⟨y,τ2⟩,e3,e1⟩:=bind_some e1
 obtain ⟨z,e4,e1⟩:=bind_some e1
 refine ⟨F,τ,x,τ1,E,e2,fun F1 H1 v1 E1 s1 r1=>⟨F1,τ1,y,τ2,E1,e3,fun F2 H2 v2 E2 s2 r2=>⟨F2,x,y,z,E2.g.fh,r1.mono s2,r2,e4,fun F3 H3 v3 g3 r3=>?_⟩⟩⟩
 dsimp only at e1
 split at e1
 ·obtain ⟨⟨w,τ3⟩,e5,e1⟩:=bind_some e1
  obtain ⟨t',e6,e1⟩:=bind_some e1
  cases e1
  refine ⟨true,r3,?_⟩
  rw [if_pos rfl]
  exact ⟨F3,τ2,w,_,E2.grow g3,e5,fun F4 H4 v4 E4 s4 r4=>⟨F4,y,w,_,E4.g.fh,(r2.mono g3.sF).mono s4,r4,e6,fun F5 H5 v5 g5 r5=>q F5 H5 v5 (E4.grow g5) (((s1.trans s2).trans g3.sF).trans (s4.trans g5.sF)) r5⟩⟩
 ·cases e1
  refine ⟨false,r3,?_⟩
  rw [if_neg (by decide)]
  exact q F3 H3 _ (E2.grow g3) ((s1.trans s2).trans g3.sF) rfl
 ·cases e1
theorem wN {op op':CmpOp} {g g':T -> T -> Option T} (ho:ot X (compareOp op) g) (ho':ot X (compareOp op') g') (ha:SE X a fa) (hb:SE X b fb) (hc:SE X c fc) (hm:lastMarks [op,op'] [b,c]=false:=by with_unfolding_all rfl):ST X (.Compare a [op,op'] [b,c] pos) (eE (jH g g' fa fb fc)):=
 fun F₀ H₀=>PT.weak (Dl ho ho' (ha F₀ H₀) (hb F₀ H₀) (hc F₀ H₀) hm) fun σ H Q hq__=>by
  obtain ⟨F,τ,k,τ',E,e1,q⟩:=hq__
  obtain ⟨⟨x,τ1⟩,e2,e1⟩:=bind_some e1
  dsimp only at e1
  split at e1
  ·cases e1
   refine xk (Q:=fun x H'=>∃ k,x=V.bl k /\ Q k H') ⟨F,τ,_,_,E,e2,fun F' H' v E' s' r'=>?_⟩
   exact ⟨k,r',q F' H' E' s'⟩
  ·cases e1
end
open PySem PySem.Spec PyProof.Rows L2
structure fS (K:PySem.W.Frag) (F₀ H₀ F H:Hp) (σ:L2.St) (τ:aB) (A:List Addr):Prop where
 E:aD K F₀ H₀ F H σ τ
 lies:∀ a ∈ A,F a=none /\ ∃ vs,H a=some (.lst vs)
 h0:∀ a ∈ A,H₀ a=none
 ap:Apart σ τ A
section
variable {K:PySem.W.Frag} {F₀ H₀ F H F' H':Hp} {σ σ':L2.St} {τ τ':aB} {A:List Addr}
theorem fS.upd (D:fS K F₀ H₀ F H σ τ A) {a:Addr} (ha:a ∈ A) (ws:List V):fS K F₀ H₀ F (L2.upd H a (.lst ws)) σ τ A:=by
 refine ⟨⟨⟨D.E.g.sF,fun b u e=>?_,fun b u e=>?_,D.E.g.nw⟩,D.E.len,fun i s e=>?_,D.E.dj⟩,fun b hb=>⟨(D.lies b hb).1,?_⟩,D.h0,D.ap⟩
 ·rw [az (fun z=>by rw [z,D.h0 a ha] at e; cases e)]; exact D.E.g.sH _ _ e
 ·rw [az (fun z=>by rw [z,(D.lies a ha).1] at e; cases e)]; exact D.E.g.fh _ _ e
 ·obtain ⟨v,h1,h2⟩:=D.E.sl i s e
  refine ⟨v,h1,?_⟩
  cases s with
  | sh t=>exact h2
  | own ts =>
   obtain ⟨q,vs,rfl,k1,k2,k3,k4⟩:=h2
   exact ⟨q,vs,rfl,by rw [az (show q ≠ a from fun z=>D.ap i ts q e h1 (by rw [z]; exact ha))]; exact k1,k2,k3,k4⟩
 ·by_cases h:b=a
  ·subst h; exact ⟨ws,by simp [L2.upd]⟩
  ·rw [az h]; exact (D.lies b hb).2
theorem fS.setv (D:fS K F₀ H₀ F H σ τ A) {j:Nat} {v:V} (hj:τ[j]? = some none):fS K F₀ H₀ F H (σ.set j (some v)) τ A:=by
 have ne:∀ {i:Nat} {s:Sl},τ[i]? = some (some s) -> j ≠ i:=fun {i s} e h=>by rw [<- h,hj] at e; cases e
 refine ⟨⟨D.E.g,by simp [D.E.len],fun i s e=>?_,fun i k ts us p h e1 e2 e3=>?_⟩,D.lies,D.h0,fun i us p e1 e2=>?_⟩
 ·rw [List.getElem?_set_ne (ne e)]; exact D.E.sl i s e
 ·rw [List.getElem?_set_ne (ne e1)] at e3
  rw [List.getElem?_set_ne (ne e2)]
  exact D.E.dj i k ts us p h e1 e2 e3
 ·rw [List.getElem?_set_ne (ne e1)] at e2
  exact D.ap i us p e1 e2
end
section
variable {X:Cx} {r t x:Nat} {rn tn xn:Str} {p1 p2 p3 p4 p5 p6 pos:Pos}
theorem Dg (hp:PassesOwn (model X.prog X.w) X.A X.env X.xe) (hc:X.calm=true) (hg:PG X (.Name rn p1) (mi r)) (ht:PE X (.Name tn p2) (fF t)) (hr:PE X (.Name rn p3) (fF r))
  (hbase:attributeBase (.Name rn p3) "clear" X.env (eval (.Name rn p3) X.env)=eval (.Name rn p3) X.env:=by rfl) (hline:(p4.endLine == p5.line)=true:=by rfl)
  (hsw:swapsWith (.Call (.Attribute (.Name rn p3) "clear" p4) [] [] p5) none p6.line X.env=pure false:=by rfl) (hs:∀ x,foldedSetIterable (.Name tn p2) X.env x=pure x:=by intro _; rfl) :
  PS X (.For (.Name rn p1) (.Name tn p2) [.Expr (.Call (.Attribute (.Name rn p3) "clear" p4) [] [] p5) p6] [] pos)
   (fun D σ H=>∃ (F₀ H₀ F:Hp) (τ:aB) (A:List Addr) (q:Addr) (rows:List Addr),fS X.K F₀ H₀ F H σ τ A /\ τ[r]? = some none /\ σ[t]? = some (some (.ref q)) /\ H q=some (.lst (rows.map V.ref)) /\ (∀ a ∈ rows,a ∈ A /\ a ≠ q) /\
    ∀ H' σ',fS X.K F₀ H₀ F H' σ' τ A -> (∀ b,b ∉ rows -> H' b=H b) -> (∀ j,j ≠ r -> σ'[j]? = σ[j]?) -> D.nx σ' H'):=
 PS.weak (lI hp hc (mD ht) hg (eH (jh (yh PySem.F.plainAttrs_list PySem.F.slot_list_clear PySem.F.type_list_clear vQ hr hbase hline) hsw)) hs) fun D σ H h=>by
  obtain ⟨F₀,H₀,F,τ,A,q,rows,L,hτ,hσ,hq,hrow,k⟩:=h
  refine ⟨.ref q,hσ,q,rfl,⟨_,dE.of hq⟩,fun i m σ1 H1=>m=rows.length - i /\ i ≤ rows.length /\ fS X.K F₀ H₀ F H1 σ1 τ A /\ (∀ b,b ∉ rows -> H1 b=H b) /\ ∀ j,j ≠ r -> σ1[j]? = σ[j]?,⟨_,rfl,Nat.zero_le _,L,fun _ _=>rfl,fun _ _=>rfl⟩,?_⟩
  rintro i m σ1 H1 ⟨rfl,hi,L1,hb,hj⟩
  have hq1:H1 q=some (.lst (rows.map V.ref)):=by rw [hb q fun z=>(hrow q z).2 rfl]; exact hq
  by_cases hlt:i < rows.length
  ·have gi:(rows.map V.ref)[i]? = some (.ref rows[i]):=by rw [List.getElem?_map,List.getElem?_eq_getElem hlt]; rfl
   refine .inr ⟨⟨_,_,dE.of hq1,gi⟩,fun σ' H'=>fS X.K F₀ H₀ F H' σ' τ A /\ (∀ b,b ∉ rows -> H' b=H b) /\ ∀ j,j ≠ r -> σ'[j]? = σ[j]?,fun σ' H' n=>⟨_,by omega,rfl,hlt,n⟩,fun v H2 z=>?_⟩
   obtain ⟨rfl,y⟩:=z
   have hv:=y _ (dE.of hq1)
   rw [gi] at hv
   cases hv
   have hm:=hrow rows[i] (List.getElem_mem hlt)
   have L2':=L1.setv (v:=.ref rows[i]) hτ
   obtain ⟨ws,hw⟩:=(L1.lies _ hm.1).2
   have hrl:r < σ1.length:=by
    rw [L1.E.len]
    exact (List.getElem?_eq_some_iff.mp hτ).1
   have g1:(σ1.set r (some (.ref rows[i])))[r]? = some (some (.ref rows[i])):=List.getElem?_set_self hrl
   refine ⟨.ref rows[i],g1,.inl ⟨rfl,ws,dE.of hw⟩,rows[i],ws,rfl,rfl,hw,L2'.upd hm.1 [],fun b nb=>?_,fun j nj=>?_⟩
   ·rw [az (fun z:b=rows[i]=>nb (by rw [z]; exact List.getElem_mem hlt))]; exact hb b nb
   ·rw [List.getElem?_set_ne (Ne.symm nj)]; exact hj j nj
  ·exact .inl ⟨⟨_,dE.of hq1,by rw [List.length_map]; omega⟩,k H1 σ1 L1 hb hj⟩
def Dj:List (Addr × List Addr) -> Prop
 | []=>True
 | z :: r=>z.1 ∉ z.2 /\ (∀ y ∈ r,y.1 ≠ z.1 /\ y.1 ∉ z.2) /\ Dj r
def addrs (tabs:List (Addr × List Addr)):List Addr:=tabs.flatMap fun z=>z.1 :: z.2
theorem dJ {tabs:List (Addr × List Addr)} {z:Addr × List Addr} (h:z ∈ tabs):z.1 ∈ addrs tabs /\ ∀ a ∈ z.2,a ∈ addrs tabs:=⟨List.mem_flatMap.mpr ⟨z,h,List.mem_cons_self⟩,fun a ha=>List.mem_flatMap.mpr ⟨z,h,List.mem_cons_of_mem _ ha⟩⟩
theorem Gx:∀ {tabs:List (Addr × List Addr)},(addrs tabs).Nodup -> Dj tabs
 | [],_=>trivial
 | z :: r,h=>by
  have e:addrs (z :: r)=(z.1 :: z.2) ++ addrs r:=rfl
  rw [e] at h
  obtain ⟨n1,n2,n3⟩:=List.nodup_append.mp h
  exact ⟨(List.nodup_cons.mp n1).1,fun y hy=>⟨fun w=>n3 z.1 List.mem_cons_self y.1 (dJ hy).1 w.symm,fun w=>n3 y.1 (List.mem_cons_of_mem _ w) y.1 (dJ hy).1 rfl⟩,Gx n2⟩
end
open PySem PySem.Spec PyProof.Rows L2
def jK:O -> Bool
 | .lst ro=>iV ro
 | _=>false
def eh:O -> Bool
 | .lst rs=>rs.all jK
 | _=>false
def mr:O -> Bool
 | .lst os=>os.all eh
 | _=>false
section
variable {K:PySem.W.Frag} {F₀ H₀ F H F' H':Hp} {σ σ':L2.St} {τ τ':aB} {A:List Addr} {x:Nat} {o:O} {v:V}
theorem zP:∀ {rs:List O} {vs:List V} {B:List Addr},rs.all jK=true -> aU K F H rs vs B -> vs=B.map V.ref
 | [],vs,B,_,h=>by obtain ⟨rfl,rfl⟩:=h; rfl
 | .val t :: rs,vs,B,e,h=>by simp [jK] at e
 | .lst ro :: rs,vs,B,e,h=>by
  rw [List.all_cons,Bool.and_eq_true] at e
  obtain ⟨v,w,B1,C,rfl,rfl,h1,h2⟩:=h
  obtain ⟨p,us,B2,rfl,rfl,k1,k2,k3⟩:=h1
  obtain ⟨rfl,_⟩:=aU.plain (show iV ro=true from e.1) k3
  rw [zP e.2 h2]
  rfl
theorem uF:∀ {os:List O} {vs:List V} {B:List Addr},os.all eh=true -> aU K F H os vs B -> ∃ tabs:List (Addr × List Addr),vs=(tabs.map fun z=>V.ref z.1) /\ B=addrs tabs /\ ∀ z ∈ tabs,H z.1=some (.lst (z.2.map V.ref))
 | [],vs,B,_,h=>by obtain ⟨rfl,rfl⟩:=h; exact ⟨[],rfl,rfl,fun _ h=>by cases h⟩
 | .val t :: rs,vs,B,e,h=>by simp [eh] at e
 | .lst rs :: os,vs,B,e,h=>by
  rw [List.all_cons,Bool.and_eq_true] at e
  obtain ⟨v,w,B1,C,rfl,rfl,h1,h2⟩:=h
  obtain ⟨p,us,B2,rfl,rfl,k1,k2,k3⟩:=h1
  have hr:=zP (show rs.all jK=true from e.1) k3
  subst hr
  obtain ⟨tabs,rfl,rfl,h3⟩:=uF e.2 h2
  refine ⟨(p,B2) :: tabs,rfl,rfl,fun z hz=>?_⟩
  rcases List.mem_cons.mp hz with rfl | hz
  ·exact k1
  ·exact h3 z hz
theorem CM (E:aD K F₀ H₀ F H σ τ) (r:cQ K F H o v A) (hv:σ[x]? = some (some v)):aD K (frzO F H A) H (frzO F H A) H σ ((hide τ).set x (some (.sh o.tr))):=by
 have sF:aJ F (frzO F H A):=bV fun a ha=>(r.at a ha).1
 have sH:aJ (frzO F H A) H:=fun b u eb=>by
  by_cases m:b ∈ A
  ·rw [cH m] at eb; exact eb
  ·rw [bP m] at eb; exact E.g.fh b u eb
 have rp:Rep K (frzO F H A) o.tr v:=r.frz
 have all:∀ {j:Nat} {s:Sl},((hide τ).set x (some (.sh o.tr)))[j]? = some (some s) -> (∃ t,s=.sh t) /\ ∃ v,σ[j]? = some (some v) /\ si K H (frzO F H A) H s v:=fun {j s} e=>by
  by_cases hj:x=j
  ·subst hj
   by_cases hl:x < (hide τ).length
   ·rw [List.getElem?_set_self hl] at e; cases e
    exact ⟨⟨_,rfl⟩,_,hv,rp⟩
   ·rw [List.getElem?_eq_none (by simp; omega)] at e; cases e
  ·rw [List.getElem?_set_ne hj] at e
   obtain ⟨e1,t,rfl⟩:=gF e
   obtain ⟨w,k1,k2⟩:=E.sl j _ e1
   exact ⟨⟨t,rfl⟩,w,k1,Rep.mono sF k2⟩
 refine ⟨br.refl sH,by simp [dS,E.len],fun j s e=>(all e).2,fun j k ts ws p _ e1=>?_⟩
 obtain ⟨t,z⟩:=(all e1).1
 cases z
theorem iL:∀ {τ:aB} {x:Nat} {s:Sl},(hide (τ.set x none)).set x (some s)=(hide τ).set x (some s)
 | [],_,_=>by simp [hide]
 | some (.own _) :: τ,0,s=>by simp [hide]
 | some (.sh _) :: τ,0,s=>by simp [hide]
 | none :: τ,0,s=>by simp [hide]
 | some (.own _) :: τ,x + 1,s=>by simp [hide,iL (τ:=τ) (x:=x) (s:=s)]
 | some (.sh _) :: τ,x + 1,s=>by simp [hide,iL (τ:=τ) (x:=x) (s:=s)]
 | none :: τ,x + 1,s=>by simp [hide,iL (τ:=τ) (x:=x) (s:=s)]
theorem fS.of (E:aD K F₀ H₀ F H σ τ) (r:cQ K F H o v A) (h0:∀ a ∈ A,H₀ a=none) (ap:Apart σ τ A):fS K F₀ H₀ F H σ (τ.set x none) A:=by
 refine ⟨E.drop,r.at,h0,fun j us p e1 e2=>?_⟩
 refine ap j us p ?_ e2
 by_cases hj:x=j
 ·subst hj
  by_cases hl:x < τ.length
  ·rw [List.getElem?_set_self hl] at e1; cases e1
  ·rw [List.getElem?_eq_none (by simp; omega)] at e1; cases e1
 ·rw [List.getElem?_set_ne hj] at e1; exact e1
end
def oa (i:Nat) (τ:aB):Bool:=match τ[i]? with
 | some none=>true
 | _=>false
theorem fU {i:Nat} {τ:aB} (h:oa i τ=true):τ[i]? = some none:=by
 unfold oa at h
 split at h
 ·next e=>exact e
 ·cases h
section
variable {X:Cx} {r t x:Nat} {rn tn xn:Str} {p1 p2 p3 p4 p5 p6 pos q1 q2 q3 q4 q5 q6 pos':Pos}
end
open PySem PySem.Spec PyProof.Rows L2
structure Br (K:PySem.W.Frag) (F₀ H₀ F H:Hp) (σ:L2.St) (τ:aB) (x:Nat) (p:Addr) (os:List O) (A:List Addr):Prop where
 E:aD K F₀ H₀ F H σ τ
 hx:τ[x]? = some (some (.sh (.ptr p)))
 r:cQ K F H (.lst os) (.ref p) A
 nd:A.Nodup
 h0:∀ a ∈ A,H₀ a=none
 ap:Apart σ τ A
section
variable {K:PySem.W.Frag} {F₀ H₀ F H F' H':Hp} {σ σ':L2.St} {τ τ':aB} {x:Nat} {p:Addr} {os:List O} {A:List Addr}
theorem Br.lies (D:Br K F₀ H₀ F H σ τ x p os A) {a:Addr} (ha:a ∈ A):F a=none /\ ∃ vs,H a=some (.lst vs):=D.r.at a ha
theorem Br.back (D:Br K F₀ H₀ F H σ τ x p os A) (E':aD K F₀ (frzO H₀ H A) F' H' σ' τ') (s:aJ F F') (hx:τ'[x]? = some (some (.sh (.ptr p)))):Br K F₀ H₀ F' H' σ' τ' x p os A:=by
 have out:∀ {a:Addr},frzO H₀ H A a=none -> a ∉ A /\ H₀ a=none:=fun {a} e=>by
  have m:a ∉ A:=fun m=>by
   obtain ⟨vs,k⟩:=(D.lies m).2
   rw [cH m,k] at e; cases e
  exact ⟨m,by rw [bP m] at e; exact e⟩
 refine ⟨⟨⟨E'.g.sF,fun a o e=>?_,E'.g.fh,fun a o e=>?_⟩,E'.len,fun i s e=>?_,E'.dj⟩,hx,cQ.move s (fun a ha=>?_) D.r,D.nd,D.h0,fun j us q e1 e2=>?_⟩
 ·have m:a ∉ A:=fun m=>by rw [D.h0 a m] at e; cases e
  exact E'.g.sH _ _ (by rw [bP m]; exact e)
 ·rcases E'.g.nw a o e with z | z
  ·exact .inl z
  ·exact .inr (out z).2
 ·obtain ⟨v,h1,h2⟩:=E'.sl i s e
  refine ⟨v,h1,?_⟩
  cases s with
  | sh t=>exact h2
  | own ts =>
   obtain ⟨q,vs,rfl,k1,k2,k3,k4⟩:=h2
   exact ⟨q,vs,rfl,k1,k2,(out k3).2,k4⟩
 ·obtain ⟨f1,vs,f2⟩:=D.lies ha
  refine ⟨by rw [f2]; exact E'.g.sH _ _ (by rw [cH ha]; exact f2),?_⟩
  cases eF:F' a with
  | none=>rfl
  | some o =>
   rcases E'.g.nw a o eF with z | z
   ·rw [D.E.g.sF _ _ z] at f1; cases f1
   ·exact absurd ha (out z).1
 ·obtain ⟨v,h1,q',vs,rfl,k1,k2,k3,k4⟩:=E'.sl j _ e1
  rw [e2] at h1; cases h1
  exact (out k3).1
theorem Br.grow (D:Br K F₀ H₀ F H σ τ x p os A) (g:br F H F' H'):Br K F₀ H₀ F' H' σ τ x p os A:=⟨D.E.grow g,D.hx,D.r.over g,D.nd,D.h0,D.ap⟩
theorem Br.held (D:Br K F₀ H₀ F H σ τ x p os A):eU K F₀ H₀ F H p os A:=⟨D.E.g,D.r,D.nd,D.h0⟩
theorem Br.get (D:Br K F₀ H₀ F H σ τ x p os A):σ[x]? = Option.some (Option.some (.ref p)):=by
 obtain ⟨v,h1,h2⟩:=D.E.sl x _ D.hx
 have:v=.ref p:=h2
 rw [h1,this]
end
section
variable {X:Cx} {e:Expr} {pos:Pos} {x:Nat}
theorem aU.snoc {K:PySem.W.Frag} {F H:Hp} {o:O} {v:V} {C:List Addr} (h:cQ K F H o v C):∀ {os:List O} {vs:List V} {B:List Addr},aU K F H os vs B -> aU K F H (os ++ [o]) (vs ++ [v]) (B ++ C)
 | [],vs,B,r=>by
  obtain ⟨rfl,rfl⟩:=r
  exact ⟨v,[],C,[],rfl,by simp,h,rfl,rfl⟩
 | o' :: os,vs,B,r=>by
  obtain ⟨w,rs,B1,B2,rfl,rfl,r1,r2⟩:=r
  exact ⟨w,rs ++ [v],B1,B2 ++ C,rfl,by simp,r1,aU.snoc h r2⟩
theorem aU.len {K:PySem.W.Frag} {F H:Hp}:∀ {os:List O} {vs:List V} {B:List Addr},aU K F H os vs B -> vs.length=os.length
 | [],vs,B,r=>by obtain ⟨rfl,rfl⟩:=r; rfl
 | o' :: os,vs,B,r=>by
  obtain ⟨w,rs,B1,B2,rfl,rfl,r1,r2⟩:=r
  simp [aU.len r2]
end
open PySem PySem.Spec PyProof.Rows L2
section
variable {X:Cx} {e:Expr} {pos:Pos}
def iq (f:FE):gX:=fun τ=>(f τ).bind fun p=>match p.1 with
 | .lst ts=>some (.lst (ts.map O.val),p.2)
 | .tup ts=>some (.lst (ts.map O.val),p.2)
 | _=>none
theorem qf {f:FE} {p:Pos} (hg:Gl X "list") (hm:X.mg "list" = none) (he:SE X e f) (hs:starEach [e] X.env=(false,eval e X.env) :: starEach [] X.env:=by rfl) (hpl:(backTo pos (starEach [] X.env)).any (·.1)=false:=by rfl) :
  qC X (.Call (.Name "list" p) [e] [] pos) (iq f):=fun F₀ H₀ =>
 PE.weak (kv ja hg hm (show bootBuiltins "list" = some (.type "list") from rfl) (cN (he F₀ H₀) fv hs) (by decide) (by decide) hs hpl) fun σ H Q hq__=>by
  obtain ⟨F,τ,o,τ',E,e1,q⟩:=hq__
  obtain ⟨⟨x,τ1⟩,e2,e1⟩:=bind_some e1
  dsimp only at e1
  split at e1
  ·cases e1
   refine ⟨F,τ,_,_,E,e2,fun F1 H1 v E1 s1 r1=>?_⟩
   obtain ⟨p,xs,rfl,h1,h2⟩:=r1
   refine ⟨p,xs,rfl,.inl (dE.of (E1.g.fh _ _ h1)),fun l hl=>?_⟩
   exact q F1 _ _ [l] (E1.hp (bW hl)) s1 (cQ.new E1.g.fh hl h2) (by simp) (fun a ha=>by rw [List.mem_singleton.mp ha]; exact E1.g.sH.free hl) (apart_new E1 hl)
  ·cases e1
   refine ⟨F,τ,_,_,E,e2,fun F1 H1 v E1 s1 r1=>?_⟩
   obtain ⟨p,xs,rfl,h1,h2⟩:=r1
   refine ⟨p,xs,rfl,.inr (cg E1.g.fh h1),fun l hl=>?_⟩
   exact q F1 _ _ [l] (E1.hp (bW hl)) s1 (cQ.new E1.g.fh hl h2) (by simp) (fun a ha=>by rw [List.mem_singleton.mp ha]; exact E1.g.sH.free hl) (apart_new E1 hl)
  ·cases e1
end
abbrev Bs:=aB -> Option (List O × aB)
def LS (K:PySem.W.Frag) (F₀ H₀:Hp) (f:Bs):TE:=fun σ H Q=>∃ F τ os τ',aD K F₀ H₀ F H σ τ /\ f τ=some (os,τ') /\
 ∀ F' H' a vs A,aD K F₀ H₀ F' H' σ τ' -> aJ F F' -> F' a=some (.tup vs) -> aU K F' H' os vs A -> A.Nodup -> (∀ b ∈ A,H₀ b=none) -> Apart σ τ' A -> Q (.ref a) H'
def xa (X:Cx) (e:Expr) (f:Bs):Prop:=∀ F₀ H₀,PE X e (LS X.K F₀ H₀ f)
section
variable {X:Cx} {e:Expr} {pos:Pos}
def B9 (f:gX):Bs:=fun τ=>(f τ).bind fun p=>match p.1 with
 | .lst os=>some (os,p.2)
 | _=>none
theorem yw {f:gX} {p:Pos} (hg:Gl X "tuple") (hm:X.mg "tuple" = none) (he:qC X e f) (hs:starEach [e] X.env=(false,eval e X.env) :: starEach [] X.env:=by rfl) (hpl:(backTo pos (starEach [] X.env)).any (·.1)=false:=by rfl) :
  xa X (.Call (.Name "tuple" p) [e] [] pos) (B9 f):=fun F₀ H₀ =>
 PE.weak (kv kN hg hm (show bootBuiltins "tuple" = some (.type "tuple") from rfl) (cN (he F₀ H₀) fv hs) (by decide) (by decide) hs hpl) fun σ H Q hq__=>by
  obtain ⟨F,τ,o,τ',E,e1,q⟩:=hq__
  obtain ⟨⟨x,τ1⟩,e2,e1⟩:=bind_some e1
  dsimp only at e1
  split at e1
  ·cases e1
   refine ⟨F,τ,_,_,E,e2,fun F1 H1 v A E1 s1 ro nd h0 ap=>?_⟩
   obtain ⟨p,vs,B,rfl,rfl,k1,k2,k3⟩:=id ro
   refine ⟨p,vs,rfl,.inl ⟨dE.of k1,fun l hl=>?_⟩⟩
   have gr:=br.new (.tup vs) E1.g.fh hl
   obtain ⟨p',vs',B',hp',hB',j1,j2,j3⟩:=ro.over gr
   cases hp'
   injection hB' with _ hB
   subst hB
   have hv:vs'=vs:=by
    rw [az (fun z:p=l=>by rw [z,hl] at k1; cases k1),k1] at j1
    cases j1; rfl
   subst hv
   exact q _ _ l vs' B (E1.grow gr) (s1.trans gr.sF) aN j3 (List.nodup_cons.mp nd).2 (fun b hb=>h0 b (List.mem_cons_of_mem _ hb)) (fun j us r e1 e2 m=>ap j us r e1 e2 (List.mem_cons_of_mem _ m))
  ·cases e1
end
def Kn (K:PySem.W.Frag) (n:Nat) (d:List T -> Option (List O)):Sp:=fun vs H Q _=>vs.length=n /\ ∃ F ts os,aJ F H /\ aQ K F ts vs /\ d ts=some os /\
 ∀ F' H' a ws A,br F H F' H' -> F' a=some (.tup ws) -> aU K F' H' os ws A -> A.Nodup -> (∀ b ∈ A,H b=none) -> Q (.ref a) H'
structure kK (P:Program) (w:World) (K:PySem.W.Frag) (mg:Str -> Option Value) (base:Heap) (k:Nat) (C:Addr) (m:Str) (n:Nat) (d:List T -> Option (List O)):Prop where
 cl:lV K C
 ex:∃ f fd ps,fI P w K mg base mP k f fd ps (Kn K n d) /\ Binds K fd ps [] /\ Meth K C m f /\ ps.length=n
def zk (f:Bs):aB -> Option (List O):=fun τ=>(f τ).bind fun p=>some p.1
def uV (m n:Nat) (fb:aB -> Option (List O)):List T -> Option (List O):=fun ts=>if ts.length=n then fb (ts.map (fun t=>some (Sl.sh t)) ++ List.replicate (m - n) none) else none
def L6 (K:PySem.W.Frag) (F₀ H₀:Hp) (f:aB -> Option (List O)):TS:=fun D σ H=>∃ F τ os,aD K F₀ H₀ F H σ τ /\ f τ=some os /\
 ∀ F' H' a ws A,br F₀ H₀ F' H' -> F' a=some (.tup ws) -> aU K F' H' os ws A -> A.Nodup -> (∀ b ∈ A,H₀ b=none) -> D.rt (.ref a) H'
def BA (X:Cx) (ss:List Stmt) (f:aB -> Option (List O)):Prop:=∀ F₀ H₀,iQ X ss (L6 X.K F₀ H₀ f)
theorem wM {X:Cx} {e:Expr} {pos:Pos} {f:Bs} (h:xa X e f):BA X [.Return (some e) pos] (zk f):=fun F₀ H₀=>iQ.weak (eH (pV (h F₀ H₀))) fun D σ H hq__=>by
 obtain ⟨F,τ,o,E,e1,q⟩:=hq__
 obtain ⟨⟨x,τ1⟩,e2,e1⟩:=bind_some e1
 cases e1
 exact ⟨F,τ,_,τ1,E,e2,fun F' H' a vs A E' _ hF r nd h0 _=>q F' H' a vs A E'.g hF r nd h0⟩
section
variable {P:Program} {w:World} {K:PySem.W.Frag} {mg:Str -> Option Value} {base:Heap} {j k n:Nat} {C:Addr} {m:Str}
theorem kK.mono {d:List T -> Option (List O)} (D:kK P w K mg base j C m n d) (h:j ≤ k):kK P w K mg base k C m n d:=by
 obtain ⟨f,fd,ps,F,r⟩:=D.ex
 exact ⟨D.cl,f,fd,ps,F.mono h,r⟩
theorem kK.plain {d:List T -> Option (List O)} (D:kK P w K mg base k C m n d):fX P w K mg base k C m n (fun ts=>(d ts).bind fun os=>some (.tup (O.trs os))):=by
 obtain ⟨f,fd,ps,F,r⟩:=D.ex
 refine ⟨D.cl,f,fd,ps,F.imp fun vs H Q E ⟨l,F,ts,t,a,b,c,q⟩=>?_,r⟩
 obtain ⟨os,e1,e2⟩:=bind_some c
 cases e2
 refine ⟨l,F,ts,os,a,b,e1,fun F' H' x ws A g hF ro nd h0=>?_⟩
 have hn:∀ b ∈ A,F' b=none:=fun b hb=>(ro.at b hb).1
 exact q _ H' _ (g.frzO hn h0) ⟨x,ws,rfl,js.of (bV hn _ _ hF),aU.rep (bV hn) (fun a ha=>cH ha) ro⟩
theorem CS {x qual:Str} {st:Stmt} {f:Addr} {fd:FuncData} {N ps:List Str} {fb:aB -> Option (List O)} (F:fG K x qual st f fd) (S:aS N ps (ax st)) (hb:Binds K fd ps []) (cl:lV K C) (hm:Meth K C m f)
  (h:∀ (cdv:Value) (A:Around) (outer:List Env) (s:Shared) (H:Hp) (E:XK),dq k (A.deeper (envOfC qual (ax st) s.heap.objs.size f cdv)) -> BA (mW mP P w K mg base N qual (ax st) f cdv A outer s H E).nox (dy st) fb) :
  kK P w K mg base (k + 1) C m ps.length (uV N.length ps.length fb):=by
 refine ⟨cl,f,fd,ps,F.ok S (fun vs H Q E z=>z.1) (fun cdv A outer s H vs Q E hr z=>?_),hb,hm,rfl⟩
 obtain ⟨hl,F1,ts,o,sm,r,e,q⟩:=z
 unfold uV at e
 split at e
 ·next hn =>
  refine ⟨_,h cdv A outer s H E hr F1 H,F1,_,o,?_,e,fun F' H' a ws A g hF ro nd h0=>q F' H' a ws A g hF ro nd h0⟩
  have:=fM (N:=N) sm r
  rw [hn] at this
  exact this
 ·cases e
end
section
variable {X:Cx} {o e:Expr} {pos apos:Pos} {fo:FE} {k n:Nat} {m:Str}
def pk (C:Addr) (d:List T -> Option (List O)) (m:Str) (fo:FE):Bs:=fun τ=>(fo τ).bind fun p=>match p.1 with
 | .obj C' ns ts=>if m ∈ ns then none else if C'=C then (d [.obj C' ns ts]).bind fun os=>some (os,p.2) else none
 | _=>none
theorem yu {pl:Sem Bool} {C:Addr} {d:List T -> Option (List O)} (D:kK X.prog X.w X.K X.mg X.base k C m 1 d) (hr:dq k X.A) (he:SE X o fo)
  (ht:eval (.Call (.Attribute o m apos) [] [] pos) X.env=(do
   let ov <- eval o X.env
   standAt apos.atName
   let (f,first) <- holding [ov] (getMethod ov m pl)
   callWith pos f first (backTo pos (starEach [] X.env)) (backToKw pos (keywordEach [] X.env))):=by rfl) :
  xa X (.Call (.Attribute o m apos) [] [] pos) (pk C d m fo):=by
 intro F₀ H₀
 obtain ⟨f,fd,ps,Fk,hb,hme,hn⟩:=D.ex
 refine PE.weak (wj (E:=E0) (CX:=mP) (he F₀ H₀) D.cl hme Fk hr hb .nil rL ht) fun σ H Q ⟨F,τ,os,τ',E,e0,q⟩=>?_
 obtain ⟨⟨x,τ1⟩,e2,e1⟩:=bind_some e0
 clear e0
 dsimp only at e1
 split at e1
 ·next C' ns ts =>
  split at e1
  ·cases e1
  ·next hm =>
   split at e1
   ·next hC =>
    subst hC
    obtain ⟨u,e3,e1⟩:=bind_some e1
    cases e1
    refine ⟨F,τ,_,_,E,e2,fun F1 H1 v E1 s1 r1=>?_⟩
    obtain ⟨a,dx,vs,rfl,h1,h2,h3⟩:=id r1
    refine ⟨a,dx,_,rfl,E1.g.fh _ _ h1,lB hm,?_⟩
    refine ⟨rfl,F1,[.obj C' ns ts],_,E1.g.fh,⟨_,_,rfl,r1,rfl⟩,e3,fun F3 H3 b ws A g3 hF ro nd h0=>?_⟩
    exact q F3 H3 b ws A (E1.grow g3) (s1.trans g3.sF) hF ro nd (fun a ha=>E1.g.sH.free (h0 a ha)) (oV E1 h0)
   ·cases e1
 ·cases e1
end
open Classical in
def wm (P:O -> Prop):Option O:=if h:∃ o,P o then some h.choose else none
theorem De {P:O -> Prop} {o:O} (h:P o) (u:∀ o',P o' -> o'=o):wm P=some o:=by
 have e:∃ o,P o:=⟨o,h⟩
 unfold wm
 rw [dif_pos e,u _ e.choose_spec]
theorem yj {P:O -> Prop} {o:O} (h:wm P=some o):P o:=by
 unfold wm at h
 split at h
 ·next e=>cases h; exact e.choose_spec
 ·cases h
theorem SO.any {X:Cx} {e:Option Expr} {f:FO} (h:SO X e f):PO X e (fun σ H Q=>∃ F₀ H₀,tO X.K F₀ H₀ f σ H Q):=fun pins s σ H Q I ⟨F₀,H₀,q⟩=>h F₀ H₀ pins s σ H Q I q
section
variable {X:Cx} {x y:Nat} {e:Expr} {pos:Pos}
end
section
variable {K:PySem.W.Frag} {F₀ H₀ F H F' H':Hp} {σ σ':L2.St} {τ τ':aB} {A:List Addr} {o:O} {v:V}
end
section
variable {X:Cx} {x y:Nat} {e:Expr} {pos:Pos}
end
open PySem PySem.Spec PyProof.Rows L2
section
variable {X:Cx} {es:List Expr} {pos:Pos}
def Lr (K:PySem.W.Frag) (n:Nat) (t:DV):TG:=fun v σ H Q=>∃ a xs,v=.ref a /\ dE K H a xs /\ xs.length=n /\ t xs σ H Q
theorem HU {k:Nat} {t:DV} {n:Nat} (hc:X.calm=true) (h:IG X es t)
  (hn:(assignEach es X.env).length=n:=by rfl) (hst:(assignEach es X.env).findIdx? (·.1)=none:=by rfl):PG X (.Tuple es k pos) (Lr X.K n t):=by
 intro pins s σ H v u Q I r hw
 obtain ⟨a,xs,e1,hq,hl,hw⟩:=hw
 subst e1
 cases r
 obtain ⟨its,rv,ht,hz⟩:=I.list hq
 rw [assign_Tuple]
 refine wpAny_bind (wpAny_standAt ?_)
 unfold unpack
 rw [hst,show (assignEach es X.env).length=its.toArray.size by simp [hn,<- hl,rv.length]]
 refine wpAny_bind (wpAny_holding (PySem.W.kun_itemsOf (I.ok.hd hc) ht.isList fun h' hx=>?_))
 have I1:Inv X pins σ H { s with heap:=h' }:=I.kept (t':=s.toks) fun b o e=>hx b o (Nat.ne_of_lt (Heap.lt_size e)) e
 exact h pins _ σ H xs _ Q I1 (by simpa using rv) hw
def zt (gs:List T -> aB -> Option aB):FG:=fun t τ=>match t with
 | .lst ts=>gs ts τ
 | _=>none
theorem DE {gs:List T -> aB -> Option aB} {k:Nat} {n:Nat} (hc:X.calm=true) (h:IH X es gs) (hl:∀ ts τ τ',gs ts τ=some τ' -> ts.length=n)
  (hn:(assignEach es X.env).length=n:=by rfl) (hst:(assignEach es X.env).findIdx? (·.1)=none:=by rfl):SG X (.Tuple es k pos) (zt gs):=
 fun F₀ H₀ pins s σ H v u Q I r h'=>HU hc (h F₀ H₀) hn hst pins s σ H v u Q I r (by
  obtain ⟨F,τ,t,τ',E,rt,e1,q⟩:=h'
  unfold zt at e1
  split at e1
  ·next ts =>
   obtain ⟨p,xs,rfl,h1,h2⟩:=rt
   exact ⟨p,xs,rfl,dE.of (E.g.fh _ _ h1),by rw [h2.length]; exact hl _ _ _ e1,F,τ,ts,τ',E,h2,e1,q⟩
  ·cases e1)
def Kz (i j k:Nat) (ta:TA):TS:=fun D σ H=>ta σ H fun vs H1=>∃ v w z,vs=[v,w,z] /\ D.nx (((σ.set i (some v)).set j (some w)).set k (some z)) H1
theorem Fo {i j k:Nat} {x y z:Str} {a b c:Expr} {ta:TA} {px py pz pt:Pos} {kt k2 pt2} (hc:X.calm=true) (hN:X.N.Nodup) (hi:X.N[i]? = some x) (hj:X.N[j]? = some y) (hk:X.N[k]? = some z) (hij:i ≠ j) (hik:i ≠ k) (hjk:j ≠ k)
  (hx:X.env.scope.names.lookup x=some .local) (hy:X.env.scope.names.lookup y=some .local) (hz:X.env.scope.names.lookup z=some .local) (ha:PA X [a,b,c] ta)
  (hw:swappedStores [.Tuple [.Name x px,.Name y py,.Name z pz] kt pt] (.Tuple [a,b,c] k2 pt2) X.env=pure (some [x,y,z]))
  (hs:swapsWithSole [.Tuple [.Name x px,.Name y py,.Name z pz] kt pt] (.Tuple [a,b,c] k2 pt2) pos.line X.env=pure false:=by rfl) :
  PS X (.Assign [.Tuple [.Name x px,.Name y py,.Name z pz] kt pt] (.Tuple [a,b,c] k2 pt2) pos) (Kz i j k ta):=by
 intro pins s σ H D I h
 rw [exec_Assign_arm]
 refine wpAny_bind (wpAny_standAt ?_)
 rw [hs]
 refine wpAny_bind (wpAny_pure ?_)
 rw [if_neg (by decide)]
 refine wpAny_bind (Tuple_ (df (ha _ pins s σ H _ I h) fun us s1 ⟨vs,H1,I1,r1,q1⟩=>?_))
 obtain ⟨v,w,q,e1,q1⟩:=q1
 subst e1
 obtain ⟨u1,u2,u3,rfl,rv,rw',rq⟩:∃ u1 u2 u3,us=[u1,u2,u3] /\ RelV v u1 /\ RelV w u2 /\ RelV q u3:=by
  cases r1 with
  | cons p q =>
   cases q with
   | cons p' q' =>
    cases q' with
    | cons p'' q'' =>
     cases q''
     exact ⟨_,_,_,rfl,p,p',p''⟩
 refine wpAny_newObj_type ?_ (by show 3 ≤ sizeLine; decide)
 have I2:Inv X pins σ H1 { s1 with heap:=s1.heap.push { cls:=.type "tuple", data:=.seq [u1,u2,u3].toArray } }:=I1.kept (t':=s1.toks) fun b o e=>Heap.get?_push_of_some _ e
 rw [hw]
 refine wpAny_bind (wpAny_pure ?_)
 show wpAny (model X.prog X.w) X.A (do rule "assign.swapped-stores"; let items <- unpackItems (.ref s1.heap.objs.size) 3 none; assignInOrder [fun v=>bindName X.env z v,fun v=>bindName X.env y v,fun v=>bindName X.env x v] items.reverse; pure Flow.next) _ _ _
 refine wpAny_bind (wpAny_rule (wpAny_bind (unpackItems_tuple (items:=#[u1,u2,u3]) (I.ok.hd hc) (IsTup.new s1.heap _) fun h' hx'=>?_)))
 have I3:=I2.kept (h':=h') (t':=s1.toks) fun b o e=>hx' b o (Nat.ne_of_lt (Heap.lt_size e)) e
 show wpAny _ _ (assignInOrder [fun v=>bindName X.env z v,fun v=>bindName X.env y v,fun v=>bindName X.env x v] [u3,u2,u1] >>= fun _=>pure Flow.next) _ _ _
 refine wpAny_bind (assignInOrder_cons (wpAny_bindName (gS I3 hN hk (.inl hz) rq (fun s2 I4=>?_) (.inr hz))))
 refine assignInOrder_cons (wpAny_bindName (gS I4 hN hj (.inl hy) rw' (fun s3 I5=>?_) (.inr hy)))
 refine assignInOrder_cons (wpAny_bindName (gS I5 hN hi (.inl hx) rv (fun s4 I6=>assignInOrder_nil (wpAny_pure ?_)) (.inr hx)))
 rw [List.set_comm _ _ (Ne.symm hjk),List.set_comm _ _ (Ne.symm hik),List.set_comm _ _ (Ne.symm hij)] at I6
 exact ⟨_,H1,I6,q1⟩
def zj (i j k:Nat) (g:FA):FS:=fun τ=>(g τ).bind fun p=>match p.1 with
 | [t,u,v]=>some (.nx (((p.2.set i (some (.sh t))).set j (some (.sh u))).set k (some (.sh v))))
 | _=>none
theorem FU {i j k:Nat} {x y z:Str} {a b c:Expr} {ga:FA} {px py pz pt:Pos} {kt k2 pt2} (hc:X.calm=true) (hN:X.N.Nodup) (hi:X.N[i]? = some x) (hj:X.N[j]? = some y) (hk:X.N[k]? = some z) (hij:i ≠ j) (hik:i ≠ k) (hjk:j ≠ k)
  (hx:X.env.scope.names.lookup x=some .local) (hy:X.env.scope.names.lookup y=some .local) (hz:X.env.scope.names.lookup z=some .local) (ha:SA X [a,b,c] ga)
  (hw:swappedStores [.Tuple [.Name x px,.Name y py,.Name z pz] kt pt] (.Tuple [a,b,c] k2 pt2) X.env=pure (some [x,y,z]))
  (hs:swapsWithSole [.Tuple [.Name x px,.Name y py,.Name z pz] kt pt] (.Tuple [a,b,c] k2 pt2) pos.line X.env=pure false:=by rfl) :
  SS X (.Assign [.Tuple [.Name x px,.Name y py,.Name z pz] kt pt] (.Tuple [a,b,c] k2 pt2) pos) (zj i j k ga):=fun F₀ H₀=>PS.weak (Fo hc hN hi hj hk hij hik hjk hx hy hz (ha F₀ H₀) hw hs) fun D σ H hq__=>by
 obtain ⟨F,τ,r,E,e1,q⟩:=hq__
 obtain ⟨⟨ts,τ1⟩,e2,e1⟩:=bind_some e1
 dsimp only at e1
 split at e1
 ·next t u v =>
  cases e1
  refine ⟨F,τ,_,_,E,e2,fun F1 H1 vs E1 s1 r1=>?_⟩
  obtain ⟨v1,_,rfl,k1,v2,_,rfl,k2,v3,_,rfl,k3,rfl⟩:=r1
  exact ⟨v1,v2,v3,rfl,q F1 H1 _ (((E1.set k1).set k2).set k3) s1⟩
 ·cases e1
end
open PySem PySem.Spec PyProof.Rows L2
def Aq (b:Bool) (X:Cx) (pins:List (Addr × Obj)) (F₀ H₀ F:Hp) (C:Addr) (τ':aB) (e:Value) (s':Shared):Prop:=
 ∃ σ' F' H',((b=true /\ Made X pins σ' H' C e s') \/ K8 X pins σ' H' C e s') /\ aD X.K F₀ H₀ F' H' σ' τ' /\ aJ F F'
theorem Aq.of {b:Bool} {X:Cx} {pins:List (Addr × Obj)} {F₀ H₀ F F1:Hp} {C:Addr} {τ':aB} {e:Value} {s':Shared} (s:aJ F F1) (p:Aq b X pins F₀ H₀ F1 C τ' e s'):Aq b X pins F₀ H₀ F C τ' e s':=by
 obtain ⟨σ',F',H',z,E,s2⟩:=p
 exact ⟨σ',F',H',z,E,s.trans s2⟩
theorem Aq.any {X:Cx} {pins:List (Addr × Obj)} {F₀ H₀ F:Hp} {C:Addr} {τ':aB} {e:Value} {s':Shared} (p:Aq false X pins F₀ H₀ F C τ' e s'):Aq true X pins F₀ H₀ F C τ' e s':=by
 obtain ⟨σ',F',H',z,E,s2⟩:=p
 rcases z with ⟨z,_⟩ | z
 ·cases z
 ·exact ⟨σ',F',H',.inr z,E,s2⟩
def Mn (K:PySem.W.Frag) (n:Nat) (dx:List T -> Option Addr):Sp:=fun vs H _ E=>vs.length=n /\ ∃ F ts C,aJ F H /\ aQ K F ts vs /\ dx ts=some C /\ ∀ e F' H',br F H F' H' -> E e (some C) H'
structure GS (P:Program) (w:World) (K:PySem.W.Frag) (mg:Str -> Option Value) (base:Heap) (k:Nat) (x:Str) (n:Nat) (dx:List T -> Option Addr):Prop where
 ex:∃ f fd ps,fI P w K mg base (L9 P w) k f fd ps (Mn K n dx) /\ Binds K fd ps [] /\ PySem.W.keepIn K (.ref f)=true /\ mg x=some (.ref f) /\ ps.length=n
def MH (dx:List T -> Option Addr):List T -> Option Addr
 | .ptr _ :: ts=>dx ts
 | _=>none
structure By (P:Program) (w:World) (K:PySem.W.Frag) (mg:Str -> Option Value) (base:Heap) (k:Nat) (x:Str) (C:Addr) (n:Nat) (dx:List T -> Option Addr):Prop where
 ex:∃ j f fd ps,k=j + 1 /\ Mk K C f /\ fI P w K mg base (L9 P w) j f fd ps (Mn K (n + 1) (MH dx)) /\ Binds K fd ps [] /\ mg x=some (.ref C) /\ ps.length=n + 1
section
variable {P:Program} {w:World} {K:PySem.W.Frag} {mg:Str -> Option Value} {base:Heap} {j k n:Nat} {x:Str} {C:Addr} {dx:List T -> Option Addr}
theorem GS.mono (D:GS P w K mg base j x n dx) (h:j ≤ k):GS P w K mg base k x n dx:=by
 obtain ⟨f,fd,ps,F,r⟩:=D.ex
 exact ⟨f,fd,ps,F.mono h,r⟩
theorem By.mono (D:By P w K mg base j x C n dx) (h:j ≤ k):By P w K mg base k x C n dx:=by
 obtain ⟨i,f,fd,ps,e,M,F,r⟩:=D.ex
 exact ⟨k - 1,f,fd,ps,by omega,M,F.mono (by omega),r⟩
end
section
variable {X:Cx} {e:Expr} {es:List Expr} {pos:Pos} {g:FA} {b:Bool}
end
open PySem PySem.Spec PyProof.Rows L2
section
variable {P:Program} {w:World} {K:PySem.W.Frag} {mg:Str -> Option Value} {base:Heap}
end
section
variable {X:Cx} {pos:Pos}
end
structure MB (K:PySem.W.Frag) (Ct C:Addr) (b:Bool):Prop where
 ex:∃ bm,K6 K C bm
 kit:PySem.W.kitOne K (.ref C) (.ref Ct)=some b
section
variable {X:Cx} {e:Expr} {pos:Pos}
end
open PySem PySem.Spec PyProof.Rows L2
section
variable {X:Cx} {es:List Expr} {pos:Pos}
def Cp (gs:List T -> aB -> Option aB):FG:=fun t τ=>match t with
 | .lst ts=>gs ts τ
 | .tup ts=>gs ts τ
 | _=>none
theorem Im {gs:List T -> aB -> Option aB} {k:Nat} {n:Nat} (hc:X.calm=true) (h:IH X es gs) (hl:∀ ts τ τ',gs ts τ=some τ' -> ts.length=n)
  (hn:(assignEach es X.env).length=n:=by rfl) (hst:(assignEach es X.env).findIdx? (·.1)=none:=by rfl):SG X (.Tuple es k pos) (Cp gs):=by
 intro F₀ H₀ pins s σ H v u Q I r h'
 obtain ⟨F,τ,t,τ',E,rt,e1,q⟩:=h'
 cases t with
 | lst ts=>exact DE hc h hl hn hst F₀ H₀ pins s σ H v u Q I r ⟨F,τ,.lst ts,τ',E,rt,e1,q⟩
 | tup ts=>exact ek hc h hl hn hst F₀ H₀ pins s σ H v u Q I r ⟨F,τ,.tup ts,τ',E,rt,e1,q⟩
 | _=>cases e1
end
def Gq (K:PySem.W.Frag) (C:Addr) (bm:List Value):Bool:=match K.lookup C with
 | some ⟨.type t,_,.cls ⟨_,_,mro,N,_,_,_,_,_,_,hd⟩,⟨[_,_,_,_,some (.builtin nid),_]⟩⟩=>t == "type" && decide (mro=.ref C :: bm) && !hd && nid == "ValueError.__new__" && (match K.lookup N with
  | some ⟨_,_,.dict es _,_⟩=>es.all (fun e=>match e.key with | .str _ _=>true | _=>false) && (nsFind es "__init__").isNone
  | _=>false)
 | _=>false
theorem wY.of {K:PySem.W.Frag} {C:Addr} {bm:List Value} (h:Gq K C bm=true):wY K C bm:=by
 unfold Gq at h
 split at h
 ·next t dd nm bs mro N q hdct sn sub ab col hd k0 k1 k2 k3 nid k5 e1 =>
  simp only [Bool.and_eq_true,beq_iff_eq,decide_eq_true_eq,Bool.not_eq_true'] at h
  obtain ⟨⟨⟨⟨rfl,rfl⟩,rfl⟩,rfl⟩,h⟩:=h
  split at h
  ·next c d es ep sl e2 =>
   simp only [Bool.and_eq_true,Option.isNone_iff_eq_none] at h
   exact ⟨N,nm,q,bs,hdct,sn,sub,ab,col,_,k0,k1,k2,k3,k5,_,es,ep,e1,e2,rfl,h.1,h.2⟩
  ·cases h
 ·cases h
open PySem PySem.Spec PyProof.Rows L2
def y9 (t r:Nat) (fo:Bs):FS:=fun τ=>(fo τ).bind fun p=>if p.1.all eh=true /\ oa t p.2=true /\ oa r p.2=true then some (.nx p.2) else none
section
variable {X:Cx} {r t:Nat} {rn tn:Str} {p1 p2 p3 p4 p5 p6 pos q1 q3 q4 q5 q6 pos':Pos}
theorem FQ {e:Expr} {fo:Bs} (he:xa X e fo) (hp:PassesOwn (model X.prog X.w) X.A X.env X.xe) (hc:X.calm=true) (hgr:PG X (.Name rn p1) (mi r)) (hgt:PG X (.Name tn q1) (mi t)) (ht:PE X (.Name tn p2) (fF t)) (ht':PE X (.Name tn q3) (fF t)) (hr:PE X (.Name rn p3) (fF r)) (hrt:r ≠ t)
  (hbase:attributeBase (.Name rn p3) "clear" X.env (eval (.Name rn p3) X.env)=eval (.Name rn p3) X.env:=by rfl) (hline:(p4.endLine == p5.line)=true:=by rfl)
  (hsw:swapsWith (.Call (.Attribute (.Name rn p3) "clear" p4) [] [] p5) none p6.line X.env=pure false:=by rfl) (hs:∀ x,foldedSetIterable (.Name tn p2) X.env x=pure x:=by intro _; rfl)
  (hbase':attributeBase (.Name tn q3) "clear" X.env (eval (.Name tn q3) X.env)=eval (.Name tn q3) X.env:=by rfl) (hline':(q4.endLine == q5.line)=true:=by rfl)
  (hsw':swapsWith (.Call (.Attribute (.Name tn q3) "clear" q4) [] [] q5) none q6.line X.env=pure false:=by rfl) (hs':∀ x,foldedSetIterable e X.env x=pure x:=by intro _; rfl) :
  SS X (.For (.Name tn q1) e [.For (.Name rn p1) (.Name tn p2) [.Expr (.Call (.Attribute (.Name rn p3) "clear" p4) [] [] p5) p6] [] pos,.Expr (.Call (.Attribute (.Name tn q3) "clear" q4) [] [] q5) q6] [] pos') (y9 t r fo):=fun F₀ H₀ =>
 PS.weak (lI hp hc (Dd (he F₀ H₀)) hgt (cE (Dg (pos:=pos) hp hc hgr ht hr hbase hline hsw hs) (eH (jh (yh PySem.F.plainAttrs_list PySem.F.slot_list_clear PySem.F.type_list_clear vQ ht' hbase' hline') hsw'))) hs') fun D σ H hq__=>by
  obtain ⟨F,τ,rr,E,e1,q⟩:=hq__
  obtain ⟨⟨os,τ1⟩,e2,e1⟩:=bind_some e1
  dsimp only at e1
  split at e1
  ·next hh =>
   obtain ⟨hsh,ht1,hr1⟩:=hh
   have hτt:=fU ht1
   have hτ:=fU hr1
   cases e1
   refine ⟨F,τ,os,τ1,E,e2,fun F1 H1 p vs A E1 s1 hF ro nd h0 ap=>?_⟩
   obtain ⟨tabs,rfl,rfl,htab⟩:=uF hsh ro
   have L:fS X.K F₀ H₀ F1 H1 σ τ1 (addrs tabs):=⟨E1,ro.at,h0,ap⟩
   have hdj:=Gx nd
   refine ⟨p,rfl,⟨_,js.of (E1.g.fh _ _ hF)⟩,fun i m σ1 H1'=>m=tabs.length - i /\ i ≤ tabs.length /\ fS X.K F₀ H₀ F1 H1' σ1 τ1 (addrs tabs) /\ (∀ z ∈ tabs.drop i,H1' z.1=some (.lst (z.2.map V.ref))) /\ Dj (tabs.drop i),⟨_,rfl,Nat.zero_le _,L,htab,hdj⟩,?_⟩
   rintro i m σ1 H1' ⟨rfl,hi,L1,ht1,hd1⟩
   have hq1:H1' p=some (.tup (tabs.map fun z=>V.ref z.1)):=L1.E.g.fh _ _ hF
   by_cases hlt:i < tabs.length
   ·have gi:(tabs.map fun z=>V.ref z.1)[i]? = some (.ref tabs[i].1):=by rw [List.getElem?_map,List.getElem?_eq_getElem hlt]; rfl
    have hd:tabs.drop i=tabs[i] :: tabs.drop (i + 1):=List.drop_eq_getElem_cons hlt
    rw [hd] at ht1 hd1
    obtain ⟨d1,d2,d3⟩:=hd1
    have hz:=ht1 _ List.mem_cons_self
    have hmem:tabs[i] ∈ tabs:=List.getElem_mem hlt
    have hA1:=(dJ hmem).1
    refine .inr ⟨⟨_,_,js.of hq1,gi⟩,fun σ' H'=>fS X.K F₀ H₀ F1 H' σ' τ1 (addrs tabs) /\ (∀ z ∈ tabs.drop (i + 1),H' z.1=some (.lst (z.2.map V.ref))) /\ Dj (tabs.drop (i + 1)),fun σ' H' n=>⟨_,by omega,rfl,hlt,n⟩,fun v H2 z=>?_⟩
    obtain ⟨rfl,y⟩:=z
    have hv:=y _ (js.of hq1)
    rw [gi] at hv
    cases hv
    have L2':=L1.setv (v:=.ref tabs[i].1) hτt
    have htl:t < σ1.length:=by
     rw [L1.E.len]
     exact (List.getElem?_eq_some_iff.mp hτt).1
    have g1:(σ1.set t (some (.ref tabs[i].1)))[t]? = some (some (.ref tabs[i].1)):=List.getElem?_set_self htl
    refine ⟨F₀,H₀,F1,τ1,addrs tabs,tabs[i].1,tabs[i].2,L2',hτ,g1,hz,fun a ha=>⟨(dJ hmem).2 a ha,fun w=>d1 (by rw [<- w]; exact ha)⟩,fun H3 σ3 L3 hb3 hj3=>?_⟩
    have hz3:H3 tabs[i].1=some (.lst (tabs[i].2.map V.ref)):=by rw [hb3 _ d1]; exact hz
    have g3:σ3[t]? = some (some (.ref tabs[i].1)):=by rw [hj3 t (Ne.symm hrt)]; exact g1
    refine ⟨.ref tabs[i].1,g3,.inl ⟨rfl,_,dE.of hz3⟩,tabs[i].1,_,rfl,rfl,hz3,L3.upd hA1 [],fun y hy=>?_,d3⟩
    rw [az (d2 y hy).1,hb3 _ (d2 y hy).2]; exact ht1 y (List.mem_cons_of_mem _ hy)
   ·exact .inl ⟨⟨_,js.of hq1,by rw [List.length_map]; omega⟩,q F1 H1' σ1 L1.E s1⟩
  ·cases e1
end
open PySem PySem.Spec PyProof.Rows L2
section
variable {K:PySem.W.Frag} {F₀ H₀ F H:Hp} {σ:L2.St} {τ:aB} {A:List Addr}
theorem fS.new (D:fS K F₀ H₀ F H σ τ A) {q:Addr} (hq:H q=none) (o:HO):fS K F₀ H₀ F (L2.upd H q o) σ τ A:=
 ⟨D.E.hp (bW hq),fun a ha=>⟨(D.lies a ha).1,by
  obtain ⟨vs,h⟩:=(D.lies a ha).2
  exact ⟨vs,by rw [az (fun z:a=q=>by rw [z,hq] at h; cases h)]; exact h⟩⟩,D.h0,D.ap⟩
theorem fS.add (D:fS K F₀ H₀ F H σ τ A) {q:Addr} (hq:H q=none) (ws:List V):fS K F₀ H₀ F (L2.upd H q (.lst ws)) σ τ (q :: A):=by
 have N:=D.new hq (.lst ws)
 refine ⟨N.E,fun a ha=>?_,fun a ha=>?_,fun j us p e1 e2 hp=>?_⟩
 ·rcases List.mem_cons.mp ha with rfl | ha
  ·exact ⟨D.E.g.fh.free hq,ws,aN⟩
  ·exact N.lies a ha
 ·rcases List.mem_cons.mp ha with rfl | ha
  ·exact D.E.g.sH.free hq
  ·exact D.h0 a ha
 ·rcases List.mem_cons.mp hp with rfl | hp
  ·obtain ⟨v,k1,k2⟩:=D.E.sl j _ e1
   rw [e2] at k1; cases k1
   obtain ⟨p',vs,z,k3,_⟩:=k2
   cases z
   rw [hq] at k3; cases k3
  ·exact D.ap j us p e1 e2 hp
end
theorem uN {v:V} {vs:List V}:mS (v :: vs) 0=some v:=by
 unfold mS tM
 rw [if_pos (Int.le_refl 0),if_pos (by rw [List.length_cons]; omega),Option.bind_some]
 rfl
def Ap (H:Hp) (A:List Addr) (n:Nat):Prop:=∀ a ∈ A,∃ vs,H a=some (.lst vs) /\ vs.length ≤ n
section
variable {X:Cx} {t x:Nat} {tn xn:Str} {q1 q2 p1 p2 p3 p4 p5 r1 r2 r3 r4 r5 r6 r7 r8 r9 pos':Pos}
theorem Fm {j0 j1 j2 k7:Nat} (hp:PassesOwn (model X.prog X.w) X.A X.env X.xe) (hc:X.calm=true) (hgt:PG X (.Name tn q1) (mi t)) (hx:PE X (.Name xn q2) (fF x)) (ht:PE X (.Name tn p1) (fF t)) (ht':PE X (.Name tn r1) (fF t)) (hxt:x ≠ t)
  (hbase:attributeBase (.Name tn p1) "append" X.env (eval (.Name tn p1) X.env)=eval (.Name tn p1) X.env:=by rfl)
  (hfew:((backTo p4 (starEach [.List [] p3] X.env)).all (fun x=>!x.1) && (backToKw p4 (keywordEach [] X.env)).all (fun x=>x.1.isSome) && decide ([Expr.List [] p3].length + ([]:List Keyword).length + (if ([]:List Keyword).isEmpty then 0 else 1) < 30))=true:=by rfl)
  (hline:(p2.endLine == p4.line)=true:=by rfl) (hse:starEach [.List [] p3] X.env=(false,eval (.List [] p3) X.env) :: starEach [] X.env:=by rfl) (hpl:(backTo p4 (starEach [] X.env)).any (·.1)=false:=by rfl)
  (hsw:swapsWith (.Call (.Attribute (.Name tn p1) "append" p2) [.List [] p3] [] p4) none p5.line X.env=pure false:=by rfl)
  (hbase':attributeBase (.Subscript (.Name tn r1) (.Constant (.int 0) j0 r2) r3) "append" X.env (eval (.Subscript (.Name tn r1) (.Constant (.int 0) j0 r2) r3) X.env)=eval (.Subscript (.Name tn r1) (.Constant (.int 0) j0 r2) r3) X.env:=by rfl)
  (hfew':((backTo r8 (starEach [.Tuple [.Constant (.int 1) j1 r5,.Constant (.int 1) j2 r6] k7 r7] X.env)).all (fun x=>!x.1) && (backToKw r8 (keywordEach [] X.env)).all (fun x=>x.1.isSome) && decide ([Expr.Tuple [.Constant (.int 1) j1 r5,.Constant (.int 1) j2 r6] k7 r7].length + ([]:List Keyword).length + (if ([]:List Keyword).isEmpty then 0 else 1) < 30))=true:=by rfl)
  (hline':(r4.endLine == r8.line)=true:=by rfl) (hse':starEach [.Tuple [.Constant (.int 1) j1 r5,.Constant (.int 1) j2 r6] k7 r7] X.env=(false,eval (.Tuple [.Constant (.int 1) j1 r5,.Constant (.int 1) j2 r6] k7 r7) X.env) :: starEach [] X.env:=by rfl) (hpl':(backTo r8 (starEach [] X.env)).any (·.1)=false:=by rfl)
  (hsw':swapsWith (.Call (.Attribute (.Subscript (.Name tn r1) (.Constant (.int 0) j0 r2) r3) "append" r4) [.Tuple [.Constant (.int 1) j1 r5,.Constant (.int 1) j2 r6] k7 r7] [] r8) none r9.line X.env=pure false:=by rfl)
  (hsa:starEach [.Constant (.int 1) j1 r5,.Constant (.int 1) j2 r6] X.env=(false,eval (.Constant (.int 1) j1 r5) X.env) :: starEach [.Constant (.int 1) j2 r6] X.env:=by rfl) (hsb:starEach [.Constant (.int 1) j2 r6] X.env=(false,eval (.Constant (.int 1) j2 r6) X.env) :: starEach [] X.env:=by rfl)
  (hix:lW (.Constant (.int 0) j0 r2):=by intro _ _; rfl)
  (hs':∀ x,foldedSetIterable (.Name xn q2) X.env x=pure x:=by intro _; rfl) :
  PS X (.For (.Name tn q1) (.Name xn q2) [.Expr (.Call (.Attribute (.Name tn p1) "append" p2) [.List [] p3] [] p4) p5,.Expr (.Call (.Attribute (.Subscript (.Name tn r1) (.Constant (.int 0) j0 r2) r3) "append" r4) [.Tuple [.Constant (.int 1) j1 r5,.Constant (.int 1) j2 r6] k7 r7] [] r8) r9] [] pos')
   (fun D σ H=>∃ (F₀ H₀ F:Hp) (τ:aB) (A:List Addr) (p:Addr) (tabs:List Addr),fS X.K F₀ H₀ F H σ τ A /\ τ[t]? = some none /\ σ[x]? = some (some (.ref p)) /\ H p=some (.lst (tabs.map V.ref)) /\ (∀ z ∈ tabs,z ∈ A /\ z ≠ p /\ ∃ rs:List Addr,H z=some (.lst (rs.map V.ref)) /\ ∀ a ∈ rs,a ∈ A /\ a ≠ p /\ a ∉ tabs) /\ Ap H A 500 /\ tabs.length ≤ 100 /\
    ∀ H' σ' A',fS X.K F₀ H₀ F H' σ' τ A' -> (∀ j,j ≠ t -> σ'[j]? = σ[j]?) -> D.nx σ' H'):=
 PS.weak (lI hp hc (mD hx) hgt (cE (jh (zM PySem.F.plainAttrs_list PySem.F.slot_list_append PySem.F.type_list_append gx ht (cN (ui fv) fv hse) hbase hfew hline hse hpl) hsw)
  (eH (jh (zM PySem.F.plainAttrs_list PySem.F.slot_list_append PySem.F.type_list_append gx (C8 tN ht' lH hix) (cN (uj (cN lH (cN lH fv hsb) hsa)) fv hse') hbase' hfew' hline' hse' hpl') hsw'))) hs') fun D σ H h=>by
  obtain ⟨F₀,H₀,F,τ,A,p,tabs,L,hτt,hσ,hq,htab,hlen,h100,k⟩:=h
  refine ⟨.ref p,hσ,p,rfl,⟨_,dE.of hq⟩,fun i m σ1 H1=>m=tabs.length - i /\ i ≤ tabs.length /\ ∃ A1,fS X.K F₀ H₀ F H1 σ1 τ A1 /\ H1 p=some (.lst (tabs.map V.ref)) /\ (∀ z ∈ tabs,z ∈ A1 /\ z ≠ p /\ ∃ rs:List Addr,H1 z=some (.lst (rs.map V.ref)) /\ ∀ a ∈ rs,a ∈ A1 /\ a ≠ p /\ a ∉ tabs) /\ Ap H1 A1 (500 + 2 * i) /\ ∀ j,j ≠ t -> σ1[j]? = σ[j]?,⟨_,rfl,Nat.zero_le _,A,L,hq,htab,hlen,fun _ _=>rfl⟩,?_⟩
  rintro i m σ1 H1 ⟨rfl,hi,A1,L1,hq1,ht1,zv,hj⟩
  by_cases hlt:i < tabs.length
  ·have gi:(tabs.map V.ref)[i]? = some (.ref tabs[i]):=by rw [List.getElem?_map,List.getElem?_eq_getElem hlt]; rfl
   have hmem:tabs[i] ∈ tabs:=List.getElem_mem hlt
   refine .inr ⟨⟨_,_,dE.of hq1,gi⟩,fun σ' H'=>∃ A1,fS X.K F₀ H₀ F H' σ' τ A1 /\ H' p=some (.lst (tabs.map V.ref)) /\ (∀ z ∈ tabs,z ∈ A1 /\ z ≠ p /\ ∃ rs:List Addr,H' z=some (.lst (rs.map V.ref)) /\ ∀ a ∈ rs,a ∈ A1 /\ a ≠ p /\ a ∉ tabs) /\ Ap H' A1 (500 + 2 * (i + 1)) /\ ∀ j,j ≠ t -> σ'[j]? = σ[j]?,fun σ' H' n=>⟨_,by omega,rfl,hlt,n⟩,fun v H2 z=>?_⟩
   obtain ⟨rfl,y⟩:=z
   have hv:=y _ (dE.of hq1)
   rw [gi] at hv
   cases hv
   generalize tabs[i]=z at *
   obtain ⟨zA,zp,rs,hz,hrs⟩:=ht1 z hmem
   have L2':=L1.setv (v:=.ref z) hτt
   have htl:t < σ1.length:=by
    rw [L1.E.len]
    exact (List.getElem?_eq_some_iff.mp hτt).1
   have g1:(σ1.set t (some (.ref z)))[t]? = some (some (.ref z)):=List.getElem?_set_self htl
   have lz:rs.length ≤ 500 + 2 * i:=by
    obtain ⟨vs,e,h⟩:=zv z zA
    rw [hz] at e; cases e
    rw [List.length_map] at h
    exact h
   have hi':i < 100:=by omega
   refine ⟨.ref z,g1,.inl ⟨rfl,_,dE.of hz⟩,Nat.zero_le _,fun q hq0=>?_⟩
   have zq:z ≠ q:=fun e=>by rw [e,hq0] at hz; cases hz
   have pq:p ≠ q:=fun e=>by rw [e,hq0] at hq1; cases hq1
   have qA:q ∉ A1:=fun m=>by
    obtain ⟨vs,e⟩:=(L1.lies q m).2
    rw [hq0] at e; cases e
   refine ⟨z,rs.map V.ref,.ref q,rfl,rfl,by rw [az zq]; exact hz,dN (by rw [List.length_map]; omega),?_⟩
   have L3:=((L2'.add hq0 []).upd (List.mem_cons_of_mem _ zA) (rs.map V.ref ++ [.ref q]))
   have hz3:L2.upd (L2.upd H2 q (.lst [])) z (.lst (rs.map V.ref ++ [.ref q])) z=some (.lst ((rs ++ [q]).map V.ref)):=by rw [aN,List.map_append]; rfl
   have hp3:L2.upd (L2.upd H2 q (.lst [])) z (.lst (rs.map V.ref ++ [.ref q])) p=some (.lst (tabs.map V.ref)):=by rw [az (Ne.symm zp),az pq]; exact hq1
   have qtabs:q ∉ tabs:=fun m=>qA (ht1 q m).1
   have hin:∀ a ∈ rs ++ [q],a ∈ q :: A1 /\ a ≠ p /\ a ∉ tabs:=fun a ha=>by
    rcases List.mem_append.mp ha with ha | ha
    ·exact ⟨List.mem_cons_of_mem _ (hrs a ha).1,(hrs a ha).2⟩
    ·rw [List.mem_singleton.mp ha]
     exact ⟨List.mem_cons_self,Ne.symm pq,qtabs⟩
   have htab3:∀ y ∈ tabs,y ∈ q :: A1 /\ y ≠ p /\ ∃ rs':List Addr,L2.upd (L2.upd H2 q (.lst [])) z (.lst (rs.map V.ref ++ [.ref q])) y=some (.lst (rs'.map V.ref)) /\ ∀ a ∈ rs',a ∈ q :: A1 /\ a ≠ p /\ a ∉ tabs:=fun y hy=>by
    obtain ⟨yA,yp,ry,h1,h2⟩:=ht1 y hy
    refine ⟨List.mem_cons_of_mem _ yA,yp,?_⟩
    by_cases hyz:y=z
    ·subst hyz
     exact ⟨rs ++ [q],hz3,hin⟩
    ·exact ⟨ry,by rw [az hyz,az (fun e=>qtabs (by rw [<- e]; exact hy))]; exact h1,fun a ha=>⟨List.mem_cons_of_mem _ (h2 a ha).1,(h2 a ha).2⟩⟩
   have KR:Ap (L2.upd (L2.upd H2 q (.lst [])) z (.lst (rs.map V.ref ++ [.ref q]))) (q :: A1) (500 + 2 * i + 1):=fun a ha=>by
    by_cases haz:a=z
    ·rw [haz]
     exact ⟨_,hz3,by rw [List.length_map,List.length_append,List.length_singleton]; omega⟩
    ·rw [az haz]
     rcases List.mem_cons.mp ha with rfl | ha
     ·exact ⟨[],aN,Nat.zero_le _⟩
     ·obtain ⟨vs,h1,h2⟩:=zv a ha
      exact ⟨vs,by rw [az (fun e=>qA (by rw [<- e]; exact ha))]; exact h1,by omega⟩
   obtain ⟨b,hb,hat⟩:∃ b,b ∈ rs ++ [q] /\ mS ((rs ++ [q]).map V.ref) 0=some (V.ref b):=by
    cases rs with
    | nil=>exact ⟨q,List.mem_cons_self,uN⟩
    | cons r0 rs=>exact ⟨r0,List.mem_cons_self,uN⟩
   obtain ⟨bA,bp,bt⟩:=hin b hb
   generalize L2.upd (L2.upd H2 q (.lst [])) z (.lst (rs.map V.ref ++ [.ref q]))=H3 at *
   obtain ⟨vs,hb3,hbl⟩:=KR b bA
   refine ⟨.ref z,g1,z,_,0,.ref b,rfl,rfl,dE.of hz3,hat,.inl ⟨rfl,vs,dE.of hb3⟩,bQ (by simp),fun l hl0=>?_⟩
   have lb:b ≠ l:=fun e=>by rw [e,hl0] at hb3; cases hb3
   refine ⟨b,vs,.ref l,rfl,rfl,by rw [az lb]; exact hb3,dN (by omega),q :: A1,(L3.new hl0 _).upd bA _,?_,fun y hy=>?_,fun a ha=>?_,fun j nj=>?_⟩
   ·rw [az (Ne.symm bp),az (fun e:p=l=>by rw [e,hl0] at hp3; cases hp3)]; exact hp3
   ·obtain ⟨h1,h2,ry,h3,h4⟩:=htab3 y hy
    exact ⟨h1,h2,ry,by rw [az (fun e=>bt (by rw [<- e]; exact hy)),az (fun e:y=l=>by rw [e,hl0] at h3; cases h3)]; exact h3,h4⟩
   ·by_cases hab:a=b
    ·rw [hab]
     exact ⟨_,aN,by rw [List.length_append,List.length_singleton]; omega⟩
    ·obtain ⟨ws,h1,h2⟩:=KR a ha
     exact ⟨ws,by rw [az hab,az (fun e:a=l=>by rw [e,hl0] at h1; cases h1)]; exact h1,by omega⟩
   ·rw [List.getElem?_set_ne (Ne.symm nj)]; exact hj j nj
  ·exact .inl ⟨⟨_,dE.of hq1,by rw [List.length_map]; omega⟩,k H1 σ1 A1 L1 hj⟩
end
open PySem PySem.Spec PyProof.Rows L2
mutual
def gh:T -> Bool
 | .lst _=>false
 | .scr _=>false
 | .tup ts=>iu ts
 | .obj _ _ ts=>iu ts
 | _=>true
def iu:List T -> Bool
 | []=>true
 | t :: ts=>gh t && iu ts
end
mutual
theorem rM {K:PySem.W.Frag} {F F':Hp} (h:∀ a o,F a=some o -> (∀ xs,o ≠ .lst xs) -> F' a=some o):∀ {t:T} {v:V},gh t=true -> Rep K F t v -> Rep K F' t v
 | .non,v,_,r=>r
 | .bl _,v,_,r=>r
 | .int _,v,_,r=>r
 | .str _,v,_,r=>r
 | .ty _,v,_,r=>r
 | .ptr _,v,_,r=>r
 | .tup ts,v,n,r=>by
  obtain ⟨a,xs,e,s,rs⟩:=r
  refine ⟨a,xs,e,?_,lK h (by simpa [gh] using n) rs⟩
  rcases s with (s | ⟨o,s⟩) | s
  ·exact .inl (.inl (h a _ s (fun _ z=>by cases z)))
  ·exact .inl (.inr ⟨o,h a _ s (fun _ z=>by cases z)⟩)
  ·exact .inr s
 | .lst ts,v,n,r=>by simp [gh] at n
 | .scr ts,v,n,r=>by simp [gh] at n
 | .dic,v,_,r=>by
  obtain ⟨a,e,s⟩:=r
  exact ⟨a,e,h a _ s (fun _ z=>by cases z)⟩
 | .obj C ns ts,v,n,r=>by
  obtain ⟨a,dx,vs,e,s,l,rs⟩:=r
  exact ⟨a,dx,vs,e,h a _ s (fun _ z=>by cases z),l,lK h (by simpa [gh] using n) rs⟩
 | .exc C,v,_,r=>by
  obtain ⟨a,e,s⟩:=r
  exact ⟨a,e,h a _ s (fun _ z=>by cases z)⟩
theorem lK {K:PySem.W.Frag} {F F':Hp} (h:∀ a o,F a=some o -> (∀ xs,o ≠ .lst xs) -> F' a=some o):∀ {ts:List T} {vs:List V},iu ts=true -> aQ K F ts vs -> aQ K F' ts vs
 | [],vs,_,r=>r
 | t :: ts,vs,n,r=>by
  rw [iu,Bool.and_eq_true] at n
  obtain ⟨v,rr,e,r1,r2⟩:=r
  exact ⟨v,rr,e,rM h n.1 r1,lK h n.2 r2⟩
end
mutual
def mw:O -> Bool
 | .val _=>true
 | .lst os=>decide (os.length ≤ 500) && jv os
def jv:List O -> Bool
 | []=>true
 | o :: os=>mw o && jv os
end
mutual
theorem zE {K:PySem.W.Frag} {F H:Hp}:∀ {o:O} {v:V} {A:List Addr},mw o=true -> cQ K F H o v A -> Ap H A 500
 | .val t,v,A,_,r=>by
  obtain ⟨rfl,_⟩:=r
  intro a ha; cases ha
 | .lst os,v,A,n,r=>by
  rw [mw,Bool.and_eq_true,decide_eq_true_eq] at n
  obtain ⟨p,vs,B,_,rfl,h1,_,h3⟩:=r
  intro a ha
  rcases List.mem_cons.mp ha with rfl | ha
  ·exact ⟨vs,h1,by rw [aU.len h3]; exact n.1⟩
  ·exact vK n.2 h3 a ha
theorem vK {K:PySem.W.Frag} {F H:Hp}:∀ {os:List O} {vs:List V} {A:List Addr},jv os=true -> aU K F H os vs A -> Ap H A 500
 | [],vs,A,_,r=>by
  obtain ⟨_,rfl⟩:=r
  intro a ha; cases ha
 | o :: os,vs,A,n,r=>by
  rw [jv,Bool.and_eq_true] at n
  obtain ⟨v,rr,B,C,rfl,rfl,r1,r2⟩:=r
  intro a ha
  rcases List.mem_append.mp ha with ha | ha
  ·exact zE n.1 r1 a ha
  ·exact vK n.2 r2 a ha
end
def Ca:O -> Bool
 | .lst os=>decide (os.length ≤ 100)
 | _=>false
theorem wC:∀ {tabs:List (Addr × List Addr)},(addrs tabs).Nodup -> ∀ z ∈ tabs,∀ a ∈ z.2,a ∉ tabs.map (·.1)
 | [],_,z,hz,_,_=>by cases hz
 | y :: r,h,z,hz,a,ha=>by
  have e:addrs (y :: r)=(y.1 :: y.2) ++ addrs r:=rfl
  rw [e] at h
  obtain ⟨n1,n2,n3⟩:=List.nodup_append.mp h
  intro m
  rcases List.mem_cons.mp m with m | m
  ·rcases List.mem_cons.mp hz with rfl | hz
   ·exact (List.nodup_cons.mp n1).1 (by have m':a=z.1:=m; rw [<- m']; exact ha)
   ·exact n3 y.1 List.mem_cons_self a ((dJ hz).2 a ha) m.symm
  ·obtain ⟨w,hw,rfl⟩:=List.mem_map.mp m
   rcases List.mem_cons.mp hz with rfl | hz
   ·exact n3 w.1 (List.mem_cons_of_mem _ ha) w.1 (dJ hw).1 rfl
   ·exact wC n2 z hz w.1 ha (List.mem_map.mpr ⟨w,hw,rfl⟩)
theorem fS.put {K:PySem.W.Frag} {F₀ H₀ F H:Hp} {σ:L2.St} {τ:aB} {A:List Addr} (D:fS K F₀ H₀ F H σ τ A) {y:Nat} {t:T} {v:V} (r:Rep K F t v):fS K F₀ H₀ F H (σ.set y (some v)) (τ.set y (some (.sh t))) A:=by
 refine ⟨D.E.set r,D.lies,D.h0,fun j us p e1 e2=>?_⟩
 by_cases hj:y=j
 ·subst hj
  by_cases hl:y < τ.length
  ·rw [List.getElem?_set_self hl] at e1; cases e1
  ·rw [List.getElem?_eq_none (by simp; omega)] at e1; cases e1
 ·rw [List.getElem?_set_ne hj] at e1 e2
  exact D.ap j us p e1 e2
def zc (x y t:Nat) (fo:gX) (fe:FE):FS:=fun τ=>(fo τ).bind fun p =>
 if (mr p.1=true /\ mw p.1=true /\ Ca p.1=true) /\ oa t (p.2.set x none)=true /\ oa x (p.2.set x none)=true then
  (fe ((hide p.2).set x (some (.sh p.1.tr)))).bind fun q=>if gh q.1=true then some (.nx ((p.2.set x none).set y (some (.sh q.1)))) else none
 else none
section
variable {X:Cx} {t x y:Nat} {tn xn yn:Str} {q1 q2 p1 p2 p3 p4 p5 r1 r2 r3 r4 r5 r6 r7 r8 r9 pos' a1 a2 c1 c2:Pos}
theorem DK {S:Stmt} {ey:Expr} {fo:gX} {fe:FE} {rest:List Stmt} {u:FS} {j0 j1 j2 k7:Nat} (hS:Mg X S x fo) (hN:X.N.Nodup) (hiy:X.N[y]? = some yn) (hly:Loc X.env.scope yn) (hE:SE X ey fe) (hrest:qZ X rest u)
  (hp:PassesOwn (model X.prog X.w) X.A X.env X.xe) (hc:X.calm=true) (hgt:PG X (.Name tn q1) (mi t)) (hx:PE X (.Name xn q2) (fF x)) (ht:PE X (.Name tn p1) (fF t)) (ht':PE X (.Name tn r1) (fF t)) (hxt:x ≠ t) (hxy:x ≠ y) (hyt:y ≠ t)
  (hsey:swapsWith ey (some (.Name yn c1)) c2.line X.env=pure false:=by rfl) (hfy:X.fn yn=true \/ X.env.scope.names.lookup yn=some .local:=by first | exact .inl rfl | exact .inr rfl | assumption)
  (hbase:attributeBase (.Name tn p1) "append" X.env (eval (.Name tn p1) X.env)=eval (.Name tn p1) X.env:=by rfl)
  (hfew:((backTo p4 (starEach [.List [] p3] X.env)).all (fun x=>!x.1) && (backToKw p4 (keywordEach [] X.env)).all (fun x=>x.1.isSome) && decide ([Expr.List [] p3].length + ([]:List Keyword).length + (if ([]:List Keyword).isEmpty then 0 else 1) < 30))=true:=by rfl)
  (hline:(p2.endLine == p4.line)=true:=by rfl) (hst:starEach [.List [] p3] X.env=(false,eval (.List [] p3) X.env) :: starEach [] X.env:=by rfl) (hpl:(backTo p4 (starEach [] X.env)).any (·.1)=false:=by rfl)
  (hsw:swapsWith (.Call (.Attribute (.Name tn p1) "append" p2) [.List [] p3] [] p4) none p5.line X.env=pure false:=by rfl)
  (hbase':attributeBase (.Subscript (.Name tn r1) (.Constant (.int 0) j0 r2) r3) "append" X.env (eval (.Subscript (.Name tn r1) (.Constant (.int 0) j0 r2) r3) X.env)=eval (.Subscript (.Name tn r1) (.Constant (.int 0) j0 r2) r3) X.env:=by rfl)
  (hfew':((backTo r8 (starEach [.Tuple [.Constant (.int 1) j1 r5,.Constant (.int 1) j2 r6] k7 r7] X.env)).all (fun x=>!x.1) && (backToKw r8 (keywordEach [] X.env)).all (fun x=>x.1.isSome) && decide ([Expr.Tuple [.Constant (.int 1) j1 r5,.Constant (.int 1) j2 r6] k7 r7].length + ([]:List Keyword).length + (if ([]:List Keyword).isEmpty then 0 else 1) < 30))=true:=by rfl)
  (hline':(r4.endLine == r8.line)=true:=by rfl) (hst':starEach [.Tuple [.Constant (.int 1) j1 r5,.Constant (.int 1) j2 r6] k7 r7] X.env=(false,eval (.Tuple [.Constant (.int 1) j1 r5,.Constant (.int 1) j2 r6] k7 r7) X.env) :: starEach [] X.env:=by rfl) (hpl':(backTo r8 (starEach [] X.env)).any (·.1)=false:=by rfl)
  (hsw':swapsWith (.Call (.Attribute (.Subscript (.Name tn r1) (.Constant (.int 0) j0 r2) r3) "append" r4) [.Tuple [.Constant (.int 1) j1 r5,.Constant (.int 1) j2 r6] k7 r7] [] r8) none r9.line X.env=pure false:=by rfl)
  (hsa:starEach [.Constant (.int 1) j1 r5,.Constant (.int 1) j2 r6] X.env=(false,eval (.Constant (.int 1) j1 r5) X.env) :: starEach [.Constant (.int 1) j2 r6] X.env:=by rfl) (hsb:starEach [.Constant (.int 1) j2 r6] X.env=(false,eval (.Constant (.int 1) j2 r6) X.env) :: starEach [] X.env:=by rfl)
  (hix:lW (.Constant (.int 0) j0 r2):=by intro _ _; rfl)
  (hs':∀ x,foldedSetIterable (.Name xn q2) X.env x=pure x:=by intro _; rfl) :
  qZ X (S :: .Assign [.Name yn c1] ey c2 :: .For (.Name tn q1) (.Name xn q2) [.Expr (.Call (.Attribute (.Name tn p1) "append" p2) [.List [] p3] [] p4) p5,.Expr (.Call (.Attribute (.Subscript (.Name tn r1) (.Constant (.int 0) j0 r2) r3) "append" r4) [.Tuple [.Constant (.int 1) j1 r5,.Constant (.int 1) j2 r6] k7 r7] [] r8) r9] [] pos' :: rest) (bf (zc x y t fo fe) u):=fun F₀ H₀ =>
 iQ.weak (cE (hS F₀ H₀) (cE (lJ hN hiy hly hE.any hsey hfy)
  (cE (Fm (pos':=pos') hp hc hgt hx ht ht' hxt hbase hfew hline hst hpl hsw hbase' hfew' hline' hst' hpl' hsw' hsa hsb hix hs') (hrest F₀ H₀)))) fun D σ H hq__=>by
  obtain ⟨F,τ,rr,E,e1,q⟩:=hq__
  obtain ⟨r1,e2,e1⟩:=bind_some e1
  obtain ⟨⟨o,τ1⟩,e3,e2⟩:=bind_some e2
  split at e2
  ·next hh =>
   obtain ⟨⟨hsh,hln,hft⟩,ht1,hx0⟩:=hh
   replace ht1:=fU ht1
   have hx1:=fU hx0
   dsimp only at e2
   have hxl:x < τ1.length:=by
    have:=(List.getElem?_eq_some_iff.mp hx1).1
    rw [List.length_set] at this
    exact this
   obtain ⟨⟨c0,τ3⟩,e4,e2⟩:=bind_some e2
   split at e2
   ·next hno =>
    cases e2
    refine ⟨F,τ,o,τ1,E,e3,fun F1 H1 v A E1 s1 ro nd h0 ap=>?_⟩
    have L0:fS X.K F₀ H₀ F1 H1 σ (τ1.set x none) A:=fS.of E1 ro h0 ap
    have L1:=L0.setv (v:=v) hx1
    have hσx:(σ.set x (some v))[x]? = some (some v):=List.getElem?_set_self (by rw [E1.len]; exact hxl)
    have E1':aD X.K (frzO F1 H1 A) H1 (frzO F1 H1 A) H1 (σ.set x (some v)) ((hide τ1).set x (some (.sh o.tr))):=by
     have z:=CM L1.E ro hσx
     have e:(hide (τ1.set x none)).set x (some (.sh o.tr))=(hide τ1).set x (some (.sh o.tr)):=iL
     rw [e] at z
     exact z
    refine ⟨_,_,_,_,c0,τ3,E1',e4,fun F2 H2 v2 E2 s2 r2=>?_⟩
    have g':=lg (fun a ha=>(ro.at a ha).1) E2.g
    have L2':fS X.K F₀ H₀ (kX F2 A) H2 (σ.set x (some v)) (τ1.set x none) A:=⟨L1.E.grow g',fun a ha=>⟨h9 ha,by obtain ⟨ws,hw⟩:=(ro.at a ha).2; exact ⟨ws,E2.g.sH _ _ hw⟩⟩,h0,L1.ap⟩
    have r2':Rep X.K (kX F2 A) c0 v2:=rM (fun a o' ea hl=>by
     have m:a ∉ A:=fun m=>by
      obtain ⟨ws,hw⟩:=(ro.at a m).2
      have z:=E2.g.sF a _ (by rw [cH m]; exact hw)
      rw [ea] at z
      cases z
      exact hl ws rfl
     rw [dh m]; exact ea) hno r2
    have L3:=L2'.put (y:=y) r2'
    cases o with
    | val _=>simp [mr] at hsh
    | lst os =>
     have hl5:=zE hln ro
     obtain ⟨p,vs,B,rfl,rfl,k1,k2,k3⟩:=ro
     obtain ⟨tabs,rfl,rfl,k4⟩:=uF hsh k3
     have nd':=List.nodup_cons.mp nd
     have hτt:((τ1.set x none).set y (some (.sh c0)))[t]? = some none:=by rw [List.getElem?_set_ne hyt]; exact ht1
     have hσ2:((σ.set x (some (.ref p))).set y (some v2))[x]? = some (some (.ref p)):=by rw [List.getElem?_set_ne (Ne.symm hxy)]; exact hσx
     have htl:tabs.length ≤ 100:=by
      have z:=aU.len k3
      rw [List.length_map] at z
      simp only [Ca,decide_eq_true_eq] at hft
      omega
     refine ⟨F₀,H₀,_,_,_,p,tabs.map (·.1),L3,hτt,hσ2,?_,fun z hz=>?_,fun a ha=>?_,by rw [List.length_map]; exact htl,fun H3 σ3 A3 L3' hj3=>?_⟩
     ·rw [List.map_map]; exact E2.g.sH _ _ k1
     ·obtain ⟨w,hw,rfl⟩:=List.mem_map.mp hz
      refine ⟨List.mem_cons_of_mem _ (dJ hw).1,fun e=>nd'.1 (by rw [<- e]; exact (dJ hw).1),w.2,E2.g.sH _ _ (k4 w hw),fun a ha=>⟨List.mem_cons_of_mem _ ((dJ hw).2 a ha),fun e=>nd'.1 (by rw [<- e]; exact (dJ hw).2 a ha),wC nd'.2 w hw a ha⟩⟩
     ·obtain ⟨ws,h1,h2⟩:=hl5 a ha
      exact ⟨ws,E2.g.sH _ _ h1,h2⟩
     ·exact ⟨_,_,rr,L3'.E,e1,q.mono (s1.trans g'.sF)⟩
   ·cases e2
  ·cases e2
end
open PySem PySem.Spec PyProof.Rows L2
structure qE (P:Program) (w:World) (K:PySem.W.Frag) (mg:Str -> Option Value) (base:Heap) (k:Nat) (x:Str) (n:Nat) (d:List T -> Option (List O)):Prop where
 ex:∃ f fd ps,fI P w K mg base mP k f fd ps (Kn K n d) /\ Binds K fd ps [] /\ PySem.W.keepIn K (.ref f)=true /\ mg x=some (.ref f) /\ ps.length=n
section
variable {P:Program} {w:World} {K:PySem.W.Frag} {mg:Str -> Option Value} {base:Heap} {j k n:Nat} {x:Str}
theorem qE.mono {d:List T -> Option (List O)} (D:qE P w K mg base j x n d) (h:j ≤ k):qE P w K mg base k x n d:=by
 obtain ⟨f,fd,ps,F,r⟩:=D.ex
 exact ⟨f,fd,ps,F.mono h,r⟩
theorem qE.plain {d:List T -> Option (List O)} (D:qE P w K mg base k x n d):Def P w K mg base k x n (fun ts=>(d ts).bind fun os=>some (.tup (O.trs os))):=by
 obtain ⟨f,fd,ps,F,r⟩:=D.ex
 refine ⟨f,fd,ps,F.imp fun vs H Q E ⟨l,F,ts,t,a,b,c,q⟩=>?_,r⟩
 obtain ⟨os,e1,e2⟩:=bind_some c
 cases e2
 refine ⟨l,F,ts,os,a,b,e1,fun F' H' x ws A g hF ro nd h0=>?_⟩
 have hn:∀ b ∈ A,F' b=none:=fun b hb=>(ro.at b hb).1
 exact q _ H' _ (g.frzO hn h0) ⟨x,ws,rfl,js.of (bV hn _ _ hF),aU.rep (bV hn) (fun a ha=>cH ha) ro⟩
theorem Ej {qual:Str} {st:Stmt} {f:Addr} {fd:FuncData} {N ps:List Str} {fb:aB -> Option (List O)} (F:fG K x qual st f fd) (S:aS N ps (ax st)) (hb:Binds K fd ps []) (hm:mg x=some (.ref f))
  (h:∀ (cdv:Value) (A:Around) (outer:List Env) (s:Shared) (H:Hp) (E:XK),dq k (A.deeper (envOfC qual (ax st) s.heap.objs.size f cdv)) -> BA (mW mP P w K mg base N qual (ax st) f cdv A outer s H E).nox (dy st) fb) :
  qE P w K mg base (k + 1) x ps.length (uV N.length ps.length fb):=by
 refine ⟨f,fd,ps,F.ok S (fun vs H Q E z=>z.1) (fun cdv A outer s H vs Q E hr z=>?_),hb,F.kp,hm,rfl⟩
 obtain ⟨hl,F1,ts,o,sm,r,e,q⟩:=z
 unfold uV at e
 split at e
 ·next hn =>
  refine ⟨_,h cdv A outer s H E hr F1 H,F1,_,o,?_,e,fun F' H' a ws A g hF ro nd h0=>q F' H' a ws A g hF ro nd h0⟩
  have:=fM (N:=N) sm r
  rw [hn] at this
  exact this
 ·cases e
end
section
variable {X:Cx} {e a b:Expr} {es:List Expr} {pos:Pos} {g:FA} {k n:Nat}
def mY (d:List T -> Option (List O)) (g:FA):Bs:=fun τ=>(g τ).bind fun p=>(d p.1).bind fun o=>some (o,p.2)
theorem Bd {x:Str} {p:Pos} {d:List T -> Option (List O)} (D:qE X.prog X.w X.K X.mg X.base k x n d) (hr:dq k X.A) (hg:Gl X x) (ha:SA X (e :: es) g) (hl:∀ τ ts τ',g τ=some (ts,τ') -> ts.length=n) (hdb:(x == ("__debug__" : Str))=false:=by decide)
  (he:starEach (e :: es) X.env=(false,eval e X.env) :: starEach es X.env:=by rfl) (hpl:(backTo pos (starEach es X.env)).any (·.1)=false:=by rfl):xa X (.Call (.Name x p) (e :: es) [] pos) (mY d g):=by
 obtain ⟨f,fd,ps,F,hb,hk,hm,hn⟩:=D.ex
 intro F₀ H₀
 refine PE.weak (uh (E:=E0) (CX:=mP) F hr hg hm hk hb .nil rL (ha F₀ H₀) hdb he hpl) fun σ H Q h=>?_
 obtain ⟨F,τ,c,τ',E,e1,q⟩:=h
 obtain ⟨⟨z,τ1⟩,e2,e1⟩:=bind_some e1
 have hz:=hl _ _ _ e2
 obtain ⟨u,e4,e1⟩:=bind_some e1
 cases e1
 refine ⟨F,τ,z,_,E,e2,fun F1 H1 vs E1 s1 r1=>⟨by rw [List.append_nil,r1.length]; exact hz,F1,z,c,E1.g.fh,by rw [List.append_nil]; exact r1,e4,fun F3 H3 b ws A g3 hF ro nd h0=>?_⟩⟩
 exact q F3 H3 b ws A (E1.grow g3) (s1.trans g3.sF) hF ro nd (fun a ha=>E1.g.sH.free (h0 a ha)) (oV E1 h0)
def B6 (fa:FE) (fo:gX):Bs:=fun τ=>(fa τ).bind fun p=>(fo p.2).bind fun q=>some ([.val p.1,q.1],q.2)
theorem Be {kk:Nat} {fa:FE} {fo:gX} (ha:SE X a fa) (hb:qC X b fo) (hs:starEach [a,b] X.env=(false,eval a X.env) :: starEach [b] X.env:=by rfl) (hs2:starEach [b] X.env=(false,eval b X.env) :: starEach [] X.env:=by rfl) :
  xa X (.Tuple [a,b] kk pos) (B6 fa fo):=fun F₀ H₀ =>
 PE.weak (uj (cN (ha F₀ H₀) (cN (hb F₀ H₀) fv hs2) hs)) fun σ H Q hq__=>by
  obtain ⟨F,τ,os,τ',E,e1,q⟩:=hq__
  obtain ⟨⟨x,τ1⟩,e2,e1⟩:=bind_some e1
  obtain ⟨⟨o,τ2⟩,e3,e1⟩:=bind_some e1
  cases e1
  refine ⟨F,τ,x,τ1,E,e2,fun F1 H1 v E1 s1 r1=>?_⟩
  refine ⟨F1,τ1,o,τ2,E1,e3,fun F2 H2 v2 A E2 s2 ro nd h0 ap=>⟨bQ (by simp),fun l hl=>?_⟩⟩
  have gr:=br.new (.tup [v,v2]) E2.g.fh hl
  exact q _ _ l [v,v2] A (E2.grow gr) ((s1.trans s2).trans gr.sF) aN ⟨v,[v2],[],A,rfl,rfl,⟨rfl,Rep.mono (s2.trans gr.sF) r1⟩,⟨v2,[],A,[],rfl,by rw [List.append_nil],ro.over gr,rfl,rfl⟩⟩ nd h0 ap
def ma (t:FS) (u:aB -> Option (List O)):aB -> Option (List O):=fun τ=>(t τ).bind fun r=>match r with | .nx τ'=>u τ' | _=>none
theorem gy {st:Stmt} {rest:List Stmt} {t:FS} {u:aB -> Option (List O)} (h1:SS X st t) (h2:BA X rest u):BA X (st :: rest) (ma t u):=fun F₀ H₀=>iQ.weak (cE (h1 F₀ H₀) (h2 F₀ H₀)) fun D σ H hq__=>by
 obtain ⟨F,τ,o,E,e1,q⟩:=hq__
 obtain ⟨x,e2,e1⟩:=bind_some e1
 refine ⟨F,τ,x,E,e2,?_⟩
 cases x with
 | nx τ1=>exact fun F1 H1 σ1 E1 s1=>⟨F1,τ1,o,E1,e1,q⟩
 | rt t=>cases e1
 | bk t=>cases e1
 | ct t=>cases e1
end
theorem HC {K:PySem.W.Frag} {F₀ H₀ F H:Hp} {σ:L2.St} {τ:aB} {A:List Addr} {x:Nat} {t:T} {v:V} (E:aD K F₀ H₀ F H σ τ) (hA:∀ a ∈ A,F a=none) (rp:Rep K (frzO F H A) t v) (hv:σ[x]? = some (some v)):aD K (frzO F H A) H (frzO F H A) H σ ((hide τ).set x (some (.sh t))):=by
 have sF:aJ F (frzO F H A):=bV hA
 have sH:aJ (frzO F H A) H:=fun b u eb=>by
  by_cases m:b ∈ A
  ·rw [cH m] at eb; exact eb
  ·rw [bP m] at eb; exact E.g.fh b u eb
 have all:∀ {j:Nat} {s:Sl},((hide τ).set x (some (.sh t)))[j]? = some (some s) -> (∃ t,s=.sh t) /\ ∃ v,σ[j]? = some (some v) /\ si K H (frzO F H A) H s v:=fun {j s} e=>by
  by_cases hj:x=j
  ·subst hj
   by_cases hl:x < (hide τ).length
   ·rw [List.getElem?_set_self hl] at e; cases e
    exact ⟨⟨_,rfl⟩,_,hv,rp⟩
   ·rw [List.getElem?_eq_none (by simp; omega)] at e; cases e
  ·rw [List.getElem?_set_ne hj] at e
   obtain ⟨e1,t,rfl⟩:=gF e
   obtain ⟨w,k1,k2⟩:=E.sl j _ e1
   exact ⟨⟨t,rfl⟩,w,k1,Rep.mono sF k2⟩
 refine ⟨br.refl sH,by simp [dS,E.len],fun j s e=>(all e).2,fun j k ts ws p _ e1=>?_⟩
 obtain ⟨t,z⟩:=(all e1).1
 cases z
theorem D5 {v w:V}:mS [v,w] 1=some w:=by
 unfold mS tM
 rw [if_pos (by decide),if_pos (by simp),Option.bind_some]
 rfl
def jL:List O -> Bool
 | [_,.lst ro]=>decide (ro.length ≤ 500)
 | _=>false
theorem Ga:∀ {os:List O},jL os=true -> ∃ o row,os=[o,.lst row] /\ row.length ≤ 500
 | [o,.lst row],h=>⟨o,row,rfl,of_decide_eq_true h⟩
 | [],h=>by simp [jL] at h
 | [_],h=>by simp [jL] at h
 | [_,.val _],h=>by simp [jL] at h
 | _ :: .val _ :: _ :: _,h=>by simp [jL] at h
 | _ :: .lst _ :: _ :: _,h=>by simp [jL] at h
def zl (x:Nat) (fo:Bs) (tc:FT):FS:=fun τ=>(fo τ).bind fun p =>
 if jL p.1=true /\ oa x (p.2.set x none)=true then
  (tc ((hide p.2).set x (some (.sh (.tup (O.trs p.1)))))).bind fun q=>if q.1=true then some (.rt (.bl false)) else some (.nx (p.2.set x none))
 else none
section
variable {X:Cx} {x:Nat} {xn:Str} {r1 r2 r3 r4 r5 r6 r7 r8 r9 a1 a2 a3:Pos}
theorem DL {e c:Expr} {fo:Bs} {tc:FT} {body rest:List Stmt} {u:FS} {j0 j1 j2 k7:Nat} (hN:X.N.Nodup) (hi:X.N[x]? = some xn) (hlx:Loc X.env.scope xn) (he:xa X e fo) (hT:ST X c tc) (hb:qZ X body (bN (fC (.bl false)))) (hrest:qZ X rest u) (hx:PE X (.Name xn r1) (fF x))
  (hse:swapsWith e (some (.Name xn a1)) a2.line X.env=pure false:=by rfl) (hf:X.fn xn=true \/ X.env.scope.names.lookup xn=some .local:=by first | exact .inl rfl | exact .inr rfl | assumption)
  (hbase':attributeBase (.Subscript (.Name xn r1) (.Constant (.int 1) j0 r2) r3) "append" X.env (eval (.Subscript (.Name xn r1) (.Constant (.int 1) j0 r2) r3) X.env)=eval (.Subscript (.Name xn r1) (.Constant (.int 1) j0 r2) r3) X.env:=by rfl)
  (hfew':((backTo r8 (starEach [.Tuple [.Constant (.int 1) j1 r5,.Constant (.int 1) j2 r6] k7 r7] X.env)).all (fun x=>!x.1) && (backToKw r8 (keywordEach [] X.env)).all (fun x=>x.1.isSome) && decide ([Expr.Tuple [.Constant (.int 1) j1 r5,.Constant (.int 1) j2 r6] k7 r7].length + ([]:List Keyword).length + (if ([]:List Keyword).isEmpty then 0 else 1) < 30))=true:=by rfl)
  (hline':(r4.endLine == r8.line)=true:=by rfl) (hst':starEach [.Tuple [.Constant (.int 1) j1 r5,.Constant (.int 1) j2 r6] k7 r7] X.env=(false,eval (.Tuple [.Constant (.int 1) j1 r5,.Constant (.int 1) j2 r6] k7 r7) X.env) :: starEach [] X.env:=by rfl) (hpl':(backTo r8 (starEach [] X.env)).any (·.1)=false:=by rfl)
  (hsw':swapsWith (.Call (.Attribute (.Subscript (.Name xn r1) (.Constant (.int 1) j0 r2) r3) "append" r4) [.Tuple [.Constant (.int 1) j1 r5,.Constant (.int 1) j2 r6] k7 r7] [] r8) none r9.line X.env=pure false:=by rfl)
  (hsa:starEach [.Constant (.int 1) j1 r5,.Constant (.int 1) j2 r6] X.env=(false,eval (.Constant (.int 1) j1 r5) X.env) :: starEach [.Constant (.int 1) j2 r6] X.env:=by rfl) (hsb:starEach [.Constant (.int 1) j2 r6] X.env=(false,eval (.Constant (.int 1) j2 r6) X.env) :: starEach [] X.env:=by rfl)
  (hix:lW (.Constant (.int 1) j0 r2):=by intro _ _; rfl) :
  qZ X (.Assign [.Name xn a1] e a2 :: .If c body [] a3 :: .Expr (.Call (.Attribute (.Subscript (.Name xn r1) (.Constant (.int 1) j0 r2) r3) "append" r4) [.Tuple [.Constant (.int 1) j1 r5,.Constant (.int 1) j2 r6] k7 r7] [] r8) r9 :: rest) (bf (zl x fo tc) u):=fun F₀ H₀ =>
 iQ.weak (cE (lJ hN hi hlx (he F₀ H₀) hse hf) (cE (Dh (tc:=fun σ H Q=>∃ F₀ H₀,tT X.K F₀ H₀ tc σ H Q) (fun pins s σ H Q I ⟨F₀,H₀,q⟩=>hT F₀ H₀ pins s σ H Q I q) (hb F₀ H₀) oJ)
  (cE (jh (zM PySem.F.plainAttrs_list PySem.F.slot_list_append PySem.F.type_list_append gx (C8 CA hx lH hix) (cN (uj (cN lH (cN lH fv hsb) hsa)) fv hst') hbase' hfew' hline' hst' hpl') hsw') (hrest F₀ H₀)))) fun D σ H hq__=>by
  obtain ⟨F,τ,rr,E,e1,q⟩:=hq__
  obtain ⟨r1,e2,e1⟩:=bind_some e1
  obtain ⟨⟨os,τ1⟩,e3,e2⟩:=bind_some e2
  split at e2
  ·next hh =>
   obtain ⟨hsh,hx0⟩:=hh
   have hx1:=fU hx0
   dsimp only at e2
   have hxl:x < τ1.length:=by
    have:=(List.getElem?_eq_some_iff.mp hx1).1
    rw [List.length_set] at this
    exact this
   obtain ⟨⟨c0,τ3⟩,e4,e2⟩:=bind_some e2
   refine ⟨F,τ,os,τ1,E,e3,fun F1 H1 a vs A E1 s1 hF ro nd h0 ap=>?_⟩
   have hn:∀ b ∈ A,F1 b=none:=fun b hb=>(ro.at b hb).1
   have L0:fS X.K F₀ H₀ F1 H1 σ (τ1.set x none) A:=by
    refine ⟨E1.drop,ro.at,h0,fun j us p e1 e2=>?_⟩
    refine ap j us p ?_ e2
    by_cases hj:x=j
    ·subst hj
     rw [List.getElem?_set_self hxl] at e1; cases e1
    ·rw [List.getElem?_set_ne hj] at e1; exact e1
   have L1:=L0.setv (v:=.ref a) hx1
   have hσx:(σ.set x (some (.ref a)))[x]? = some (some (.ref a)):=List.getElem?_set_self (by rw [E1.len]; exact hxl)
   have rp:Rep X.K (frzO F1 H1 A) (.tup (O.trs os)) (.ref a):=⟨a,vs,rfl,js.of (bV hn _ _ hF),aU.rep (bV hn) (fun a ha=>cH ha) ro⟩
   have E1':aD X.K (frzO F1 H1 A) H1 (frzO F1 H1 A) H1 (σ.set x (some (.ref a))) ((hide τ1).set x (some (.sh (.tup (O.trs os))))):=by
    have z:=HC L1.E hn rp hσx
    have e:(hide (τ1.set x none)).set x (some (.sh (.tup (O.trs os))))=(hide τ1).set x (some (.sh (.tup (O.trs os)))):=iL
    rw [e] at z
    exact z
   refine ⟨_,_,_,_,c0,τ3,E1',e4,fun F2 H2 E2 s2=>?_⟩
   have g':=lg hn E2.g
   have L2':fS X.K F₀ H₀ (kX F2 A) H2 (σ.set x (some (.ref a))) (τ1.set x none) A:=⟨L1.E.grow g',fun a ha=>⟨h9 ha,by obtain ⟨ws,hw⟩:=(ro.at a ha).2; exact ⟨ws,E2.g.sH _ _ hw⟩⟩,h0,L1.ap⟩
   dsimp only at e2
   cases c0 with
   | true =>
    rw [if_pos rfl] at e2
    show ite (true=true) _ _
    rw [if_pos rfl]
    cases e2
    cases e1
    exact ⟨_,_,_,L2'.E,rfl,q⟩
   | false =>
    rw [if_neg (by decide)] at e2
    show ite (false=true) _ _
    rw [if_neg (by decide)]
    cases e2
    obtain ⟨o1,row,rfl,hrow⟩:=Ga hsh
    obtain ⟨v1,w1,B1,C1,rfl,rfl,k1,k2⟩:=ro
    obtain ⟨v2,w2,B2,C2,rfl,rfl,k3,k4⟩:=k2
    obtain ⟨p,ws,B3,rfl,rfl,k5,k6,k7⟩:=k3
    obtain ⟨rfl,rfl⟩:=k4
    have pA:p ∈ B1 ++ (p :: B3 ++ []):=List.mem_append.mpr (.inr List.mem_cons_self)
    have hF2:H2 a=some (.tup [v1,.ref p]):=E2.g.sH _ _ (E1.g.fh _ _ hF)
    have hp2:H2 p=some (.lst ws):=E2.g.sH _ _ k5
    have hlw:ws.length ≤ 500:=by rw [aU.len k7]; exact hrow
    refine ⟨.ref a,hσx,a,_,1,.ref p,rfl,rfl,js.of hF2,D5,.inl ⟨rfl,ws,dE.of hp2⟩,bQ (by simp),fun l hl0=>?_⟩
    have pl:p ≠ l:=fun e=>by rw [e,hl0] at hp2; cases hp2
    refine ⟨p,ws,.ref l,rfl,rfl,by rw [az pl]; exact hp2,dN (by omega),?_⟩
    exact ⟨_,_,rr,((L2'.new hl0 _).upd pA _).E,e1,q.mono (s1.trans g'.sF)⟩
  ·cases e2
end
open PySem PySem.Spec PyProof.Rows L2
def cX:List Nat -> List Addr -> aB -> Bool
 | [],[],_=>true
 | x :: hs,p :: ps,τ=>mm x p τ && cX hs ps τ
 | _,_,_=>false
theorem nJ {x:Nat} {p:Addr} {τ:aB}:∀ {hs:List Nat} {ps:List Addr},cX hs ps τ=true -> mm x p τ=true -> cX (hs ++ [x]) (ps ++ [p]) τ=true
 | [],[],_,h=>by simp [cX,h]
 | [],_ :: _,h,_=>by simp [cX] at h
 | _ :: _,[],h,_=>by simp [cX] at h
 | y :: hs,q :: ps,h,h'=>by
  rw [cX,Bool.and_eq_true] at h
  show (mm y q τ && cX (hs ++ [x]) (ps ++ [p]) τ)=true
  rw [h.1,nJ h.2 h']
  rfl
section
variable {K:PySem.W.Frag} {F₀ H₀ F H F' H':Hp} {σ σ':L2.St} {τ τ':aB} {A:List Addr}
theorem zD (E:aD K F₀ H₀ F H σ τ) (hA:∀ a ∈ A,F a=none) (ap:Apart σ τ A):aD K F₀ (frzO H₀ H A) F H σ τ:=by
 refine ⟨⟨E.g.sF,fun a o e=>?_,E.g.fh,fun a o e=>?_⟩,E.len,fun i s e=>?_,E.dj⟩
 ·by_cases m:a ∈ A
  ·rw [cH m] at e; exact e
  ·rw [bP m] at e; exact E.g.sH _ _ e
 ·have m:a ∉ A:=fun m=>by rw [hA a m] at e; cases e
  rcases E.g.nw a o e with z | z
  ·exact .inl z
  ·exact .inr (by rw [bP m]; exact z)
 ·obtain ⟨v,h1,h2⟩:=E.sl i s e
  refine ⟨v,h1,?_⟩
  cases s with
  | sh t=>exact h2
  | own ts =>
   obtain ⟨q,vs,rfl,k1,k2,k3,k4⟩:=h2
   exact ⟨q,vs,rfl,k1,k2,by rw [bP (ap i ts q e h1)]; exact k3,k4⟩
theorem yS (sF₀:aJ F₀ F) (lies:∀ a ∈ A,F a=none /\ ∃ vs,H a=some (.lst vs)) (h0:∀ a ∈ A,H₀ a=none) (E':aD K F₀ (frzO H₀ H A) F' H' σ' τ'):aD K F₀ H₀ F' H' σ' τ' /\ (∀ a ∈ A,H' a=H a /\ F' a=none) /\ Apart σ' τ' A:=by
 have out:∀ {a:Addr},frzO H₀ H A a=none -> a ∉ A /\ H₀ a=none:=fun {a} e=>by
  have m:a ∉ A:=fun m=>by
   obtain ⟨vs,k⟩:=(lies a m).2
   rw [cH m,k] at e; cases e
  exact ⟨m,by rw [bP m] at e; exact e⟩
 refine ⟨⟨⟨E'.g.sF,fun a o e=>?_,E'.g.fh,fun a o e=>?_⟩,E'.len,fun i s e=>?_,E'.dj⟩,fun a ha=>?_,fun j us q e1 e2=>?_⟩
 ·have m:a ∉ A:=fun m=>by rw [h0 a m] at e; cases e
  exact E'.g.sH _ _ (by rw [bP m]; exact e)
 ·rcases E'.g.nw a o e with z | z
  ·exact .inl z
  ·exact .inr (out z).2
 ·obtain ⟨v,h1,h2⟩:=E'.sl i s e
  refine ⟨v,h1,?_⟩
  cases s with
  | sh t=>exact h2
  | own ts =>
   obtain ⟨q,vs,rfl,k1,k2,k3,k4⟩:=h2
   exact ⟨q,vs,rfl,k1,k2,(out k3).2,k4⟩
 ·obtain ⟨f1,vs,f2⟩:=lies a ha
  refine ⟨by rw [f2]; exact E'.g.sH _ _ (by rw [cH ha]; exact f2),?_⟩
  cases eF:F' a with
  | none=>rfl
  | some o =>
   rcases E'.g.nw a o eF with z | z
   ·rw [sF₀ _ _ z] at f1; cases f1
   ·exact absurd ha (out z).1
 ·obtain ⟨v,h1,q',vs,rfl,k1,k2,k3,k4⟩:=E'.sl j _ e1
  rw [e2] at h1; cases h1
  exact (out k3).1
end
structure MA (K:PySem.W.Frag) (F₀ H₀ F H:Hp) (σ:L2.St) (τ:aB) (hs:List Nat) (ps:List Addr) (os:List O) (A:List Addr):Prop where
 E:aD K F₀ H₀ F H σ τ
 hp:cX hs ps τ=true
 r:aU K F H os (ps.map V.ref) A
 nd:A.Nodup
 h0:∀ a ∈ A,H₀ a=none
 ap:Apart σ τ A
abbrev FH:=List Addr -> List O -> aB -> Option O
def tH (K:PySem.W.Frag) (F₀ H₀:Hp) (hs:List Nat) (f:FH):TS:=fun D σ H=>∃ F τ ps os A o,MA K F₀ H₀ F H σ τ hs ps os A /\ f ps os τ=some o /\
 ∀ F' H' v A',br F₀ H₀ F' H' -> cQ K F' H' o v A' -> A'.Nodup -> (∀ a ∈ A',H₀ a=none) -> D.rt v H'
def IJ (X:Cx) (hs:List Nat) (ss:List Stmt) (f:FH):Prop:=∀ F₀ H₀,iQ X ss (tH X.K F₀ H₀ hs f)
section
variable {X:Cx} {x:Nat} {e:Expr} {pos:Pos} {hs:List Nat}
theorem Bk {ss:List Stmt} {f:FH} (h:IJ X [] ss f):Jb X ss (f [] []):=fun F₀ H₀=>iQ.weak (h F₀ H₀) fun D σ H ⟨F,τ,o,E,e1,q⟩ =>
 ⟨F,τ,[],[],[],o,⟨E,rfl,⟨rfl,rfl⟩,by simp,(fun _ h=>by cases h),fun _ _ _ _ _ h=>by cases h⟩,e1,q⟩
def AI (hs:List Nat) (t:FS) (g:FH):FH:=fun ps os τ=>(t τ).bind fun r=>match r with
 | .nx τ'=>if cX hs ps τ'=true then g ps os τ' else none
 | _=>none
theorem ql {st:Stmt} {rest:List Stmt} {t:FS} {g:FH} (h1:SS X st t) (h2:IJ X hs rest g):IJ X hs (st :: rest) (AI hs t g):=fun F₀ H₀=>iQ.weak (cE h1.any (h2 F₀ H₀)) fun D σ H hq__=>by
 obtain ⟨F,τ,ps,os,A,o,d,e1,q⟩:=hq__
 obtain ⟨r',e2,e1⟩:=bind_some e1
 cases r' with
 | nx τ' =>
  dsimp only at e1
  split at e1
  ·next hp =>
   refine ⟨F₀,frzO H₀ H A,F,τ,.nx τ',zD d.E (fun a ha=>(d.r.at a ha).1) d.ap,e2,fun F' H' σ' E' s'=>?_⟩
   obtain ⟨b1,b2,b3⟩:=yS d.E.g.sF d.r.at d.h0 E'
   exact ⟨F',τ',ps,os,A,o,⟨b1,hp,aU.move s' b2 d.r,d.nd,d.h0,b3⟩,e1,q⟩
  ·cases e1
 | rt t=>cases e1
 | bk t=>cases e1
 | ct t=>cases e1
def rJ (hs:List Nat) (x:Nat) (fo:gX) (g:FH):FH:=fun ps os τ=>(fo τ).bind fun q=>match q.1 with
 | .lst ro=>if x < q.2.length /\ cX hs ps q.2=true /\ (∀ y ∈ hs,y ≠ x) then wm fun o=>∀ p,g (ps ++ [p]) (os ++ [.lst ro]) (q.2.set x (some (.sh (.ptr p))))=some o else none
 | _=>none
theorem oU {x:Nat} {s:Option Sl} {τ:aB}:∀ {hs:List Nat} {ps:List Addr},(∀ y ∈ hs,y ≠ x) -> cX hs ps τ=true -> cX hs ps (τ.set x s)=true
 | [],[],_,_=>rfl
 | [],_ :: _,_,h=>by simp [cX] at h
 | _ :: _,[],_,h=>by simp [cX] at h
 | y :: hs,q :: ps,n,h=>by
  rw [cX,Bool.and_eq_true] at h ⊢
  refine ⟨lj ?_,oU (fun z hz=>n z (List.mem_cons_of_mem _ hz)) h.2⟩
  rw [List.getElem?_set_ne (Ne.symm (n y List.mem_cons_self))]
  exact vi h.1
theorem qm {xn:Str} {pos':Pos} {fo:gX} {rest:List Stmt} {g:FH} (hN:X.N.Nodup) (hi:X.N[x]? = some xn) (hx:Loc X.env.scope xn) (he:qC X e fo) (hr:IJ X (hs ++ [x]) rest g)
  (hs':swapsWith e (some (.Name xn pos')) pos.line X.env=pure false:=by rfl) (hf:X.fn xn=true \/ X.env.scope.names.lookup xn=some .local:=by first | exact .inl rfl | exact .inr rfl | assumption) :
  IJ X hs (.Assign [.Name xn pos'] e pos :: rest) (rJ hs x fo g):=fun F₀ H₀ =>
 iQ.weak (cE (lJ hN hi hx he.any hs' hf) (hr F₀ H₀)) fun D σ H hq__=>by
  obtain ⟨F,τ,ps,os,A,o,d,e1,qq⟩:=hq__
  obtain ⟨⟨ro,τ1⟩,e2,e1⟩:=bind_some e1
  dsimp only at e1
  split at e1
  ·next ro' =>
   split at e1
   ·next hh =>
    have hP:=yj e1
    refine ⟨F₀,frzO H₀ H A,F,τ,_,τ1,zD d.E (fun a ha=>(d.r.at a ha).1) d.ap,e2,fun F1 H1 v A2 E1 s1 r1 nd2 h02 ap2=>?_⟩
    obtain ⟨b1,b2,b3⟩:=yS d.E.g.sF d.r.at d.h0 E1
    obtain ⟨p,vs,B,rfl,rfl,k1,k2,k3⟩:=id r1
    have out:∀ {a:Addr},a ∈ p :: B -> a ∉ A /\ H₀ a=none:=fun {a} ha=>by
     have z:=h02 a ha
     have m:a ∉ A:=fun m=>by
      obtain ⟨ws,k⟩:=(d.r.at a m).2
      rw [cH m,k] at z; cases z
     exact ⟨m,by rw [bP m] at z; exact z⟩
    refine ⟨F1,_,ps ++ [p],os ++ [.lst ro'],A ++ (p :: B),o,⟨b1.set (t:=.ptr p) (v:=.ref p) rfl,nJ (oU hh.2.2 hh.2.1) (lj (List.getElem?_set_self hh.1)),?_,?_,?_,?_⟩,hP p,qq⟩
    ·rw [List.map_append]
     exact aU.snoc r1 (aU.move s1 b2 d.r)
    ·exact List.nodup_append.mpr ⟨d.nd,nd2,fun a ha b hb z=>(out hb).1 (by rw [<- z]; exact ha)⟩
    ·intro a ha
     rcases List.mem_append.mp ha with ha | ha
     ·exact d.h0 a ha
     ·exact (out ha).2
    ·intro j us b e5 e6 hb
     by_cases hj:x=j
     ·subst hj
      rw [List.getElem?_set_self hh.1] at e5; cases e5
     ·rw [List.getElem?_set_ne hj] at e5 e6
      rcases List.mem_append.mp hb with hb | hb
      ·exact b3 j us b e5 e6 hb
      ·exact ap2 j us b e5 e6 hb
   ·cases e1
  ·cases e1
theorem um {K:PySem.W.Frag} {F₀ H₀ F H:Hp} {σ:L2.St} {τ:aB} {p:Addr} (E:aD K F₀ H₀ F H σ τ) (h:mm x p τ=true):σ[x]? = some (some (.ref p)):=by
 obtain ⟨v,h1,h2⟩:=E.sl x _ (vi h)
 rw [h1]
 cases (show v=V.ref p from h2)
 rfl
def Cr (fo:gX):FH:=fun ps os τ=>match ps with
 | [_,_,_]=>(fo τ).bind fun q=>if (os ++ [q.1]).length ≤ sizeLine then some (.lst (os ++ [q.1])) else none
 | _=>none
theorem DI {x1 x2 x3:Nat} {n1 n2 n3:Str} {p1 p2 p3 p4:Pos} {fo:gX} (h1:PE X (.Name n1 p1) (fF x1)) (h2:PE X (.Name n2 p2) (fF x2)) (h3:PE X (.Name n3 p3) (fF x3)) (he:qC X e fo)
  (s1:starEach [.Name n1 p1,.Name n2 p2,.Name n3 p3,e] X.env=(false,eval (.Name n1 p1) X.env) :: starEach [.Name n2 p2,.Name n3 p3,e] X.env:=by rfl) (s2:starEach [.Name n2 p2,.Name n3 p3,e] X.env=(false,eval (.Name n2 p2) X.env) :: starEach [.Name n3 p3,e] X.env:=by rfl)
  (s3:starEach [.Name n3 p3,e] X.env=(false,eval (.Name n3 p3) X.env) :: starEach [e] X.env:=by rfl) (s4:starEach [e] X.env=(false,eval e X.env) :: starEach [] X.env:=by rfl) :
  IJ X [x1,x2,x3] [.Return (some (.List [.Name n1 p1,.Name n2 p2,.Name n3 p3,e] p4)) pos] (Cr fo):=fun F₀ H₀ =>
 iQ.weak (eH (pV (ui (cN h1 (cN h2 (cN h3 (cN he.any fv s4) s3) s2) s1)))) fun D σ H hq__=>by
  obtain ⟨F,τ,ps,os,A,o,d,e1,qq⟩:=hq__
  unfold Cr at e1
  split at e1
  ·next a b c =>
   obtain ⟨⟨ro,τ1⟩,e2,e1⟩:=bind_some e1
   dsimp only at e1
   split at e1
   ·next hl =>
    cases e1
    have hp:=d.hp
    simp only [cX,Bool.and_true,Bool.and_eq_true] at hp
    refine ⟨.ref a,um d.E hp.1,.ref b,um d.E hp.2.1,.ref c,um d.E hp.2.2,F₀,frzO H₀ H A,F,τ,ro,τ1,zD d.E (fun a ha=>(d.r.at a ha).1) d.ap,e2,fun F1 H1 v A2 E1 s1' r1 nd2 h02 ap2=>?_⟩
    obtain ⟨b1,b2,b3⟩:=yS d.E.g.sF d.r.at d.h0 E1
    have all:=aU.snoc r1 (aU.move s1' b2 d.r)
    have hlen:=aU.len all
    have out:∀ {a:Addr},a ∈ A2 -> a ∉ A /\ H₀ a=none:=fun {a} ha=>by
     have z:=h02 a ha
     have m:a ∉ A:=fun m=>by
      obtain ⟨ws,k⟩:=(d.r.at a m).2
      rw [cH m,k] at z; cases z
     exact ⟨m,by rw [bP m] at z; exact z⟩
    refine ⟨by show ([V.ref a,V.ref b,V.ref c,v]:List V).length ≤ sizeLine; exact bQ (by simp),fun l hl0=>?_⟩
    have nl:∀ z ∈ A ++ A2,z ≠ l:=fun z hz w=>by
     obtain ⟨_,ws,hw⟩:=all.at z hz
     rw [w,hl0] at hw; cases hw
    refine qq F1 _ _ (l :: (A ++ A2)) ⟨b1.g.sF,b1.g.sH.trans (bW hl0),b1.g.fh.trans (bW hl0),b1.g.nw⟩ ⟨l,_,A ++ A2,rfl,rfl,aN,b1.g.fh.free hl0,aU.move (aJ.refl _) (fun z hz=>⟨az (nl z hz),(all.at z hz).1⟩) all⟩ ?_ ?_
    ·exact List.nodup_cons.mpr ⟨fun m=>nl l m rfl,List.nodup_append.mpr ⟨d.nd,nd2,fun a ha b hb z=>(out hb).1 (by rw [<- z]; exact ha)⟩⟩
    ·intro z hz
     rcases List.mem_cons.mp hz with rfl | hz
     ·exact b1.g.sH.free hl0
     ·rcases List.mem_append.mp hz with hz | hz
      ·exact d.h0 z hz
      ·exact (out hz).2
   ·cases e1
  ·cases e1
end
open PySem PySem.Spec PyProof.Rows L2
theorem Fi {X:Cx} {a:Expr} {p pos:Pos} {ta:TA} {elts:List Expr} {kx:Nat} {px:Pos} (hg:Gl X "enumerate") (hm:X.mg "enumerate" = none) (ha:PA X [a] ta) (hs:starEach [a] X.env=[(false,eval a X.env)]:=by rfl) :
  PI X (.Tuple elts kx px) (.Call (.Name "enumerate" p) [a] [] pos) (fun σ H R=>ta σ H fun vs H1=>∃ l xs,vs=[.ref l] /\ dE X.K H1 l xs /\ R (K9 X.K l) H1):=by
 intro pins s σ H R I h
 refine Call_ (ll I hg hm (show bootBuiltins "enumerate" = some (.type "enumerate") from rfl) (PyProof.Rows.callWith_type1 (df (ha pos pins s σ H (fun vs H'=>∃ l xs,vs=[.ref l] /\ dE X.K H' l xs /\ R (K9 X.K l) H') I h) fun vs s1 ⟨ws',H1,I1,r1,q1⟩=>?_) hs rfl))
 obtain ⟨l,xs,rfl,h1,q1⟩:=q1
 obtain ⟨u,rfl,ru⟩:=r1.one
 cases ru
 obtain ⟨its,_,p1⟩:=jo (b:=true) I1 h1
 refine call_enumerate_list p1 fun h' a1 a2 a3 kp=>wpAny_pyIter_enum (s:={ s1 with heap:=h' }) a1 ?_
 have J:Inv X pins σ H1 { s1 with heap:=h' }:=I1.kept (t':=s1.toks) kp
 refine ⟨_,[_,_],_,_,H1,rfl,J,Bm (e:=s1.heap.objs.size + 1) (it:=s1.heap.objs.size) (l:=l) ?_,⟨⟨_,a1⟩,a2⟩,fun b hb=>?_,q1⟩
 ·refine (?_:@Ne Nat _ _); omega
 ·have hb':s1.heap.objs.size ≤ b:=by
   simp only [List.mem_cons,List.not_mem_nil,or_false] at hb
   rcases hb with rfl | rfl
   ·exact Nat.le_succ _
   ·exact Nat.le_refl _
  exact I1.fpOk hb' (I1.hok.fresh hb')
def isQ:T -> Bool
 | .tup [.int _,.int _]=>true
 | _=>false
theorem vd {φ:T -> T}:∀ (us:List T) (i:Nat) (h:i < us.length),((us.map φ).take i ++ us.drop i).set i (φ us[i])=(us.map φ).take (i + 1) ++ us.drop (i + 1)
 | [],i,h=>by simp at h
 | u :: us,0,h=>by simp
 | u :: us,i + 1,h=>by
  have z:=vd (φ:=φ) us i (by simpa using h)
  simpa using z
theorem C0 {τ:aB} {j:Nat} (h:τ[j]? = some none):τ.set j none=τ:=by
 refine List.ext_getElem? fun k=>?_
 by_cases hk:j=k
 ·subst hk
  rw [List.getElem?_set_self (List.getElem?_eq_some_iff.mp h).1,h]
 ·rw [List.getElem?_set_ne hk]
theorem fS.sub {K:PySem.W.Frag} {F₀ H₀ F H:Hp} {σ:L2.St} {τ:aB} {A B:List Addr} (D:fS K F₀ H₀ F H σ τ A) (h:∀ a ∈ B,a ∈ A):fS K F₀ H₀ F H σ τ B:=⟨D.E,fun a ha=>D.lies a (h a ha),fun a ha=>D.h0 a (h a ha),fun j us p e1 e2 m=>D.ap j us p e1 e2 (h p m)⟩
theorem EB {n i:Nat} (h:i < n):tM n (i:Int)=some i:=by
 unfold tM
 rw [if_pos (by omega),if_pos (by omega),Int.toNat_natCast]
section
variable {X:Cx} {r pl nu:Nat} {rn pn nn:Str} {t1 t2 px e1 e2 e3 e4 e5 b1 b2 b3 b4 pos:Pos} {E:Expr} {fE:FE} {φ:T -> T}
theorem A4 {kx:Nat} (hp:PassesOwn (model X.prog X.w) X.A X.env X.xe) (hc:X.calm=true) (hN:X.N.Nodup) (hip:X.N[pl]? = some pn) (hlp:Loc X.env.scope pn) (hin:X.N[nu]? = some nn) (hln:Loc X.env.scope nn) (hge:Gl X "enumerate") (hme:X.mg "enumerate" = none) (hgl:Gl X "list") (hml:X.mg "list" = none)
  (hr:PE X (.Name rn e3) (fF r)) (hr':PE X (.Name rn b1) (fF r)) (hpl:PE X (.Name pn b2) (fF pl)) (hE:SE X E fE) (hφ:∀ τ n,isQ n=true -> τ[nu]? = some (some (.sh n)) -> fE τ=some (φ n,τ)) (hrp:r ≠ pl) (hrn:r ≠ nu) (hpn:pl ≠ nu)
  (hfp:X.fn pn=true \/ X.env.scope.names.lookup pn=some .local:=by first | exact .inl rfl | exact .inr rfl | assumption) (hfn:X.fn nn=true \/ X.env.scope.names.lookup nn=some .local:=by first | exact .inl rfl | exact .inr rfl | assumption)
  (hn2:(assignEach [.Name pn t1,.Name nn t2] X.env).length=2:=by rfl) (hst:(assignEach [.Name pn t1,.Name nn t2] X.env).findIdx? (·.1)=none:=by rfl)
  (hs1:starEach [.Call (.Name "list" e2) [.Name rn e3] [] e4] X.env=[(false,eval (.Call (.Name "list" e2) [.Name rn e3] [] e4) X.env)]:=by rfl) (hs1':starEach [.Call (.Name "list" e2) [.Name rn e3] [] e4] X.env=(false,eval (.Call (.Name "list" e2) [.Name rn e3] [] e4) X.env) :: starEach [] X.env:=by rfl)
  (hs2:starEach [.Name rn e3] X.env=(false,eval (.Name rn e3) X.env) :: starEach [] X.env:=by rfl) (hpl2:(backTo e4 (starEach [] X.env)).any (·.1)=false:=by rfl)
  (ha:∀ u,assign (.Subscript (.Name rn b1) (.Name pn b2) b3) X.env u=(do
   let ov <- holding [u] (eval (.Name rn b1) X.env)
   let iv <- holding [u,ov] (eval (.Name pn b2) X.env)
   standAt b3
   holding [u,ov,iv] (setItem ov iv u)
   release [u,ov,iv] []):=by intro _; rfl)
  (hsw:swapsWithSole [.Subscript (.Name rn b1) (.Name pn b2) b3] E b4.line X.env=pure false:=by rfl) (hsw2:swappedStores [.Subscript (.Name rn b1) (.Name pn b2) b3] E X.env=pure none:=by rfl)
  (has:(assignEach [.Subscript (.Name rn b1) (.Name pn b2) b3] X.env).map (·.2)=[assign (.Subscript (.Name rn b1) (.Name pn b2) b3) X.env]:=by rfl)
  (hfs:∀ x,foldedSetIterable (.Call (.Name "enumerate" e1) [.Call (.Name "list" e2) [.Name rn e3] [] e4] [] e5) X.env x=pure x:=by intro _; rfl) :
  PS X (.For (.Tuple [.Name pn t1,.Name nn t2] kx px) (.Call (.Name "enumerate" e1) [.Call (.Name "list" e2) [.Name rn e3] [] e4] [] e5) [.Assign [.Subscript (.Name rn b1) (.Name pn b2) b3] E b4] [] pos)
   (fun D σ H=>∃ (F₀ H₀ F:Hp) (τ:aB) (A:List Addr) (a:Addr) (vs:List V) (us:List T),fS X.K F₀ H₀ F H σ τ A /\ a ∈ A /\ τ[pl]? = some none /\ τ[nu]? = some none /\ σ[r]? = some (some (.ref a)) /\ H a=some (.lst vs) /\ aQ X.K F us vs /\ us.all isQ=true /\
    ∀ F' H' σ' vs',fS X.K F₀ H₀ F' H' σ' τ A -> aJ F F' -> H' a=some (.lst vs') -> aQ X.K F' (us.map φ) vs' -> (∀ b ∈ A,b ≠ a -> H' b=H b) -> (∀ j,j ≠ pl -> j ≠ nu -> σ'[j]? = σ[j]?) -> D.nx σ' H'):=
 PS.weak (lI hp hc (Fi hge hme (cN (kv ja hgl hml (show bootBuiltins "list" = some (.type "list") from rfl) (cN hr fv hs2) (by decide) (by decide) hs2 hpl2) fv hs1') hs1) (Dc (n:=2) hc (pU (ic hN hip hlp hfp) (pU (ic hN hin hln hfn) zO)) hn2 hst)
  (eH (yl hE.any (C9 hr' hpl set_list ha) hsw hsw2 has)) hfs) fun D σ H h=>by
  obtain ⟨F₀,H₀,F,τ,A,a,vs,us,L,aA,hτp,hτn,hσ,hH,hR,hQ,k⟩:=h
  have hul:vs.length=us.length:=hR.length
  refine ⟨.ref a,hσ,a,vs,rfl,.inl (dE.of hH),fun l hl0=>?_⟩
  have al:a ≠ l:=fun e=>by rw [e,hl0] at hH; cases hH
  have lA:l ∉ A:=fun m=>by
   obtain ⟨_,ws,e⟩:=L.lies l m
   rw [hl0] at e; cases e
  refine ⟨l,vs,rfl,dE.of aN,fun i m σ1 H1=>m=us.length - i /\ i ≤ us.length /\ ∃ F1 vs1,fS X.K F₀ H₀ F1 H1 σ1 τ (l :: A) /\ aJ F F1 /\ H1 l=some (.lst vs) /\ H1 a=some (.lst vs1) /\ aQ X.K F1 ((us.map φ).take i ++ us.drop i) vs1 /\ (∀ b ∈ A,b ≠ a -> H1 b=H b) /\ ∀ j,j ≠ pl -> j ≠ nu -> σ1[j]? = σ[j]?,
   ⟨_,rfl,Nat.zero_le _,F,vs,L.add hl0 vs,aJ.refl _,aN,by rw [az al]; exact hH,by simpa using hR,fun b hb _=>az (fun e=>lA (by rw [<- e]; exact hb)),fun _ _ _=>rfl⟩,?_⟩
  rintro i m σ1 H1 ⟨rfl,hi,F1,vs1,L1,s1,zv,ha1,hR1,hA1,hj⟩
  by_cases hlt:i < us.length
  ·have gi:vs[i]? = some (vs[i]'(by omega)):=List.getElem?_eq_getElem (by omega)
   refine .inr ⟨⟨_,_,dE.of zv,gi⟩,fun σ' H'=>∃ F1 vs1,fS X.K F₀ H₀ F1 H' σ' τ (l :: A) /\ aJ F F1 /\ H' l=some (.lst vs) /\ H' a=some (.lst vs1) /\ aQ X.K F1 ((us.map φ).take (i + 1) ++ us.drop (i + 1)) vs1 /\ (∀ b ∈ A,b ≠ a -> H' b=H b) /\ ∀ j,j ≠ pl -> j ≠ nu -> σ'[j]? = σ[j]?,fun σ' H' n=>⟨_,by omega,rfl,hlt,n⟩,fun v H2 z=>?_⟩
   obtain ⟨p,x,rfl,hp0,rfl,y⟩:=z
   have hx:=y _ (dE.of zv)
   obtain ⟨v0,g0,rx⟩:=hR.get (List.getElem?_eq_getElem hlt)
   rw [hx] at g0
   cases g0
   have hq:isQ us[i]=true:=List.all_eq_true.mp hQ _ (List.getElem_mem hlt)
   have L2':=(((L1.new hp0 (.tup [.int i,x])).setv (v:=.int i) hτp).put (y:=nu) (Rep.mono s1 rx))
   have hσl:σ1.length=τ.length:=L1.E.len
   have hpl':pl < σ1.length:=by rw [hσl]; exact (List.getElem?_eq_some_iff.mp hτp).1
   have hnl:nu < τ.length:=(List.getElem?_eq_some_iff.mp hτn).1
   refine ⟨p,[.int i,x],rfl,js.of aN,rfl,.int i,[x],rfl,x,[],rfl,rfl,?_⟩
   have τn:(τ.set nu (some (.sh us[i])))[nu]? = some (some (.sh us[i])):=List.getElem?_set_self hnl
   refine ⟨F₀,frzO H₀ (L2.upd H1 p (.tup [.int i,x])) (l :: A),F1,τ.set nu (some (.sh us[i])),φ us[i],_,zD L2'.E (fun a ha=>(L2'.lies a ha).1) L2'.ap,hφ _ _ hq τn,fun F3 H3 w E3 s3 r3=>?_⟩
   obtain ⟨c1,c2,c3⟩:=yS L2'.E.g.sF L2'.lies L2'.h0 E3
   have L3:fS X.K F₀ H₀ F3 H3 ((σ1.set pl (some (.int i))).set nu (some x)) τ (l :: A):=by
    have d:=c1.drop (i:=nu)
    rw [List.set_set,C0 hτn] at d
    refine ⟨d,fun b hb=>⟨(c2 b hb).2,by rw [(c2 b hb).1]; exact (L2'.lies b hb).2⟩,L2'.h0,fun j ws q e1 e2=>?_⟩
    refine c3 j ws q ?_ e2
    rw [List.getElem?_set_ne (fun e=>by rw [<- e,hτn] at e1; cases e1)]
    exact e1
   have aR:a ∈ l :: A:=List.mem_cons_of_mem _ aA
   have pa:a ≠ p:=fun e=>by rw [e,hp0] at ha1; cases ha1
   have ha3:H3 a=some (.lst vs1):=by rw [(c2 a aR).1,az pa]; exact ha1
   have hσr:((σ1.set pl (some (.int i))).set nu (some x))[r]? = some (some (.ref a)):=by
    rw [List.getElem?_set_ne (Ne.symm hrn),List.getElem?_set_ne (Ne.symm hrp),hj r hrp hrn]; exact hσ
   have hσp:((σ1.set pl (some (.int i))).set nu (some x))[pl]? = some (some (.int i)):=by
    rw [List.getElem?_set_ne (Ne.symm hpn)]; exact List.getElem?_set_self hpl'
   have hl1':vs1.length=us.length:=by
    rw [hR1.length]; simp; omega
   refine ⟨.ref a,hσr,.int i,hσp,a,vs1,i,i,rfl,rfl,ha3,EB (by omega),F3,vs1.set i w,L3.upd aR _,s1.trans s3,?_,aN,?_,fun b hb nb=>?_,fun j n1 n2=>?_⟩
   ·rw [az (Ne.symm al),(c2 l List.mem_cons_self).1,az (fun e:l=p=>by rw [e,hp0] at zv; cases zv)]; exact zv
   ·have z:=(aQ.mono s3 hR1).put i r3
    rw [vd us i hlt] at z
    exact z
   ·rw [az nb,(c2 b (List.mem_cons_of_mem _ hb)).1,az (fun e:b=p=>by
     obtain ⟨_,ws,hw⟩:=L1.lies b (List.mem_cons_of_mem _ hb)
     rw [e,hp0] at hw; cases hw)]
    exact hA1 b hb nb
   ·rw [List.getElem?_set_ne (Ne.symm n2),List.getElem?_set_ne (Ne.symm n1)]; exact hj j n1 n2
  ·have he:i=us.length:=by omega
   subst he
   refine .inl ⟨⟨_,dE.of zv,by omega⟩,k F1 H1 σ1 vs1 (L1.sub fun b hb=>List.mem_cons_of_mem _ hb) s1 ha1 ?_ hA1 hj⟩
   rw [List.take_of_length_le (by simp),List.drop_length,List.append_nil] at hR1
   exact hR1
end
open PySem PySem.Spec PyProof.Rows L2
def jA (K:PySem.W.Frag) (F H:Hp) (z:Addr × List T):Prop:=∃ vs,H z.1=some (.lst vs) /\ aQ K F z.2 vs
theorem jA.keep {K:PySem.W.Frag} {F H F' H':Hp} {z:Addr × List T} (h:jA K F H z) (s:aJ F F') (e:H' z.1=H z.1):jA K F' H' z:=by
 obtain ⟨vs,h1,h2⟩:=h
 exact ⟨vs,by rw [e]; exact h1,aQ.mono s h2⟩
section
variable {X:Cx} {r t x pl nu:Nat} {rn tn xn pn nn:Str} {t1 t2 px e1 e2 e3 e4 e5 b1 b2 b3 b4 pos c1 c2 cpos:Pos} {E:Expr} {φ:T -> T} {kx:Nat}
def FY (X:Cx) (r pl nu:Nat) (φ:T -> T):TS:=fun D σ H=>∃ (F₀ H₀ F:Hp) (τ:aB) (A:List Addr) (a:Addr) (vs:List V) (us:List T),fS X.K F₀ H₀ F H σ τ A /\ a ∈ A /\ τ[pl]? = some none /\ τ[nu]? = some none /\ σ[r]? = some (some (.ref a)) /\ H a=some (.lst vs) /\ aQ X.K F us vs /\ us.all isQ=true /\
    ∀ F' H' σ' vs',fS X.K F₀ H₀ F' H' σ' τ A -> aJ F F' -> H' a=some (.lst vs') -> aQ X.K F' (us.map φ) vs' -> (∀ b ∈ A,b ≠ a -> H' b=H b) -> (∀ j,j ≠ pl -> j ≠ nu -> σ'[j]? = σ[j]?) -> D.nx σ' H'
def rS (X:Cx) (t r pl nu:Nat) (φ:T -> T):TS:=fun D σ H=>∃ (F₀ H₀ F:Hp) (τ:aB) (A:List Addr) (q:Addr) (rows:List (Addr × List T)),fS X.K F₀ H₀ F H σ τ A /\ (τ[r]? = some none /\ τ[pl]? = some none /\ τ[nu]? = some none) /\ σ[t]? = some (some (.ref q)) /\ H q=some (.lst (rows.map fun z=>V.ref z.1)) /\ q ∈ A /\ (∀ z ∈ rows,z.1 ∈ A /\ z.1 ≠ q /\ jA X.K F H z /\ z.2.all isQ=true) /\ (rows.map (·.1)).Nodup /\
    ∀ F' H' σ',fS X.K F₀ H₀ F' H' σ' τ A -> aJ F F' -> (∀ z ∈ rows,jA X.K F' H' (z.1,z.2.map φ)) -> (∀ b ∈ A,b ∉ rows.map (·.1) -> H' b=H b) -> (∀ j,j ≠ r -> j ≠ pl -> j ≠ nu -> σ'[j]? = σ[j]?) -> D.nx σ' H'
theorem wo {body:Stmt} (hp:PassesOwn (model X.prog X.w) X.A X.env X.xe) (hc:X.calm=true) (hg:PG X (.Name rn c1) (mi r)) (ht:PE X (.Name tn c2) (fF t)) (hb:PS X body (FY X r pl nu φ)) (hrt:t ≠ r) (htp:t ≠ pl) (htn:t ≠ nu) (hrp:r ≠ pl) (hrn:r ≠ nu)
  (hs:∀ x,foldedSetIterable (.Name tn c2) X.env x=pure x:=by intro _; rfl):PS X (.For (.Name rn c1) (.Name tn c2) [body] [] cpos) (rS X t r pl nu φ):=
 PS.weak (lI hp hc (mD ht) hg (eH hb) hs) fun D σ H h=>by
  obtain ⟨F₀,H₀,F,τ,A,q,rows,L,⟨hτr,hτp,hτn⟩,hσ,hq,qA,hrow,hnd,k⟩:=h
  refine ⟨.ref q,hσ,q,rfl,⟨_,dE.of hq⟩,fun i m σ1 H1=>m=rows.length - i /\ i ≤ rows.length /\ ∃ F1,fS X.K F₀ H₀ F1 H1 σ1 τ A /\ aJ F F1 /\ H1 q=some (.lst (rows.map fun z=>V.ref z.1)) /\ (∀ z ∈ rows.take i,jA X.K F1 H1 (z.1,z.2.map φ)) /\ (∀ z ∈ rows.drop i,jA X.K F1 H1 z) /\ (∀ b ∈ A,b ∉ rows.map (·.1) -> H1 b=H b) /\ ∀ j,j ≠ r -> j ≠ pl -> j ≠ nu -> σ1[j]? = σ[j]?,
   ⟨_,rfl,Nat.zero_le _,F,L,aJ.refl _,hq,by simp,fun z hz=>(hrow z (List.mem_of_mem_drop hz)).2.2.1,fun _ _ _=>rfl,fun _ _ _ _=>rfl⟩,?_⟩
  rintro i m σ1 H1 ⟨rfl,hi,F1,L1,s1,hq1,htk,hdr,hA1,hj⟩
  by_cases hlt:i < rows.length
  ·have gi:(rows.map fun z=>V.ref z.1)[i]? = some (.ref rows[i].1):=by rw [List.getElem?_map,List.getElem?_eq_getElem hlt]; rfl
   have hd:rows.drop i=rows[i] :: rows.drop (i + 1):=List.drop_eq_getElem_cons hlt
   have hmem:rows[i] ∈ rows:=List.getElem_mem hlt
   have hsp:rows=rows.take i ++ rows[i] :: rows.drop (i + 1):=by rw [<- hd,List.take_append_drop]
   have hnd':(rows.take i ++ rows[i] :: rows.drop (i + 1)).Pairwise (fun a b=>a.1 ≠ b.1):=by
    rw [<- hsp]
    exact List.pairwise_map.mp hnd
   rw [hd] at hdr
   refine .inr ⟨⟨_,_,dE.of hq1,gi⟩,fun σ' H'=>∃ F1,fS X.K F₀ H₀ F1 H' σ' τ A /\ aJ F F1 /\ H' q=some (.lst (rows.map fun z=>V.ref z.1)) /\ (∀ z ∈ rows.take (i + 1),jA X.K F1 H' (z.1,z.2.map φ)) /\ (∀ z ∈ rows.drop (i + 1),jA X.K F1 H' z) /\ (∀ b ∈ A,b ∉ rows.map (·.1) -> H' b=H b) /\ ∀ j,j ≠ r -> j ≠ pl -> j ≠ nu -> σ'[j]? = σ[j]?,fun σ' H' n=>⟨_,by omega,rfl,hlt,n⟩,fun v H2 z=>?_⟩
   obtain ⟨rfl,y⟩:=z
   have hv:=y _ (dE.of hq1)
   rw [gi] at hv
   cases hv
   have ht1:rows.take (i + 1)=rows.take i ++ [rows[i]]:=by rw [List.take_succ,List.getElem?_eq_getElem hlt]; rfl
   rw [ht1]
   generalize rows[i]=z at *
   obtain ⟨zA,zq,_,zQ⟩:=hrow z hmem
   obtain ⟨vs,hz,hR⟩:=hdr z List.mem_cons_self
   have L2':=L1.setv (v:=.ref z.1) hτr
   have hrl:r < σ1.length:=by
    rw [L1.E.len]
    exact (List.getElem?_eq_some_iff.mp hτr).1
   have g1:(σ1.set r (some (.ref z.1)))[r]? = some (some (.ref z.1)):=List.getElem?_set_self hrl
   have dt:∀ w ∈ rows.take i,w.1 ≠ z.1:=fun w hw=>(List.pairwise_append.mp hnd').2.2 w hw z List.mem_cons_self
   have dd:∀ w ∈ rows.drop (i + 1),w.1 ≠ z.1:=fun w hw e=>(List.pairwise_cons.mp (List.pairwise_append.mp hnd').2.1).1 w hw e.symm
   refine ⟨F₀,H₀,F1,τ,A,z.1,vs,z.2,L2',zA,hτp,hτn,g1,hz,hR,zQ,fun F3 H3 σ3 vs3 L3 s3 h3 r3 hA3 hj3=>?_⟩
   refine ⟨F3,L3,s1.trans s3,by rw [hA3 q qA (Ne.symm zq)]; exact hq1,fun w hw=>?_,fun w hw=>?_,fun b hb nb=>?_,fun j n1 n2 n3=>?_⟩
   ·rcases List.mem_append.mp hw with hw | hw
    ·exact (htk w hw).keep s3 (hA3 w.1 (hrow w (List.mem_of_mem_take hw)).1 (dt w hw))
    ·rw [List.mem_singleton.mp hw]
     exact ⟨vs3,h3,r3⟩
   ·exact (hdr w (List.mem_cons_of_mem _ hw)).keep s3 (hA3 w.1 (hrow w (List.mem_of_mem_drop hw)).1 (dd w hw))
   ·rw [hA3 b hb (fun e=>nb (by rw [e]; exact List.mem_map.mpr ⟨z,hmem,rfl⟩))]; exact hA1 b hb nb
   ·rw [hj3 j n2 n3,List.getElem?_set_ne (Ne.symm n1)]; exact hj j n1 n2 n3
  ·have he:i=rows.length:=by omega
   subst he
   refine .inl ⟨⟨_,dE.of hq1,by rw [List.length_map]; exact Nat.le_refl _⟩,k F1 H1 σ1 L1 s1 (fun z hz=>htk z (by rw [List.take_length]; exact hz)) hA1 hj⟩
def fu (tabs:List (Addr × List (Addr × List T))):List Addr:=tabs.flatMap fun z=>z.1 :: z.2.map (·.1)
theorem gw {tabs:List (Addr × List (Addr × List T))} {z:Addr × List (Addr × List T)} (h:z ∈ tabs):z.1 ∈ fu tabs /\ ∀ w ∈ z.2,w.1 ∈ fu tabs:=⟨List.mem_flatMap.mpr ⟨z,h,List.mem_cons_self⟩,fun w hw=>List.mem_flatMap.mpr ⟨z,h,List.mem_cons_of_mem _ (List.mem_map.mpr ⟨w,hw,rfl⟩)⟩⟩
def TabAt (K:PySem.W.Frag) (F H:Hp) (z:Addr × List (Addr × List T)):Prop:=H z.1=some (.lst (z.2.map fun w=>V.ref w.1)) /\ ∀ w ∈ z.2,jA K F H w
def gm (φ:T -> T) (z:Addr × List (Addr × List T)):Addr × List (Addr × List T):=(z.1,z.2.map fun w=>(w.1,w.2.map φ))
theorem TabAt.keep {K:PySem.W.Frag} {F H F' H':Hp} {z:Addr × List (Addr × List T)} (h:TabAt K F H z) (s:aJ F F') (e1:H' z.1=H z.1) (e:∀ w ∈ z.2,H' w.1=H w.1):TabAt K F' H' z:=⟨by rw [e1]; exact h.1,fun w hw=>(h.2 w hw).keep s (e w hw)⟩
def rT (X:Cx) (x t r pl nu:Nat) (φ:T -> T):TS:=fun D σ H=>∃ (F₀ H₀ F:Hp) (τ:aB) (A:List Addr) (p:Addr) (tabs:List (Addr × List (Addr × List T))),fS X.K F₀ H₀ F H σ τ A /\ (τ[t]? = some none /\ τ[r]? = some none /\ τ[pl]? = some none /\ τ[nu]? = some none) /\ σ[x]? = some (some (.ref p)) /\ H p=some (.lst (tabs.map fun z=>V.ref z.1)) /\ A=p :: fu tabs /\ (p :: fu tabs).Nodup /\ (∀ z ∈ tabs,TabAt X.K F H z /\ ∀ w ∈ z.2,w.2.all isQ=true) /\
    ∀ F' H' σ',fS X.K F₀ H₀ F' H' σ' τ A -> aJ F F' -> H' p=H p -> (∀ z ∈ tabs,TabAt X.K F' H' (gm φ z)) -> (∀ j,j ≠ t -> j ≠ r -> j ≠ pl -> j ≠ nu -> σ'[j]? = σ[j]?) -> D.nx σ' H'
theorem wq {body:Stmt} {d1 d2 dpos:Pos} (hp:PassesOwn (model X.prog X.w) X.A X.env X.xe) (hc:X.calm=true) (hg:PG X (.Name tn d1) (mi t)) (hx:PE X (.Name xn d2) (fF x)) (hb:PS X body (rS X t r pl nu φ)) (hxt:x ≠ t) (hxr:x ≠ r) (hxp:x ≠ pl) (hxn:x ≠ nu)
  (hs:∀ x,foldedSetIterable (.Name xn d2) X.env x=pure x:=by intro _; rfl):PS X (.For (.Name tn d1) (.Name xn d2) [body] [] dpos) (rT X x t r pl nu φ):=
 PS.weak (lI hp hc (mD hx) hg (eH hb) hs) fun D σ H h=>by
  obtain ⟨F₀,H₀,F,τ,A,p,tabs,L,⟨hτt,hτr,hτp,hτn⟩,hσ,hq,rfl,hnd,htab,k⟩:=h
  have pout:p ∉ fu tabs:=(List.nodup_cons.mp hnd).1
  refine ⟨.ref p,hσ,p,rfl,⟨_,dE.of hq⟩,fun i m σ1 H1=>m=tabs.length - i /\ i ≤ tabs.length /\ ∃ F1,fS X.K F₀ H₀ F1 H1 σ1 τ (p :: fu tabs) /\ aJ F F1 /\ H1 p=H p /\ (∀ z ∈ tabs.take i,TabAt X.K F1 H1 (gm φ z)) /\ (∀ z ∈ tabs.drop i,TabAt X.K F1 H1 z) /\ ∀ j,j ≠ t -> j ≠ r -> j ≠ pl -> j ≠ nu -> σ1[j]? = σ[j]?,
   ⟨_,rfl,Nat.zero_le _,F,L,aJ.refl _,rfl,by simp,fun z hz=>(htab z (List.mem_of_mem_drop hz)).1,fun _ _ _ _ _=>rfl⟩,?_⟩
  rintro i m σ1 H1 ⟨rfl,hi,F1,L1,s1,hp1,htk,hdr,hj⟩
  have hq1:H1 p=some (.lst (tabs.map fun z=>V.ref z.1)):=by rw [hp1]; exact hq
  by_cases hlt:i < tabs.length
  ·have gi:(tabs.map fun z=>V.ref z.1)[i]? = some (.ref tabs[i].1):=by rw [List.getElem?_map,List.getElem?_eq_getElem hlt]; rfl
   have hd:tabs.drop i=tabs[i] :: tabs.drop (i + 1):=List.drop_eq_getElem_cons hlt
   have hmem:tabs[i] ∈ tabs:=List.getElem_mem hlt
   have hsp:tabs=tabs.take i ++ tabs[i] :: tabs.drop (i + 1):=by rw [<- hd,List.take_append_drop]
   have ht1:tabs.take (i + 1)=tabs.take i ++ [tabs[i]]:=by rw [List.take_succ,List.getElem?_eq_getElem hlt]; rfl
   rw [hd] at hdr
   refine .inr ⟨⟨_,_,dE.of hq1,gi⟩,fun σ' H'=>∃ F1,fS X.K F₀ H₀ F1 H' σ' τ (p :: fu tabs) /\ aJ F F1 /\ H' p=H p /\ (∀ z ∈ tabs.take (i + 1),TabAt X.K F1 H' (gm φ z)) /\ (∀ z ∈ tabs.drop (i + 1),TabAt X.K F1 H' z) /\ ∀ j,j ≠ t -> j ≠ r -> j ≠ pl -> j ≠ nu -> σ'[j]? = σ[j]?,fun σ' H' n=>⟨_,by omega,rfl,hlt,n⟩,fun v H2 z=>?_⟩
   obtain ⟨rfl,y⟩:=z
   have hv:=y _ (dE.of hq1)
   rw [gi] at hv
   cases hv
   rw [ht1]
   have fsp:fu tabs=fu (tabs.take i) ++ ((tabs[i].1 :: tabs[i].2.map (·.1)) ++ fu (tabs.drop (i + 1))):=by
    have e:=congrArg fu hsp
    rw [e]
    unfold fu
    rw [List.flatMap_append,List.flatMap_cons]
   have nds:=(List.nodup_cons.mp hnd).2
   rw [fsp] at nds
   generalize tabs[i]=z at *
   obtain ⟨n1,n2,n3⟩:=List.nodup_append.mp nds
   obtain ⟨n4,n5,n6⟩:=List.nodup_append.mp n2
   have nz:=List.nodup_cons.mp n4
   have L2':=L1.setv (v:=.ref z.1) hτt
   have htl:t < σ1.length:=by
    rw [L1.E.len]
    exact (List.getElem?_eq_some_iff.mp hτt).1
   have g1:(σ1.set t (some (.ref z.1)))[t]? = some (some (.ref z.1)):=List.getElem?_set_self htl
   have hz:=hdr z List.mem_cons_self
   have mA:=gw hmem
   refine ⟨F₀,H₀,F1,τ,p :: fu tabs,z.1,z.2,L2',⟨hτr,hτp,hτn⟩,g1,hz.1,List.mem_cons_of_mem _ mA.1,fun w hw=>⟨List.mem_cons_of_mem _ (mA.2 w hw),fun e=>nz.1 (by rw [<- e]; exact List.mem_map.mpr ⟨w,hw,rfl⟩),hz.2 w hw,(htab z hmem).2 w hw⟩,nz.2,fun F3 H3 σ3 L3 s3 h3 hA3 hj3=>?_⟩
   have same:∀ b,b ∈ p :: fu tabs -> b ∉ z.2.map (·.1) -> H3 b=H2 b:=hA3
   refine ⟨F3,L3,s1.trans s3,?_,fun y' hy=>?_,fun y' hy=>?_,fun j m1 m2 m3 m4=>?_⟩
   ·rw [same p List.mem_cons_self (fun m=>by
     obtain ⟨w,hw,e⟩:=List.mem_map.mp m
     exact pout (by rw [<- e]; exact mA.2 w hw))]
    exact hp1
   ·rcases List.mem_append.mp hy with hy | hy
    ·have my:=gw (List.mem_of_mem_take hy)
     have my':=gw hy
     refine (htk y' hy).keep s3 (same y'.1 (List.mem_cons_of_mem _ my.1) fun m=>n3 y'.1 my'.1 y'.1 (List.mem_append.mpr (.inl (List.mem_cons_of_mem _ m))) rfl) fun w hw=>?_
     obtain ⟨w',hw',rfl⟩:=List.mem_map.mp hw
     exact same w'.1 (List.mem_cons_of_mem _ (my.2 w' hw')) fun m=>n3 w'.1 (my'.2 w' hw') w'.1 (List.mem_append.mpr (.inl (List.mem_cons_of_mem _ m))) rfl
    ·rw [List.mem_singleton.mp hy]
     refine ⟨?_,fun w hw=>?_⟩
     ·show H3 z.1=_
      rw [same z.1 (List.mem_cons_of_mem _ mA.1) nz.1,hz.1]
      unfold gm
      rw [List.map_map]
      rfl
     ·obtain ⟨w',hw',rfl⟩:=List.mem_map.mp hw
      exact h3 w' hw'
   ·have my:=gw (List.mem_of_mem_drop hy)
    have my':=gw hy
    refine (hdr y' (List.mem_cons_of_mem _ hy)).keep s3 (same y'.1 (List.mem_cons_of_mem _ my.1) fun m=>n6 y'.1 (List.mem_cons_of_mem _ m) y'.1 my'.1 rfl) fun w hw=>?_
    exact same w.1 (List.mem_cons_of_mem _ (my.2 w hw)) fun m=>n6 w.1 (List.mem_cons_of_mem _ m) w.1 (my'.2 w hw) rfl
   ·rw [hj3 j m2 m3 m4,List.getElem?_set_ne (Ne.symm m1)]; exact hj j m1 m2 m3 m4
  ·have he:i=tabs.length:=by omega
   subst he
   exact .inl ⟨⟨_,dE.of hq1,by rw [List.length_map]; exact Nat.le_refl _⟩,k F1 H1 σ1 L1 s1 hp1 (fun z hz=>htk z (by rw [List.take_length]; exact hz)) hj⟩
end
open PySem PySem.Spec PyProof.Rows L2
def kA (w:Addr × List T):T:=.lst w.2
def jr (z:Addr × List (Addr × List T)):T:=.lst (z.2.map kA)
def Cc (φ:T -> T):T -> T
 | .lst us=>.lst (us.map φ)
 | t=>t
def nO (φ:T -> T):T -> T
 | .lst rs=>.lst (rs.map (Cc φ))
 | t=>t
def Cd (φ:T -> T):T -> T
 | .lst ts=>.lst (ts.map (nO φ))
 | t=>t
def Ig:T -> Bool
 | .lst us=>us.all isQ
 | _=>false
def ym:T -> Bool
 | .lst rs=>rs.all Ig
 | _=>false
def Ki:T -> Bool
 | .lst ts=>ts.all ym
 | _=>false
theorem xB {φ:T -> T} (z:Addr × List (Addr × List T)):nO φ (jr z)=jr (gm φ z):=by
 show T.lst ((z.2.map kA).map (Cc φ))=T.lst ((z.2.map fun w=>(w.1,w.2.map φ)).map kA)
 rw [List.map_map,List.map_map]
 rfl
section
variable {K:PySem.W.Frag} {F H:Hp}
theorem zR:∀ {rs:List O} {vs:List V} {B:List Addr},rs.all jK=true -> aU K F H rs vs B -> ∃ rows:List (Addr × List T),O.trs rs=rows.map kA /\ vs=(rows.map fun w=>V.ref w.1) /\ B=rows.map (·.1) /\ ∀ w ∈ rows,jA K F H w
 | [],vs,B,_,h=>by obtain ⟨rfl,rfl⟩:=h; exact ⟨[],rfl,rfl,rfl,fun _ h=>by cases h⟩
 | .val t :: rs,vs,B,e,h=>by simp [jK] at e
 | .lst ro :: rs,vs,B,e,h=>by
  rw [List.all_cons,Bool.and_eq_true] at e
  obtain ⟨v,w,B1,C,rfl,rfl,h1,h2⟩:=h
  obtain ⟨p,us,B2,rfl,rfl,k1,k2,k3⟩:=h1
  obtain ⟨rfl,k4⟩:=aU.plain (show iV ro=true from e.1) k3
  obtain ⟨rows,e1,rfl,rfl,e4⟩:=zR e.2 h2
  refine ⟨(p,O.trs ro) :: rows,by rw [O.trs,e1]; rfl,rfl,rfl,fun y hy=>?_⟩
  rcases List.mem_cons.mp hy with rfl | hy
  ·exact ⟨us,k1,k4⟩
  ·exact e4 y hy
theorem Ae:∀ {os:List O} {vs:List V} {B:List Addr},os.all eh=true -> aU K F H os vs B -> ∃ tabs:List (Addr × List (Addr × List T)),O.trs os=tabs.map jr /\ vs=(tabs.map fun z=>V.ref z.1) /\ B=fu tabs /\ ∀ z ∈ tabs,TabAt K F H z
 | [],vs,B,_,h=>by obtain ⟨rfl,rfl⟩:=h; exact ⟨[],rfl,rfl,rfl,fun _ h=>by cases h⟩
 | .val t :: rs,vs,B,e,h=>by simp [eh] at e
 | .lst rs :: os,vs,B,e,h=>by
  rw [List.all_cons,Bool.and_eq_true] at e
  obtain ⟨v,w,B1,C,rfl,rfl,h1,h2⟩:=h
  obtain ⟨p,us,B2,rfl,rfl,k1,k2,k3⟩:=h1
  obtain ⟨rows,r1,rfl,rfl,r4⟩:=zR (show rs.all jK=true from e.1) k3
  obtain ⟨tabs,e1,rfl,rfl,e4⟩:=Ae e.2 h2
  refine ⟨(p,rows) :: tabs,by rw [O.trs,e1,O.tr,r1]; rfl,rfl,rfl,fun y hy=>?_⟩
  rcases List.mem_cons.mp hy with rfl | hy
  ·exact ⟨k1,r4⟩
  ·exact e4 y hy
theorem rO:∀ {rows:List (Addr × List T)} {G:Hp},(∀ w ∈ rows,∃ vs,G w.1=some (.lst vs) /\ aQ K G w.2 vs) -> aQ K G (rows.map kA) (rows.map fun w=>V.ref w.1)
 | [],_,_=>rfl
 | w :: rows,G,h=>by
  obtain ⟨vs,h1,h2⟩:=h w List.mem_cons_self
  exact ⟨.ref w.1,_,rfl,⟨w.1,vs,rfl,h1,h2⟩,rO fun y hy=>h y (List.mem_cons_of_mem _ hy)⟩
theorem rP:∀ {tabs:List (Addr × List (Addr × List T))} {G:Hp},(∀ z ∈ tabs,G z.1=some (.lst (z.2.map fun w=>V.ref w.1)) /\ ∀ w ∈ z.2,∃ vs,G w.1=some (.lst vs) /\ aQ K G w.2 vs) -> aQ K G (tabs.map jr) (tabs.map fun z=>V.ref z.1)
 | [],_,_=>rfl
 | z :: tabs,G,h=>by
  obtain ⟨h1,h2⟩:=h z List.mem_cons_self
  exact ⟨.ref z.1,_,rfl,⟨z.1,_,rfl,h1,rO h2⟩,rP fun y hy=>h y (List.mem_cons_of_mem _ hy)⟩
end
def B5 (x t r pl nu:Nat) (fo:gX) (tc:FT) (φ:T -> T):FS:=fun τ=>(fo τ).bind fun p =>
 if mr p.1=true /\ oa x (p.2.set x none)=true /\ oa t (p.2.set x none)=true /\ oa r (p.2.set x none)=true /\ oa pl (p.2.set x none)=true /\ oa nu (p.2.set x none)=true then
  (tc ((hide p.2).set x (some (.sh p.1.tr)))).bind fun q=>if q.1=true then (if Ki p.1.tr=true then some (.rt (Cd φ p.1.tr)) else none) else some (.rt p.1.tr)
 else none
section
variable {X:Cx} {r t x pl nu:Nat} {xn:Str} {a1 a2 a3 f1 f2:Pos}
theorem DJ {e c:Expr} {fo:gX} {tc:FT} {φ:T -> T} {loop:Stmt} (hN:X.N.Nodup) (hi:X.N[x]? = some xn) (hlx:Loc X.env.scope xn) (he:qC X e fo) (hT:ST X c tc) (hL:PS X loop (rT X x t r pl nu φ)) (hx:PE X (.Name xn f1) (fF x)) (hxt:x ≠ t) (hxr:x ≠ r) (hxp:x ≠ pl) (hxn:x ≠ nu)
  (hse:swapsWith e (some (.Name xn a1)) a2.line X.env=pure false:=by rfl) (hf:X.fn xn=true \/ X.env.scope.names.lookup xn=some .local:=by first | exact .inl rfl | exact .inr rfl | assumption) :
  qZ X [.Assign [.Name xn a1] e a2,.If c [loop] [] a3,.Return (some (.Name xn f1)) f2] (B5 x t r pl nu fo tc φ):=fun F₀ H₀ =>
 iQ.weak (cE (lJ hN hi hlx (he F₀ H₀) hse hf) (cE (Dh (tc:=fun σ H Q=>∃ F₀ H₀,tT X.K F₀ H₀ tc σ H Q) (fun pins s σ H Q I ⟨F₀,H₀,q⟩=>hT F₀ H₀ pins s σ H Q I q) (eH hL) oJ) (eH (pV hx)))) fun D σ H hq__=>by
  obtain ⟨F,τ,rr,E,e1,q⟩:=hq__
  obtain ⟨⟨o,τ1⟩,e3,e1⟩:=bind_some e1
  split at e1
  ·next hh =>
   obtain ⟨hsh,hx0,ht0,hr0,hp0,hn0⟩:=hh
   have hx1:=fU hx0
   have ht1:=fU ht0
   have hr1:=fU hr0
   have hp1:=fU hp0
   have hn1:=fU hn0
   dsimp only at e1 hx1 ht1 hr1 hp1 hn1
   have hxl:x < τ1.length:=by
    have:=(List.getElem?_eq_some_iff.mp hx1).1
    rw [List.length_set] at this
    exact this
   obtain ⟨⟨c0,τ3⟩,e4,e1⟩:=bind_some e1
   refine ⟨F,τ,o,τ1,E,e3,fun F1 H1 v A E1 s1 ro nd h0 ap=>?_⟩
   have L0:fS X.K F₀ H₀ F1 H1 σ (τ1.set x none) A:=fS.of E1 ro h0 ap
   have L1:=L0.setv (v:=v) hx1
   have hσx:(σ.set x (some v))[x]? = some (some v):=List.getElem?_set_self (by rw [E1.len]; exact hxl)
   have E1':aD X.K (frzO F1 H1 A) H1 (frzO F1 H1 A) H1 (σ.set x (some v)) ((hide τ1).set x (some (.sh o.tr))):=by
    have z:=CM L1.E ro hσx
    have e:(hide (τ1.set x none)).set x (some (.sh o.tr))=(hide τ1).set x (some (.sh o.tr)):=iL
    rw [e] at z
    exact z
   refine ⟨_,_,_,_,c0,τ3,E1',e4,fun F2 H2 E2 s2=>?_⟩
   have hA:∀ a ∈ A,F1 a=none:=fun a ha=>(ro.at a ha).1
   have g':=lg hA E2.g
   have L2':fS X.K F₀ H₀ (kX F2 A) H2 (σ.set x (some v)) (τ1.set x none) A:=⟨L1.E.grow g',fun a ha=>⟨h9 ha,by obtain ⟨ws,hw⟩:=(ro.at a ha).2; exact ⟨ws,E2.g.sH _ _ hw⟩⟩,h0,L1.ap⟩
   have ro2:cQ X.K (kX F2 A) H2 o v A:=cQ.over g' ro
   dsimp only at e1
   cases c0 with
   | false =>
    rw [if_neg (by decide)] at e1
    cases e1
    show ite (false=true) _ _
    rw [if_neg (by decide)]
    exact ⟨v,hσx,q _ H2 v (L2'.E.g.frzO (fun a ha=>h9 ha) h0) ro2.frz⟩
   | true =>
    rw [if_pos rfl] at e1
    show ite (true=true) _ _
    rw [if_pos rfl]
    split at e1
    ·next hq =>
     cases e1
     cases o with
     | val _=>simp [mr] at hsh
     | lst os =>
      obtain ⟨p,vs,B,rfl,rfl,k1,k2,k3⟩:=ro2
      obtain ⟨tabs,w1,rfl,rfl,w4⟩:=Ae (show os.all eh=true from hsh) k3
      have hq':∀ z ∈ tabs,∀ w ∈ z.2,w.2.all isQ=true:=fun z hz w hw=>by
       rw [O.tr,w1] at hq
       have hq2:=List.all_eq_true.mp (show (tabs.map jr).all ym=true from hq) _ (List.mem_map.mpr ⟨z,hz,rfl⟩)
       exact List.all_eq_true.mp (show (z.2.map kA).all Ig=true from hq2) _ (List.mem_map.mpr ⟨w,hw,rfl⟩)
      refine ⟨F₀,H₀,_,_,_,p,tabs,L2',⟨ht1,hr1,hp1,hn1⟩,hσx,k1,rfl,nd,fun z hz=>⟨w4 z hz,hq' z hz⟩,fun F3 H3 σ3 L3 s3 hp3 h3 hj3=>?_⟩
      have hσ3:σ3[x]? = some (some (.ref p)):=by rw [hj3 x hxt hxr hxp hxn]; exact hσx
      have fin:∀ {a:Addr},a ∈ p :: fu tabs -> frzO F3 H3 (p :: fu tabs) a=H3 a:=fun ha=>cH ha
      have sF:aJ F3 (frzO F3 H3 (p :: fu tabs)):=bV fun a ha=>(L3.lies a ha).1
      refine ⟨.ref p,hσ3,q _ H3 _ (L3.E.g.frzO (fun a ha=>(L3.lies a ha).1) h0) ?_⟩
      have et:Cd φ (O.lst os).tr=.lst ((tabs.map (gm φ)).map jr):=by
       rw [O.tr,w1]
       show T.lst ((tabs.map jr).map (nO φ))=_
       rw [List.map_map,List.map_map]
       exact congrArg T.lst (List.map_congr_left fun z _=>xB z)
      rw [et]
      refine ⟨p,(tabs.map fun z=>V.ref z.1),rfl,by rw [fin List.mem_cons_self,hp3]; exact k1,?_⟩
      have z:=rP (K:=X.K) (G:=frzO F3 H3 (p :: fu tabs)) (tabs:=tabs.map (gm φ)) fun y hy=>by
       obtain ⟨y',hy',rfl⟩:=List.mem_map.mp hy
       have m:=gw hy'
       refine ⟨by rw [show (gm φ y').1=y'.1 from rfl,fin (List.mem_cons_of_mem _ m.1)]; exact (h3 y' hy').1,fun w hw=>?_⟩
       obtain ⟨ws,j1,j2⟩:=(h3 y' hy').2 w hw
       obtain ⟨w',hw',rfl⟩:=List.mem_map.mp hw
       exact ⟨ws,by rw [show ((w'.1,w'.2.map φ):Addr × List T).1=w'.1 from rfl,fin (List.mem_cons_of_mem _ (m.2 w' hw'))]; exact j1,aQ.mono sF j2⟩
      have ev:((tabs.map (gm φ)).map fun z=>V.ref z.1)=tabs.map fun z=>V.ref z.1:=by rw [List.map_map]; rfl
      rw [ev] at z
      exact z
    ·cases e1
  ·cases e1
end
open PySem PySem.Spec PyProof.Rows L2
def phi:T -> T
 | .tup [.int a,.int _]=>.tup [.int ((if a < 0 then -a else a).fmod 2),.int 1]
 | t=>t
theorem Ht:∀ {n:T},isQ n=true -> ∃ a b,n=.tup [.int a,.int b]
 | .tup [.int a,.int b],_=>⟨a,b,rfl⟩
 | .tup [],h=>by simp [isQ] at h
 | .tup [_],h=>by simp [isQ] at h
 | .tup (_ :: _ :: _ :: _),h=>by simp [isQ] at h
 | .tup [.non,_],h | .tup [.bl _,_],h | .tup [.str _,_],h | .tup [.ty _,_],h | .tup [.tup _,_],h | .tup [.lst _,_],h | .tup [.scr _,_],h | .tup [.dic,_],h | .tup [.obj _ _ _,_],h | .tup [.ptr _,_],h | .tup [.exc _,_],h=>by simp [isQ] at h
 | .tup [.int _,.non],h | .tup [.int _,.bl _],h | .tup [.int _,.str _],h | .tup [.int _,.ty _],h | .tup [.int _,.tup _],h | .tup [.int _,.lst _],h | .tup [.int _,.scr _],h | .tup [.int _,.dic],h | .tup [.int _,.obj _ _ _],h | .tup [.int _,.ptr _],h | .tup [.int _,.exc _],h=>by simp [isQ] at h
 | .non,h | .bl _,h | .int _,h | .str _,h | .ty _,h | .lst _,h | .scr _,h | .dic,h | .obj _ _ _,h | .ptr _,h | .exc _,h=>by simp [isQ] at h
theorem Lw {nu:Nat}:∀ (τ:aB) (n:T),isQ n=true -> τ[nu]? = some (some (.sh n)) -> (ir (aa (aH cV (ai mX (aa (aH cn (ae nu) (fC (.int 0))) aj)) (fC (.int 2))) (aa (fC (.int 1)) aj))) τ=some (phi n,τ):=fun τ n hn hτ=>by
 obtain ⟨a,b,rfl⟩:=Ht hn
 have hv:ae nu τ=some (.tup [.int a,.int b],τ):=by
  unfold ae
  rw [hτ]
 have h0:aH cn (ae nu) (fC (.int 0)) τ=some (.int a,τ):=by
  unfold aH
  rw [hv]
  rfl
 have h1:ai mX (aa (aH cn (ae nu) (fC (.int 0))) aj) τ=some (.int (if a < 0 then -a else a),τ):=by
  unfold ai aa
  rw [h0]
  rfl
 have h2:aH cV (ai mX (aa (aH cn (ae nu) (fC (.int 0))) aj)) (fC (.int 2)) τ=some (.int ((if a < 0 then -a else a).fmod 2),τ):=by
  show (ai mX (aa (aH cn (ae nu) (fC (.int 0))) aj) τ).bind _=_
  rw [h1]
  rfl
 unfold ir
 have h3:aa (aH cV (ai mX (aa (aH cn (ae nu) (fC (.int 0))) aj)) (fC (.int 2))) (aa (fC (.int 1)) aj) τ=some ([.int ((if a < 0 then -a else a).fmod 2),.int 1],τ):=by
  show (aH cV _ _ τ).bind _=_
  rw [h2]
  rfl
 rw [h3]
 have hl:([.int ((if a < 0 then -a else a).fmod 2),.int 1]:List T).length ≤ sizeLine:=bQ (by rw [List.length_cons,List.length_cons,List.length_nil]; omega)
 rw [Option.bind_some]
 exact if_pos hl
end TM
namespace Qm
abbrev iF (a b:Int):Prop:=Int.gcd a b=1
theorem sD {a b:Int} (h:Nat.Coprime a.natAbs b.natAbs):iF a b:=h
theorem iF.symm {a b:Int} (h:iF a b):iF b a:=by unfold iF; rw [Int.gcd_comm]; exact h
theorem iF.mulL {a b c:Int} (h:iF a c) (h':iF b c):iF (a * b) c:=sD (by rw [Int.natAbs_mul]; exact Nat.Coprime.mul_left h h')
theorem iF.mulR {a b c:Int} (h:iF c a) (h':iF c b):iF c (a * b):=sD (by rw [Int.natAbs_mul]; exact Nat.Coprime.mul_right h h')
theorem iF.dvdL {a b c:Int} (h:iF b c) (d:a ∣ b):iF a c:=sD (Nat.Coprime.coprime_dvd_left (Int.natAbs_dvd_natAbs.mpr d) h)
theorem iF.dvdR {a b c:Int} (h:iF c b) (d:a ∣ b):iF c a:=sD (Nat.Coprime.coprime_dvd_right (Int.natAbs_dvd_natAbs.mpr d) h)
theorem iF.addL {a b c:Int} (h:iF a c):iF (a + b * c) c:=by unfold iF; rw [Int.gcd_add_mul_right_left]; exact h
theorem split {a b:Int} (h:b ≠ 0):∃ x y:Int,a=(Int.gcd a b:Int) * x /\ b=(Int.gcd a b:Int) * y /\ iF x y /\ (Int.gcd a b:Int) ≠ 0:=by
 have hg:(Int.gcd a b:Int) ≠ 0:=by
  intro z
  have:Int.gcd a b=0:=by omega
  rw [Int.gcd_eq_zero_iff] at this
  exact h this.2
 obtain ⟨x,hx⟩:=Int.gcd_dvd_left a b
 obtain ⟨y,hy⟩:=Int.gcd_dvd_right a b
 refine ⟨x,y,hx,hy,?_,hg⟩
 have e:Int.gcd a b=Int.gcd a b * Int.gcd x y:=by
  have:=Int.gcd_mul_left (Int.gcd a b:Int) x y
  rw [<- hx,<- hy] at this
  simpa using this
 have hp:0 < Int.gcd a b:=by omega
 have:=Nat.eq_of_mul_eq_mul_left hp (show Int.gcd a b * Int.gcd x y=Int.gcd a b * 1 by omega)
 exact this
theorem eG {a g x:Int} (h:a=g * x) (hg:g ≠ 0):a.fdiv g=x:=by rw [h]; exact Int.mul_fdiv_cancel_left x hg
theorem HW {a b c d:Int} (hb:0 < b) (hd:0 < d) (h1:iF a b) (h2:iF c d) (s top low:Int) (es:s=Int.gcd b d) (et:top=a * d.fdiv s + c * b.fdiv s) (el:low=Int.gcd top s) :
  top.fdiv low=(a * d + c * b).fdiv (Int.gcd (a * d + c * b) (b * d)) /\ b.fdiv s * d.fdiv low=(b * d).fdiv (Int.gcd (a * d + c * b) (b * d)) /\ s ≠ 0 /\ low ≠ 0:=by
 obtain ⟨x,y,hx,hy,hc,hs⟩:=split (a:=b) (b:=d) (by omega)
 rw [<- es] at hx hy hs
 have ex:b.fdiv s=x:=eG hx hs
 have ey:d.fdiv s=y:=eG hy hs
 rw [ex,ey] at et
 have cx:iF top x:=by
  have q1:iF (a * y) x:=iF.mulL (h1.dvdR ⟨s,by rw [hx,Int.mul_comm]⟩) hc.symm
  have q2:=q1.addL (b:=c)
  rw [<- et] at q2
  exact q2
 have cy:iF top y:=by
  have q1:iF (c * x) y:=iF.mulL (h2.dvdR ⟨s,by rw [hy,Int.mul_comm]⟩) hc
  have q2:=q1.addL (b:=a)
  rw [Int.add_comm,<- et] at q2
  exact q2
 obtain ⟨u,v,hu,hv,_,hl⟩:=split (a:=top) (b:=s) hs
 rw [<- el] at hu hv hl
 have e1:a * d + c * b=s * top:=by
  rw [et]
  calc a * d + c * b=a * (s * y) + c * (s * x):=by rw [<- hx,<- hy]
   _=s * (a * y + c * x):=by rw [Int.mul_add,Int.mul_left_comm,Int.mul_left_comm c]
 have e2:b * d=s * (x * (y * s)):=by
  calc b * d=(s * x) * (s * y):=by rw [<- hx,<- hy]
   _=s * (x * (y * s)):=by rw [Int.mul_assoc,Int.mul_comm y s]
 have sp:0 ≤ s:=by rw [es]; omega
 have lp:0 ≤ low:=by rw [el]; omega
 have eg:((Int.gcd (a * d + c * b) (b * d):Nat):Int)=s * low:=by
  rw [e1,e2,Int.gcd_mul_left]
  have k1:Int.gcd top (x * (y * s))=Int.gcd top s:=by
   show Nat.gcd top.natAbs (x * (y * s)).natAbs=Nat.gcd top.natAbs s.natAbs
   rw [Int.natAbs_mul,Int.natAbs_mul,Nat.Coprime.gcd_mul_left_cancel_right _ (Nat.Coprime.symm cx),Nat.Coprime.gcd_mul_left_cancel_right _ (Nat.Coprime.symm cy)]
  rw [k1,el]
  push_cast
  rw [Int.natAbs_of_nonneg sp]
 have hsl:s * low ≠ 0:=Int.mul_ne_zero hs hl
 have tl:top.fdiv low=u:=eG hu hl
 have dl:d.fdiv low=v * y:=eG (by rw [hy,hv,Int.mul_assoc]) hl
 refine ⟨?_,?_,hs,hl⟩
 ·rw [eg,tl,e1]
  exact (eG (by rw [Int.mul_assoc,<- hu]) hsl).symm
 ·rw [eg,ex,dl,e2]
  refine (eG ?_ hsl).symm
  calc s * (x * (y * s))=s * (x * (y * (low * v))):=by rw [<- hv]
   _=s * low * (x * (v * y)):=by
    rw [Int.mul_assoc s low]
    congr 1
    rw [Int.mul_left_comm y low v,Int.mul_left_comm x low,Int.mul_comm y v]
theorem F9 {a b c d:Int} (hb:0 < b) (hd:0 < d) (h1:iF a b) (h2:iF c d) (l r:Int) (el:l=Int.gcd a d) (er:r=Int.gcd c b) :
  a.fdiv l * c.fdiv r=(a * c).fdiv (Int.gcd (a * c) (b * d)) /\ b.fdiv r * d.fdiv l=(b * d).fdiv (Int.gcd (a * c) (b * d)) /\ l ≠ 0 /\ r ≠ 0:=by
 obtain ⟨a',d',ha,hd',c1,hl⟩:=split (a:=a) (b:=d) (by omega)
 obtain ⟨c',b',hc,hb',c2,hr⟩:=split (a:=c) (b:=b) (by omega)
 rw [<- el] at ha hd' hl
 rw [<- er] at hc hb' hr
 have k:iF (a' * c') (b' * d'):=by
  have ab:iF a' b':=(h1.dvdL ⟨l,by rw [Int.mul_comm]; exact ha⟩).dvdR ⟨r,by rw [Int.mul_comm]; exact hb'⟩
  have cd:iF c' d':=(h2.dvdL ⟨r,by rw [Int.mul_comm]; exact hc⟩).dvdR ⟨l,by rw [Int.mul_comm]; exact hd'⟩
  exact iF.mulR (iF.mulL ab c2) (iF.mulL c1 cd)
 have e1:a * c=l * r * (a' * c'):=by
  calc a * c=(l * a') * (r * c'):=by rw [<- ha,<- hc]
   _=l * r * (a' * c'):=by rw [Int.mul_assoc,Int.mul_left_comm a' r c',Int.mul_assoc]
 have e2:b * d=l * r * (b' * d'):=by
  calc b * d=(r * b') * (l * d'):=by rw [<- hb',<- hd']
   _=l * r * (b' * d'):=by rw [Int.mul_assoc,Int.mul_left_comm b' l d',<- Int.mul_assoc,Int.mul_comm r l]
 have lp:0 ≤ l:=by rw [el]; omega
 have rp:0 ≤ r:=by rw [er]; omega
 have eg:((Int.gcd (a * c) (b * d):Nat):Int)=l * r:=by
  rw [e1,e2,Int.gcd_mul_left,k]
  push_cast
  rw [Int.mul_one,Int.natAbs_of_nonneg (Int.mul_nonneg lp rp)]
 have hlr:l * r ≠ 0:=Int.mul_ne_zero hl hr
 refine ⟨?_,?_,hl,hr⟩
 ·rw [eg,eG ha hl,eG hc hr]
  exact (eG e1 hlr).symm
 ·rw [eg,eG hb' hr,eG hd' hl]
  exact (eG e2 hlr).symm
end Qm
namespace Rq
def DD (k:Nat):Nat:=27720 ^ k
theorem eK (k:Nat):0 < DD k:=Nat.pow_pos (by decide)
theorem oR (k j:Nat):DD (k + j)=DD k * DD j:=Nat.pow_add _ _ _
def Lq (k m:Nat) (q:Rat):Prop:=∃ n:Int,q=Rat.divInt n (DD k:Int) /\ n.natAbs ≤ m * DD k
theorem Lq.zero (k:Nat):Lq k 0 0:=⟨0,by rw [Rat.zero_divInt],by simp⟩
theorem uY (k:Nat):((DD k:Nat):Int) ≠ 0:=by have:=eK k; omega
theorem Lq.add {k m m':Nat} {x y:Rat} (hx:Lq k m x) (hy:Lq k m' y):Lq k (m + m') (x + y):=by
 obtain ⟨a,rfl,ha⟩:=hx
 obtain ⟨b,rfl,hb⟩:=hy
 refine ⟨a + b,?_,?_⟩
 ·rw [Rat.divInt_add_divInt _ _ (uY k) (uY k),<- Int.add_mul,Rat.divInt_mul_right (uY k)]
 ·rw [Nat.add_mul]
  have:=Int.natAbs_add_le a b
  omega
theorem Lq.mul {k k' m m':Nat} {x y:Rat} (hx:Lq k m x) (hy:Lq k' m' y):Lq (k + k') (m * m') (x * y):=by
 obtain ⟨a,rfl,ha⟩:=hx
 obtain ⟨b,rfl,hb⟩:=hy
 refine ⟨a * b,?_,?_⟩
 ·rw [Rat.divInt_mul_divInt,oR]
  push_cast
  rfl
 ·rw [Int.natAbs_mul,oR]
  calc a.natAbs * b.natAbs ≤ (m * DD k) * (m' * DD k'):=Nat.mul_le_mul ha hb
   _=m * m' * (DD k * DD k'):=by rw [Nat.mul_mul_mul_comm]
theorem Lq.mono {k m m':Nat} {x:Rat} (hx:Lq k m x) (h:m ≤ m'):Lq k m' x:=by
 obtain ⟨a,rfl,ha⟩:=hx
 exact ⟨a,rfl,Nat.le_trans ha (Nat.mul_le_mul_right _ h)⟩
theorem Lq.bd {k m:Nat} {x:Rat} (hx:Lq k m x):x.num.natAbs ≤ m * DD k /\ x.den ∣ DD k:=by
 obtain ⟨a,rfl,ha⟩:=hx
 have hp:=eK k
 rw [Rat.num_divInt,Rat.den_divInt,if_neg (uY k)]
 have hs:((DD k:Nat):Int).sign=1:=Int.sign_eq_one_of_pos (by omega)
 rw [hs,Int.one_mul]
 constructor
 ·rw [Int.natAbs_ediv_of_dvd (Int.gcd_dvd_right _ _)]
  exact Nat.le_trans (Nat.div_le_self _ _) ha
 ·rw [Int.natAbs_natCast]
  exact Nat.div_dvd_of_dvd (by have:=Int.gcd_dvd_left ((DD k:Nat):Int) a; exact Int.natCast_dvd_natCast.mp this)
theorem Lq.small {a b:Int} (ha:a.natAbs ≤ 9) (hb:0 < b) (hb':b ≤ 12):Lq 1 9 (Rat.divInt a b):=by
 have hd:b ∣ ((DD 1:Nat):Int):=by
  have e:((DD 1:Nat):Int)=27720:=by decide
  rw [e]
  have:b=1 \/ b=2 \/ b=3 \/ b=4 \/ b=5 \/ b=6 \/ b=7 \/ b=8 \/ b=9 \/ b=10 \/ b=11 \/ b=12:=by omega
  rcases this with rfl | rfl | rfl | rfl | rfl | rfl | rfl | rfl | rfl | rfl | rfl | rfl <;> decide
 obtain ⟨c,hc⟩:=hd
 have hc0:c ≠ 0:=fun z=>by rw [z,Int.mul_zero] at hc; exact uY 1 hc
 refine ⟨a * c,?_,?_⟩
 ·rw [hc,Rat.divInt_mul_right hc0]
 ·rw [Int.natAbs_mul]
  have h1:c.natAbs ≤ DD 1:=by
   have:((DD 1:Nat):Int).natAbs=b.natAbs * c.natAbs:=by rw [hc,Int.natAbs_mul]
   rw [Int.natAbs_natCast] at this
   rw [this]
   exact Nat.le_mul_of_pos_left _ (by omega)
  exact Nat.mul_le_mul ha h1
def wsum (r s:List Rat):Rat:=(List.zipWith (· * ·) r s).foldl (· + ·) 0
theorem foldl_add (l:List Rat):∀ a:Rat,l.foldl (· + ·) a=a + l.foldl (· + ·) 0:=by
 induction l with
 | nil=>intro a; rw [List.foldl_nil,List.foldl_nil,Rat.add_zero]
 | cons x l ih =>
  intro a
  rw [List.foldl_cons,List.foldl_cons,ih (a + x),ih (0 + x),Rat.zero_add,Rat.add_assoc]
theorem gz (x y:Rat) (r s:List Rat):wsum (x :: r) (y :: s)=x * y + wsum r s:=by
 unfold wsum
 rw [List.zipWith_cons_cons,List.foldl_cons,foldl_add,Rat.zero_add]
theorem Ak {k k' m m':Nat}:∀ {r s:List Rat},(∀ x ∈ r,Lq k m x) -> (∀ y ∈ s,Lq k' m' y) -> Lq (k + k') (r.length * (m * m')) (wsum r s)
 | [],s,_,_=>by
  have:wsum [] s=0:=by unfold wsum; rw [List.zipWith_nil_left]; rfl
  rw [this,List.length_nil,Nat.zero_mul]
  exact Lq.zero _
 | x :: r,[],h1,h2=>by
  have:wsum (x :: r) []=0:=by unfold wsum; rw [List.zipWith_nil_right]; rfl
  rw [this]
  exact (Lq.zero _).mono (Nat.zero_le _)
 | x :: r,y :: s,h1,h2=>by
  rw [gz,List.length_cons,Nat.add_mul,Nat.one_mul,Nat.add_comm (r.length * (m * m'))]
  exact ((h1 x List.mem_cons_self).mul (h2 y List.mem_cons_self)).add (Ak (fun z hz=>h1 z (List.mem_cons_of_mem _ hz)) (fun z hz=>h2 z (List.mem_cons_of_mem _ hz)))
theorem kB {D E:Int} (hD:D ≠ 0) (hE:E ≠ 0):∀ (a b:List Int),wsum (a.map fun n=>Rat.divInt n D) (b.map fun n=>Rat.divInt n E)=Rat.divInt (List.zipWith (· * ·) a b).sum (D * E)
 | [],b=>by
  unfold wsum
  rw [List.map_nil,List.zipWith_nil_left,List.zipWith_nil_left,List.sum_nil,Rat.zero_divInt]
  rfl
 | x :: a,[]=>by
  unfold wsum
  rw [List.map_nil,List.zipWith_nil_right,List.zipWith_nil_right,List.sum_nil,Rat.zero_divInt]
  rfl
 | x :: a,y :: b=>by
  rw [List.map_cons,List.map_cons,gz,kB hD hE a b,List.zipWith_cons_cons,List.sum_cons,Rat.divInt_mul_divInt]
  have hDE:D * E ≠ 0:=Int.mul_ne_zero hD hE
  rw [Rat.divInt_add_divInt _ _ hDE hDE,<- Int.add_mul,Rat.divInt_mul_right hDE]
def iH (B:List (List Rat)) (j:Nat):List Rat:=B.map fun r=>r.getD j 0
def wz (r:List Rat) (B:List (List Rat)) (w:Nat):List Rat:=(List.range w).map fun j=>wsum r (iH B j)
def mulM (A B:List (List Rat)) (w:Nat):List (List Rat):=A.map fun r=>wz r B w
theorem qz (s:List Rat):wsum [] s=0:=by unfold wsum; rw [List.zipWith_nil_left]; rfl
theorem wA (r:List Rat) (B:List (List Rat)) (w:Nat):(wz r B w).length=w:=by unfold wz; simp
def Sq (n:Nat) (A:List (List Rat)):Prop:=A.length=n /\ ∀ r ∈ A,r.length=n
theorem Sq.mul {n:Nat} {A B:List (List Rat)} (hA:Sq n A):Sq n (mulM A B n):=by
 refine ⟨by unfold mulM; rw [List.length_map]; exact hA.1,fun r hr=>?_⟩
 obtain ⟨a,_,rfl⟩:=List.mem_map.mp hr
 exact wA _ _ _
end Rq
namespace Dt
abbrev Row:=Nat -> Int
abbrev Fn:=List Nat -> Int
def E (x:Row):Fn -> List Nat -> Int
 | _,[]=>0
 | D,c :: cs=>x c * D cs - E x (fun l=>D (c :: l)) cs
def det:List Row -> Fn
 | []=>fun cs=>if cs=[] then 1 else 0
 | x :: R=>fun cs=>E x (det R) cs
def Alt (D:Fn):Prop:=∀ pre a b cs,D (pre ++ a :: b :: cs) = - D (pre ++ b :: a :: cs)
theorem Alt.tl {D:Fn} (h:Alt D) (c:Nat):Alt (fun l=>D (c :: l)):=fun pre a b cs=>h (c :: pre) a b cs
def F (f:Row -> Int):(List Row -> Int) -> List Row -> Int
 | _,[]=>0
 | G,x :: R=>f x * G R - F f (fun S=>G (x :: S)) R
def Lk (cs:List Nat) (f:Row -> Int):Prop:=∃ ws:List (Int × Nat),(∀ w ∈ ws,w.2 ∈ cs) /\ ∀ x,f x=(ws.map fun w=>w.1 * x w.2).foldr (· + ·) 0
theorem Lk.zero (cs:List Nat):Lk cs (fun _=>0):=⟨[],(fun _ h=>by cases h),fun _=>rfl⟩
theorem Lk.col {cs:List Nat} {c:Nat} (h:c ∈ cs):Lk cs (fun x=>x c):=⟨[(1,c)],(fun w hw=>by rw [List.mem_singleton.mp hw]; exact h),fun x=>by simp⟩
theorem Lk.more {cs ds:List Nat} {f:Row -> Int} (h:Lk cs f) (hs:∀ c ∈ cs,c ∈ ds):Lk ds f:=by
 obtain ⟨ws,h1,h2⟩:=h
 exact ⟨ws,fun w hw=>hs _ (h1 w hw),h2⟩
theorem Lk.congr {cs:List Nat} {f g:Row -> Int} (h:Lk cs f) (e:∀ x,g x=f x):Lk cs g:=by rw [funext e]; exact h
def left (R:List Row) (ps:List Nat) (x:Row):Row:=fun j=>det (x :: R) (j :: ps)
inductive Sp:List Row -> Row -> Prop
 | nil {x:Row} (h:∀ c,x c=0):Sp [] x
 | cons {w:Row} {W:List Row} {x y:Row} (a:Int) (h:∀ c,x c=a * w c + y c) (hy:Sp W y):Sp (w :: W) x
theorem Sp.zero:∀ (W:List Row),Sp W (fun _=>0)
 | []=>.nil fun _=>rfl
 | w :: W=>.cons 0 (fun c=>by omega) (Sp.zero W)
def rw (l:List Int):Row:=fun j=>l.getD j 0
def CI (w:Nat) (R:List Row) (ps:List Nat) (x:Row):List Int:=(List.range w).map (left R ps x)
inductive Ch (w:Nat):List Row -> List Nat -> List (Nat × List Int) -> Prop
 | nil:Ch w [] [] []
 | cons {R:List Row} {ps:List Nat} {kr:List (Nat × List Int)} {x:Row} {p:Nat} (h:Ch w R ps kr) (hp:p < w) (hn:left R ps x p ≠ 0):Ch w (x :: R) (p :: ps) ((p,CI w R ps x) :: kr)
theorem Ch.det {w:Nat} {R:List Row} {ps:List Nat} {kr:List (Nat × List Int)}:Ch w R ps kr -> det R ps ≠ 0
 | .nil=>by decide
 | .cons h hp hn=>hn
theorem Ch.ps {w:Nat} {R:List Row} {ps:List Nat} {kr:List (Nat × List Int)}:Ch w R ps kr -> ∀ p ∈ ps,p < w
 | .nil,_,h=>by cases h
 | .cons h hp hn,q,hq=>by
  rcases List.mem_cons.mp hq with rfl | hq
  ·exact hp
  ·exact h.ps q hq
theorem Ch.len {w:Nat} {R:List Row} {ps:List Nat} {kr:List (Nat × List Int)}:Ch w R ps kr -> R.length=kr.length /\ ps.length=kr.length
 | .nil=>⟨rfl,rfl⟩
 | .cons h hp hn=>by have:=h.len; simp only [List.length_cons]; omega
def Gm (w:Nat) (r:Row) (l:Row):Prop:=∃ a b:Int,a ≠ 0 /\ b ≠ 0 /\ ∀ j < w,a * r j=b * l j
theorem Gm.zero {w:Nat} {r l:Row} (h:Gm w r l) {j:Nat} (hj:j < w):r j=0 ↔ l j=0:=by
 obtain ⟨a,b,ha,hb,e⟩:=h
 have ej:=e j hj
 constructor
 ·intro h0
  rw [h0,Int.mul_zero] at ej
  rcases Int.mul_eq_zero.mp ej.symm with z | z
  ·exact absurd z hb
  ·exact z
 ·intro h0
  rw [h0,Int.mul_zero] at ej
  rcases Int.mul_eq_zero.mp ej with z | z
  ·exact absurd z ha
  ·exact z
def fp (w:Nat) (x:Row):Option Nat:=(List.range w).find? fun j=>x j != 0
def fr (w:Nat):List Row -> Nat -> List Row -> List Nat -> List Nat
 | [],_,_,_=>[]
 | x :: rest,i,R,ps=>match fp w (left R ps x) with
  | none=>fr w rest (i + 1) R ps
  | some p=>i :: fr w rest (i + 1) (x :: R) (p :: ps)
theorem index {α:Type} {l:List α}:∀ {S:List α},(∀ x ∈ S,x ∈ l) -> ∀ d,∃ is:List Nat,(∀ i ∈ is,i < l.length) /\ S=is.map fun i=>l.getD i d
 | [],_,d=>⟨[],(fun _ h=>by cases h),rfl⟩
 | x :: S,h,d=>by
  obtain ⟨is,h1,h2⟩:=index (S:=S) (fun y hy=>h y (List.mem_cons_of_mem _ hy)) d
  obtain ⟨i,hi,e⟩:=List.getElem_of_mem (h x List.mem_cons_self)
  refine ⟨i :: is,fun j hj=>?_,?_⟩
  ·rcases List.mem_cons.mp hj with rfl | hj
   ·exact hi
   ·exact h1 j hj
  ·rw [List.map_cons,<- h2,List.getD_eq_getElem?_getD,List.getElem?_eq_getElem hi,e]; rfl
inductive Fw (w:Nat):List Row -> List Nat -> List (Nat × List Int) -> List Row -> List Nat -> Prop
 | nil {R:List Row} {ps:List Nat}:Fw w R ps [] R ps
 | cons {R R':List Row} {ps ps':List Nat} {ks:List (Nat × List Int)} {x:Row} {p:Nat} (hp:p < w) (hn:left R ps x p ≠ 0) (h:Fw w (x :: R) (p :: ps) ks R' ps'):Fw w R ps ((p,CI w R ps x) :: ks) R' ps'
theorem Fw.snoc {w:Nat} {R R':List Row} {ps ps':List Nat} {ks:List (Nat × List Int)} (h:Fw w R ps ks R' ps') {x:Row} {p:Nat} (hp:p < w) (hn:left R' ps' x p ≠ 0):Fw w R ps (ks ++ [(p,CI w R' ps' x)]) (x :: R') (p :: ps'):=by
 induction h with
 | nil=>exact .cons hp hn .nil
 | cons hp' hn' h ih=>exact .cons hp' hn' (ih hn)
end Dt
namespace Dq
abbrev Row:=Nat -> Rat
abbrev Fn:=List Nat -> Rat
def E (x:Row):Fn -> List Nat -> Rat
 | _,[]=>0
 | D,c :: cs=>x c * D cs - E x (fun l=>D (c :: l)) cs
def det:List Row -> Fn
 | []=>fun cs=>if cs=[] then 1 else 0
 | x :: R=>fun cs=>E x (det R) cs
def Alt (D:Fn):Prop:=∀ pre a b cs,D (pre ++ a :: b :: cs) = - D (pre ++ b :: a :: cs)
theorem Alt.tl {D:Fn} (h:Alt D) (c:Nat):Alt (fun l=>D (c :: l)):=fun pre a b cs=>h (c :: pre) a b cs
def F (f:Row -> Rat):(List Row -> Rat) -> List Row -> Rat
 | _,[]=>0
 | G,x :: R=>f x * G R - F f (fun S=>G (x :: S)) R
def sm (cs:List Nat) (f:Nat -> Rat):Rat:=(cs.map f).foldr (· + ·) 0
theorem Iq (f:Nat -> Rat):sm [] f=0:=rfl
theorem kz (c:Nat) (cs:List Nat) (f:Nat -> Rat):sm (c :: cs) f=f c + sm cs f:=rfl
theorem DG (a b:Rat) (f g:Nat -> Rat):∀ cs,sm cs (fun k=>a * f k + b * g k)=a * sm cs f + b * sm cs g
 | []=>by simp only [Iq]; grind
 | c :: cs=>by rw [kz,kz,kz,DG a b f g cs]; grind
theorem Aa:∀ cs,sm cs (fun _=>0)=0
 | []=>rfl
 | c :: cs=>by rw [kz,Aa cs]; grind
theorem qh {f g:Nat -> Rat}:∀ {cs:List Nat},(∀ k ∈ cs,f k=g k) -> sm cs f=sm cs g
 | [],_=>rfl
 | c :: cs,h=>by rw [kz,kz,h c List.mem_cons_self,qh fun k hk=>h k (List.mem_cons_of_mem _ hk)]
end Dq
namespace Dt
def ins (a:Nat):List Nat -> List Nat
 | []=>[a]
 | b :: l=>if b < a then b :: ins a l else a :: b :: l
inductive Up:List Nat -> Prop
 | nil:Up []
 | cons {a:Nat} {l:List Nat} (h:∀ b ∈ l,a ≤ b) (u:Up l):Up (a :: l)
theorem zx {a:Nat}:∀ {l:List Nat} {x:Nat},x ∈ ins a l ↔ x=a \/ x ∈ l
 | [],x=>by simp [ins]
 | b :: l,x=>by
  unfold ins
  split
  ·rw [List.mem_cons,zx,List.mem_cons]
   grind
  ·simp
theorem Up.ins {a:Nat}:∀ {l:List Nat},Up l -> Up (ins a l)
 | [],_=>.cons (fun _ h=>by cases h) .nil
 | b :: l,.cons h u=>by
  unfold Dt.ins
  split
  ·next hb =>
   refine .cons (fun x hx=>?_) u.ins
   rcases zx.mp hx with rfl | hx
   ·omega
   ·exact h x hx
  ·next hb =>
   refine .cons (fun x hx=>?_) (.cons h u)
   rcases List.mem_cons.mp hx with rfl | hx
   ·omega
   ·have:=h x hx
    omega
def put (ps:List Nat) (c p:Nat):List Nat:=ps.map fun q=>if q=p then c else q
end Dt
namespace My
open PySem PySem.Spec PyProof.Rows L2 TM
def top (i:Nat):Stmt:=PySem.Challenge.pw_echohouse_k31_runs_by_tables.main.body.getD i (.Pass ⟨0,0,0,0⟩)
section
variable {P:Program} {w:World} {K:PySem.W.Frag} {mg:Str -> Option Value} {base:Heap} {k:Nat} {f:Addr} {fd:FuncData}
abbrev pX:Stmt:=top 11
def oW (n:Nat) (d_half:List T -> Option T):FS:=
  (bf (n0 0 1 (aa (ai mX (aa (ae 0) aj)) (aa (ai mX (aa (ae 1) aj)) aj)))
  (bf (eP (eE (aH rG (uI ju (ae 1)) (fC (.int 4000)))) (bf (n0 0 1 (aa (ae 1) (aa (aH cV (ae 0) (ae 1)) aj)))
  (ck (eE (aH rG (uI ju (ae 1)) (fC (.int 4000)))) (kZ (ai d_half (aa (ae 0) (aa (ae 1) aj))) (cT (aI (ao 0) (aI (ao 1) (aI (ao 2) cD))))) bI)) n)
  (bf (eP (eE (aH lU (ae 1) (fC (.int 0)))) (n0 0 1 (aa (ae 1) (aa (aH cV (ae 0) (ae 1)) aj))) n)
  (bN (ae 0)))))
theorem fR:aS ["one", "other", "factors"] ["one", "other"] (ax pX):=by walk_at "sc"
theorem AU {d_half:List T -> Option T} {t_SHORT:Tok} (n:Nat) (F:fG K "common" "common" pX f fd) (hb:Binds K fd ["one", "other"] []) (hm:mg "common" = some (.ref f)) (D_half:Def P w K mg base k "half" 2 d_half) (m_abs:mg "abs" = none) (g_SHORT:mg "SHORT" = some (.int 4000 t_SHORT)) :
  Def P w K mg base (k + 1) "common" 2 (cW 3 2 (oW n d_half)):=
 bZ F fR hb hm fun cdv A outer s H E hr=>(ay (qj rfl fR.nd rfl rfl (by decide) rfl rfl (ag (aO pe rfl m_abs rfl (ag (af 0 (pv 0)) au)) (ag (aO pe rfl m_abs rfl (ag (af 1 (pv 1)) au)) au)) rfl)
  (ay (qk n PassesOwn.never (cO nV (ky (af 1 (pv 1))) (gO rfl g_SHORT) (bK _)) (ay (qj rfl fR.nd rfl rfl (by decide) rfl rfl (ag (af 1 (pv 1)) (ag (aM dA (af 0 (pv 0)) (af 1 (pv 1))) au)) rfl)
  (aF (dm (cO nV (ky (af 1 (pv 1))) (gO rfl g_SHORT) (bK _)) (aF (lT (aL D_half hr rfl (ag (af 0 (pv 0)) (ag (af 1 (pv 1)) au)) (ah (ah aG))) (ek rfl (aT (aE 0 fR.nd rfl (Or.inl rfl)) (aT (aE 1 fR.nd rfl (Or.inl rfl)) (aT (aE 2 fR.nd rfl (Or.inl rfl)) da))) (aZ (aZ (aZ dR)))))) bR))))
  (ay (qk n PassesOwn.never (cO (kQ hr.units) (af 1 (pv 1)) aw (bK _)) (aF (qj rfl fR.nd rfl rfl (by decide) rfl rfl (ag (af 1 (pv 1)) (ag (aM dA (af 0 (pv 0)) (af 1 (pv 1))) au)) rfl)))
  (aF (bg (af 0 (pv 0)))))))
abbrev Ij:Stmt:=top 12
abbrev lO:Stmt:=top 21
def kS:FS:=
  (bN (dQ (ai bj (aa (ae 0) (aa (fC (.ty "int")) aj))) (uI Er (ai bj (aa (ae 0) (aa (fC (.ty "bool")) aj))))))
theorem wG:aS ["thing"] ["thing"] (ax lO):=by walk_at "sc"
theorem wc (F:fG K "is_whole" "is_whole" lO f fd) (hb:Binds K fd ["thing"] []) (hm:mg "is_whole" = some (.ref f)) (m_int:mg "int" = none) (m_isinstance:mg "isinstance" = none) (m_bool:mg "bool" = none) :
  Def P w K mg base (k + 1) "is_whole" 1 (cW 1 1 (kS)):=
 bZ F wG hb hm fun cdv A outer s H E hr=>(aF (bg (fy (aO eM rfl m_isinstance rfl (ag (af 0 (pv 0)) (ag (gQ rfl m_int rfl) au))) (lS (Ik (aO eM rfl m_isinstance rfl (ag (af 0 (pv 0)) (ag (gQ rfl m_bool rfl) au))))))))
abbrev iz:Stmt:=top 22
def ik (d_is_whole d_common:List T -> Option T):FS:=
  (bf (ck (mZ (cK (cM (ai bj (aa (ae 0) (aa (fC (.ty "tuple")) aj))))) (eE (aH lU (ai bY (aa (ae 0) aj)) (fC (.int 2))))) (bN (fC (.bl false))) bI)
  (bf (kZ (ae 0) (cT (aI (ao 1) (aI (ao 2) cD))))
  (bN (dQ (ai d_is_whole (aa (ae 1) aj)) (dQ (ai d_is_whole (aa (ae 2) aj)) (dQ (aH Lp (ae 2) (fC (.int 1))) (aH jJ (ai d_common (aa (ae 1) (aa (ae 2) aj))) (fC (.int 1)))))))))
theorem gL:aS ["thing", "top", "bottom"] ["thing"] (ax iz):=by walk_at "sc"
theorem pT {d_is_whole:List T -> Option T} {d_common:List T -> Option T} (F:fG K "is_fraction" "is_fraction" iz f fd) (hb:Binds K fd ["thing"] []) (hm:mg "is_fraction" = some (.ref f)) (D_is_whole:Def P w K mg base k "is_whole" 1 d_is_whole) (D_common:Def P w K mg base k "common" 2 d_common) (m_tuple:mg "tuple" = none) (m_isinstance:mg "isinstance" = none) (m_len:mg "len" = none) :
  Def P w K mg base (k + 1) "is_fraction" 1 (cW 3 1 (ik d_is_whole d_common)):=
 bZ F gL hb hm fun cdv A outer s H E hr=>(ay (dm (SW.st (kf (dC (dP (aO eM rfl m_isinstance rfl (ag (af 0 (pv 0)) (ag (gQ rfl m_tuple rfl) au))))) (kg (cO (kQ hr.units) (aO cS rfl m_len PySem.boot_len (ag (af 0 (pv 0)) au)) aw (bK _))))) (aF (bg ig)) bR)
  (ay (lT (af 0 (pv 0)) (ek rfl (aT (aE 1 gL.nd rfl (Or.inl rfl)) (aT (aE 2 gL.nd rfl (Or.inl rfl)) da)) (aZ (aZ dR))))
  (aF (bg (fy (aL D_is_whole hr rfl (ag (af 1 (pv 1)) au) (ah aG)) (fy (aL D_is_whole hr rfl (ag (af 2 (pv 2)) au) (ah aG)) (fy (iD Kc (af 2 (pv 2)) aw (bK _)) (lS (iD (jw hr.units) (aL D_common hr rfl (ag (af 1 (pv 1)) (ag (af 2 (pv 2)) au)) (ah (ah aG))) aw (bK _))))))))))
abbrev yo:Stmt:=top 23
def xf (d_common:List T -> Option T):FS:=
  (bf (ck (eE (aH jJ (ae 1) (fC (.int 0)))) fj bI)
  (bf (bU 2 (ai d_common (aa (ae 0) (aa (ae 1) aj))))
  (bf (ck (eE (aH IL (ae 1) (fC (.int 0)))) (bU 2 (uI xD (ae 2))) bI)
  (bf (ck (eE (aH IL (uI ju (ae 2)) (fC (.int 8000)))) (bN (ir (aa (aH cG (ae 0) (ae 2)) (aa (aH cG (ae 1) (ae 2)) aj)))) bI)
  fj))))
theorem uz:aS ["top", "bottom", "shared"] ["top", "bottom"] (ax yo):=by walk_at "sc"
theorem EY {d_common:List T -> Option T} {t_SHORT_QUOTIENT:Tok} (F:fG K "frac" "frac" yo f fd) (hb:Binds K fd ["top", "bottom"] []) (hm:mg "frac" = some (.ref f)) (D_common:Def P w K mg base k "common" 2 d_common) (g_SHORT_QUOTIENT:mg "SHORT_QUOTIENT" = some (.int 8000 t_SHORT_QUOTIENT)) :
  Def P w K mg base (k + 1) "frac" 2 (cW 3 2 (xf d_common)):=
 bZ F uz hb hm fun cdv A outer s H E hr=>(ay (dm (cO (jw hr.units) (af 1 (pv 1)) aw (bK _)) (aF iO) bR)
  (ay (bJ 2 uz.nd rfl (Or.inl rfl) (aL D_common hr rfl (ag (af 0 (pv 0)) (ag (af 1 (pv 1)) au)) (ah (ah aG))))
  (ay (dm (cO C6 (af 1 (pv 1)) aw (bK _)) (aF (bJ 2 uz.nd rfl (Or.inl rfl) (GK DR (af 2 (pv 2))))) bR)
  (ay (dm (cO C6 (ky (af 2 (pv 2))) (gO rfl g_SHORT_QUOTIENT) (bK _)) (aF (bg (gP (ag (aM cu (af 0 (pv 0)) (af 2 (pv 2))) (ag (aM cu (af 1 (pv 1)) (af 2 (pv 2))) au))))) bR)
  Bl))))
abbrev yq:Stmt:=top 24
def xg (d_common:List T -> Option T):FS:=
  (bf (bU 2 (ai d_common (aa (aH cn (ae 0) (fC (.int 1))) (aa (aH cn (ae 1) (fC (.int 1))) aj))))
  (bf (bU 3 (aH cF (aH bh (aH cn (ae 0) (fC (.int 0))) (aH cG (aH cn (ae 1) (fC (.int 1))) (ae 2))) (aH bh (aH cn (ae 1) (fC (.int 0))) (aH cG (aH cn (ae 0) (fC (.int 1))) (ae 2)))))
  (bf (bU 4 (ai d_common (aa (ae 3) (aa (ae 2) aj))))
  (bN (ir (aa (aH cG (ae 3) (ae 4)) (aa (aH bh (aH cG (aH cn (ae 0) (fC (.int 1))) (ae 2)) (aH cG (aH cn (ae 1) (fC (.int 1))) (ae 4))) aj)))))))
theorem oN:aS ["one", "other", "shared", "top", "low"] ["one", "other"] (ax yq):=by walk_at "sc"
theorem EZ {d_common:List T -> Option T} (F:fG K "plus" "plus" yq f fd) (hb:Binds K fd ["one", "other"] []) (hm:mg "plus" = some (.ref f)) (D_common:Def P w K mg base k "common" 2 d_common) :
  Def P w K mg base (k + 1) "plus" 2 (cW 5 2 (xg d_common)):=
 bZ F oN hb hm fun cdv A outer s H E hr=>(ay (bJ 2 oN.nd rfl (Or.inl rfl) (aL D_common hr rfl (ag (bE bG (af 0 (pv 0)) aw (fun _ _=>rfl)) (ag (bE bG (af 1 (pv 1)) aw (fun _ _=>rfl)) au)) (ah (ah aG))))
  (ay (bJ 3 oN.nd rfl (Or.inl rfl) (aM dc (aM bB (bE bG (af 0 (pv 0)) aw (fun _ _=>rfl)) (aM cu (bE bG (af 1 (pv 1)) aw (fun _ _=>rfl)) (af 2 (pv 2)))) (aM bB (bE bG (af 1 (pv 1)) aw (fun _ _=>rfl)) (aM cu (bE bG (af 0 (pv 0)) aw (fun _ _=>rfl)) (af 2 (pv 2))))))
  (ay (bJ 4 oN.nd rfl (Or.inl rfl) (aL D_common hr rfl (ag (af 3 (pv 3)) (ag (af 2 (pv 2)) au)) (ah (ah aG))))
  (aF (bg (gP (ag (aM cu (af 3 (pv 3)) (af 4 (pv 4))) (ag (aM bB (aM cu (bE bG (af 0 (pv 0)) aw (fun _ _=>rfl)) (af 2 (pv 2))) (aM cu (bE bG (af 1 (pv 1)) aw (fun _ _=>rfl)) (af 4 (pv 4)))) au))))))))
abbrev uv:Stmt:=top 25
def sv (d_common:List T -> Option T):FS:=
  (bf (bU 2 (ai d_common (aa (aH cn (ae 0) (fC (.int 0))) (aa (aH cn (ae 1) (fC (.int 1))) aj))))
  (bf (bU 3 (ai d_common (aa (aH cn (ae 1) (fC (.int 0))) (aa (aH cn (ae 0) (fC (.int 1))) aj))))
  (bN (ir (aa (aH bh (aH cG (aH cn (ae 0) (fC (.int 0))) (ae 2)) (aH cG (aH cn (ae 1) (fC (.int 0))) (ae 3))) (aa (aH bh (aH cG (aH cn (ae 0) (fC (.int 1))) (ae 3)) (aH cG (aH cn (ae 1) (fC (.int 1))) (ae 2))) aj))))))
theorem qc:aS ["one", "other", "left", "right"] ["one", "other"] (ax uv):=by walk_at "sc"
theorem C5 {d_common:List T -> Option T} (F:fG K "times" "times" uv f fd) (hb:Binds K fd ["one", "other"] []) (hm:mg "times" = some (.ref f)) (D_common:Def P w K mg base k "common" 2 d_common) :
  Def P w K mg base (k + 1) "times" 2 (cW 4 2 (sv d_common)):=
 bZ F qc hb hm fun cdv A outer s H E hr=>(ay (bJ 2 qc.nd rfl (Or.inl rfl) (aL D_common hr rfl (ag (bE bG (af 0 (pv 0)) aw (fun _ _=>rfl)) (ag (bE bG (af 1 (pv 1)) aw (fun _ _=>rfl)) au)) (ah (ah aG))))
  (ay (bJ 3 qc.nd rfl (Or.inl rfl) (aL D_common hr rfl (ag (bE bG (af 1 (pv 1)) aw (fun _ _=>rfl)) (ag (bE bG (af 0 (pv 0)) aw (fun _ _=>rfl)) au)) (ah (ah aG))))
  (aF (bg (gP (ag (aM bB (aM cu (bE bG (af 0 (pv 0)) aw (fun _ _=>rfl)) (af 2 (pv 2))) (aM cu (bE bG (af 1 (pv 1)) aw (fun _ _=>rfl)) (af 3 (pv 3)))) (ag (aM bB (aM cu (bE bG (af 0 (pv 0)) aw (fun _ _=>rfl)) (af 3 (pv 3))) (aM cu (bE bG (af 1 (pv 1)) aw (fun _ _=>rfl)) (af 2 (pv 2)))) au)))))))
theorem vS:(["number"]:List Str).Nodup:=by decide +kernel
abbrev pY:Stmt:=top 27
def uP (d_is_fraction:List T -> Option T):FS:=
  (bN (dQ (ai bj (aa (ae 0) (aa (fC (.ty "list")) aj))) (dQ (aH jJ (ai bY (aa (ae 0) aj)) (ae 1)) (ai ph (aa (cm 1 [] (aX (ae 0)) (ao 0) av (ai d_is_fraction (aa (ae 0) aj))) aj)))))
theorem A8:aS ["thing", "many"] ["thing", "many"] (ax pY):=by walk_at "sc"
theorem AV {d_is_fraction:List T -> Option T} (F:fG K "is_row" "is_row" pY f fd) (hb:Binds K fd ["thing", "many"] []) (hm:mg "is_row" = some (.ref f)) (D_is_fraction:Def P w K mg base k "is_fraction" 1 d_is_fraction) (m_list:mg "list" = none) (m_isinstance:mg "isinstance" = none) (m_len:mg "len" = none) (m_all:mg "all" = none) :
  Def P w K mg base (k + 1) "is_row" 2 (cW 2 2 (uP d_is_fraction)):=
 bZ F A8 hb hm fun cdv A outer s H E hr=>(aF (bg (fy (aO eM rfl m_isinstance rfl (ag (af 0 (pv 0)) (ag (gQ rfl m_list rfl) au))) (fy (iD (jw hr.units) (aO cS rfl m_len PySem.boot_len (ag (af 0 (pv 0)) au)) (af 1 (pv 1)) (bK _)) (lS (aO (xo rfl) rfl m_all rfl (ag (cI (N':=["number"]) (no:=1) (cap:=[]) rfl rfl (aK rfl) rfl (bH rfl) (cj (af 0 (pv 0))) (fun _ _ _ _ _ _=>(aE 0 vS rfl (Or.inl rfl))) (fun _ _ _ _ _ _=>bu) (fun _ _ _ _ _ _=>(aL D_is_fraction hr rfl (ag (af 0 (pv 0)) au) (ah aG)))) au)))))))
theorem qQ:(["row", "wide"]:List Str).Nodup:=by decide +kernel
abbrev lN:Stmt:=top 28
def iZ (d_is_row:List T -> Option T):FS:=
  (bN (dQ (ai bj (aa (ae 0) (aa (fC (.ty "list")) aj))) (dQ (aH jJ (ai bY (aa (ae 0) aj)) (ae 1)) (ai ph (aa (cm 1 [2] (aX (ae 0)) (ao 0) av (ai d_is_row (aa (ae 0) (aa (ae 1) aj)))) aj)))))
theorem wF:aS ["thing", "many", "wide"] ["thing", "many", "wide"] (ax lN):=by walk_at "sc"
theorem wb {d_is_row:List T -> Option T} (F:fG K "is_table" "is_table" lN f fd) (hb:Binds K fd ["thing", "many", "wide"] []) (hm:mg "is_table" = some (.ref f)) (D_is_row:Def P w K mg base k "is_row" 2 d_is_row) (m_list:mg "list" = none) (m_isinstance:mg "isinstance" = none) (m_len:mg "len" = none) (m_all:mg "all" = none) :
  Def P w K mg base (k + 1) "is_table" 3 (cW 3 3 (iZ d_is_row)):=
 bZ F wF hb hm fun cdv A outer s H E hr=>(aF (bg (fy (aO eM rfl m_isinstance rfl (ag (af 0 (pv 0)) (ag (gQ rfl m_list rfl) au))) (fy (iD (jw hr.units) (aO cS rfl m_len PySem.boot_len (ag (af 0 (pv 0)) au)) (af 1 (pv 1)) (bK _)) (lS (aO (xo rfl) rfl m_all rfl (ag (cI (N':=["row", "wide"]) (no:=1) (cap:=[2]) rfl rfl (aK rfl) rfl (bH rfl) (cj (af 0 (pv 0))) (fun _ _ _ _ _ _=>(aE 0 qQ rfl (Or.inl rfl))) (fun _ _ _ _ _ _=>bu) (fun _ _ _ _ _ _=>(aL D_is_row hr rfl (ag (af 0 (pv 0)) (ag (af 1 (pv 1)) au)) (ah (ah aG))))) au)))))))
abbrev nt:Stmt:=top 29
def rd (d_times d_plus:List T -> Option T):FS:=
  (bf (bU 2 (fC (.tup [.int 0,.int 1])))
  (bf (k9 (eR (aa (ae 0) (aa (ae 1) aj))) (cT (aI (ao 3) (aI (ao 4) cD))) (bU 2 (ai d_plus (aa (ae 2) (aa (ai d_times (aa (ae 3) (aa (ae 4) aj))) aj)))))
  (bN (ae 2))))
theorem gN:aS ["one", "other", "total", "left", "right"] ["one", "other"] (ax nt):=by walk_at "sc"
theorem yd {d_times:List T -> Option T} {d_plus:List T -> Option T} {a_NOUGHT:Addr} {od_NOUGHT:Option Addr} {t_NOUGHT u_NOUGHT:Tok} {n_NOUGHT:Nat} {sl_NOUGHT:Array (Option Value)} (F:fG K "weighed" "weighed" nt f fd) (hb:Binds K fd ["one", "other"] []) (hm:mg "weighed" = some (.ref f)) (D_times:Def P w K mg base k "times" 2 d_times) (D_plus:Def P w K mg base k "plus" 2 d_plus) (m_zip:mg "zip" = none) (g_NOUGHT:mg "NOUGHT" = some (.ref a_NOUGHT)) (h_NOUGHT:K.lookup a_NOUGHT=some ⟨.type "tuple", od_NOUGHT,.seq #[.int 0 t_NOUGHT,.int 1 u_NOUGHT] n_NOUGHT,sl_NOUGHT⟩) :
  Def P w K mg base (k + 1) "weighed" 2 (cW 5 2 (rd d_times d_plus)):=
 bZ F gN hb hm fun cdv A outer s H E hr=>(ay (bJ 2 gN.nd rfl (Or.inl rfl) (Dz rfl g_NOUGHT h_NOUGHT))
  (ay (nF PassesOwn.never rfl (nB rfl m_zip (ag (af 0 (pv 0)) (ag (af 1 (pv 1)) au))) (ek rfl (aT (aE 3 gN.nd rfl (Or.inl rfl)) (aT (aE 4 gN.nd rfl (Or.inl rfl)) da)) (aZ (aZ dR))) (aF (bJ 2 gN.nd rfl (Or.inl rfl) (aL D_plus hr rfl (ag (af 2 (pv 2)) (ag (aL D_times hr rfl (ag (af 3 (pv 3)) (ag (af 4 (pv 4)) au)) (ah (ah aG))) au)) (ah (ah aG))))))
  (aF (bg (af 2 (pv 2))))))
theorem tV:(["number"]:List Str).Nodup:=by decide +kernel
theorem tW:(["numbers"]:List Str).Nodup:=by decide +kernel
abbrev nq:Stmt:=top 30
def km (d_product:List T -> Option T):yN:=
  (jI (cJ 1 [] (aX (ai d_product (aa (ae 0) (aa (cm 1 [] (aX (ae 1)) (ao 0) av (iJ (aa (ae 0) aj))) (aa (fC (.int 1)) aj))))) (ao 0) av (md (aH cn (ae 0) (fC (.int 0))))))
theorem yr:aS ["table", "row"] ["table", "row"] (ax nq):=by walk_at "sc"
theorem vX {d_product:List T -> Option T} (F:fG K "applied" "applied" nq f fd) (hb:Binds K fd ["table", "row"] []) (hm:mg "applied" = some (.ref f)) (D_product:Def P w K mg base k "product" 3 d_product) :
  gB P w K mg base (k + 1) "applied" 2 (jG 2 2 (km d_product)):=
 lZ F yr hb hm fun cdv A outer s H E hr=>(oO (fA (N':=["numbers"]) (no:=1) (cap:=[]) rfl rfl (aK rfl) rfl (bH rfl) (cj (aL D_product hr rfl (ag (af 0 (pv 0)) (ag (cI (N':=["number"]) (no:=1) (cap:=[]) rfl rfl (aK rfl) rfl (bH rfl) (cj (af 1 (pv 1))) (fun _ _ _ _ _ _=>(aE 0 tV rfl (Or.inl rfl))) (fun _ _ _ _ _ _=>bu) (fun _ _ _ _ _ _=>(qe (ag (af 0 (pv 0)) au)))) (ag aw au))) (ah (ah (ah aG))))) (fun _ _ _ _ _ _=>(aE 0 tW rfl (Or.inl rfl))) (fun _ _ _ _ _ _=>bu) (fun _ _ _ _ _ _=>(SE.seo (bE bG (af 0 (pv 0)) aw (fun _ _=>rfl))))))
theorem tX:(["row"]:List Str).Nodup:=by decide +kernel
theorem tY:(["column"]:List Str).Nodup:=by decide +kernel
theorem tZ:(["row", "lifted_columns"]:List Str).Nodup:=by decide +kernel
theorem t9:(["column", "row"]:List Str).Nodup:=by decide +kernel
abbrev nr:Stmt:=top 31
def gq (d_lifted d_turned d_weighed_lifted:List T -> Option T):yN:=
  (va (dF 3 1 [] (aX (ae 0)) (ao 0) av (ai d_lifted (aa (ae 0) aj)))
  (va (bU 4 (cm 1 [] (aX (ai d_turned (aa (ae 1) (aa (ae 2) aj)))) (ao 0) av (ai d_lifted (aa (ae 0) aj))))
  (jI (cJ 1 [4] (aX (ae 3)) (ao 0) av (cJ 1 [0] (aX (ae 1)) (ao 0) av (md (ai d_weighed_lifted (aa (ae 1) (aa (ae 0) aj)))))))))
theorem lQ:aS ["one", "other", "wide", "lifted_rows", "lifted_columns"] ["one", "other", "wide"] (ax nr):=by walk_at "sc"
theorem vY {d_lifted:List T -> Option T} {d_turned:List T -> Option T} {d_weighed_lifted:List T -> Option T} (F:fG K "product" "product" nr f fd) (hb:Binds K fd ["one", "other", "wide"] []) (hm:mg "product" = some (.ref f)) (D_lifted:Def P w K mg base k "lifted" 1 d_lifted) (D_turned:Def P w K mg base k "turned" 2 d_turned) (D_weighed_lifted:Def P w K mg base k "weighed_lifted" 2 d_weighed_lifted) :
  gB P w K mg base (k + 1) "product" 3 (jG 5 3 (gq d_lifted d_turned d_weighed_lifted)):=
 lZ F lQ hb hm fun cdv A outer s H E hr=>(wK (jq lQ.nd rfl rfl (N':=["row"]) (no:=1) (cap:=[]) rfl rfl (aK rfl) rfl (bH rfl) (cj (af 0 (pv 0))) (fun _ _ _ _ _ _=>(aE 0 tX rfl (Or.inl rfl))) (fun _ _ _ _ _ _=>bu) (fun _ _ _ _ _ _=>(aL D_lifted hr rfl (ag (af 0 (pv 0)) au) (ah aG))))
  (wK (bJ 4 lQ.nd rfl (Or.inr rfl) (cI (N':=["column"]) (no:=1) (cap:=[]) rfl rfl (aK rfl) rfl (bH rfl) (cj (aL D_turned hr rfl (ag (af 1 (pv 1)) (ag (af 2 (pv 2)) au)) (ah (ah aG)))) (fun _ _ _ _ _ _=>(aE 0 tY rfl (Or.inl rfl))) (fun _ _ _ _ _ _=>bu) (fun _ _ _ _ _ _=>(aL D_lifted hr rfl (ag (af 0 (pv 0)) au) (ah aG)))))
  (oO (fA (N':=["row", "lifted_columns"]) (no:=1) (cap:=[4]) rfl rfl (aK rfl) rfl (bH rfl) (cj (af 3 (pv 3))) (fun _ _ _ _ _ _=>(aE 0 tZ rfl (Or.inr rfl))) (fun _ _ _ _ _ _=>bu) (fun _ _ _ _ _ _=>(fA (N':=["column", "row"]) (no:=1) (cap:=[0]) rfl rfl (aK rfl) rfl (bH rfl) (cj (af 1 (pv 1))) (fun _ _ _ _ _ _=>(aE 0 t9 rfl (Or.inl rfl))) (fun _ _ _ _ _ _=>bu) (fun _ _ _ _ _ _=>(SE.seo (aL D_weighed_lifted hr rfl (ag (af 1 (pv 1)) (ag (af 0 (pv 0)) au)) (ah (ah aG)))))))))))
theorem nT:(["top", "bottom"]:List Str).Nodup:=by decide +kernel
abbrev pZ:Stmt:=top 32
def oX (d_shared_bottom d_raised:List T -> Option T):FS:=
  (bf (bU 1 (ai d_shared_bottom (aa (ae 0) aj)))
  (bN (ir (aa (ae 0) (aa (ai d_raised (aa (ae 0) (aa (ae 1) aj))) (aa (ae 1) (aa (aH zo (cm 2 [] (aX (ae 0)) (cT (aI (ao 0) (aI (ao 1) cD))) av (uI ju (ae 1))) (fC (.int 1))) aj)))))))
theorem rR:aS ["row", "low"] ["row"] (ax pZ):=by walk_at "sc"
theorem AW {d_shared_bottom:List T -> Option T} {d_raised:List T -> Option T} (F:fG K "lifted" "lifted" pZ f fd) (hb:Binds K fd ["row"] []) (hm:mg "lifted" = some (.ref f)) (D_shared_bottom:Def P w K mg base k "shared_bottom" 1 d_shared_bottom) (D_raised:Def P w K mg base k "raised" 2 d_raised) (m_max:mg "max" = none) :
  Def P w K mg base (k + 1) "lifted" 1 (cW 2 1 (oX d_shared_bottom d_raised)):=
 bZ F rR hb hm fun cdv A outer s H E hr=>(ay (bJ 1 rR.nd rfl (Or.inl rfl) (aL D_shared_bottom hr rfl (ag (af 0 (pv 0)) au) (ah aG)))
  (aF (bg (gP (ag (af 0 (pv 0)) (ag (aL D_raised hr rfl (ag (af 0 (pv 0)) (ag (af 1 (pv 1)) au)) (ah (ah aG))) (ag (af 1 (pv 1)) (ag (Fy rfl rfl m_max (cI (N':=["top", "bottom"]) (no:=2) (cap:=[]) rfl rfl (aK rfl) rfl (bH rfl) (cj (af 0 (pv 0))) (fun _ _ _ _ _ _=>(ek rfl (aT (aE 0 nT rfl (Or.inl rfl)) (aT (aE 1 nT rfl (Or.inl rfl)) da)) (aZ (aZ dR)))) (fun _ _ _ _ _ _=>bu) (fun _ _ _ _ _ _=>(ky (af 1 (pv 1))))) aw) au))))))))
theorem gg:(["left", "right"]:List Str).Nodup:=by decide +kernel
abbrev fQ:Stmt:=top 33
def fL (d_weighed d_frac:List T -> Option T):FS:=
  (bf (kZ (ae 0) (cT (aI (ao 2) (aI (ao 3) (aI (ao 4) (aI (ao 5) cD))))))
  (bf (kZ (ae 1) (cT (aI (ao 6) (aI (ao 7) (aI (ao 8) (aI (ao 9) cD))))))
  (bf (ck (eE (aH rG (aH cF (uI ju (ae 4)) (uI ju (ae 8))) (aH cF (aH bh (fC (.int 4)) (aH cF (ae 5) (ae 9))) (fC (.int 128))))) (bN (ai d_weighed (aa (ae 2) (aa (ae 6) aj)))) bI)
  (bN (ai d_frac (aa (ai BS (aa (cm 2 [] (eR (aa (ae 3) (aa (ae 7) aj))) (cT (aI (ao 0) (aI (ao 1) cD))) av (aH bh (ae 0) (ae 1))) aj)) (aa (aH bh (ae 4) (ae 8)) aj)))))))
theorem bC:aS ["one", "other", "row", "tops", "low", "longest", "other_row", "other_tops", "other_low", "other_longest"] ["one", "other"] (ax fQ):=by walk_at "sc"
theorem mC {d_weighed:List T -> Option T} {d_frac:List T -> Option T} (F:fG K "weighed_lifted" "weighed_lifted" fQ f fd) (hb:Binds K fd ["one", "other"] []) (hm:mg "weighed_lifted" = some (.ref f)) (D_weighed:Def P w K mg base k "weighed" 2 d_weighed) (D_frac:Def P w K mg base k "frac" 2 d_frac) (m_zip:mg "zip" = none) (m_sum:mg "sum" = none) :
  Def P w K mg base (k + 1) "weighed_lifted" 2 (cW 10 2 (fL d_weighed d_frac)):=
 bZ F bC hb hm fun cdv A outer s H E hr=>(ay (lT (af 0 (pv 0)) (ek rfl (aT (aE 2 bC.nd rfl (Or.inl rfl)) (aT (aE 3 bC.nd rfl (Or.inl rfl)) (aT (aE 4 bC.nd rfl (Or.inl rfl)) (aT (aE 5 bC.nd rfl (Or.inl rfl)) da)))) (aZ (aZ (aZ (aZ dR))))))
  (ay (lT (af 1 (pv 1)) (ek rfl (aT (aE 6 bC.nd rfl (Or.inl rfl)) (aT (aE 7 bC.nd rfl (Or.inl rfl)) (aT (aE 8 bC.nd rfl (Or.inl rfl)) (aT (aE 9 bC.nd rfl (Or.inl rfl)) da)))) (aZ (aZ (aZ (aZ dR))))))
  (ay (dm (cO nV (aM dc (ky (af 4 (pv 4))) (ky (af 8 (pv 8)))) (aM dc (aM bB aw (aM dc (af 5 (pv 5)) (af 9 (pv 9)))) aw) (bK _)) (aF (bg (aL D_weighed hr rfl (ag (af 2 (pv 2)) (ag (af 6 (pv 6)) au)) (ah (ah aG))))) bR)
  (aF (bg (aL D_frac hr rfl (ag (aO (BI rfl) rfl m_sum rfl (ag (cI (N':=["left", "right"]) (no:=2) (cap:=[]) rfl rfl (aK rfl) rfl (bH rfl) (nB rfl m_zip (ag (af 3 (pv 3)) (ag (af 7 (pv 7)) au))) (fun _ _ _ _ _ _=>(ek rfl (aT (aE 0 gg rfl (Or.inl rfl)) (aT (aE 1 gg rfl (Or.inl rfl)) da)) (aZ (aZ dR)))) (fun _ _ _ _ _ _=>bu) (fun _ _ _ _ _ _=>(aM bB (af 0 (pv 0)) (af 1 (pv 1))))) au)) (ag (aM bB (af 4 (pv 4)) (af 8 (pv 8))) au)) (ah (ah aG))))))))
abbrev gb:Stmt:=top 34
def fY (d_common:List T -> Option T):FS:=
  (bf (bU 1 (fC (.int 1)))
  (bf (k9 (aX (ae 0)) (cT (aI (ao 2) (aI (ao 3) cD))) (bU 1 (aH bh (aH cG (ae 1) (ai d_common (aa (ae 1) (aa (ae 3) aj)))) (ae 3))))
  (bN (ae 1))))
theorem di:aS ["row", "low", "top", "bottom"] ["row"] (ax gb):=by walk_at "sc"
theorem ng {d_common:List T -> Option T} (F:fG K "shared_bottom" "shared_bottom" gb f fd) (hb:Binds K fd ["row"] []) (hm:mg "shared_bottom" = some (.ref f)) (D_common:Def P w K mg base k "common" 2 d_common) :
  Def P w K mg base (k + 1) "shared_bottom" 1 (cW 4 1 (fY d_common)):=
 bZ F di hb hm fun cdv A outer s H E hr=>(ay (bJ 1 di.nd rfl (Or.inl rfl) aw)
  (ay (nF PassesOwn.never rfl (cj (af 0 (pv 0))) (ek rfl (aT (aE 2 di.nd rfl (Or.inl rfl)) (aT (aE 3 di.nd rfl (Or.inl rfl)) da)) (aZ (aZ dR))) (aF (bJ 1 di.nd rfl (Or.inl rfl) (aM bB (aM cu (af 1 (pv 1)) (aL D_common hr rfl (ag (af 1 (pv 1)) (ag (af 3 (pv 3)) au)) (ah (ah aG)))) (af 3 (pv 3))))))
  (aF (bg (af 1 (pv 1))))))
theorem nU:(["top", "bottom", "low"]:List Str).Nodup:=by decide +kernel
abbrev p7:Stmt:=top 35
def uQ:FS:=
  (bN (cm 2 [1] (aX (ae 0)) (cT (aI (ao 0) (aI (ao 1) cD))) av (aH bh (ae 0) (aH cG (ae 2) (ae 1)))))
theorem A9:aS ["row", "low"] ["row", "low"] (ax p7):=by walk_at "sc"
theorem AX (F:fG K "raised" "raised" p7 f fd) (hb:Binds K fd ["row", "low"] []) (hm:mg "raised" = some (.ref f)) :
  Def P w K mg base (k + 1) "raised" 2 (cW 2 2 (uQ)):=
 bZ F A9 hb hm fun cdv A outer s H E hr=>(aF (bg (cI (N':=["top", "bottom", "low"]) (no:=2) (cap:=[1]) rfl rfl (aK rfl) rfl (bH rfl) (cj (af 0 (pv 0))) (fun _ _ _ _ _ _=>(ek rfl (aT (aE 0 nU rfl (Or.inl rfl)) (aT (aE 1 nU rfl (Or.inl rfl)) da)) (aZ (aZ dR)))) (fun _ _ _ _ _ _=>bu) (fun _ _ _ _ _ _=>(aM bB (af 0 (pv 0)) (aM cu (af 2 (pv 2)) (af 1 (pv 1))))))))
theorem vT:(["place", "table"]:List Str).Nodup:=by decide +kernel
theorem vU:(["row", "place"]:List Str).Nodup:=by decide +kernel
abbrev p8:Stmt:=top 36
def jF:yN:=
  (jI (cJ 1 [0] (fq (aa (ae 1) aj)) (ao 0) av (cJ 1 [0] (aX (ae 1)) (ao 0) av (md (aH cn (ae 0) (ae 1))))))
theorem Ba:aS ["table", "wide"] ["table", "wide"] (ax p8):=by walk_at "sc"
theorem yb (F:fG K "turned" "turned" p8 f fd) (hb:Binds K fd ["table", "wide"] []) (hm:mg "turned" = some (.ref f)) (m_range:mg "range" = none) :
  gB P w K mg base (k + 1) "turned" 2 (jG 2 2 (jF)):=
 lZ F Ba hb hm fun cdv A outer s H E hr=>(oO (fA (N':=["place", "table"]) (no:=1) (cap:=[0]) rfl rfl (aK rfl) rfl (bH rfl) (mL rfl m_range (ag (af 1 (pv 1)) au)) (fun _ _ _ _ _ _=>(aE 0 vT rfl (Or.inr rfl))) (fun _ _ _ _ _ _=>bu) (fun _ _ _ _ _ _=>(fA (N':=["row", "place"]) (no:=1) (cap:=[0]) rfl rfl (aK rfl) rfl (bH rfl) (cj (af 1 (pv 1))) (fun _ _ _ _ _ _=>(aE 0 vU rfl (Or.inl rfl))) (fun _ _ _ _ _ _=>bu) (fun _ _ _ _ _ _=>(SE.seo (bE bG (af 0 (pv 0)) (af 1 (pv 1)) (fun _ _=>rfl))))))))
theorem mz:(["left", "right"]:List Str).Nodup:=by decide +kernel
abbrev nv:Stmt:=top 37
def kn:FS:=
  (bN (cm 2 [] (eR (aa (ae 0) (aa (ae 1) aj))) (cT (aI (ao 0) (aI (ao 1) cD))) av (aH cF (ae 0) (ae 1))))
theorem yt:aS ["one", "other"] ["one", "other"] (ax nv):=by walk_at "sc"
theorem ye (F:fG K "widened" "widened" nv f fd) (hb:Binds K fd ["one", "other"] []) (hm:mg "widened" = some (.ref f)) (m_zip:mg "zip" = none) :
  Def P w K mg base (k + 1) "widened" 2 (cW 2 2 (kn)):=
 bZ F yt hb hm fun cdv A outer s H E hr=>(aF (bg (cI (N':=["left", "right"]) (no:=2) (cap:=[]) rfl rfl (aK rfl) rfl (bH rfl) (nB rfl m_zip (ag (af 0 (pv 0)) (ag (af 1 (pv 1)) au))) (fun _ _ _ _ _ _=>(ek rfl (aT (aE 0 mz rfl (Or.inl rfl)) (aT (aE 1 mz rfl (Or.inl rfl)) da)) (aZ (aZ dR)))) (fun _ _ _ _ _ _=>bu) (fun _ _ _ _ _ _=>(aM dc (af 0 (pv 0)) (af 1 (pv 1)))))))
theorem og:(["given", "ins"]:List Str).Nodup:=by decide +kernel
abbrev jl:Stmt:=top 40
def gk (d_is_row:List T -> Option T):FS:=
  (bf (ck (cK (cM (ai d_is_row (aa (ae 2) (aa (ae 0) aj))))) fj bI)
  (bf (ck (mZ (cK (cM (ai bj (aa (ae 3) (aa (fC (.ty "list")) aj))))) (eE (aH rG (ai bY (aa (ae 3) aj)) (fC (.int 60))))) fj bI)
  (ck (cK (cM (ai ph (aa (cm 1 [1] (aX (ae 3)) (ao 0) av (ai d_is_row (aa (ae 0) (aa (ae 1) aj)))) aj)))) fj bI)))
theorem qW:aS ["cells", "ins", "start", "inputs"] ["cells", "ins", "start", "inputs"] (ax jl):=by walk_at "sc"
theorem qV {d_is_row:List T -> Option T} {t_MOST_TURNS:Tok} (F:fG K "refuse_run" "refuse_run" jl f fd) (hb:Binds K fd ["cells", "ins", "start", "inputs"] []) (hm:mg "refuse_run" = some (.ref f)) (D_is_row:Def P w K mg base k "is_row" 2 d_is_row) (m_list:mg "list" = none) (m_isinstance:mg "isinstance" = none) (m_len:mg "len" = none) (m_all:mg "all" = none) (g_MOST_TURNS:mg "MOST_TURNS" = some (.int 60 t_MOST_TURNS)) :
  Def P w K mg base (k + 1) "refuse_run" 4 (cW 4 4 (gk d_is_row)):=
 bZ F qW hb hm fun cdv A outer s H E hr=>(ay (dm (dC (dP (aL D_is_row hr rfl (ag (af 2 (pv 2)) (ag (af 0 (pv 0)) au)) (ah (ah aG))))) (aF iO) bR)
  (ay (dm (SW.st (kf (dC (dP (aO eM rfl m_isinstance rfl (ag (af 3 (pv 3)) (ag (gQ rfl m_list rfl) au))))) (kg (cO nV (aO cS rfl m_len PySem.boot_len (ag (af 3 (pv 3)) au)) (gO rfl g_MOST_TURNS) (bK _))))) (aF iO) bR)
  (aF (dm (dC (dP (aO (xo rfl) rfl m_all rfl (ag (cI (N':=["given", "ins"]) (no:=1) (cap:=[1]) rfl rfl (aK rfl) rfl (bH rfl) (cj (af 3 (pv 3))) (fun _ _ _ _ _ _=>(aE 0 og rfl (Or.inl rfl))) (fun _ _ _ _ _ _=>bu) (fun _ _ _ _ _ _=>(aL D_is_row hr rfl (ag (af 0 (pv 0)) (ag (af 1 (pv 1)) au)) (ah (ah aG))))) au)))) (aF iO) bR))))
theorem jy:(["table"]:List Str).Nodup:=by decide +kernel
theorem jz:(["row"]:List Str).Nodup:=by decide +kernel
abbrev eO:Stmt:=inClass (top 44) 0
def dw (d_is_system:List T -> Option T):Addr -> FI:=
  (Cv (ck (cK (cM (ai d_is_system (aa (ae 1) (aa (ae 2) (aa (ae 3) (aa (ae 4) aj))))))) fj bI)
  (Cv (ck (eE (aH rG (ai bY (aa (ae 1) aj)) (fC (.int 8)))) fj bI)
  (Ex "four" (ai dO (aa (cm 1 [] (aX (ir (aa (ae 1) (aa (ae 2) (aa (ae 3) (aa (ae 4) aj)))))) (ao 0) av (ai dO (aa (cm 1 [] (aX (ae 0)) (ao 0) av (ai dO (aa (ae 0) aj))) aj))) aj))
  JL)))
theorem kI:aS ["self", "move", "push", "look", "through"] ["self", "move", "push", "look", "through"] (ax eO):=by walk_at "sc"
theorem ya {d_is_system:List T -> Option T} {t_MOST_CELLS:Tok} {C:Addr} {cx:Str} (F:fG K "__init__" "System.__init__" eO f fd) (hb:Binds K fd ["self", "move", "push", "look", "through"] []) (cl:lV K C) (M:Mk K C f) (hm:mg cx=some (.ref C)) (n_four:eL K C "four") (D_is_system:Def P w K mg base k "is_system" 4 d_is_system) (m_len:mg "len" = none) (m_tuple:mg "tuple" = none) (g_MOST_CELLS:mg "MOST_CELLS" = some (.int 8 t_MOST_CELLS)) :
  oS P w K mg base (k + 2) cx C 4 (dI 5 4 (dw d_is_system)):=
 Ey F kI hb M hm rfl fun cdv A outer s H E hr=>(zZ (dm (dC (dP (aL D_is_system hr rfl (ag (af 1 (pv 1)) (ag (af 2 (pv 2)) (ag (af 3 (pv 3)) (ag (af 4 (pv 4)) au)))) (ah (ah (ah (ah aG))))))) (aF iO) bR)
  (zZ (dm (cO nV (aO cS rfl m_len PySem.boot_len (ag (af 1 (pv 1)) au)) (gO rfl g_MOST_CELLS) (bK _)) (aF iO) bR)
  (FJ cl n_four (pv 0) (dM iI rfl m_tuple rfl (ag (cI (N':=["table"]) (no:=1) (cap:=[]) rfl rfl (aK rfl) rfl (bH rfl) (cj (gP (ag (af 1 (pv 1)) (ag (af 2 (pv 2)) (ag (af 3 (pv 3)) (ag (af 4 (pv 4)) au)))))) (fun _ _ _ _ _ _=>(aE 0 jy rfl (Or.inl rfl))) (fun _ _ _ _ _ _=>bu) (fun _ _ _ _ _ _=>(dM iI rfl m_tuple rfl (ag (cI (N':=["row"]) (no:=1) (cap:=[]) rfl rfl (aK rfl) rfl (bH rfl) (cj (af 0 (pv 0))) (fun _ _ _ _ _ _=>(aE 0 jz rfl (Or.inl rfl))) (fun _ _ _ _ _ _=>bu) (fun _ _ _ _ _ _=>(dM iI rfl m_tuple rfl (ag (af 0 (pv 0)) au)))) au)))) au))
  FK)))
abbrev fZ:Stmt:=inClass (top 44) 1
def jt (c_System:Addr):FS:=
  (bN (ai bY (aa (aH cn (xv [c_System] "four" (ae 0)) (fC (.int 0))) aj)))
theorem ny:aS ["self"] ["self"] (ax fZ):=by walk_at "sc"
theorem mB {c_System:Addr} {C:Addr} (F:fG K "cells" "System.cells" fZ f fd) (hb:Binds K fd ["self"] []) (cl:lV K C) (hm:Meth K C "cells" f) (hf_four:∀ C ∈ [c_System],lV K C /\ eL K C "four") (m_len:mg "len" = none) :
  fX P w K mg base (k + 1) C "cells" 1 (cW 1 1 (jt c_System)):=
 oG F ny hb cl hm fun cdv A outer s H E hr=>(aF (bg (aO cS rfl m_len PySem.boot_len (ag (bE bG (qd hf_four (af 0 (pv 0))) aw (fun _ _=>rfl)) au))))
abbrev iw:Stmt:=inClass (top 44) 2
def kM (c_System:Addr):FS:=
  (bN (ai bY (aa (aH cn (aH cn (xv [c_System] "four" (ae 0)) (fC (.int 3))) (fC (.int 0))) aj)))
theorem qb:aS ["self"] ["self"] (ax iw):=by walk_at "sc"
theorem oh {c_System:Addr} {C:Addr} (F:fG K "ins" "System.ins" iw f fd) (hb:Binds K fd ["self"] []) (cl:lV K C) (hm:Meth K C "ins" f) (hf_four:∀ C ∈ [c_System],lV K C /\ eL K C "four") (m_len:mg "len" = none) :
  fX P w K mg base (k + 1) C "ins" 1 (cW 1 1 (kM c_System)):=
 oG F qb hb cl hm fun cdv A outer s H E hr=>(aF (bg (aO cS rfl m_len PySem.boot_len (ag (bE bG (bE bG (qd hf_four (af 0 (pv 0))) aw (fun _ _=>rfl)) aw (fun _ _=>rfl)) au))))
abbrev gG:Stmt:=inClass (top 44) 3
def jC (c_System:Addr):FS:=
  (bN (ai bY (aa (aH cn (xv [c_System] "four" (ae 0)) (fC (.int 3))) aj)))
theorem om:aS ["self"] ["self"] (ax gG):=by walk_at "sc"
theorem m9 {c_System:Addr} {C:Addr} (F:fG K "outs" "System.outs" gG f fd) (hb:Binds K fd ["self"] []) (cl:lV K C) (hm:Meth K C "outs" f) (hf_four:∀ C ∈ [c_System],lV K C /\ eL K C "four") (m_len:mg "len" = none) :
  fX P w K mg base (k + 1) C "outs" 1 (cW 1 1 (jC c_System)):=
 oG F om hb cl hm fun cdv A outer s H E hr=>(aF (bg (aO cS rfl m_len PySem.boot_len (ag (bE bG (qd hf_four (af 0 (pv 0))) aw (fun _ _=>rfl)) au))))
theorem kG:(["table"]:List Str).Nodup:=by decide +kernel
theorem kH:(["row"]:List Str).Nodup:=by decide +kernel
abbrev fP:Stmt:=inClass (top 44) 4
def dZ (c_System:Addr):aB -> Option (List O):=
  (zk (B9 (cJ 1 [] (aX (xv [c_System] "four" (ae 0))) (ao 0) av (cJ 1 [] (aX (ae 0)) (ao 0) av (iq (ae 0))))))
theorem mF:aS ["self"] ["self"] (ax fP):=by walk_at "sc"
theorem lF {c_System:Addr} {C:Addr} (F:fG K "tables" "System.tables" fP f fd) (hb:Binds K fd ["self"] []) (cl:lV K C) (hm:Meth K C "tables" f) (hf_four:∀ C ∈ [c_System],lV K C /\ eL K C "four") (m_tuple:mg "tuple" = none) (m_list:mg "list" = none) :
  kK P w K mg base (k + 1) C "tables" 1 (uV 1 1 (dZ c_System)):=
 CS F mF hb cl hm fun cdv A outer s H E hr=>(wM (yw rfl m_tuple (fA (N':=["table"]) (no:=1) (cap:=[]) rfl rfl (aK rfl) rfl (bH rfl) (cj (qd hf_four (af 0 (pv 0)))) (fun _ _ _ _ _ _=>(aE 0 kG rfl (Or.inl rfl))) (fun _ _ _ _ _ _=>bu) (fun _ _ _ _ _ _=>(fA (N':=["row"]) (no:=1) (cap:=[]) rfl rfl (aK rfl) rfl (bH rfl) (cj (af 0 (pv 0))) (fun _ _ _ _ _ _=>(aE 0 kH rfl (Or.inl rfl))) (fun _ _ _ _ _ _=>bu) (fun _ _ _ _ _ _=>(qf rfl m_list (af 0 (pv 0)))))))))
abbrev gH:Stmt:=inClass (top 44) 5
def jD (c_System:Addr):FS:=
  (bN (xv [c_System] "four" (ae 0)))
theorem oo:aS ["self"] ["self"] (ax gH):=by walk_at "sc"
theorem nc {c_System:Addr} {C:Addr} (F:fG K "told" "System.told" gH f fd) (hb:Binds K fd ["self"] []) (cl:lV K C) (hm:Meth K C "told" f) (hf_four:∀ C ∈ [c_System],lV K C /\ eL K C "four") :
  fX P w K mg base (k + 1) C "told" 1 (cW 1 1 (jD c_System)):=
 oG F oo hb cl hm fun cdv A outer s H E hr=>(aF (bg (qd hf_four (af 0 (pv 0)))))
abbrev jX:Stmt:=top 45
def hW (d_is_table:List T -> Option T):FS:=
  (bf (ck (mZ (cK (cM (ai bj (aa (ae 0) (aa (fC (.ty "list")) aj))))) (mZ (cK (cM (ai bj (aa (ae 3) (aa (fC (.ty "list")) aj))))) (cK (eE (jH AG AG (fC (.int 1)) (ai bY (aa (ae 3) aj)) (fC (.int 2))))))) (bN (fC (.bl false))) bI)
  (bf (ck (mZ (cK (cM (ai bj (aa (aH cn (ae 3) (fC (.int 0))) (aa (fC (.ty "list")) aj))))) (cK (eE (jH AG AG (fC (.int 1)) (ai bY (aa (aH cn (ae 3) (fC (.int 0))) aj)) (fC (.int 2)))))) (bN (fC (.bl false))) bI)
  (bf (zj 4 5 6 (aa (ai bY (aa (ae 0) aj)) (aa (ai bY (aa (aH cn (ae 3) (fC (.int 0))) aj)) (aa (ai bY (aa (ae 3) aj)) aj))))
  (bN (dQ (ai d_is_table (aa (ae 0) (aa (ae 4) (aa (ae 4) aj)))) (dQ (ai d_is_table (aa (ae 1) (aa (ae 4) (aa (ae 5) aj)))) (dQ (ai d_is_table (aa (ae 2) (aa (ae 6) (aa (ae 4) aj)))) (ai d_is_table (aa (ae 3) (aa (ae 6) (aa (ae 5) aj)))))))))))
theorem mH:aS ["move", "push", "look", "through", "cells", "ins", "outs"] ["move", "push", "look", "through"] (ax jX):=by walk_at "sc"
theorem uf {d_is_table:List T -> Option T} {t_MOST_LINES:Tok} (F:fG K "is_system" "is_system" jX f fd) (hb:Binds K fd ["move", "push", "look", "through"] []) (hm:mg "is_system" = some (.ref f)) (D_is_table:Def P w K mg base k "is_table" 3 d_is_table) (m_list:mg "list" = none) (m_isinstance:mg "isinstance" = none) (m_len:mg "len" = none) (g_MOST_LINES:mg "MOST_LINES" = some (.int 2 t_MOST_LINES)) :
  Def P w K mg base (k + 1) "is_system" 4 (cW 7 4 (hW d_is_table)):=
 bZ F mH hb hm fun cdv A outer s H E hr=>(ay (dm (SW.st (kf (dC (dP (aO eM rfl m_isinstance rfl (ag (af 0 (pv 0)) (ag (gQ rfl m_list rfl) au))))) (kf (dC (dP (aO eM rfl m_isinstance rfl (ag (af 3 (pv 3)) (ag (gQ rfl m_list rfl) au))))) (kg (dC (wN zK zK aw (aO cS rfl m_len PySem.boot_len (ag (af 3 (pv 3)) au)) (gO rfl g_MOST_LINES))))))) (aF (bg ig)) bR)
  (ay (dm (SW.st (kf (dC (dP (aO eM rfl m_isinstance rfl (ag (bE bG (af 3 (pv 3)) aw (fun _ _=>rfl)) (ag (gQ rfl m_list rfl) au))))) (kg (dC (wN zK zK aw (aO cS rfl m_len PySem.boot_len (ag (bE bG (af 3 (pv 3)) aw (fun _ _=>rfl)) au)) (gO rfl g_MOST_LINES)))))) (aF (bg ig)) bR)
  (ay (FU rfl mH.nd rfl rfl rfl (by decide) (by decide) (by decide) rfl rfl rfl (ag (aO cS rfl m_len PySem.boot_len (ag (af 0 (pv 0)) au)) (ag (aO cS rfl m_len PySem.boot_len (ag (bE bG (af 3 (pv 3)) aw (fun _ _=>rfl)) au)) (ag (aO cS rfl m_len PySem.boot_len (ag (af 3 (pv 3)) au)) au))) rfl)
  (aF (bg (fy (aL D_is_table hr rfl (ag (af 0 (pv 0)) (ag (af 4 (pv 4)) (ag (af 4 (pv 4)) au))) (ah (ah (ah aG)))) (fy (aL D_is_table hr rfl (ag (af 1 (pv 1)) (ag (af 4 (pv 4)) (ag (af 5 (pv 5)) au))) (ah (ah (ah aG)))) (fy (aL D_is_table hr rfl (ag (af 2 (pv 2)) (ag (af 6 (pv 6)) (ag (af 4 (pv 4)) au))) (ah (ah (ah aG)))) (lS (aL D_is_table hr rfl (ag (af 3 (pv 3)) (ag (af 6 (pv 6)) (ag (af 5 (pv 5)) au))) (ah (ah (ah aG)))))))))))))
abbrev Dy:Stmt:=top 46
def yR (c_System:Addr) (d_refuse_run d_widened d_applied:List T -> Option T) (dO_applied:List T -> Option O) (dM_System__cells dM_System__ins dM_System__tables:List T -> Option T):aB -> Option (List O):=
  (ma (u9 (ai d_refuse_run (aa (dk [(c_System,dM_System__cells)] "cells" (ae 0) aj) (aa (dk [(c_System,dM_System__ins)] "ins" (ae 0) aj) (aa (ae 1) (aa (ae 2) aj))))))
  (ma (kZ (dk [(c_System,dM_System__tables)] "tables" (ae 0) aj) (cT (aI (ao 3) (aI (ao 4) (aI (ao 5) (aI (ao 6) cD))))))
  (ma (n0 7 8 (aa (ai d_widened (aa (ae 3) (aa (ae 4) aj))) (aa (ai d_widened (aa (ae 5) (aa (ae 6) aj))) aj)))
  (ma (nN 9 (iq (ae 1)))
  (ma (fm 10 aj)
  (ma (k9 (aX (ae 2)) (ao 11) (bf (kY 10 (ai d_applied (aa (ae 8) (aa (aH cF (ae 9) (ae 11)) aj))))
  (nN 9 (ff dO_applied (aa (ae 7) (aa (aH cF (ae 9) (ae 11)) aj))))))
  (zk (B6 (ae 10) (B8 9)))))))))
theorem iC:aS ["system", "start", "inputs", "move", "push", "look", "through", "onward", "outward", "state", "outputs", "given"] ["system", "start", "inputs"] (ax Dy):=by walk_at "sc"
theorem EX {c_System:Addr} {d_refuse_run:List T -> Option T} {d_widened:List T -> Option T} {d_applied:List T -> Option T} {dO_applied:List T -> Option O} {dM_System__cells:List T -> Option T} {dM_System__ins:List T -> Option T} {dM_System__tables:List T -> Option T} (F:fG K "run" "run" Dy f fd) (hb:Binds K fd ["system", "start", "inputs"] []) (hm:mg "run" = some (.ref f)) (D_refuse_run:Def P w K mg base k "refuse_run" 4 d_refuse_run) (D_widened:Def P w K mg base k "widened" 2 d_widened) (D_applied:Def P w K mg base k "applied" 2 d_applied) (DO_applied:gB P w K mg base k "applied" 2 dO_applied) (DM_cells:∀ a ∈ [(c_System,dM_System__cells)],fX P w K mg base k a.1 "cells" 1 a.2) (DM_ins:∀ a ∈ [(c_System,dM_System__ins)],fX P w K mg base k a.1 "ins" 1 a.2) (DM_tables:∀ a ∈ [(c_System,dM_System__tables)],fX P w K mg base k a.1 "tables" 1 a.2) (m_list:mg "list" = none) :
  qE P w K mg base (k + 1) "run" 3 (uV 12 3 (yR c_System d_refuse_run d_widened d_applied dO_applied dM_System__cells dM_System__ins dM_System__tables)):=
 Ej F iC hb hm fun cdv A outer s H E hr=>(gy (FR (aL D_refuse_run hr rfl (ag (fz DM_cells hr (af 0 (pv 0))) (ag (fz DM_ins hr (af 0 (pv 0))) (ag (af 1 (pv 1)) (ag (af 2 (pv 2)) au)))) (ah (ah (ah (ah aG))))))
  (gy (lT (fz DM_tables hr (af 0 (pv 0))) (ek rfl (aT (aE 3 iC.nd rfl (Or.inl rfl)) (aT (aE 4 iC.nd rfl (Or.inl rfl)) (aT (aE 5 iC.nd rfl (Or.inl rfl)) (aT (aE 6 iC.nd rfl (Or.inl rfl)) da)))) (aZ (aZ (aZ (aZ dR))))))
  (gy (qj rfl iC.nd rfl rfl (by decide) rfl rfl (ag (aL D_widened hr rfl (ag (af 3 (pv 3)) (ag (af 4 (pv 4)) au)) (ah (ah aG))) (ag (aL D_widened hr rfl (ag (af 5 (pv 5)) (ag (af 6 (pv 6)) au)) (ah (ah aG))) au)) rfl)
  (gy (Ad 9 iC.nd rfl (Or.inl rfl) (qf rfl m_list (af 1 (pv 1))))
  (gy (nG 10 iC.nd rfl (Or.inl rfl) au)
  (gy (nF PassesOwn.never rfl (cj (af 2 (pv 2))) (aE 11 iC.nd rfl (Or.inl rfl)) (ay (nE 10 (pv 10) (aL D_applied hr rfl (ag (af 8 (pv 8)) (ag (aM dc (af 9 (pv 9)) (af 11 (pv 11))) au)) (ah (ah aG))))
  (aF (Ad 9 iC.nd rfl (Or.inl rfl) (iN DO_applied hr rfl (ag (af 7 (pv 7)) (ag (aM dc (af 9 (pv 9)) (af 11 (pv 11))) au)) (ah (ah aG)))))))
  (wM (Be (af 10 (pv 10)) (DA 9 (pv 9))))))))))
abbrev jQ:Stmt:=top 48
def gY:FS:=
  (bf (ck (eE (aH IL (ae 1) (ai bY (aa (ae 0) aj)))) (bN (aH cn (ae 0) (ae 1))) bI)
  (bN (fC (.int 0))))
theorem uw:aS ["_law_script", "_law_k"] ["_law_script", "_law_k"] (ax jQ):=by walk_at "sc"
theorem ua (F:fG K "_law_cell" "_law_cell" jQ f fd) (hb:Binds K fd ["_law_script", "_law_k"] []) (hm:mg "_law_cell" = some (.ref f)) (m_len:mg "len" = none) :
  Def P w K mg base (k + 1) "_law_cell" 2 (cW 2 2 (gY)):=
 bZ F uw hb hm fun cdv A outer s H E hr=>(ay (dm (cO C6 (af 1 (pv 1)) (aO cS rfl m_len PySem.boot_len (ag (af 0 (pv 0)) au)) (bK _)) (aF (bg (bE bG (af 0 (pv 0)) (af 1 (pv 1)) (fun _ _=>rfl)))) bR)
  (aF (bg aw)))
abbrev jj:Stmt:=top 49
def iY:FS:=
  (bf (bU 2 (aH cV (aH cF (aH cF (ae 0) (aH bh (fC (.int 7919)) (ae 1))) (fC (.int 12345))) (fC (.int 2147483629))))
  (bf (bU 2 (aH cV (aH cF (aH bh (ae 2) (ae 2)) (aH bh (fC (.int 48271)) (ae 1))) (fC (.int 2147483629))))
  (bN (aH cV (aH bh (ae 2) (ae 2)) (fC (.int 2147483587))))))
theorem iA:aS ["_law_cell_here", "_law_k", "_law_number"] ["_law_cell_here", "_law_k"] (ax jj):=by walk_at "sc"
theorem qT (F:fG K "_law_mixed" "_law_mixed" jj f fd) (hb:Binds K fd ["_law_cell_here", "_law_k"] []) (hm:mg "_law_mixed" = some (.ref f)) :
  Def P w K mg base (k + 1) "_law_mixed" 2 (cW 3 2 (iY)):=
 bZ F iA hb hm fun cdv A outer s H E hr=>(ay (bJ 2 iA.nd rfl (Or.inl rfl) (aM dA (aM dc (aM dc (af 0 (pv 0)) (aM bB aw (af 1 (pv 1)))) aw) aw))
  (ay (bJ 2 iA.nd rfl (Or.inl rfl) (aM dA (aM dc (aM bB (af 2 (pv 2)) (af 2 (pv 2))) (aM bB aw (af 1 (pv 1)))) aw))
  (aF (bg (aM dA (aM bB (af 2 (pv 2)) (af 2 (pv 2))) aw)))))
abbrev gJ:Stmt:=top 50
def gD (n:Nat):FS:=
  (bf (bU 0 (ai mX (aa (ae 0) aj)))
  (bf (bU 1 (ai mX (aa (ae 1) aj)))
  (bf (eP (eE (aH rG (ae 1) (fC (.int 0)))) (n0 0 1 (aa (ae 1) (aa (aH cV (ae 0) (ae 1)) aj))) n)
  (bN (ae 0)))))
theorem eJ:aS ["_law_one", "_law_other"] ["_law_one", "_law_other"] (ax gJ):=by walk_at "sc"
theorem oi (n:Nat) (F:fG K "_law_divisor" "_law_divisor" gJ f fd) (hb:Binds K fd ["_law_one", "_law_other"] []) (hm:mg "_law_divisor" = some (.ref f)) (m_abs:mg "abs" = none) :
  Def P w K mg base (k + 1) "_law_divisor" 2 (cW 2 2 (gD n)):=
 bZ F eJ hb hm fun cdv A outer s H E hr=>(ay (bJ 0 eJ.nd rfl (Or.inl rfl) (aO pe rfl m_abs rfl (ag (af 0 (pv 0)) au)))
  (ay (bJ 1 eJ.nd rfl (Or.inl rfl) (aO pe rfl m_abs rfl (ag (af 1 (pv 1)) au)))
  (ay (qk n PassesOwn.never (cO nV (af 1 (pv 1)) aw (bK _)) (aF (qj rfl eJ.nd rfl rfl (by decide) rfl rfl (ag (af 1 (pv 1)) (ag (aM dA (af 0 (pv 0)) (af 1 (pv 1))) au)) rfl)))
  (aF (bg (af 0 (pv 0)))))))
abbrev jS:Stmt:=top 51
def jE (d__law_divisor:List T -> Option T):FS:=
  (bf (bU 2 (ai d__law_divisor (aa (ae 0) (aa (ae 1) aj))))
  (bN (ir (aa (aH cG (ae 0) (ae 2)) (aa (aH cG (ae 1) (ae 2)) aj)))))
theorem mG:aS ["_law_top", "_law_bottom", "_law_by"] ["_law_top", "_law_bottom"] (ax jS):=by walk_at "sc"
theorem ub {d__law_divisor:List T -> Option T} (F:fG K "_law_frac" "_law_frac" jS f fd) (hb:Binds K fd ["_law_top", "_law_bottom"] []) (hm:mg "_law_frac" = some (.ref f)) (D__law_divisor:Def P w K mg base k "_law_divisor" 2 d__law_divisor) :
  Def P w K mg base (k + 1) "_law_frac" 2 (cW 3 2 (jE d__law_divisor)):=
 bZ F mG hb hm fun cdv A outer s H E hr=>(ay (bJ 2 mG.nd rfl (Or.inl rfl) (aL D__law_divisor hr rfl (ag (af 0 (pv 0)) (ag (af 1 (pv 1)) au)) (ah (ah aG))))
  (aF (bg (gP (ag (aM cu (af 0 (pv 0)) (af 2 (pv 2))) (ag (aM cu (af 1 (pv 1)) (af 2 (pv 2))) au))))))
abbrev gK:Stmt:=top 52
def eY (d__law_frac d__law_mixed:List T -> Option T):FS:=
  (bf (fm 2 aj)
  (bf (bU 3 (aH cG (ae 0) (fC (.int 2))))
  (bf (k9 (fq (aa (ae 1) aj)) (ao 4) (ck (eE (aH jJ (aH cV (ae 0) (fC (.int 2))) (fC (.int 1)))) (bf (kY 2 (ai d__law_frac (aa (aH sN (aH cV (ae 3) (fC (.int 19))) (fC (.int 9))) (aa (aH cF (fC (.int 1)) (aH cV (aH cG (ae 3) (fC (.int 19))) (fC (.int 12)))) aj))))
  (bU 3 (aH cG (ae 3) (fC (.int 228))))) (bf (bU 5 (ai d__law_mixed (aa (ae 0) (aa (ae 4) aj))))
  (bf (bU 6 (aH cV (ae 5) (fC (.int 4))))
  (bf (kY 2 (aH cn (iJ (aa (ir (aa (fC (.int 0)) (aa (fC (.int 1)) aj))) (aa (ir (aa (aH sN (aH cV (aH cG (ae 5) (fC (.int 4))) (fC (.int 3))) (fC (.int 1))) (aa (fC (.int 1)) aj))) (aa (ir (aa (fC (.int 1)) (aa (fC (.int 2)) aj))) (aa (ir (aa (fC (.int 0)) (aa (fC (.int 1)) aj))) aj))))) (ae 6)))
  (ck (eE (aH jJ (ae 6) (fC (.int 2)))) (je 2 (ai d__law_frac (aa (aH sN (aH cV (aH cG (ae 5) (fC (.int 4))) (fC (.int 19))) (fC (.int 9))) (aa (aH cF (fC (.int 1)) (aH cV (aH cG (ae 5) (fC (.int 76))) (fC (.int 12)))) aj))) (uI xD (fC (.int 1)))) bI))))))
  (bN (ae 2)))))
theorem cL:aS ["_law_cell_here", "_law_many", "_law_found", "_law_rest", "_law_k", "_law_number", "_law_kind"] ["_law_cell_here", "_law_many"] (ax gK):=by walk_at "sc"
theorem oj {d__law_frac:List T -> Option T} {d__law_mixed:List T -> Option T} (F:fG K "_law_numbers" "_law_numbers" gK f fd) (hb:Binds K fd ["_law_cell_here", "_law_many"] []) (hm:mg "_law_numbers" = some (.ref f)) (D__law_frac:Def P w K mg base k "_law_frac" 2 d__law_frac) (D__law_mixed:Def P w K mg base k "_law_mixed" 2 d__law_mixed) (m_range:mg "range" = none) :
  Def P w K mg base (k + 1) "_law_numbers" 2 (cW 7 2 (eY d__law_frac d__law_mixed)):=
 bZ F cL hb hm fun cdv A outer s H E hr=>(ay (nG 2 cL.nd rfl (Or.inl rfl) au)
  (ay (bJ 3 cL.nd rfl (Or.inl rfl) (aM cu (af 0 (pv 0)) aw))
  (ay (nF PassesOwn.never rfl (mL rfl m_range (ag (af 1 (pv 1)) au)) (aE 4 cL.nd rfl (Or.inl rfl)) (aF (dm (cO (jw hr.units) (aM dA (af 0 (pv 0)) aw) aw (bK _)) (ay (nE 2 (pv 2) (aL D__law_frac hr rfl (ag (aM yg (aM dA (af 3 (pv 3)) aw) aw) (ag (aM dc aw (aM dA (aM cu (af 3 (pv 3)) aw) aw)) au)) (ah (ah aG))))
  (aF (bJ 3 cL.nd rfl (Or.inl rfl) (aM cu (af 3 (pv 3)) aw)))) (ay (bJ 5 cL.nd rfl (Or.inl rfl) (aL D__law_mixed hr rfl (ag (af 0 (pv 0)) (ag (af 4 (pv 4)) au)) (ah (ah aG))))
  (ay (bJ 6 cL.nd rfl (Or.inl rfl) (aM dA (af 5 (pv 5)) aw))
  (ay (nE 2 (pv 2) (bE bG (qe (ag (gP (ag aw (ag aw au))) (ag (gP (ag (aM yg (aM dA (aM cu (af 5 (pv 5)) aw) aw) aw) (ag aw au))) (ag (gP (ag aw (ag aw au))) (ag (gP (ag aw (ag aw au))) au))))) (af 6 (pv 6)) (fun _ _=>rfl)))
  (aF (dm (cO (jw hr.units) (af 6 (pv 6)) aw (bK _)) (aF (wJ 2 (pv 2) (aL D__law_frac hr rfl (ag (aM yg (aM dA (aM cu (af 5 (pv 5)) aw) aw) aw) (ag (aM dc aw (aM dA (aM cu (af 5 (pv 5)) aw) aw)) au)) (ah (ah aG))) (GK DR aw))) bR))))))))
  (aF (bg (af 2 (pv 2)))))))
theorem pN:(["_law_k", "_law_numbers_here", "_law_wide"]:List Str).Nodup:=by decide +kernel
abbrev jV:Stmt:=top 53
def hU:yN:=
  (jI (cJ 1 [0,2] (fq (aa (ae 1) aj)) (ao 0) av (B7 (ae 1) (gc (aH bh (ae 2) (ae 0))) (gc (aH cF (aH bh (ae 2) (ae 0)) (ae 2))))))
theorem uy:aS ["_law_numbers_here", "_law_many", "_law_wide"] ["_law_numbers_here", "_law_many", "_law_wide"] (ax jV):=by walk_at "sc"
theorem qS (F:fG K "_law_rows" "_law_rows" jV f fd) (hb:Binds K fd ["_law_numbers_here", "_law_many", "_law_wide"] []) (hm:mg "_law_rows" = some (.ref f)) (m_range:mg "range" = none) :
  gB P w K mg base (k + 1) "_law_rows" 3 (jG 3 3 (hU)):=
 lZ F uy hb hm fun cdv A outer s H E hr=>(oO (fA (N':=["_law_k", "_law_numbers_here", "_law_wide"]) (no:=1) (cap:=[0,2]) rfl rfl (aK rfl) rfl (bH rfl) (mL rfl m_range (ag (af 1 (pv 1)) au)) (fun _ _ _ _ _ _=>(aE 0 pN rfl (Or.inl rfl))) (fun _ _ _ _ _ _=>bu) (fun _ _ _ _ _ _=>(Bc (af 1 (pv 1)) (jn (aM bB (af 2 (pv 2)) (af 0 (pv 0)))) (jn (aM dc (aM bB (af 2 (pv 2)) (af 0 (pv 0))) (af 2 (pv 2))))))))
abbrev jR:Stmt:=top 54
def gZ (d__law_numbers:List T -> Option T) (dO__law_rows:List T -> Option O):yN:=
  ((AI [] (bU 4 (ai d__law_numbers (aa (ae 0) (aa (aH cF (aH cF (aH cF (aH bh (ae 1) (ae 1)) (aH bh (ae 1) (ae 2))) (aH bh (ae 3) (ae 1))) (aH bh (ae 3) (ae 2))) aj))))
  (rJ [] 5 (ff dO__law_rows (aa (ae 4) (aa (ae 1) (aa (ae 1) aj))))
  (AI [5] (bU 4 (DX (ae 4) (gc (aH bh (ae 1) (ae 1))) kq))
  (rJ [5] 6 (ff dO__law_rows (aa (ae 4) (aa (ae 1) (aa (ae 2) aj))))
  (AI [5,6] (bU 4 (DX (ae 4) (gc (aH bh (ae 1) (ae 2))) kq))
  (rJ [5,6] 7 (ff dO__law_rows (aa (ae 4) (aa (ae 3) (aa (ae 1) aj))))
  (Cr (ff dO__law_rows (aa (DX (ae 4) (gc (aH bh (ae 3) (ae 1))) kq) (aa (ae 3) (aa (ae 2) aj))))))))))) [] [])
theorem dB:aS ["_law_cell_here", "_law_many", "_law_ins", "_law_outs", "_law_numbers_here", "_law_move", "_law_push", "_law_look"] ["_law_cell_here", "_law_many", "_law_ins", "_law_outs"] (ax jR):=by walk_at "sc"
theorem qR {d__law_numbers:List T -> Option T} {dO__law_rows:List T -> Option O} (F:fG K "_law_four" "_law_four" jR f fd) (hb:Binds K fd ["_law_cell_here", "_law_many", "_law_ins", "_law_outs"] []) (hm:mg "_law_four" = some (.ref f)) (D__law_numbers:Def P w K mg base k "_law_numbers" 2 d__law_numbers) (DO__law_rows:gB P w K mg base k "_law_rows" 3 dO__law_rows) :
  gB P w K mg base (k + 1) "_law_four" 4 (jG 8 4 (gZ d__law_numbers dO__law_rows)):=
 lZ F dB hb hm fun cdv A outer s H E hr=>(Bk (ql (bJ 4 dB.nd rfl (Or.inl rfl) (aL D__law_numbers hr rfl (ag (af 0 (pv 0)) (ag (aM dc (aM dc (aM dc (aM bB (af 1 (pv 1)) (af 1 (pv 1))) (aM bB (af 1 (pv 1)) (af 2 (pv 2)))) (aM bB (af 3 (pv 3)) (af 1 (pv 1)))) (aM bB (af 3 (pv 3)) (af 2 (pv 2)))) au)) (ah (ah aG))))
  (qm dB.nd rfl (Or.inl rfl) (iN DO__law_rows hr rfl (ag (af 4 (pv 4)) (ag (af 1 (pv 1)) (ag (af 1 (pv 1)) au))) (ah (ah (ah aG))))
  (ql (bJ 4 dB.nd rfl (Or.inl rfl) (mI (af 4 (pv 4)) (jn (aM bB (af 1 (pv 1)) (af 1 (pv 1)))) uE))
  (qm dB.nd rfl (Or.inl rfl) (iN DO__law_rows hr rfl (ag (af 4 (pv 4)) (ag (af 1 (pv 1)) (ag (af 2 (pv 2)) au))) (ah (ah (ah aG))))
  (ql (bJ 4 dB.nd rfl (Or.inl rfl) (mI (af 4 (pv 4)) (jn (aM bB (af 1 (pv 1)) (af 2 (pv 2)))) uE))
  (qm dB.nd rfl (Or.inl rfl) (iN DO__law_rows hr rfl (ag (af 4 (pv 4)) (ag (af 3 (pv 3)) (ag (af 1 (pv 1)) au))) (ah (ah (ah aG))))
  (DI (pv 5) (pv 6) (pv 7) (iN DO__law_rows hr rfl (ag (mI (af 4 (pv 4)) (jn (aM bB (af 3 (pv 3)) (af 1 (pv 1)))) uE) (ag (af 3 (pv 3)) (ag (af 2 (pv 2)) au))) (ah (ah (ah aG))))))))))))
theorem pM:(["_law_row"]:List Str).Nodup:=by decide +kernel
theorem jM:(["_law_top", "_law_bottom"]:List Str).Nodup:=by decide +kernel
abbrev jU:Stmt:=top 55
def hJ:FS:=
  (bN (cm 1 [] (aX (ae 0)) (ao 0) av (cm 2 [] (aX (ae 0)) (cT (aI (ao 0) (aI (ao 1) cD))) av (aH bh (ae 0) (aH cG (fC (.int 27720)) (ae 1))))))
theorem ux:aS ["_law_table"] ["_law_table"] (ax jU):=by walk_at "sc"
theorem ud (F:fG K "_law_ints" "_law_ints" jU f fd) (hb:Binds K fd ["_law_table"] []) (hm:mg "_law_ints" = some (.ref f)) :
  Def P w K mg base (k + 1) "_law_ints" 1 (cW 1 1 (hJ)):=
 bZ F ux hb hm fun cdv A outer s H E hr=>(aF (bg (cI (N':=["_law_row"]) (no:=1) (cap:=[]) rfl rfl (aK rfl) rfl (bH rfl) (cj (af 0 (pv 0))) (fun _ _ _ _ _ _=>(aE 0 pM rfl (Or.inl rfl))) (fun _ _ _ _ _ _=>bu) (fun _ _ _ _ _ _=>(cI (N':=["_law_top", "_law_bottom"]) (no:=2) (cap:=[]) rfl rfl (aK rfl) rfl (bH rfl) (cj (af 0 (pv 0))) (fun _ _ _ _ _ _=>(ek rfl (aT (aE 0 jM rfl (Or.inl rfl)) (aT (aE 1 jM rfl (Or.inl rfl)) da)) (aZ (aZ dR)))) (fun _ _ _ _ _ _=>bu) (fun _ _ _ _ _ _=>(aM bB (af 0 (pv 0)) (aM cu aw (af 1 (pv 1))))))))))
theorem kP:(["_law_here", "_law_there"]:List Str).Nodup:=by decide +kernel
abbrev lM:Stmt:=top 56
def iX:FS:=
  (bN (ai BS (aa (cm 2 [] (eR (aa (ae 0) (aa (ae 1) aj))) (cT (aI (ao 0) (aI (ao 1) cD))) av (aH bh (ae 0) (ae 1))) aj)))
theorem wD:aS ["_law_row", "_law_other"] ["_law_row", "_law_other"] (ax lM):=by walk_at "sc"
theorem wa (F:fG K "_law_dot" "_law_dot" lM f fd) (hb:Binds K fd ["_law_row", "_law_other"] []) (hm:mg "_law_dot" = some (.ref f)) (m_zip:mg "zip" = none) (m_sum:mg "sum" = none) :
  Def P w K mg base (k + 1) "_law_dot" 2 (cW 2 2 (iX)):=
 bZ F wD hb hm fun cdv A outer s H E hr=>(aF (bg (aO (BI rfl) rfl m_sum rfl (ag (cI (N':=["_law_here", "_law_there"]) (no:=2) (cap:=[]) rfl rfl (aK rfl) rfl (bH rfl) (nB rfl m_zip (ag (af 0 (pv 0)) (ag (af 1 (pv 1)) au))) (fun _ _ _ _ _ _=>(ek rfl (aT (aE 0 kP rfl (Or.inl rfl)) (aT (aE 1 kP rfl (Or.inl rfl)) da)) (aZ (aZ dR)))) (fun _ _ _ _ _ _=>bu) (fun _ _ _ _ _ _=>(aM bB (af 0 (pv 0)) (af 1 (pv 1))))) au))))
theorem tU:(["_law_part"]:List Str).Nodup:=by decide +kernel
abbrev nk:Stmt:=top 57
def kl (d__law_divisor:List T -> Option T):FS:=
  (bf (ck (mZ (cK (cM (ai bj (aa (ae 0) (aa (fC (.ty "tuple")) aj))))) (eE (aH lU (ai bY (aa (ae 0) aj)) (fC (.int 2))))) (bN (fC (.bl false))) bI)
  (bf (ck (eE (aH lU (ai bY (aa (cm 1 [] (aX (ae 0)) (ao 0) (AD (cM (ai bj (aa (ae 0) (aa (fC (.ty "int")) aj)))) (cK (cM (ai bj (aa (ae 0) (aa (fC (.ty "bool")) aj)))))) (ae 0)) aj)) (fC (.int 2)))) (bN (fC (.bl false))) bI)
  (bf (kZ (ae 0) (Cp (aI (ao 3) (aI (ao 4) cD))))
  (bN (dQ (aH rG (ae 4) (fC (.int 0))) (dQ (aH jJ (aH bh (ae 3) (ae 2)) (aH bh (ae 1) (ae 4))) (aH jJ (ai d__law_divisor (aa (ae 3) (aa (ae 4) aj))) (fC (.int 1)))))))))
theorem lP:aS ["_law_found", "_law_value", "_law_scale", "_law_top", "_law_bottom"] ["_law_found", "_law_value", "_law_scale"] (ax nk):=by walk_at "sc"
theorem yc {d__law_divisor:List T -> Option T} (F:fG K "_law_is" "_law_is" nk f fd) (hb:Binds K fd ["_law_found", "_law_value", "_law_scale"] []) (hm:mg "_law_is" = some (.ref f)) (D__law_divisor:Def P w K mg base k "_law_divisor" 2 d__law_divisor) (m_tuple:mg "tuple" = none) (m_isinstance:mg "isinstance" = none) (m_len:mg "len" = none) (m_int:mg "int" = none) (m_bool:mg "bool" = none) :
  Def P w K mg base (k + 1) "_law_is" 3 (cW 5 3 (kl d__law_divisor)):=
 bZ F lP hb hm fun cdv A outer s H E hr=>(ay (dm (SW.st (kf (dC (dP (aO eM rfl m_isinstance rfl (ag (af 0 (pv 0)) (ag (gQ rfl m_tuple rfl) au))))) (kg (cO (kQ hr.units) (aO cS rfl m_len PySem.boot_len (ag (af 0 (pv 0)) au)) aw (bK _))))) (aF (bg ig)) bR)
  (ay (dm (cO (kQ hr.units) (aO cS rfl m_len PySem.boot_len (ag (cI (N':=["_law_part"]) (no:=1) (cap:=[]) rfl rfl (aK rfl) rfl (bH rfl) (cj (af 0 (pv 0))) (fun _ _ _ _ _ _=>(aE 0 tU rfl (Or.inl rfl))) (fun _ _ _ _ _ _=>(FW (SW.st (Iu (dP (aO eM rfl m_isinstance rfl (ag (af 0 (pv 0)) (ag (gQ rfl m_int rfl) au)))) (FX (dC (dP (aO eM rfl m_isinstance rfl (ag (af 0 (pv 0)) (ag (gQ rfl m_bool rfl) au)))))))))) (fun _ _ _ _ _ _=>(af 0 (pv 0)))) au)) aw (bK _)) (aF (bg ig)) bR)
  (ay (lT (af 0 (pv 0)) (Im rfl (aT (aE 3 lP.nd rfl (Or.inl rfl)) (aT (aE 4 lP.nd rfl (Or.inl rfl)) da)) (aZ (aZ dR))))
  (aF (bg (fy (iD nV (af 4 (pv 4)) aw (bK _)) (fy (iD (jw hr.units) (aM bB (af 3 (pv 3)) (af 2 (pv 2))) (aM bB (af 1 (pv 1)) (af 4 (pv 4))) (bK _)) (lS (iD (jw hr.units) (aL D__law_divisor hr rfl (ag (af 3 (pv 3)) (ag (af 4 (pv 4)) au)) (ah (ah aG))) aw (bK _))))))))))
abbrev lL:Stmt:=top 58
def iW (d__law_is:List T -> Option T):FS:=
  (bf (ck (mZ (cK (cM (ai bj (aa (ae 0) (aa (fC (.ty "list")) aj))))) (eE (aH lU (ai bY (aa (ae 0) aj)) (ai bY (aa (ae 1) aj))))) (bN (fC (.bl false))) bI)
  (bf (k9 (eR (aa (ae 0) (aa (ae 1) aj))) (cT (aI (ao 3) (aI (ao 4) cD))) (ck (cK (cM (ai d__law_is (aa (ae 3) (aa (ae 4) (aa (ae 2) aj)))))) (bN (fC (.bl false))) bI))
  (bN (fC (.bl true)))))
theorem jY:aS ["_law_found", "_law_values", "_law_scale", "_law_number", "_law_value"] ["_law_found", "_law_values", "_law_scale"] (ax lL):=by walk_at "sc"
theorem vZ {d__law_is:List T -> Option T} (F:fG K "_law_are" "_law_are" lL f fd) (hb:Binds K fd ["_law_found", "_law_values", "_law_scale"] []) (hm:mg "_law_are" = some (.ref f)) (D__law_is:Def P w K mg base k "_law_is" 3 d__law_is) (m_list:mg "list" = none) (m_isinstance:mg "isinstance" = none) (m_len:mg "len" = none) (m_zip:mg "zip" = none) :
  Def P w K mg base (k + 1) "_law_are" 3 (cW 5 3 (iW d__law_is)):=
 bZ F jY hb hm fun cdv A outer s H E hr=>(ay (dm (SW.st (kf (dC (dP (aO eM rfl m_isinstance rfl (ag (af 0 (pv 0)) (ag (gQ rfl m_list rfl) au))))) (kg (cO (kQ hr.units) (aO cS rfl m_len PySem.boot_len (ag (af 0 (pv 0)) au)) (aO cS rfl m_len PySem.boot_len (ag (af 1 (pv 1)) au)) (bK _))))) (aF (bg ig)) bR)
  (ay (nF PassesOwn.never rfl (nB rfl m_zip (ag (af 0 (pv 0)) (ag (af 1 (pv 1)) au))) (ek rfl (aT (aE 3 jY.nd rfl (Or.inl rfl)) (aT (aE 4 jY.nd rfl (Or.inl rfl)) da)) (aZ (aZ dR))) (aF (dm (dC (dP (aL D__law_is hr rfl (ag (af 3 (pv 3)) (ag (af 4 (pv 4)) (ag (af 2 (pv 2)) au))) (ah (ah (ah aG)))))) (aF (bg ig)) bR)))
  (aF (bg ig))))
abbrev jk:Stmt:=top 59
def gj (d__law_cell:List T -> Option T):FS:=
  (bf (bU 1 (ai d__law_cell (aa (ae 0) (aa (fC (.int 0)) aj))))
  (bf (fm 2 (aa (aH cV (ae 1) (fC (.int 4))) (aa (aH cF (fC (.int 1)) (aH cV (aH cG (ae 1) (fC (.int 4))) (fC (.int 2)))) (aa (aH cF (fC (.int 1)) (aH cV (aH cG (ae 1) (fC (.int 8))) (fC (.int 2)))) aj))))
  (bf (ck (eE (aH jJ (aH cV (aH cG (ae 1) (fC (.int 16))) (fC (.int 8))) (fC (.int 1)))) (je 2 (aH cF (fC (.int 4)) (aH cV (aH cG (ae 1) (fC (.int 128))) (fC (.int 5)))) (fC (.int 0))) bI)
  (bN (ae 2)))))
theorem iB:aS ["_law_script", "_law_cell_here", "_law_shape_here"] ["_law_script"] (ax jk):=by walk_at "sc"
theorem qU {d__law_cell:List T -> Option T} (F:fG K "_law_shape" "_law_shape" jk f fd) (hb:Binds K fd ["_law_script"] []) (hm:mg "_law_shape" = some (.ref f)) (D__law_cell:Def P w K mg base k "_law_cell" 2 d__law_cell) :
  Def P w K mg base (k + 1) "_law_shape" 1 (cW 3 1 (gj d__law_cell)):=
 bZ F iB hb hm fun cdv A outer s H E hr=>(ay (bJ 1 iB.nd rfl (Or.inl rfl) (aL D__law_cell hr rfl (ag (af 0 (pv 0)) (ag aw au)) (ah (ah aG))))
  (ay (nG 2 iB.nd rfl (Or.inl rfl) (ag (aM dA (af 1 (pv 1)) aw) (ag (aM dc aw (aM dA (aM cu (af 1 (pv 1)) aw) aw)) (ag (aM dc aw (aM dA (aM cu (af 1 (pv 1)) aw) aw)) au))))
  (ay (dm (cO (jw hr.units) (aM dA (aM cu (af 1 (pv 1)) aw) aw) aw (bK _)) (aF (wJ 2 (pv 2) (aM dc aw (aM dA (aM cu (af 1 (pv 1)) aw) aw)) aw)) bR)
  (aF (bg (af 2 (pv 2)))))))
abbrev iy:Stmt:=top 60
def fT (d__law_cell:List T -> Option T) (dO__law_four:List T -> Option O):FS:=
  (B5 2 3 4 5 6 (ff dO__law_four (aa (ai d__law_cell (aa (ae 0) (aa (fC (.int 1)) aj))) (aa (aH cn (ae 1) (fC (.int 0))) (aa (aH cn (ae 1) (fC (.int 1))) (aa (aH cn (ae 1) (fC (.int 2))) aj))))) (eE (aH rG (aH cn (ae 1) (fC (.int 0))) (fC (.int 3)))) phi)
theorem dX:aS ["_law_script", "_law_shape_here", "_law_four_here", "_law_table", "_law_row", "_law_place", "_law_number"] ["_law_script", "_law_shape_here"] (ax iy):=by walk_at "sc"
theorem pS {d__law_cell:List T -> Option T} {dO__law_four:List T -> Option O} (F:fG K "_law_tables" "_law_tables" iy f fd) (hb:Binds K fd ["_law_script", "_law_shape_here"] []) (hm:mg "_law_tables" = some (.ref f)) (D__law_cell:Def P w K mg base k "_law_cell" 2 d__law_cell) (DO__law_four:gB P w K mg base k "_law_four" 4 dO__law_four) (m_enumerate:mg "enumerate" = none) (m_list:mg "list" = none) (m_abs:mg "abs" = none) :
  Def P w K mg base (k + 1) "_law_tables" 2 (cW 7 2 (fT d__law_cell dO__law_four)):=
 bZ F dX hb hm fun cdv A outer s H E hr=>(DJ dX.nd rfl (Or.inl rfl) (iN DO__law_four hr rfl (ag (aL D__law_cell hr rfl (ag (af 0 (pv 0)) (ag aw au)) (ah (ah aG))) (ag (bE bG (af 1 (pv 1)) aw (fun _ _=>rfl)) (ag (bE bG (af 1 (pv 1)) aw (fun _ _=>rfl)) (ag (bE bG (af 1 (pv 1)) aw (fun _ _=>rfl)) au)))) (ah (ah (ah (ah aG))))) (cO nV (bE bG (af 1 (pv 1)) aw (fun _ _=>rfl)) aw (bK _))
  (wq PassesOwn.never rfl (ic dX.nd rfl (Or.inl rfl)) (pv 2) (wo PassesOwn.never rfl (ic dX.nd rfl (Or.inl rfl)) (pv 3) (A4 PassesOwn.never rfl dX.nd rfl (Or.inl rfl) rfl (Or.inl rfl) rfl m_enumerate rfl m_list (pv 4) (pv 4) (pv 5) (gP (ag (aM dA (aO pe rfl m_abs rfl (ag (bE bG (af 6 (pv 6)) aw (fun _ _=>rfl)) au)) aw) (ag aw au))) Lw (by decide) (by decide) (by decide)) (by decide) (by decide) (by decide) (by decide) (by decide)) (by decide) (by decide) (by decide) (by decide)) (pv 2) (by decide) (by decide) (by decide) (by decide))
theorem pO:(["_law_table"]:List Str).Nodup:=by decide +kernel
theorem pP:(["_law_row"]:List Str).Nodup:=by decide +kernel
abbrev jW:Stmt:=top 61
def hV (c_System:Addr) (dM_System__cells dM_System__ins dM_System__outs dM_System__tables dM_System__told:List T -> Option T) (dT_System__tables:List T -> Option (List O)):FS:=
  (bf (ck (mZ (eE (aH lU (iJ (aa (dk [(c_System,dM_System__cells)] "cells" (ae 0) aj) (aa (dk [(c_System,dM_System__ins)] "ins" (ae 0) aj) (aa (dk [(c_System,dM_System__outs)] "outs" (ae 0) aj) aj)))) (ae 1))) (eE (aH lU (ai dList (aa (dk [(c_System,dM_System__tables)] "tables" (ae 0) aj) aj)) (ae 2)))) (bN (fC (.bl false))) bI)
  (bf (ck (eE (aH lU (dk [(c_System,dM_System__told)] "told" (ae 0) aj) (ai dO (aa (cm 1 [] (aX (ae 2)) (ao 0) av (ai dO (aa (cm 1 [] (aX (ae 0)) (ao 0) av (ai dO (aa (ae 0) aj))) aj))) aj)))) (bN (fC (.bl false))) bI)
  (bf (y9 3 4 (pk c_System dT_System__tables "tables" (ae 0)))
  (bN (aH jJ (ai dList (aa (dk [(c_System,dM_System__tables)] "tables" (ae 0) aj) aj)) (ae 2))))))
theorem jm:aS ["_law_system", "_law_shape_here", "_law_four_here", "_law_table", "_law_row"] ["_law_system", "_law_shape_here", "_law_four_here"] (ax jW):=by walk_at "sc"
theorem ue {c_System:Addr} {dM_System__cells:List T -> Option T} {dM_System__ins:List T -> Option T} {dM_System__outs:List T -> Option T} {dM_System__tables:List T -> Option T} {dM_System__told:List T -> Option T} {dT_System__tables:List T -> Option (List O)} (F:fG K "_law_told" "_law_told" jW f fd) (hb:Binds K fd ["_law_system", "_law_shape_here", "_law_four_here"] []) (hm:mg "_law_told" = some (.ref f)) (DM_cells:∀ a ∈ [(c_System,dM_System__cells)],fX P w K mg base k a.1 "cells" 1 a.2) (DM_ins:∀ a ∈ [(c_System,dM_System__ins)],fX P w K mg base k a.1 "ins" 1 a.2) (DM_outs:∀ a ∈ [(c_System,dM_System__outs)],fX P w K mg base k a.1 "outs" 1 a.2) (DM_tables:∀ a ∈ [(c_System,dM_System__tables)],fX P w K mg base k a.1 "tables" 1 a.2) (DM_told:∀ a ∈ [(c_System,dM_System__told)],fX P w K mg base k a.1 "told" 1 a.2) (DT_tables:kK P w K mg base k c_System "tables" 1 dT_System__tables) (m_list:mg "list" = none) (m_tuple:mg "tuple" = none) :
  Def P w K mg base (k + 1) "_law_told" 3 (cW 5 3 (hV c_System dM_System__cells dM_System__ins dM_System__outs dM_System__tables dM_System__told dT_System__tables)):=
 bZ F jm hb hm fun cdv A outer s H E hr=>(ay (dm (SW.st (kf (cO (kQ hr.units) (qe (ag (fz DM_cells hr (af 0 (pv 0))) (ag (fz DM_ins hr (af 0 (pv 0))) (ag (fz DM_outs hr (af 0 (pv 0))) au)))) (af 1 (pv 1)) (bK _)) (kg (cO (kQ hr.units) (dM oy rfl m_list rfl (ag (fz DM_tables hr (af 0 (pv 0))) au)) (af 2 (pv 2)) (bK _))))) (aF (bg ig)) bR)
  (ay (dm (cO (kQ hr.units) (fz DM_told hr (af 0 (pv 0))) (dM iI rfl m_tuple rfl (ag (cI (N':=["_law_table"]) (no:=1) (cap:=[]) rfl rfl (aK rfl) rfl (bH rfl) (cj (af 2 (pv 2))) (fun _ _ _ _ _ _=>(aE 0 pO rfl (Or.inl rfl))) (fun _ _ _ _ _ _=>bu) (fun _ _ _ _ _ _=>(dM iI rfl m_tuple rfl (ag (cI (N':=["_law_row"]) (no:=1) (cap:=[]) rfl rfl (aK rfl) rfl (bH rfl) (cj (af 0 (pv 0))) (fun _ _ _ _ _ _=>(aE 0 pP rfl (Or.inl rfl))) (fun _ _ _ _ _ _=>bu) (fun _ _ _ _ _ _=>(dM iI rfl m_tuple rfl (ag (af 0 (pv 0)) au)))) au)))) au)) (bK _)) (aF (bg ig)) bR)
  (ay (FQ (t:=3) (r:=4) (yu DT_tables hr (af 0 (pv 0))) PassesOwn.never rfl (ic jm.nd rfl (Or.inl rfl)) (ic jm.nd rfl (Or.inl rfl)) (pv 3) (pv 3) (pv 4) (by decide))
  (aF (bg (iD (jw hr.units) (dM oy rfl m_list rfl (ag (fz DM_tables hr (af 0 (pv 0))) au)) (af 2 (pv 2)) (bK _)))))))
theorem pI:(["_law_table"]:List Str).Nodup:=by decide +kernel
theorem pJ:(["_law_number", "_law_scale"]:List Str).Nodup:=by decide +kernel
theorem pK:(["_law_k", "_law_look", "_law_state", "_law_through", "_law_given"]:List Str).Nodup:=by decide +kernel
theorem pL:(["_law_k", "_law_move", "_law_state", "_law_push", "_law_given"]:List Str).Nodup:=by decide +kernel
abbrev jT:Stmt:=top 62
def hG (d__law_ints d__law_dot d__law_are:List T -> Option T):FS:=
  (bf (ck (mZ (cK (cM (ai bj (aa (ae 3) (aa (fC (.ty "tuple")) aj))))) (mZ (eE (aH lU (ai bY (aa (ae 3) aj)) (fC (.int 2)))) (mZ (cK (cM (ai bj (aa (aH cn (ae 3) (fC (.int 0))) (aa (fC (.ty "list")) aj))))) (eE (aH lU (ai bY (aa (aH cn (ae 3) (fC (.int 0))) aj)) (ai bY (aa (ae 2) aj))))))) (bN (fC (.bl false))) bI)
  (bf (kZ (cm 1 [] (aX (ae 0)) (ao 0) av (ai d__law_ints (aa (ae 0) aj))) (zt (aI (ao 4) (aI (ao 5) (aI (ao 6) (aI (ao 7) cD))))))
  (bf (bU 8 (aH cn (ai d__law_ints (aa (iJ (aa (ae 1) aj)) aj)) (fC (.int 0))))
  (bf (bU 9 (fC (.int 27720)))
  (bf (k9 (eR (aa (ae 2) (aa (aH cn (ae 3) (fC (.int 0))) aj))) (cT (aI (ao 10) (aI (ao 11) cD))) (bf (bU 12 (cm 1 [9] (aX (aH cn (ai d__law_ints (aa (iJ (aa (ae 10) aj)) aj)) (fC (.int 0)))) (ao 0) av (aH bh (ae 0) (aH cG (ae 1) (fC (.int 27720))))))
  (bf (dF 13 1 [6,8,7,12] (fq (aa (ai bY (aa (ae 6) aj)) aj)) (ao 0) av (aH cF (ai d__law_dot (aa (aH cn (ae 1) (ae 0)) (aa (ae 2) aj))) (ai d__law_dot (aa (aH cn (ae 3) (ae 0)) (aa (ae 4) aj)))))
  (bf (bU 8 (cm 1 [4,8,5,12] (fq (aa (ai bY (aa (ae 4) aj)) aj)) (ao 0) av (aH cF (ai d__law_dot (aa (aH cn (ae 1) (ae 0)) (aa (ae 2) aj))) (ai d__law_dot (aa (aH cn (ae 3) (ae 0)) (aa (ae 4) aj))))))
  (bf (bU 9 (aH bh (ae 9) (fC (.int 27720))))
  (ck (cK (cM (ai d__law_are (aa (ae 11) (aa (ae 13) (aa (ae 9) aj)))))) (bN (fC (.bl false))) bI))))))
  (bN (ai d__law_are (aa (aH cn (ae 3) (fC (.int 1))) (aa (ae 8) (aa (ae 9) aj))))))))))
theorem bM:aS ["_law_four_here", "_law_start", "_law_inputs", "_law_told_here", "_law_move", "_law_push", "_law_look", "_law_through", "_law_state", "_law_scale", "_law_sent", "_law_output", "_law_given", "_law_due"] ["_law_four_here", "_law_start", "_law_inputs", "_law_told_here"] (ax jT):=by walk_at "sc"
theorem uc {d__law_ints:List T -> Option T} {d__law_dot:List T -> Option T} {d__law_are:List T -> Option T} (F:fG K "_law_good" "_law_good" jT f fd) (hb:Binds K fd ["_law_four_here", "_law_start", "_law_inputs", "_law_told_here"] []) (hm:mg "_law_good" = some (.ref f)) (D__law_ints:Def P w K mg base k "_law_ints" 1 d__law_ints) (D__law_dot:Def P w K mg base k "_law_dot" 2 d__law_dot) (D__law_are:Def P w K mg base k "_law_are" 3 d__law_are) (m_tuple:mg "tuple" = none) (m_isinstance:mg "isinstance" = none) (m_len:mg "len" = none) (m_list:mg "list" = none) (m_zip:mg "zip" = none) (m_range:mg "range" = none) :
  Def P w K mg base (k + 1) "_law_good" 4 (cW 14 4 (hG d__law_ints d__law_dot d__law_are)):=
 bZ F bM hb hm fun cdv A outer s H E hr=>(ay (dm (SW.st (kf (dC (dP (aO eM rfl m_isinstance rfl (ag (af 3 (pv 3)) (ag (gQ rfl m_tuple rfl) au))))) (kf (cO (kQ hr.units) (aO cS rfl m_len PySem.boot_len (ag (af 3 (pv 3)) au)) aw (bK _)) (kf (dC (dP (aO eM rfl m_isinstance rfl (ag (bE bG (af 3 (pv 3)) aw (fun _ _=>rfl)) (ag (gQ rfl m_list rfl) au))))) (kg (cO (kQ hr.units) (aO cS rfl m_len PySem.boot_len (ag (bE bG (af 3 (pv 3)) aw (fun _ _=>rfl)) au)) (aO cS rfl m_len PySem.boot_len (ag (af 2 (pv 2)) au)) (bK _))))))) (aF (bg ig)) bR)
  (ay (lT (cI (N':=["_law_table"]) (no:=1) (cap:=[]) rfl rfl (aK rfl) rfl (bH rfl) (cj (af 0 (pv 0))) (fun _ _ _ _ _ _=>(aE 0 pI rfl (Or.inl rfl))) (fun _ _ _ _ _ _=>bu) (fun _ _ _ _ _ _=>(aL D__law_ints hr rfl (ag (af 0 (pv 0)) au) (ah aG)))) (DE rfl (aT (aE 4 bM.nd rfl (Or.inr rfl)) (aT (aE 5 bM.nd rfl (Or.inr rfl)) (aT (aE 6 bM.nd rfl (Or.inr rfl)) (aT (aE 7 bM.nd rfl (Or.inr rfl)) da)))) (aZ (aZ (aZ (aZ dR))))))
  (ay (bJ 8 bM.nd rfl (Or.inr rfl) (bE bG (aL D__law_ints hr rfl (ag (qe (ag (af 1 (pv 1)) au)) au) (ah aG)) aw (fun _ _=>rfl)))
  (ay (bJ 9 bM.nd rfl (Or.inr rfl) aw)
  (ay (nF PassesOwn.never rfl (nB rfl m_zip (ag (af 2 (pv 2)) (ag (bE bG (af 3 (pv 3)) aw (fun _ _=>rfl)) au))) (ek rfl (aT (aE 10 bM.nd rfl (Or.inl rfl)) (aT (aE 11 bM.nd rfl (Or.inl rfl)) da)) (aZ (aZ dR))) (ay (bJ 12 bM.nd rfl (Or.inr rfl) (cI (N':=["_law_number", "_law_scale"]) (no:=1) (cap:=[9]) rfl rfl (aK rfl) rfl (bH rfl) (cj (bE bG (aL D__law_ints hr rfl (ag (qe (ag (af 10 (pv 10)) au)) au) (ah aG)) aw (fun _ _=>rfl))) (fun _ _ _ _ _ _=>(aE 0 pJ rfl (Or.inl rfl))) (fun _ _ _ _ _ _=>bu) (fun _ _ _ _ _ _=>(aM bB (af 0 (pv 0)) (aM cu (af 1 (pv 1)) aw)))))
  (ay (jq bM.nd rfl rfl (N':=["_law_k", "_law_look", "_law_state", "_law_through", "_law_given"]) (no:=1) (cap:=[6,8,7,12]) rfl rfl (aK rfl) rfl (bH rfl) (mL rfl m_range (ag (aO cS rfl m_len PySem.boot_len (ag (af 6 (pv 6)) au)) au)) (fun _ _ _ _ _ _=>(aE 0 pK rfl (Or.inl rfl))) (fun _ _ _ _ _ _=>bu) (fun _ _ _ _ _ _=>(aM dc (aL D__law_dot hr rfl (ag (bE bG (af 1 (pv 1)) (af 0 (pv 0)) (fun _ _=>rfl)) (ag (af 2 (pv 2)) au)) (ah (ah aG))) (aL D__law_dot hr rfl (ag (bE bG (af 3 (pv 3)) (af 0 (pv 0)) (fun _ _=>rfl)) (ag (af 4 (pv 4)) au)) (ah (ah aG))))))
  (ay (bJ 8 bM.nd rfl (Or.inr rfl) (cI (N':=["_law_k", "_law_move", "_law_state", "_law_push", "_law_given"]) (no:=1) (cap:=[4,8,5,12]) rfl rfl (aK rfl) rfl (bH rfl) (mL rfl m_range (ag (aO cS rfl m_len PySem.boot_len (ag (af 4 (pv 4)) au)) au)) (fun _ _ _ _ _ _=>(aE 0 pL rfl (Or.inl rfl))) (fun _ _ _ _ _ _=>bu) (fun _ _ _ _ _ _=>(aM dc (aL D__law_dot hr rfl (ag (bE bG (af 1 (pv 1)) (af 0 (pv 0)) (fun _ _=>rfl)) (ag (af 2 (pv 2)) au)) (ah (ah aG))) (aL D__law_dot hr rfl (ag (bE bG (af 3 (pv 3)) (af 0 (pv 0)) (fun _ _=>rfl)) (ag (af 4 (pv 4)) au)) (ah (ah aG)))))))
  (ay (bJ 9 bM.nd rfl (Or.inr rfl) (aM bB (af 9 (pv 9)) aw))
  (aF (dm (dC (dP (aL D__law_are hr rfl (ag (af 11 (pv 11)) (ag (af 13 (pv 13)) (ag (af 9 (pv 9)) au))) (ah (ah (ah aG)))))) (aF (bg ig)) bR)))))))
  (aF (bg (aL D__law_are hr rfl (ag (bE bG (af 3 (pv 3)) aw (fun _ _=>rfl)) (ag (af 8 (pv 8)) (ag (af 9 (pv 9)) au))) (ah (ah (ah aG)))))))))))
end
open PySem PySem.Spec PyProof.Rows L2 TM
theorem CV:(["_law_table"]:List Str).Nodup:=by decide +kernel
theorem CW:(["_law_row"]:List Str).Nodup:=by decide +kernel
theorem CY:(["_law_cell_here", "_law_shape_here"]:List Str).Nodup:=by decide +kernel
theorem CZ:(["_law_row"]:List Str).Nodup:=by decide +kernel
abbrev rQ:Stmt:=top 63
def q9 (c_System:Addr) (d__law_shape d__law_tables d__law_told d__law_cell d__law_numbers d__law_good:List T -> Option T) (dI_System:List T -> Option wZ) (dT_run:List T -> Option (List O)):FS:=
  (bf (bU 1 (ai d__law_shape (aa (ae 0) aj)))
  (bf (bU 2 (ai d__law_tables (aa (ae 0) (aa (ae 1) aj))))
  (bf (zc 3 4 5 (cJ 1 [] (aX (ae 2)) (ao 0) av (cJ 1 [] (aX (ae 0)) (ao 0) av (iq (ae 0)))) (zi c_System dI_System (aa (aH cn (ae 3) (fC (.int 0))) (aa (aH cn (ae 3) (fC (.int 1))) (aa (aH cn (ae 3) (fC (.int 2))) (aa (aH cn (ae 3) (fC (.int 3))) aj))))))
  (bf (ck (cK (cM (ai d__law_told (aa (ae 4) (aa (ae 1) (aa (ae 2) aj)))))) (bN (fC (.bl false))) bI)
  (bf (bU 6 (ai d__law_numbers (aa (ai d__law_cell (aa (ae 0) (aa (fC (.int 2)) aj))) (aa (aH cn (ae 1) (fC (.int 0))) aj))))
  (bf (dF 7 1 [1] (aX (DX (ae 0) (gc (fC (.int 3))) (gc (fC (.int 13))))) (ao 0) av (ai d__law_numbers (aa (ae 0) (aa (aH cn (ae 1) (fC (.int 1))) aj))))
  (bf (dF 8 1 [] (aX (ae 7)) (ao 0) av (ai dList (aa (ae 0) aj)))
  (bf (bU 9 (ai dList (aa (ae 6) aj)))
  (bf (zl 10 (mY dT_run (aa (ae 4) (aa (ae 9) (aa (ae 8) aj)))) (cK (cM (ai d__law_good (aa (ae 2) (aa (ae 6) (aa (ae 7) (aa (ae 10) aj))))))))
  (bN (dQ (aH jJ (ae 8) (ae 7)) (aH jJ (ae 9) (ae 6)))))))))))))
theorem gM:aS ["_law_script", "_law_shape_here", "_law_four_here", "_law_handed", "_law_system", "_law_table", "_law_start", "_law_inputs", "_law_sent", "_law_begun", "_law_told_here"] ["_law_script"] (ax rQ):=by walk_at "sc"
theorem Hg {P:Program} {w:World} {K:PySem.W.Frag} {mg:Str -> Option Value} {base:Heap} {k:Nat} {f:Addr} {fd:FuncData} {c_System:Addr} {d__law_shape:List T -> Option T} {d__law_tables:List T -> Option T} {d__law_told:List T -> Option T} {d__law_cell:List T -> Option T} {d__law_numbers:List T -> Option T} {d__law_good:List T -> Option T} {dI_System:List T -> Option wZ} {dT_run:List T -> Option (List O)} (F:fG K "law" "law" rQ f fd) (D__law_shape:Def P w K mg base k "_law_shape" 1 d__law_shape) (D__law_tables:Def P w K mg base k "_law_tables" 2 d__law_tables) (D__law_told:Def P w K mg base k "_law_told" 3 d__law_told) (D__law_cell:Def P w K mg base k "_law_cell" 2 d__law_cell) (D__law_numbers:Def P w K mg base k "_law_numbers" 2 d__law_numbers) (D__law_good:Def P w K mg base k "_law_good" 4 d__law_good) (DT_run:qE P w K mg base k "run" 3 dT_run) (DI_System:oS P w K mg base k "System" c_System 4 dI_System) (m_list:mg "list" = none) :
  fI P w K mg base mP (k + 1) f fd ["_law_script"] (spT K 1 (cW 11 1 (q9 c_System d__law_shape d__law_tables d__law_told d__law_cell d__law_numbers d__law_good dI_System dT_run))):=
 Eo F gM fun cdv A outer s H E hr=>(ay (bJ 1 gM.nd rfl (Or.inr rfl) (aL D__law_shape hr rfl (ag (af 0 (pv 0)) au) (ah aG)))
  (ay (bJ 2 gM.nd rfl (Or.inl rfl) (aL D__law_tables hr rfl (ag (af 0 (pv 0)) (ag (af 1 (pv 1)) au)) (ah (ah aG))))
  (DK (x:=3) (y:=4) (t:=5) (wL gM.nd rfl rfl (N':=["_law_table"]) (no:=1) (cap:=[]) rfl rfl (aK rfl) rfl (bH rfl) (cj (af 2 (pv 2))) (fun _ _ _ _ _ _=>(aE 0 CV rfl (Or.inl rfl))) (fun _ _ _ _ _ _=>bu) (fun _ _ _ _ _ _=>(fA (N':=["_law_row"]) (no:=1) (cap:=[]) rfl rfl (aK rfl) rfl (bH rfl) (cj (af 0 (pv 0))) (fun _ _ _ _ _ _=>(aE 0 CW rfl (Or.inl rfl))) (fun _ _ _ _ _ _=>bu) (fun _ _ _ _ _ _=>(qf rfl m_list (af 0 (pv 0))))))) gM.nd rfl (Or.inl rfl) (Fx DI_System hr rfl (ag (bE bG (af 3 (pv 3)) aw (fun _ _=>rfl)) (ag (bE bG (af 3 (pv 3)) aw (fun _ _=>rfl)) (ag (bE bG (af 3 (pv 3)) aw (fun _ _=>rfl)) (ag (bE bG (af 3 (pv 3)) aw (fun _ _=>rfl)) au)))) (ah (ah (ah (ah aG)))))
  (ay (dm (dC (dP (aL D__law_told hr rfl (ag (af 4 (pv 4)) (ag (af 1 (pv 1)) (ag (af 2 (pv 2)) au))) (ah (ah (ah aG)))))) (aF (bg ig)) bR)
  (ay (bJ 6 gM.nd rfl (Or.inl rfl) (aL D__law_numbers hr rfl (ag (aL D__law_cell hr rfl (ag (af 0 (pv 0)) (ag aw au)) (ah (ah aG))) (ag (bE bG (af 1 (pv 1)) aw (fun _ _=>rfl)) au)) (ah (ah aG))))
  (ay (jq gM.nd rfl rfl (N':=["_law_cell_here", "_law_shape_here"]) (no:=1) (cap:=[1]) rfl rfl (aK rfl) rfl (bH rfl) (cj (mI (af 0 (pv 0)) (jn aw) (jn aw))) (fun _ _ _ _ _ _=>(aE 0 CY rfl (Or.inl rfl))) (fun _ _ _ _ _ _=>bu) (fun _ _ _ _ _ _=>(aL D__law_numbers hr rfl (ag (af 0 (pv 0)) (ag (bE bG (af 1 (pv 1)) aw (fun _ _=>rfl)) au)) (ah (ah aG)))))
  (ay (jq gM.nd rfl rfl (N':=["_law_row"]) (no:=1) (cap:=[]) rfl rfl (aK rfl) rfl (bH rfl) (cj (af 7 (pv 7))) (fun _ _ _ _ _ _=>(aE 0 CZ rfl (Or.inl rfl))) (fun _ _ _ _ _ _=>bu) (fun _ _ _ _ _ _=>(dM oy rfl m_list rfl (ag (af 0 (pv 0)) au))))
  (ay (bJ 9 gM.nd rfl (Or.inl rfl) (dM oy rfl m_list rfl (ag (af 6 (pv 6)) au)))
  (DL (x:=10) gM.nd rfl (Or.inl rfl) (Bd DT_run hr rfl (ag (af 4 (pv 4)) (ag (af 9 (pv 9)) (ag (af 8 (pv 8)) au))) (ah (ah (ah aG)))) (dC (dP (aL D__law_good hr rfl (ag (af 2 (pv 2)) (ag (af 6 (pv 6)) (ag (af 7 (pv 7)) (ag (af 10 (pv 10)) au)))) (ah (ah (ah (ah aG))))))) (aF (bg ig))
  (aF (bg (fy (iD (jw hr.units) (af 8 (pv 8)) (af 7 (pv 7)) (bK _)) (lS (iD (jw hr.units) (af 9 (pv 9)) (af 6 (pv 6)) (bK _)))))) (pv 10)))))))
  PassesOwn.never rfl (ic gM.nd rfl (Or.inl rfl)) (pv 3) (pv 5) (pv 5) (by decide) (by decide) (by decide))))
open PySem PySem.Spec PyProof.Rows L2 TM
theorem LC:(17:Nat) ≤ sizeLine:=bQ (by decide)
theorem MP:(6:Nat) < sizeLine:=dN (by decide)
theorem Cg {a b c d:Int}:jJ (.tup [.int a,.int b]) (.tup [.int c,.int d])=some (.bl (decide (a=c) && decide (b=d))):=by
 have e:jJ (.tup [.int a,.int b]) (.tup [.int c,.int d])=some (.bl ((a == c) && ((b == d) && true))):=rfl
 rw [e,Bool.and_true,Bool.beq_eq_decide_eq,Bool.beq_eq_decide_eq]
theorem AF {x y:Bool}:jJ (.lst [.bl x,.bl y]) (.lst [.bl x,.bl y])=some (.bl true):=by
 have e:jJ (.lst [.bl x,.bl y]) (.lst [.bl x,.bl y])=some (.bl ((x == x) && ((y == y) && true))):=rfl
 rw [e,beq_self_eq_true,beq_self_eq_true]
 rfl
theorem mM:∀ (n:Nat) (u:Option Sl) (x y:Nat),y < n -> eP (eE (aH lU (ae 1) (fC (.int 0)))) (n0 0 1 (aa (ae 1) (aa (aH cV (ae 0) (ae 1)) aj))) n [some (.sh (.int x)),some (.sh (.int y)),u]
  = some (.nx [some (.sh (.int (Nat.gcd x y))),some (.sh (.int 0)),u])
 | 0,_,_,_,h=>by omega
 | n + 1,u,x,y,h=>by
  unfold eP
  by_cases hy:y=0
  ·subst hy
   have h0:((0:Nat):Int)=0:=rfl
   walk_at "ev"
   simp
  ·have hy':¬ ((y:Int)=0):=by omega
   have hm:Int.fmod (x:Int) (y:Int)=((x % y:Nat):Int):=by rw [Int.fmod_eq_emod_of_nonneg _ (by omega)]; rfl
   have hg:Nat.gcd x y=Nat.gcd y (x % y):=by rw [Nat.gcd_comm x y,Nat.gcd_rec y x,Nat.gcd_comm]
   have ih:=mM n u y (x % y) (by have:=Nat.mod_lt x (Nat.pos_of_ne_zero hy); omega)
   rw [hg]
   clear hg h hy
   walk_at "ev"
theorem DS {ft:FT} {fb:FS} {τ τ':aB} {n:Nat} (h:ft τ=some (false,τ')) (hn:0 < n):eP ft fb n τ=some (.nx τ'):=by
 obtain ⟨m,rfl⟩:∃ m,n=m + 1:=⟨n - 1,by omega⟩
 unfold eP
 rw [h]
 rfl
theorem IU:0 < B:=by decide +kernel
theorem bits_le {x:Int} (h:x.natAbs < B):¬ ((Builtin.Int.intBits x:Int) > 4000):=by
 unfold Builtin.Int.intBits
 by_cases h0:x=0
 ·subst h0; decide
 ·rw [if_neg (by simpa using h0)]
  have:x.natAbs.log2 < 4000:=(Nat.log2_lt (by omega)).mpr h
  omega
def cZ:List T -> Option T
 | [.int a,.int b]=>if a.natAbs < B /\ b.natAbs < B then some (.int (Int.gcd a b)) else none
 | _=>none
theorem dz {a b:Int} (ha:a.natAbs < B) (hb:b.natAbs < B):cZ [.int a,.int b]=some (.int (Int.gcd a b)):=if_pos ⟨ha,hb⟩
theorem Bh (ts:List T) (t:T) (h:cZ ts=some t):cW 3 2 (oW B (fun _=>none)) ts=some t:=by
 unfold cZ at h
 split at h
 ·next a b =>
  split at h
  ·next hb =>
   cases h
   have hw:=mM B none a.natAbs b.natAbs (hb.2)
   have hbits:=bits_le (x:=((b.natAbs:Nat):Int)) (by simpa using hb.2)
   have hgt:rG (.int (Builtin.Int.intBits ((b.natAbs:Nat):Int))) (.int 4000)=some (.bl false):=by
    show some (T.bl (decide _))=_
    rw [decide_eq_false hbits]
   have hno:eP (eE (aH rG (uI ju (ae 1)) (fC (.int 4000)))) (bf (n0 0 1 (aa (ae 1) (aa (aH cV (ae 0) (ae 1)) aj))) (ck (eE (aH rG (uI ju (ae 1)) (fC (.int 4000)))) (kZ (ai (fun _=>none) (aa (ae 0) (aa (ae 1) aj))) (cT (aI (ao 0) (aI (ao 1) (aI (ao 2) cD))))) bI)) B [some (.sh (.int (a.natAbs:Nat))),some (.sh (.int (b.natAbs:Nat))),none]
     = some (.nx [some (.sh (.int (a.natAbs:Nat))),some (.sh (.int (b.natAbs:Nat))),none]):=DS (by
      clear hw hbits
      walk_at "ev") IU
   unfold cW oW
   clear hb hbits hgt
   walk_at "ev"
   rfl
  ·cases h
 ·cases h
def sg (a b:Int):Int:=if b < 0 then -(Int.gcd a b:Int) else (Int.gcd a b:Int)
def sJ (a b:Int):T:=.tup [.int (a.fdiv (sg a b)),.int (b.fdiv (sg a b))]
def vN:List T -> Option T
 | [.int a,.int b]=>if a.natAbs < B /\ b.natAbs < B /\ b ≠ 0 then some (sJ a b) else none
 | _=>none
theorem CO {a b:Int} (ha:a.natAbs < B) (hb:b.natAbs < B) (h0:b ≠ 0):vN [.int a,.int b]=some (sJ a b):=if_pos ⟨ha,hb,h0⟩
theorem Cn {a b:Int} (h0:b ≠ 0):¬ ((Int.gcd a b:Nat):Int)=0:=by
 intro h
 have:Int.gcd a b=0:=by omega
 rw [Int.gcd_eq_zero_iff] at this
 exact h0 this.2
theorem rH {a b:Int} (hb:b.natAbs < B) (h0:b ≠ 0):Int.gcd a b < B:=by
 have h1:Int.gcd a b ∣ b.natAbs:=Int.gcd_dvd_natAbs_right a b
 have:=Nat.le_of_dvd (by omega) h1
 omega
theorem BE {x:Int} (h:x.natAbs < B):IL (.int (Builtin.Int.intBits x)) (.int 8000)=some (.bl true):=by
 show some (T.bl (decide _))=_
 rw [decide_eq_true (by have:=bits_le h; omega)]
theorem FN (ts:List T) (t:T) (h:vN ts=some t):cW 3 2 (xf cZ) ts=some t:=by
 unfold vN at h
 split at h
 ·next a b =>
  split at h
  ·next hb =>
   cases h
   obtain ⟨ha,hb,h0⟩:=hb
   have h1:=dz ha hb
   have h2:=Cn (a:=a) h0
   have h3:=rH (a:=a) hb h0
   have h4:((Int.gcd a b:Nat):Int).natAbs < B:=by omega
   have h5:¬ -((Int.gcd a b:Nat):Int)=0:=by omega
   have h6:(-((Int.gcd a b:Nat):Int)).natAbs < B:=by omega
   have h7:=BE h4
   have h8:=BE h6
   unfold cW xf
   by_cases hs:b < 0
   ·have e:sJ a b=.tup [.int (a.fdiv (-(Int.gcd a b:Int))),.int (b.fdiv (-(Int.gcd a b:Int)))]:=by unfold sJ sg; rw [if_pos hs]
    walk_at "ev"
   ·have e:sJ a b=.tup [.int (a.fdiv (Int.gcd a b:Int)),.int (b.fdiv (Int.gcd a b:Int))]:=by unfold sJ sg; rw [if_neg hs]
    walk_at "ev"
  ·cases h
 ·cases h
open PySem PySem.Spec PyProof.Rows L2 TM Qm
def C:Nat:=2 ^ 1000
theorem Mt:C * C + C * C < B:=by decide +kernel
theorem CB:C < B:=by decide +kernel
theorem Gi:0 < C:=by decide +kernel
theorem ltB {a:Int} (h:a.natAbs < C):a.natAbs < B:=Nat.lt_trans h CB
theorem mulC {a b:Int} (ha:a.natAbs < C) (hb:b.natAbs < C):(a * b).natAbs < C * C:=by
 rw [Int.natAbs_mul]
 exact Nat.mul_lt_mul'' ha hb
theorem Li {a b c d:Int} (ha:a.natAbs < C) (hb:b.natAbs < C) (hc:c.natAbs < C) (hd:d.natAbs < C):(a * b + c * d).natAbs < B:=by
 have h1:=mulC ha hb
 have h2:=mulC hc hd
 have h3:=Mt
 omega
theorem ia {a g:Int} (h:g ∣ a) (hg:g ≠ 0):(a.fdiv g).natAbs ≤ a.natAbs:=by
 obtain ⟨x,rfl⟩:=h
 rw [Int.mul_fdiv_cancel_left x hg,Int.natAbs_mul]
 exact Nat.le_mul_of_pos_left _ (by omega)
structure Fr (a b:Int):Prop where
 pos:0 < b
 cop:iF a b
 ba:a.natAbs < C
 bb:b.natAbs < C
theorem sL {a b:Int} (h:0 < b):sJ a b=.tup [.int (a.fdiv (Int.gcd a b)),.int (b.fdiv (Int.gcd a b))]:=by
 unfold sJ sg
 rw [if_neg (by omega)]
def two:List T -> Option (Int × Int × Int × Int)
 | [.tup [.int a,.int b],.tup [.int c,.int d]]=>some (a,b,c,d)
 | _=>none
theorem ID {ts:List T} {a b c d:Int} (h:two ts=some (a,b,c,d)):ts=[.tup [.int a,.int b],.tup [.int c,.int d]]:=by
 unfold two at h
 split at h
 ·cases h; rfl
 ·cases h
instance (a b:Int):Decidable (Fr a b):=decidable_of_iff (0 < b /\ Int.gcd a b=1 /\ a.natAbs < C /\ b.natAbs < C) ⟨fun h=>⟨h.1,h.2.1,h.2.2.1,h.2.2.2⟩,fun h=>⟨h.pos,h.cop,h.ba,h.bb⟩⟩
def EI (C:Int -> Int -> Int -> Int -> Bool) (g:Int -> Int -> Int -> Int -> T):List T -> Option T:=fun ts=>(two ts).bind fun p=>if Fr p.1 p.2.1 /\ Fr p.2.2.1 p.2.2.2 /\ C p.1 p.2.1 p.2.2.1 p.2.2.2=true then some (g p.1 p.2.1 p.2.2.1 p.2.2.2) else none
theorem vO {C:Int -> Int -> Int -> Int -> Bool} {g:Int -> Int -> Int -> Int -> T} {ts:List T} {t:T} (h:EI C g ts=some t):∃ a b c d,ts=[.tup [.int a,.int b],.tup [.int c,.int d]] /\ Fr a b /\ Fr c d /\ C a b c d=true /\ t=g a b c d:=by
 obtain ⟨⟨a,b,c,d⟩,e,h⟩:=bind_some h
 dsimp only at h
 split at h
 ·next k=>cases h; exact ⟨a,b,c,d,ID e,k.1,k.2.1,k.2.2,rfl⟩
 ·cases h
theorem zG {C:Int -> Int -> Int -> Int -> Bool} {g:Int -> Int -> Int -> Int -> T} {a b c d:Int} (h1:Fr a b) (h2:Fr c d) (h3:C a b c d=true):EI C g [.tup [.int a,.int b],.tup [.int c,.int d]]=some (g a b c d):=if_pos ⟨h1,h2,h3⟩
abbrev IP:=EI (fun _ _ _ _=>true) fun a b c d=>sJ (a * d + c * b) (b * d)
abbrev JX:=EI (fun _ _ _ _=>true) fun a b c d=>sJ (a * c) (b * d)
theorem FP (ts:List T) (t:T) (h:IP ts=some t):cW 5 2 (xg cZ) ts=some t:=by
 obtain ⟨a,b,c,d,rfl,h1,h2,_,rfl⟩:=vO h
 clear h
 obtain ⟨pb,cb,ba,bb⟩:=h1
 obtain ⟨pd,cd,bc,bd⟩:=h2
 obtain ⟨q1,q2,q3,q4⟩:=HW pb pd cb cd _ _ _ rfl rfl rfl
 have v1:((Int.gcd b d:Nat):Int) ∣ b:=Int.gcd_dvd_left b d
 have v2:((Int.gcd b d:Nat):Int) ∣ d:=Int.gcd_dvd_right b d
 have n1:=ia v1 q3
 have n2:=ia v2 q3
 have g1:Int.gcd b d < B:=rH (ltB bd) (by omega)
 have g1':((Int.gcd b d:Nat):Int).natAbs < B:=by omega
 generalize hs:((Int.gcd b d:Nat):Int)=s at *
 have tb:(a * d.fdiv s + c * b.fdiv s).natAbs < B:=Li ba (by omega) bc (by omega)
 have g2:Int.gcd (a * d.fdiv s + c * b.fdiv s) s < B:=rH g1' q3
 have v3:((Int.gcd (a * d.fdiv s + c * b.fdiv s) s:Nat):Int) ∣ d:=Int.dvd_trans (Int.gcd_dvd_right _ _) v2
 have n3:=ia v3 q4
 have k1:=dz (ltB bb) (ltB bd)
 have k2:=dz tb g1'
 rw [hs] at k1
 have e:sJ (a * d + c * b) (b * d)=.tup [.int ((a * d.fdiv s + c * b.fdiv s).fdiv (Int.gcd (a * d.fdiv s + c * b.fdiv s) s:Nat)),.int (b.fdiv s * d.fdiv (Int.gcd (a * d.fdiv s + c * b.fdiv s) s:Nat))]:=by
  rw [sL (Int.mul_pos pb pd),q1,q2]
 have g2':((Int.gcd (a * d.fdiv s + c * b.fdiv s) s:Nat):Int).natAbs < B:=by omega
 generalize hl:((Int.gcd (a * d.fdiv s + c * b.fdiv s) s:Nat):Int)=l at *
 have w1:=ltB ba
 have w2:=ltB bc
 have cb':=CB
 have w3:(d.fdiv s).natAbs < B:=by omega
 have w4:(b.fdiv s).natAbs < B:=by omega
 have w5:(d.fdiv l).natAbs < B:=by omega
 clear q1 q2 v1 v2 n1 n2 n3 v3 cb cd ba bb bc bd pb pd hs hl g1 g2 cb'
 unfold cW xg
 walk_at "ev"
theorem DH (ts:List T) (t:T) (h:JX ts=some t):cW 4 2 (sv cZ) ts=some t:=by
 obtain ⟨a,b,c,d,rfl,h1,h2,_,rfl⟩:=vO h
 clear h
 obtain ⟨pb,cb,ba,bb⟩:=h1
 obtain ⟨pd,cd,bc,bd⟩:=h2
 obtain ⟨q1,q2,q3,q4⟩:=F9 pb pd cb cd _ _ rfl rfl
 have n1:=ia (Int.gcd_dvd_left a d) q3
 have n2:=ia (Int.gcd_dvd_right a d) q3
 have n3:=ia (Int.gcd_dvd_left c b) q4
 have n4:=ia (Int.gcd_dvd_right c b) q4
 have g1:Int.gcd a d < B:=rH (ltB bd) (by omega)
 have g2:Int.gcd c b < B:=rH (ltB bb) (by omega)
 have k1:=dz (ltB ba) (ltB bd)
 have k2:=dz (ltB bc) (ltB bb)
 have e:sJ (a * c) (b * d)=.tup [.int (a.fdiv (Int.gcd a d:Nat) * c.fdiv (Int.gcd c b:Nat)),.int (b.fdiv (Int.gcd c b:Nat) * d.fdiv (Int.gcd a d:Nat))]:=by
  rw [sL (Int.mul_pos pb pd),q1,q2]
 have g1':((Int.gcd a d:Nat):Int).natAbs < B:=by omega
 have g2':((Int.gcd c b:Nat):Int).natAbs < B:=by omega
 generalize ((Int.gcd a d:Nat):Int)=l at *
 generalize ((Int.gcd c b:Nat):Int)=r at *
 have cb':=CB
 have w1:(a.fdiv l).natAbs < B:=by omega
 have w2:(d.fdiv l).natAbs < B:=by omega
 have w3:(c.fdiv r).natAbs < B:=by omega
 have w4:(b.fdiv r).natAbs < B:=by omega
 clear q1 q2 n1 n2 n3 n4 cb cd ba bb bc bd pb pd g1 g2 cb'
 unfold cW sv
 walk_at "ev"
open Rq
def bO (q:Rat):T:=.tup [.int q.num,.int (q.den:Int)]
theorem oE {a b:Int} (hb:0 < b):sJ a b=bO (Rat.divInt a b):=by
 have hs:b.sign=1:=Int.sign_eq_one_of_pos hb
 have hg:(Int.gcd b a:Int)=(Int.gcd a b:Int):=by rw [Int.gcd_comm]
 rw [sL hb]
 unfold bO
 rw [Rat.num_divInt,Rat.den_divInt,if_neg (by omega),hs,Int.one_mul,hg,Int.fdiv_eq_ediv_of_nonneg _ (by omega),Int.fdiv_eq_ediv_of_nonneg _ (by omega)]
 congr 3
 rw [Int.natCast_ediv,Int.natAbs_of_nonneg (by omega),hg]
structure Sm (q:Rat):Prop where
 n:q.num.natAbs < C
 d:q.den < C
theorem Sm.fr {q:Rat} (h:Sm q):Fr q.num q.den:=⟨by have:=q.den_nz; omega,by
 have:=q.reduced
 show Int.gcd q.num q.den=1
 exact this,h.n,by have:=h.d; omega⟩
theorem fO (q:Rat):Rat.divInt q.num q.den=q:=Rat.num_divInt_den q
theorem den_pos (q:Rat):(0:Int) < (q.den:Int):=by have:=q.den_nz; omega
theorem add_eq (x y:Rat):sJ (x.num * y.den + y.num * x.den) (x.den * y.den)=bO (x + y):=by
 rw [oE (Int.mul_pos (den_pos x) (den_pos y))]
 congr 1
 rw [<- Rat.divInt_add_divInt _ _ (Int.ne_of_gt (den_pos x)) (Int.ne_of_gt (den_pos y)),fO,fO]
theorem mul_eq (x y:Rat):sJ (x.num * y.num) (x.den * y.den)=bO (x * y):=by
 rw [oE (Int.mul_pos (den_pos x) (den_pos y))]
 congr 1
 rw [<- Rat.divInt_mul_divInt,fO,fO]
theorem JU {x y:Rat} (hx:Sm x) (hy:Sm y):IP [bO x,bO y]=some (bO (x + y)):=by
 have h:=zG (C:=fun _ _ _ _=>true) (g:=fun a b c d=>sJ (a * d + c * b) (b * d)) hx.fr hy.fr rfl
 rw [add_eq] at h
 exact h
theorem JY {x y:Rat} (hx:Sm x) (hy:Sm y):JX [bO x,bO y]=some (bO (x * y)):=by
 have h:=zG (C:=fun _ _ _ _=>true) (g:=fun a b c d=>sJ (a * c) (b * d)) hx.fr hy.fr rfl
 rw [mul_eq] at h
 exact h
theorem Mw:2 ^ 100 * DD 12 < C:=by decide +kernel
theorem Km {k m:Nat} {q:Rat} (h:Lq k m q) (hk:k ≤ 12) (hm:m ≤ 2 ^ 100):Sm q:=by
 obtain ⟨h1,h2⟩:=h.bd
 have hd:DD k ≤ DD 12:=Nat.pow_le_pow_right (by decide) hk
 have hp:=eK k
 have h3:q.den ≤ DD k:=Nat.le_of_dvd hp h2
 have h4:m * DD k ≤ 2 ^ 100 * DD 12:=Nat.mul_le_mul hm hd
 have h5:DD k ≤ 2 ^ 100 * DD 12:=Nat.le_trans hd (Nat.le_mul_of_pos_left _ (by decide))
 have:=Mw
 exact ⟨by omega,by omega⟩
open PySem PySem.Spec PyProof.Rows L2 TM Qm Rq
open Classical in
def mk {α:Type} (R:List T -> α -> Prop):List T -> Option α:=fun ts=>if h:∃ t,R ts t then some (Classical.choose h) else none
theorem x9 {α:Type} {R:List T -> α -> Prop} {ts:List T} {t:α} (h:mk R ts=some t):R ts t:=by
 unfold mk at h
 split at h
 ·next hh=>cases h; exact Classical.choose_spec hh
 ·cases h
theorem mk_eq {α:Type} {R:List T -> α -> Prop} {ts:List T} {t:α} (h:R ts t) (u:∀ t',R ts t' -> t'=t):mk R ts=some t:=by
 unfold mk
 rw [dif_pos ⟨t,h⟩]
 congr 1
 exact u _ (Classical.choose_spec (⟨t,h⟩:∃ t,R ts t))
theorem Fs {x y:Rat} (h:bO x=bO y):x=y:=by
 unfold bO at h
 injection h with h
 injection h with h1 h2
 injection h2 with h2 _
 injection h1 with h1
 injection h2 with h2
 exact Rat.ext h1 (by omega)
theorem map_inj {α β:Type} {f:α -> β} (hf:∀ x y,f x=f y -> x=y):∀ {a b:List α},a.map f=b.map f -> a=b
 | [],[],_=>rfl
 | [],_ :: _,h=>by cases h
 | _ :: _,[],h=>by cases h
 | x :: a,y :: b,h=>by
  rw [List.map_cons,List.map_cons] at h
  injection h with h1 h2
  rw [hf _ _ h1,map_inj hf h2]
def aq (r:List Rat):T:=.lst (r.map bO)
def ak (A:List (List Rat)):T:=.lst (A.map aq)
def eV (r:List Rat):O:=uq (r.map bO)
def dG (A:List (List Rat)):O:=.lst (A.map eV)
theorem pW {r s:List Rat} (h:aq r=aq s):r=s:=by
 unfold aq at h
 injection h with h
 exact map_inj (fun _ _=>Fs) h
theorem DO {r s:List (List Rat)} (h:ak r=ak s):r=s:=by
 unfold ak at h
 injection h with h
 exact map_inj (fun _ _=>pW) h
theorem ur (r:List Rat):(eV r).tr=aq r:=by
 show T.lst (O.trs ((r.map bO).map O.val))=_
 rw [iP]
 rfl
theorem Ag {α:Type} {f:α -> O} {g:α -> T} (h:∀ x,(f x).tr=g x):∀ l:List α,O.trs (l.map f)=l.map g
 | []=>rfl
 | x :: l=>by rw [List.map_cons,O.trs,Ag h l,h x]; rfl
theorem fV (A:List (List Rat)):(dG A).tr=ak A:=by
 show T.lst (O.trs (A.map eV))=_
 rw [Ag ur]
 rfl
theorem bS {α:Type} {φ:α -> T} {fe:FE} {g:α -> T} {ρ:aB} (hr:bX ρ=true):∀ (l:List α) (u:Option Sl) (acc:List T),(∀ x ∈ l,fe (some (.sh (φ x)) :: ρ)=some (g x,some (.sh (φ x)) :: ρ)) -> acc.length + l.length ≤ sizeLine -> eQ (ao 0) av fe (l.map φ) (u :: ρ) acc=some (acc ++ l.map g)
 | [],u,acc,_,_=>by simp [eQ]
 | x :: l,u,acc,h,hl=>by
  have hl':acc.length + (l.length + 1) ≤ sizeLine:=hl
  rw [List.map_cons,eQ,show ao 0 (φ x) (u :: ρ)=some (some (.sh (φ x)) :: ρ) from rfl,Option.bind_some,show av (some (.sh (φ x)) :: ρ)=some (true,some (.sh (φ x)) :: ρ) from rfl,Option.bind_some,if_pos rfl,h x List.mem_cons_self,Option.bind_some,if_pos ⟨hr,by omega⟩,
   bS hr l _ _ (fun z hz=>h z (List.mem_cons_of_mem _ hz)) (by rw [List.length_append]; simp; omega),List.map_cons,List.append_assoc]
  rfl
theorem cR {α:Type} {φ:α -> T} {fe:gX} {g:α -> O} {ρ:aB} (hr:bX ρ=true):∀ (l:List α) (u:Option Sl) (acc:List O),(∀ x ∈ l,fe (some (.sh (φ x)) :: ρ)=some (g x,some (.sh (φ x)) :: ρ)) -> acc.length + l.length ≤ sizeLine -> ip (ao 0) av fe (l.map φ) (u :: ρ) acc=some (acc ++ l.map g)
 | [],u,acc,_,_=>by simp [ip]
 | x :: l,u,acc,h,hl=>by
  have hl':acc.length + (l.length + 1) ≤ sizeLine:=hl
  rw [List.map_cons,ip,show ao 0 (φ x) (u :: ρ)=some (some (.sh (φ x)) :: ρ) from rfl,Option.bind_some,show av (some (.sh (φ x)) :: ρ)=some (true,some (.sh (φ x)) :: ρ) from rfl,Option.bind_some,if_pos rfl,h x List.mem_cons_self,Option.bind_some,if_pos ⟨hr,by omega⟩,
   cR hr l _ _ (fun z hz=>h z (List.mem_cons_of_mem _ hz)) (by rw [List.length_append]; simp; omega),List.map_cons,List.append_assoc]
  rfl
abbrev qI:FG:=cT (aI (ao 0) (aI (ao 1) cD))
theorem Et (x y:T) (u v:Option Sl) (ρ:aB):qI (.tup [x,y]) (u :: v :: ρ)=some (some (.sh x) :: some (.sh y) :: ρ):=rfl
theorem gE {α:Type} {φ ψ:α -> T} {fe:FE} {g:α -> T} {ρ:aB} (hr:bX ρ=true):∀ (l:List α) (u v:Option Sl) (acc:List T),(∀ x ∈ l,fe (some (.sh (φ x)) :: some (.sh (ψ x)) :: ρ)=some (g x,some (.sh (φ x)) :: some (.sh (ψ x)) :: ρ)) -> acc.length + l.length ≤ sizeLine ->
  eQ qI av fe (l.map fun x=>.tup [φ x,ψ x]) (u :: v :: ρ) acc=some (acc ++ l.map g)
 | [],u,v,acc,_,_=>by simp [eQ]
 | x :: l,u,v,acc,h,hl=>by
  have hl':acc.length + (l.length + 1) ≤ sizeLine:=hl
  rw [List.map_cons,eQ,Et,Option.bind_some,show av (some (.sh (φ x)) :: some (.sh (ψ x)) :: ρ)=some (true,some (.sh (φ x)) :: some (.sh (ψ x)) :: ρ) from rfl,Option.bind_some,if_pos rfl,h x List.mem_cons_self,Option.bind_some,if_pos ⟨hr,by omega⟩,
   gE hr l _ _ _ (fun z hz=>h z (List.mem_cons_of_mem _ hz)) (by rw [List.length_append]; simp; omega),List.map_cons,List.append_assoc]
  rfl
theorem gT {α β:Type} (φ:α -> T) (ψ:β -> T):∀ (r:List α) (s:List β),iE (r.map φ) (s.map ψ)=(List.zip r s).map fun p=>.tup [φ p.1,ψ p.2]
 | [],s=>by simp [iE]
 | x :: r,[]=>by simp [iE]
 | x :: r,y :: s=>by simp [iE,gT φ ψ r s]
theorem yF:∀ (n:Nat) (lo:Int),TM.upTo lo n=(List.range n).map fun (i:Nat)=>T.int (lo + i):=by
 intro n lo
 apply List.ext_getElem?
 intro i
 by_cases h:i < n
 ·rw [qu n lo i h,List.getElem?_map,List.getElem?_range h]; rfl
 ·rw [List.getElem?_eq_none (by rw [ij]; omega),List.getElem?_eq_none (by simp; omega)]
theorem wQ (n:Nat):TM.upTo 0 n=(List.range n).map fun (i:Nat)=>T.int i:=by
 rw [yF]
 congr 1
 funext i
 congr 1
 omega
theorem bT {no:Nat} {cap:List Nat} {fi:FA} {fg:FG} {ft:FT} {fe:FE} {τ:aB} {ts us:List T} (h1:fi τ=some (ts,τ)) (h2:frzAll cap τ=τ) (h3:bX (cv no cap τ)=true) (h4:eQ fg ft fe ts (cv no cap τ) []=some us):cm no cap fi fg ft fe τ=some (.lst us,τ):=by
 unfold cm
 rw [h1,Option.bind_some]
 dsimp only
 rw [h2,if_pos h3,h4]
 rfl
theorem ee {no:Nat} {cap:List Nat} {fi:FA} {fg:FG} {ft:FT} {fe:gX} {τ:aB} {ts:List T} {us:List O} (h1:fi τ=some (ts,τ)) (h2:frzAll cap τ=τ) (h3:bX (cv no cap τ)=true) (h4:ip fg ft fe ts (cv no cap τ) []=some us):cJ no cap fi fg ft fe τ=some (.lst us,τ):=by
 unfold cJ
 rw [h1,Option.bind_some]
 dsimp only
 rw [h2,if_pos h3,h4]
 rfl
theorem gu {fg:FG} {fb:FS} {t:T} {ts:List T} {τ τ1 τ2:aB} (h1:fg t τ=some τ1) (h2:fb τ1=some (.nx τ2)):dU fg fb (t :: ts) τ=dU fg fb ts τ2:=by
 rw [dU,h1,Option.bind_some,h2]
 rfl
theorem wy {f:FE} {τ:aB} {n:Int} (h:f τ=some (.int n,τ)) (h0:0 ≤ n) (h1:n ≤ 1000):fq (aa f aj) τ=some (TM.upTo 0 n.toNat,τ):=by
 unfold fq aa aj
 rw [h]
 show (if _ then _ else _)=_
 rw [if_pos (by omega)]
theorem oK {f:FE} {τ:aB} {n:Nat} (h:f τ=some (.int n,τ)) (h1:n ≤ 1000):fq (aa f aj) τ=some ((List.range n).map fun (i:Nat)=>T.int i,τ):=by
 have e:=wy h (by omega) (by omega)
 rw [Int.toNat_natCast,wQ] at e
 exact e
structure Gd (k m:Nat) (r:List Rat):Prop where
 len:r.length ≤ 12
 lq:∀ x ∈ r,Lq k m x
def Ma (k m:Nat):Prop:=k ≤ 6 /\ m ≤ 2 ^ 40
theorem Gd.sm {k m:Nat} {r:List Rat} (h:Gd k m r) (f:Ma k m) {x:Rat} (hx:x ∈ r):Sm x:=Km (h.lq x hx) (by have:=f.1; omega) (Nat.le_trans f.2 (by decide))
open PySem PySem.Spec PyProof.Rows L2 TM Qm Rq
theorem KG {g:List T -> Option T} {f:FA} {ρ:aB} {t:T} (ts:List T) (h1:f ρ=some (ts,ρ)) (h2:g ts=some t):md (ai g f) ρ=some (.val t,ρ):=by
 unfold md ai
 rw [h1,Option.bind_some]
 dsimp only
 rw [h2]
 rfl
theorem kc {n:Nat} (h:n ≤ 12):([]:List O).length + n ≤ sizeLine:=by rw [List.length_nil,Nat.zero_add]; exact bQ (by omega)
theorem cq {n:Nat} (h:n ≤ 12):([]:List T).length + n ≤ sizeLine:=by rw [List.length_nil,Nat.zero_add]; exact bQ (by omega)
theorem oP {α β:Type} (r:List α) (s:List β) (h:r.length ≤ 12):(List.zip r s).length ≤ 12:=by rw [List.length_zip]; omega
theorem dg {α β:Type} {r:List α} {s:List β} {p:α × β} (h:p ∈ List.zip r s):p.1 ∈ r /\ p.2 ∈ s:=⟨(List.of_mem_zip h).1,(List.of_mem_zip h).2⟩
def Jd (r s:List Rat):List Rat:=(List.zip r s).map fun p=>p.1 + p.2
def mulR (b:Rat) (r:List Rat):List Rat:=r.map (b * ·)
structure Tb (k m:Nat) (A:List (List Rat)):Prop where
 len:A.length ≤ 12
 row:∀ r ∈ A,Gd k m r
def Je (A B:List (List Rat)):List (List Rat):=(List.zip A B).map fun p=>Jd p.1 p.2
theorem ko {g:List T -> Option O} {f:FA} {ρ:aB} {t:O} (ts:List T) (h1:f ρ=some (ts,ρ)) (h2:g ts=some t):ff g f ρ=some (t,ρ):=by
 unfold ff
 rw [h1,Option.bind_some]
 dsimp only
 rw [h2]
 rfl
theorem aP {g:List T -> Option T} {f:FA} {ρ:aB} {t:T} (ts:List T) (h1:f ρ=some (ts,ρ)) (h2:g ts=some t):ai g f ρ=some (t,ρ):=by
 unfold ai
 rw [h1,Option.bind_some]
 dsimp only
 rw [h2]
 rfl
def J3 (b:Rat) (A:List (List Rat)):List (List Rat):=A.map (mulR b)
open PySem PySem.Spec PyProof.Rows L2 TM Qm Rq
def aV (r:List Rat):Nat:=r.foldl (fun l x=>Nat.lcm l x.den) 1
theorem vM:∀ (r:List Rat) (l:Nat),l ∣ r.foldl (fun l x=>Nat.lcm l x.den) l
 | [],l=>Nat.dvd_refl l
 | x :: r,l=>Nat.dvd_trans (Nat.dvd_lcm_left _ _) (vM r _)
theorem yX:∀ (r:List Rat) (l:Nat) (x:Rat),x ∈ r -> x.den ∣ r.foldl (fun l x=>Nat.lcm l x.den) l
 | y :: r,l,x,h=>by
  rcases List.mem_cons.mp h with rfl | h
  ·exact Nat.dvd_trans (Nat.dvd_lcm_right _ _) (vM r _)
  ·exact yX r _ x h
theorem Mv {k:Nat} (h:k ≤ 12):DD k < B:=by
 have hd:DD k ≤ DD 12:=Nat.pow_le_pow_right (by decide) h
 have:DD 12 < B:=by decide +kernel
 omega
theorem CH {l b:Nat} (hl:0 < l) (hb:0 < b):((l:Int).fdiv (Int.gcd (l:Int) (b:Int):Nat)) * (b:Int)=(Nat.lcm l b:Nat):=by
 have hg:Int.gcd (l:Int) (b:Int)=Nat.gcd l b:=rfl
 rw [hg,Int.fdiv_eq_ediv_of_nonneg _ (by omega)]
 have:(l:Int) / (Nat.gcd l b:Nat)=((l / Nat.gcd l b:Nat):Int):=by rw [Int.natCast_ediv]
 rw [this,<- Int.natCast_mul]
 congr 1
 unfold Nat.lcm
 rw [Nat.div_mul_right_comm (Nat.gcd_dvd_left l b)]
def p9:FS:=bU 1 (aH bh (aH cG (ae 1) (ai cZ (aa (ae 1) (aa (ae 3) aj)))) (ae 3))
theorem zU {D:Nat} (hB:D < B) (hp:0 < D) (x0:Option Sl):∀ (r:List Rat) (l:Nat) (u v:Option Sl),l ∣ D -> (∀ x ∈ r,x.den ∣ D) -> ∃ u' v',dU (cT (aI (ao 2) (aI (ao 3) cD))) p9 (r.map bO) [x0,some (.sh (.int l)),u,v]
  = some (.nx [x0,some (.sh (.int (r.foldl (fun l x=>Nat.lcm l x.den) l:Nat))),u',v'])
 | [],l,u,v,_,_=>⟨u,v,by simp [dU]⟩
 | x :: r,l,u,v,h1,h2=>by
  have hl0:0 < l:=Nat.pos_of_dvd_of_pos h1 hp
  have hl:l ≤ D:=Nat.le_of_dvd hp h1
  have hd:=h2 x List.mem_cons_self
  have hd0:0 < x.den:=Nat.pos_of_ne_zero x.den_nz
  have hdl:x.den ≤ D:=Nat.le_of_dvd hp hd
  obtain ⟨u',v',ih⟩:=zU hB hp x0 r (Nat.lcm l x.den) (some (.sh (.int x.num))) (some (.sh (.int x.den))) (Nat.lcm_dvd h1 hd) fun z hz=>h2 z (List.mem_cons_of_mem _ hz)
  refine ⟨u',v',?_⟩
  have k1:=dz (a:=(l:Int)) (b:=(x.den:Int)) (by omega) (by omega)
  have e1:=CH hl0 hd0
  have hg:Int.gcd (l:Int) (x.den:Int) ≤ l:=by
   show Nat.gcd l x.den ≤ l
   exact Nat.le_of_dvd hl0 (Nat.gcd_dvd_left _ _)
  have hg0:0 < Int.gcd (l:Int) (x.den:Int):=by
   show 0 < Nat.gcd l x.den
   exact Nat.gcd_pos_of_pos_left _ hl0
  have n1:¬ ((Int.gcd (l:Int) (x.den:Int):Nat):Int)=0:=by omega
  have n2:((Int.gcd (l:Int) (x.den:Int):Nat):Int).natAbs < B:=by omega
  have n3:((l:Int).fdiv ((Int.gcd (l:Int) (x.den:Int):Nat):Int)).natAbs < B:=by
   rw [Int.fdiv_eq_ediv_of_nonneg _ (by omega)]
   have:=Int.ediv_le_self ((Int.gcd (l:Int) (x.den:Int):Nat):Int) (show (0:Int) ≤ (l:Int) by omega)
   have:=Int.ediv_nonneg (show (0:Int) ≤ (l:Int) by omega) (show (0:Int) ≤ ((Int.gcd (l:Int) (x.den:Int):Nat):Int) by omega)
   omega
  have n4:(x.den:Int).natAbs < B:=by omega
  have hb:p9 [x0,some (.sh (.int l)),some (.sh (.int x.num)),some (.sh (.int x.den))]=some (.nx [x0,some (.sh (.int (Nat.lcm l x.den:Nat))),some (.sh (.int x.num)),some (.sh (.int x.den))]):=by
   rw [<- e1]
   clear ih h1 h2 hB hp hl0 hl hd hd0 hdl e1 hg hg0
   unfold p9
   walk_at "ev"
  rw [List.map_cons,gu (τ1:=[x0,some (.sh (.int l)),some (.sh (.int x.num)),some (.sh (.int x.den))]) rfl hb,ih]
  rfl
structure Gn (D N:Nat) (r:List Rat):Prop where
 len:r.length ≤ 12
 den:∀ x ∈ r,x.den ∣ D
 num:∀ x ∈ r,x.num.natAbs ≤ N
 dp:0 < D
 db:D < B
 nb:N < B
theorem GZ:2 ^ 40 * DD 6 < B:=by decide +kernel
theorem Gn.of {k m:Nat} {r:List Rat} (h:Gd k m r) (f:Ma k m):Gn (DD k) (m * DD k) r:=by
 have hd:DD k ≤ DD 6:=Nat.pow_le_pow_right (by decide) f.1
 exact ⟨h.len,fun x hx=>(h.lq x hx).bd.2,fun x hx=>(h.lq x hx).bd.1,eK k,Mv (by have:=f.1; omega),Nat.lt_of_le_of_lt (Nat.mul_le_mul f.2 hd) GZ⟩
def ME (ts:List T) (t:T):Prop:=∃ r D N,ts=[aq r] /\ Gn D N r /\ t=.int (aV r:Nat)
def KY:List T -> Option T:=mk ME
theorem Du {r r':List Rat} (e:([aq r]:List T)=[aq r']):r=r':=by
 injection e with e _
 exact pW e
theorem JW {r:List Rat} {D N:Nat} (h1:Gn D N r):KY [aq r]=some (.int (aV r:Nat)):=
 mk_eq ⟨r,D,N,rfl,h1,rfl⟩ fun t' ⟨r',_,_,e,_,e2⟩=>by rw [e2,Du e]
theorem nD (ts:List T) (t:T) (h:KY ts=some t):cW 4 1 (fY cZ) ts=some t:=by
 obtain ⟨r,D,N,rfl,h1,rfl⟩:=x9 h
 clear h
 obtain ⟨u,v,hl⟩:=zU h1.db h1.dp (some (.sh (aq r))) r 1 none none (Nat.one_dvd _) h1.den
 have e:cW 4 1 (fY cZ) [aq r]=(((dU (cT (aI (ao 2) (aI (ao 3) cD))) p9 (r.map bO) [some (.sh (aq r)),some (.sh (.int 1)),none,none]).bind fun r=>match r with | .nx τ'=>bN (ae 1) τ' | r=>some r).bind fun r=>match r with | .rt t=>some t | .nx _=>some .non | _=>none):=rfl
 have hl':dU (cT (aI (ao 2) (aI (ao 3) cD))) p9 (r.map bO) [some (.sh (aq r)),some (.sh (.int 1)),none,none]=_:=hl
 rw [e,hl']
 rfl
def aY (L:Nat) (x:Rat):Int:=x.num * ((L:Int).fdiv x.den)
theorem uG {L:Nat} {x:Rat} (hL:0 < L) (h:x.den ∣ L):Rat.divInt (aY L x) L=x:=by
 obtain ⟨c,hc⟩:=h
 have hc0:(c:Int) ≠ 0:=fun z=>by
  have:c=0:=by omega
  rw [this,Nat.mul_zero] at hc
  omega
 have hd:=den_pos x
 have e:(L:Int).fdiv x.den=c:=by
  rw [hc,Int.natCast_mul]
  exact Int.mul_fdiv_cancel_left _ (by omega)
 unfold aY
 rw [e,hc,Int.natCast_mul,Rat.divInt_mul_right hc0]
 exact fO x
def MD (ts:List T) (t:T):Prop:=∃ r D N,ts=[aq r,.int (aV r:Nat)] /\ Gn D N r /\ t=.lst (r.map fun x=>T.int (aY (aV r) x))
def KW:List T -> Option T:=mk MD
theorem JV {r:List Rat} {D N:Nat} (h1:Gn D N r):KW [aq r,.int (aV r:Nat)]=some (.lst (r.map fun x=>T.int (aY (aV r) x))):=
 mk_eq ⟨r,D,N,rfl,h1,rfl⟩ fun t' hq__=>by
  obtain ⟨r',_,_,e,_,e2⟩:=hq__
  injection e with e3 e4
  rw [e2,pW e3]
theorem vL {D:Nat}:∀ (r:List Rat) (l:Nat),l ∣ D -> (∀ x ∈ r,x.den ∣ D) -> r.foldl (fun l x=>Nat.lcm l x.den) l ∣ D
 | [],l,h,_=>h
 | x :: r,l,h,hx=>vL r _ (Nat.lcm_dvd h (hx x List.mem_cons_self)) fun z hz=>hx z (List.mem_cons_of_mem _ hz)
theorem zF {r:List Rat} {D N:Nat} (h1:Gn D N r):aV r ∣ D /\ 0 < aV r /\ ∀ x ∈ r,x.den ∣ aV r:=by
 have h:aV r ∣ D:=vL r 1 (Nat.one_dvd _) h1.den
 exact ⟨h,Nat.pos_of_dvd_of_pos h h1.dp,fun x hx=>yX r 1 x hx⟩
theorem GQ {D N:Nat} {x:Rat} {L:Nat} (hx:x.num.natAbs ≤ N) (hp:0 < D) (hL:L ∣ D):(aY L x).natAbs ≤ N * D:=by
 have hl:L ≤ D:=Nat.le_of_dvd hp hL
 have hd:=den_pos x
 unfold aY
 rw [Int.natAbs_mul,Int.fdiv_eq_ediv_of_nonneg _ (by omega)]
 refine Nat.mul_le_mul hx ?_
 have:=Int.ediv_le_self (x.den:Int) (show (0:Int) ≤ (L:Int) by omega)
 have:=Int.ediv_nonneg (show (0:Int) ≤ (L:Int) by omega) (show (0:Int) ≤ (x.den:Int) by omega)
 omega
theorem Bi (ts:List T) (t:T) (h:KW ts=some t):cW 2 2 uQ ts=some t:=by
 obtain ⟨r,D,N,rfl,h1,rfl⟩:=x9 h
 clear h
 obtain ⟨q1,q2,q3⟩:=zF h1
 have hB:=h1.db
 have hN:=h1.nb
 have hLk:aV r ≤ D:=Nat.le_of_dvd h1.dp q1
 have hc:=gE (φ:=fun x:Rat=>T.int x.num) (ψ:=fun x=>T.int x.den) (fe:=aH bh (ae 0) (aH cG (ae 2) (ae 1))) (g:=fun x=>T.int (aY (aV r) x)) (ρ:=[some (.sh (.int (aV r:Nat)))]) rfl r none none [] (fun x hx=>by
  have hd:=den_pos x
  have hxd:x.den ≤ aV r:=Nat.le_of_dvd q2 (q3 x hx)
  have n1:¬ ((x.den:Int)=0):=by omega
  have n2:(x.den:Int).natAbs < B:=by omega
  have n3:x.num.natAbs < B:=by have:=h1.num x hx; omega
  have n4:((aV r:Nat):Int).fdiv (x.den:Int)=((aV r:Nat):Int) / (x.den:Int):=Int.fdiv_eq_ediv_of_nonneg _ (by omega)
  have n5:(((aV r:Nat):Int).fdiv (x.den:Int)).natAbs < B:=by
   rw [n4]
   have:=Int.ediv_le_self (x.den:Int) (show (0:Int) ≤ ((aV r:Nat):Int) by omega)
   have:=Int.ediv_nonneg (show (0:Int) ≤ ((aV r:Nat):Int) by omega) (show (0:Int) ≤ (x.den:Int) by omega)
   omega
  have e:aY (aV r) x=x.num * ((aV r:Nat):Int).fdiv (x.den:Int):=rfl
  rw [e]
  clear e n4 hd hxd q1 q2 q3 hB hN hLk h1 hx
  walk_at "ev") (cq h1.len)
 have e:=bT (no:=2) (cap:=[1]) (fi:=aX (ae 0)) (fg:=qI) (ft:=av) (τ:=[some (.sh (aq r)),some (.sh (.int (aV r:Nat)))]) (h1:=rfl) rfl rfl hc
 show (((cm 2 [1] _ qI av _ [some (.sh (aq r)),some (.sh (.int (aV r:Nat)))]).bind fun p=>some (R.rt p.1)).bind _)=_
 rw [e]
 rfl
open PySem PySem.Spec PyProof.Rows L2 TM Qm Rq
def bitsQ (r:List Rat):List Int:=r.map fun x=>(Builtin.Int.intBits (x.den:Int):Int)
def longest (r:List Rat):Int:=if bitsQ r=[] then 1 else bestOf (bitsQ r)
def liftT (r:List Rat):T:=.tup [aq r,.lst (r.map fun x=>T.int (aY (aV r) x)),.int (aV r:Nat),.int (longest r)]
theorem Gg {r s:List Rat} (f g:Rat -> Int):(List.zip r s).map (fun p=>f p.1 * g p.2)=List.zipWith (· * ·) (r.map f) (s.map g):=by
 rw [List.zipWith_map]
 induction r generalizing s with
 | nil=>simp
 | cons x r ih =>
  cases s with
  | nil=>simp
  | cons y s=>simp [ih]
theorem yz {M:Nat}:∀ l:List Int,(∀ n ∈ l,n.natAbs ≤ M) -> l.sum.natAbs ≤ l.length * M
 | [],_=>by simp
 | n :: l,h=>by
  rw [List.sum_cons,List.length_cons,Nat.add_mul,Nat.one_mul]
  have h1:=h n List.mem_cons_self
  have h2:=yz l fun z hz=>h z (List.mem_cons_of_mem _ hz)
  have:=Int.natAbs_add_le n l.sum
  omega
open PySem PySem.Spec PyProof.Rows L2 TM Qm Rq
theorem xu {no:Nat} {cap:List Nat} {fi:FA} {fg:FG} {ft:FT} {fe:gX} {τ τ1:aB} {ts:List T} {us:List O} (h1:fi τ=some (ts,τ1)) (h2:frzAll cap τ1=τ1) (h3:bX (cv no cap τ1)=true) (h4:ip fg ft fe ts (cv no cap τ1) []=some us):cJ no cap fi fg ft fe τ=some (.lst us,τ1):=by
 unfold cJ
 rw [h1,Option.bind_some]
 dsimp only
 rw [h2,if_pos h3,h4]
 rfl
theorem Hu {r:List Rat} {j:Nat} (h:j < r.length):cn (aq r) (.int (j:Nat))=some (bO (r.getD j 0)):=by
 have e:(r.map bO)[j]? = some (bO (r.getD j 0)):=by
  rw [List.getElem?_map,List.getD_eq_getElem?_getD,List.getElem?_eq_getElem h]
  rfl
 exact sr e
def Wd (w:Nat) (A:List (List Rat)):Prop:=∀ r ∈ A,r.length=w
def eT (A:List (List Rat)) (w:Nat):List (List Rat):=(List.range w).map fun j=>iH A j
theorem yW {k m:Nat} {A:List (List Rat)} (h:Tb k m A) (j:Nat):Gd k m (iH A j):=by
 refine ⟨by unfold iH; rw [List.length_map]; exact h.len,fun x hx=>?_⟩
 obtain ⟨r,hr,rfl⟩:=List.mem_map.mp hx
 rw [List.getD_eq_getElem?_getD]
 cases e:r[j]? with
 | none=>exact (Lq.zero k).mono (Nat.zero_le _)
 | some y=>exact (h.row r hr).lq y (List.mem_of_getElem? e)
def MF (ts:List T) (o:O):Prop:=∃ A,∃ w:Nat,ts=[ak A,.int (w:Nat)] /\ A.length ≤ 12 /\ Wd w A /\ w ≤ 12 /\ o=dG (eT A w)
def JZ:List T -> Option O:=mk MF
theorem Ez {a b:Nat} (h:T.int (a:Nat)=T.int (b:Nat)):a=b:=by
 injection h with h
 omega
theorem J0 {A:List (List Rat)} {w:Nat} (h1:A.length ≤ 12) (h2:Wd w A) (h3:w ≤ 12):JZ [ak A,.int (w:Nat)]=some (dG (eT A w)):=
 mk_eq ⟨A,w,rfl,h1,h2,h3,rfl⟩ fun t' hq__=>by
  obtain ⟨A',w',e,_,_,_,e2⟩:=hq__
  injection e with e3 e4
  injection e4 with e4 _
  rw [e2,DO e3,Ez e4]
theorem Bj (ts:List T) (o:O) (h:JZ ts=some o):jG 2 2 jF ts=some o:=by
 obtain ⟨A,w,rfl,h1,h2,h3,rfl⟩:=x9 h
 clear h
 have inner:∀ j:Nat,j < w -> cJ 1 [0] (aX (ae 1)) (ao 0) av (md (aH cn (ae 0) (ae 1))) [some (.sh (.int (j:Nat))),some (.sh (ak A))]=some (eV (iH A j),[some (.sh (.int (j:Nat))),some (.sh (ak A))]):=fun j hj=>by
  have hc:=cR (φ:=aq) (fe:=md (aH cn (ae 0) (ae 1))) (g:=fun r=>O.val (bO (r.getD j 0))) (ρ:=[some (.sh (.int (j:Nat)))]) rfl A none [] (fun r hr=>by
   have e:=Hu (r:=r) (j:=j) (by rw [h2 r hr]; exact hj)
   show (((cn (aq r) (.int (j:Nat))).bind fun t=>some (t,[some (Sl.sh (aq r)),some (Sl.sh (T.int (j:Nat)))])).bind fun p=>some (O.val p.1,p.2))=_
   rw [e]
   rfl) (kc h1)
  have e:=ee (no:=1) (cap:=[0]) (fi:=aX (ae 1)) (fg:=ao 0) (ft:=av) (τ:=[some (.sh (.int (j:Nat))),some (.sh (ak A))]) rfl rfl rfl hc
  rw [e]
  show some (O.lst (A.map fun r=>O.val (bO (r.getD j 0))),_)=some (O.lst (((iH A j).map bO).map O.val),_)
  unfold iH
  rw [List.map_map,List.map_map]
  rfl
 have hc:=cR (φ:=fun j:Nat=>T.int (j:Nat)) (fe:=cJ 1 [0] (aX (ae 1)) (ao 0) av (md (aH cn (ae 0) (ae 1)))) (g:=fun j=>eV (iH A j)) (ρ:=[some (.sh (ak A))]) rfl (List.range w) none [] (fun j hj=>inner j (List.mem_range.mp hj)) (kc (by rw [List.length_range]; exact h3))
 have e:=ee (no:=1) (cap:=[0]) (fi:=fq (aa (ae 1) aj)) (fg:=ao 0) (ft:=av) (τ:=[some (.sh (ak A)),some (.sh (.int (w:Nat)))]) (oK (f:=ae 1) rfl (by omega)) rfl rfl hc
 have e0:jG 2 2 jF [ak A,.int (w:Nat)]=jF [some (.sh (ak A)),some (.sh (.int (w:Nat)))]:=rfl
 rw [e0]
 unfold jF jI
 rw [e]
 show some (O.lst ((List.range w).map fun j=>eV (iH A j)))=some (O.lst ((eT A w).map eV))
 unfold eT
 rw [List.map_map]
 rfl
abbrev xX:List T -> Option T:=fun ts=>(JZ ts).bind fun o=>some o.tr
theorem HE {A:List (List Rat)} {w:Nat} (h1:A.length ≤ 12) (h2:Wd w A) (h3:w ≤ 12):xX [ak A,.int (w:Nat)]=some (ak (eT A w)):=by
 show (JZ _).bind _=_
 rw [J0 h1 h2 h3]
 show some (dG _).tr=_
 rw [fV]
def dY (A B:List (List Rat)):List (List Rat):=(List.zip A B).map fun p=>p.1 ++ p.2
open PySem PySem.Spec PyProof.Rows L2 TM Qm Rq
open PySem PySem.Spec PyProof.Rows L2 TM Qm Rq
mutual
theorem eqv_refl:∀ d:PyData,d.canLay0=true -> PyData.eqv d d=true
 | .none,_=>by simp [PyData.eqv]
 | .bool _,_=>by simp [PyData.eqv]
 | .int _,_=>by simp [PyData.eqv]
 | .str _,_=>by simp [PyData.eqv]
 | .list xs,h=>by
  simp only [PyData.canLay0] at h
  simp only [PyData.eqv]
  exact eqvAll_refl xs h
 | .tuple xs,h=>by
  simp only [PyData.canLay0] at h
  simp only [PyData.eqv]
  exact eqvAll_refl xs h
 | .dict _,h=>by simp [PyData.canLay0] at h
theorem eqvAll_refl:∀ ds:List PyData,PyData.canLayAll0 ds=true -> PyData.eqvAll ds ds=true
 | [],_=>by simp [PyData.eqvAll]
 | d :: ds,h=>by
  simp only [PyData.canLayAll0,Bool.and_eq_true] at h
  simp only [PyData.eqvAll,eqv_refl d h.1,eqvAll_refl ds h.2,Bool.and_self]
end
def zW (n:Nat) (t:T):Prop:=∃ d,D1 t=some d /\ d.canLay0=true /\ d.depth ≤ n
theorem uA {n:Nat}:∀ {ts:List T},(∀ x ∈ ts,zW n x) -> ∃ ds,qo ts=some ds /\ PyData.canLayAll0 ds=true /\ PyData.depthAll ds ≤ n
 | [],_=>⟨[],rfl,rfl,Nat.zero_le _⟩
 | t :: ts,h=>by
  obtain ⟨d,h1,h2,h3⟩:=h t List.mem_cons_self
  obtain ⟨ds,g1,g2,g3⟩:=uA fun x hx=>h x (List.mem_cons_of_mem _ hx)
  refine ⟨d :: ds,by simp only [qo,h1,g1,Option.bind_some],by simp only [PyData.canLayAll0,h2,g2,Bool.and_self],by simp only [PyData.depthAll]; omega⟩
theorem uB {n:Nat} {ts:List T} (h:∀ x ∈ ts,zW n x):zW (n + 1) (.lst ts):=by
 obtain ⟨ds,h1,h2,h3⟩:=uA h
 exact ⟨.list ds,by simp only [D1,h1,Option.map_some],by simp only [PyData.canLay0,h2],by simp only [PyData.depth]; omega⟩
theorem GL (q:Rat):zW 1 (bO q):=⟨.tuple [.int q.num,.int q.den],rfl,rfl,Nat.le_of_ble_eq_true rfl⟩
theorem zX (r:List Rat):zW 2 (aq r):=uB fun x hx=>by
 obtain ⟨q,_,rfl⟩:=List.mem_map.mp hx
 exact GL q
theorem mJ (A:List (List Rat)):zW 3 (ak A):=uB fun x hx=>by
 obtain ⟨q,_,rfl⟩:=List.mem_map.mp hx
 exact zX q
theorem cmp_self {neg:Bool} {t:T} {n:Nat} (h:zW n t) (hn:n ≤ 60):Ep neg t t=some (.bl (!neg)):=by
 obtain ⟨d,h1,h2,h3⟩:=h
 have hs:SeqAt.shaped d=true:=by
  unfold SeqAt.shaped
  rw [h2,Bool.true_and]
  exact decide_eq_true (by omega)
 unfold Ep
 rw [h1,Option.bind_some,Option.bind_some,if_pos ⟨hs,hs⟩,eqv_refl d h2]
 cases neg <;> rfl
open PySem PySem.Spec PyProof.Rows L2 TM Qm Rq
structure Mh (n:Nat) (A:List (List Rat)):Prop where
 sq:Sq n A
 n4:n ≤ 4
 lq:∀ r ∈ A,∀ x ∈ r,Lq 1 9 x
theorem Mh.tb {n:Nat} {A:List (List Rat)} (h:Mh n A):Tb 1 9 A:=⟨by have:=h.sq.1; have:=h.n4; omega,fun r hr=>⟨by have:=h.sq.2 r hr; have:=h.n4; omega,h.lq r hr⟩⟩
theorem oF {f:FE} {s:FS} {τ:aB} (h:f τ=some (.bl true,τ)):ck (cK (cM f)) s bI τ=some (.nx τ):=by
 unfold ck cK cM
 rw [h]
 rfl
theorem bF {t u:FS} {τ τ':aB} (h:t τ=some (.nx τ')):bf t u τ=u τ':=by
 unfold bf
 rw [h]
 rfl
theorem eu {f:FE} {τ:aB} {t:T} (h:f τ=some (t,τ)):aa f aj τ=some ([t],τ):=by
 unfold aa
 rw [h]
 rfl
theorem iG {f g:FE} {τ:aB} {t u:T} (h:f τ=some (t,τ)) (h':g τ=some (u,τ)):aa f (aa g aj) τ=some ([t,u],τ):=by
 unfold aa
 rw [h,Option.bind_some]
 dsimp only
 rw [h']
 rfl
theorem Tb.add {k m m':Nat} {A B:List (List Rat)} (h1:Tb k m A) (h2:Tb k m' B):Tb k (m + m') (Je A B):=by
 refine ⟨by unfold Je; rw [List.length_map]; exact oP A B h1.len,fun r hr=>?_⟩
 obtain ⟨p,hp,rfl⟩:=List.mem_map.mp hr
 refine ⟨by unfold Jd; rw [List.length_map]; exact oP _ _ (h1.row _ (dg hp).1).len,fun x hx=>?_⟩
 obtain ⟨q,hq,rfl⟩:=List.mem_map.mp hx
 exact ((h1.row _ (dg hp).1).lq _ (dg hq).1).add ((h2.row _ (dg hp).2).lq _ (dg hq).2)
theorem Tb.scale {k m k' m':Nat} {b:Rat} {A:List (List Rat)} (h1:Lq k m b) (h2:Tb k' m' A):Tb (k + k') (m * m') (J3 b A):=by
 refine ⟨by unfold J3; rw [List.length_map]; exact h2.len,fun r hr=>?_⟩
 obtain ⟨p,hp,rfl⟩:=List.mem_map.mp hr
 refine ⟨by unfold mulR; rw [List.length_map]; exact (h2.row p hp).len,fun x hx=>?_⟩
 obtain ⟨q,hq,rfl⟩:=List.mem_map.mp hx
 exact h1.mul ((h2.row p hp).lq q hq)
theorem Tb.turn {k m w:Nat} {A:List (List Rat)} (h:Tb k m A) (hw:w ≤ 12):Tb k m (eT A w):=by
 refine ⟨by unfold eT; rw [List.length_map,List.length_range]; exact hw,fun r hr=>?_⟩
 obtain ⟨j,_,rfl⟩:=List.mem_map.mp hr
 exact yW h j
theorem Tb.mul {k m k' m' w:Nat} {A B:List (List Rat)} (h1:Tb k m A) (h2:Tb k' m' B) (hw:w ≤ 12):Tb (k + k') (12 * (m * m')) (mulM A B w):=by
 refine ⟨by unfold mulM; rw [List.length_map]; exact h1.len,fun r hr=>?_⟩
 obtain ⟨p,hp,rfl⟩:=List.mem_map.mp hr
 refine ⟨by rw [wA]; exact hw,fun x hx=>?_⟩
 obtain ⟨j,_,rfl⟩:=List.mem_map.mp hx
 exact (Ak (h1.row p hp).lq (yW h2 j).lq).mono (Nat.mul_le_mul_right _ (h1.row p hp).len)
open PySem PySem.Spec PyProof.Rows L2 TM Qm Rq
structure Dr (w:Nat) (A:List (List Rat)):Prop where
 len:A.length ≤ 4
 wd:Wd w A
 w4:w ≤ 4
 lq:∀ r ∈ A,∀ x ∈ r,Lq 1 9 x
theorem Dr.tb {w:Nat} {A:List (List Rat)} (h:Dr w A):Tb 1 9 A:=⟨by have:=h.len; omega,fun r hr=>⟨by have:=h.wd r hr; have:=h.w4; omega,h.lq r hr⟩⟩
theorem ve {fi:FA} {fg:FG} {fb:FS} {τ:aB} {ts:List T} {r:R} (h1:fi τ=some (ts,τ)) (h2:dU fg fb ts τ=some r):k9 fi fg fb τ=some r:=by
 unfold k9
 rw [h1,Option.bind_some]
 exact h2
theorem jx {f:FE} {τ τ':aB} {t:T} (h:f τ=some (t,τ')):bN f τ=some (.rt t):=by
 unfold bN
 rw [h]
 rfl
open PySem PySem.Spec PyProof.Rows L2 TM Qm Rq
theorem kC {f g i:FE} {τ:aB} {t u v:T} (h:f τ=some (t,τ)) (h':g τ=some (u,τ)) (h'':i τ=some (v,τ)):aa f (aa g (aa i aj)) τ=some ([t,u,v],τ):=by
 have e:=iG h' h''
 generalize hg:aa g (aa i aj)=G at *
 unfold aa
 rw [h,Option.bind_some]
 dsimp only
 rw [e]
 rfl
theorem gR {i:Nat} {f:FE} {τ τ1 τ2:aB} {t:T} (h:f τ=some (t,τ1)) (h2:bU i (fC t) τ1=some (.nx τ2)):bU i f τ=some (.nx τ2):=by
 unfold bU at *
 rw [h]
 exact h2
open PySem PySem.Spec PyProof.Rows L2 TM Qm Rq
theorem JP {L:List T} {i:Int} (h0:0 ≤ i) (h1:i < (L.length:Int)):∃ t,cn (.lst L) (.int i)=some t /\ t ∈ L:=by
 obtain ⟨j,rfl⟩:=Int.eq_ofNat_of_zero_le h0
 have hj:j < L.length:=by omega
 exact ⟨L[j],sr (List.getElem?_eq_getElem hj),List.getElem_mem hj⟩
theorem cz {i:Int} (h1 : -1000000 ≤ i) (h2:i ≤ 1000000):i.natAbs < B:=by
 have:=Jg
 omega
theorem Ge (a:Int):T.tup [.int a,.int 1]=bO (Rat.divInt a 1):=by
 have e:=Rat.divInt_ofNat a 1
 rw [show ((1:Nat):Int)=1 from rfl] at e
 rw [e,Rat.mkRat_one]
 rfl
def drawn (d:Int):Rat:=Rat.divInt (d.fmod 19 - 9) (1 + d.fdiv 19)
open PySem PySem.Spec PyProof.Rows L2 TM Qm Rq
theorem nM {i no:Nat} {cap:List Nat} {fi:FA} {fg:FG} {ft:FT} {fe:FE} {τ:aB} {ts us:List T} (h1:fi τ=some (ts,τ)) (h2:frzAll cap τ=τ) (h3:bX (cv no cap τ)=true) (h4:eQ fg ft fe ts (cv no cap τ) []=some us):dF i no cap fi fg ft fe τ=some (.nx (τ.set i (some (.own us)))):=by
 unfold dF
 rw [h1,Option.bind_some]
 dsimp only
 rw [h2,if_pos h3,h4]
 rfl
theorem vW {f:FE} {τ:aB} (h:f τ=some (.bl true,τ)):cK (cM f) τ=some (false,τ):=by
 unfold cK cM
 rw [h]
 rfl
open PySem PySem.Spec PyProof.Rows L2 TM Qm Rq
def iT (l:List Int):T:=.lst (l.map T.int)
def Mr (M:Nat) (x:Dt.Row):Prop:=∀ j,(x j).natAbs ≤ M
theorem eZ {m n:Nat} {fb:FS} {ts:List T} {t:T} (hl:ts.length=n) (h:fb (ts.map (fun t=>some (Sl.sh t)) ++ List.replicate (m - n) none)=some (.rt t)):cW m n fb ts=some t:=by
 unfold cW
 rw [if_pos hl,h]
 rfl
open PySem PySem.Spec PyProof.Rows L2 TM Qm Rq
theorem Jf {i:Nat} {f:FE} {τ:aB} {ts:List T} {t:T} (h:τ[i]? = some (some (.own ts))) (hf:f τ=some (t,τ)) (hl:ts.length < sizeLine):kY i f τ=some (.nx (τ.set i (some (.own (ts ++ [t]))))):=by
 unfold kY
 rw [h]
 dsimp only
 rw [hf,Option.bind_some]
 dsimp only
 rw [h]
 dsimp only
 rw [if_pos hl]
structure Mu (M L:Nat) (R:List Dt.Row) (ps:List Nat) (ks:List (Nat × List Int)):Prop where
 fw:Dt.Fw L [] [] ks R ps
 bd:∀ y ∈ R,Mr M y
 lr:R.length ≤ 5
 lp:ps.length ≤ 5
open PySem PySem.Spec PyProof.Rows L2 TM Qm Rq
def Iy (r:List Rat):List Int:=r.map (aY (aV r))
theorem yT {g:List T -> Option T} {f:FA} {ρ ρ':aB} {t:T} (ts:List T) (h1:f ρ=some (ts,ρ')) (h2:g ts=some t):ai g f ρ=some (t,ρ'):=by
 unfold ai
 rw [h1,Option.bind_some,h2]
 rfl
theorem xm {f:FE} {g:FA} {τ τ1 τ2:aB} {t:T} {ts:List T} (h1:f τ=some (t,τ1)) (h2:g τ1=some (ts,τ2)):aa f g τ=some (t :: ts,τ2):=by
 unfold aa
 rw [h1,Option.bind_some,h2]
 rfl
theorem bz {g:T -> T -> Option T} {fa fb:FE} {τ:aB} {a b t:T} (h1:fa τ=some (a,τ)) (h2:fb τ=some (b,τ)) (h:g a b=some t):aH g fa fb τ=some (t,τ):=by
 unfold aH
 rw [h1,Option.bind_some,h2,Option.bind_some]
 show (g a b).bind _=_
 rw [h]
 rfl
theorem len_tab (A:List (List Rat)):bY [ak A]=some (.int (A.length:Nat)):=by
 show some (T.int ((A.map aq).length:Nat))=_
 rw [List.length_map]
theorem LH {f g:FE} {τ:aB} {a b:Nat} (h1:f τ=some (.int (a:Nat),τ)) (h2:g τ=some (.int (b:Nat),τ)):eE (aH IL f g) τ=some (decide (a < b),τ):=by
 unfold eE aH
 rw [h1,Option.bind_some]
 dsimp only
 rw [h2,Option.bind_some]
 show some (decide ((a:Int) < (b:Int)),τ)=_
 congr 2
 simp only [Int.ofNat_lt]
theorem Hw {A:List (List Rat)} {i:Nat} (h:i < A.length):cn (ak A) (.int (i:Nat))=some (aq (A.getD i [])):=by
 show mS (A.map aq) (i:Int)=_
 unfold mS tM
 rw [if_pos (by omega),List.length_map,if_pos (by omega),Option.bind_some,Int.toNat_natCast,List.getElem?_map,List.getElem?_eq_getElem h,List.getD_eq_getElem?_getD,List.getElem?_eq_getElem h]
 rfl
theorem AH {l:List (List Rat)} {c:Nat} (h:c < l.length):l.getD c [] ∈ l:=by
 rw [List.getD_eq_getElem?_getD,List.getElem?_eq_getElem h]
 exact List.getElem_mem h
def sG (row Iy:List Int):Int:=(List.zipWith (· * ·) row Iy).sum
theorem Fz {i:Nat} {f g:FE} {τ:aB} {us:List T} {k:Nat} {t:T} (h:τ[i]? = some (some (.own us))) (hf:f τ=some (t,τ)) (hg:g τ=some (.int (k:Nat),τ)) (hk:k < us.length):je i f g τ=some (.nx (τ.set i (some (.own (us.set k t))))):=by
 unfold je
 rw [hf,Option.bind_some]
 dsimp only
 rw [h]
 dsimp only
 rw [hg,Option.bind_some]
 dsimp only
 rw [h]
 dsimp only
 rw [show tM us.length ((k:Nat):Int)=some k from by unfold tM; rw [if_pos (by omega),if_pos (by omega),Int.toNat_natCast]]
 rfl
theorem pj {N d:Int} (hd:¬ d=0) (bd:d.natAbs < B):cG (.int N) (.int d)=some (.int (N.fdiv d)):=if_pos ⟨hd,bd⟩
theorem nS {a b:Int} (h1:a.natAbs < B) (h2:b.natAbs < B):bh (.int a) (.int b)=some (.int (a * b)):=if_pos ⟨h1,h2⟩
def KD (m i:Nat) (low:Nat):List Int:=(List.range m).map fun o=>if o=i then (low:Int) else 0
def IA (m i:Nat) (r:List Rat):List Int:=Iy r ++ KD m i (aV r)
def KC (A:List (List Rat)):List (List Int):=(List.range A.length).map fun i=>IA A.length i (A.getD i [])
theorem lG {f:FE} {τ:aB} {k:Int} (h:f τ=some (.int k,τ)):gc f τ=some (some k,τ):=by
 unfold gc
 rw [h]
 rfl
theorem FL {f:FE} {fl fh:FO} {τ:aB} {a t:T} {lo hi:Option Int} (h:f τ=some (a,τ)) (h1:fl τ=some (lo,τ)) (h2:fh τ=some (hi,τ)) (h3:IM a lo hi=some t):DX f fl fh τ=some (t,τ):=by
 unfold DX
 rw [h,Option.bind_some]
 dsimp only
 rw [h1,Option.bind_some]
 dsimp only
 rw [h2,Option.bind_some]
 dsimp only
 rw [h3]
 rfl
theorem xq {a b:Int} (hb:b ≠ 0):(Rat.divInt a b).den ∣ b.natAbs:=by
 rw [Rat.den_divInt,if_neg hb]
 exact Nat.div_dvd_of_dvd (by
  have:=Int.natAbs_dvd_natAbs.mpr (Int.gcd_dvd_left b a)
  rwa [Int.natAbs_natCast] at this)
theorem xr {a b:Int} (hb:b ≠ 0):(Rat.divInt a b).num.natAbs ≤ a.natAbs:=by
 rw [Rat.num_divInt]
 have h1:((Int.gcd b a:Nat):Int) ∣ b.sign * a:=Int.dvd_mul_of_dvd_right (Int.gcd_dvd_right _ _)
 rw [Int.natAbs_ediv_of_dvd h1,Int.natAbs_mul]
 have h2:b.sign.natAbs=1:=by
  rcases Int.lt_or_gt_of_ne hb with h | h
  ·rw [Int.sign_eq_neg_one_of_neg h]; rfl
  ·rw [Int.sign_eq_one_of_pos h]; rfl
 rw [h2,Nat.one_mul]
 exact Nat.div_le_self _ _
theorem pE {N d:Int} (hd:¬ d=0):cV (.int N) (.int d)=some (.int (N.fmod d)):=if_pos hd
structure Bw (w M:Nat) (A:List (List Rat)):Prop where
 wd:∀ r ∈ A,r.length=w
 lq:∀ r ∈ A,∀ x ∈ r,Lq 1 M x
theorem ug {f:FE} {c:FT} {s:FS} {τ τ' τ'':aB} (h1:f τ=some (.bl true,τ')) (h2:c τ'=some (false,τ'')):ck (mZ (cK (cM f)) c) s bI τ=some (.nx τ''):=by
 have e:cK (cM f) τ=some (false,τ'):=by
  unfold cK cM
  rw [h1]
  rfl
 unfold ck mZ
 rw [e,Option.bind_some]
 dsimp only
 rw [if_neg (by decide),h2]
 rfl
theorem kO {c:FT} {s:FS} {τ τ':aB} (h:c τ=some (false,τ')):ck c s bI τ=some (.nx τ'):=by
 unfold ck
 rw [h]
 rfl
theorem iP:∀ ts:List T,O.trs (ts.map O.val)=ts
 | []=>rfl
 | t :: ts=>by rw [List.map_cons,O.trs,iP ts]; rfl
open PySem PySem.Spec PyProof.Rows L2 TM Qm Rq
def Tr (w m:Nat) (Jq:Nat -> Nat -> Rat) (x:Dt.Row):Prop:=∀ j < w + 1,((x j:Int):Rat)=Dq.sm (List.range m) fun k=>((x (w + 1 + k):Int):Rat) * Jq k j
theorem Tr.sp {w m:Nat} {Jq:Nat -> Nat -> Rat}:∀ {W:List Dt.Row} {x:Dt.Row},Dt.Sp W x -> (∀ y ∈ W,Tr w m Jq y) -> Tr w m Jq x
 | _,_,.nil h,_=>fun j _=>by
  rw [h j,Dq.qh (g:=fun _=>0) fun k _=>by rw [h]; exact Rat.zero_mul _,Dq.Aa]
  rfl
 | _,_,.cons (w:=v) (y:=y) a h hy,hw=>fun j hj=>by
  have h1:=hw v List.mem_cons_self j hj
  have h2:=Tr.sp hy (fun z hz=>hw z (List.mem_cons_of_mem _ hz)) j hj
  have e3:(Dq.sm (List.range m) fun k=>((a:Int):Rat) * (((v (w + 1 + k):Int):Rat) * Jq k j) + 1 * (((y (w + 1 + k):Int):Rat) * Jq k j))=((a:Int):Rat) * (Dq.sm (List.range m) fun k=>((v (w + 1 + k):Int):Rat) * Jq k j) + 1 * (Dq.sm (List.range m) fun k=>((y (w + 1 + k):Int):Rat) * Jq k j):=Dq.DG _ _ _ _ _
  rw [Rat.one_mul,<- h1,<- h2] at e3
  rw [h j,Rat.intCast_add,Rat.intCast_mul,<- e3]
  refine Dq.qh fun k _=>?_
  rw [h,Rat.intCast_add,Rat.intCast_mul]
  grind
open PySem PySem.Spec PyProof.Rows L2 TM Qm Rq
open PySem PySem.Spec PyProof.Rows L2 TM Qm Rq
def Ov (D N:Nat) (q:Rat):Prop:=∃ a:Int,q=Rat.divInt a (D:Int) /\ a.natAbs ≤ N
theorem Ov.zero (D:Nat):Ov D 0 0:=⟨0,by rw [Rat.zero_divInt],by simp⟩
theorem Ov.mono {D N N':Nat} {q:Rat} (h:Ov D N q) (hn:N ≤ N'):Ov D N' q:=by
 obtain ⟨a,h1,h2⟩:=h
 exact ⟨a,h1,Nat.le_trans h2 hn⟩
theorem Ov.add {D N N':Nat} (hD:0 < D) {x y:Rat} (h:Ov D N x) (h':Ov D N' y):Ov D (N + N') (x + y):=by
 obtain ⟨a,rfl,ha⟩:=h
 obtain ⟨b,rfl,hb⟩:=h'
 have hd:(D:Int) ≠ 0:=by omega
 refine ⟨a + b,?_,by have:=Int.natAbs_add_le a b; omega⟩
 rw [Rat.divInt_add_divInt _ _ hd hd,<- Int.add_mul,Rat.divInt_mul_right hd]
theorem Ov.mul {D D' N N':Nat} {x y:Rat} (h:Ov D N x) (h':Ov D' N' y):Ov (D * D') (N * N') (x * y):=by
 obtain ⟨a,rfl,ha⟩:=h
 obtain ⟨b,rfl,hb⟩:=h'
 refine ⟨a * b,?_,by rw [Int.natAbs_mul]; exact Nat.mul_le_mul ha hb⟩
 rw [Rat.divInt_mul_divInt,Int.natCast_mul]
theorem Ov.num {D N:Nat} (hD:0 < D) {q:Rat} (h:Ov D N q):q.num.natAbs ≤ N:=by
 obtain ⟨a,rfl,ha⟩:=h
 exact Nat.le_trans (xr (by omega)) ha
theorem Ov.den {D N:Nat} (hD:0 < D) {q:Rat} (h:Ov D N q):q.den ∣ D:=by
 obtain ⟨a,rfl,ha⟩:=h
 have:=xq (a:=a) (b:=(D:Int)) (by omega)
 rw [Int.natAbs_natCast] at this
 exact this
theorem Ov.sm {D N:Nat} (hD:0 < D) (hd:D < C) (hn:N < C) {q:Rat} (h:Ov D N q):Sm q:=⟨Nat.lt_of_le_of_lt (h.num hD) hn,Nat.lt_of_le_of_lt (Nat.le_of_dvd hD (h.den hD)) hd⟩
theorem Ov.lq {k m:Nat} {q:Rat} (h:Lq k m q):Ov (DD k) (m * DD k) q:=h
structure Gv (D N:Nat) (r:List Rat):Prop where
 len:r.length ≤ 12
 ov:∀ x ∈ r,Ov D N x
 dp:0 < D
 db:D < C
 nb:N < C
theorem Gv.gn {D N:Nat} {r:List Rat} (h:Gv D N r):Gn D N r:=⟨h.len,fun x hx=>(h.ov x hx).den h.dp,fun x hx=>(h.ov x hx).num h.dp,h.dp,Nat.lt_trans h.db CB,Nat.lt_trans h.nb CB⟩
theorem Gv.sm {D N:Nat} {r:List Rat} (h:Gv D N r) {x:Rat} (hx:x ∈ r):Sm x:=(h.ov x hx).sm h.dp h.db h.nb
structure Gj (D N D' N':Nat):Prop where
 dd:D * D' < C
 nn:12 * (N * N') < C
def qw (P:List T -> Option T):FS:=bU 2 (ai P (aa (ae 2) (aa (ai JX (aa (ae 3) (aa (ae 4) aj))) aj)))
theorem wR {P:List T -> Option T} (hP:∀ x y:Rat,Sm x -> Sm y -> P [bO x,bO y]=some (bO (x + y))) {D N D' N':Nat} (hD:0 < D) (hD':0 < D') (hd:D < C) (hn:N < C) (hd':D' < C) (hn':N' < C) (hdd:D * D' < C) (x0 x1:Option Sl):∀ (r s:List Rat) (a:Rat) (M:Nat) (u v:Option Sl),(∀ x ∈ r,Ov D N x) -> (∀ y ∈ s,Ov D' N' y) -> Ov (D * D') M a -> M + r.length * (N * N') < C ->
  ∃ u' v',dU (cT (aI (ao 3) (aI (ao 4) cD))) (qw P) ((List.zip r s).map fun p=>T.tup [bO p.1,bO p.2]) [x0,x1,some (.sh (bO a)),u,v]=some (.nx [x0,x1,some (.sh (bO (a + wsum r s))),u',v'])
 | [],s,a,M,u,v,_,_,_,_=>⟨u,v,by rw [qz,Rat.add_zero]; simp [dU]⟩
 | x :: r,[],a,M,u,v,_,_,_,_=>⟨u,v,by
   have z:wsum (x :: r) []=0:=by unfold wsum; rw [List.zipWith_nil_right]; rfl
   rw [z,Rat.add_zero]; simp [dU]⟩
 | x :: r,y :: s,a,M,u,v,h1,h2,h3,h4=>by
  have hx:=h1 x List.mem_cons_self
  have hy:=h2 y List.mem_cons_self
  have lx:=hx.mul hy
  have hp:=Nat.mul_pos hD hD'
  have la:=h3.add hp lx
  rw [List.length_cons,Nat.add_mul,Nat.one_mul] at h4
  obtain ⟨u',v',ih⟩:=wR hP hD hD' hd hn hd' hn' hdd x0 x1 r s (a + x * y) (M + N * N') (some (.sh (bO x))) (some (.sh (bO y))) (fun z hz=>h1 z (List.mem_cons_of_mem _ hz)) (fun z hz=>h2 z (List.mem_cons_of_mem _ hz)) la (by omega)
  refine ⟨u',v',?_⟩
  have k1:=JY (hx.sm hD hd hn) (hy.sm hD' hd' hn')
  have k2:=hP _ _ (h3.sm hp hdd (by omega)) (lx.sm hp hdd (by omega))
  have hb:(qw P) [x0,x1,some (.sh (bO a)),some (.sh (bO x)),some (.sh (bO y))]=some (.nx [x0,x1,some (.sh (bO (a + x * y))),some (.sh (bO x)),some (.sh (bO y))]):=by
   clear hP ih h1 h2 h3 h4 hx hy lx la hD hD' hd hn hd' hn' hdd hp
   unfold qw
   walk_at "ev"
  rw [List.zip_cons_cons,List.map_cons,gu (τ1:=[x0,x1,some (.sh (bO a)),some (.sh (bO x)),some (.sh (bO y))]) rfl hb,ih,gz,Rat.add_assoc]
theorem Al {D N D' N':Nat} (hD:0 < D) (hD':0 < D'):∀ {r s:List Rat},(∀ x ∈ r,Ov D N x) -> (∀ y ∈ s,Ov D' N' y) -> Ov (D * D') (r.length * (N * N')) (wsum r s)
 | [],s,_,_=>by rw [qz]; exact (Ov.zero _).mono (Nat.zero_le _)
 | x :: r,[],_,_=>by
  have z:wsum (x :: r) []=0:=by unfold wsum; rw [List.zipWith_nil_right]; rfl
  rw [z]; exact (Ov.zero _).mono (Nat.zero_le _)
 | x :: r,y :: s,h1,h2=>by
  rw [gz,List.length_cons,Nat.add_mul,Nat.one_mul,Nat.add_comm]
  exact ((h1 x List.mem_cons_self).mul (h2 y List.mem_cons_self)).add (Nat.mul_pos hD hD') (Al hD hD' (fun z hz=>h1 z (List.mem_cons_of_mem _ hz)) (fun z hz=>h2 z (List.mem_cons_of_mem _ hz)))
theorem IF {P:List T -> Option T} (hP:∀ x y:Rat,Sm x -> Sm y -> P [bO x,bO y]=some (bO (x + y))) {D N D' N':Nat} {r s:List Rat} (h1:Gv D N r) (h2:Gv D' N' s) (f:Gj D N D' N') :
  ∃ u v,k9 (eR (aa (ae 0) (aa (ae 1) aj))) (cT (aI (ao 3) (aI (ao 4) cD))) (qw P) [some (.sh (aq r)),some (.sh (aq s)),some (.sh (bO 0)),none,none]=some (.nx [some (.sh (aq r)),some (.sh (aq s)),some (.sh (bO (wsum r s))),u,v]):=by
 have hm:=Nat.mul_le_mul_right (N * N') h1.len
 obtain ⟨u,v,hl⟩:=wR hP h1.dp h2.dp h1.db h1.nb h2.db h2.nb f.dd (some (.sh (aq r))) (some (.sh (aq s))) r s 0 0 none none h1.ov h2.ov (Ov.zero _) (by have:=f.nn; omega)
 rw [Rat.zero_add] at hl
 have hi:eR (aa (ae 0) (aa (ae 1) aj)) [some (.sh (aq r)),some (.sh (aq s)),some (.sh (bO 0)),none,none]=some ((List.zip r s).map fun p=>T.tup [bO p.1,bO p.2],[some (.sh (aq r)),some (.sh (aq s)),some (.sh (bO 0)),none,none]):=by
  rw [<- gT]
  rfl
 exact ⟨u,v,ve hi hl⟩
abbrev KP:List T -> Option T:=cW 5 2 (rd JX IP)
theorem JA {D N D' N':Nat} {r s:List Rat} (h1:Gv D N r) (h2:Gv D' N' s) (f:Gj D N D' N'):KP [aq r,aq s]=some (bO (wsum r s)):=by
 obtain ⟨u,v,hl⟩:=IF (P:=IP) (fun _ _=>JU) h1 h2 f
 refine eZ rfl ?_
 show bf (bU 2 (fC (.tup [.int 0,.int 1]))) (bf (k9 (eR (aa (ae 0) (aa (ae 1) aj))) (cT (aI (ao 3) (aI (ao 4) cD))) (qw IP)) (bN (ae 2))) [some (.sh (aq r)),some (.sh (aq s)),none,none,none]=_
 rw [bF (τ':=[some (.sh (aq r)),some (.sh (aq s)),some (.sh (bO 0)),none,none]) rfl,bF hl]
 rfl
theorem rK {r:List Rat} {D N:Nat} (h:Gv D N r):0 ≤ longest r /\ longest r ≤ 4000:=by
 have hb:∀ n ∈ bitsQ r,0 ≤ n /\ n ≤ 4000:=fun n hn=>by
  obtain ⟨x,hx,rfl⟩:=List.mem_map.mp hn
  have h1:(x.den:Int).natAbs < B:=by have:=(h.sm hx).d; have:=CB; omega
  have:=xh h1
  omega
 unfold longest
 split
 ·omega
 ·unfold bestOf
  rw [List.getD_eq_getElem?_getD]
  cases e:(bitsQ r)[argBest (fun i j=>decide ((bitsQ r).getD i 0 > (bitsQ r).getD j 0)) ((bitsQ r).length - 1)]? with
  | none=>show (0:Int) ≤ 0 /\ (0:Int) ≤ 4000; omega
  | some n=>exact hb n (List.mem_of_getElem? e)
abbrev BP:List T -> Option T:=cW 2 1 (oX KY KW)
theorem Gy {r:List Rat} {D N:Nat} (h1:Gv D N r):BP [aq r]=some (liftT r):=by
 have k1:=JW h1.gn
 have k2:=JV h1.gn
 have hc:=gE (φ:=fun x:Rat=>T.int x.num) (ψ:=fun x=>T.int x.den) (fe:=uI ju (ae 1)) (g:=fun x=>T.int (Builtin.Int.intBits (x.den:Int):Int)) (ρ:=[]) rfl r none none [] (fun x hx=>rfl) (cq h1.len)
 have e:=bT (no:=2) (cap:=[]) (fi:=aX (ae 0)) (fg:=qI) (ft:=av) (τ:=[some (.sh (aq r)),some (.sh (.int (aV r:Nat)))]) (h1:=rfl) rfl rfl hc
 rw [List.nil_append] at e
 have e2:(r.map fun x:Rat=>T.int (Builtin.Int.intBits (x.den:Int):Int))=(bitsQ r).map T.int:=by unfold bitsQ; rw [List.map_map]; rfl
 rw [e2] at e
 have e3:zo (.lst ((bitsQ r).map T.int)) (.int 1)=some (.int (longest r)):=by
  show ((intsOf ((bitsQ r).map T.int)).bind fun ns=>some (T.int (if ns=[] then 1 else bestOf ns)))=_
  rw [jf]
  rfl
 have l4:=LF
 clear h1 hc e2
 unfold BP cW oX liftT
 walk_at "ev"
theorem qr {r:List Rat} {D N:Nat} (h:Gn D N r):(r.map (aY (aV r))).map (fun n=>Rat.divInt n (aV r:Nat))=r:=by
 obtain ⟨q1,q2,q3⟩:=zF h
 rw [List.map_map]
 have:r.map ((fun n=>Rat.divInt n (aV r:Nat)) ∘ aY (aV r))=r.map id:=List.map_congr_left fun x hx=>uG q2 (q3 x hx)
 rw [this,List.map_id]
theorem Ms:C * C * C < B:=by decide +kernel
abbrev DW:List T -> Option T:=cW 10 2 (fL KP vN)
set_option maxHeartbeats 1000000 in
theorem JB {D N D' N':Nat} {r s:List Rat} (h1:Gv D N r) (h2:Gv D' N' s) (f:Gj D N D' N'):DW [liftT r,liftT s]=some (bO (wsum r s)):=by
 obtain ⟨q1,q2,q3⟩:=zF h1.gn
 obtain ⟨p1,p2,p3⟩:=zF h2.gn
 have kW:=JA h1 h2 f
 have bl:=rK h1
 have bl':=rK h2
 have hL:aV r ≤ D:=Nat.le_of_dvd h1.dp q1
 have hL':aV s ≤ D':=Nat.le_of_dvd h2.dp p1
 have cc:=Ms
 have hcc:C ≤ C * C:=Nat.le_mul_of_pos_left C Gi
 have hccc:C * C ≤ C * C * C:=Nat.le_mul_of_pos_right _ Gi
 have t1:∀ x ∈ r,(aY (aV r) x).natAbs ≤ N * D:=fun x hx=>GQ ((h1.ov x hx).num h1.dp) h1.dp q1
 have t2:∀ x ∈ s,(aY (aV s) x).natAbs ≤ N' * D':=fun x hx=>GQ ((h2.ov x hx).num h2.dp) h2.dp p1
 have hND:N * D < B:=by
  have:=Nat.mul_le_mul (Nat.le_of_lt h1.nb) (Nat.le_of_lt h1.db)
  omega
 have hND':N' * D' < B:=by
  have:=Nat.mul_le_mul (Nat.le_of_lt h2.nb) (Nat.le_of_lt h2.db)
  omega
 have hc:=gE (φ:=fun p:Rat × Rat=>T.int (aY (aV r) p.1)) (ψ:=fun p=>T.int (aY (aV s) p.2)) (fe:=aH bh (ae 0) (ae 1)) (g:=fun p=>T.int (aY (aV r) p.1 * aY (aV s) p.2)) (ρ:=[]) rfl (List.zip r s) none none [] (fun p hp=>by
  have a1:=t1 _ (dg hp).1
  have a2:=t2 _ (dg hp).2
  exact bz rfl rfl (nS (by omega) (by omega))) (cq (oP r s h1.len))
 rw [List.nil_append] at hc
 have hsum:(List.zip r s).map (fun p=>aY (aV r) p.1 * aY (aV s) p.2)=List.zipWith (· * ·) (r.map (aY (aV r))) (s.map (aY (aV s))):=Gg _ _
 have hlst:((List.zip r s).map fun p:Rat × Rat=>T.int (aY (aV r) p.1 * aY (aV s) p.2))=(List.zipWith (· * ·) (r.map (aY (aV r))) (s.map (aY (aV s)))).map T.int:=by rw [<- hsum,List.map_map]; rfl
 rw [hlst] at hc
 have hbs:(List.zipWith (· * ·) (r.map (aY (aV r))) (s.map (aY (aV s)))).sum.natAbs < B:=by
  have hM:∀ n ∈ List.zipWith (· * ·) (r.map (aY (aV r))) (s.map (aY (aV s))),n.natAbs ≤ (N * D) * (N' * D'):=fun n hn=>by
   rw [<- hsum] at hn
   obtain ⟨p,hp,rfl⟩:=List.mem_map.mp hn
   rw [Int.natAbs_mul]
   exact Nat.mul_le_mul (t1 _ (dg hp).1) (t2 _ (dg hp).2)
  have h3:=yz _ hM
  have h4:(List.zipWith (· * ·) (r.map (aY (aV r))) (s.map (aY (aV s)))).length ≤ 12:=by
   rw [List.length_zipWith,List.length_map]
   have:=h1.len
   omega
  have h5:=Nat.mul_le_mul_right ((N * D) * (N' * D')) h4
  have h6:12 * ((N * D) * (N' * D'))=(12 * (N * N')) * (D * D'):=by rw [Nat.mul_mul_mul_comm N D N' D']; exact (Nat.mul_assoc 12 (N * N') (D * D')).symm
  have h7:=Nat.mul_le_mul (Nat.le_of_lt f.nn) (Nat.le_of_lt f.dd)
  omega
 have hbl:(((aV r:Nat):Int) * ((aV s:Nat):Int)).natAbs < B:=by
  rw [Int.natAbs_mul,Int.natAbs_natCast,Int.natAbs_natCast]
  have:=Nat.mul_le_mul hL hL'
  have:=f.dd
  omega
 have hpos:(0:Int) < ((aV r:Nat):Int) * ((aV s:Nat):Int):=Int.mul_pos (by omega) (by omega)
 have kF:=CO hbs hbl (Int.ne_of_gt hpos)
 rw [oE hpos,<- kB (by omega) (by omega),qr h1.gn,qr h2.gn] at kF
 have hi:eR (aa (ae 3) (aa (ae 7) aj)) [some (.sh (liftT r)),some (.sh (liftT s)),some (.sh (aq r)),some (.sh (.lst (r.map fun x=>T.int (aY (aV r) x)))),some (.sh (.int (aV r:Nat))),some (.sh (.int (longest r))),some (.sh (aq s)),some (.sh (.lst (s.map fun x=>T.int (aY (aV s) x)))),some (.sh (.int (aV s:Nat))),some (.sh (.int (longest s)))]
   = some ((List.zip r s).map fun p=>T.tup [T.int (aY (aV r) p.1),T.int (aY (aV s) p.2)],[some (.sh (liftT r)),some (.sh (liftT s)),some (.sh (aq r)),some (.sh (.lst (r.map fun x=>T.int (aY (aV r) x)))),some (.sh (.int (aV r:Nat))),some (.sh (.int (longest r))),some (.sh (aq s)),some (.sh (.lst (s.map fun x=>T.int (aY (aV s) x)))),some (.sh (.int (aV s:Nat))),some (.sh (.int (longest s)))]):=by
  have z:=gT (fun x:Rat=>T.int (aY (aV r) x)) (fun x:Rat=>T.int (aY (aV s) x)) r s
  rw [<- z]
  rfl
 have e:=bT (no:=2) (cap:=[]) (fg:=qI) (ft:=av) hi rfl rfl hc
 have eS:BS [.lst ((List.zipWith (· * ·) (r.map (aY (aV r))) (s.map (aY (aV s)))).map T.int)]=some (.int (List.zipWith (· * ·) (r.map (aY (aV r))) (s.map (aY (aV s)))).sum):=by
  show ((intsOf _).bind fun ns=>some (T.int ns.sum))=_
  rw [jf]
  rfl
 have b4:(4:Int).natAbs < B:=by decide +kernel
 have bL:(longest r + longest s).natAbs < B:=by
  have:(8000:Nat) < B:=by decide +kernel
  omega
 have c1:((aV r:Nat):Int).natAbs < B:=by have:=h1.db; have:=CB; omega
 have c2:((aV s:Nat):Int).natAbs < B:=by have:=h2.db; have:=CB; omega
 have hgt:∃ b,rG (.int ((Builtin.Int.intBits ((aV r:Nat):Int):Int) + (Builtin.Int.intBits ((aV s:Nat):Int):Int))) (.int (4 * (longest r + longest s) + 128))=some (.bl b):=⟨_,rfl⟩
 obtain ⟨b,hgt⟩:=hgt
 have zv:liftT r=.tup [aq r,.lst (r.map fun x=>T.int (aY (aV r) x)),.int (aV r:Nat),.int (longest r)]:=rfl
 have JK:liftT s=.tup [aq s,.lst (s.map fun x=>T.int (aY (aV s) x)),.int (aV s:Nat),.int (longest s)]:=rfl
 have e':cm 2 [] (eR (aa (ae 3) (aa (ae 7) aj))) (cT (aI (ao 0) (aI (ao 1) cD))) av (aH bh (ae 0) (ae 1)) _=_:=e
 rw [zv,JK] at e' ⊢
 clear e zv JK t1 t2 hND hND' cc hcc hccc
 generalize wsum r s=W at *
 generalize (List.zipWith (· * ·) (r.map (aY (aV r))) (s.map (aY (aV s))))=zw at *
 clear hc hlst hsum hi hbs hbl hpos bl bl' hL hL' q1 q2 q3 p1 p2 p3 h1 h2 f
 unfold DW cW fL
 generalize KP=dW at *
 cases b with
 | true=>walk_at "ev"
 | false=>walk_at "ev"
open PySem PySem.Spec PyProof.Rows L2 TM Qm Rq
structure Tv (D N:Nat) (A:List (List Rat)):Prop where
 len:A.length ≤ 12
 row:∀ r ∈ A,r.length ≤ 12 /\ ∀ x ∈ r,Ov D N x
 dp:0 < D
 db:D < C
 nb:N < C
theorem Tv.gv {D N:Nat} {A:List (List Rat)} (h:Tv D N A) {r:List Rat} (hr:r ∈ A):Gv D N r:=⟨(h.row r hr).1,(h.row r hr).2,h.dp,h.db,h.nb⟩
theorem Tv.col {D N:Nat} {A:List (List Rat)} (h:Tv D N A) (j:Nat):Gv D N (iH A j):=by
 refine ⟨by unfold iH; rw [List.length_map]; exact h.len,fun x hx=>?_,h.dp,h.db,h.nb⟩
 obtain ⟨r,hr,rfl⟩:=List.mem_map.mp hx
 rw [List.getD_eq_getElem?_getD]
 cases e:r[j]? with
 | none=>exact (Ov.zero D).mono (Nat.zero_le _)
 | some y=>exact (h.row r hr).2 y (List.mem_of_getElem? e)
abbrev KO:List T -> Option O:=jG 5 3 (gq BP xX DW)
theorem Jt {D N D' N' w:Nat} {A X:List (List Rat)} (h1:Tv D N A) (h2:Tv D' N' X) (h3:Wd w X) (h4:w ≤ 12) (f:Gj D N D' N'):KO [ak A,ak X,.int (w:Nat)]=some (dG (mulM A X w)):=by
 have cA:=bS (φ:=aq) (fe:=ai BP (aa (ae 0) aj)) (g:=liftT) (ρ:=[]) rfl A none [] (fun r hr=>aP [aq r] rfl (Gy (h1.gv hr))) (cq h1.len)
 have cB:=bS (φ:=aq) (fe:=ai BP (aa (ae 0) aj)) (g:=liftT) (ρ:=[]) rfl (eT X w) none [] (fun r hr=>by
  obtain ⟨j,_,rfl⟩:=List.mem_map.mp hr
  exact aP [aq (iH X j)] rfl (Gy (h2.col j))) (cq (by unfold eT; rw [List.length_map,List.length_range]; exact h4))
 rw [List.nil_append] at cA cB
 have kT:=HE h2.len h3 h4
 have eA:dF 3 1 [] (aX (ae 0)) (ao 0) av (ai BP (aa (ae 0) aj)) [some (.sh (ak A)),some (.sh (ak X)),some (.sh (.int (w:Nat))),none,none]
   = some (.nx [some (.sh (ak A)),some (.sh (ak X)),some (.sh (.int (w:Nat))),some (.own (A.map liftT)),none]):=by
  show (if bX [none]=true then (eQ (ao 0) av (ai BP (aa (ae 0) aj)) (A.map aq) [none] []).bind _ else none)=_
  rw [if_pos (show bX [none]=true from rfl),cA]
  rfl
 have eI:aX (ai xX (aa (ae 1) (aa (ae 2) aj))) [some (.sh (ak A)),some (.sh (ak X)),some (.sh (.int (w:Nat))),some (.own (A.map liftT)),none]=some ((eT X w).map aq,[some (.sh (ak A)),some (.sh (ak X)),some (.sh (.int (w:Nat))),some (.own (A.map liftT)),none]):=by
  have q:ai xX (aa (ae 1) (aa (ae 2) aj)) [some (.sh (ak A)),some (.sh (ak X)),some (.sh (.int (w:Nat))),some (.own (A.map liftT)),none]=some (ak (eT X w),[some (.sh (ak A)),some (.sh (ak X)),some (.sh (.int (w:Nat))),some (.own (A.map liftT)),none]):=aP [ak X,.int (w:Nat)] rfl kT
  unfold aX
  rw [q]
  rfl
 have eB:=bT (no:=1) (cap:=[]) (fg:=ao 0) (ft:=av) eI rfl rfl cB
 have inner:∀ r ∈ A,cJ 1 [0] (aX (ae 1)) (ao 0) av (md (ai DW (aa (ae 1) (aa (ae 0) aj)))) [some (.sh (liftT r)),some (.sh (.lst ((eT X w).map liftT)))]=some (eV (wz r X w),[some (.sh (liftT r)),some (.sh (.lst ((eT X w).map liftT)))]):=fun r hr=>by
  have hc:=cR (φ:=fun j:Nat=>liftT (iH X j)) (fe:=md (ai DW (aa (ae 1) (aa (ae 0) aj)))) (g:=fun j=>O.val (bO (wsum r (iH X j)))) (ρ:=[some (.sh (liftT r))]) rfl (List.range w) none [] (fun j hj=>KG [liftT r,liftT (iH X j)] rfl (JB (h1.gv hr) (h2.col j) f)) (kc (by rw [List.length_range]; exact h4))
  have hm:(List.range w).map (fun j=>liftT (iH X j))=(eT X w).map liftT:=by unfold eT; rw [List.map_map]; rfl
  rw [hm] at hc
  have e:=ee (no:=1) (cap:=[0]) (fi:=aX (ae 1)) (fg:=ao 0) (ft:=av) (τ:=[some (.sh (liftT r)),some (.sh (.lst ((eT X w).map liftT)))]) rfl rfl rfl hc
  rw [e]
  show some (O.lst ((List.range w).map fun j=>O.val (bO (wsum r (iH X j)))),_)=some (O.lst (((wz r X w).map bO).map O.val),_)
  unfold wz
  rw [List.map_map,List.map_map]
  rfl
 have hc:=cR (φ:=liftT) (fe:=cJ 1 [0] (aX (ae 1)) (ao 0) av (md (ai DW (aa (ae 1) (aa (ae 0) aj))))) (g:=fun r=>eV (wz r X w)) (ρ:=[some (.sh (.lst ((eT X w).map liftT)))]) rfl A none [] inner (kc h1.len)
 have eC:=xu (no:=1) (cap:=[4]) (fi:=aX (ae 3)) (fg:=ao 0) (ft:=av) (τ:=[some (.sh (ak A)),some (.sh (ak X)),some (.sh (.int (w:Nat))),some (.own (A.map liftT)),some (.sh (.lst ((eT X w).map liftT)))]) (τ1:=[some (.sh (ak A)),some (.sh (ak X)),some (.sh (.int (w:Nat))),some (.sh (.lst (A.map liftT))),some (.sh (.lst ((eT X w).map liftT)))]) rfl rfl rfl hc
 have e1:jG 5 3 (gq BP xX DW) [ak A,ak X,.int (w:Nat)]=gq BP xX DW [some (.sh (ak A)),some (.sh (ak X)),some (.sh (.int (w:Nat))),none,none]:=rfl
 show jG 5 3 (gq BP xX DW) [ak A,ak X,.int (w:Nat)]=_
 rw [e1]
 unfold gq va
 rw [eA,Option.bind_some]
 dsimp only
 unfold bU
 rw [eB]
 show jI _ [some (.sh (ak A)),some (.sh (ak X)),some (.sh (.int (w:Nat))),some (.own (A.map liftT)),some (.sh (.lst ((eT X w).map liftT)))]=_
 unfold jI
 rw [eC]
 show some (O.lst (A.map fun r=>eV (wz r X w)))=some (O.lst ((mulM A X w).map eV))
 unfold mulM
 rw [List.map_map]
 rfl
abbrev BR:List T -> Option T:=fun ts=>(KO ts).bind fun o=>some o.tr
theorem Hb {D N D' N' w:Nat} {A X:List (List Rat)} (h1:Tv D N A) (h2:Tv D' N' X) (h3:Wd w X) (h4:w ≤ 12) (f:Gj D N D' N'):BR [ak A,ak X,.int (w:Nat)]=some (ak (mulM A X w)):=by
 show (KO _).bind _=_
 rw [Jt h1 h2 h3 h4 f,Option.bind_some,fV]
theorem Il {f:FE} {τ τ':aB} {ts:List T} (h:f τ=some (.lst ts,τ')):aX f τ=some (ts,τ'):=by
 unfold aX
 rw [h]
 rfl
theorem Eb (xs:List Rat):iH (xs.map fun x=>[x]) 0=xs:=by
 unfold iH
 rw [List.map_map]
 exact List.map_id xs
theorem rm {α:Type} (f:α -> Bool):∀ l:List α,boolsOf (l.map fun x=>T.bl (f x))=some (l.map f)
 | []=>rfl
 | x :: l=>by rw [List.map_cons,boolsOf,rm f l]; rfl
theorem all_map {α:Type} (f:α -> Bool) (l:List α):ph [.lst (l.map fun x=>T.bl (f x))]=some (.bl (l.all f)):=by
 show (boolsOf _).bind _=_
 rw [rm,Option.bind_some,List.all_map]
 rfl
abbrev Jk:List T -> Option T:=cW 1 1 kS
abbrev Gs:List T -> Option T:=cW 3 1 (ik Jk cZ)
theorem Cz (n:Int):Jk [.int n]=some (.bl true):=by
 unfold Jk cW kS
 walk_at "ev"
theorem Ly {x:Rat} (h:Sm x):Gs [bO x]=some (.bl true):=by
 have k1:=dz (a:=x.num) (b:=(x.den:Int)) (ltB h.n) (ltB (by rw [Int.natAbs_natCast]; exact h.d))
 have hg:Int.gcd x.num (x.den:Int)=1:=x.reduced
 rw [hg] at k1
 have k2:=Cz x.num
 have k3:=Cz (x.den:Int)
 have hp:Lp (.int (x.den:Int)) (.int 1)=some (.bl true):=by
  have:=x.den_nz
  show some (T.bl (decide ((x.den:Int) ≥ 1)))=_
  rw [decide_eq_true (by omega)]
 have k4:jJ (.int ((1:Nat):Int)) (.int 1)=some (.bl true):=rfl
 unfold bO
 have c2:decide (((2:Nat):Int)=2)=true:=rfl
 generalize hw:Jk=w at *
 generalize x.num=a at *
 generalize (x.den:Int)=b at *
 unfold Gs cW ik
 rw [hw]
 walk_at "ev"
open PySem PySem.Spec PyProof.Rows L2 TM Qm Rq
theorem rX:∀ (n:Nat) (x y:Nat),y < n -> eP (eE (aH rG (ae 1) (fC (.int 0)))) (n0 0 1 (aa (ae 1) (aa (aH cV (ae 0) (ae 1)) aj))) n [some (.sh (.int x)),some (.sh (.int y))]
  = some (.nx [some (.sh (.int (Nat.gcd x y))),some (.sh (.int 0))])
 | 0,_,_,h=>by omega
 | n + 1,x,y,h=>by
  unfold eP
  by_cases hy:y=0
  ·subst hy
   have h0:((0:Nat):Int)=0:=rfl
   walk_at "ev"
   simp
  ·have hy':¬ ((y:Int)=0):=by omega
   have hy2:(0:Int) < y:=by omega
   have hm:Int.fmod (x:Int) (y:Int)=((x % y:Nat):Int):=by rw [Int.fmod_eq_emod_of_nonneg _ (by omega)]; rfl
   have hg:Nat.gcd x y=Nat.gcd y (x % y):=by rw [Nat.gcd_comm x y,Nat.gcd_rec y x,Nat.gcd_comm]
   have ih:=rX n y (x % y) (by have:=Nat.mod_lt x (Nat.pos_of_ne_zero hy); omega)
   rw [hg]
   clear hg h hy
   walk_at "ev"
theorem qi (ts:List T) (t:T) (h:cZ ts=some t):cW 2 2 (gD B) ts=some t:=by
 unfold cZ at h
 split at h
 ·next a b =>
  split at h
  ·next hb =>
   cases h
   have hw:=rX B a.natAbs b.natAbs (hb.2)
   have hg:Nat.gcd a.natAbs b.natAbs=Int.gcd a b:=rfl
   unfold cW gD
   clear hb
   walk_at "ev"
  ·cases h
 ·cases h
def EH:List T -> Option T
 | [.int a,.int b]=>if a.natAbs < B /\ b.natAbs < B /\ 0 < b then some (bO (Rat.divInt a b)) else none
 | _=>none
theorem CP {a b:Int} (ha:a.natAbs < B) (hb:b.natAbs < B) (h0:0 < b):EH [.int a,.int b]=some (bO (Rat.divInt a b)):=if_pos ⟨ha,hb,h0⟩
theorem wI (ts:List T) (t:T) (h:EH ts=some t):cW 3 2 (jE cZ) ts=some t:=by
 unfold EH at h
 split at h
 ·next a b =>
  split at h
  ·next hb =>
   cases h
   obtain ⟨ha,hb,h0⟩:=hb
   have h2:=Cn (a:=a) (b:=b) (by omega)
   have h3:=rH (a:=a) hb (by omega)
   have h4:((Int.gcd a b:Nat):Int).natAbs < B:=by omega
   have hc:=dz ha hb
   have e:sJ a b=.tup [.int (a.fdiv (Int.gcd a b:Int)),.int (b.fdiv (Int.gcd a b:Int))]:=by unfold sJ sg; rw [if_neg (by omega)]
   rw [<- oE h0,e]
   unfold cW jE
   clear e h0
   walk_at "ev"
  ·cases h
 ·cases h
def HG (c k:Int):Int:=
 let a:=(c + 7919 * k + 12345).fmod 2147483629
 let b:=(a * a + 48271 * k).fmod 2147483629
 (b * b).fmod 2147483587
abbrev Gu:List T -> Option T:=cW 3 2 iY
theorem BZ {c k:Int} (h0:0 ≤ k) (h1:k ≤ 1000):Gu [.int c,.int k]=some (.int (HG c k)):=by
 have r1:=fW (c + 7919 * k + 12345) (b:=2147483629) (by decide)
 have r2:=fW ((c + 7919 * k + 12345).fmod 2147483629 * (c + 7919 * k + 12345).fmod 2147483629 + 48271 * k) (b:=2147483629) (by decide)
 have bb:2147483629 < B:=by decide +kernel
 have bk:k.natAbs < B:=by omega
 have b1:((c + 7919 * k + 12345).fmod 2147483629).natAbs < B:=by omega
 have b2:(((c + 7919 * k + 12345).fmod 2147483629 * (c + 7919 * k + 12345).fmod 2147483629 + 48271 * k).fmod 2147483629).natAbs < B:=by omega
 have b3:(7919:Int).natAbs < B:=by omega
 have b4:(48271:Int).natAbs < B:=by omega
 have n1:¬ (2147483629:Int)=0:=by decide
 have n2:¬ (2147483587:Int)=0:=by decide
 unfold HG
 dsimp only
 clear r1 r2 bb h0 h1
 unfold Gu cW iY
 walk_at "ev"
theorem Bf {i:Nat} {f g:FE} {τ:aB} {us:List T} {u t:T} (h:τ[i]? = some (some (.own (us ++ [u])))) (hf:f τ=some (t,τ)) (hg:g τ=some (.int (-1),τ)):je i f g τ=some (.nx (τ.set i (some (.own (us ++ [t]))))):=by
 unfold je
 rw [hf,Option.bind_some]
 dsimp only
 rw [h]
 dsimp only
 rw [hg,Option.bind_some]
 dsimp only
 rw [h]
 dsimp only
 rw [show tM (us ++ [u]).length (-1)=some us.length from by
  unfold tM
  rw [if_neg (by decide),List.length_append,List.length_cons,List.length_nil,if_pos (by omega)]
  rw [show (-1:Int) + ((us.length + (0 + 1):Nat):Int)=(us.length:Nat) by omega,Int.toNat_natCast]]
 rw [Option.bind_some,List.set_append_right _ _ (Nat.le_refl _),Nat.sub_self]
 rfl
def CU:FS:=(bf (kY 2 (ai EH (aa (aH sN (aH cV (ae 3) (fC (.int 19))) (fC (.int 9))) (aa (aH cF (fC (.int 1)) (aH cV (aH cG (ae 3) (fC (.int 19))) (fC (.int 12)))) aj))))
  (bU 3 (aH cG (ae 3) (fC (.int 228)))))
def pH:FE:=(aH cn (iJ (aa (ir (aa (fC (.int 0)) (aa (fC (.int 1)) aj))) (aa (ir (aa (aH sN (aH cV (aH cG (ae 5) (fC (.int 4))) (fC (.int 3))) (fC (.int 1))) (aa (fC (.int 1)) aj))) (aa (ir (aa (fC (.int 1)) (aa (fC (.int 2)) aj))) (aa (ir (aa (fC (.int 0)) (aa (fC (.int 1)) aj))) aj))))) (ae 6))
def EN:FE:=(ai EH (aa (aH sN (aH cV (aH cG (ae 5) (fC (.int 4))) (fC (.int 19))) (fC (.int 9))) (aa (aH cF (fC (.int 1)) (aH cV (aH cG (ae 5) (fC (.int 76))) (fC (.int 12)))) aj)))
def tR:FS:=(bf (bU 5 (ai Gu (aa (ae 0) (aa (ae 4) aj))))
  (bf (bU 6 (aH cV (ae 5) (fC (.int 4))))
  (bf (kY 2 pH)
  (ck (eE (aH jJ (ae 6) (fC (.int 2)))) (je 2 EN (uI xD (fC (.int 1)))) bI))))
def pG:FS:=(ck (eE (aH jJ (aH cV (ae 0) (fC (.int 2))) (fC (.int 1)))) CU tR)
abbrev mO (c n:Int) (ts:List T) (r:Int) (x4 x5 x6:Option Sl):aB:=[some (.sh (.int c)),some (.sh (.int n)),some (.own ts),some (.sh (.int r)),x4,x5,x6]
theorem Ew:Lq 1 9 (Rat.divInt 1 2):=Lq.small (a:=1) (b:=2) (by decide) (by decide) (by decide)
theorem HH (c n r:Int) (ts:List T) (x4 x5 x6:Option Sl) (hl:ts.length < 1000):∃ q:Rat,Lq 1 9 q /\ CU (mO c n ts r x4 x5 x6)=some (.nx (mO c n (ts ++ [bO q]) (r.fdiv 228) x4 x5 x6)):=by
 have r19:=fW r (b:=19) (by decide)
 have r12:=fW (r.fdiv 19) (b:=12) (by decide)
 have hf:=CP (a:=r.fmod 19 - 9) (b:=1 + (r.fdiv 19).fmod 12) (cz (by omega) (by omega)) (cz (by omega) (by omega)) (by omega)
 have hn:=Lq.small (a:=r.fmod 19 - 9) (b:=1 + (r.fdiv 19).fmod 12) (by omega) (by omega) (by omega)
 generalize Rat.divInt (r.fmod 19 - 9) (1 + (r.fdiv 19).fmod 12)=q at *
 refine ⟨q,hn,?_⟩
 have hz:ts.length < sizeLine:=dN (by omega)
 have n228:¬ (228:Int)=0:=by decide
 have n19:¬ (19:Int)=0:=by decide
 have n12:¬ (12:Int)=0:=by decide
 have b228:(228:Int).natAbs < B:=cz (by decide) (by decide)
 have b19:(19:Int).natAbs < B:=cz (by decide) (by decide)
 have b12:(12:Int).natAbs < B:=cz (by decide) (by decide)
 clear r19 r12 hn hl
 generalize bO q=Q at *
 unfold CU
 walk_at "ev"
theorem ER (c n r k:Int) (ts:List T) (x5 x6:Option Sl) (hk:0 ≤ k /\ k ≤ 1000) (hl:ts.length < 1000):∃ q:Rat,∃ y5 y6,Lq 1 9 q /\ tR (mO c n ts r (some (.sh (.int k))) x5 x6)=some (.nx (mO c n (ts ++ [bO q]) r (some (.sh (.int k))) y5 y6)):=by
 have hm:=BZ (c:=c) (k:=k) hk.1 hk.2
 generalize HG c k=m at *
 have r3:=fW (m.fdiv 4) (b:=3) (by decide)
 have r4:=fW m (b:=4) (by decide)
 have r19:=fW (m.fdiv 4) (b:=19) (by decide)
 have r12:=fW (m.fdiv 76) (b:=12) (by decide)
 have hf:=CP (a:=(m.fdiv 4).fmod 19 - 9) (b:=1 + (m.fdiv 76).fmod 12) (cz (by omega) (by omega)) (cz (by omega) (by omega)) (by omega)
 have hn:=Lq.small (a:=(m.fdiv 4).fmod 19 - 9) (b:=1 + (m.fdiv 76).fmod 12) (by omega) (by omega) (by omega)
 have hn2:=Lq.small (a:=(m.fdiv 4).fmod 3 - 1) (b:=1) (by omega) (by omega) (by omega)
 generalize Rat.divInt ((m.fdiv 4).fmod 19 - 9) (1 + (m.fdiv 76).fmod 12)=fr at *
 obtain ⟨t,ht,hmem⟩:=JP (L:=[.tup [.int 0,.int 1],.tup [.int ((m.fdiv 4).fmod 3 - 1),.int 1],.tup [.int 1,.int 2],.tup [.int 0,.int 1]]) (i:=m.fmod 4) (by omega) (by simp; omega)
 have hz:ts.length < sizeLine:=dN (by omega)
 have n4:¬ (4:Int)=0:=by decide
 have n3:¬ (3:Int)=0:=by decide
 have n19:¬ (19:Int)=0:=by decide
 have n76:¬ (76:Int)=0:=by decide
 have n12:¬ (12:Int)=0:=by decide
 have b4:(4:Int).natAbs < B:=cz (by decide) (by decide)
 have b3:(3:Int).natAbs < B:=cz (by decide) (by decide)
 have b19:(19:Int).natAbs < B:=cz (by decide) (by decide)
 have b76:(76:Int).natAbs < B:=cz (by decide) (by decide)
 have b12:(12:Int).natAbs < B:=cz (by decide) (by decide)
 have l4:(4:Nat) ≤ sizeLine:=bQ (by decide)
 have l2:=LD
 have hq:∃ q,t=bO q /\ Lq 1 9 q:=by
  simp only [List.mem_cons,List.not_mem_nil,or_false] at hmem
  rcases hmem with rfl | rfl | rfl | rfl
  ·exact ⟨0,rfl,(Lq.zero 1).mono (Nat.zero_le _)⟩
  ·exact ⟨_,Ge _,hn2⟩
  ·exact ⟨Rat.divInt 1 2,rfl,Ew⟩
  ·exact ⟨0,rfl,(Lq.zero 1).mono (Nat.zero_le _)⟩
 obtain ⟨q,rfl,hq⟩:=hq
 have e1:bU 5 (ai Gu (aa (ae 0) (aa (ae 4) aj))) (mO c n ts r (some (.sh (.int k))) x5 x6)=some (.nx (mO c n ts r (some (.sh (.int k))) (some (.sh (.int m))) x6)):=gR (aP [.int c,.int k] (iG rfl rfl) hm) rfl
 have e2:bU 6 (aH cV (ae 5) (fC (.int 4))) (mO c n ts r (some (.sh (.int k))) (some (.sh (.int m))) x6)=some (.nx (mO c n ts r (some (.sh (.int k))) (some (.sh (.int m))) (some (.sh (.int (m.fmod 4)))))):=gR (bz (g:=cV) rfl rfl (pE n4)) rfl
 have e3:pH (mO c n ts r (some (.sh (.int k))) (some (.sh (.int m))) (some (.sh (.int (m.fmod 4)))))=some (bO q,mO c n ts r (some (.sh (.int k))) (some (.sh (.int m))) (some (.sh (.int (m.fmod 4))))):=by
  clear hm hf hn hn2 hmem hq e1 e2 r3 r4 r19 r12 hk hl
  generalize bO q=Q at *
  unfold pH
  walk_at "ev"
 have e4:=Jf (i:=2) (f:=pH) (τ:=mO c n ts r (some (.sh (.int k))) (some (.sh (.int m))) (some (.sh (.int (m.fmod 4))))) rfl e3 hz
 have e4':kY 2 pH (mO c n ts r (some (.sh (.int k))) (some (.sh (.int m))) (some (.sh (.int (m.fmod 4)))))=some (.nx (mO c n (ts ++ [bO q]) r (some (.sh (.int k))) (some (.sh (.int m))) (some (.sh (.int (m.fmod 4)))))):=e4
 have t5:eE (aH jJ (ae 6) (fC (.int 2))) (mO c n (ts ++ [bO q]) r (some (.sh (.int k))) (some (.sh (.int m))) (some (.sh (.int (m.fmod 4)))))=some (decide (m.fmod 4=2),mO c n (ts ++ [bO q]) r (some (.sh (.int k))) (some (.sh (.int m))) (some (.sh (.int (m.fmod 4))))):=by
  have e:=bz (g:=jJ) (fa:=ae 6) (fb:=fC (.int 2)) (τ:=mO c n (ts ++ [bO q]) r (some (.sh (.int k))) (some (.sh (.int m))) (some (.sh (.int (m.fmod 4))))) rfl rfl (mh _ _)
  unfold eE
  rw [e]
  rfl
 by_cases h2:m.fmod 4=2
 ·refine ⟨fr,some (.sh (.int m)),some (.sh (.int (m.fmod 4))),hn,?_⟩
  have e6:EN (mO c n (ts ++ [bO q]) r (some (.sh (.int k))) (some (.sh (.int m))) (some (.sh (.int (m.fmod 4)))))=some (bO fr,mO c n (ts ++ [bO q]) r (some (.sh (.int k))) (some (.sh (.int m))) (some (.sh (.int (m.fmod 4))))):=by
   clear hm hn hn2 hmem hq e1 e2 e3 e4 e4' t5 r3 r4 r19 r12 hk hl ht h2
   generalize bO q=Q at *
   generalize bO fr=Q2 at *
   unfold EN
   walk_at "ev"
  have e7:=Bf (i:=2) (f:=EN) (g:=uI xD (fC (.int 1))) (us:=ts) (u:=bO q) (τ:=mO c n (ts ++ [bO q]) r (some (.sh (.int k))) (some (.sh (.int m))) (some (.sh (.int (m.fmod 4))))) rfl e6 rfl
  unfold tR
  rw [bF e1,bF e2,bF e4']
  unfold ck
  rw [t5,Option.bind_some]
  refine (if_pos (decide_eq_true h2)).trans ?_
  exact e7
 ·refine ⟨q,some (.sh (.int m)),some (.sh (.int (m.fmod 4))),hq,?_⟩
  unfold tR
  rw [bF e1,bF e2,bF e4']
  refine kO ?_
  rw [t5,decide_eq_false h2]
theorem ES (c n r k:Int) (ts:List T) (x5 x6:Option Sl) (hk:0 ≤ k /\ k ≤ 1000) (hl:ts.length < 1000):∃ q:Rat,∃ r' y5 y6,Lq 1 9 q /\ pG (mO c n ts r (some (.sh (.int k))) x5 x6)=some (.nx (mO c n (ts ++ [bO q]) r' (some (.sh (.int k))) y5 y6)):=by
 have t5:eE (aH jJ (aH cV (ae 0) (fC (.int 2))) (fC (.int 1))) (mO c n ts r (some (.sh (.int k))) x5 x6)=some (decide (c.fmod 2=1),mO c n ts r (some (.sh (.int k))) x5 x6):=by
  have e:=bz (g:=jJ) (fa:=aH cV (ae 0) (fC (.int 2))) (fb:=fC (.int 1)) (τ:=mO c n ts r (some (.sh (.int k))) x5 x6) (bz (g:=cV) rfl rfl (pE (by decide))) rfl (mh _ _)
  unfold eE
  rw [e]
  rfl
 by_cases h:c.fmod 2=1
 ·obtain ⟨q,h1,h2⟩:=HH c n r ts (some (.sh (.int k))) x5 x6 hl
  refine ⟨q,r.fdiv 228,x5,x6,h1,?_⟩
  unfold pG ck
  rw [t5,Option.bind_some]
  exact (if_pos (decide_eq_true h)).trans h2
 ·obtain ⟨q,y5,y6,h1,h2⟩:=ER c n r k ts x5 x6 hk hl
  refine ⟨q,r,y5,y6,h1,?_⟩
  unfold pG ck
  rw [t5,Option.bind_some]
  refine (if_neg ?_).trans h2
  intro z
  exact h (of_decide_eq_true z)
theorem zH (c n:Int):∀ (m:Nat) (lo r:Int) (ts:List T) (x4 x5 x6:Option Sl),0 ≤ lo -> lo + m ≤ 1000 -> ts.length + m < 1000 -> ∃ us:List Rat,∃ r' y4 y5 y6,(∀ t ∈ us,Lq 1 9 t) /\ us.length=m /\ dU (ao 4) pG (TM.upTo lo m) (mO c n ts r x4 x5 x6)=some (.nx (mO c n (ts ++ us.map bO) r' y4 y5 y6))
 | 0,lo,r,ts,x4,x5,x6,_,_,_=>⟨[],r,x4,x5,x6,fun t ht=>(by cases ht),rfl,by simp [TM.upTo,dU]⟩
 | m + 1,lo,r,ts,x4,x5,x6,h0,h1,h2=>by
  obtain ⟨t,r',y5,y6,ht,hb⟩:=ES c n r lo ts x5 x6 (by omega) (by omega)
  obtain ⟨us,r2,z4,z5,z6,g1,g2,g3⟩:=zH c n m (lo + 1) r' (ts ++ [bO t]) (some (.sh (.int lo))) y5 y6 (by omega) (by omega) (by simp; omega)
  refine ⟨t :: us,r2,z4,z5,z6,fun x hx=>?_,by simp [g2],?_⟩
  ·rcases List.mem_cons.mp hx with rfl | hx
   ·exact ht
   ·exact g1 x hx
  ·rw [show TM.upTo lo (m + 1)=T.int lo :: TM.upTo (lo + 1) m from rfl,gu rfl hb,g3]
   simp
abbrev Bt:List T -> Option T:=cW 7 2 (eY EH Gu)
theorem D8:eY EH Gu=bf (fm 2 aj) (bf (bU 3 (aH cG (ae 0) (fC (.int 2)))) (bf (k9 (fq (aa (ae 1) aj)) (ao 4) pG) (bN (ae 2)))):=rfl
theorem jd (c:Int) (n:Nat) (hn:n ≤ 100):∃ r:List Rat,Bt [.int c,.int (n:Nat)]=some (aq r) /\ r.length=n /\ ∀ x ∈ r,Lq 1 9 x:=by
 obtain ⟨us,r',y4,y5,y6,h1,h2,h3⟩:=zH c (n:Nat) n 0 (c.fdiv 2) [] none none none (by decide) (by omega) (by simp; omega)
 refine ⟨us,?_,h2,h1⟩
 have hr:=wy (f:=ae 1) (τ:=mO c (n:Nat) [] (c.fdiv 2) none none none) (n:=(n:Int)) rfl (by omega) (by omega)
 rw [Int.toNat_natCast] at hr
 rw [List.nil_append] at h3
 have e1:fm 2 aj [some (.sh (.int c)),some (.sh (.int (n:Nat))),none,none,none,none,none]=some (.nx [some (.sh (.int c)),some (.sh (.int (n:Nat))),some (.own []),none,none,none,none]):=by
  have:=LA
  walk_at "ev"
 have e2:bU 3 (aH cG (ae 0) (fC (.int 2))) [some (.sh (.int c)),some (.sh (.int (n:Nat))),some (.own []),none,none,none,none]=some (.nx (mO c (n:Nat) [] (c.fdiv 2) none none none)):=gR (bz (g:=cG) rfl rfl (pj (by decide) (cz (by decide) (by decide)))) rfl
 refine eZ rfl ?_
 show eY EH Gu [some (.sh (.int c)),some (.sh (.int (n:Nat))),none,none,none,none,none]=_
 rw [D8,bF e1,bF e2,bF (ve hr h3)]
 rfl
open PySem PySem.Spec PyProof.Rows L2 TM Qm Rq
abbrev Ax:List T -> Option T:=cW 2 2 gY
theorem sI (ns:List Int) (k:Nat):Ax [.scr (ns.map T.int),.int (k:Nat)]=some (.int (ns.getD k 0)):=by
 have hl:ai bY (aa (ae 0) aj) [some (.sh (.scr (ns.map T.int))),some (.sh (.int (k:Nat)))]=some (.int (ns.length:Nat),[some (.sh (.scr (ns.map T.int))),some (.sh (.int (k:Nat)))]):=aP [.scr (ns.map T.int)] (eu rfl) (by
  show some (T.int ((ns.map T.int).length:Nat))=_
  rw [List.length_map])
 have ht:=LH (f:=ae 1) (g:=ai bY (aa (ae 0) aj)) (τ:=[some (.sh (.scr (ns.map T.int))),some (.sh (.int (k:Nat)))]) (a:=k) (b:=ns.length) rfl hl
 refine eZ rfl ?_
 show gY [some (.sh (.scr (ns.map T.int))),some (.sh (.int (k:Nat)))]=_
 unfold gY
 by_cases h:k < ns.length
 ·have e:=EC (ns:=ns) (k:=(k:Nat)) (by omega) (by omega)
  rw [Int.toNat_natCast] at e
  unfold bf ck
  rw [ht,Option.bind_some]
  dsimp only
  rw [if_pos (decide_eq_true h),jx (bz (g:=cn) (fa:=ae 0) (fb:=ae 1) rfl rfl e)]
  rfl
 ·rw [bF (kO (by rw [ht,decide_eq_false h]))]
  rw [List.getD_eq_getElem?_getD,List.getElem?_eq_none (by omega)]
  rfl
theorem pF {a b:Nat} (ha:a ≤ 1000) (hb:b ≤ 1000):bh (.int (a:Nat)) (.int (b:Nat))=some (.int ((a * b:Nat):Nat)):=by
 rw [nS (C4 (by omega)) (C4 (by omega)),Int.natCast_mul]
theorem sk {a b:Nat}:cF (.int (a:Nat)) (.int (b:Nat))=some (.int ((a + b:Nat):Nat)):=by
 rw [iK,Int.natCast_add]
theorem Ed (xs:List Rat) (a b:Nat) (h:a + b ≤ xs.length):IM (aq xs) (some (a:Nat)) (some ((a + b:Nat):Nat))=some (aq ((xs.drop a).take b)):=by
 show some (T.lst (kU (xs.map bO) (some (a:Nat)) (some ((a + b:Nat):Nat))))=_
 unfold kU
 rw [HT.mE,HT.mE,List.length_map,Nat.min_eq_left h,Nat.min_eq_left (by omega:a ≤ xs.length),Nat.add_sub_cancel_left,<- List.map_drop,<- List.map_take]
 rfl
theorem sE (xs:List Rat) (a:Nat) (h:a ≤ xs.length):IM (aq xs) (some (a:Nat)) none=some (aq (xs.drop a)):=by
 show some (T.lst (kU (xs.map bO) (some (a:Nat)) none))=_
 unfold kU
 rw [HT.mE,HT.Dx,List.length_map,Nat.min_eq_left h,<- List.map_drop,List.take_of_length_le (by rw [List.length_map,List.length_drop]; omega)]
 rfl
def nW (xs:List Rat) (m w:Nat):List (List Rat):=(List.range m).map fun k=>(xs.drop (w * k)).take w
structure Tw (m w:Nat) (A:List (List Rat)):Prop where
 len:A.length=m
 bw:Bw w 9 A
theorem oM {xs:List Rat} {m w:Nat} (h:m * w ≤ xs.length) (hq:∀ x ∈ xs,Lq 1 9 x):Tw m w (nW xs m w):=by
 unfold nW
 refine ⟨by rw [List.length_map,List.length_range],fun r hr=>?_,fun r hr x hx=>?_⟩
 ·obtain ⟨k,hk,rfl⟩:=List.mem_map.mp hr
  have hkm:=List.mem_range.mp hk
  have hkw:w * k + w ≤ m * w:=by
   have:(k + 1) * w ≤ m * w:=Nat.mul_le_mul_right w hkm
   rw [Nat.add_mul,Nat.one_mul,Nat.mul_comm] at this
   exact this
  rw [List.length_take,List.length_drop]
  omega
 ·obtain ⟨k,hk,rfl⟩:=List.mem_map.mp hr
  exact hq x (List.mem_of_mem_drop (List.mem_of_mem_take hx))
theorem Au {f g i j:FE} {τ:aB} {t u v x:T} (h:f τ=some (t,τ)) (h':g τ=some (u,τ)) (h'':i τ=some (v,τ)) (h3:j τ=some (x,τ)):aa f (aa g (aa i (aa j aj))) τ=some ([t,u,v,x],τ):=xm h (kC h' h'' h3)
theorem JT {f:FA} {τ τ':aB} {ts:List T} (h:f τ=some (ts,τ')) (hl:ts.length ≤ 1000):iJ f τ=some (.lst ts,τ'):=by
 unfold iJ
 rw [h,Option.bind_some]
 exact if_pos (bQ hl)
theorem Kl {f:FE} {fl fh:FO} {τ:aB} {a:T} {o:O} {lo hi:Option Int} (h:f τ=some (a,τ)) (h1:fl τ=some (lo,τ)) (h2:fh τ=some (hi,τ)) (h3:Es a lo hi=some o):B7 f fl fh τ=some (o,τ):=by
 unfold B7
 rw [h,Option.bind_some]
 dsimp only
 rw [h1,Option.bind_some]
 dsimp only
 rw [h2,Option.bind_some]
 dsimp only
 rw [h3]
 rfl
theorem BJ (xs:List Rat) (a b:Nat) (h:a + b ≤ xs.length):Es (aq xs) (some (a:Nat)) (some ((a + b:Nat):Nat))=some (eV ((xs.drop a).take b)):=by
 have z:=Ed xs a b h
 have e:kU (xs.map bO) (some (a:Nat)) (some ((a + b:Nat):Nat))=((xs.drop a).take b).map bO:=by
  have z':some (T.lst (kU (xs.map bO) (some (a:Nat)) (some ((a + b:Nat):Nat))))=some (T.lst (((xs.drop a).take b).map bO)):=z
  injection z' with z'
  injection z'
 show some (O.lst ((kU (xs.map bO) (some (a:Nat)) (some ((a + b:Nat):Nat))).map O.val))=_
 rw [e]
 rfl
theorem xp {m n:Nat} {fb:yN} {ts:List T} {o:O} (hl:ts.length=n) (h:fb (ts.map (fun t=>some (Sl.sh t)) ++ List.replicate (m - n) none)=some o):jG m n fb ts=some o:=by
 unfold jG
 rw [if_pos hl,h]
theorem Ds {f:gX} {τ τ':aB} {o:O} (h:f τ=some (o,τ')):jI f τ=some o:=by
 unfold jI
 rw [h]
 rfl
abbrev AA:List T -> Option O:=jG 3 3 hU
theorem oB {xs:List Rat} {m w:Nat} (hm:m ≤ 8) (hw:w ≤ 8) (h:m * w ≤ xs.length):AA [aq xs,.int (m:Nat),.int (w:Nat)]=some (dG (nW xs m w)):=by
 have hc:=cR (φ:=fun j:Nat=>T.int (j:Nat)) (fe:=B7 (ae 1) (gc (aH bh (ae 2) (ae 0))) (gc (aH cF (aH bh (ae 2) (ae 0)) (ae 2)))) (g:=fun k=>eV ((xs.drop (w * k)).take w)) (ρ:=[some (.sh (aq xs)),some (.sh (.int (w:Nat)))]) rfl (List.range m) none [] (fun k hk=>by
  have hkm:=List.mem_range.mp hk
  have hkw:w * k + w ≤ m * w:=by
   have:(k + 1) * w ≤ m * w:=Nat.mul_le_mul_right w hkm
   rw [Nat.add_mul,Nat.one_mul,Nat.mul_comm] at this
   exact this
  have m1:=bz (g:=bh) (fa:=ae 2) (fb:=ae 0) (τ:=[some (.sh (.int (k:Nat))),some (.sh (aq xs)),some (.sh (.int (w:Nat)))]) (a:=.int (w:Nat)) (b:=.int (k:Nat)) rfl rfl (pF (by omega) (by omega))
  exact Kl (a:=aq xs) rfl (lG m1) (lG (bz (g:=cF) (b:=.int (w:Nat)) m1 rfl sk)) (BJ xs (w * k) w (by omega))) (by rw [List.length_nil,Nat.zero_add,List.length_range]; exact bQ (by omega))
 have e:=ee (no:=1) (cap:=[0,2]) (fi:=fq (aa (ae 1) aj)) (fg:=ao 0) (ft:=av) (τ:=[some (.sh (aq xs)),some (.sh (.int (m:Nat))),some (.sh (.int (w:Nat)))]) (oK (f:=ae 1) (n:=m) rfl (by omega)) rfl rfl hc
 refine xp rfl ?_
 show hU [some (.sh (aq xs)),some (.sh (.int (m:Nat))),some (.sh (.int (w:Nat)))]=_
 unfold hU
 rw [Ds e]
 unfold dG nW
 rw [List.map_map]
 rfl
structure gU (m i o:Nat) (A B C D:List (List Rat)):Prop where
 a:Tw m m A
 b:Tw m i B
 c:Tw o m C
 d:Tw o i D
abbrev bo (A B C D:List (List Rat)):T:=.lst [ak A,ak B,ak C,ak D]
abbrev rF (A B C D:List (List Rat)):O:=.lst [dG A,dG B,dG C,dG D]
theorem vf (A B C D:List (List Rat)):(rF A B C D).tr=bo A B C D:=by
 show T.lst [(dG A).tr,(dG B).tr,(dG C).tr,(dG D).tr]=_
 rw [fV,fV,fV,fV]
theorem xG {hs:List Nat} {x:Nat} {fo:gX} {g:FH} {ps:List Addr} {os ro:List O} {τ τ1:aB} {o:O} (h1:fo τ=some (.lst ro,τ1)) (h2:x < τ1.length) (h3:cX hs ps τ1=true) (h4:∀ y ∈ hs,y ≠ x) (h5:∀ p,g (ps ++ [p]) (os ++ [.lst ro]) (τ1.set x (some (.sh (.ptr p))))=some o):rJ hs x fo g ps os τ=some o:=by
 unfold rJ
 rw [h1,Option.bind_some]
 dsimp only
 rw [if_pos ⟨h2,h3,h4⟩]
 exact De h5 fun o' h'=>by
  have z:=h' 0
  rw [h5 0] at z
  cases z
  rfl
theorem xH {hs:List Nat} {t:FS} {g:FH} {ps:List Addr} {os:List O} {τ τ':aB} (h:t τ=some (.nx τ')) (hp:cX hs ps τ'=true):AI hs t g ps os τ=g ps os τ':=by
 unfold AI
 rw [h,Option.bind_some]
 dsimp only
 rw [if_pos hp]
theorem Ar {x:Nat} {p:Addr} {hs:List Nat} {ps:List Addr} {τ:aB} (h:τ[x]? = some (some (.sh (.ptr p)))) (h':cX hs ps τ=true):cX (x :: hs) (p :: ps) τ=true:=by
 rw [cX,lj h,h']
 rfl
abbrev BL:List T -> Option O:=jG 8 4 (gZ Bt AA)
theorem Ek (c:Int) {m i o:Nat} (hm:m ≤ 8) (hi:i ≤ 2) (ho:o ≤ 2):∃ A B C D,BL [.int c,.int (m:Nat),.int (i:Nat),.int (o:Nat)]=some (rF A B C D) /\ gU m i o A B C D:=by
 have p1:m * m ≤ 64:=Nat.mul_le_mul hm hm
 have p2:m * i ≤ 16:=Nat.mul_le_mul hm hi
 have p3:o * m ≤ 16:=Nat.mul_le_mul ho hm
 have p4:o * i ≤ 4:=Nat.mul_le_mul ho hi
 obtain ⟨xs,e1,e2,e3⟩:=jd c (m * m + m * i + o * m + o * i) (by omega)
 have q1:=oB (xs:=xs) (m:=m) (w:=m) (by omega) (by omega) (by omega)
 have l2:(xs.drop (m * m)).length=m * i + o * m + o * i:=by rw [List.length_drop]; omega
 have m2:∀ x ∈ xs.drop (m * m),Lq 1 9 x:=fun x hx=>e3 x (List.mem_of_mem_drop hx)
 have q2:=oB (xs:=xs.drop (m * m)) (m:=m) (w:=i) (by omega) (by omega) (by omega)
 have l3:((xs.drop (m * m)).drop (m * i)).length=o * m + o * i:=by rw [List.length_drop]; omega
 have m3:∀ x ∈ (xs.drop (m * m)).drop (m * i),Lq 1 9 x:=fun x hx=>m2 x (List.mem_of_mem_drop hx)
 have q3:=oB (xs:=(xs.drop (m * m)).drop (m * i)) (m:=o) (w:=m) (by omega) (by omega) (by omega)
 have l4:(((xs.drop (m * m)).drop (m * i)).drop (o * m)).length=o * i:=by rw [List.length_drop]; omega
 have m4:∀ x ∈ ((xs.drop (m * m)).drop (m * i)).drop (o * m),Lq 1 9 x:=fun x hx=>m3 x (List.mem_of_mem_drop hx)
 have q4:=oB (xs:=((xs.drop (m * m)).drop (m * i)).drop (o * m)) (m:=o) (w:=i) (by omega) (by omega) (by omega)
 have t1:=oM (m:=m) (w:=m) (show m * m ≤ xs.length by omega) e3
 have t2:=oM (m:=m) (w:=i) (show m * i ≤ (xs.drop (m * m)).length by omega) m2
 have t3:=oM (m:=o) (w:=m) (show o * m ≤ ((xs.drop (m * m)).drop (m * i)).length by omega) m3
 have t4:=oM (m:=o) (w:=i) (show o * i ≤ (((xs.drop (m * m)).drop (m * i)).drop (o * m)).length by omega) m4
 have c1:=sE xs (m * m) (by omega)
 have c2:=sE (xs.drop (m * m)) (m * i) (by omega)
 have c3:=sE ((xs.drop (m * m)).drop (m * i)) (o * m) (by omega)
 refine ⟨_,_,_,_,?_,t1,t2,t3,t4⟩
 generalize nW xs m m=A at *
 generalize nW (xs.drop (m * m)) m i=B at *
 generalize nW ((xs.drop (m * m)).drop (m * i)) o m=C at *
 generalize nW (((xs.drop (m * m)).drop (m * i)).drop (o * m)) o i=D at *
 generalize hx3:((xs.drop (m * m)).drop (m * i)).drop (o * m)=x3 at *
 generalize hx2:(xs.drop (m * m)).drop (m * i)=x2 at *
 generalize hx1:xs.drop (m * m)=x1 at *
 refine xp rfl ?_
 show gZ Bt AA [some (.sh (.int c)),some (.sh (.int (m:Nat))),some (.sh (.int (i:Nat))),some (.sh (.int (o:Nat))),none,none,none,none]=_
 have v:∀ {s4 s5 s6 s7:Option Sl},aH bh (ae 1) (ae 1) [some (.sh (.int c)),some (.sh (.int (m:Nat))),some (.sh (.int (i:Nat))),some (.sh (.int (o:Nat))),s4,s5,s6,s7]=some (.int ((m * m:Nat):Nat),_):=fun {s4 s5 s6 s7}=>bz (g:=bh) rfl rfl (pF (by omega) (by omega))
 have v2:∀ {s4 s5 s6 s7:Option Sl},aH bh (ae 1) (ae 2) [some (.sh (.int c)),some (.sh (.int (m:Nat))),some (.sh (.int (i:Nat))),some (.sh (.int (o:Nat))),s4,s5,s6,s7]=some (.int ((m * i:Nat):Nat),_):=fun {s4 s5 s6 s7}=>bz (g:=bh) rfl rfl (pF (by omega) (by omega))
 have v3:∀ {s4 s5 s6 s7:Option Sl},aH bh (ae 3) (ae 1) [some (.sh (.int c)),some (.sh (.int (m:Nat))),some (.sh (.int (i:Nat))),some (.sh (.int (o:Nat))),s4,s5,s6,s7]=some (.int ((o * m:Nat):Nat),_):=fun {s4 s5 s6 s7}=>bz (g:=bh) rfl rfl (pF (by omega) (by omega))
 have v4:∀ {s4 s5 s6 s7:Option Sl},aH bh (ae 3) (ae 2) [some (.sh (.int c)),some (.sh (.int (m:Nat))),some (.sh (.int (i:Nat))),some (.sh (.int (o:Nat))),s4,s5,s6,s7]=some (.int ((o * i:Nat):Nat),_):=fun {s4 s5 s6 s7}=>bz (g:=bh) rfl rfl (pF (by omega) (by omega))
 have s1:=gR (i:=4) (τ:=[some (.sh (.int c)),some (.sh (.int (m:Nat))),some (.sh (.int (i:Nat))),some (.sh (.int (o:Nat))),none,none,none,none]) (aP (g:=Bt) (f:=aa (ae 0) (aa (aH cF (aH cF (aH cF (aH bh (ae 1) (ae 1)) (aH bh (ae 1) (ae 2))) (aH bh (ae 3) (ae 1))) (aH bh (ae 3) (ae 2))) aj)) _ (iG rfl (bz (g:=cF) (bz (g:=cF) (bz (g:=cF) v v2 sk) v3 sk) v4 sk)) e1) rfl
 unfold gZ
 rw [xH (τ':=[some (.sh (.int c)),some (.sh (.int (m:Nat))),some (.sh (.int (i:Nat))),some (.sh (.int (o:Nat))),some (.sh (aq xs)),none,none,none]) s1 rfl]
 refine xG (ro:=A.map eV) (ko [aq xs,.int (m:Nat),.int (m:Nat)] (kC rfl rfl rfl) q1) (by simp) rfl (by simp) fun p1=>?_
 refine (xH (hs:=[5]) (ps:=[p1]) (os:=[dG A]) (τ:=[some (.sh (.int c)),some (.sh (.int (m:Nat))),some (.sh (.int (i:Nat))),some (.sh (.int (o:Nat))),some (.sh (aq xs)),some (.sh (.ptr p1)),none,none]) (τ':=[some (.sh (.int c)),some (.sh (.int (m:Nat))),some (.sh (.int (i:Nat))),some (.sh (.int (o:Nat))),some (.sh (aq x1)),some (.sh (.ptr p1)),none,none]) (gR (FL (a:=aq xs) rfl (lG v) rfl c1) rfl) (Ar rfl rfl)).trans ?_
 refine xG (ro:=B.map eV) (ko [aq x1,.int (m:Nat),.int (i:Nat)] (kC rfl rfl rfl) q2) (by simp) (Ar rfl rfl) (by simp) fun p2=>?_
 refine (xH (hs:=[5,6]) (ps:=[p1,p2]) (os:=[dG A,dG B]) (τ:=[some (.sh (.int c)),some (.sh (.int (m:Nat))),some (.sh (.int (i:Nat))),some (.sh (.int (o:Nat))),some (.sh (aq x1)),some (.sh (.ptr p1)),some (.sh (.ptr p2)),none]) (τ':=[some (.sh (.int c)),some (.sh (.int (m:Nat))),some (.sh (.int (i:Nat))),some (.sh (.int (o:Nat))),some (.sh (aq x2)),some (.sh (.ptr p1)),some (.sh (.ptr p2)),none]) (gR (FL (a:=aq x1) rfl (lG v2) rfl c2) rfl) (Ar rfl (Ar rfl rfl))).trans ?_
 refine xG (ro:=C.map eV) (ko [aq x2,.int (o:Nat),.int (m:Nat)] (kC rfl rfl rfl) q3) (by simp) (Ar rfl (Ar rfl rfl)) (by simp) fun p3=>?_
 have s7:=ko (g:=AA) (f:=aa (DX (ae 4) (gc (aH bh (ae 3) (ae 1))) kq) (aa (ae 3) (aa (ae 2) aj))) (ρ:=[some (.sh (.int c)),some (.sh (.int (m:Nat))),some (.sh (.int (i:Nat))),some (.sh (.int (o:Nat))),some (.sh (aq x2)),some (.sh (.ptr p1)),some (.sh (.ptr p2)),some (.sh (.ptr p3))]) _ (kC (FL (a:=aq x2) rfl (lG v3) rfl c3) rfl rfl) q4
 show (ff AA _ [some (.sh (.int c)),some (.sh (.int (m:Nat))),some (.sh (.int (i:Nat))),some (.sh (.int (o:Nat))),some (.sh (aq x2)),some (.sh (.ptr p1)),some (.sh (.ptr p2)),some (.sh (.ptr p3))]).bind _=_
 rw [s7,Option.bind_some]
 exact if_pos (bQ (by show 4 ≤ 1000; decide))
open PySem PySem.Spec PyProof.Rows L2 TM Qm Rq
def zT (Z:List (List Int)):T:=.lst (Z.map iT)
def aW (A:List (List Rat)):List (List Int):=A.map fun r=>r.map (aY 27720)
theorem KU {m:Nat} {x:Rat} (h:Lq 1 m x):x.den ∣ 27720 /\ x.num.natAbs ≤ m * 27720:=by
 have hd:(0:Nat) < DD 1:=eK 1
 have e:DD 1=27720:=by decide
 have a:=(Ov.lq h).den hd
 have b:=(Ov.lq h).num hd
 rw [e] at a b
 exact ⟨a,b⟩
theorem Iw {x:Rat} (h:Lq 1 9 x):(aY 27720 x).natAbs ≤ 9 * 27720:=by
 obtain ⟨a,hx,hb⟩:=h
 have e:DD 1=27720:=by decide
 rw [e] at hx hb
 have hd:=(KU ⟨a,by rw [e]; exact hx,by rw [e]; exact hb⟩:x.den ∣ 27720 /\ _).1
 have h1:=uG (L:=27720) (by decide) hd
 have h2:aY 27720 x=a:=by
  have h3:Rat.divInt (aY 27720 x) ((27720:Nat):Int)=Rat.divInt a ((27720:Nat):Int):=h1.trans hx
  have h4:=(Rat.divInt_eq_divInt_iff (by decide) (by decide)).mp h3
  exact Int.eq_of_mul_eq_mul_right (by decide) h4
 rw [h2]
 exact hb
abbrev BO:List T -> Option T:=cW 1 1 hJ
theorem l9 {m w:Nat} {A:List (List Rat)} (hA:Tw m w A) (hm:m ≤ 12) (hw:w ≤ 12):BO [ak A]=some (zT (aW A)):=by
 have hc:=bS (φ:=aq) (fe:=cm 2 [] (aX (ae 0)) qI av (aH bh (ae 0) (aH cG (fC (.int 27720)) (ae 1)))) (g:=fun r=>iT (r.map (aY 27720))) (ρ:=[]) rfl A none [] (fun r hr=>by
  have hc:=gE (φ:=fun x:Rat=>T.int x.num) (ψ:=fun x:Rat=>T.int (x.den:Nat)) (fe:=aH bh (ae 0) (aH cG (fC (.int 27720)) (ae 1))) (g:=fun x=>T.int (aY 27720 x)) (ρ:=[]) rfl r none none [] (fun x hx=>by
   obtain ⟨h1,h2⟩:=KU (hA.bw.lq r hr x hx)
   have hle:=Nat.le_of_dvd (by decide) h1
   have hpos:=x.den_pos
   have bq:((27720:Int).fdiv ((x.den:Nat):Int)).natAbs < B:=by
    have:=ia (a:=27720) (g:=((x.den:Nat):Int)) (Int.natCast_dvd_natCast.mpr h1) (by omega)
    exact Nat.lt_of_le_of_lt this (cz (i:=27720) (by decide) (by decide))
   exact bz (g:=bh) rfl (bz (g:=cG) rfl rfl (pj (by omega) (C4 (by omega)))) (nS (cz (by omega) (by omega)) bq)) (cq (by rw [hA.bw.wd r hr]; exact hw))
  rw [List.nil_append] at hc
  have e:=bT (no:=2) (cap:=[]) (fi:=aX (ae 0)) (fg:=qI) (ft:=av) (τ:=[some (.sh (aq r))]) (ts:=r.map fun x:Rat=>T.tup [.int x.num,.int (x.den:Nat)]) rfl rfl rfl hc
  rw [e]
  unfold iT
  rw [List.map_map]
  rfl) (cq (by rw [hA.len]; exact hm))
 rw [List.nil_append] at hc
 have e:=bT (no:=1) (cap:=[]) (fi:=aX (ae 0)) (fg:=ao 0) (ft:=av) (τ:=[some (.sh (ak A))]) (ts:=A.map aq) rfl rfl rfl hc
 refine eZ rfl ?_
 show hJ [some (.sh (ak A))]=_
 unfold hJ
 rw [jx e]
 unfold zT aW
 rw [List.map_map]
 rfl
structure Zb (N:Nat) (Z:List (List Int)):Prop where
 len:Z.length ≤ 12
 wd:∀ r ∈ Z,r.length ≤ 12
 bd:∀ r ∈ Z,∀ x ∈ r,x.natAbs ≤ N
theorem wW (a b:List Int):(List.zip a b).map (fun p=>p.1 * p.2)=List.zipWith (· * ·) a b:=by
 induction a generalizing b with
 | nil=>simp
 | cons x a ih =>
  cases b with
  | nil=>simp
  | cons y b=>simp [ih]
theorem BU {N N':Nat} {a b:List Int} (ha:∀ x ∈ a,x.natAbs ≤ N) (hb:∀ x ∈ b,x.natAbs ≤ N'):(sG a b).natAbs ≤ a.length * (N * N'):=by
 have h:=yz (M:=N * N') (List.zipWith (· * ·) a b) (fun n hn=>by
  rw [<- wW] at hn
  obtain ⟨p,hp,rfl⟩:=List.mem_map.mp hn
  rw [Int.natAbs_mul]
  exact Nat.mul_le_mul (ha _ (dg hp).1) (hb _ (dg hp).2))
 refine Nat.le_trans h (Nat.mul_le_mul_right _ ?_)
 rw [List.length_zipWith]
 exact Nat.min_le_left _ _
abbrev Az:List T -> Option T:=cW 2 2 iX
theorem BX {a b:List Int} (h8:a.length ≤ 12) (ha:∀ x ∈ a,x.natAbs < B) (hb:∀ x ∈ b,x.natAbs < B):Az [iT a,iT b]=some (.int (sG a b)):=by
 have hc:=gE (φ:=fun p:Int × Int=>T.int p.1) (ψ:=fun p=>T.int p.2) (fe:=aH bh (ae 0) (ae 1)) (g:=fun p=>T.int (p.1 * p.2)) (ρ:=[]) rfl (List.zip a b) none none [] (fun p hp=>bz rfl rfl (nS (ha _ (dg hp).1) (hb _ (dg hp).2))) (cq (oP a b h8))
 rw [List.nil_append] at hc
 have hlst:((List.zip a b).map fun p:Int × Int=>T.int (p.1 * p.2))=(List.zipWith (· * ·) a b).map T.int:=by rw [<- wW,List.map_map]; rfl
 rw [hlst] at hc
 have hz:eR (aa (ae 0) (aa (ae 1) aj)) [some (.sh (iT a)),some (.sh (iT b))]=some ((List.zip a b).map fun p=>T.tup [T.int p.1,T.int p.2],[some (.sh (iT a)),some (.sh (iT b))]):=by
  show some (iE (a.map T.int) (b.map T.int),_)=_
  rw [gT]
 have e:=bT (no:=2) (cap:=[]) (fi:=eR (aa (ae 0) (aa (ae 1) aj))) (fg:=qI) (ft:=av) (τ:=[some (.sh (iT a)),some (.sh (iT b))]) hz rfl rfl hc
 refine eZ rfl ?_
 show iX [some (.sh (iT a)),some (.sh (iT b))]=_
 unfold iX
 refine jx (aP _ (eu e) (t:=.int (sG a b)) ?_)
 show (intsOf ((List.zipWith (· * ·) a b).map T.int)).bind _=_
 rw [jf]
 rfl
theorem rD {fg:FG} {ft:FT} {fe:FE} {t u:T} {ts acc:List T} {τ τ1 τ2 τ3:aB} (h1:fg t τ=some τ1) (h2:ft τ1=some (true,τ2)) (h3:fe τ2=some (u,τ3)) (h4:bX τ3=true) (h5:acc.length < sizeLine):eQ fg ft fe (t :: ts) τ acc=eQ fg ft fe ts τ3 (acc ++ [u]):=by
 rw [eQ,h1,Option.bind_some,h2,Option.bind_some]
 dsimp only
 rw [if_pos rfl,h3,Option.bind_some]
 exact if_pos ⟨h4,h5⟩
theorem vh (a:Int):AD (cM (ai bj (aa (ae 0) (aa (fC (.ty "int")) aj)))) (cK (cM (ai bj (aa (ae 0) (aa (fC (.ty "bool")) aj))))) [some (.sh (.int a))]=some (true,[some (.sh (.int a))]):=by
 walk_at "ev"
abbrev G2:List T -> Option T:=cW 5 3 (kl cZ)
theorem Jr {x:Rat} {v S:Int} (hx:Sm x) (hS:0 < S) (hS':S.natAbs < B) (hv:v.natAbs < B) (e:x=Rat.divInt v S):G2 [bO x,.int v,.int S]=some (.bl true):=by
 have hd:=den_pos x
 have bn:x.num.natAbs < B:=ltB hx.n
 have bd:((x.den:Nat):Int).natAbs < B:=by have:=hx.d; have:=CB; omega
 have hk:=dz bn bd
 rw [show Int.gcd x.num ((x.den:Nat):Int)=1 from x.reduced,show ((1:Nat):Int)=1 from rfl] at hk
 have heq:x.num * S=v * ((x.den:Nat):Int):=by
  have h1:Rat.divInt x.num ((x.den:Nat):Int)=Rat.divInt v S:=(fO x).trans e
  exact (Rat.divInt_eq_divInt_iff (by omega) (by omega)).mp h1
 clear e
 have q0:bO x=.tup [.int x.num,.int ((x.den:Nat):Int)]:=rfl
 rw [q0]
 generalize x.num=a at *
 generalize ((x.den:Nat):Int)=b at *
 have l2:=LD
 have e1:ck (mZ (cK (cM (ai bj (aa (ae 0) (aa (fC (.ty "tuple")) aj))))) (eE (aH lU (ai bY (aa (ae 0) aj)) (fC (.int 2))))) (bN (fC (.bl false))) bI [some (.sh (.tup [.int a,.int b])),some (.sh (.int v)),some (.sh (.int S)),none,none]=some (.nx [some (.sh (.tup [.int a,.int b])),some (.sh (.int v)),some (.sh (.int S)),none,none]):=rfl
 have e2:ck (eE (aH lU (ai bY (aa (cm 1 [] (aX (ae 0)) (ao 0) (AD (cM (ai bj (aa (ae 0) (aa (fC (.ty "int")) aj)))) (cK (cM (ai bj (aa (ae 0) (aa (fC (.ty "bool")) aj)))))) (ae 0)) aj)) (fC (.int 2)))) (bN (fC (.bl false))) bI [some (.sh (.tup [.int a,.int b])),some (.sh (.int v)),some (.sh (.int S)),none,none]=some (.nx [some (.sh (.tup [.int a,.int b])),some (.sh (.int v)),some (.sh (.int S)),none,none]):=by
  have hcomp:cm 1 [] (aX (ae 0)) (ao 0) (AD (cM (ai bj (aa (ae 0) (aa (fC (.ty "int")) aj)))) (cK (cM (ai bj (aa (ae 0) (aa (fC (.ty "bool")) aj)))))) (ae 0) [some (.sh (.tup [.int a,.int b])),some (.sh (.int v)),some (.sh (.int S)),none,none]=some (.lst [.int a,.int b],[some (.sh (.tup [.int a,.int b])),some (.sh (.int v)),some (.sh (.int S)),none,none]):=by
   refine bT (ts:=[.int a,.int b]) rfl rfl rfl ?_
   have h0:(0:Nat) < sizeLine:=dN (by decide)
   have h1:(1:Nat) < sizeLine:=dN (by decide)
   refine (rD (τ1:=[some (.sh (.int a))]) (τ2:=[some (.sh (.int a))]) (τ3:=[some (.sh (.int a))]) (u:=.int a) (acc:=[]) rfl (vh a) rfl rfl h0).trans ?_
   refine (rD (τ1:=[some (.sh (.int b))]) (τ2:=[some (.sh (.int b))]) (τ3:=[some (.sh (.int b))]) (u:=.int b) (acc:=[.int a]) rfl (vh b) rfl rfl h1).trans ?_
   rfl
  refine kO ?_
  unfold eE
  rw [bz (g:=lU) (aP (g:=bY) [.lst [.int a,.int b]] (eu hcomp) rfl) rfl (sM _ _)]
  rfl
 have e3:kZ (ae 0) (Cp (aI (ao 3) (aI (ao 4) cD))) [some (.sh (.tup [.int a,.int b])),some (.sh (.int v)),some (.sh (.int S)),none,none]=some (.nx [some (.sh (.tup [.int a,.int b])),some (.sh (.int v)),some (.sh (.int S)),some (.sh (.int a)),some (.sh (.int b))]):=rfl
 refine eZ rfl ?_
 show kl cZ [some (.sh (.tup [.int a,.int b])),some (.sh (.int v)),some (.sh (.int S)),none,none]=_
 unfold kl
 rw [bF e1,bF e2,bF e3]
 have m1:=nS bn hS'
 have m2:=nS hv bd
 rw [<- heq] at m2
 clear e1 e2 e3 heq hx bn bd hv hS'
 have hb0:b > 0:=hd
 clear hd
 walk_at "ev"
abbrev Ef:List T -> Option T:=cW 5 3 (iW G2)
theorem uM {S:Int} {x0 x1:Option Sl}:∀ (l:List (Rat × Int)) (u v:Option Sl),(∀ p ∈ l,G2 [bO p.1,.int p.2,.int S]=some (.bl true)) -> ∃ u' v',dU (cT (aI (ao 3) (aI (ao 4) cD))) (ck (cK (cM (ai G2 (aa (ae 3) (aa (ae 4) (aa (ae 2) aj)))))) (bN (fC (.bl false))) bI) (l.map fun p=>T.tup [bO p.1,T.int p.2]) [x0,x1,some (.sh (.int S)),u,v]=some (.nx [x0,x1,some (.sh (.int S)),u',v'])
 | [],u,v,_=>⟨u,v,rfl⟩
 | p :: l,u,v,h=>by
  obtain ⟨u',v',ih⟩:=uM (S:=S) (x0:=x0) (x1:=x1) l (some (.sh (bO p.1))) (some (.sh (.int p.2))) (fun y hy=>h y (List.mem_cons_of_mem _ hy))
  refine ⟨u',v',?_⟩
  rw [List.map_cons,gu (τ1:=[x0,x1,some (.sh (.int S)),some (.sh (bO p.1)),some (.sh (.int p.2))]) (τ2:=[x0,x1,some (.sh (.int S)),some (.sh (bO p.1)),some (.sh (.int p.2))]) rfl (oF (aP _ (kC rfl rfl rfl) (h p List.mem_cons_self)))]
  exact ih
theorem pB (n:Nat):lU (.int (n:Nat)) (.int (n:Nat))=some (.bl false):=by
 rw [sM]
 simp
theorem G8 {r:List Rat} {vs:List Int} {S:Int} (hl:r.length=vs.length) (h:∀ p ∈ List.zip r vs,G2 [bO p.1,.int p.2,.int S]=some (.bl true)):Ef [aq r,iT vs,.int S]=some (.bl true):=by
 obtain ⟨u',v',hL⟩:=uM (S:=S) (x0:=some (.sh (aq r))) (x1:=some (.sh (iT vs))) (List.zip r vs) none none h
 have e1:ck (mZ (cK (cM (ai bj (aa (ae 0) (aa (fC (.ty "list")) aj))))) (eE (aH lU (ai bY (aa (ae 0) aj)) (ai bY (aa (ae 1) aj))))) (bN (fC (.bl false))) bI [some (.sh (aq r)),some (.sh (iT vs)),some (.sh (.int S)),none,none]=some (.nx [some (.sh (aq r)),some (.sh (iT vs)),some (.sh (.int S)),none,none]):=by
  refine ug (τ':=[some (.sh (aq r)),some (.sh (iT vs)),some (.sh (.int S)),none,none]) rfl ?_
  unfold eE
  have l1:bY [aq r]=some (.int (vs.length:Nat)):=by
   show some (T.int ((r.map bO).length:Nat))=_
   rw [List.length_map,hl]
  have l2:bY [iT vs]=some (.int (vs.length:Nat)):=by
   show some (T.int ((vs.map T.int).length:Nat))=_
   rw [List.length_map]
  rw [bz (g:=lU) (aP [aq r] (eu rfl) l1) (aP [iT vs] (eu rfl) l2) (pB _)]
  rfl
 have hz:eR (aa (ae 0) (aa (ae 1) aj)) [some (.sh (aq r)),some (.sh (iT vs)),some (.sh (.int S)),none,none]=some ((List.zip r vs).map fun p=>T.tup [bO p.1,T.int p.2],[some (.sh (aq r)),some (.sh (iT vs)),some (.sh (.int S)),none,none]):=by
  show some (iE (r.map bO) (vs.map T.int),_)=_
  rw [gT]
 refine eZ rfl ?_
 show iW G2 [some (.sh (aq r)),some (.sh (iT vs)),some (.sh (.int S)),none,none]=_
 unfold iW
 rw [bF e1,bF (ve hz hL)]
 rfl
open PySem PySem.Spec PyProof.Rows L2 TM Qm Rq
theorem kR {fa fb:FE} {τ τ':aB} (h:fa τ=some (.bl true,τ')):dQ fa fb τ=fb τ':=by
 unfold dQ
 rw [h]
 rfl
theorem GX {fa fb:FE} {τ τ':aB} (h:fa τ=some (.bl false,τ')):dQ fa fb τ=some (.bl false,τ'):=by
 unfold dQ
 rw [h]
 rfl
theorem EF (ts:List T):bY [.lst ts]=some (.int (ts.length:Nat)):=rfl
theorem EG (r:List Rat):bY [aq r]=some (.int (r.length:Nat)):=by
 show some (T.int ((r.map bO).length:Nat))=_
 rw [List.length_map]
theorem BV (a b:Nat):jJ (.int (a:Nat)) (.int (b:Nat))=some (.bl (decide (a=b))):=by
 rw [mh]
 exact congrArg (fun z=>some (T.bl z)) (decide_eq_decide.mpr (by omega))
abbrev BM:List T -> Option T:=cW 2 2 (uP Gs)
def Cy:FE:=cm 1 [] (aX (ae 0)) (ao 0) av (ai Gs (aa (ae 0) aj))
theorem JO (t:T) (n:Nat):BM [t,.int (n:Nat)]=((bN (dQ (ai bj (aa (ae 0) (aa (fC (.ty "list")) aj))) (dQ (aH jJ (ai bY (aa (ae 0) aj)) (ae 1)) (ai ph (aa Cy aj)))) [some (.sh t),some (.sh (.int (n:Nat)))]).bind fun r=>match r with | .rt t=>some t | .nx _=>some .non | _=>none):=rfl
theorem Hr {α:Type} {φ:α -> T} {f:α -> Bool} (l:List α) (hl:l.length ≤ 12) (h:∀ x ∈ l,Gs [φ x]=some (.bl (f x))) (n:Nat):BM [.lst (l.map φ),.int (n:Nat)]=some (.bl (decide (l.length=n) && l.all f)):=by
 have c1:=bS (φ:=φ) (fe:=ai Gs (aa (ae 0) aj)) (g:=fun x=>T.bl (f x)) (ρ:=[]) rfl l none [] (fun x hx=>aP [φ x] rfl (h x hx)) (cq hl)
 have e1:=bT (no:=1) (cap:=[]) (fi:=aX (ae 0)) (fg:=ao 0) (ft:=av) (τ:=[some (.sh (.lst (l.map φ))),some (.sh (.int (n:Nat)))]) (h1:=rfl) rfl rfl c1
 rw [List.nil_append] at e1
 have e2:ai bj (aa (ae 0) (aa (fC (.ty "list")) aj)) [some (.sh (.lst (l.map φ))),some (.sh (.int (n:Nat)))]=some (.bl true,[some (.sh (.lst (l.map φ))),some (.sh (.int (n:Nat)))]):=rfl
 have e3:aH jJ (ai bY (aa (ae 0) aj)) (ae 1) [some (.sh (.lst (l.map φ))),some (.sh (.int (n:Nat)))]=some (.bl (decide (l.length=n)),[some (.sh (.lst (l.map φ))),some (.sh (.int (n:Nat)))]):=bz (aP _ (eu rfl) (EF _)) rfl (by rw [List.length_map]; exact BV _ _)
 rw [JO]
 unfold bN
 rw [kR e2]
 by_cases hn:l.length=n
 ·rw [decide_eq_true hn] at e3
  rw [kR e3,show ai ph (aa Cy aj) [some (.sh (.lst (l.map φ))),some (.sh (.int (n:Nat)))]=_ from aP _ (eu e1) (all_map f l),decide_eq_true hn]
  rfl
 ·rw [decide_eq_false hn] at e3
  rw [GX e3,decide_eq_false hn]
  rfl
theorem HF {alts:List (Addr × (List T -> Option T))} {m:Str} {fo:FE} {g:FA} {τ τ1 τ2:aB} {C:Addr} {ns:List Str} {ts qs:List T} {d:List T -> Option T} {t:T} (h:fo τ=some (.obj C ns ts,τ1)) (hm:¬ m ∈ ns) (hf:vc C alts=some d) (hg:g τ1=some (qs,τ2)) (hd:d (.obj C ns ts :: qs)=some t):dk alts m fo g τ=some (t,τ2):=by
 unfold dk
 rw [h,Option.bind_some]
 dsimp only
 rw [if_neg hm,hf,Option.bind_some,hg,Option.bind_some]
 dsimp only
 rw [hd]
 rfl
theorem HD {f:FE} {τ:aB} {u:T} (h:f τ=some (u,τ)):iJ (aa f aj) τ=some (.lst [u],τ):=by
 unfold iJ
 rw [eu h,Option.bind_some]
 exact if_pos LB
theorem wg {c1 c2:FT} {τ τ' τ'':aB} (h1:c1 τ=some (false,τ')) (h2:c2 τ'=some (false,τ'')):mZ c1 c2 τ=some (false,τ''):=by
 unfold mZ
 rw [h1,Option.bind_some]
 exact (if_neg Bool.false_ne_true).trans h2
theorem yU {a b c:Int} {fb fc:FE} {τ:aB} (hb:fb τ=some (.int b,τ)) (hc:fc τ=some (.int c,τ)) (h1:a ≤ b) (h2:b ≤ c):jH AG AG (fC (.int a)) fb fc τ=some (.bl true,τ):=by
 unfold jH
 rw [show fC (.int a) τ=some (.int a,τ) from rfl,Option.bind_some,hb,Option.bind_some]
 rw [show AG (.int a) (.int b)=some (.bl (decide (a ≤ b))) from rfl,decide_eq_true h1,Option.bind_some]
 dsimp only
 rw [hc,Option.bind_some,show AG (.int b) (.int c)=some (.bl (decide (b ≤ c))) from rfl,decide_eq_true h2]
 rfl
theorem C3 {f:FE} {τ τ':aB} (h:f τ=some (.bl true,τ')):cK (eE f) τ=some (false,τ'):=by
 unfold cK eE
 rw [h]
 rfl
theorem Jm {m n:Nat} {fb:FS} {ts:List T} {τ:aB} (hl:ts.length=n) (h:fb (ts.map (fun t=>some (Sl.sh t)) ++ List.replicate (m - n) none)=some (.nx τ)):cW m n fb ts=some .non:=by
 unfold cW
 rw [if_pos hl,h]
 rfl
theorem CN {x:Rat} (h:Lq 1 9 x):Sm x:=(Ov.lq h).sm (eK 1) (by decide +kernel) (by decide +kernel)
theorem BY {r:List Rat} {w:Nat} (hl:r.length=w) (h8:w ≤ 12) (h:∀ x ∈ r,Sm x):BM [aq r,.int (w:Nat)]=some (.bl true):=by
 have e:=Hr (φ:=bO) (f:=fun _=>true) r (by omega) (fun x hx=>Ly (h x hx)) w
 rw [decide_eq_true hl,show (r.all fun _=>true)=true by simp] at e
 exact e
abbrev KN:List T -> Option T:=cW 3 3 (iZ BM)
theorem yZ {m w:Nat} {A:List (List Rat)} (h:Tw m w A) (hm:m ≤ 12) (hw:w ≤ 12):KN [ak A,.int (m:Nat),.int (w:Nat)]=some (.bl true):=by
 have c1:=bS (φ:=aq) (fe:=ai BM (aa (ae 0) (aa (ae 1) aj))) (g:=fun _=>T.bl true) (ρ:=[some (.sh (.int (w:Nat)))]) rfl A none [] (fun r hr=>aP [aq r,.int (w:Nat)] rfl (BY (h.bw.wd r hr) hw fun x hx=>CN (h.bw.lq r hr x hx))) (cq (by rw [h.len]; exact hm))
 have e1:=bT (no:=1) (cap:=[2]) (fi:=aX (ae 0)) (fg:=ao 0) (ft:=av) (τ:=[some (.sh (ak A)),some (.sh (.int (m:Nat))),some (.sh (.int (w:Nat)))]) (ts:=A.map aq) rfl rfl rfl c1
 rw [List.nil_append] at e1
 have e2:ai bj (aa (ae 0) (aa (fC (.ty "list")) aj)) [some (.sh (ak A)),some (.sh (.int (m:Nat))),some (.sh (.int (w:Nat)))]=some (.bl true,[some (.sh (ak A)),some (.sh (.int (m:Nat))),some (.sh (.int (w:Nat)))]):=rfl
 have e3:aH jJ (ai bY (aa (ae 0) aj)) (ae 1) [some (.sh (ak A)),some (.sh (.int (m:Nat))),some (.sh (.int (w:Nat)))]=some (.bl true,[some (.sh (ak A)),some (.sh (.int (m:Nat))),some (.sh (.int (w:Nat)))]):=bz (aP _ (eu rfl) (len_tab A)) rfl (by rw [BV,decide_eq_true h.len])
 have e4:=aP (g:=ph) _ (eu e1) (all_map (fun _=>true) A)
 rw [show (A.all fun _=>true)=true by simp] at e4
 refine eZ rfl ?_
 show iZ BM [some (.sh (ak A)),some (.sh (.int (m:Nat))),some (.sh (.int (w:Nat)))]=_
 unfold iZ
 exact jx ((kR e2).trans ((kR e3).trans e4))
abbrev BN:List T -> Option T:=cW 7 4 (hW KN)
section
variable {m i o:Nat} {A B C D:List (List Rat)}
theorem gU.row0 (h:gU m i o A B C D) (ho:0 < o):(D.getD 0 []).length=i:=by
 have hl:=h.d.len
 cases D with
 | nil=>simp at hl; omega
 | cons d D=>exact h.d.bw.wd d List.mem_cons_self
theorem G9 (h:gU m i o A B C D) (hm:m ≤ 12) (hi:1 ≤ i /\ i ≤ 2) (ho:1 ≤ o /\ o ≤ 2):BN [ak A,ak B,ak C,ak D]=some (.bl true):=by
 have t1:=yZ h.a hm hm
 have t2:=yZ h.b hm (by omega)
 have t3:=yZ h.c (by omega) hm
 have t4:=yZ h.d (by omega) (by omega)
 have lA:=len_tab A
 have lD:=len_tab D
 have lR:=EG (D.getD 0 [])
 have ix:cn (ak D) (.int 0)=some (aq (D.getD 0 [])):=Hw (i:=0) (by rw [h.d.len]; omega)
 rw [h.row0 (by omega)] at lR
 rw [h.a.len] at lA
 rw [h.d.len] at lD
 have iR:bj [aq (D.getD 0 []),.ty "list"]=some (.bl true):=rfl
 generalize D.getD 0 []=R at *
 have hi1:(1:Int) ≤ ((i:Nat):Int):=by omega
 have hi2:((i:Nat):Int) ≤ 2:=by omega
 have ho1:(1:Int) ≤ ((o:Nat):Int):=by omega
 have ho2:((o:Nat):Int) ≤ 2:=by omega
 have v3:∀ {s4 s5 s6:Option Sl},aH cn (ae 3) (fC (.int 0)) [some (.sh (ak A)),some (.sh (ak B)),some (.sh (ak C)),some (.sh (ak D)),s4,s5,s6]=some (aq R,[some (.sh (ak A)),some (.sh (ak B)),some (.sh (ak C)),some (.sh (ak D)),s4,s5,s6]):=fun {s4 s5 s6}=>bz rfl rfl ix
 have l0:ai bY (aa (ae 0) aj) [some (.sh (ak A)),some (.sh (ak B)),some (.sh (ak C)),some (.sh (ak D)),none,none,none]=some (.int (m:Nat),_):=aP _ (eu rfl) lA
 have l3:ai bY (aa (ae 3) aj) [some (.sh (ak A)),some (.sh (ak B)),some (.sh (ak C)),some (.sh (ak D)),none,none,none]=some (.int (o:Nat),_):=aP _ (eu rfl) lD
 have l30:ai bY (aa (aH cn (ae 3) (fC (.int 0))) aj) [some (.sh (ak A)),some (.sh (ak B)),some (.sh (ak C)),some (.sh (ak D)),none,none,none]=some (.int (i:Nat),_):=aP _ (eu v3) lR
 have s1:ck (mZ (cK (cM (ai bj (aa (ae 0) (aa (fC (.ty "list")) aj))))) (mZ (cK (cM (ai bj (aa (ae 3) (aa (fC (.ty "list")) aj))))) (cK (eE (jH AG AG (fC (.int 1)) (ai bY (aa (ae 3) aj)) (fC (.int 2))))))) (bN (fC (.bl false))) bI [some (.sh (ak A)),some (.sh (ak B)),some (.sh (ak C)),some (.sh (ak D)),none,none,none]=some (.nx [some (.sh (ak A)),some (.sh (ak B)),some (.sh (ak C)),some (.sh (ak D)),none,none,none]):=ug rfl (wg (vW rfl) (C3 (yU l3 rfl ho1 ho2)))
 have s2:ck (mZ (cK (cM (ai bj (aa (aH cn (ae 3) (fC (.int 0))) (aa (fC (.ty "list")) aj))))) (cK (eE (jH AG AG (fC (.int 1)) (ai bY (aa (aH cn (ae 3) (fC (.int 0))) aj)) (fC (.int 2)))))) (bN (fC (.bl false))) bI [some (.sh (ak A)),some (.sh (ak B)),some (.sh (ak C)),some (.sh (ak D)),none,none,none]=some (.nx [some (.sh (ak A)),some (.sh (ak B)),some (.sh (ak C)),some (.sh (ak D)),none,none,none]):=ug (aP _ (iG v3 rfl) iR) (C3 (yU l30 rfl hi1 hi2))
 have s3:zj 4 5 6 (aa (ai bY (aa (ae 0) aj)) (aa (ai bY (aa (aH cn (ae 3) (fC (.int 0))) aj)) (aa (ai bY (aa (ae 3) aj)) aj))) [some (.sh (ak A)),some (.sh (ak B)),some (.sh (ak C)),some (.sh (ak D)),none,none,none]=some (.nx [some (.sh (ak A)),some (.sh (ak B)),some (.sh (ak C)),some (.sh (ak D)),some (.sh (.int (m:Nat))),some (.sh (.int (i:Nat))),some (.sh (.int (o:Nat)))]):=by
  unfold zj
  rw [kC l0 l30 l3]
  rfl
 refine eZ rfl ?_
 show hW KN [some (.sh (ak A)),some (.sh (ak B)),some (.sh (ak C)),some (.sh (ak D)),none,none,none]=_
 unfold hW
 rw [bF s1,bF s2,bF s3]
 exact jx ((kR (aP _ (kC rfl rfl rfl) t1)).trans ((kR (aP _ (kC rfl rfl rfl) t2)).trans ((kR (aP _ (kC rfl rfl rfl) t3)).trans (aP _ (kC rfl rfl rfl) t4))))
abbrev eD:Addr:=319
def oq (r:List Rat):T:=.tup (r.map bO)
def kh (A:List (List Rat)):T:=.tup (A.map oq)
abbrev mf (A B C D:List (List Rat)):T:=.tup [kh A,kh B,kh C,kh D]
def cP (A B C D:List (List Rat)):T:=.obj eD ["four"] [mf A B C D]
theorem Cw {t:FS} {fr:Addr -> FI} {x:Addr} {τ:aB} {ns:List Str} {us:List T} (h:t τ=some (.nx τ)) (ha:bX τ=true) (h0:τ[0]? = some (some (.sh (.ptr x)))):Cv t fr x τ ns us=fr x τ ns us:=by
 unfold Cv
 rw [h,Option.bind_some]
 dsimp only
 rw [if_pos ha,h0]
 exact if_pos rfl
theorem Ho {f:Str} {fe:FE} {fr:Addr -> FI} {x:Addr} {τ:aB} {ns:List Str} {us:List T} {t:T} (h:fe τ=some (t,τ)) (ha:bX τ=true) (hn:¬ f ∈ ns /\ ns.length < 999) (h0:τ[0]? = some (some (.sh (.ptr x)))):Ex f fe fr x τ ns us=fr x τ (ns ++ [f]) (us ++ [t]):=by
 unfold Ex
 rw [h,Option.bind_some]
 dsimp only
 rw [if_pos ⟨ha,hn⟩,h0]
 exact if_pos rfl
theorem Ce {P:List (List Rat) -> Prop} (a:P A) (b:P B) (c:P C) (d:P D):∀ X ∈ [A,B,C,D],P X:=by
 intro X hX
 simp only [List.mem_cons,List.not_mem_nil,or_false] at hX
 rcases hX with rfl | rfl | rfl | rfl
 ·exact a
 ·exact b
 ·exact c
 ·exact d
theorem gU.len8 (h:gU m i o A B C D) (hm:m ≤ 12) (ho:o ≤ 12):∀ X ∈ [A,B,C,D],X.length ≤ 12:=Ce (P:=fun X=>X.length ≤ 12) (by rw [h.a.len]; exact hm) (by rw [h.b.len]; exact hm) (by rw [h.c.len]; exact ho) (by rw [h.d.len]; exact ho)
theorem IC {f g p q:FE} {τ:aB} {t u v x:T} (h:f τ=some (t,τ)) (h':g τ=some (u,τ)) (h'':p τ=some (v,τ)) (h3:q τ=some (x,τ)):ir (aa f (aa g (aa p (aa q aj)))) τ=some (.tup [t,u,v,x],τ):=by
 unfold ir
 rw [Au h h' h'' h3,Option.bind_some]
 exact if_pos LF
abbrev G4:List T -> Option wZ:=dI 5 4 (dw BN)
theorem Jx (h:gU m i o A B C D) (hm8:m ≤ 8) (hi:1 ≤ i /\ i ≤ 2) (ho:1 ≤ o /\ o ≤ 2):G4 [ak A,ak B,ak C,ak D]=some (((["four"]:List Str),[mf A B C D]):wZ):=by
 have hm:m ≤ 12:=by omega
 refine Jj ⟨rfl,fun x=>?_⟩
 show dw BN x [some (.sh (.ptr x)),some (.sh (ak A)),some (.sh (ak B)),some (.sh (ak C)),some (.sh (ak D))] [] []=_
 have t1:=G9 h hm hi ho
 have lA:=len_tab A
 rw [h.a.len] at lA
 have l8:=h.len8 hm (by omega)
 have s1:ck (cK (cM (ai BN (aa (ae 1) (aa (ae 2) (aa (ae 3) (aa (ae 4) aj))))))) fj bI [some (.sh (.ptr x)),some (.sh (ak A)),some (.sh (ak B)),some (.sh (ak C)),some (.sh (ak D))]=some (.nx [some (.sh (.ptr x)),some (.sh (ak A)),some (.sh (ak B)),some (.sh (ak C)),some (.sh (ak D))]):=oF (aP _ (Au rfl rfl rfl rfl) t1)
 have s2:ck (eE (aH rG (ai bY (aa (ae 1) aj)) (fC (.int 8)))) fj bI [some (.sh (.ptr x)),some (.sh (ak A)),some (.sh (ak B)),some (.sh (ak C)),some (.sh (ak D))]=some (.nx [some (.sh (.ptr x)),some (.sh (ak A)),some (.sh (ak B)),some (.sh (ak C)),some (.sh (ak D))]):=by
  refine kO ?_
  unfold eE
  rw [bz (g:=rG) (t:=.bl (decide (((m:Nat):Int) > 8))) (aP (g:=bY) [ak A] (eu rfl) lA) rfl rfl,decide_eq_false (by omega)]
  rfl
 have hc:=bS (φ:=ak) (fe:=ai dO (aa (cm 1 [] (aX (ae 0)) (ao 0) av (ai dO (aa (ae 0) aj))) aj)) (g:=kh) (ρ:=[]) rfl [A,B,C,D] none [] (fun X hX=>by
  have hc:=bS (φ:=aq) (fe:=ai dO (aa (ae 0) aj)) (g:=oq) (ρ:=[]) rfl X none [] (fun r hr=>aP [aq r] rfl rfl) (cq (l8 X hX))
  have e:=bT (no:=1) (cap:=[]) (fi:=aX (ae 0)) (fg:=ao 0) (ft:=av) (τ:=[some (.sh (ak X))]) (ts:=X.map aq) rfl rfl rfl hc
  exact aP _ (eu e) rfl) (cq (by simp))
 have hi:aX (ir (aa (ae 1) (aa (ae 2) (aa (ae 3) (aa (ae 4) aj))))) [some (.sh (.ptr x)),some (.sh (ak A)),some (.sh (ak B)),some (.sh (ak C)),some (.sh (ak D))]=some ([A,B,C,D].map ak,[some (.sh (.ptr x)),some (.sh (ak A)),some (.sh (ak B)),some (.sh (ak C)),some (.sh (ak D))]):=by
  unfold aX
  rw [IC (t:=ak A) (u:=ak B) (v:=ak C) (x:=ak D) rfl rfl rfl rfl]
  rfl
 have e:=bT (no:=1) (cap:=[]) (fg:=ao 0) (ft:=av) hi rfl rfl hc
 unfold dw
 rw [Cw s1 rfl rfl,Cw s2 rfl rfl,Ho (aP _ (eu e) rfl) rfl ⟨by decide,by decide⟩ rfl]
 rfl
abbrev Eg:List T -> Option T:=cW 1 1 (jt eD)
abbrev Eh:List T -> Option T:=cW 1 1 (kM eD)
theorem Gz:Eg [cP A B C D]=some (.int (A.length:Nat)):=by
 refine eZ rfl (jx (aP (t:=.int (A.length:Nat)) [kh A] (eu (bz (g:=cn) (t:=kh A) (a:=mf A B C D) (b:=.int 0) rfl rfl rfl)) ?_))
 show some (T.int ((A.map oq).length:Nat))=_
 rw [List.length_map]
theorem ED {t:T} {ts:List T}:cn (.tup (t :: ts)) (.int 0)=some t:=by
 show mS (t :: ts) 0=_
 unfold mS tM
 rw [if_pos (by decide),if_pos (by rw [List.length_cons]; omega)]
 rfl
theorem GA (h:gU m i o A B C D) (ho:0 < o):Eh [cP A B C D]=some (.int (i:Nat)):=by
 have hr:=h.row0 ho
 have hl:=h.d.len
 cases D with
 | nil=>simp at hl; omega
 | cons d D =>
  refine eZ rfl (jx (aP (t:=.int (i:Nat)) [oq d] (eu (bz (g:=cn) (t:=oq d) (a:=kh (d :: D)) (b:=.int 0) (bz (g:=cn) (a:=mf A B C (d :: D)) (b:=.int 3) rfl rfl rfl) rfl ED)) ?_))
  show some (T.int ((d.map bO).length:Nat))=_
  rw [List.length_map]
  exact congrArg (fun n:Nat=>some (T.int (n:Nat))) hr
abbrev G7:List T -> Option (List O):=uV 1 1 (dZ eD)
theorem GB (h:gU m i o A B C D) (hm:m ≤ 12) (ho:o ≤ 12):G7 [cP A B C D]=some [dG A,dG B,dG C,dG D]:=by
 have l8:=h.len8 hm ho
 have hc:=cR (φ:=kh) (fe:=cJ 1 [] (aX (ae 0)) (ao 0) av (iq (ae 0))) (g:=dG) (ρ:=[]) rfl [A,B,C,D] none [] (fun X hX=>by
  have hc:=cR (φ:=oq) (fe:=iq (ae 0)) (g:=eV) (ρ:=[]) rfl X none [] (fun r hr=>rfl) (kc (l8 X hX))
  exact ee (no:=1) (cap:=[]) (fi:=aX (ae 0)) (fg:=ao 0) (ft:=av) (τ:=[some (.sh (kh X))]) (ts:=X.map oq) rfl rfl rfl hc) (kc (by simp))
 have e:=ee (no:=1) (cap:=[]) (fi:=aX (xv [eD] "four" (ae 0))) (fg:=ao 0) (ft:=av) (τ:=[some (.sh (cP A B C D))]) (ts:=[A,B,C,D].map kh) rfl rfl rfl hc
 show dZ eD [some (.sh (cP A B C D))]=_
 unfold dZ zk B9
 rw [e]
 rfl
abbrev uX:List T -> Option T:=fun ts=>(G7 ts).bind fun os=>some (.tup (O.trs os))
theorem B0 (h:gU m i o A B C D) (hm:m ≤ 12) (ho:o ≤ 12):uX [cP A B C D]=some (.tup [ak A,ak B,ak C,ak D]):=by
 show (G7 [cP A B C D]).bind _=_
 rw [GB h hm ho]
 show some (T.tup [(dG A).tr,(dG B).tr,(dG C).tr,(dG D).tr])=_
 rw [fV,fV,fV,fV]
end
open PySem PySem.Spec PyProof.Rows L2 TM Qm Rq
abbrev cU (m i o:Nat):T:=.lst [.int (m:Nat),.int (i:Nat),.int (o:Nat)]
theorem AQ (x:Int) {b:Int} (h:0 < b):∃ n:Nat,x.fmod b=(n:Nat) /\ (n:Int) < b:=by
 refine ⟨(x.fmod b).toNat,?_,?_⟩
 ·rw [Int.toNat_of_nonneg (Int.fmod_nonneg_of_pos x h)]
 ·rw [Int.toNat_of_nonneg (Int.fmod_nonneg_of_pos x h)]
  exact Int.fmod_lt_of_pos x h
theorem JR {a b c:T}:[a,b,c].length ≤ 1000:=by rw [List.length_cons,List.length_cons,List.length_cons,List.length_nil]; omega
theorem DC {i:Nat} {g:FA} {τ τ':aB} {ts:List T} (h:g τ=some (ts,τ')) (hl:ts.length ≤ 1000):fm i g τ=some (.nx (τ'.set i (some (.own ts)))):=by
 unfold fm
 rw [h,Option.bind_some]
 exact if_pos (bQ hl)
theorem Kb {g:T -> T -> Option T} {fa fb:FE} {τ τ1 τ2:aB} {a b t:T} (h1:fa τ=some (a,τ1)) (h2:fb τ1=some (b,τ2)) (h:g a b=some t):aH g fa fb τ=some (t,τ2):=by
 unfold aH
 rw [h1,Option.bind_some]
 dsimp only
 rw [h2,Option.bind_some]
 dsimp only
 rw [h]
 rfl
theorem Hq {c:FT} {s u:FS} {τ τ':aB} (h:c τ=some (true,τ')):ck c s u τ=s τ':=by
 unfold ck
 rw [h]
 rfl
theorem yB {f:FE} {τ τ':aB} {b:Bool} (h:f τ=some (.bl b,τ')):eE f τ=some (b,τ'):=by
 unfold eE
 rw [h]
 rfl
abbrev G3:List T -> Option T:=cW 3 1 (gj Ax)
theorem Jw (ns:List Int):∃ m i o:Nat,G3 [.scr (ns.map T.int)]=some (cU m i o) /\ m ≤ 8 /\ (1 ≤ i /\ i ≤ 2) /\ (1 ≤ o /\ o ≤ 2):=by
 have c0:=sI ns 0
 generalize ns.getD 0 0=c at *
 obtain ⟨m,em,hm⟩:=AQ c (b:=4) (by decide)
 obtain ⟨m',em',hm'⟩:=AQ (c.fdiv 128) (b:=5) (by decide)
 obtain ⟨i',ei,hi'⟩:=AQ (c.fdiv 4) (b:=2) (by decide)
 obtain ⟨o',eo,ho'⟩:=AQ (c.fdiv 8) (b:=2) (by decide)
 have e1:bU 1 (ai Ax (aa (ae 0) (aa (fC (.int 0)) aj))) [some (.sh (.scr (ns.map T.int))),none,none]=some (.nx [some (.sh (.scr (ns.map T.int))),some (.sh (.int c)),none]):=gR (aP _ (iG rfl rfl) c0) rfl
 have b1:=bz (g:=cV) (fa:=ae 1) (fb:=fC (.int 4)) (τ:=[some (.sh (.scr (ns.map T.int))),some (.sh (.int c)),none]) rfl rfl (pE (N:=c) (d:=4) (by decide))
 have b2:=bz (g:=cF) (fa:=fC (.int 1)) (τ:=[some (.sh (.scr (ns.map T.int))),some (.sh (.int c)),none]) rfl (bz (g:=cV) (fb:=fC (.int 2)) (bz (g:=cG) (fa:=ae 1) (fb:=fC (.int 4)) rfl rfl (pj (N:=c) (d:=4) (by decide) (cz (by decide) (by decide)))) rfl (pE (d:=2) (by decide))) iK
 have b3:=bz (g:=cF) (fa:=fC (.int 1)) (τ:=[some (.sh (.scr (ns.map T.int))),some (.sh (.int c)),none]) rfl (bz (g:=cV) (fb:=fC (.int 2)) (bz (g:=cG) (fa:=ae 1) (fb:=fC (.int 8)) rfl rfl (pj (N:=c) (d:=8) (by decide) (cz (by decide) (by decide)))) rfl (pE (d:=2) (by decide))) iK
 rw [em] at b1
 rw [ei,show (1:Int) + ((i':Nat):Int)=((1 + i':Nat):Int) by omega] at b2
 rw [eo,show (1:Int) + ((o':Nat):Int)=((1 + o':Nat):Int) by omega] at b3
 have e2:=DC (i:=2) (kC b1 b2 b3) JR
 obtain ⟨L,hL⟩:∃ L:Bool,L=decide ((c.fdiv 16).fmod 8=1):=⟨_,rfl⟩
 have t:eE (aH jJ (aH cV (aH cG (ae 1) (fC (.int 16))) (fC (.int 8))) (fC (.int 1))) [some (.sh (.scr (ns.map T.int))),some (.sh (.int c)),some (.own [.int (m:Nat),.int ((1 + i':Nat):Nat),.int ((1 + o':Nat):Nat)])]=some (L,[some (.sh (.scr (ns.map T.int))),some (.sh (.int c)),some (.own [.int (m:Nat),.int ((1 + i':Nat):Nat),.int ((1 + o':Nat):Nat)])]):=by
  have a:=bz (g:=jJ) (fb:=fC (.int 1)) (τ:=[some (.sh (.scr (ns.map T.int))),some (.sh (.int c)),some (.own [.int (m:Nat),.int ((1 + i':Nat):Nat),.int ((1 + o':Nat):Nat)])]) (bz (g:=cV) (fb:=fC (.int 8)) (bz (g:=cG) (fa:=ae 1) (fb:=fC (.int 16)) rfl rfl (pj (N:=c) (d:=16) (by decide) (cz (by decide) (by decide)))) rfl (pE (d:=8) (by decide))) rfl (mh _ _)
  rw [<- hL] at a
  exact yB a
 refine ⟨if L then 4 + m' else m,1 + i',1 + o',?_,by split <;> omega,by omega,by omega⟩
 refine eZ rfl ?_
 show gj Ax [some (.sh (.scr (ns.map T.int))),none,none]=_
 unfold gj
 rw [bF e1,bF e2]
 cases L with
 | false =>
  refine (bF (τ':=[some (.sh (.scr (ns.map T.int))),some (.sh (.int c)),some (.own [.int (m:Nat),.int ((1 + i':Nat):Nat),.int ((1 + o':Nat):Nat)])]) (kO t)).trans ?_
  rfl
 | true =>
  have s:je 2 (aH cF (fC (.int 4)) (aH cV (aH cG (ae 1) (fC (.int 128))) (fC (.int 5)))) (fC (.int 0)) [some (.sh (.scr (ns.map T.int))),some (.sh (.int c)),some (.own [.int (m:Nat),.int ((1 + i':Nat):Nat),.int ((1 + o':Nat):Nat)])]=some (.nx [some (.sh (.scr (ns.map T.int))),some (.sh (.int c)),some (.own [.int ((4 + m':Nat):Nat),.int ((1 + i':Nat):Nat),.int ((1 + o':Nat):Nat)])]):=by
   have a:=bz (g:=cF) (fa:=fC (.int 4)) (τ:=[some (.sh (.scr (ns.map T.int))),some (.sh (.int c)),some (.own [.int (m:Nat),.int ((1 + i':Nat):Nat),.int ((1 + o':Nat):Nat)])]) rfl (bz (g:=cV) (fb:=fC (.int 5)) (bz (g:=cG) (fa:=ae 1) (fb:=fC (.int 128)) rfl rfl (pj (N:=c) (d:=128) (by decide) (cz (by decide) (by decide)))) rfl (pE (d:=5) (by decide))) iK
   rw [em',show (4:Int) + ((m':Nat):Int)=((4 + m':Nat):Int) by omega] at a
   exact Fz (us:=[.int (m:Nat),.int ((1 + i':Nat):Nat),.int ((1 + o':Nat):Nat)]) (k:=0) rfl a rfl (by simp)
  refine (bF (τ':=[some (.sh (.scr (ns.map T.int))),some (.sh (.int c)),some (.own [.int ((4 + m':Nat):Nat),.int ((1 + i':Nat):Nat),.int ((1 + o':Nat):Nat)])]) ((Hq t).trans s)).trans ?_
  rfl
def yi (x:Rat):Rat:=Rat.divInt ((if x.num < 0 then -x.num else x.num).fmod 2) 1
theorem Kg (x:Rat):phi (bO x)=bO (yi x):=by
 obtain ⟨n,e,h⟩:=AQ (if x.num < 0 then -x.num else x.num) (b:=2) (by decide)
 unfold yi
 show T.tup [.int ((if x.num < 0 then -x.num else x.num).fmod 2),.int 1]=_
 rw [e]
 have h2:n=0 \/ n=1:=by omega
 rcases h2 with rfl | rfl
 ·rfl
 ·rfl
theorem HV (x:Rat):Lq 1 9 (yi x):=by
 obtain ⟨n,e,h⟩:=AQ (if x.num < 0 then -x.num else x.num) (b:=2) (by decide)
 unfold yi
 rw [e]
 have h2:n=0 \/ n=1:=by omega
 rcases h2 with rfl | rfl
 ·exact Lq.small (a:=0) (b:=1) (by decide) (by decide) (by decide)
 ·exact Lq.small (a:=1) (b:=1) (by decide) (by decide) (by decide)
def jO (A:List (List Rat)):List (List Rat):=A.map fun r=>r.map yi
theorem uk {m w:Nat} {A:List (List Rat)} (h:Tw m w A):Tw m w (jO A):=by
 refine ⟨by unfold jO; rw [List.length_map,h.len],⟨fun r hr=>?_,fun r hr x hx=>?_⟩⟩
 ·unfold jO at hr
  obtain ⟨s,hs,rfl⟩:=List.mem_map.mp hr
  rw [List.length_map,h.bw.wd s hs]
 ·unfold jO at hr
  obtain ⟨s,hs,rfl⟩:=List.mem_map.mp hr
  obtain ⟨y,_,rfl⟩:=List.mem_map.mp hx
  exact HV y
theorem gU.phi {m i o:Nat} {A B C D:List (List Rat)} (h:gU m i o A B C D):gU m i o (jO A) (jO B) (jO C) (jO D):=⟨uk h.a,uk h.b,uk h.c,uk h.d⟩
theorem fK:∀ ts:List T,iV (ts.map O.val)=true
 | []=>rfl
 | t :: ts=>fK ts
theorem ib (A:List (List Rat)):eh (dG A)=true:=by
 show (A.map eV).all jK=true
 rw [List.all_eq_true]
 intro o ho
 obtain ⟨r,_,rfl⟩:=List.mem_map.mp ho
 exact fK (r.map bO)
theorem nP (A B C D:List (List Rat)):mr (rF A B C D)=true:=by
 show (eh (dG A) && (eh (dG B) && (eh (dG C) && (eh (dG D) && true))))=true
 rw [ib,ib,ib,ib]
 rfl
theorem uo (A:List (List Rat)):ym (ak A)=true:=by
 show (A.map aq).all Ig=true
 rw [List.all_eq_true]
 intro o ho
 obtain ⟨r,_,rfl⟩:=List.mem_map.mp ho
 show (r.map bO).all isQ=true
 rw [List.all_eq_true]
 intro x hx
 obtain ⟨q,_,rfl⟩:=List.mem_map.mp hx
 rfl
theorem A6 (A B C D:List (List Rat)):Ki (bo A B C D)=true:=by
 show (ym (ak A) && (ym (ak B) && (ym (ak C) && (ym (ak D) && true))))=true
 rw [uo,uo,uo,uo]
 rfl
theorem ku (A:List (List Rat)):nO phi (ak A)=ak (jO A):=by
 show T.lst ((A.map aq).map (Cc phi))=T.lst ((A.map fun r=>r.map yi).map aq)
 rw [List.map_map,List.map_map]
 refine congrArg T.lst (List.map_congr_left fun r _=>?_)
 show T.lst ((r.map bO).map phi)=T.lst ((r.map yi).map bO)
 rw [List.map_map,List.map_map]
 exact congrArg T.lst (List.map_congr_left fun x _=>Kg x)
theorem AE (A B C D:List (List Rat)):Cd phi (bo A B C D)=bo (jO A) (jO B) (jO C) (jO D):=by
 show T.lst [nO phi (ak A),nO phi (ak B),nO phi (ak C),nO phi (ak D)]=_
 rw [ku,ku,ku,ku]
abbrev G5:List T -> Option T:=cW 7 2 (fT Ax BL)
theorem Jy (ns:List Int) {m i o:Nat} (hm:m ≤ 8) (hi:i ≤ 2) (ho:o ≤ 2):∃ A B C D,G5 [.scr (ns.map T.int),cU m i o]=some (bo A B C D) /\ gU m i o A B C D:=by
 have c1:=sI ns 1
 generalize ns.getD 1 0=c at *
 obtain ⟨A,B,C,D,e,h⟩:=Ek c hm hi ho
 have hc:ff BL (aa (ai Ax (aa (ae 0) (aa (fC (.int 1)) aj))) (aa (aH cn (ae 1) (fC (.int 0))) (aa (aH cn (ae 1) (fC (.int 1))) (aa (aH cn (ae 1) (fC (.int 2))) aj)))) [some (.sh (.scr (ns.map T.int))),some (.sh (cU m i o)),none,none,none,none,none]=some (rF A B C D,[some (.sh (.scr (ns.map T.int))),some (.sh (cU m i o)),none,none,none,none,none]):=ko _ (Au (aP _ (iG rfl rfl) c1) (bz (a:=cU m i o) (b:=.int 0) rfl rfl rfl) (bz (a:=cU m i o) (b:=.int 1) rfl rfl rfl) (bz (a:=cU m i o) (b:=.int 2) rfl rfl rfl)) e
 have ht:eE (aH rG (aH cn (ae 1) (fC (.int 0))) (fC (.int 3))) [some (.sh (.scr (ns.map T.int))),some (.sh (cU m i o)),some (.sh (bo A B C D)),none,none,none,none]=some (decide (((m:Nat):Int) > 3),[some (.sh (.scr (ns.map T.int))),some (.sh (cU m i o)),some (.sh (bo A B C D)),none,none,none,none]):=yB (bz (g:=rG) (a:=.int (m:Nat)) (bz (a:=cU m i o) (b:=.int 0) rfl rfl rfl) rfl rfl)
 have go:fT Ax BL [some (.sh (.scr (ns.map T.int))),some (.sh (cU m i o)),none,none,none,none,none]=(if decide (((m:Nat):Int) > 3)=true then some (.rt (bo (jO A) (jO B) (jO C) (jO D))) else some (.rt (bo A B C D))):=by
  unfold fT B5
  rw [hc,Option.bind_some]
  dsimp only
  rw [if_pos ⟨nP A B C D,rfl,rfl,rfl,rfl,rfl⟩,vf]
  show (eE _ [some (.sh (.scr (ns.map T.int))),some (.sh (cU m i o)),some (.sh (bo A B C D)),none,none,none,none]).bind _=_
  rw [ht,Option.bind_some]
  dsimp only
  rw [A6,if_pos rfl,AE]
 by_cases hd:((m:Nat):Int) > 3
 ·refine ⟨_,_,_,_,eZ rfl ?_,h.phi⟩
  refine go.trans ?_
  rw [decide_eq_true hd,if_pos rfl]
 ·refine ⟨A,B,C,D,eZ rfl ?_,h⟩
  refine go.trans ?_
  rw [decide_eq_false hd,if_neg (by decide)]
open PySem PySem.Spec PyProof.Rows L2 TM Qm Rq
section
variable {m i o:Nat} {A B C D:List (List Rat)}
abbrev IK:List T -> Option T:=cW 1 1 (jC eD)
theorem Js:IK [cP A B C D]=some (.int (D.length:Nat)):=by
 refine eZ rfl (jx (aP (t:=.int (D.length:Nat)) [kh D] (eu (bz (g:=cn) (t:=kh D) (a:=mf A B C D) (b:=.int 3) rfl rfl rfl)) ?_))
 show some (T.int ((D.map oq).length:Nat))=_
 rw [List.length_map]
abbrev BQ:List T -> Option T:=cW 1 1 (jD eD)
theorem Ha:BQ [cP A B C D]=some (mf A B C D):=rfl
theorem vP {d:List T -> Option T} {mn:Str} {f:FE} {τ:aB} {t:T} (h:f τ=some (cP A B C D,τ)) (hm:¬ mn ∈ (["four"]:List Str)) (hd:d [cP A B C D]=some t):dk [(eD,d)] mn f aj τ=some (t,τ):=
 HF (C:=eD) (ns:=["four"]) (ts:=[mf A B C D]) (qs:=[]) (d:=d) h hm rfl rfl hd
end
theorem J1 {C:Addr} {d:List T -> Option (List O)} {mn:Str} {fo:FE} {τ τ':aB} {ns:List Str} {ts:List T} {os:List O} (h:fo τ=some (.obj C ns ts,τ')) (hm:¬ mn ∈ ns) (hd:d [.obj C ns ts]=some os):pk C d mn fo τ=some (os,τ'):=by
 unfold pk
 rw [h,Option.bind_some]
 dsimp only
 rw [if_neg hm,if_pos rfl,hd]
 rfl
theorem uC {n:Nat} {ts:List T} (h:∀ x ∈ ts,zW n x):zW (n + 1) (.tup ts):=by
 obtain ⟨ds,h1,h2,h3⟩:=uA h
 exact ⟨.tuple ds,by simp only [D1,h1,Option.map_some],by simp only [PyData.canLay0,h2],by simp only [PyData.depth]; omega⟩
theorem DF (r:List Rat):zW 2 (oq r):=uC fun x hx=>by
 obtain ⟨q,_,rfl⟩:=List.mem_map.mp hx
 exact GL q
theorem mK (A:List (List Rat)):zW 3 (kh A):=uC fun x hx=>by
 obtain ⟨q,_,rfl⟩:=List.mem_map.mp hx
 exact DF q
theorem J2 {P:T -> Prop} {a b c d:T} (ha:P a) (hb:P b) (hc:P c) (hd:P d):∀ x ∈ [a,b,c,d],P x:=fun x hx=>by
 rcases List.mem_cons.mp hx with rfl | hx
 ·exact ha
 ·rcases List.mem_cons.mp hx with rfl | hx
  ·exact hb
  ·rcases List.mem_cons.mp hx with rfl | hx
   ·exact hc
   ·rcases List.mem_cons.mp hx with rfl | hx
    ·exact hd
    ·cases hx
theorem Bg (A B C D:List (List Rat)):zW 4 (mf A B C D):=uC (J2 (mK A) (mK B) (mK C) (mK D))
theorem wH (A B C D:List (List Rat)):zW 4 (bo A B C D):=uB (J2 (mJ A) (mJ B) (mJ C) (mJ D))
section
variable {m i o:Nat} {A B C D:List (List Rat)}
abbrev G6:List T -> Option T:=cW 5 3 (hV eD Eg Eh IK uX BQ G7)
abbrev Bu (A B C D:List (List Rat)) (m i o:Nat):aB:=[some (.sh (cP A B C D)),some (.sh (cU m i o)),some (.sh (bo A B C D)),none,none]
theorem Jz (h:gU m i o A B C D) (hm:m ≤ 8) (hi:1 ≤ i /\ i ≤ 2) (ho:1 ≤ o /\ o ≤ 2):G6 [cP A B C D,cU m i o,bo A B C D]=some (.bl true):=by
 have k1:=Gz (A:=A) (B:=B) (C:=C) (D:=D)
 rw [h.a.len] at k1
 have k2:=GA h (by omega)
 have k3:=Js (A:=A) (B:=B) (C:=C) (D:=D)
 rw [h.d.len] at k3
 have k4:=B0 h (by omega) (by omega)
 have k5:=GB h (by omega) (by omega)
 have l8:=h.len8 (by omega) (by omega:o ≤ 12)
 have l:iJ (aa (dk [(eD,Eg)] "cells" (ae 0) aj) (aa (dk [(eD,Eh)] "ins" (ae 0) aj) (aa (dk [(eD,IK)] "outs" (ae 0) aj) aj))) (Bu A B C D m i o)=some (cU m i o,Bu A B C D m i o):=JT (kC (vP (mn := "cells") (f:=ae 0) rfl (by decide) k1) (vP (mn := "ins") (f:=ae 0) rfl (by decide) k2) (vP (mn := "outs") (f:=ae 0) rfl (by decide) k3)) JR
 have sh:zW 1 (cU m i o):=⟨.list [.int (m:Nat),.int (i:Nat),.int (o:Nat)],rfl,rfl,Nat.le_of_ble_eq_true rfl⟩
 have tb:ai dList (aa (dk [(eD,uX)] "tables" (ae 0) aj) aj) (Bu A B C D m i o)=some (bo A B C D,Bu A B C D m i o):=aP [.tup [ak A,ak B,ak C,ak D]] (eu (vP (mn := "tables") (f:=ae 0) rfl (by decide) k4)) rfl
 have s1:ck (mZ (eE (aH lU (iJ (aa (dk [(eD,Eg)] "cells" (ae 0) aj) (aa (dk [(eD,Eh)] "ins" (ae 0) aj) (aa (dk [(eD,IK)] "outs" (ae 0) aj) aj)))) (ae 1))) (eE (aH lU (ai dList (aa (dk [(eD,uX)] "tables" (ae 0) aj) aj)) (ae 2)))) (bN (fC (.bl false))) bI (Bu A B C D m i o)=some (.nx (Bu A B C D m i o)):=kO (wg (yB (bz (g:=lU) l rfl (cmp_self (neg:=true) sh (by decide)))) (yB (bz (g:=lU) tb rfl (cmp_self (neg:=true) (wH A B C D) (by decide)))))
 have hc:=bS (φ:=ak) (fe:=ai dO (aa (cm 1 [] (aX (ae 0)) (ao 0) av (ai dO (aa (ae 0) aj))) aj)) (g:=kh) (ρ:=[]) rfl [A,B,C,D] none [] (fun X hX=>by
  have hc:=bS (φ:=aq) (fe:=ai dO (aa (ae 0) aj)) (g:=oq) (ρ:=[]) rfl X none [] (fun r hr=>aP [aq r] rfl rfl) (cq (l8 X hX))
  have e:=bT (no:=1) (cap:=[]) (fi:=aX (ae 0)) (fg:=ao 0) (ft:=av) (τ:=[some (.sh (ak X))]) (ts:=X.map aq) rfl rfl rfl hc
  exact aP _ (eu e) rfl) (cq (by simp))
 have ec:=bT (no:=1) (cap:=[]) (fi:=aX (ae 2)) (fg:=ao 0) (ft:=av) (τ:=Bu A B C D m i o) (ts:=[A,B,C,D].map ak) rfl rfl rfl hc
 have s2:ck (eE (aH lU (dk [(eD,BQ)] "told" (ae 0) aj) (ai dO (aa (cm 1 [] (aX (ae 2)) (ao 0) av (ai dO (aa (cm 1 [] (aX (ae 0)) (ao 0) av (ai dO (aa (ae 0) aj))) aj))) aj)))) (bN (fC (.bl false))) bI (Bu A B C D m i o)=some (.nx (Bu A B C D m i o)):=kO (yB (bz (g:=lU) (vP (mn := "told") (f:=ae 0) rfl (by decide) Ha) (aP _ (eu ec) rfl) (cmp_self (neg:=true) (Bg A B C D) (by decide))))
 have s3:y9 3 4 (pk eD G7 "tables" (ae 0)) (Bu A B C D m i o)=some (.nx (Bu A B C D m i o)):=by
  unfold y9
  rw [J1 (C:=eD) (ns:=["four"]) (ts:=[mf A B C D]) (mn := "tables") (fo:=ae 0) rfl (by decide) k5,Option.bind_some]
  dsimp only
  refine if_pos ⟨?_,rfl,rfl⟩
  show (eh (dG A) && (eh (dG B) && (eh (dG C) && (eh (dG D) && true))))=true
  rw [ib,ib,ib,ib]
  rfl
 refine eZ rfl ?_
 show hV eD Eg Eh IK uX BQ G7 (Bu A B C D m i o)=_
 unfold hV
 rw [bF s1,bF s2,bF s3]
 exact jx (bz (g:=jJ) tb rfl (cmp_self (neg:=false) (wH A B C D) (by decide)))
end
open PySem PySem.Spec PyProof.Rows L2 TM Qm Rq
theorem ki (k:Nat):DD (k + 1)=27720 * DD k:=by
 show 27720 ^ (k + 1)=27720 * 27720 ^ k
 rw [Nat.pow_succ,Nat.mul_comm]
theorem Bv {k:Nat} (h:k ≤ 24):DD k < C:=by
 have h1:DD k ≤ 27720 ^ 24:=Nat.pow_le_pow_right (by decide) h
 have h2:27720 ^ 24 < C:=by decide +kernel
 omega
def cw (P:List (List Rat)) (u:List Rat):List Rat:=P.map fun r=>wsum r u
def eX (x y:List Rat):List Rat:=List.zipWith (· + ·) x y
theorem wU:∀ (c d x u:List Rat),c.length=x.length -> wsum (c ++ d) (x ++ u)=wsum c x + wsum d u
 | [],d,[],u,_=>by rw [qz,Rat.zero_add]; rfl
 | a :: c,d,b :: x,u,h=>by
  rw [List.cons_append,List.cons_append,gz,gz,wU c d x u (by simpa using h),Rat.add_assoc]
 | [],d,b :: x,u,h=>by simp at h
 | a :: c,d,[],u,h=>by simp at h
theorem kj (A:List (List Rat)) (u:List Rat):(cw A u).length=A.length:=List.length_map ..
theorem yP {x y:List Rat} (h:x.length=y.length):(eX x y).length=x.length:=by
 unfold eX
 rw [List.length_zipWith]
 omega
theorem lX:∀ (A X:List (List Rat)) (x u:List Rat),(∀ a ∈ A,a.length=x.length) -> (dY A X).map (fun r=>wsum r (x ++ u))=eX (cw A x) (cw X u)
 | [],X,x,u,_=>rfl
 | a :: A,[],x,u,_=>rfl
 | a :: A,b :: X,x,u,h=>by
  show wsum (a ++ b) (x ++ u) :: (dY A X).map _=(wsum a x + wsum b u) :: eX (cw A x) (cw X u)
  rw [lX A X x u fun r hr=>h r (List.mem_cons_of_mem _ hr),wU a b x u (h a List.mem_cons_self)]
def SB (t:Nat):Nat:=(2 ^ 22) ^ (t + 1)
theorem yO (t:Nat):SB (t + 1)=2 ^ 22 * SB t:=by
 show (2 ^ 22) ^ (t + 1 + 1)=2 ^ 22 * (2 ^ 22) ^ (t + 1)
 rw [Nat.pow_succ,Nat.mul_comm]
theorem Bz {t:Nat} (h:t ≤ 20):SB t < C /\ 12 * (249480 * SB t) < C:=by
 have h1:SB t ≤ (2 ^ 22) ^ 21:=Nat.pow_le_pow_right (by decide) (by omega)
 have h2:12 * (249480 * (2 ^ 22) ^ 21) < C:=by decide +kernel
 have h3:=Nat.mul_le_mul_left 249480 h1
 constructor <;> omega
theorem Bx:∀ t:Nat,9 * DD (t + 1) ≤ SB t
 | 0=>by decide
 | t + 1=>by
  have ih:=Bx t
  rw [yO,ki (t + 1)]
  omega
theorem Ov.scale {D N E:Nat} {q:Rat} (h:Ov D N q) (hE:0 < E):Ov (D * E) (N * E) q:=by
 obtain ⟨a,rfl,ha⟩:=h
 refine ⟨a * (E:Int),?_,?_⟩
 ·rw [Int.natCast_mul,Rat.divInt_mul_right (by omega)]
 ·rw [Int.natAbs_mul,Int.natAbs_natCast]
  exact Nat.mul_le_mul_right _ ha
theorem GF {x:Rat} (h:Lq 1 9 x) (t:Nat):Ov (DD (t + 1)) (SB t) x:=by
 have h1:=(Ov.lq h).scale (eK t)
 have e:DD 1 * DD t=DD (t + 1):=by rw [<- oR,Nat.add_comm]
 rw [Nat.mul_assoc,e] at h1
 exact h1.mono (Bx t)
def Us (i:Nat) (us:List (List Rat)):Prop:=∀ u ∈ us,u.length=i /\ ∀ x ∈ u,Lq 1 9 x
theorem GI {x:Rat} (h:Lq 1 9 x):Ov (DD 1) 249480 x:=Ov.lq h
theorem IW:DD 1 < C:=by decide +kernel
theorem I0:249480 < C:=by decide +kernel
theorem qy {n m i:Nat} {X Y:List (List Rat)} (hX:Tw n m X) (hY:Tw n i Y) {r:List Rat} (hr:r ∈ dY X Y):r.length=m + i /\ ∀ x ∈ r,Ov (DD 1) 249480 x:=by
 unfold dY at hr
 obtain ⟨p,hp,rfl⟩:=List.mem_map.mp hr
 obtain ⟨h1,h2⟩:=dg hp
 refine ⟨by rw [List.length_append,hX.bw.wd _ h1,hY.bw.wd _ h2],fun x hx=>?_⟩
 rcases List.mem_append.mp hx with hx | hx
 ·exact GI (hX.bw.lq _ h1 x hx)
 ·exact GI (hY.bw.lq _ h2 x hx)
theorem Aj {n m i:Nat} {X Y:List (List Rat)} (hX:Tw n m X) (hY:Tw n i Y) (hn:n ≤ 12) (hw:m + i ≤ 12):Tv (DD 1) 249480 (dY X Y):=by
 refine ⟨?_,fun r hr=>⟨by rw [(qy hX hY hr).1]; exact hw,(qy hX hY hr).2⟩,eK 1,IW,I0⟩
 unfold dY
 rw [List.length_map,List.length_zip,hX.len,hY.len]
 omega
theorem Em {t:Nat} (h:t ≤ 20):Gj (DD 1) 249480 (DD (t + 1)) (SB t):=by
 refine ⟨?_,(Bz h).2⟩
 rw [<- oR,Nat.add_comm]
 exact Bv (by omega)
theorem Mq {t n:Nat} (h:n ≤ 10):n * (249480 * SB t) ≤ SB (t + 1):=by
 have h1:=Nat.mul_le_mul_right (249480 * SB t) h
 have h2:10 * (249480 * SB t) ≤ SB (t + 1):=by
  rw [yO,<- Nat.mul_assoc]
  exact Nat.mul_le_mul_right _ (by decide)
 omega
theorem Fe (i:Nat) (τ:aB):fm i aj τ=some (.nx (τ.set i (some (.own [])))):=by
 unfold fm
 rw [show aj τ=some ([],τ) from rfl,Option.bind_some]
 exact if_pos LA
abbrev Gw:List T -> Option T:=cW 2 2 kn
theorem yQ {a b:List Rat} (h:a.length + b.length ≤ 100):cF (aq a) (aq b)=some (aq (a ++ b)):=by
 unfold aq
 rw [vg (by rw [List.length_map,List.length_map]; exact bQ (by omega)),List.map_append]
theorem GC {n m i:Nat} {X Y:List (List Rat)} (hX:Tw n m X) (hY:Tw n i Y) (hn:n ≤ 12) (hw:m + i ≤ 12):Gw [ak X,ak Y]=some (ak (dY X Y)):=by
 have hc:=gE (φ:=fun p:List Rat × List Rat=>aq p.1) (ψ:=fun p=>aq p.2) (fe:=aH cF (ae 0) (ae 1)) (g:=fun p=>aq (p.1 ++ p.2)) (ρ:=[]) rfl (List.zip X Y) none none [] (fun p hp=>bz rfl rfl (yQ (by rw [hX.bw.wd _ (dg hp).1,hY.bw.wd _ (dg hp).2]; omega))) (cq (by rw [List.length_zip,hX.len,hY.len]; omega))
 rw [List.nil_append] at hc
 have hz:eR (aa (ae 0) (aa (ae 1) aj)) [some (.sh (ak X)),some (.sh (ak Y))]=some ((List.zip X Y).map fun p=>T.tup [aq p.1,aq p.2],[some (.sh (ak X)),some (.sh (ak Y))]):=by
  show some (iE (X.map aq) (Y.map aq),_)=_
  rw [gT]
 have e:=bT (no:=2) (cap:=[]) (fg:=qI) (ft:=av) hz rfl rfl hc
 refine eZ rfl ?_
 show kn [some (.sh (ak X)),some (.sh (ak Y))]=_
 unfold kn
 rw [jx e]
 unfold ak dY
 rw [List.map_map]
 rfl
abbrev Jn:List T -> Option T:=cW 4 4 (gk BM)
theorem Ju {m i:Nat} {x:List Rat} {us:List (List Rat)} (hm:m ≤ 12) (hi:i ≤ 12) (hx:x.length=m) (hq:∀ y ∈ x,Sm y) (hu:Us i us) (hl:us.length ≤ 12):Jn [.int (m:Nat),.int (i:Nat),aq x,ak us]=some .non:=by
 have c1:=bS (φ:=aq) (fe:=ai BM (aa (ae 0) (aa (ae 1) aj))) (g:=fun _=>T.bl true) (ρ:=[some (.sh (.int (i:Nat)))]) rfl us none [] (fun r hr=>aP [aq r,.int (i:Nat)] rfl (BY (hu r hr).1 hi fun y hy=>CN ((hu r hr).2 y hy))) (cq hl)
 have e1:=bT (no:=1) (cap:=[1]) (fi:=aX (ae 3)) (fg:=ao 0) (ft:=av) (τ:=[some (.sh (.int (m:Nat))),some (.sh (.int (i:Nat))),some (.sh (aq x)),some (.sh (ak us))]) (ts:=us.map aq) rfl rfl rfl c1
 rw [List.nil_append] at e1
 have e4:=aP (g:=ph) _ (eu e1) (all_map (fun _=>true) us)
 rw [show (us.all fun _=>true)=true by simp] at e4
 have s1:ck (cK (cM (ai BM (aa (ae 2) (aa (ae 0) aj))))) fj bI [some (.sh (.int (m:Nat))),some (.sh (.int (i:Nat))),some (.sh (aq x)),some (.sh (ak us))]=some (.nx [some (.sh (.int (m:Nat))),some (.sh (.int (i:Nat))),some (.sh (aq x)),some (.sh (ak us))]):=oF (aP _ (iG rfl rfl) (BY hx hm hq))
 have s2:ck (mZ (cK (cM (ai bj (aa (ae 3) (aa (fC (.ty "list")) aj))))) (eE (aH rG (ai bY (aa (ae 3) aj)) (fC (.int 60))))) fj bI [some (.sh (.int (m:Nat))),some (.sh (.int (i:Nat))),some (.sh (aq x)),some (.sh (ak us))]=some (.nx [some (.sh (.int (m:Nat))),some (.sh (.int (i:Nat))),some (.sh (aq x)),some (.sh (ak us))]):=by
  refine ug (τ':=[some (.sh (.int (m:Nat))),some (.sh (.int (i:Nat))),some (.sh (aq x)),some (.sh (ak us))]) rfl ?_
  unfold eE
  rw [bz (g:=rG) (t:=.bl (decide (((us.length:Nat):Int) > 60))) (aP (g:=bY) [ak us] (eu rfl) (len_tab us)) rfl rfl,decide_eq_false (by omega)]
  rfl
 refine Jm (τ:=[some (.sh (.int (m:Nat))),some (.sh (.int (i:Nat))),some (.sh (aq x)),some (.sh (ak us))]) rfl ?_
 show gk BM [some (.sh (.int (m:Nat))),some (.sh (.int (i:Nat))),some (.sh (aq x)),some (.sh (ak us))]=_
 unfold gk
 rw [bF s1,bF s2]
 exact oF e4
abbrev uU:List T -> Option O:=jG 2 2 (km BR)
abbrev Ji:List T -> Option T:=fun ts=>(uU ts).bind fun o=>some o.tr
theorem BW {D N D' N':Nat} {A:List (List Rat)} {xs:List Rat} (h1:Tv D N A) (h2:Gv D' N' xs) (f:Gj D N D' N'):uU [ak A,aq xs]=some (eV (A.map fun r=>wsum r xs)):=by
 have hX:Tv D' N' (xs.map fun x=>[x]):=⟨by rw [List.length_map]; exact h2.len,fun r hr=>by
  obtain ⟨x,hx,rfl⟩:=List.mem_map.mp hr
  exact ⟨by simp,fun y hy=>by rw [List.mem_singleton.mp hy]; exact h2.ov x hx⟩,h2.dp,h2.db,h2.nb⟩
 have c1:=bS (φ:=bO) (fe:=iJ (aa (ae 0) aj)) (g:=fun x=>T.lst [bO x]) (ρ:=[]) rfl xs none [] (fun x _=>by
  have l1:=LB
  walk_at "ev") (cq h2.len)
 have e1:=bT (no:=1) (cap:=[]) (fi:=aX (ae 1)) (fg:=ao 0) (ft:=av) (τ:=[some (.sh (ak A)),some (.sh (aq xs))]) (h1:=rfl) rfl rfl c1
 rw [List.nil_append,show T.lst (xs.map fun x=>T.lst [bO x])=ak (xs.map fun x=>[x]) by unfold ak; rw [List.map_map]; rfl] at e1
 have e2:ai BR (aa (ae 0) (aa (cm 1 [] (aX (ae 1)) (ao 0) av (iJ (aa (ae 0) aj))) (aa (fC (.int 1)) aj))) [some (.sh (ak A)),some (.sh (aq xs))]=some (ak (mulM A (xs.map fun x=>[x]) 1),[some (.sh (ak A)),some (.sh (aq xs))]):=aP [ak A,ak (xs.map fun x=>[x]),.int 1] (kC rfl e1 rfl) (Hb (w:=1) h1 hX (fun r hr=>by
  obtain ⟨x,_,rfl⟩:=List.mem_map.mp hr
  rfl) (by decide) f)
 have e3:aX (ai BR (aa (ae 0) (aa (cm 1 [] (aX (ae 1)) (ao 0) av (iJ (aa (ae 0) aj))) (aa (fC (.int 1)) aj)))) [some (.sh (ak A)),some (.sh (aq xs))]=some (A.map fun r=>aq [wsum r xs],[some (.sh (ak A)),some (.sh (aq xs))]):=by
  refine (Il e2).trans ?_
  unfold mulM
  rw [List.map_map]
  refine congrArg (fun z=>some (z,_)) (List.map_congr_left fun r _=>?_)
  show aq ([wsum r (iH (xs.map fun x=>[x]) 0)])=_
  rw [Eb]
 have c4:=cR (φ:=fun r:List Rat=>aq [wsum r xs]) (fe:=md (aH cn (ae 0) (fC (.int 0)))) (g:=fun r=>O.val (bO (wsum r xs))) (ρ:=[]) rfl A none [] (fun r _=>rfl) (by rw [List.length_nil,Nat.zero_add]; exact bQ (by have:=h1.len; omega))
 have e4:=ee (no:=1) (cap:=[]) (fg:=ao 0) (ft:=av) e3 rfl rfl c4
 refine xp rfl ?_
 show km BR [some (.sh (ak A)),some (.sh (aq xs))]=_
 unfold km
 rw [Ds e4,List.nil_append]
 unfold eV uq
 rw [List.map_map,List.map_map]
 rfl
theorem Jo {D N D' N':Nat} {A:List (List Rat)} {xs:List Rat} (h1:Tv D N A) (h2:Gv D' N' xs) (f:Gj D N D' N'):Ji [ak A,aq xs]=some (aq (A.map fun r=>wsum r xs)):=by
 show (uU [ak A,aq xs]).bind _=_
 rw [BW h1 h2 f,Option.bind_some,ur]
open PySem PySem.Spec PyProof.Rows L2 TM Qm Rq
def D0 (A B:List (List Rat)):List Rat -> List (List Rat) -> List Rat
 | x,[]=>x
 | x,u :: us=>D0 A B (eX (cw A x) (cw B u)) us
def AY (A B C D:List (List Rat)):List Rat -> List (List Rat) -> List (List Rat)
 | _,[]=>[]
 | x,u :: us=>eX (cw C x) (cw D u) :: AY A B C D (eX (cw A x) (cw B u)) us
structure Vt (t m:Nat) (x:List Rat):Prop where
 len:x.length=m
 ov:∀ y ∈ x,Ov (DD (t + 1)) (SB t) y
section
variable {m i o:Nat} {A B C D:List (List Rat)}
theorem BH {t:Nat} (ht:t ≤ 20) {x u:List Rat} (hx:Vt t m x) (hu:u.length=i) (hq:∀ y ∈ u,Lq 1 9 y) (hm:m ≤ 8) (hi:i ≤ 2):Gv (DD (t + 1)) (SB t) (x ++ u):=
 ⟨by rw [List.length_append,hx.len,hu]; omega,fun y hy=>(List.mem_append.mp hy).elim (hx.ov y) fun h=>GF (hq y h) t,eK _,Bv (by omega),(Bz ht).1⟩
theorem HI {t:Nat} {n:Nat} {X Y:List (List Rat)} (hX:Tw n m X) (hY:Tw n i Y) (ht:t ≤ 20) {x u:List Rat} (hx:Vt t m x) (hu:u.length=i) (hq:∀ y ∈ u,Lq 1 9 y) (hm:m ≤ 8) (hi:i ≤ 2):Vt (t + 1) n (eX (cw X x) (cw Y u)):=by
 have e:=lX X Y x u fun a ha=>by rw [hX.bw.wd a ha,hx.len]
 have g:=BH ht hx hu hq hm hi
 refine ⟨by rw [yP (by rw [kj,kj,hX.len,hY.len]),kj,hX.len],fun y hy=>?_⟩
 rw [<- e] at hy
 obtain ⟨r,hr,rfl⟩:=List.mem_map.mp hy
 obtain ⟨w1,w2⟩:=qy hX hY hr
 have z:=Al (eK 1) (eK (t + 1)) w2 g.ov
 rw [<- oR,Nat.add_comm 1 (t + 1),w1] at z
 exact z.mono (Mq (by omega))
theorem GY {k:Nat} {f:FE} {τ τ1:aB} {ts us:List T} {t:T} (h:τ[k]? = some (some (.own us))) (hf:f τ=some (t,τ1)) (h1:τ1[k]? = some (some (.own ts))) (hl:ts.length < 1000):kY k f τ=some (.nx (τ1.set k (some (.own (ts ++ [t]))))):=by
 unfold kY
 rw [h]
 dsimp only
 rw [hf,Option.bind_some]
 dsimp only
 rw [h1]
 exact if_pos (dN (Nat.le_of_lt hl))
theorem Ah:∀ ts:List T,O.trs (ts.map O.val)=ts
 | []=>rfl
 | t :: ts=>by rw [List.map_cons,O.trs,Ah ts]; rfl
theorem DB {k:Nat} {f:gX} {τ τ1:aB} {r:List Rat} (h:f τ=some (eV r,τ1)):nN k f τ=some (.nx (τ1.set k (some (.own (r.map bO))))):=by
 unfold nN
 rw [h,Option.bind_some]
 show some (R.nx (τ1.set k (some (.own (O.trs ((r.map bO).map O.val))))))=_
 rw [Ah]
def uu:FS:=bf (kY 10 (ai Ji (aa (ae 8) (aa (aH cF (ae 9) (ae 11)) aj)))) (nN 9 (ff uU (aa (ae 7) (aa (aH cF (ae 9) (ae 11)) aj))))
abbrev uW:List T -> Option (List O):=uV 12 3 (yR eD Jn Gw Ji uU Eg Eh uX)
abbrev A7 (s0 s1 s2:Option Sl) (A B C D:List (List Rat)) (s9:Option Sl) (ts:List T) (s11:Option Sl):aB:=[s0,s1,s2,some (.sh (ak A)),some (.sh (ak B)),some (.sh (ak C)),some (.sh (ak D)),some (.sh (ak (dY A B))),some (.sh (ak (dY C D))),s9,some (.own ts),s11]
theorem Fv (h:gU m i o A B C D) (hm:m ≤ 8) (hi:i ≤ 2) (ho:o ≤ 2) (s0 s1 s2:Option Sl) {t:Nat} (ht:t ≤ 20) {x u:List Rat} (hx:Vt t m x) (hu:u.length=i) (hq:∀ y ∈ u,Lq 1 9 y) (acc:List T) (ha:acc.length < 100) :
  uu (A7 s0 s1 s2 A B C D (some (.own (x.map bO))) acc (some (.sh (aq u))))=some (.nx (A7 s0 s1 s2 A B C D (some (.own ((eX (cw A x) (cw B u)).map bO))) (acc ++ [aq (eX (cw C x) (cw D u))]) (some (.sh (aq u))))):=by
 have g:=BH ht hx hu hq hm hi
 have f:=Em ht
 have p1:=Jo (Aj h.c h.d (by omega) (by omega)) g f
 have p2:=BW (Aj h.a h.b (by omega) (by omega)) g f
 rw [lX C D _ u fun a ha=>by rw [hx.len,h.c.bw.wd a ha]] at p1
 rw [lX A B _ u fun a ha=>by rw [hx.len,h.a.bw.wd a ha]] at p2
 generalize eX (cw A x) (cw B u)=Y at *
 generalize eX (cw C x) (cw D u)=Z at *
 have ad:cF (aq x) (aq u)=some (aq (x ++ u)):=yQ (by rw [hx.len,hu]; omega)
 have e1:kY 10 (ai Ji (aa (ae 8) (aa (aH cF (ae 9) (ae 11)) aj))) (A7 s0 s1 s2 A B C D (some (.own (x.map bO))) acc (some (.sh (aq u))))=some (.nx (A7 s0 s1 s2 A B C D (some (.sh (aq x))) (acc ++ [aq Z]) (some (.sh (aq u))))):=
  GY (us:=acc) (ts:=acc) (τ1:=A7 s0 s1 s2 A B C D (some (.sh (aq x))) acc (some (.sh (aq u)))) rfl (yT [ak (dY C D),aq (x ++ u)] (xm (t:=ak (dY C D)) (τ1:=A7 s0 s1 s2 A B C D (some (.own (x.map bO))) acc (some (.sh (aq u)))) rfl (xm (Kb (a:=aq x) (b:=aq u) (τ1:=A7 s0 s1 s2 A B C D (some (.sh (aq x))) acc (some (.sh (aq u)))) rfl rfl ad) rfl)) p1) rfl (by omega)
 have e2:nN 9 (ff uU (aa (ae 7) (aa (aH cF (ae 9) (ae 11)) aj))) (A7 s0 s1 s2 A B C D (some (.sh (aq x))) (acc ++ [aq Z]) (some (.sh (aq u))))=some (.nx (A7 s0 s1 s2 A B C D (some (.own (Y.map bO))) (acc ++ [aq Z]) (some (.sh (aq u))))):=DB (ko [ak (dY A B),aq (x ++ u)] (iG rfl (bz rfl rfl ad)) p2)
 unfold uu
 rw [bF e1]
 exact e2
theorem zS (h:gU m i o A B C D) (hm:m ≤ 8) (hi:i ≤ 2) (ho:o ≤ 2) (s0 s1 s2:Option Sl):∀ (us:List (List Rat)) (x:List Rat) (t:Nat) (acc:List T) (s11:Option Sl),Us i us -> Vt t m x -> t + us.length ≤ 20 -> acc.length + us.length ≤ 100 ->
  ∃ t11,dU (ao 11) uu (us.map aq) (A7 s0 s1 s2 A B C D (some (.own (x.map bO))) acc s11)=some (.nx (A7 s0 s1 s2 A B C D (some (.own ((D0 A B x us).map bO))) (acc ++ (AY A B C D x us).map aq) t11))
 | [],x,t,acc,s11,_,_,_,_=>⟨s11,by
   rw [show (AY A B C D x []).map aq=[] from rfl,List.append_nil]
   rfl⟩
 | u :: us,x,t,acc,s11,hu,hx,h1,h2=>by
  rw [List.length_cons] at h1 h2
  have hu0:=hu u List.mem_cons_self
  have ht:=Fv h hm hi ho s0 s1 s2 (by omega) hx hu0.1 hu0.2 acc (by omega)
  obtain ⟨t11,hl⟩:=zS h hm hi ho s0 s1 s2 us (eX (cw A x) (cw B u)) (t + 1) (acc ++ [aq (eX (cw C x) (cw D u))]) (some (.sh (aq u))) (fun v hv=>hu v (List.mem_cons_of_mem _ hv)) (HI h.a h.b (by omega) hx hu0.1 hu0.2 hm hi) (by omega) (by rw [List.length_append,List.length_cons,List.length_nil]; omega)
  refine ⟨t11,?_⟩
  rw [List.map_cons,gu (τ1:=A7 s0 s1 s2 A B C D (some (.own (x.map bO))) acc (some (.sh (aq u)))) rfl ht,hl,List.append_assoc]
  rfl
theorem nA {t:FS} {u:aB -> Option (List O)} {τ τ':aB} (h:t τ=some (.nx τ')):ma t u τ=u τ':=by
 unfold ma
 rw [h]
 rfl
theorem FV {x:List Rat} (hl:x.length=m) (hq:∀ y ∈ x,Lq 1 9 y):Vt 0 m x:=⟨hl,fun y hy=>GF (hq y hy) 0⟩
theorem Jv (h:gU m i o A B C D) (hm:m ≤ 8) (hi:1 ≤ i /\ i ≤ 2) (ho:1 ≤ o /\ o ≤ 2) {x:List Rat} {us:List (List Rat)} (hx:x.length=m) (hq:∀ y ∈ x,Lq 1 9 y) (hu:Us i us) (hl:us.length ≤ 10) :
  uW [cP A B C D,aq x,ak us]=some [.val (ak (AY A B C D x us)),eV (D0 A B x us)]:=by
 obtain ⟨t11,hL⟩:=zS h hm hi.2 ho.2 (some (.sh (cP A B C D))) (some (.sh (aq x))) (some (.sh (ak us))) us x 0 [] none hu (FV hx hq) (by omega) (by simp; omega)
 have k1:=Gz (A:=A) (B:=B) (C:=C) (D:=D)
 rw [h.a.len] at k1
 have k2:=GA h (by omega)
 have k3:=B0 h (by omega) (by omega)
 have k4:=Ju (m:=m) (i:=i) (x:=x) (by omega) (by omega) hx (fun y hy=>CN (hq y hy)) hu (by omega)
 have k5:=GC h.a h.b (by omega) (by omega)
 have k6:=GC h.c h.d (by omega) (by omega)
 have a1:u9 (ai Jn (aa (dk [(eD,Eg)] "cells" (ae 0) aj) (aa (dk [(eD,Eh)] "ins" (ae 0) aj) (aa (ae 1) (aa (ae 2) aj))))) [some (.sh (cP A B C D)),some (.sh (aq x)),some (.sh (ak us)),none,none,none,none,none,none,none,none,none]=some (.nx [some (.sh (cP A B C D)),some (.sh (aq x)),some (.sh (ak us)),none,none,none,none,none,none,none,none,none]):=by
  unfold u9
  rw [aP _ (Au (vP (mn := "cells") (f:=ae 0) rfl (by decide) k1) (vP (mn := "ins") (f:=ae 0) rfl (by decide) k2) rfl rfl) k4]
  rfl
 have a2:kZ (dk [(eD,uX)] "tables" (ae 0) aj) (cT (aI (ao 3) (aI (ao 4) (aI (ao 5) (aI (ao 6) cD))))) [some (.sh (cP A B C D)),some (.sh (aq x)),some (.sh (ak us)),none,none,none,none,none,none,none,none,none]=some (.nx [some (.sh (cP A B C D)),some (.sh (aq x)),some (.sh (ak us)),some (.sh (ak A)),some (.sh (ak B)),some (.sh (ak C)),some (.sh (ak D)),none,none,none,none,none]):=by
  unfold kZ
  rw [vP (mn := "tables") (f:=ae 0) rfl (by decide) k3]
  rfl
 have a3:n0 7 8 (aa (ai Gw (aa (ae 3) (aa (ae 4) aj))) (aa (ai Gw (aa (ae 5) (aa (ae 6) aj))) aj)) [some (.sh (cP A B C D)),some (.sh (aq x)),some (.sh (ak us)),some (.sh (ak A)),some (.sh (ak B)),some (.sh (ak C)),some (.sh (ak D)),none,none,none,none,none]=some (.nx [some (.sh (cP A B C D)),some (.sh (aq x)),some (.sh (ak us)),some (.sh (ak A)),some (.sh (ak B)),some (.sh (ak C)),some (.sh (ak D)),some (.sh (ak (dY A B))),some (.sh (ak (dY C D))),none,none,none]):=by
  unfold n0
  rw [iG (aP (g:=Gw) [ak A,ak B] (iG rfl rfl) k5) (aP (g:=Gw) [ak C,ak D] (iG rfl rfl) k6)]
  rfl
 have a4:nN 9 (iq (ae 1)) [some (.sh (cP A B C D)),some (.sh (aq x)),some (.sh (ak us)),some (.sh (ak A)),some (.sh (ak B)),some (.sh (ak C)),some (.sh (ak D)),some (.sh (ak (dY A B))),some (.sh (ak (dY C D))),none,none,none]=some (.nx [some (.sh (cP A B C D)),some (.sh (aq x)),some (.sh (ak us)),some (.sh (ak A)),some (.sh (ak B)),some (.sh (ak C)),some (.sh (ak D)),some (.sh (ak (dY A B))),some (.sh (ak (dY C D))),some (.own (x.map bO)),none,none]):=DB (k:=9) (τ1:=[some (.sh (cP A B C D)),some (.sh (aq x)),some (.sh (ak us)),some (.sh (ak A)),some (.sh (ak B)),some (.sh (ak C)),some (.sh (ak D)),some (.sh (ak (dY A B))),some (.sh (ak (dY C D))),none,none,none]) (r:=x) rfl
 have a5:=Fe 10 [some (.sh (cP A B C D)),some (.sh (aq x)),some (.sh (ak us)),some (.sh (ak A)),some (.sh (ak B)),some (.sh (ak C)),some (.sh (ak D)),some (.sh (ak (dY A B))),some (.sh (ak (dY C D))),some (.own (x.map bO)),none,none]
 have a6:k9 (aX (ae 2)) (ao 11) uu (A7 (some (.sh (cP A B C D))) (some (.sh (aq x))) (some (.sh (ak us))) A B C D (some (.own (x.map bO))) [] none)=_:=ve (ts:=us.map aq) rfl hL
 show yR eD Jn Gw Ji uU Eg Eh uX [some (.sh (cP A B C D)),some (.sh (aq x)),some (.sh (ak us)),none,none,none,none,none,none,none,none,none]=_
 unfold yR
 rw [nA a1,nA a2,nA a3,nA a4,nA a5]
 refine (nA a6).trans ?_
 rfl
end
open PySem PySem.Spec PyProof.Rows L2 TM Qm Rq
def Mm (S:Nat) (Z:List (List Int)):List (List Rat):=Z.map fun r=>r.map fun v=>Rat.divInt v (S:Nat)
theorem EA {m w:Nat} {A:List (List Rat)} (hA:Tw m w A):Mm 27720 (aW A)=A:=by
 unfold Mm aW
 rw [List.map_map]
 refine (List.map_congr_left fun r hr=>?_).trans (List.map_id _)
 show (r.map (aY 27720)).map _=r
 rw [List.map_map]
 refine (List.map_congr_left fun x hx=>?_).trans (List.map_id _)
 exact uG (L:=27720) (by decide) (KU (hA.bw.lq r hr x hx)).1
theorem BD {S N:Nat} {r:List Int} (hS:0 < S) (hSC:S < C) (hN:N < C) (hb:∀ x ∈ r,x.natAbs ≤ N):Ef [aq (r.map fun v=>Rat.divInt v (S:Nat)),iT r,.int (S:Nat)]=some (.bl true):=by
 have cb:=CB
 refine G8 (by rw [List.length_map]) fun p hp=>?_
 obtain ⟨v,hv,rfl⟩:∃ v ∈ r,p=(Rat.divInt v (S:Nat),v):=by
  clear hb
  induction r with
  | nil=>simp at hp
  | cons x r ih =>
   rw [List.map_cons,List.zip_cons_cons] at hp
   rcases List.mem_cons.mp hp with rfl | hp
   ·exact ⟨x,List.mem_cons_self,rfl⟩
   ·obtain ⟨v,hv,e⟩:=ih hp
    exact ⟨v,List.mem_cons_of_mem _ hv,e⟩
 have bv:=hb v hv
 exact Jr (Ov.sm hS hSC hN ⟨v,rfl,bv⟩) (by omega) (by rw [Int.natAbs_natCast]; omega) (by omega) rfl
theorem uL (X Y:List (List Rat)) (x u:List Rat) (n:Nat) (hX:X.length=n) (hY:Y.length=n):eX (cw X x) (cw Y u)=(List.range n).map fun j=>wsum (X.getD j []) x + wsum (Y.getD j []) u:=by
 unfold eX cw
 refine List.ext_getElem (by simp; omega) fun k h1 h2=>?_
 rw [List.getElem_zipWith,List.getElem_map,List.getElem_map,List.getElem_map,List.getElem_range]
 have h3:k < X.length:=by simp at h2; omega
 have h4:k < Y.length:=by simp at h2; omega
 rw [List.getD_eq_getElem?_getD,List.getD_eq_getElem?_getD,List.getElem?_eq_getElem h3,List.getElem?_eq_getElem h4]
 rfl
theorem getD_map {α β:Type} (f:α -> β) {l:List α} {j:Nat} (h:j < l.length) (d:α) (e:β):(l.map f).getD j e=f (l.getD j d):=by
 rw [List.getD_eq_getElem?_getD,List.getD_eq_getElem?_getD,List.getElem?_map,List.getElem?_eq_getElem h]
 rfl
theorem CL (Z:List (List Int)):bY [zT Z]=some (.int (Z.length:Nat)):=by
 show some (T.int ((Z.map iT).length:Nat))=_
 rw [List.length_map]
theorem CC {Z:List (List Int)} {k:Nat} (h:k < Z.length):cn (zT Z) (.int (k:Nat))=some (iT (Z.getD k [])):=by
 have e:(Z.map iT)[k]? = some (iT (Z.getD k [])):=by
  rw [List.getElem?_map,List.getElem?_eq_getElem h,List.getD_eq_getElem?_getD,List.getElem?_eq_getElem h]
  rfl
 show mS (Z.map iT) (k:Int)=_
 unfold mS tM
 rw [if_pos (by omega),if_pos (by rw [List.length_map]; omega),Option.bind_some,Int.toNat_natCast,e]
abbrev iS (S:Nat) (z:List Int):List Rat:=z.map fun v=>Rat.divInt v (S:Nat)
def DZ (P Q:List (List Int)) (z w:List Int):List Int:=(List.range P.length).map fun k=>sG (P.getD k []) z + sG (Q.getD k []) w
theorem ints_get {n w:Nat} {X:List (List Rat)} (hX:Tw n w X) {k:Nat} (hk:k < n):X.getD k []=iS 27720 ((aW X).getD k []):=by
 have e:=EA hX
 have h2:k < (aW X).length:=by unfold aW; rw [List.length_map,hX.len]; exact hk
 have z:=getD_map (fun r:List Int=>r.map fun v=>Rat.divInt v (27720:Nat)) h2 [] []
 rw [show (aW X).map (fun r:List Int=>r.map fun v=>Rat.divInt v (27720:Nat))=X from e] at z
 exact z
theorem GJ {n m i S:Nat} {X Y:List (List Rat)} (hX:Tw n m X) (hY:Tw n i Y) (hS:0 < S) (z w:List Int):eX (cw X (iS S z)) (cw Y (iS S w))=iS (27720 * S) (DZ (aW X) (aW Y) z w):=by
 have hl:(aW X).length=n:=by unfold aW; rw [List.length_map,hX.len]
 rw [uL X Y _ _ n hX.len hY.len]
 unfold DZ iS
 rw [List.map_map,hl]
 refine List.map_congr_left fun k hk=>?_
 have hk':=List.mem_range.mp hk
 rw [ints_get hX hk',ints_get hY hk']
 have e1:=kB (D:=((27720:Nat):Int)) (E:=((S:Nat):Int)) (by decide) (by omega) ((aW X).getD k []) z
 have e2:=kB (D:=((27720:Nat):Int)) (E:=((S:Nat):Int)) (by decide) (by omega) ((aW Y).getD k []) w
 unfold iS
 rw [e1,e2]
 have hd:((27720:Nat):Int) * ((S:Nat):Int) ≠ 0:=by
  have:(0:Int) < ((27720:Nat):Int) * ((S:Nat):Int):=Int.mul_pos (by decide) (by omega)
  omega
 rw [Rat.divInt_add_divInt _ _ hd hd,<- Int.add_mul,Rat.divInt_mul_right hd]
 show _=Rat.divInt _ (((27720 * S:Nat):Nat):Int)
 rw [Int.natCast_mul]
 rfl
structure Zv (t m:Nat) (z:List Int):Prop where
 len:z.length=m
 bd:∀ v ∈ z,v.natAbs ≤ SB t
theorem ml {n w:Nat} {X:List (List Rat)} (hX:Tw n w X) {k:Nat} (hk:k < n):((aW X).getD k []).length=w /\ ∀ v ∈ (aW X).getD k [],v.natAbs ≤ 249480:=by
 have h2:k < X.length:=by rw [hX.len]; exact hk
 have e:(aW X).getD k []=(X.getD k []).map (aY 27720):=getD_map (fun r:List Rat=>r.map (aY 27720)) h2 [] []
 have hm:=AH h2
 rw [e]
 refine ⟨by rw [List.length_map,hX.bw.wd _ hm],fun v hv=>?_⟩
 obtain ⟨x,hx,rfl⟩:=List.mem_map.mp hv
 exact Nat.le_trans (Iw (hX.bw.lq _ hm x hx)) (by decide)
theorem J5 {n m i t:Nat} {X Y:List (List Rat)} (hX:Tw n m X) (hY:Tw n i Y) (hm:m ≤ 8) (hi:i ≤ 2) {z w:List Int} (hz:Zv t m z) (hw:Zv t i w):Zv (t + 1) n (DZ (aW X) (aW Y) z w):=by
 have hl:(aW X).length=n:=by unfold aW; rw [List.length_map,hX.len]
 unfold DZ
 refine ⟨by rw [List.length_map,List.length_range,hl],fun v hv=>?_⟩
 obtain ⟨k,hk,rfl⟩:=List.mem_map.mp hv
 have hk':k < n:=by rw [<- hl]; exact List.mem_range.mp hk
 obtain ⟨a1,a2⟩:=ml hX hk'
 obtain ⟨b1,b2⟩:=ml hY hk'
 have d1:=BU a2 hz.bd
 have d2:=BU b2 hw.bd
 rw [a1] at d1
 rw [b1] at d2
 have s:=Int.natAbs_add_le (sG ((aW X).getD k []) z) (sG ((aW Y).getD k []) w)
 have q:=Mq (t:=t) (n:=m + i) (by omega)
 rw [Nat.add_mul] at q
 omega
open PySem PySem.Spec PyProof.Rows L2 TM Qm Rq
abbrev Gr:List T -> Option T:=cW 14 4 (hG BO Az Ef)
def JE:FS:=(bU 12 (cm 1 [9] (aX (aH cn (ai BO (aa (iJ (aa (ae 10) aj)) aj)) (fC (.int 0)))) (ao 0) av (aH bh (ae 0) (aH cG (ae 1) (fC (.int 27720))))))
def JF:FS:=(dF 13 1 [6,8,7,12] (fq (aa (ai bY (aa (ae 6) aj)) aj)) (ao 0) av (aH cF (ai Az (aa (aH cn (ae 1) (ae 0)) (aa (ae 2) aj))) (ai Az (aa (aH cn (ae 3) (ae 0)) (aa (ae 4) aj)))))
def JG:FS:=(bU 8 (cm 1 [4,8,5,12] (fq (aa (ai bY (aa (ae 4) aj)) aj)) (ao 0) av (aH cF (ai Az (aa (aH cn (ae 1) (ae 0)) (aa (ae 2) aj))) (ai Az (aa (aH cn (ae 3) (ae 0)) (aa (ae 4) aj))))))
def JH:FS:=(bU 9 (aH bh (ae 9) (fC (.int 27720))))
def JI:FS:=(ck (cK (cM (ai Ef (aa (ae 11) (aa (ae 13) (aa (ae 9) aj)))))) (bN (fC (.bl false))) bI)
def pC:FS:=bf JE (bf JF (bf JG (bf JH JI)))
def Ml:FT:=(mZ (cK (cM (ai bj (aa (ae 3) (aa (fC (.ty "tuple")) aj))))) (mZ (eE (aH lU (ai bY (aa (ae 3) aj)) (fC (.int 2)))) (mZ (cK (cM (ai bj (aa (aH cn (ae 3) (fC (.int 0))) (aa (fC (.ty "list")) aj))))) (eE (aH lU (ai bY (aa (aH cn (ae 3) (fC (.int 0))) aj)) (ai bY (aa (ae 2) aj)))))))
def Hm:FS:=(kZ (cm 1 [] (aX (ae 0)) (ao 0) av (ai BO (aa (ae 0) aj))) (zt (aI (ao 4) (aI (ao 5) (aI (ao 6) (aI (ao 7) cD))))))
def JJ:FS:=(bU 8 (aH cn (ai BO (aa (iJ (aa (ae 1) aj)) aj)) (fC (.int 0))))
theorem D7:hG BO Az Ef=bf (ck Ml (bN (fC (.bl false))) bI) (bf Hm (bf JJ (bf (bU 9 (fC (.int 27720))) (bf (k9 (eR (aa (ae 2) (aa (aH cn (ae 3) (fC (.int 0))) aj))) (cT (aI (ao 10) (aI (ao 11) cD))) pC) (bN (ai Ef (aa (aH cn (ae 3) (fC (.int 1))) (aa (ae 8) (aa (ae 9) aj)))))))) ):=rfl
theorem IY {t:Nat} (h:t ≤ 24):DD t < B:=Nat.lt_trans (Bv h) CB
theorem Iz {v:Int} (h:v.natAbs ≤ 9 * 27720):v.natAbs < B:=Nat.lt_of_le_of_lt h (Nat.lt_trans (by decide +kernel:9 * 27720 < C) CB)
theorem MQ:(249480:Nat) < B:=Nat.lt_trans I0 CB
theorem Le {t:Nat} (h:t ≤ 20):SB t < B:=Nat.lt_trans (Bz h).1 CB
theorem HJ {m:Nat} {x:List Rat} (hl:x.length=m) (hq:∀ y ∈ x,Lq 1 9 y):Tw 1 m [x]:=⟨rfl,⟨fun r hr=>by rw [List.mem_singleton.mp hr]; exact hl,fun r hr y hy=>by rw [List.mem_singleton.mp hr] at hy; exact hq y hy⟩⟩
theorem we {m:Nat} {x:List Rat} {τ:aB} {k:Nat} (hm:m ≤ 12) (hl:x.length=m) (hq:∀ y ∈ x,Lq 1 9 y) (hv:ae k τ=some (aq x,τ)):aH cn (ai BO (aa (iJ (aa (ae k) aj)) aj)) (fC (.int 0)) τ=some (iT (x.map (aY 27720)),τ):=by
 have e:=l9 (HJ hl hq) (by decide) hm
 exact bz (a:=zT (aW [x])) (b:=.int 0) (aP [ak [x]] (eu (HD hv)) e) rfl (CC (Z:=aW [x]) (k:=0) (Nat.one_pos))
theorem GR {m t:Nat} {x:List Rat} (hl:x.length=m) (hq:∀ y ∈ x,Lq 1 9 y):Zv t m ((x.map (aY 27720)).map fun v=>v * (DD t:Nat)) /\ iS (DD (t + 1)) ((x.map (aY 27720)).map fun v=>v * (DD t:Nat))=x:=by
 constructor
 ·refine ⟨by rw [List.length_map,List.length_map,hl],fun v hv=>?_⟩
  obtain ⟨w,hw,rfl⟩:=List.mem_map.mp hv
  obtain ⟨y,hy,rfl⟩:=List.mem_map.mp hw
  have h1:=Iw (hq y hy)
  have h2:=Bx t
  rw [ki t] at h2
  rw [Int.natAbs_mul,Int.natAbs_natCast]
  have h3:=Nat.mul_le_mul_right (DD t) h1
  rw [Nat.mul_assoc] at h3
  omega
 ·unfold iS
  rw [List.map_map,List.map_map]
  refine (List.map_congr_left fun y hy=>?_).trans (List.map_id _)
  show Rat.divInt (aY 27720 y * ((DD t:Nat):Int)) ((DD (t + 1):Nat):Int)=y
  have hd:((DD t:Nat):Int) ≠ 0:=by have:=eK t; omega
  rw [ki t,Int.natCast_mul,Rat.divInt_mul_right hd]
  exact uG (L:=27720) (by decide) (KU (hq y hy)).1
section
variable {m i o:Nat} {A B C D:List (List Rat)}
abbrev m5 (x0 x1 x2 x3:Option Sl) (A B C D:List (List Rat)) (z:List Int) (S:Nat) (s10 s11 s12 s13:Option Sl):aB:=[x0,x1,x2,x3,some (.sh (zT (aW A))),some (.sh (zT (aW B))),some (.sh (zT (aW C))),some (.sh (zT (aW D))),some (.sh (iT z)),some (.sh (.int (S:Nat))),s10,s11,s12,s13]
theorem zI {n:Nat} {X Y:List (List Rat)} (hX:Tw n m X) (hY:Tw n i Y) (hm:m ≤ 8) (hi:i ≤ 2) (hn:n ≤ 12) {t:Nat} (ht:t ≤ 20) {z w:List Int} (hz:Zv t m z) (hw:Zv t i w):eQ (ao 0) av (aH cF (ai Az (aa (aH cn (ae 1) (ae 0)) (aa (ae 2) aj))) (ai Az (aa (aH cn (ae 3) (ae 0)) (aa (ae 4) aj)))) ((List.range n).map fun k:Nat=>T.int (k:Nat)) [none,some (.sh (zT (aW X))),some (.sh (iT z)),some (.sh (zT (aW Y))),some (.sh (iT w))] []=some ((DZ (aW X) (aW Y) z w).map T.int):=by
 have cb:=CB
 have sb:=Le ht
 have hlX:(aW X).length=n:=by unfold aW; rw [List.length_map,hX.len]
 have hlY:(aW Y).length=n:=by unfold aW; rw [List.length_map,hY.len]
 have h4:=MQ
 have hc:=bS (φ:=fun k:Nat=>T.int (k:Nat)) (fe:=aH cF (ai Az (aa (aH cn (ae 1) (ae 0)) (aa (ae 2) aj))) (ai Az (aa (aH cn (ae 3) (ae 0)) (aa (ae 4) aj)))) (g:=fun k=>T.int (sG ((aW X).getD k []) z + sG ((aW Y).getD k []) w)) (ρ:=[some (.sh (zT (aW X))),some (.sh (iT z)),some (.sh (zT (aW Y))),some (.sh (iT w))]) rfl (List.range n) none [] (fun k hk=>by
  have hk':=List.mem_range.mp hk
  obtain ⟨a1,a2⟩:=ml hX hk'
  obtain ⟨b1,b2⟩:=ml hY hk'
  have d1:=BX (a:=(aW X).getD k []) (b:=z) (by omega) (fun v hv=>Nat.lt_of_le_of_lt (a2 v hv) h4) (fun v hv=>Nat.lt_of_le_of_lt (hz.bd v hv) sb)
  have d2:=BX (a:=(aW Y).getD k []) (b:=w) (by omega) (fun v hv=>Nat.lt_of_le_of_lt (b2 v hv) h4) (fun v hv=>Nat.lt_of_le_of_lt (hw.bd v hv) sb)
  exact bz (g:=cF) (aP [iT ((aW X).getD k []),iT z] (iG (bz (a:=zT (aW X)) (b:=.int (k:Nat)) rfl rfl (CC (by omega))) rfl) d1) (aP [iT ((aW Y).getD k []),iT w] (iG (bz (a:=zT (aW Y)) (b:=.int (k:Nat)) rfl rfl (CC (by omega))) rfl) d2) iK) (cq (by rw [List.length_range]; exact hn))
 rw [hc,List.nil_append]
 unfold DZ
 rw [List.map_map,hlX]
 rfl
theorem Eu (h:gU m i o A B C D) (hm:m ≤ 8) (hi:i ≤ 2) (ho:o ≤ 2) (x0 x1 x2 x3:Option Sl) {t:Nat} (ht:t ≤ 19) {z:List Int} (hz:Zv t m z) {u:List Rat} (hu:u.length=i) (hq:∀ y ∈ u,Lq 1 9 y) (s12 s13:Option Sl) :
  ∃ z' s12' s13',Zv (t + 1) m z' /\ iS (DD (t + 2)) z'=eX (cw A (iS (DD (t + 1)) z)) (cw B u) /\ pC (m5 x0 x1 x2 x3 A B C D z (DD (t + 1)) (some (.sh (aq u))) (some (.sh (aq (eX (cw C (iS (DD (t + 1)) z)) (cw D u))))) s12 s13)=some (.nx (m5 x0 x1 x2 x3 A B C D z' (DD (t + 2)) (some (.sh (aq u))) (some (.sh (aq (eX (cw C (iS (DD (t + 1)) z)) (cw D u))))) s12' s13')):=by
 obtain ⟨hw,ew⟩:=GR (t:=t) hu hq
 have dv:cG (.int (DD (t + 1):Nat)) (.int 27720)=some (.int (DD t:Nat)):=by
  rw [pj (by decide) (cz (by decide) (by decide)),ki t]
  refine congrArg (fun v=>some (T.int v)) ?_
  rw [Int.natCast_mul]
  exact Int.mul_fdiv_cancel_left _ (by decide)
 have hDB:=IY (t:=t) (by omega)
 have hc1:=bS (φ:=T.int) (fe:=aH bh (ae 0) (aH cG (ae 1) (fC (.int 27720)))) (g:=fun v=>T.int (v * (DD t:Nat))) (ρ:=[some (.sh (.int (DD (t + 1):Nat)))]) rfl (u.map (aY 27720)) none [] (fun v hv=>by
  obtain ⟨y,hy,rfl⟩:=List.mem_map.mp hv
  have b1:=Iz (Iw (hq y hy))
  exact bz (g:=bh) (a:=.int (aY 27720 y)) (b:=.int (DD t:Nat)) rfl (bz (g:=cG) rfl rfl dv) (nS b1 (by rw [Int.natAbs_natCast]; exact hDB))) (cq (by rw [List.length_map]; omega))
 have e1:JE (m5 x0 x1 x2 x3 A B C D z (DD (t + 1)) (some (.sh (aq u))) (some (.sh (aq (eX (cw C (iS (DD (t + 1)) z)) (cw D u))))) s12 s13)=some (.nx (m5 x0 x1 x2 x3 A B C D z (DD (t + 1)) (some (.sh (aq u))) (some (.sh (aq (eX (cw C (iS (DD (t + 1)) z)) (cw D u))))) (some (.sh (iT ((u.map (aY 27720)).map fun v=>v * (DD t:Nat))))) s13)):=by
  have o1:=we (x:=u) (τ:=m5 x0 x1 x2 x3 A B C D z (DD (t + 1)) (some (.sh (aq u))) (some (.sh (aq (eX (cw C (iS (DD (t + 1)) z)) (cw D u))))) s12 s13) (k:=10) (by omega:i ≤ 12) hu hq rfl
  have e:=bT (no:=1) (cap:=[9]) (fg:=ao 0) (ft:=av) (Il o1) rfl rfl hc1
  rw [List.nil_append] at e
  refine gR (t:=iT ((u.map (aY 27720)).map fun v=>v * (DD t:Nat))) (τ1:=m5 x0 x1 x2 x3 A B C D z (DD (t + 1)) (some (.sh (aq u))) (some (.sh (aq (eX (cw C (iS (DD (t + 1)) z)) (cw D u))))) s12 s13) (e.trans ?_) rfl
  unfold iT
  simp only [List.map_map]
  rfl
 generalize hwz:((u.map (aY 27720)).map fun v:Int=>v * ((DD t:Nat):Int))=w at *
 have hS:0 < DD (t + 1):=eK _
 have cA:=zI h.a h.b hm hi (by omega) (by omega:t ≤ 20) hz hw
 have cC:=zI h.c h.d hm hi (by omega) (by omega:t ≤ 20) hz hw
 have oA:=GJ h.a h.b hS z w
 have oC:=GJ h.c h.d hS z w
 have vA:=J5 h.a h.b hm hi hz hw
 have vC:=J5 h.c h.d hm hi hz hw
 rw [ew,<- ki] at oA oC
 have lC:(aW C).length=o:=by unfold aW; rw [List.length_map,h.c.len]
 have lA:(aW A).length=m:=by unfold aW; rw [List.length_map,h.a.len]
 have gC:=CL (aW C)
 have gA:=CL (aW A)
 rw [lC] at gC
 rw [lA] at gA
 refine ⟨DZ (aW A) (aW B) z w,some (.sh (iT w)),some (.sh (iT (DZ (aW C) (aW D) z w))),vA,oA.symm,?_⟩
 rw [oC] at e1 ⊢
 generalize hdu:DZ (aW C) (aW D) z w=du at *
 generalize hnx:DZ (aW A) (aW B) z w=nx at *
 have e2:JF (m5 x0 x1 x2 x3 A B C D z (DD (t + 1)) (some (.sh (aq u))) (some (.sh (aq (iS (DD (t + 1 + 1)) du)))) (some (.sh (iT w))) s13)=some (.nx (m5 x0 x1 x2 x3 A B C D z (DD (t + 1)) (some (.sh (aq u))) (some (.sh (aq (iS (DD (t + 1 + 1)) du)))) (some (.sh (iT w))) (some (.own (du.map T.int))))):=nM (i:=13) (no:=1) (cap:=[6,8,7,12]) (fg:=ao 0) (ft:=av) (oK (n:=o) (aP [zT (aW C)] (eu rfl) gC) (by omega)) rfl rfl cC
 have e3:JG (m5 x0 x1 x2 x3 A B C D z (DD (t + 1)) (some (.sh (aq u))) (some (.sh (aq (iS (DD (t + 1 + 1)) du)))) (some (.sh (iT w))) (some (.own (du.map T.int))))=some (.nx (m5 x0 x1 x2 x3 A B C D nx (DD (t + 1)) (some (.sh (aq u))) (some (.sh (aq (iS (DD (t + 1 + 1)) du)))) (some (.sh (iT w))) (some (.own (du.map T.int))))):=gR (t:=iT nx) (τ1:=m5 x0 x1 x2 x3 A B C D z (DD (t + 1)) (some (.sh (aq u))) (some (.sh (aq (iS (DD (t + 1 + 1)) du)))) (some (.sh (iT w))) (some (.own (du.map T.int)))) (bT (no:=1) (cap:=[4,8,5,12]) (fg:=ao 0) (ft:=av) (oK (n:=m) (aP [zT (aW A)] (eu rfl) gA) (by omega)) rfl rfl cA) rfl
 have e4:JH (m5 x0 x1 x2 x3 A B C D nx (DD (t + 1)) (some (.sh (aq u))) (some (.sh (aq (iS (DD (t + 1 + 1)) du)))) (some (.sh (iT w))) (some (.own (du.map T.int))))=some (.nx (m5 x0 x1 x2 x3 A B C D nx (DD (t + 1 + 1)) (some (.sh (aq u))) (some (.sh (aq (iS (DD (t + 1 + 1)) du)))) (some (.sh (iT w))) (some (.own (du.map T.int))))):=by
  refine gR (t:=.int (DD (t + 1 + 1):Nat)) (τ1:=m5 x0 x1 x2 x3 A B C D nx (DD (t + 1)) (some (.sh (aq u))) (some (.sh (aq (iS (DD (t + 1 + 1)) du)))) (some (.sh (iT w))) (some (.own (du.map T.int)))) (bz (g:=bh) (a:=.int (DD (t + 1):Nat)) (b:=.int 27720) rfl rfl ?_) rfl
  rw [nS (by rw [Int.natAbs_natCast]; exact IY (by omega)) (cz (by decide) (by decide)),ki (t + 1),Int.natCast_mul,Int.mul_comm]
  rfl
 have ar:=BD (S:=DD (t + 1 + 1)) (N:=SB (t + 1)) (r:=du) (eK _) (Bv (by omega)) (Bz (by omega)).1 vC.bd
 have e5:JI (m5 x0 x1 x2 x3 A B C D nx (DD (t + 1 + 1)) (some (.sh (aq u))) (some (.sh (aq (iS (DD (t + 1 + 1)) du)))) (some (.sh (iT w))) (some (.own (du.map T.int))))=some (.nx (m5 x0 x1 x2 x3 A B C D nx (DD (t + 1 + 1)) (some (.sh (aq u))) (some (.sh (aq (iS (DD (t + 1 + 1)) du)))) (some (.sh (iT w))) (some (.sh (iT du))))):=by
  have c:=yT (g:=Ef) [aq (iS (DD (t + 1 + 1)) du),iT du,.int (DD (t + 1 + 1):Nat)] (f:=aa (ae 11) (aa (ae 13) (aa (ae 9) aj))) (ρ:=m5 x0 x1 x2 x3 A B C D nx (DD (t + 1 + 1)) (some (.sh (aq u))) (some (.sh (aq (iS (DD (t + 1 + 1)) du)))) (some (.sh (iT w))) (some (.own (du.map T.int)))) (ρ':=m5 x0 x1 x2 x3 A B C D nx (DD (t + 1 + 1)) (some (.sh (aq u))) (some (.sh (aq (iS (DD (t + 1 + 1)) du)))) (some (.sh (iT w))) (some (.sh (iT du)))) rfl ar
  refine kO (τ':=m5 x0 x1 x2 x3 A B C D nx (DD (t + 1 + 1)) (some (.sh (aq u))) (some (.sh (aq (iS (DD (t + 1 + 1)) du)))) (some (.sh (iT w))) (some (.sh (iT du)))) ?_
  unfold cK cM
  rw [c]
  rfl
 unfold pC
 rw [bF e1,bF e2,bF e3,bF e4]
 exact e5
end
open PySem PySem.Spec PyProof.Rows L2 TM Qm Rq
section
variable {m i o:Nat} {A B C D:List (List Rat)}
theorem zr (h:gU m i o A B C D) (hm:m ≤ 8) (hi:i ≤ 2) (ho:o ≤ 2) (x0 x1 x2 x3:Option Sl):∀ (us:List (List Rat)) (z:List Int) (t:Nat) (s10 s11 s12 s13:Option Sl),Us i us -> Zv t m z -> t + us.length ≤ 19 ->
  ∃ zf r10 r11 r12 r13,Zv (t + us.length) m zf /\ iS (DD (t + us.length + 1)) zf=D0 A B (iS (DD (t + 1)) z) us /\ dU (cT (aI (ao 10) (aI (ao 11) cD))) pC ((List.zip us (AY A B C D (iS (DD (t + 1)) z) us)).map fun p=>T.tup [aq p.1,aq p.2]) (m5 x0 x1 x2 x3 A B C D z (DD (t + 1)) s10 s11 s12 s13)=some (.nx (m5 x0 x1 x2 x3 A B C D zf (DD (t + us.length + 1)) r10 r11 r12 r13))
 | [],z,t,s10,s11,s12,s13,_,hz,_=>⟨z,s10,s11,s12,s13,hz,rfl,rfl⟩
 | u :: us,z,t,s10,s11,s12,s13,hu,hz,hl=>by
  rw [List.length_cons] at hl
  have hu0:=hu u List.mem_cons_self
  obtain ⟨z',s12',s13',vz,ez,e⟩:=Eu h hm hi ho x0 x1 x2 x3 (by omega:t ≤ 19) hz hu0.1 hu0.2 s12 s13
  obtain ⟨zf,r10,r11,r12,r13,g1,g2,g3⟩:=zr h hm hi ho x0 x1 x2 x3 us z' (t + 1) (some (.sh (aq u))) (some (.sh (aq (eX (cw C (iS (DD (t + 1)) z)) (cw D u))))) s12' s13' (fun v hv=>hu v (List.mem_cons_of_mem _ hv)) vz (by omega)
  rw [show t + 1 + us.length=t + (u :: us).length by rw [List.length_cons]; omega] at g1 g2 g3
  rw [show iS (DD (t + 1 + 1)) z'=eX (cw A (iS (DD (t + 1)) z)) (cw B u) from ez] at g2 g3
  refine ⟨zf,r10,r11,r12,r13,g1,g2,?_⟩
  show dU _ pC (T.tup [aq u,aq (eX (cw C (iS (DD (t + 1)) z)) (cw D u))] :: (List.zip us (AY A B C D (eX (cw A (iS (DD (t + 1)) z)) (cw B u)) us)).map fun p=>T.tup [aq p.1,aq p.2]) _=_
  rw [gu (τ1:=m5 x0 x1 x2 x3 A B C D z (DD (t + 1)) (some (.sh (aq u))) (some (.sh (aq (eX (cw C (iS (DD (t + 1)) z)) (cw D u))))) s12 s13) rfl e]
  exact g3
theorem zL:∀ (us:List (List Rat)) (x:List Rat),(AY A B C D x us).length=us.length
 | [],_=>rfl
 | u :: us,x=>by
  show (AY A B C D _ us).length + 1=us.length + 1
  rw [zL us]
set_option maxHeartbeats 100000 in
theorem Jp (h:gU m i o A B C D) (hm:m ≤ 8) (hi:i ≤ 2) (ho:o ≤ 2) {x:List Rat} {us:List (List Rat)} (hx:x.length=m) (hq:∀ y ∈ x,Lq 1 9 y) (hu:Us i us) (hl:us.length ≤ 10) :
  Gr [bo A B C D,aq x,ak us,.tup [ak (AY A B C D x us),aq (D0 A B x us)]]=some (.bl true):=by
 obtain ⟨vz,ez⟩:=GR (t:=0) hx hq
 have d0:DD 0=1:=by decide
 rw [d0] at vz ez
 have ez':((x.map (aY 27720)).map fun v:Int=>v * ((1:Nat):Int))=x.map (aY 27720):=by
  rw [List.map_map]
  refine List.map_congr_left fun y _=>?_
  show aY 27720 y * 1=_
  rw [Int.mul_one]
 rw [ez'] at vz ez
 obtain ⟨zf,r10,r11,r12,r13,g1,g2,g3⟩:=zr h hm hi ho (some (.sh (bo A B C D))) (some (.sh (aq x))) (some (.sh (ak us))) (some (.sh (.tup [ak (AY A B C D x us),aq (D0 A B x us)]))) us (x.map (aY 27720)) 0 none none none none hu vz (by omega)
 rw [Nat.zero_add us.length] at g1 g2 g3
 rw [show iS (DD (0 + 1)) (x.map (aY 27720))=x from ez] at g2 g3
 have ol:=zL (A:=A) (B:=B) (C:=C) (D:=D) us x
 have lo:=len_tab (AY A B C D x us)
 rw [ol] at lo
 have lu:=len_tab us
 generalize hO:AY A B C D x us=O1 at *
 generalize hF:D0 A B x us=F1 at *
 obtain ⟨Q,hQ⟩:∃ Q:aB,Q=[some (.sh (bo A B C D)),some (.sh (aq x)),some (.sh (ak us)),some (.sh (.tup [ak O1,aq F1])),none,none,none,none,none,none,none,none,none,none]:=⟨_,rfl⟩
 have v3:ae 3 Q=some (.tup [ak O1,aq F1],Q):=by rw [hQ]; rfl
 have v2:ae 2 Q=some (ak us,Q):=by rw [hQ]; rfl
 have i0:aH cn (ae 3) (fC (.int 0)) Q=some (ak O1,Q):=bz v3 rfl rfl
 have t1:Ml Q=some (false,Q):=by
  refine wg (vW (aP [.tup [ak O1,aq F1],.ty "tuple"] (iG v3 rfl) rfl)) (wg (yB (bz (g:=lU) (aP [.tup [ak O1,aq F1]] (eu v3) (t:=.int ((2:Nat):Nat)) rfl) rfl (pB 2))) (wg (vW (aP [ak O1,.ty "list"] (iG i0 rfl) rfl)) (yB (bz (g:=lU) (aP [ak O1] (eu i0) lo) (aP [ak us] (eu v2) lu) (pB us.length)))))
 have l12:∀ X ∈ [A,B,C,D],BO [ak X]=some (zT (aW X)):=fun X hX=>by
  rcases List.mem_cons.mp hX with rfl | hX
  ·exact l9 h.a (by omega) (by omega)
  ·rcases List.mem_cons.mp hX with rfl | hX
   ·exact l9 h.b (by omega) (by omega)
   ·rcases List.mem_cons.mp hX with rfl | hX
    ·exact l9 h.c (by omega) (by omega)
    ·rcases List.mem_cons.mp hX with rfl | hX
     ·exact l9 h.d (by omega) (by omega)
     ·cases hX
 have hc:=bS (φ:=ak) (fe:=ai BO (aa (ae 0) aj)) (g:=fun X=>zT (aW X)) (ρ:=[]) rfl [A,B,C,D] none [] (fun X hX=>aP [ak X] rfl (l12 X hX)) (cq (by simp))
 have s2:Hm Q=some (.nx [some (.sh (bo A B C D)),some (.sh (aq x)),some (.sh (ak us)),some (.sh (.tup [ak O1,aq F1])),some (.sh (zT (aW A))),some (.sh (zT (aW B))),some (.sh (zT (aW C))),some (.sh (zT (aW D))),none,none,none,none,none,none]):=by
  have ec:=bT (no:=1) (cap:=[]) (fi:=aX (ae 0)) (fg:=ao 0) (ft:=av) (τ:=Q) (ts:=[A,B,C,D].map ak) (by rw [hQ]; rfl) (by rw [hQ]; rfl) (by rw [hQ]; rfl) hc
  unfold Hm kZ
  rw [ec,hQ]
  rfl
 have s3:JJ [some (.sh (bo A B C D)),some (.sh (aq x)),some (.sh (ak us)),some (.sh (.tup [ak O1,aq F1])),some (.sh (zT (aW A))),some (.sh (zT (aW B))),some (.sh (zT (aW C))),some (.sh (zT (aW D))),none,none,none,none,none,none]=some (.nx [some (.sh (bo A B C D)),some (.sh (aq x)),some (.sh (ak us)),some (.sh (.tup [ak O1,aq F1])),some (.sh (zT (aW A))),some (.sh (zT (aW B))),some (.sh (zT (aW C))),some (.sh (zT (aW D))),some (.sh (iT (x.map (aY 27720)))),none,none,none,none,none]):=gR (we (x:=x) (k:=1) (by omega:m ≤ 12) hx hq rfl) rfl
 have s4:bU 9 (fC (.int 27720)) [some (.sh (bo A B C D)),some (.sh (aq x)),some (.sh (ak us)),some (.sh (.tup [ak O1,aq F1])),some (.sh (zT (aW A))),some (.sh (zT (aW B))),some (.sh (zT (aW C))),some (.sh (zT (aW D))),some (.sh (iT (x.map (aY 27720)))),none,none,none,none,none]=some (.nx (m5 (some (.sh (bo A B C D))) (some (.sh (aq x))) (some (.sh (ak us))) (some (.sh (.tup [ak O1,aq F1]))) A B C D (x.map (aY 27720)) (DD (0 + 1)) none none none none)):=by
  rw [show DD (0 + 1)=27720 from by decide]
  rfl
 have hz:eR (aa (ae 2) (aa (aH cn (ae 3) (fC (.int 0))) aj)) (m5 (some (.sh (bo A B C D))) (some (.sh (aq x))) (some (.sh (ak us))) (some (.sh (.tup [ak O1,aq F1]))) A B C D (x.map (aY 27720)) (DD (0 + 1)) none none none none)=some ((List.zip us O1).map fun p=>T.tup [aq p.1,aq p.2],m5 (some (.sh (bo A B C D))) (some (.sh (aq x))) (some (.sh (ak us))) (some (.sh (.tup [ak O1,aq F1]))) A B C D (x.map (aY 27720)) (DD (0 + 1)) none none none none):=by
  have e:=iG (f:=ae 2) (g:=aH cn (ae 3) (fC (.int 0))) (t:=ak us) (u:=ak O1) (τ:=m5 (some (.sh (bo A B C D))) (some (.sh (aq x))) (some (.sh (ak us))) (some (.sh (.tup [ak O1,aq F1]))) A B C D (x.map (aY 27720)) (DD (0 + 1)) none none none none) rfl (bz (a:=.tup [ak O1,aq F1]) (b:=.int 0) rfl rfl rfl)
  unfold eR
  rw [e]
  show some (iE (us.map aq) (O1.map aq),_)=_
  rw [gT]
 have ar:=BD (S:=DD (us.length + 1)) (N:=SB us.length) (r:=zf) (eK _) (Bv (by omega)) (Bz (by omega)).1 g1.bd
 rw [show (zf.map fun v=>Rat.divInt v ((DD (us.length + 1):Nat):Int))=F1 from g2] at ar
 refine eZ rfl ?_
 show hG BO Az Ef [some (.sh (bo A B C D)),some (.sh (aq x)),some (.sh (ak us)),some (.sh (.tup [ak O1,aq F1])),none,none,none,none,none,none,none,none,none,none]=_
 rw [D7,<- hQ]
 refine (bF (kO t1)).trans ?_
 refine (bF s2).trans ?_
 refine (bF s3).trans ?_
 refine (bF s4).trans ?_
 refine (bF (ve hz g3)).trans ?_
 obtain ⟨Z,hZ⟩:∃ Z:aB,Z=m5 (some (.sh (bo A B C D))) (some (.sh (aq x))) (some (.sh (ak us))) (some (.sh (.tup [ak O1,aq F1]))) A B C D zf (DD (us.length + 1)) r10 r11 r12 r13:=⟨_,rfl⟩
 rw [<- hZ]
 have w3:ae 3 Z=some (.tup [ak O1,aq F1],Z):=by rw [hZ]; rfl
 have w8:ae 8 Z=some (iT zf,Z):=by rw [hZ]; rfl
 have w9:ae 9 Z=some (.int (DD (us.length + 1):Nat),Z):=by rw [hZ]; rfl
 have w1:aH cn (ae 3) (fC (.int 1)) Z=some (aq F1,Z):=bz w3 rfl rfl
 exact jx (aP [aq F1,iT zf,.int (DD (us.length + 1):Nat)] (kC w1 w8 w9) ar)
end
open PySem PySem.Spec PyProof.Rows L2 TM Qm Rq
theorem Ee (ns:List Int):∃ ks:List Int,ks.length ≤ 10 /\ IM (.scr (ns.map T.int)) (some 3) (some 13)=some (.lst (ks.map T.int)):=by
 refine ⟨(ns.drop (min 3 ns.length)).take (min 13 ns.length - min 3 ns.length),by rw [List.length_take]; omega,?_⟩
 show some (T.lst (kU (ns.map T.int) (some ((3:Nat):Int)) (some ((13:Nat):Int))))=_
 unfold kU
 rw [HT.mE,HT.mE,List.length_map,List.map_take,List.map_drop]
def EO (c:Int) (n:Nat) (hn:n ≤ 100):List Rat:=(jd c n hn).choose
theorem vR (c:Int) (n:Nat) (hn:n ≤ 100):Bt [.int c,.int (n:Nat)]=some (aq (EO c n hn)) /\ (EO c n hn).length=n /\ ∀ x ∈ EO c n hn,Lq 1 9 x:=(jd c n hn).choose_spec
theorem yx {i no:Nat} {cap:List Nat} {fi:FA} {fg:FG} {ft:FT} {fe:FE} {τ τ1:aB} {ts us:List T} (h1:fi τ=some (ts,τ1)) (h2:frzAll cap τ1=τ1) (h3:bX (cv no cap τ1)=true) (h4:eQ fg ft fe ts (cv no cap τ1) []=some us):dF i no cap fi fg ft fe τ=some (.nx (τ1.set i (some (.own us)))):=by
 unfold dF
 rw [h1,Option.bind_some]
 dsimp only
 rw [h2,if_pos h3,h4]
 rfl
theorem m8 {α:Type} {f:α -> O}:∀ l:List α,(∀ x ∈ l,mw (f x)=true) -> jv (l.map f)=true
 | [],_=>by simp [jv]
 | x :: l,h=>by
  rw [List.map_cons,jv,h x List.mem_cons_self,m8 l fun y hy=>h y (List.mem_cons_of_mem _ hy)]
  rfl
theorem CK {r:List Rat} (h:r.length ≤ 500):mw (eV r)=true:=by
 show mw (.lst ((r.map bO).map O.val))=true
 rw [mw,m8 _ fun _ _=>by simp [mw],List.length_map,List.length_map,decide_eq_true h]
 rfl
theorem mx {m w:Nat} {A:List (List Rat)} (h:Tw m w A) (hm:m ≤ 500) (hw:w ≤ 500):mw (dG A)=true:=by
 show mw (.lst (A.map eV))=true
 rw [mw,m8 A fun r hr=>CK (by rw [h.bw.wd r hr]; exact hw),List.length_map,h.len,decide_eq_true hm]
 rfl
theorem lE {α:Type} {f:α -> T}:∀ l:List α,(∀ x ∈ l,gh (f x)=true) -> iu (l.map f)=true
 | [],_=>by simp [iu]
 | x :: l,h=>by
  rw [List.map_cons,iu,h x List.mem_cons_self,lE l fun y hy=>h y (List.mem_cons_of_mem _ hy)]
  rfl
theorem EV (x:Rat):gh (bO x)=true:=by unfold bO; simp [gh,iu]
theorem EU (r:List Rat):gh (oq r)=true:=by
 unfold oq
 rw [gh]
 exact lE r fun x _=>EV x
theorem ET (A:List (List Rat)):gh (kh A)=true:=by
 unfold kh
 rw [gh]
 exact lE A fun r _=>EU r
theorem AR (A B C D:List (List Rat)):gh (cP A B C D)=true:=by
 unfold cP
 simp only [gh,iu,ET,Bool.and_self,Bool.and_true]
section
variable {m i o:Nat} {A B C D:List (List Rat)}
def GD:gX:=(cJ 1 [] (aX (ae 2)) (ao 0) av (cJ 1 [] (aX (ae 0)) (ao 0) av (iq (ae 0))))
def zu:FE:=(zi eD G4 (aa (aH cn (ae 3) (fC (.int 0))) (aa (aH cn (ae 3) (fC (.int 1))) (aa (aH cn (ae 3) (fC (.int 2))) (aa (aH cn (ae 3) (fC (.int 3))) aj)))))
theorem El (ns:List Int) (h:gU m i o A B C D) (hm:m ≤ 8) (hi:1 ≤ i /\ i ≤ 2) (ho:1 ≤ o /\ o ≤ 2):zc 3 4 5 GD zu [some (.sh (.scr (ns.map T.int))),some (.sh (cU m i o)),some (.sh (bo A B C D)),none,none,none,none,none,none,none,none]=some (.nx [some (.sh (.scr (ns.map T.int))),some (.sh (cU m i o)),some (.sh (bo A B C D)),none,some (.sh (cP A B C D)),none,none,none,none,none,none]):=by
 have l8:=h.len8 (by omega) (by omega:o ≤ 12)
 have hc:=cR (φ:=ak) (fe:=cJ 1 [] (aX (ae 0)) (ao 0) av (iq (ae 0))) (g:=dG) (ρ:=[]) rfl [A,B,C,D] none [] (fun X hX=>by
  have hc:=cR (φ:=aq) (fe:=iq (ae 0)) (g:=eV) (ρ:=[]) rfl X none [] (fun r hr=>rfl) (kc (l8 X hX))
  exact ee (no:=1) (cap:=[]) (fi:=aX (ae 0)) (fg:=ao 0) (ft:=av) (τ:=[some (.sh (ak X))]) (ts:=X.map aq) rfl rfl rfl hc) (kc (by simp))
 have e:GD [some (.sh (.scr (ns.map T.int))),some (.sh (cU m i o)),some (.sh (bo A B C D)),none,none,none,none,none,none,none,none]=some (rF A B C D,[some (.sh (.scr (ns.map T.int))),some (.sh (cU m i o)),some (.sh (bo A B C D)),none,none,none,none,none,none,none,none]):=ee (no:=1) (cap:=[]) (fi:=aX (ae 2)) (fg:=ao 0) (ft:=av) (ts:=[A,B,C,D].map ak) rfl rfl rfl hc
 have s:=Jx h hm hi ho
 have me:zu [some (.sh (.scr (ns.map T.int))),some (.sh (cU m i o)),some (.sh (bo A B C D)),some (.sh (bo A B C D)),none,none,none,none,none,none,none]=some (cP A B C D,[some (.sh (.scr (ns.map T.int))),some (.sh (cU m i o)),some (.sh (bo A B C D)),some (.sh (bo A B C D)),none,none,none,none,none,none,none]):=by
  unfold zu zi
  rw [Au (bz (g:=cn) (a:=bo A B C D) (b:=.int 0) (t:=ak A) rfl rfl rfl) (bz (g:=cn) (a:=bo A B C D) (b:=.int 1) (t:=ak B) rfl rfl rfl) (bz (g:=cn) (a:=bo A B C D) (b:=.int 2) (t:=ak C) rfl rfl rfl) (bz (g:=cn) (a:=bo A B C D) (b:=.int 3) (t:=ak D) rfl rfl rfl),Option.bind_some,s]
  rfl
 have hL:mw (rF A B C D)=true:=by
  rw [mw,jv,jv,jv,jv,jv,mx h.a (by omega) (by omega),mx h.b (by omega) (by omega),mx h.c (by omega) (by omega),mx h.d (by omega) (by omega)]
  rfl
 unfold zc
 rw [e,Option.bind_some]
 dsimp only
 rw [if_pos ⟨⟨nP A B C D,hL,rfl⟩,rfl,rfl⟩,vf]
 show (zu [some (.sh (.scr (ns.map T.int))),some (.sh (cU m i o)),some (.sh (bo A B C D)),some (.sh (bo A B C D)),none,none,none,none,none,none,none]).bind _=_
 rw [me,Option.bind_some]
 dsimp only
 rw [if_pos (AR A B C D)]
 rfl
end
open PySem PySem.Spec PyProof.Rows L2 TM Qm Rq
theorem D4 {fa fb:FE} {τ τ':aB} (h:fa τ=some (.bl true,τ')):dQ fa fb τ=fb τ':=by
 unfold dQ
 rw [h]
 rfl
theorem D9 {d:List T -> Option (List O)} {g:FA} {τ τ':aB} {ts:List T} {os:List O} (h:g τ=some (ts,τ')) (hd:d ts=some os):mY d g τ=some (os,τ'):=by
 unfold mY
 rw [h,Option.bind_some,hd]
 rfl
theorem CG (ns:List Int):cW 11 1 (q9 eD G3 G5 G6 Ax Bt Gr G4 uW) [.scr (ns.map T.int)]=some (.bl true):=by
 obtain ⟨m,i,o,sh,hm,hi,ho⟩:=Jw ns
 obtain ⟨A,B,C,D,tb,h⟩:=Jy ns hm hi.2 ho.2
 have c2:=sI ns 2
 generalize ns.getD 2 0=c at *
 obtain ⟨x,ex,hx,hq⟩:=jd c m (by omega)
 obtain ⟨ks,hk,hks⟩:=Ee ns
 have hi100:i ≤ 100:=by omega
 have hu:Us i (ks.map fun k=>EO k i hi100):=fun u hu=>by
  obtain ⟨k,_,rfl⟩:=List.mem_map.mp hu
  exact (vR k i hi100).2
 have hcomp:=bS (φ:=T.int) (fe:=ai Bt (aa (ae 0) (aa (aH cn (ae 1) (fC (.int 1))) aj))) (g:=fun k=>aq (EO k i hi100)) (ρ:=[some (.sh (cU m i o))]) rfl ks none [] (fun k hk=>aP [.int k,.int (i:Nat)] (iG rfl (bz (a:=cU m i o) (b:=.int 1) rfl rfl rfl)) (vR k i hi100).1) (cq (by omega))
 have hul:(ks.map fun k=>EO k i hi100).length ≤ 10:=by rw [List.length_map]; exact hk
 rw [List.nil_append,show (ks.map fun k=>aq (EO k i hi100))=(ks.map fun k=>EO k i hi100).map aq from by rw [List.map_map]; rfl] at hcomp
 generalize (ks.map fun k=>EO k i hi100)=us at *
 have td:=Jz h hm hi ho
 have ru:=Jv h hm hi ho hx hq hu hul
 have gd:=Jp h hm hi.2 ho.2 hx hq hu hul
 have hand:=El ns h hm hi ho
 have hst:(D0 A B x us).length ≤ 500:=by
  have z:∀ (us:List (List Rat)) (x:List Rat),x.length=m -> (D0 A B x us).length=m:=by
   intro us
   induction us with
   | nil=>intro x hx; exact hx
   | cons u us ih =>
    intro x hx
    refine ih _ ?_
    rw [yP (by rw [kj,kj,h.a.len,h.b.len]),kj,h.a.len]
  rw [z us x hx]
  omega
 have hcp:=bS (φ:=aq) (fe:=ai dList (aa (ae 0) aj)) (g:=aq) (ρ:=[]) rfl us none [] (fun r _=>aP [aq r] rfl rfl) (cq (by omega))
 rw [List.nil_append] at hcp
 generalize hO:AY A B C D x us=O1 at *
 generalize hF:D0 A B x us=F1 at *
 have e1:bU 1 (ai G3 (aa (ae 0) aj)) [some (.sh (.scr (ns.map T.int))),none,none,none,none,none,none,none,none,none,none]=some (.nx [some (.sh (.scr (ns.map T.int))),some (.sh (cU m i o)),none,none,none,none,none,none,none,none,none]):=gR (aP [.scr (ns.map T.int)] (eu rfl) sh) rfl
 have e2:bU 2 (ai G5 (aa (ae 0) (aa (ae 1) aj))) [some (.sh (.scr (ns.map T.int))),some (.sh (cU m i o)),none,none,none,none,none,none,none,none,none]=some (.nx [some (.sh (.scr (ns.map T.int))),some (.sh (cU m i o)),some (.sh (bo A B C D)),none,none,none,none,none,none,none,none]):=gR (aP [.scr (ns.map T.int),cU m i o] (iG rfl rfl) tb) rfl
 have e4:ck (cK (cM (ai G6 (aa (ae 4) (aa (ae 1) (aa (ae 2) aj)))))) (bN (fC (.bl false))) bI [some (.sh (.scr (ns.map T.int))),some (.sh (cU m i o)),some (.sh (bo A B C D)),none,some (.sh (cP A B C D)),none,none,none,none,none,none]=some (.nx [some (.sh (.scr (ns.map T.int))),some (.sh (cU m i o)),some (.sh (bo A B C D)),none,some (.sh (cP A B C D)),none,none,none,none,none,none]):=kO (vW (aP [cP A B C D,cU m i o,bo A B C D] (kC rfl rfl rfl) td))
 have e5:bU 6 (ai Bt (aa (ai Ax (aa (ae 0) (aa (fC (.int 2)) aj))) (aa (aH cn (ae 1) (fC (.int 0))) aj))) [some (.sh (.scr (ns.map T.int))),some (.sh (cU m i o)),some (.sh (bo A B C D)),none,some (.sh (cP A B C D)),none,none,none,none,none,none]=some (.nx [some (.sh (.scr (ns.map T.int))),some (.sh (cU m i o)),some (.sh (bo A B C D)),none,some (.sh (cP A B C D)),none,some (.sh (aq x)),none,none,none,none]):=gR (aP [.int c,.int (m:Nat)] (iG (aP _ (iG rfl rfl) c2) (bz (a:=cU m i o) (b:=.int 0) rfl rfl rfl)) ex) rfl
 have a6:DX (ae 0) (gc (fC (.int 3))) (gc (fC (.int 13))) [some (.sh (.scr (ns.map T.int))),some (.sh (cU m i o)),some (.sh (bo A B C D)),none,some (.sh (cP A B C D)),none,some (.sh (aq x)),none,none,none,none]=some (.lst (ks.map T.int),[some (.sh (.scr (ns.map T.int))),some (.sh (cU m i o)),some (.sh (bo A B C D)),none,some (.sh (cP A B C D)),none,some (.sh (aq x)),none,none,none,none]):=FL rfl (lG rfl) (lG rfl) hks
 have e6:=nM (i:=7) (no:=1) (cap:=[1]) (fg:=ao 0) (ft:=av) (Il a6) rfl rfl hcomp
 have e7:dF 8 1 [] (aX (ae 7)) (ao 0) av (ai dList (aa (ae 0) aj)) [some (.sh (.scr (ns.map T.int))),some (.sh (cU m i o)),some (.sh (bo A B C D)),none,some (.sh (cP A B C D)),none,some (.sh (aq x)),some (.own (us.map aq)),none,none,none]=some (.nx [some (.sh (.scr (ns.map T.int))),some (.sh (cU m i o)),some (.sh (bo A B C D)),none,some (.sh (cP A B C D)),none,some (.sh (aq x)),some (.sh (ak us)),some (.own (us.map aq)),none,none]):=yx (τ1:=[some (.sh (.scr (ns.map T.int))),some (.sh (cU m i o)),some (.sh (bo A B C D)),none,some (.sh (cP A B C D)),none,some (.sh (aq x)),some (.sh (ak us)),none,none,none]) (ts:=us.map aq) rfl rfl rfl hcp
 have e8:bU 9 (ai dList (aa (ae 6) aj)) [some (.sh (.scr (ns.map T.int))),some (.sh (cU m i o)),some (.sh (bo A B C D)),none,some (.sh (cP A B C D)),none,some (.sh (aq x)),some (.sh (ak us)),some (.own (us.map aq)),none,none]=some (.nx [some (.sh (.scr (ns.map T.int))),some (.sh (cU m i o)),some (.sh (bo A B C D)),none,some (.sh (cP A B C D)),none,some (.sh (aq x)),some (.sh (ak us)),some (.own (us.map aq)),some (.sh (aq x)),none]):=gR (aP [aq x] (eu rfl) rfl) rfl
 obtain ⟨Z,hZ⟩:∃ Z:aB,Z=[some (.sh (.scr (ns.map T.int))),some (.sh (cU m i o)),some (.sh (bo A B C D)),none,some (.sh (cP A B C D)),none,some (.sh (aq x)),some (.sh (ak us)),some (.sh (ak us)),some (.sh (aq x)),none]:=⟨_,rfl⟩
 have e9:zl 10 (mY uW (aa (ae 4) (aa (ae 9) (aa (ae 8) aj)))) (cK (cM (ai Gr (aa (ae 2) (aa (ae 6) (aa (ae 7) (aa (ae 10) aj))))))) [some (.sh (.scr (ns.map T.int))),some (.sh (cU m i o)),some (.sh (bo A B C D)),none,some (.sh (cP A B C D)),none,some (.sh (aq x)),some (.sh (ak us)),some (.own (us.map aq)),some (.sh (aq x)),none]=some (.nx Z):=by
  have g1:mY uW (aa (ae 4) (aa (ae 9) (aa (ae 8) aj))) [some (.sh (.scr (ns.map T.int))),some (.sh (cU m i o)),some (.sh (bo A B C D)),none,some (.sh (cP A B C D)),none,some (.sh (aq x)),some (.sh (ak us)),some (.own (us.map aq)),some (.sh (aq x)),none]=some ([.val (ak O1),eV F1],Z):=D9 (ts:=[cP A B C D,aq x,ak us]) (by rw [hZ]; rfl) ru
  have g2:cK (cM (ai Gr (aa (ae 2) (aa (ae 6) (aa (ae 7) (aa (ae 10) aj)))))) [some (.sh (.scr (ns.map T.int))),some (.sh (cU m i o)),some (.sh (bo A B C D)),none,some (.sh (cP A B C D)),none,some (.sh (aq x)),some (.sh (ak us)),some (.sh (ak us)),some (.sh (aq x)),some (.sh (.tup [ak O1,aq F1]))]=some (false,_):=vW (aP [bo A B C D,aq x,ak us,.tup [ak O1,aq F1]] (Au rfl rfl rfl rfl) gd)
  have ht:jL [.val (ak O1),eV F1]=true:=by
   show decide (((F1.map bO).map O.val).length ≤ 500)=true
   rw [List.length_map,List.length_map]
   exact decide_eq_true hst
  unfold zl
  rw [g1,Option.bind_some]
  dsimp only
  rw [if_pos ⟨ht,by rw [hZ]; rfl⟩]
  have et:(hide Z).set 10 (some (.sh (.tup (O.trs [.val (ak O1),eV F1]))))=[some (.sh (.scr (ns.map T.int))),some (.sh (cU m i o)),some (.sh (bo A B C D)),none,some (.sh (cP A B C D)),none,some (.sh (aq x)),some (.sh (ak us)),some (.sh (ak us)),some (.sh (aq x)),some (.sh (.tup [ak O1,aq F1]))]:=by
   rw [hZ,show O.trs [.val (ak O1),eV F1]=[ak O1,(eV F1).tr] from rfl,ur]
   rfl
  rw [et,g2,Option.bind_some]
  dsimp only
  rw [if_neg (by decide),hZ]
  rfl
 have v6:ae 6 Z=some (aq x,Z):=by rw [hZ]; rfl
 have v7:ae 7 Z=some (ak us,Z):=by rw [hZ]; rfl
 have v8:ae 8 Z=some (ak us,Z):=by rw [hZ]; rfl
 have v9:ae 9 Z=some (aq x,Z):=by rw [hZ]; rfl
 refine eZ rfl ?_
 show q9 eD G3 G5 G6 Ax Bt Gr G4 uW [some (.sh (.scr (ns.map T.int))),none,none,none,none,none,none,none,none,none,none]=_
 unfold q9
 refine (bF e1).trans ?_
 refine (bF e2).trans ?_
 refine (bF hand).trans ?_
 refine (bF e4).trans ?_
 refine (bF e5).trans ?_
 refine (bF e6).trans ?_
 refine (bF e7).trans ?_
 refine (bF e8).trans ?_
 refine (bF e9).trans ?_
 exact jx ((D4 (bz (g:=jJ) v8 v7 (cmp_self (neg:=false) (mJ us) (by decide)))).trans (bz (g:=jJ) v9 v6 (cmp_self (neg:=false) (zX x) (by decide))))
theorem xW (ns:List Int) (_:ns.length ≤ 63):cW 11 1 (q9 eD G3 G5 G6 Ax Bt Gr G4 uW) [.scr (ns.map T.int)]=some (.bl true):=CG ns
open PySem PySem.Spec PyProof.Rows L2 TM
theorem m7 {α:Type} {us:List α} (h:us.length=1):∃ a,us=[a]:=List.length_eq_one_iff.mp h
theorem iM {α:Type} {us:List α} (h:us.length=2):∃ a b,us=[a,b]:=by
 rcases us with _ | ⟨a,us⟩
 ·cases h
 ·obtain ⟨b,rfl⟩:=m7 (us:=us) (by simpa using h)
  exact ⟨a,b,rfl⟩
theorem vJ {α:Type} {us:List α} (h:us.length=3):∃ a b c,us=[a,b,c]:=by
 rcases us with _ | ⟨a,us⟩
 ·cases h
 ·obtain ⟨b,c,rfl⟩:=iM (us:=us) (by simpa using h)
  exact ⟨a,b,c,rfl⟩
theorem CJ {α:Type} {us:List α} (h:us.length=4):∃ a b c d,us=[a,b,c,d]:=by
 rcases us with _ | ⟨a,us⟩
 ·cases h
 ·obtain ⟨b,c,d,rfl⟩:=vJ (us:=us) (by simpa using h)
  exact ⟨a,b,c,d,rfl⟩
theorem LG {α:Type} {us:List α} (h:us.length=5):∃ a b c d e,us=[a,b,c,d,e]:=by
 rcases us with _ | ⟨a,us⟩
 ·cases h
 ·obtain ⟨b,c,d,e,rfl⟩:=CJ (us:=us) (by simpa using h)
  exact ⟨a,b,c,d,e,rfl⟩
def fo (s:Stmt) (nm qn:Str) (pm:Value) (c:Addr):Obj:=⟨.type "function", none,.func (PySem.W.fnOf nm qn (jc s) (dy s) (ax s) .none .none .none pm none (.ref c) .none),#[]⟩
theorem fk {K:PySem.W.Frag} (st:Stmt) (f c:Addr) (nm qn:Str) (pm:Value) (l:K.lookup f=some (fo st nm qn pm c)) (h:PySem.W.codeIn K (.ref c) qn=true):fG K nm qn st f (PySem.W.fnOf nm qn (jc st) (dy st) (ax st) .none .none .none pm none (.ref c) .none):=Hi l h (by unfold PySem.W.keepIn; dsimp only; rw [l]; rfl)
abbrev Jl:List T -> Option T:=(cW 11 1 (q9 319 (G3) (G5) (G6) (Ax) (Bt) (Gr) (G4) (uW)))
set_option maxHeartbeats 0 in
theorem all_mk {w:World} {h:Heap} {mg:Str -> Option Value} {fa:Addr} (X:(kk w.params).In h) (G:h.Ns mainGlobals mg) (hfa:mg "law" = some (.ref fa)) :
  ∃ fd:FuncData,(∀ (s:Shared) (v:Value),BindsTo s fd ⟨[v],[]⟩ [("_law_script", v)]) /\ ∀ base:Heap,(kk w.params).In base -> base.Ns mainGlobals mg -> fI pg w (kk w.params) mg base mP 8 fa fd ["_law_script"] (spT (kk w.params) 1 Jl):=by
 have mq:∀ (x:Str) (v:Value),PySem.W.nsIn (kk w.params) mainGlobals x=some (some v) -> mg x=some v:=fun x v e=>PySem.W.mg_of X G e
 have mn:∀ x:Str,PySem.W.nsIn (kk w.params) mainGlobals x=some none -> mg x=none:=fun x e=>PySem.W.mg_none_of X G e
 have e:=hfa.symm.trans (mq "law" (.ref 435) (by kernel_rfl))
 cases e
 have a0:=fk (K:=kk w.params) jQ 344 343 "_law_cell" "_law_cell" kE (by kernel_rfl) (by kernel_rfl)
 have b0:=a0.binds (ps:=["_law_script", "_law_k"]) fun _ _ _ _ _ _ us hl=>by obtain ⟨a,b,rfl⟩:=iM hl; rfl
 have c0:=mq "_law_cell" (.ref 344) (by kernel_rfl)
 have d0:=fk (K:=kk w.params) jk 413 412 "_law_shape" "_law_shape" kE (by kernel_rfl) (by kernel_rfl)
 have e0:=d0.binds (ps:=["_law_script"]) fun _ _ _ _ _ _ us hl=>by obtain ⟨a,rfl⟩:=m7 hl; rfl
 have f0:=mq "_law_shape" (.ref 413) (by kernel_rfl)
 have g0:=fk (K:=kk w.params) gJ 358 357 "_law_divisor" "_law_divisor" kE (by kernel_rfl) (by kernel_rfl)
 have i0:=g0.binds (ps:=["_law_one", "_law_other"]) fun _ _ _ _ _ _ us hl=>by obtain ⟨a,b,rfl⟩:=iM hl; rfl
 have j0:=mq "_law_divisor" (.ref 358) (by kernel_rfl)
 have k0:=fk (K:=kk w.params) jS 365 364 "_law_frac" "_law_frac" kE (by kernel_rfl) (by kernel_rfl)
 have l0:=k0.binds (ps:=["_law_top", "_law_bottom"]) fun _ _ _ _ _ _ us hl=>by obtain ⟨a,b,rfl⟩:=iM hl; rfl
 have o0:=mq "_law_frac" (.ref 365) (by kernel_rfl)
 have q0:=fk (K:=kk w.params) jj 351 350 "_law_mixed" "_law_mixed" kE (by kernel_rfl) (by kernel_rfl)
 have r0:=q0.binds (ps:=["_law_cell_here", "_law_k"]) fun _ _ _ _ _ _ us hl=>by obtain ⟨a,b,rfl⟩:=iM hl; rfl
 have s0:=mq "_law_mixed" (.ref 351) (by kernel_rfl)
 have t0:=fk (K:=kk w.params) gK 372 371 "_law_numbers" "_law_numbers" kE (by kernel_rfl) (by kernel_rfl)
 have u0:=t0.binds (ps:=["_law_cell_here", "_law_many"]) fun _ _ _ _ _ _ us hl=>by obtain ⟨a,b,rfl⟩:=iM hl; rfl
 have v0:=mq "_law_numbers" (.ref 372) (by kernel_rfl)
 have y0:=fk (K:=kk w.params) jV 377 376 "_law_rows" "_law_rows" kE (by kernel_rfl) (by kernel_rfl)
 have z0:=y0.binds (ps:=["_law_numbers_here", "_law_many", "_law_wide"]) fun _ _ _ _ _ _ us hl=>by obtain ⟨a,b,c,rfl⟩:=vJ hl; rfl
 have a1:=mq "_law_rows" (.ref 377) (by kernel_rfl)
 have b1:=fk (K:=kk w.params) jR 384 383 "_law_four" "_law_four" kE (by kernel_rfl) (by kernel_rfl)
 have c1:=b1.binds (ps:=["_law_cell_here", "_law_many", "_law_ins", "_law_outs"]) fun _ _ _ _ _ _ us hl=>by obtain ⟨a,b,c,d,rfl⟩:=CJ hl; rfl
 have d1:=mq "_law_four" (.ref 384) (by kernel_rfl)
 have e1:=fk (K:=kk w.params) iy 420 419 "_law_tables" "_law_tables" kE (by kernel_rfl) (by kernel_rfl)
 have f1:=e1.binds (ps:=["_law_script", "_law_shape_here"]) fun _ _ _ _ _ _ us hl=>by obtain ⟨a,b,rfl⟩:=iM hl; rfl
 have g1:=mq "_law_tables" (.ref 420) (by kernel_rfl)
 have i1:=fk (K:=kk w.params) fZ 290 289 "cells" "System.cells" wX (by kernel_rfl) (by kernel_rfl)
 have j1:=i1.binds (ps:=["self"]) fun _ _ _ _ _ _ us hl=>by obtain ⟨a,rfl⟩:=m7 hl; rfl
 have k1:=fk (K:=kk w.params) iw 297 296 "ins" "System.ins" wX (by kernel_rfl) (by kernel_rfl)
 have l1:=k1.binds (ps:=["self"]) fun _ _ _ _ _ _ us hl=>by obtain ⟨a,rfl⟩:=m7 hl; rfl
 have o1:=fk (K:=kk w.params) gG 304 303 "outs" "System.outs" wX (by kernel_rfl) (by kernel_rfl)
 have q1:=o1.binds (ps:=["self"]) fun _ _ _ _ _ _ us hl=>by obtain ⟨a,rfl⟩:=m7 hl; rfl
 have r1:=fk (K:=kk w.params) fP 309 308 "tables" "System.tables" wX (by kernel_rfl) (by kernel_rfl)
 have s1:=r1.binds (ps:=["self"]) fun _ _ _ _ _ _ us hl=>by obtain ⟨a,rfl⟩:=m7 hl; rfl
 have t1:=fk (K:=kk w.params) gH 316 315 "told" "System.told" wX (by kernel_rfl) (by kernel_rfl)
 have u1:=t1.binds (ps:=["self"]) fun _ _ _ _ _ _ us hl=>by obtain ⟨a,rfl⟩:=m7 hl; rfl
 have v1:=fk (K:=kk w.params) jW 425 424 "_law_told" "_law_told" kE (by kernel_rfl) (by kernel_rfl)
 have y1:=v1.binds (ps:=["_law_system", "_law_shape_here", "_law_four_here"]) fun _ _ _ _ _ _ us hl=>by obtain ⟨a,b,c,rfl⟩:=vJ hl; rfl
 have z1:=mq "_law_told" (.ref 425) (by kernel_rfl)
 have a2:=fk (K:=kk w.params) jU 389 388 "_law_ints" "_law_ints" kE (by kernel_rfl) (by kernel_rfl)
 have b2:=a2.binds (ps:=["_law_table"]) fun _ _ _ _ _ _ us hl=>by obtain ⟨a,rfl⟩:=m7 hl; rfl
 have c2:=mq "_law_ints" (.ref 389) (by kernel_rfl)
 have d2:=fk (K:=kk w.params) lM 394 393 "_law_dot" "_law_dot" kE (by kernel_rfl) (by kernel_rfl)
 have e2:=d2.binds (ps:=["_law_row", "_law_other"]) fun _ _ _ _ _ _ us hl=>by obtain ⟨a,b,rfl⟩:=iM hl; rfl
 have f2:=mq "_law_dot" (.ref 394) (by kernel_rfl)
 have g2:=fk (K:=kk w.params) nk 399 398 "_law_is" "_law_is" kE (by kernel_rfl) (by kernel_rfl)
 have i2:=g2.binds (ps:=["_law_found", "_law_value", "_law_scale"]) fun _ _ _ _ _ _ us hl=>by obtain ⟨a,b,c,rfl⟩:=vJ hl; rfl
 have j2:=mq "_law_is" (.ref 399) (by kernel_rfl)
 have k2:=fk (K:=kk w.params) lL 406 405 "_law_are" "_law_are" kE (by kernel_rfl) (by kernel_rfl)
 have l2:=k2.binds (ps:=["_law_found", "_law_values", "_law_scale"]) fun _ _ _ _ _ _ us hl=>by obtain ⟨a,b,c,rfl⟩:=vJ hl; rfl
 have o2:=mq "_law_are" (.ref 406) (by kernel_rfl)
 have q2:=fk (K:=kk w.params) jT 430 429 "_law_good" "_law_good" kE (by kernel_rfl) (by kernel_rfl)
 have r2:=q2.binds (ps:=["_law_four_here", "_law_start", "_law_inputs", "_law_told_here"]) fun _ _ _ _ _ _ us hl=>by obtain ⟨a,b,c,d,rfl⟩:=CJ hl; rfl
 have s2:=mq "_law_good" (.ref 430) (by kernel_rfl)
 have t2:=fk (K:=kk w.params) lO 179 178 "is_whole" "is_whole" DY (by kernel_rfl) (by kernel_rfl)
 have u2:=t2.binds (ps:=["thing"]) fun _ _ _ _ _ _ us hl=>by obtain ⟨a,rfl⟩:=m7 hl; rfl
 have v2:=mq "is_whole" (.ref 179) (by kernel_rfl)
 have y2:=fk (K:=kk w.params) Ij 131 130 "half" "half" KZ (by kernel_rfl) (by kernel_rfl)
 have z2:=y2.binds (ps:=["one", "other"]) fun _ _ _ _ _ _ us hl=>by obtain ⟨a,b,rfl⟩:=iM hl; rfl
 have a3:=mq "half" (.ref 131) (by kernel_rfl)
 have b3:=fk (K:=kk w.params) pX 124 123 "common" "common" KZ (by kernel_rfl) (by kernel_rfl)
 have c3:=b3.binds (ps:=["one", "other"]) fun _ _ _ _ _ _ us hl=>by obtain ⟨a,b,rfl⟩:=iM hl; rfl
 have d3:=mq "common" (.ref 124) (by kernel_rfl)
 have e3:=fk (K:=kk w.params) iz 186 185 "is_fraction" "is_fraction" DY (by kernel_rfl) (by kernel_rfl)
 have f3:=e3.binds (ps:=["thing"]) fun _ _ _ _ _ _ us hl=>by obtain ⟨a,rfl⟩:=m7 hl; rfl
 have g3:=mq "is_fraction" (.ref 186) (by kernel_rfl)
 have i3:=fk (K:=kk w.params) pY 212 211 "is_row" "is_row" qD (by kernel_rfl) (by kernel_rfl)
 have j3:=i3.binds (ps:=["thing", "many"]) fun _ _ _ _ _ _ us hl=>by obtain ⟨a,b,rfl⟩:=iM hl; rfl
 have k3:=mq "is_row" (.ref 212) (by kernel_rfl)
 have l3:=fk (K:=kk w.params) lN 217 216 "is_table" "is_table" qD (by kernel_rfl) (by kernel_rfl)
 have o3:=l3.binds (ps:=["thing", "many", "wide"]) fun _ _ _ _ _ _ us hl=>by obtain ⟨a,b,c,rfl⟩:=vJ hl; rfl
 have q3:=mq "is_table" (.ref 217) (by kernel_rfl)
 have r3:=fk (K:=kk w.params) jX 330 329 "is_system" "is_system" wX (by kernel_rfl) (by kernel_rfl)
 have s3:=r3.binds (ps:=["move", "push", "look", "through"]) fun _ _ _ _ _ _ us hl=>by obtain ⟨a,b,c,d,rfl⟩:=CJ hl; rfl
 have t3:=mq "is_system" (.ref 330) (by kernel_rfl)
 have u3:=fk (K:=kk w.params) eO 283 282 "__init__" "System.__init__" wX (by kernel_rfl) (by kernel_rfl)
 have v3:=u3.binds (ps:=["self", "move", "push", "look", "through"]) fun _ _ _ _ _ _ us hl=>by obtain ⟨a,b,c,d,e,rfl⟩:=LG hl; rfl
 have y3:=fk (K:=kk w.params) jl 271 270 "refuse_run" "refuse_run" md5 (by kernel_rfl) (by kernel_rfl)
 have z3:=y3.binds (ps:=["cells", "ins", "start", "inputs"]) fun _ _ _ _ _ _ us hl=>by obtain ⟨a,b,c,d,rfl⟩:=CJ hl; rfl
 have a4:=mq "refuse_run" (.ref 271) (by kernel_rfl)
 have b4:=fk (K:=kk w.params) nv 266 265 "widened" "widened" qD (by kernel_rfl) (by kernel_rfl)
 have c4:=b4.binds (ps:=["one", "other"]) fun _ _ _ _ _ _ us hl=>by obtain ⟨a,b,rfl⟩:=iM hl; rfl
 have d4:=mq "widened" (.ref 266) (by kernel_rfl)
 have e4:=fk (K:=kk w.params) gb 251 250 "shared_bottom" "shared_bottom" qD (by kernel_rfl) (by kernel_rfl)
 have f4:=e4.binds (ps:=["row"]) fun _ _ _ _ _ _ us hl=>by obtain ⟨a,rfl⟩:=m7 hl; rfl
 have g4:=mq "shared_bottom" (.ref 251) (by kernel_rfl)
 have i4:=fk (K:=kk w.params) p7 256 255 "raised" "raised" qD (by kernel_rfl) (by kernel_rfl)
 have j4:=i4.binds (ps:=["row", "low"]) fun _ _ _ _ _ _ us hl=>by obtain ⟨a,b,rfl⟩:=iM hl; rfl
 have k4:=mq "raised" (.ref 256) (by kernel_rfl)
 have l4:=fk (K:=kk w.params) pZ 239 238 "lifted" "lifted" qD (by kernel_rfl) (by kernel_rfl)
 have o4:=l4.binds (ps:=["row"]) fun _ _ _ _ _ _ us hl=>by obtain ⟨a,rfl⟩:=m7 hl; rfl
 have q4:=mq "lifted" (.ref 239) (by kernel_rfl)
 have r4:=fk (K:=kk w.params) p8 261 260 "turned" "turned" qD (by kernel_rfl) (by kernel_rfl)
 have s4:=r4.binds (ps:=["table", "wide"]) fun _ _ _ _ _ _ us hl=>by obtain ⟨a,b,rfl⟩:=iM hl; rfl
 have t4:=mq "turned" (.ref 261) (by kernel_rfl)
 have u4:=fk (K:=kk w.params) uv 207 206 "times" "times" DY (by kernel_rfl) (by kernel_rfl)
 have v4:=u4.binds (ps:=["one", "other"]) fun _ _ _ _ _ _ us hl=>by obtain ⟨a,b,rfl⟩:=iM hl; rfl
 have y4:=mq "times" (.ref 207) (by kernel_rfl)
 have z4:=fk (K:=kk w.params) yq 200 199 "plus" "plus" DY (by kernel_rfl) (by kernel_rfl)
 have a5:=z4.binds (ps:=["one", "other"]) fun _ _ _ _ _ _ us hl=>by obtain ⟨a,b,rfl⟩:=iM hl; rfl
 have b5:=mq "plus" (.ref 200) (by kernel_rfl)
 have c5:=fk (K:=kk w.params) nt 224 223 "weighed" "weighed" qD (by kernel_rfl) (by kernel_rfl)
 have d5:=c5.binds (ps:=["one", "other"]) fun _ _ _ _ _ _ us hl=>by obtain ⟨a,b,rfl⟩:=iM hl; rfl
 have e5:=mq "weighed" (.ref 224) (by kernel_rfl)
 have f5:=fk (K:=kk w.params) yo 193 192 "frac" "frac" DY (by kernel_rfl) (by kernel_rfl)
 have g5:=f5.binds (ps:=["top", "bottom"]) fun _ _ _ _ _ _ us hl=>by obtain ⟨a,b,rfl⟩:=iM hl; rfl
 have i5:=mq "frac" (.ref 193) (by kernel_rfl)
 have j5:=fk (K:=kk w.params) fQ 244 243 "weighed_lifted" "weighed_lifted" qD (by kernel_rfl) (by kernel_rfl)
 have k5:=j5.binds (ps:=["one", "other"]) fun _ _ _ _ _ _ us hl=>by obtain ⟨a,b,rfl⟩:=iM hl; rfl
 have l5:=mq "weighed_lifted" (.ref 244) (by kernel_rfl)
 have o5:=fk (K:=kk w.params) nr 234 233 "product" "product" qD (by kernel_rfl) (by kernel_rfl)
 have q5:=o5.binds (ps:=["one", "other", "wide"]) fun _ _ _ _ _ _ us hl=>by obtain ⟨a,b,c,rfl⟩:=vJ hl; rfl
 have r5:=mq "product" (.ref 234) (by kernel_rfl)
 have s5:=fk (K:=kk w.params) nq 229 228 "applied" "applied" qD (by kernel_rfl) (by kernel_rfl)
 have t5:=s5.binds (ps:=["table", "row"]) fun _ _ _ _ _ _ us hl=>by obtain ⟨a,b,rfl⟩:=iM hl; rfl
 have u5:=mq "applied" (.ref 229) (by kernel_rfl)
 have v5:=fk (K:=kk w.params) Dy 337 336 "run" "run" wX (by kernel_rfl) (by kernel_rfl)
 have y5:=v5.binds (ps:=["system", "start", "inputs"]) fun _ _ _ _ _ _ us hl=>by obtain ⟨a,b,c,rfl⟩:=vJ hl; rfl
 have z5:=mq "run" (.ref 337) (by kernel_rfl)
 have a6:=fk (K:=kk w.params) rQ 435 434 "law" "law" kE (by kernel_rfl) (by kernel_rfl)
 have b6:=a6.binds (ps:=["_law_script"]) fun _ _ _ _ _ _ us hl=>by obtain ⟨a,rfl⟩:=m7 hl; rfl
 have c6:=mq "law" (.ref 435) (by kernel_rfl)
 have d6:lV (kk w.params) 319:=⟨by kernel_rfl,by kernel_rfl,by kernel_rfl,by kernel_rfl⟩
 have e6:=mq "System" (.ref 319) (by kernel_rfl)
 have f6:∀ C ∈ ([319]:List Addr),lV (kk w.params) C /\ eL (kk w.params) C "four" := (List.forall_mem_cons.mpr ⟨⟨d6,(by kernel_rfl:PySem.W.findIn (kk w.params) (.ref 319) "four" = some none)⟩,(fun _ h=>absurd h List.not_mem_nil)⟩)
 have g6:=mn "len" (by kernel_rfl)
 have i6:=mn "abs" (by kernel_rfl)
 have j6:=mn "range" (by kernel_rfl)
 have k6:=mn "enumerate" (by kernel_rfl)
 have l6:=mn "list" (by kernel_rfl)
 have o6:=mn "tuple" (by kernel_rfl)
 have q6:=mn "zip" (by kernel_rfl)
 have r6:=mn "sum" (by kernel_rfl)
 have s6:=mn "isinstance" (by kernel_rfl)
 have t6:=mn "int" (by kernel_rfl)
 have u6:=mn "bool" (by kernel_rfl)
 have v6:=mn "all" (by kernel_rfl)
 have y6:=mn "max" (by kernel_rfl)
 have z6:=mq "SHORT" (.int (4000) 315) (by kernel_rfl)
 have a7:=mq "MOST_LINES" (.int (2) 559) (by kernel_rfl)
 have b7:=mq "MOST_CELLS" (.int (8) 557) (by kernel_rfl)
 have c7:=mq "MOST_TURNS" (.int (60) 547) (by kernel_rfl)
 have d7:=mq "NOUGHT" (.ref 172) (by kernel_rfl)
 have e7:(kk w.params).lookup 172=some ⟨.type "tuple", none,.seq #[.int (0) 419,.int (1) 420] 0,#[]⟩:=by kernel_rfl
 have f7:=mq "SHORT_QUOTIENT" (.int (8000) 319) (by kernel_rfl)
 refine ⟨PySem.W.fnOf "law" "law" (jc rQ) (dy rQ) (ax rQ) .none .none .none kE none (.ref 434) .none,fun s v=>.of_eq rfl,fun base _ _=>?_⟩
 have g7:Def pg w (kk w.params) mg base 1 "_law_cell" 2 (Ax):=ua a0 b0 c0  g6
 have i7:Def pg w (kk w.params) mg base 2 "_law_shape" 1 (G3):=qU d0 e0 f0 (g7.mono (by decide)) 
 have j7:Def pg w (kk w.params) mg base 1 "_law_divisor" 2 (cZ):=(oi (P:=pg) (w:=w) (base:=base) (k:=0) B g0 i0 j0  i6).imp qi
 have k7:Def pg w (kk w.params) mg base 2 "_law_frac" 2 (EH):=(ub (P:=pg) (w:=w) (base:=base) (k:=1) k0 l0 o0 (j7.mono (by decide)) ).imp wI
 have l7:Def pg w (kk w.params) mg base 1 "_law_mixed" 2 (Gu):=qT q0 r0 s0  
 have o7:Def pg w (kk w.params) mg base 3 "_law_numbers" 2 (Bt):=oj t0 u0 v0 (k7.mono (by decide)) (l7.mono (by decide)) j6
 have q7:gB pg w (kk w.params) mg base 1 "_law_rows" 3 (AA):=qS (P:=pg) (w:=w) (base:=base) (k:=0) y0 z0 a1  j6
 have r7:gB pg w (kk w.params) mg base 4 "_law_four" 4 (BL):=qR (P:=pg) (w:=w) (base:=base) (k:=3) b1 c1 d1 (o7.mono (by decide)) (q7.mono (by decide)) 
 have s7:Def pg w (kk w.params) mg base 5 "_law_tables" 2 (G5):=pS e1 f1 g1 (g7.mono (by decide)) (r7.mono (by decide)) k6 l6 i6
 have t7:fX pg w (kk w.params) mg base 1 319 "cells" 1 (Eg):=mB i1 j1 d6 ⟨by kernel_rfl,by kernel_rfl,by kernel_rfl⟩ f6 g6
 have u7:fX pg w (kk w.params) mg base 1 319 "ins" 1 (Eh):=oh k1 l1 d6 ⟨by kernel_rfl,by kernel_rfl,by kernel_rfl⟩ f6 g6
 have v7:fX pg w (kk w.params) mg base 1 319 "outs" 1 (IK):=m9 o1 q1 d6 ⟨by kernel_rfl,by kernel_rfl,by kernel_rfl⟩ f6 g6
 have y7:kK pg w (kk w.params) mg base 1 319 "tables" 1 (G7):=lF r1 s1 d6 ⟨by kernel_rfl,by kernel_rfl,by kernel_rfl⟩ f6 o6 l6
 have z7:=y7.plain
 have a8:fX pg w (kk w.params) mg base 1 319 "told" 1 (BQ):=nc t1 u1 d6 ⟨by kernel_rfl,by kernel_rfl,by kernel_rfl⟩ f6 
 have b8:Def pg w (kk w.params) mg base 2 "_law_told" 3 (G6):=ue v1 y1 z1 (List.forall_mem_cons.mpr ⟨t7.mono (by decide),(fun _ h=>absurd h List.not_mem_nil)⟩) (List.forall_mem_cons.mpr ⟨u7.mono (by decide),(fun _ h=>absurd h List.not_mem_nil)⟩) (List.forall_mem_cons.mpr ⟨v7.mono (by decide),(fun _ h=>absurd h List.not_mem_nil)⟩) (List.forall_mem_cons.mpr ⟨z7.mono (by decide),(fun _ h=>absurd h List.not_mem_nil)⟩) (List.forall_mem_cons.mpr ⟨a8.mono (by decide),(fun _ h=>absurd h List.not_mem_nil)⟩) (y7.mono (by decide)) l6 o6
 have c8:Def pg w (kk w.params) mg base 1 "_law_ints" 1 (BO):=ud a2 b2 c2  
 have d8:Def pg w (kk w.params) mg base 1 "_law_dot" 2 (Az):=wa d2 e2 f2  q6 r6
 have e8:Def pg w (kk w.params) mg base 2 "_law_is" 3 (G2):=yc g2 i2 j2 (j7.mono (by decide)) o6 s6 g6 t6 u6
 have f8:Def pg w (kk w.params) mg base 3 "_law_are" 3 (Ef):=vZ k2 l2 o2 (e8.mono (by decide)) l6 s6 g6 q6
 have g8:Def pg w (kk w.params) mg base 4 "_law_good" 4 (Gr):=uc q2 r2 s2 (c8.mono (by decide)) (d8.mono (by decide)) (f8.mono (by decide)) o6 s6 g6 l6 q6 j6
 have i8:Def pg w (kk w.params) mg base 1 "is_whole" 1 (Jk):=wc t2 u2 v2  t6 s6 u6
 have j8:Def pg w (kk w.params) mg base 0 "half" 2 (fun _=>none):=Def.zero y2 z2 a3
 have k8:Def pg w (kk w.params) mg base 1 "common" 2 (cZ):=(AU (P:=pg) (w:=w) (base:=base) (k:=0) B b3 c3 d3 (j8.mono (by decide)) i6 z6).imp Bh
 have l8:Def pg w (kk w.params) mg base 2 "is_fraction" 1 (Gs):=pT e3 f3 g3 (i8.mono (by decide)) (k8.mono (by decide)) o6 s6 g6
 have o8:Def pg w (kk w.params) mg base 3 "is_row" 2 (BM):=AV i3 j3 k3 (l8.mono (by decide)) l6 s6 g6 v6
 have q8:Def pg w (kk w.params) mg base 4 "is_table" 3 (KN):=wb l3 o3 q3 (o8.mono (by decide)) l6 s6 g6 v6
 have r8:Def pg w (kk w.params) mg base 5 "is_system" 4 (BN):=uf r3 s3 t3 (q8.mono (by decide)) l6 s6 g6 a7
 have s8:oS pg w (kk w.params) mg base 7 "System" 319 4 (G4):=ya u3 v3 d6 ⟨by kernel_rfl,by kernel_rfl,by kernel_rfl,by kernel_rfl⟩ e6 (by kernel_rfl:PySem.W.findIn (kk w.params) (.ref 319) "four" = some none) (r8.mono (by decide)) g6 o6 b7
 have t8:Def pg w (kk w.params) mg base 4 "refuse_run" 4 (Jn):=qV y3 z3 a4 (o8.mono (by decide)) l6 s6 g6 v6 c7
 have u8:Def pg w (kk w.params) mg base 1 "widened" 2 (Gw):=ye b4 c4 d4  q6
 have v8:Def pg w (kk w.params) mg base 2 "shared_bottom" 1 (KY):=(ng (P:=pg) (w:=w) (base:=base) (k:=1) e4 f4 g4 (k8.mono (by decide)) ).imp nD
 have y8:Def pg w (kk w.params) mg base 1 "raised" 2 (KW):=(AX (P:=pg) (w:=w) (base:=base) (k:=0) i4 j4 k4  ).imp Bi
 have z8:Def pg w (kk w.params) mg base 3 "lifted" 1 (BP):=AW l4 o4 q4 (v8.mono (by decide)) (y8.mono (by decide)) y6
 have a9:gB pg w (kk w.params) mg base 1 "turned" 2 (JZ):=(yb (P:=pg) (w:=w) (base:=base) (k:=0) r4 s4 t4  j6).imp Bj
 have b9:Def pg w (kk w.params) mg base 2 "times" 2 (JX):=(C5 (P:=pg) (w:=w) (base:=base) (k:=1) u4 v4 y4 (k8.mono (by decide)) ).imp DH
 have c9:Def pg w (kk w.params) mg base 2 "plus" 2 (IP):=(EZ (P:=pg) (w:=w) (base:=base) (k:=1) z4 a5 b5 (k8.mono (by decide)) ).imp FP
 have d9:Def pg w (kk w.params) mg base 3 "weighed" 2 (KP):=yd c5 d5 e5 (b9.mono (by decide)) (c9.mono (by decide)) q6 d7 e7
 have e9:Def pg w (kk w.params) mg base 2 "frac" 2 (vN):=(EY (P:=pg) (w:=w) (base:=base) (k:=1) f5 g5 i5 (k8.mono (by decide)) f7).imp FN
 have f9:Def pg w (kk w.params) mg base 4 "weighed_lifted" 2 (DW):=mC j5 k5 l5 (d9.mono (by decide)) (e9.mono (by decide)) q6 r6
 have g9:gB pg w (kk w.params) mg base 5 "product" 3 (KO):=vY (P:=pg) (w:=w) (base:=base) (k:=4) o5 q5 r5 (z8.mono (by decide)) (a9.plain.mono (by decide)) (f9.mono (by decide)) 
 have i9:gB pg w (kk w.params) mg base 6 "applied" 2 (uU):=vX (P:=pg) (w:=w) (base:=base) (k:=5) s5 t5 u5 (g9.plain.mono (by decide)) 
 have j9:qE pg w (kk w.params) mg base 7 "run" 3 (uW):=EX v5 y5 z5 (t8.mono (by decide)) (u8.mono (by decide)) (i9.plain.mono (by decide)) (i9.mono (by decide)) (List.forall_mem_cons.mpr ⟨t7.mono (by decide),(fun _ h=>absurd h List.not_mem_nil)⟩) (List.forall_mem_cons.mpr ⟨u7.mono (by decide),(fun _ h=>absurd h List.not_mem_nil)⟩) (List.forall_mem_cons.mpr ⟨z7.mono (by decide),(fun _ h=>absurd h List.not_mem_nil)⟩) l6
 exact Hg (P:=pg) (w:=w) (base:=base) (k:=7) a6 (i7.mono (by decide)) (s7.mono (by decide)) (b8.mono (by decide)) (g7.mono (by decide)) (o7.mono (by decide)) (g8.mono (by decide)) (j9.mono (by decide)) (s8.mono (by decide)) l6
theorem walk {q:Program} {loose:List Str} {XP:(Str -> Option Value) -> Heap -> Prop} {d:DefRec} (hn:d.name = "law") (hdf:d.params.defaults=[]):PySem.W.WalkO q loose XP hk.says lw.row.toRowW d [] (fun f vs=>PySem.call f vs):=
 L2.Ai (n:=63) (k:=8) (x := "_law_script") (CX:=fun _=>mP) (K:=kk) (sp:=fun w=>spT (kk w.params) 1 Jl) rfl (by decide) hdf ⟨rfl,by decide,by decide⟩ (fun _ _ Y=>PySem.W.kIn_of Y) (fun w mg fa h KX G e=>all_mk KX G (by rw [hn] at e; exact e))
  (fun w H a ns hl _ hS=>⟨rfl,H,[.scr (ns.map T.int)],.bl true,aJ.refl H,⟨_,[],rfl,⟨a,ns.map V.int,rfl,hS,rN ns⟩,rfl⟩,xW ns hl,fun _ _ v _ r=>r⟩) fun _ _ _ _ _ z=>z
end My
open PySem PySem.W PyProof.Rows
set_option maxHeartbeats 0 in
theorem PySem.Challenge.cw_echohouse_k31_runs_by_tables_holds : PySem.Challenge.rw_echohouse_k31_runs_by_tables.Holds := by
 refine holds_law My.ws fun said=>?_
 refine holds_open (q:=My.qv) (loose:=[]) (Xt:=My.xt) (XP:=XL My.qv []) My.hl (Hook.of My.hk) (Hook.keeps My.hk)
  (fun s e=>xl_of s (Bool.and_eq_true_iff.mp e).1) XL.keeps (by rfl) (by rfl) (by rfl)
  (fun s e=>recFacts_of (Bool.and_eq_true_iff.mp e).2) (by rfl) said (by decide +kernel) ⟨rfl,rfl,rfl,rfl,rfl,by decide +kernel⟩ ?hw ?hc
 case hw=>w_witness2
 case hc=>exact My.walk rfl rfl
