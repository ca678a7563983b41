import PyProof.Rows.All
import Wide.All
import OpenK.AllK
import PySem.Challenge.RW_echohouse_k51_reach_and_tell_tables
noncomputable section
local macro_rules | `(tactic| walk_at "sc")=>`(tactic| exact ⟨rfl,rfl,rfl,by decide +kernel,rfl,by decide +kernel,by decide +kernel⟩)
set_option Elab.async false
set_option linter.all false
set_option maxRecDepth 100000
set_option maxHeartbeats 4000000
local macro_rules | `(tactic| walk_at "ev")=>do
  let ns:List Lean.Name:=[`Bool.false_eq_true,`Bool.not_false,`Bool.not_true,`zF,`zG,`CO,`List.cons_append,`List.getElem?_cons_succ,`List.getElem?_cons_zero,`List.length_cons,`List.length_nil,`List.map_cons,`List.map_nil,`List.nil_append,`List.replicate_succ,`List.replicate_zero,`List.set_cons_succ,`List.set_cons_zero,`Nat.reduceAdd,`Nat.reduceLeDiff,`Nat.reduceSub,`Nat.sub_self,`Nat.zero_add,`Option.bind_none,`Option.bind_some,`and_self,`and_true,`beq_self_eq_true,`boolsOf,`A0,`rJ,`bM,`K1,`K2,`il,`decide_false,`decide_true,`az,`K6,`eD,`iW,`iJ,`fC,`aq,`Gq,`Gr,`af,`K7,`Jk,`A5,`eE,`HU,`cT,`kr,`gE,`cC,`aE,`Df,`dQ,`aN,`ux,`K8,`wu,`Jl,`bE,`kh,`aR,`uy,`aU,`eW,`Mf,`fG,`eG,`di,`n9,`eX,`ag,`bh,`dq,`dJ,`og,`Bc,`ia,`Gy,`zN,`nE,`Be,`Gz,`Mg,`Bg,`Bh,`Bi,`Bj,`GA,`Dp,`zP,`zQ,`av,`ai,`bq,`bF,`if_false,`if_true,`oj,`uG,`uH,`wG,`uI,`zV,`wH,`rT,`rV,`rW,`uJ,`rX,`wI,`uK,`pM,`rY,`rZ,`uL,`si,`wJ,`uM,`pN,`sj,`sk,`uN,`so,`wK,`uO,`pO,`sq,`sr,`uP,`su,`wL,`uQ,`pP,`sv,`sx,`uR,`sC,`wM,`uS,`pQ,`sD,`sE,`uT,`sG,`wN,`uU,`pR,`sI,`sJ,`uV,`sL,`wO,`uW,`pS,`ite_false,`ite_true,`LU,`Ms,`Lh,`HW,`Mt,`Li,`cF,`Mu,`ne_eq,`not_false_eq_true,`not_true_eq_false,`reduceCtorEq,`reduceIte,`J4,`KI,`true_and,`iN]
  let mut ls:Array (Lean.TSyntax `Lean.Parser.Tactic.simpLemma):=#[]
  for n in ns do
   unless (<- Lean.Macro.resolveGlobalName n).isEmpty do
    ls:=ls.push (<- `(Lean.Parser.Tactic.simpLemma| $(Lean.mkIdent n):ident))
  `(tactic| simp only [$[$ls],*, *])
namespace My
open PySem PySem.Spec PyProof.Rows
def tp (i:Nat):Stmt:=PySem.Challenge.pw_echohouse_k51_reach_and_tell_tables.main.body.getD i (.Pass ⟨0,0,0,0⟩)
def hA (s:Stmt):Arguments:=match s with
 | .FunctionDef _ a _ _ _ _ _ _ _ _=>a
 |_=>⟨[],[],none,[],[],none,[]⟩
def hB (s:Stmt):List Stmt:=match s with
 | .FunctionDef _ _ b _ _ _ _ _ _ _=>b
 |_=>[]
def hS (s:Stmt):Scope:=match s with
 | .FunctionDef _ _ _ _ _ _ sc _ _ _=>sc
 |_=>{ kind:=.function,names:=[],isGenerator:=false,isCoroutine:=false }
def tc (i j:Nat):Stmt:=match tp i with
 | .ClassDef _ _ _ body _ _ _ _ _ _ _=>body.getD j (.Pass ⟨0,0,0,0⟩)
 |_=>.Pass ⟨0,0,0,0⟩
abbrev pg:Program:=PySem.Challenge.pw_echohouse_k51_reach_and_tell_tables
abbrev lw:PySem.W.OpenLaw:=PySem.Challenge.rw_echohouse_k51_reach_and_tell_tables
def qv:Program:={ pg with main:={ pg.main with body:=([0,2,3,4,6,7,8,9,10,11,12,13,14,15,16,18,19,20,21,22,23,24,25,27,28,29,30,31,32,33,34,35,36,37,39,40,41,42,43,45,46,47,48,50,51,53,54,55,57,58,59,60,61,62,63,64,65,66,67,68,69]:List Nat).map tp } }
def cf:Str := "/claim/cut.py"
def LP (nm qn:Str)(t l n k:Nat)(a b c d e:Value):Obj:=⟨.type "code", none,.fields #[.str nm t,.str qn (t+1),.str cf (t+2),.int l 0,.int n 0,.int 0 0,.int 0 0,.int 3 0,a,.bool true,.int 181 0,b,.none,c,d,e,.int k 0,.int l 0,.str cf (k+1)],#[]⟩
def Kq (c:Nat)(nm qn:Str)(t l n k:Nat):Obj:=LP nm qn t l n k (.ref (c-5)) (.ref (c-4)) (.ref (c-3)) (.ref (c-2)) (.ref (c-1))
def Kr (c:Nat)(nm qn:Str)(t l n k:Nat):Obj:=LP nm qn t l n k (.ref (c-3)) (.ref (c-2)) .none .none (.ref (c-1))
def cA (c:Nat)(nm:Str)(t l n k:Nat):Obj:=Kq c nm nm t l n k
def cB (c:Nat)(nm:Str)(t l n k:Nat):Obj:=Kr c nm nm t l n k
def Gs (s:Stmt)(nm qn:Str)(pm:Value)(c:Addr):Obj:=⟨.type "function", none,.func (PySem.W.fnOf nm qn (hA s) (hB s) (hS s) .none .none .none pm none (.ref c) .none),#[]⟩
def fh (s:Stmt)(nm:Str)(pm:Value)(c:Addr):Obj:=Gs s nm nm pm c
def de (P:Params)(x:Str)(t:Tok)(v:Value):DictEntry:=⟨PyData.keyHash P x,.str x t,v⟩
def md:Value:=.str "law_echohouse_k51_reach_and_tell_tables" 689
def HZ:Value:=.str "echohouse.divisors" 267
def yO:Value:=.str "echohouse.fracs" 371
def pF:Value:=.str "echohouse.tables" 438
def CK:Value:=.str "echohouse.systems" 557
def md5:Value:=.str "echohouse.steering" 637
def Ia:Value:=.str "echohouse.telling" 659
def CL:Value:=.str "echohouse.solving" 515
def d3 (P:Params):List DictEntry:=[de P "__name__" 165 (.str "law_echohouse_k51_reach_and_tell_tables" 689),de P "__doc__" 166 (.none),de P "__package__" 167 (.none),de P "__loader__" 168 (.builtin "__main__.__loader__#opaque"),de P "__spec__" 169 (.none),de P "__annotations__" 170 (.ref 6),de P "__builtins__" 171 (.ref 4),de P "__file__" 173 (.str "/claim/cut.py" 172),de P "__cached__" 174 (.none),de P "_wall" 193 (.ref 21),de P "EchoError" 220 (.ref 38),de P "NoTable" 243 (.ref 58),de P "TooMany" 266 (.ref 77),de P "SHORT" 270 (.int (4000) 269),de P "SHORT_HALF" 272 (.int (256) 271),de P "SHORT_QUOTIENT" 274 (.int (8000) 273),de P "common" 283 (.ref 86),de P "half" 295 (.ref 93),de P "stepped" 305 (.ref 100),de P "step" 320 (.ref 107),de P "upper_half" 337 (.ref 114),de P "factors_joined" 353 (.ref 121),de P "divided" 359 (.ref 126),de P "low_inverse" 370 (.ref 133),de P "NOUGHT" 375 (.ref 134),de P "is_whole" 382 (.ref 141),de P "is_fraction" 391 (.ref 148),de P "frac" 400 (.ref 155),de P "plus" 411 (.ref 162),de P "minus" 419 (.ref 169),de P "times" 429 (.ref 176),de P "over" 437 (.ref 183),de P "is_row" 445 (.ref 188),de P "is_table" 451 (.ref 193),de P "weighed" 462 (.ref 200),de P "product" 468 (.ref 205),de P "lifted" 474 (.ref 210),de P "weighed_lifted" 480 (.ref 215),de P "shared_bottom" 490 (.ref 222),de P "raised" 496 (.ref 227),de P "noughts" 502 (.ref 232),de P "turned" 508 (.ref 237),de P "widened" 514 (.ref 242),de P "first_rows" 522 (.ref 247),de P "whole_rows" 528 (.ref 252),de P "cleared_rows" 541 (.ref 259),de P "cleared" 547 (.ref 264),de P "first_place" 556 (.ref 271),de P "MOST_CELLS" 560 (.int (8) 559),de P "MOST_LINES" 562 (.int (2) 561),de P "System" 623 (.ref 319),de P "is_system" 636 (.ref 330),de P "reach_table" 651 (.ref 337),de P "reach_count" 658 (.ref 344),de P "tell_table" 667 (.ref 351),de P "tell_rows" 681 (.ref 358),de P "tell_count" 688 (.ref 365),de P "_law_cell" 698 (.ref 372),de P "_law_mix" 707 (.ref 379),de P "_law_number" 714 (.ref 386),de P "_law_row" 726 (.ref 393),de P "_law_tables" 732 (.ref 398),de P "_law_weighed" 743 (.ref 405),de P "_law_product" 749 (.ref 410),de P "_law_rank" 755 (.ref 415),de P "_law_reach" 761 (.ref 420),de P "_law_tell" 775 (.ref 427),de P "_law_same" 786 (.ref 434),de P "_law_count" 794 (.ref 441),de P "law" 806 (.ref 448)]
def kk (P:Params):PySem.W.Frag:=[
(3,⟨.type "dict", none,.dict (d3 P).toArray 70,#[]⟩),
(85,cA 85 "common" 275 21 2 281),
(86,fh (tp 9) "common" HZ 85),
(92,cA 92 "half" 284 30 2 293),
(93,fh (tp 10) "half" HZ 92),
(125,cB 125 "divided" 354 64 2 357),
(126,fh (tp 15) "divided" HZ 125),
(134,⟨.type "tuple", none,.seq #[.int (0) 373,.int (1) 374] 0,#[]⟩),
(140,cA 140 "is_whole" 376 84 1 380),
(141,fh (tp 19) "is_whole" yO 140),
(147,cA 147 "is_fraction" 383 86 1 389),
(148,fh (tp 20) "is_fraction" yO 147),
(154,cA 154 "frac" 392 91 2 398),
(155,fh (tp 21) "frac" yO 154),
(161,cA 161 "plus" 401 100 2 409),
(162,fh (tp 22) "plus" yO 161),
(168,cA 168 "minus" 412 105 2 417),
(169,fh (tp 23) "minus" yO 168),
(175,cA 175 "times" 420 107 2 427),
(176,fh (tp 24) "times" yO 175),
(182,cA 182 "over" 430 111 2 435),
(183,fh (tp 25) "over" yO 182),
(187,cB 187 "is_row" 440 114 2 443),
(188,fh (tp 27) "is_row" pF 187),
(192,cB 192 "is_table" 446 116 3 449),
(193,fh (tp 28) "is_table" pF 192),
(199,cA 199 "weighed" 452 118 2 460),
(200,fh (tp 29) "weighed" pF 199),
(204,cB 204 "product" 463 123 3 466),
(205,fh (tp 30) "product" pF 204),
(209,cB 209 "lifted" 469 127 1 472),
(210,fh (tp 31) "lifted" pF 209),
(214,cB 214 "weighed_lifted" 475 130 2 478),
(215,fh (tp 32) "weighed_lifted" pF 214),
(221,cA 221 "shared_bottom" 481 136 1 488),
(222,fh (tp 33) "shared_bottom" pF 221),
(226,cB 226 "raised" 491 141 2 494),
(227,fh (tp 34) "raised" pF 226),
(231,cB 231 "noughts" 497 143 2 500),
(232,fh (tp 35) "noughts" pF 231),
(236,cB 236 "turned" 503 145 2 506),
(237,fh (tp 36) "turned" pF 236),
(241,cB 241 "widened" 509 147 2 512),
(242,fh (tp 37) "widened" pF 241),
(246,cB 246 "first_rows" 517 150 1 520),
(247,fh (tp 39) "first_rows" CL 246),
(251,cB 251 "whole_rows" 523 154 1 526),
(252,fh (tp 40) "whole_rows" CL 251),
(258,cA 258 "cleared_rows" 529 156 2 539),
(259,fh (tp 41) "cleared_rows" CL 258),
(263,cB 263 "cleared" 542 165 2 545),
(264,fh (tp 42) "cleared" CL 263),
(270,cA 270 "first_place" 548 172 2 554),
(271,fh (tp 43) "first_place" CL 270),
(282,Kr 282 "__init__" "System.__init__" 575 182 5 578),
(283,Gs (tc 47 0) "__init__" "System.__init__" CK 282),
(289,Kq 289 "cells" "System.cells" 581 189 1 585),
(290,Gs (tc 47 1) "cells" "System.cells" CK 289),
(296,Kq 296 "ins" "System.ins" 588 192 1 592),
(297,Gs (tc 47 2) "ins" "System.ins" CK 296),
(308,Kr 308 "tables" "System.tables" 602 198 1 605),
(309,Gs (tc 47 4) "tables" "System.tables" CK 308),
(318,⟨.type "dict", none,.dict #[de P "__module__" 570 (.str "echohouse.systems" 557),de P "__firstlineno__" 574 (.int (180) 573),de P "__init__" 580 (.ref 283),de P "cells" 587 (.ref 290),de P "ins" 594 (.ref 297),de P "outs" 601 (.ref 304),de P "tables" 607 (.ref 309),de P "told" 614 (.ref 316),de P "__static_attributes__" 616 (.ref 317),de P "__dict__" 618 (.ref 320),de P "__weakref__" 620 (.ref 321),de P "__doc__" 621 (.none)] 4,#[]⟩),
(319,⟨.type "type", none,.cls ⟨"System", [.type "object"],[.ref 319,.type "object"],318,"System", true,[],[],false,none,false⟩,#[none,none,some (.str "System" 563),some (.str "System" 571),some (.builtin "object.__new__"),some (.bool true)]⟩),
(329,cA 329 "is_system" 624 203 4 634),
(330,fh (tp 48) "is_system" CK 329),
(336,cA 336 "reach_table" 639 211 1 649),
(337,fh (tp 50) "reach_table" md5 336),
(343,cA 343 "reach_count" 652 218 1 656),
(344,fh (tp 51) "reach_count" md5 343),
(350,cA 350 "tell_table" 661 221 1 665),
(351,fh (tp 53) "tell_table" Ia 350),
(357,cA 357 "tell_rows" 668 223 2 679),
(358,fh (tp 54) "tell_rows" Ia 357),
(364,cA 364 "tell_count" 682 230 1 686),
(365,fh (tp 55) "tell_count" Ia 364),
(371,cA 371 "_law_cell" 691 233 2 696),
(372,fh (tp 57) "_law_cell" md 371),
(378,cA 378 "_law_mix" 699 237 2 705),
(379,fh (tp 58) "_law_mix" md 378),
(385,cA 385 "_law_number" 708 241 1 712),
(386,fh (tp 59) "_law_number" md 385),
(392,cA 392 "_law_row" 715 245 2 724),
(393,fh (tp 60) "_law_row" md 392),
(397,cB 397 "_law_tables" 727 255 2 730),
(398,fh (tp 61) "_law_tables" md 397),
(404,cA 404 "_law_weighed" 733 266 2 741),
(405,fh (tp 62) "_law_weighed" md 404),
(409,cB 409 "_law_product" 744 271 3 747),
(410,fh (tp 63) "_law_product" md 409),
(414,cB 414 "_law_rank" 750 276 2 753),
(415,fh (tp 64) "_law_rank" md 414),
(419,cB 419 "_law_reach" 756 288 1 759),
(420,fh (tp 65) "_law_reach" md 419),
(426,cA 426 "_law_tell" 762 297 1 773),
(427,fh (tp 66) "_law_tell" md 426),
(433,cA 433 "_law_same" 776 305 3 784),
(434,fh (tp 67) "_law_same" md 433),
(440,cA 440 "_law_count" 787 313 2 792),
(441,fh (tp 68) "_law_count" md 440),
(447,cA 447 "law" 795 315 1 804),
(448,fh (tp 69) "law" md 447)]
def ka:List Addr:=[3,85,86,92,93,125,126,134,140,141,147,148,154,155,161,162,168,169,175,176,182,183,187,188,192,193,199,200,204,205,209,210,214,215,221,222,226,227,231,232,236,237,241,242,246,247,251,252,258,259,263,264,270,271,282,283,289,290,296,297,308,309,318,319,329,330,336,337,343,344,350,351,357,358,364,365,371,372,378,379,385,386,392,393,397,398,404,405,409,410,414,415,419,420,426,427,433,434,440,441,447,448]
theorem Mq (P:Params):ka=(kk P).map (·.1):=by kernel_rfl
abbrev hk:PySem.W.Hook:=PySem.W.kHook kk ka Mq
abbrev xt (s:Shared):Bool:=PySem.W.xlAt qv [] s&&PySem.W.recOk (PySem.W.RowW.records lw.row.toRowW) s
open PySem.W PySem.Calls in
def lM (tb:String->Option Builtin)(p:Program)(w:World)(Y7:Nat)(ann:Option Value):Nat->SharedT->Thread->Option SharedT
 |0,_,_=>none
 |n+1,s,t=>match through t with
  |true=>some s
  |false=>match stepOk Y7 ann t with
   |false=>none
   |true=>match stepT (denote tb) p w s t with
    |some (s',t')=>lM tb p w Y7 ann n s' t'
    |none=>none
open PySem.W PySem.Calls in
theorem qO {tb:String->Option Builtin}{p:Program}{w:World}{Y7:Nat}{ann:Option Value}:∀{n:Nat} {s:SharedT} {t:Thread} {r:SharedT},lM tb p w Y7 ann n s t=some r->topRun tb p w Y7 ann n s.abs t=some r.abs
 |0,_,_,_,e=>by simp [lM] at e
 |n+1,s,t,r,e=>by
  rw [lM] at e
  rw [topRun]
  cases h1:through t with
  |true=>rw [h1] at e;cases e;rfl
  |false =>
   rw [h1] at e
   dsimp only at e ⊢
   cases h2:stepOk Y7 ann t with
   |false=>rw [h2] at e;cases e
   |true =>
    rw [h2] at e
    dsimp only at e ⊢
    cases h3:stepT (denote tb) p w s t with
    |none=>rw [h3] at e;cases e
    |some x =>
     obtain⟨s',t'⟩:=x
     rw [h3] at e
     rw [stepT_spec h3]
     exact qO e
open PySem.W PySem.Calls in
def Ky (tb:String->Option Builtin)(p:Program)(w:World)(Y7:Nat)(ann:Option Value):Nat->SharedT->Thread->Option (SharedT×Thread)
 |0,s,t=>some (s,t)
 |n+1,s,t=>match through t with
  |true=>none
  |false=>match stepOk Y7 ann t with
   |false=>none
   |true=>match stepT (denote tb) p w s t with
    |some (s',t')=>Ky tb p w Y7 ann n s' t'
    |none=>none
open PySem.W PySem.Calls in
theorem Bl {tb:String->Option Builtin}{p:Program}{w:World}{Y7:Nat}{ann:Option Value}:∀{n:Nat} {s s':SharedT} {t t':Thread},Ky tb p w Y7 ann n s t=some (s',t')->topGo tb p w Y7 ann n s.abs t=some (s'.abs,t')
 |0,_,_,_,_,e=>by cases e;rfl
 |n+1,s,s',t,t',e=>by
  rw [Ky] at e
  rw [topGo]
  cases h1:through t with
  |true=>rw [h1] at e;cases e
  |false =>
   rw [h1] at e
   dsimp only at e ⊢
   cases h2:stepOk Y7 ann t with
   |false=>rw [h2] at e;cases e
   |true =>
    rw [h2] at e
    dsimp only at e ⊢
    cases h3:stepT (denote tb) p w s t with
    |none=>rw [h3] at e;cases e
    |some x =>
     obtain⟨s2,t2⟩:=x
     rw [h3] at e
     rw [stepT_spec h3]
     exact Bl e
def alts {α:Type}:Bool->List α->List α
 |_,[]=>[]
 |true,a::l=>a::alts false l
 |false,_::l=>alts true l
def CN:Nat->List Obj->PySem.W.BT
 |0,_=>.nil
 |_+1,[]=>.nil
 |n+1,o::l=>.node o (CN n (alts true l)) (CN n (alts false l))
def bol (P:Params):List Obj:=(PySem.W.boot_heap P).objs.toList
open PySem.W PySem.Calls in
theorem Jx {p q:Program}{loose:List Str}{Xt:Shared->Bool}{α:Type}{Yf:Shared->α}{Ya:World->α}{N n k M:Nat}{g0:Bool}{T:Params->BT}(he:opening p=plainProg p.main.scope.names)(hN:Nat.ble 600 N=true)(hf:∀s,fenceModules? p s=some s)
  (hz:∀w:World,((boot_heap w.params).isNs mainGlobals&&(Array.mk []:Array GenState).size == 0,(boot_heap w.params).objs.size,(boot_heap w.params).nsMap mainGlobals "__annotations__")=(true,11,some (.ref 6)))
  (hr:∀(w:World) (os:OsState),topRun treeTable p w 11 (some (.ref 6)) M ⟨boot_heap w.params,Array.mk [],boot_drawn,boot_toks,os⟩ (topStub p)=some ⟨absHeap (T w.params) n {},Array.mk [],boot_drawn,k,os⟩) (le:Nat.ble M N=true)
  (g1:∀w:World,(fun os:OsState=>staticsOk (importedModules p.main.body) (boot_heap w.params) (absHeap (T w.params) n {})&&namesBound p (absHeap (T w.params) n {})&&gensDone ⟨absHeap (T w.params) n {},Array.mk [],boot_drawn,k,os⟩&&laidKept (boot_heap w.params) (absHeap (T w.params) n {}))=fun _=>true)
  (g2:∀w:World,(fun os:OsState=>(openSeen q loose (importedModules p.main.body) Xt g0 ⟨absHeap (T w.params) n {},Array.mk [],boot_drawn,k,os⟩).1)=fun _=>(openGood q loose).1)
  (g4:∀w:World,(fun os:OsState=>(openSeen q loose (importedModules p.main.body) Xt g0 ⟨absHeap (T w.params) n {},Array.mk [],boot_drawn,k,os⟩).2)=fun _=>(openGood q loose).2)
  (g3:∀w:World,(fun os:OsState=>Yf ⟨absHeap (T w.params) n {},Array.mk [],boot_drawn,k,os⟩)=fun _=>Ya w):
  LeftO p q loose Xt Yf Ya N g0:=
 LeftO.of_pieces (H₀:=fun P=>boot_heap P) (H₁:=fun P=>absHeap (T P) n {}) (gs₀:=Array.mk []) (gs₁:=Array.mk []) (fun w=>boot_open he hN hf w) hz hr le fun w=>by
  funext os
  exact Prod.ext (congrFun (g1 w) os) (Prod.ext (Prod.ext (congrFun (g2 w) os) (congrFun (g4 w) os)) (congrFun (g3 w) os))
def LS (s:Stmt)(nm qn:Str):Obj:=⟨.none,none,.func ⟨nm,qn,hA s,.stmts (hB s),hS s,0,[],.none,.none,.none,.none,none,.none,.none,0⟩,#[]⟩
def oT (vs:List Value):Obj:=⟨.type "tuple", none,.seq vs.toArray 0,#[]⟩
def oF:Obj:=⟨.none,none,.fields #[],#[]⟩
def KD:Nat->List Str->List Value
 |_,[]=>[]
 |t,x::l=>.str x t::KD (t+1) l
def gA (a:Nat)(s:Stmt)(nm qn:Str)(t l n:Nat)(vs:List Str)(pm:Value):List Obj:=[oT [],oF,oT (KD (t+3) vs),oT [],LS s nm qn,Kq (a+5) nm qn t l n (t+3+vs.length),Gs s nm qn pm (a+5)]
def gB (a:Nat)(s:Stmt)(nm qn:Str)(t l n:Nat)(pm:Value):List Obj:=[oT [],oF,LS s nm qn,Kr (a+3) nm qn t l n (t+3),Gs s nm qn pm (a+3)]
def Mz:List (Nat×Nat×Nat):=[(1,0,20),(5,0,27),(9,0,47),(13,0,66),(21,0,85),(30,0,92),(41,0,99),(46,0,106),(50,0,113),(60,0,120),(64,0,125),(75,0,132),(84,0,140),(86,0,147),(91,0,154),(100,0,161),(105,0,168),(107,0,175),(111,0,182),(114,0,187),(116,0,192),(118,0,199),(123,0,204),(127,0,209),(130,0,214),(136,0,221),(141,0,226),(143,0,231),(145,0,236),(147,0,241),(150,0,246),(154,0,251),(156,0,258),(165,0,263),(172,0,270),(180,0,277),(203,0,329),(211,0,336),(218,0,343),(221,0,350),(223,0,357),(230,0,364),(233,0,371),(237,0,378),(241,0,385),(245,0,392),(255,0,397),(266,0,404),(271,0,409),(276,0,414),(288,0,419),(297,0,426),(305,0,433),(313,0,440),(315,0,447)]
def Ie (k:Nat):Obj:=⟨.none,none,.fields ((Mz.take k).flatMap fun z=>[.int z.1 0,.int z.2.1 0,.ref z.2.2]).toArray,#[]⟩
def o3 (P:Params)(e n:Nat)(v:Value):Obj:=⟨.type "dict", none,.dict (match d3 P with | []=>[] | z::l=>((⟨z.hash,z.key,v⟩:DictEntry)::l).take e).toArray n,#[]⟩
def ob (P:Params):List Obj:=bol P++([⟨.type "tuple", none,.seq #[] 0,#[]⟩,
⟨.none,none,.fields #[.int (1) 0,.int (0) 0,.ref 20,.int (5) 0,.int (0) 0,.ref 27,.int (9) 0,.int (0) 0,.ref 47,.int (13) 0,.int (0) 0,.ref 66,.int (21) 0,.int (0) 0,.ref 85,.int (30) 0,.int (0) 0,.ref 92,.int (41) 0,.int (0) 0,.ref 99,.int (46) 0,.int (0) 0,.ref 106,.int (50) 0,.int (0) 0,.ref 113,.int (60) 0,.int (0) 0,.ref 120,.int (64) 0,.int (0) 0,.ref 125,.int (75) 0,.int (0) 0,.ref 132,.int (84) 0,.int (0) 0,.ref 140,.int (86) 0,.int (0) 0,.ref 147,.int (91) 0,.int (0) 0,.ref 154,.int (100) 0,.int (0) 0,.ref 161,.int (105) 0,.int (0) 0,.ref 168,.int (107) 0,.int (0) 0,.ref 175,.int (111) 0,.int (0) 0,.ref 182,.int (114) 0,.int (0) 0,.ref 187,.int (116) 0,.int (0) 0,.ref 192,.int (118) 0,.int (0) 0,.ref 199,.int (123) 0,.int (0) 0,.ref 204,.int (127) 0,.int (0) 0,.ref 209,.int (130) 0,.int (0) 0,.ref 214,.int (136) 0,.int (0) 0,.ref 221,.int (141) 0,.int (0) 0,.ref 226,.int (143) 0,.int (0) 0,.ref 231,.int (145) 0,.int (0) 0,.ref 236,.int (147) 0,.int (0) 0,.ref 241,.int (150) 0,.int (0) 0,.ref 246,.int (154) 0,.int (0) 0,.ref 251,.int (156) 0,.int (0) 0,.ref 258,.int (165) 0,.int (0) 0,.ref 263,.int (172) 0,.int (0) 0,.ref 270,.int (180) 0,.int (0) 0,.ref 277,.int (203) 0,.int (0) 0,.ref 329,.int (211) 0,.int (0) 0,.ref 336,.int (218) 0,.int (0) 0,.ref 343,.int (221) 0,.int (0) 0,.ref 350,.int (223) 0,.int (0) 0,.ref 357,.int (230) 0,.int (0) 0,.ref 364,.int (233) 0,.int (0) 0,.ref 371,.int (237) 0,.int (0) 0,.ref 378,.int (241) 0,.int (0) 0,.ref 385,.int (245) 0,.int (0) 0,.ref 392,.int (255) 0,.int (0) 0,.ref 397,.int (266) 0,.int (0) 0,.ref 404,.int (271) 0,.int (0) 0,.ref 409,.int (276) 0,.int (0) 0,.ref 414,.int (288) 0,.int (0) 0,.ref 419,.int (297) 0,.int (0) 0,.ref 426,.int (305) 0,.int (0) 0,.ref 433,.int (313) 0,.int (0) 0,.ref 440,.int (315) 0,.int (0) 0,.ref 447],#[]⟩,
⟨.type "code", none,.fields #[.str "<module>" 182,.str "<module>" 183,.str "/claim/cut.py" 184,.int (1) 0,.int (0) 0,.int (0) 0,.int (0) 0,.int (0) 0,.ref 11,.bool false,.int (181) 0,.ref 12,.none,.none,.none,.none,.int (185) 0,.int (1) 0,.str "/claim/cut.py" 186],#[]⟩,
⟨.type "frame", none,.plain,#[some (.ref 13),some (.ref 3),some (.ref 3),none,some (.str "__main__" 164),none,some (.ref 0)]⟩] ++
 (gA 15 (tp 0) "_wall" "_wall" 187 1 1 ["k"] (.str "__main__" 164) ++
 ([⟨.type "tuple", none,.seq #[.type "ValueError"] 0,#[]⟩,
⟨.type "builtin_function_or_method", none,.fields #[.builtin "type.__prepare__", .type "type"],#[]⟩,
⟨.type "dict", none,.dict #[de P "__module__" 203 (.str "echohouse.errors" 194),de P "__qualname__" 205 (.str "EchoError" 204),de P "__firstlineno__" 207 (.int (5) 206),de P "word" 214 (.ref 35),de P "__static_attributes__" 215 (.ref 36)] 5,#[]⟩,
⟨.type "tuple", none,.seq #[] 0,#[]⟩,
⟨.none,none,.fields #[.int (7) 0,.int (4) 0,.ref 34],#[]⟩,
⟨.type "code", none,.fields #[.str "EchoError" 198,.str "EchoError" 199,.str "/claim/cut.py" 200,.int (5) 0,.int (0) 0,.int (0) 0,.int (0) 0,.int (0) 0,.ref 25,.bool false,.int (181) 0,.ref 26,.none,.none,.none,.none,.int (201) 0,.int (5) 0,.str "/claim/cut.py" 202],#[]⟩,
⟨.type "frame", none,.plain,#[some (.ref 27),some (.ref 3),some (.ref 24),none,some (.str "echohouse.errors" 194),none,some (.ref 0)]⟩] ++
 (gA 29 (tc 2 0) "word" "EchoError.word" 208 7 1 ["self"] (.str "echohouse.errors" 194) ++
 ([⟨.type "tuple", none,.seq #[] 0,#[]⟩,
⟨.type "dict", none,.dict #[de P "__module__" 203 (.str "echohouse.errors" 194),de P "__firstlineno__" 207 (.int (5) 206),de P "word" 214 (.ref 35),de P "__static_attributes__" 215 (.ref 36),de P "__weakref__" 217 (.ref 39),de P "__doc__" 218 (.none)] 3,#[]⟩,
⟨.type "type", none,.cls ⟨"EchoError", [.type "ValueError"],[.ref 38,.type "ValueError", .type "Exception", .type "BaseException", .type "object"],37,"EchoError", true,[],[.ref 58,.ref 77],false,none,false⟩,#[some (.ref 22),none,some (.str "EchoError" 196),some (.str "EchoError" 204),some (.builtin "ValueError.__new__"),some (.bool true)]⟩,
⟨.type "getset_descriptor", none,.fields #[.str "__weakref__" 216,.ref 38,.builtin "ExceptionGroup.__weakref__", .none],#[]⟩,
⟨.type "super", none,.fields #[.ref 38,.ref 38,.ref 38],#[]⟩,
⟨.type "builtin_function_or_method", none,.fields #[.builtin "object.__init_subclass__", .ref 38],#[]⟩,
⟨.type "tuple", none,.seq #[.ref 38] 0,#[]⟩,
⟨.type "builtin_function_or_method", none,.fields #[.builtin "type.__prepare__", .type "type"],#[]⟩,
⟨.type "dict", none,.dict #[de P "__module__" 228 (.str "echohouse.errors" 194),de P "__qualname__" 230 (.str "NoTable" 229),de P "__firstlineno__" 232 (.int (9) 231),de P "word" 239 (.ref 55),de P "__static_attributes__" 240 (.ref 56)] 5,#[]⟩,
⟨.type "tuple", none,.seq #[] 0,#[]⟩,
⟨.none,none,.fields #[.int (11) 0,.int (4) 0,.ref 54],#[]⟩,
⟨.type "code", none,.fields #[.str "NoTable" 223,.str "NoTable" 224,.str "/claim/cut.py" 225,.int (9) 0,.int (0) 0,.int (0) 0,.int (0) 0,.int (0) 0,.ref 45,.bool false,.int (181) 0,.ref 46,.none,.none,.none,.none,.int (226) 0,.int (9) 0,.str "/claim/cut.py" 227],#[]⟩,
⟨.type "frame", none,.plain,#[some (.ref 47),some (.ref 3),some (.ref 44),none,some (.str "echohouse.errors" 194),none,some (.ref 0)]⟩] ++
 (gA 49 (tc 3 0) "word" "NoTable.word" 233 11 1 ["self"] (.str "echohouse.errors" 194) ++
 ([⟨.type "tuple", none,.seq #[] 0,#[]⟩,
⟨.type "dict", none,.dict #[de P "__module__" 228 (.str "echohouse.errors" 194),de P "__firstlineno__" 232 (.int (9) 231),de P "word" 239 (.ref 55),de P "__static_attributes__" 240 (.ref 56),de P "__doc__" 241 (.none)] 2,#[]⟩,
⟨.type "type", none,.cls ⟨"NoTable", [.ref 38],[.ref 58,.ref 38,.type "ValueError", .type "Exception", .type "BaseException", .type "object"],57,"NoTable", true,[],[],false,none,false⟩,#[some (.ref 42),none,some (.str "NoTable" 221),some (.str "NoTable" 229),some (.builtin "ValueError.__new__"),some (.bool true)]⟩,
⟨.type "super", none,.fields #[.ref 58,.ref 58,.ref 58],#[]⟩,
⟨.type "builtin_function_or_method", none,.fields #[.builtin "object.__init_subclass__", .ref 58],#[]⟩,
⟨.type "tuple", none,.seq #[.ref 38] 0,#[]⟩,
⟨.type "builtin_function_or_method", none,.fields #[.builtin "type.__prepare__", .type "type"],#[]⟩,
⟨.type "dict", none,.dict #[de P "__module__" 251 (.str "echohouse.errors" 194),de P "__qualname__" 253 (.str "TooMany" 252),de P "__firstlineno__" 255 (.int (13) 254),de P "word" 262 (.ref 74),de P "__static_attributes__" 263 (.ref 75)] 5,#[]⟩,
⟨.type "tuple", none,.seq #[] 0,#[]⟩,
⟨.none,none,.fields #[.int (15) 0,.int (4) 0,.ref 73],#[]⟩,
⟨.type "code", none,.fields #[.str "TooMany" 246,.str "TooMany" 247,.str "/claim/cut.py" 248,.int (13) 0,.int (0) 0,.int (0) 0,.int (0) 0,.int (0) 0,.ref 64,.bool false,.int (181) 0,.ref 65,.none,.none,.none,.none,.int (249) 0,.int (13) 0,.str "/claim/cut.py" 250],#[]⟩,
⟨.type "frame", none,.plain,#[some (.ref 66),some (.ref 3),some (.ref 63),none,some (.str "echohouse.errors" 194),none,some (.ref 0)]⟩] ++
 (gA 68 (tc 4 0) "word" "TooMany.word" 256 15 1 ["self"] (.str "echohouse.errors" 194) ++
 ([⟨.type "tuple", none,.seq #[] 0,#[]⟩,
⟨.type "dict", none,.dict #[de P "__module__" 251 (.str "echohouse.errors" 194),de P "__firstlineno__" 255 (.int (13) 254),de P "word" 262 (.ref 74),de P "__static_attributes__" 263 (.ref 75),de P "__doc__" 264 (.none)] 2,#[]⟩,
⟨.type "type", none,.cls ⟨"TooMany", [.ref 38],[.ref 77,.ref 38,.type "ValueError", .type "Exception", .type "BaseException", .type "object"],76,"TooMany", true,[],[],false,none,false⟩,#[some (.ref 61),none,some (.str "TooMany" 244),some (.str "TooMany" 252),some (.builtin "ValueError.__new__"),some (.bool true)]⟩,
⟨.type "super", none,.fields #[.ref 77,.ref 77,.ref 77],#[]⟩,
⟨.type "builtin_function_or_method", none,.fields #[.builtin "object.__init_subclass__", .ref 77],#[]⟩] ++
 (gA 80 (tp 9) "common" "common" 275 21 2 ["one","other","factors"] (.str "echohouse.divisors" 267) ++
 (gA 87 (tp 10) "half" "half" 284 30 2 ["one","other","goal","factors","shift","further"] (.str "echohouse.divisors" 267) ++
 (gA 94 (tp 11) "stepped" "stepped" 296 41 3 ["one","other","goal","factors"] (.str "echohouse.divisors" 267) ++
 (gA 101 (tp 12) "step" "step" 306 46 3 ["one","other","factors","by","rest","a","b","c","d"] (.str "echohouse.divisors" 267) ++
 (gA 108 (tp 13) "upper_half" "upper_half" 321 50 3 ["one","other","shift","top","other_top","a","b","c","d","low","other_low"] (.str "echohouse.divisors" 267) ++
 (gA 115 (tp 14) "factors_joined" "factors_joined" 338 60 2 ["further","factors","a","b","c","d","e","f","g","h"] (.str "echohouse.divisors" 267) ++
 (gB 122 (tp 15) "divided" "divided" 354 64 2 (.str "echohouse.divisors" 267) ++
 (gA 127 (tp 16) "low_inverse" "low_inverse" 360 75 2 ["odd","bits","inverse","right","mask"] (.str "echohouse.divisors" 267) ++
 ([⟨.type "tuple", none,.seq #[.int (0) 373,.int (1) 374] 0,#[]⟩] ++
 (gA 135 (tp 19) "is_whole" "is_whole" 376 84 1 ["thing"] (.str "echohouse.fracs" 371) ++
 (gA 142 (tp 20) "is_fraction" "is_fraction" 383 86 1 ["thing","top","bottom"] (.str "echohouse.fracs" 371) ++
 (gA 149 (tp 21) "frac" "frac" 392 91 2 ["top","bottom","shared"] (.str "echohouse.fracs" 371) ++
 (gA 156 (tp 22) "plus" "plus" 401 100 2 ["one","other","shared","top","low"] (.str "echohouse.fracs" 371) ++
 (gA 163 (tp 23) "minus" "minus" 412 105 2 ["one","other"] (.str "echohouse.fracs" 371) ++
 (gA 170 (tp 24) "times" "times" 420 107 2 ["one","other","left","right"] (.str "echohouse.fracs" 371) ++
 (gA 177 (tp 25) "over" "over" 430 111 2 ["one","other"] (.str "echohouse.fracs" 371) ++
 (gB 184 (tp 27) "is_row" "is_row" 440 114 2 (.str "echohouse.tables" 438) ++
 (gB 189 (tp 28) "is_table" "is_table" 446 116 3 (.str "echohouse.tables" 438) ++
 (gA 194 (tp 29) "weighed" "weighed" 452 118 2 ["one","other","total","left","right"] (.str "echohouse.tables" 438) ++
 (gB 201 (tp 30) "product" "product" 463 123 3 (.str "echohouse.tables" 438) ++
 (gB 206 (tp 31) "lifted" "lifted" 469 127 1 (.str "echohouse.tables" 438) ++
 (gB 211 (tp 32) "weighed_lifted" "weighed_lifted" 475 130 2 (.str "echohouse.tables" 438) ++
 (gA 216 (tp 33) "shared_bottom" "shared_bottom" 481 136 1 ["row","low","top","bottom"] (.str "echohouse.tables" 438) ++
 (gB 223 (tp 34) "raised" "raised" 491 141 2 (.str "echohouse.tables" 438) ++
 (gB 228 (tp 35) "noughts" "noughts" 497 143 2 (.str "echohouse.tables" 438) ++
 (gB 233 (tp 36) "turned" "turned" 503 145 2 (.str "echohouse.tables" 438) ++
 (gB 238 (tp 37) "widened" "widened" 509 147 2 (.str "echohouse.tables" 438) ++
 (gB 243 (tp 39) "first_rows" "first_rows" 517 150 1 (.str "echohouse.solving" 515) ++
 (gB 248 (tp 40) "whole_rows" "whole_rows" 523 154 1 (.str "echohouse.solving" 515) ++
 (gA 253 (tp 41) "cleared_rows" "cleared_rows" 529 156 2 ["rows","wide","steps","kept","row","left","place"] (.str "echohouse.solving" 515) ++
 (gB 260 (tp 42) "cleared" "cleared" 542 165 2 (.str "echohouse.solving" 515) ++
 (gA 265 (tp 43) "first_place" "first_place" 548 172 2 ["row","wide","place"] (.str "echohouse.solving" 515) ++
 ([⟨.type "tuple", none,.seq #[] 0,#[]⟩,
⟨.type "builtin_function_or_method", none,.fields #[.builtin "type.__prepare__", .type "type"],#[]⟩,
⟨.type "dict", none,.dict #[de P "__module__" 570 (.str "echohouse.systems" 557),de P "__qualname__" 572 (.str "System" 571),de P "__firstlineno__" 574 (.int (180) 573),de P "__init__" 580 (.ref 283),de P "cells" 587 (.ref 290),de P "ins" 594 (.ref 297),de P "outs" 601 (.ref 304),de P "tables" 607 (.ref 309),de P "told" 614 (.ref 316),de P "__static_attributes__" 616 (.ref 317)] 10,#[]⟩,
⟨.type "tuple", none,.seq #[] 0,#[]⟩,
⟨.none,none,.fields #[.int (182) 0,.int (4) 0,.ref 282,.int (189) 0,.int (4) 0,.ref 289,.int (192) 0,.int (4) 0,.ref 296,.int (195) 0,.int (4) 0,.ref 303,.int (198) 0,.int (4) 0,.ref 308,.int (201) 0,.int (4) 0,.ref 315],#[]⟩,
⟨.type "code", none,.fields #[.str "System" 565,.str "System" 566,.str "/claim/cut.py" 567,.int (180) 0,.int (0) 0,.int (0) 0,.int (0) 0,.int (0) 0,.ref 275,.bool false,.int (181) 0,.ref 276,.none,.none,.none,.none,.int (568) 0,.int (180) 0,.str "/claim/cut.py" 569],#[]⟩,
⟨.type "frame", none,.plain,#[some (.ref 277),some (.ref 3),some (.ref 274),none,some (.str "echohouse.systems" 557),none,some (.ref 0)]⟩] ++
 (gB 279 (tc 47 0) "__init__" "System.__init__" 575 182 5 (.str "echohouse.systems" 557) ++
 (gA 284 (tc 47 1) "cells" "System.cells" 581 189 1 ["self"] (.str "echohouse.systems" 557) ++
 (gA 291 (tc 47 2) "ins" "System.ins" 588 192 1 ["self"] (.str "echohouse.systems" 557) ++
 (gA 298 (tc 47 3) "outs" "System.outs" 595 195 1 ["self"] (.str "echohouse.systems" 557) ++
 (gB 305 (tc 47 4) "tables" "System.tables" 602 198 1 (.str "echohouse.systems" 557) ++
 (gA 310 (tc 47 5) "told" "System.told" 608 201 1 ["self"] (.str "echohouse.systems" 557) ++
 ([⟨.type "tuple", none,.seq #[.str "four" 615] 0,#[]⟩,
⟨.type "dict", none,.dict #[de P "__module__" 570 (.str "echohouse.systems" 557),de P "__firstlineno__" 574 (.int (180) 573),de P "__init__" 580 (.ref 283),de P "cells" 587 (.ref 290),de P "ins" 594 (.ref 297),de P "outs" 601 (.ref 304),de P "tables" 607 (.ref 309),de P "told" 614 (.ref 316),de P "__static_attributes__" 616 (.ref 317),de P "__dict__" 618 (.ref 320),de P "__weakref__" 620 (.ref 321),de P "__doc__" 621 (.none)] 4,#[]⟩,
⟨.type "type", none,.cls ⟨"System", [.type "object"],[.ref 319,.type "object"],318,"System", true,[],[],false,none,false⟩,#[none,none,some (.str "System" 563),some (.str "System" 571),some (.builtin "object.__new__"),some (.bool true)]⟩,
⟨.type "getset_descriptor", none,.fields #[.str "__dict__" 617,.ref 319,.builtin "function.__dict__", .builtin "function.__dict__#set"],#[]⟩,
⟨.type "getset_descriptor", none,.fields #[.str "__weakref__" 619,.ref 319,.builtin "ExceptionGroup.__weakref__", .none],#[]⟩,
⟨.type "super", none,.fields #[.ref 319,.ref 319,.ref 319],#[]⟩,
⟨.type "builtin_function_or_method", none,.fields #[.builtin "object.__init_subclass__", .ref 319],#[]⟩] ++
 (gA 324 (tp 48) "is_system" "is_system" 624 203 4 ["move","push","look","through","cells","ins","outs"] (.str "echohouse.systems" 557) ++
 (gA 331 (tp 50) "reach_table" "reach_table" 639 211 1 ["system","move","push","look","through","table","turn"] (.str "echohouse.steering" 637) ++
 (gA 338 (tp 51) "reach_count" "reach_count" 652 218 1 ["system"] (.str "echohouse.steering" 637) ++
 (gA 345 (tp 53) "tell_table" "tell_table" 661 221 1 ["system"] (.str "echohouse.telling" 659) ++
 (gA 352 (tp 54) "tell_rows" "tell_rows" 668 223 2 ["system","many","move","push","look","through","rows","turn"] (.str "echohouse.telling" 659) ++
 (gA 359 (tp 55) "tell_count" "tell_count" 682 230 1 ["system"] (.str "echohouse.telling" 659) ++
 (gA 366 (tp 57) "_law_cell" "_law_cell" 691 233 2 ["_law_script","_law_k"] (.str "law_echohouse_k51_reach_and_tell_tables" 689) ++
 (gA 373 (tp 58) "_law_mix" "_law_mix" 699 237 2 ["_law_cell_here","_law_k","_law_number_here"] (.str "law_echohouse_k51_reach_and_tell_tables" 689) ++
 (gA 380 (tp 59) "_law_number" "_law_number" 708 241 1 ["_law_number_here"] (.str "law_echohouse_k51_reach_and_tell_tables" 689) ++
 (gA 387 (tp 60) "_law_row" "_law_row" 715 245 2 ["_law_cell_here","_law_many","_law_row_here","_law_left","_law_k","_law_number_here"] (.str "law_echohouse_k51_reach_and_tell_tables" 689) ++
 (gB 394 (tp 61) "_law_tables" "_law_tables" 727 255 2 (.str "law_echohouse_k51_reach_and_tell_tables" 689) ++
 (gA 399 (tp 62) "_law_weighed" "_law_weighed" 733 266 2 ["_law_one","_law_other","_law_found","_law_here","_law_there"] (.str "law_echohouse_k51_reach_and_tell_tables" 689) ++
 (gB 406 (tp 63) "_law_product" "_law_product" 744 271 3 (.str "law_echohouse_k51_reach_and_tell_tables" 689) ++
 (gB 411 (tp 64) "_law_rank" "_law_rank" 750 276 2 (.str "law_echohouse_k51_reach_and_tell_tables" 689) ++
 (gB 416 (tp 65) "_law_reach" "_law_reach" 756 288 1 (.str "law_echohouse_k51_reach_and_tell_tables" 689) ++
 (gA 421 (tp 66) "_law_tell" "_law_tell" 762 297 1 ["_law_tables_here","_law_move","_law_push","_law_look","_law_through","_law_found","_law_here","_law_turn"] (.str "law_echohouse_k51_reach_and_tell_tables" 689) ++
 (gA 428 (tp 67) "_law_same" "_law_same" 776 305 3 ["_law_call","_law_system","_law_due","_law_found","_law_row_here"] (.str "law_echohouse_k51_reach_and_tell_tables" 689) ++
 (gA 435 (tp 68) "_law_count" "_law_count" 787 313 2 ["_law_found","_law_due"] (.str "law_echohouse_k51_reach_and_tell_tables" 689) ++
 (gA 442 (tp 69) "law" "law" 795 315 1 ["_law_script","_law_tables_here","_law_system","_law_many","_law_reach_here","_law_tell_here"] (.str "law_echohouse_k51_reach_and_tell_tables" 689)))))))))))))))))))))))))))))))))))))))))))))))))))))))))))))))))))))
def KG (P:Params):PySem.W.BT:=CN 12 ((((ob P).take 15).set 3 (o3 P 9 9 (.str "__main__" 164))).set 12 (Ie 0))
def LW (P:Params):PySem.W.BT:=CN 12 ((((ob P).take 80).set 3 (o3 P 13 13 (.str "echohouse.errors" 194))).set 12 (Ie 4))
def LX (P:Params):PySem.W.BT:=CN 12 ((((ob P).take 177).set 3 (o3 P 31 31 (.str "echohouse.fracs" 371))).set 12 (Ie 18))
def LY (P:Params):PySem.W.BT:=CN 12 ((((ob P).take 272).set 3 (o3 P 48 48 (.str "echohouse.systems" 557))).set 12 (Ie 35))
def LZ (P:Params):PySem.W.BT:=CN 12 ((((ob P).take 345).set 3 (o3 P 54 54 (.str "echohouse.telling" 659))).set 12 (Ie 39))
def Cp (P:Params):PySem.W.BT:=CN 12 (((ob P).set 3 (o3 P 70 70 (.str "law_echohouse_k51_reach_and_tell_tables" 689))).set 12 (Ie 55))
abbrev bd:List Stmt:=pg.main.body
def en:Env:={ scope:=pg.main.scope,locals:=mainNs,globals:=mainNs,cells:=[],code:=.ref 13,frame:=some 14 }
def cE:Code:=.body bd en
theorem h0 (P:Params):PySem.W.absHeap (CN 12 (bol P)) 11 {}=PySem.W.boot_heap P:=by kernel_rfl
set_option maxHeartbeats 0 in
open PySem.W PySem.Calls in
theorem hp (w:World):(fun os:OsState=>Ky treeTable pg w 11 (some (.ref 6)) 12 ⟨CN 12 (bol w.params),11,{},#[],boot_drawn,boot_toks,os⟩ (topStub pg))=fun os=>some ((⟨KG w.params,15,{},#[],PySem.W.boot_drawn,187,os⟩:PySem.W.SharedT),⟨denote treeTable (.body bd en),cE,⟨0,0,0,0⟩,[topFrame ⟨0,0,0,0⟩]⟩):=by kernel_rfl
set_option maxHeartbeats 0 in
open PySem.W PySem.Calls in
theorem hq (w:World):(fun os:OsState=>segRunT treeTable pg w 11 (some (.ref 6)) 1 1 (⟨KG w.params,15,{},#[],PySem.W.boot_drawn,187,os⟩:PySem.W.SharedT) (blockOf bd en cE ⟨0,0,0,0⟩ [topFrame ⟨0,0,0,0⟩]))=fun os=>some (.next,(⟨KG w.params,15,{},#[],PySem.W.boot_drawn,187,os⟩:PySem.W.SharedT),cE,⟨0,0,0,0⟩):=by kernel_rfl
set_option maxHeartbeats 0 in
open PySem.W PySem.Calls in
theorem Mi (w:World):(fun os:OsState=>segRunT treeTable pg w 11 (some (.ref 6)) 1 741 (⟨KG w.params,15,{},#[],PySem.W.boot_drawn,187,os⟩:PySem.W.SharedT) (piecesOf ((bd.drop 0).take 5) en cE ⟨0,0,0,0⟩ [topFrame ⟨0,0,0,0⟩]))=fun os=>some (.next,(⟨LW w.params,80,{},#[],PySem.W.boot_drawn,267,os⟩:PySem.W.SharedT),cE,⟨13,0,16,16⟩):=by kernel_rfl
set_option maxHeartbeats 0 in
open PySem.W PySem.Calls in
theorem Mj (w:World):(fun os:OsState=>segRunT treeTable pg w 11 (some (.ref 6)) 1 514 (⟨LW w.params,80,{},#[],PySem.W.boot_drawn,267,os⟩:PySem.W.SharedT) (piecesOf ((bd.drop 5).take 20) en cE ⟨13,0,16,16⟩ [topFrame ⟨0,0,0,0⟩]))=fun os=>some (.next,(⟨LX w.params,177,{},#[],PySem.W.boot_drawn,430,os⟩:PySem.W.SharedT),cE,⟨107,0,110,87⟩):=by kernel_rfl
set_option maxHeartbeats 0 in
open PySem.W PySem.Calls in
theorem Ml (w:World):(fun os:OsState=>segRunT treeTable pg w 11 (some (.ref 6)) 1 501 (⟨LX w.params,177,{},#[],PySem.W.boot_drawn,430,os⟩:PySem.W.SharedT) (piecesOf ((bd.drop 25).take 20) en cE ⟨107,0,110,87⟩ [topFrame ⟨0,0,0,0⟩]))=fun os=>some (.next,(⟨LY w.params,272,{},#[],PySem.W.boot_drawn,559,os⟩:PySem.W.SharedT),cE,⟨177,0,177,8⟩):=by kernel_rfl
set_option maxHeartbeats 0 in
open PySem.W PySem.Calls in
theorem Mm (w:World):(fun os:OsState=>segRunT treeTable pg w 11 (some (.ref 6)) 1 506 (⟨LY w.params,272,{},#[],PySem.W.boot_drawn,559,os⟩:PySem.W.SharedT) (piecesOf ((bd.drop 45).take 8) en cE ⟨177,0,177,8⟩ [topFrame ⟨0,0,0,0⟩]))=fun os=>some (.next,(⟨LZ w.params,345,{},#[],PySem.W.boot_drawn,661,os⟩:PySem.W.SharedT),cE,⟨220,0,220,8⟩):=by kernel_rfl
set_option maxHeartbeats 0 in
open PySem.W PySem.Calls in
theorem Mn (w:World):(fun os:OsState=>segRunT treeTable pg w 11 (some (.ref 6)) 1 498 (⟨LZ w.params,345,{},#[],PySem.W.boot_drawn,661,os⟩:PySem.W.SharedT) (piecesOf ((bd.drop 53).take 17) en cE ⟨220,0,220,8⟩ [topFrame ⟨0,0,0,0⟩]))=fun os=>some (.next,(⟨Cp w.params,449,{},#[],PySem.W.boot_drawn,807,os⟩:PySem.W.SharedT),cE,⟨315,0,325,84⟩):=by kernel_rfl
set_option maxHeartbeats 0 in
open PySem.W PySem.Calls in
theorem hf (w:World):(fun os:OsState=>lM treeTable pg w 11 (some (.ref 6)) 2 (⟨Cp w.params,449,{},#[],PySem.W.boot_drawn,807,os⟩:PySem.W.SharedT) ⟨doneF .next,cE,⟨315,0,325,84⟩,[topFrame ⟨0,0,0,0⟩]⟩)=fun os=>some (⟨Cp w.params,449,{},#[],PySem.W.boot_drawn,807,os⟩:PySem.W.SharedT):=by kernel_rfl
theorem hb:bd=((bd.drop 0).take 5)++(((bd.drop 5).take 20)++(((bd.drop 25).take 20)++(((bd.drop 45).take 8)++(((bd.drop 53).take 17)++[])))):=by kernel_rfl
open PySem.W PySem.Calls in
theorem hr (w:World)(os:OsState):topRun treeTable pg w 11 (some (.ref 6)) (12+(1+(741+(514+(501+(506+(498+2))))))) ⟨boot_heap w.params,Array.mk [],boot_drawn,boot_toks,os⟩ (topStub pg)=some ⟨absHeap (Cp w.params) 449 {},Array.mk [],boot_drawn,807,os⟩:=by
 have e0:=Bl (congrFun (hp w) os)
 unfold SharedT.abs at e0
 dsimp only at e0
 rw [h0] at e0
 refine go_top e0 (piece_block (segRun_of (congrFun (hq w) os)) ?_)
 have ef:=qO (congrFun (hf w) os)
 unfold SharedT.abs at ef
 rw [hb]
 refine piece_app (segRun_of (congrFun (Mi w) os)) ?_
 refine piece_app (segRun_of (congrFun (Mj w) os)) ?_
 refine piece_app (segRun_of (congrFun (Ml w) os)) ?_
 refine piece_app (segRun_of (congrFun (Mm w) os)) ?_
 refine piece_app (segRun_of (congrFun (Mn w) os)) ?_
 exact piece_nil ef
set_option maxHeartbeats 0 in
open PySem.W PySem.Calls in
theorem Kz (w:World):(fun os:OsState=>staticsOk (importedModules pg.main.body) (boot_heap w.params) (absHeap (Cp w.params) 449 {})&&namesBound pg (absHeap (Cp w.params) 449 {})&&gensDone ⟨absHeap (Cp w.params) 449 {},Array.mk [],boot_drawn,807,os⟩&&laidKept (boot_heap w.params) (absHeap (Cp w.params) 449 {}))=fun _=>true:=by kernel_rfl
set_option maxHeartbeats 0 in
open PySem.W PySem.Calls in
theorem HV (w:World):(fun os:OsState=>(openSeen qv [] (importedModules pg.main.body) xt true ⟨absHeap (Cp w.params) 449 {},Array.mk [],boot_drawn,807,os⟩).1)=fun _=>(openGood qv []).1:=by kernel_rfl
set_option maxHeartbeats 0 in
open PySem.W PySem.Calls in
theorem Mo (w:World):(fun os:OsState=>(openSeen qv [] (importedModules pg.main.body) xt true ⟨absHeap (Cp w.params) 449 {},Array.mk [],boot_drawn,807,os⟩).2)=fun _=>(openGood qv []).2:=by kernel_rfl
set_option maxHeartbeats 0 in
open PySem.W PySem.Calls in
theorem Mp (w:World):(fun os:OsState=>hk.obs ⟨absHeap (Cp w.params) 449 {},Array.mk [],boot_drawn,807,os⟩)=fun _=>hk.val w:=by kernel_rfl
theorem hl:PySem.W.LeftO lw.row.prog qv [] xt hk.obs hk.val 5636:=Jx (p:=pg) (by kernel_rfl) (by kernel_rfl) (fun _=>by kernel_rfl) (fun _=>by kernel_rfl) hr (by kernel_rfl) Kz HV Mo Mp
theorem ws:lw.wellSaid=true:=by kernel_rfl
end My
namespace L2
open PySem PySem.Spec PyProof.Rows
abbrev Key:=Sum Int Str
def Fg:Key->Value->Bool
 | .inl k,v=>Value.isInt k v
 | .inr x,v=>Value.isStrOf x v
def Lg (w:World):Key->Int
 | .inl k=>hashInt k
 | .inr x=>hashStr w x
theorem cZ:∀{k:Key} {v:Value},Fg k v=true->(∃i t,k=Sum.inl i/\v=Value.int i t)\/(∃x t,k=Sum.inr x/\v=Value.str x t)
 | .inl i,v,h=>by
  obtain⟨t,e⟩:=Value.isInt_shape (k:=i) (v:=v) h
  exact .inl ⟨i,t,rfl,e⟩
 | .inr x,v,h=>by
  obtain⟨t,e⟩:=Value.isStrOf_shape (x:=x) (v:=v) h
  exact .inr ⟨x,t,rfl,e⟩
theorem GL (a b:Int):decide ((Sum.inl a:Key)=Sum.inl b)=(a == b):=by
 by_cases e:a=b
 ·subst e;simp
 ·have h:¬ (Sum.inl a:Key)=Sum.inl b:=fun q=>e (Sum.inl.inj q)
  rw [decide_eq_false h]
  exact (beq_eq_false_iff_ne.mpr e).symm
theorem GP (a b:Str):decide ((Sum.inr a:Key)=Sum.inr b)=decide (a=b):=by
 by_cases e:a=b
 ·subst e;simp
 ·have h:¬ (Sum.inr a:Key)=Sum.inr b:=fun q=>e (Sum.inr.inj q)
  rw [decide_eq_false h,decide_eq_false e]
theorem GN (a:Int)(b:Str):decide ((Sum.inl a:Key)=Sum.inr b)=false:=decide_eq_false (fun q=>nomatch q)
theorem GO (a:Str)(b:Int):decide ((Sum.inr a:Key)=Sum.inl b)=false:=decide_eq_false (fun q=>nomatch q)
def sR (prog:Program)(w:World):PySem.KeyKind prog w Key where
 is:=Fg
 hash:=Lg w
 inj:=fun v a b ha hb=>by
  rcases cZ ha with ⟨i,t,rfl,rfl⟩ | ⟨x,t,rfl,rfl⟩
  ·rcases cZ hb with ⟨j,u,rfl,e⟩ | ⟨y,u,rfl,e⟩
   ·injection e with e1 _;rw [e1]
   ·exact nomatch e
  ·rcases cZ hb with ⟨j,u,rfl,e⟩ | ⟨y,u,rfl,e⟩
   ·exact nomatch e
   ·injection e with e1 _;rw [e1]
 byValue:=fun k v h=>by
  rcases cZ h with ⟨i,t,rfl,rfl⟩ | ⟨x,t,rfl,rfl⟩<;>rfl
 pyHash:=fun hv h=>by
  rcases cZ hv with ⟨i,t,rfl,rfl⟩ | ⟨x,t,rfl,rfl⟩
  ·exact wpAny_pyHash_int h
  ·exact wpAny_pyHash_str h
 eqBool:=fun hu hv h=>by
  rcases cZ hu with ⟨i,t,rfl,rfl⟩ | ⟨x,t,rfl,rfl⟩
  ·rcases cZ hv with ⟨j,u,rfl,rfl⟩ | ⟨y,u,rfl,rfl⟩
   ·rw [GL] at h;exact wpAny_eqBool_int h
   ·rw [GN] at h;exact SeqAt.EqAt.int_str i t y u _ _ _ _ h
  ·rcases cZ hv with ⟨j,u,rfl,rfl⟩ | ⟨y,u,rfl,rfl⟩
   ·rw [GO] at h;exact SeqAt.EqAt.str_int x t j u _ _ _ _ h
   ·rw [GP] at h;exact wpAny_eqBool_str h
 «strs»:=fun k x t v h=>by
  rcases cZ h with ⟨i,u,rfl,e⟩ | ⟨y,u,rfl,e⟩
  ·exact nomatch e
  ·injection e with e1 _
   subst e1
   cases v<;>rfl
inductive V where
 |non | bl (b:Bool) | int (i:Int) | str (x:Str) | byt (b:Array UInt8) | flt (b:UInt64) | ref (a:Addr) | ty (n:String)
 deriving DecidableEq
def RelV:V->Value->Prop
 | .non,u=>u=Value.none
 | .bl b,u=>u=Value.bool b
 | .int i,u=>∃t,u=Value.int i t
 | .str x,u=>∃t,u=Value.str x t
 | .byt b,u=>∃t,u=Value.bytes b t
 | .flt b,u=>∃t,u=Value.float b t
 | .ref a,u=>u=Value.ref a
 | .ty n,u=>u=Value.type n
abbrev Vals:List V->List Value->Prop:=Paired RelV
theorem Vals.length {xs:List V}{us:List Value}(r:Vals xs us):xs.length=us.length:=Paired.length r
theorem Vals.get:∀{xs:List V} {us:List Value} {i:Nat} {x:V},Vals xs us->xs[i]? = some x->∃u,us[i]? = some u/\RelV x u
 |_,_,_,_,.nil,e=>by simp at e
 |_,_,0,_,.cons r _,e=>by simp at e;subst e;exact⟨_,rfl,r⟩
 |_,_,i+1,x,.cons _ t,e=>by
  obtain⟨u,h1,h2⟩:=Vals.get (i:=i) (x:=x) t (by simpa using e)
  exact⟨u,by simpa using h1,h2⟩
theorem Vals.set {x:V}{u:Value}(r:RelV x u):∀{xs:List V} {us:List Value} (i:Nat),Vals xs us->Vals (xs.set i x) (us.set i u)
 |_,_,_,.nil=>.nil
 |_,_,0,.cons _ t=>.cons r t
 |_,_,i+1,.cons q t=>.cons q (Vals.set r i t)
theorem Vals.append:∀{xs ys:List V} {us ws:List Value},Vals xs us->Vals ys ws->Vals (xs++ys) (us++ws)
 |_,_,_,_,.nil,s=>s
 |_,_,_,_,.cons r t,s=>.cons r (Vals.append t s)
theorem Vals.take:∀{xs:List V} {us:List Value} (n:Nat),Vals xs us->Vals (xs.take n) (us.take n)
 |_,_,0,_=>.nil
 |_,_,_+1,.nil=>.nil
 |_,_,n+1,.cons r t=>.cons r (Vals.take n t)
theorem Vals.drop:∀{xs:List V} {us:List Value} (n:Nat),Vals xs us->Vals (xs.drop n) (us.drop n)
 |_,_,0,r=>r
 |_,_,_+1,.nil=>.nil
 |_,_,n+1,.cons _ t=>Vals.drop n t
def pI:Option V->Option Value->Prop
 |some v,some u=>RelV v u
 |none,none=>True
 |_,_=>False
def KV {κ:Type}:List (κ×V)->List (κ×Value)->Prop:=Paired fun (p:κ×V) (q:κ×Value)=>p.1=q.1/\RelV p.2 q.2
def kV:Key->V
 | .inl i=>.int i
 | .inr x=>.str x
inductive HO where
  |lst (xs:List V)
  |tup (xs:List V)
  |dK (kvs:List (Key×V)) | dT (kvs:List (List Key×V))
  |set (S:Int->Bool) (n:Nat)
  |ins (C dx:Addr) (fs:List (Str×V))
  |own (x:Addr)
  |xd (fs:List (Str×V))
  |met (f x:Addr)
  |rng (lo hi:Int)
  |frz (o:Obj) (u:HO)
  |tbl (ps:Array Value)
  |ext (φ:Heap->Prop)
abbrev Hp:=Addr->Option HO
def upd (H:Hp)(a:Addr)(o:HO):Hp:=fun b=>if b=a then some o else H b
theorem bo {H:Hp}{a:Addr}{o:HO}:upd H a o a=some o:=by unfold upd;rw [if_pos rfl]
theorem aP {H:Hp}{a b:Addr}{o:HO}(h:b≠a):upd H a o b=H b:=by unfold upd;rw [if_neg h]
theorem bz {H:Hp}{a b:Addr}{o:HO}(h:H a=some o)(h':H b=none):a≠b:=by
 intro e;subst e;rw [h] at h';cases h'
section
variable (P:Program)(w:World)
def gd (H:Hp)(h:Heap)(a:Addr):HO->Prop
 | .lst xs=>xs.length≤sizeLine/\∃(its:List Value) (n:Nat),Vals xs its/\h.get? a=some { cls:=.type "list", data:=.seq its.toArray n }
 | .tup xs=>xs.length≤sizeLine/\∃its:List Value,Vals xs its/\IsTup h a its.toArray
 | .dK kvs=>kvs.length≤sizeLine/\(a == sysModules)=false/\∃vs,KV kvs vs/\h.DictOf (sR P w) a vs
 | .dT kvs=>kvs.length≤sizeLine/\(a == sysModules)=false/\∃xs:List (List Key×Addr×Value),
   Paired (fun (p:List Key×V) (q:List Key×Addr×Value)=>p.1=q.1/\H q.2.1=some (.tup (p.1.map kV))/\RelV p.2 q.2.2) kvs xs /\
   ∃o es ep,h.get? a=some o/\o.ExactDict/\o.data=.dict es ep/\es.toList=xs.map (entryOfKey (tupleKind (sR P w)))/\(xs.map (·.1)).Nodup
 | .set S n=>h.SetOf (intKind P w) a S n
 | .ins C dx fs=>H dx=some (.own a)/\fs.length≤1000/\dx≠a/\h.get? a=some (PySem.W.instObj C dx) /\
   ∃mA,h.Ns1 dx mA/\(∀f,pI (fs.lookup f) (mA f))/\PySem.Within mA (fs.map (·.1))
 | .own _=>∃o,h.get? a=some o
 | .xd fs=>∃mA,h.Ns1 a mA/\∀f,pI (fs.lookup f) (mA f)
 | .rng lo hi=>∃t u v,h.get? a=some { cls:=.type "range", data:=.fields #[.int lo t,.int hi u,.int 1 v] }
 | .frz o u=>h.get? a=some o/\gd H h a u
 | .tbl ps=>h.get? a=some { cls:=.none,data:=.fields ps }
 | .met f x=>h.get? a=some (PySem.W.methodObj (.ref f) (.ref x))
 | .ext φ=>φ h/\(∃o,h.get? a=some o)/\∀h1 h2:Heap,φ h1->(∀o,h1.get? a=some o->h2.get? a=some o)->φ h2
def mK (H:Hp)(h:Heap):Prop:=∀a o,H a=some o->gd P w H h a o
end
section
variable {P:Program}{w:World}{H H':Hp}{h h':Heap}{a:Addr}{o:HO}
theorem gd.lt (x:gd P w H h a o):a<h.objs.size:=by
 cases o with
 |lst xs=>obtain⟨_,_,_,_,e⟩:=x;exact Heap.lt_size e
 |tup xs=>obtain⟨_,_,_,p⟩:=x;exact p.lt
 |dK kvs=>obtain⟨_,_,_,_,o,_,_,e,_⟩:=x;exact Heap.lt_size e
 |dT kvs=>obtain⟨_,_,_,_,o,_,_,e,_⟩:=x;exact Heap.lt_size e
 |set S n=>obtain⟨o,_,_,_,e,_⟩:=x;exact Heap.lt_size e
 |ins C dx fs=>obtain⟨_,_,_,e,_⟩:=x;exact Heap.lt_size e
 |own y=>obtain⟨_,e⟩:=x;exact Heap.lt_size e
 |xd fs=>obtain⟨_,⟨_,_,_,e,_⟩,_⟩:=x;exact Heap.lt_size e
 |rng lo hi=>obtain⟨_,_,_,e⟩:=x;exact Heap.lt_size e
 |frz ob u=>obtain⟨e,_⟩:=x;exact Heap.lt_size e
 |tbl ps=>exact Heap.lt_size (show h.get? a=some _ from x)
 |met f y=>exact Heap.lt_size (show h.get? a=some _ from x)
 |ext φ=>obtain⟨_,⟨_,e⟩,_⟩:=x;exact Heap.lt_size e
theorem Paired.mapP {α β:Type}{F G:α->β->Prop}:∀{l₁:List α} {l₂:List β},Paired F l₁ l₂->(∀a b,F a b->G a b)->Paired G l₁ l₂
 |_,_,.nil,_=>.nil
 |_,_,.cons r t,f=>.cons (f _ _ r) (Paired.mapP t f)
theorem gd.stay (x:gd P w H h a o)(k:∀b u,(b=a\/H b=some (.own a))->h.get? b=some u->h'.get? b=some u)
  (ho:∀b,H b=some (.own a)->H' b=some (.own a)) (ht:∀b xs,H b=some (.tup xs)->H' b=some (.tup xs)):gd P w H' h' a o:=by
 induction o with
 |lst xs=>obtain⟨z,its,n,r,e⟩:=x;exact⟨z,its,n,r,k _ _ (.inl rfl) e⟩
 |tup xs=>obtain⟨z,its,r,ob,e,c⟩:=x;exact⟨z,its,r,ob,k _ _ (.inl rfl) e,c⟩
 |dK kvs=>obtain⟨z,y,vs,r,ob,es,ep,e,c⟩:=x;exact⟨z,y,vs,r,ob,es,ep,k _ _ (.inl rfl) e,c⟩
 |dT kvs =>
  obtain⟨z,y,xs,r,ob,es,ep,e,c⟩:=x
  exact⟨z,y,xs,Paired.mapP r fun p q z=>⟨z.1,ht _ _ z.2.1,z.2.2⟩,ob,es,ep,k _ _ (.inl rfl) e,c⟩
 |set S n=>obtain⟨ob,es,ep,t,e,c⟩:=x;exact⟨ob,es,ep,t,k _ _ (.inl rfl) e,c⟩
 |ins C dx fs =>
  obtain⟨d,z,ne,e,mA,⟨od,es,ep,e2,c⟩,r⟩:=x
  exact⟨ho _ d,z,ne,k _ _ (.inl rfl) e,mA,⟨od,es,ep,k _ _ (.inr d) e2,c⟩,r⟩
 |own y=>obtain⟨ob,e⟩:=x;exact⟨ob,k _ _ (.inl rfl) e⟩
 |xd fs=>obtain⟨mA,⟨od,es,ep,e,c⟩,r⟩:=x;exact⟨mA,⟨od,es,ep,k _ _ (.inl rfl) e,c⟩,r⟩
 |rng lo hi=>obtain⟨t,u,v,e⟩:=x;exact⟨t,u,v,k _ _ (.inl rfl) e⟩
 |frz ob u ih=>obtain⟨e,q⟩:=x;exact⟨k _ _ (.inl rfl) e,ih q⟩
 |tbl ps =>
  have e:h.get? a=some { cls:=.none,data:=.fields ps }:=x
  show h'.get? a=some { cls:=.none,data:=.fields ps }
  exact k a _ (.inl rfl) e
 |met f y =>
  have e:h.get? a=some (PySem.W.methodObj (.ref f) (.ref y)):=x
  show h'.get? a=some (PySem.W.methodObj (.ref f) (.ref y))
  exact k a _ (.inl rfl) e
 |ext φ=>obtain⟨p,⟨o,e⟩,st⟩:=x;exact⟨st _ _ p fun o q=>k _ _ (.inl rfl) q,⟨o,k _ _ (.inl rfl) e⟩,st⟩
theorem mK.lt (x:mK P w H h)(e:H a=some o):a<h.objs.size:=(x a o e).lt
theorem mK.fresh (x:mK P w H h)(e:h.objs.size≤a):H a=none:=by
 cases q:H a with
 |none=>rfl
 |some u=>exact absurd (Nat.lt_of_lt_of_le (x.lt q) e) (Nat.lt_irrefl _)
theorem mK.kept (x:mK P w H h)(k:∀b u,h.get? b=some u->h'.get? b=some u):mK P w H h':=fun a o e =>
 (x a o e).stay (fun b u _ q=>k b u q) (fun _ q=>q) fun _ _ q=>q
theorem mK.laid (x:mK P w H h)(k:∀b u,h.get? b=some u->h'.get? b=some u)(hp:h.objs.size≤a)(new:gd P w (upd H a o) h' a o):mK P w (upd H a o) h':=fun b u e=>by
 have hn:=x.fresh hp
 by_cases hb:b=a
 ·subst hb;rw [bo] at e;cases e;exact new
 ·rw [aP hb] at e
  exact (x b u e).stay (fun c v _ q=>k c v q) (fun c q=>by rw [aP (bz q hn)];exact q) fun c xs q=>by rw [aP (bz q hn)];exact q
end
def Rd (H:Hp)(a:Addr)(u:HO):Prop:=H a=some u\/∃o,H a=some (.frz o u)
theorem Rd.ok {P:Program}{w:World}{H:Hp}{h:Heap}{a:Addr}{u:HO}(r:Rd H a u)(x:mK P w H h):gd P w H h a u:=by
 rcases r with r | ⟨o,r⟩
 ·exact x a u r
 ·obtain⟨_,q⟩:=x a _ r
  exact q
def Kn:Option HO->Prop
 |some (.lst _)=>True
 |some (.dK _)=>True
 |some (.dT _)=>True
 |some (.set _ _)=>True
 |some (.ins _ _ _)=>True
 |some (.ext _)=>True
 |_=>False
section
variable {P:Program}{w:World}{H:Hp}{h h':Heap}{x e:Addr}{o':HO}
theorem mK.write (ok:mK P w H h)(mu:Kn (H x))(he:e=x\/H e=some (.own x))(k:∀b u,b≠e->h.get? b=some u->h'.get? b=some u)(heo:∃u,h'.get? e=some u)
  (new:gd P w (upd H x o') h' x o'):mK P w (upd H x o') h':=fun b u q=>by
 have nown:∀c y,H c=some (.own y)->c≠x:=fun c y r z=>by subst z;rw [r] at mu;exact mu
 have ntup:∀c xs,H c=some (.tup xs)->c≠x:=fun c xs r z=>by subst z;rw [r] at mu;exact mu
 by_cases hb:b=x
 ·subst hb;rw [bo] at q;cases q;exact new
 ·rw [aP hb] at q
  by_cases hbe:b=e
  ·have q':H b=some (.own x):=by
    rcases he with z | z
    ·exact absurd (hbe.trans z) hb
    ·rw [hbe];exact z
   rw [q] at q';cases q'
   obtain⟨v,hv⟩:=heo
   exact⟨v,by rw [hbe];exact hv⟩
  ·refine (ok b u q).stay (fun c v hc r=>k c v ?_ r) (fun c r=>by rw [aP (nown c b r)];exact r) fun c xs r=>by rw [aP (ntup c xs r)];exact r
   rcases hc with rfl | hc
   ·exact hbe
   ·rintro rfl
    rcases he with z | z
    ·exact nown c b hc z
    ·rw [hc] at z;cases z;exact hb rfl
end
structure Un (fs ex:List Addr)(H H':Hp)(h h':Heap):Prop where
 keep:∀b o,h.get? b=some o->H b=none->b∉fs->b∉ex->h'.get? b=some o
 slot:∀b o,h.get? b=some o->H b=none->b∈fs->b∉ex->∃sl,h'.get? b=some { o with slots:=sl }
 free:∀b o,h.get? b=some o->H b=none->b∉ex->H' b=none
 there:∀b o,h.get? b=some o->b∉ex->∃o',h'.get? b=some o'
 tups:∀b xs,H b=some (.tup xs)->H' b=some (.tup xs)
 frzs:∀b o u,H b=some (.frz o u)->H' b=some (.frz o u)
 tbls:∀b ps,H b=some (.tbl ps)->∃more,H' b=some (.tbl (ps++more))
section
variable {fs fs' ex ex':List Addr}{H H1 H2:Hp}{h h1 h2 h':Heap}{a x e:Addr}{o:HO}
theorem Un.any (u:Un fs ex H H1 h h1){b:Addr}{ob:Obj}(q:h.get? b=some ob)(n:H b=none)(hx:b∉ex):∃sl,h1.get? b=some { ob with slots:=sl }:=by
 by_cases hb:b∈fs
 ·exact u.slot b ob q n hb hx
 ·exact⟨ob.slots,u.keep b ob q n hb hx⟩
theorem Un.kept (k:∀b u,h.get? b=some u->h'.get? b=some u):Un fs ex H H h h':=
 ⟨fun b ob q _ _ _=>k b ob q,fun b ob q _ _ _=>⟨ob.slots,k b ob q⟩,fun _ _ _ n _=>n,fun b ob q _=>⟨ob,k b ob q⟩,fun _ _ q=>q,fun _ _ _ q=>q,fun _ ps q=>⟨#[],by rw [q];simp⟩⟩
theorem Un.refl:Un fs ex H H h h:=Un.kept fun _ _ q=>q
theorem Un.laid (k:∀b u,h.get? b=some u->h'.get? b=some u)(hp:h.objs.size≤a)(hn:H a=none):Un fs ex H (upd H a o) h h' where
 keep:=fun b u q _ _ _=>k b u q
 slot:=fun b u q _ _ _=>⟨u.slots,k b u q⟩
 free:=fun b u q n _=>by rw [aP (Nat.ne_of_lt (Nat.lt_of_lt_of_le (Heap.lt_size q) hp))];exact n
 there:=fun b u q _=>⟨u,k b u q⟩
 tups:=fun b xs q=>by rw [aP (bz q hn)];exact q
 frzs:=fun b u xs q=>by rw [aP (bz q hn)];exact q
 tbls:=fun b ps q=>⟨#[],by rw [aP (bz q hn),q];simp⟩
theorem Un.write (mu:Kn (H x))(he:e=x\/H e=some (.own x))(k:∀b u,b≠e->h.get? b=some u->h'.get? b=some u)(heo:∃u,h'.get? e=some u):Un fs ex H (upd H x o) h h':=by
 have hx:∀b,H b=none->b≠x:=fun b n z=>by subst z;rw [n] at mu;exact mu
 have hb:∀b,H b=none->b≠e:=fun b n z=>by
  subst z
  rcases he with r | r
  ·exact hx b n r
  ·rw [n] at r;cases r
 have hm:∀b u,H b=some u->¬ Kn (some u)->b≠x:=fun b u q nm z=>by subst z;rw [q] at mu;exact nm mu
 refine⟨fun b u q n _ _=>k b u (hb b n) q,fun b u q n _ _=>⟨u.slots,k b u (hb b n) q⟩,fun b u q n _=>by rw [aP (hx b n)];exact n,fun b u q _=>?_,
  fun b xs q=>by rw [aP (hm b _ q fun z=>z)];exact q,fun b u xs q=>by rw [aP (hm b _ q fun z=>z)];exact q,fun b ps q=>⟨#[],by rw [aP (hm b _ q fun z=>z),q];simp⟩⟩
 by_cases hbe:b=e
 ·subst hbe;exact heo
 ·exact⟨u,k b u hbe q⟩
end
def KH (h:Heap)(H:Hp):List Addr:=(List.range h.objs.size).filter fun a=>(H a).isSome
def rR (h:Heap)(H:Hp):Heap:=PySem.W.hideAll h (KH h H)
theorem zS (h:Heap)(H:Hp):(rR h H).objs.size=h.objs.size:=PySem.W.hideAll_size _ _
theorem Bn {h:Heap}{H:Hp}{b:Addr}{o:Obj}(e:h.get? b=some o)(n:H b=none):(rR h H).get? b=some o:=
 PySem.W.hideAll_get _ e fun hm=>by
  have q:(H b).isSome=true:=(List.mem_filter.mp hm).2
  rw [n] at q;simp at q
theorem DS {h:Heap}{H:Hp}{b:Addr}{o:Obj}(e:(rR h H).get? b=some o):h.get? b=some o/\H b=none:=by
 have e':h.get? b=some o:=PySem.W.of_hideAll (KH h H) e
 refine⟨e',?_⟩
 cases q:H b with
 |none=>rfl
 |some x =>
  have hm:b∈KH h H:=List.mem_filter.mpr ⟨List.mem_range.mpr (Heap.lt_size e'),by simp [q]⟩
  have z:(rR h H).get? b=none:=PySem.W.hideAll_none (KH h H) hm
  rw [z] at e;cases e
structure Mod (K:PySem.W.Frag)(mg:Str->Option Value)(base:Heap):Prop where
 kin:K.In base
 glob:base.Ns mainGlobals mg
 blt:∃mb,base.Ns builtinsNs mb/\∀x:Str,x≠"__name__"->mb x=bootBuiltins x
 nolimit:base.NoLimit
structure Cx where
 prog:Program
 w:World
 K:PySem.W.Frag
 mg:Str->Option Value
 base:Heap
 A:Around
 N:List Str
 Y8:Shared
 Y9:Hp
 env:Env
 outer:List Env
 stack:List Env
 ex:List Addr
 fn:Str->Bool
 calm:Bool
 pn:List (Addr×Obj)
 xe:Value->Shared->Prop
def AI (l:List Env):List Addr:=l.filterMap (·.frame)
abbrev Cx.fs (X:Cx):List Addr:=AI X.outer
def Iv (sc:Scope)(x:Str):Prop:=sc.names.lookup x=some .local\/sc.names.lookup x=some .cell\/sc.names.lookup x=some .free
def Loc (sc:Scope)(x:Str):Prop:=sc.names.lookup x=some .local\/sc.names.lookup x=some .cell
def Look (env:Env)(h:Heap)(m:Str->Option Value)(x:Str)(u:Value):Prop:=
 (env.kindOf x=some .local/\m x=some u)\/((env.kindOf x=some .cell\/env.kindOf x=some .free)/\∃c,env.cells.lookup x=some c/\h.IsCell c (some u))
structure Cx.Ok (X:Cx):Prop where
 mod:Mod X.K X.mg X.base
 kind:X.env.scope.kind=.function
 glob:X.env.globals=mainGlobals
 blt:X.env.builtins=builtinsNs
 above:X.Y8.heap.objs.size≤X.env.locals
 inj:∀x y c,X.env.cells.lookup x=some c->X.env.cells.lookup y=some c->x=y
 has:∀x,(X.env.kindOf x=some .cell\/X.env.kindOf x=some .free)->∃c,X.env.cells.lookup x=some c
 cab:∀x c,X.fn x=true->X.env.cells.lookup x=some c->X.Y8.heap.objs.size≤c
 hd:X.calm=true->X.A.handled=none
 frames:X.A.frames=some X.stack
 stk:X.stack=X.outer\/(X.stack=X.env::X.outer/\X.env.frame=some X.env.locals)
 exf:∀b∈X.ex,b≠X.env.locals/\∀x c,X.env.cells.lookup x=some c->c≠b
 bs:∀b o,X.base.get? b=some o->X.Y8.heap.get? b=some o/\X.Y9 b=none
 bsz:X.base.objs.size≤X.Y8.heap.objs.size
 noex:∀b o,X.base.get? b=some o->b∉X.ex
 exfs:∀b∈X.ex,b∉X.fs
 funs:X.Y8.heap.FunFrames X.base X.outer
 frf:∀b∈X.fs,X.Y9 b=none
structure Inv (X:Cx)(pins:List (Addr×Obj))(σ:List (Option V))(H:Hp)(s:Shared):Prop where
 ok:X.Ok
 os:s.os=X.Y8.os
 bare:AllBare s.gens
 base:Un X.fs X.ex X.Y9 H X.Y8.heap s.heap
 loc:∃m,s.heap.Ns X.env.locals m/\∀(i:Nat) (x:Str) (v:V),X.N[i]? = some x->σ[i]? = some (some v)->Iv X.env.scope x->∃u,RelV v u/\Look X.env s.heap m x u
 cell:∀x c,X.env.cells.lookup x=some c->∃v,s.heap.IsCell c v
 free:H X.env.locals=none
 freeC:∀x c,X.env.cells.lookup x=some c->H c=none
 pin:∀p∈X.pn++pins,s.heap.get? p.1=some p.2/\H p.1=none/\p.1≠X.env.locals/\p.1∉X.fs/\∀v,p.2.data≠.cell v
 hok:mK X.prog X.w H s.heap
 len:σ.length=X.N.length
section
variable {X:Cx}{pins:List (Addr×Obj)}{σ:List (Option V)}{H H':Hp}{s:Shared}{h':Heap}
theorem Cx.Ok.nofr (ok:X.Ok){b:Addr}{o:Obj}(e:X.base.get? b=some o):b∉X.fs:=fun hb=>by
 have:=(ok.funs.mem hb).1
 rw [e] at this;cases this
theorem Inv.bs (I:Inv X pins σ H s):∀b o,X.base.get? b=some o->s.heap.get? b=some o/\H b=none:=fun b o e =>
 ⟨I.base.keep b o (I.ok.bs b o e).1 (I.ok.bs b o e).2 (I.ok.nofr e) (I.ok.noex b o e),I.base.free b o (I.ok.bs b o e).1 (I.ok.bs b o e).2 (I.ok.noex b o e)⟩
theorem Inv.bk (I:Inv X pins σ H s):∀b o,X.base.get? b=some o->s.heap.get? b=some o:=fun b o e=>(I.bs b o e).1
theorem Inv.mod (I:Inv X pins σ H s):Mod X.K X.mg X.base:=I.ok.mod
theorem Inv.kIn (I:Inv X pins σ H s):X.K.In s.heap:=I.ok.mod.kin.keeps I.bk
theorem Inv.lt (I:Inv X pins σ H s):X.env.locals<s.heap.objs.size:=let ⟨_,hn,_⟩:=I.loc;hn.lt
theorem Inv.sz (I:Inv X pins σ H s):X.Y8.heap.objs.size≤s.heap.objs.size:=Nat.le_trans I.ok.above (Nat.le_of_lt I.lt)
theorem Inv.nofs (I:Inv X pins σ H s){a:Addr}(h:s.heap.objs.size≤a):a∉X.fs:=fun hb=>by
 obtain⟨_,o,ho,_⟩:=I.ok.funs.mem hb
 exact absurd (Nat.lt_of_lt_of_le (Heap.lt_size ho) (Nat.le_trans I.sz h)) (Nat.lt_irrefl _)
theorem Inv.cne (I:Inv X pins σ H s):∀x c,X.env.cells.lookup x=some c->c≠X.env.locals:=fun x c e z=>by
 obtain⟨v,o,ho,hd⟩:=I.cell x c e
 obtain⟨m,⟨o',es,ep,ho',hd',_⟩,_⟩:=I.loc
 rw [z,ho'] at ho;cases ho;rw [hd'] at hd;cases hd
theorem Inv.funs (I:Inv X pins σ H s):s.heap.FunFrames X.base X.outer:=by
 have all:∀(l:List Env),(∀b∈AI l,b∈X.fs)->X.Y8.heap.FunFrames X.base l->s.heap.FunFrames X.base l:=by
  intro l
  induction l with
  |nil=>intro _ _;trivial
  |cons env r ih =>
   intro hs hl
   obtain⟨hk,⟨L,o,hf,hn,ho,hd⟩,hr⟩:=hl
   have hL:L∈X.fs:=hs L (by unfold AI;rw [List.filterMap_cons,hf];exact List.mem_cons_self)
   obtain⟨sl,e⟩:=I.base.slot L o ho (I.ok.frf L hL) hL fun z=>I.ok.exfs L z hL
   exact⟨hk,⟨L,_,hf,hn,e,hd⟩,ih (fun b hb=>hs b (by unfold AI;rw [List.filterMap_cons,hf];exact List.mem_cons_of_mem _ hb)) hr⟩
 exact all X.outer (fun _ hb=>hb) I.ok.funs
theorem Inv.stack (I:Inv X pins σ H s):s.heap.FunFrames X.base X.stack:=by
 rcases I.ok.stk with e | ⟨e,hf⟩
 ·rw [e];exact I.funs
 ·rw [e]
  obtain⟨m,hn,_⟩:=I.loc
  refine .cons (by rw [I.ok.kind];decide) hf hn ?_ I.funs
  exact Heap.get?_none_of_le (Nat.le_trans I.ok.bsz I.ok.above)
theorem Inv.stkSub (I:Inv X pins σ H s):∀b∈AI X.stack,b∈X.env.locals::X.fs:=fun b hb=>by
 rcases I.ok.stk with e | ⟨e,hf⟩
 ·rw [e] at hb;exact List.mem_cons_of_mem _ hb
 ·rw [e] at hb
  unfold AI at hb
  rw [List.filterMap_cons,hf] at hb
  exact hb
theorem Inv.stkFree (I:Inv X pins σ H s):∀b∈AI X.stack,H b=none:=fun b hb=>by
 rcases List.mem_cons.mp (I.stkSub b hb) with e | hb
 ·rw [e];exact I.free
 ·obtain⟨_,o,ho,_⟩:=I.ok.funs.mem hb
  exact I.base.free b o ho (I.ok.frf b hb) fun z=>I.ok.exfs b z hb
theorem Inv.step {g':Array GenState}{t':Nat}{d':Drawn}{ch:List Addr}(I:Inv X pins σ H s)
  (hch:∀b∈ch,(b∈X.ex\/X.Y8.heap.objs.size≤b)/\b≠X.env.locals/\(∀x c,X.env.cells.lookup x=some c->c≠b)/\∀p∈X.pn++pins,p.1≠b)
  (keep:∀b o,b≠X.env.locals->b∉X.fs->b∉ch->s.heap.get? b=some o->H b=none->h'.get? b=some o)
  (slot:∀b o,b≠X.env.locals->b∈X.fs->b∉ch->s.heap.get? b=some o->H b=none->∃sl,h'.get? b=some { o with slots:=sl }) (free:∀b o,b∉ch->s.heap.get? b=some o->H b=none->H' b=none)
  (there:∀b o,b∉ch->s.heap.get? b=some o->∃o',h'.get? b=some o')
  (tups:∀b xs,H b=some (.tup xs)->H' b=some (.tup xs)) (frzs:∀b o u,H b=some (.frz o u)->H' b=some (.frz o u)) (tbls:∀b ps,H b=some (.tbl ps)->∃more,H' b=some (.tbl (ps++more)))
  (ns:∀m,s.heap.Ns X.env.locals m->h'.Ns X.env.locals m) (hok:mK X.prog X.w H' h') (hg:AllBare g'):
  Inv X pins σ H' { s with heap:=h',gens:=g',drawn:=d',toks:=t' }:=by
 have neL:∀b o,X.Y8.heap.get? b=some o->b≠X.env.locals:=fun b o e=>Nat.ne_of_lt (Nat.lt_of_lt_of_le (Heap.lt_size e) I.ok.above)
 have neC:∀b o,X.Y8.heap.get? b=some o->b∉X.ex->b∉ch:=fun b o e hx hb=>by
  rcases (hch b hb).1 with z | z
  ·exact hx z
  ·exact absurd (Nat.lt_of_lt_of_le (Heap.lt_size e) z) (Nat.lt_irrefl _)
 have cellK:∀x c,X.env.cells.lookup x=some c->∀v,s.heap.IsCell c v->h'.IsCell c v:=fun x c e v hq__=>by
  obtain⟨o,ho,hd⟩:=hq__
  have nch:c∉ch:=fun z=>(hch c z).2.2.1 x c e rfl
  by_cases hc:c∈X.fs
  ·obtain⟨sl,q⟩:=slot c o (I.cne x c e) hc nch ho (I.freeC x c e)
   exact⟨_,q,hd⟩
  ·exact⟨o,keep c o (I.cne x c e) hc nch ho (I.freeC x c e),hd⟩
 refine⟨I.ok,I.os,hg,⟨fun b o e n hb hx=>?_,fun b o e n hb hx=>?_,fun b o e n hx=>?_,fun b o e hx=>?_,fun b xs e=>tups b xs (I.base.tups b xs e),fun b o xs e=>frzs b o xs (I.base.frzs b o xs e),fun b ps e=>?_⟩,?_,fun x c e=>?_,?_,fun x c e=>?_,fun p hp=>?_,hok,I.len⟩
 ·exact keep b o (neL b o e) hb (neC b o e hx) (I.base.keep b o e n hb hx) (I.base.free b o e n hx)
 ·obtain⟨sl,e1⟩:=I.base.slot b o e n hb hx
  obtain⟨sl',e2⟩:=slot b _ (neL b o e) hb (neC b o e hx) e1 (I.base.free b o e n hx)
  exact⟨sl',e2⟩
 ·obtain⟨o',e1⟩:=I.base.there b o e hx
  exact free b o' (neC b o e hx) e1 (I.base.free b o e n hx)
 ·obtain⟨o',e1⟩:=I.base.there b o e hx
  exact there b o' (neC b o e hx) e1
 ·obtain⟨m1,e1⟩:=I.base.tbls b ps e
  obtain⟨m2,e2⟩:=tbls b _ e1
  exact⟨m1++m2,by rw [e2,Array.append_assoc]⟩
 ·obtain⟨m,hn,hl⟩:=I.loc
  refine⟨m,ns m hn,fun i x v e1 e2 e3=>?_⟩
  obtain⟨u,r,l⟩:=hl i x v e1 e2 e3
  refine⟨u,r,?_⟩
  rcases l with l | ⟨k,c,e,z⟩
  ·exact .inl l
  ·exact .inr ⟨k,c,e,cellK x c e _ z⟩
 ·obtain⟨v,z⟩:=I.cell x c e
  exact⟨v,cellK x c e v z⟩
 ·obtain⟨m,⟨o,_,_,ho,_⟩,_⟩:=I.loc
  exact free _ o (fun z=>(hch _ z).2.1 rfl) ho I.free
 ·obtain⟨v,o,ho,hd⟩:=I.cell x c e
  exact free c o (fun z=>(hch c z).2.2.1 x c e rfl) ho (I.freeC x c e)
 ·obtain⟨e,n,ne,nf,d⟩:=I.pin p hp
  have nch:p.1∉ch:=fun z=>(hch p.1 z).2.2.2 p hp rfl
  exact⟨keep p.1 p.2 ne nf nch e n,free p.1 p.2 nch e n,ne,nf,d⟩
theorem Inv.un {t':Nat}(I:Inv X pins σ H s)(u:Un X.fs [] H H' s.heap h')(hok:mK X.prog X.w H' h'):Inv X pins σ H' { s with heap:=h',toks:=t' }:=by
 obtain⟨m,⟨o,es,ep,ho,r⟩,_⟩:=id I.loc
 obtain⟨sl,hL⟩:=u.any ho I.free (by simp)
 exact I.step (g':=s.gens) (d':=s.drawn) (ch:=[]) (fun _ z=>nomatch z) (fun b o _ hb _ e n=>u.keep b o e n hb (by simp)) (fun b o _ hb _ e n=>u.slot b o e n hb (by simp)) (fun b o _ e n=>u.free b o e n (by simp)) (fun b o _ e=>u.there b o e (by simp)) u.tups u.frzs u.tbls (fun m' hm=>by
  obtain⟨o',es',ep',ho',r'⟩:=hm
  rw [ho] at ho';cases ho'
  exact⟨_,es',ep',hL,r'⟩) hok I.bare
theorem Inv.call {g':Array GenState}{t':Nat}{d':Drawn}{ch:List Addr}(I:Inv X pins σ H s)(u:Un (AI X.stack) ch H H' s.heap h')(hok:mK X.prog X.w H' h')(hg:AllBare g')
  (hch:∀b∈ch,(b∈X.ex\/X.Y8.heap.objs.size≤b)/\b≠X.env.locals/\(∀x c,X.env.cells.lookup x=some c->c≠b)/\∀p∈X.pn++pins,p.1≠b):
  Inv X pins σ H' { s with heap:=h',gens:=g',drawn:=d',toks:=t' }:=by
 obtain⟨m,⟨o,es,ep,ho,r⟩,_⟩:=id I.loc
 obtain⟨sl,hL⟩:=u.any ho I.free fun z=>(hch _ z).2.1 rfl
 exact I.step (ch:=ch) hch (fun b o hL hb hc e n=>u.keep b o e n (fun z=>(List.mem_cons.mp (I.stkSub b z)).elim hL hb) hc) (fun b o _ _ hc e n=>u.any e n hc) (fun b o hc e n=>u.free b o e n hc) (fun b o hc e=>u.there b o e hc) u.tups u.frzs u.tbls (fun m' hm=>by
  obtain⟨o',es',ep',ho',r'⟩:=hm
  rw [ho] at ho';cases ho'
  exact⟨_,es',ep',hL,r'⟩) hok hg
theorem Inv.turned {t':Nat}{it:Addr}(I:Inv X pins σ H s)(k:∀b o,b≠it->s.heap.get? b=some o->h'.get? b=some o)(hn:H it=none)(hL:it≠X.env.locals)
  (h1:it∈X.ex\/X.Y8.heap.objs.size≤it) (h2:∀x c,X.env.cells.lookup x=some c->c≠it) (h3:∀p∈X.pn++pins,p.1≠it):Inv X pins σ H { s with heap:=h',toks:=t' }:=by
 have nit:∀b u,H b=some u->b≠it:=fun b u e z=>by rw [z,hn] at e;cases e
 refine I.step (g':=s.gens) (d':=s.drawn) (ch:=[it]) (fun b hb=>?_) (fun b o _ _ hc e _=>k b o (fun z=>hc (by simp [z])) e) (fun b o _ _ hc e _=>⟨o.slots,k b o (fun z=>hc (by simp [z])) e⟩) (fun _ _ _ _ n=>n)
  (fun b o hc e=>⟨o,k b o (fun z=>hc (by simp [z])) e⟩) (fun _ _ e=>e) (fun _ _ _ e=>e) (fun b ps e=>⟨#[],by rw [e];simp⟩) (fun m hm=>?_) (fun b u e=>?_) I.bare
 ·have e:b=it:=by simpa using hb
  subst e
  exact⟨h1,hL,h2,h3⟩
 ·obtain⟨o,es,ep,ho,r⟩:=hm
  exact⟨o,es,ep,k _ o (Ne.symm hL) ho,r⟩
 ·refine (I.hok b u e).stay (fun c v hc q=>k c v ?_ q) (fun _ q=>q) fun _ _ q=>q
  rcases hc with z | z
  ·rw [z];exact nit b u e
  ·exact nit c _ z
theorem Inv.tok (I:Inv X pins σ H s)(t:Nat):Inv X pins σ H { s with toks:=t }:=I.un (h':=s.heap) (t':=t) Un.refl I.hok
theorem Inv.kept {t':Nat}(I:Inv X pins σ H s)(k:∀b u,s.heap.get? b=some u->h'.get? b=some u):Inv X pins σ H { s with heap:=h',toks:=t' }:=I.un (Un.kept k) (I.hok.kept k)
theorem Inv.laid {a:Addr}{o:HO}{t':Nat}(I:Inv X pins σ H s)(k:∀b u,s.heap.get? b=some u->h'.get? b=some u)(hp:s.heap.objs.size≤a)(new:gd X.prog X.w (upd H a o) h' a o):
  Inv X pins σ (upd H a o) { s with heap:=h',toks:=t' }:=I.un (Un.laid k hp (I.hok.fresh hp)) (I.hok.laid k hp new)
theorem Inv.write {x e:Addr}{o:HO}{t':Nat}(I:Inv X pins σ H s)(mu:Kn (H x))(he:e=x\/H e=some (.own x))(k:∀b u,b≠e->s.heap.get? b=some u->h'.get? b=some u)(heo:∃u,h'.get? e=some u)
  (new:gd X.prog X.w (upd H x o) h' x o):Inv X pins σ (upd H x o) { s with heap:=h',toks:=t' }:=I.un (Un.write mu he k heo) (I.hok.write mu he k heo new)
theorem Inv.pins_of {pins':List (Addr×Obj)}(I:Inv X pins σ H s)(h:∀p∈pins',s.heap.get? p.1=some p.2/\H p.1=none/\p.1≠X.env.locals/\p.1∉X.fs/\∀v,p.2.data≠.cell v):Inv X pins' σ H s:=
 ⟨I.ok,I.os,I.bare,I.base,I.loc,I.cell,I.free,I.freeC,fun p hp=>(List.mem_append.mp hp).elim (fun z=>I.pin p (List.mem_append_left _ z)) (h p),I.hok,I.len⟩
theorem vh {N:List Str}(hN:N.Nodup){i j:Nat}{x:Str}(a:N[i]? = some x)(b:N[j]? = some x):i=j:=by
 obtain⟨h1,e1⟩:=List.getElem?_eq_some_iff.mp a
 obtain⟨h2,e2⟩:=List.getElem?_eq_some_iff.mp b
 exact (List.getElem_inj hN).mp (e1.trans e2.symm)
theorem qM {M:Model}{A:Around}{E:Value->Shared->Prop}{i:Nat}{x:Str}{v:V}{u:Value}{Q:Unit->Shared->Prop}(I:Inv X pins σ H s)(hN:X.N.Nodup)(hi:X.N[i]? = some x)(hx:Loc X.env.scope x)(r:RelV v u)
  (h:∀s',Inv X pins (σ.set i (some v)) H s'->(∃a,Heap.SameBut a s.heap s'.heap/\(a=X.env.locals\/X.env.cells.lookup x=some a))->Q () s') (hf:X.fn x=true\/X.env.scope.names.lookup x=some .local:=by first | exact .inl rfl | exact .inr rfl | assumption):wpAny M A (storeName X.env x u) Q E s:=by
 obtain⟨m,hn,hl⟩:=id I.loc
 have hcls:(X.env.scope.kind == .class||(X.env.scope.kind == .module&&X.env.locals != X.env.globals))=false:=by rw [I.ok.kind];rfl
 have hiσ:i<σ.length:=by rw [I.len];exact (List.getElem?_eq_some_iff.mp hi).1
 have cne:=I.cne
 have tracked:∀{a:Addr} {h':Heap},(∃o,s.heap.get? a=some o/\H a=none)->Heap.SameBut a s.heap h'->mK X.prog X.w H h':=fun {a h'} ha hs b ob e=>by
  obtain⟨_,_,hfree⟩:=ha
  refine (I.hok b ob e).stay (fun c w' hc q=>(hs.2 c ?_).trans q) (fun _ q=>q) fun _ _ q=>q
  rintro rfl
  rcases hc with rfl | hc
  ·rw [hfree] at e;cases e
  ·rw [hfree] at hc;cases hc
 rcases hx with hk | hk
 ·refine wpAny_storeName_local hk hn (fun h' hn' hs=>?_) hcls
  obtain⟨oL,_,_,hoL,_⟩:=id hn
  refine h _ ⟨I.ok,I.os,I.bare,⟨fun b o e n hb hx=>?_,fun b o e n hb hx=>?_,I.base.free,fun b o e hx=>?_,I.base.tups,I.base.frzs,I.base.tbls⟩,⟨_,hn',fun j y v' e1 e2 e3=>?_⟩,fun y c e=>?_,I.free,I.freeC,fun p hp=>?_,tracked ⟨oL,hoL,I.free⟩ hs,by simpa using I.len⟩ ⟨_,hs,.inl rfl⟩
  ·exact (hs.2 b (Nat.ne_of_lt (Nat.lt_of_lt_of_le (Heap.lt_size e) I.ok.above))).trans (I.base.keep b o e n hb hx)
  ·obtain⟨sl,e1⟩:=I.base.slot b o e n hb hx
   exact⟨sl,(hs.2 b (Nat.ne_of_lt (Nat.lt_of_lt_of_le (Heap.lt_size e) I.ok.above))).trans e1⟩
  ·obtain⟨o',e1⟩:=I.base.there b o e hx
   exact⟨o',(hs.2 b (Nat.ne_of_lt (Nat.lt_of_lt_of_le (Heap.lt_size e) I.ok.above))).trans e1⟩
  ·by_cases hj:j=i
   ·subst hj
    rw [hi] at e1;cases e1
    rw [List.getElem?_set_self hiσ] at e2
    cases e2
    exact⟨u,r,.inl ⟨hk,by simp⟩⟩
   ·rw [List.getElem?_set_ne (Ne.symm hj)] at e2
    obtain⟨u',r',q⟩:=hl j y v' e1 e2 e3
    refine⟨u',r',?_⟩
    rcases q with ⟨k,e⟩ | ⟨k,c,e,z⟩
    ·refine .inl ⟨k,?_⟩
     have:y≠x:=fun e=>hj (vh hN e1 (e ▸ hi))
     simp [this,e]
    ·exact .inr ⟨k,c,e,z.sameBut hs (cne y c e)⟩
  ·obtain⟨w',z⟩:=I.cell y c e
   exact⟨w',z.sameBut hs (cne y c e)⟩
  ·obtain⟨e,n,ne,nf,d⟩:=I.pin p hp
   exact⟨(hs.2 p.1 ne).trans e,n,ne,nf,d⟩
 ·have hfn:X.fn x=true:=by
   rcases hf with z | z
   ·exact z
   ·rw [z] at hk;cases hk
  obtain⟨c,hc⟩:=I.ok.has x (.inl hk)
  obtain⟨w',z⟩:=I.cell x c hc
  refine wpAny_storeName_cell I.ok.kind hk hc z (fun h' hc' hs=>?_)
  obtain⟨oc,hoc,hocd⟩:=id z
  refine h { s with heap:=h' } ⟨I.ok,I.os,I.bare,⟨fun b o e n hb hx=>?_,fun b o e n hb hx=>?_,I.base.free,fun b o e hx=>?_,I.base.tups,I.base.frzs,I.base.tbls⟩,⟨m,hn.sameBut hs (Ne.symm (cne x c hc)),fun j y v' e1 e2 e3=>?_⟩,fun y c' e=>?_,I.free,I.freeC,fun p hp=>?_,tracked ⟨oc,hoc,I.freeC x c hc⟩ hs,by simpa using I.len⟩ ⟨c,hs,.inr hc⟩
  ·exact (hs.2 b (Nat.ne_of_lt (Nat.lt_of_lt_of_le (Heap.lt_size e) (I.ok.cab x c hfn hc)))).trans (I.base.keep b o e n hb hx)
  ·obtain⟨sl,e1⟩:=I.base.slot b o e n hb hx
   exact⟨sl,(hs.2 b (Nat.ne_of_lt (Nat.lt_of_lt_of_le (Heap.lt_size e) (I.ok.cab x c hfn hc)))).trans e1⟩
  ·obtain⟨o',e1⟩:=I.base.there b o e hx
   exact⟨o',(hs.2 b (Nat.ne_of_lt (Nat.lt_of_lt_of_le (Heap.lt_size e) (I.ok.cab x c hfn hc)))).trans e1⟩
  ·by_cases hj:j=i
   ·subst hj
    rw [hi] at e1;cases e1
    rw [List.getElem?_set_self hiσ] at e2
    cases e2
    exact⟨u,r,.inr ⟨.inl hk,c,hc,hc'⟩⟩
   ·rw [List.getElem?_set_ne (Ne.symm hj)] at e2
    obtain⟨u',r',q⟩:=hl j y v' e1 e2 e3
    refine⟨u',r',?_⟩
    rcases q with q | ⟨k,c',e,z'⟩
    ·exact .inl q
    ·refine .inr ⟨k,c',e,z'.sameBut hs ?_⟩
     rintro rfl
     exact hj (vh hN e1 (I.ok.inj _ _ _ e hc ▸ hi))
  ·by_cases hcc:c'=c
   ·subst hcc;exact⟨_,hc'⟩
   ·obtain⟨w2,z2⟩:=I.cell y c' e
    exact⟨w2,z2.sameBut hs hcc⟩
  ·obtain⟨e,n,ne,nf,d⟩:=I.pin p hp
   refine⟨(hs.2 p.1 ?_).trans e,n,ne,nf,d⟩
   intro q
   rw [q,hoc] at e
   have q':oc=p.2:=Option.some.inj e
   exact d w' (by rw [<- q'];exact hocd)
theorem gS {M:Model}{A:Around}{E:Value->Shared->Prop}{i:Nat}{x:Str}{v:V}{u:Value}{Q:Unit->Shared->Prop}(I:Inv X pins σ H s)(hN:X.N.Nodup)(hi:X.N[i]? = some x)(hx:Loc X.env.scope x)(r:RelV v u)
  (h:∀s',Inv X pins (σ.set i (some v)) H s'->Q () s') (hf:X.fn x=true\/X.env.scope.names.lookup x=some .local:=by first | exact .inl rfl | exact .inr rfl | assumption):wpAny M A (storeName X.env x u) Q E s:=
 qM I hN hi hx r (fun s' I' _=>h s' I') hf
theorem Inv.call' {s':Shared}{ch:List Addr}(I:Inv X pins σ H s)(ho:s'.os=s.os)(u:Un (AI X.stack) ch H H' s.heap s'.heap)(hok:mK X.prog X.w H' s'.heap)(hg:AllBare s'.gens)
  (hch:∀b∈ch,(b∈X.ex\/X.Y8.heap.objs.size≤b)/\b≠X.env.locals/\(∀x c,X.env.cells.lookup x=some c->c≠b)/\∀p∈X.pn++pins,p.1≠b):Inv X pins σ H' s':=by
 obtain⟨h',g',d',t',o'⟩:=s'
 have e:o'=s.os:=ho
 subst e
 exact I.call (g':=g') (t':=t') (d':=d') u hok hg hch
end
abbrev XK:=Value->Option Addr->Hp->Prop
abbrev St:=List (Option V)
abbrev VK:=V->Hp->Prop
abbrev TE:=St->Hp->VK->Prop
abbrev TT:=St->Hp->(Bool->Hp->Prop)->Prop
abbrev TA:=St->Hp->(List V->Hp->Prop)->Prop
structure Ends where
 nx:St->Hp->Prop
 rt:VK
 bk:St->Hp->Prop:=fun _ _=>False
 ct:St->Hp->Prop:=fun _ _=>False
abbrev TS:=Ends->St->Hp->Prop
def EP (X:Cx)(pins:List (Addr×Obj))(σ:St)(Q:VK)(u:Value)(s':Shared):Prop:=∃v H',Inv X pins σ H' s'/\RelV v u/\Q v H'
def TP (X:Cx)(pins:List (Addr×Obj))(σ:St)(Q:Bool->Hp->Prop)(b:Bool)(s':Shared):Prop:=∃H',Inv X pins σ H' s'/\Q b H'
def AP (X:Cx)(pins:List (Addr×Obj))(σ:St)(Q:List V->Hp->Prop)(us:List Value)(s':Shared):Prop:=∃vs H',Inv X pins σ H' s'/\Vals vs us/\Q vs H'
def SP (X:Cx)(pins:List (Addr×Obj))(D:Ends)(f:Flow)(s':Shared):Prop:=
 match f with
 | .next=>∃σ' H',Inv X pins σ' H' s'/\D.nx σ' H'
 | .brk=>∃σ' H',Inv X pins σ' H' s'/\D.bk σ' H'
 | .cont=>∃σ' H',Inv X pins σ' H' s'/\D.ct σ' H'
 | .ret u=>∃v σ' H',Inv X pins σ' H' s'/\RelV v u/\D.rt v H'
def PE (X:Cx)(e:Expr)(t:TE):Prop:=
 ∀(pins:List (Addr×Obj)) (s:Shared) (σ:St) (H:Hp) (Q:VK),Inv X pins σ H s->t σ H Q->wpAny (model X.prog X.w) X.A (eval e X.env) (EP X pins σ Q) X.xe s
def PT (X:Cx)(e:Expr)(t:TT):Prop:=
 ∀(pins:List (Addr×Obj)) (s:Shared) (σ:St) (H:Hp) (Q:Bool->Hp->Prop),Inv X pins σ H s->t σ H Q->wpAny (model X.prog X.w) X.A (isTrue e X.env (eval e X.env)) (TP X pins σ Q) X.xe s
def PW (X:Cx)(e:Expr)(t:TT):Prop:=
 ∀(whole:Sem Value) (pins:List (Addr×Obj)) (s:Shared) (σ:St) (H:Hp) (Q:Bool->Hp->Prop),Inv X pins σ H s->t σ H Q->wpAny (model X.prog X.w) X.A (isTrue e X.env whole) (TP X pins σ Q) X.xe s
theorem PW.pt {X:Cx}{e:Expr}{t:TT}(h:PW X e t):PT X e t:=h _
def PA (X:Cx)(es:List Expr)(t:TA):Prop:=
 ∀(pos:Pos) (pins:List (Addr×Obj)) (s:Shared) (σ:St) (H:Hp) (Q:List V->Hp->Prop),Inv X pins σ H s->t σ H Q->wpAny (model X.prog X.w) X.A (spliced (backTo pos (starEach es X.env))) (AP X pins σ Q) X.xe s
def PS (X:Cx)(st:Stmt)(t:TS):Prop:=
 ∀(pins:List (Addr×Obj)) (s:Shared) (σ:St) (H:Hp) (D:Ends),Inv X pins σ H s->t D σ H->wpAny (model X.prog X.w) X.A (exec st X.env) (SP X pins D) X.xe s
def kP (X:Cx)(st:List Stmt)(t:TS):Prop:=
 ∀(pins:List (Addr×Obj)) (s:Shared) (σ:St) (H:Hp) (D:Ends),Inv X pins σ H s->t D σ H->wpAny (model X.prog X.w) X.A (execs st X.env) (SP X pins D) X.xe s
theorem dB {α:Type}{t:Sem α}{Q Q':α->Shared->Prop}{M:Model}{A:Around}{E:Value->Shared->Prop}{s:Shared}(h:wpAny M A t Q E s)(hQ:∀a s,Q a s->Q' a s):wpAny M A t Q' E s:=wpAny_mono h hQ fun _ _ x=>x
section
variable {X:Cx}
def jn (i:Nat):TE:=fun σ H Q=>∃v,σ[i]? = some (some v)/\Q v H
def tC (v:V):TE:=fun _ H Q=>Q v H
theorem G8 {i:Nat}{x:Str}{pos:Pos}(hN:X.N[i]? = some x)(hv:Iv X.env.scope x)(hd:(x == ("__debug__" : Str))=false:=by decide)(hcd:(x == ("__classdict__" : Str))=false:=by decide):PE X (.Name x pos) (jn i):=by
 intro pins s σ H Q I h
 obtain⟨v,e,h⟩:=h
 obtain⟨m,hn,hl⟩:=I.loc
 obtain⟨u,r,l⟩:=hl i x v hN e hv
 have fin:EP X pins σ Q u s:=⟨v,H,I,r,h⟩
 rcases l with ⟨hk,hm⟩ | ⟨hk,c,hc,hcell⟩
 ·exact wpAny_Name (wpAny_loadName_local I.ok.kind hk hn hm fin) hd
 ·rcases hk with hk | hk
  ·exact wpAny_Name (wpAny_loadName_cell I.ok.kind hk hc hcell fin) hd
  ·exact wpAny_Name (wpAny_loadName_free I.ok.kind hk hc hcell fin hcd) hd
theorem xm {i j pos}:PE X (.Constant (.int i) j pos) (tC (.int i)):=fun _ _ _ H _ I h=>wpAny_Constant_int ⟨.int i,H,I.tok _,⟨_,rfl⟩,h⟩
theorem JR {b j pos}:PE X (.Constant (.bool b) j pos) (tC (.bl b)):=fun _ _ _ H _ I h=>Constant_bool ⟨.bl b,H,I,rfl,h⟩
theorem G5 {j pos}:PE X (.Constant .none j pos) (tC .non):=fun _ _ _ H _ I h=>Constant_none ⟨.non,H,I,rfl,h⟩
def Gl (X:Cx)(x:Str):Prop:=X.env.kindOf x=some .globalImplicit
theorem sN {E:Value->Shared->Prop}{pins:List (Addr×Obj)}{s:Shared}{σ:St}{H:Hp}{x:Str}{u:Value}{pos:Pos}{Q:Value->Shared->Prop}(I:Inv X pins σ H s)(hg:Gl X x)(hm:X.mg x=some u)(h:Q u s)
  (hd:(x == ("__debug__" : Str))=false:=by decide):wpAny (model X.prog X.w) X.A (eval (.Name x pos) X.env) Q E s:=
 Calls.Name_function_global I.ok.kind hg (Calls.loadGlobal_global (by rw [I.ok.glob];exact I.mod.glob.keeps I.bk) hm h) hd
theorem jE {E:Value->Shared->Prop}{pins:List (Addr×Obj)}{s:Shared}{σ:St}{H:Hp}{x:Str}{u:Value}{pos:Pos}{Q:Value->Shared->Prop}(I:Inv X pins σ H s)(hg:Gl X x)(hm:X.mg x=none)(hv:bootBuiltins x=some u)(h:Q u s)
  (hn:x≠"__name__" := by decide) (hd:(x == ("__debug__" : Str))=false:=by decide):wpAny (model X.prog X.w) X.A (eval (.Name x pos) X.env) Q E s:=by
 obtain⟨mb,h1,h2⟩:=I.mod.blt
 exact Calls.Name_function_global I.ok.kind hg (Calls.loadGlobal_builtin (by rw [I.ok.glob];exact I.mod.glob.keeps I.bk) hm (by rw [I.ok.blt];exact h1.keeps I.bk) ((h2 x hn).trans hv) h) hd
theorem tw {x:Str}{v:V}{u:Value}{pos:Pos}(hg:Gl X x)(hm:X.mg x=some u)(r:RelV v u)(hd:(x == ("__debug__" : Str))=false:=by decide):PE X (.Name x pos) (tC v):=
 fun _ _ _ H _ I h=>sN I hg hm ⟨v,H,I,r,h⟩ hd
theorem D1 {x:Str}{v:V}{u:Value}{pos:Pos}(hg:Gl X x)(hm:X.mg x=none)(hv:bootBuiltins x=some u)(r:RelV v u)(hn:x≠"__name__" := by decide)(hd:(x == ("__debug__" : Str))=false:=by decide):PE X (.Name x pos) (tC v):=
 fun _ _ _ H _ I h=>jE I hg hm hv ⟨v,H,I,r,h⟩ hn hd
variable {a b:Expr}{ta tb:TE}{pos:Pos}
variable {tA tB':TT}{rest:List Expr}
def MF (t u:TT):TT:=fun σ H Q=>t σ H fun c H1=>if c=true then Q true H1 else u σ H1 Q
def LF (t:TT):TT:=fun σ H Q=>t σ H fun c H1=>Q (!c) H1
theorem Hk (ha:PT X a tA):PW X (.BoolOp .Or [a] pos) tA:=by
 intro wh pins s σ H Q I h
 refine isTrue_or (dB (ha pins s σ H Q I h) fun c s1 e=>?_)
 cases c with
 |false=>exact isTrue_or_nil e
 |true=>exact e
theorem JW (ha:PT X a tA)(hb:PW X (.BoolOp .Or (b::rest) pos) tB'):PW X (.BoolOp .Or (a::b::rest) pos) (MF tA tB'):=by
 intro wh pins s σ H Q I h
 refine isTrue_or (dB (ha pins s σ H _ I h) fun c s1 ⟨H1,I1,q1⟩=>?_)
 cases c with
 |true=>exact⟨H1,I1,q1⟩
 |false=>exact hb wh pins s1 σ H1 Q I1 q1
theorem Hj (ha:PT X a tA):PT X (.UnaryOp .Not a pos) (LF tA):=by
 intro pins s σ H Q I h
 exact isTrue_not (ha pins s σ H (fun c H1=>Q (!c) H1) I h)
def J6 (ta tb:TE):TE:=fun σ H Q=>ta σ H fun x H1=>∃c,x=.bl c/\if c=true then tb σ H1 Q else Q (.bl false) H1
def Kd (ta:TE):TE:=fun σ H Q=>ta σ H fun x H1=>∃c,x=.bl c/\Q (.bl (!c)) H1
theorem G7 {op}{t:TE}(h:PE X a t):PE X (.BoolOp op [a] pos) t:=fun pins s σ H Q I hw=>BoolOp_one (h pins s σ H Q I hw)
theorem G2 (ha:PE X a ta)(hb:PE X (.BoolOp .And (b::rest) pos) tb):PE X (.BoolOp .And (a::b::rest) pos) (J6 ta tb):=by
 intro pins s σ H Q I h
 refine BoolOp_and (dB (ha pins s σ H _ I h) fun v s1 ⟨x,H1,I1,r1,q1⟩=>?_)
 obtain⟨c,rfl,q1⟩:=q1
 cases r1
 refine wpAny_truthy_bool ?_
 cases c with
 |true=>exact hb pins s1 σ H1 Q I1 q1
 |false=>exact⟨.bl false,H1,I1,rfl,q1⟩
theorem G6 (ha:PE X a ta):PE X (.UnaryOp .Not a pos) (Kd ta):=by
 intro pins s σ H Q I h
 refine UnaryOp_ (dB (ha pins s σ H _ I h) fun v s1 ⟨x,H1,I1,r1,q1⟩=>?_)
 obtain⟨c,rfl,q1⟩:=q1
 cases r1
 exact not_of (wpAny_truthy_bool ⟨.bl (!c),H1,I1,rfl,q1⟩)
def MD (t:TT)(ta tb:TE):TE:=fun σ H Q=>t σ H fun c H1=>if c=true then ta σ H1 Q else tb σ H1 Q
theorem BS {c:Expr}(hc:PT X c tA)(ha:PE X a ta)(hb:PE X b tb):PE X (.IfExp c a b pos) (MD tA ta tb):=by
 intro pins s σ H Q I h
 refine wpAny_IfExp (dB (hc pins s σ H _ I h) fun d s1 ⟨H1,I1,q1⟩=>?_)
 cases d with
 |true=>exact ha pins s1 σ H1 Q I1 q1
 |false=>exact hb pins s1 σ H1 Q I1 q1
end
def fq (K:PySem.W.Frag)(H:Hp)(a:Addr)(xs:List V):Prop:=
 Rd H a (.lst xs) \/
  ∃(o:Obj) (its:Array Value) (n:Nat),K.lookup a=some o/\o.cls=.type "list"/\o.dict=none/\o.data=.seq its n/\its.size≤sizeLine/\Vals xs its.toList
def kQ (K:PySem.W.Frag)(H:Hp)(a:Addr)(xs:List V):Prop:=
 Rd H a (.tup xs) \/
  ∃(o:Obj) (its:Array Value) (n:Nat),K.lookup a=some o/\o.cls=.type "tuple"/\o.data=.seq its n/\its.size≤sizeLine/\Vals xs its.toList
def KZ:Value->Option V
 | .none=>some .non
 | .bool b=>some (.bl b)
 | .int i _=>some (.int i)
 | .str x _=>some (.str x)
 | .bytes b _=>some (.byt b)
 | .float b _=>some (.flt b)
 | .ref a=>some (.ref a)
 | .type n=>some (.ty n)
 |_=>none
theorem RelV.abs {x:V}{u:Value}(r:RelV x u):KZ u=some x:=by
 cases x with
 |non=>cases r;rfl
 |bl _=>cases r;rfl
 |int _=>obtain⟨t,rfl⟩:=r;rfl
 |str _=>obtain⟨t,rfl⟩:=r;rfl
 |byt _=>obtain⟨t,rfl⟩:=r;rfl
 |flt _=>obtain⟨t,rfl⟩:=r;rfl
 |ref _=>cases r;rfl
 |ty _=>cases r;rfl
theorem RelV.inj {x y:V}{u:Value}(r:RelV x u)(q:RelV y u):x=y:=Option.some.inj (r.abs.symm.trans q.abs)
theorem Vals.inj:∀{xs ys:List V} {us:List Value},Vals xs us->Vals ys us->xs=ys
 |_,_,_,.nil,.nil=>rfl
 |_,_,_,.cons r t,.cons r' t'=>by rw [r.inj r',Vals.inj t t']
section
variable {X:Cx}{pins:List (Addr×Obj)}{σ:St}{H:Hp}{s:Shared}{a:Addr}{xs ys:List V}
theorem fq.of {K:PySem.W.Frag}(h:H a=some (.lst xs)):fq K H a xs:=.inl (.inl h)
theorem kQ.of {K:PySem.W.Frag}(h:H a=some (.tup xs)):kQ K H a xs:=.inl (.inl h)
theorem Inv.list (I:Inv X pins σ H s)(h:fq X.K H a xs):∃its:List Value,Vals xs its/\PlainL s.heap a its.toArray/\xs.length≤sizeLine:=by
 rcases h with h | ⟨o,its,n,hk,hc,hd,hs,hz,r⟩
 ·obtain⟨z,its,n,r,e⟩:=h.ok I.hok
  exact⟨its,r,⟨_,n,e,rfl,rfl,rfl⟩,z⟩
 ·refine⟨its.toList,r,⟨o,n,I.kIn a o hk,hc,hd,by simpa using hs⟩,?_⟩
  have e:=r.length
  simp only [Array.length_toList] at e
  omega
theorem Inv.tuple (I:Inv X pins σ H s)(h:kQ X.K H a xs):∃its:List Value,Vals xs its/\IsTup s.heap a its.toArray/\xs.length≤sizeLine:=by
 rcases h with h | ⟨o,its,n,hk,hc,hs,hz,r⟩
 ·obtain⟨z,its,r,p⟩:=h.ok I.hok
  exact⟨its,r,p,z⟩
 ·refine⟨its.toList,r,⟨o,I.kIn a o hk,hc,n,by simpa using hs⟩,?_⟩
  have e:=r.length
  simp only [Array.length_toList] at e
  omega
theorem Inv.list_inj (I:Inv X pins σ H s)(h:fq X.K H a xs)(h':fq X.K H a ys):xs=ys:=by
 obtain⟨its,r,⟨o,n,e,_,_,d⟩,_⟩:=I.list h
 obtain⟨its',r',⟨o',n',e',_,_,d'⟩,_⟩:=I.list h'
 rw [e] at e';cases e'
 rw [d] at d'
 injection d' with d1 _
 have:its=its':=by simpa using congrArg Array.toList d1
 subst this
 exact r.inj r'
theorem Inv.tuple_inj (I:Inv X pins σ H s)(h:kQ X.K H a xs)(h':kQ X.K H a ys):xs=ys:=by
 obtain⟨its,r,⟨o,e,_,n,d⟩,_⟩:=I.tuple h
 obtain⟨its',r',⟨o',e',_,n',d'⟩,_⟩:=I.tuple h'
 rw [e] at e';cases e'
 rw [d] at d'
 injection d' with d1 _
 have:its=its':=by simpa using congrArg Array.toList d1
 subst this
 exact r.inj r'
end
abbrev Cx.wish (X:Cx)(E:Value->Shared->Prop):Cx:={ X with xe:=E }
abbrev Cx.nox (X:Cx):Cx:=X.wish fun _ _=>False
theorem Cx.Ok.wish {X:Cx}(ok:X.Ok)(E:Value->Shared->Prop):(X.wish E).Ok:=
 ⟨ok.mod,ok.kind,ok.glob,ok.blt,ok.above,ok.inj,ok.has,ok.cab,ok.hd,ok.frames,ok.stk,ok.exf,ok.bs,ok.bsz,ok.noex,ok.exfs,ok.funs,ok.frf⟩
theorem Cx.Ok.unwish {X:Cx}{E:Value->Shared->Prop}(ok:(X.wish E).Ok):X.Ok:=
 ⟨ok.mod,ok.kind,ok.glob,ok.blt,ok.above,ok.inj,ok.has,ok.cab,ok.hd,ok.frames,ok.stk,ok.exf,ok.bs,ok.bsz,ok.noex,ok.exfs,ok.funs,ok.frf⟩
section
variable {X:Cx}{pins:List (Addr×Obj)}{σ:St}{H:Hp}{s:Shared}{E:Value->Shared->Prop}
theorem Inv.wish (I:Inv X pins σ H s)(E:Value->Shared->Prop):Inv (X.wish E) pins σ H s:=⟨I.ok.wish E,I.os,I.bare,I.base,I.loc,I.cell,I.free,I.freeC,I.pin,I.hok,I.len⟩
theorem Inv.unwish (I:Inv (X.wish E) pins σ H s):Inv X pins σ H s:=⟨I.ok.unwish,I.os,I.bare,I.base,I.loc,I.cell,I.free,I.freeC,I.pin,I.hok,I.len⟩
theorem SP.unwish {D:Ends}{f:Flow}{s':Shared}(h:SP (X.wish E) pins D f s'):SP X pins D f s':=by
 cases f with
 |next=>obtain⟨σ',H',I,q⟩:=h;exact⟨σ',H',I.unwish,q⟩
 |brk=>obtain⟨σ',H',I,q⟩:=h;exact⟨σ',H',I.unwish,q⟩
 |cont=>obtain⟨σ',H',I,q⟩:=h;exact⟨σ',H',I.unwish,q⟩
 |ret u=>obtain⟨v,σ',H',I,r,q⟩:=h;exact⟨v,σ',H',I.unwish,r,q⟩
theorem kP.nox {st:List Stmt}{t:TS}(h:kP X.nox st t):kP X st t:=fun pins s σ H D I hw =>
 wpAny_mono (h pins s σ H D (I.wish _) hw) (fun _ _ q=>q.unwish) fun _ _ z=>False.elim z
end
section
variable {X:Cx}{st:Stmt}{rest:List Stmt}{t u:TS}{e:Expr}{te:TE}{pos:Pos}
def Kb:TS:=fun D σ H=>D.nx σ H
def LI (t u:TS):TS:=fun D σ H=>t { D with nx:=u D } σ H
theorem tD:kP X [] Kb:=fun _ _ σ H _ I h=>wpAny_execs_nil ⟨σ,H,I,h⟩
theorem fS (h1:PS X st t)(h2:kP X rest u):kP X (st::rest) (LI t u):=by
 intro pins s σ H D I h
 refine wpAny_execs_cons (dB (h1 pins s σ H { D with nx:=u D } I h) fun f s1 q=>?_)
 cases f with
 |next =>
  obtain⟨σ',H',I',q⟩:=q
  exact h2 pins s1 σ' H' D I' q
 |ret v=>exact q
 |brk=>exact q
 |cont=>exact q
theorem tF (h1:PS X st t):kP X [st] t:=by
 intro pins s σ H D I h
 refine wpAny_execs_cons (dB (h1 pins s σ H D I h) fun f s1 q=>?_)
 cases f with
 |next=>exact wpAny_execs_nil q
 |ret v=>exact q
 |brk=>exact q
 |cont=>exact q
theorem Inv.quiet {pins:List (Addr×Obj)}{σ:St}{H:Hp}{s:Shared}(I:Inv X pins σ H s):interactive X.env=false:=by simp [interactive,I.ok.kind]
def J9 (te:TE):TS:=fun D σ H=>te σ H fun _ H1=>D.nx σ H1
theorem lH (he:PE X e te)(hs:swapsWith e none pos.line X.env=pure false:=by rfl):PS X (.Expr e pos) (J9 te):=by
 intro pins s σ H D I h
 exact wpAny_Expr_any (dB (he pins s σ H _ I h) fun v s1 ⟨x,H1,I1,r1,q1⟩=>⟨σ,H1,I1,q1⟩) I.quiet hs
def LH (te:TE):TS:=fun D σ H=>te σ H D.rt
theorem B2 (he:PE X e te):PS X (.Return (some e) pos) (LH te):=by
 intro pins s σ H D I h
 exact wpAny_Return_some (dB (he pins s σ H _ I h) fun v s1 ⟨x,H1,I1,r1,q1⟩=>⟨x,σ,H1,I1,r1,q1⟩)
def LC (c:TT)(t u:TS):TS:=fun D σ H=>c σ H fun b H1=>if b=true then t D σ H1 else u D σ H1
theorem Fq {c:Expr}{a b:List Stmt}{tc:TT}(hc:PT X c tc)(ha:kP X a t)(hb:kP X b u):PS X (.If c a b pos) (LC tc t u):=by
 intro pins s σ H D I h
 refine wpAny_If (dB (hc pins s σ H _ I h) fun d s1 ⟨H1,I1,q1⟩=>?_)
 cases d with
 |true=>exact ha pins s1 σ H1 D I1 q1
 |false=>exact hb pins s1 σ H1 D I1 q1
def Cn:TS:=fun _ _ _=>False
theorem BZ:PS X st Cn:=fun _ _ _ _ _ _ h=>h.elim
theorem Ak {KD:List Stmt}:kP X KD Cn:=fun _ _ _ _ _ _ h=>h.elim
end
abbrev TG:=V->St->Hp->(St->Hp->Prop)->Prop
abbrev CF:=List V->St->Hp->(St->Hp->Prop)->Prop
def PG (X:Cx)(target:Expr)(t:TG):Prop:=
 ∀(pins:List (Addr×Obj)) (s:Shared) (σ:St) (H:Hp) (v:V) (u:Value) (Q:St->Hp->Prop),Inv X pins σ H s->RelV v u->t v σ H Q ->
  wpAny (model X.prog X.w) X.A (assign target X.env u) (fun _ s'=>∃σ' H',Inv X pins σ' H' s'/\Q σ' H') X.xe s
def HI (X:Cx)(ts:List Expr)(t:CF):Prop:=
 ∀(pins:List (Addr×Obj)) (s:Shared) (σ:St) (H:Hp) (vs:List V) (us:List Value) (Q:St->Hp->Prop),Inv X pins σ H s->Vals vs us->t vs σ H Q ->
  wpAny (model X.prog X.w) X.A (assignInOrder ((assignEach ts X.env).map (·.2)) us) (fun _ s'=>∃σ' H',Inv X pins σ' H' s'/\Q σ' H') X.xe s
abbrev FD:=V->V->V->Hp->(Hp->Prop)->Prop
def Iu (X:Cx)(t:FD):Prop:=
 ∀(pins:List (Addr×Obj)) (s:Shared) (σ:St) (H:Hp) (o i v:V) (ov iv u:Value) (Q:Hp->Prop),Inv X pins σ H s->RelV o ov->RelV i iv->RelV v u->t o i v H Q ->
  wpAny (model X.prog X.w) X.A (setItem ov iv u) (fun _ s'=>∃H',Inv X pins σ H' s'/\Q H') X.xe s
section
variable {X:Cx}{pos:Pos}
def yC (i:Nat):TG:=fun v σ H Q=>Q (σ.set i (some v)) H
theorem yX {i:Nat}{x:Str}(hN:X.N.Nodup)(hi:X.N[i]? = some x)(hx:Loc X.env.scope x)(hf:X.fn x=true\/X.env.scope.names.lookup x=some .local:=by first | exact .inl rfl | exact .inr rfl | assumption):PG X (.Name x pos) (yC i):=by
 intro pins s σ H v u Q I r h
 exact wpAny_assign_Name (gS I hN hi hx r (fun s' I'=>⟨_,H,I',h⟩) hf)
def Lb:CF:=fun vs σ H Q=>vs=[]/\Q σ H
def Jo (t:TG)(u:CF):CF:=fun vs σ H Q=>∃v r,vs=v::r/\t v σ H fun σ' H'=>u r σ' H' Q
theorem D5:HI X [] Lb:=by
 intro pins s σ H vs us Q I r h
 obtain⟨e,h⟩:=h
 subst e
 cases r
 exact assignInOrder_nil ⟨σ,H,I,h⟩
theorem BW {e:Expr}{es:List Expr}{t:TG}{u:CF}(h1:PG X e t)(h2:HI X es u)
  (hs:(assignEach (e::es) X.env).map (·.2)=assign e X.env::(assignEach es X.env).map (·.2):=by rfl):HI X (e::es) (Jo t u):=by
 intro pins s σ H vs us Q I r h
 obtain⟨v,vr,e1,h⟩:=h
 subst e1
 cases r with
 |cons r rr =>
  rw [hs]
  refine assignInOrder_cons (dB (h1 pins s σ H _ _ _ I r h) fun _ s1 ⟨σ1,H1,I1,q1⟩=>?_)
  exact h2 pins s1 σ1 H1 _ _ Q I1 rr q1
def Ld (K:PySem.W.Frag)(n:Nat)(t:CF):TG:=fun v σ H Q=>∃a xs,v=.ref a/\kQ K H a xs/\xs.length=n/\t xs σ H Q
theorem Hb {es:List Expr}{k:Nat}{t:CF}{n:Nat}(hc:X.calm=true)(h:HI X es t)
  (hn:(assignEach es X.env).length=n:=by rfl) (hst:(assignEach es X.env).findIdx? (·.1)=none:=by rfl):PG X (.Tuple es k pos) (Ld X.K n t):=by
 intro pins s σ H v u Q I r hw
 obtain⟨a,xs,e1,hq,hl,hw⟩:=hw
 subst e1
 cases r
 obtain⟨its,rv,ht,hz⟩:=I.tuple hq
 refine assign_Tuple_tuple (I.ok.hd hc) ht (by simp [hn,<- hl,rv.length]) hst fun h' hx=>?_
 have I1:Inv X pins σ H { s with heap:=h' }:=I.kept (t':=s.toks) fun b o e=>hx b o (Nat.ne_of_lt (Heap.lt_size e)) e
 exact h pins _ σ H xs _ Q I1 (by simpa using rv) hw
def uC (to ti:TE)(t:FD):TG:=fun v σ H Q=>to σ H fun o H1=>ti σ H1 fun i H2=>t o i v H2 fun H3=>Q σ H3
theorem Ha {o i:Expr}{to ti:TE}{t:FD}(ho:PE X o to)(hi:PE X i ti)(hs:Iu X t)
  (ha:∀v,assign (.Subscript o i pos) X.env v=(do
   let ov <- holding [v] (eval o X.env)
   let iv <- holding [v,ov] (eval i X.env)
   standAt pos
   holding [v,ov,iv] (setItem ov iv v)
   release [v,ov,iv] []):=by intro _;rfl):PG X (.Subscript o i pos) (uC to ti t):=by
 intro pins s σ H v u Q I r h
 rw [ha]
 refine wpAny_bind (wpAny_holding (dB (ho pins s σ H _ I h) fun ov s1 ⟨x,H1,I1,r1,q1⟩=>?_))
 refine wpAny_bind (wpAny_holding (dB (hi pins s1 σ H1 _ I1 q1) fun iv s2 ⟨y,H2,I2,r2,q2⟩=>?_))
 refine wpAny_bind (wpAny_standAt (wpAny_bind (wpAny_holding (dB (hs pins s2 σ H2 x y v ov iv u _ I2 r1 r2 r q2) fun _ s3 ⟨H3,I3,q3⟩=>?_))))
 exact wpAny_release ⟨σ,H3,I3,q3⟩
def J7 (te:TE)(g:TG):TS:=fun D σ H=>te σ H fun x H1=>g x σ H1 D.nx
theorem BX {tg e:Expr}{te:TE}{g:TG}(he:PE X e te)(hg:PG X tg g)(hs:swapsWithSole [tg] e pos.line X.env=pure false:=by rfl)(hw:swappedStores [tg] e X.env=pure none:=by rfl)
  (h1:(assignEach [tg] X.env).map (·.2)=[assign tg X.env]:=by rfl):PS X (.Assign [tg] e pos) (J7 te g):=by
 intro pins s σ H D I h
 refine wpAny_Assign_stores (dB (he pins s σ H _ I h) fun v s1 ⟨x,H1,I1,r1,q1⟩=>?_) hs hw
 rw [h1]
 exact dB (hg pins s1 σ H1 x v _ I1 r1 q1) fun _ s2 q=>q
theorem tx {i:Nat}{x:Str}{e:Expr}{te:TE}{pos':Pos}(hN:X.N.Nodup)(hi:X.N[i]? = some x)(hx:Loc X.env.scope x)(he:PE X e te)(hs:swapsWith e (some (.Name x pos')) pos.line X.env=pure false:=by rfl)(hf:X.fn x=true\/X.env.scope.names.lookup x=some .local:=by first | exact .inl rfl | exact .inr rfl | assumption):
  PS X (.Assign [.Name x pos'] e pos) (J7 te (yC i)):=by
 intro pins s σ H D I h
 refine wpAny_Assign_Name (dB (he pins s σ H _ I h) fun v s1 ⟨y,H1,I1,r1,q1⟩=>?_) hs
 exact gS I1 hN hi hx r1 (fun s2 I2=>⟨_,H1,I2,q1⟩) hf
def LG (i j:Nat)(ta:TA):TS:=fun D σ H=>ta σ H fun vs H1=>∃v w,vs=[v,w]/\D.nx ((σ.set i (some v)).set j (some w)) H1
theorem B0 {i j:Nat}{x y:Str}{a b:Expr}{ta:TA}{px py pt:Pos}{kt k2 pt2}(hc:X.calm=true)(hN:X.N.Nodup)(hi:X.N[i]? = some x)(hj:X.N[j]? = some y)(hij:i≠j)
  (hx:X.env.scope.names.lookup x=some .local) (hy:X.env.scope.names.lookup y=some .local) (ha:PA X [a,b] ta)
  (hw:swappedStores [.Tuple [.Name x px,.Name y py] kt pt] (.Tuple [a,b] k2 pt2) X.env=pure (some [x,y]))
  (hs:swapsWithSole [.Tuple [.Name x px,.Name y py] kt pt] (.Tuple [a,b] k2 pt2) pos.line X.env=pure false:=by rfl):
  PS X (.Assign [.Tuple [.Name x px,.Name y py] kt pt] (.Tuple [a,b] k2 pt2) pos) (LG i j ta):=by
 intro pins s σ H D I h
 rw [exec_Assign_arm]
 refine wpAny_bind (wpAny_standAt ?_)
 rw [hs]
 refine wpAny_bind (wpAny_pure ?_)
 rw [if_neg (by decide)]
 refine wpAny_bind (Tuple_ (dB (ha _ pins s σ H _ I h) fun us s1 ⟨vs,H1,I1,r1,q1⟩=>?_))
 obtain⟨v,w,e1,q1⟩:=q1
 subst e1
 obtain⟨u1,u2,rfl,rv,rw'⟩:∃u1 u2,us=[u1,u2]/\RelV v u1/\RelV w u2:=by
  cases r1 with
  |cons p q =>
   cases q with
   |cons p' q' =>
    cases q'
    exact⟨_,_,rfl,p,p'⟩
 refine wpAny_newObj_type ?_ (by show 2≤sizeLine;decide)
 have I2:Inv X pins σ H1 { s1 with heap:=s1.heap.push { cls:=.type "tuple", data:=.seq [u1,u2].toArray } }:=I1.kept (t':=s1.toks) fun b o e=>Heap.get?_push_of_some _ e
 rw [hw]
 refine wpAny_bind (wpAny_pure ?_)
 show wpAny (model X.prog X.w) X.A (do rule "assign.swapped-stores";let items <- unpackItems (.ref s1.heap.objs.size) 2 none;assignInOrder [fun v=>bindName X.env y v,fun v=>bindName X.env x v] items.reverse;pure Flow.next) _ _ _
 refine wpAny_bind (wpAny_rule (wpAny_bind (unpackItems_tuple (items:=#[u1,u2]) (I.ok.hd hc) (IsTup.new s1.heap _) fun h' hx'=>?_)))
 have I3:=I2.kept (h':=h') (t':=s1.toks) fun b o e=>hx' b o (Nat.ne_of_lt (Heap.lt_size e)) e
 show wpAny _ _ (assignInOrder [fun v=>bindName X.env y v,fun v=>bindName X.env x v] [u2,u1] >>= fun _=>pure Flow.next) _ _ _
 refine wpAny_bind (assignInOrder_cons (wpAny_bindName (gS I3 hN hj (.inl hy) rw' (fun s2 I4=>?_) (.inr hy))))
 refine assignInOrder_cons (wpAny_bindName (gS I4 hN hi (.inl hx) rv (fun s3 I5=>assignInOrder_nil (wpAny_pure ?_)) (.inr hx)))
 rw [List.set_comm _ _ (Ne.symm hij)] at I5
 exact⟨_,H1,I5,q1⟩
end
section
variable {X:Cx}{pos:Pos}
def Hw (c:TT)(tb:TS):TS:=fun D σ H=>∃W:Nat->St->Hp->Prop,(∃m,W m σ H)/\∀m σ H,W m σ H ->
 c σ H fun b H1=>if b=true then ∃N:St->Hp->Prop,(∀σ' H',N σ' H'->∃m',m'<m/\W m' σ' H')/\tb { D with nx:=N,ct:=N,bk:=D.nx } σ H1 else D.nx σ H1
theorem B3 {c:Expr}{body:List Stmt}{tc:TT}{tb:TS}(hp:PassesOwn (model X.prog X.w) X.A X.env X.xe)(hc:PT X c tc)(hb:kP X body tb):PS X (.While c body [] pos) (Hw tc tb):=by
 intro pins s σ H D I h
 obtain⟨W,⟨m0,w0⟩,turn⟩:=h
 refine wpAny_While (codeAny_whileLoop (fun n s'=>∃σ' H',Inv X pins σ' H' s'/\W n σ' H') ?_ m0 ⟨σ,H,I,w0⟩)
 rintro n s1 ⟨σ1,H1,I1,w1⟩
 refine wpAny_passesOwn hp (dB (hc pins s1 σ1 H1 _ I1 (turn n σ1 H1 w1)) fun b s2 ⟨H2,I2,q2⟩=>?_)
 cases b with
 |true =>
  obtain⟨N,hN,q2⟩:=q2
  rw [if_pos rfl]
  refine wpAny_passesOwn hp (dB (hb pins s2 σ1 H2 _ I2 q2) fun f s3 q3=>?_)
  cases f with
  |next =>
   obtain⟨σ3,H3,I3,n3⟩:=q3
   obtain⟨m',hm,w3⟩:=hN σ3 H3 n3
   exact⟨m',hm,σ3,H3,I3,w3⟩
  |cont =>
   obtain⟨σ3,H3,I3,n3⟩:=q3
   obtain⟨m',hm,w3⟩:=hN σ3 H3 n3
   exact⟨m',hm,σ3,H3,I3,w3⟩
  |brk=>exact q3
  |ret v=>exact q3
 |false =>
  rw [if_neg Bool.false_ne_true]
  exact wpAny_execs_nil ⟨σ1,H2,I2,q2⟩
end
structure It where
 go:Nat->Hp->Prop
 yld:Nat->Hp->V->Hp->Prop
 stop:Nat->Hp->Prop
def qZ (X:Cx)(pins:List (Addr×Obj))(H:Hp)(b:Addr):Prop:=
 H b=none/\b≠X.env.locals/\b∉X.fs/\(b∈X.ex\/X.Y8.heap.objs.size≤b)/\(∀x c,X.env.cells.lookup x=some c->c≠b)/\∀p∈X.pn++pins,p.1≠b
theorem Inv.fpOk {X:Cx}{pins:List (Addr×Obj)}{σ:St}{H H':Hp}{s:Shared}{b:Addr}(I:Inv X pins σ H s)(hb:s.heap.objs.size≤b)(hn:H' b=none):qZ X pins H' b:=by
 refine⟨hn,Nat.ne_of_gt (Nat.lt_of_lt_of_le I.lt hb),I.nofs hb,.inr (Nat.le_trans I.sz hb),fun x c e z=>?_,fun p hp z=>?_⟩
 ·obtain⟨v,q⟩:=I.cell x c e
  exact absurd (Nat.lt_of_lt_of_le q.lt (by rw [z];exact hb)) (Nat.lt_irrefl _)
 ·exact absurd (Nat.lt_of_lt_of_le (Heap.lt_size (I.pin p hp).1) (by rw [z];exact hb)) (Nat.lt_irrefl _)
structure Turn (P:Program)(w:World)(K:PySem.W.Frag)(tg:Expr)(J:It)(fp:List Addr)(it:Addr)(tn:Nat->Heap->Prop):Prop where
 mem:it∈fp
 obj:∀i h,tn i h->∀b∈fp,∃o,h.get? b=some o/\∀v,o.data≠.cell v
 keep:∀i h h',tn i h->(∀b∈fp,∀o,h.get? b=some o->h'.get? b=some o)->tn i h'
 item:∀(X:Cx),X.prog=P->X.w=w->X.K=K->X.calm=true->∀(i:Nat) (pins:List (Addr×Obj)) (s:Shared) (σ:St) (H:Hp) (E:Value->Shared->Prop),Inv X pins σ H s->(∀b∈fp,qZ X pins H b)->tn i s.heap->J.go i H ->
  wpAny (model P w) X.A (pyNext (.ref it)) (fun r s1=>∃u,r=some u /\
   wpAny (model P w) X.A (letOwnedTupleGo tg (.ref it) u) (fun _ s2=>∃x H',Inv X pins σ H' s2/\RelV x u/\J.yld i H x H'/\tn (i+1) s2.heap/\∀b∈fp,H' b=none) E s1) E s
 done:∀(X:Cx),X.prog=P->X.w=w->X.K=K->X.calm=true->∀(i:Nat) (pins:List (Addr×Obj)) (s:Shared) (σ:St) (H:Hp) (E:Value->Shared->Prop),Inv X pins σ H s->(∀b∈fp,qZ X pins H b)->tn i s.heap->J.stop i H ->
  wpAny (model P w) X.A (pyNext (.ref it)) (fun r s1=>r=none/\Inv X pins σ H s1) E s
 self:∀(A:Around) (i:Nat) (s:Shared) (Q:Value->Shared->Prop) (E:Value->Shared->Prop),tn i s.heap->Q (.ref it) s->wpAny (model P w) A (pyIter (.ref it)) Q E s
abbrev TI:=St->Hp->(It->Hp->Prop)->Prop
def LL (X:Cx)(pins:List (Addr×Obj))(σ:St)(tg:Expr)(R:It->Hp->Prop)(itv:Value)(s2:Shared):Prop:=
 ∃(it:Addr) (fp:List Addr) (tn:Nat->Heap->Prop) (J:It) (H':Hp),itv=.ref it/\Inv X pins σ H' s2/\Turn X.prog X.w X.K tg J fp it tn/\tn 0 s2.heap/\(∀b∈fp,qZ X pins H' b)/\R J H'
def PI (X:Cx)(tg iter:Expr)(wi:TI):Prop:=
 ∀(pins:List (Addr×Obj)) (s:Shared) (σ:St) (H:Hp) (R:It->Hp->Prop),Inv X pins σ H s->wi σ H R ->
  wpAny (model X.prog X.w) X.A (eval iter X.env) (fun v s1=>wpAny (model X.prog X.w) X.A (pyIter v) (LL X pins σ tg R) X.xe s1) X.xe s
theorem Bm {M:Model}{A:Around}{E:Value->Shared->Prop}{s:Shared}{tg:Expr}{it:Addr}{u:Value}{o:Obj}{n:String}{vs:Array Value}{Q:Unit->Shared->Prop}(ho:s.heap.get? it=some o)(hc:o.cls=.type n)(hd:o.data=.fields vs)
    (hn:["enumerate","zip","dict_itemiterator","dict_reverseitemiterator","odict_iterator","itertools.zip_longest","itertools.pairwise"].contains n=false) (hQ:Q () s):wpAny M A (letOwnedTupleGo tg (.ref it) u) Q E s:=by
  unfold letOwnedTupleGo
  cases tg<;>first
    |exact wpAny_pure hQ
    | (cases u<;>first
        |exact wpAny_pure hQ
        | (refine wpAny_bind (wpAny_load ho ?_)
           rw [hc,hd]
           show wpAny M A (if (["enumerate","zip","dict_itemiterator","dict_reverseitemiterator","odict_iterator","itertools.zip_longest","itertools.pairwise"].contains n&&vs[0]? == some (rawInt _))=true then _ else _) Q E s
           rw [if_neg (by intro h;rw [hn,Bool.false_and] at h;cases h)]
           exact wpAny_pure hQ))
def KS (K:PySem.W.Frag)(a:Addr):It:=
 ⟨fun i H=>∃xs x,fq K H a xs/\xs[i]? = some x,fun i H x H'=>H'=H/\∀xs,fq K H a xs->xs[i]? = some x,fun i H=>∃xs,fq K H a xs/\xs.length≤i⟩
def KU (K:PySem.W.Frag)(a:Addr):It:=
 ⟨fun i H=>∃xs x,kQ K H a xs/\xs[i]? = some x,fun i H x H'=>H'=H/\∀xs,kQ K H a xs->xs[i]? = some x,fun i H=>∃xs,kQ K H a xs/\xs.length≤i⟩
def Iq (lo:Int)(n:Nat):It:=⟨fun i _=>i<n,fun i H x H'=>H'=H/\x=.int (lo+i),fun i _=>n≤i⟩
theorem AB {P:Program}{w:World}{K:PySem.W.Frag}{tg:Expr}(a it:Addr):Turn P w K tg (KS K a) [it] it (fun i h=>h.IsListIter it a i) where
 mem:=by simp
 obj:=fun i h st b hb=>by
  have e:b=it:=by simpa using hb
  subst e
  obtain⟨o,e,c,d⟩:=st
  exact⟨o,e,fun v z=>by rw [d] at z;cases z⟩
 keep:=fun i h h' st k=>st.at fun o e=>k it (by simp) o e
 item:=by
  intro X hP hw hK hc i pins s σ H E I hf st hg
  subst hP hw hK
  obtain⟨xs,x,hq,hx⟩:=hg
  obtain⟨its,rv,p,hz⟩:=I.list hq
  obtain⟨u,hu,ru⟩:=rv.get hx
  obtain⟨f0,f1,f2,f3,f4,f5⟩:=hf it (by simp)
  refine wpAny_pyNext_list_item st p.isList (x:=u) (by simpa using hu) fun h' st' sb=>?_
  have I1:Inv X pins σ H { s with heap:=h' }:=I.turned (t':=s.toks) (fun b o hb e=>(sb.2 b hb).trans e) f0 f1 f3 f4 f5
  obtain⟨o,e,c,d⟩:=id st'
  exact⟨u,rfl,Bm (s:={ s with heap:=h' }) e c d (by decide) ⟨x,H,I1,ru,⟨rfl,fun ys hy=>by rw [I.list_inj hy hq];exact hx⟩,st',fun b hb=>(hf b hb).1⟩⟩
 done:=by
  intro X hP hw hK hc i pins s σ H E I hf st hg
  subst hP hw hK
  obtain⟨xs,hq,hx⟩:=hg
  obtain⟨its,rv,p,hz⟩:=I.list hq
  obtain⟨f0,f1,f2,f3,f4,f5⟩:=hf it (by simp)
  have hl:=rv.length
  exact wpAny_pyNext_list_end (I.ok.hd hc) st p.isList (by simp;omega) fun h' eb=>⟨rfl,I.turned (t':=s.toks) (fun b o hb e=>eb b o hb e) f0 f1 f3 f4 f5⟩
 self:=fun _ _ _ _ _ st h=>wpAny_pyIter_listiter st h
theorem xR {P:Program}{w:World}{K:PySem.W.Frag}{tg:Expr}(a it:Addr):Turn P w K tg (KU K a) [it] it (fun i h=>h.IsTupleIter it a i) where
 mem:=by simp
 obj:=fun i h st b hb=>by
  have e:b=it:=by simpa using hb
  subst e
  obtain⟨o,e,c,d⟩:=st
  exact⟨o,e,fun v z=>by rw [d] at z;cases z⟩
 keep:=fun i h h' st k=>st.at fun o e=>k it (by simp) o e
 item:=by
  intro X hP hw hK hc i pins s σ H E I hf st hg
  subst hP hw hK
  obtain⟨xs,x,hq,hx⟩:=hg
  obtain⟨its,rv,p,hz⟩:=I.tuple hq
  obtain⟨u,hu,ru⟩:=rv.get hx
  obtain⟨f0,f1,f2,f3,f4,f5⟩:=hf it (by simp)
  refine wpAny_pyNext_tuple_item st (show s.heap.IsTuple a its.toArray from p) (x:=u) (by simpa using hu) fun h' st' sb=>?_
  have I1:Inv X pins σ H { s with heap:=h' }:=I.turned (t':=s.toks) (fun b o hb e=>(sb.2 b hb).trans e) f0 f1 f3 f4 f5
  obtain⟨o,e,c,d⟩:=id st'
  exact⟨u,rfl,Bm (s:={ s with heap:=h' }) e c d (by decide) ⟨x,H,I1,ru,⟨rfl,fun ys hy=>by rw [I.tuple_inj hy hq];exact hx⟩,st',fun b hb=>(hf b hb).1⟩⟩
 done:=by
  intro X hP hw hK hc i pins s σ H E I hf st hg
  subst hP hw hK
  obtain⟨xs,hq,hx⟩:=hg
  obtain⟨its,rv,p,hz⟩:=I.tuple hq
  obtain⟨f0,f1,f2,f3,f4,f5⟩:=hf it (by simp)
  have hl:=rv.length
  exact wpAny_pyNext_tuple_end (I.ok.hd hc) st (show s.heap.IsTuple a its.toArray from p) (by simp;omega) fun h' eb=>⟨rfl,I.turned (t':=s.toks) (fun b o hb e=>eb b o hb e) f0 f1 f3 f4 f5⟩
 self:=fun _ _ _ _ _ st h=>wpAny_pyIter_tupleiter st h
theorem xQ {P:Program}{w:World}{K:PySem.W.Frag}{tg:Expr}(it:Addr)(lo:Int)(n:Nat):Turn P w K tg (Iq lo n) [it] it (fun i h=>IsRangeIter h it (lo+(i:Nat)*1) ((n:Int)-(i:Nat)) 1) where
 mem:=by simp
 obj:=fun i h st b hb=>by
  have e:b=it:=by simpa using hb
  subst e
  exact⟨_,st,fun v z=>by
   have z':Data.fields _=Data.cell v:=z
   cases z'⟩
 keep:=fun i h h' st k=>k it (by simp) _ st
 item:=by
  intro X hP hw hK hc i pins s σ H E I hf st hg
  subst hP hw hK
  obtain⟨f0,f1,f2,f3,f4,f5⟩:=hf it (by simp)
  have W:=Walks.range (prog:=X.prog) (w:=X.w) (I.ok.hd hc) it lo 1 n
  refine W.item i s _ _ hg st fun v h' tk hv st' kk=>?_
  obtain⟨t,rfl⟩:=hv
  have I1:Inv X pins σ H { s with heap:=h',toks:=tk }:=I.turned (fun b o hb e=>kk b o (by simpa using hb) e) f0 f1 f3 f4 f5
  refine⟨_,rfl,Bm (s:={ s with heap:=h',toks:=tk }) (n := "range_iterator") st' rfl rfl (by decide) ⟨.int (lo+i),H,I1,⟨t,?_⟩,⟨rfl,rfl⟩,st',fun b hb=>(hf b hb).1⟩⟩
  rw [Int.mul_one]
 done:=by
  intro X hP hw hK hc i pins s σ H E I hf st hg
  subst hP hw hK
  obtain⟨f0,f1,f2,f3,f4,f5⟩:=hf it (by simp)
  exact wpAny_pyNext_range_end (I.ok.hd hc) st (by have:n≤i:=hg;omega) fun h' eb=>⟨rfl,I.turned (t':=s.toks) (fun b o hb e=>eb b o hb e) f0 f1 f3 f4 f5⟩
 self:=fun _ _ _ _ _ st h=>wpAny_pyIter_rangeiter st h
section
variable {X:Cx}{tg:Expr}
def Jq (K:PySem.W.Frag)(tl:TE):TI:=fun σ H R=>tl σ H fun x H1=>∃a,x=.ref a/\(∃xs,fq K H1 a xs)/\R (KS K a) H1
def Le (K:PySem.W.Frag)(tl:TE):TI:=fun σ H R=>tl σ H fun x H1=>∃a,x=.ref a/\(∃xs,kQ K H1 a xs)/\R (KU K a) H1
theorem yY {l:Expr}{tl:TE}(hl:PE X l tl):PI X tg l (Jq X.K tl):=by
 intro pins s σ H R I h
 refine dB (hl pins s σ H _ I h) fun v s1 ⟨x,H1,I1,r1,q1⟩=>?_
 obtain⟨a,e,⟨xs,hq⟩,q⟩:=q1
 subst e
 cases r1
 obtain⟨its,rv,p,hz⟩:=I1.list hq
 refine wpAny_pyIter_list p.isList ?_
 refine⟨s1.heap.objs.size,[s1.heap.objs.size],_,_,H1,rfl,I1.kept (t':=s1.toks) fun b o e=>Heap.get?_push_of_some _ e,AB a _,⟨_,Heap.get?_push_size _ rfl,rfl,rfl⟩,fun b hb=>?_,q⟩
 have e:b=s1.heap.objs.size:=by simpa using hb
 subst e
 exact I1.fpOk (Nat.le_refl _) (I1.hok.fresh (Nat.le_refl _))
theorem He {l:Expr}{tl:TE}(hl:PE X l tl):PI X tg l (Le X.K tl):=by
 intro pins s σ H R I h
 refine dB (hl pins s σ H _ I h) fun v s1 ⟨x,H1,I1,r1,q1⟩=>?_
 obtain⟨a,e,⟨xs,hq⟩,q⟩:=q1
 subst e
 cases r1
 obtain⟨its,rv,p,hz⟩:=I1.tuple hq
 refine wpAny_pyIter_tuple (show s1.heap.IsTuple a its.toArray from p) ?_
 refine⟨s1.heap.objs.size,[s1.heap.objs.size],_,_,H1,rfl,I1.kept (t':=s1.toks) fun b o e=>Heap.get?_push_of_some _ e,xR a _,⟨_,Heap.get?_push_size _ rfl,rfl,rfl⟩,fun b hb=>?_,q⟩
 have e:b=s1.heap.objs.size:=by simpa using hb
 subst e
 exact I1.fpOk (Nat.le_refl _) (I1.hok.fresh (Nat.le_refl _))
theorem vu {pins:List (Addr×Obj)}{σ:St}{H:Hp}{s:Shared}{R:It->Hp->Prop}{E:Value->Shared->Prop}{lo hi:Int}{t u v:Tok}{tk:Nat}(I:Inv X pins σ H s)(h1 : -(2^62)≤lo)(h2:lo<2^62)(h3 : -(2^62)≤hi)(h4:hi<2^62)
  (q:R (Iq lo (hi-lo).toNat) H):wpAny (model X.prog X.w) X.A (pyIter (.ref s.heap.objs.size)) (LL X pins σ tg R) E { s with heap:=s.heap.push { cls:=.type "range", data:=.fields #[.int lo t,.int hi u,.int 1 v] },toks:=tk }:=by
 refine wpAny_pyIter_range (IsRange.new ..) (small_one h1 h2 h3 h4) ?_
 have I1:Inv X pins σ H { s with heap:=s.heap.push { cls:=.type "range", data:=.fields #[.int lo t,.int hi u,.int 1 v] },toks:=tk }:=I.kept fun b o e=>Heap.get?_push_of_some _ e
 refine⟨(s.heap.push { cls:=.type "range", data:=.fields #[.int lo t,.int hi u,.int 1 v] }).objs.size,[(s.heap.push { cls:=.type "range", data:=.fields #[.int lo t,.int hi u,.int 1 v] }).objs.size],_,_,H,rfl,
  I1.kept (t':=tk) fun b o e=>Heap.get?_push_of_some _ e,xQ _ lo (hi-lo).toNat,?_,fun b hb=>?_,q⟩
 ·have e1:lo+((0:Nat):Int)*1=lo:=by simp
  have e2:(((hi-lo).toNat:Nat):Int)-((0:Nat):Int)=Builtin.Range.rangeSize lo hi 1:=by rw [rangeSize_one];split<;>omega
  show IsRangeIter _ _ (lo+((0:Nat):Int)*1) ((((hi-lo).toNat:Nat):Int)-((0:Nat):Int)) 1
  rw [e1,e2]
  exact Heap.get?_push_size _ rfl
 ·have e:b=(s.heap.push { cls:=.type "range", data:=.fields #[.int lo t,.int hi u,.int 1 v] }).objs.size:=by simpa using hb
  subst e
  exact I1.fpOk (Nat.le_refl _) (I1.hok.fresh (Nat.le_refl _))
def Jr (ta:TA):TI:=fun σ H R=>ta σ H fun vs H1=>∃j:Int,vs=[.int j] /\ -(2^62)≤j/\j<2^62/\R (Iq 0 j.toNat) H1
def Js (ta:TA):TI:=fun σ H R=>ta σ H fun vs H1=>∃i j:Int,vs=[.int i,.int j]/\(-(2^62)≤i/\i<2^62 /\ -(2^62)≤j/\j<2^62)/\R (Iq i (j-i).toNat) H1
theorem Ah {a:Expr}{ta:TA}{p pos:Pos}(hg:Gl X "range")(hm:X.mg "range" = none)(ha:PA X [a] ta)(hs:starEach [a] X.env=[(false,eval a X.env)]:=by rfl):PI X tg (.Call (.Name "range" p) [a] [] pos) (Jr ta):=by
 intro pins s σ H R I h
 refine Call_ (jE I hg hm boot_range (PyProof.Rows.callWith_type1 (dB (ha pos pins s σ H _ I h) fun us s1 ⟨vs,H1,I1,r1,q1⟩=>?_) hs rfl))
 obtain⟨j,e,q1,q2,q⟩:=q1
 subst e
 cases r1 with
 |cons r rr =>
  cases rr
  obtain⟨t,rfl⟩:=r
  exact call_range_1 (vu I1 (by omega) (by omega) q1 q2 (by simpa using q))
theorem Ai {a b:Expr}{ta:TA}{p pos:Pos}(hg:Gl X "range")(hm:X.mg "range" = none)(ha:PA X [a,b] ta)(hs:starEach [a,b] X.env=[(false,eval a X.env),(false,eval b X.env)]:=by rfl)(hs2:starEach [b] X.env=[(false,eval b X.env)]:=by rfl):
  PI X tg (.Call (.Name "range" p) [a,b] [] pos) (Js ta):=by
 intro pins s σ H R I h
 refine Call_ (jE I hg hm boot_range (PyProof.Rows.callWith_type1 (dB (ha pos pins s σ H _ I h) fun us s1 ⟨vs,H1,I1,r1,q1⟩=>?_) (by rw [hs,hs2]) (by rw [hs2];rfl)))
 obtain⟨i,j,e,⟨q1,q2,q3,q4⟩,q⟩:=q1
 subst e
 cases r1 with
 |cons r rr =>
  cases rr with
  |cons r' rr =>
   cases rr
   obtain⟨t,rfl⟩:=r
   obtain⟨t',rfl⟩:=r'
   exact call_range_2 (vu I1 q1 q2 q3 q4 q)
def LB (wi:TI)(g:TG)(tb:TS):TS:=fun D σ H=>wi σ H fun J H1=>∃W:Nat->Nat->St->Hp->Prop,(∃m,W 0 m σ H1)/\∀i m σ H,W i m σ H ->
 (J.stop i H/\D.nx σ H)\/(J.go i H/\∃N:St->Hp->Prop,(∀σ' H',N σ' H'->∃m',m'<m/\W (i+1) m' σ' H')/\∀x H',J.yld i H x H'->g x σ H' fun σ2 H2=>tb { D with nx:=N,ct:=N,bk:=D.nx } σ2 H2)
def oK (fp:List Addr)(h:Heap):List (Addr×Obj):=fp.filterMap fun b=>(h.get? b).map fun o=>(b,o)
theorem jb {fp:List Addr}{h:Heap}{b:Addr}{o:Obj}(hb:b∈fp)(e:h.get? b=some o):(b,o)∈oK fp h:=List.mem_filterMap.mpr ⟨b,hb,by rw [e];rfl⟩
theorem Ab {fp:List Addr}{h:Heap}{p:Addr×Obj}(hp:p∈oK fp h):p.1∈fp/\h.get? p.1=some p.2:=by
 obtain⟨b,hb,e⟩:=List.mem_filterMap.mp hp
 cases q:h.get? b with
 |none=>rw [q] at e;cases e
 |some o =>
  rw [q] at e
  have e':(b,o)=p:=Option.some.inj e
  subst e'
  exact⟨hb,q⟩
theorem Inv.pinned {pins:List (Addr×Obj)}{σ:St}{H:Hp}{s:Shared}{fp:List Addr}(I:Inv X pins σ H s)(hf:∀b∈fp,qZ X pins H b)(ho:∀b∈fp,∃o,s.heap.get? b=some o/\∀v,o.data≠.cell v):Inv X (pins++oK fp s.heap) σ H s:=
 I.pins_of fun p hp=>(List.mem_append.mp hp).elim (fun z=>I.pin p (List.mem_append_right _ z)) fun z=>by
  obtain⟨hb,e⟩:=Ab z
  obtain⟨f0,f1,f2,_⟩:=hf p.1 hb
  obtain⟨o,e',d⟩:=ho p.1 hb
  rw [e] at e';cases e'
  exact⟨e,f0,f1,f2,d⟩
theorem Inv.unpinned {pins pl:List (Addr×Obj)}{σ:St}{H:Hp}{s:Shared}(I:Inv X (pins++pl) σ H s):Inv X pins σ H s:=I.pins_of fun p hp=>I.pin p (List.mem_append_right _ (List.mem_append_left _ hp))
theorem BY {iter:Expr}{body:List Stmt}{wi:TI}{g:TG}{tb:TS}{pos:Pos}(hp:PassesOwn (model X.prog X.w) X.A X.env X.xe)(hc:X.calm=true)(hi:PI X tg iter wi)(hg:PG X tg g)(hb:kP X body tb)
  (hs:∀x,foldedSetIterable iter X.env x=pure x:=by intro _;rfl):PS X (.For tg iter body [] pos) (LB wi g tb):=by
 intro pins s σ H D I h
 refine wpAny_For (dB (hi pins s σ H _ I h) fun v s1 h1=>dB h1 fun itv s2 h2=>?_) hs
 obtain⟨it,fp,tn,J,H2,e,I2,T,st2,f2,W,⟨m0,w0⟩,turn⟩:=h2
 subst e
 -- what stays true of the iterator's objects through the loop
 have stat:∀{H':Hp},(∀b∈fp,H' b=none)->∀b∈fp,qZ X pins H' b:=fun hn b hb=>⟨hn b hb,(f2 b hb).2⟩
 refine codeAny_forLoop_any (fun n s'=>∃i σ' H',Inv X pins σ' H' s'/\tn i s'.heap/\(∀b∈fp,H' b=none)/\W i n σ' H') ?_ m0 ⟨0,σ,H2,I2,st2,fun b hb=>(f2 b hb).1,w0⟩
 rintro n s3 ⟨i,σ3,H3,I3,st3,fr3,w3⟩
 rcases turn i n σ3 H3 w3 with ⟨stop,qn⟩ | ⟨go,N,hN,step⟩
 ·refine wpAny_passesOwn hp (dB (T.done X rfl rfl rfl hc i pins s3 σ3 H3 X.xe I3 (stat fr3) st3 stop) fun r s4 ⟨hr,I4⟩=>?_)
  subst hr
  exact wpAny_execs_nil ⟨σ3,H3,I4,qn⟩
 ·refine wpAny_passesOwn hp (dB (T.item X rfl rfl rfl hc i pins s3 σ3 H3 X.xe I3 (stat fr3) st3 go) fun r s4 ⟨u,hr,h4⟩=>?_)
  subst hr
  refine wpAny_passesOwn hp (dB h4 fun _ s5 ⟨x,H5,I5,r5,y5,st5,fr5⟩=>?_)
  have I5':=I5.pinned (stat fr5) (T.obj _ _ st5)
  refine wpAny_passesOwn hp (dB (hg _ s5 σ3 H5 x u _ I5' r5 (step x H5 y5)) fun _ s6 ⟨σ6,H6,I6,q6⟩=>?_)
  refine wpAny_passesOwn hp (dB (hb _ s6 σ6 H6 _ I6 q6) fun f s7 q7=>?_)
  have again:∀{σ7:St} {H7:Hp},Inv X (pins++oK fp s5.heap) σ7 H7 s7->N σ7 H7->∃m,m<n/\∃i σ' H',Inv X pins σ' H' s7/\tn i s7.heap/\(∀b∈fp,H' b=none)/\W i m σ' H':=fun {σ7 H7} I7 n7=>by
   obtain⟨m',hm,w7⟩:=hN σ7 H7 n7
   refine⟨m',hm,i+1,σ7,H7,I7.unpinned,T.keep _ _ _ st5 fun b hb o e=>(I7.pin (b,o) (List.mem_append_right _ (List.mem_append_right _ (jb hb e)))).1,fun b hb=>?_,w7⟩
   obtain⟨o,e,d⟩:=T.obj _ _ st5 b hb
   exact (I7.pin (b,o) (List.mem_append_right _ (List.mem_append_right _ (jb hb e)))).2.1
  cases f with
  |next=>obtain⟨σ7,H7,I7,n7⟩:=q7;exact again I7 n7
  |cont=>obtain⟨σ7,H7,I7,n7⟩:=q7;exact again I7 n7
  |brk=>obtain⟨σ7,H7,I7,q7⟩:=q7;exact⟨σ7,H7,I7.unpinned,q7⟩
  |ret v=>obtain⟨x7,σ7,H7,I7,r7,q7⟩:=q7;exact⟨x7,σ7,H7,I7.unpinned,r7,q7⟩
end
abbrev R2:=V->V->Hp->VK->Prop
def pD (X:Cx)(f:Value->Value->Sem Value)(r:R2):Prop:=
 ∀(pins:List (Addr×Obj)) (s:Shared) (σ:St) (H:Hp) (x y:V) (v u:Value) (Q:VK),Inv X pins σ H s->RelV x v->RelV y u->r x y H Q ->
  wpAny (model X.prog X.w) X.A (f v u) (EP X pins σ Q) X.xe s
def Kp (X:Cx)(f:Value->Sem Value)(r:V->Hp->VK->Prop):Prop:=
 ∀(pins:List (Addr×Obj)) (s:Shared) (σ:St) (H:Hp) (x:V) (v:Value) (Q:VK),Inv X pins σ H s->RelV x v->r x H Q ->
  wpAny (model X.prog X.w) X.A (f v) (EP X pins σ Q) X.xe s
def gW (X:Cx)(f:Value)(r:List V->Hp->VK->Prop):Prop:=
 ∀(pins:List (Addr×Obj)) (s:Shared) (σ:St) (H:Hp) (xs:List V) (us:List Value) (Q:VK),Inv X pins σ H s->Vals xs us->r xs H Q ->
  wpAny (model X.prog X.w) X.A (call f us) (EP X pins σ Q) X.xe s
def KY (X:Cx)(r:V->Hp->(Bool->Hp->Prop)->Prop):Prop:=
 ∀(pins:List (Addr×Obj)) (s:Shared) (σ:St) (H:Hp) (x:V) (v:Value) (Q:Bool->Hp->Prop),Inv X pins σ H s->RelV x v->r x H Q ->
  wpAny (model X.prog X.w) X.A (truthy v) (TP X pins σ Q) X.xe s
def Ke (r:R2)(ta tb:TE):TE:=fun σ H Q=>ta σ H fun x H1=>tb σ H1 fun y H2=>r x y H2 Q
def MH (r:V->Hp->VK->Prop)(ta:TE):TE:=fun σ H Q=>ta σ H fun x H1=>r x H1 Q
def rI (C:Int->Int->Prop)(g:Int->Int->V):R2:=fun x y H Q=>∃i j,x=.int i/\y=.int j/\C i j/\Q (g i j) H
def Eb (g:Int->Int->V):R2:=fun x y H Q=>∃i j,x=.int i/\y=.int j/\Q (g i j) H
def rU (g:Int->V):V->Hp->VK->Prop:=fun x H Q=>∃i,x=.int i/\Q (g i) H
section
variable {X:Cx}{a b c:Expr}{ta tb tc:TE}{pos:Pos}
theorem FJ (ha:PE X a ta)(hb:PE X b tb){pins:List (Addr×Obj)}{s:Shared}{σ:St}{H:Hp}{R:V->V->Hp->Prop}(I:Inv X pins σ H s)
  (h:ta σ H fun x H1=>tb σ H1 fun y H2=>R x y H2) {Q:Value->Shared->Prop} {f:Value->Value->Sem Value}
  (hf:∀v u s2 x y H2,Inv X pins σ H2 s2->RelV x v->RelV y u->R x y H2->wpAny (model X.prog X.w) X.A (f v u) Q X.xe s2):
  wpAny (model X.prog X.w) X.A (eval a X.env) (fun v s₁=>wpAny (model X.prog X.w) X.A (eval b X.env) (fun u s₂=>wpAny (model X.prog X.w) X.A (f v u) Q X.xe s₂) X.xe s₁) X.xe s:=by
 refine dB (ha pins s σ H _ I h) fun v s1 ⟨x,H1,I1,r1,q1⟩=>?_
 refine dB (hb pins s1 σ H1 _ I1 q1) fun u s2 ⟨y,H2,I2,r2,q2⟩=>?_
 exact hf v u s2 x y H2 I2 r1 r2 q2
theorem JT {op:Operator}{r:R2}(ho:pD X (binaryOp op) r)(ha:PE X a ta)(hb:PE X b tb):PE X (.BinOp a op b pos) (Ke r ta tb):=by
 intro pins s σ H Q I h
 exact wpAny_BinOp (FJ ha hb I h fun v u s2 x y H2 I2 rx ry q=>ho pins s2 σ H2 x y v u Q I2 rx ry q)
theorem JU {op:UnaryOp}{r:V->Hp->VK->Prop}(ho:Kp X (unaryOp op) r)(ha:PE X a ta):PE X (.UnaryOp op a pos) (MH r ta):=by
 intro pins s σ H Q I h
 exact UnaryOp_ (dB (ha pins s σ H _ I h) fun v s1 ⟨x,H1,I1,r1,q1⟩=>ho pins s1 σ H1 x v Q I1 r1 q1)
theorem Lo {f:Value->Value->Sem Value}{C:Int->Int->Prop}{g:Int->Int->Int}
  (rule:∀(i j:Int) (t u:Tok) (s:Shared) (Q:Value->Shared->Prop) (E:Value->Shared->Prop),C i j->Q (.int (g i j) s.toks) { s with toks:=s.toks+1 }->wpAny (model X.prog X.w) X.A (f (.int i t) (.int j u)) Q E s):
  pD X f (rI C fun i j=>.int (g i j)):=by
 intro pins s σ H x y v u Q I rx ry h
 obtain⟨i,j,rfl,rfl,hc,q⟩:=h
 obtain⟨t,rfl⟩:=rx
 obtain⟨t',rfl⟩:=ry
 exact rule i j t t' s _ _ hc ⟨.int (g i j),H,I.tok _,⟨_,rfl⟩,q⟩
theorem JK {f:Value->Value->Sem Value}{g:Int->Int->Int}
  (rule:∀(i j:Int) (t u:Tok) (s:Shared) (Q:Value->Shared->Prop) (E:Value->Shared->Prop),Q (.int (g i j) s.toks) { s with toks:=s.toks+1 }->wpAny (model X.prog X.w) X.A (f (.int i t) (.int j u)) Q E s):
  pD X f (Eb fun i j=>.int (g i j)):=by
 intro pins s σ H x y v u Q I rx ry h
 obtain⟨i,j,rfl,rfl,q⟩:=h
 obtain⟨t,rfl⟩:=rx
 obtain⟨t',rfl⟩:=ry
 exact rule i j t t' s _ _ ⟨.int (g i j),H,I.tok _,⟨_,rfl⟩,q⟩
theorem DW {f:Value->Value->Sem Value}{g:Int->Int->Bool}
  (rule:∀(i j:Int) (t u:Tok) (s:Shared) (Q:Value->Shared->Prop) (E:Value->Shared->Prop),Q (.bool (g i j)) s->wpAny (model X.prog X.w) X.A (f (.int i t) (.int j u)) Q E s):
  pD X f (Eb fun i j=>.bl (g i j)):=by
 intro pins s σ H x y v u Q I rx ry h
 obtain⟨i,j,rfl,rfl,q⟩:=h
 obtain⟨t,rfl⟩:=rx
 obtain⟨t',rfl⟩:=ry
 exact rule i j t t' s _ _ ⟨.bl (g i j),H,I,rfl,q⟩
def KP (i j:Int):Prop:=0≤j/\j≤1000000/\i.natAbs<2^64
theorem GZ:pD X (binaryOp .Add) (Eb fun i j=>.int (i+j)):=JK fun _ _ _ _ _ _ _ q=>add_int q
theorem G1:pD X (binaryOp .Sub) (Eb fun i j=>.int (i-j)):=JK fun _ _ _ _ _ _ _ q=>sub_int q
theorem DY:pD X (binaryOp .Mod) (rI (fun _ j=>j≠0) fun i j=>.int (i.fmod j)):=Lo fun _ _ _ _ _ _ _ hc q=>mod_int' hc q
theorem MI {f:Value->Sem Value}{g:Int->Int}
  (rule:∀(i:Int) (t:Tok) (s:Shared) (Q:Value->Shared->Prop) (E:Value->Shared->Prop),Q (.int (g i) s.toks) { s with toks:=s.toks+1 }->wpAny (model X.prog X.w) X.A (f (.int i t)) Q E s):
  Kp X f (rU fun i=>.int (g i)):=by
 intro pins s σ H x v Q I rx h
 obtain⟨i,rfl,q⟩:=h
 obtain⟨t,rfl⟩:=rx
 exact rule i t s _ _ ⟨.int (g i),H,I.tok _,⟨_,rfl⟩,q⟩
theorem HC:Kp X (unaryOp .USub) (rU fun i=>.int (-i)):=MI fun _ _ _ _ _ q=>neg_int q
end
section
variable {X:Cx}{a b c:Expr}{ta tb tc:TE}{pos:Pos}
theorem Gu {pins:List (Addr×Obj)}{σ:St}{H:Hp}{s:Shared}{Q:VK}{k k':Bool}(I:Inv X pins σ H s)(q:Q (.bl k) H)(e:k=k'):EP X pins σ Q (.bool k') s:=by
 subst e
 exact⟨.bl k,H,I,rfl,q⟩
theorem JP:pD X (compareOp .Lt) (Eb fun i j=>.bl (decide (i<j))):=DW fun _ _ _ _ _ _ _ q=>lt_int q
theorem JO:pD X (compareOp .LtE) (Eb fun i j=>.bl (decide (i≤j))):=DW fun _ _ _ _ _ _ _ q=>le_int q
theorem JM:pD X (compareOp .Gt) (Eb fun i j=>.bl (decide (j<i))):=DW fun _ _ _ _ _ _ _ q=>gt_int q
theorem JL:pD X (compareOp .GtE) (Eb fun i j=>.bl (decide (j≤i))):=DW fun _ _ _ _ _ _ _ q=>ge_int q
theorem DZ:pD X (compareOp .IsNot) (fun x y H Q=>y=.non/\Q (.bl (!decide (x=.non))) H):=by
 intro pins s σ H x y v u Q I rx ry h
 obtain⟨rfl,q⟩:=h
 cases ry
 refine isnot_none_gen (Gu I q ?_)
 cases x<;>first
  |(cases rx;rfl)
  |(obtain⟨t,rfl⟩:=rx;rfl)
theorem cK (b:Expr){op:CmpOp}(h:op≠.In:=by decide)(h2:op≠.NotIn:=by decide):behindInMarks op b=false:=by
 have e1:(op == CmpOp.In)=false:=by cases op<;>first | rfl | exact absurd rfl h
 have e2:(op == CmpOp.NotIn)=false:=by cases op<;>first | rfl | exact absurd rfl h2
 cases b<;>simp [behindInMarks,e1,e2]
theorem D3 {op:CmpOp}{r:R2}(ho:pD X (compareOp op) r)(ha:PE X a ta)(hb:PE X b tb)(hm:behindInMarks op b=false):PE X (.Compare a [op] [b] pos) (Ke r ta tb):=by
 intro pins s σ H Q I h
 exact wpAny_Compare1 (FJ ha hb I h fun v u s2 x y H2 I2 rx ry q=>ho pins s2 σ H2 x y v u Q I2 rx ry q) hm
def Fy (t:TE):TT:=fun σ H Q=>t σ H fun x H'=>∃k,x=.bl k/\Q k H'
theorem D7 {op:CmpOp}{r:R2}(ho:pD X (compareOp op) r)(ha:PE X a ta)(hb:PE X b tb)(hm:behindInMarks op b=false):PT X (.Compare a [op] [b] pos) (Fy (Ke r ta tb)):=by
 intro pins s σ H Q I h
 refine wpAny_isTrue_Compare1 (dB (ha pins s σ H _ I h) fun v s1 ⟨x,H1,I1,r1,q1⟩=>dB (hb pins s1 σ H1 _ I1 q1) fun u s2 ⟨y,H2,I2,r2,q2⟩ =>
  dB (ho pins s2 σ H2 x y v u _ I2 r1 r2 q2) fun c s3 ⟨z,H3,I3,r3,k,e,q3⟩=>?_) hm
 subst e
 cases r3
 exact wpAny_truthy_bool ⟨H3,I3,q3⟩
def Cm (r r':R2)(ta tb tc:TE):TE:=fun σ H Q=>ta σ H fun x H1=>tb σ H1 fun y H2=>r x y H2 fun z H3=>∃k,z=.bl k /\
 (if k=true then tc σ H3 fun w' H4=>r' y w' H4 Q else Q (.bl false) H3)
theorem B4 {op op':CmpOp}{r r':R2}(ho:pD X (compareOp op) r)(ho':pD X (compareOp op') r')(ha:PE X a ta)(hb:PE X b tb)(hc:PE X c tc)
  (hm:lastMarks [op,op'] [b,c]=false:=by with_unfolding_all rfl):PT X (.Compare a [op,op'] [b,c] pos) (Fy (Cm r r' ta tb tc)):=by
 intro pins s σ H Q I h
 refine isTrue_chain (dB (ha pins s σ H _ I h) fun v s1 ⟨x,H1,I1,r1,q1⟩=>test_link (dB (hb pins s1 σ H1 _ I1 q1) fun u s2 ⟨y,H2,I2,r2,q2⟩ =>
  dB (ho pins s2 σ H2 x y v u _ I2 r1 r2 q2) fun d s3 ⟨z,H3,I3,r3,k,e,q3⟩=>?_)) hm
 subst e
 cases r3
 refine wpAny_truthy_bool ?_
 cases k with
 |false =>
  obtain⟨k',e',q'⟩:=q3
  cases e'
  exact ite_ff ⟨H3,I3,q'⟩
 |true =>
  refine ite_tt (test_last (dB (hc pins s3 σ H3 _ I3 q3) fun w' s4 ⟨z',H4,I4,r4,q4⟩=>dB (ho' pins s4 σ H4 y z' u w' _ I4 r2 r4 q4) fun d' s5 ⟨z2,H5,I5,r5,k2,e2,q5⟩=>?_))
  subst e2
  cases r5
  exact wpAny_truthy_bool ⟨H5,I5,q5⟩
def FF (K:PySem.W.Frag)(x:V)(H:Hp)(k:Bool):Prop:=
 match x with
 | .non=>k=false
 | .bl b=>k=b
 | .int i=>k=(i != 0)
 | .str y=>y.length≤sizeLine/\k=((y.length:Int) != 0)
 | .byt y=>y.size≤sizeLine/\k=((y.size:Int) != 0)
 | .ref p=>(∃xs,fq K H p xs/\k = !xs.isEmpty)\/(∃xs,kQ K H p xs/\k = !xs.isEmpty)\/∃kvs,H p=some (.dK kvs)/\k = !kvs.isEmpty
 |_=>False
theorem wF {κ:Type}{kvs:List (κ×V)}{vs:List (κ×Value)}(r:KV kvs vs):(!vs.isEmpty) = !kvs.isEmpty:=by
 cases r<;>rfl
theorem oi {xs:List V}{its:List Value}(r:Vals xs its):(!its.toArray.isEmpty) = !xs.isEmpty:=by
 cases r<;>simp
theorem kz:(sizeLine:Nat)<2^63:=by rw [sizeLine_eq];decide
theorem Hy:KY X (fun x H Q=>∃k,FF X.K x H k/\Q k H):=by
 intro pins s σ H x v Q I rx h
 obtain⟨k,e,q⟩:=h
 have hl:=kz
 have hs:sizeLine=16777216:=sizeLine_eq
 cases x with
 |non =>
  cases rx
  have e':k=false:=e
  subst e'
  exact truthy_none ⟨H,I,q⟩
 |bl b =>
  cases rx
  have e':k=b:=e
  subst e'
  exact wpAny_truthy_bool ⟨H,I,q⟩
 |int i =>
  obtain⟨t,rfl⟩:=rx
  have e':k=(i != 0):=e
  subst e'
  exact PySem.P.truthy_int ⟨H,I,q⟩
 |str y =>
  obtain⟨t,rfl⟩:=rx
  obtain⟨hy,e'⟩:y.length≤sizeLine/\k=((y.length:Int) != 0):=e
  subst e'
  exact PySem.P.truthy_str (by omega) ⟨H,I.tok _,q⟩
 |byt y =>
  obtain⟨t,rfl⟩:=rx
  obtain⟨hy,e'⟩:y.size≤sizeLine/\k=((y.size:Int) != 0):=e
  subst e'
  exact PySem.W.truthy_bytes (by omega) ⟨H,I.tok _,q⟩
 |ref p =>
  cases rx
  have e':(∃xs,fq X.K H p xs/\k = !xs.isEmpty)\/(∃xs,kQ X.K H p xs/\k = !xs.isEmpty)\/∃kvs,H p=some (.dK kvs)/\k = !kvs.isEmpty:=e
  rcases e' with ⟨xs,hx,e'⟩ | ⟨xs,hx,e'⟩ | ⟨kvs,hx,e'⟩
  ·subst e'
   obtain⟨its,r,pl,hz⟩:=I.list hx
   have hlen:=r.length
   exact wpAny_truthy_list pl.isList (by simp only [List.size_toArray];omega) ⟨H,I.tok _,by rw [oi r];exact q⟩
  ·subst e'
   obtain⟨its,r,pl,hz⟩:=I.tuple hx
   have hlen:=r.length
   exact truthy_tuple pl (by simp only [List.size_toArray];omega) ⟨H,I.tok _,by rw [oi r];exact q⟩
  ·subst e'
   obtain⟨hz,hS,vs,r,m⟩:kvs.length≤sizeLine/\(p == sysModules)=false/\∃vs,KV kvs vs/\s.heap.DictOf (sR X.prog X.w) p vs:=I.hok p _ hx
   have hlen:kvs.length=vs.length:=Paired.length r
   exact wpAny_truthy_dict hS m (by omega) ⟨H,I.tok _,by rw [wF r];exact q⟩
 |_=>exact (show False from e).elim
theorem B5 (ha:PE X a ta)(he:∀whole,isTrue a X.env whole=(do let v <- whole;standAt a.pos;holding [v] (truthy v))):
  PT X a (fun σ H Q=>ta σ H fun x H'=>∃k,FF X.K x H' k/\Q k H'):=by
 intro pins s σ H Q I h
 exact isTrue_plain (dB (ha pins s σ H _ I h) fun v s1 ⟨x,H1,I1,r1,q1⟩=>Hy pins s1 σ H1 x v Q I1 r1 q1) (he _)
theorem xk:pD X (binaryOp .Add) (fun x y H Q=>∃i j,x=.str i/\y=.str j/\i.length+j.length≤sizeLine/\Q (.str (i++j)) H):=by
 intro pins s σ H x y v u Q I rx ry h
 obtain⟨i,j,rfl,rfl,hz,q⟩:=h
 obtain⟨t,rfl⟩:=rx
 obtain⟨t',rfl⟩:=ry
 exact add_str (fun t' tk=>⟨.str (i++j),H,I.tok _,⟨_,rfl⟩,q⟩) hz
theorem vals1 {x:V}{us:List Value}(r:Vals [x] us):∃u,us=[u]/\RelV x u:=by
 cases r with
 |cons r1 r2=>cases r2;exact⟨_,rfl,r1⟩
theorem AS:gW X (.builtin "abs") (fun xs H Q=>∃i,xs=[.int i]/\Q (.int (if i<0 then -i else i)) H):=by
 intro pins s σ H xs us Q I r h
 obtain⟨i,rfl,q⟩:=h
 obtain⟨u,rfl,t,rfl⟩:=vals1 r
 exact call_abs_int fun u tk=>⟨.int (if i<0 then -i else i),H,I.tok _,⟨_,rfl⟩,q⟩
end
structure vR (h:Heap)(x dx C:Addr)(mA:Str->Option Value):Prop where
 obj:h.get? x=some (PySem.W.instObj C dx)
 ns:h.Ns1 dx mA
 ne:dx≠x
theorem zW {h:Heap}{dx:Addr}{mA:Str->Option Value}(n:h.Ns1 dx mA):∃od,h.get? dx=some od/\∀name,PySem.W.lookIn name od=some (mA name):=by
 obtain⟨o,es,ep,ho,hd,hk,_,hm⟩:=n
 refine⟨o,ho,fun name=>?_⟩
 have e:=hm name
 unfold nsFind findBy at e
 rw [<- Array.find?_toList] at e
 unfold PySem.W.lookIn
 rw [hd]
 dsimp only
 split
 ·rename_i y q
  rw [q] at e
  exact congrArg some e
 ·rename_i q
  rw [q] at e
  have a:es.toList.any (·.refKey)=false:=by
   rw [List.any_eq_false]
   intro y hy
   obtain⟨z,t,hkey⟩:=hk y (Array.mem_toList_iff.mp hy)
   simp [DictEntry.refKey,hkey]
  have a':¬ es.toList.any (·.refKey)=true:=by rw [a];exact Bool.false_ne_true
  rw [if_neg a']
  exact congrArg some e
theorem vR.look {h:Heap}{x dx C:Addr}{mA:Str->Option Value}(I:vR h x dx C mA):∃od,PySem.W.InstAt h x (PySem.W.instObj C dx) C (some od)/\∀name,PySem.W.lookIn name od=some (mA name):=
 let ⟨od,ho,hl⟩:=zW I.ns
 ⟨od,⟨I.obj,rfl,rfl,ho⟩,hl⟩
section
variable {prog:Program}{w:World}{A:Around}{E:Value->Shared->Prop}{s:Shared}{K:PySem.W.Frag}{x dx C f:Addr}{mA:Str->Option Value}{name:Str}{v:Value}
theorem get_map {expr:Bool}{Q:Value->Shared->Prop}(X:K.In s.heap)(I:vR s.heap x dx C mA)(hg:PySem.W.plainGet K C name=true)(hh:PySem.W.hasDictIn K C=true)
  (ha:PySem.W.findIn K (.ref C) name=some none) (hv:mA name=some v) (hv':PySem.W.handedIn v=true) (h:Q v { s with toks:=s.toks+1 }):
  wpAny (model prog w) A (getAttr (.ref x) name expr) Q E s:=by
 obtain⟨od,J,hl⟩:=I.look
 exact PySem.W.get_value X J (PySem.W.plainGet_of hg).1 (PySem.W.findObj_own hh ha rfl (by rw [hl,hv])) hv' h
theorem Bk {pl:Sem Bool}{Q:Value×List Value->Shared->Prop}(X:K.In s.heap)(I:vR s.heap x dx C mA)(hg:PySem.W.plainGet K C name=true)
  (hf:PySem.W.findIn K (.ref C) name=some (some (.ref f))) (ht:PySem.W.isFn K (.ref f)=true) (hv:mA name=none) (h:Q (.ref f,[.ref x]) s):
  wpAny (model prog w) A (getMethod (.ref x) name pl) Q E s:=by
 obtain⟨od,J,hl⟩:=I.look
 exact PySem.W.method_fn X J (PySem.W.plainGet_of hg).1 (PySem.W.plainGet_of hg).2 hf (beq_iff_eq.mp ht) (by show (PySem.W.lookIn name od).map (·.isSome)=some false;rw [hl,hv];rfl) h
theorem Ep {ns:List Str}{Q:Unit->Shared->Prop}(X:K.In s.heap)(I:vR s.heap x dx C mA)
  (hs:PySem.W.findIn K (.ref C) "__setattr__" = some (some (.builtin "object.__setattr__"))) (hp:PySem.W.plainOver K C=true) (ht:PySem.W.takerIn K C name=some none) (hh:PySem.W.hasDictIn K C=true)
  (hw:PySem.Within mA ns) (hsz:ns.length≤sizeLine)
  (h:∀h',vR h' x dx C (fun y=>if y=name then some v else mA y)->Heap.SameBut dx s.heap h'->Q () { s with heap:=h',toks:=s.toks+2 }):
  wpAny (model prog w) A (setAttr (.ref x) name v) Q E s:=by
 obtain⟨od,J,hl⟩:=I.look
 refine PySem.W.set_plain X J hs (PySem.W.osa_open (s:={ s with toks:=s.toks+1 }) (r:=none) X J hp ht fun b=>?_)
 obtain⟨cd,hc,hd'⟩:=PySem.W.any_some hh
 have hx:s.heap.get? x=some ⟨.ref C,some dx,.plain,#[]⟩:=I.obj
 refine wpAny_bind (wpAny_pure (wpAny_bind (wpAny_bind (wpAny_loadPart hx (wpAny_bind (PySem.W.Looks.here (s:={ s with toks:=s.toks+1 }) (PySem.W.looks_clsIn X hc) ?_))))))
 rw [hd']
 refine wpAny_pure (a:=some dx) (wpAny_bind (wpAny_pure (wpAny_bind ?_)))
 refine wpAny_nsSet1 (s:={ s with toks:=s.toks+1 }) I.ns fun h' hn2 hs2=>?_
 obtain⟨oD,esD,epD,hoD,hdD,hcD⟩:=hn2.count (PySem.Within.cons name v hw)
 refine wpAny_bind (wpAny_lookBehind hoD (by rw [hdD];exact pastItsLine_dict (Nat.le_trans hcD (by rw [List.length_cons];omega))) ?_)
 exact wpAny_pure (h _ ⟨(hs2.2 _ (Ne.symm I.ne)).trans I.obj,hn2,I.ne⟩ hs2)
theorem BG {R:Result->Shared->Prop}{vs:List Value}{kw:List (Str×Value)}(X:K.In s.heap)(hm:PySem.W.makesIn K C=true)
  (hi:PySem.W.findIn K (.ref C) "__init__" = some (some (.ref f))) (hf:PySem.W.typeIn K (.ref f)=some (.type "function"))
  (h:codeAny (model prog w) (A.under (.builtin "type.__call__" ⟨.ref C::vs,kw⟩)) (.call (.ref f) ⟨.ref (s.heap.objs.size+1)::vs,kw⟩) (PySem.W.InitBack (s.heap.objs.size+1) R)
   { s with heap:=(s.heap.push PySem.W.emptyDict).push (PySem.W.instObj C s.heap.objs.size) }):
  codeAny (model prog w) A (.call (.ref C) ⟨vs,kw⟩) R s:=by
 obtain⟨hh,g,d,t,os⟩:=s
 exact PySem.W.make_core (PySem.W.makes_of X hm) (PySem.W.looks_findIn X hi) (fun self=>PySem.W.bind_fn X self hf) (.inl rfl) h
end
def jc (f:Str)(v:V):List (Str×V)->List (Str×V)
 |[]=>[(f,v)]
 |(g,x)::r=>if g=f then (g,v)::r else (g,x)::jc f v r
theorem mQ (f g:Str)(v:V):∀fs:List (Str×V),(jc f v fs).lookup g=if g=f then some v else fs.lookup g
 |[]=>by
  show List.lookup g [(f,v)]=_
  by_cases h:g=f
  ·have hb:(g == f)=true:=beq_iff_eq.mpr h
   simp only [List.lookup,hb,if_pos h]
  ·have hb:(g == f)=false:=beq_eq_false_iff_ne.mpr h
   simp only [List.lookup,hb,if_neg h]
 |(k,x)::r=>by
  have ih:=mQ f g v r
  rw [show jc f v ((k,x)::r)=(if k=f then (k,v)::r else (k,x)::jc f v r) from rfl]
  by_cases hk:k=f
  ·rw [if_pos hk]
   by_cases h:g=k
   ·have hb:(g == k)=true:=beq_iff_eq.mpr h
    simp only [List.lookup,hb,if_pos (h.trans hk)]
   ·have hb:(g == k)=false:=beq_eq_false_iff_ne.mpr h
    simp only [List.lookup,hb,if_neg (fun e:g=f=>h (e.trans hk.symm))]
  ·rw [if_neg hk]
   by_cases h:g=k
   ·have hb:(g == k)=true:=beq_iff_eq.mpr h
    simp only [List.lookup,hb,if_neg (fun e:g=f=>hk (h.symm.trans e))]
   ·have hb:(g == k)=false:=beq_eq_false_iff_ne.mpr h
    simp only [List.lookup,hb]
    exact ih
theorem lZ (f:Str)(v:V):∀fs:List (Str×V),f∈(jc f v fs).map (·.1)/\∀g,g∈fs.map (·.1)->g∈(jc f v fs).map (·.1)
 |[]=>⟨by simp [jc],fun g h=>by simp at h⟩
 |(k,x)::r=>by
  obtain⟨i1,i2⟩:=lZ f v r
  rw [show jc f v ((k,x)::r)=(if k=f then (k,v)::r else (k,x)::jc f v r) from rfl]
  by_cases hk:k=f
  ·rw [if_pos hk]
   subst hk
   exact⟨by simp,fun g h=>by simpa using h⟩
  ·rw [if_neg hk]
   refine⟨?_,fun g h=>?_⟩
   ·rw [List.map_cons]
    exact List.mem_cons_of_mem _ i1
   ·rw [List.map_cons] at h ⊢
    rcases List.mem_cons.mp h with e | e
    ·exact List.mem_cons.mpr (.inl e)
    ·exact List.mem_cons_of_mem _ (i2 g e)
theorem mP (f:Str)(v:V):∀fs:List (Str×V),(jc f v fs).length≤fs.length+1
 |[]=>by simp [jc]
 |(k,x)::r=>by
  have ih:=mP f v r
  rw [show jc f v ((k,x)::r)=(if k=f then (k,v)::r else (k,x)::jc f v r) from rfl]
  by_cases hk:k=f
  ·rw [if_pos hk,List.length_cons,List.length_cons];omega
  ·rw [if_neg hk,List.length_cons,List.length_cons];omega
theorem pI.some_of {v:V}{o:Option Value}(r:pI (some v) o):∃u,o=some u/\RelV v u:=by
 cases o with
 |none=>exact (show False from r).elim
 |some u=>exact⟨u,rfl,r⟩
theorem pI.none_of {o:Option Value}(r:pI none o):o=none:=by
 cases o with
 |none=>rfl
 |some u=>exact (show False from r).elim
theorem zR {v:V}{u:Value}(r:RelV v u):PySem.W.handedIn u=true:=by
 cases v with
 |non=>cases (show u=Value.none from r);rfl
 |bl b=>cases (show u=Value.bool b from r);rfl
 |int i=>obtain⟨t,e⟩:=(show ∃t,u=Value.int i t from r);cases e;rfl
 |str x=>obtain⟨t,e⟩:=(show ∃t,u=Value.str x t from r);cases e;rfl
 |byt b=>obtain⟨t,e⟩:=(show ∃t,u=Value.bytes b t from r);cases e;rfl
 |flt b=>obtain⟨t,e⟩:=(show ∃t,u=Value.float b t from r);cases e;rfl
 |ref a=>cases (show u=Value.ref a from r);rfl
 |ty n=>cases (show u=Value.type n from r);rfl
section
variable {P:Program}{w:World}{H H':Hp}{h h':Heap}{a C dx:Addr}{fs fs':List (Str×V)}
theorem rS (hok:mK P w H h)(e:H a=some (.ins C dx fs)):∃mA,vR h a dx C mA/\(∀f,pI (fs.lookup f) (mA f))/\PySem.Within mA (fs.map (·.1))/\fs.length≤1000/\H dx=some (.own a):=by
 obtain⟨d,z,ne,ob,mA,n,r,q⟩:=(show gd P w H h a (.ins C dx fs) from hok a _ e)
 exact⟨mA,⟨ob,n,ne⟩,r,q,z,d⟩
end
structure pH (K:PySem.W.Frag)(C:Addr):Prop where
 pg:PySem.W.plainGet K C Str.empty=true
 hd:PySem.W.hasDictIn K C=true
 po:PySem.W.plainOver K C=true
 sa:PySem.W.findIn K (.ref C) "__setattr__" = some (some (.builtin "object.__setattr__"))
theorem pH.get {K:PySem.W.Frag}{C:Addr}(c:pH K C)(f:Str):PySem.W.plainGet K C f=true:=c.pg
def fz (K:PySem.W.Frag)(C:Addr)(f:Str):Prop:=PySem.W.findIn K (.ref C) f=some none
theorem fz.taker {K:PySem.W.Frag}{C:Addr}{f:Str}(n:fz K C f):PySem.W.takerIn K C f=some none:=by
 unfold PySem.W.takerIn
 rw [show PySem.W.findIn K (.ref C) f=some none from n]
 rfl
structure Meth (K:PySem.W.Frag)(C:Addr)(m:Str)(f:Addr):Prop where
 at_:PySem.W.findIn K (.ref C) m=some (some (.ref f))
 fn:PySem.W.isFn K (.ref f)=true
 kp:PySem.W.keepIn K (.ref f)=true
section
variable {X:Cx}{pins:List (Addr×Obj)}{σ:St}{H:Hp}{s:Shared}{a C dx:Addr}{fs:List (Str×V)}{f:Str}{v:V}{A:Around}{E:Value->Shared->Prop}
theorem wA {b:Bool}{Q:Value->Shared->Prop}(I:Inv X pins σ H s)(e:H a=some (.ins C dx fs))(c:pH X.K C)(n:fz X.K C f)(l:fs.lookup f=some v)
  (h:∀u s',Inv X pins σ H s'->RelV v u->Q u s'):wpAny (model X.prog X.w) A (getAttr (.ref a) f b) Q E s:=by
 obtain⟨mA,O,r,_,_,_⟩:=rS I.hok e
 obtain⟨u,hu,ru⟩:=pI.some_of (v:=v) (o:=mA f) (by rw [<- l];exact r f)
 exact get_map I.kIn O (c.get f) c.hd n hu (zR ru) (h u _ (I.tok _) ru)
theorem wB {m:Str}{g:Addr}{pl:Sem Bool}{Q:Value×List Value->Shared->Prop}(I:Inv X pins σ H s)(e:H a=some (.ins C dx fs))(c:pH X.K C)(k:Meth X.K C m g)(l:fs.lookup m=none)
  (h:Q (.ref g,[.ref a]) s):wpAny (model X.prog X.w) A (getMethod (.ref a) m pl) Q E s:=by
 obtain⟨mA,O,r,_,_,_⟩:=rS I.hok e
 have hn:mA m=none:=pI.none_of (by rw [<- l];exact r m)
 exact Bk I.kIn O (c.get m) k.at_ k.fn hn h
theorem xG {y:V}{u:Value}{Q:Unit->Shared->Prop}(I:Inv X pins σ H s)(e:H a=some (.ins C dx fs))(c:pH X.K C)(n:fz X.K C f)(hl:fs.length<1000)(ry:RelV y u)
  (h:∀s',Inv X pins σ (upd H a (.ins C dx (jc f y fs))) s'->Q () s'):wpAny (model X.prog X.w) A (setAttr (.ref a) f u) Q E s:=by
 obtain⟨mA,O,r,wi,_,ho⟩:=rS I.hok e
 have hz:(fs.map (·.1)).length≤sizeLine:=by rw [List.length_map,sizeLine_eq];omega
 refine Ep I.kIn O c.sa c.po n.taker c.hd wi hz fun h' O' sb=>h _ ?_
 have hd:∃o,h'.get? dx=some o:=let ⟨o,_,_,e',_⟩:=O'.ns;⟨o,e'⟩
 refine I.write (x:=a) (e:=dx) (by rw [e];exact True.intro) (.inr ho) (fun b q hb z=>(sb.2 b hb).trans z) hd ?_
 refine⟨by rw [aP O.ne];exact ho,?_,O.ne,O'.obj,_,O'.ns,fun g=>?_,fun g hg=>?_⟩
 ·have:=mP f y fs;omega
 ·show pI ((jc f y fs).lookup g) (if g=f then some u else mA g)
  rw [mQ]
  by_cases q:g=f
  ·rw [if_pos q,if_pos q];exact ry
  ·rw [if_neg q,if_neg q];exact r g
 ·by_cases q:g=f
  ·rw [q];exact (lZ f y fs).1
  ·refine (lZ f y fs).2 g (wi g fun z=>hg ?_)
   show (if g=f then some u else mA g)=none
   rw [if_neg q];exact z
theorem Inv.made (I:Inv X pins σ H s):Inv X pins σ (upd (upd H s.heap.objs.size (.own (s.heap.objs.size+1))) (s.heap.objs.size+1) (.ins C s.heap.objs.size []))
  { s with heap:=(s.heap.push PySem.W.emptyDict).push (PySem.W.instObj C s.heap.objs.size) }:=by
 have e1:(s.heap.push PySem.W.emptyDict).get? s.heap.objs.size=some PySem.W.emptyDict:=Heap.get?_push_size s.heap rfl
 have e2:((s.heap.push PySem.W.emptyDict).push (PySem.W.instObj C s.heap.objs.size)).get? (s.heap.objs.size+1)=some (PySem.W.instObj C s.heap.objs.size):=by
  have:=Heap.get?_push_size (s.heap.push PySem.W.emptyDict) (o:=PySem.W.instObj C s.heap.objs.size) rfl
  rwa [Heap.size_push] at this
 have e3:(s.heap.push PySem.W.emptyDict).Ns s.heap.objs.size (fun _=>none):=⟨PySem.W.emptyDict,#[],_,e1,rfl,(fun e he=>absurd he (by simp)),fun _=>rfl⟩
 have I1:=I.laid (a:=s.heap.objs.size) (o:=.own (s.heap.objs.size+1)) (h':=s.heap.push PySem.W.emptyDict) (t':=s.toks) (fun b u q=>Heap.get?_push_of_some _ q) (Nat.le_refl _) ⟨_,e1⟩
 refine I1.laid (a:=s.heap.objs.size+1) (o:=.ins C s.heap.objs.size []) (t':=s.toks) (fun b u q=>Heap.get?_push_of_some _ q) (Nat.le_of_eq (Heap.size_push _ _)) ?_
 have ne:s.heap.objs.size≠s.heap.objs.size+1:=Nat.ne_of_lt (Nat.lt_succ_self _)
 refine⟨by rw [aP ne,bo],Nat.zero_le _,ne,e2,fun _=>none,(Heap.Ns1.of_empty e3).at fun o q=>Heap.get?_push_of_some _ q,fun _=>True.intro,fun y hy=>absurd rfl hy⟩
theorem CW {prog:Program}{w:World}{env:Env}{e:Expr}{f:Str}{pos:Pos}{s:Shared}{Q:Value->Shared->Prop}(hb:attributeBase e f env (eval e env)=eval e env)
  (h:wpAny (model prog w) A (eval e env) (fun o s₁=>wpAny (model prog w) A (getAttr o f true) Q E s₁) E s):wpAny (model prog w) A (eval (.Attribute e f pos) env) Q E s:=
 Attribute_any_ h (by rw [arm_eval_Attribute,hb])
end
def LA (K:PySem.W.Frag)(ta:TE)(f:Str):TE:=fun σ H Q=>ta σ H fun x H1=>∃a C dx fs v,x=.ref a/\H1 a=some (.ins C dx fs)/\pH K C/\fz K C f/\fs.lookup f=some v/\Q v H1
def Lx (K:PySem.W.Frag)(ta tv:TE)(f:Str):TS:=fun D σ H=>tv σ H fun y H1=>ta σ H1 fun x H2=>∃a C dx fs,x=.ref a/\H2 a=some (.ins C dx fs)/\pH K C/\fz K C f/\fs.length<1000 /\
 D.nx σ (upd H2 a (.ins C dx (jc f y fs)))
section
variable {X:Cx}{o e value:Expr}{f:Str}{pos pos' tpos:Pos}{ta tv:TE}
theorem G4 (he:PE X e ta)(hb:attributeBase e f X.env (eval e X.env)=eval e X.env):PE X (.Attribute e f pos) (LA X.K ta f):=by
 intro pins s σ H Q I h
 refine CW hb (dB (he pins s σ H _ I h) fun u s1 ⟨x,H1,I1,rx,a,C,dx,fs,v,ex,ea,c,n,l,q⟩=>?_)
 subst ex
 obtain rfl:u=Value.ref a:=rx
 exact wA I1 ea c n l fun u' s2 I2 ru=>⟨v,H1,I2,ru,q⟩
theorem Hi (ha:PE X o ta)(hv:PE X value tv)(hs:swapsWith value (some (.Attribute o f pos')) pos.line X.env=pure false):PS X (.Assign [.Attribute o f pos'] value pos) (Lx X.K ta tv f):=by
 intro pins s σ H D I h
 refine plainObj_wpAny_Assign_Attribute (dB (hv pins s σ H _ I h) fun u s1 ⟨y,H1,I1,ry,q⟩=>dB (ha pins s1 σ H1 _ I1 q) fun ov s2 ⟨x,H2,I2,rx,a,C,dx,fs,ex,ea,c,n,l,q2⟩=>?_) hs
 subst ex
 obtain rfl:ov=Value.ref a:=rx
 exact xG I2 ea c n l ry fun s3 I3=>⟨σ,_,I3,q2⟩
end
section
variable {X:Cx}{pins:List (Addr×Obj)}{σ:St}{H:Hp}{s:Shared}{A:Around}{E:Value->Shared->Prop}{Q:Value->Shared->Prop}{c:Value}{b:Bool}
end
structure dG (k:Nat)(A:Around):Prop where
 hd:A.handled=none
 dp:A.depth+3*k+5<recursionLimit
 un:A.units+16*k+200<cLine
theorem dG.mono {j k:Nat}{A:Around}(r:dG k A)(h:j≤k):dG j A:=⟨r.hd,by have:=r.dp;omega,by have:=r.un;omega⟩
theorem dG.deeper {k:Nat}{A:Around}(r:dG (k+1) A)(env:Env):dG k (A.deeper env):=
 ⟨r.hd,by have:=r.dp;show A.depth+1+3*k+5<_;omega,by have:=r.un;show A.units+3+16*k+200<_;omega⟩
theorem w6 {A:Around}{C:Addr}{us:List Value}{kw:List (Str×Value)}:(A.under (.builtin "type.__call__" ⟨.ref C::us,kw⟩)).depth=A.depth+1:=by
 first | rfl | simp [Around.under,Code.weight,Code.isCreation,Code.isGuard,Code.isCaller,Code.frames,Code.isFrame,guardIds]
theorem w8 {A:Around}{C:Addr}{us:List Value}{kw:List (Str×Value)}:(A.under (.builtin "type.__call__" ⟨.ref C::us,kw⟩)).units=A.units+1:=by
 first | rfl | simp [Around.under,Code.cUnits,Code.frames,Code.isFrame]
theorem dG.make {k:Nat}{A:Around}(r:dG (k+1) A)(C:Addr)(us:List Value)(kw:List (Str×Value)):dG k (A.under (.builtin "type.__call__" ⟨.ref C::us,kw⟩)):=
 ⟨r.hd,by have:=r.dp;rw [w6];omega,by have:=r.un;rw [w8];omega⟩
theorem dG.depth {k:Nat}{A:Around}(r:dG k A):A.depth<recursionLimit:=by have:=r.dp;omega
theorem dG.units {k:Nat}{A:Around}(r:dG k A):A.units+64<cLine:=by have:=r.un;omega
def Kc:TA:=fun _ H Q=>Q [] H
def J8 (ta:TE)(tr:TA):TA:=fun σ H Q=>ta σ H fun x H1=>tr σ H1 fun xs H2=>Q (x::xs) H2
section
variable {X:Cx}{e:Expr}{es:List Expr}{te:TE}{t:TA}{pos:Pos}
theorem fX:PA X [] Kc:=fun _ _ _ _ H Q I h=>Calls.spliced_nil ⟨[],H,I,.nil,h⟩
theorem eJ (ha:PE X e te)(hr:PA X es t)(hs:starEach (e::es) X.env=(false,eval e X.env)::starEach es X.env:=by rfl):PA X (e::es) (J8 te t):=by
 intro pos pins s σ H Q I h
 rw [hs]
 show wpAny _ _ (spliced ((false,eval e X.env)::backTo pos (starEach es X.env))) _ _ s
 refine Calls.spliced_cons (dB (ha pins s σ H _ I h) fun u s1 ⟨x,H1,I1,r1,q1⟩=>?_)
 exact dB (hr pos pins s1 σ H1 _ I1 q1) fun us s2 ⟨xs,H2,I2,r2,q2⟩=>⟨x::xs,H2,I2,.cons r1 r2,q2⟩
def LJ (t:TA):TE:=fun σ H Q=>t σ H fun xs H1=>xs.length≤sizeLine/\∀p,H1 p=none->Q (.ref p) (upd H1 p (.tup xs))
def LD (t:TA):TE:=fun σ H Q=>t σ H fun xs H1=>xs.length≤sizeLine/\∀p,H1 p=none->Q (.ref p) (upd H1 p (.lst xs))
theorem BV {x1}(h:PA X es t):PE X (.Tuple es x1 pos) (LJ t):=by
 intro pins s σ H Q I hq
 refine wpAny_Tuple_spliced (dB (h pos pins s σ H _ I hq) fun us s1 ⟨xs,H1,I1,r,z,q⟩=>⟨by rw [<- r.length];exact z,?_⟩)
 have hf:H1 s1.heap.objs.size=none:=I1.hok.fresh (Nat.le_refl _)
 refine⟨.ref s1.heap.objs.size,upd H1 s1.heap.objs.size (.tup xs),I1.laid (t':=s1.toks) (fun b u e=>Heap.get?_push_of_some _ e) (Nat.le_refl _) ?_,rfl,q _ hf⟩
 exact⟨z,us,r,⟨_,Heap.get?_push_size _ rfl,rfl,_,rfl⟩⟩
theorem oJ (h:PA X es t):PE X (.List es pos) (LD t):=by
 intro pins s σ H Q I hq
 refine wpAny_List_spliced (dB (h pos pins s σ H _ I hq) fun us s1 ⟨xs,H1,I1,r,z,q⟩=>⟨by rw [<- r.length];exact z,?_⟩)
 have hf:H1 s1.heap.objs.size=none:=I1.hok.fresh (Nat.le_refl _)
 refine⟨.ref s1.heap.objs.size,upd H1 s1.heap.objs.size (.lst xs),I1.laid (t':=s1.toks) (fun b u e=>Heap.get?_push_of_some _ e) (Nat.le_refl _) ?_,rfl,q _ hf⟩
 exact⟨z,us,0,r,Heap.get?_push_size _ rfl⟩
end
abbrev Sp:=List V->Hp->VK->XK->Prop
abbrev ya:=List Env->Hp->Shared->XK->Value->Shared->Prop
structure vN (P:Program)(w:World)(K:PySem.W.Frag)(mg:Str->Option Value)(base:Heap)(A:Around)(outer:List Env)(s:Shared)(H:Hp):Prop where
 frames:A.frames=some outer
 mod:Mod K mg base
 bs:∀b o,base.get? b=some o->s.heap.get? b=some o/\H b=none
 bsz:base.objs.size≤s.heap.objs.size
 funs:s.heap.FunFrames base outer
 frf:∀b∈AI outer,H b=none
 hok:mK P w H s.heap
 bare:AllBare s.gens
def CE (outer:List Env)(P:Program)(w:World)(H:Hp)(s:Shared)(Q:VK)(u:Value)(s':Shared):Prop:=
 ∃v H',s'.os=s.os/\AllBare s'.gens/\Un (AI outer) [] H H' s.heap s'.heap/\mK P w H' s'.heap/\RelV v u/\Q v H'
def CR (CX:ya)(outer:List Env)(P:Program)(w:World)(H:Hp)(s:Shared)(Q:VK)(E:XK)(r:Result)(s':Shared):Prop:=
 match r with
 | .ok (.ret u)=>CE outer P w H s Q u s'
 | .ok _=>False
 | .error e=>CX outer H s E e s'
structure gz (P:Program)(w:World)(K:PySem.W.Frag)(mg:Str->Option Value)(base:Heap)(CX:ya)(k:Nat)(f:Addr)(fd:FuncData)(ps:List Str)(sp:Sp):Prop where
 len:∀vs H Q E,sp vs H Q E->vs.length=ps.length
 run:∀(A:Around) (outer:List Env) (s:Shared) (H:Hp) (args:Args) (us:List Value) (vs:List V) (Q:VK) (E:XK),dG k A->vN P w K mg base A outer s H->BindsTo s fd args (ps.zip us)->Vals vs us->sp vs H Q E ->
  codeAny (model P w) A (.call (.ref f) args) (CR CX outer P w H s Q E) s
theorem gz.mono {P:Program}{w:World}{K:PySem.W.Frag}{mg:Str->Option Value}{base:Heap}{CX:ya}{j k:Nat}{f:Addr}{fd:FuncData}{ps:List Str}{sp:Sp}(F:gz P w K mg base CX j f fd ps sp)(h:j≤k):
  gz P w K mg base CX k f fd ps sp:=⟨F.len,fun A outer s H args us vs Q E hr=>F.run A outer s H args us vs Q E (hr.mono h)⟩
theorem gz.imp {P:Program}{w:World}{K:PySem.W.Frag}{mg:Str->Option Value}{base:Heap}{CX:ya}{k:Nat}{f:Addr}{fd:FuncData}{ps:List Str}{sp sp':Sp}(F:gz P w K mg base CX k f fd ps sp)
  (h:∀vs H Q E,sp' vs H Q E->sp vs H Q E):gz P w K mg base CX k f fd ps sp':=
 ⟨fun vs H Q E q=>F.len vs H Q E (h _ _ _ _ q),fun A outer s H args us vs Q E hr he hb hv hs=>F.run A outer s H args us vs Q E hr he hb hv (h _ _ _ _ hs)⟩
theorem vN.make {P:Program}{w:World}{K:PySem.W.Frag}{mg:Str->Option Value}{base:Heap}{A:Around}{outer:List Env}{s:Shared}{H:Hp}(e:vN P w K mg base A outer s H)(C:Addr)(us:List Value)(kw:List (Str×Value)):
  vN P w K mg base (A.under (.builtin "type.__call__" ⟨.ref C::us,kw⟩)) outer s H:=⟨by first | exact e.frames | (simpa [Around.under,Code.envs,Code.isFrame,pushEnvs] using e.frames),e.mod,e.bs,e.bsz,e.funs,e.frf,e.hok,e.bare⟩
section
variable {X:Cx}{pins:List (Addr×Obj)}{σ:St}{H:Hp}{s s':Shared}
theorem Inv.env0 (I:Inv X pins σ H s):vN X.prog X.w X.K X.mg X.base X.A X.stack s H:=
 ⟨I.ok.frames,I.ok.mod,I.bs,Nat.le_trans I.ok.bsz I.sz,I.stack,I.stkFree,I.hok,I.bare⟩
theorem Inv.after {Q:VK}{u:Value}(I:Inv X pins σ H s)(h:CE X.stack X.prog X.w H s Q u s'):EP X pins σ Q u s':=by
 obtain⟨v,H',os,bare,un,hok,r,q⟩:=h
 obtain⟨hh,g,d,t,os'⟩:=s'
 obtain rfl:os'=s.os:=os
 exact⟨v,H',I.call (h':=hh) (g':=g) (d':=d) (t':=t) (ch:=[]) un hok bare (fun b z=>absurd z (by simp)),r,q⟩
end
def Ck (sp:Sp)(dvs:List V)(E:XK)(t:TA):TE:=fun σ H Q=>t σ H fun vs H1=>sp (vs++dvs) H1 Q E
def Fx (C:Addr)(m:Str)(sp:Sp)(dvs:List V)(E:XK)(ta:TE)(t:TA):TE:=fun σ H Q=>ta σ H fun x H1=>∃a dx fs,x=.ref a/\H1 a=some (.ins C dx fs)/\fs.lookup m=none /\
 t σ H1 fun vs H2=>sp (x::(vs++dvs)) H2 Q E
def Ka (C:Addr)(sp:Sp)(dvs:List V)(E:XK)(t:TA):TE:=fun σ H Q=>t σ H fun vs H1=>∀x dx,H1 x=none->H1 dx=none->dx≠x ->
 sp (.ref x::(vs++dvs)) (upd (upd H1 dx (.own x)) x (.ins C dx [])) (fun v H2=>v=.non/\Q (.ref x) H2) E
def Binds (K:PySem.W.Frag)(fd:FuncData)(ps:List Str)(ds:List Value):Prop:=
 ∀(s:Shared) (us:List Value),K.In s.heap->(us++ds).length=ps.length->BindsTo s fd ⟨us,[]⟩ (ps.zip (us++ds))
theorem Binds.all {K:PySem.W.Frag}{fd:FuncData}{ps:List Str}(h:∀us:List Value,us.length=ps.length->bindArgs fd ⟨us,[]⟩=pure (ps.zip us)):Binds K fd ps []:=fun s us _ hl=>by
 rw [List.append_nil] at hl ⊢
 exact .of_eq (h us hl)
def Passes (CX:ya)(X:Cx)(E:XK):Prop:=∀(pins:List (Addr×Obj)) (σ:St) (H:Hp) (s:Shared) (e:Value) (s':Shared),Inv X pins σ H s->CX X.stack H s E e s'->X.xe e s'
section
variable {X:Cx}{CX:ya}{k:Nat}{f C:Addr}{fd:FuncData}{ps:List Str}{sp:Sp}{dvs:List V}{ds:List Value}{E:XK}{x m:Str}{p pos apos:Pos}{e o:Expr}{es:List Expr}{ta:TE}{t:TA}
theorem xp {pins:List (Addr×Obj)}{σ:St}{H:Hp}{s:Shared}{Q:VK}{us:List Value}{vs:List V}(F:gz X.prog X.w X.K X.mg X.base CX k f fd ps sp)(hr:dG k X.A)(hb:Binds X.K fd ps ds)(hd:Vals dvs ds)(hx:Passes CX X E)
  (I:Inv X pins σ H s) (r:Vals vs us) (h:sp (vs++dvs) H Q E):wpAny (model X.prog X.w) X.A (call (.ref f) us) (EP X pins σ Q) X.xe s:=by
 have r2:Vals (vs++dvs) (us++ds):=r.append hd
 have hl:(us++ds).length=ps.length:=by rw [<- r2.length];exact F.len _ _ _ _ h
 refine wpAny_call (codeAny_mono (F.run X.A X.stack s H ⟨us,[]⟩ (us++ds) (vs++dvs) Q E hr I.env0 (hb s us I.kIn hl) r2 h) fun r s' hq=>?_)
 cases r with
 |error e=>exact hx pins σ H s e s' I hq
 |ok fl =>
  cases fl with
  |ret u=>exact I.after hq
  |next=>exact False.elim hq
  |brk=>exact False.elim hq
  |cont=>exact False.elim hq
theorem D2 (F:gz X.prog X.w X.K X.mg X.base CX k f fd ps sp)(hr:dG k X.A)(hg:Gl X x)(hm:X.mg x=some (.ref f))(hk:PySem.W.keepIn X.K (.ref f)=true)(hb:Binds X.K fd ps ds)(hd:Vals dvs ds)(hx:Passes CX X E)
  (ha:PA X (e::es) t) (hdb:(x == ("__debug__" : Str))=false:=by decide) (he:starEach (e::es) X.env=(false,eval e X.env)::starEach es X.env:=by rfl) (hpl:(backTo pos (starEach es X.env)).any (·.1)=false:=by rfl):
  PE X (.Call (.Name x p) (e::es) [] pos) (Ck sp dvs E t):=by
 intro pins s σ H Q I h
 refine wpAny_Call_Name_kw (sN I hg hm ?_ hdb)
 refine PySem.W.callWith_K (h₀:=X.base) I.ok.mod.kin hk (dB (ha pos pins s σ H _ I h) fun us s1 ⟨vs,H1,I1,r,q⟩=>⟨I1.kIn,?_⟩) he hpl
 exact xp F hr hb hd hx I1 r q
theorem BU {pl:Sem Bool}(he:PE X o ta)(c:pH X.K C)(hm:Meth X.K C m f)(F:gz X.prog X.w X.K X.mg X.base CX k f fd ps sp)(hr:dG k X.A)(hb:Binds X.K fd ps ds)(hd:Vals dvs ds)(hx:Passes CX X E)
  (ht:eval (.Call (.Attribute o m apos) [] [] pos) X.env=(do
   let ov <- eval o X.env
   standAt apos.atName
   let (f,first) <- holding [ov] (getMethod ov m pl)
   callWith pos f first (backTo pos (starEach [] X.env)) (backToKw pos (keywordEach [] X.env))):=by rfl):
  PE X (.Call (.Attribute o m apos) [] [] pos) (Fx C m sp dvs E ta Kc):=by
 intro pins s σ H Q I h
 refine PySem.W.methodCall_KW (pl:=pl) (dB (he pins s σ H _ I h) fun u s1 ⟨x,H1,I1,rx,a,dx,fs,ex,ea,l,q⟩=>?_) ht
 subst ex
 obtain rfl:u=Value.ref a:=rx
 refine wB I1 ea c hm l ?_
 exact PySem.W.callWith_K0 (first:=[.ref a]) I1.kIn hm.kp (xp (us:=[.ref a]) (vs:=[.ref a]) F hr hb hd hx I1 (.cons rfl .nil) q)
structure Mk (K:PySem.W.Frag)(C f:Addr):Prop where
 makes:PySem.W.makesIn K C=true
 init:PySem.W.findIn K (.ref C) "__init__" = some (some (.ref f))
 fn:PySem.W.isFn K (.ref f)=true
 kp:PySem.W.keepIn K (.ref C)=true
theorem B9 {pins:List (Addr×Obj)}{σ:St}{H:Hp}{s:Shared}{Q:VK}{us:List Value}{vs:List V}(M:Mk X.K C f)(F:gz X.prog X.w X.K X.mg X.base CX k f fd ps sp)(hr:dG (k+1) X.A)(hb:Binds X.K fd ps ds)(hd:Vals dvs ds)
  (hx:Passes CX X E) (I:Inv X pins σ H s) (r:Vals vs us)
  (h:∀x dx,H x=none->H dx=none->dx≠x->sp (.ref x::(vs++dvs)) (upd (upd H dx (.own x)) x (.ins C dx [])) (fun v H2=>v=.non/\Q (.ref x) H2) E):
  wpAny (model X.prog X.w) X.A (call (.ref C) us) (EP X pins σ Q) X.xe s:=by
 have hq:=h (s.heap.objs.size+1) s.heap.objs.size (I.hok.fresh (Nat.le_succ _)) (I.hok.fresh (Nat.le_refl _)) (Nat.ne_of_lt (Nat.lt_succ_self _))
 have I2:=Inv.made (C:=C) I
 have r2:Vals (V.ref (s.heap.objs.size+1)::(vs++dvs)) (Value.ref (s.heap.objs.size+1)::(us++ds)):=.cons rfl (r.append hd)
 have hl:(Value.ref (s.heap.objs.size+1)::us++ds).length=ps.length:=by
  have e:=r2.length
  rw [F.len _ _ _ _ hq] at e
  exact e.symm
 refine wpAny_call (BG (f:=f) I.kIn M.makes M.init (beq_iff_eq.mp M.fn) (codeAny_mono (F.run _ X.stack _ _ ⟨Value.ref (s.heap.objs.size+1)::us,[]⟩ (Value.ref (s.heap.objs.size+1)::(us++ds)) _ _ E (hr.make C us [])
  (I2.env0.make C us []) (hb _ (Value.ref (s.heap.objs.size+1)::us) I2.kIn hl) r2 hq) fun r s' hq'=>?_))
 cases r with
 |error e=>exact hx pins σ _ _ e s' I2 hq'
 |ok fl =>
  cases fl with
  |ret u =>
   obtain⟨v,H',I3,rv,ev,q3⟩:=I2.after hq'
   subst ev
   exact⟨rv,⟨V.ref (s.heap.objs.size+1),H',I3,rfl,q3⟩⟩
  |next=>exact False.elim hq'
  |brk=>exact False.elim hq'
  |cont=>exact False.elim hq'
theorem D4 (M:Mk X.K C f)(F:gz X.prog X.w X.K X.mg X.base CX k f fd ps sp)(hr:dG (k+1) X.A)(hg:Gl X x)(hm:X.mg x=some (.ref C))(hb:Binds X.K fd ps ds)(hd:Vals dvs ds)(hx:Passes CX X E)
  (ha:PA X (e::es) t) (hdb:(x == ("__debug__" : Str))=false:=by decide) (he:starEach (e::es) X.env=(false,eval e X.env)::starEach es X.env:=by rfl) (hpl:(backTo pos (starEach es X.env)).any (·.1)=false:=by rfl):
  PE X (.Call (.Name x p) (e::es) [] pos) (Ka C sp dvs E t):=by
 intro pins s σ H Q I h
 refine wpAny_Call_Name_kw (sN I hg hm ?_ hdb)
 refine PySem.W.callWith_K (h₀:=X.base) I.ok.mod.kin M.kp (dB (ha pos pins s σ H _ I h) fun us s1 ⟨vs,H1,I1,r,q⟩=>⟨I1.kIn,?_⟩) he hpl
 exact B9 M F hr hb hd hx I1 r q
end
section
variable {X:Cx}{CX:ya}{k:Nat}{f C:Addr}{fd:FuncData}{ps ks:List Str}{sp:Sp}{E:XK}{x m:Str}{p pos apos kpos:Pos}{e o:Expr}{es:List Expr}{kws:List Keyword}{te ta:TE}{t tk:TA}{nm:Option Str}
variable {g:List Value->List Value->List Value}{gV:List V->List V->List V}
end
structure aO (N P:List Str)(sc:Scope):Prop where
 kind:sc.kind=.function
 co:sc.isCoroutine=false
 gen:sc.isGenerator=false
 nd:N.Nodup
 pre:N.take P.length=P
 par:∀x∈P,sc.names.lookup x=some .local\/sc.names.lookup x=some .cell
 nofree:∀y∈sc.names,y.2≠.free
theorem qm {kindOf:Str->Option NameKind}{x:Str}:∀{binds:List (Str×Value)} {m:Str->Option Value},(∀v,(x,v)∉binds)->bindL kindOf binds m x=m x
 |[],_,_=>rfl
 |(n,v)::r,m,h=>by
  unfold bindL
  rw [qm fun w hw=>h w (List.mem_cons_of_mem _ hw)]
  split
  ·have:x≠n:=by rintro rfl;exact h v List.mem_cons_self
   simp [this]
  ·rfl
theorem qk {kindOf:Str->Option NameKind}{x:Str}:∀{binds:List (Str×Value)} {m:Str->Option Value},(∀v,(x,v)∉binds)->bindC kindOf binds m x=m x
 |[],_,_=>rfl
 |(n,v)::r,m,h=>by
  unfold bindC
  rw [qk fun w hw=>h w (List.mem_cons_of_mem _ hw)]
  split
  ·rfl
  ·have:x≠n:=by rintro rfl;exact h v List.mem_cons_self
   simp [this]
theorem ql {kindOf:Str->Option NameKind}{x:Str}{v:Value}:∀{P:List Str} {vs:List Value} {i:Nat} {m:Str->Option Value},P.Nodup->P[i]? = some x->vs[i]? = some v->kindOf x=some .local ->
  bindL kindOf (P.zip vs) m x=some v
 |[],_,_,_,_,h,_,_=>by simp at h
 |_::_,[],_,_,_,_,h,_=>by simp at h
 |p::P,w::vs,0,m,nd,h1,h2,hk=>by
  simp at h1 h2;subst h1;subst h2
  show bindL kindOf ((p,w)::P.zip vs) m p=_
  unfold bindL
  rw [qm fun v hv=>(List.nodup_cons.mp nd).1 (List.of_mem_zip hv).1,if_pos hk]
  simp
 |p::P,w::vs,i+1,m,nd,h1,h2,hk=>by
  show bindL kindOf ((p,w)::P.zip vs) m x=_
  unfold bindL
  exact ql (i:=i) (List.nodup_cons.mp nd).2 (by simpa using h1) (by simpa using h2) hk
theorem qj {kindOf:Str->Option NameKind}{x:Str}{v:Value}:∀{P:List Str} {vs:List Value} {i:Nat} {m:Str->Option Value},P.Nodup->P[i]? = some x->vs[i]? = some v->kindOf x≠some .local ->
  bindC kindOf (P.zip vs) m x=some v
 |[],_,_,_,_,h,_,_=>by simp at h
 |_::_,[],_,_,_,_,h,_=>by simp at h
 |p::P,w::vs,0,m,nd,h1,h2,hk=>by
  simp at h1 h2;subst h1;subst h2
  show bindC kindOf ((p,w)::P.zip vs) m p=_
  unfold bindC
  rw [qk fun v hv=>(List.nodup_cons.mp nd).1 (List.of_mem_zip hv).1,if_neg hk]
  simp
 |p::P,w::vs,i+1,m,nd,h1,h2,hk=>by
  show bindC kindOf ((p,w)::P.zip vs) m x=_
  unfold bindC
  exact qj (i:=i) (List.nodup_cons.mp nd).2 (by simpa using h1) (by simpa using h2) hk
def start (N:List Str)(vs:List V):St:=vs.map some++List.replicate (N.length-vs.length) none
def nV (CX:ya)(P:Program)(w:World)(K:PySem.W.Frag)(mg:Str->Option Value)(base:Heap)(N:List Str)(qual:Str)(scope:Scope)(f:Addr)(cd:Value)(A:Around)(outer:List Env)(s:Shared)(H:Hp)(E:XK):Cx where
 prog:=P
 w:=w
 K:=K
 mg:=mg
 base:=base
 A:=A.deeper (envOfC qual scope s.heap.objs.size f cd)
 N:=N
 Y8:=s
 Y9:=H
 env:=envOfC qual scope s.heap.objs.size f cd
 outer:=outer
 stack:=envOfC qual scope s.heap.objs.size f cd::outer
 ex:=[]
 calm:=true
 fn:=fun _=>true
 pn:=[]
 xe:=fun e s'=>wpAny (model P w) (A.deeper (envOfC qual scope s.heap.objs.size f cd)) (leaving (envOfC qual scope s.heap.objs.size f cd) e) (fun _ s''=>CX outer H s E e s'') (fun e' s''=>CX outer H s E e' s'') s'
theorem uu {sc:Scope}{n:Nat}{x:Str}(h:sc.names.lookup x=some .cell):∃c,(cellsFrom n sc.names []).lookup x=some c:=by
 have q:=PySem.W.cellsFrom_some sc.names n [] (.inl h)
 exact Option.isSome_iff_exists.mp q
theorem zT {CX:ya}{P:Program}{w:World}{K:PySem.W.Frag}{mg:Str->Option Value}{base:Heap}{N ps:List Str}{qual:Str}{scope:Scope}{f:Addr}{cd:Value}{A:Around}{outer:List Env}{s s1:Shared}{H:Hp}{E:XK}{us:List Value}{vs:List V}
  (S:aO N ps scope) (hd:A.handled=none) (e0:vN P w K mg base A outer s H) (hl:vs.length=ps.length) (r:Vals vs us)
  (x:InCallC s s.heap.objs.size (bindL (envOfC qual scope s.heap.objs.size f cd).kindOf (ps.zip us) fun _=>none) (cellsFrom (s.heap.objs.size+1) scope.names []) (bindC (envOfC qual scope s.heap.objs.size f cd).kindOf (ps.zip us) fun _=>none) s1):
  Inv (nV CX P w K mg base N qual scope f cd A outer s H E) [] (start N vs) H s1:=by
 have hpl:ps.length≤N.length:=by have:=congrArg List.length S.pre;rw [List.length_take] at this;omega
 obtain⟨h1,tk,rfl,hk⟩:=x.done
 have noA:∀b:Addr,b∉(nV CX P w K mg base N qual scope f cd A outer s H E).ex:=fun b z=>absurd (show b∈([]:List Addr) from z) (by simp)
 refine⟨⟨e0.mod,S.kind,rfl,rfl,Nat.le_refl _,fun y z c h1 h2=>?_,fun y hy=>?_,fun y c _ h=>?_,fun _=>hd,Around.frames_deeper e0.frames,.inr ⟨rfl,rfl⟩,fun b z=>absurd z (noA b),e0.bs,e0.bsz,fun b _ _=>noA b,fun b z=>absurd z (noA b),e0.funs,e0.frf⟩,
  rfl,e0.bare,Un.kept hk,⟨_,x.toInCall.ns,fun i y v h1 h2 h3=>?_⟩,fun y c h=>⟨_,x.cell y c h⟩,e0.hok.fresh (Nat.le_refl _),fun y c h=>?_,fun p hp=>absurd (show p∈([]:List (Addr×Obj)) from hp) (by simp),e0.hok.kept hk,?_⟩
 ·exact name_of_addr x.apart (PySem.mem_of_lookup h1) (PySem.mem_of_lookup h2)
 ·have hy:scope.names.lookup y=some .cell\/scope.names.lookup y=some .free:=hy
  rcases hy with hy | hy
  ·exact uu hy
  ·exact absurd rfl (S.nofree _ (PySem.mem_of_lookup hy))
 ·exact Nat.le_of_lt (x.above y c (PySem.mem_of_lookup h))
 ·have hi:i<vs.length:=by
   unfold start at h2
   by_cases hi:i<vs.length
   ·exact hi
   ·rw [List.getElem?_append_right (by simpa using hi)] at h2
    rw [List.getElem?_replicate] at h2
    split at h2<;>cases h2
  have ha:vs[i]? = some v:=by
   unfold start at h2
   rw [List.getElem?_append_left (by simpa using hi),List.getElem?_map] at h2
   cases e:vs[i]? with
   |none=>rw [e] at h2;cases h2
   |some a=>rw [e] at h2;cases h2;rfl
  obtain⟨u,hu,rv⟩:=r.get ha
  have hp:ps[i]? = some y:=by
   rw [<- S.pre,List.getElem?_take_of_lt (by omega)];exact h1
  have ndP:ps.Nodup:=by rw [<- S.pre];exact S.nd.sublist (List.take_sublist _ _)
  refine⟨u,rv,?_⟩
  rcases S.par y (List.mem_of_getElem? hp) with k | k
  ·exact .inl ⟨k,ql ndP hp hu k⟩
  ·obtain⟨c,e⟩:=uu (n:=s.heap.objs.size+1) k
   refine .inr ⟨.inl k,c,e,?_⟩
   have q:=x.cell y c e
   rw [qj ndP hp hu (by show scope.names.lookup y≠_;rw [k];decide)] at q
   exact q
 ·exact e0.hok.fresh (Nat.le_of_lt (x.above y c (PySem.mem_of_lookup h)))
 ·unfold start
  show _=N.length
  rw [List.length_append,List.length_map,List.length_replicate]
  omega
theorem Jm {CX:ya}{P:Program}{w:World}{K:PySem.W.Frag}{mg:Str->Option Value}{base:Heap}{k:Nat}{f:Addr}{name qual:Str}{params:Arguments}{body:List Stmt}{scope:Scope}{dV kV doc pm cdv ct oc:Value}{an od:Option Addr}
  {osl:Array (Option Value)} {N ps:List Str} {sp:Sp} (lk:K.lookup f=some ⟨oc,od,.func (PySem.W.fnOf name qual params body scope dV kV doc pm an cdv ct),osl⟩) (hcd:PySem.W.codeIn K cdv qual=true) (S:aO N ps scope)
  (len:∀vs H Q E,sp vs H Q E->vs.length=ps.length)
  (hbody:∀(A:Around) (outer:List Env) (s:Shared) (H:Hp) (vs:List V) (Q:VK) (E:XK),dG k (A.deeper (envOfC qual scope s.heap.objs.size f cdv))->sp vs H Q E ->
   ∃t,kP (nV CX P w K mg base N qual scope f cdv A outer s H E) body t/\t { nx:=fun _ H'=>Q .non H',rt:=Q } (start N vs) H):
  gz P w K mg base CX (k+1) f (PySem.W.fnOf name qual params body scope dV kV doc pm an cdv ct) ps sp:=by
 refine⟨len,fun A outer s H args us vs Q E hr e0 hb r hsp=>?_⟩
 have hl:=len _ _ _ _ hsp
 have KX:K.In s.heap:=e0.mod.kin.keeps fun b o e=>(e0.bs b o e).1
 have lim:s.heap.NoLimit:=e0.mod.nolimit.keeps fun b o e=>(e0.bs b o e).1
 have hkind:∀y∈ps.zip us,scope.names.lookup y.1=some .local\/(scope.names.lookup y.1=some .cell/\((cellsFrom (s.heap.objs.size+1) scope.names []).lookup y.1).isSome=true):=fun⟨n,v⟩ hy=>by
  rcases S.par n (List.of_mem_zip hy).1 with q | q
  ·exact .inl q
  ·exact .inr ⟨q,PySem.W.cellsFrom_some _ _ _ (.inl q)⟩
 refine codeAny_call_function hr.depth (KX _ _ lk) rfl S.co S.gen rfl (PySem.W.codeRec_of KX hcd) (hb _ _ _ _ ?_)
 refine wpAny_newFunctionEnv_cells S.kind hkind fun env he s1 x=>?_
 subst he
 refine⟨lim.keeps x.toInCall.keep,codeAny_func ?_⟩
 obtain⟨t,ht,hq⟩:=hbody A outer s H vs Q E (hr.deeper _) hsp
 have I:Inv (nV CX P w K mg base N qual scope f cdv A outer s H E) [] (start N vs) H s1:=zT S hr.hd e0 hl r x
 refine wpAny_mono (ht [] s1 (start N vs) H _ I hq) (fun fl s' hs=>?_) fun e s' hs=>hs
 have fin:∀{σ':St} {H':Hp} {v:V} {u:Value},Inv (nV CX P w K mg base N qual scope f cdv A outer s H E) [] σ' H' s'->RelV v u->Q v H'->CE outer P w H s Q u s':=
  fun {σ' H' v u} J rv q=>⟨v,H',J.os,J.bare,J.base,J.hok,rv,q⟩
 cases fl with
 |ret u =>
  obtain⟨v,σ',H',J,rv,q⟩:=hs
  exact fin J rv q
 |next =>
  obtain⟨σ',H',J,q⟩:=hs
  exact fin (v:=V.non) (u:=Value.none) J rfl q
 |brk =>
  obtain⟨_,_,_,q⟩:=hs
  exact False.elim q
 |cont =>
  obtain⟨_,_,_,q⟩:=hs
  exact False.elim q
section
variable {X:Cx}{x:Str}{p pos:Pos}{e:Expr}{es:List Expr}{t:TA}{id T:String}{r:List V->Hp->VK->Prop}
def LV (r:List V->Hp->VK->Prop)(t:TA):TE:=fun σ H Q=>t σ H fun vs H1=>r vs H1 Q
theorem BQ (hc:gW X (.builtin id) r)(hg:Gl X x)(hm:X.mg x=none)(hv:bootBuiltins x=some (.builtin id))(ha:PA X (e::es) t)(hn:x≠"__name__" := by decide)(hdb:(x == ("__debug__" : Str))=false:=by decide)
  (he:starEach (e::es) X.env=(false,eval e X.env)::starEach es X.env:=by rfl) (hpl:(backTo pos (starEach es X.env)).any (·.1)=false:=by rfl):PE X (.Call (.Name x p) (e::es) [] pos) (LV r t):=by
 intro pins s σ H Q I h
 refine wpAny_Call_Name_kw (jE I hg hm hv ?_ hn hdb)
 exact PyProof.Rows.callWith_builtin1 (dB (ha pos pins s σ H _ I h) fun us s1 ⟨vs,H1,I1,r1,q1⟩=>hc pins s1 σ H1 vs us Q I1 r1 q1) he hpl
theorem Ag (hc:gW X (.type T) r)(hg:Gl X x)(hm:X.mg x=none)(hv:bootBuiltins x=some (.type T))(ha:PA X (e::es) t)(hn:x≠"__name__" := by decide)(hdb:(x == ("__debug__" : Str))=false:=by decide)
  (he:starEach (e::es) X.env=(false,eval e X.env)::starEach es X.env:=by rfl) (hpl:(backTo pos (starEach es X.env)).any (·.1)=false:=by rfl):PE X (.Call (.Name x p) (e::es) [] pos) (LV r t):=by
 intro pins s σ H Q I h
 refine wpAny_Call_Name_kw (jE I hg hm hv ?_ hn hdb)
 exact PyProof.Rows.callWith_type1 (dB (ha pos pins s σ H _ I h) fun us s1 ⟨vs,H1,I1,r1,q1⟩=>hc pins s1 σ H1 vs us Q I1 r1 q1) he hpl
end
end L2
namespace HT
open PySem PyProof.Rows
section
open PySem.SeqAt
open PySem.AutoSeq1 (wpAny_loadPart')
open PySem.MeetsSeq PySem.MeetsSeq2 PySem.MeetsSeq3
end
section
variable {prog:Program}{w:World}{A:Around}{E:Value->Shared->Prop}{s:Shared}
theorem C1 {t b:Addr}{vs ws:List Value}{Q:Value->Shared->Prop}(ht:IsTup s.heap t vs.toArray)(hb:IsTup s.heap b ws.toArray)(hv:vs≠[])
  (h1:ws=[]->Q (.ref t) s) (h2:ws≠[]->Q (.ref s.heap.objs.size) { s with heap:=s.heap.push { cls:=.type "tuple", data:=.seq (vs++ws).toArray } })
  (hsz:vs.length+ws.length≤sizeLine):wpAny (model prog w) A (binaryOp .Add (.ref t) (.ref b)) Q E s:=by
 obtain⟨⟨cls,dd,data,sl⟩,ho,hc,n,hd⟩:=id ht
 obtain⟨⟨cls2,dd2,data2,sl2⟩,ho2,hc2,n2,hd2⟩:=id hb
 simp only at hc hd hc2 hd2
 subst hc hd hc2 hd2
 have e:vs.toArray++ws.toArray=(vs++ws).toArray:=by simp
 by_cases hw:ws=[]
 ·exact concat_meets ⟨_,ho,rfl⟩ ⟨_,ho2,rfl⟩ noFill_tuple_add seq_tuple_add PySem.F.slot_tuple_add PySem.F.entry_tuple_add (PySem.F.args_tuple_add_2 _ _)
   (tuple_addW1 t b vs.toArray ws.toArray n n2 dd dd2 sl sl2 (by simpa using hv) (by simp [hw])) ⟨ho,ho2,h1 hw⟩
 ·refine concat_meets ⟨_,ho,rfl⟩ ⟨_,ho2,rfl⟩ noFill_tuple_add seq_tuple_add PySem.F.slot_tuple_add PySem.F.entry_tuple_add (PySem.F.args_tuple_add_2 _ _)
   (tuple_addW2 t b vs.toArray ws.toArray n n2 dd dd2 sl sl2 (by simpa using hv) (by simpa using hw) (by rw [List.size_toArray,List.size_toArray];exact hsz)) ⟨ho,ho2,?_⟩
  rw [e]
  exact h2 hw
def J2 (n d:Nat):Option Int->Nat
 |none=>d
 |some v=>if v<0 then (v+(n:Int)).toNat else min v.toNat n
end
end HT
namespace L2
open PySem PySem.Spec PyProof.Rows
section
variable {X:Cx}{e:Expr}{te:TE}{lo hi:Option Expr}{tl th:TO}{pos p2:Pos}
def JX (K:PySem.W.Frag):R2:=fun x y H Q=>∃a b xs ys,x=.ref a/\y=.ref b/\kQ K H a xs/\kQ K H b ys/\xs≠[]/\xs.length+ys.length≤sizeLine /\
 (ys=[]->Q (.ref a) H)/\(ys≠[]->∀p,H p=none->Q (.ref p) (upd H p (.tup (xs++ys))))
theorem Vals.nil_iff {xs:List V}{us:List Value}(r:Vals xs us):us=[] ↔ xs=[]:=by
 cases r with
 |nil=>simp
 |cons _ _=>simp
theorem DX:pD X (binaryOp .Add) (JX X.K):=by
 intro pins s σ H x y v u Q I rx ry h
 obtain⟨a,b,xs,ys,rfl,rfl,ha,hb,hx,hz,q1,q2⟩:=h
 cases rx
 cases ry
 obtain⟨its,r1,p1,_⟩:=I.tuple ha
 obtain⟨its2,r2,p2,_⟩:=I.tuple hb
 refine HT.C1 p1 p2 (fun z=>hx (r1.nil_iff.mp z)) (fun z=>⟨.ref a,H,I,rfl,q1 (r2.nil_iff.mp z)⟩) (fun z=>?_) (by rw [<- r1.length,<- r2.length];exact hz)
 refine⟨.ref s.heap.objs.size,_,I.laid (t':=s.toks) (o:=.tup (xs++ys)) (fun b ob q=>Heap.get?_push_of_some _ q) (Nat.le_refl _) ?_,rfl,q2 (fun w=>z (r2.nil_iff.mpr w)) _ (I.hok.fresh (Nat.le_refl _))⟩
 exact⟨by rw [List.length_append];exact hz,_,r1.append r2,IsTup.new _ _⟩
end
def yH (n:Nat)(i:Int):Option Nat:=if 0≤i then (if i<n then some i.toNat else none) else if -(n:Int)≤i then some (i+n).toNat else none
def nv {α:Type}(xs:List α)(i:Int):Option α:=(yH xs.length i).bind fun j=>xs[j]?
theorem yI {n:Nat}{i:Int}{j:Nat}(h:yH n i=some j):seqIndex? i n=some j/\j<n /\ -(n:Int)≤i/\i<n:=by
 unfold yH at h
 by_cases h0:0≤i
 ·rw [if_pos h0] at h
  by_cases h1:i<n
  ·rw [if_pos h1] at h
   have e:i.toNat=j:=Option.some.inj h
   exact⟨by rw [seqIndex_of h0 h1,e],by omega,by omega,h1⟩
  ·rw [if_neg h1] at h;cases h
 ·rw [if_neg h0] at h
  by_cases h1 : -(n:Int)≤i
  ·rw [if_pos h1] at h
   have e:(i+n).toNat=j:=Option.some.inj h
   exact⟨by rw [seqIndex_neg (by omega) h1,e],by omega,h1,by omega⟩
  ·rw [if_neg h1] at h;cases h
theorem rh {α:Type}{xs:List α}{i:Int}{v:α}(h:nv xs i=some v):∃j,seqIndex? i xs.length=some j/\xs[j]? = some v/\j<xs.length /\ -(xs.length:Int)≤i/\i<xs.length:=by
 unfold nv at h
 cases e:yH xs.length i with
 |none=>rw [e] at h;cases h
 |some j =>
  rw [e] at h
  obtain⟨h1,h2,h3,h4⟩:=yI e
  exact⟨j,h1,h,h2,h3,h4⟩
theorem yf {α:Type}{xs:List α}{j:Nat}{v:α}(h:xs[j]? = some v):nv xs (j:Int)=some v:=by
 have hj:j<xs.length:=(List.getElem?_eq_some_iff.mp h).1
 have e:yH xs.length (j:Int)=some j:=by
  unfold yH
  rw [if_pos (by omega),if_pos (by omega)];simp
 unfold nv;rw [e];exact h
def rd (b:Expr):Prop:=∀o i,subscripted b false o i=operate [o,i] (getItem o i)
def HH (X:Cx)(r:R2):Prop:=
 ∀(value slice:Expr) (pins:List (Addr×Obj)) (s:Shared) (σ:St) (H:Hp) (x y:V) (v u:Value) (Q:VK),Inv X pins σ H s->RelV x v->RelV y u->r x y H Q ->
  subscripted slice false v u=operate [v,u] (getItem v u)->wpAny (model X.prog X.w) X.A (subscriptTail value slice v u) (EP X pins σ Q) X.xe s
def Km (X:Cx)(id:String)(r:V->List V->Hp->VK->Prop):Prop:=
 ∀(pins:List (Addr×Obj)) (s:Shared) (σ:St) (H:Hp) (x:V) (xs:List V) (v:Value) (us:List Value) (Q:VK),Inv X pins σ H s->RelV x v->Vals xs us->r x xs H Q ->
  wpAny (model X.prog X.w) X.A (call (.builtin id) (v::us)) (EP X pins σ Q) X.xe s
section
variable {X:Cx}{a b:Expr}{ta tb:TE}{pos:Pos}
theorem Fp {r:R2}(hr:HH X r)(ha:PE X a ta)(hb:PE X b tb)(hs:rd b):PE X (.Subscript a b pos) (Ke r ta tb):=by
 intro pins s σ H Q I h
 exact Subscript_ (FJ ha hb I h fun v u s2 x y H2 I2 rx ry q=>hr a b pins s2 σ H2 x y v u Q I2 rx ry q (hs _ _))
def Lu (K:PySem.W.Frag):R2:=fun x y H Q=>∃p xs i v,x=.ref p/\y=.int i/\fq K H p xs/\nv xs i=some v/\Q v H
def Lw (K:PySem.W.Frag):R2:=fun x y H Q=>∃p xs i v,x=.ref p/\y=.int i/\kQ K H p xs/\nv xs i=some v/\Q v H
def Lv:R2:=fun x y H Q=>∃z i c,x=.str z/\y=.int i/\z.length≤sizeLine/\nv z.cps.toList i=some c/\Q (.str ⟨#[c]⟩) H
theorem sM:HH X (Lu X.K):=by
 intro value slice pins s σ H x y v u Q I rx ry h hs
 obtain⟨p,xs,i,z,rfl,rfl,hq,he,q⟩:=h
 cases rx
 obtain⟨t,rfl⟩:=ry
 obtain⟨its,r,pl,hz⟩:=I.list hq
 obtain⟨j,h1,h2,h3,h4,h5⟩:=rh he
 obtain⟨w,ew,rw'⟩:=r.get h2
 have hl:=r.length
 have hn:=kz
 have fin:EP X pins σ Q w s:=⟨z,H,I,rw',q⟩
 by_cases h0:0≤i
 ·have hj:i.toNat=j:=by
   rw [seqIndex_of h0 h5] at h1
   exact Option.some.inj h1
  exact item_listR pl.isList h0 (by omega) (by rw [hj];simpa using ew) fin hs
 ·have hj:(i+(its.toArray.size:Int)).toNat=j:=by
   rw [seqIndex_neg (by omega) h4] at h1
   rw [List.size_toArray,<- hl]
   exact Option.some.inj h1
  exact subscriptTail_builtinR (x:=w) pl.isList.typeIs slot_list_getitem.lookup
   (wpAny_getItem_list_neg (Q:=fun r s'=>r=w/\EP X pins σ Q r s') pl.isList (by omega) (by rw [List.size_toArray]<;>omega) (by omega) (by rw [hj];simpa using ew) ⟨rfl,fin⟩) hs
theorem GJ:HH X (Lw X.K):=by
 intro value slice pins s σ H x y v u Q I rx ry h hs
 obtain⟨p,xs,i,z,rfl,rfl,hq,he,q⟩:=h
 cases rx
 obtain⟨t,rfl⟩:=ry
 obtain⟨its,r,pl,hz⟩:=I.tuple hq
 obtain⟨j,h1,h2,h3,h4,h5⟩:=rh he
 obtain⟨w,ew,rw'⟩:=r.get h2
 have hl:=r.length
 have hn:=kz
 have fin:EP X pins σ Q w s:=⟨z,H,I,rw',q⟩
 exact subscriptTail_builtinR (x:=w) pl.typeIs slot_tuple_getitem.lookup
  (getItem_tuple (j:=j) (Q:=fun r s'=>r=w/\EP X pins σ Q r s') pl (by omega) (by omega) (by rw [List.size_toArray,<- hl];exact h1) (by simpa using ew) ⟨rfl,fin⟩) hs
theorem GI:HH X Lv:=by
 intro value slice pins s σ H x y v u Q I rx ry h hs
 obtain⟨z,i,c,rfl,rfl,hz,he,q⟩:=h
 obtain⟨t,rfl⟩:=rx
 obtain⟨t',rfl⟩:=ry
 obtain⟨j,h1,h2,h3,h4,h5⟩:=rh he
 have hl:z.cps.toList.length=z.length:=by simp [Str.length]
 rw [hl] at h1 h4 h5
 have hn:=kz
 exact tail_any (typeIs_str s z t) slot_str_getitem.lookup (getItem_str (c:=c) (by
  have e1:decide (i < -(2^63:Int))=false:=decide_eq_false (by omega)
  have e2:decide (i≥2^63)=false:=decide_eq_false (by omega)
  rw [e1,e2,Bool.or_false]) (by rw [h1];simpa using h2) ⟨.str ⟨#[c]⟩,H,I.tok _,⟨_,rfl⟩,q⟩) hs
theorem w9 (its:List Value)(n j:Nat)(u:Value):Obj.mapSeq (·.setIfInBounds j u) { cls:=.type "list", data:=.seq its.toArray n }={ cls:=.type "list", data:=.seq (its.set j u).toArray n }:=by
 simp [Obj.mapSeq]
theorem Inv.lst {pins:List (Addr×Obj)}{σ:St}{H:Hp}{s:Shared}{p:Addr}{xs:List V}(I:Inv X pins σ H s)(h:H p=some (.lst xs)):
  ∃(its:List Value) (n:Nat),Vals xs its/\s.heap.get? p=some { cls:=.type "list", data:=.seq its.toArray n }/\xs.length≤sizeLine:=by
 obtain⟨z,its,n,r,e⟩:=I.hok p _ h
 exact⟨its,n,r,e,z⟩
theorem Inv.lstUpd {pins:List (Addr×Obj)}{σ:St}{H:Hp}{s:Shared}{p:Addr}{xs ys:List V}{its its':List Value}{n n':Nat}{f:Obj->Obj}(I:Inv X pins σ H s)(h:H p=some (.lst xs))
  (ho:s.heap.get? p=some { cls:=.type "list", data:=.seq its.toArray n }) (hf:f { cls:=.type "list", data:=.seq its.toArray n }={ cls:=.type "list", data:=.seq its'.toArray n' }) (r:Vals ys its') (hz:ys.length≤sizeLine) (t:Nat):
  Inv X pins σ (upd H p (.lst ys)) { s with heap:=s.heap.update p f,toks:=t }:=by
 have e:(s.heap.update p f).get? p=some { cls:=.type "list", data:=.seq its'.toArray n' }:=by
  rw [Heap.get?_update_self f ho (by rw [hf]<;>rfl),hf]
 refine I.write (x:=p) (e:=p) (by rw [h];trivial) (.inl rfl) (fun b u hb q=>(Heap.get?_update_other _ _ (Ne.symm hb)).trans q) ⟨_,e⟩ ?_
 exact⟨hz,its',n',r,e⟩
def JY:V->V->V->Hp->(Hp->Prop)->Prop:=fun o i v H Q=>∃p xs k j,o=.ref p/\i=.int k/\H p=some (.lst xs)/\yH xs.length k=some j/\Q (upd H p (.lst (xs.set j v)))
theorem set_list:Iu X JY:=by
 intro pins s σ H o i v ov iv u Q I ro ri rv h
 obtain⟨p,xs,k,j,rfl,rfl,hp,hj,q⟩:=h
 cases ro
 obtain⟨t,rfl⟩:=ri
 obtain⟨its,n,r,ho,hz⟩:=I.lst hp
 obtain⟨h1,h2,h3,h4⟩:=yI hj
 have hl:=r.length
 have hn:=kz
 have I':Inv X pins σ (upd H p (.lst (xs.set j v))) { s with heap:=s.heap.update p (Obj.mapSeq (·.setIfInBounds j u)) }:=
  I.lstUpd hp ho (w9 its n j u) (r.set rv j) (by rw [List.length_set];exact hz) s.toks
 by_cases h0:0≤k
 ·have hk:k.toNat=j:=by
   rw [seqIndex_of h0 h4] at h1
   exact Option.some.inj h1
  exact PySem.W.ki_setAt ho h0 (by omega) (by rw [List.size_toArray,<- hl];exact h4) (by rw [hk];exact⟨_,I',q⟩)
 ·have hk:(k+(its.toArray.size:Int)).toNat=j:=by
   rw [seqIndex_neg (by omega) h3] at h1
   rw [List.size_toArray,<- hl]
   exact Option.some.inj h1
  exact PySem.W.ki_setBack ho (by omega) (by rw [List.size_toArray,<- hl];exact h3) (by omega) (by rw [hk];exact⟨_,I',q⟩)
theorem rB:gW X (.builtin "len") (fun xs H Q=>∃p ys,xs=[.ref p]/\(fq X.K H p ys\/kQ X.K H p ys)/\Q (.int ys.length) H):=by
 intro pins s σ H xs us Q I r h
 obtain⟨p,ys,rfl,hq,q⟩:=h
 obtain⟨u,rfl,rx⟩:=vals1 r
 cases rx
 have hn:=kz
 rcases hq with hq | hq
 ·obtain⟨its,r',pl,hz⟩:=I.list hq
  have hlen:=r'.length
  exact Calls.call_len_list pl.isList (by simp only [List.size_toArray]<;>omega) ⟨.int ys.length,H,I.tok _,⟨s.toks+1,by rw [List.size_toArray,hlen]⟩,q⟩
 ·obtain⟨its,r',pl,hz⟩:=I.tuple hq
  have hlen:=r'.length
  exact len_tuple pl (by simp only [List.size_toArray]<;>omega) ⟨.int ys.length,H,I.tok _,⟨s.toks+1,by rw [List.size_toArray,hlen]⟩,q⟩
theorem rC:gW X (.builtin "len") (fun xs H Q=>∃z,xs=[.str z]/\z.length≤sizeLine/\Q (.int z.length) H):=by
 intro pins s σ H xs us Q I r h
 obtain⟨z,rfl,hz,q⟩:=h
 obtain⟨u,rfl,t,rfl⟩:=vals1 r
 have hn:=kz
 exact len_str (by omega) ⟨.int z.length,H,I.tok _,⟨_,rfl⟩,q⟩
theorem gW.or {f:Value}{r r':List V->Hp->VK->Prop}(h:gW X f r)(h':gW X f r'):gW X f (fun xs H Q=>r xs H Q\/r' xs H Q):=by
 intro pins s σ H xs us Q I rs q
 rcases q with q | q
 ·exact h pins s σ H xs us Q I rs q
 ·exact h' pins s σ H xs us Q I rs q
theorem rD:gW X (.type "list") (fun xs H Q=>∃p ys,xs=[.ref p]/\(fq X.K H p ys\/kQ X.K H p ys)/\∀l,H l=none->Q (.ref l) (upd H l (.lst ys))):=by
 intro pins s σ H xs us Q I r h
 obtain⟨p,ys,rfl,hq,q⟩:=h
 obtain⟨u,rfl,rx⟩:=vals1 r
 cases rx
 have fin:∀(its:List Value),Vals ys its->ys.length≤sizeLine->∀(h':Heap) (c':Nat),(∀b o',s.heap.get? b=some o'->h'.get? b=some o') ->
   h'.get? s.heap.objs.size=some { cls:=.type "list", dict:=none,data:=.seq its.toArray c',slots:=#[] }->EP X pins σ Q (.ref s.heap.objs.size) { s with heap:=h' }:=fun its r' hz h' c' kp e =>
  ⟨.ref s.heap.objs.size,_,I.laid (t':=s.toks) kp (Nat.le_refl _) (show gd X.prog X.w _ h' _ (.lst ys) from ⟨hz,its,c',r',e⟩),rfl,q _ (I.hok.fresh (Nat.le_refl _))⟩
 rcases hq with hq | hq
 ·obtain⟨its,r',pl,hz⟩:=I.list hq
  have hlen:=r'.length
  obtain⟨o,ho,hc,n,hd⟩:=pl.isList
  exact call_list_seq p (.inl rfl) ho hc hd (fun h' c' kp e=>fin its r' hz h' c' kp e) (by simp only [List.size_toArray]<;>omega)
 ·obtain⟨its,r',pl,hz⟩:=I.tuple hq
  have hlen:=r'.length
  obtain⟨o,ho,hc,n,hd⟩:=pl
  exact call_list_seq p (.inr rfl) ho hc hd (fun h' c' kp e=>fin its r' hz h' c' kp e) (by simp only [List.size_toArray]<;>omega)
theorem pK:gW X (.type "tuple") (fun xs H Q=>∃p ys,xs=[.ref p]/\((fq X.K H p ys/\∀l,H l=none->Q (.ref l) (upd H l (.tup ys)))\/(kQ X.K H p ys/\Q (.ref p) H))):=by
 intro pins s σ H xs us Q I r h
 obtain⟨p,ys,rfl,h⟩:=h
 obtain⟨u,rfl,rx⟩:=vals1 r
 cases rx
 rcases h with ⟨hq,q⟩ | ⟨hq,q⟩
 ·obtain⟨its,r',pl,hz⟩:=I.list hq
  have hlen:=r'.length
  refine call_tuple_list pl.isList (fun h' kp=>?_) (by simp only [List.size_toArray]<;>omega)
  have I1:Inv X pins σ H { s with heap:=h' }:=I.kept (t':=s.toks) kp
  have I2:Inv X pins σ (upd H h'.objs.size (.tup ys)) { s with heap:=h'.push { cls:=.type "tuple", data:=.seq its.toArray } }:=
   I1.laid (t':=s.toks) (fun b o e=>Heap.get?_push_of_some _ e) (Nat.le_refl _) (show gd X.prog X.w _ _ _ (.tup ys) from ⟨hz,its,r',IsTup.new _ _⟩)
  exact⟨.ref h'.objs.size,_,I2,rfl,q _ (I1.hok.fresh (Nat.le_refl _))⟩
 ·obtain⟨its,r',pl,hz⟩:=I.tuple hq
  exact call_tuple_same pl ⟨.ref p,H,I,rfl,q⟩
def LK (K:PySem.W.Frag)(T:String)(x:V)(H:Hp):Prop:=match x with
 | .str _=>T = "str"
 | .int _=>T = "int"
 | .ref p=>(T = "list"/\∃xs,fq K H p xs)\/(T = "tuple"/\∃o,K.lookup p=some o/\o.cls=.type "tuple"/\o.dict=none) \/
   (T = "dict"/\((∃kvs,H p=some (.dK kvs))\/∃kvs,H p=some (.dT kvs)))\/(T = "set"/\∃S n,H p=some (.set S n))
 |_=>False
theorem Cv {pins:List (Addr×Obj)}{σ:St}{H:Hp}{s:Shared}{T:String}{x:V}{v:Value}(I:Inv X pins σ H s)(r:RelV x v)(ty:LK X.K T x H):
  s.TypeIs v T/\∀a,v=.ref a->∃ob,s.heap.get? a=some ob/\ob.dict=none:=by
 cases x with
 |str z =>
  obtain⟨t,rfl⟩:=r
  cases (show T = "str" from ty)
  exact⟨typeIs_str s z t,fun _ e=>nomatch e⟩
 |int i =>
  obtain⟨t,rfl⟩:=r
  cases (show T = "int" from ty)
  exact⟨typeIs_int s i t,fun _ e=>nomatch e⟩
 |ref p =>
  cases r
  rcases ty with ⟨rfl,xs,hq⟩ | ⟨rfl,o,hk,hc,hd⟩ | ⟨rfl,hk⟩ | ⟨rfl,S,n,hk⟩
  ·obtain⟨its,_,pl,_⟩:=I.list hq
   refine⟨pl.isList.typeIs,fun a e=>?_⟩
   cases e
   obtain⟨o,n,e,c,hd,_⟩:=pl
   exact⟨o,e,hd⟩
  ·refine⟨⟨o,I.kIn p o hk,hc⟩,fun a e=>?_⟩
   cases e
   exact⟨o,I.kIn _ o hk,hd⟩
  ·have z:∃o,s.heap.get? p=some o/\o.ExactDict:=by
    rcases hk with ⟨kvs,hk⟩ | ⟨kvs,hk⟩
    ·obtain⟨_,_,_,_,o,_,_,e,ex,_⟩:=I.hok p _ hk
     exact⟨o,e,ex⟩
    ·obtain⟨_,_,_,_,o,_,_,e,ex,_⟩:=I.hok p _ hk
     exact⟨o,e,ex⟩
   obtain⟨o,e,ex⟩:=z
   refine⟨⟨o,e,ex.1⟩,fun a e2=>?_⟩
   cases e2
   exact⟨o,e,ex.2.1⟩
  ·obtain⟨o,_,_,_,e,ex,_⟩:=I.hok p _ hk
   refine⟨⟨o,e,ex.1⟩,fun a e2=>?_⟩
   cases e2
   exact⟨o,e,ex.2.1⟩
 |_=>exact False.elim ty
def Lz (K:PySem.W.Frag)(T:String)(r:V->List V->Hp->VK->Prop)(to:TE):TE:=fun σ H Q=>to σ H fun x H1=>LK K T x H1/\r x [] H1 Q
def MA (K:PySem.W.Frag)(T:String)(r:V->List V->Hp->VK->Prop)(to:TE)(t:TA):TE:=fun σ H Q=>to σ H fun x H1=>LK K T x H1/\t σ H1 fun xs H2=>r x xs H2 Q
variable {o e:Expr}{es:List Expr}{to:TE}{t:TA}{name:Str}{apos cpos:Pos}{T id:String}{r:V->List V->Hp->VK->Prop}
theorem G3 (pa:PlainAttrs T)(slot:Slot T name id)(hty:typeOf (.builtin id)=pure (.type "method_descriptor"))(hm:Km X id r)(ho:PE X o to)
  (hbase:attributeBase o name X.env (eval o X.env)=eval o X.env:=by rfl) (hline:(apos.endLine == cpos.line)=true:=by rfl):PE X (.Call (.Attribute o name apos) [] [] cpos) (Lz X.K T r to):=by
 intro pins s σ H Q I h
 refine wpAny_Call_method0_late hbase hline (dB (ho pins s σ H _ I h) fun v s1 ⟨x,H1,I1,r1,ty,q1⟩=>?_)
 obtain⟨h1,h2⟩:=Cv I1 r1 ty
 exact⟨T,id,pa,slot,hty,h1,h2,Calls.callWith_builtin rfl (PySem.evalArgs_none (hm pins s1 σ H1 x [] v [] Q I1 r1 .nil q1))⟩
theorem qG (pa:PlainAttrs T)(slot:Slot T name id)(hty:typeOf (.builtin id)=pure (.type "method_descriptor"))(hm:Km X id r)(ho:PE X o to)(ha:PA X (e::es) t)
  (hbase:attributeBase o name X.env (eval o X.env)=eval o X.env:=by rfl)
  (hfew:((backTo cpos (starEach (e::es) X.env)).all (fun x=>!x.1)&&(backToKw cpos (keywordEach [] X.env)).all (fun x=>x.1.isSome)
   && decide ((e::es).length+([]:List Keyword).length+(if ([]:List Keyword).isEmpty then 0 else 1)<30))=true:=by rfl)
  (hline:(apos.endLine == cpos.line)=true:=by rfl) (hs:starEach (e::es) X.env=(false,eval e X.env)::starEach es X.env:=by rfl) (hplain:(backTo cpos (starEach es X.env)).any (·.1)=false:=by rfl):
  PE X (.Call (.Attribute o name apos) (e::es) [] cpos) (MA X.K T r to t):=by
 intro pins s σ H Q I h
 refine wpAny_Call_method_late hbase hfew hline rfl (dB (ho pins s σ H _ I h) fun v s1 ⟨x,H1,I1,r1,ty,q1⟩=>?_)
 obtain⟨h1,h2⟩:=Cv I1 r1 ty
 refine⟨T,id,pa,slot,hty,h1,h2,?_⟩
 have hA:=ha cpos pins s1 σ H1 _ I1 q1
 rw [hs] at hA ⊢
 refine Calls.callWith_builtin (by show (false||(backTo cpos (starEach es X.env)).any (·.1))=false;rw [hplain]<;>rfl) (Calls.evalArgs_plain ?_)
 exact dB hA fun us s2 ⟨vs,H2,I2,r2,q2⟩=>hm pins s2 σ H2 x vs v us Q I2 r1 r2 q2
/- xs.append(e),list.index on a module's tuple .. are Km facts of 06m -/
end
def Kl (X:Cx)(id:String)(r:V->List V->Hp->VK->Prop):Prop:=
 ∀(pins:List (Addr×Obj)) (s:Shared) (σ:St) (H:Hp) (x:V) (xs:List V) (v:Value) (us:List Value) (Q:VK),Inv X pins σ H s->RelV x v->Vals xs us->r x xs H Q ->
  wpAny (model X.prog X.w) X.A (call (.builtin id) (v::us)) (EP X pins σ Q) X.xe s
theorem Vals.one:∀{x:V} {us:List Value},Vals [x] us->∃u,us=[u]/\RelV x u
 |_,_,.cons r .nil=>⟨_,rfl,r⟩
theorem Vals.two:∀{x y:V} {us:List Value},Vals [x,y] us->∃u v,us=[u,v]/\RelV x u/\RelV y v
 |_,_,_,.cons r (.cons q .nil)=>⟨_,_,rfl,r,q⟩
theorem Vals.zero:∀{us:List Value},Vals [] us->us=[]
 |_,.nil=>rfl
theorem Vals.eraseIdx:∀{xs:List V} {us:List Value} (i:Nat),Vals xs us->Vals (xs.eraseIdx i) (us.eraseIdx i)
 |_,_,_,.nil=>.nil
 |_,_,0,.cons _ t=>t
 |_,_,i+1,.cons r t=>.cons r (Vals.eraseIdx i t)
theorem qD {α:Type}:∀(l:List α) (i:Nat),(l.eraseIdx i).length≤l.length
 |[],_=>Nat.le_refl _
 |_::_,0=>Nat.le_succ _
 |_::r,i+1=>Nat.succ_le_succ (qD r i)
section
variable {X:Cx}{pins:List (Addr×Obj)}{σ:St}{H:Hp}{s:Shared}{l b:Addr}{xs ys zs:List V}
theorem Inv.lset {its its':List Value}{n:Nat}{f:Array Value->Array Value}{t':Nat}(I:Inv X pins σ H s)(hH:H l=some (.lst xs))
  (e:s.heap.get? l=some { cls:=.type "list", data:=.seq its.toArray n }) (hf:f its.toArray=its'.toArray) (hv:Vals ys its') (hz:ys.length≤sizeLine):
  Inv X pins σ (upd H l (.lst ys)) { s with heap:=s.heap.update l (Obj.mapSeq f),toks:=t' }:=by
 have q:=PySem.IsL.update e f
 rw [hf] at q
 refine I.write (x:=l) (e:=l) (by rw [hH];exact trivial) (.inl rfl) (fun b' u hb hu=>(Heap.get?_update_other s.heap (Obj.mapSeq f) (Ne.symm hb)).trans hu) ⟨_,q⟩ ?_
 exact⟨hz,its',_,hv,q⟩
theorem Inv.lnew {its:List Value}{t':Nat}(I:Inv X pins σ H s)(hv:Vals ys its)(hz:ys.length≤sizeLine):
  Inv X pins σ (upd H s.heap.objs.size (.lst ys)) { s with heap:=s.heap.push { cls:=.type "list", data:=.seq its.toArray },toks:=t' }:=
 I.laid (fun _ _ q=>Heap.get?_push_of_some _ q) (Nat.le_refl _) ⟨hz,its,0,hv,Heap.get?_push_size _ rfl⟩
theorem Inv.fresh (I:Inv X pins σ H s):H s.heap.objs.size=none:=I.hok.fresh (Nat.le_refl _)
theorem Inv.lstM (I:Inv X pins σ H s)(hH:H l=some (.lst xs)):xs.length≤sizeLine/\∃(its:List Value) (n:Nat),Vals xs its/\xs.length=its.length/\s.heap.get? l=some { cls:=.type "list", data:=.seq its.toArray n }:=by
 obtain⟨z,its,n,r,e⟩:=I.hok l _ hH
 exact⟨z,its,n,r,r.length,e⟩
theorem BK {n:Nat}(h:n≤sizeLine):Builtin.List.listTooLong n=false:=by
 unfold Builtin.List.listTooLong
 exact decide_eq_false (by omega)
end
section
variable {X:Cx}
def D9:V->List V->Hp->VK->Prop:=fun x vs H Q=>∃l xs y,x=.ref l/\vs=[y]/\H l=some (.lst xs)/\xs.length<sizeLine/\Q .non (upd H l (.lst (xs++[y])))
theorem jV:Kl X "list.append" D9:=by
 intro pins s σ H x vs v us Q I rx rv h
 obtain⟨l,xs,y,rfl,rfl,hH,hz,q⟩:=h
 cases rx
 obtain⟨u,rfl,ru⟩:=rv.one
 obtain⟨z,its,n,r,hl,e⟩:=I.lstM hH
 refine call_meets F.slot_list_append ⟨_,e,rfl⟩ F.entry_list_append (F.args_list_append_2 _ _) (PySem.list_append l its.toArray n u (by rw [List.size_toArray];omega)) ⟨e,?_⟩
 refine⟨.non,_,I.lset (its':=its++[u]) hH e (by simp) (r.append (.cons ru .nil)) ?_,rfl,q⟩
 rw [List.length_append,List.length_singleton]
 omega
def Ea:V->List V->Hp->VK->Prop:=fun x vs H Q=>∃l b xs zs,x=.ref l/\vs=[.ref b]/\H l=some (.lst xs)/\H b=some (.lst zs)/\xs.length+zs.length≤sizeLine/\Q .non (upd H l (.lst (xs++zs)))
theorem zZ:Kl X "list.extend" Ea:=by
 intro pins s σ H x vs v us Q I rx rv h
 obtain⟨l,b,xs,zs,rfl,rfl,hH,hB,hz,q⟩:=h
 cases rx
 obtain⟨u,rfl,ru⟩:=rv.one
 cases ru
 obtain⟨z,its,n,r,hl,e⟩:=I.lstM hH
 obtain⟨z2,its2,n2,r2,HV,e2⟩:=I.lstM hB
 have hsz:its.toArray.size+its2.toArray.size≤sizeLine:=by rw [List.size_toArray,List.size_toArray];omega
 have hlong:¬ (!its.toArray.isEmpty&&Builtin.List.listTooLong (its.toArray.size+its2.toArray.size))=true:=by
  rw [BK hsz,Bool.and_false]
  exact Bool.false_ne_true
 refine call_meets F.slot_list_extend ⟨_,e,rfl⟩ F.entry_list_extend (F.args_list_extend_2 _ _)
  (AutoSeq1.list_extend_list_list_0 l its.toArray n b its2.toArray n2 hlong (by rw [List.size_toArray];omega) (by omega)) ⟨e,e2,?_⟩
 refine⟨.non,_,I.lset (its':=its++its2) hH e (by simp) (r.append r2) ?_,rfl,q⟩
 rw [List.length_append]
 omega
def Hl:V->List V->Hp->VK->Prop:=fun x vs H Q=>∃l xs i k y,x=.ref l/\vs=[.int i]/\H l=some (.lst xs) /\ -(2^63)≤i/\i<2^63/\seqIndex? i xs.length=some k/\xs[k]? = some y/\Q y (upd H l (.lst (xs.eraseIdx k)))
theorem BH:Kl X "list.pop" Hl:=by
 intro pins s σ H x vs v us Q I rx rv h
 obtain⟨l,xs,i,k,y,rfl,rfl,hH,h1,h2,hk,hy,q⟩:=h
 cases rx
 obtain⟨u,rfl,ru⟩:=rv.one
 obtain⟨t,rfl⟩:=ru
 obtain⟨z,its,n,r,hl,e⟩:=I.lstM hH
 obtain⟨w,hw,rw'⟩:=r.get hy
 refine call_meets F.slot_list_pop ⟨_,e,rfl⟩ F.entry_list_pop (F.args_list_pop_2 _ _)
  (MeetsSeq.list_pop_at l its.toArray n i t k w (fitsIndex_both h1 h2) (by rw [List.size_toArray,<- hl];exact hk) (by rw [<- Array.getElem?_toList];exact hw) (by rw [List.size_toArray];omega)) ⟨e,?_⟩
 refine⟨y,_,I.lset (its':=its.eraseIdx k) hH e ?_ (r.eraseIdx k) ?_,rw',q⟩
 ·show its.toArray.eraseIdxIfInBounds k=(its.eraseIdx k).toArray
  rw [List.eraseIdxIfInBounds_toArray]
 ·have:=qD xs k
  omega
def Ls:R2:=fun x y H Q=>∃l b xs zs,x=.ref l/\y=.ref b/\H l=some (.lst xs)/\H b=some (.lst zs)/\xs.length+zs.length≤sizeLine/\∀p,H p=none->Q (.ref p) (upd H p (.lst (xs++zs)))
theorem G0:pD X (binaryOp .Add) Ls:=by
 intro pins s σ H x y v u Q I rx ry h
 obtain⟨l,b,xs,zs,rfl,rfl,hH,hB,hz,q⟩:=h
 cases rx
 cases ry
 obtain⟨z,its,n,r,hl,e⟩:=I.lstM hH
 obtain⟨z2,its2,n2,r2,HV,e2⟩:=I.lstM hB
 refine PySem.P.add_list e e2 ?_ (by rw [List.size_toArray,List.size_toArray];omega)
 have ea:its.toArray++its2.toArray=(its++its2).toArray:=by simp
 rw [ea]
 exact⟨.ref _,_,I.lnew (t':=s.toks) (r.append r2) (by rw [List.length_append];omega),rfl,q _ I.fresh⟩
end
section
variable {prog:Program}{w:World}{A:Around}{E:Value->Shared->Prop}{s:Shared}
end
section
variable {X:Cx}
end
end L2
namespace Att
open PySem PySem.W PySem.Calls PyProof.Rows
theorem m9 {P:Params}{h:Heap}:∀(ns:List Int) (vs:List Value),WellAll P h vs (ns.map WData.int)->IntsAre vs ns:=by
 intro ns
 induction ns with
 |nil =>
  intro vs w
  rw [List.map_nil] at w
  cases w
  exact .nil
 |cons n ns ih =>
  intro vs w
  rw [List.map_cons] at w
  cases w with
  |cons a b =>
   cases a
   exact .cons _ _ (ih _ b)
theorem Ap {l:OpenLaw}{n:Nat}(hn:l.most=some n){P:Params}{h:Heap}{args:List WData}{vals:List Value}
  (hpre:l.row.toRowW.claim.pre args=true) (hwl:WellAll P h vals args):
  ∃a vs ns,vals=[Value.ref a]/\args=[WData.list (ns.map WData.int)]/\h.get? a=some { cls:=.type "list", data:=.seq vs.toArray }/\IntsAre vs ns/\ns.length≤n:=by
 have hsh:WShape.hasAll [] args [.list .int]=true:=(pre_splitW hpre).1
 have hc:l.pre.holds [] { args:=args }=true:=(pre_splitW hpre).2
 obtain⟨d,r,rfl,h1,h2⟩:=hasAllW_cons hsh
 obtain rfl:=hasAllW_nil h2
 obtain⟨xs,rfl,h3⟩:=hasW_list h1
 obtain⟨ns,rfl⟩:=items_int h3
 have hlen:ns.length≤n:=by
  unfold OpenLaw.pre at hc
  have h4:(WTm.not (.lt (.lit (.int (n:Int))) (.len (.arg 0)))).holds [] { args:=[.list (ns.map .int)] }=true:=by
   have h4:=(holds_andW hc).1
   rw [hn] at h4
   exact h4
  have h5:=condW_of h4 (w_not (w_lt w_lit (w_len_list (w_arg rfl))))
  rw [List.length_map] at h5
  refine Nat.le_of_not_lt fun q=>?_
  have q':(n:Int)<((ns.length:Nat):Int):=by omega
  first
   |(rw [decide_eq_true q'] at h5;exact absurd h5 (by decide))
   |(simp at h5;omega)
 cases hwl with
 |cons w1 w2 =>
  cases w2
  cases w1 with
  |list ho hall=>exact⟨_,_,ns,rfl,rfl,ho,m9 ns _ hall,hlen⟩
theorem Aj (l:OpenLaw)(args:List WData):l.row.toRowW.claim.post args (.bool true) args=true:=
 postW_of (r:=l.row.toRowW) (X:=(true == true))
  (show WShape.has [] (.bool true) .bool=true by first | rfl | decide | simp [WShape.has,WShape.arms,WShape.armsAll])
  (show (WTm.eq .res (.lit (.bool true))).value [] { args:=args,res:=some (.bool true),after:=args }=some (.bool (true == true)) from w_eq_bool (w_res rfl) w_lit) rfl
theorem um {l:OpenLaw}{n:Nat}{q:Program}{loose:List Str}{XP:(Str->Option Value)->Heap->Prop}{YP:World->Heap->Prop}{d:DefRec}
  (hn:l.most=some n) (hdf:d.params.defaults=[])
  (call:∀(w:World) (Y8 s₁:Shared) (mg mb:Str->Option Value) (fa:Addr) (o:Obj) (pm cd doc:Value) (a:Addr) (vs:List Value) (ns:List Int),
   Ground q loose [] XP w Y8 mg mb s₁.heap->YP w s₁.heap ->
   s₁.heap.get? fa=some o->o.data=.func (docDef d.name d.params d.body d.scope pm cd doc)->s₁.heap.CodeRec cd d.name->mg d.name=some (.ref fa) ->
   s₁.heap.get? a=some { cls:=.type "list", data:=.seq vs.toArray }->IntsAre vs ns->ns.length≤n->s₁.gens = #[] ->
   codeAny (model l.prog w) callerA (.call (.ref fa) ⟨[.ref a],[]⟩) (fun r s'=>r=.ok (.ret (.bool true))/\OldK s₁.heap s'.heap/\s'.os=s₁.os/\AllBare s'.gens) s₁):
  WalkO q loose XP YP l.row.toRowW d [] (fun f vs=>PySem.call f vs):=by
 intro w Y8 s₁ mg mb G Y fa o pm cd doc dV kV ho hd hcd hD hmg hg args vals as hpre hlay hrd hwl hlo
 obtain rfl:dV=.none:=Dflts.none hD hdf
 obtain rfl:kV=.none:=Dflts.noKw hD
 obtain⟨a,vs,ns,rfl,rfl,hobj,hints,hlen⟩:=Ap hn hpre hwl
 refine enter_call (codeAny_mono (call w Y8 s₁ mg mb fa o pm cd doc a vs ns G Y ho (fd_plain hd) hcd hmg hobj hints hlen hg) fun r s' hq=>?_)
 obtain⟨rfl,h2,h3,h4⟩:=hq
 exact⟨.inl ⟨.bool true,.bool true,[],rfl,fun _=>rfl,.bool true,Aj l _,fun _=>⟨List.Pairwise.nil,fun _ hm=>(nomatch hm)⟩⟩,h2,h3,h4⟩
section
variable {prog:Program}{w:World}{A:Around}{E:Value->Shared->Prop}{s:Shared}{K:Frag}
end
end Att
namespace L2
open PySem PySem.Spec PyProof.Rows
theorem qP:∀{vs:List Value} {ns:List Int},IntsAre vs ns->Vals (ns.map V.int) vs
 |_,_,.nil=>.nil
 |_,_,.cons n t h=>.cons ⟨t,rfl⟩ (qP h)
def FC (H:Hp):Prop:=∀b,H b=none\/∃o xs,H b=some (.frz o (.lst xs))
theorem Bu {P:Program}{w:World}{K:PySem.W.Frag}{mg mb:Str->Option Value}{CX:ya}{k:Nat}{fa a:Addr}{fd:FuncData}{x:Str}{sp:Sp}{s₁:Shared}{vs:List Value}{ns:List Int}
  (KX:K.In s₁.heap) (hns:s₁.heap.Ns mainGlobals mg) (hb:s₁.heap.Ns builtinsNs mb) (hbb:∀x:Str,x≠"__name__"->mb x=bootBuiltins x) (hlim:s₁.heap.NoLimit) (hg:s₁.gens = #[])
  (ha:s₁.heap.get? a=some { cls:=.type "list", data:=.seq vs.toArray }) (hi:IntsAre vs ns) (hl:ns.length≤sizeLine) (hr:dG k callerA)
  (F:∀base:Heap,K.In base->base.Ns mainGlobals mg->gz P w K mg base CX k fa fd [x] sp) (hbind:∀(s:Shared) (u:Value),BindsTo s fd ⟨[u],[]⟩ [(x,u)])
  (hsp:∀H:Hp,FC H->fq K H a (ns.map V.int)->sp [.ref a] H (fun v _=>v=.bl true) fun _ _ _=>False)
  (hCX:∀H e s',CX [] H s₁ (fun _ _ _=>False) e s'->False):
  codeAny (model P w) callerA (.call (.ref fa) ⟨[.ref a],[]⟩) (fun r s'=>r=.ok (.ret (.bool true))/\OldK s₁.heap s'.heap/\s'.os=s₁.os/\AllBare s'.gens) s₁:=by
 have rv:=qP hi
 have lenV:=hi.length
 -- from an abstract heap in which nothing but the script may be tracked
 have core:∀H:Hp,FC H->fq K H a (ns.map V.int)->mK P w H s₁.heap->(∀b,H b≠none->b=a)->(H a≠none->K.lookup a=none) ->
   codeAny (model P w) callerA (.call (.ref fa) ⟨[.ref a],[]⟩) (fun r s'=>r=.ok (.ret (.bool true))/\OldK s₁.heap s'.heap/\s'.os=s₁.os/\AllBare s'.gens) s₁:=by
  intro H hO hS hok hA hK
  have base_of:∀{b:Addr} {o:Obj},s₁.heap.get? b=some o->H b=none->(rR s₁.heap H).get? b=some o:=fun e n=>Bn e n
  have noA:∀{b:Addr} {o:Obj} {es:Array DictEntry} {ep:Nat},s₁.heap.get? b=some o->o.data=.dict es ep->H b=none:=fun {b o es ep} e d=>by
   cases q:H b with
   |none=>rfl
   |some u =>
    have e':b=a:=hA b (by rw [q];simp)
    subst e'
    rw [ha] at e;cases e
    have d':Data.seq vs.toArray _=Data.dict es ep:=d
    cases d'
  have nsK:∀{b:Addr} {m:Str->Option Value},s₁.heap.Ns b m->(rR s₁.heap H).Ns b m:=fun {b m} ⟨o,es,ep,e,d,r⟩=>⟨o,es,ep,base_of e (noA e d),d,r⟩
  have hKb:K.In (rR s₁.heap H):=fun b o e=>base_of (KX b o e) (by
   cases q:H b with
   |none=>rfl
   |some u =>
    have e':b=a:=hA b (by rw [q];simp)
    subst e'
    rw [hK (by rw [q];simp)] at e;cases e)
  have hM:Mod K mg (rR s₁.heap H):=⟨hKb,nsK hns,⟨mb,nsK hb,hbb⟩,let ⟨mc,h1,h2⟩:=hlim;⟨mc,nsK h1,h2⟩⟩
  have e0:vN P w K mg (rR s₁.heap H) callerA [] s₁ H:=⟨rfl,hM,fun b o e=>DS e,Nat.le_of_eq (zS _ _),trivial,fun b hb=>absurd (show b∈([]:List Addr) from hb) (by simp),hok,.of_eq hg⟩
  refine codeAny_mono ((F _ hKb (nsK hns)).run callerA [] s₁ H ⟨[.ref a],[]⟩ [.ref a] [.ref a] _ _ hr e0 (hbind s₁ (.ref a)) (.cons rfl .nil) (hsp H hO hS)) fun r s' h=>?_
  cases r with
  |error e=>exact (hCX H e s' h).elim
  |ok fl =>
   cases fl with
   |next=>exact False.elim h
   |brk=>exact False.elim h
   |cont=>exact False.elim h
   |ret u =>
    obtain⟨v,H',os,bare,un,hok',r',q⟩:=h
    have q':v=.bl true:=q
    subst q'
    obtain rfl:u=Value.bool true:=r'
    refine⟨rfl,OldK.of_keep fun b o e=>?_,os,bare⟩
    cases q:H b with
    |none=>exact un.keep b o e q (by intro z;exact absurd (show b∈([]:List Addr) from z) (by simp)) (by simp)
    |some u =>
     rcases hO b with z | ⟨ob,xs,z⟩
     ·rw [q] at z;cases z
     ·have z2:=un.frzs b ob _ z
      obtain⟨e1,_⟩:=hok b _ z
      obtain⟨e2,_⟩:=hok' b _ z2
      rw [e] at e1;cases e1
      exact e2
 cases hk:K.lookup a with
 |some o =>
  -- the script is one of the module's own objects
  have e:=KX a o hk
  rw [ha] at e
  cases e
  refine core (fun _=>none) (fun _=>.inl rfl) (.inr ⟨_,vs.toArray,_,hk,rfl,rfl,rfl,by rw [List.size_toArray,lenV];exact hl,by simpa using rv⟩) (fun b u z=>by have z':(none:Option HO)=some u:=z;cases z') (fun b z=>absurd rfl z) fun z=>absurd rfl z
 |none =>
  refine core (fun b=>if b=a then some (.frz { cls:=.type "list", data:=.seq vs.toArray } (.lst (ns.map V.int))) else none) (fun b=>?_) (.inl (.inr ⟨{ cls:=.type "list", data:=.seq vs.toArray },if_pos rfl⟩)) (fun b u z=>?_) (fun b z=>?_) fun _=>hk
  ·by_cases hb:b=a
   ·exact .inr ⟨_,_,if_pos hb⟩
   ·exact .inl (if_neg hb)
  ·by_cases hb:b=a
   ·have z':=(if_pos hb).symm.trans z
    cases z'
    subst hb
    exact⟨ha,by rw [List.length_map];exact hl,vs,_,rv,ha⟩
   ·have z':=(if_neg hb).symm.trans z
    cases z'
  ·by_cases hb:b=a
   ·exact hb
   ·exact absurd (if_neg hb) z
theorem zE {l:PySem.W.OpenLaw}{n k:Nat}{q:Program}{loose:List Str}{XP:(Str->Option Value)->Heap->Prop}{YP:World->Heap->Prop}{d:DefRec}{K:Params->PySem.W.Frag}{CX:World->ya}{sp:World->Sp}{x:Str}
  (hn:l.most=some n) (hn2:n≤sizeLine) (hdf:d.params.defaults=[]) (hr:dG k callerA)
  (hY:∀(w:World) (h:Heap),YP w h->(K w.params).In h)
  (F:∀(w:World) (mg:Str->Option Value) (fa:Addr) (h:Heap),(K w.params).In h->h.Ns mainGlobals mg->mg d.name=some (.ref fa) ->
   ∃fd:FuncData,(∀(s:Shared) (u:Value),BindsTo s fd ⟨[u],[]⟩ [(x,u)]) /\
    ∀base:Heap,(K w.params).In base->base.Ns mainGlobals mg->gz l.prog w (K w.params) mg base (CX w) k fa fd [x] (sp w))
  (hsp:∀(w:World) (H:Hp) (a:Addr) (ns:List Int),ns.length≤n->FC H->fq (K w.params) H a (ns.map V.int)->sp w [.ref a] H (fun v _=>v=.bl true) fun _ _ _=>False)
  (hCX:∀(w:World) (H:Hp) (s:Shared) (e:Value) (s':Shared),CX w [] H s (fun _ _ _=>False) e s'->False):
  PySem.W.WalkO q loose XP YP l.row.toRowW d [] (fun f vs=>PySem.call f vs):=by
 refine Att.um hn hdf fun w Y8 s₁ mg mb fa o pm cd doc a vs ns G Y ho hd hcd hmg hobj hints hlen hg=>?_
 have KX:=hY w _ Y
 obtain⟨fd,hb,hF⟩:=F w mg fa _ KX G.T.g hmg
 exact Bu KX G.T.g G.T.b G.T.builtins G.T.nolimit hg hobj hints (Nat.le_trans hlen hn2) hr hF hb (fun H hO hS=>hsp w H a ns hlen hO hS) fun H e s'=>hCX w H s₁ e s'
end L2
/- THE LAST THEOREM (shape;LID,My.* are yours):
   My.Adr: a structure of the addresses that your layer names (classes,functions);My.Txt K t: a structure (Prop) of the equations over K;
   My.txt_mk:{K} {implicit addresses ..} (e1:nsIn K mainGlobals "law" = some (some (.ref f))) (e2:K.lookup f=some ⟨oc,od,.func (fnOf "law" "law" params body scope dV kV doc pm an cdv ct),sl⟩) (e3:codeIn K cdv "law" = true) .. : ∃t,My.Txt K t
set_option maxRecDepth 100000 in
set_option maxHeartbeats 0 in
theorem PySem.Challenge.cw_LID_holds : PySem.Challenge.rw_LID.Holds := by
 w_on;o_law;k_head;(case hw=>w_witness2)
 k_fill
 refine L2.zE (l:=PySem.Challenge.rw_LID) (n:=63) (k:=40) (x := "script") (CX:=fun w=>..) (sp:=fun _=>My.sp_law) rfl (by decide) rfl ⟨rfl,by decide,by decide⟩ (fun w h Y=>PySem.W.kIn_of Y) ?F ?S ?C
 case F =>
  intro w mg fa h KX G hmg
  have T:∃t,My.Txt (L2.KOf KX) t:=by
   dsimp only [L2.KOf] -- K must stand as «<heap const> w.params» for k_is
   refine' My.txt_mk ?e1 ?e2 ?e3 ..
   (case e1=>PySem.W.k_is) -- in the order: a name->its address->its object->its parts
   (case e2=>PySem.W.k_is)
   ..
  obtain⟨t,T⟩:=T
  have e0:=hmg.symm.trans (PySem.W.mg_of KX G T.law)
  cases e0 -- fa is the law's own address
  exact⟨_,fun s u=>.of_eq rfl,fun base kb nb=>My.law_fn T kb nb⟩ -- if «.of_eq rfl» comes too early: refine' ⟨_,?b,fun base kb nb=>My.law_fn T kb nb⟩;exact fun s u=>.of_eq rfl
 case S=>exact fun w H a ns hl hO hS=>..
 case C=>exact ..
(the tactic k_is has no namespace: write k_is) -/
namespace L2
open PySem PySem.Spec PyProof.Rows
def inClass (s:Stmt)(j:Nat):Stmt:=match s with
 | .ClassDef _ _ _ body _ _ _ _ _ _ _=>body.getD j (.Pass ⟨0,0,0,0⟩)
 |_=>.Pass ⟨0,0,0,0⟩
def iV (s:Stmt):Arguments:=match s with
 | .FunctionDef _ a _ _ _ _ _ _ _ _=>a
 |_=>{ posonlyargs:=[],args:=[],vararg:=none,kwonlyargs:=[],kw_defaults:=[],kwarg:=none,defaults:=[] }
def dP (s:Stmt):List Stmt:=match s with
 | .FunctionDef _ _ b _ _ _ _ _ _ _=>b
 |_=>[]
def ay (s:Stmt):Scope:=match s with
 | .FunctionDef _ _ _ _ _ _ sc _ _ _=>sc
 |_=>{ kind:=.function,names:=[],isGenerator:=false,isCoroutine:=false }
abbrev pG:ya:=fun _ _ _ _ _ _=>False
abbrev E0:XK:=fun _ _ _=>False
theorem vp {X:Cx}:Passes pG X E0:=fun _ _ _ _ _ _ _ h=>h.elim
structure eR (K:PySem.W.Frag)(x qual:Str)(st:Stmt)(f:Addr)(fd:FuncData):Prop where
 ex:∃(oc:Value) (od:Option Addr) (kV doc pm:Value) (an:Option Addr) (cdv ct:Value) (osl:Array (Option Value)),
  fd=PySem.W.fnOf x qual (iV st) (dP st) (ay st) .none kV doc pm an cdv ct/\K.lookup f=some ⟨oc,od,.func fd,osl⟩/\PySem.W.codeIn K cdv qual=true
 kp:PySem.W.keepIn K (.ref f)=true
section
variable {P:Program}{w:World}{K:PySem.W.Frag}{mg:Str->Option Value}{base:Heap}
theorem eR.ok {x qual:Str}{st:Stmt}{f:Addr}{fd:FuncData}{N ps:List Str}{k:Nat}{sp:Sp}(F:eR K x qual st f fd)(S:aO N ps (ay st))(len:∀vs H Q E,sp vs H Q E->vs.length=ps.length)
  (hbody:∀(cdv:Value) (A:Around) (outer:List Env) (s:Shared) (H:Hp) (vs:List V) (Q:VK) (E:XK),dG k (A.deeper (envOfC qual (ay st) s.heap.objs.size f cdv))->sp vs H Q E ->
   ∃t,kP (nV pG P w K mg base N qual (ay st) f cdv A outer s H E).nox (dP st) t/\t { nx:=fun _ H'=>Q .non H',rt:=Q } (start N vs) H):gz P w K mg base pG (k+1) f fd ps sp:=by
 obtain⟨oc,od,kV,doc,pm,an,cdv,ct,osl,rfl,lk,hcd⟩:=F.ex
 refine Jm lk hcd S len fun A outer s H vs Q E hr hsp=>?_
 obtain⟨t,h,q⟩:=hbody cdv A outer s H vs Q E hr hsp
 exact⟨t,h.nox,q⟩
theorem eR.binds {x qual:Str}{st:Stmt}{f:Addr}{fd:FuncData}{ps:List Str}(F:eR K x qual st f fd)
  (h:∀(kV doc pm:Value) (an:Option Addr) (cdv ct:Value) (us:List Value),us.length=ps.length->bindArgs (PySem.W.fnOf x qual (iV st) (dP st) (ay st) .none kV doc pm an cdv ct) ⟨us,[]⟩=pure (ps.zip us)):Binds K fd ps []:=by
 obtain⟨oc,od,kV,doc,pm,an,cdv,ct,osl,rfl,lk,hcd⟩:=F.ex
 exact .all (h kV doc pm an cdv ct)
theorem Gx {x qual:Str}{st:Stmt}{f:Addr}{oc:Value}{od an:Option Addr}{osl:Array (Option Value)}{kV doc pm cdv ct:Value}(l:K.lookup f=some ⟨oc,od,.func (PySem.W.fnOf x qual (iV st) (dP st) (ay st) .none kV doc pm an cdv ct),osl⟩)
  (c:PySem.W.codeIn K cdv qual=true) (k:PySem.W.keepIn K (.ref f)=true):eR K x qual st f (PySem.W.fnOf x qual (iV st) (dP st) (ay st) .none kV doc pm an cdv ct):=⟨⟨oc,od,kV,doc,pm,an,cdv,ct,osl,rfl,l,c⟩,k⟩
end
theorem cY {n:Nat}(h:n≤1000):n<sizeLine:=Nat.lt_of_le_of_lt h (by decide)
section
variable {X:Cx}
theorem pv (i:Nat){x:Str}{pos:Pos}(hN:X.N[i]? = some x:=by rfl)(hv:Iv X.env.scope x:=by first | exact Or.inl rfl | exact Or.inr (Or.inl rfl) | exact Or.inr (Or.inr rfl))(hd:(x == ("__debug__" : Str))=false:=by decide)
  (hcd:(x == ("__classdict__" : Str))=false:=by decide):PE X (.Name x pos) (jn i):=G8 hN hv hd hcd
end
def aW (H H':Hp):Prop:=∀b o,H b=some o->H' b=some o
theorem aW.refl (H:Hp):aW H H:=fun _ _ h=>h
theorem aW.trans {H H1 H2:Hp}(a:aW H H1)(b:aW H1 H2):aW H H2:=fun c o h=>b c o (a c o h)
theorem aW.free {H H':Hp}(e:aW H H'){l:Addr}(h:H' l=Option.none):H l=Option.none:=by
 cases q:H l with
 |none=>rfl
 |some o =>
  rw [e l o q] at h
  cases h
theorem aW.seq {K:PySem.W.Frag}{H H':Hp}{a:Addr}{xs:List V}(e:aW H H')(h:fq K H a xs):fq K H' a xs:=by
 rcases h with (h | ⟨o,h⟩) | h
 ·exact .inl (.inl (e _ _ h))
 ·exact .inl (.inr ⟨o,e _ _ h⟩)
 ·exact .inr h
section
variable {M:Model}{A:Around}{E:Value->Shared->Prop}{s:Shared}{bs:Heap}{env:Env}{out:List Env}{L e:Addr}{a0 fl:Value}{oe:Obj}{vs:Array Value}{Q:Unit->Shared->Prop}
end
section
variable {X:Cx}{pins:List (Addr×Obj)}{σ:St}{H:Hp}{s:Shared}{C:Addr}{up:List Addr}{x:Str}{np cpos pos:Pos}{e:Expr}{t:TA}
end
section
variable {X:Cx}{pins:List (Addr×Obj)}{σ:St}{H H0:Hp}{s s':Shared}{C a:Addr}{od:Option Addr}{h1 h' B:Heap}
end
section
variable {X:Cx}{pins:List (Addr×Obj)}{σ:St}{H H0:Hp}{s s':Shared}{C D a:Addr}{od:Option Addr}{h1 h' B:Heap}
def Im (a C:Addr)(od:Option Addr):Heap->Prop:=fun h=>∃oe vs,h.get? a=some oe/\oe.cls=.ref C/\oe.data=.fields vs/\oe.dict=od
end
section
variable {X:Cx}{pins:List (Addr×Obj)}{σ:St}{H:Hp}{s' s5:Shared}{C D a:Addr}{od:Option Addr}{bC bD:List Value}{iC iD:Option Value}{e:Value}{i:Nat}{n x:Str}{Y6:Stmt}{suite:List Stmt}{np pos:Pos}{Dn:Ends}{E:Value->Shared->Prop}{hs:List ExceptHandler}
end
section
variable {prog:Program}{w:World}{A:Around}{E:Value->Shared->Prop}{h:Heap}{g:Array GenState}{d:Drawn}{t:Nat}{os:OsState}{a C:Addr}{o:Obj}{K:PySem.W.Frag}{bm:List Value}
end
open Builtin Builtin.ObjectAttr
section
variable {prog:Program}{w:World}{A:Around}{E:Value->Shared->Prop}{s:Shared}{K:PySem.W.Frag}{x C:Addr}{ox:Obj}{od:Option Obj}{name:Str}{tk:Tok}{v:Value}{R:Result->Shared->Prop}
end
section
variable {X:Cx}{pins:List (Addr×Obj)}{σ:St}{H:Hp}{s:Shared}{a C:Addr}{f:Str}
end
end L2
namespace TM
open PySem PySem.Spec PyProof.Rows L2
inductive T where
 |non | bl (b:Bool) | int (i:Int) | str (x:Str) | ty (n:String) | tup (ts:List T) | lst (ts:List T) | scr (ts:List T) | dic | obj (C:Addr) (ns:List Str) (ts:List T) | ptr (a:Addr) | exc (C:Addr) (ns:List Str) (ts:List T)
mutual
def Rep (K:PySem.W.Frag)(F:Hp):T->V->Prop
 | .non,v=>v=.non
 | .bl b,v=>v=.bl b
 | .int i,v=>v=.int i
 | .str x,v=>v=.str x
 | .ty n,v=>v=.ty n
 | .tup ts,v=>∃a xs,v=.ref a/\kQ K F a xs/\aX K F ts xs
 | .lst ts,v=>∃a xs,v=.ref a/\F a=some (.lst xs)/\aX K F ts xs
 | .scr ts,v=>∃a xs,v=.ref a/\fq K F a xs/\aX K F ts xs
 | .dic,v=>∃a,v=.ref a/\F a=some (.dK [])
 | .obj C ns ts,v=>∃a dx vs,v=.ref a/\F a=some (.ins C dx (ns.zip vs))/\vs.length=ns.length/\aX K F ts vs
 | .ptr a,v=>v=.ref a
 | .exc C ns ts,v=>∃a od,v=.ref a/\F a=some (.ext (Im a C od))/\((ns=[]/\ts=[]/\od=none)\/∃d us,od=some d/\F d=some (.xd (ns.zip us))/\us.length=ns.length/\aX K F ts us)
def aX (K:PySem.W.Frag)(F:Hp):List T->List V->Prop
 |[],xs=>xs=[]
 |t::ts,xs=>∃v r,xs=v::r/\Rep K F t v/\aX K F ts r
end
theorem cm {K:PySem.W.Frag}{H H':Hp}{a:Addr}{xs:List V}(e:aW H H')(h:kQ K H a xs):kQ K H' a xs:=by
 rcases h with (h | ⟨o,h⟩) | h
 ·exact .inl (.inl (e _ _ h))
 ·exact .inl (.inr ⟨o,e _ _ h⟩)
 ·exact .inr h
mutual
theorem Rep.mono {K:PySem.W.Frag}{F F':Hp}(e:aW F F'):∀{t:T} {v:V},Rep K F t v->Rep K F' t v
 | .non,_,h=>h
 | .bl _,_,h=>h
 | .int _,_,h=>h
 | .str _,_,h=>h
 | .ty _,_,h=>h
 | .tup ts,_,h=>by
  obtain⟨a,xs,h1,h2,h3⟩:=h
  exact⟨a,xs,h1,cm e h2,aX.mono e h3⟩
 | .lst ts,_,h=>by
  obtain⟨a,xs,h1,h2,h3⟩:=h
  exact⟨a,xs,h1,e _ _ h2,aX.mono e h3⟩
 | .scr ts,_,h=>by
  obtain⟨a,xs,h1,h2,h3⟩:=h
  exact⟨a,xs,h1,e.seq h2,aX.mono e h3⟩
 | .dic,_,h=>by
  obtain⟨a,h1,h2⟩:=h
  exact⟨a,h1,e _ _ h2⟩
 | .obj C ns ts,_,h=>by
  obtain⟨a,dx,vs,h1,h2,h3,h4⟩:=h
  exact⟨a,dx,vs,h1,e _ _ h2,h3,aX.mono e h4⟩
 | .ptr _,_,h=>h
 | .exc _ _ ts,_,h=>by
  obtain⟨a,od,h1,h2,h3⟩:=h
  refine⟨a,od,h1,e _ _ h2,h3.imp id fun⟨d,us,k1,k2,k3,k4⟩=>⟨d,us,k1,e _ _ k2,k3,aX.mono e k4⟩⟩
theorem aX.mono {K:PySem.W.Frag}{F F':Hp}(e:aW F F'):∀{ts:List T} {vs:List V},aX K F ts vs->aX K F' ts vs
 |[],_,h=>h
 |t::ts,_,h=>by
  obtain⟨v,r,h1,h2,h3⟩:=h
  exact⟨v,r,h1,Rep.mono e h2,aX.mono e h3⟩
end
section
variable {K:PySem.W.Frag}{F:Hp}
theorem aX.length:∀{ts:List T} {vs:List V},aX K F ts vs->vs.length=ts.length
 |[],_,h=>by cases h;rfl
 |t::ts,_,h=>by
  obtain⟨v,r,rfl,h2,h3⟩:=h
  simp [aX.length h3]
theorem aX.get:∀{ts:List T} {vs:List V} {i:Nat} {t:T},aX K F ts vs->ts[i]? = some t->∃v,vs[i]? = some v/\Rep K F t v
 |[],_,_,_,h,e=>by simp at e
 |t::ts,_,0,_,h,e=>by
  obtain⟨v,r,rfl,h2,h3⟩:=h
  simp at e;subst e
  exact⟨v,rfl,h2⟩
 |t::ts,_,i+1,u,h,e=>by
  obtain⟨v,r,rfl,h2,h3⟩:=h
  obtain⟨w,h4,h5⟩:=aX.get (i:=i) (t:=u) h3 (by simpa using e)
  exact⟨w,by simpa using h4,h5⟩
theorem aX.append:∀{ts us:List T} {vs ws:List V},aX K F ts vs->aX K F us ws->aX K F (ts++us) (vs++ws)
 |[],_,_,_,h,h'=>by cases h;exact h'
 |t::ts,_,_,_,h,h'=>by
  obtain⟨v,r,rfl,h2,h3⟩:=h
  exact⟨v,r++_,rfl,h2,aX.append h3 h'⟩
theorem aX.one (h:Rep K F t v):aX K F [t] [v]:=⟨v,[],rfl,h,rfl⟩
theorem aX.take:∀{ts:List T} {vs:List V} (n:Nat),aX K F ts vs->aX K F (ts.take n) (vs.take n)
 |_,_,0,_=>rfl
 |[],_,n+1,h=>by cases h;rfl
 |t::ts,_,n+1,h=>by
  obtain⟨v,r,rfl,h2,h3⟩:=h
  exact⟨v,r.take n,rfl,h2,aX.take n h3⟩
theorem aX.drop:∀{ts:List T} {vs:List V} (n:Nat),aX K F ts vs->aX K F (ts.drop n) (vs.drop n)
 |_,_,0,h=>h
 |[],_,n+1,h=>by cases h;rfl
 |t::ts,_,n+1,h=>by
  obtain⟨v,r,rfl,h2,h3⟩:=h
  exact aX.drop n h3
theorem qH:∀ns:List Int,aX K F (ns.map T.int) (ns.map V.int)
 |[]=>rfl
 |n::ns=>⟨.int n,ns.map V.int,rfl,rfl,qH ns⟩
end
structure bB (F H F' H':Hp):Prop where
 sF:aW F F'
 sH:aW H H'
 fh:aW F' H'
 nw:∀a o,F' a=some o->F a=some o\/H a=none
theorem bB.refl (h:aW F H):bB F H F H:=⟨aW.refl _,aW.refl _,h,fun _ _ e=>.inl e⟩
theorem bB.trans (a:bB F H F1 H1)(b:bB F1 H1 F2 H2):bB F H F2 H2:=
 ⟨a.sF.trans b.sF,a.sH.trans b.sH,b.fh,fun x o e=>by
  rcases b.nw x o e with e | e
  ·exact a.nw x o e
  ·exact .inr (a.sH.free e)⟩
theorem dA {H:Hp}(h:H p=none):aW H (upd H p o):=fun b u q=>by rw [aP (bz q h)];exact q
theorem bB.new (o:HO)(h:aW F H)(n:H p=none):bB F H (upd F p o) (upd H p o):=by
 refine⟨dA (h.free n),dA n,fun b u q=>?_,fun a u q=>?_⟩
 ·by_cases e:b=p
  ·subst e;rw [bo] at q ⊢;exact q
  ·rw [aP e] at q ⊢;exact h _ _ q
 ·by_cases e:a=p
  ·subst e;exact .inr n
  ·rw [aP e] at q;exact .inl q
inductive Sl where
 |sh (t:T) | own (ts:List T)
abbrev aI:=List (Option Sl)
def vS (K:PySem.W.Frag)(Y9 F H:Hp):Sl->V->Prop
 | .sh t,v=>Rep K F t v
 | .own ts,v=>∃p vs,v=.ref p/\H p=some (.lst vs)/\F p=none/\Y9 p=none/\aX K F ts vs
structure aL (K:PySem.W.Frag)(Y0 Y9 F H:Hp)(σ:L2.St)(τ:aI):Prop where
 g:bB Y0 Y9 F H
 len:σ.length=τ.length
 sl:∀(i:Nat) (s:Sl),τ[i]? = some (some s)->∃v,σ[i]? = some (some v)/\vS K Y9 F H s v
 dj:∀(i j:Nat) (ts us:List T) (p:Addr),i≠j->τ[i]? = some (some (.own ts))->τ[j]? = some (some (.own us))->σ[i]? = some (some (.ref p))->σ[j]?≠some (some (.ref p))
section
variable {K:PySem.W.Frag}{Y0 Y9 F H F' H':Hp}{σ:L2.St}{τ:aI}
theorem vS.grow (g:bB F H F' H')(h:vS K Y9 F H s v):vS K Y9 F' H' s v:=by
 cases s with
 |sh t=>exact Rep.mono g.sF h
 |own ts =>
  obtain⟨p,vs,h1,h2,h3,h4,h5⟩:=h
  refine⟨p,vs,h1,g.sH _ _ h2,?_,h4,aX.mono g.sF h5⟩
  cases e:F' p with
  |none=>rfl
  |some o =>
   rcases g.nw p o e with q | q
   ·rw [q] at h3;cases h3
   ·rw [q] at h2;cases h2
theorem aL.grow (E:aL K Y0 Y9 F H σ τ)(g:bB F H F' H'):aL K Y0 Y9 F' H' σ τ:=by
 refine⟨E.g.trans g,E.len,fun i s e=>?_,E.dj⟩
 obtain⟨v,h1,h2⟩:=E.sl i s e
 exact⟨v,h1,h2.grow g⟩
theorem aL.set {i:Nat}(E:aL K Y0 Y9 F H σ τ)(r:Rep K F t v):aL K Y0 Y9 F H (σ.set i (some v)) (τ.set i (some (.sh t))):=by
 refine⟨E.g,by simp [E.len],fun j s e=>?_,fun j k ts us p hjk e1 e2 e3=>?_⟩
 ·by_cases hj:i=j
  ·subst hj
   by_cases hl:i<τ.length
   ·rw [List.getElem?_set_self hl] at e
    cases e
    exact⟨v,List.getElem?_set_self (by rw [E.len];exact hl),r⟩
   ·rw [List.getElem?_eq_none (by simp;omega)] at e;cases e
  ·rw [List.getElem?_set_ne hj] at e
   rw [List.getElem?_set_ne hj]
   exact E.sl j s e
 ·have n1:i≠j:=fun z=>by
   subst z
   by_cases hl:i<τ.length
   ·rw [List.getElem?_set_self hl] at e1;cases e1
   ·rw [List.getElem?_eq_none (by simp;omega)] at e1;cases e1
  have n2:i≠k:=fun z=>by
   subst z
   by_cases hl:i<τ.length
   ·rw [List.getElem?_set_self hl] at e2;cases e2
   ·rw [List.getElem?_eq_none (by simp;omega)] at e2;cases e2
  rw [List.getElem?_set_ne n1] at e1 e3
  rw [List.getElem?_set_ne n2] at e2 ⊢
  exact E.dj j k ts us p hjk e1 e2 e3
theorem aL.freeze {i:Nat}(E:aL K Y0 Y9 F H σ τ)(e:τ[i]? = some (some (.own ts))):
  ∃F' v,σ[i]? = some (some v)/\aL K Y0 Y9 F' H σ (τ.set i (some (.sh (.lst ts))))/\aW F F'/\Rep K F' (.lst ts) v:=by
 obtain⟨v,h1,p,vs,rfl,h2,h3,h4,h5⟩:=E.sl i _ e
 have sF:aW F (upd F p (.lst vs)):=dA h3
 have rp:Rep K (upd F p (.lst vs)) (.lst ts) (.ref p):=⟨p,vs,rfl,bo,aX.mono sF h5⟩
 refine⟨upd F p (.lst vs),.ref p,h1,⟨⟨E.g.sF.trans sF,E.g.sH,fun b o q=>?_,fun b o q=>?_⟩,by simp [E.len],fun j s q=>?_,fun j k us ws r hjk e1 e2 e3=>?_⟩,sF,rp⟩
 ·by_cases z:b=p
  ·subst z;rw [bo] at q;cases q;exact h2
  ·rw [aP z] at q;exact E.g.fh _ _ q
 ·by_cases z:b=p
  ·subst z;exact .inr h4
  ·rw [aP z] at q;exact E.g.nw _ _ q
 ·by_cases hj:i=j
  ·subst hj
   have hl:i<τ.length:=by
    have:=(List.getElem?_eq_some_iff.mp e).1
    exact this
   rw [List.getElem?_set_self hl] at q
   cases q
   exact⟨_,h1,rp⟩
  ·rw [List.getElem?_set_ne hj] at q
   obtain⟨v,g1,g2⟩:=E.sl j s q
   refine⟨v,g1,?_⟩
   cases s with
   |sh t=>exact Rep.mono sF g2
   |own us =>
    obtain⟨r,ws,rfl,k2,k3,k4,k5⟩:=g2
    have hne:r≠p:=fun z=>by
     subst z
     exact E.dj i j ts us r hj e q h1 g1
    exact⟨r,ws,rfl,k2,by rw [aP hne];exact k3,k4,aX.mono sF k5⟩
 ·have hl:i<τ.length:=(List.getElem?_eq_some_iff.mp e).1
  have n1:i≠j:=fun z=>by subst z;rw [List.getElem?_set_self hl] at e1;cases e1
  have n2:i≠k:=fun z=>by subst z;rw [List.getElem?_set_self hl] at e2;cases e2
  rw [List.getElem?_set_ne n1] at e1
  rw [List.getElem?_set_ne n2] at e2
  exact E.dj j k us ws r hjk e1 e2 e3
theorem aL.setOwn {i:Nat}(E:aL K Y0 Y9 F H σ τ)(n:H p=none)(r:aX K F ts vs):aL K Y0 Y9 F (upd H p (.lst vs)) (σ.set i (some (.ref p))) (τ.set i (some (.own ts))):=by
 have sH:aW H (upd H p (.lst vs)):=dA n
 have fp:F p=none:=E.g.fh.free n
 have old:∀{j:Nat} {s:Sl},i≠j->τ[j]? = some (some s)->∃v,σ[j]? = some (some v)/\vS K Y9 F (upd H p (.lst vs)) s v:=fun {j s} hj q=>by
  obtain⟨v,g1,g2⟩:=E.sl j s q
  refine⟨v,g1,?_⟩
  cases s with
  |sh t=>exact g2
  |own us =>
   obtain⟨r,ws,rfl,k2,k3,k4,k5⟩:=g2
   exact⟨r,ws,rfl,sH _ _ k2,k3,k4,k5⟩
 refine⟨⟨E.g.sF,E.g.sH.trans sH,E.g.fh.trans sH,E.g.nw⟩,by simp [E.len],fun j s e=>?_,fun j k ts' us q hjk e1 e2 e3 e4=>?_⟩
 ·by_cases hj:i=j
  ·subst hj
   by_cases hl:i<τ.length
   ·rw [List.getElem?_set_self hl] at e
    cases e
    exact⟨.ref p,List.getElem?_set_self (by rw [E.len];exact hl),p,vs,rfl,bo,fp,E.g.sH.free n,r⟩
   ·rw [List.getElem?_eq_none (by simp;omega)] at e;cases e
  ·rw [List.getElem?_set_ne hj] at e
   rw [List.getElem?_set_ne hj]
   exact old hj e
 ·by_cases hj:i=j
  ·subst hj
   have n2:i≠k:=hjk
   rw [List.getElem?_set_ne n2] at e2 e4
   by_cases hl:i<τ.length
   ·rw [List.getElem?_set_self (by rw [E.len];exact hl)] at e3
    cases e3
    obtain⟨v,g1,r',ws,rfl,k2,_⟩:=E.sl k _ e2
    rw [g1] at e4;cases e4
    rw [n] at k2;cases k2
   ·rw [List.getElem?_eq_none (by simp;omega)] at e1;cases e1
  ·rw [List.getElem?_set_ne hj] at e1 e3
   by_cases hk:i=k
   ·subst hk
    by_cases hl:i<τ.length
    ·rw [List.getElem?_set_self (by rw [E.len];exact hl)] at e4
     cases e4
     obtain⟨v,g1,r',ws,rfl,k2,_⟩:=E.sl j _ e1
     rw [g1] at e3;cases e3
     rw [n] at k2;cases k2
    ·rw [List.getElem?_eq_none (by simp;omega)] at e2;cases e2
   ·rw [List.getElem?_set_ne hk] at e2 e4
    exact E.dj j k ts' us q hjk e1 e2 e3 e4
theorem aL.turnOwn {i:Nat}(E:aL K Y0 Y9 F H σ τ)(e:τ[i]? = some (some (.own ts)))(hp:σ[i]? = some (some (.ref p)))(r:aX K F us vs):
  aL K Y0 Y9 F (upd H p (.lst vs)) σ (τ.set i (some (.own us))):=by
 obtain⟨v,h1,p',vs',rfl,h2,h3,h4,h5⟩:=E.sl i _ e
 rw [hp] at h1;cases h1
 have hl:i<τ.length:=(List.getElem?_eq_some_iff.mp e).1
 refine⟨⟨E.g.sF,fun b o q=>?_,fun b o q=>?_,E.g.nw⟩,by simp [E.len],fun j s q=>?_,fun j k ts' us' q hjk e1 e2 e3=>?_⟩
 ·rw [aP (fun z=>by subst z;rw [h4] at q;cases q)];exact E.g.sH _ _ q
 ·rw [aP (fun z=>by subst z;rw [h3] at q;cases q)];exact E.g.fh _ _ q
 ·by_cases hj:i=j
  ·subst hj
   rw [List.getElem?_set_self hl] at q;cases q
   exact⟨_,hp,p,vs,rfl,bo,h3,h4,r⟩
  ·rw [List.getElem?_set_ne hj] at q
   obtain⟨v,g1,g2⟩:=E.sl j s q
   refine⟨v,g1,?_⟩
   cases s with
   |sh t=>exact g2
   |own us' =>
    obtain⟨r',ws,rfl,k2,k3,k4,k5⟩:=g2
    have hne:r'≠p:=fun z=>by subst z;exact E.dj i j ts us' r' hj e q hp g1
    exact⟨r',ws,rfl,by rw [aP hne];exact k2,k3,k4,k5⟩
 ·have q1:∃zs,τ[j]? = some (some (.own zs)):=by
   by_cases hj:i=j
   ·subst hj;exact⟨_,e⟩
   ·rw [List.getElem?_set_ne hj] at e1;exact⟨_,e1⟩
  have q2:∃zs,τ[k]? = some (some (.own zs)):=by
   by_cases hj:i=k
   ·subst hj;exact⟨_,e⟩
   ·rw [List.getElem?_set_ne hj] at e2;exact⟨_,e2⟩
  obtain⟨z1,q1⟩:=q1
  obtain⟨z2,q2⟩:=q2
  exact E.dj j k z1 z2 q hjk q1 q2 e3
end
abbrev FE:=aI->Option (T×aI)
abbrev FA:=aI->Option (List T×aI)
abbrev FT:=aI->Option (Bool×aI)
inductive R where
 |nx (τ:aI) | rt (t:T) | bk (τ:aI) | ct (τ:aI)
abbrev FS:=aI->Option R
abbrev FG:=T->aI->Option aI
section
variable (K:PySem.W.Frag)(Y0 Y9:Hp)
def tE (f:FE):TE:=fun σ H Q=>∃F τ t τ',aL K Y0 Y9 F H σ τ/\f τ=some (t,τ')/\∀F' H' v,aL K Y0 Y9 F' H' σ τ'->aW F F'->Rep K F' t v->Q v H'
def tA (f:FA):TA:=fun σ H Q=>∃F τ ts τ',aL K Y0 Y9 F H σ τ/\f τ=some (ts,τ')/\∀F' H' vs,aL K Y0 Y9 F' H' σ τ'->aW F F'->aX K F' ts vs->Q vs H'
def tT (f:FT):TT:=fun σ H Q=>∃F τ b τ',aL K Y0 Y9 F H σ τ/\f τ=some (b,τ')/\∀F' H',aL K Y0 Y9 F' H' σ τ'->aW F F'->Q b H'
def qY (F:Hp)(D:Ends):R->Prop
 | .nx τ'=>∀F' H' σ',aL K Y0 Y9 F' H' σ' τ'->aW F F'->D.nx σ' H'
 | .rt t=>∀F' H' v,bB Y0 Y9 F' H'->Rep K F' t v->D.rt v H'
 | .bk τ'=>∀F' H' σ',aL K Y0 Y9 F' H' σ' τ'->aW F F'->D.bk σ' H'
 | .ct τ'=>∀F' H' σ',aL K Y0 Y9 F' H' σ' τ'->aW F F'->D.ct σ' H'
def tS (f:FS):TS:=fun D σ H=>∃F τ r,aL K Y0 Y9 F H σ τ/\f τ=some r/\qY K Y0 Y9 F D r
end
def SE (X:Cx)(e:Expr)(f:FE):Prop:=∀Y0 Y9,PE X e (tE X.K Y0 Y9 f)
def SA (X:Cx)(es:List Expr)(f:FA):Prop:=∀Y0 Y9,PA X es (tA X.K Y0 Y9 f)
def ST (X:Cx)(e:Expr)(f:FT):Prop:=∀Y0 Y9,PT X e (tT X.K Y0 Y9 f)
def SW (X:Cx)(e:Expr)(f:FT):Prop:=∀Y0 Y9,PW X e (tT X.K Y0 Y9 f)
def SS (X:Cx)(st:Stmt)(f:FS):Prop:=∀Y0 Y9,PS X st (tS X.K Y0 Y9 f)
def ui (X:Cx)(st:List Stmt)(f:FS):Prop:=∀Y0 Y9,kP X st (tS X.K Y0 Y9 f)
section
variable {X:Cx}{e a b:Expr}{pos:Pos}{f fa fb:FE}
theorem PE.weak {t t':TE}(h:PE X e t)(i:∀σ H Q,t' σ H Q->t σ H Q):PE X e t':=fun pins s σ H Q I q=>h pins s σ H Q I (i σ H Q q)
theorem PT.weak {t t':TT}(h:PT X e t)(i:∀σ H Q,t' σ H Q->t σ H Q):PT X e t':=fun pins s σ H Q I q=>h pins s σ H Q I (i σ H Q q)
theorem PW.weak {t t':TT}(h:PW X e t)(i:∀σ H Q,t' σ H Q->t σ H Q):PW X e t':=fun wh pins s σ H Q I q=>h wh pins s σ H Q I (i σ H Q q)
theorem PA.weak {t t':TA}(h:PA X es t)(i:∀σ H Q,t' σ H Q->t σ H Q):PA X es t':=fun p pins s σ H Q I q=>h p pins s σ H Q I (i σ H Q q)
theorem PS.weak {st:Stmt}{t t':TS}(h:PS X st t)(i:∀D σ H,t' D σ H->t D σ H):PS X st t':=fun pins s σ H D I q=>h pins s σ H D I (i D σ H q)
theorem kP.weak {st:List Stmt}{t t':TS}(h:kP X st t)(i:∀D σ H,t' D σ H->t D σ H):kP X st t':=fun pins s σ H D I q=>h pins s σ H D I (i D σ H q)
def fC (t:T):FE:=fun τ=>some (t,τ)
def ag (i:Nat):FE:=fun τ=>match τ[i]? with
 |some (some (.sh t))=>some (t,τ)
 |some (some (.own ts))=>some (.lst ts,τ.set i (some (.sh (.lst ts))))
 |_=>none
theorem gP (h:PE X e (tC v))(r:∀F,Rep X.K F t v):SE X e (fC t):=fun Y0 Y9=>PE.weak h fun σ H Q hq__=>by
 obtain⟨F,τ,t',τ',E,e1,q⟩:=hq__
 cases e1
 exact q F H v E (aW.refl _) (r F)
theorem aA {i:Int}{j}:SE X (.Constant (.int i) j pos) (fC (.int i)):=gP xm fun _=>rfl
theorem qK {c:Bool}{j}:SE X (.Constant (.bool c) j pos) (fC (.bl c)):=gP JR fun _=>rfl
theorem xF {j}:SE X (.Constant .none j pos) (fC .non):=gP G5 fun _=>rfl
theorem aa (i:Nat)(h:PE X (.Name x pos) (jn i)):SE X (.Name x pos) (ag i):=fun Y0 Y9=>PE.weak h fun σ H Q hq__=>by
 obtain⟨F,τ,t,τ',E,e1,q⟩:=hq__
 unfold ag at e1
 split at e1
 ·next t' e2 =>
  cases e1
  obtain⟨v,h1,h2⟩:=E.sl i _ e2
  exact⟨v,h1,q F H v E (aW.refl _) h2⟩
 ·next ts e2 =>
  cases e1
  obtain⟨F',v,h1,E',sF,r⟩:=E.freeze e2
  exact⟨v,h1,q F' H v E' sF r⟩
 ·cases e1
theorem jR (hg:Gl X x)(hm:X.mg x=none)(hv:bootBuiltins x=some (.type n))(hn:x≠"__name__" := by decide)(hd:(x == ("__debug__" : Str))=false:=by decide):SE X (.Name x pos) (fC (.ty n)):=
 gP (D1 (v:=.ty n) hg hm hv rfl hn hd) fun _=>rfl
def Ig (K:PySem.W.Frag)(g:T->T->Option T):R2:=fun x y H Q=>∃F a b t,aW F H/\Rep K F a x/\Rep K F b y/\g a b=some t/\∀F' H' v,bB F H F' H'->Rep K F' t v->Q v H'
def Mv (K:PySem.W.Frag)(g:T->Option T):V->Hp->VK->Prop:=fun x H Q=>∃F a t,aW F H/\Rep K F a x/\g a=some t/\∀F' H' v,bB F H F' H'->Rep K F' t v->Q v H'
def KC (K:PySem.W.Frag)(g:List T->Option T):List V->Hp->VK->Prop:=fun xs H Q=>∃F ts t,aW F H/\aX K F ts xs/\g ts=some t/\∀F' H' v,bB F H F' H'->Rep K F' t v->Q v H'
abbrev mZ (X:Cx)(f:Value->Value->Sem Value)(g:T->T->Option T):Prop:=pD X f (Ig X.K g)
abbrev LO (X:Cx)(f:Value->Sem Value)(g:T->Option T):Prop:=Kp X f (Mv X.K g)
abbrev kc (X:Cx)(f:Value)(g:List T->Option T):Prop:=gW X f (KC X.K g)
def aN (g:T->T->Option T)(fa fb:FE):FE:=fun τ=>(fa τ).bind fun p=>(fb p.2).bind fun q=>(g p.1 q.1).bind fun t=>some (t,q.2)
def n9 (g:T->Option T)(fa:FE):FE:=fun τ=>(fa τ).bind fun p=>(g p.1).bind fun t=>some (t,p.2)
theorem bind_some {α β:Type}{o:Option α}{f:α->Option β}{z:β}(h:o.bind f=some z):∃x,o=some x/\f x=some z:=by
 cases o with
 |none=>cases h
 |some x=>exact⟨x,rfl,h⟩
theorem nJ {g:T->T->Option T}{Y0 Y9:Hp}{σ:L2.St}{H:Hp}{Q:VK}(h:tE X.K Y0 Y9 (aN g fa fb) σ H Q):Ke (Ig X.K g) (tE X.K Y0 Y9 fa) (tE X.K Y0 Y9 fb) σ H Q:=by
 obtain⟨F,τ,t,τ',E,e1,q⟩:=h
 obtain⟨⟨x,τ1⟩,e2,e1⟩:=bind_some e1
 obtain⟨⟨y,τ2⟩,e3,e1⟩:=bind_some e1
 obtain⟨z,e4,e1⟩:=bind_some e1
 cases e1
 refine⟨F,τ,x,τ1,E,e2,fun F1 H1 v1 E1 s1 r1=>⟨F1,τ1,y,_,E1,e3,fun F2 H2 v2 E2 s2 r2=>?_⟩⟩
 exact⟨F2,x,y,t,E2.g.fh,Rep.mono s2 r1,r2,e4,fun F3 H3 v3 g3 r3=>q F3 H3 v3 (E2.grow g3) ((s1.trans s2).trans g3.sF) r3⟩
theorem aT (ho:mZ X (binaryOp op) g)(ha:SE X a fa)(hb:SE X b fb):SE X (.BinOp a op b pos) (aN g fa fb):=
 fun Y0 Y9=>PE.weak (JT ho (ha Y0 Y9) (hb Y0 Y9)) fun _ _ _=>nJ
theorem Fu {op:UnaryOp}{g:T->Option T}(ho:LO X (unaryOp op) g)(ha:SE X a fa):SE X (.UnaryOp op a pos) (n9 g fa):=
 fun Y0 Y9=>PE.weak (JU ho (ha Y0 Y9)) fun σ H Q hq__=>by
  obtain⟨F,τ,t,τ',E,e1,q⟩:=hq__
  obtain⟨⟨x,τ1⟩,e2,e1⟩:=bind_some e1
  obtain⟨z,e4,e1⟩:=bind_some e1
  cases e1
  exact⟨F,τ,x,_,E,e2,fun F1 H1 v1 E1 s1 r1=>⟨F1,x,t,E1.g.fh,r1,e4,fun F3 H3 v3 g3 r3=>q F3 H3 v3 (E1.grow g3) (s1.trans g3.sF) r3⟩⟩
theorem mD (ho:mZ X (compareOp op) g)(ha:SE X a fa)(hb:SE X b fb)(hm:behindInMarks op b=false):SE X (.Compare a [op] [b] pos) (aN g fa fb):=
 fun Y0 Y9=>PE.weak (D3 ho (ha Y0 Y9) (hb Y0 Y9) hm) fun _ _ _=>nJ
theorem bI (ho:HH X (Ig X.K g))(ha:SE X a fa)(hb:SE X b fb)(hs:rd b):SE X (.Subscript a b pos) (aN g fa fb):=
 fun Y0 Y9=>PE.weak (Fp ho (ha Y0 Y9) (hb Y0 Y9) hs) fun _ _ _=>nJ
def fG (f:FE):FT:=fun τ=>(f τ).bind fun p=>match p.1 with | .bl c=>some (c,p.2) | _=>none
def KI:T->Option Bool
 | .non=>some false
 | .bl c=>some c
 | .int i=>some (i != 0)
 | .str x=>if x.length≤sizeLine then some ((x.length:Int) != 0) else none
 | .tup ts=>some (!ts.isEmpty)
 | .lst ts=>some (!ts.isEmpty)
 | .scr ts=>some (!ts.isEmpty)
 | .dic=>some false
 | .obj _ _ _=>none
 | .ptr _=>none
 | .exc _ _ _=>none
 | .ty _=>none
def eG (f:FE):FT:=fun τ=>(f τ).bind fun p=>(KI p.1).bind fun c=>some (c,p.2)
theorem du {op:CmpOp}{g:T->T->Option T}(ho:mZ X (compareOp op) g)(ha:SE X a fa)(hb:SE X b fb)(hm:behindInMarks op b=false):ST X (.Compare a [op] [b] pos) (fG (aN g fa fb)):=
 fun Y0 Y9=>PT.weak (D7 ho (ha Y0 Y9) (hb Y0 Y9) hm) fun σ H Q hq__=>by
  obtain⟨F,τ,c,τ',E,e1,q⟩:=hq__
  obtain⟨⟨x,τ1⟩,e2,e1⟩:=bind_some e1
  dsimp only at e1
  split at e1
  ·cases e1
   refine nJ (Q:=fun x H'=>∃k,x=V.bl k/\Q k H') ⟨F,τ,_,_,E,e2,fun F' H' v E' s' r'=>?_⟩
   exact⟨c,r',q F' H' E' s'⟩
  ·cases e1
theorem ja {K:PySem.W.Frag}{F:Hp}{ts:List T}{vs:List V}(h:aX K F ts vs):vs.isEmpty=ts.isEmpty:=by
 cases ts with
 |nil=>cases h;rfl
 |cons t ts=>obtain⟨v,r,rfl,_⟩:=h;rfl
theorem EC {K:PySem.W.Frag}{F H:Hp}{t:T}{v:V}{c:Bool}(s:aW F H)(r:Rep K F t v)(e:KI t=some c):FF K v H c:=by
 cases t with
 |non=>cases r;cases e;exact rfl
 |bl _=>cases r;cases e;exact rfl
 |int _=>cases r;cases e;exact rfl
 |str x =>
  cases r
  simp only [KI] at e
  split at e
  ·next h=>cases e;exact⟨h,rfl⟩
  ·cases e
 |ty _=>cases e
 |tup ts =>
  obtain⟨p,xs,rfl,h1,h2⟩:=r
  cases e
  exact .inr (.inl ⟨xs,cm s h1,by rw [ja h2]⟩)
 |lst ts =>
  obtain⟨p,xs,rfl,h1,h2⟩:=r
  cases e
  exact .inl ⟨xs,fq.of (s _ _ h1),by rw [ja h2]⟩
 |scr ts =>
  obtain⟨p,xs,rfl,h1,h2⟩:=r
  cases e
  exact .inl ⟨xs,s.seq h1,by rw [ja h2]⟩
 |dic =>
  obtain⟨p,rfl,h1⟩:=r
  cases e
  exact .inr (.inr ⟨[],s _ _ h1,rfl⟩)
 |obj _ _ _=>cases e
 |ptr _=>cases e
 |exc _ _ _=>cases e
theorem iB (h:SE X e f)(he:∀whole,isTrue e X.env whole=(do let v <- whole;standAt e.pos;holding [v] (truthy v)):=by intro _;rfl):ST X e (eG f):=
 fun Y0 Y9=>PT.weak (B5 (h Y0 Y9) he) fun σ H Q hq__=>by
  obtain⟨F,τ,c,τ',E,e1,q⟩:=hq__
  obtain⟨⟨x,τ1⟩,e2,e1⟩:=bind_some e1
  obtain⟨z,e4,e1⟩:=bind_some e1
  cases e1
  exact⟨F,τ,x,_,E,e2,fun F1 H1 v1 E1 s1 r1=>⟨c,EC E1.g.fh r1 e4,q F1 H1 E1 s1⟩⟩
variable {ta tb:FT}{rest:List Expr}
def K6 (ta tb:FT):FT:=fun τ=>(ta τ).bind fun p=>if p.1=true then tb p.2 else some (false,p.2)
def ux (ta tb:FT):FT:=fun τ=>(ta τ).bind fun p=>if p.1=true then some (true,p.2) else tb p.2
def dQ (ta:FT):FT:=fun τ=>(ta τ).bind fun p=>some (!p.1,p.2)
theorem gR (h:ST X a ta):ST X (.UnaryOp .Not a pos) (dQ ta):=fun Y0 Y9=>PT.weak (Hj (h Y0 Y9)) fun σ H Q hq__=>by
 obtain⟨F,τ,c,τ',E,e1,q⟩:=hq__
 obtain⟨⟨x,τ1⟩,e2,e1⟩:=bind_some e1
 cases e1
 exact⟨F,τ,x,_,E,e2,fun F1 H1 E1 s1=>q F1 H1 E1 s1⟩
theorem pf (h:ST X a ta):SW X (.BoolOp .Or [a] pos) ta:=fun Y0 Y9=>Hk (h Y0 Y9)
theorem qN (ha:ST X a ta)(hb:SW X (.BoolOp .Or (b::rest) pos) tb):SW X (.BoolOp .Or (a::b::rest) pos) (ux ta tb):=fun Y0 Y9=>PW.weak (JW (ha Y0 Y9) (hb Y0 Y9)) fun σ H Q hq__=>by
 obtain⟨F,τ,c,τ',E,e1,q⟩:=hq__
 obtain⟨⟨x,τ1⟩,e2,e1⟩:=bind_some e1
 refine⟨F,τ,x,τ1,E,e2,fun F1 H1 E1 s1=>?_⟩
 dsimp only at e1
 split at e1
 ·next h=>rw [if_pos h];cases e1;exact q F1 H1 E1 s1
 ·next h=>rw [if_neg h];exact⟨F1,τ1,c,τ',E1,e1,fun F2 H2 E2 s2=>q F2 H2 E2 (s1.trans s2)⟩
theorem SW.st (h:SW X e ta):ST X e ta:=fun Y0 Y9=>(h Y0 Y9).pt
def eD (fa fb:FE):FE:=fun τ=>(fa τ).bind fun p=>match p.1 with | .bl true=>fb p.2 | .bl false=>some (.bl false,p.2) | _=>none
def K8 (fa fb:FE):FE:=fun τ=>(fa τ).bind fun p=>match p.1 with | .bl true=>some (.bl true,p.2) | .bl false=>fb p.2 | _=>none
def zQ:T->Option T
 | .bl c=>some (.bl (!c))
 |_=>none
theorem mE {op}(h:SE X a fa):SE X (.BoolOp op [a] pos) fa:=fun Y0 Y9=>G7 (h Y0 Y9)
theorem fL (ha:SE X a fa)(hb:SE X (.BoolOp .And (b::rest) pos) fb):SE X (.BoolOp .And (a::b::rest) pos) (eD fa fb):=fun Y0 Y9=>PE.weak (G2 (ha Y0 Y9) (hb Y0 Y9)) fun σ H Q hq__=>by
 obtain⟨F,τ,c,τ',E,e1,q⟩:=hq__
 obtain⟨⟨x,τ1⟩,e2,e1⟩:=bind_some e1
 dsimp only at e1
 refine⟨F,τ,x,τ1,E,e2,fun F1 H1 v E1 s1 r1=>?_⟩
 split at e1
 ·cases r1;exact⟨true,rfl,by rw [if_pos rfl];exact⟨F1,τ1,c,τ',E1,e1,fun F2 H2 v2 E2 s2=>q F2 H2 v2 E2 (s1.trans s2)⟩⟩
 ·cases r1;cases e1;exact⟨false,rfl,by rw [if_neg (by decide)];exact q F1 H1 _ E1 s1 rfl⟩
 ·cases e1
theorem Cc (ha:SE X a fa):SE X (.UnaryOp .Not a pos) (n9 zQ fa):=fun Y0 Y9=>PE.weak (G6 (ha Y0 Y9)) fun σ H Q hq__=>by
 obtain⟨F,τ,c,τ',E,e1,q⟩:=hq__
 obtain⟨⟨x,τ1⟩,e2,e1⟩:=bind_some e1
 obtain⟨z,e4,e1⟩:=bind_some e1
 cases e1
 refine⟨F,τ,x,_,E,e2,fun F1 H1 v E1 s1 r1=>?_⟩
 dsimp only at e4
 unfold zQ at e4
 split at e4
 ·cases r1;cases e4;exact⟨_,rfl,q F1 H1 _ E1 s1 rfl⟩
 ·cases e4
def HU (t:FT)(fa fb:FE):FE:=fun τ=>(t τ).bind fun p=>if p.1=true then fa p.2 else fb p.2
theorem J3 {c:Expr}(hc:ST X c ta)(ha:SE X a fa)(hb:SE X b fb):SE X (.IfExp c a b pos) (HU ta fa fb):=fun Y0 Y9=>PE.weak (BS (hc Y0 Y9) (ha Y0 Y9) (hb Y0 Y9)) fun σ H Q hq__=>by
 obtain⟨F,τ,c,τ',E,e1,q⟩:=hq__
 obtain⟨⟨x,τ1⟩,e2,e1⟩:=bind_some e1
 refine⟨F,τ,x,τ1,E,e2,fun F1 H1 E1 s1=>?_⟩
 dsimp only at e1
 split at e1
 ·next h=>rw [if_pos h];exact⟨F1,τ1,c,τ',E1,e1,fun F2 H2 v2 E2 s2=>q F2 H2 v2 E2 (s1.trans s2)⟩
 ·next h=>rw [if_neg h];exact⟨F1,τ1,c,τ',E1,e1,fun F2 H2 v2 E2 s2=>q F2 H2 v2 E2 (s1.trans s2)⟩
variable {es:List Expr}{g:FA}
def aE:FA:=fun τ=>some ([],τ)
def af (f:FE)(g:FA):FA:=fun τ=>(f τ).bind fun p=>(g p.2).bind fun q=>some (p.1::q.1,q.2)
theorem ar:SA X [] aE:=fun Y0 Y9=>PA.weak fX fun σ H Q hq__=>by
 obtain⟨F,τ,c,τ',E,e1,q⟩:=hq__
 cases e1
 exact q F H [] E (aW.refl _) rfl
theorem ae (ha:SE X e f)(hr:SA X es g)(hs:starEach (e::es) X.env=(false,eval e X.env)::starEach es X.env:=by rfl):SA X (e::es) (af f g):=fun Y0 Y9=>PA.weak (eJ (ha Y0 Y9) (hr Y0 Y9) hs) fun σ H Q hq__=>by
 obtain⟨F,τ,c,τ',E,e1,q⟩:=hq__
 obtain⟨⟨x,τ1⟩,e2,e1⟩:=bind_some e1
 obtain⟨⟨y,τ2⟩,e3,e1⟩:=bind_some e1
 cases e1
 exact⟨F,τ,x,τ1,E,e2,fun F1 H1 v E1 s1 r1=>⟨F1,τ1,y,_,E1,e3,fun F2 H2 vs E2 s2 r2=>q F2 H2 _ E2 (s1.trans s2) ⟨v,vs,rfl,Rep.mono s2 r1,r2⟩⟩⟩
def di (g:FA):FE:=fun τ=>(g τ).bind fun p=>if p.1.length≤sizeLine then some (.tup p.1,p.2) else none
def kr (g:FA):FE:=fun τ=>(g τ).bind fun p=>if p.1.length≤sizeLine then some (.lst p.1,p.2) else none
theorem ek {k}(h:SA X es g):SE X (.Tuple es k pos) (di g):=fun Y0 Y9=>PE.weak (BV (h Y0 Y9)) fun σ H Q hq__=>by
 obtain⟨F,τ,c,τ',E,e1,q⟩:=hq__
 obtain⟨⟨x,τ1⟩,e2,e1⟩:=bind_some e1
 dsimp only at e1
 split at e1
 ·next hl =>
  cases e1
  refine⟨F,τ,x,_,E,e2,fun F1 H1 vs E1 s1 r1=>⟨by rw [r1.length];exact hl,fun p hp=>?_⟩⟩
  have gr:=bB.new (.tup vs) E1.g.fh hp
  exact q _ _ _ (E1.grow gr) (s1.trans gr.sF) ⟨p,vs,rfl,kQ.of bo,aX.mono gr.sF r1⟩
 ·cases e1
theorem tV (h:SA X es g):SE X (.List es pos) (kr g):=fun Y0 Y9=>PE.weak (oJ (h Y0 Y9)) fun σ H Q hq__=>by
 obtain⟨F,τ,c,τ',E,e1,q⟩:=hq__
 obtain⟨⟨x,τ1⟩,e2,e1⟩:=bind_some e1
 dsimp only at e1
 split at e1
 ·next hl =>
  cases e1
  refine⟨F,τ,x,_,E,e2,fun F1 H1 vs E1 s1 r1=>⟨by rw [r1.length];exact hl,fun p hp=>?_⟩⟩
  have gr:=bB.new (.lst vs) E1.g.fh hp
  exact q _ _ _ (E1.grow gr) (s1.trans gr.sF) ⟨p,vs,rfl,bo,aX.mono gr.sF r1⟩
 ·cases e1
def aq (d:List T->Option T)(g:FA):FE:=fun τ=>(g τ).bind fun p=>(d p.1).bind fun t=>some (t,p.2)
theorem qr {d:List T->Option T}{Y0 Y9:Hp}{σ:L2.St}{H:Hp}{Q:VK}(h:tE X.K Y0 Y9 (aq d g) σ H Q):tA X.K Y0 Y9 g σ H fun vs H1=>KC X.K d vs H1 Q:=by
 obtain⟨F,τ,c,τ',E,e1,q⟩:=h
 obtain⟨⟨x,τ1⟩,e2,e1⟩:=bind_some e1
 obtain⟨z,e4,e1⟩:=bind_some e1
 cases e1
 exact⟨F,τ,x,_,E,e2,fun F1 H1 vs E1 s1 r1=>⟨F1,x,c,E1.g.fh,r1,e4,fun F3 H3 v3 g3 r3=>q F3 H3 v3 (E1.grow g3) (s1.trans g3.sF) r3⟩⟩
theorem aS {d:List T->Option T}{id:String}{x:Str}{p:Pos}(hc:kc X (.builtin id) d)(hg:Gl X x)(hm:X.mg x=none)(hv:bootBuiltins x=some (.builtin id))(ha:SA X (e::es) g)(hn:x≠"__name__" := by decide)(hdb:(x == ("__debug__" : Str))=false:=by decide)
  (he:starEach (e::es) X.env=(false,eval e X.env)::starEach es X.env:=by rfl) (hpl:(backTo pos (starEach es X.env)).any (·.1)=false:=by rfl):SE X (.Call (.Name x p) (e::es) [] pos) (aq d g):=
 fun Y0 Y9=>PE.weak (BQ hc hg hm hv (ha Y0 Y9) hn hdb he hpl) fun _ _ _=>qr
theorem gy {d:List T->Option T}{id:String}{x:Str}{p:Pos}(hc:kc X (.type id) d)(hg:Gl X x)(hm:X.mg x=none)(hv:bootBuiltins x=some (.type id))(ha:SA X (e::es) g)(hn:x≠"__name__" := by decide)(hdb:(x == ("__debug__" : Str))=false:=by decide)
  (he:starEach (e::es) X.env=(false,eval e X.env)::starEach es X.env:=by rfl) (hpl:(backTo pos (starEach es X.env)).any (·.1)=false:=by rfl):SE X (.Call (.Name x p) (e::es) [] pos) (aq d g):=
 fun Y0 Y9=>PE.weak (Ag hc hg hm hv (ha Y0 Y9) hn hdb he hpl) fun _ _ _=>qr
end
def spT (K:PySem.W.Frag)(n:Nat)(d:List T->Option T):Sp:=fun vs H Q _=>vs.length=n/\KC K d vs H Q
structure Def (P:Program)(w:World)(K:PySem.W.Frag)(mg:Str->Option Value)(base:Heap)(k:Nat)(x:Str)(n:Nat)(d:List T->Option T):Prop where
 ex:∃f fd ps,gz P w K mg base pG k f fd ps (spT K n d)/\Binds K fd ps []/\PySem.W.keepIn K (.ref f)=true/\mg x=some (.ref f)/\ps.length=n
theorem Def.imp {P:Program}{w:World}{K:PySem.W.Frag}{mg:Str->Option Value}{base:Heap}{k n:Nat}{x:Str}{d d':List T->Option T}(D:Def P w K mg base k x n d)(h:∀ts t,d' ts=some t->d ts=some t):Def P w K mg base k x n d':=by
 obtain⟨f,fd,ps,F,r⟩:=D.ex
 exact⟨f,fd,ps,F.imp fun vs H Q E ⟨l,F,ts,t,a,b,c,q⟩=>⟨l,F,ts,t,a,b,h _ _ c,q⟩,r⟩
theorem Def.mono {P:Program}{w:World}{K:PySem.W.Frag}{mg:Str->Option Value}{base:Heap}{j k n:Nat}{x:Str}{d:List T->Option T}(D:Def P w K mg base j x n d)(h:j≤k):Def P w K mg base k x n d:=by
 obtain⟨f,fd,ps,F,r⟩:=D.ex
 exact⟨f,fd,ps,F.mono h,r⟩
theorem Def.zero {P:Program}{w:World}{K:PySem.W.Frag}{mg:Str->Option Value}{base:Heap}{x qual:Str}{st:Stmt}{f:Addr}{fd:FuncData}{ps:List Str}(F:eR K x qual st f fd)(hb:Binds K fd ps [])(hm:mg x=some (.ref f)):Def P w K mg base 0 x ps.length (fun _=>none):=
 ⟨f,fd,ps,⟨fun vs H Q E h=>h.1,fun A outer s H args us vs Q E _ _ _ _ h=>by obtain⟨_,F,ts,t,_,_,e,_⟩:=h;cases e⟩,hb,F.kp,hm,rfl⟩
section
variable {X:Cx}{e:Expr}{es:List Expr}{pos:Pos}{g:FA}
theorem aF {k n:Nat}{x:Str}{p:Pos}{d:List T->Option T}(D:Def X.prog X.w X.K X.mg X.base k x n d)(hr:dG k X.A)(hg:Gl X x)(ha:SA X (e::es) g)(hl:∀τ ts τ',g τ=some (ts,τ')->ts.length=n)(hdb:(x == ("__debug__" : Str))=false:=by decide)
  (he:starEach (e::es) X.env=(false,eval e X.env)::starEach es X.env:=by rfl) (hpl:(backTo pos (starEach es X.env)).any (·.1)=false:=by rfl):SE X (.Call (.Name x p) (e::es) [] pos) (aq d g):=by
 obtain⟨f,fd,ps,F,hb,hk,hm,hn⟩:=D.ex
 intro Y0 Y9
 refine PE.weak (D2 (E:=E0) (CX:=pG) F hr hg hm hk hb .nil vp (ha Y0 Y9) hdb he hpl) fun σ H Q h=>?_
 obtain⟨F,τ,c,τ',E,e1,q⟩:=h
 obtain⟨⟨z,τ1⟩,e2,e1⟩:=bind_some e1
 have hz:=hl _ _ _ e2
 obtain⟨u,e4,e1⟩:=bind_some e1
 cases e1
 refine⟨F,τ,z,_,E,e2,fun F1 H1 vs E1 s1 r1=>⟨by rw [List.append_nil,r1.length];exact hz,F1,z,c,E1.g.fh,by rw [List.append_nil];exact r1,e4,fun F3 H3 v3 g3 r3=>q F3 H3 v3 (E1.grow g3) (s1.trans g3.sF) r3⟩⟩
theorem aD:∀τ ts τ',aE τ=some (ts,τ')->ts.length=0:=fun _ _ _ h=>by cases h;rfl
theorem ak {f:FE}{g:FA}{n:Nat}(h:∀τ ts τ',g τ=some (ts,τ')->ts.length=n):∀τ ts τ',af f g τ=some (ts,τ')->ts.length=n+1:=fun τ ts τ' e=>by
 obtain⟨⟨x,τ1⟩,e2,e1⟩:=bind_some e
 obtain⟨⟨y,τ2⟩,e3,e1⟩:=bind_some e1
 cases e1
 simp [h _ _ _ e3]
end
section
variable {X:Cx}{e a b:Expr}{pos:Pos}{f fa fb:FE}{ga:FA}{es:List Expr}
def gE:FS:=fun _=>none
def cC:FS:=fun τ=>some (.nx τ)
def bE (f:FE):FS:=fun τ=>(f τ).bind fun p=>some (.rt p.1)
def Jk (f:FE):FS:=fun τ=>(f τ).bind fun p=>some (.nx p.2)
def cT (c:FT)(t u:FS):FS:=fun τ=>(c τ).bind fun p=>if p.1=true then t p.2 else u p.2
def aR (t u:FS):FS:=fun τ=>(t τ).bind fun r=>match r with | .nx τ'=>u τ' | r=>some r
theorem qY.mono {K:PySem.W.Frag}{Y0 Y9 F F':Hp}{D:Ends}{r:R}(s:aW F F')(h:qY K Y0 Y9 F D r):qY K Y0 Y9 F' D r:=by
 cases r with
 |nx τ=>exact fun F1 H1 σ1 E1 s1=>h F1 H1 σ1 E1 (s.trans s1)
 |rt t=>exact h
 |bk τ=>exact fun F1 H1 σ1 E1 s1=>h F1 H1 σ1 E1 (s.trans s1)
 |ct τ=>exact fun F1 H1 σ1 E1 s1=>h F1 H1 σ1 E1 (s.trans s1)
theorem pe {st:Stmt}:SS X st gE:=fun Y0 Y9=>PS.weak BZ fun D σ H ⟨F,τ,r,E,e1,q⟩=>by cases e1
theorem aY (h:SE X e f):SS X (.Return (some e) pos) (bE f):=fun Y0 Y9=>PS.weak (B2 (h Y0 Y9)) fun D σ H hq__=>by
 obtain⟨F,τ,r,E,e1,q⟩:=hq__
 obtain⟨⟨x,τ1⟩,e2,e1⟩:=bind_some e1
 cases e1
 exact⟨F,τ,x,τ1,E,e2,fun F' H' v E' s' r'=>q F' H' v E'.g r'⟩
theorem fm (hc:ST X c tc)(ha:ui X ss t)(hb:ui X us u):SS X (.If c ss us pos) (cT tc t u):=fun Y0 Y9=>PS.weak (Fq (hc Y0 Y9) (ha Y0 Y9) (hb Y0 Y9)) fun D σ H hq__=>by
 obtain⟨F,τ,r,E,e1,q⟩:=hq__
 obtain⟨⟨x,τ1⟩,e2,e1⟩:=bind_some e1
 refine⟨F,τ,x,τ1,E,e2,fun F' H' E' s'=>?_⟩
 dsimp only at e1
 split at e1
 ·next h=>rw [if_pos h];exact⟨F',τ1,r,E',e1,q.mono s'⟩
 ·next h=>rw [if_neg h];exact⟨F',τ1,r,E',e1,q.mono s'⟩
theorem cN:ui X [] cC:=fun Y0 Y9=>kP.weak tD fun D σ H hq__=>by
 obtain⟨F,τ,r,E,e1,q⟩:=hq__
 cases e1
 exact q F H σ E (aW.refl _)
theorem au {st:Stmt}{rest:List Stmt}{t u:FS}(h1:SS X st t)(h2:ui X rest u):ui X (st::rest) (aR t u):=fun Y0 Y9=>kP.weak (fS (h1 Y0 Y9) (h2 Y0 Y9)) fun D σ H hq__=>by
 obtain⟨F,τ,r,E,e1,q⟩:=hq__
 obtain⟨x,e2,e1⟩:=bind_some e1
 refine⟨F,τ,x,E,e2,?_⟩
 cases x with
 |nx τ1=>exact fun F1 H1 σ1 E1 s1=>⟨F1,τ1,r,E1,e1,q.mono s1⟩
 |rt t=>cases e1;exact q
 |bk t=>cases e1;exact q
 |ct t=>cases e1;exact q
theorem aB {st:Stmt}{t:FS}(h1:SS X st t):ui X [st] t:=fun Y0 Y9=>tF (h1 Y0 Y9)
theorem qL {st:List Stmt}:ui X st gE:=fun Y0 Y9=>kP.weak Ak fun D σ H ⟨F,τ,r,E,e1,q⟩=>by cases e1
def aU (i:Nat)(f:FE):FS:=fun τ=>(f τ).bind fun p=>some (.nx (p.2.set i (some (.sh p.1))))
def eW (i:Nat)(g:FA):FS:=fun τ=>(g τ).bind fun p=>if p.1.length≤sizeLine then some (.nx (p.2.set i (some (.own p.1)))) else none
theorem bf (i:Nat)(hN:X.N.Nodup)(hi:X.N[i]? = some x)(hx:Loc X.env.scope x)(he:SE X e f)(hs:swapsWith e (some (.Name x pos')) pos.line X.env=pure false:=by rfl)
  (hf:X.fn x=true\/X.env.scope.names.lookup x=some .local:=by first | exact .inl rfl | exact .inr rfl | assumption):SS X (.Assign [.Name x pos'] e pos) (aU i f):=fun Y0 Y9=>PS.weak (tx hN hi hx (he Y0 Y9) hs hf) fun D σ H hq__=>by
 obtain⟨F,τ,r,E,e1,q⟩:=hq__
 obtain⟨⟨y,τ1⟩,e2,e1⟩:=bind_some e1
 cases e1
 exact⟨F,τ,y,τ1,E,e2,fun F' H' v E' s' r'=>q F' H' _ (E'.set r') s'⟩
theorem iM (i:Nat)(hN:X.N.Nodup)(hi:X.N[i]? = some x)(hx:Loc X.env.scope x)(he:SA X es ga)(hs:swapsWith (.List es p2) (some (.Name x pos')) pos.line X.env=pure false:=by rfl)
  (hf:X.fn x=true\/X.env.scope.names.lookup x=some .local:=by first | exact .inl rfl | exact .inr rfl | assumption):SS X (.Assign [.Name x pos'] (.List es p2) pos) (eW i ga):=fun Y0 Y9=>PS.weak (tx hN hi hx (oJ (he Y0 Y9)) hs hf) fun D σ H hq__=>by
 obtain⟨F,τ,r,E,e1,q⟩:=hq__
 obtain⟨⟨y,τ1⟩,e2,e1⟩:=bind_some e1
 dsimp only at e1
 split at e1
 ·next hl =>
  cases e1
  exact⟨F,τ,y,τ1,E,e2,fun F' H' vs E' s' r'=>⟨by rw [r'.length];exact hl,fun p hp=>q F' _ _ (E'.setOwn hp r') s'⟩⟩
 ·cases e1
def tG (K:PySem.W.Frag)(Y0 Y9:Hp)(fg:FG):TG:=fun v σ H Q=>∃F τ t τ',aL K Y0 Y9 F H σ τ/\Rep K F t v/\fg t τ=some τ'/\∀F' H' σ',aL K Y0 Y9 F' H' σ' τ'->aW F F'->Q σ' H'
def MC (K:PySem.W.Frag)(Y0 Y9:Hp)(fg:List T->aI->Option aI):CF:=fun vs σ H Q=>∃F τ ts τ',aL K Y0 Y9 F H σ τ/\aX K F ts vs/\fg ts τ=some τ'/\∀F' H' σ',aL K Y0 Y9 F' H' σ' τ'->aW F F'->Q σ' H'
def SG (X:Cx)(tg:Expr)(fg:FG):Prop:=∀Y0 Y9,PG X tg (tG X.K Y0 Y9 fg)
def HJ (X:Cx)(tg:List Expr)(fg:List T->aI->Option aI):Prop:=∀Y0 Y9,HI X tg (MC X.K Y0 Y9 fg)
def ai (i:Nat):FG:=fun t τ=>some (τ.set i (some (.sh t)))
def bq:List T->aI->Option aI
 |[],τ=>some τ
 |_::_,_=>none
def av (g:FG)(gs:List T->aI->Option aI):List T->aI->Option aI
 |[],_=>none
 |t::ts,τ=>(g t τ).bind fun τ1=>gs ts τ1
def bF (gs:List T->aI->Option aI):FG:=fun t τ=>match t with
 | .tup ts=>gs ts τ
 |_=>none
theorem ax (i:Nat)(hN:X.N.Nodup)(hi:X.N[i]? = some x)(hx:Loc X.env.scope x)(hf:X.fn x=true\/X.env.scope.names.lookup x=some .local:=by first | exact .inl rfl | exact .inr rfl | assumption):SG X (.Name x pos) (ai i):=
 fun Y0 Y9 pins s σ H v u Q I r h=>yX hN hi hx hf pins s σ H v u Q I r (by
  obtain⟨F,τ,t,τ',E,rt,e1,q⟩:=h
  cases e1
  exact q F H _ (E.set rt) (aW.refl _))
theorem bY:HJ X [] bq:=fun Y0 Y9 pins s σ H vs us Q I r h=>D5 pins s σ H vs us Q I r (by
 obtain⟨F,τ,ts,τ',E,rt,e1,q⟩:=h
 cases ts with
 |nil=>cases e1;cases rt;exact⟨rfl,q F H σ E (aW.refl _)⟩
 | cons t ts=>cases e1)
theorem aG (h1:SG X e g)(h2:HJ X es gs)(hs:(assignEach (e::es) X.env).map (·.2)=assign e X.env::(assignEach es X.env).map (·.2):=by rfl):HJ X (e::es) (av g gs):=
 fun Y0 Y9 pins s σ H vs us Q I r h=>BW (h1 Y0 Y9) (h2 Y0 Y9) hs pins s σ H vs us Q I r (by
  obtain⟨F,τ,ts,τ',E,rt,e1,q⟩:=h
  cases ts with
  |nil=>cases e1
  |cons t ts =>
   obtain⟨v,rr,rfl,r1,r2⟩:=rt
   obtain⟨τ1,e2,e1⟩:=bind_some e1
   exact⟨v,rr,rfl,F,τ,t,τ1,E,r1,e2,fun F' H' σ' E' s'=>⟨F',τ1,ts,τ',E',aX.mono s' r2,e1,fun F2 H2 σ2 E2 s2=>q F2 H2 σ2 E2 (s'.trans s2)⟩⟩)
theorem cU:∀ts τ τ',bq ts τ=some τ'->ts.length=0:=fun ts τ τ' h=>by cases ts<;>first | rfl | cases h
theorem aM {gs:List T->aI->Option aI}{n:Nat}(h:∀ts τ τ',gs ts τ=some τ'->ts.length=n):∀ts τ τ',av g gs ts τ=some τ'->ts.length=n+1:=fun ts τ τ' e=>by
 cases ts with
 |nil=>cases e
 |cons t ts =>
  obtain⟨τ1,e2,e1⟩:=bind_some e
  simp [h _ _ _ e1]
theorem cX {k:Nat}{n:Nat}(hc:X.calm=true)(h:HJ X es gs)(hl:∀ts τ τ',gs ts τ=some τ'->ts.length=n)
  (hn:(assignEach es X.env).length=n:=by rfl) (hst:(assignEach es X.env).findIdx? (·.1)=none:=by rfl):SG X (.Tuple es k pos) (bF gs):=
 fun Y0 Y9 pins s σ H v u Q I r h'=>Hb hc (h Y0 Y9) hn hst pins s σ H v u Q I r (by
  obtain⟨F,τ,t,τ',E,rt,e1,q⟩:=h'
  unfold bF at e1
  split at e1
  ·next ts =>
   obtain⟨p,xs,rfl,h1,h2⟩:=rt
   exact⟨p,xs,rfl,cm E.g.fh h1,by rw [h2.length];exact hl _ _ _ e1,F,τ,ts,τ',E,h2,e1,q⟩
  ·cases e1)
def iJ (f:FE)(g:FG):FS:=fun τ=>(f τ).bind fun p=>(g p.1 p.2).bind fun τ'=>some (.nx τ')
theorem jm (he:SE X e f)(hg:SG X tg g)(hs:swapsWithSole [tg] e pos.line X.env=pure false:=by rfl)(hw:swappedStores [tg] e X.env=pure none:=by rfl)
  (h1:(assignEach [tg] X.env).map (·.2)=[assign tg X.env]:=by rfl):SS X (.Assign [tg] e pos) (iJ f g):=fun Y0 Y9=>PS.weak (BX (he Y0 Y9) (hg Y0 Y9) hs hw h1) fun D σ H hq__=>by
 obtain⟨F,τ,r,E,e1,q⟩:=hq__
 obtain⟨⟨y,τ1⟩,e2,e1⟩:=bind_some e1
 obtain⟨τ2,e3,e1⟩:=bind_some e1
 cases e1
 exact⟨F,τ,y,τ1,E,e2,fun F' H' v E' s' r'=>⟨F',τ1,y,τ2,E',r',e3,fun F2 H2 σ2 E2 s2=>q F2 H2 σ2 E2 (s'.trans s2)⟩⟩
def wu (i j:Nat)(g:FA):FS:=fun τ=>(g τ).bind fun p=>match p.1 with
 |[v,w]=>some (.nx ((p.2.set i (some (.sh v))).set j (some (.sh w))))
 |_=>none
theorem xI {i j:Nat}{kt k2 pt2}(hc:X.calm=true)(hN:X.N.Nodup)(hi:X.N[i]? = some x)(hj:X.N[j]? = some y)(hij:i≠j)
  (hx:X.env.scope.names.lookup x=some .local) (hy:X.env.scope.names.lookup y=some .local) (ha:SA X [a,b] ga)
  (hw:swappedStores [.Tuple [.Name x px,.Name y py] kt pt] (.Tuple [a,b] k2 pt2) X.env=pure (some [x,y]))
  (hs:swapsWithSole [.Tuple [.Name x px,.Name y py] kt pt] (.Tuple [a,b] k2 pt2) pos.line X.env=pure false:=by rfl):
  SS X (.Assign [.Tuple [.Name x px,.Name y py] kt pt] (.Tuple [a,b] k2 pt2) pos) (wu i j ga):=fun Y0 Y9=>PS.weak (B0 hc hN hi hj hij hx hy (ha Y0 Y9) hw hs) fun D σ H hq__=>by
 obtain⟨F,τ,r,E,e1,q⟩:=hq__
 obtain⟨⟨ts,τ1⟩,e2,e1⟩:=bind_some e1
 dsimp only at e1
 split at e1
 ·next v w =>
  cases e1
  refine⟨F,τ,_,τ1,E,e2,fun F' H' vs E' s' r'=>?_⟩
  obtain⟨v1,r1,rfl,q1,v2,r2,rfl,q2,rfl⟩:=r'
  exact⟨v1,v2,rfl,q F' H' _ ((E'.set q1).set q2) s'⟩
 ·cases e1
structure Walks (K:PySem.W.Frag)(F:Hp)(ts:List T)(J:It):Prop where
 go:∀(i:Nat) t F1 H1,ts[i]? = some t->aW F F1->aW F1 H1->J.go i H1
 yld:∀(i:Nat) t F1 H1 x H2,ts[i]? = some t->aW F F1->aW F1 H1->J.yld i H1 x H2->∃F2,bB F1 H1 F2 H2/\Rep K F2 t x
 stop:∀F1 H1,aW F F1->aW F1 H1->J.stop ts.length H1
def tI (K:PySem.W.Frag)(Y0 Y9:Hp)(fi:FA):TI:=fun σ H R=>∃F τ ts τ',aL K Y0 Y9 F H σ τ/\fi τ=some (ts,τ')/\∀F' H' J,aL K Y0 Y9 F' H' σ τ'->aW F F'->Walks K F' ts J->R J H'
def SI (X:Cx)(tg iter:Expr)(fi:FA):Prop:=∀Y0 Y9,PI X tg iter (tI X.K Y0 Y9 fi)
def cF (fg:FG)(fb:FS):List T->FS
 |[],τ=>some (.nx τ)
 |t::ts,τ=>(fg t τ).bind fun τ1=>(fb τ1).bind fun r=>match r with
  | .nx τ2=>cF fg fb ts τ2
  | .ct τ2=>cF fg fb ts τ2
  | .bk τ2=>some (.nx τ2)
  | .rt v=>some (.rt v)
def eE (fi:FA)(fg:FG)(fb:FS):FS:=fun τ=>(fi τ).bind fun p=>cF fg fb p.1 p.2
theorem eO {tg iter:Expr}{body:List Stmt}{fi:FA}{fg:FG}{fb:FS}(hp:PassesOwn (model X.prog X.w) X.A X.env X.xe)(hc:X.calm=true)(hi:SI X tg iter fi)(hg:SG X tg fg)(hb:ui X body fb)
  (hs:∀x,foldedSetIterable iter X.env x=pure x:=by intro _;rfl):SS X (.For tg iter body [] pos) (eE fi fg fb):=fun Y0 Y9=>PS.weak (BY hp hc (hi Y0 Y9) (hg Y0 Y9) (hb Y0 Y9) hs) fun D σ H hq__=>by
 obtain⟨F,τ,r,E,e1,q⟩:=hq__
 obtain⟨⟨ts,τ1⟩,e2,e1⟩:=bind_some e1
 refine⟨F,τ,ts,τ1,E,e2,fun F' H' J E' s' W=>?_⟩
 refine⟨fun i m σ H=>m=ts.length-i/\i≤ts.length/\∃F1 τ1,aL X.K Y0 Y9 F1 H σ τ1/\aW F' F1/\cF fg fb (ts.drop i) τ1=some r,⟨_,rfl,Nat.zero_le _,F',τ1,E',aW.refl _,e1⟩,?_⟩
 rintro i m σ1 H1 ⟨rfl,hi,F1,τ2,E1,s1,e3⟩
 by_cases hlt:i<ts.length
 ·have hd:ts.drop i=ts[i]::ts.drop (i+1):=List.drop_eq_getElem_cons hlt
  have hg:ts[i]? = some ts[i]:=List.getElem?_eq_getElem hlt
  rw [hd] at e3
  obtain⟨τ3,e4,e3⟩:=bind_some e3
  obtain⟨r',e5,e3⟩:=bind_some e3
  refine .inr ⟨W.go i _ F1 H1 hg s1 E1.g.fh,fun σ H=>∃F1 τ1,aL X.K Y0 Y9 F1 H σ τ1/\aW F' F1/\cF fg fb (ts.drop (i+1)) τ1=some r,fun σ' H' n=>⟨_,by omega,rfl,hlt,n⟩,fun x H2 y=>?_⟩
  obtain⟨F2,gr,rx⟩:=W.yld i _ F1 H1 x H2 hg s1 E1.g.fh y
  refine⟨F2,τ2,ts[i],τ3,E1.grow gr,rx,e4,fun F3 H3 σ3 E3 s3=>⟨F3,τ3,r',E3,e5,?_⟩⟩
  have s03:aW F' F3:=s1.trans (gr.sF.trans s3)
  cases r' with
  |nx τ4=>exact fun F4 H4 σ4 E4 s4=>⟨F4,τ4,E4,s03.trans s4,e3⟩
  |ct τ4=>exact fun F4 H4 σ4 E4 s4=>⟨F4,τ4,E4,s03.trans s4,e3⟩
  |bk τ4=>cases e3;exact fun F4 H4 σ4 E4 s4=>q F4 H4 σ4 E4 (s'.trans (s03.trans s4))
  |rt v=>cases e3;exact q
 ·have he:i=ts.length:=by omega
  subst he
  rw [List.drop_length] at e3
  cases e3
  exact .inl ⟨W.stop F1 H1 s1 E1.g.fh,q F1 H1 σ1 E1 (s'.trans s1)⟩
def wx (f:FE):FA:=fun τ=>(f τ).bind fun p=>match p.1 with | .lst ts=>some (ts,p.2) | .scr ts=>some (ts,p.2) | _=>none
def A8 (f:FE):FA:=fun τ=>(f τ).bind fun p=>match p.1 with | .tup ts=>some (ts,p.2) | _=>none
theorem pq {K:PySem.W.Frag}{F:Hp}{p:Addr}{xs:List V}{ts:List T}(h1:fq K F p xs)(h2:aX K F ts xs):Walks K F ts (KS K p):=by
 refine⟨fun i t F1 H1 e s1 s2=>?_,fun i t F1 H1 x H2 e s1 s2 y=>?_,fun F1 H1 s1 s2=>⟨xs,(s1.trans s2).seq h1,by rw [h2.length];exact Nat.le_refl _⟩⟩
 ·obtain⟨v,g1,_⟩:=h2.get e
  exact⟨xs,v,(s1.trans s2).seq h1,g1⟩
 ·obtain⟨rfl,y⟩:=y
  obtain⟨v,g1,g2⟩:=h2.get e
  have:=y xs ((s1.trans s2).seq h1)
  rw [g1] at this;cases this
  exact⟨F1,bB.refl s2,Rep.mono s1 g2⟩
theorem AD {K:PySem.W.Frag}{F:Hp}{p:Addr}{xs:List V}{ts:List T}(h1:kQ K F p xs)(h2:aX K F ts xs):Walks K F ts (KU K p):=by
 refine⟨fun i t F1 H1 e s1 s2=>?_,fun i t F1 H1 x H2 e s1 s2 y=>?_,fun F1 H1 s1 s2=>⟨xs,cm (s1.trans s2) h1,by rw [h2.length];exact Nat.le_refl _⟩⟩
 ·obtain⟨v,g1,_⟩:=h2.get e
  exact⟨xs,v,cm (s1.trans s2) h1,g1⟩
 ·obtain⟨rfl,y⟩:=y
  obtain⟨v,g1,g2⟩:=h2.get e
  have:=y xs (cm (s1.trans s2) h1)
  rw [g1] at this;cases this
  exact⟨F1,bB.refl s2,Rep.mono s1 g2⟩
theorem PI.weak {t t':TI}(h:PI X tg it t)(i:∀σ H R,t' σ H R->t σ H R):PI X tg it t':=fun pins s σ H R I q=>h pins s σ H R I (i σ H R q)
theorem zr (h:SE X l f):SI X tg l (wx f):=fun Y0 Y9=>PI.weak (yY (h Y0 Y9)) fun σ H R hq__=>by
 obtain⟨F,τ,ts,τ',E,e1,q⟩:=hq__
 obtain⟨⟨x,τ1⟩,e2,e1⟩:=bind_some e1
 dsimp only at e1
 split at e1
 ·cases e1
  refine⟨F,τ,_,τ',E,e2,fun F' H' v E' s' r'=>?_⟩
  obtain⟨p,xs,rfl,h1,h2⟩:=r'
  exact⟨p,rfl,⟨xs,fq.of (E'.g.fh _ _ h1)⟩,q F' H' _ E' s' (pq (fq.of h1) h2)⟩
 ·cases e1
  refine⟨F,τ,_,τ',E,e2,fun F' H' v E' s' r'=>?_⟩
  obtain⟨p,xs,rfl,h1,h2⟩:=r'
  exact⟨p,rfl,⟨xs,E'.g.fh.seq h1⟩,q F' H' _ E' s' (pq h1 h2)⟩
 ·cases e1
theorem Ht (h:SE X l f):SI X tg l (A8 f):=fun Y0 Y9=>PI.weak (He (h Y0 Y9)) fun σ H R hq__=>by
 obtain⟨F,τ,ts,τ',E,e1,q⟩:=hq__
 obtain⟨⟨x,τ1⟩,e2,e1⟩:=bind_some e1
 dsimp only at e1
 split at e1
 ·cases e1
  refine⟨F,τ,_,τ',E,e2,fun F' H' v E' s' r'=>?_⟩
  obtain⟨p,xs,rfl,h1,h2⟩:=r'
  exact⟨p,rfl,⟨xs,cm E'.g.fh h1⟩,q F' H' _ E' s' (AD h1 h2)⟩
 ·cases e1
def upTo (lo:Int):Nat->List T
 |0=>[]
 |n+1=>.int lo::upTo (lo+1) n
theorem ie:∀(n:Nat) (lo:Int),(upTo lo n).length=n
 |0,_=>rfl
 |n+1,lo=>by simp [upTo,ie n]
theorem pk:∀(n:Nat) (lo:Int) (i:Nat),i<n->(upTo lo n)[i]? = some (.int (lo+i))
 |0,_,_,h=>by omega
 |n+1,lo,0,_=>by simp [upTo]
 |n+1,lo,i+1,h=>by
  simp only [upTo,List.getElem?_cons_succ]
  rw [pk n (lo+1) i (by omega)]
  congr 2
  push_cast
  omega
def bW (g:FA):FA:=fun τ=>(g τ).bind fun p=>match p.1 with
 |[.int j]=>if -(2^62)≤j/\j<2^62 then some (upTo 0 j.toNat,p.2) else none
 |_=>none
theorem qQ {K:PySem.W.Frag}{F:Hp}(lo:Int)(n:Nat):Walks K F (upTo lo n) (Iq lo n):=by
 have hl:∀{i:Nat} {t:T},(upTo lo n)[i]? = some t->i<n:=fun {i t} e=>by
  have:=(List.getElem?_eq_some_iff.mp e).1
  rwa [ie] at this
 refine⟨fun i t F1 H1 e s1 s2=>hl e,fun i t F1 H1 x H2 e s1 s2 y=>?_,fun F1 H1 s1 s2=>by show n≤_;rw [ie];exact Nat.le_refl _⟩
 obtain⟨rfl,rfl⟩:=y
 rw [pk n lo i (hl e)] at e
 cases e
 exact⟨F1,bB.refl s2,rfl⟩
theorem eK (hg:Gl X "range")(hm:X.mg "range" = none)(ha:SA X [a] ga)(hs:starEach [a] X.env=[(false,eval a X.env)]:=by rfl):SI X tg (.Call (.Name "range" p) [a] [] pos) (bW ga):=
 fun Y0 Y9=>PI.weak (Ah hg hm (ha Y0 Y9) hs) fun σ H R hq__=>by
  obtain⟨F,τ,ts,τ',E,e1,q⟩:=hq__
  obtain⟨⟨x,τ1⟩,e2,e1⟩:=bind_some e1
  dsimp only at e1
  split at e1
  ·split at e1
   ·next hb =>
    cases e1
    refine⟨F,τ,_,τ',E,e2,fun F' H' vs E' s' r'=>?_⟩
    obtain⟨v,r,rfl,q1,rfl⟩:=r'
    cases q1
    exact⟨_,rfl,hb.1,hb.2,q F' H' _ E' s' (qQ 0 _)⟩
   ·cases e1
  ·cases e1
def gc (ft:FT)(fb:FS):Nat->FS
 |0,_=>none
 |n+1,τ=>(ft τ).bind fun p=>if p.1=true then (fb p.2).bind fun r=>match r with
  | .nx τ2=>gc ft fb n τ2
  | .ct τ2=>gc ft fb n τ2
  | .bk τ2=>some (.nx τ2)
  | .rt v=>some (.rt v) else some (.nx p.2)
theorem vD (n:Nat){c:Expr}{body:List Stmt}{ft:FT}{fb:FS}(hp:PassesOwn (model X.prog X.w) X.A X.env X.xe)(hc:ST X c ft)(hb:ui X body fb):SS X (.While c body [] pos) (gc ft fb n):=fun Y0 Y9=>PS.weak (B3 hp (hc Y0 Y9) (hb Y0 Y9)) fun D σ H hq__=>by
 obtain⟨F,τ,r,E,e1,q⟩:=hq__
 refine⟨fun m σ H=>∃F1 τ1,aL X.K Y0 Y9 F1 H σ τ1/\aW F F1/\gc ft fb m τ1=some r,⟨n,F,τ,E,aW.refl _,e1⟩,?_⟩
 rintro m σ1 H1 ⟨F1,τ1,E1,s1,e2⟩
 cases m with
 |zero=>cases e2
 |succ m =>
  obtain⟨⟨x,τ2⟩,e3,e2⟩:=bind_some e2
  refine⟨F1,τ1,x,τ2,E1,e3,fun F2 H2 E2 s2=>?_⟩
  dsimp only at e2
  split at e2
  ·next h =>
   rw [if_pos h]
   obtain⟨r',e4,e2⟩:=bind_some e2
   refine⟨fun σ H=>∃F1 τ1,aL X.K Y0 Y9 F1 H σ τ1/\aW F F1/\gc ft fb m τ1=some r,fun σ' H' n=>⟨m,Nat.lt_succ_self m,n⟩,F2,τ2,r',E2,e4,?_⟩
   cases r' with
   |nx τ4=>exact fun F4 H4 σ4 E4 s4=>⟨F4,τ4,E4,(s1.trans s2).trans s4,e2⟩
   |ct τ4=>exact fun F4 H4 σ4 E4 s4=>⟨F4,τ4,E4,(s1.trans s2).trans s4,e2⟩
   |bk τ4=>cases e2;exact fun F4 H4 σ4 E4 s4=>q F4 H4 σ4 E4 ((s1.trans s2).trans s4)
   |rt v=>cases e2;exact q
  ·next h =>
   rw [if_neg h]
   cases e2
   exact q F2 H2 σ1 E2 (s1.trans s2)
def iW (i:Nat)(f:FE):FS:=fun τ=>match τ[i]? with
 |some (some (.own _))=>(f τ).bind fun p=>match p.2[i]? with
  |some (some (.own ts))=>if ts.length<sizeLine then some (.nx (p.2.set i (some (.own (ts++[p.1]))))) else none
  |_=>none
 |_=>none
end
def cI (m n:Nat)(fb:FS):List T->Option T:=fun ts=>if ts.length=n then (fb (ts.map (fun t=>some (Sl.sh t))++List.replicate (m-n) none)).bind fun r=>match r with
 | .rt t=>some t
 | .nx _=>some .non
 |_=>none else none
theorem iI {K:PySem.W.Frag}{F H:Hp}{N:List Str}{vs:List V}{ts:List T}(s:aW F H)(r:aX K F ts vs):aL K F H F H (start N vs) (ts.map (fun t=>some (Sl.sh t))++List.replicate (N.length-ts.length) none):=by
 have hl:=r.length
 have key:∀(i:Nat) (sl:Sl),(ts.map (fun t=>some (Sl.sh t))++List.replicate (N.length-ts.length) none)[i]? = some (some sl)->∃t,ts[i]? = some t/\sl=.sh t:=fun i sl e=>by
  by_cases h:i<ts.length
  ·rw [List.getElem?_append_left (by simpa using h),List.getElem?_map,List.getElem?_eq_getElem h] at e
   simp at e
   exact⟨ts[i],List.getElem?_eq_getElem h,e.symm⟩
  ·rw [List.getElem?_append_right (by simp;omega),List.getElem?_replicate] at e
   split at e<;>cases e
 refine⟨bB.refl s,by simp [L2.start,hl],fun i sl e=>?_,fun i j us ws p _ e1 _ _=>?_⟩
 ·obtain⟨t,e1,rfl⟩:=key i sl e
  obtain⟨v,g1,g2⟩:=r.get e1
  refine⟨v,?_,g2⟩
  have hi:i<vs.length:=(List.getElem?_eq_some_iff.mp g1).1
  unfold L2.start
  rw [List.getElem?_append_left (by simpa using hi),List.getElem?_map,g1]
  rfl
 ·obtain⟨t,_,e⟩:=key i _ e1
  cases e
section
variable {P:Program}{w:World}{K:PySem.W.Frag}{mg:Str->Option Value}{base:Heap}
theorem bp {x qual:Str}{st:Stmt}{f:Addr}{fd:FuncData}{N ps:List Str}{k:Nat}{fb:FS}(F:eR K x qual st f fd)(S:aO N ps (ay st))(hb:Binds K fd ps [])(hm:mg x=some (.ref f))
  (h:∀(cdv:Value) (A:Around) (outer:List Env) (s:Shared) (H:Hp) (E:XK),dG k (A.deeper (envOfC qual (ay st) s.heap.objs.size f cdv))->ui (nV pG P w K mg base N qual (ay st) f cdv A outer s H E).nox (dP st) fb):
  Def P w K mg base (k+1) x ps.length (cI N.length ps.length fb):=by
 refine⟨f,fd,ps,F.ok S (fun vs H Q E z=>z.1) (fun cdv A outer s H vs Q E hr z=>?_),hb,F.kp,hm,rfl⟩
 obtain⟨hl,F1,ts,t,sm,r,e,q⟩:=z
 unfold cI at e
 split at e
 ·next hn =>
  obtain⟨r',e1,e⟩:=bind_some e
  refine⟨_,h cdv A outer s H E hr F1 H,F1,_,r',?_,e1,?_⟩
  ·have:=iI (N:=N) sm r
   rw [hn] at this
   exact this
  ·cases r' with
   |rt u=>cases e;exact fun F' H' v g r'=>q F' H' v g r'
   |nx τ=>cases e;exact fun F' H' σ' E' s'=>q F' H' .non E'.g rfl
   |bk τ=>cases e
   |ct τ=>cases e
 ·cases e
end
def B:Nat:=2^4000
theorem EI {n:Nat}(h:n<B):n.log2<4000:=by
 rcases Nat.eq_zero_or_pos n with h0 | hp
 ·rw [h0];decide
 ·exact (Nat.log2_lt (Nat.ne_of_gt hp)).mpr h
theorem vY {i:Int}(h:i.natAbs<B):Builtin.Int.intBits i≤4000:=by
 unfold Builtin.Int.intBits
 split
 ·omega
 ·have:=EI h
  omega
theorem JF {i j:Int}(hi:i.natAbs<B)(hj:j.natAbs<B):IntMulOk i j:=by
 have h1:=vY hi
 have h2:=vY hj
 unfold IntMulOk
 have h3:Builtin.Int.intTooBig (Builtin.Int.intBits i+Builtin.Int.intBits j)=false:=by
  unfold Builtin.Int.intTooBig
  have hb:((bitsLine:Nat):Int)=134217728:=by decide
  rw [decide_eq_false]
  show ¬ ((Builtin.Int.intBits i:Int)+(Builtin.Int.intBits j:Int)>((bitsLine:Nat):Int))
  rw [hb]
  omega
 rw [h3]
 simp
section
variable {X:Cx}
def gI (C:Int->Int->Prop)[∀i j,Decidable (C i j)](g:Int->Int->T):T->T->Option T:=fun a b=>match a,b with
 | .int i,.int j=>if C i j then some (g i j) else none
 |_,_=>none
theorem Gz {C:Int->Int->Prop}[∀i j,Decidable (C i j)]{i j:Int}:gI C g (.int i) (.int j)=if C i j then some (g i j) else none:=rfl
theorem yR {C:Int->Int->Prop}[∀i j,Decidable (C i j)]{g:Int->Int->T}(h:pD X f (rI C gv))(hg:∀K F i j,Rep K F (g i j) (gv i j)):mZ X f (gI C g):=by
 intro pins s σ H x y v u Q I rx ry ⟨F,a,b,t,sm,ra,rb,e,q⟩
 unfold gI at e
 split at e
 ·cases ra
  cases rb
  split at e
  ·next hc =>
   cases e
   exact h pins s σ H _ _ v u Q I rx ry ⟨_,_,rfl,rfl,hc,q F H _ (bB.refl sm) (hg _ _ _ _)⟩
  ·cases e
 ·cases e
theorem mh {g:Int->Int->T}(h:pD X f (Eb gv))(hg:∀K F i j,Rep K F (g i j) (gv i j)):mZ X f (gI (fun _ _=>True) g):=
 yR (fun pins s σ H x y v u Q I rx ry ⟨i,j,e1,e2,_,q⟩=>h pins s σ H x y v u Q I rx ry ⟨i,j,e1,e2,q⟩) hg
def Lc (g g':T->T->Option T):T->T->Option T:=fun a b=>match g a b with
 |some t=>some t
 |none=>g' a b
theorem mZ.or (h:mZ X f g)(h':mZ X f g'):mZ X f (Lc g g'):=by
 intro pins s σ H x y v u Q I rx ry ⟨F,a,b,t,sm,ra,rb,e,q⟩
 unfold Lc at e
 split at e
 ·next t' e'=>cases e;exact h pins s σ H x y v u Q I rx ry ⟨F,a,b,_,sm,ra,rb,e',q⟩
 ·exact h' pins s σ H x y v u Q I rx ry ⟨F,a,b,t,sm,ra,rb,e,q⟩
def x3 (i j:Int):Prop:=i.natAbs<B/\j.natAbs<B
instance (i j:Int):Decidable (x3 i j):=inferInstanceAs (Decidable (_/\_))
def xZ (i j:Int):Prop:=j≠0/\j.natAbs<B
instance (i j:Int):Decidable (xZ i j):=inferInstanceAs (Decidable (_/\_))
def Kj (i j:Int):Prop:=j≠0
instance (i j:Int):Decidable (Kj i j):=inferInstanceAs (Decidable (_≠_))
instance (i j:Int):Decidable (KP i j):=inferInstanceAs (Decidable (_/\_/\_))
abbrev uC:=gI (fun _ _=>True) fun i j=>.int (i-j)
abbrev bU:=gI x3 fun i j=>.int (i*j)
abbrev df:=gI xZ fun i j=>.int (i.fdiv j)
abbrev cQ:=gI Kj fun i j=>.int (i.fmod j)
abbrev Fb:=gI (fun _ _=>True) fun i j=>.bl (decide (i<j))
abbrev zO:=gI (fun _ _=>True) fun i j=>.bl (decide (i≤j))
abbrev Bf:=gI (fun _ _=>True) fun i j=>.bl (decide (j<i))
abbrev K9:=gI (fun _ _=>True) fun i j=>.bl (decide (j≤i))
theorem BP:mZ X (binaryOp .Sub) uC:=mh G1 fun _ _ _ _=>rfl
theorem cL:mZ X (binaryOp .Mult) bU:=yR (C:=x3) (gv:=fun i j=>.int (i*j)) (Lo fun _ _ _ _ _ _ _ hc q=>mul_int q (JF hc.1 hc.2)) fun _ _ _ _=>rfl
theorem dg:mZ X (binaryOp .FloorDiv) df:=yR (C:=xZ) (gv:=fun i j=>.int (i.fdiv j)) (Lo fun _ _ _ _ _ _ _ hc q=>floordiv_int hc.1 q (.inl (PyProof.noPylong_of_log2 (Nat.lt_trans (EI hc.2) (by decide:4000<9000))))) fun _ _ _ _=>rfl
theorem eh:mZ X (binaryOp .Mod) cQ:=yR (C:=Kj) (gv:=fun i j=>.int (i.fmod j)) DY fun _ _ _ _=>rfl
theorem yU:mZ X (compareOp .Lt) Fb:=mh JP fun _ _ _ _=>rfl
theorem yT:mZ X (compareOp .LtE) zO:=mh JO fun _ _ _ _=>rfl
theorem yS:mZ X (compareOp .Gt) Bf:=mh JM fun _ _ _ _=>rfl
theorem JQ:mZ X (compareOp .GtE) K9:=mh JL fun _ _ _ _=>rfl
def oa:T->T->Option T
 | .str x,.str y=>if x.length+y.length≤sizeLine then some (.str (x++y)) else none
 | .lst xs,.lst ys=>if xs.length+ys.length≤sizeLine then some (.lst (xs++ys)) else none
 | .tup (x::xs),.tup (y::ys)=>if (x::xs).length+(y::ys).length≤sizeLine then some (.tup (x::xs++y::ys)) else none
 |_,_=>none
theorem D0:mZ X (binaryOp .Add) oa:=by
 intro pins s σ H x y v u Q I rx ry ⟨F,a,b,t,sm,ra,rb,e,q⟩
 unfold oa at e
 split at e
 ·split at e
  ·next hl =>
   cases e;cases ra;cases rb
   exact xk pins s σ H _ _ v u Q I rx ry ⟨_,_,rfl,rfl,hl,q F H _ (bB.refl sm) rfl⟩
  ·cases e
 ·split at e
  ·next hl =>
   cases e
   obtain⟨p1,x1,rfl,h1,h2⟩:=ra
   obtain⟨p2,x2,rfl,h3,h4⟩:=rb
   refine G0 pins s σ H _ _ v u Q I rx ry ⟨p1,p2,x1,x2,rfl,rfl,sm _ _ h1,sm _ _ h3,by rw [h2.length,h4.length];exact hl,fun p hp=>?_⟩
   have gr:=bB.new (.lst (x1++x2)) sm hp
   exact q _ _ _ gr ⟨p,_,rfl,bo,aX.mono gr.sF (h2.append h4)⟩
  ·cases e
 ·split at e
  ·next hl =>
   cases e
   obtain⟨p1,x1,rfl,h1,h2⟩:=ra
   obtain⟨p2,x2,rfl,h3,h4⟩:=rb
   refine DX pins s σ H _ _ v u Q I rx ry ⟨p1,p2,x1,x2,rfl,rfl,cm sm h1,cm sm h3,fun z=>?_,by rw [h2.length,h4.length];exact hl,fun z=>?_,fun _ p hp=>?_⟩
   ·subst z;have:=h2.length;simp at this
   ·subst z;have:=h4.length;simp at this
   ·have gr:=bB.new (.tup (x1++x2)) sm hp
    exact q _ _ _ gr ⟨p,_,rfl,kQ.of bo,aX.mono gr.sF (h2.append h4)⟩
  ·cases e
 ·cases e
def ck:T->T->Option T:=Lc (gI (fun _ _=>True) fun i j=>.int (i+j)) oa
theorem dk:mZ X (binaryOp .Add) ck:=mZ.or (mh GZ fun _ _ _ _=>rfl) D0
theorem dJ {i j:Int}:ck (.int i) (.int j)=some (.int (i+j)):=rfl
theorem og {xs ys:List T}(h:xs.length+ys.length≤sizeLine):ck (.lst xs) (.lst ys)=some (.lst (xs++ys)):=by
 show oa (.lst xs) (.lst ys)=_
 simp only [oa,if_pos h]
theorem Bc {x y:T}{xs ys:List T}(h:(x::xs).length+(y::ys).length≤sizeLine):ck (.tup (x::xs)) (.tup (y::ys))=some (.tup (x::xs++y::ys)):=by
 show oa (.tup (x::xs)) (.tup (y::ys))=_
 simp only [oa,if_pos h]
def zP:T->Option T
 | .int i=>some (.int (-i))
 |_=>none
theorem Cw:LO X (unaryOp .USub) zP:=by
 intro pins s σ H x v Q I rx ⟨F,a,t,sm,ra,e,q⟩
 unfold zP at e
 split at e
 ·cases e;cases ra
  exact HC pins s σ H _ v Q I rx ⟨_,rfl,q F H _ (bB.refl sm) rfl⟩
 ·cases e
mutual
def AJ:T->Option PyData
 | .non=>some .none
 | .bl b=>some (.bool b)
 | .int i=>some (.int i)
 | .str x=>some (.str x)
 | .tup ts=>(nt ts).map .tuple
 | .lst ts=>(nt ts).map .list
 | .scr ts=>(nt ts).map .list
 | .ty _=>none
 | .dic=>none
 | .obj _ _ _=>none
 | .ptr _=>none
 | .exc _ _ _=>none
def nt:List T->Option (List PyData)
 |[]=>some []
 |t::ts=>(AJ t).bind fun d=>(nt ts).bind fun ds=>some (d::ds)
end
mutual
theorem jI (I:Inv X pins σ H s)(sm:aW F H):∀{t:T} {d:PyData} {v:V} {u:Value},AJ t=some d->Rep X.K F t v->RelV v u->∃as,Reads s.heap u d as
 | .non,d,v,u,e,r,ru=>by cases r;cases e;cases ru;exact⟨_,.none⟩
 | .bl b,d,v,u,e,r,ru=>by cases r;cases e;cases ru;exact⟨_,.bool _⟩
 | .int i,d,v,u,e,r,ru=>by cases r;cases e;obtain⟨t,rfl⟩:=ru;exact⟨_,.int _ _⟩
 | .str x,d,v,u,e,r,ru=>by cases r;cases e;obtain⟨t,rfl⟩:=ru;exact⟨_,.str _ _⟩
 | .ty _,d,v,u,e,r,ru=>by cases e
 | .dic,d,v,u,e,r,ru=>by cases e
 | .obj _ _ _,d,v,u,e,r,ru=>by cases e
 | .ptr _,d,v,u,e,r,ru=>by cases e
 | .exc _ _ _,d,v,u,e,r,ru=>by cases e
 | .tup ts,d,v,u,e,r,ru=>by
  obtain⟨p,xs,rfl,h1,h2⟩:=r
  cases ru
  simp only [AJ] at e
  cases e1:nt ts with
  |none=>rw [e1] at e;cases e
  |some ds =>
   rw [e1] at e;cases e
   obtain⟨its,rv,⟨o,g1,g2,n,g3⟩,_⟩:=I.tuple (cm sm h1)
   obtain⟨as,q⟩:=ic I sm e1 h2 rv
   exact⟨_,.tuple g1 g2 g3 q⟩
 | .lst ts,d,v,u,e,r,ru=>by
  obtain⟨p,xs,rfl,h1,h2⟩:=r
  cases ru
  simp only [AJ] at e
  cases e1:nt ts with
  |none=>rw [e1] at e;cases e
  |some ds =>
   rw [e1] at e;cases e
   obtain⟨its,rv,⟨o,n,g1,g2,_,g3⟩,_⟩:=I.list (fq.of (sm _ _ h1))
   obtain⟨as,q⟩:=ic I sm e1 h2 rv
   exact⟨_,.list g1 g2 g3 q⟩
 | .scr ts,d,v,u,e,r,ru=>by
  obtain⟨p,xs,rfl,h1,h2⟩:=r
  cases ru
  simp only [AJ] at e
  cases e1:nt ts with
  |none=>rw [e1] at e;cases e
  |some ds =>
   rw [e1] at e;cases e
   obtain⟨its,rv,⟨o,n,g1,g2,_,g3⟩,_⟩:=I.list (sm.seq h1)
   obtain⟨as,q⟩:=ic I sm e1 h2 rv
   exact⟨_,.list g1 g2 g3 q⟩
theorem ic (I:Inv X pins σ H s)(sm:aW F H):∀{ts:List T} {ds:List PyData} {vs:List V} {us:List Value},nt ts=some ds->aX X.K F ts vs->Vals vs us->∃as,ReadsAll s.heap us ds as
 |[],ds,vs,us,e,r,ru=>by cases r;cases ru;cases e;exact⟨_,.nil⟩
 |t::ts,ds,vs,us,e,r,ru=>by
  obtain⟨v,rr,rfl,h1,h2⟩:=r
  cases ru with
  |cons r1 r2 =>
   simp only [nt] at e
   obtain⟨d,e1,e⟩:=bind_some e
   obtain⟨ds',e2,e⟩:=bind_some e
   cases e
   obtain⟨as,q1⟩:=jI I sm e1 h1 r1
   obtain⟨bs,q2⟩:=ic I sm e2 h2 r2
   exact⟨_,.cons q1 q2⟩
end
def Bd (neg:Bool)(a b:T):Option T:=(AJ a).bind fun p=>(AJ b).bind fun q=>if SeqAt.shaped p=true/\SeqAt.shaped q=true then some (.bl (if neg then !PyData.eqv p q else PyData.eqv p q)) else none
abbrev lP:=Bd false
abbrev nF:=Bd true
theorem mU (hu:X.A.units+64<cLine):mZ X (compareOp .Eq) lP:=by
 intro pins s σ H x y v u Q I rx ry ⟨F,a,b,t,sm,ra,rb,e,q⟩
 obtain⟨d1,e1,e⟩:=bind_some e
 obtain⟨d2,e2,e⟩:=bind_some e
 split at e
 ·next hs =>
  cases e
  obtain⟨as,q1⟩:=jI I sm e1 ra rx
  obtain⟨bs,q2⟩:=jI I sm e2 rb ry
  exact SeqAt.compareEq_shaped q1 q2 hs.1 hs.2 hu ⟨.bl _,H,I,rfl,q F H _ (bB.refl sm) rfl⟩
 ·cases e
theorem qF (hu:X.A.units+64<cLine):mZ X (compareOp .NotEq) nF:=by
 intro pins s σ H x y v u Q I rx ry ⟨F,a,b,t,sm,ra,rb,e,q⟩
 obtain⟨d1,e1,e⟩:=bind_some e
 obtain⟨d2,e2,e⟩:=bind_some e
 split at e
 ·next hs =>
  cases e
  obtain⟨as,q1⟩:=jI I sm e1 ra rx
  obtain⟨bs,q2⟩:=jI I sm e2 rb ry
  exact SeqAt.compareNe_shaped q1 q2 hs.1 hs.2 hu ⟨.bl _,H,I,rfl,q F H _ (bB.refl sm) rfl⟩
 ·cases e
def oj:T->Bool
 | .non=>true
 |_=>false
def Mg:T->T->Option T
 |a,.non=>some (.bl (oj a))
 | .bl c,.bl d=>some (.bl (c == d))
 |_,_=>none
theorem zU {K:PySem.W.Frag}{F:Hp}{t:T}{v:V}(r:Rep K F t v):decide (v=.non)=oj t:=by
 cases t with
 |non=>cases r;rfl
 |bl _=>cases r;rfl
 |int _=>cases r;rfl
 |str _=>cases r;rfl
 |ty _=>cases r;rfl
 |tup _=>obtain⟨p,xs,rfl,_⟩:=r;rfl
 |lst _=>obtain⟨p,xs,rfl,_⟩:=r;rfl
 |scr _=>obtain⟨p,xs,rfl,_⟩:=r;rfl
 |dic=>obtain⟨p,rfl,_⟩:=r;rfl
 |obj _ _ _=>obtain⟨p,_,_,rfl,_⟩:=r;rfl
 |ptr _=>rw [show v=_ from r];rfl
 |exc _ _ _=>obtain⟨p,_,rfl,_⟩:=r;rfl
def bQ:T->T->Option T
 | .lst ts,.int i=>nv ts i
 | .scr ts,.int i=>nv ts i
 | .tup ts,.int i=>nv ts i
 | .str x,.int i=>if x.length≤sizeLine then (nv x.cps.toList i).map fun c=>.str ⟨#[c]⟩ else none
 |_,_=>none
theorem kR {K:PySem.W.Frag}{F:Hp}{ts:List T}{vs:List V}{i:Int}{t:T}(r:aX K F ts vs)(e:nv ts i=some t):∃v,nv vs i=some v/\Rep K F t v:=by
 unfold nv at e ⊢
 rw [r.length]
 obtain⟨j,e1,e2⟩:=bind_some e
 obtain⟨v,g1,g2⟩:=r.get e2
 exact⟨v,by rw [e1];exact g1,g2⟩
theorem bJ:HH X (Ig X.K bQ):=by
 intro value slice pins s σ H x y v u Q I rx ry ⟨F,a,b,t,sm,ra,rb,e,q⟩ hs
 unfold bQ at e
 split at e
 ·obtain⟨p,xs,rfl,h1,h2⟩:=ra
  cases rb
  obtain⟨w,g1,g2⟩:=kR h2 e
  exact sM value slice pins s σ H _ _ v u Q I rx ry ⟨p,xs,_,w,rfl,rfl,fq.of (sm _ _ h1),g1,q F H _ (bB.refl sm) g2⟩ hs
 ·obtain⟨p,xs,rfl,h1,h2⟩:=ra
  cases rb
  obtain⟨w,g1,g2⟩:=kR h2 e
  exact sM value slice pins s σ H _ _ v u Q I rx ry ⟨p,xs,_,w,rfl,rfl,sm.seq h1,g1,q F H _ (bB.refl sm) g2⟩ hs
 ·obtain⟨p,xs,rfl,h1,h2⟩:=ra
  cases rb
  obtain⟨w,g1,g2⟩:=kR h2 e
  exact GJ value slice pins s σ H _ _ v u Q I rx ry ⟨p,xs,_,w,rfl,rfl,cm sm h1,g1,q F H _ (bB.refl sm) g2⟩ hs
 ·split at e
  ·next hl =>
   cases ra;cases rb
   cases e1:nv (Str.cps _).toList _ with
   |none=>rw [e1] at e;cases e
   |some c =>
    rw [e1] at e;cases e
    exact GI value slice pins s σ H _ _ v u Q I rx ry ⟨_,_,c,rfl,rfl,hl,e1,q F H _ (bB.refl sm) rfl⟩ hs
  ·cases e
 ·cases e
theorem kY (h:gW X f r)(i:∀vs H Q,KC X.K g vs H Q->r vs H Q):kc X f g:=fun pins s σ H xs us Q I rx q=>h pins s σ H xs us Q I rx (i _ _ _ q)
def bM:List T->Option T
 |[.lst ts]=>some (.int ts.length)
 |[.scr ts]=>some (.int ts.length)
 |[.tup ts]=>some (.int ts.length)
 |[.str x]=>if x.length≤sizeLine then some (.int x.length) else none
 |_=>none
theorem cH:kc X (.builtin "len") bM:=kY (gW.or rB rC) fun vs H Q hq__=>by
 obtain⟨F,ts,t,sm,r,e,q⟩:=hq__
 unfold bM at e
 split at e
 ·obtain⟨v,rr,rfl,⟨p,xs,rfl,h1,h2⟩,rfl⟩:=r
  cases e
  exact .inl ⟨p,xs,rfl,.inl (fq.of (sm _ _ h1)),by rw [h2.length];exact q F H _ (bB.refl sm) rfl⟩
 ·obtain⟨v,rr,rfl,⟨p,xs,rfl,h1,h2⟩,rfl⟩:=r
  cases e
  exact .inl ⟨p,xs,rfl,.inl (sm.seq h1),by rw [h2.length];exact q F H _ (bB.refl sm) rfl⟩
 ·obtain⟨v,rr,rfl,⟨p,xs,rfl,h1,h2⟩,rfl⟩:=r
  cases e
  exact .inl ⟨p,xs,rfl,.inr (cm sm h1),by rw [h2.length];exact q F H _ (bB.refl sm) rfl⟩
 ·split at e
  ·next hl =>
   obtain⟨v,rr,rfl,h1,rfl⟩:=r
   cases h1;cases e
   exact .inr ⟨_,rfl,hl,q F H _ (bB.refl sm) rfl⟩
  ·cases e
 ·cases e
def zL:List T->Option T
 |[.int i]=>some (.int (if i<0 then -i else i))
 |_=>none
theorem AY:kc X (.builtin "abs") zL:=kY AS fun vs H Q hq__=>by
 obtain⟨F,ts,t,sm,r,e,q⟩:=hq__
 unfold zL at e
 split at e
 ·obtain⟨v,rr,rfl,h1,rfl⟩:=r
  cases h1;cases e
  exact⟨_,rfl,q F H _ (bB.refl sm) rfl⟩
 ·cases e
def K1:List T->Option T
 |[.int i,.int j]=>some (.int (if j>i then j else i))
 |_=>none
def K2:List T->Option T
 |[.int i,.int j]=>some (.int (if j<i then j else i))
 |_=>none
def dList:List T->Option T
 |[.lst ts]=>some (.lst ts)
 |[.scr ts]=>some (.lst ts)
 |[.tup ts]=>some (.lst ts)
 |_=>none
theorem yj:kc X (.type "list") dList:=kY rD fun vs H Q hq__=>by
 obtain⟨F,ts,t,sm,r,e,q⟩:=hq__
 unfold dList at e
 split at e
 ·obtain⟨v,rr,rfl,⟨p,xs,rfl,h1,h2⟩,rfl⟩:=r
  cases e
  refine⟨p,xs,rfl,.inl (fq.of (sm _ _ h1)),fun l hl=>?_⟩
  have gr:=bB.new (.lst xs) sm hl
  exact q _ _ _ gr ⟨l,xs,rfl,bo,aX.mono gr.sF h2⟩
 ·obtain⟨v,rr,rfl,⟨p,xs,rfl,h1,h2⟩,rfl⟩:=r
  cases e
  refine⟨p,xs,rfl,.inl (sm.seq h1),fun l hl=>?_⟩
  have gr:=bB.new (.lst xs) sm hl
  exact q _ _ _ gr ⟨l,xs,rfl,bo,aX.mono gr.sF h2⟩
 ·obtain⟨v,rr,rfl,⟨p,xs,rfl,h1,h2⟩,rfl⟩:=r
  cases e
  refine⟨p,xs,rfl,.inr (cm sm h1),fun l hl=>?_⟩
  have gr:=bB.new (.lst xs) sm hl
  exact q _ _ _ gr ⟨l,xs,rfl,bo,aX.mono gr.sF h2⟩
 ·cases e
def Ih:T->Option String
 | .non=>some "NoneType"
 | .bl _=>some "bool"
 | .int _=>some "int"
 | .str _=>some "str"
 | .tup _=>some "tuple"
 | .lst _=>some "list"
 | .scr _=>some "list"
 | .dic=>some "dict"
 | .obj _ _ _=>none
 | .ptr _=>none
 | .exc _ _ _=>none
 | .ty _=>none
def kinds:List String:=["int","bool","str","list","tuple","dict"]
def KA (a c:String):Option Bool:=if c∈kinds then some (a == c||(a == "bool"&&c == "int")) else none
def GH (a:String):List T->Option Bool
 |[]=>some false
 | .ty c::r=>(KA a c).bind fun b=>if b=true then some true else GH a r
 |_::_=>none
theorem Bt {K:PySem.W.Frag}{t:T}{a c:String}{b:Bool}(ha:Ih t=some a)(h:KA a c=some b):PySem.W.kitOne K (.type a) (.type c)=some b:=by
 have ha:a∈["NoneType","bool","int","str","tuple","list","dict"]:=by
  cases t<;>simp only [Ih] at ha<;>cases ha<;>simp
 unfold KA at h
 split at h
 ·next hc =>
  cases h
  simp only [kinds,List.mem_cons,List.not_mem_nil,or_false] at hc ha
  rcases ha with rfl | rfl | rfl | rfl | rfl | rfl | rfl<;>rcases hc with rfl | rfl | rfl | rfl | rfl | rfl<;>rfl
 ·cases h
theorem yJ {K:PySem.W.Frag}{F:Hp}{t:T}{a:String}(ha:Ih t=some a):∀{cs:List T} {vs:List V} {us:List Value} {b:Bool},GH a cs=some b->aX K F cs vs->Vals vs us->PySem.W.kitAny K (.type a) us=some b
 |[],vs,us,b,h,r,ru=>by cases r;cases ru;cases h;rfl
 | .ty c::cs,vs,us,b,h,r,ru=>by
  obtain⟨v,rr,rfl,h1,h2⟩:=r
  cases h1
  cases ru with
  |cons r1 r2 =>
   cases r1
   obtain⟨b',e1,h⟩:=bind_some h
   unfold PySem.W.kitAny
   rw [Bt ha e1]
   cases b' with
   |true=>rw [if_pos rfl] at h;exact h
   |false=>rw [if_neg (by decide)] at h;exact yJ ha h h2 r2
 | .non::cs,vs,us,b,h,r,ru=>by cases h
 | .bl _::cs,vs,us,b,h,r,ru=>by cases h
 | .int _::cs,vs,us,b,h,r,ru=>by cases h
 | .str _::cs,vs,us,b,h,r,ru=>by cases h
 | .tup _::cs,vs,us,b,h,r,ru=>by cases h
 | .lst _::cs,vs,us,b,h,r,ru=>by cases h
 | .scr _::cs,vs,us,b,h,r,ru=>by cases h
 | .dic::cs,vs,us,b,h,r,ru=>by cases h
 | .obj _ _ _::cs,vs,us,b,h,r,ru=>by cases h
 | .ptr _::cs,vs,us,b,h,r,ru=>by cases h
 | .exc _ _ _::cs,vs,us,b,h,r,ru=>by cases h
theorem uX (I:Inv X pins σ H s)(sm:aW F H)(r:Rep X.K F t v)(ru:RelV v u)(ha:Ih t=some a):
  ∃Hh:Heap->Prop,PySem.W.KitX X.K u (.type a) Hh/\Hh s.heap/\u≠.builtin "__main__.__loader__#opaque" := by
 cases t with
 |non=>cases r;cases ru;cases ha;exact⟨_,PySem.W.kitx_none,True.intro,fun z=>nomatch z⟩
 |bl _=>cases r;cases ru;cases ha;exact⟨_,PySem.W.kitx_bool,True.intro,fun z=>nomatch z⟩
 |int _=>cases r;obtain⟨t,rfl⟩:=ru;cases ha;exact⟨_,PySem.W.kitx_int,True.intro,fun z=>nomatch z⟩
 |str _=>cases r;obtain⟨t,rfl⟩:=ru;cases ha;exact⟨_,PySem.W.kitx_str,True.intro,fun z=>nomatch z⟩
 |ty _=>cases ha
 |tup _ =>
  obtain⟨p,xs,rfl,h1,h2⟩:=r
  cases ru;cases ha
  obtain⟨its,rv,⟨o,g1,g2,n,g3⟩,_⟩:=I.tuple (cm sm h1)
  exact⟨_,PySem.W.kitx_tuple,⟨o,g1,g2⟩,fun z=>nomatch z⟩
 |lst _ =>
  obtain⟨p,xs,rfl,h1,h2⟩:=r
  cases ru;cases ha
  obtain⟨its,rv,⟨o,n,g1,g2,_,g3⟩,_⟩:=I.list (fq.of (sm _ _ h1))
  exact⟨_,PySem.W.kitx_list,⟨o,g1,g2⟩,fun z=>nomatch z⟩
 |scr _ =>
  obtain⟨p,xs,rfl,h1,h2⟩:=r
  cases ru;cases ha
  obtain⟨its,rv,⟨o,n,g1,g2,_,g3⟩,_⟩:=I.list (sm.seq h1)
  exact⟨_,PySem.W.kitx_list,⟨o,g1,g2⟩,fun z=>nomatch z⟩
 |dic =>
  obtain⟨p,rfl,h1⟩:=r
  cases ru;cases ha
  obtain⟨_,_,vs,_,o,es,ep,h1,h2,_⟩:=(show gd X.prog X.w H s.heap p (.dK []) from I.hok p _ (sm _ _ h1))
  exact⟨_,PySem.W.kitx_dict,⟨o,h1,h2.1⟩,fun z=>nomatch z⟩
 |obj _ _ _=>cases ha
 |ptr _=>cases ha
 |exc _ _ _=>cases ha
def bu:List T->Option T
 |[t,.ty c]=>(Ih t).bind fun a=>(KA a c).bind fun b=>some (.bl b)
 |[t,.tup cs]=>(Ih t).bind fun a=>(GH a cs).bind fun b=>some (.bl b)
 |_=>none
theorem gD:kc X (.builtin "isinstance") bu:=by
 intro pins s σ H xs us Q I rx ⟨F,ts,t,sm,r,e,q⟩
 unfold bu at e
 split at e
 ·obtain⟨a,e1,e⟩:=bind_some e
  obtain⟨b,e2,e⟩:=bind_some e
  cases e
  obtain⟨v,rr,rfl,h1,v2,r2,rfl,h2,rfl⟩:=r
  cases h2
  obtain⟨u1,u2,rfl,ra,rb⟩:=Vals.two rx
  cases rb
  obtain⟨Hh,Z,hh,hn⟩:=uX I sm h1 ra e1
  exact PySem.W.kia_one Z I.kIn hh (Bt e1 e2) hn fun tk=>⟨.bl b,H,I.tok tk,rfl,q F H _ (bB.refl sm) rfl⟩
 ·obtain⟨a,e1,e⟩:=bind_some e
  obtain⟨b,e2,e⟩:=bind_some e
  cases e
  obtain⟨v,rr,rfl,h1,v2,r2,rfl,⟨p,xs,rfl,h3,h4⟩,rfl⟩:=r
  obtain⟨u1,u2,rfl,ra,rb⟩:=Vals.two rx
  cases rb
  obtain⟨Hh,Z,hh,hn⟩:=uX I sm h1 ra e1
  obtain⟨its,rv,⟨o,g1,g2,n,g3⟩,_⟩:=I.tuple (cm sm h3)
  obtain⟨oc,od,odt,osl⟩:=o
  dsimp only at g2 g3
  subst g2 g3
  exact PySem.W.kia_tup Z I.kIn hh g1 (yJ e1 e2 h4 rv) hn fun tk=>⟨.bl b,H,I.tok tk,rfl,q F H _ (bB.refl sm) rfl⟩
 ·cases e
end
section
variable {X:Cx}{pos:Pos}
def K7:FE:=fun τ=>some (.dic,τ)
abbrev FO:=aI->Option (Option Int×aI)
def Df:FO:=fun τ=>some (none,τ)
def Jl (f:FE):FO:=fun τ=>(f τ).bind fun p=>match p.1 with | .int i=>some (some i,p.2) | _=>none
def FR (xs:List T)(lo hi:Option Int):List T:=(xs.drop (HT.J2 xs.length 0 lo)).take (HT.J2 xs.length xs.length hi-HT.J2 xs.length 0 lo)
def Mh (t:T)(lo hi:Option Int):Option T:=match t with
 | .lst xs=>some (.lst (FR xs lo hi))
 | .scr xs=>some (.lst (FR xs lo hi))
 | .tup xs=>if HT.J2 xs.length 0 lo=0/\HT.J2 xs.length xs.length hi=xs.length then none else some (.tup (FR xs lo hi))
 |_=>none
def Mf (f:FE)(fl fh:FO):FE:=fun τ=>(f τ).bind fun p=>(fl p.2).bind fun q=>(fh q.2).bind fun r=>(Mh p.1 q.1 r.1).bind fun t=>some (t,r.2)
theorem iL (i:Nat){p1 p2 p3:Pos}(hv:PE X (.Name x p1) (jn i))(he:SE X e f)
  (hbase:attributeBase (.Name x p1) "append" X.env (eval (.Name x p1) X.env)=eval (.Name x p1) X.env:=by rfl)
  (hfew:((backTo p3 (starEach [e] X.env)).all (fun x=>!x.1)&&(backToKw p3 (keywordEach [] X.env)).all (fun x=>x.1.isSome)&&decide ([e].length+([]:List Keyword).length+(if ([]:List Keyword).isEmpty then 0 else 1)<30))=true:=by rfl)
  (hline:(p2.endLine == p3.line)=true:=by rfl) (hs:starEach [e] X.env=(false,eval e X.env)::starEach [] X.env:=by rfl) (hpl:(backTo p3 (starEach [] X.env)).any (·.1)=false:=by rfl)
  (hsw:swapsWith (.Call (.Attribute (.Name x p1) "append" p2) [e] [] p3) none pos.line X.env=pure false:=by rfl):
  SS X (.Expr (.Call (.Attribute (.Name x p1) "append" p2) [e] [] p3) pos) (iW i f):=fun Y0 Y9 =>
 PS.weak (lH (qG PySem.F.plainAttrs_list PySem.F.slot_list_append PySem.F.type_list_append jV hv (eJ (he Y0 Y9) fX hs) hbase hfew hline hs hpl) hsw) fun D σ H hq__=>by
  obtain⟨F,τ,r,E,e1,q⟩:=hq__
  unfold iW at e1
  split at e1
  ·next ts0 h0 =>
   obtain⟨⟨t,τ1⟩,e2,e1⟩:=bind_some e1
   dsimp only at e1
   split at e1
   ·next ts h1 =>
    split at e1
    ·next hz =>
     cases e1
     obtain⟨v,g1,p,vs,rfl,g2,g3,g4,g5⟩:=E.sl i _ h0
     refine⟨_,g1,.inl ⟨rfl,vs,fq.of g2⟩,F,τ,t,τ1,E,e2,fun F' H' w E' s' r'=>?_⟩
     obtain⟨v',k1,p',vs',rfl,k2,k3,k4,k5⟩:=E'.sl i _ h1
     rw [g1] at k1;cases k1
     exact⟨p,vs',w,rfl,rfl,k2,by rw [k5.length];exact hz,q F' _ σ (E'.turnOwn h1 g1 (k5.append (.one r'))) s'⟩
    ·cases e1
   ·cases e1
  ·cases e1
def Hu (a b c:Int):Prop:=(0≤a/\a<2^62)/\(0≤b/\b<2^62)/\(1≤c/\c<2^29)
instance (a b c:Int):Decidable (Hu a b c):=inferInstanceAs (Decidable ((_/\_)/\(_/\_)/\_/\_))
end
def fy (b:Bool)(h:Heap)(it a:Addr)(i:Nat):Prop:=match b with
 |true=>h.IsListIter it a i
 |false=>h.IsTupleIter it a i
def iO (b:Bool)(h:Heap)(a:Addr)(xs:Array Value):Prop:=match b with
 |true=>h.IsList a xs
 |false=>h.IsTuple a xs
theorem fy.ext {b:Bool}{h h':Heap}{i:Nat}(x:fy b h it a i)(k:∀o,h.get? it=some o->h'.get? it=some o):fy b h' it a i:=by
 cases b with
 |true=>obtain⟨o,e,r⟩:=x;exact⟨o,k o e,r⟩
 |false=>obtain⟨o,e,r⟩:=x;exact⟨o,k o e,r⟩
theorem iO.ext {b:Bool}{h h':Heap}(x:iO b h a xs)(k:∀o,h.get? a=some o->h'.get? a=some o):iO b h' a xs:=by
 cases b with
 |true=>obtain⟨o,e,r⟩:=x;exact⟨o,k o e,r⟩
 |false=>obtain⟨o,e,r⟩:=x;exact⟨o,k o e,r⟩
theorem fy.obj {b:Bool}{i:Nat}(x:fy b h it a i):∃o,h.get? it=some o/\∀v,o.data≠.cell v:=by
 cases b with
 |true=>obtain⟨o,e,_,d⟩:=x;exact⟨o,e,fun v z=>by rw [d] at z;cases z⟩
 |false=>obtain⟨o,e,_,d⟩:=x;exact⟨o,e,fun v z=>by rw [d] at z;cases z⟩
section
variable {prog:Program}{w:World}{A:Around}{E:Value->Shared->Prop}{s:Shared}
theorem jH {b:Bool}{i:Nat}{Q:Value->Shared->Prop}(h1:fy b s.heap it a i)(h2:iO b s.heap a xs)(hx:xs[i]? = some x)
  (hQ:∀h',fy b h' it a (i+1)->Heap.SameBut it s.heap h'->Q x { s with heap:=h' }):wpAny (model prog w) A (Builtin.SmallTypes.nextOf (.ref it)) Q E s:=by
 cases b with
 |true=>exact wpAny_nextOf_list_item h1 h2 hx hQ
 |false =>
  have h1':s.heap.IsTupleIter it a i:=h1
  obtain⟨o,ho,hc,hd⟩:=id h1'
  obtain⟨ol,hol,_,nl,hdl⟩:=(show s.heap.IsTuple a xs from h2)
  unfold Builtin.SmallTypes.nextOf
  refine wpAny_bind (wpAny_callSpecial?_slot (name:=Str.ofString "__next__") h1'.typeIs F.slot_tuple_iterator_next (wpAny_call_entry F.slot_tuple_iterator_next h1'.typeIs F.entry_tuple_iterator_next (?_:wpAny _ _ (field (.ref it) 0 >>= _) _ _ s) (F.args_tuple_iterator_next_1 _)))
  refine wpAny_bind (wpAny_field ho hd (x:=.ref a) rfl (?_:wpAny _ _ (if (Value.ref a == Value.none)=true then _ else _) _ _ s))
  rw [if_neg (show ¬ ((Value.ref a == Value.none)=true) from Bool.false_ne_true)]
  refine (wpAny_bind (wpAny_field ho hd (x:=.int i 0) rfl ?_):wpAny _ _ (field (.ref it) 1 >>= _) _ _ s)
  refine wpAny_bind (wpAny_seqItems (a:=a) hol hdl ?_)
  simp only [Int.toNat_natCast,hx]
  refine wpAny_bind (wpAny_setField ho hd (by simp) (wpAny_pure ⟨x,rfl,wpAny_pure (hQ _ ⟨_,Heap.get?_update_self _ ho (Obj.isFreed_of_fields (Obj.data_mapFields hd _)),(Obj.cls_mapFields ..).trans hc,?_⟩ (Heap.SameBut.update ..))⟩))
  rw [Obj.data_mapFields hd]<;>simp [rawInt]
theorem oy {b:Bool}{i:Nat}(hh:A.handled=none)(h1:fy b s.heap it a i)(h2:iO b s.heap a xs)(hx:xs[i]? = none)
  (hE:∀h' e,Heap.ExtBut it s.heap h'->(∃o,h'.get? e=some o/\o.cls=.type "StopIteration")->E (.ref e) { s with heap:=h' }):wpAny (model prog w) A (Builtin.SmallTypes.nextOf (.ref it)) Q E s:=by
 cases b with
 |true=>exact wpAny_nextOf_list_end hh h1 h2 hx hE
 |false =>
  have h1':s.heap.IsTupleIter it a i:=h1
  obtain⟨o,ho,hc,hd⟩:=id h1'
  obtain⟨ol,hol,_,nl,hdl⟩:=(show s.heap.IsTuple a xs from h2)
  unfold Builtin.SmallTypes.nextOf
  refine wpAny_bind (wpAny_callSpecial?_slot (name:=Str.ofString "__next__") h1'.typeIs F.slot_tuple_iterator_next (wpAny_call_entry F.slot_tuple_iterator_next h1'.typeIs F.entry_tuple_iterator_next (?_:wpAny _ _ (field (.ref it) 0 >>= _) _ _ s) (F.args_tuple_iterator_next_1 _)))
  refine wpAny_bind (wpAny_field ho hd (x:=.ref a) rfl (?_:wpAny _ _ (if (Value.ref a == Value.none)=true then _ else _) _ _ s))
  rw [if_neg (show ¬ ((Value.ref a == Value.none)=true) from Bool.false_ne_true)]
  refine (wpAny_bind (wpAny_field ho hd (x:=.int i 0) rfl ?_):wpAny _ _ (field (.ref it) 1 >>= _) _ _ s)
  refine wpAny_bind (wpAny_seqItems (a:=a) hol hdl ?_)
  simp only [Int.toNat_natCast,hx]
  refine wpAny_bind (wpAny_rule (wpAny_bind (wpAny_setField ho hd (by simp) (wpAny_bind (m:=newExc (.type "StopIteration") []) ?_))))
  simp only [newExc,newTuple]
  refine wpAny_bind (wpAny_newObj_type (wpAny_bind (m:=firstArgMember _ _) (wpAny_of_eq (a:=Value.none) (by first | rfl | (simp only [firstArgMember];rfl)) (wpAny_newObj_type ?_ (by size_fits)))) (by size_fits))
  simp only [raiseNew]
  refine wpAny_bind (wpAny_handled ?_)
  first | rw [show A.in1.handled=none from hh] | rw [hh]
  exact wpAny_bind (wpAny_pure (wpAny_throw (hE _ _ (((Heap.SameBut.update ..).extBut.push _).push _) ⟨_,Heap.get?_push_size _ rfl,rfl⟩)))
variable {z TI TO i1 i2 l1 l2:Addr}{k:Nat}{xs ys:Array Value}{x y a b:Value}{c1 c2:Bool}
theorem CD {Q:Value->Shared->Prop}(D:ZipApart z TI TO i1 i2 l1 l2)(hz:IsZip s.heap z TI TO .none)(hI:IsPair s.heap TI (.ref i1) (.ref i2))(hO:IsPair s.heap TO a b)
  (h1:fy c1 s.heap i1 l1 k) (h2:fy c2 s.heap i2 l2 k) (g1:iO c1 s.heap l1 xs) (g2:iO c2 s.heap l2 ys) (hx:xs[k]? = some x) (hy:ys[k]? = some y)
  (hQ:∀h',IsZip h' z TI TO (rawInt s.heap.objs.size)->IsPair h' TO x y->fy c1 h' i1 l1 (k+1)->fy c2 h' i2 l2 (k+1)->IsPair h' s.heap.objs.size x y ->
   (∀c o,c≠z->c≠TO->c≠i1->c≠i2->s.heap.get? c=some o->h'.get? c=some o)->Q (.ref s.heap.objs.size) { s with heap:=h' }):
  wpAny (model prog w) A (Builtin.«zip.__next__» ⟨[.ref z],[]⟩) (fun fin s'=>∃v,fin=.done (.ret v)/\Q v s') E s:=by
 refine (wpAny_bind (wpAny_field hz rfl (x:=.bool false) rfl ?_):wpAny _ _ (field (.ref z) 2 >>= _) _ _ _)
 refine (wpAny_bind (wpAny_field hz rfl (x:=.ref TI) rfl ?_):wpAny _ _ (field (.ref z) 3 >>= _) _ _ _)
 refine wpAny_bind (wpAny_seqItems hI rfl ?_)
 refine (wpAny_bind ?_:wpAny _ _ (Builtin.SmallTypes.ownedTupleIsFree (.ref z) >>= _) _ _ _)
 unfold Builtin.SmallTypes.ownedTupleIsFree
 refine wpAny_bind (wpAny_field hz rfl (x:=.none) rfl (wpAny_pure ?_))
 simp only [if_true]
 refine wpAny_bind (wpAny_rule (wpAny_bind (wpAny_field hz rfl (x:=.ref TO) rfl (wpAny_bind (wpAny_setField_rec hz (by simp) fun ha za sa=>?_)))))
 replace za:IsZip ha z TI TO .ellipsis:=za
 refine wpAny_bind ?_
 simp only [List.zipIdx_cons,List.zipIdx_nil,List.forIn_cons,List.forIn_nil]
 refine wpAny_bind (wpAny_bind (wpAny_onRaise (?_:wpAny _ _ (Builtin.SmallTypes.nextOf (.ref i1) >>= _) _ _ _)))
 refine wpAny_bind (jH (h1.ext fun o e=>sa.extBut _ _ D.i1z e) (g1.ext fun o e=>sa.extBut _ _ D.l1z e) hx fun hb kb sb=>wpAny_pure ?_)
 have Ob:IsPair hb TO a b:=sb.extBut _ _ D.TOi1 (sa.extBut _ _ D.TOz hO)
 refine wpAny_bind (wpAny_seqItems Ob rfl (wpAny_bind (wpAny_updateSeq_pair Ob fun hc Oc sc=>wpAny_bind (wpAny_letGo (wpAny_pure ?_)))))
 replace Oc:IsPair hc TO x b:=Oc
 refine wpAny_bind (wpAny_bind (wpAny_onRaise (?_:wpAny _ _ (Builtin.SmallTypes.nextOf (.ref i2) >>= _) _ _ _)))
 refine wpAny_bind (jH (h2.ext fun o e=>sc.extBut _ _ D.TOi2.symm (sb.extBut _ _ D.i12.symm (sa.extBut _ _ D.i2z e))) (g2.ext fun o e=>sc.extBut _ _ D.l2TO (sb.extBut _ _ D.l2i1 (sa.extBut _ _ D.l2z e))) hy fun hd kd sd=>wpAny_pure ?_)
 have Od:IsPair hd TO x b:=sd.extBut _ _ D.TOi2 Oc
 refine wpAny_bind (wpAny_seqItems Od rfl (wpAny_bind (wpAny_updateSeq_pair Od fun he Oe se=>wpAny_bind (wpAny_letGo (wpAny_pure (wpAny_pure ?_))))))
 replace Oe:IsPair he TO x y:=Oe
 refine wpAny_bind (wpAny_seqItems Oe rfl (wpAny_bind (wpAny_newTuple ?_)))
 have ez:he.objs.size=s.heap.objs.size:=by rw [se.1,sd.1,sc.1,sb.1,sa.1]
 have ze:IsZip he z TI TO .ellipsis:=se.extBut _ _ D.TOz.symm (sd.extBut _ _ D.i2z.symm (sc.extBut _ _ D.TOz.symm (sb.extBut _ _ D.i1z.symm za)))
 have ke:∀c o,c≠z->c≠TO->c≠i1->c≠i2->s.heap.get? c=some o->he.get? c=some o:=fun c o n1 n2 n3 n4 e=>se.extBut _ _ n2 (sd.extBut _ _ n4 (sc.extBut _ _ n2 (sb.extBut _ _ n3 (sa.extBut _ _ n1 e))))
 have i1e:fy c1 he i1 l1 (k+1):=kb.ext fun o e=>se.extBut _ _ D.TOi1.symm (sd.extBut _ _ D.i12 (sc.extBut _ _ D.TOi1.symm e))
 have i2e:fy c2 he i2 l2 (k+1):=kd.ext fun o e=>se.extBut _ _ D.TOi2.symm e
 have zlt:z<he.objs.size:=Heap.lt_size ze
 refine (wpAny_bind ?_:wpAny _ _ (Builtin.SmallTypes.ownedTupleHandOut (.ref z) (.ref he.objs.size) >>= _) _ _ _)
 unfold Builtin.SmallTypes.ownedTupleHandOut
 have zf:IsZip (he.push { cls:=.type "tuple", data:=.seq #[x,y] }) z TI TO .ellipsis:=Heap.get?_push_of_some _ ze
 refine wpAny_bind (wpAny_setField_rec zf (by simp) fun hg zg sg=>?_)
 replace zg:IsZip hg z TI TO (rawInt he.objs.size):=zg
 refine wpAny_setField_rec zg (by simp) fun hh zh sh=>?_
 replace zh:IsZip hh z TI TO (rawInt he.objs.size):=zh
 have up:∀c o,c≠z->he.get? c=some o->hh.get? c=some o:=fun c o n e=>sh.extBut _ _ n (sg.extBut _ _ n (Heap.get?_push_of_some _ e))
 have tp:IsPair hh he.objs.size x y:=sh.extBut _ _ (Nat.ne_of_gt zlt) (sg.extBut _ _ (Nat.ne_of_gt zlt) (Heap.get?_push_size _ rfl))
 rw [ez] at zh tp
 refine wpAny_pure ⟨_,rfl,(?_:Q (.ref he.objs.size) _)⟩
 rw [ez]
 exact hQ hh zh (up _ _ D.TOz Oe) (i1e.ext fun o e=>up _ o D.i1z e) (i2e.ext fun o e=>up _ o D.i2z e) tp fun c o n1 n2 n3 n4 e=>up c o n1 (ke c o n1 n2 n3 n4 e)
theorem EF (hh:A.handled=none)(D:ZipApart z TI TO i1 i2 l1 l2)(hz:IsZip s.heap z TI TO .none)(hI:IsPair s.heap TI (.ref i1) (.ref i2))(hO:IsPair s.heap TO a b)
  (h1:fy c1 s.heap i1 l1 k) (h2:fy c2 s.heap i2 l2 k) (g1:iO c1 s.heap l1 xs) (g2:iO c2 s.heap l2 ys) (hend:xs[k]? = none\/ys[k]? = none)
  (hE:∀h' e,(∀c o,c≠z->c≠TO->c≠i1->c≠i2->s.heap.get? c=some o->h'.get? c=some o)->(∃o,h'.get? e=some o/\o.cls=.type "StopIteration")->E (.ref e) { s with heap:=h' }):
  wpAny (model prog w) A (Builtin.«zip.__next__» ⟨[.ref z],[]⟩) Q E s:=by
 refine (wpAny_bind (wpAny_field hz rfl (x:=.bool false) rfl ?_):wpAny _ _ (field (.ref z) 2 >>= _) _ _ _)
 refine (wpAny_bind (wpAny_field hz rfl (x:=.ref TI) rfl ?_):wpAny _ _ (field (.ref z) 3 >>= _) _ _ _)
 refine wpAny_bind (wpAny_seqItems hI rfl ?_)
 refine (wpAny_bind ?_:wpAny _ _ (Builtin.SmallTypes.ownedTupleIsFree (.ref z) >>= _) _ _ _)
 unfold Builtin.SmallTypes.ownedTupleIsFree
 refine wpAny_bind (wpAny_field hz rfl (x:=.none) rfl (wpAny_pure ?_))
 simp only [if_true]
 refine wpAny_bind (wpAny_rule (wpAny_bind (wpAny_field hz rfl (x:=.ref TO) rfl (wpAny_bind (wpAny_setField_rec hz (by simp) fun ha za sa=>?_)))))
 replace za:IsZip ha z TI TO .ellipsis:=za
 refine wpAny_bind ?_
 simp only [List.zipIdx_cons,List.zipIdx_nil,List.forIn_cons,List.forIn_nil]
 refine wpAny_bind (wpAny_bind (wpAny_onRaise (?_:wpAny _ _ (Builtin.SmallTypes.nextOf (.ref i1) >>= _) _ _ _)))
 cases hx:xs[k]? with
 |none =>
  refine wpAny_bind (oy hh (h1.ext fun o e=>sa.extBut _ _ D.i1z e) (g1.ext fun o e=>sa.extBut _ _ D.l1z e) hx fun hb e sb eo=>?_)
  obtain⟨oe,ho,hc⟩:=eo
  have zb:IsZip hb z TI TO .ellipsis:=sb _ _ D.i1z.symm za
  have ne:e≠z:=fun q=>by subst q;rw [zb] at ho;cases ho;simp at hc
  exact wpAny_setField_rec zb (by simp) fun hd _ sd=>hE hd e (fun c o n1 _ n3 _ q=>sd.extBut _ _ n1 (sb _ _ n3 (sa.extBut _ _ n1 q))) ⟨oe,sd.extBut _ _ ne ho,hc⟩
 |some x =>
  have hy:ys[k]? = none:=by rcases hend with h | h;rw [hx] at h;cases h;exact h
  refine wpAny_bind (jH (h1.ext fun o e=>sa.extBut _ _ D.i1z e) (g1.ext fun o e=>sa.extBut _ _ D.l1z e) hx fun hb kb sb=>wpAny_pure ?_)
  have Ob:IsPair hb TO a b:=sb.extBut _ _ D.TOi1 (sa.extBut _ _ D.TOz hO)
  refine wpAny_bind (wpAny_seqItems Ob rfl (wpAny_bind (wpAny_updateSeq_pair Ob fun hc Oc sc=>wpAny_bind (wpAny_letGo (wpAny_pure ?_)))))
  refine wpAny_bind (wpAny_bind (wpAny_onRaise (?_:wpAny _ _ (Builtin.SmallTypes.nextOf (.ref i2) >>= _) _ _ _)))
  refine wpAny_bind (oy hh (h2.ext fun o e=>sc.extBut _ _ D.TOi2.symm (sb.extBut _ _ D.i12.symm (sa.extBut _ _ D.i2z e))) (g2.ext fun o e=>sc.extBut _ _ D.l2TO (sb.extBut _ _ D.l2i1 (sa.extBut _ _ D.l2z e))) hy fun hd e sd eo=>?_)
  obtain⟨oe,ho,hk⟩:=eo
  have zd:IsZip hd z TI TO .ellipsis:=sd _ _ D.i2z.symm (sc.extBut _ _ D.TOz.symm (sb.extBut _ _ D.i1z.symm za))
  have ne:e≠z:=fun q=>by subst q;rw [zd] at ho;cases ho;simp at hk
  exact wpAny_setField_rec zd (by simp) fun hf _ sf=>hE hf e (fun c o n1 n2 n3 n4 q=>sf.extBut _ _ n1 (sd _ _ n4 (sc.extBut _ _ n2 (sb.extBut _ _ n3 (sa.extBut _ _ n1 q))))) ⟨oe,sf.extBut _ _ ne ho,hk⟩
theorem uf {Q:Option Value->Shared->Prop}(D:ZipApart z TI TO i1 i2 l1 l2)(hz:IsZip s.heap z TI TO .none)(hI:IsPair s.heap TI (.ref i1) (.ref i2))(hO:IsPair s.heap TO a b)
  (h1:fy c1 s.heap i1 l1 k) (h2:fy c2 s.heap i2 l2 k) (g1:iO c1 s.heap l1 xs) (g2:iO c2 s.heap l2 ys) (hx:xs[k]? = some x) (hy:ys[k]? = some y)
  (hQ:∀h',IsZip h' z TI TO (rawInt s.heap.objs.size)->IsPair h' TO x y->fy c1 h' i1 l1 (k+1)->fy c2 h' i2 l2 (k+1)->IsPair h' s.heap.objs.size x y ->
   (∀c o,c≠z->c≠TO->c≠i1->c≠i2->s.heap.get? c=some o->h'.get? c=some o)->Q (some (.ref s.heap.objs.size)) { s with heap:=h' }):wpAny (model prog w) A (pyNext (.ref z)) Q E s:=by
 have hT:s.TypeIs (.ref z) "zip" := ⟨_,hz,rfl⟩
 unfold pyNext
 exact wpAny_bind (wpAny_attempt (wpAny_callSpecial?_slot (name:=Str.ofString "__next__") hT F.slot_zip_next (wpAny_call_entry F.slot_zip_next hT F.entry_zip_next
  (CD D hz hI hO h1 h2 g1 g2 hx hy fun h' a1 a2 a3 a4 a5 a6=>wpAny_pure (hQ h' a1 a2 a3 a4 a5 a6)) (F.args_zip_next_1 _))))
theorem vM {Q:Option Value->Shared->Prop}(hh:A.handled=none)(D:ZipApart z TI TO i1 i2 l1 l2)(hz:IsZip s.heap z TI TO .none)(hI:IsPair s.heap TI (.ref i1) (.ref i2))(hO:IsPair s.heap TO a b)
  (h1:fy c1 s.heap i1 l1 k) (h2:fy c2 s.heap i2 l2 k) (g1:iO c1 s.heap l1 xs) (g2:iO c2 s.heap l2 ys) (hend:xs[k]? = none\/ys[k]? = none)
  (hQ:∀h',(∀c o,c≠z->c≠TO->c≠i1->c≠i2->s.heap.get? c=some o->h'.get? c=some o)->Q none { s with heap:=h' }):wpAny (model prog w) A (pyNext (.ref z)) Q E s:=by
 have hT:s.TypeIs (.ref z) "zip" := ⟨_,hz,rfl⟩
 unfold pyNext
 refine wpAny_bind (wpAny_attempt (wpAny_callSpecial?_slot (name:=Str.ofString "__next__") hT F.slot_zip_next (wpAny_call_entry F.slot_zip_next hT F.entry_zip_next
  (EF hh D hz hI hO h1 h2 g1 g2 hend fun h' e hk eo=>?_) (F.args_zip_next_1 _))))
 obtain⟨o,ho,hc⟩:=eo
 exact wpAny_bind (wpAny_isInstance (T := "StopIteration") (b:=true) ⟨o,ho,hc⟩ isSubtype_stop (wpAny_pure (hQ _ hk)))
end
def wQ (b:Bool)(l:Addr):Obj:=match b with
 |true=>{ cls:=.type "list_iterator", data:=.fields #[.ref l,.int 0 0] }
 |false=>{ cls:=.type "tuple_iterator", data:=.fields #[.ref l,.int 0 0] }
theorem yG {b:Bool}{l it:Addr}{h:Heap}(e:h.get? it=some (wQ b l)):fy b h it l 0:=by
 cases b with
 |true=>exact⟨_,e,rfl,rfl⟩
 |false=>exact⟨_,e,rfl,rfl⟩
abbrev KJ (h:Heap)(c1:Bool)(l1:Addr):Heap:=h.push (wQ c1 l1)
abbrev KL (h:Heap)(c1 c2:Bool)(l1 l2:Addr):Heap:=(KJ h c1 l1).push (wQ c2 l2)
abbrev KN (h:Heap)(c1 c2:Bool)(l1 l2:Addr):Heap:=(KL h c1 c2 l1 l2).push { cls:=.type "tuple", data:=.seq #[.ref h.objs.size,.ref (KJ h c1 l1).objs.size] }
abbrev KO (h:Heap)(c1 c2:Bool)(l1 l2:Addr):Heap:=(KN h c1 c2 l1 l2).push { cls:=.type "tuple", data:=.seq #[.none,.none] }
abbrev Ii (h:Heap)(c1 c2:Bool)(l1 l2:Addr):Heap:=(KO h c1 c2 l1 l2).push { cls:=.type "zip", data:=.fields #[.none,.bool false,.bool false,.ref (KL h c1 c2 l1 l2).objs.size,.ref (KN h c1 c2 l1 l2).objs.size] }
abbrev AQ (c1 c2:Bool)(l1 l2:Addr)(xs ys:Array Value):Prop:=Meets (Builtin.«zip.__new__» ⟨[.type "zip", .ref l1,.ref l2],[]⟩) (fun _ R s=>iO c1 s.heap l1 xs/\iO c2 s.heap l2 ys /\
   R (.ok (.ret (.ref (KO s.heap c1 c2 l1 l2).objs.size))) { s with heap:=Ii s.heap c1 c2 l1 l2 })
theorem xY (l1 l2:Addr)(xs ys:Array Value):AQ true true l1 l2 xs ys:=.of_wp fun prog w A R s h=>by
 obtain⟨hp,g,d,tk,os⟩:=s
 obtain⟨q1,q2,h⟩:=h
 have hsub:=sub_zip
 have p1:Heap.IsList (Shared.heap ⟨hp,g,d,tk,os⟩) l1 xs:=q1
 have p2:Heap.IsList (Shared.heap ⟨hp.push { cls:=.type "list_iterator", data:=.fields #[.ref l1,.int 0 0] },g,d,tk,os⟩) l2 ys:=Heap.IsList.push q2 _
 wp_walk using wpAny_pyIter_list p1,wpAny_pyIter_list p2
 exact⟨_,rfl,h⟩
theorem xX (l1 l2:Addr)(xs ys:Array Value):AQ true false l1 l2 xs ys:=.of_wp fun prog w A R s h=>by
 obtain⟨hp,g,d,tk,os⟩:=s
 obtain⟨q1,q2,h⟩:=h
 have hsub:=sub_zip
 have p1:Heap.IsList (Shared.heap ⟨hp,g,d,tk,os⟩) l1 xs:=q1
 have p2:Heap.IsTuple (Shared.heap ⟨hp.push { cls:=.type "list_iterator", data:=.fields #[.ref l1,.int 0 0] },g,d,tk,os⟩) l2 ys:=Heap.IsTuple.push q2 _
 wp_walk using wpAny_pyIter_list p1,wpAny_pyIter_tuple p2
 exact⟨_,rfl,h⟩
theorem xW (l1 l2:Addr)(xs ys:Array Value):AQ false true l1 l2 xs ys:=.of_wp fun prog w A R s h=>by
 obtain⟨hp,g,d,tk,os⟩:=s
 obtain⟨q1,q2,h⟩:=h
 have hsub:=sub_zip
 have p1:Heap.IsTuple (Shared.heap ⟨hp,g,d,tk,os⟩) l1 xs:=q1
 have p2:Heap.IsList (Shared.heap ⟨hp.push { cls:=.type "tuple_iterator", data:=.fields #[.ref l1,.int 0 0] },g,d,tk,os⟩) l2 ys:=Heap.IsList.push q2 _
 wp_walk using wpAny_pyIter_tuple p1,wpAny_pyIter_list p2
 exact⟨_,rfl,h⟩
theorem xV (l1 l2:Addr)(xs ys:Array Value):AQ false false l1 l2 xs ys:=.of_wp fun prog w A R s h=>by
 obtain⟨hp,g,d,tk,os⟩:=s
 obtain⟨q1,q2,h⟩:=h
 have hsub:=sub_zip
 have p1:Heap.IsTuple (Shared.heap ⟨hp,g,d,tk,os⟩) l1 xs:=q1
 have p2:Heap.IsTuple (Shared.heap ⟨hp.push { cls:=.type "tuple_iterator", data:=.fields #[.ref l1,.int 0 0] },g,d,tk,os⟩) l2 ys:=Heap.IsTuple.push q2 _
 wp_walk using wpAny_pyIter_tuple p1,wpAny_pyIter_tuple p2
 exact⟨_,rfl,h⟩
theorem qg (c1 c2:Bool)(l1 l2:Addr)(xs ys:Array Value):AQ c1 c2 l1 l2 xs ys:=by
 cases c1<;>cases c2
 ·exact xV l1 l2 xs ys
 ·exact xW l1 l2 xs ys
 ·exact xX l1 l2 xs ys
 ·exact xY l1 l2 xs ys
section
variable {prog:Program}{w:World}{A:Around}{E:Value->Shared->Prop}{s:Shared}
theorem AU {c1 c2:Bool}{Q:Value->Shared->Prop}(q1:iO c1 s.heap l1 xs)(q2:iO c2 s.heap l2 ys)
  (h:∀h',IsZip h' (s.heap.objs.size+4) (s.heap.objs.size+2) (s.heap.objs.size+3) .none->IsPair h' (s.heap.objs.size+2) (.ref s.heap.objs.size) (.ref (s.heap.objs.size+1)) ->
   IsPair h' (s.heap.objs.size+3) .none .none->fy c1 h' s.heap.objs.size l1 0->fy c2 h' (s.heap.objs.size+1) l2 0->(∀c o,s.heap.get? c=some o->h'.get? c=some o)->Q (.ref (s.heap.objs.size+4)) { s with heap:=h' }):
  wpAny (model prog w) A (call (.type "zip") [.ref l1,.ref l2]) Q E s:=by
 refine callType_new F.called_zip (by decide) (F.typeCall_zip_2 _ _) (F.newCall_zip_2 _ _) (fun obj=>F.args_object_init_3 obj _ _) F.entry_zip_new (qg c1 c2 l1 l2 xs ys) ⟨q1,q2,?_⟩
 have z1:(KJ s.heap c1 l1).objs.size=s.heap.objs.size+1:=Heap.size_push ..
 have z2:(KL s.heap c1 c2 l1 l2).objs.size=s.heap.objs.size+2:=by rw [Heap.size_push,z1]
 have z3:(KN s.heap c1 c2 l1 l2).objs.size=s.heap.objs.size+3:=by rw [Heap.size_push,z2]
 have z4:(KO s.heap c1 c2 l1 l2).objs.size=s.heap.objs.size+4:=by rw [Heap.size_push,z3]
 have p:∀{h:Heap} {o:Obj} {c:Addr} {u:Obj},h.get? c=some u->(h.push o).get? c=some u:=fun e=>Heap.get?_push_of_some _ e
 have n1:(wQ c1 l1).isFreed=false:=by cases c1<;>rfl
 have n2:(wQ c2 l2).isFreed=false:=by cases c2<;>rfl
 have g5:(Ii s.heap c1 c2 l1 l2).get? (KO s.heap c1 c2 l1 l2).objs.size=some _:=Heap.get?_push_size _ rfl
 have g4:(Ii s.heap c1 c2 l1 l2).get? (KN s.heap c1 c2 l1 l2).objs.size=some _:=p (Heap.get?_push_size _ rfl)
 have g3:(Ii s.heap c1 c2 l1 l2).get? (KL s.heap c1 c2 l1 l2).objs.size=some _:=p (p (Heap.get?_push_size _ rfl))
 have g2:(Ii s.heap c1 c2 l1 l2).get? (KJ s.heap c1 l1).objs.size=some (wQ c2 l2):=p (p (p (Heap.get?_push_size _ n2)))
 have g1:(Ii s.heap c1 c2 l1 l2).get? s.heap.objs.size=some (wQ c1 l1):=p (p (p (p (Heap.get?_push_size _ n1))))
 show _/\_
 rw [z2,z3,z4] at g5
 rw [z1,z2] at g3
 rw [z3] at g4
 rw [z1] at g2
 rw [z4]
 exact⟨⟨_,g5,rfl⟩,h _ g5 g3 g4 (yG g1) (yG g2) fun c o x=>p (p (p (p (p x))))⟩
end
def uj (b:Bool)(K:PySem.W.Frag)(H:Hp)(a:Addr)(xs:List V):Prop:=match b with
 |true=>fq K H a xs
 |false=>kQ K H a xs
def KW (K:PySem.W.Frag)(c1 c2:Bool)(l1 l2:Addr):It:=
  ⟨fun i H=>∃xs ys x y,uj c1 K H l1 xs/\uj c2 K H l2 ys/\xs[i]? = some x/\ys[i]? = some y,
   fun i H v H'=>∃p x y,v=.ref p/\H p=none/\H'=upd H p (.tup [x,y])/\(∀xs,uj c1 K H l1 xs->xs[i]? = some x)/\∀ys,uj c2 K H l2 ys->ys[i]? = some y,
   fun i H=>∃xs ys,uj c1 K H l1 xs/\uj c2 K H l2 ys/\(xs.length≤i\/ys.length≤i)⟩
section
variable {X:Cx}{pins:List (Addr×Obj)}{σ:L2.St}{H:Hp}{s:Shared}
theorem jl {b:Bool}(I:Inv X pins σ H s)(h:uj b X.K H a xs):∃its:List Value,Vals xs its/\iO b s.heap a its.toArray:=by
 cases b with
 |true=>obtain⟨its,r,p,_⟩:=I.list h;exact⟨its,r,p.isList⟩
 |false=>obtain⟨its,r,p,_⟩:=I.tuple h;exact⟨its,r,p⟩
theorem zx {b:Bool}(I:Inv X pins σ H s)(h:uj b X.K H a xs)(h':uj b X.K H a ys):xs=ys:=by
 cases b with
 |true=>exact I.list_inj h h'
 |false=>exact I.tuple_inj h h'
end
structure Me (c1 c2:Bool)(z TI TO i1 i2 l1 l2:Addr)(i:Nat)(h:Heap):Prop where
 hz:IsZip h z TI TO .none
 hI:IsPair h TI (.ref i1) (.ref i2)
 hO:∃a b,IsPair h TO a b
 h1:fy c1 h i1 l1 i
 h2:fy c2 h i2 l2 i
theorem pj {h':Heap}{fp:List Addr}(I:Inv X pins σ H s)(hf:∀b∈fp,qZ X pins H b)(k:∀b o,b∉fp->s.heap.get? b=some o->h'.get? b=some o):Inv X pins σ H { s with heap:=h' }:=by
 have nit:∀b u,H b=some u->b∉fp:=fun b u e z=>by rw [(hf b z).1] at e;cases e
 refine I.step (g':=s.gens) (d':=s.drawn) (t':=s.toks) (ch:=fp) (fun b hb=>?_) (fun b o _ _ hc e _=>k b o hc e) (fun b o _ _ hc e _=>⟨o.slots,k b o hc e⟩) (fun _ _ _ _ n=>n)
  (fun b o hc e=>⟨o,k b o hc e⟩) (fun _ _ e=>e) (fun _ _ _ e=>e) (fun b ps e=>⟨#[],by rw [e];simp⟩) (fun m hm=>?_) (fun b u e=>?_) I.bare
 ·obtain⟨_,f1,_,f3,f4,f5⟩:=hf b hb
  exact⟨f3,f1,f4,f5⟩
 ·obtain⟨o,es,ep,ho,r⟩:=hm
  exact⟨o,es,ep,k _ o (fun z=>(hf _ z).2.1 rfl) ho,r⟩
 ·refine (I.hok b u e).stay (fun c v hc q=>k c v ?_ q) (fun _ q=>q) fun _ _ q=>q
  rcases hc with z | z
  ·rw [z];exact nit b u e
  ·exact nit c _ z
theorem Cu {P:Program}{w:World}{K:PySem.W.Frag}{elts:List Expr}{kx:Nat}{px:Pos}{c1 c2:Bool}{z TI TO i1 i2 l1 l2:Addr}(D:ZipApart z TI TO i1 i2 l1 l2):
  Turn P w K (.Tuple elts kx px) (KW K c1 c2 l1 l2) [z,TI,TO,i1,i2] z (Me c1 c2 z TI TO i1 i2 l1 l2) where
 mem:=by simp
 obj:=fun i h st b hb=>by
  simp only [List.mem_cons,List.not_mem_nil,or_false] at hb
  rcases hb with rfl | rfl | rfl | rfl | rfl
  ·exact⟨_,st.hz,fun v q=>nomatch (show Data.fields _=Data.cell v from q)⟩
  ·exact⟨_,st.hI,fun v q=>nomatch (show Data.seq _ _=Data.cell v from q)⟩
  ·obtain⟨a,b,e⟩:=st.hO
   exact⟨_,e,fun v q=>nomatch (show Data.seq _ _=Data.cell v from q)⟩
  ·exact st.h1.obj
  ·exact st.h2.obj
 keep:=fun i h h' st k=>by
  obtain⟨a,b,e⟩:=st.hO
  exact⟨k z (by simp) _ st.hz,k TI (by simp) _ st.hI,⟨a,b,k TO (by simp) _ e⟩,st.h1.ext fun o e=>k i1 (by simp) o e,st.h2.ext fun o e=>k i2 (by simp) o e⟩
 item:=fun X hP hw hK hc i pins s σ H E I hf st hg=>by
  subst hP hw hK
  obtain⟨xs,ys,x,y,q1,q2,g1,g2⟩:=hg
  obtain⟨its,r1,p1⟩:=jl I q1
  obtain⟨jts,r2,p2⟩:=jl I q2
  obtain⟨u,e1,ru⟩:=r1.get g1
  obtain⟨v,e2,rv⟩:=r2.get g2
  obtain⟨a,b,hO⟩:=st.hO
  refine uf D st.hz st.hI hO st.h1 st.h2 p1 p2 (x:=u) (y:=v) (by simpa using e1) (by simpa using e2) fun h' a1 a2 a3 a4 a5 a6=>⟨_,rfl,?_⟩
  refine wpAny_letOwnedTupleGo_zip (s:={ s with heap:=h' }) a1 fun h2 b1 b2=>?_
  have kp:∀b o,b∉[z,TI,TO,i1,i2]->s.heap.get? b=some o->h2.get? b=some o:=fun b o hb e=>by
   simp only [List.mem_cons,List.not_mem_nil,or_false,not_or] at hb
   exact b2.extBut _ _ hb.1 (a6 b o hb.1 hb.2.2.1 hb.2.2.2.1 hb.2.2.2.2 e)
  have lz:z<s.heap.objs.size:=Heap.lt_size st.hz
  have pr:IsPair h2 s.heap.objs.size u v:=b2.extBut _ _ (Nat.ne_of_gt lz) a5
  have fr:H s.heap.objs.size=none:=I.hok.fresh (Nat.le_refl _)
  have hokA:mK X.prog X.w (upd H s.heap.objs.size (.tup [x,y])) h2:=by
   intro c o e
   by_cases hcz:c=s.heap.objs.size
   ·subst hcz
    rw [bo] at e;cases e
    exact⟨by show 2≤sizeLine;decide,[u,v],.cons ru (.cons rv .nil),_,pr,rfl,_,rfl⟩
   ·rw [aP hcz] at e
    have nf:∀d o',H d=some o'->d∉[z,TI,TO,i1,i2]:=fun d o' ed hd=>by rw [(hf d hd).1] at ed;cases ed
    have up:∀d o',H d=some o'->upd H s.heap.objs.size (.tup [x,y]) d=some o':=fun d o' ed=>by rw [aP (bz ed fr)];exact ed
    refine (I.hok c o e).stay (fun d v' hd q=>kp d v' ?_ q) (fun d q=>up d _ q) fun d xs q=>up d _ q
    rcases hd with rfl | hd
    ·exact nf _ o e
    ·exact nf d _ hd
  have J:Inv X pins σ (upd H s.heap.objs.size (.tup [x,y])) { s with heap:=h2 }:=by
   have ne:∀b o,s.heap.get? b=some o->b≠s.heap.objs.size:=fun b o e=>Nat.ne_of_lt (Heap.lt_size e)
   refine I.step (g':=s.gens) (d':=s.drawn) (t':=s.toks) (ch:=[z,TI,TO,i1,i2]) (fun b hb=>?_) (fun b o _ _ hc e _=>kp b o hc e) (fun b o _ _ hc e _=>⟨o.slots,kp b o hc e⟩) (fun b o _ e n=>by rw [aP (ne b o e)];exact n)
    (fun b o hc e=>⟨o,kp b o hc e⟩) (fun b xs e=>by rw [aP (bz e fr)];exact e) (fun b o u e=>by rw [aP (bz e fr)];exact e) (fun b ps e=>⟨#[],by rw [aP (bz e fr),e];simp⟩) (fun m hm=>?_) hokA I.bare
   ·obtain⟨_,f1,_,f3,f4,f5⟩:=hf b hb
    exact⟨f3,f1,f4,f5⟩
   ·obtain⟨o,es,ep,ho,r⟩:=hm
    exact⟨o,es,ep,kp _ o (fun q=>(hf _ q).2.1 rfl) ho,r⟩
  refine⟨.ref s.heap.objs.size,_,J,rfl,⟨_,x,y,rfl,fr,rfl,fun xs' h=>by rw [zx I h q1];exact g1,fun ys' h=>by rw [zx I h q2];exact g2⟩,?_,fun b hb=>?_⟩
  ·exact⟨b1,b2.extBut _ _ D.TIz (a6 _ _ D.TIz D.TITO D.TIi1 D.TIi2 st.hI),⟨_,_,b2.extBut _ _ D.TOz a2⟩,a3.ext fun o e=>b2.extBut _ _ D.i1z e,a4.ext fun o e=>b2.extBut _ _ D.i2z e⟩
  ·obtain⟨o,e,_⟩:∃o,s.heap.get? b=some o/\True:=by
    simp only [List.mem_cons,List.not_mem_nil,or_false] at hb
    rcases hb with rfl | rfl | rfl | rfl | rfl
    ·exact⟨_,st.hz,trivial⟩
    ·exact⟨_,st.hI,trivial⟩
    ·exact⟨_,hO,trivial⟩
    ·obtain⟨o,e,_⟩:=st.h1.obj;exact⟨o,e,trivial⟩
    ·obtain⟨o,e,_⟩:=st.h2.obj;exact⟨o,e,trivial⟩
   rw [aP (Nat.ne_of_lt (Heap.lt_size e))]
   exact (hf b hb).1
 done:=fun X hP hw hK hc i pins s σ H E I hf st hg=>by
  subst hP hw hK
  obtain⟨xs,ys,q1,q2,g⟩:=hg
  obtain⟨its,r1,p1⟩:=jl I q1
  obtain⟨jts,r2,p2⟩:=jl I q2
  obtain⟨a,b,hO⟩:=st.hO
  have n1:=r1.length
  have n2:=r2.length
  refine vM (I.ok.hd hc) D st.hz st.hI hO st.h1 st.h2 p1 p2 ?_ fun h' k=>⟨rfl,pj I hf fun b o hb e=>?_⟩
  ·rcases g with g | g
   ·exact .inl (by simp;omega)
   ·exact .inr (by simp;omega)
  ·simp only [List.mem_cons,List.not_mem_nil,or_false,not_or] at hb
   exact k b o hb.1 hb.2.2.1 hb.2.2.2.1 hb.2.2.2.2 e
 self:=fun _ _ _ _ _ st h=>wpAny_pyIter_zip st.hz h
def J4:T->Option (Bool×List T)
 | .lst ts=>some (true,ts)
 | .scr ts=>some (true,ts)
 | .tup ts=>some (false,ts)
 |_=>none
theorem zv {K:PySem.W.Frag}{F:Hp}{t:T}{v:V}{b:Bool}{ts:List T}(r:Rep K F t v)(e:J4 t=some (b,ts)):∃a xs,v=.ref a/\uj b K F a xs/\aX K F ts xs:=by
 cases t<;>simp only [J4] at e<;>cases e
 ·exact r
 ·obtain⟨a,xs,h1,h2,h3⟩:=r
  exact⟨a,xs,h1,fq.of h2,h3⟩
 ·exact r
theorem uj.same {b:Bool}{K:PySem.W.Frag}{H H':Hp}{a:Addr}{xs:List V}(s:aW H H')(h:uj b K H a xs):uj b K H' a xs:=by
 cases b with
 |true=>exact s.seq h
 |false=>exact cm s h
def iN:List T->List T->List T
 |x::xs,y::ys=>.tup [x,y]::iN xs ys
 |_,_=>[]
theorem mX:∀(xs ys:List T),(iN xs ys).length=min xs.length ys.length
 |[],_=>by simp [iN]
 |_::_,[]=>by simp [iN]
 |x::xs,y::ys=>by simp [iN,mX xs ys]
theorem pA:∀(xs ys:List T) (i:Nat) (t:T),(iN xs ys)[i]? = some t->∃x y,xs[i]? = some x/\ys[i]? = some y/\t=.tup [x,y]
 |[],_,i,t,e=>by simp [iN] at e
 |_::_,[],i,t,e=>by simp [iN] at e
 |x::xs,y::ys,0,t,e=>by simp [iN] at e;exact⟨x,y,rfl,rfl,e.symm⟩
 |x::xs,y::ys,i+1,t,e=>by
  obtain⟨a,b,h1,h2,h3⟩:=pA xs ys i t (by simpa [iN] using e)
  exact⟨a,b,by simpa using h1,by simpa using h2,h3⟩
theorem AE {K:PySem.W.Frag}{F:Hp}{c1 c2:Bool}{l1 l2:Addr}{xs ys:List V}{ts us:List T}(h1:uj c1 K F l1 xs)(r1:aX K F ts xs)(h2:uj c2 K F l2 ys)(r2:aX K F us ys):Walks K F (iN ts us) (KW K c1 c2 l1 l2):=by
 refine⟨fun i t F1 H1 e s1 s2=>?_,fun i t F1 H1 x H2 e s1 s2 y=>?_,fun F1 H1 s1 s2=>⟨xs,ys,h1.same (s1.trans s2),h2.same (s1.trans s2),?_⟩⟩
 ·obtain⟨a,b,e1,e2,rfl⟩:=pA ts us i t e
  obtain⟨v,g1,_⟩:=r1.get e1
  obtain⟨w,g2,_⟩:=r2.get e2
  exact⟨xs,ys,v,w,h1.same (s1.trans s2),h2.same (s1.trans s2),g1,g2⟩
 ·obtain⟨p,v,w,rfl,hp,rfl,q1,q2⟩:=y
  obtain⟨a,b,e1,e2,rfl⟩:=pA ts us i t e
  obtain⟨v',g1,k1⟩:=r1.get e1
  obtain⟨w',g2,k2⟩:=r2.get e2
  have m1:=q1 xs (h1.same (s1.trans s2))
  have m2:=q2 ys (h2.same (s1.trans s2))
  rw [g1] at m1;cases m1
  rw [g2] at m2;cases m2
  have gr:=bB.new (.tup [v,w]) s2 hp
  exact⟨_,gr,p,_,rfl,kQ.of bo,v,[w],rfl,Rep.mono (s1.trans gr.sF) k1,w,[],rfl,Rep.mono (s1.trans gr.sF) k2,rfl⟩
 ·rw [mX,r1.length,r2.length]
  omega
def dq (g:FA):FA:=fun τ=>(g τ).bind fun p=>match p.1 with
 |[a,b]=>(J4 a).bind fun x=>(J4 b).bind fun y=>some (iN x.2 y.2,p.2)
 |_=>none
theorem kK {X:Cx}{a b:Expr}{p pos:Pos}{ga:FA}{elts:List Expr}{kx:Nat}{px:Pos}(hg:Gl X "zip")(hm:X.mg "zip" = none)(ha:SA X [a,b] ga)(hs:starEach [a,b] X.env=(false,eval a X.env)::starEach [b] X.env:=by rfl)
  (hs2:(backTo pos (starEach [b] X.env)).any (·.1)=false:=by rfl):SI X (.Tuple elts kx px) (.Call (.Name "zip" p) [a,b] [] pos) (dq ga):=by
 intro Y0 Y9 pins s σ H R I ⟨F,τ,ts,τ',E,e1,q⟩
 obtain⟨⟨x,τ1⟩,e2,e1⟩:=bind_some e1
 dsimp only at e1
 split at e1
 ·next t u =>
  obtain⟨⟨c1,us⟩,e3,e1⟩:=bind_some e1
  obtain⟨⟨c2,ws⟩,e4,e1⟩:=bind_some e1
  cases e1
  refine Call_ (jE I hg hm (show bootBuiltins "zip" = some (.type "zip") from rfl) (PyProof.Rows.callWith_type1 (dB (ha Y0 Y9 pos pins s σ H (fun vs H'=>∃l1 l2 xs ys,vs=[.ref l1,.ref l2]/\uj c1 X.K H' l1 xs/\uj c2 X.K H' l2 ys/\R (KW X.K c1 c2 l1 l2) H') I ⟨F,τ,_,_,E,e2,fun F' H' vs E' s' r'=>?_⟩) fun vs s1 ⟨ws',H1,I1,r1,q1⟩=>?_) hs hs2))
  ·obtain⟨v1,r1,rfl,k1,v2,r2,rfl,k2,rfl⟩:=r'
   obtain⟨l1,xs,rfl,h1,h2⟩:=zv k1 e3
   obtain⟨l2,ys,rfl,h3,h4⟩:=zv k2 e4
   exact⟨l1,l2,xs,ys,rfl,h1.same E'.g.fh,h3.same E'.g.fh,q F' H' _ E' s' (AE h1 h2 h3 h4)⟩
  ·obtain⟨l1,l2,xs,ys,rfl,h1,h2,q1⟩:=q1
   cases r1 with
   |cons ra rr =>
    cases rr with
    |cons rb rr =>
     cases rr;cases ra;cases rb
     obtain⟨its,_,p1⟩:=jl I1 h1
     obtain⟨jts,_,p2⟩:=jl I1 h2
     refine AU p1 p2 fun h' a1 a2 a3 a4 a5 kp=>wpAny_pyIter_zip (s:={ s1 with heap:=h' }) a1 ?_
     have lt:∀{c:Bool} {l:Addr} {zs:Array Value},iO c s1.heap l zs->l<s1.heap.objs.size:=fun {c l zs} h=>by
      cases c with
      |true=>obtain⟨o,e,_⟩:=h;exact Heap.lt_size e
      |false=>obtain⟨o,e,_⟩:=h;exact Heap.lt_size e
     have n1:@LT.lt Nat _ l1 s1.heap.objs.size:=lt p1
     have n2:@LT.lt Nat _ l2 s1.heap.objs.size:=lt p2
     have J:Inv X pins σ H1 { s1 with heap:=h' }:=I1.kept (t':=s1.toks) kp
     refine⟨_,[_,_,_,_,_],_,_,H1,rfl,J,Cu (c1:=c1) (c2:=c2) (z:=s1.heap.objs.size+4) (TI:=s1.heap.objs.size+2) (TO:=s1.heap.objs.size+3) (i1:=s1.heap.objs.size) (i2:=s1.heap.objs.size+1) (l1:=l1) (l2:=l2) ?_,⟨a1,a2,⟨_,_,a3⟩,a4,a5⟩,fun b hb=>?_,q1⟩
     ·constructor<;>(refine (?_:@Ne Nat _ _);omega)
     ·have hb':s1.heap.objs.size≤b:=by
       simp only [List.mem_cons,List.not_mem_nil,or_false] at hb
       rcases hb with rfl | rfl | rfl | rfl | rfl<;>omega
      exact I1.fpOk hb' (I1.hok.fresh hb')
 ·cases e1
theorem uP:bu [.non,.ty "int"]=some (.bl false):=rfl
theorem sq:bu [.non,.ty "bool"]=some (.bl false):=rfl
theorem uQ:bu [.non,.ty "str"]=some (.bl false):=rfl
theorem su:bu [.non,.ty "list"]=some (.bl false):=rfl
theorem pP:bu [.non,.ty "tuple"]=some (.bl false):=rfl
theorem sr:bu [.non,.ty "dict"]=some (.bl false):=rfl
theorem wL:bu [.non,.tup [.ty "list", .ty "tuple"]]=some (.bl false):=rfl
theorem wG {b:Bool}:bu [(.bl b),.ty "int"]=some (.bl true):=rfl
theorem uG {b:Bool}:bu [(.bl b),.ty "bool"]=some (.bl true):=rfl
theorem wH {b:Bool}:bu [(.bl b),.ty "str"]=some (.bl false):=rfl
theorem uI {b:Bool}:bu [(.bl b),.ty "list"]=some (.bl false):=rfl
theorem rT {b:Bool}:bu [(.bl b),.ty "tuple"]=some (.bl false):=rfl
theorem uH {b:Bool}:bu [(.bl b),.ty "dict"]=some (.bl false):=rfl
theorem zV {b:Bool}:bu [(.bl b),.tup [.ty "list", .ty "tuple"]]=some (.bl false):=rfl
theorem uL {i:Int}:bu [(.int i),.ty "int"]=some (.bl true):=rfl
theorem rY {i:Int}:bu [(.int i),.ty "bool"]=some (.bl false):=rfl
theorem uM {i:Int}:bu [(.int i),.ty "str"]=some (.bl false):=rfl
theorem si {i:Int}:bu [(.int i),.ty "list"]=some (.bl false):=rfl
theorem pN {i:Int}:bu [(.int i),.ty "tuple"]=some (.bl false):=rfl
theorem rZ {i:Int}:bu [(.int i),.ty "dict"]=some (.bl false):=rfl
theorem wJ {i:Int}:bu [(.int i),.tup [.ty "list", .ty "tuple"]]=some (.bl false):=rfl
theorem uT:bu [(.str x),.ty "int"]=some (.bl false):=rfl
theorem sD:bu [(.str x),.ty "bool"]=some (.bl false):=rfl
theorem uU:bu [(.str x),.ty "str"]=some (.bl true):=rfl
theorem sG:bu [(.str x),.ty "list"]=some (.bl false):=rfl
theorem pR:bu [(.str x),.ty "tuple"]=some (.bl false):=rfl
theorem sE:bu [(.str x),.ty "dict"]=some (.bl false):=rfl
theorem wN:bu [(.str x),.tup [.ty "list", .ty "tuple"]]=some (.bl false):=rfl
theorem uV:bu [(.tup ts),.ty "int"]=some (.bl false):=rfl
theorem sI:bu [(.tup ts),.ty "bool"]=some (.bl false):=rfl
theorem uW:bu [(.tup ts),.ty "str"]=some (.bl false):=rfl
theorem sL:bu [(.tup ts),.ty "list"]=some (.bl false):=rfl
theorem pS:bu [(.tup ts),.ty "tuple"]=some (.bl true):=rfl
theorem sJ:bu [(.tup ts),.ty "dict"]=some (.bl false):=rfl
theorem wO:bu [(.tup ts),.tup [.ty "list", .ty "tuple"]]=some (.bl true):=rfl
theorem uN:bu [(.lst ts),.ty "int"]=some (.bl false):=rfl
theorem sj:bu [(.lst ts),.ty "bool"]=some (.bl false):=rfl
theorem uO:bu [(.lst ts),.ty "str"]=some (.bl false):=rfl
theorem so:bu [(.lst ts),.ty "list"]=some (.bl true):=rfl
theorem pO:bu [(.lst ts),.ty "tuple"]=some (.bl false):=rfl
theorem sk:bu [(.lst ts),.ty "dict"]=some (.bl false):=rfl
theorem wK:bu [(.lst ts),.tup [.ty "list", .ty "tuple"]]=some (.bl true):=rfl
theorem uR:bu [(.scr ts),.ty "int"]=some (.bl false):=rfl
theorem sv:bu [(.scr ts),.ty "bool"]=some (.bl false):=rfl
theorem uS:bu [(.scr ts),.ty "str"]=some (.bl false):=rfl
theorem sC:bu [(.scr ts),.ty "list"]=some (.bl true):=rfl
theorem pQ:bu [(.scr ts),.ty "tuple"]=some (.bl false):=rfl
theorem sx:bu [(.scr ts),.ty "dict"]=some (.bl false):=rfl
theorem wM:bu [(.scr ts),.tup [.ty "list", .ty "tuple"]]=some (.bl true):=rfl
theorem uJ:bu [.dic,.ty "int"]=some (.bl false):=rfl
theorem rV:bu [.dic,.ty "bool"]=some (.bl false):=rfl
theorem uK:bu [.dic,.ty "str"]=some (.bl false):=rfl
theorem rX:bu [.dic,.ty "list"]=some (.bl false):=rfl
theorem pM:bu [.dic,.ty "tuple"]=some (.bl false):=rfl
theorem rW:bu [.dic,.ty "dict"]=some (.bl true):=rfl
theorem wI:bu [.dic,.tup [.ty "list", .ty "tuple"]]=some (.bl false):=rfl
theorem nE (i j:Int):lP (.int i) (.int j)=some (.bl (decide (i=j))):=by
 show some (T.bl (i == j))=_
 rw [Bool.beq_eq_decide_eq]
theorem Dp (i j:Int):nF (.int i) (.int j)=some (.bl (!decide (i=j))):=by
 show some (T.bl (!(i == j)))=_
 rw [Bool.beq_eq_decide_eq]
theorem Gy (i j:Bool):lP (.bl i) (.bl j)=some (.bl (i == j)):=rfl
theorem GA (i j:Bool):nF (.bl i) (.bl j)=some (.bl (!(i == j))):=rfl
theorem zF (i j:Int):xZ i j ↔ (¬ j=0/\j.natAbs<B):=Iff.rfl
theorem zG (i j:Int):x3 i j ↔ (i.natAbs<B/\j.natAbs<B):=Iff.rfl
theorem CO (i j:Int):Kj i j ↔ ¬ j=0:=Iff.rfl
theorem bZ {n:Nat}(h:n≤1000):n≤sizeLine:=Nat.le_of_lt (cY h)
theorem LU:(0:Nat)≤sizeLine:=bZ (by decide)
theorem Ms:(1:Nat)≤sizeLine:=bZ (by decide)
theorem HW:(2:Nat)≤sizeLine:=bZ (by decide)
theorem Mt:(3:Nat)≤sizeLine:=bZ (by decide)
theorem Li:(4:Nat)≤sizeLine:=bZ (by decide)
theorem Bi {x y:T}:bQ (.tup [x,y]) (.int 0)=some x:=rfl
theorem Bj {x y:T}:bQ (.tup [x,y]) (.int 1)=some y:=rfl
theorem Bg {x y:T}:bQ (.lst [x,y]) (.int 0)=some x:=rfl
theorem Bh {x y:T}:bQ (.lst [x,y]) (.int 1)=some y:=rfl
theorem A0 (a:Int):zL [.int a]=some (.int (a.natAbs:Int)):=by
 have e:(if a<0 then -a else a)=(a.natAbs:Int):=by split<;>omega
 simp only [zL,e]
theorem Iw:(2^64:Nat)<B:=by decide +kernel
theorem Fo {n:Nat}(h:n<2^64):((n:Int)).natAbs<B:=by have:=Iw;omega
def intsOf:List T->Option (List Int)
 |[]=>some []
 | .int i::ts=>(intsOf ts).bind fun ns=>some (i::ns)
 |_::_=>none
theorem ky:∀ns:List Int,intsOf (ns.map T.int)=some ns
 |[]=>rfl
 |n::ns=>by simp [intsOf,ky ns]
theorem kv:∀{ts:List T} {ns:List Int},intsOf ts=some ns->ts=ns.map T.int
 |[],ns,h=>by cases h;rfl
 | .int i::ts,ns,h=>by
  obtain⟨ms,e,h⟩:=bind_some h
  cases h
  rw [kv e];rfl
 | .non::_,_,h=>by cases h
 | .bl _::_,_,h=>by cases h
 | .str _::_,_,h=>by cases h
 | .ty _::_,_,h=>by cases h
 | .tup _::_,_,h=>by cases h
 | .lst _::_,_,h=>by cases h
 | .scr _::_,_,h=>by cases h
 | .dic::_,_,h=>by cases h
 | .obj _ _ _::_,_,h=>by cases h
 | .ptr _::_,_,h=>by cases h
 | .exc _ _ _::_,_,h=>by cases h
theorem Dz {ns:List Int}{k:Int}(h0:0≤k)(h1:k<(ns.length:Int)):bQ (.scr (ns.map T.int)) (.int k)=some (.int (ns.getD k.toNat 0)):=by
 show nv (ns.map T.int) k=_
 obtain⟨j,rfl⟩:=Int.eq_ofNat_of_zero_le h0
 have hk:j<ns.length:=by omega
 refine yf ?_
 rw [List.getElem?_map,List.getElem?_eq_getElem hk]
 simp [List.getD,List.getElem?_eq_getElem hk]
def pE (env:Env):List (Str×NameKind)->List (Str×Addr)->List (Str×Addr)
 |[],acc=>acc
 |(x,k)::r,acc=>if k == .free then pE env r ((x,(env.cells.lookup x).getD 0)::acc) else pE env r acc
theorem mN (f:Str×NameKind->List (Str×Addr)->Sem (ForInStep (List (Str×Addr))))(hf:∀x k cs,f (x,k) cs=if k == .free then (do let a <- cellOf env x;pure (.yield ((x,a)::cs))) else pure (.yield cs)):
  ∀(names:List (Str×NameKind)) (acc:List (Str×Addr)),(∀y∈names,y.2=.free->∃c,env.cells.lookup y.1=some c)->forIn names acc f=pure (pE env names acc)
 |[],acc,_=>by rw [List.forIn_nil];rfl
 |(x,k)::r,acc,hy=>by
  rw [List.forIn_cons,hf]
  have ih:=mN f hf r
  have hr:∀y∈r,y.2=.free->∃c,env.cells.lookup y.1=some c:=fun z hz=>hy z (List.mem_cons_of_mem _ hz)
  cases hk:(k == NameKind.free) with
  |true =>
   obtain⟨c,hc⟩:=hy (x,k) List.mem_cons_self (beq_iff_eq.mp hk)
   dsimp only at hc
   simp only [if_true,pE,hc,cellOf,pure_bind,Option.getD_some,hk]
   exact ih _ hr
  |false =>
   simp only [Bool.false_eq_true,if_false,pE,pure_bind,hk]
   exact ih _ hr
theorem nT {env:Env}{scope:Scope}(h:∀y∈scope.names,y.2=.free->∃c,env.cells.lookup y.1=some c):closureFor scope env=pure (pE env scope.names []):=by
 simp only [closureFor]
 rw [mN (env:=env) _ (fun x k cs=>by cases hk:k == NameKind.free<;>simp [hk]) scope.names [] h]
 rfl
theorem rF {env:Env}:∀(names:List (Str×NameKind)) (acc:List (Str×Addr)) (x:Str) (c:Addr),(∀y∈names,y.2=.free->∃c,env.cells.lookup y.1=some c)->(x,c)∈pE env names acc->(x,c)∈acc\/(env.cells.lookup x=some c/\(x,NameKind.free)∈names)
 |[],acc,x,c,_,h=>.inl h
 |(y,k)::r,acc,x,c,hy,h=>by
  unfold pE at h
  have hr:∀z∈r,z.2=.free->∃c,env.cells.lookup z.1=some c:=fun z hz=>hy z (List.mem_cons_of_mem _ hz)
  cases hk:(k == NameKind.free) with
  |true =>
   rw [if_pos hk] at h
   rcases rF r _ x c hr h with h | h
   ·rcases List.mem_cons.mp h with h | h
    ·cases h
     obtain⟨c,hc⟩:=hy (y,k) List.mem_cons_self (beq_iff_eq.mp hk)
     dsimp only at hc
     refine .inr ⟨by rw [hc];rfl,?_⟩
     rw [beq_iff_eq.mp hk]
     exact List.mem_cons_self
    ·exact .inl h
   ·exact .inr ⟨h.1,List.mem_cons_of_mem _ h.2⟩
  |false =>
   rw [if_neg (by rw [hk];decide)] at h
   rcases rF r _ x c hr h with h | h
   ·exact .inl h
   ·exact .inr ⟨h.1,List.mem_cons_of_mem _ h.2⟩
theorem eL:∀{l:List (Str×Addr)} {x:Str} {c:Addr},(x,c)∈l->∃d,l.lookup x=some d
 |(y,d)::r,x,c,h=>by
  rw [List.lookup_cons]
  cases hb:x == y with
  |true=>exact⟨d,rfl⟩
  |false =>
   rcases List.mem_cons.mp h with h | h
   ·cases h;simp at hb
   ·exact eL h
theorem nA:∀(names:List (Str×NameKind)) (acc:List (Str×Addr)) (x:Str),((x,NameKind.free)∈names\/∃c,(x,c)∈acc)->∃c,(x,c)∈pE env names acc
 |[],acc,x,h=>by
  rcases h with h | h
  ·cases h
  ·exact h
 |(y,k)::r,acc,x,h=>by
  unfold pE
  cases hk:(k == NameKind.free) with
  |true =>
   rw [if_pos rfl]
   refine nA r _ x ?_
   rcases h with h | ⟨c,h⟩
   ·rcases List.mem_cons.mp h with h | h
    ·cases h;exact .inr ⟨_,List.mem_cons_self⟩
    ·exact .inl h
   ·exact .inr ⟨c,List.mem_cons_of_mem _ h⟩
  |false =>
   rw [if_neg (by decide)]
   refine nA r _ x ?_
   rcases h with h | h
   ·rcases List.mem_cons.mp h with h | h
    ·cases h;cases hk
    ·exact .inl h
   ·exact .inr h
theorem wa:∀(names:List (Str×NameKind)) (n:Nat) (acc:List (Str×Addr)) (x:Str) (c:Addr),(x,c)∈cellsFrom n names acc->(x,c)∈acc\/(n≤c/\(x,NameKind.cell)∈names)
 |[],n,acc,x,c,h=>.inl h
 |(y,k)::r,n,acc,x,c,h=>by
  unfold cellsFrom at h
  cases hk:(k == NameKind.cell) with
  |true =>
   rw [if_pos hk] at h
   rcases wa r _ _ x c h with h | ⟨h1,h2⟩
   ·rcases List.mem_cons.mp h with h | h
    ·cases h
     refine .inr ⟨Nat.le_refl _,?_⟩
     rw [beq_iff_eq.mp hk]
     exact List.mem_cons_self
    ·exact .inl h
   ·exact .inr ⟨Nat.le_of_succ_le h1,List.mem_cons_of_mem _ h2⟩
  |false =>
   rw [if_neg (by rw [hk];decide)] at h
   rcases wa r _ _ x c h with h | ⟨h1,h2⟩
   ·exact .inl h
   ·exact .inr ⟨h1,List.mem_cons_of_mem _ h2⟩
theorem vZ:∀(names:List (Str×NameKind)) (n:Nat) (acc:List (Str×Addr)),(∀x y c,(x,c)∈acc->(y,c)∈acc->x=y)->(∀x c,(x,c)∈acc->@LT.lt Nat _ c n)->∀x y c,(x,c)∈cellsFrom n names acc->(y,c)∈cellsFrom n names acc->x=y
 |[],n,acc,h1,_,x,y,c,h,h'=>h1 x y c h h'
 |(z,k)::r,n,acc,h1,h2,x,y,c,h,h'=>by
  unfold cellsFrom at h h'
  cases hk:(k == NameKind.cell) with
  |true =>
   rw [if_pos hk] at h h'
   refine vZ r (n+1) _ (fun a b d ha hb=>?_) (fun a d ha=>?_) x y c h h'
   ·rcases List.mem_cons.mp ha with ha | ha<;>rcases List.mem_cons.mp hb with hb | hb
    ·cases ha;cases hb;rfl
    ·cases ha;exact absurd (h2 _ _ hb) (Nat.lt_irrefl _)
    ·cases hb;exact absurd (h2 _ _ ha) (Nat.lt_irrefl _)
    ·exact h1 a b d ha hb
   ·rcases List.mem_cons.mp ha with ha | ha
    ·cases ha;exact Nat.lt_succ_self _
    ·exact Nat.lt_succ_of_lt (h2 _ _ ha)
  |false =>
   rw [if_neg (by rw [hk];decide)] at h h'
   exact vZ r n acc h1 h2 x y c h h'
theorem nS:∀(names:List (Str×NameKind)) (n:Nat) (acc:List (Str×Addr)) (x:Str),((x,NameKind.cell)∈names\/∃c,(x,c)∈acc)->∃c,(x,c)∈cellsFrom n names acc
 |[],n,acc,x,h=>by
  rcases h with h | h
  ·cases h
  ·exact h
 |(y,k)::r,n,acc,x,h=>by
  unfold cellsFrom
  cases hk:(k == NameKind.cell) with
  |true =>
   rw [if_pos rfl]
   refine nS r _ _ x ?_
   rcases h with h | ⟨c,h⟩
   ·rcases List.mem_cons.mp h with h | h
    ·cases h;exact .inr ⟨_,List.mem_cons_self⟩
    ·exact .inl h
   ·exact .inr ⟨c,List.mem_cons_of_mem _ h⟩
  |false =>
   rw [if_neg (by decide)]
   refine nS r _ _ x ?_
   rcases h with h | h
   ·rcases List.mem_cons.mp h with h | h
    ·cases h;cases hk
    ·exact .inl h
   ·exact .inr h
theorem rE:∀(names:List (Str×NameKind)) (h:Heap) (acc:List (Str×Addr)) (x:Str) (c:Addr),(x,c)∈cellsFrom h.objs.size names acc->(x,c)∈acc\/(pushCells h names).IsCell c none
 |[],h,acc,x,c,m=>.inl m
 |(y,k)::r,h,acc,x,c,m=>by
  unfold cellsFrom at m
  unfold pushCells
  cases hk:(k == NameKind.cell) with
  |true =>
   rw [if_pos hk] at m
   rw [if_pos rfl]
   have m':(x,c)∈cellsFrom (h.push { cls:=.type "cell", data:=.cell none }).objs.size r ((y,h.objs.size)::acc):=by rw [Heap.size_push];exact m
   rcases rE r _ _ x c m' with m | m
   ·rcases List.mem_cons.mp m with m | m
    ·cases m
     refine .inr ?_
     have q:(h.push { cls:=.type "cell", data:=.cell none }).IsCell h.objs.size none:=⟨_,Heap.get?_push_size _ rfl,rfl⟩
     exact q.keeps fun b o e=>pushCells_keeps r _ b o e
    ·exact .inl m
   ·exact .inr m
  |false =>
   rw [if_neg (by rw [hk];decide)] at m
   rw [if_neg (by decide)]
   exact rE r h acc x c m
def km (X:Cx)(scope:Scope)(C:Addr)(cs:List (Str×Addr)):Env:=
 { newEnv scope C X.env.globals cs X.env.qual none .none (some X.env) builtinsNs with scope:=relabel scope X.env }
def pJ (X:Cx)(scope:Scope)(N':List Str)(C:Addr)(cs:List (Str×Addr))(Y8:Shared)(Y9:Hp)(fp:List Addr)(pins:List (Addr×Obj)):Cx:=
 { X with N:=N',Y8:=Y8,Y9:=Y9,env:=km X scope C cs,outer:=X.stack,stack:=X.stack,ex:=fp,fn:=fun x=>scope.names.lookup x == some .cell,pn:=X.pn++pins,xe:=fun _ _=>False }
structure fQ (X:Cx)(scope:Scope):Prop where
 kind:scope.kind=.function
 names:∀y∈scope.names,y.2=.local->scope.names.lookup y.1=some .local
 free:∀y∈scope.names,y.2=.free->(X.env.kindOf y.1=some .cell\/X.env.kindOf y.1=some .free)/\(y.1,NameKind.cell)∉scope.names/\scope.names.lookup y.1=some .free
theorem mem_of_lookupK:∀{l:List (Str×NameKind)} {x:Str} {k:NameKind},l.lookup x=some k->(x,k)∈l
 |(y,d)::r,x,k,h=>by
  rw [List.lookup_cons] at h
  cases hb:x == y with
  |true=>rw [hb] at h;cases h;rw [beq_iff_eq.mp hb];exact List.mem_cons_self
  |false=>rw [hb] at h;exact List.mem_cons_of_mem _ (mem_of_lookupK h)
theorem gf {env:Env}:∀{names:List (Str×NameKind)} {x:Str},names.lookup x=some .free ->
    ((names.map fun (n,k)=>if (k == NameKind.free&&env.scope.kind == .function&&env.kindOf n == some .cell) then (n,NameKind.cell) else (n,k)).lookup x=some .cell \/
     (names.map fun (n,k)=>if (k == NameKind.free&&env.scope.kind == .function&&env.kindOf n == some .cell) then (n,NameKind.cell) else (n,k)).lookup x=some .free)
  |(n,k)::r,x,h=>by
    rw [List.lookup_cons] at h
    have en:∀y:Str×NameKind,y=(if (k == NameKind.free&&env.scope.kind == .function&&env.kindOf n == some .cell)=true then (n,NameKind.cell) else (n,k))->y.1=n/\(y.2=.cell\/y.2=k):=fun y e=>by
      subst e
      split
      · exact⟨rfl,.inl rfl⟩
      · exact⟨rfl,.inr rfl⟩
    rw [List.map_cons]
    dsimp only
    generalize hy:(if (k == NameKind.free&&env.scope.kind == .function&&env.kindOf n == some .cell)=true then (n,NameKind.cell) else (n,k))=y
    obtain⟨e1,e2⟩:=en y hy.symm
    obtain⟨a,b⟩:=y
    dsimp only at e1 e2
    subst e1
    rw [List.lookup_cons]
    cases hb:x == a with
    |true =>
      rw [hb] at h
      cases h
      rcases e2 with rfl | rfl
      · exact .inl rfl
      · exact .inr rfl
    |false =>
      rw [hb] at h
      exact gf h
theorem vw {X:Cx}{scope:Scope}{x:Str}(h:(km X scope C cs).kindOf x=some .cell\/(km X scope C cs).kindOf x=some .free):(x,NameKind.cell)∈scope.names\/(x,NameKind.free)∈scope.names:=by
 have key:∀k,(km X scope C cs).kindOf x=some k->(k=.cell\/k=.free)->(x,NameKind.cell)∈scope.names\/(x,NameKind.free)∈scope.names:=fun k h hk=>by
  have m:=mem_of_lookupK (show (relabel scope X.env).names.lookup x=some k from h)
  unfold relabel at m
  obtain⟨⟨y,j⟩,m1,m2⟩:=List.mem_map.mp m
  dsimp only at m2
  split at m2
  ·next hc =>
   cases m2
   simp only [Bool.and_eq_true,beq_iff_eq] at hc
   rw [hc.1.1] at m1
   exact .inr m1
  ·cases m2
   rcases hk with rfl | rfl
   ·exact .inl m1
   ·exact .inr m1
 rcases h with h | h
 ·exact key _ h (.inl rfl)
 ·exact key _ h (.inr rfl)
section
variable {X:Cx}{pins:List (Addr×Obj)}{σ:L2.St}{H:Hp}{s:Shared}{scope:Scope}{fp:List Addr}{N':List Str}{σ':L2.St}
abbrev mL:Obj:={ cls:=.type "list", dict:=none,data:=.seq ([]:List Value).toArray }
abbrev yp:Obj:={ cls:=.type "dict", data:=.dict #[] }
def h0 (h:Heap)(scope:Scope):Heap:=pushCells ((h.push mL).push yp) scope.names
theorem iZ {h:Heap}{b:Addr}{o:Obj}(e:h.get? b=some o):(h0 h scope).get? b=some o:=pushCells_keeps _ _ _ _ (Heap.get?_push_of_some _ (Heap.get?_push_of_some _ e))
theorem GC (h:Heap):(h0 h scope).get? h.objs.size=some mL:=pushCells_keeps _ _ _ _ (Heap.get?_push_of_some _ (Heap.get?_push_size _ rfl))
theorem zJ (I:Inv X pins σ H s)(B:fQ X scope)(hf:∀b∈fp,qZ X pins H b)(ho:∀b∈fp,∃o,s.heap.get? b=some o)(hl:σ'.length=N'.length)
  (cap:∀(i:Nat) (x:Str) (v:V),N'[i]? = some x->σ'[i]? = some (some v)->((x,NameKind.free)∈scope.names/\∃j:Nat,X.N[j]? = some x/\σ[j]? = some (some v))\/¬ Iv (relabel scope X.env) x) {tk:Nat} :
  Inv (pJ X scope N' (s.heap.objs.size+1) (cellsFrom (s.heap.objs.size+2) scope.names (pE X.env scope.names [])) s H fp pins) [] σ' (upd H s.heap.objs.size (.lst [])) { s with heap:=h0 s.heap scope,toks:=tk }:=by
 have hz1:(s.heap.push mL).objs.size=s.heap.objs.size+1:=Heap.size_push ..
 have hz2:((s.heap.push mL).push yp).objs.size=s.heap.objs.size+2:=by rw [Heap.size_push,hz1]
 have hfree:∀y∈scope.names,y.2=.free->∃c,X.env.cells.lookup y.1=some c:=fun y hy hk=>I.ok.has y.1 (B.free y hy hk).1
 have clm:∀x c,(x,c)∈pE X.env scope.names []->X.env.cells.lookup x=some c/\(x,NameKind.free)∈scope.names:=fun x c h=>by
  rcases rF _ _ x c hfree h with h | h
  ·cases h
  ·exact h
 have cl_lt:∀x c,(x,c)∈pE X.env scope.names []->@LT.lt Nat _ c s.heap.objs.size:=fun x c h=>by
  obtain⟨v,q⟩:=I.cell x c (clm x c h).1
  exact q.lt
 have csm:∀x c,(x,c)∈cellsFrom (s.heap.objs.size+2) scope.names (pE X.env scope.names [])->(X.env.cells.lookup x=some c/\(x,NameKind.free)∈scope.names/\@LT.lt Nat _ c s.heap.objs.size)\/(@LE.le Nat _ (s.heap.objs.size+2) c/\(x,NameKind.cell)∈scope.names):=fun x c h=>by
  rcases wa _ _ _ x c h with h | h
  ·exact .inl ⟨(clm x c h).1,(clm x c h).2,cl_lt x c h⟩
  ·exact .inr h
 have hD:H s.heap.objs.size=none:=I.fresh
 have up:∀b:Addr,@LT.lt Nat _ b s.heap.objs.size->upd H s.heap.objs.size (.lst []) b=H b:=fun b hb=>aP (Nat.ne_of_lt hb)
 have upF:∀b:Addr,@LT.lt Nat _ s.heap.objs.size b->upd H s.heap.objs.size (.lst []) b=none:=fun b hb=>by rw [aP (Nat.ne_of_gt hb)];exact I.hok.fresh (Nat.le_of_lt hb)
 have flt:∀b∈fp,@LT.lt Nat _ b s.heap.objs.size:=fun b hb=>by obtain⟨o,e⟩:=ho b hb;exact Heap.lt_size e
 refine⟨⟨I.ok.mod,B.kind,I.ok.glob,I.ok.blt,Nat.le_succ _,fun x y c h1 h2=>?_,fun x hx=>?_,fun x c hx h=>?_,I.ok.hd,I.ok.frames,.inl rfl,fun b hb=>⟨?_,fun x c h=>?_⟩,I.bs,Nat.le_trans I.ok.bsz I.sz,fun b o e hb=>?_,fun b hb z=>?_,I.stack,I.stkFree⟩,
  rfl,I.bare,?_,⟨fun _=>none,?_,fun i x v e1 e2 e3=>?_⟩,fun x c h=>?_,upF _ (Nat.lt_succ_self _),fun x c h=>?_,fun p hp=>?_,?_,hl⟩
 ·exact vZ _ _ _ (fun a b d ha hb=>I.ok.inj a b d (clm a d ha).1 (clm b d hb).1) (fun a d ha=>Nat.lt_of_lt_of_le (cl_lt a d ha) (Nat.le_add_right _ 2)) x y c (PySem.mem_of_lookup h1) (PySem.mem_of_lookup h2)
 ·have hm:∃c,(x,c)∈cellsFrom (s.heap.objs.size+2) scope.names (pE X.env scope.names []):=by
   rcases vw hx with h | h
   ·exact nS _ _ _ x (.inl h)
   ·exact nS _ _ _ x (.inr (nA _ _ x (.inl h)))
  obtain⟨c,hm⟩:=hm
  exact eL hm
 ·have hx':scope.names.lookup x=some .cell:=beq_iff_eq.mp hx
  rcases csm x c (PySem.mem_of_lookup h) with ⟨_,h2,_⟩ | ⟨h1,_⟩
  ·exact absurd (mem_of_lookupK hx') (B.free _ h2 rfl).2.1
  ·exact Nat.le_trans (Nat.le_add_right _ 2) h1
 ·exact Nat.ne_of_lt (Nat.lt_succ_of_lt (flt b hb))
 ·rcases csm x c (PySem.mem_of_lookup h) with ⟨h1,_,_⟩ | ⟨h1,_⟩
  ·exact (hf b hb).2.2.2.2.1 x c h1
  ·exact Nat.ne_of_gt (Nat.lt_of_lt_of_le (flt b hb) (Nat.le_trans (Nat.le_add_right _ 2) h1))
 ·rcases (hf b hb).2.2.2.1 with z | z
  ·exact I.ok.noex b o e z
  ·exact absurd (Nat.lt_of_lt_of_le (Heap.lt_size e) (Nat.le_trans I.ok.bsz z)) (Nat.lt_irrefl _)
 ·rcases List.mem_cons.mp (I.stkSub b z) with z | z
  ·exact (hf b hb).2.1 z
  ·exact (hf b hb).2.2.1 z
 ·exact Un.laid (fun b o e=>iZ e) (Nat.le_refl _) hD
 ·have q:=Heap.Ns.new (s.heap.push mL) (.type "dict")
  rw [hz1] at q
  exact q.keeps fun b o e=>pushCells_keeps _ _ b o e
 ·rcases cap i x v e1 e2 with ⟨hx,j,hj,hv⟩ | hn
  ·obtain⟨m,hm,hlk⟩:=I.loc
   have hk:=(B.free _ hx rfl).1
   have vis:Iv X.env.scope x:=by
    rcases hk with hk | hk
    ·exact .inr (.inl hk)
    ·exact .inr (.inr hk)
   obtain⟨u,r,l⟩:=hlk j x v hj hv vis
   refine⟨u,r,.inr ?_⟩
   rcases l with ⟨z,_⟩ | ⟨_,c,hc,hcell⟩
   ·rcases hk with hk | hk<;>(rw [show X.env.kindOf x=X.env.scope.names.lookup x from rfl] at hk z;rw [hk] at z;cases z)
   ·obtain⟨c',hc'⟩:=eL (Classical.choose_spec (nS scope.names (s.heap.objs.size+2) (pE X.env scope.names []) x (.inr (nA _ _ x (.inl hx)))))
    have ec:c'=c:=by
     rcases csm x c' (PySem.mem_of_lookup hc') with ⟨h1,_,_⟩ | ⟨_,h2⟩
     ·rw [hc] at h1;exact (Option.some.inj h1).symm
     ·exact absurd h2 (B.free _ hx rfl).2.1
    subst ec
    refine⟨?_,c',hc',hcell.keeps fun b o e=>iZ e⟩
    rcases e3 with e3 | e3 | e3
    ·rcases gf (env:=X.env) (B.free _ hx rfl).2.2 with q | q
     ·exact .inl q
     ·exact .inr q
    ·exact .inl e3
    ·exact .inr e3
  ·exact absurd e3 hn
 ·rcases rE scope.names ((s.heap.push mL).push yp) (pE X.env scope.names []) x c (by rw [hz2];exact PySem.mem_of_lookup h) with m | m
  ·obtain⟨v,q⟩:=I.cell x c (clm x c m).1
   exact⟨v,q.keeps fun b o e=>iZ e⟩
  ·exact⟨none,m⟩
 ·rcases csm x c (PySem.mem_of_lookup h) with ⟨h1,_,h3⟩ | ⟨h1,_⟩
  ·rw [up c h3];exact I.freeC x c h1
  ·exact upF c (Nat.lt_of_lt_of_le (Nat.lt_add_of_pos_right (by decide)) h1)
 ·have hp':p∈X.pn++pins:=by simpa [pJ] using hp
  obtain⟨e,n,ne,nf,d⟩:=I.pin p hp'
  have lt:@LT.lt Nat _ p.1 s.heap.objs.size:=Heap.lt_size e
  refine⟨iZ e,by rw [up _ lt];exact n,Nat.ne_of_lt (Nat.lt_succ_of_lt lt),fun z=>?_,d⟩
  rcases List.mem_cons.mp (I.stkSub _ z) with z | z
  ·exact ne z
  ·exact nf z
 ·exact I.hok.laid (fun b o e=>iZ e) (Nat.le_refl _) ⟨Nat.zero_le _,[],0,.nil,GC s.heap⟩
end
abbrev zB (ifs:List Expr)(env:Env):Sem Bool:=forIn ifs true fun c r=>if r=true then do let ok <- isTrue c env (eval c env);pure (ForInStep.yield ok) else pure (ForInStep.yield r)
theorem zK {prog:Program}{w:World}{A:Around}{R:Result->Shared->Prop}{s:Shared}{elt target iter:Expr}{ifs:List Expr}{scope:Scope}{pos:Pos}{it acc:Value}{env:Env}(I:Nat->Shared->Prop)
  (turn:∀n s,I n s->wpAny (model prog w) A (pyNext it) (fun r s₁=>match r with
   |none=>R (.ok .next) s₁
   | some v=>wpAny (model prog w) A (letOwnedTupleGo target it v) (fun _ s₂=>wpAny (model prog w) A (assign target env v) (fun _ s₃=>wpAny (model prog w) A (zB ifs env) (fun ok s₄ =>
     if ok=true then wpAny (model prog w) A (eval elt env) (fun x s₅=>wpAny (model prog w) A (call (.builtin "list.append") [acc,x]) (fun _ s₆=>∃m,m<n/\I m s₆) (fun _ _=>False) s₅) (fun _ _=>False) s₄
     else ∃m,m<n/\I m s₄) (fun _ _=>False) s₃) (fun _ _=>False) s₂) (fun _ _=>False) s₁) (fun _ _=>False) s)
  (n:Nat) (h:I n s):codeAny (model prog w) A (.compLoop (.ListComp elt [⟨target,iter,ifs,0⟩] scope pos) 0 it acc env) R s:=by
 have no:∀{α:Type} {m:Sem α} {Q:α->Shared->Prop} {E:Value->Shared->Prop} {s:Shared},wpAny (model prog w) A m Q (fun _ _=>False) s->wpAny (model prog w) A m Q E s:=fun h=>wpAny_mono h (fun _ _ q=>q) fun _ _ z=>z.elim
 refine codeAny_loop rfl I (fun n s hI=>?_) n h
 refine (wpAny_noted ?_:wpAny _ A ((compTurn (.ListComp elt [⟨target,iter,ifs,0⟩] scope pos) 0 it acc env).onRaise (fun x=>do noteFrame x env;theTreesLotGoes x)) _ _ s)
 rw [compTurn_list]
 refine wpAny_bind (wpAny_standAt (wpAny_bind (wpAny_mono (no (turn n s hI)) (fun r s₁ h₁=>?_) fun _ _ z=>z)))
 cases r with
 |none=>exact wpAny_pure h₁
 |some v =>
  refine wpAny_bind (wpAny_mono (no h₁) (fun _ s₂ h₂=>wpAny_bind (wpAny_mono (no h₂) (fun _ s₃ h₃=>wpAny_bind (wpAny_mono (no h₃) (fun ok s₄ h₄=>?_) fun _ _ z=>z)) fun _ _ z=>z)) fun _ _ z=>z)
  cases ok with
  |false=>exact wpAny_pure ⟨rfl,h₄⟩
  |true=>exact wpAny_bind (wpAny_bind (wpAny_mono (no h₄) (fun x s₅ h₅=>wpAny_bind (wpAny_mono (no h₅) (fun _ s₆ h₆=>wpAny_pure (wpAny_pure ⟨rfl,h₆⟩)) fun _ _ z=>z)) fun _ _ z=>z))
def cw:aI->Bool
 |[]=>true
 |some (.own _)::_=>false
 |_::r=>cw r
theorem dy:∀{τ:aI} {i:Nat} {ts:List T},cw τ=true->τ[i]?≠some (some (.own ts))
 |[],i,ts,_=>by simp
 |some (.own _)::_,i,ts,h=>by cases h
 |some (.sh t)::r,0,ts,h=>by simp
 |none::r,0,ts,h=>by simp
 |some (.sh t)::r,i+1,ts,h=>by rw [List.getElem?_cons_succ];exact dy (τ:=r) h
 |none::r,i+1,ts,h=>by rw [List.getElem?_cons_succ];exact dy (τ:=r) h
def eP (fg:FG)(ft:FT)(fe:FE):List T->aI->List T->Option (List T)
 |[],_,acc=>some acc
 |t::ts,τ,acc=>(fg t τ).bind fun τ1=>(ft τ1).bind fun p=>if p.1=true then (fe p.2).bind fun q=>if cw q.2=true/\acc.length<sizeLine then eP fg ft fe ts q.2 (acc++[q.1]) else none
  else if cw p.2=true then eP fg ft fe ts p.2 acc else none
def frz1 (j:Nat)(τ:aI):aI:=match τ[j]? with
 |some (some (.own ts))=>τ.set j (some (.sh (.lst ts)))
 |_=>τ
def frzAll:List Nat->aI->aI
 |[],τ=>τ
 |j::r,τ=>frzAll r (frz1 j τ)
def qt {α:Type}(l:List (Option α))(j:Nat):Option α:=match l[j]? with
 |some x=>x
 |none=>none
def cR {α:Type}(no:Nat)(cap:List Nat)(l:List (Option α)):List (Option α):=List.replicate no none++cap.map (qt l)
def cg (no:Nat)(cap:List Nat)(fi:FA)(fg:FG)(ft:FT)(fe:FE):FE:=fun τ=>(fi τ).bind fun p =>
 if cw (cR no cap (frzAll cap p.2))=true then (eP fg ft fe p.1 (cR no cap (frzAll cap p.2)) []).bind fun us=>some (.lst us,frzAll cap p.2) else none
def az:FT:=fun τ=>some (true,τ)
def CT (X:Cx)(ifs:List Expr)(ft:FT):Prop:=∀Y0 Y9 pins s σ H Q,Inv X pins σ H s->tT X.K Y0 Y9 ft σ H Q->wpAny (model X.prog X.w) X.A (zB ifs X.env) (TP X pins σ Q) X.xe s
theorem bH {X:Cx}:CT X [] az:=fun Y0 Y9 pins s σ H Q I hq__=>by
 obtain⟨F,τ,b,τ',E,e,q⟩:=hq__
 cases e
 exact wpAny_tests_nil ⟨H,I,q F H E (aW.refl _)⟩
theorem zy {X:Cx}{c:Expr}{ft:FT}(h:ST X c ft):CT X [c] ft:=fun Y0 Y9 pins s σ H Q I q=>wpAny_tests_one (h Y0 Y9 pins s σ H Q I q)
section
variable {K:PySem.W.Frag}{Y0 Y9 F H:Hp}{σ:L2.St}{τ:aI}
theorem aL.frz1 (E:aL K Y0 Y9 F H σ τ)(j:Nat):∃F',aL K Y0 Y9 F' H σ (TM.frz1 j τ)/\aW F F':=by
 unfold TM.frz1
 split
 ·next ts e =>
  obtain⟨F',v,_,E',s',_⟩:=E.freeze e
  exact⟨F',E',s'⟩
 ·exact⟨F,E,aW.refl _⟩
theorem aL.frzAll:∀(cap:List Nat) {F:Hp} {τ:aI},aL K Y0 Y9 F H σ τ->∃F',aL K Y0 Y9 F' H σ (TM.frzAll cap τ)/\aW F F'
 |[],F,τ,E=>⟨F,E,aW.refl _⟩
 |j::r,F,τ,E=>by
  obtain⟨F1,E1,s1⟩:=E.frz1 j
  obtain⟨F2,E2,s2⟩:=aL.frzAll r E1
  exact⟨F2,E2,s1.trans s2⟩
theorem aL.rebase {H':Hp}(E:aL K Y0 Y9 F H σ τ)(ha:cw τ=true)(s:aW F H'):aL K F H' F H' σ τ:=by
 refine⟨bB.refl s,E.len,fun i sl e=>?_,fun i j ts us p _ e1=>absurd e1 (dy ha)⟩
 obtain⟨v,h1,h2⟩:=E.sl i sl e
 cases sl with
 |sh t=>exact⟨v,h1,h2⟩
 |own ts=>exact absurd e (dy ha)
theorem qo {α:Type}{no:Nat}{cap:List Nat}{l:List (Option α)}{i:Nat}{x:α}(h:(cR no cap l)[i]? = some (some x)):∃k j:Nat,i=no+k/\cap[k]? = some j/\l[j]? = some (some x):=by
 unfold cR at h
 by_cases hi:i<no
 ·rw [List.getElem?_append_left (by simpa using hi),List.getElem?_replicate] at h
  split at h<;>cases h
 ·rw [List.getElem?_append_right (by simpa using hi),List.length_replicate,List.getElem?_map] at h
  cases e:cap[i-no]? with
  |none=>rw [e] at h;cases h
  |some j =>
   rw [e] at h
   have h':qt l j=some x:=Option.some.inj h
   unfold qt at h'
   split at h'
   ·next y ey=>exact⟨i-no,j,by omega,e,by rw [ey,h']⟩
   ·cases h'
theorem zI {α:Type}{no:Nat}{cap:List Nat}{l:List (Option α)}{k j:Nat}{x:α}(h1:cap[k]? = some j)(h2:l[j]? = some (some x)):(cR no cap l)[no+k]? = some (some x):=by
 unfold cR
 rw [List.getElem?_append_right (by simp),List.length_replicate,Nat.add_sub_cancel_left,List.getElem?_map,h1]
 show some (qt l j)=_
 unfold qt
 rw [h2]
theorem aL.block {H':Hp}{no:Nat}{cap:List Nat}(E:aL K Y0 Y9 F H σ τ)(ha:cw (cR no cap τ)=true)(s:aW F H'):aL K F H' F H' (cR no cap σ) (cR no cap τ):=by
 refine⟨bB.refl s,by simp [cR],fun i sl e=>?_,fun i j ts us p _ e1=>absurd e1 (dy ha)⟩
 obtain⟨k,j,rfl,hk,hj⟩:=qo e
 obtain⟨v,h1,h2⟩:=E.sl j sl hj
 refine⟨v,zI hk h1,?_⟩
 cases sl with
 |sh t=>exact h2
 |own ts=>exact absurd e (dy ha)
end
section
variable {X:Cx}
def eV (i no:Nat)(cap:List Nat)(fi:FA)(fg:FG)(ft:FT)(fe:FE):FS:=fun τ=>(fi τ).bind fun p =>
 if cw (cR no cap (frzAll cap p.2))=true then (eP fg ft fe p.1 (cR no cap (frzAll cap p.2)) []).bind fun us=>some (.nx ((frzAll cap p.2).set i (some (.own us)))) else none
end
def ur (sc scope:Scope):Bool:=scope.kind == .function&&scope.names.all fun y=>(y.2 != .local||scope.names.lookup y.1 == some .local) &&
 (y.2 != .free||((sc.names.lookup y.1 == some .cell||sc.names.lookup y.1 == some .free)&&scope.names.all (fun z=>!(z.1 == y.1&&z.2 == .cell))&&scope.names.lookup y.1 == some .free))
theorem aQ {X:Cx}{scope:Scope}(h:ur X.env.scope scope=true):fQ X scope:=by
 unfold ur at h
 simp only [Bool.and_eq_true,List.all_eq_true,Bool.or_eq_true,bne_iff_ne,beq_iff_eq,Bool.not_eq_true',Bool.and_eq_false_iff,ne_eq] at h
 refine⟨h.1,fun y hy hk=>?_,fun y hy hk=>?_⟩
 ·rcases (h.2 y hy).1 with z | z
  ·exact absurd hk z
  ·exact z
 ·rcases (h.2 y hy).2 with z | ⟨⟨z1,z2⟩,z3⟩
  ·exact absurd hk z
  ·refine⟨z1,fun m=>?_,z3⟩
   rcases z2 _ m with w | w
   ·simp at w
   ·simp at w
def nR (N N':List Str)(scope:Scope)(no:Nat):List Nat->Bool
 |[]=>true
 |j::r=>(match N'[no]?,N[j]? with | some x,some y=>x == y&&scope.names.any (fun z=>z.1 == x&&z.2 == .free) | _,_=>false)&&nR N N' scope (no+1) r
theorem bT {N N':List Str}{scope:Scope}:∀{no:Nat} {cap:List Nat},nR N N' scope no cap=true->∀(k j:Nat),cap[k]? = some j->∃x,N'[no+k]? = some x/\N[j]? = some x/\(x,NameKind.free)∈scope.names
 |no,[],_,k,j,e=>by simp at e
 |no,c::r,h,k,j,e=>by
  simp only [nR,Bool.and_eq_true] at h
  cases k with
  |zero =>
   simp at e
   subst e
   have h1:=h.1
   split at h1
   ·next x y ex ey =>
    simp only [Bool.and_eq_true,beq_iff_eq,List.any_eq_true] at h1
    obtain⟨rfl,z,hz,z1,z2⟩:=h1
    refine⟨x,ex,ey,?_⟩
    obtain⟨a,b⟩:=z
    dsimp only at z1 z2
    subst z1 z2
    exact hz
   ·cases h1
  |succ k =>
   obtain⟨x,h1,h2,h3⟩:=bT h.2 k j (by simpa using e)
   exact⟨x,by rw [show no+(k+1)=no+1+k by omega];exact h1,h2,h3⟩
inductive O where
 |val (t:T) | lst (os:List O)
mutual
def gC (K:PySem.W.Frag)(F H:Hp):O->V->List Addr->Prop
 | .val t,v,A=>A=[]/\Rep K F t v
 | .lst os,v,A=>∃p vs B,v=.ref p/\A=p::B/\H p=some (.lst vs)/\F p=none/\cv K F H os vs B
def cv (K:PySem.W.Frag)(F H:Hp):List O->List V->List Addr->Prop
 |[],vs,A=>vs=[]/\A=[]
 |o::os,vs,A=>∃v r B C,vs=v::r/\A=B++C/\gC K F H o v B/\cv K F H os r C
end
mutual
def O.tr:O->T
 | .val t=>t
 | .lst os=>.lst (O.trs os)
def O.trs:List O->List T
 |[]=>[]
 |o::os=>o.tr::O.trs os
end
section
variable {K:PySem.W.Frag}{F H F' H':Hp}
mutual
theorem gC.move (sF:aW F F'):∀{o:O} {v:V} {A:List Addr},(∀a∈A,H' a=H a/\F' a=none)->gC K F H o v A->gC K F' H' o v A
 | .val t,v,A,_,h=>⟨h.1,Rep.mono sF h.2⟩
 | .lst os,v,A,hA,h=>by
  obtain⟨p,vs,B,rfl,rfl,h1,h2,h3⟩:=h
  have hp:=hA p List.mem_cons_self
  exact⟨p,vs,B,rfl,rfl,hp.1.trans h1,hp.2,cv.move sF (fun a ha=>hA a (List.mem_cons_of_mem _ ha)) h3⟩
theorem cv.move (sF:aW F F'):∀{os:List O} {vs:List V} {A:List Addr},(∀a∈A,H' a=H a/\F' a=none)->cv K F H os vs A->cv K F' H' os vs A
 |[],vs,A,_,h=>h
 |o::os,vs,A,hA,h=>by
  obtain⟨v,r,B,C,rfl,rfl,h1,h2⟩:=h
  exact⟨v,r,B,C,rfl,rfl,gC.move sF (fun a ha=>hA a (List.mem_append_left _ ha)) h1,cv.move sF (fun a ha=>hA a (List.mem_append_right _ ha)) h2⟩
end
mutual
theorem gC.at:∀{o:O} {v:V} {A:List Addr},gC K F H o v A->∀a∈A,F a=none/\∃vs,H a=some (.lst vs)
 | .val t,v,A,h,a,ha=>by rw [h.1] at ha;cases ha
 | .lst os,v,A,h,a,ha=>by
  obtain⟨p,vs,B,rfl,rfl,h1,h2,h3⟩:=h
  rcases List.mem_cons.mp ha with rfl | ha
  ·exact⟨h2,vs,h1⟩
  ·exact cv.at h3 a ha
theorem cv.at:∀{os:List O} {vs:List V} {A:List Addr},cv K F H os vs A->∀a∈A,F a=none/\∃vs,H a=some (.lst vs)
 |[],vs,A,h,a,ha=>by rw [h.2] at ha;cases ha
 |o::os,vs,A,h,a,ha=>by
  obtain⟨v,r,B,C,rfl,rfl,h1,h2⟩:=h
  rcases List.mem_append.mp ha with ha | ha
  ·exact gC.at h1 a ha
  ·exact cv.at h2 a ha
end
mutual
theorem gC.rep (sF:aW F F'):∀{o:O} {v:V} {A:List Addr},(∀a∈A,F' a=H a)->gC K F H o v A->Rep K F' o.tr v
 | .val t,v,A,_,h=>Rep.mono sF h.2
 | .lst os,v,A,hA,h=>by
  obtain⟨p,vs,B,rfl,rfl,h1,h2,h3⟩:=h
  exact⟨p,vs,rfl,(hA p List.mem_cons_self).trans h1,cv.rep sF (fun a ha=>hA a (List.mem_cons_of_mem _ ha)) h3⟩
theorem cv.rep (sF:aW F F'):∀{os:List O} {vs:List V} {A:List Addr},(∀a∈A,F' a=H a)->cv K F H os vs A->aX K F' (O.trs os) vs
 |[],vs,A,_,h=>h.1
 |o::os,vs,A,hA,h=>by
  obtain⟨v,r,B,C,rfl,rfl,h1,h2⟩:=h
  exact⟨v,r,rfl,gC.rep sF (fun a ha=>hA a (List.mem_append_left _ ha)) h1,cv.rep sF (fun a ha=>hA a (List.mem_append_right _ ha)) h2⟩
end
theorem cv.app:∀{os us:List O} {vs ws:List V} {A B:List Addr},cv K F H os vs A->cv K F H us ws B->cv K F H (os++us) (vs++ws) (A++B)
 |[],_,_,_,_,_,h,h'=>by obtain⟨rfl,rfl⟩:=h;exact h'
 |o::os,_,_,_,_,_,h,h'=>by
  obtain⟨v,r,B,C,rfl,rfl,h1,h2⟩:=h
  exact⟨v,r++_,B,C++_,rfl,by rw [List.append_assoc],h1,cv.app h2 h'⟩
theorem cv.one {o:O}{v:V}{A:List Addr}(h:gC K F H o v A):cv K F H [o] [v] A:=⟨v,[],A,[],rfl,by simp,h,rfl,rfl⟩
theorem cv.length:∀{os:List O} {vs:List V} {A:List Addr},cv K F H os vs A->vs.length=os.length
 |[],_,_,h=>by rw [h.1];rfl
 |o::os,_,_,h=>by
  obtain⟨v,r,B,C,rfl,rfl,h1,h2⟩:=h
  simp [cv.length h2]
def frzO (F H:Hp)(A:List Addr):Hp:=fun a=>if a∈A then H a else F a
theorem lh {A:List Addr}{a:Addr}(h:a∈A):frzO F H A a=H a:=if_pos h
theorem eY {A:List Addr}{a:Addr}(h:a∉A):frzO F H A a=F a:=if_neg h
theorem eQ {A:List Addr}(h:∀a∈A,F a=none):aW F (frzO F H A):=fun a o e=>by
 rw [eY (fun m=>by rw [h a m] at e;cases e)];exact e
theorem gC.frz {o:O}{v:V}{A:List Addr}(h:gC K F H o v A):Rep K (frzO F H A) o.tr v:=gC.rep (eQ fun a ha=>(h.at a ha).1) (fun a ha=>lh ha) h
theorem bB.frzO {Y0 Y9:Hp}{A:List Addr}(g:bB Y0 Y9 F H)(h:∀a∈A,F a=none)(h0:∀a∈A,Y9 a=none):bB Y0 Y9 (frzO F H A) H:=by
 refine⟨g.sF.trans (eQ h),g.sH,fun a o e=>?_,fun a o e=>?_⟩
 ·by_cases m:a∈A
  ·rw [lh m] at e;exact e
  ·rw [eY m] at e;exact g.fh _ _ e
 ·by_cases m:a∈A
  ·exact .inr (h0 a m)
  ·rw [eY m] at e;exact g.nw _ _ e
end
section
variable {K:PySem.W.Frag}{Y0 Y9 F H F' H':Hp}{σ:L2.St}{τ:aI}{A:List Addr}
def Apart (σ:L2.St)(τ:aI)(A:List Addr):Prop:=∀(j:Nat) us p,τ[j]? = some (some (.own us))->σ[j]? = some (some (.ref p))->p∉A
theorem aL.frzO (E:aL K Y0 Y9 F H σ τ)(h:∀a∈A,F a=none)(h0:∀a∈A,Y9 a=none)(ow:Apart σ τ A):aL K Y0 Y9 (TM.frzO F H A) H σ τ:=by
 refine⟨E.g.frzO h h0,E.len,fun i s e=>?_,E.dj⟩
 obtain⟨v,h1,h2⟩:=E.sl i s e
 refine⟨v,h1,?_⟩
 cases s with
 |sh t=>exact Rep.mono (eQ h) h2
 |own ts =>
  obtain⟨p,vs,rfl,k2,k3,k4,k5⟩:=h2
  exact⟨p,vs,rfl,k2,by rw [eY (ow i ts p e h1)];exact k3,k4,aX.mono (eQ h) k5⟩
theorem aL.hp (E:aL K Y0 Y9 F H σ τ)(s:aW H H'):aL K Y0 Y9 F H' σ τ:=by
 refine⟨⟨E.g.sF,E.g.sH.trans s,E.g.fh.trans s,E.g.nw⟩,E.len,fun i sl e=>?_,E.dj⟩
 obtain⟨v,h1,h2⟩:=E.sl i sl e
 refine⟨v,h1,?_⟩
 cases sl with
 |sh t=>exact h2
 |own ts =>
  obtain⟨p,vs,rfl,k2,k3,k4,k5⟩:=h2
  exact⟨p,vs,rfl,s _ _ k2,k3,k4,k5⟩
end
abbrev kO:=aI->Option (O×aI)
def MB (K:PySem.W.Frag)(Y0 Y9:Hp)(f:kO):TE:=fun σ H Q=>∃F τ o τ',aL K Y0 Y9 F H σ τ/\f τ=some (o,τ') /\
 ∀F' H' v A,aL K Y0 Y9 F' H' σ τ'->aW F F'->gC K F' H' o v A->A.Nodup->(∀a∈A,Y9 a=none)->Apart σ τ' A->Q v H'
def AH (X:Cx)(e:Expr)(f:kO):Prop:=∀Y0 Y9,PE X e (MB X.K Y0 Y9 f)
section
variable {X:Cx}{e:Expr}{pos:Pos}
def LQ (f:kO):FE:=fun τ=>(f τ).bind fun p=>some (p.1.tr,p.2)
theorem AH.se {f:kO}(h:AH X e f):SE X e (LQ f):=fun Y0 Y9=>PE.weak (h Y0 Y9) fun σ H Q hq__=>by
 obtain⟨F,τ,t,τ',E,e1,q⟩:=hq__
 obtain⟨⟨o,τ1⟩,e2,e1⟩:=bind_some e1
 cases e1
 refine⟨F,τ,o,τ1,E,e2,fun F' H' v A E' s' r nd h0 ow=>?_⟩
 have hF:∀a∈A,F' a=none:=fun a ha=>(r.at a ha).1
 exact q _ H' v (E'.frzO hF h0 ow) (s'.trans (eQ hF)) r.frz
def eX (f:FE):kO:=fun τ=>(f τ).bind fun p=>some (.val p.1,p.2)
theorem SE.seo {f:FE}(h:SE X e f):AH X e (eX f):=fun Y0 Y9=>PE.weak (h Y0 Y9) fun σ H Q hq__=>by
 obtain⟨F,τ,t,τ',E,e1,q⟩:=hq__
 obtain⟨⟨o,τ1⟩,e2,e1⟩:=bind_some e1
 cases e1
 exact⟨F,τ,o,τ1,E,e2,fun F' H' v E' s' r=>q F' H' v [] E' s' ⟨rfl,r⟩ List.nodup_nil (fun a ha=>by cases ha) (fun j us p _ _ m=>by cases m)⟩
end
def dZ (fg:FG)(ft:FT)(fe:kO):List T->aI->List O->Option (List O)
 |[],_,acc=>some acc
 |t::ts,τ,acc=>(fg t τ).bind fun τ1=>(ft τ1).bind fun p=>if p.1=true then (fe p.2).bind fun q=>if cw q.2=true/\acc.length<sizeLine then dZ fg ft fe ts q.2 (acc++[q.1]) else none
  else if cw p.2=true then dZ fg ft fe ts p.2 acc else none
section
variable {X:Cx}
structure nM (X:Cx)(pins:List (Addr×Obj))(σ:L2.St)(Y0 Y9 F:Hp)(τ:aI)(rs:List O)(D C:Addr)(s:Shared):Prop where
 ex:∃(H F3:Hp) (vs:List V) (As:List Addr),Inv X pins σ H s/\aL X.K Y0 Y9 F3 H σ τ/\aW F F3/\F3 D=none/\H D=some (.lst vs)/\Y9 D=none/\cv X.K F3 H rs vs As/\As.Nodup/\(∀a∈As,Y9 a=none/\a≠D)/\Apart σ τ As/\H C=none
 ns:∃m,s.heap.Ns C m
 cl:C≠X.env.locals
 c0:X.Y8.heap.objs.size≤C
 cc:∀x c,X.env.cells.lookup x=some c->c≠C
 cp:∀p∈X.pn++pins,p.1≠C
 ow:∀(j:Nat) us p,τ[j]? = some (some (.own us))->σ[j]? = some (some (.ref p))->p≠D
theorem nU {elt tg iter:Expr}{ifs:List Expr}{scope:Scope}{pos:Pos}{N':List Str}{no:Nat}{cap:List Nat}{fi:FA}{fg:FG}{ft:FT}{fe:kO}(hx:X.xe=fun _ _=>False)(hc:X.calm=true)(B:fQ X scope)(hN:N'.length=no+cap.length)
  (hcap:∀(k j:Nat),cap[k]? = some j->∃x,N'[no+k]? = some x/\X.N[j]? = some x/\(x,NameKind.free)∈scope.names) (hi:SI X tg iter fi)
  (hg:∀C cs Y8 Y9 fp pins,SG (pJ X scope N' C cs Y8 Y9 fp pins) tg fg) (ht:∀C cs Y8 Y9 fp pins,CT (pJ X scope N' C cs Y8 Y9 fp pins) ifs ft) (he:∀C cs Y8 Y9 fp pins,AH (pJ X scope N' C cs Y8 Y9 fp pins) elt fe)
  {Y0 Y9 F H:Hp} {pins:List (Addr×Obj)} {s:Shared} {σ:L2.St} {τ τ1:aI} {ts:List T} {rs:List O} (I:Inv X pins σ H s) (E:aL X.K Y0 Y9 F H σ τ) (e2:fi τ=some (ts,τ1)) (ha:cw (cR no cap (frzAll cap τ1))=true) (e3:dZ fg ft fe ts (cR no cap (frzAll cap τ1)) []=some rs)
  {post:Value->Addr->Result->Shared->Prop} (hpost:∀D C s',nM X pins σ Y0 Y9 F (frzAll cap τ1) rs D C s'->post (.ref D) C (.ok .next) s'):
  wpAny (model X.prog X.w) X.A (eval iter X.env) (fun x s₁=>wpAny (model X.prog X.w) X.A (pyIter x) (fun it s₂=>wpAny (model X.prog X.w) X.A (newList []) (fun acc s₃ =>
   wpAny (model X.prog X.w) X.A (newFunctionEnv scope X.env.globals (pE X.env scope.names []) [] X.env.qual none .none (some X.env)) (fun cenv s₄ =>
    codeAny (model X.prog X.w) X.A (.compStart (.ListComp elt [⟨tg,iter,ifs,0⟩] scope pos) 0 it acc { cenv with scope:=relabel scope X.env }) (post acc cenv.locals) s₄) X.xe s₃) X.xe s₂) X.xe s₁) X.xe s:=by
 refine dB (hi Y0 Y9 pins s σ H (fun J H1=>∃F1,aL X.K Y0 Y9 F1 H1 σ τ1/\aW F F1/\Walks X.K F1 ts J) I ⟨F,τ,ts,τ1,E,e2,fun F1 H1 J E1 s1 W=>⟨F1,E1,s1,W⟩⟩) fun v s1 h1=>dB h1 fun itv s2 h2=>?_
 obtain⟨it,fp,tn,J,H1,rfl,I2,Tn,st2,f2,F1,E1,sF1,W⟩:=h2
 obtain⟨F2,E2,sF2⟩:=E1.frzAll cap
 have W2:Walks X.K F2 ts J:=⟨fun i t F3 H3 e a b=>W.go i t F3 H3 e (sF2.trans a) b,fun i t F3 H3 x H4 e a b y=>W.yld i t F3 H3 x H4 e (sF2.trans a) b y,fun F3 H3 a b=>W.stop F3 H3 (sF2.trans a) b⟩
 refine wpAny_newObj_type ?_
 have hz:(s2.heap.push mL).objs.size=s2.heap.objs.size+1:=Heap.size_push ..
 have hz2:((s2.heap.push mL).push yp).objs.size=s2.heap.objs.size+2:=by rw [Heap.size_push,hz]
 simp only [newFunctionEnv,Option.isSome_some,if_true]
 refine wpAny_bind (wpAny_alloc ?_)
 refine wpAny_bind (wpAny_layCells _ (fun name kind cells=>by cases hkc:kind == NameKind.cell<;>simp [hkc]) _ _ _ _ ?_)
 simp only [List.forIn_nil]
 refine wpAny_bind (wpAny_pure (wpAny_pure ?_))
 have loop:codeAny (model X.prog X.w) X.A (.compLoop (.ListComp elt [⟨tg,iter,ifs,0⟩] scope pos) 0 (.ref it) (.ref s2.heap.objs.size) (km X scope (s2.heap.objs.size+1) (cellsFrom (s2.heap.objs.size+2) scope.names (pE X.env scope.names []))))
   (post (.ref s2.heap.objs.size) (s2.heap.objs.size+1)) { s2 with heap:=h0 s2.heap scope }:=by
  have Ib:=zJ (N':=N') (σ':=cR no cap σ) (tk:=s2.toks) I2 B f2 (fun b hb=>by obtain⟨o,e,_⟩:=Tn.obj 0 _ st2 b hb;exact⟨o,e⟩) (by simp [cR,hN]) (fun i x v a1 a2=>by
   obtain⟨k,j,rfl,hk,hj⟩:=qo a2
   obtain⟨x',b1,b2,b3⟩:=hcap k j hk
   rw [a1] at b1;cases b1
   exact .inl ⟨b3,j,b2,hj⟩)
  generalize hX':pJ X scope N' (s2.heap.objs.size+1) (cellsFrom (s2.heap.objs.size+2) scope.names (pE X.env scope.names [])) s2 H1 fp pins=X' at Ib
  have hg':SG X' tg fg:=by rw [<- hX'];exact hg _ _ _ _ _ _
  have ht':CT X' ifs ft:=by rw [<- hX'];exact ht _ _ _ _ _ _
  have he':AH X' elt fe:=by rw [<- hX'];exact he _ _ _ _ _ _
  have xP:X'.prog=X.prog:=by rw [<- hX'];rfl
  have xw:X'.w=X.w:=by rw [<- hX'];rfl
  have xK:X'.K=X.K:=by rw [<- hX'];rfl
  have xA:X'.A=X.A:=by rw [<- hX'];rfl
  have xc:X'.calm=true:=by rw [<- hX'];exact hc
  have xx:X'.xe=fun _ _=>False:=by rw [<- hX'];rfl
  have xe':X'.env=km X scope (s2.heap.objs.size+1) (cellsFrom (s2.heap.objs.size+2) scope.names (pE X.env scope.names [])):=by rw [<- hX'];rfl
  have xex:X'.ex=fp:=by rw [<- hX'];rfl
  have xfs:X'.fs=AI X.stack:=by rw [<- hX'];rfl
  have xpn:X'.pn=X.pn++pins:=by rw [<- hX'];rfl
  have xs0:X'.Y8=s2:=by rw [<- hX'];rfl
  have xH0:X'.Y9=H1:=by rw [<- hX'];rfl
  have xl:X'.env.locals=s2.heap.objs.size+1:=by rw [<- hX'];rfl
  rw [<- xe',<- xP,<- xw,<- xA]
  have hD1:H1 s2.heap.objs.size=none:=I2.fresh
  have fpk:∀{Hc:Hp} {σc:L2.St} {pc:List (Addr×Obj)} {sc:Shared},Inv X' pc σc Hc sc->(∀b∈fp,Hc b=none)->∀b∈fp,qZ X' [] Hc b:=fun {Hc σc pc sc} Ic hn b hb=>by
   have q1:=Ic.ok.exf b (by rw [xex];exact hb)
   have q2:=Ic.ok.exfs b (by rw [xex];exact hb)
   refine⟨hn b hb,q1.1,q2,.inl (by rw [xex];exact hb),q1.2,fun p hp=>?_⟩
   rw [xpn,List.append_nil] at hp
   exact (f2 b hb).2.2.2.2.2 p hp
  refine zK (fun n s3=>∃i σ3 H3 F3 τ3 us vs As,Inv X' [] σ3 H3 s3/\tn i s3.heap/\(∀b∈fp,H3 b=none)/\aL X.K F3 H3 F3 H3 σ3 τ3/\cw τ3=true/\F3 s2.heap.objs.size=none/\H3 s2.heap.objs.size=some (.lst vs)/\(cv X.K F3 H3 us vs As/\As.Nodup/\∀a∈As,H1 a=none/\a≠s2.heap.objs.size)/\aW F2 F3/\aW H1 H3 /\
   (∀a o,F3 a=some o->F2 a=some o\/H1 a=none)/\i≤ts.length/\n=ts.length-i/\dZ fg ft fe (ts.drop i) τ3 us=some rs) ?_ ts.length ?_
  ·rintro n s3 ⟨i,σ3,H3,F3,τ3,us,vs,As,I3,st3,fr3,E3,ha3,fD,hD,⟨rv,nd,fr⟩,sF,sH,nw,hi',rfl,ec⟩
   by_cases hlt:i<ts.length
   ·have hgi:ts[i]? = some ts[i]:=List.getElem?_eq_getElem hlt
    rw [List.drop_eq_getElem_cons hlt] at ec
    obtain⟨τ4,e4,ec⟩:=bind_some ec
    obtain⟨⟨b,τ5⟩,e5,ec⟩:=bind_some ec
    have go:=W2.go i _ F3 H3 hgi sF E3.g.fh
    have itm:=(xP ▸ xw ▸ xK ▸ Tn:Turn X'.prog X'.w X'.K tg J fp it tn).item X' rfl rfl rfl xc i [] s3 σ3 H3 (fun _ _=>False) I3 (fpk I3 fr3) st3 go
    refine dB itm fun r s4 ⟨u,hr,h4⟩=>?_
    subst hr
    refine dB h4 fun _ s5 ⟨x,H5,I5,r5,y5,st5,fr5⟩=>?_
    have I5':=I5.pinned (fpk I5 fr5) (Tn.obj _ _ st5)
    obtain⟨F5,gr,rx⟩:=W2.yld i _ F3 H3 x H5 hgi sF E3.g.fh y5
    have a1:=hg' F3 H3 _ s5 σ3 H5 x u (fun σ6 H6=>∃F6,aL X.K F3 H3 F6 H6 σ6 τ4/\aW F5 F6) I5' r5 (by rw [xK];exact⟨F5,τ3,ts[i],τ4,E3.grow gr,rx,e4,fun F6 H6 σ6 E6 s6=>⟨F6,E6,s6⟩⟩)
    rw [xx] at a1
    refine dB a1 fun _ s6 ⟨σ6,H6,I6,F6,E6,sF6⟩=>?_
    have a2:=ht' F3 H3 _ s6 σ6 H6 (fun b' H7=>b'=b/\∃F7,aL X.K F3 H3 F7 H7 σ6 τ5/\aW F6 F7) I6 (by rw [xK];exact⟨F6,τ4,b,τ5,E6,e5,fun F7 H7 E7 s7=>⟨rfl,F7,E7,s7⟩⟩)
    rw [xx] at a2
    refine dB a2 fun ok s7 ⟨H7,I7,hok,F7,E7,sF7⟩=>?_
    subst hok
    have tail:∀{σc:L2.St} {Hc:Hp} {sc:Shared},Inv X' ([]++oK fp s5.heap) σc Hc sc->tn (i+1) sc.heap/\∀b∈fp,Hc b=none:=fun {σc Hc sc} Ic=>by
     refine⟨Tn.keep _ _ _ st5 fun b hb o e=>(Ic.pin (b,o) (List.mem_append_right _ (List.mem_append_right _ (jb hb e)))).1,fun b hb=>?_⟩
     obtain⟨o,e,d⟩:=Tn.obj _ _ st5 b hb
     exact (Ic.pin (b,o) (List.mem_append_right _ (List.mem_append_right _ (jb hb e)))).2.1
    have keepD:∀{Fc Hc:Hp} {σc:L2.St} {τc:aI},aL X.K F3 H3 Fc Hc σc τc->Fc s2.heap.objs.size=none:=fun {Fc Hc σc τc} Ec=>by
     cases eF:Fc s2.heap.objs.size with
     |none=>rfl
     |some o =>
      rcases Ec.g.nw _ o eF with z | z
      ·rw [fD] at z;cases z
      ·rw [hD] at z;cases z
    have newF:∀{Fc Hc:Hp} {σc:L2.St} {τc:aI},aL X.K F3 H3 Fc Hc σc τc->∀a o,Fc a=some o->F2 a=some o\/H1 a=none:=fun {Fc Hc σc τc} Ec a o eF=>by
     rcases Ec.g.nw a o eF with z | z
     ·exact nw a o z
     ·exact .inr (sH.free z)
    have mv:∀{Fc Hc Hd:Hp} {σc:L2.St} {τc:aI},aL X.K F3 H3 Fc Hc σc τc->(∀a,a≠s2.heap.objs.size->Hd a=Hc a)->cv X.K Fc Hd us vs As:=fun {Fc Hc Hd σc τc} Ec hd=>by
     refine cv.move Ec.g.sF (fun a ha=>?_) rv
     obtain⟨f1,ws,f2⟩:=rv.at a ha
     refine⟨by rw [hd a (fr a ha).2,Ec.g.sH _ _ f2,f2],?_⟩
     cases eF:Fc a with
     |none=>rfl
     |some o =>
      rcases Ec.g.nw _ o eF with z | z
      ·rw [f1] at z;cases z
      ·rw [f2] at z;cases z
    cases b':ok with
    |false =>
     subst b'
     dsimp only at ec
     rw [if_neg (by decide)] at ec
     split at ec
     ·next ha =>
      rw [if_neg (by decide)]
      obtain⟨t1,t2⟩:=tail I7
      exact⟨ts.length-(i+1),by omega,i+1,σ6,H7,F7,τ5,us,vs,As,I7.unpinned,t1,t2,E7.rebase ha E7.g.fh,ha,keepD E7,E7.g.sH _ _ hD,⟨mv E7 (fun _ _=>rfl),nd,fr⟩,sF.trans E7.g.sF,sH.trans E7.g.sH,newF E7,hlt,rfl,ec⟩
     ·cases ec
    |true =>
     subst b'
     dsimp only at ec
     rw [if_pos rfl] at ec
     rw [if_pos rfl]
     obtain⟨⟨y0,τ6⟩,e6,ec⟩:=bind_some ec
     dsimp only at ec
     split at ec
     ·next ha =>
      have a3:=he' F3 H3 _ s7 σ6 H7 (fun y H8=>∃F8 Ay,aL X.K F3 H3 F8 H8 σ6 τ6/\gC X.K F8 H8 y0 y Ay/\Ay.Nodup/\∀a∈Ay,H3 a=none) I7 (by rw [xK];exact⟨F7,τ5,y0,τ6,E7,e6,fun F8 H8 y Ay E8 s8 r8 n8 h8 _=>⟨F8,Ay,E8,r8,n8,h8⟩⟩)
      rw [xx] at a3
      refine dB a3 fun yv s8 ⟨y,H8,I8,ry,F8,Ay,E8,rp,ndy,hy8⟩=>?_
      have dD:H8 s2.heap.objs.size=some (.lst vs):=E8.g.sH _ _ hD
      have a4:=jV (X:=X') _ s8 σ6 H8 (.ref s2.heap.objs.size) [y] (.ref s2.heap.objs.size) [yv] (fun _ H9=>H9=upd H8 s2.heap.objs.size (.lst (vs++[y]))) I8 rfl (.cons ry .nil) ⟨s2.heap.objs.size,vs,y,rfl,rfl,dD,by rw [rv.length];exact ha.2,rfl⟩
      rw [xx] at a4
      refine dB a4 fun _ s9 ⟨_,H9,I9,_,e9⟩=>?_
      subst e9
      obtain⟨t1,t2⟩:=tail I9
      have kD:=keepD E8
      have sm:aW F8 (upd H8 s2.heap.objs.size (.lst (vs++[y]))):=fun c o z=>by rw [aP (fun w=>by subst w;rw [kD] at z;cases z)];exact E8.g.fh _ _ z
      have sm1:aW H1 (upd H8 s2.heap.objs.size (.lst (vs++[y]))):=fun c o z=>by rw [aP (fun w=>by subst w;rw [hD1] at z;cases z)];exact E8.g.sH _ _ (sH _ _ z)
      have yD:∀a∈Ay,a≠s2.heap.objs.size:=fun a ha z=>by have:=hy8 a ha;rw [z,hD] at this;cases this
      have rp9:gC X.K F8 (upd H8 s2.heap.objs.size (.lst (vs++[y]))) y0 y Ay:=gC.move (aW.refl _) (fun a ha=>⟨aP (yD a ha),(rp.at a ha).1⟩) rp
      have all9:cv X.K F8 (upd H8 s2.heap.objs.size (.lst (vs++[y]))) (us++[y0]) (vs++[y]) (As++Ay):=(mv E8 (fun a ha=>aP ha)).app (.one rp9)
      have nd9:(As++Ay).Nodup:=List.nodup_append.mpr ⟨nd,ndy,fun a ha b hb z=>by subst z;obtain⟨_,ws,f2⟩:=rv.at a ha;rw [hy8 a hb] at f2;cases f2⟩
      have fr9:∀a∈As++Ay,H1 a=none/\a≠s2.heap.objs.size:=fun a ha=>by
       rcases List.mem_append.mp ha with ha | ha
       ·exact fr a ha
       ·exact⟨sH.free (hy8 a ha),yD a ha⟩
      exact⟨ts.length-(i+1),by omega,i+1,σ6,_,F8,τ6,us++[y0],vs++[y],As++Ay,I9.unpinned,t1,t2,E8.rebase ha.1 sm,ha.1,kD,bo,⟨all9,nd9,fr9⟩,sF.trans E8.g.sF,sm1,newF E8,hlt,rfl,ec⟩
     ·cases ec
   ·have hie:i=ts.length:=by omega
    subst hie
    rw [List.drop_length] at ec
    cases ec
    have dn:=(xP ▸ xw ▸ xK ▸ Tn:Turn X'.prog X'.w X'.K tg J fp it tn).done X' rfl rfl rfl xc ts.length [] s3 σ3 H3 (fun _ _=>False) I3 (fpk I3 fr3) st3 (W2.stop F3 H3 sF E3.g.fh)
    refine dB dn fun r s4 ⟨hr,I4⟩=>?_
    subst hr
    obtain⟨m4,hm4,_⟩:=I4.loc
    rw [xl] at hm4
    have un:=I4.base
    rw [xfs,xex,xH0,xs0] at un
    have ox:=I4.os
    rw [xs0] at ox
    have hok4:=I4.hok
    rw [xP,xw] at hok4
    have IX:Inv X pins σ H3 s4:=I2.call' ox un hok4 I4.bare fun b hb=>⟨(f2 b hb).2.2.2.1,(f2 b hb).2.1,(f2 b hb).2.2.2.2.1,(f2 b hb).2.2.2.2.2⟩
    have hC:H3 (s2.heap.objs.size+1)=none:=by have:=I4.free;rw [xl] at this;exact this
    have lC:@LT.lt Nat _ X.env.locals s2.heap.objs.size:=I2.lt
    have gr:bB F2 H1 F3 H3:=⟨sF,sH,E3.g.fh,nw⟩
    have ap3:Apart σ (frzAll cap τ1) As:=fun j us p j1 j2 m=>by
     obtain⟨v,k1,p',vs',rfl,k2,_⟩:=E2.sl j _ j1
     rw [j2] at k1;cases k1
     rw [(fr _ m).1] at k2;cases k2
    refine hpost _ _ _ ⟨⟨H3,F3,vs,As,IX,E2.grow gr,(sF1.trans sF2).trans sF,fD,hD,E2.g.sH.free hD1,rv,nd,fun a ha=>⟨E2.g.sH.free (fr a ha).1,(fr a ha).2⟩,ap3,hC⟩,⟨m4,hm4⟩,Nat.ne_of_gt (Nat.lt_succ_of_lt lC),Nat.le_trans I2.sz (Nat.le_succ _),
     fun x c hxc=>by obtain⟨v,z⟩:=I2.cell x c hxc;exact Nat.ne_of_lt (Nat.lt_succ_of_lt z.lt),fun p hp=>Nat.ne_of_lt (Nat.lt_succ_of_lt (Heap.lt_size (I2.pin p hp).1)),fun j us p j1 j2=>?_⟩
    obtain⟨v,k1,p',vs',rfl,k2,_⟩:=E2.sl j _ j1
    rw [j2] at k1;cases k1
    exact bz k2 hD1
  ·refine⟨0,cR no cap σ,upd H1 s2.heap.objs.size (.lst []),F2,cR no cap (frzAll cap τ1),[],[],[],Ib,Tn.keep _ _ _ st2 fun b hb o e=>iZ e,fun b hb=>?_,E2.block ha (E2.g.fh.trans (dA hD1)),ha,E2.g.fh.free hD1,bo,⟨⟨rfl,rfl⟩,List.nodup_nil,fun a ha=>by cases ha⟩,aW.refl _,dA hD1,fun a o z=>.inl z,Nat.zero_le _,rfl,e3⟩
   obtain⟨o,e,_⟩:=Tn.obj 0 _ st2 b hb
   rw [aP (Nat.ne_of_lt (Heap.lt_size e))]
   exact (f2 b hb).1
 have fin:∀{C:Addr} {cs:List (Str×Addr)},C=s2.heap.objs.size+1->cs=cellsFrom (s2.heap.objs.size+2) scope.names (pE X.env scope.names []) ->
   codeAny (model X.prog X.w) X.A (.compStart (.ListComp elt [⟨tg,iter,ifs,0⟩] scope pos) 0 (.ref it) (.ref s2.heap.objs.size) (km X scope C cs)) (post (.ref s2.heap.objs.size) C) { s2 with heap:=h0 s2.heap scope }:=fun {C cs} h1 h2=>by
  subst h1 h2
  exact codeAny_compStart_list loop (Tn.self _ 0 _ _ _ (Tn.keep _ _ _ st2 fun b hb o e=>iZ e) loop)
 exact fin hz (by rw [<- hz2])
def cJ (no:Nat)(cap:List Nat)(fi:FA)(fg:FG)(ft:FT)(fe:kO):kO:=fun τ=>(fi τ).bind fun p =>
 if cw (cR no cap (frzAll cap p.2))=true then (dZ fg ft fe p.1 (cR no cap (frzAll cap p.2)) []).bind fun us=>some (.lst us,frzAll cap p.2) else none
theorem nM.fin {pins:List (Addr×Obj)}{σ:L2.St}{Y0 Y9 F:Hp}{τ:aI}{rs:List O}{D C:Addr}{s:Shared}(Z:nM X pins σ Y0 Y9 F τ rs D C s):
  ∃(H F3:Hp) (As:List Addr),Inv X pins σ H s/\aL X.K Y0 Y9 F3 H σ τ/\aW F F3/\gC X.K F3 H (.lst rs) (.ref D) As/\As.Nodup/\(∀a∈As,Y9 a=none)/\Apart σ τ As/\H C=none:=by
 obtain⟨H,F3,vs,As,IX,E3,sF,fD,hD,h0D,rv,nd,h0,ap,hC⟩:=Z.ex
 refine⟨H,F3,D::As,IX,E3,sF,⟨D,vs,As,rfl,rfl,hD,fD,rv⟩,List.nodup_cons.mpr ⟨fun m=>(h0 D m).2 rfl,nd⟩,fun a ha=>?_,fun j us p e1 e2 m=>?_,hC⟩
 ·rcases List.mem_cons.mp ha with rfl | ha
  ·exact h0D
  ·exact (h0 a ha).1
 ·rcases List.mem_cons.mp m with rfl | m
  ·exact Z.ow j us _ e1 e2 rfl
  ·exact ap j us p e1 e2 m
theorem fT {elt tg iter:Expr}{ifs:List Expr}{scope:Scope}{pos:Pos}{N':List Str}{no:Nat}{cap:List Nat}{fi:FA}{fg:FG}{ft:FT}{fe:kO}(hx:X.xe=fun _ _=>False)(hc:X.calm=true)(B:fQ X scope)(hN:N'.length=no+cap.length)
  (hcap:∀(k j:Nat),cap[k]? = some j->∃x,N'[no+k]? = some x/\X.N[j]? = some x/\(x,NameKind.free)∈scope.names) (hi:SI X tg iter fi)
  (hg:∀C cs Y8 Y9 fp pins,SG (pJ X scope N' C cs Y8 Y9 fp pins) tg fg) (ht:∀C cs Y8 Y9 fp pins,CT (pJ X scope N' C cs Y8 Y9 fp pins) ifs ft) (he:∀C cs Y8 Y9 fp pins,AH (pJ X scope N' C cs Y8 Y9 fp pins) elt fe)
  (hs:∀x,foldedSetIterable iter X.env x=pure x:=by intro _;rfl):AH X (.ListComp elt [⟨tg,iter,ifs,0⟩] scope pos) (cJ no cap fi fg ft fe):=by
 intro Y0 Y9 pins s σ H Q I ⟨F,τ,t,τ',E,e1,q⟩
 obtain⟨⟨ts,τ1⟩,e2,e1⟩:=bind_some e1
 dsimp only at e1
 split at e1
 ·next ha =>
  obtain⟨rs,e3,e1⟩:=bind_some e1
  cases e1
  have hfree:∀y∈scope.names,y.2=.free->∃c,X.env.cells.lookup y.1=some c:=fun y hy hk=>I.ok.has y.1 (B.free y hy hk).1
  rw [eval_ListComp]
  refine wpAny_comprehension_free (use:=none) rfl hs (nT hfree) B.kind B.names (nU hx hc B hN hcap hi hg ht he I E e2 ha e3 fun D C s' Z=>?_)
  obtain⟨H3,F3,As,IX,E3,sF,ro,nd,h0,ap,hC⟩:=Z.fin
  obtain⟨m,hm⟩:=Z.ns
  refine⟨m,hm,fun h' sb=>⟨.ref D,H3,IX.turned (t':=s'.toks) (it:=C) (fun b o hb e=>(sb.2 b hb).trans e) hC Z.cl (.inr Z.c0) Z.cc Z.cp,rfl,?_⟩⟩
  exact q F3 H3 (.ref D) As E3 sF ro nd h0 ap
 ·cases e1
def Co (K:PySem.W.Frag)(Y0 Y9:Hp)(i:Nat)(f:kO):TS:=fun D σ H=>∃F τ o τ',aL K Y0 Y9 F H σ τ/\f τ=some (o,τ') /\
 ∀F' H' v A,aL K Y0 Y9 F' H' σ τ'->aW F F'->gC K F' H' o v A->A.Nodup->(∀a∈A,Y9 a=none)->Apart σ τ' A->D.nx (σ.set i (some v)) H'
theorem mV (i:Nat){y:Str}{py spos:Pos}{elt tg iter:Expr}{ifs:List Expr}{scope:Scope}{pos:Pos}{N':List Str}{no:Nat}{cap:List Nat}{fi:FA}{fg:FG}{ft:FT}{fe:kO}(hNd:X.N.Nodup)(hiy:X.N[i]? = some y)(hy:X.env.scope.names.lookup y=some .local)
  (hx:X.xe=fun _ _=>False) (hc:X.calm=true) (B:fQ X scope) (hN:N'.length=no+cap.length)
  (hcap:∀(k j:Nat),cap[k]? = some j->∃x,N'[no+k]? = some x/\X.N[j]? = some x/\(x,NameKind.free)∈scope.names) (hi:SI X tg iter fi)
  (hg:∀C cs Y8 Y9 fp pins,SG (pJ X scope N' C cs Y8 Y9 fp pins) tg fg) (ht:∀C cs Y8 Y9 fp pins,CT (pJ X scope N' C cs Y8 Y9 fp pins) ifs ft) (he:∀C cs Y8 Y9 fp pins,AH (pJ X scope N' C cs Y8 Y9 fp pins) elt fe)
  (hsw:swapsWith (.ListComp elt [⟨tg,iter,ifs,0⟩] scope pos) (some (.Name y py)) spos.line X.env=pure true:=by rfl) (hs:∀x,foldedSetIterable iter X.env x=pure x:=by intro _;rfl) (Y0 Y9:Hp):
  PS X (.Assign [.Name y py] (.ListComp elt [⟨tg,iter,ifs,0⟩] scope pos) spos) (Co X.K Y0 Y9 i (cJ no cap fi fg ft fe)):=by
 intro pins s σ H Dn I ⟨F,τ,r,τ',E,e1,q⟩
 obtain⟨⟨ts,τ1⟩,e2,e1⟩:=bind_some e1
 dsimp only at e1
 split at e1
 ·next ha =>
  obtain⟨rs,e3,e1⟩:=bind_some e1
  cases e1
  have hfree:∀y∈scope.names,y.2=.free->∃c,X.env.cells.lookup y.1=some c:=fun y hy hk=>I.ok.has y.1 (B.free y hy hk).1
  rw [exec_Assign_Name_used _ _ _ _ hsw]
  refine wpAny_bind (wpAny_standAt (wpAny_bind (?_:wpAny _ X.A (do let _ <- comprehension (.ListComp elt [⟨tg,iter,ifs,0⟩] scope pos) scope X.env _ (newList []) false (eval iter X.env) (some (assign (.Name y py) X.env))) _ _ s)))
  refine wpAny_bind (dB (wpAny_comprehension_free (use:=some (assign (.Name y py) X.env)) (Q:=fun _ s'=>SP X pins Dn .next s') rfl hs (nT hfree) B.kind B.names (nU hx hc B hN hcap hi hg ht he I E e2 ha e3 fun D C s' Z=>?_)) fun _ s' hq=>wpAny_pure (wpAny_pure hq))
  obtain⟨H3,F3,As,IX,E3,sF,ro,nd,h0,ap,hC⟩:=Z.fin
  obtain⟨m,hm⟩:=Z.ns
  refine (wpAny_assign_Name (qM IX hNd hiy (.inl hy) (v:=.ref D) rfl (fun s'' I'' w=>?_) (.inr hy)):wpAny _ X.A (assign (.Name y py) X.env (.ref D)) _ _ _)
  obtain⟨a,sb,hab⟩:=w
  have aC:C≠a:=fun z=>by
   subst z
   rcases hab with z | z
   ·exact Z.cl z
   ·exact Z.cc _ _ z rfl
  refine⟨m,hm.sameBut sb aC,fun h' sb'=>⟨_,H3,I''.turned (t':=s''.toks) (it:=C) (fun b o hb e=>(sb'.2 b hb).trans e) hC Z.cl (.inr Z.c0) Z.cc Z.cp,?_⟩⟩
  exact q F3 H3 _ As E3 sF ro nd h0 ap
 ·cases e1
end
def kq (H:Hp)(A:List Addr):Hp:=fun a=>if a∈A then none else H a
theorem hZ {H:Hp}{A:List Addr}{a:Addr}(h:a∈A):kq H A a=none:=if_pos h
theorem cj {H:Hp}{A:List Addr}{a:Addr}(h:a∉A):kq H A a=H a:=if_neg h
theorem qu {H:Hp}{A:List Addr}:aW (kq H A) H:=fun a o e=>by
 by_cases m:a∈A
 ·rw [hZ m] at e;cases e
 ·rw [cj m] at e;exact e
section
variable {K:PySem.W.Frag}{Y0 Y9 F₁ H₁ F H F' H':Hp}{σ:L2.St}{τ:aI}
theorem aL.back (E:aL K F₁ H₁ F H σ τ)(ha:cw τ=true)(g:bB Y0 Y9 F₁ H₁):aL K Y0 Y9 F H σ τ:=by
 refine⟨g.trans E.g,E.len,fun i sl e=>?_,fun i j ts us p _ e1=>absurd e1 (dy ha)⟩
 obtain⟨v,h1,h2⟩:=E.sl i sl e
 cases sl with
 |sh t=>exact⟨v,h1,h2⟩
 |own ts=>exact absurd e (dy ha)
theorem aL.to (E:aL K F₁ H₁ F H σ τ)(ha:cw τ=true)(sF:aW F F')(g:bB Y0 Y9 F' H'):aL K Y0 Y9 F' H' σ τ:=by
 refine⟨g,E.len,fun i sl e=>?_,fun i j ts us p _ e1=>absurd e1 (dy ha)⟩
 obtain⟨v,h1,h2⟩:=E.sl i sl e
 cases sl with
 |sh t=>exact⟨v,h1,Rep.mono sF h2⟩
 |own ts=>exact absurd e (dy ha)
end
section
variable {X:Cx}{e:Expr}{f:FE}{ft:FT}{es:List Expr}{g:FA}
theorem SE.any (h:SE X e f):PE X e (fun σ H Q=>∃Y0 Y9,tE X.K Y0 Y9 f σ H Q):=fun pins s σ H Q I ⟨Y0,Y9,q⟩=>h Y0 Y9 pins s σ H Q I q
theorem ui.any {ss:List Stmt}{fs:FS}(h:ui X ss fs):kP X ss (fun D σ H=>∃Y0 Y9,tS X.K Y0 Y9 fs D σ H):=fun pins s σ H D I ⟨Y0,Y9,q⟩=>h Y0 Y9 pins s σ H D I q
def LM (X:Cx)(S:Stmt)(i:Nat)(fo:kO):Prop:=∀Y0 Y9,PS X S (Co X.K Y0 Y9 i fo)
theorem vF {i:Nat}{y:Str}{py spos:Pos}{elt tg iter:Expr}{ifs:List Expr}{scope:Scope}{pos:Pos}{N':List Str}{no:Nat}{cap:List Nat}{fi:FA}{fg:FG}{ft:FT}{fe:kO}(hNd:X.N.Nodup)(hiy:X.N[i]? = some y)(hy:X.env.scope.names.lookup y=some .local)
  (hx:X.xe=fun _ _=>False) (hc:X.calm=true) (B:fQ X scope) (hN:N'.length=no+cap.length)
  (hcap:∀(k j:Nat),cap[k]? = some j->∃x,N'[no+k]? = some x/\X.N[j]? = some x/\(x,NameKind.free)∈scope.names) (hi:SI X tg iter fi)
  (hg:∀C cs Y8 Y9 fp pins,SG (pJ X scope N' C cs Y8 Y9 fp pins) tg fg) (ht:∀C cs Y8 Y9 fp pins,CT (pJ X scope N' C cs Y8 Y9 fp pins) ifs ft) (he:∀C cs Y8 Y9 fp pins,AH (pJ X scope N' C cs Y8 Y9 fp pins) elt fe)
  (hsw:swapsWith (.ListComp elt [⟨tg,iter,ifs,0⟩] scope pos) (some (.Name y py)) spos.line X.env=pure true:=by rfl) (hs:∀x,foldedSetIterable iter X.env x=pure x:=by intro _;rfl):
  LM X (.Assign [.Name y py] (.ListComp elt [⟨tg,iter,ifs,0⟩] scope pos) spos) i (cJ no cap fi fg ft fe):=
 fun Y0 Y9=>mV i hNd hiy hy hx hc B hN hcap hi hg ht he hsw hs Y0 Y9
end
section
variable {X:Cx}
def boolsOf:List T->Option (List Bool)
 |[]=>some []
 | .bl b::r=>(boolsOf r).bind fun bs=>some (b::bs)
 |_=>none
def rJ:List T->Option T
 |[.lst ts]=>(boolsOf ts).bind fun bs=>some (.bl (bs.all id))
 |_=>none
theorem qp {K:PySem.W.Frag}{F:Hp}:∀{ts:List T} {bs:List Bool} {vs:List V} {its:List Value},boolsOf ts=some bs->aX K F ts vs->Vals vs its->its=bs.map Value.bool
 |[],bs,vs,its,e,r,z=>by
  cases e;cases r;cases z;rfl
 |t::ts,bs,vs,its,e,r,z=>by
  obtain⟨v,rr,rfl,h1,h2⟩:=r
  unfold boolsOf at e
  split at e
  ·next he=>cases he
  ·next b r0 he =>
   cases he
   obtain⟨bs',e1,e2⟩:=bind_some e
   cases e2
   cases h1
   cases z with
   |cons rz zz =>
    cases rz
    rw [qp e1 h2 zz]
    rfl
  ·cases e
theorem DB {s:Shared}{h':Heap}{o:Obj}(hk:∀b x,b∉[s.heap.objs.size]->(s.heap.push o).get? b=some x->h'.get? b=some x):∀b x,s.heap.get? b=some x->h'.get? b=some x:=
 fun b x e=>hk b x (fun hm=>by rw [List.mem_singleton.mp hm] at e;exact Nat.lt_irrefl _ (Heap.lt_size e)) (Heap.get?_push_of_some _ e)
theorem range_all (bs:List Bool):((List.range bs.length).all fun i=>(bs[i]?).getD true)=bs.all id:=by
 induction bs with
 |nil=>rfl
 |cons b bs ih =>
  rw [List.length_cons,List.range_succ_eq_map,List.all_cons,List.all_map]
  simp only [List.all_cons,List.getElem?_cons_zero,Option.getD_some,id]
  rw [<- ih]
  congr 1
theorem AZ (hc:X.calm=true):kc X (.builtin "all") rJ:=by
 intro pins s σ H xs us Q I rx ⟨F,ts,t,sm,r,e,q⟩
 unfold rJ at e
 split at e
 ·next ts =>
  obtain⟨bs,e1,e2⟩:=bind_some e
  cases e2
  obtain⟨v,rr,rfl,⟨p,vs,rfl,h1,h2⟩,rfl⟩:=r
  obtain⟨u,rfl,ru⟩:=Vals.one rx
  cases ru
  obtain⟨its,rv,pl,hz⟩:=I.list (fq.of (sm _ _ h1))
  have hb:=qp e1 h2 rv
  subst hb
  have hl:=pl.isList
  have hlt:@LT.lt Nat _ p s.heap.objs.size:=by obtain⟨_,e,_⟩:=hl;exact Heap.lt_size e
  refine call_all_walk (wpAny_pyIter_list hl ?_)
  refine⟨s.heap.objs.size,[s.heap.objs.size,p],[s.heap.objs.size],(bs.map Value.bool).toArray.size,_,_,fun i=>(bs[i]?).getD true,rfl,PySem.Walks.list (A:=X.A.in1) (I.ok.hd hc) _ p (Nat.ne_of_lt hlt) (bs.map Value.bool).toArray,
   ⟨⟨_,Heap.get?_push_size _ rfl,rfl,rfl⟩,hl.push _⟩,fun i v s' Q' E' hP hQ=>?_,fun h' tk hk=>?_⟩
  ·have hP':(bs.map Value.bool)[i]? = some v:=by simpa using hP
   rw [List.getElem?_map] at hP'
   cases eb:bs[i]? with
   |none=>rw [eb] at hP';cases hP'
   |some b =>
    rw [eb] at hP'
    have:v=.bool b:=(Option.some.inj hP').symm
    subst this
    simp only [eb,Option.getD_some] at hQ
    exact wpAny_truthy_bool hQ
  ·have e:((List.range (bs.map Value.bool).toArray.size).all fun i=>(bs[i]?).getD true)=bs.all id:=by
    rw [List.size_toArray,List.length_map]
    exact range_all bs
   rw [e]
   exact⟨.bl _,H,I.kept (t':=tk) (DB hk),rfl,q F H _ (bB.refl sm) rfl⟩
 ·cases e
def il:List T->Option T
 |[.lst ts]=>some (.tup ts)
 |[.tup ts]=>some (.tup ts)
 |_=>none
theorem kZ:kc X (.type "tuple") il:=kY pK fun vs H Q hq__=>by
 obtain⟨F,ts,t,sm,r,e,q⟩:=hq__
 unfold il at e
 split at e
 ·obtain⟨v,rr,rfl,⟨p,xs,rfl,h1,h2⟩,rfl⟩:=r
  cases e
  refine⟨p,xs,rfl,.inl ⟨fq.of (sm _ _ h1),fun l hl=>?_⟩⟩
  have gr:=bB.new (.tup xs) sm hl
  exact q _ _ _ gr ⟨l,xs,rfl,kQ.of bo,aX.mono gr.sF h2⟩
 ·obtain⟨v,rr,rfl,⟨p,xs,rfl,h1,h2⟩,rfl⟩:=r
  cases e
  exact⟨p,xs,rfl,.inr ⟨cm sm h1,q F H _ (bB.refl sm) ⟨p,xs,rfl,h1,h2⟩⟩⟩
 ·cases e
theorem DI:Km X "int.bit_length" (fun x vs H Q=>∃i,x=.int i/\vs=[]/\Q (.int (Builtin.Int.intBits i)) H):=by
 intro pins s σ H x vs v us Q I rx rv ⟨i,hx,hvs,q⟩
 subst hx;subst hvs
 obtain⟨t,rfl⟩:=rx
 have:=rv.zero
 subst this
 exact PyProof.Rows.call_int_bit_length ⟨.int _,H,I.tok _,⟨_,rfl⟩,q⟩
def ia:T->Option T
 | .int i=>some (.int (Builtin.Int.intBits i))
 |_=>none
theorem jk {e:Expr}{f:FE}{p2 p3:Pos}(he:SE X e f)(hbase:attributeBase e "bit_length" X.env (eval e X.env)=eval e X.env:=by rfl)(hline:(p2.endLine == p3.line)=true:=by rfl):
  SE X (.Call (.Attribute e "bit_length" p2) [] [] p3) (n9 ia f):=fun Y0 Y9 =>
 PE.weak (G3 PySem.F.plainAttrs_int PySem.F.slot_int_bit_length PySem.F.type_int_bit_length DI (he Y0 Y9) hbase hline) fun σ H Q hq__=>by
  obtain⟨F,τ,t,τ',E,e1,q⟩:=hq__
  obtain⟨⟨x,τ1⟩,e2,e1⟩:=bind_some e1
  obtain⟨z,e4,e1⟩:=bind_some e1
  cases e1
  refine⟨F,τ,x,_,E,e2,fun F1 H1 v1 E1 s1 r1=>?_⟩
  dsimp only at e4
  unfold ia at e4
  split at e4
  ·cases e4;cases r1
   exact⟨rfl,_,rfl,rfl,q F1 H1 _ E1 s1 rfl⟩
  ·cases e4
theorem gQ {x:Str}{i:Int}{t:Tok}{pos:Pos}(hg:Gl X x)(hm:X.mg x=some (.int i t))(hd:(x == ("__debug__" : Str))=false:=by decide):SE X (.Name x pos) (fC (.int i)):=gP (tw (v:=.int i) hg hm ⟨_,rfl⟩ hd) fun _=>rfl
def bh (f:FE):FA:=fun τ=>(f τ).bind fun p=>match p.1 with | .lst ts=>some (ts,p.2) | .scr ts=>some (ts,p.2) | .tup ts=>some (ts,p.2) | _=>none
theorem cV {tg l:Expr}{f:FE}(h:SE X l f):SI X tg l (bh f):=by
 intro Y0 Y9 pins s σ H R I ⟨F,τ,ts,τ',E,e1,q⟩
 obtain⟨⟨x,τ1⟩,e2,e1⟩:=bind_some e1
 dsimp only at e1
 split at e1
 ·exact zr h Y0 Y9 pins s σ H R I ⟨F,τ,ts,τ',E,by unfold wx;rw [e2];exact e1,q⟩
 ·exact zr h Y0 Y9 pins s σ H R I ⟨F,τ,ts,τ',E,by unfold wx;rw [e2];exact e1,q⟩
 ·exact Ht h Y0 Y9 pins s σ H R I ⟨F,τ,ts,τ',E,by unfold A8;rw [e2];exact e1,q⟩
 ·cases e1
end
theorem Dh {P:Program}{w:World}{K:PySem.W.Frag}{mg:Str->Option Value}{base:Heap}{x qual:Str}{st:Stmt}{f:Addr}{fd:FuncData}{N ps:List Str}{k:Nat}{fb:FS}(F:eR K x qual st f fd)(S:aO N ps (ay st))
  (h:∀(cdv:Value) (A:Around) (outer:List Env) (s:Shared) (H:Hp) (E:XK),dG k (A.deeper (envOfC qual (ay st) s.heap.objs.size f cdv))->ui (nV pG P w K mg base N qual (ay st) f cdv A outer s H E).nox (dP st) fb):
  gz P w K mg base pG (k+1) f fd ps (spT K ps.length (cI N.length ps.length fb)):=by
 refine F.ok S (fun vs H Q E z=>z.1) (fun cdv A outer s H vs Q E hr z=>?_)
 obtain⟨hl,F1,ts,t,sm,r,e,q⟩:=z
 unfold cI at e
 split at e
 ·next hn =>
  obtain⟨r',e1,e⟩:=bind_some e
  refine⟨_,h cdv A outer s H E hr F1 H,F1,_,r',?_,e1,?_⟩
  ·have:=iI (N:=N) sm r
   rw [hn] at this
   exact this
  ·cases r' with
   |rt u=>cases e;exact fun F' H' v g r'=>q F' H' v g r'
   |nx τ=>cases e;exact fun F' H' σ' E' s'=>q F' H' .non E'.g rfl
   |bk τ=>cases e
   |ct τ=>cases e
 ·cases e
theorem SS.any {X:Cx}{st:Stmt}{fs:FS}(h:SS X st fs):PS X st (fun D σ H=>∃Y0 Y9,tS X.K Y0 Y9 fs D σ H):=fun pins s σ H D I ⟨Y0,Y9,q⟩=>h Y0 Y9 pins s σ H D I q
section
variable {K:PySem.W.Frag}{F0 H0 F H F1 H1:Hp}{p:Addr}{os:List O}{A:List Addr}
def vT:List O->Bool
 |[]=>true
 | .val _::r=>vT r
 |_::_=>false
theorem cv.plain:∀{ro:List O} {ws:List V} {C:List Addr},vT ro=true->cv K F H ro ws C->C=[]/\aX K F (O.trs ro) ws
 |[],ws,C,_,h=>⟨h.2,h.1⟩
 | .val t::r,ws,C,ha,h=>by
  obtain⟨v,q,B,D,rfl,rfl,⟨rfl,h1⟩,h2⟩:=h
  obtain⟨rfl,h3⟩:=cv.plain (ro:=r) ha h2
  exact⟨rfl,v,q,rfl,h1,h3⟩
 | .lst _::r,ws,C,ha,h=>by cases ha
theorem lN:∀(ts:List T),O.trs (ts.map O.val)=ts
 |[]=>rfl
 |t::ts=>by rw [List.map_cons,O.trs,lN ts];rfl
end
def Mx (K:PySem.W.Frag)(n:Nat)(d:List T->Option O):Sp:=fun vs H Q _=>vs.length=n/\∃F ts o,aW F H/\aX K F ts vs/\d ts=some o /\
 ∀F' H' v A,bB F H F' H'->gC K F' H' o v A->A.Nodup->(∀a∈A,H a=none)->Q v H'
structure mY (P:Program)(w:World)(K:PySem.W.Frag)(mg:Str->Option Value)(base:Heap)(k:Nat)(x:Str)(n:Nat)(d:List T->Option O):Prop where
 ex:∃f fd ps,gz P w K mg base pG k f fd ps (Mx K n d)/\Binds K fd ps []/\PySem.W.keepIn K (.ref f)=true/\mg x=some (.ref f)/\ps.length=n
section
variable {P:Program}{w:World}{K:PySem.W.Frag}{mg:Str->Option Value}{base:Heap}{j k n:Nat}{x:Str}
theorem mY.imp {d d':List T->Option O}(D:mY P w K mg base k x n d)(h:∀ts o,d' ts=some o->d ts=some o):mY P w K mg base k x n d':=by
 obtain⟨f,fd,ps,F,r⟩:=D.ex
 exact⟨f,fd,ps,F.imp fun vs H Q E ⟨l,F,ts,o,a,b,c,q⟩=>⟨l,F,ts,o,a,b,h _ _ c,q⟩,r⟩
theorem mY.plain {d:List T->Option O}(D:mY P w K mg base k x n d):Def P w K mg base k x n (fun ts=>(d ts).bind fun o=>some o.tr):=by
 obtain⟨f,fd,ps,F,r⟩:=D.ex
 refine⟨f,fd,ps,F.imp fun vs H Q E ⟨l,F,ts,t,a,b,c,q⟩=>?_,r⟩
 obtain⟨o,e1,e2⟩:=bind_some c
 cases e2
 exact⟨l,F,ts,o,a,b,e1,fun F' H' v A g ro nd h0=>q _ H' v (g.frzO (fun a ha=>(ro.at a ha).1) h0) ro.frz⟩
end
section
variable {X:Cx}{e:Expr}{es:List Expr}{pos:Pos}{g:FA}
def Gr (d:List T->Option O)(g:FA):kO:=fun τ=>(g τ).bind fun p=>(d p.1).bind fun o=>some (o,p.2)
theorem AR {K:PySem.W.Frag}{Y0 Y9 F H:Hp}{σ:L2.St}{τ:aI}{A:List Addr}(E:aL K Y0 Y9 F H σ τ)(n:∀a∈A,H a=none):Apart σ τ A:=fun j us q e1 e2 m=>by
 obtain⟨v,k1,p',vs',rfl,k2,_⟩:=E.sl j _ e1
 rw [e2] at k1;cases k1
 rw [n _ m] at k2;cases k2
abbrev AG:=aI->Option O
def MG (K:PySem.W.Frag)(Y0 Y9:Hp)(f:AG):TS:=fun D σ H=>∃F τ o,aL K Y0 Y9 F H σ τ/\f τ=some o/\∀F' H' v A,bB Y0 Y9 F' H'->gC K F' H' o v A->A.Nodup->(∀a∈A,Y9 a=none)->D.rt v H'
def Ko (X:Cx)(ss:List Stmt)(f:AG):Prop:=∀Y0 Y9,kP X ss (MG X.K Y0 Y9 f)
def kh (f:kO):AG:=fun τ=>(f τ).bind fun p=>some p.1
theorem ua {f:kO}(h:AH X e f):Ko X [.Return (some e) pos] (kh f):=fun Y0 Y9=>kP.weak (tF (B2 (h Y0 Y9))) fun D σ H hq__=>by
 obtain⟨F,τ,o,E,e1,q⟩:=hq__
 obtain⟨⟨x,τ1⟩,e2,e1⟩:=bind_some e1
 cases e1
 exact⟨F,τ,_,τ1,E,e2,fun F' H' v A E' _ r nd h0 _=>q F' H' v A E'.g r nd h0⟩
def uy (t:FS)(u:AG):AG:=fun τ=>(t τ).bind fun r=>match r with | .nx τ'=>u τ' | _=>none
theorem vE {st:Stmt}{rest:List Stmt}{t:FS}{u:AG}(h1:SS X st t)(h2:Ko X rest u):Ko X (st::rest) (uy t u):=fun Y0 Y9=>kP.weak (fS (h1 Y0 Y9) (h2 Y0 Y9)) fun D σ H hq__=>by
 obtain⟨F,τ,o,E,e1,q⟩:=hq__
 obtain⟨x,e2,e1⟩:=bind_some e1
 refine⟨F,τ,x,E,e2,?_⟩
 cases x with
 |nx τ1=>exact fun F1 H1 σ1 E1 s1=>⟨F1,τ1,o,E1,e1,q⟩
 |rt t=>cases e1
 |bk t=>cases e1
 |ct t=>cases e1
end
def lV (m n:Nat)(fb:AG):List T->Option O:=fun ts=>if ts.length=n then fb (ts.map (fun t=>some (Sl.sh t))++List.replicate (m-n) none) else none
section
variable {P:Program}{w:World}{K:PySem.W.Frag}{mg:Str->Option Value}{base:Heap}
theorem rK {x qual:Str}{st:Stmt}{f:Addr}{fd:FuncData}{N ps:List Str}{k:Nat}{fb:AG}(F:eR K x qual st f fd)(S:aO N ps (ay st))(hb:Binds K fd ps [])(hm:mg x=some (.ref f))
  (h:∀(cdv:Value) (A:Around) (outer:List Env) (s:Shared) (H:Hp) (E:XK),dG k (A.deeper (envOfC qual (ay st) s.heap.objs.size f cdv))->Ko (nV pG P w K mg base N qual (ay st) f cdv A outer s H E).nox (dP st) fb):
  mY P w K mg base (k+1) x ps.length (lV N.length ps.length fb):=by
 refine⟨f,fd,ps,F.ok S (fun vs H Q E z=>z.1) (fun cdv A outer s H vs Q E hr z=>?_),hb,F.kp,hm,rfl⟩
 obtain⟨hl,F1,ts,o,sm,r,e,q⟩:=z
 unfold lV at e
 split at e
 ·next hn =>
  refine⟨_,h cdv A outer s H E hr F1 H,F1,_,o,?_,e,fun F' H' v A g ro nd h0=>q F' H' v A g ro nd h0⟩
  have:=iI (N:=N) sm r
  rw [hn] at this
  exact this
 ·cases e
end
section
variable {X:Cx}{e:Expr}{es:List Expr}{pos:Pos}{g:FA}
def Gq (fo:kO)(g:FA)(d:O->List T->Option T):FE:=fun τ=>(fo τ).bind fun p=>if cw p.2=true then (g p.2).bind fun r=>if cw r.2=true then (d p.1 r.1).bind fun t=>some (t,r.2) else none else none
def A5 (fo:kO)(f:FE):FS:=fun τ=>(fo τ).bind fun p=>match p.1 with
 | .lst os=>if cw p.2=true/\os.length<sizeLine then (f p.2).bind fun r=>if cw r.2=true then some (.nx r.2) else none else none
 |_=>none
theorem vz {x:Str}{a:Addr}{i j:Int}{t t':Tok}{od:Option Addr}{n:Nat}{sl:Array (Option Value)}{pos:Pos}(hg:Gl X x)(hm:X.mg x=some (.ref a))(hK:X.K.lookup a=some ⟨.type "tuple", od,.seq #[.int i t,.int j t'] n,sl⟩)(hd:(x == ("__debug__" : Str))=false:=by decide):
  SE X (.Name x pos) (fC (.tup [.int i,.int j])):=
 gP (tw (v:=.ref a) hg hm rfl hd) fun F=>⟨a,[.int i,.int j],rfl,.inr ⟨_,_,n,hK,rfl,rfl,bZ (n:=2) (by decide),.cons ⟨_,rfl⟩ (.cons ⟨_,rfl⟩ .nil)⟩,⟨_,_,rfl,rfl,_,_,rfl,rfl,rfl⟩⟩
end
section
variable {X:Cx}
def Dd:List T->Option T
 |[.lst ts]=>(intsOf ts).bind fun ns=>some (.int ns.sum)
 |_=>none
theorem ints_get {K:PySem.W.Frag}{F:Hp}:∀{ns:List Int} {vs:List V} {its:List Value},aX K F (ns.map T.int) vs->Vals vs its->∃xs:List (Int×Tok),its=xs.map (fun p=>Value.int p.1 p.2)/\xs.map (·.1)=ns
 |[],vs,its,r,z=>by
  cases r;cases z;exact⟨[],rfl,rfl⟩
 |n::ns,vs,its,r,z=>by
  obtain⟨v,rr,rfl,h1,h2⟩:=r
  cases h1
  cases z with
  |cons rz zz =>
   obtain⟨t,rfl⟩:=rz
   obtain⟨xs,e1,e2⟩:=ints_get h2 zz
   exact⟨(n,t)::xs,by rw [e1];rfl,by rw [List.map_cons,e2]⟩
theorem FQ (hc:X.calm=true):kc X (.builtin "sum") Dd:=by
 intro pins s σ H xs us Q I rx ⟨F,ts,t,sm,r,e,q⟩
 unfold Dd at e
 split at e
 ·next ts =>
  obtain⟨ns,e1,e2⟩:=bind_some e
  cases e2
  have et:=kv e1
  subst et
  obtain⟨v,rr,rfl,⟨p,vs,rfl,h1,h2⟩,rfl⟩:=r
  obtain⟨u,rfl,ru⟩:=Vals.one rx
  cases ru
  obtain⟨its,rv,pl,hz⟩:=I.list (fq.of (sm _ _ h1))
  obtain⟨xs,ex,en⟩:=ints_get h2 rv
  have hl:s.heap.IsList p (intItems xs.toArray):=by
   have:=pl.isList
   rw [ex] at this
   simpa [intItems] using this
  refine sum_intListG (I.ok.hd hc) hl fun h' tk t' hk=>?_
  have e2:preSum (numAt xs.toArray) xs.toArray.size=ns.sum:=by
   rw [preSum_eq,List.take_of_length_le (by simp),<- en]
  rw [e2]
  exact⟨.int _,H,I.kept (t':=tk) hk,⟨t',rfl⟩,q F H _ (bB.refl sm) rfl⟩
 ·cases e
end
section
variable {prog:Program}{w:World}{A:Around}{E:Value->Shared->Prop}{s:Shared}
end
section
variable {X:Cx}
end
section
variable {prog:Program}{w:World}{A:Around}{R:Result->Shared->Prop}{I:Addr}{fp wr:List Addr}{n:Nat}{P:Nat->Value->Prop}{St:Nat->Heap->Prop}{kw:List (Str×Value)}
abbrev lT (a:Array Value)(c:Nat):Obj:={ cls:=.type "list", dict:=none,data:=.seq a c,slots:=#[] }
theorem nH:(toString "max"++toString ".loop" : String) = "max.loop" := by decide
theorem DL (W:PySem.Walks prog w A.in1 I fp wr n P St)(bt:Nat->Nat->Bool)(hcmp:CmpOf prog w A.in1 .Gt P bt)(S:Addr)(hSf:S∉fp)(k:Nat):
  ∀(j:Nat) (s:Shared) (vb:Value) (c:Nat),n-(j+1)=k->j+1≤n->St (j+1) s.heap->P (argBest bt j) vb->s.heap.get? S=some (lT #[vb,vb] c) ->
  (∀v h' tk,P (argBest bt (n-1)) v->(∀b o,b∉wr->b≠S->s.heap.get? b=some o->h'.get? b=some o)->R (.ok (.ret v)) { s with heap:=h',toks:=tk })->codeAny (model prog w) A (.builtin "max.loop" ⟨[.ref I,.none,.ref S],kw⟩) R s:=by
 have hSw:S∉wr:=fun h=>hSf (W.sub _ h)
 induction k with
 |zero =>
  intro j s vb c hk hj hst hPb hS hR
  have hin:j+1=n:=by omega
  refine codeAny_builtin F.entry_max_loop (?_:_);rw [Around.under_plainId F.plain_max_loop _]
  show wpAny _ A.in1 (seqItems? (.ref S) >>= _) _ _ s;refine wpAny_bind (wpAny_seqItems hS rfl ?_)
  show wpAny _ A.in1 (tryCatch (pyNext (.ref I)) _ >>= _) _ _ s;refine wpAny_bind (wpAny_tryCatch (W.done s _ _ (hin ▸ hst) fun h' tk hk'=>?_))
  show wpAny _ A.in1 (updateSeq S (fun _=>#[]) >>= _) _ _ _;refine wpAny_bind (wpAny_updateSeq (hk' S _ hSw hS) rfl (wpAny_bind (wpAny_letGo (wpAny_pure ?_))))
  exact hR vb _ tk (by rw [<- hin];exact hPb) fun b o hbw hbS e=>(Heap.get?_update_other _ _ (Ne.symm hbS)).trans (hk' b o hbw e)
 |succ k ih =>
  intro j s vb c hk hj hst hPb hS hR
  have hlt:j+1<n:=by omega
  refine codeAny_builtin F.entry_max_loop (?_:_);rw [Around.under_plainId F.plain_max_loop _]
  show wpAny _ A.in1 (seqItems? (.ref S) >>= _) _ _ s;refine wpAny_bind (wpAny_seqItems hS rfl ?_)
  show wpAny _ A.in1 (tryCatch (pyNext (.ref I)) _ >>= _) _ _ s;refine wpAny_bind (wpAny_tryCatch (W.item (j+1) s _ _ hlt hst fun v h' tk hP hst' hk'=>?_))
  have hS':=hk' S _ hSw hS
  show wpAny _ A.in1 (tryCatch (holding [v,v] (richCompare .Gt v vb >>= _)) _ >>= _) _ _ _;refine wpAny_bind (wpAny_tryCatch (wpAny_holding (wpAny_bind (hcmp (j+1) (argBest bt j) v vb _ _ _ hP hPb (wpAny_bind (wpAny_holding (wpAny_truthy_bool (wpAny_bind (wpAny_letGo (wpAny_pure ?_))))))))))
  cases hb:bt (j+1) (argBest bt j) with
  |true =>
   simp only [if_true]
   refine wpAny_bind (wpAny_updateSeq hS' rfl (wpAny_bind (wpAny_letGo (?_:_))));rw [nH]
   refine wpAny_pure ⟨plainId_quiet F.plain_max_loop _,ih (j+1) _ v _ (by omega) hlt (W.frame _ _ _ hst' fun b hbf o e=>(Heap.get?_update_other _ _ (fun h:S=b=>hSf (by rw [h];exact hbf))).trans e) (by simp only [argBest,hb,if_true];exact hP) (Heap.get?_update_self _ hS' rfl) fun v' h'' tk'' hP' hk''=>?_⟩
   exact hR v' h'' tk'' hP' fun b o hbw hbS e=>hk'' b o hbw hbS ((Heap.get?_update_other _ _ (Ne.symm hbS)).trans (hk' b o hbw e))
  |false =>
   simp only [Bool.false_eq_true,if_false]
   refine wpAny_bind (wpAny_letGo (?_:_));rw [nH]
   refine wpAny_pure ⟨plainId_quiet F.plain_max_loop _,ih (j+1) _ vb c (by omega) hlt hst' (by simp only [argBest,hb,Bool.false_eq_true,if_false];exact hPb) hS' fun v' h'' tk'' hP' hk''=>?_⟩
   exact hR v' h'' tk'' hP' fun b o hbw hbS e=>hk'' b o hbw hbS (hk' b o hbw e)
theorem BI (W:PySem.Walks prog w A.in1 I fp wr n P St)(bt:Nat->Nat->Bool)(hcmp:CmpOf prog w A.in1 .Gt P bt)(S:Addr)(hSf:S∉fp)(hn:0<n){s:Shared}{c:Nat}(hst:St 0 s.heap)(hS:s.heap.get? S=some (lT #[] c))
  (hR:∀v h' tk,P (argBest bt (n-1)) v->(∀b o,b∉wr->b≠S->s.heap.get? b=some o->h'.get? b=some o)->R (.ok (.ret v)) { s with heap:=h',toks:=tk }):codeAny (model prog w) A (.builtin "max.loop" ⟨[.ref I,.none,.ref S],kw⟩) R s:=by
 have hSw:S∉wr:=fun h=>hSf (W.sub _ h)
 refine codeAny_builtin F.entry_max_loop (?_:_);rw [Around.under_plainId F.plain_max_loop _]
 show wpAny _ A.in1 (seqItems? (.ref S) >>= _) _ _ s;refine wpAny_bind (wpAny_seqItems hS rfl ?_)
 show wpAny _ A.in1 (tryCatch (pyNext (.ref I)) _ >>= _) _ _ s;refine wpAny_bind (wpAny_tryCatch (W.item 0 s _ _ hn hst fun v h' tk hP hst' hk'=>?_))
 have hS':=hk' S _ hSw hS
 show wpAny _ A.in1 (updateSeq S (fun _=>#[v,v]) >>= _) _ _ _;refine wpAny_bind (wpAny_updateSeq hS' rfl (?_:_));rw [nH]
 refine wpAny_pure ⟨plainId_quiet F.plain_max_loop _,DL W bt hcmp S hSf _ 0 _ v _ rfl hn (W.frame _ _ _ hst' fun b hbf o e=>(Heap.get?_update_other _ _ (fun h:S=b=>hSf (by rw [h];exact hbf))).trans e) hP (Heap.get?_update_self _ hS' rfl) fun v' h'' tk'' hP' hk''=>?_⟩
 exact hR v' h'' tk'' hP' fun b o hbw hbS e=>hk'' b o hbw hbS ((Heap.get?_update_other _ _ (Ne.symm hbS)).trans (hk' b o hbw e))
theorem DK (W:PySem.Walks prog w A.in1 I fp wr n P St)(hn:n=0)(S:Addr)(hSf:S∉fp){d:Value}{s:Shared}{c:Nat}(hst:St 0 s.heap)(hS:s.heap.get? S=some (lT #[] c))
  (hR:∀h' tk,(∀b o,b∉wr->b≠S->s.heap.get? b=some o->h'.get? b=some o)->R (.ok (.ret d)) { s with heap:=h',toks:=tk }):codeAny (model prog w) A (.builtin "max.loop" ⟨[.ref I,.none,.ref S],[("default", d)]⟩) R s:=by
 refine codeAny_builtin F.entry_max_loop (?_:_);rw [Around.under_plainId F.plain_max_loop _]
 show wpAny _ A.in1 (seqItems? (.ref S) >>= _) _ _ s;refine wpAny_bind (wpAny_seqItems hS rfl ?_)
 show wpAny _ A.in1 (tryCatch (pyNext (.ref I)) _ >>= _) _ _ s;refine wpAny_bind (wpAny_tryCatch (W.done s _ _ (hn.symm ▸ hst) fun h' tk hk'=>?_))
 exact wpAny_bind (wpAny_rule (wpAny_pure (hR h' tk fun b o hbw _ e=>hk' b o hbw e)))
end
def bestOf (ns:List Int):Int:=ns.getD (argBest (fun i j=>decide (ns.getD i 0>ns.getD j 0)) (ns.length-1)) 0
theorem zH (a v:Value):argsOk "max" ⟨[a],[(Str.ofString "default", v)]⟩:=by unfold argsOk;kernel_rfl
theorem oz (xs:List (Int×Tok))(i:Nat):numAt xs.toArray i=(xs.map (·.1)).getD i 0:=by
 unfold numAt
 rw [List.getElem?_toArray,List.getD_eq_getElem?_getD,List.getElem?_map]
section
variable {prog:Program}{w:World}{A:Around}{E:Value->Shared->Prop}{s:Shared}
theorem DJ {l:Addr}{xs:List (Int×Tok)}{d:Value}{Q:Value->Shared->Prop}(hh:A.handled=none)(hl:s.heap.IsList l (intItems xs.toArray))
  (h:∀v h' tk,(∀b o,s.heap.get? b=some o->h'.get? b=some o)->(xs=[]/\v=d\/xs≠[]/\∃t,v=Value.int (bestOf (xs.map (·.1))) t)->Q v { s with heap:=h',toks:=tk }):
  wpAny (model prog w) A (call (.builtin "max") [.ref l] [(Str.ofString "default", d)]) Q E s:=by
 obtain⟨ol,hol,_⟩:=id hl
 have hll:@LT.lt Nat _ l s.heap.objs.size:=Heap.lt_size hol
 refine kmk_tree PySem.F.kind_max PySem.F.plain_max PySem.F.entry_max (zH _ _) ?_
 show wpAny _ A.in1 (Builtin.Builtins.bindParams "max" ["key","default"] 0 ⟨[],[(Str.ofString "default", d)]⟩ >>= _) _ _ s
 refine wpAny_bind (wpAny_of_eq (show Builtin.Builtins.bindParams "max" ["key","default"] 0 ⟨[],[(Str.ofString "default", d)]⟩=pure [none,some d] from rfl) ?_)
 refine wpAny_bind (wpAny_pure (wpAny_bind (wpAny_pyIter_list hl (wpAny_bind (wpAny_newObj_type ?_)))))
 rw [nH]
 have hz:(s.heap.push { cls:=.type "list_iterator", data:=.fields #[.ref l,.int 0 0] }).objs.size=s.heap.objs.size+1:=Heap.size_push ..
 have W:=PySem.Walks.list (prog:=prog) (w:=w) (A:=A.in1) hh s.heap.objs.size l (Nat.ne_of_lt hll) (intItems xs.toArray)
 have st0:((s.heap.push { cls:=.type "list_iterator", data:=.fields #[.ref l,.int 0 0] }).push (lT #[] 0)).IsListIter s.heap.objs.size l 0/\((s.heap.push { cls:=.type "list_iterator", data:=.fields #[.ref l,.int 0 0] }).push (lT #[] 0)).IsList l (intItems xs.toArray):=
  ⟨⟨_,Heap.get?_push_of_some _ (Heap.get?_push_size _ rfl),rfl,rfl⟩,(hl.push _).push _⟩
 have hSf:(s.heap.push { cls:=.type "list_iterator", data:=.fields #[.ref l,.int 0 0] }).objs.size∉[s.heap.objs.size,l]:=fun m=>by
  rw [hz] at m
  rcases List.mem_cons.mp m with m | m
  ·exact absurd m (Nat.succ_ne_self _)
  ·rw [List.mem_singleton] at m;rw [<- m] at hll;exact absurd hll (by omega)
 have keep:∀{h':Heap},(∀b o,b∉[s.heap.objs.size]->b≠(s.heap.push { cls:=.type "list_iterator", data:=.fields #[.ref l,.int 0 0] }).objs.size->((s.heap.push { cls:=.type "list_iterator", data:=.fields #[.ref l,.int 0 0] }).push (lT #[] 0)).get? b=some o->h'.get? b=some o)->∀b o,s.heap.get? b=some o->h'.get? b=some o:=fun k b o e=>by
  have hb:@LT.lt Nat _ b s.heap.objs.size:=Heap.lt_size e
  exact k b o (fun m=>by rw [List.mem_singleton.mp m] at hb;exact Nat.lt_irrefl _ hb) (fun m=>by rw [m,hz] at hb;omega) (Heap.get?_push_of_some _ (Heap.get?_push_of_some _ e))
 cases xs with
 |nil=>exact wpAny_pure ⟨plainId_quiet F.plain_max_loop _,DK W (by simp [intItems]) _ hSf st0 (Heap.get?_push_size _ rfl) fun h' tk hk=>h d h' tk (keep hk) (.inl ⟨rfl,rfl⟩)⟩
 |cons x xs =>
  have val:∀i v,(intItems (x::xs).toArray)[i]? = some v->∃t,v=Value.int (numAt (x::xs).toArray i) t:=fun i v e=>intItems_at e
  refine wpAny_pure ⟨plainId_quiet F.plain_max_loop _,BI W _ (CmpOf.ints_gt (numAt (x::xs).toArray) val) _ hSf (by simp [intItems]) st0 (Heap.get?_push_size _ rfl) fun v h' tk hP hk=>h v h' tk (keep hk) (.inr ⟨by simp,?_⟩)⟩
  obtain⟨t,e⟩:=val _ _ hP
  refine⟨t,e.trans ?_⟩
  congr 1
  rw [oz]
  unfold bestOf
  simp only [oz]
  congr 2
  simp [intItems]
end
section
variable {X:Cx}
def yB:T->T->Option T
 | .lst ts,.int d=>(intsOf ts).bind fun ns=>some (.int (if ns=[] then d else bestOf ns))
 |_,_=>none
theorem En {e d:Expr}{f fd:FE}{p pos kp:Pos}(hc:X.calm=true)(hg:Gl X "max")(hm:X.mg "max" = none)(he:SE X e f)(hd:SE X d fd)(hs:starEach [e] X.env=[(false,eval e X.env)]:=by rfl):
  SE X (.Call (.Name "max" p) [e] [⟨some "default", d,kp⟩] pos) (aN yB f fd):=by
 intro Y0 Y9 pins s σ H Q I h
 obtain⟨F,τ,t,τ',E,e1,q⟩:=h
 obtain⟨⟨x,τ1⟩,e2,e1⟩:=bind_some e1
 obtain⟨⟨y,τ2⟩,e3,e1⟩:=bind_some e1
 obtain⟨z,e4,e1⟩:=bind_some e1
 cases e1
 refine wpAny_Call_Name_kw (jE I hg hm PyProof.Rows.boot_max (PyProof.Rows.callWith_kw ?_ (by rw [hs];rfl) (by rw [hs];rfl)))
 rw [hs]
 refine Calls.spliced_cons (dB (he Y0 Y9 pins s σ H (fun v H1=>∃F1,aL X.K Y0 Y9 F1 H1 σ τ1/\aW F F1/\Rep X.K F1 x v) I ⟨F,τ,x,τ1,E,e2,fun F1 H1 v E1 s1 r1=>⟨F1,E1,s1,r1⟩⟩) fun u s1 ⟨v1,H1,I1,ru,F1,E1,sF1,r1⟩=>Calls.spliced_nil ?_)
 refine PyProof.Rows.kws_cons (dB (hd Y0 Y9 pins s1 σ H1 (fun v H2=>∃F2,aL X.K Y0 Y9 F2 H2 σ _/\aW F1 F2/\Rep X.K F2 y v) I1 ⟨F1,τ1,y,_,E1,e3,fun F2 H2 v E2 s2 r2=>⟨F2,E2,s2,r2⟩⟩) fun u2 s2 ⟨v2,H2,I2,ru2,F2,E2,sF2,r2⟩=>PyProof.Rows.kws_nil ?_)
 dsimp only at e4
 unfold yB at e4
 split at e4
 ·next ts dd =>
  obtain⟨ns,e5,e6⟩:=bind_some e4
  cases e6
  have et:=kv e5
  subst et
  obtain⟨pl,vs,rfl,h1,h2⟩:=Rep.mono sF2 r1
  cases ru
  cases r2
  obtain⟨its,rv,pl',hz⟩:=I2.list (fq.of (E2.g.fh _ _ h1))
  obtain⟨xs,ex,en⟩:=ints_get h2 rv
  have hl:s2.heap.IsList pl (intItems xs.toArray):=by
   have:=pl'.isList
   rw [ex] at this
   simpa [intItems] using this
  obtain⟨td,rfl⟩:=ru2
  refine DJ (I2.ok.hd hc) hl fun v h' tk hk hv=>?_
  have I3:=I2.kept (t':=tk) hk
  rcases hv with ⟨hx,rfl⟩ | ⟨hx,t,rfl⟩
  ·subst hx
   subst en
   exact⟨V.int _,H2,I3,⟨_,rfl⟩,q F2 H2 _ E2 (sF1.trans sF2) rfl⟩
  ·refine⟨.int (bestOf (xs.map (·.1))),H2,I3,⟨_,rfl⟩,q F2 H2 _ E2 (sF1.trans sF2) ?_⟩
   have hne:ns≠[]:=fun z=>hx (by rw [z] at en;simpa using en)
   rw [if_neg hne,<- en]
   rfl
 ·cases e4
end
section
variable {X:Cx}
end
abbrev J0 (ts:List T):O:=.lst (ts.map O.val)
theorem nO:∀ts:List T,vT (ts.map O.val)=true
 |[]=>rfl
 |_::ts=>nO ts
def kd:T->Nat
 | .non=>1 | .bl _=>2 | .int _=>0 | .str _=>3 | .ty _=>4 | .tup _=>5 | .lst _=>5 | .scr _=>5 | .dic=>5 | .obj _ _ _=>5 | .ptr _=>5 | .exc _ _ _=>5
def IJ (us ts:List T):Bool:=us.length != ts.length||(List.zip us ts).any fun p=>kd p.1 != kd p.2
mutual
def apart (us:List T):T->Bool
 | .tup ts=>fU us ts
 | .lst ts=>IJ us ts&&fU us ts
 | .scr _=>false
 | .obj _ _ ts=>fU us ts
 | .exc _ _ ts=>fU us ts
 |_=>true
def fU (us:List T):List T->Bool
 |[]=>true
 |t::ts=>apart us t&&fU us ts
end
def Mr:V->Nat
 | .non=>1 | .bl _=>2 | .int _=>0 | .str _=>3 | .ty _=>4 | .ref _=>5 | _=>6
theorem Jw {K:PySem.W.Frag}{F:Hp}{t:T}{v:V}(h:Rep K F t v):kd t=Mr v:=by
 cases t with
 |non=>rw [show v=_ from h];rfl
 |bl b=>rw [show v=_ from h];rfl
 |int b=>rw [show v=_ from h];rfl
 |str b=>rw [show v=_ from h];rfl
 |ty b=>rw [show v=_ from h];rfl
 |tup ts=>obtain⟨a,xs,e,_⟩:=h;rw [e];rfl
 |lst ts=>obtain⟨a,xs,e,_⟩:=h;rw [e];rfl
 |scr ts=>obtain⟨a,xs,e,_⟩:=h;rw [e];rfl
 |dic=>obtain⟨a,e,_⟩:=h;rw [e];rfl
 |obj _ _ _=>obtain⟨a,_,_,e,_⟩:=h;rw [e];rfl
 |ptr _=>rw [show v=_ from h];rfl
 |exc _ _ _=>obtain⟨a,_,e,_⟩:=h;rw [e];rfl
theorem GK {K:PySem.W.Frag}{F:Hp}{t u:T}{v:V}(h:Rep K F t v)(h':Rep K F u v):kd t=kd u:=(Jw h).trans (Jw h').symm
theorem yq {K:PySem.W.Frag}{F:Hp}:∀{us ts:List T} {vs:List V},aX K F us vs->aX K F ts vs->IJ us ts=false
 |[],[],_,_,_=>rfl
 |[],t::ts,_,h,h'=>by
  obtain⟨v,r,e,_⟩:=h'
  rw [show _=[] from h] at e;cases e
 |u::us,[],_,h,h'=>by
  obtain⟨v,r,e,_⟩:=h
  rw [show _=[] from h'] at e;cases e
 |u::us,t::ts,_,h,h'=>by
  obtain⟨v,r,rfl,h1,h2⟩:=h
  obtain⟨v',r',e,h3,h4⟩:=h'
  cases e
  have ih:=yq h2 h4
  unfold IJ at ih ⊢
  simp only [List.length_cons,List.zip_cons_cons,List.any_cons,GK h1 h3,bne_self_eq_false,Bool.false_or] at ih ⊢
  simpa using ih
mutual
theorem Rep.drop {K:PySem.W.Frag}{F:Hp}{a:Addr}{us:List T}{vs:List V}(ha:F a=some (.lst vs))(hu:aX K F us vs):∀{t:T} {v:V},apart us t=true->Rep K F t v->Rep K (kq F [a]) t v
 | .non,_,_,h=>h
 | .bl _,_,_,h=>h
 | .int _,_,_,h=>h
 | .str _,_,_,h=>h
 | .ty _,_,_,h=>h
 | .tup ts,_,k,h=>by
  obtain⟨b,xs,h1,h2,h3⟩:=h
  refine⟨b,xs,h1,?_,aX.drop' ha hu (by simpa [apart] using k) h3⟩
  rcases h2 with (h2 | ⟨o,h2⟩) | h2
  ·refine .inl (.inl ?_)
   rw [cj (fun m=>by rw [List.mem_singleton.mp m,ha] at h2;cases h2)];exact h2
  ·refine .inl (.inr ⟨o,?_⟩)
   rw [cj (fun m=>by rw [List.mem_singleton.mp m,ha] at h2;cases h2)];exact h2
  ·exact .inr h2
 | .lst ts,_,k,h=>by
  obtain⟨b,xs,h1,h2,h3⟩:=h
  have k':IJ us ts=true/\fU us ts=true:=by simpa [apart] using k
  refine⟨b,xs,h1,?_,aX.drop' ha hu k'.2 h3⟩
  rw [cj (fun m=>by
   rw [List.mem_singleton.mp m,ha] at h2
   cases h2
   rw [yq hu h3] at k'
   exact absurd k'.1 (by decide))]
  exact h2
 | .scr _,_,k,_=>by simp [apart] at k
 | .dic,_,_,h=>by
  obtain⟨b,h1,h2⟩:=h
  refine⟨b,h1,?_⟩
  rw [cj (fun m=>by rw [List.mem_singleton.mp m,ha] at h2;cases h2)]
  exact h2
 | .obj C ns ts,_,k,h=>by
  obtain⟨b,dx,xs,h1,h2,h3,h4⟩:=h
  refine⟨b,dx,xs,h1,?_,h3,aX.drop' ha hu (by simpa [apart] using k) h4⟩
  rw [cj (fun m=>by rw [List.mem_singleton.mp m,ha] at h2;cases h2)]
  exact h2
 | .ptr _,_,_,h=>h
 | .exc _ _ ts,_,k,h=>by
  obtain⟨b,od,h1,h2,h3⟩:=h
  refine⟨b,od,h1,?_,h3.imp id fun⟨d,vs',k1,k2,k3,k4⟩=>⟨d,vs',k1,?_,k3,aX.drop' ha hu (by simpa [apart] using k) k4⟩⟩
  ·rw [cj (fun m=>by rw [List.mem_singleton.mp m,ha] at h2;cases h2)]
   exact h2
  ·rw [cj (fun m=>by rw [List.mem_singleton.mp m,ha] at k2;cases k2)]
   exact k2
theorem aX.drop' {K:PySem.W.Frag}{F:Hp}{a:Addr}{us:List T}{vs:List V}(ha:F a=some (.lst vs))(hu:aX K F us vs):∀{ts:List T} {ws:List V},fU us ts=true->aX K F ts ws->aX K (kq F [a]) ts ws
 |[],_,_,h=>h
 |t::ts,_,k,h=>by
  obtain⟨v,r,h1,h2,h3⟩:=h
  have k':apart us t=true/\fU us ts=true:=by simpa [fU] using k
  exact⟨v,r,h1,Rep.drop ha hu k'.1 h2,aX.drop' ha hu k'.2 h3⟩
end
theorem bB.lent {F H F' H':Hp}{a:Addr}{o:HO}(hF:F a=none)(g:bB (upd F a o) H F' H'):bB F H (kq F' [a]) H':=by
 have sF:aW F (kq F' [a]):=fun b u e=>by
  have hb:b≠a:=fun z=>by rw [z,hF] at e;cases e
  rw [cj (fun m=>hb (List.mem_singleton.mp m))]
  exact g.sF b u (by rw [aP hb];exact e)
 refine⟨sF,g.sH,fun b u e=>?_,fun b u e=>?_⟩
 ·by_cases hb:b=a
  ·rw [hb,hZ (List.mem_singleton.mpr rfl)] at e;cases e
  ·rw [cj (fun m=>hb (List.mem_singleton.mp m))] at e
   exact g.fh b u e
 ·by_cases hb:b=a
  ·rw [hb,hZ (List.mem_singleton.mpr rfl)] at e;cases e
  ·rw [cj (fun m=>hb (List.mem_singleton.mp m))] at e
   rcases g.nw b u e with z | z
   ·rw [aP hb] at z;exact .inl z
   ·exact .inr z
section
variable {X:Cx}{e:Expr}{pos:Pos}
def nB (i j:Nat):FS:=fun τ=>some (.nx ((τ.set i (some (.own []))).set j (some (.own []))))
theorem Ax {i j:Nat}{x y:Str}{px py pt pa pb:Pos}{kt k2 pt2}(hc:X.calm=true)(hN:X.N.Nodup)(hi:X.N[i]? = some x)(hj:X.N[j]? = some y)(hij:i≠j)
  (hx:X.env.scope.names.lookup x=some .local) (hy:X.env.scope.names.lookup y=some .local)
  (hw:swappedStores [.Tuple [.Name x px,.Name y py] kt pt] (.Tuple [.List [] pa,.List [] pb] k2 pt2) X.env=pure (some [x,y]))
  (hs:swapsWithSole [.Tuple [.Name x px,.Name y py] kt pt] (.Tuple [.List [] pa,.List [] pb] k2 pt2) pos.line X.env=pure false:=by rfl):
  SS X (.Assign [.Tuple [.Name x px,.Name y py] kt pt] (.Tuple [.List [] pa,.List [] pb] k2 pt2) pos) (nB i j):=fun Y0 Y9=>PS.weak (B0 hc hN hi hj hij hx hy (eJ (oJ fX) (eJ (oJ fX) fX)) hw hs) fun D σ H hq__=>by
 obtain⟨F,τ,r,E,e1,q⟩:=hq__
 cases e1
 have r0:aX X.K F [] []:=rfl
 exact⟨Nat.zero_le _,fun p hp=>⟨Nat.zero_le _,fun p2 hp2=>⟨_,_,rfl,q F _ _ ((E.setOwn hp r0).setOwn hp2 r0) (aW.refl _)⟩⟩⟩
end
def KR (K:PySem.W.Frag)(l:Addr):It:=
  ⟨fun i H=>∃xs x,fq K H l xs/\xs[i]? = some x,
   fun i H v H'=>∃p x,v=.ref p/\H p=none/\H'=upd H p (.tup [.int i,x])/\∀xs,fq K H l xs->xs[i]? = some x,
   fun i H=>∃xs,fq K H l xs/\xs.length≤i⟩
structure L6 (e it l:Addr)(i:Nat)(h:Heap):Prop where
 he:∃old,IsEnum h e it (i:Int) old
 hi:h.IsListIter it l i
theorem AA {P:Program}{w:World}{K:PySem.W.Frag}{elts:List Expr}{kx:Nat}{px:Pos}{e it l:Addr}(hei:e≠it):
  Turn P w K (.Tuple elts kx px) (KR K l) [e,it] e (L6 e it l) where
 mem:=by simp
 obj:=fun i h st b hb=>by
  simp only [List.mem_cons,List.not_mem_nil,or_false] at hb
  rcases hb with rfl | rfl
  ·obtain⟨old,q⟩:=st.he
   exact⟨_,q,fun v q=>nomatch (show Data.fields _=Data.cell v from q)⟩
  ·obtain⟨o,ho,hc,hd⟩:=st.hi
   exact⟨o,ho,fun v q=>by rw [hd] at q;cases q⟩
 keep:=fun i h h' st k=>by
  obtain⟨old,q⟩:=st.he
  exact⟨⟨old,k e (by simp) _ q⟩,st.hi.at fun o x=>k it (by simp) o x⟩
 item:=fun X hP hw hK hc i pins s σ H E I hf st hg=>by
  subst hP hw hK
  obtain⟨xs,x,q1,g1⟩:=hg
  obtain⟨its,r1,p1⟩:=jl (b:=true) I q1
  obtain⟨u,e1,ru⟩:=r1.get g1
  obtain⟨old,he⟩:=st.he
  refine wpAny_pyNext_enum_item he st.hi p1 (x:=u) (by simpa using e1) hei fun h' ho hit' hT hsz hk=>⟨_,rfl,?_⟩
  refine wpAny_letOwnedTupleGo_enum (s:={ s with heap:=h',toks:=s.toks+1 }) ho fun h2 b1 b2=>?_
  have le:e<s.heap.objs.size:=Heap.lt_size he
  have li:it<s.heap.objs.size:=by obtain⟨_,x,_⟩:=st.hi;exact Heap.lt_size x
  have kp:∀b o,b∉[e,it]->s.heap.get? b=some o->h2.get? b=some o:=fun b o hb z=>by
   simp only [List.mem_cons,List.not_mem_nil,or_false,not_or] at hb
   exact (b2.2 b hb.1).trans (hk b o hb.1 hb.2 z)
  have pr:h2.get? s.heap.objs.size=some { cls:=.type "tuple", data:=.seq #[.int i s.toks,u] }:=(b2.2 _ (Nat.ne_of_gt le)).trans hT
  have fr:H s.heap.objs.size=none:=I.hok.fresh (Nat.le_refl _)
  have hokA:mK X.prog X.w (upd H s.heap.objs.size (.tup [.int i,x])) h2:=by
   intro c o z
   by_cases hcz:c=s.heap.objs.size
   ·subst hcz
    rw [bo] at z;cases z
    exact⟨by show 2≤sizeLine;decide,[.int i s.toks,u],.cons ⟨_,rfl⟩ (.cons ru .nil),_,pr,rfl,_,rfl⟩
   ·rw [aP hcz] at z
    have nf:∀d o',H d=some o'->d∉[e,it]:=fun d o' ed hd=>by rw [(hf d hd).1] at ed;cases ed
    have up:∀d o',H d=some o'->upd H s.heap.objs.size (.tup [.int i,x]) d=some o':=fun d o' ed=>by rw [aP (bz ed fr)];exact ed
    refine (I.hok c o z).stay (fun d v' hd q=>kp d v' ?_ q) (fun d q=>up d _ q) fun d xs q=>up d _ q
    rcases hd with rfl | hd
    ·exact nf _ o z
    ·exact nf d _ hd
  have J:Inv X pins σ (upd H s.heap.objs.size (.tup [.int i,x])) { s with heap:=h2,toks:=s.toks+1 }:=by
   have ne:∀b o,s.heap.get? b=some o->b≠s.heap.objs.size:=fun b o e=>Nat.ne_of_lt (Heap.lt_size e)
   refine I.step (g':=s.gens) (d':=s.drawn) (t':=s.toks+1) (ch:=[e,it]) (fun b hb=>?_) (fun b o _ _ hc e _=>kp b o hc e) (fun b o _ _ hc e _=>⟨o.slots,kp b o hc e⟩) (fun b o _ e n=>by rw [aP (ne b o e)];exact n)
    (fun b o hc e=>⟨o,kp b o hc e⟩) (fun b xs e=>by rw [aP (bz e fr)];exact e) (fun b o u e=>by rw [aP (bz e fr)];exact e) (fun b ps e=>⟨#[],by rw [aP (bz e fr),e];simp⟩) (fun m hm=>?_) hokA I.bare
   ·obtain⟨_,f1,_,f3,f4,f5⟩:=hf b hb
    exact⟨f3,f1,f4,f5⟩
   ·obtain⟨o,es,ep,ho,r⟩:=hm
    exact⟨o,es,ep,kp _ o (fun q=>(hf _ q).2.1 rfl) ho,r⟩
  refine⟨.ref s.heap.objs.size,_,J,rfl,⟨_,x,rfl,fr,rfl,fun xs' h=>by rw [I.list_inj h q1];exact g1⟩,⟨⟨u,by simpa using b1⟩,hit'.at fun o z=>(b2.2 it (Ne.symm hei)).trans z⟩,fun b hb=>?_⟩
  have:b≠s.heap.objs.size:=by
   simp only [List.mem_cons,List.not_mem_nil,or_false] at hb
   rcases hb with rfl | rfl
   ·exact Nat.ne_of_lt le
   ·exact Nat.ne_of_lt li
  rw [aP this]
  exact (hf b hb).1
 done:=fun X hP hw hK hc i pins s σ H E I hf st hg=>by
  subst hP hw hK
  obtain⟨xs,q1,g⟩:=hg
  obtain⟨its,r1,p1⟩:=jl (b:=true) I q1
  obtain⟨old,he⟩:=st.he
  have n1:=r1.length
  refine wpAny_pyNext_enum_end (I.ok.hd hc) he st.hi p1 (by simp;omega) fun h' k=>⟨rfl,pj I hf fun b o hb e=>?_⟩
  simp only [List.mem_cons,List.not_mem_nil,or_false,not_or] at hb
  exact k b o hb.2 e
 self:=fun _ _ _ _ _ st h=>by
  obtain⟨old,he⟩:=st.he
  exact wpAny_pyIter_enum he h
def yt (k:Nat):List T->List T
 |[]=>[]
 |t::ts=>.tup [.int k,t]::yt (k+1) ts
theorem nX:∀(ts:List T) (k:Nat),(yt k ts).length=ts.length
 |[],_=>rfl
 |t::ts,k=>by simp [yt,nX ts]
theorem rN:∀(ts:List T) (k i:Nat) (t:T),(yt k ts)[i]? = some t->∃u,ts[i]? = some u/\t=.tup [.int ((k+i:Nat):Int),u]
 |[],_,_,_,h=>by simp [yt] at h
 |u::ts,k,0,t,h=>by
  simp [yt] at h
  exact⟨u,rfl,by simp [h]⟩
 |u::ts,k,i+1,t,h=>by
  obtain⟨v,e1,e2⟩:=rN ts (k+1) i t (by simpa [yt] using h)
  exact⟨v,by simpa using e1,by rw [e2];congr 4;omega⟩
theorem xU {K:PySem.W.Frag}{F:Hp}{l:Addr}{xs:List V}{ts:List T}(h1:fq K F l xs)(h2:aX K F ts xs):Walks K F (yt 0 ts) (KR K l):=by
 refine⟨fun i t F1 H1 e s1 s2=>?_,fun i t F1 H1 x H2 e s1 s2 y=>?_,fun F1 H1 s1 s2=>⟨xs,(s1.trans s2).seq h1,by rw [nX,h2.length];exact Nat.le_refl _⟩⟩
 ·obtain⟨u,e1,_⟩:=rN ts 0 i t e
  obtain⟨v,g1,_⟩:=h2.get e1
  exact⟨xs,v,(s1.trans s2).seq h1,g1⟩
 ·obtain⟨p,v,rfl,hp,rfl,q1⟩:=y
  obtain⟨u,e1,rfl⟩:=rN ts 0 i t e
  obtain⟨v',g1,k1⟩:=h2.get e1
  have m1:=q1 xs ((s1.trans s2).seq h1)
  rw [g1] at m1;cases m1
  have gr:=bB.new (.tup [.int i,v]) s2 hp
  exact⟨_,gr,p,_,rfl,kQ.of bo,.int i,[v],rfl,by show V.int _=V.int _;rw [Nat.zero_add],v,[],rfl,Rep.mono (s1.trans gr.sF) k1,rfl⟩
def rP (g:FA):FA:=fun τ=>(g τ).bind fun p=>match p.1 with
 |[.lst ts]=>some (yt 0 ts,p.2)
 |_=>none
theorem Es {X:Cx}{a:Expr}{p pos:Pos}{ga:FA}{elts:List Expr}{kx:Nat}{px:Pos}(hg:Gl X "enumerate")(hm:X.mg "enumerate" = none)(ha:SA X [a] ga)(hs:starEach [a] X.env=[(false,eval a X.env)]:=by rfl):
  SI X (.Tuple elts kx px) (.Call (.Name "enumerate" p) [a] [] pos) (rP ga):=by
 intro Y0 Y9 pins s σ H R I ⟨F,τ,ts,τ',E,e1,q⟩
 obtain⟨⟨x,τ1⟩,e2,e1⟩:=bind_some e1
 dsimp only at e1
 split at e1
 ·next us =>
  cases e1
  refine Call_ (jE I hg hm (show bootBuiltins "enumerate" = some (.type "enumerate") from rfl) (PyProof.Rows.callWith_type1 (dB (ha Y0 Y9 pos pins s σ H (fun vs H'=>∃l xs,vs=[.ref l]/\fq X.K H' l xs/\R (KR X.K l) H') I ⟨F,τ,_,_,E,e2,fun F' H' vs E' s' r'=>?_⟩) fun vs s1 ⟨ws',H1,I1,r1,q1⟩=>?_) hs rfl))
  ·obtain⟨v1,r1,rfl,k1,rfl⟩:=r'
   obtain⟨l,xs,rfl,h1,h2⟩:=k1
   exact⟨l,xs,rfl,fq.of (E'.g.fh _ _ h1),q F' H' _ E' s' (xU (fq.of h1) h2)⟩
  ·obtain⟨l,xs,rfl,h1,q1⟩:=q1
   obtain⟨u,rfl,ru⟩:=r1.one
   cases ru
   obtain⟨its,_,p1⟩:=jl (b:=true) I1 h1
   refine call_enumerate_list p1 fun h' a1 a2 a3 kp=>wpAny_pyIter_enum (s:={ s1 with heap:=h' }) a1 ?_
   have J:Inv X pins σ H1 { s1 with heap:=h' }:=I1.kept (t':=s1.toks) kp
   refine⟨_,[_,_],_,_,H1,rfl,J,AA (e:=s1.heap.objs.size+1) (it:=s1.heap.objs.size) (l:=l) ?_,⟨⟨_,a1⟩,a2⟩,fun b hb=>?_,q1⟩
   ·refine (?_:@Ne Nat _ _);omega
   ·have hb':s1.heap.objs.size≤b:=by
     simp only [List.mem_cons,List.not_mem_nil,or_false] at hb
     rcases hb with rfl | rfl
     ·exact Nat.le_succ _
     ·exact Nat.le_refl _
    exact I1.fpOk hb' (I1.hok.fresh hb')
 ·cases e1
def hide:aI->aI
 |[]=>[]
 |some (.own _)::τ=>none::hide τ
 |some (.sh t)::τ=>some (.sh t)::hide τ
 |none::τ=>none::hide τ
theorem dM:∀τ:aI,(hide τ).length=τ.length
 |[]=>rfl
 |some (.own _)::τ=>by simp [hide,dM τ]
 |some (.sh t)::τ=>by simp [hide,dM τ]
 |none::τ=>by simp [hide,dM τ]
theorem jD:∀{τ:aI} {j:Nat} {s:Sl},(hide τ)[j]? = some (some s)->τ[j]? = some (some s)/\∃t,s=.sh t
 |[],j,s,h=>by simp [hide] at h
 |some (.own _)::τ,0,s,h=>by simp [hide] at h
 |some (.sh t)::τ,0,s,h=>by simp [hide] at h;subst h;exact⟨rfl,t,rfl⟩
 |none::τ,0,s,h=>by simp [hide] at h
 |some (.own _)::τ,j+1,s,h=>by simpa using jD (τ:=τ) (j:=j) (by simpa [hide] using h)
 |some (.sh t)::τ,j+1,s,h=>by simpa using jD (τ:=τ) (j:=j) (by simpa [hide] using h)
 |none::τ,j+1,s,h=>by simpa using jD (τ:=τ) (j:=j) (by simpa [hide] using h)
section
variable {K:PySem.W.Frag}{Y0 Y9 F H F' H':Hp}{σ:L2.St}{τ:aI}
theorem aL.look {i:Nat}{us:List T}{vs:List V}{a:Addr}(E:aL K Y0 Y9 F H σ τ)(hs:σ[i]? = some (some (.ref a)))(h2:H a=some (.lst vs))(h3:F a=none)(h5:aX K F us vs):
  aL K (upd F a (.lst vs)) H (upd F a (.lst vs)) H σ ((hide τ).set i (some (.sh (.lst us)))):=by
 have sF:aW F (upd F a (.lst vs)):=dA h3
 have sH:aW (upd F a (.lst vs)) H:=fun b o eb=>by
  by_cases hb:b=a
  ·rw [hb,bo] at eb;cases eb;rw [hb];exact h2
  ·rw [aP hb] at eb;exact E.g.fh b o eb
 have rp:Rep K (upd F a (.lst vs)) (.lst us) (.ref a):=⟨a,vs,rfl,bo,aX.mono sF h5⟩
 have all:∀{j:Nat} {s:Sl},((hide τ).set i (some (.sh (.lst us))))[j]? = some (some s)->(∃t,s=.sh t)/\∃v,σ[j]? = some (some v)/\vS K H (upd F a (.lst vs)) H s v:=fun {j s} e=>by
  by_cases hj:i=j
  ·subst hj
   by_cases hl:i<(hide τ).length
   ·rw [List.getElem?_set_self hl] at e;cases e
    exact⟨⟨_,rfl⟩,_,hs,rp⟩
   ·rw [List.getElem?_eq_none (by simp;omega)] at e;cases e
  ·rw [List.getElem?_set_ne hj] at e
   obtain⟨e1,t,rfl⟩:=jD e
   obtain⟨v,k1,k2⟩:=E.sl j _ e1
   exact⟨⟨t,rfl⟩,v,k1,Rep.mono sF k2⟩
 refine⟨bB.refl sH,by simp [dM,E.len],fun j s e=>(all e).2,fun j k ts ws p _ e1=>?_⟩
 obtain⟨t,z⟩:=(all e1).1
 cases z
theorem aL.setSh {i:Nat}{t:T}{v:V}(E:aL K Y0 Y9 F H σ τ)(hs:σ[i]? = some (some v))(r:Rep K F t v):aL K Y0 Y9 F H σ (τ.set i (some (.sh t))):=by
 have:=E.set (i:=i) r
 rw [show σ.set i (some v)=σ from by
  have hi:i<σ.length:=(List.getElem?_eq_some_iff.mp hs).1
  apply List.ext_getElem?
  intro j
  by_cases hj:i=j
  ·subst hj;rw [List.getElem?_set_self hi,hs]
  ·rw [List.getElem?_set_ne hj]] at this
 exact this
theorem aL.drop {i:Nat}(E:aL K Y0 Y9 F H σ τ):aL K Y0 Y9 F H σ (τ.set i none):=by
 have key:∀{j:Nat} {s:Sl},(τ.set i none)[j]? = some (some s)->τ[j]? = some (some s):=fun {j s} e=>by
  by_cases hj:i=j
  ·subst hj
   by_cases hl:i<τ.length
   ·rw [List.getElem?_set_self hl] at e;cases e
   ·rw [List.getElem?_eq_none (by simp;omega)] at e;cases e
  ·rw [List.getElem?_set_ne hj] at e;exact e
 exact⟨E.g,by simp [E.len],fun j s e=>E.sl j s (key e),fun j k ts us p hjk e1 e2=>E.dj j k ts us p hjk (key e1) (key e2)⟩
theorem aL.putOwn2 {i:Nat}{ts:List T}{vs:List V}{p:Addr}(E:aL K Y0 Y9 F H σ τ)(hp:H p=some (.lst vs))(fp:F p=none)(h0:Y9 p=none)(ap:Apart σ τ [p])(r:aX K F ts vs):
  aL K Y0 Y9 F H (σ.set i (some (.ref p))) (τ.set i (some (.own ts))):=by
 refine⟨E.g,by simp [E.len],fun j s e=>?_,fun j k ts' us q hjk e1 e2 e3 e4=>?_⟩
 ·by_cases hj:i=j
  ·subst hj
   by_cases hl:i<τ.length
   ·rw [List.getElem?_set_self hl] at e
    cases e
    exact⟨.ref p,List.getElem?_set_self (by rw [E.len];exact hl),p,vs,rfl,hp,fp,h0,r⟩
   ·rw [List.getElem?_eq_none (by simp;omega)] at e;cases e
  ·rw [List.getElem?_set_ne hj] at e
   rw [List.getElem?_set_ne hj]
   exact E.sl j s e
 ·by_cases hj:i=j
  ·subst hj
   rw [List.getElem?_set_ne hjk] at e2 e4
   by_cases hl:i<τ.length
   ·rw [List.getElem?_set_self (by rw [E.len];exact hl)] at e3
    cases e3
    exact ap k us p e2 e4 (List.mem_singleton.mpr rfl)
   ·rw [List.getElem?_eq_none (by simp;omega)] at e1;cases e1
  ·rw [List.getElem?_set_ne hj] at e1 e3
   by_cases hk:i=k
   ·subst hk
    by_cases hl:i<τ.length
    ·rw [List.getElem?_set_self (by rw [E.len];exact hl)] at e4
     cases e4
     exact ap j ts' p e1 e3 (List.mem_singleton.mpr rfl)
    ·rw [List.getElem?_eq_none (by simp;omega)] at e2;cases e2
   ·rw [List.getElem?_set_ne hk] at e2 e4
    exact E.dj j k ts' us q hjk e1 e2 e3 e4
end
section
variable {X:Cx}{e:Expr}{pos:Pos}
def gF (i:Nat)(f:FE):FE:=fun τ=>match τ[i]? with
 |some (some (.own us))=>(f ((hide τ).set i (some (.sh (.lst us))))).bind fun p=>some (p.1,if apart us p.1=true then τ else τ.set i (some (.sh (.lst us))))
 |_=>f τ
theorem tW (i:Nat){f:FE}(h:SE X e f):SE X e (gF i f):=fun Y0 Y9=>PE.weak h.any fun σ H Q hq__=>by
 obtain⟨F,τ,t,τ',E,e1,q⟩:=hq__
 unfold gF at e1
 split at e1
 ·next us e3 =>
  obtain⟨⟨x,τ1⟩,e2,e1⟩:=bind_some e1
  obtain⟨v,h1,a,vs,rfl,h2,h3,h4,h5⟩:=E.sl i _ e3
  have sF:aW F (upd F a (.lst vs)):=dA h3
  refine⟨upd F a (.lst vs),H,upd F a (.lst vs),_,x,τ1,E.look h1 h2 h3 h5,e2,fun F' H' v' E' s' r'=>?_⟩
  have ha:F' a=some (.lst vs):=s' _ _ bo
  have hu:aX X.K F' us vs:=aX.mono (sF.trans s') h5
  dsimp only at e1
  by_cases hap:apart us x=true
  ·rw [if_pos hap] at e1
   cases e1
   have gl:=bB.lent h3 E'.g
   exact q (kq F' [a]) H' v' (E.grow gl) gl.sF (Rep.drop ha hu hap r')
  ·rw [if_neg hap] at e1
   cases e1
   have gl:=bB.lent h3 E'.g
   have rp:Rep X.K F' (.lst us) (.ref a):=⟨a,vs,rfl,ha,hu⟩
   have E1:=E.grow gl
   have E2:aL X.K Y0 Y9 F' H' σ (τ.set i (some (.sh (.lst us)))):=by
    have E3:aL X.K Y0 Y9 F' H' σ (τ.set i none):=by
     refine⟨⟨E.g.sF.trans (sF.trans s'),E1.g.sH,E'.g.fh,fun b o eb=>?_⟩,by simp [E.len],fun j s ej=>?_,(E.drop (i:=i)).dj⟩
     ·by_cases hb:b=a
      ·exact .inr (by rw [hb];exact h4)
      ·rcases E'.g.nw b o eb with z | z
       ·rw [aP hb] at z
        rcases E.g.nw b o z with y | y
        ·exact .inl y
        ·exact .inr y
       ·exact .inr (E.g.sH.free z)
     ·obtain⟨w,k1,k2⟩:=(E1.drop (i:=i)).sl j s ej
      refine⟨w,k1,?_⟩
      have dS:aW (kq F' [a]) F':=qu
      cases s with
      |sh t=>exact Rep.mono dS k2
      |own ts =>
       obtain⟨p,ws,rfl,m2,m3,m4,m5⟩:=k2
       refine⟨p,ws,rfl,m2,?_,m4,aX.mono dS m5⟩
       have hj:i≠j:=fun z=>by
        subst z
        by_cases hl:i<τ.length
        ·rw [List.getElem?_set_self hl] at ej;cases ej
        ·rw [List.getElem?_eq_none (by simp;omega)] at ej;cases ej
       rw [List.getElem?_set_ne hj] at ej
       have hpa:p≠a:=fun z=>by subst z;exact E.dj i j us ts p hj e3 ej h1 k1
       rw [cj (fun m=>hpa (List.mem_singleton.mp m))] at m3
       exact m3
    have:=E3.setSh (i:=i) h1 rp
    rwa [List.set_set] at this
   exact q F' H' v' E2 (sF.trans s') r'
 ·exact⟨Y0,Y9,F,τ,t,τ',E,e1,q⟩
def ee (i:Nat)(f:FE):FE:=fun τ=>match τ[i]? with
 |some (some _)=>(f τ).bind fun p=>match p.2[i]? with
  |some (some (.own us))=>(bQ (.lst us) p.1).bind fun t=>some (t,p.2)
  |some (some (.sh (.lst us)))=>(bQ (.lst us) p.1).bind fun t=>some (t,p.2)
  |_=>none
 |_=>none
theorem lK (i:Nat){x:Str}{p1:Pos}{f:FE}(hv:PE X (.Name x p1) (jn i))(he:SE X e f)(hs:rd e):SE X (.Subscript (.Name x p1) e pos) (ee i f):=fun Y0 Y9=>PE.weak (Fp sM hv (he Y0 Y9) hs) fun σ H Q hq__=>by
 obtain⟨F,τ,t,τ',E,e1,q⟩:=hq__
 unfold ee at e1
 split at e1
 ·next s e3 =>
  obtain⟨⟨x,τ1⟩,e2,e1⟩:=bind_some e1
  obtain⟨v0,h1,_⟩:=E.sl i _ e3
  dsimp only at e1
  refine⟨v0,h1,F,τ,x,τ1,E,e2,fun F1 H1 v E1 s1 r1=>?_⟩
  split at e1
  ·next us e4 =>
   obtain⟨u,e5,e1⟩:=bind_some e1
   cases e1
   obtain⟨v',k1,p,vs,rfl,k2,k3,k4,k5⟩:=E1.sl i _ e4
   rw [h1] at k1;cases k1
   unfold bQ at e5
   cases x with
   |int k =>
    cases r1
    obtain⟨w,g1,g2⟩:=kR k5 e5
    exact⟨p,vs,k,w,rfl,rfl,fq.of k2,g1,q F1 H1 w E1 s1 g2⟩
   |_=>cases e5
  ·next us e4 =>
   obtain⟨u,e5,e1⟩:=bind_some e1
   cases e1
   obtain⟨v',k1,p,vs,rfl,k2,k5⟩:=E1.sl i _ e4
   rw [h1] at k1;cases k1
   unfold bQ at e5
   cases x with
   |int k =>
    cases r1
    obtain⟨w,g1,g2⟩:=kR k5 e5
    exact⟨p,vs,k,w,rfl,rfl,fq.of (E1.g.fh _ _ k2),g1,q F1 H1 w E1 s1 g2⟩
   |_=>cases e5
  ·cases e1
 ·cases e1
theorem aX.put {K:PySem.W.Frag}{F:Hp}:∀{ts:List T} {vs:List V} {t:T} {v:V} (j:Nat),aX K F ts vs->Rep K F t v->aX K F (ts.set j t) (vs.set j v)
 |[],_,_,_,_,h,_=>by cases h;rfl
 |t::ts,_,_,_,0,h,r=>by
  obtain⟨v,rr,rfl,h2,h3⟩:=h
  exact⟨_,rr,rfl,r,h3⟩
 |t::ts,_,_,_,j+1,h,r=>by
  obtain⟨v,rr,rfl,h2,h3⟩:=h
  exact⟨v,_,rfl,h2,aX.put j h3 r⟩
def n0 (i:Nat)(f g:FE):FS:=fun τ=>(f τ).bind fun p=>match p.2[i]? with
 |some (some _)=>(g p.2).bind fun r=>match r.2[i]?,r.1 with
  |some (some (.own us)),.int k=>(yH us.length k).bind fun j=>some (.nx (r.2.set i (some (.own (us.set j p.1)))))
  |_,_=>none
 |_=>none
theorem Ci (i:Nat){x:Str}{p1 p2:Pos}{v:Expr}{f g:FE}(hv:PE X (.Name x p1) (jn i))(hf:SE X v f)(hg:SE X e g)
  (ha:∀u,assign (.Subscript (.Name x p1) e p2) X.env u=(do
   let ov <- holding [u] (eval (.Name x p1) X.env)
   let iv <- holding [u,ov] (eval e X.env)
   standAt p2
   holding [u,ov,iv] (setItem ov iv u)
   release [u,ov,iv] []):=by intro _;rfl)
  (hs:swapsWithSole [.Subscript (.Name x p1) e p2] v pos.line X.env=pure false:=by rfl) (hw:swappedStores [.Subscript (.Name x p1) e p2] v X.env=pure none:=by rfl)
  (h1:(assignEach [.Subscript (.Name x p1) e p2] X.env).map (·.2)=[assign (.Subscript (.Name x p1) e p2) X.env]:=by rfl):
  SS X (.Assign [.Subscript (.Name x p1) e p2] v pos) (n0 i f g):=fun Y0 Y9=>PS.weak (BX (hf Y0 Y9) (Ha hv (hg Y0 Y9) set_list ha) hs hw h1) fun D σ H hq__=>by
 obtain⟨F,τ,r,E,e1,q⟩:=hq__
 obtain⟨⟨t,τ1⟩,e2,e1⟩:=bind_some e1
 refine⟨F,τ,t,τ1,E,e2,fun F1 H1 w E1 s1 r1=>?_⟩
 dsimp only at e1
 split at e1
 ·next s e3 =>
  obtain⟨⟨y,τ2⟩,e4,e1⟩:=bind_some e1
  obtain⟨v0,g1,_⟩:=E1.sl i _ e3
  refine⟨v0,g1,F1,τ1,y,τ2,E1,e4,fun F2 H2 w2 E2 s2 r2=>?_⟩
  dsimp only at e1
  split at e1
  ·next _ us k e5 =>
   obtain⟨j,e7,e1⟩:=bind_some e1
   cases e1
   cases r2
   obtain⟨v',k1,p,vs,rfl,k2,k3,k4,k5⟩:=E2.sl i _ e5
   rw [g1] at k1;cases k1
   exact⟨p,vs,k,j,rfl,rfl,k2,by rw [k5.length];exact e7,q F2 _ σ (E2.turnOwn e5 g1 (k5.put j (Rep.mono s2 r1))) (s1.trans s2)⟩
  ·cases e1
 ·cases e1
def uz (i:Nat)(f:kO):FS:=fun τ=>(f τ).bind fun p=>match p.1 with
 | .lst os=>some (.nx (p.2.set i (some (.own (O.trs os)))))
 | .val t=>some (.nx (p.2.set i (some (.sh t))))
theorem Ez (i:Nat){x:Str}{pos':Pos}{f:kO}(hN:X.N.Nodup)(hi:X.N[i]? = some x)(hx:Loc X.env.scope x)(he:AH X e f)(hs:swapsWith e (some (.Name x pos')) pos.line X.env=pure false:=by rfl)
  (hf:X.fn x=true\/X.env.scope.names.lookup x=some .local:=by first | exact .inl rfl | exact .inr rfl | assumption):SS X (.Assign [.Name x pos'] e pos) (uz i f):=fun Y0 Y9=>PS.weak (tx hN hi hx (he Y0 Y9) hs hf) fun D σ H hq__=>by
 obtain⟨F,τ,r,E,e1,q⟩:=hq__
 obtain⟨⟨o,τ1⟩,e2,e1⟩:=bind_some e1
 refine⟨F,τ,o,τ1,E,e2,fun F' H' v A E' s' ro nd h0 ap=>?_⟩
 dsimp only at e1
 split at e1
 ·next os =>
  cases e1
  obtain⟨p,vs,B,rfl,rfl,h1,h2,h3⟩:=ro
  have nd':=List.nodup_cons.mp nd
  have hF:∀a∈B,F' a=none:=fun a ha=>(h3.at a ha).1
  have E1:=E'.frzO (A:=B) hF (fun a ha=>h0 a (List.mem_cons_of_mem _ ha)) (fun j us p' e1 e2 m=>ap j us p' e1 e2 (List.mem_cons_of_mem _ m))
  refine q _ H' _ (E1.putOwn2 (i:=i) h1 (by rw [eY nd'.1];exact h2) (h0 p List.mem_cons_self) (fun j us p' e1 e2 m=>ap j us p' e1 e2 (by rw [List.mem_singleton.mp m];exact List.mem_cons_self)) (cv.rep (eQ hF) (fun a ha=>lh ha) h3)) (s'.trans (eQ hF))
 ·cases e1
  exact q F' H' _ (E'.set ro.2) s'
end
section
variable {P:Program}{w:World}{K:PySem.W.Frag}{mg:Str->Option Value}{base:Heap}
end
theorem kn (fg:FG)(ft:FT)(fe:FE):∀(ts:List T) (τ:aI) (acc us:List T),eP fg ft fe ts τ acc=some us->dZ fg ft (eX fe) ts τ (acc.map O.val)=some (us.map O.val)
 |[],_,acc,us,h=>by cases h;rfl
 |t::ts,τ,acc,us,h=>by
  unfold eP at h
  obtain⟨τ1,e1,h⟩:=bind_some h
  obtain⟨p,e2,h⟩:=bind_some h
  unfold dZ
  rw [e1,Option.bind_some,e2,Option.bind_some]
  split at h
  ·next hp =>
   obtain⟨q,e3,h⟩:=bind_some h
   rw [if_pos hp,show eX fe p.2=some (.val q.1,q.2) from by unfold eX;rw [e3];rfl,Option.bind_some]
   split at h
   ·next hq =>
    rw [if_pos ⟨hq.1,by rw [List.length_map];exact hq.2⟩]
    have:=kn fg ft fe ts q.2 (acc++[q.1]) us h
    rw [List.map_append] at this
    exact this
   ·cases h
  ·next hp =>
   rw [if_neg hp]
   split at h
   ·next hq =>
    rw [if_pos hq]
    exact kn fg ft fe ts p.2 acc us h
   ·cases h
theorem yx {no:Nat}{cap:List Nat}{fi:FA}{fg:FG}{ft:FT}{fe:FE}{τ τ':aI}{us:List T}(h:cg no cap fi fg ft fe τ=some (.lst us,τ')):cJ no cap fi fg ft (eX fe) τ=some (.lst (us.map O.val),τ'):=by
 obtain⟨p,e1,h⟩:=bind_some h
 unfold cJ
 rw [e1,Option.bind_some]
 split at h
 ·next ha =>
  obtain⟨vs,e2,h⟩:=bind_some h
  cases h
  rw [if_pos ha,show dZ fg ft (eX fe) p.1 (cR no cap (frzAll cap p.2)) []=some (us.map O.val) from kn fg ft fe _ _ [] us e2]
  rfl
 ·cases h
theorem zM {no:Nat}{cap:List Nat}{fi:FA}{fg:FG}{ft:FT}{fe:FE}{τ τ':aI}{t:T}(h:cg no cap fi fg ft fe τ=some (t,τ')):∃us,t=.lst us:=by
 obtain⟨p,e1,h⟩:=bind_some h
 split at h
 ·obtain⟨vs,e2,h⟩:=bind_some h
  cases h
  exact⟨_,rfl⟩
 ·cases h
section
variable {X:Cx}
theorem cM {elt tg iter:Expr}{ifs:List Expr}{scope:Scope}{pos:Pos}{N':List Str}{no:Nat}{cap:List Nat}{fi:FA}{fg:FG}{ft:FT}{fe:FE}(hx:X.xe=fun _ _=>False)(hc:X.calm=true)(B:fQ X scope)(hN:N'.length=no+cap.length)
  (hcap:∀(k j:Nat),cap[k]? = some j->∃x,N'[no+k]? = some x/\X.N[j]? = some x/\(x,NameKind.free)∈scope.names) (hi:SI X tg iter fi)
  (hg:∀C cs Y8 Y9 fp pins,SG (pJ X scope N' C cs Y8 Y9 fp pins) tg fg) (ht:∀C cs Y8 Y9 fp pins,CT (pJ X scope N' C cs Y8 Y9 fp pins) ifs ft) (he:∀C cs Y8 Y9 fp pins,SE (pJ X scope N' C cs Y8 Y9 fp pins) elt fe)
  (hs:∀x,foldedSetIterable iter X.env x=pure x:=by intro _;rfl):SE X (.ListComp elt [⟨tg,iter,ifs,0⟩] scope pos) (cg no cap fi fg ft fe):=fun Y0 Y9=>PE.weak (AH.se (fT hx hc B hN hcap hi hg ht (fun C cs Y8 Y9 fp pins=>SE.seo (he C cs Y8 Y9 fp pins)) hs) Y0 Y9) fun σ H Q hq__=>by
 obtain⟨F,τ,t,τ',E,e1,q⟩:=hq__
 obtain⟨us,rfl⟩:=zM e1
 refine⟨F,τ,_,τ',E,?_,q⟩
 unfold LQ
 rw [yx e1,Option.bind_some]
 show some (T.lst (O.trs (us.map O.val)),τ')=_
 rw [lN]
theorem kL {i:Nat}{y:Str}{py spos:Pos}{elt tg iter:Expr}{ifs:List Expr}{scope:Scope}{pos:Pos}{N':List Str}{no:Nat}{cap:List Nat}{fi:FA}{fg:FG}{ft:FT}{fe:FE}(hNd:X.N.Nodup)(hiy:X.N[i]? = some y)(hy:X.env.scope.names.lookup y=some .local)
  (hx:X.xe=fun _ _=>False) (hc:X.calm=true) (B:fQ X scope) (hN:N'.length=no+cap.length)
  (hcap:∀(k j:Nat),cap[k]? = some j->∃x,N'[no+k]? = some x/\X.N[j]? = some x/\(x,NameKind.free)∈scope.names) (hi:SI X tg iter fi)
  (hg:∀C cs Y8 Y9 fp pins,SG (pJ X scope N' C cs Y8 Y9 fp pins) tg fg) (ht:∀C cs Y8 Y9 fp pins,CT (pJ X scope N' C cs Y8 Y9 fp pins) ifs ft) (he:∀C cs Y8 Y9 fp pins,SE (pJ X scope N' C cs Y8 Y9 fp pins) elt fe)
  (hsw:swapsWith (.ListComp elt [⟨tg,iter,ifs,0⟩] scope pos) (some (.Name y py)) spos.line X.env=pure true:=by rfl) (hs:∀x,foldedSetIterable iter X.env x=pure x:=by intro _;rfl):
  SS X (.Assign [.Name y py] (.ListComp elt [⟨tg,iter,ifs,0⟩] scope pos) spos) (eV i no cap fi fg ft fe):=fun Y0 Y9=>PS.weak (mV i hNd hiy hy hx hc B hN hcap hi hg ht (fun C cs Y8 Y9 fp pins=>SE.seo (he C cs Y8 Y9 fp pins)) hsw hs Y0 Y9) fun D σ H hq__=>by
 obtain⟨F,τ,r,E,e1,q⟩:=hq__
 obtain⟨p,e2,e1⟩:=bind_some e1
 split at e1
 ·next ha =>
  obtain⟨us,e3,e1⟩:=bind_some e1
  cases e1
  refine⟨F,τ,.lst (us.map O.val),frzAll cap p.2,E,yx (by unfold cg;rw [e2,Option.bind_some,if_pos ha,e3];rfl),fun F' H' v A E' s' ro nd h0 ap=>?_⟩
  obtain⟨pa,vs,B',rfl,rfl,k1,k2,k3⟩:=ro
  obtain⟨rfl,k4⟩:=cv.plain (nO us) k3
  rw [lN] at k4
  exact q F' H' _ (aL.putOwn2 E' k1 k2 (h0 pa List.mem_cons_self) ap k4) s'
 ·cases e1
end
section
variable {prog:Program}{w:World}{A:Around}{E:Value->Shared->Prop}{s:Shared}
end
section
variable {X:Cx}
end
section
variable {X:Cx}
def jC:T->T->Option T
 |a,.non=>some (.bl (!oj a))
 |_,_=>none
theorem vo:mZ X (compareOp .IsNot) jC:=by
 intro pins s σ H x y v u Q I rx ry ⟨F,a,b,t,sm,ra,rb,e,q⟩
 unfold jC at e
 split at e
 ·cases e;cases rb
  exact DZ pins s σ H _ _ v u Q I rx ry ⟨rfl,by rw [zU ra];exact q F H _ (bB.refl sm) rfl⟩
 ·cases e
def ku (g:FA):FA:=fun τ=>(g τ).bind fun p=>match p.1 with
 |[.int i,.int j]=>if (-(2^62)≤i/\i<2^62)/\(-(2^62)≤j/\j<2^62) then some (upTo i (j-i).toNat,p.2) else none
 |_=>none
theorem zt {tg a b:Expr}{p pos:Pos}{ga:FA}(hg:Gl X "range")(hm:X.mg "range" = none)(ha:SA X [a,b] ga)(hs:starEach [a,b] X.env=[(false,eval a X.env),(false,eval b X.env)]:=by rfl)
  (hs2:starEach [b] X.env=[(false,eval b X.env)]:=by rfl):SI X tg (.Call (.Name "range" p) [a,b] [] pos) (ku ga):=
 fun Y0 Y9=>PI.weak (Ai hg hm (ha Y0 Y9) hs hs2) fun σ H R hh=>by
  obtain⟨F,τ,ts,τ',E,e1,q⟩:=hh
  obtain⟨⟨x,τ1⟩,e2,e1⟩:=bind_some e1
  dsimp only at e1
  split at e1
  ·split at e1
   ·next hb =>
    cases e1
    refine⟨F,τ,_,τ',E,e2,fun F' H' vs E' s' r'=>?_⟩
    obtain⟨v,r,rfl,q1,v2,r2,rfl,q2,rfl⟩:=r'
    cases q1;cases q2
    exact⟨_,_,rfl,⟨hb.1.1,hb.1.2,hb.2.1,hb.2.2⟩,q F' H' _ E' s' (qQ _ _)⟩
   ·cases e1
  ·cases e1
end
def Dg (f:Str):List Str->List T->Option T
 |n::ns,t::ts=>if f=n then some t else Dg f ns ts
 |_,_=>none
theorem yz {K:PySem.W.Frag}{F:Hp}{f:Str}:∀{ns:List Str} {ts:List T} {vs:List V} {t:T},aX K F ts vs->Dg f ns ts=some t->∃v,(ns.zip vs).lookup f=some v/\Rep K F t v
 |[],_,_,_,_,e=>by cases e
 |n::ns,[],_,_,_,e=>by cases e
 |n::ns,t::ts,_,u,r,e=>by
  obtain⟨v,rr,rfl,h1,h2⟩:=r
  unfold Dg at e
  rw [List.zip_cons_cons,List.lookup_cons]
  by_cases h:f=n
  ·rw [if_pos h] at e
   cases e
   rw [beq_iff_eq.mpr h]
   exact⟨v,rfl,h1⟩
  ·rw [if_neg h] at e
   rw [beq_eq_false_iff_ne.mpr h]
   exact yz h2 e
theorem oo {f:Str}:∀{ns:List Str} {vs:List V},f∉ns->(ns.zip vs).lookup f=none
 |[],_,_=>by simp
 |n::ns,[],_=>by simp
 |n::ns,v::vs,h=>by
  rw [List.zip_cons_cons,List.lookup_cons,beq_eq_false_iff_ne.mpr (show f≠n from fun z=>h (by rw [z];exact List.mem_cons_self))]
  exact oo fun m=>h (List.mem_cons_of_mem _ m)
theorem vt {f:Str}{y:V}:∀{ns:List Str} {vs:List V},f∉ns->vs.length=ns.length->jc f y (ns.zip vs)=(ns++[f]).zip (vs++[y])
 |[],[],_,_=>rfl
 |[],_::_,_,h=>by cases h
 |_::_,[],_,h=>by cases h
 |n::ns,v::vs,h,hl=>by
  rw [List.zip_cons_cons,show jc f y ((n,v)::ns.zip vs)=(if n=f then (n,y)::ns.zip vs else (n,v)::jc f y (ns.zip vs)) from rfl,if_neg (show ¬ n=f from fun z=>h (by rw [z];exact List.mem_cons_self)),vt (fun m=>h (List.mem_cons_of_mem _ m)) (by simpa using hl)]
  rfl
section
variable {X:Cx}{e:Expr}{es:List Expr}{pos:Pos}
def A6 (Cs:List Addr)(f:Str)(fe:FE):FE:=fun τ=>(fe τ).bind fun p=>match p.1 with
 | .obj C ns ts=>if C∈Cs then (Dg f ns ts).bind fun t=>some (t,p.2) else none
 |_=>none
theorem xE {Cs:List Addr}{f:Str}{fe:FE}(hC:∀C∈Cs,pH X.K C/\fz X.K C f)(he:SE X e fe)(hb:attributeBase e f X.env (eval e X.env)=eval e X.env:=by rfl):SE X (.Attribute e f pos) (A6 Cs f fe):=
 fun Y0 Y9=>PE.weak (G4 (he Y0 Y9) hb) fun σ H Q h=>by
  obtain⟨F,τ,t,τ',E,e1,q⟩:=h
  obtain⟨⟨x,τ1⟩,e2,e1⟩:=bind_some e1
  dsimp only at e1
  split at e1
  ·next C ns ts =>
   split at e1
   ·next hm =>
    obtain⟨u,e3,e1⟩:=bind_some e1
    cases e1
    refine⟨F,τ,_,_,E,e2,fun F1 H1 v E1 s1 r1=>?_⟩
    obtain⟨a,dx,vs,rfl,h1,h2,h3⟩:=r1
    obtain⟨w,l1,l2⟩:=yz h3 e3
    exact⟨a,C,dx,_,w,rfl,E1.g.fh _ _ h1,(hC C hm).1,(hC C hm).2,l1,q F1 H1 w E1 s1 l2⟩
   ·cases e1
  ·cases e1
end
structure kj (P:Program)(w:World)(K:PySem.W.Frag)(mg:Str->Option Value)(base:Heap)(k:Nat)(C:Addr)(m:Str)(n:Nat)(d:List T->Option T):Prop where
 cl:pH K C
 ex:∃f fd ps,gz P w K mg base pG k f fd ps (spT K n d)/\Binds K fd ps []/\Meth K C m f/\ps.length=n
section
variable {P:Program}{w:World}{K:PySem.W.Frag}{mg:Str->Option Value}{base:Heap}{j k n:Nat}{C:Addr}{m:Str}
theorem kj.mono {d:List T->Option T}(D:kj P w K mg base j C m n d)(h:j≤k):kj P w K mg base k C m n d:=by
 obtain⟨f,fd,ps,F,r⟩:=D.ex
 exact⟨D.cl,f,fd,ps,F.mono h,r⟩
theorem sQ {x qual:Str}{st:Stmt}{f:Addr}{fd:FuncData}{N ps:List Str}{fb:FS}(F:eR K x qual st f fd)(S:aO N ps (ay st))(hb:Binds K fd ps [])(cl:pH K C)(hm:Meth K C m f)
  (h:∀(cdv:Value) (A:Around) (outer:List Env) (s:Shared) (H:Hp) (E:XK),dG k (A.deeper (envOfC qual (ay st) s.heap.objs.size f cdv))->ui (nV pG P w K mg base N qual (ay st) f cdv A outer s H E).nox (dP st) fb):
  kj P w K mg base (k+1) C m ps.length (cI N.length ps.length fb):=by
 refine⟨cl,f,fd,ps,F.ok S (fun vs H Q E z=>z.1) (fun cdv A outer s H vs Q E hr z=>?_),hb,hm,rfl⟩
 obtain⟨hl,F1,ts,t,sm,r,e,q⟩:=z
 unfold cI at e
 split at e
 ·next hn =>
  obtain⟨r',e1,e⟩:=bind_some e
  refine⟨_,h cdv A outer s H E hr F1 H,F1,_,r',?_,e1,?_⟩
  ·have:=iI (N:=N) sm r
   rw [hn] at this
   exact this
  ·cases r' with
   |rt u=>cases e;exact fun F' H' v g r'=>q F' H' v g r'
   |nx τ=>cases e;exact fun F' H' σ' E' s'=>q F' H' .non E'.g rfl
   |bk τ=>cases e
   |ct τ=>cases e
 ·cases e
end
section
variable {X:Cx}{o e:Expr}{es:List Expr}{pos apos:Pos}{g:FA}{fo:FE}{k n:Nat}{m:Str}
def uA (C:Addr):List (Addr×(List T->Option T))->Option (List T->Option T)
 |[]=>none
 |a::r=>if C=a.1 then some a.2 else uA C r
theorem qz {C:Addr}{d:List T->Option T}:∀{l:List (Addr×(List T->Option T))},uA C l=some d->(C,d)∈l
 |[],h=>by cases h
 |a::r,h=>by
  unfold uA at h
  split at h
  ·next e=>cases h;subst e;exact List.mem_cons_self
  ·exact List.mem_cons_of_mem _ (qz h)
def jq (alts:List (Addr×(List T->Option T)))(m:Str)(fo:FE)(g:FA):FE:=fun τ=>(fo τ).bind fun p=>match p.1 with
 | .obj C ns ts=>if m∈ns then none else (uA C alts).bind fun d=>(g p.2).bind fun q=>(d (.obj C ns ts::q.1)).bind fun t=>some (t,q.2)
 |_=>none
theorem zY {alts:List (Addr×(List T->Option T))}{Y0 Y9:Hp}{σ:L2.St}{H:Hp}{Q:VK}(h:tE X.K Y0 Y9 (jq alts m fo g) σ H Q)(hl:∀τ ts τ',g τ=some (ts,τ')->ts.length+1=n):
  ∃C d,(C,d)∈alts/\Fx C m (spT X.K n d) [] E0 (tE X.K Y0 Y9 fo) (tA X.K Y0 Y9 g) σ H Q:=by
 obtain⟨F,τ,t,τ',E,e1,q⟩:=h
 obtain⟨⟨x,τ1⟩,e2,e1⟩:=bind_some e1
 dsimp only at e1
 split at e1
 ·next C ns ts =>
  split at e1
  ·cases e1
  ·next hm =>
   obtain⟨d,e3,e1⟩:=bind_some e1
   obtain⟨⟨us,τ2⟩,e4,e1⟩:=bind_some e1
   obtain⟨u,e5,e1⟩:=bind_some e1
   cases e1
   refine⟨C,d,qz e3,F,τ,_,τ1,E,e2,fun F1 H1 v E1 s1 r1=>?_⟩
   obtain⟨a,dx,vs,rfl,h1,h2,h3⟩:=id r1
   refine⟨a,dx,_,rfl,E1.g.fh _ _ h1,oo hm,F1,τ1,us,_,E1,e4,fun F2 H2 ws E2 s2 r2=>?_⟩
   refine⟨by rw [List.append_nil,List.length_cons,r2.length];exact hl _ _ _ e4,F2,.obj C ns ts::us,_,E2.g.fh,⟨_,_,rfl,Rep.mono s2 r1,by rw [List.append_nil];exact r2⟩,e5,fun F3 H3 v3 g3 r3=>?_⟩
   exact q F3 H3 v3 (E2.grow g3) ((s1.trans s2).trans g3.sF) r3
 ·cases e1
theorem lL {pl:Sem Bool}{alts:List (Addr×(List T->Option T))}(hD:∀a∈alts,kj X.prog X.w X.K X.mg X.base k a.1 m 1 a.2)(hr:dG k X.A)(he:SE X o fo)
  (ht:eval (.Call (.Attribute o m apos) [] [] pos) X.env=(do
   let ov <- eval o X.env
   standAt apos.atName
   let (f,first) <- holding [ov] (getMethod ov m pl)
   callWith pos f first (backTo pos (starEach [] X.env)) (backToKw pos (keywordEach [] X.env))):=by rfl):
  SE X (.Call (.Attribute o m apos) [] [] pos) (jq alts m fo aE):=by
 intro Y0 Y9 pins s σ H Q I h
 obtain⟨C,d,hm,h'⟩:=zY (n:=1) h (fun τ ts τ' e=>by cases e;rfl)
 have D:=hD _ hm
 obtain⟨f,fd,ps,Fk,hb,hme,hn⟩:=D.ex
 refine BU (E:=E0) (CX:=pG) (he Y0 Y9) D.cl hme Fk hr hb .nil vp ht pins s σ H Q I ?_
 obtain⟨F,τ,t,τ',E,e1,q⟩:=h'
 refine⟨F,τ,t,τ',E,e1,fun F1 H1 v E1 s1 r1=>?_⟩
 obtain⟨a,dx,fs,h1,h2,h3,F2,τ2,us,τ3,E2,e2,q2⟩:=q F1 H1 v E1 s1 r1
 cases e2
 exact⟨a,dx,fs,h1,h2,h3,q2 F2 H1 [] E2 (aW.refl _) rfl⟩
end
abbrev vO:=List Str×List T
def Mw (K:PySem.W.Frag)(C:Addr)(n:Nat)(d:List T->Option vO):Sp:=fun vs H Q _=>vs.length=n+1/\∃F x dx ws ts r,vs=.ref x::ws/\H x=some (.ins C dx [])/\F x=none/\aW F H/\aX K F ts ws/\d ts=some r /\
 ∀F' H' us,bB F (kq H [x]) F' H'->H' x=some (.ins C dx (r.1.zip us))->F' x=none->us.length=r.1.length->aX K F' r.2 us->Q .non H'
structure uh (P:Program)(w:World)(K:PySem.W.Frag)(mg:Str->Option Value)(base:Heap)(k:Nat)(x:Str)(C:Addr)(n:Nat)(d:List T->Option vO):Prop where
 ex:∃j f fd ps,k=j+1/\Mk K C f/\gz P w K mg base pG j f fd ps (Mw K C n d)/\Binds K fd ps []/\mg x=some (.ref C)/\ps.length=n+1
theorem uh.mono {P:Program}{w:World}{K:PySem.W.Frag}{mg:Str->Option Value}{base:Heap}{j k n:Nat}{x:Str}{C:Addr}{d:List T->Option vO}(D:uh P w K mg base j x C n d)(h:j≤k):uh P w K mg base k x C n d:=by
 obtain⟨i,f,fd,ps,hj,M,F,r⟩:=D.ex
 exact⟨k-1,f,fd,ps,by omega,M,F.mono (by omega),r⟩
section
variable {X:Cx}{e:Expr}{es:List Expr}{pos:Pos}{g:FA}
def uw (C:Addr)(d:List T->Option vO)(g:FA):FE:=fun τ=>(g τ).bind fun p=>(d p.1).bind fun r=>some (.obj C r.1 r.2,p.2)
theorem Em {k n:Nat}{x:Str}{p:Pos}{C:Addr}{d:List T->Option vO}(D:uh X.prog X.w X.K X.mg X.base k x C n d)(hr:dG k X.A)(hg:Gl X x)(ha:SA X (e::es) g)(hl:∀τ ts τ',g τ=some (ts,τ')->ts.length=n)(hdb:(x == ("__debug__" : Str))=false:=by decide)
  (he:starEach (e::es) X.env=(false,eval e X.env)::starEach es X.env:=by rfl) (hpl:(backTo pos (starEach es X.env)).any (·.1)=false:=by rfl):SE X (.Call (.Name x p) (e::es) [] pos) (uw C d g):=by
 obtain⟨j,f,fd,ps,hj,M,Fk,hb,hm,hn⟩:=D.ex
 subst hj
 intro Y0 Y9
 refine PE.weak (D4 (E:=E0) (CX:=pG) M Fk hr hg hm hb .nil vp (ha Y0 Y9) hdb he hpl) fun σ H Q h=>?_
 obtain⟨F,τ,t,τ',E,e1,q⟩:=h
 obtain⟨⟨ts,τ1⟩,e2,e1⟩:=bind_some e1
 obtain⟨r,e3,e1⟩:=bind_some e1
 cases e1
 refine⟨F,τ,ts,_,E,e2,fun F1 H1 vs E1 s1 r1=>fun a dx na ndx ne=>?_⟩
 have fa:F1 a=none:=E1.g.fh.free na
 have fd':F1 dx=none:=E1.g.fh.free ndx
 have sm:aW F1 (upd (upd H1 dx (.own a)) a (.ins C dx [])):=fun b o z=>by
  rw [aP (bz z fa),aP (bz z fd')]
  exact E1.g.fh b o z
 have sm1:aW H1 (upd (upd H1 dx (.own a)) a (.ins C dx [])):=fun b o z=>by
  rw [aP (bz z na),aP (bz z ndx)]
  exact z
 refine⟨by rw [List.append_nil,List.length_cons,r1.length,hl _ _ _ e2],F1,a,dx,vs,ts,r,by rw [List.append_nil],bo,fa,sm,r1,e3,fun F' H' us gr hx fx hlu ru=>⟨rfl,?_⟩⟩
 have sF:aW F' (upd F' a (.ins C dx (r.1.zip us))):=dA fx
 have g2:bB F1 H1 (upd F' a (.ins C dx (r.1.zip us))) H':=by
  refine⟨gr.sF.trans sF,fun b o z=>gr.sH b o ?_,fun b o z=>?_,fun b o z=>?_⟩
  ·rw [cj (fun m=>by rw [List.mem_singleton.mp m,na] at z;cases z)]
   exact sm1 b o z
  ·by_cases hb:b=a
   ·rw [hb,bo] at z;cases z;rw [hb];exact hx
   ·rw [aP hb] at z;exact gr.fh b o z
  ·by_cases hb:b=a
   ·exact .inr (by rw [hb];exact na)
   ·rw [aP hb] at z
    rcases gr.nw b o z with y | y
    ·exact .inl y
    ·rw [cj (fun m=>hb (List.mem_singleton.mp m))] at y
     exact .inr (sm1.free y)
 exact q _ H' (.ref a) (E1.grow g2) (s1.trans g2.sF) ⟨a,dx,us,rfl,bo,hlu,aX.mono sF ru⟩
end
abbrev FI:=aI->List Str->List T->Option vO
def ME (K:PySem.W.Frag)(C x:Addr)(Y0 Y9:Hp)(f:FI):TS:=fun D σ H=>∃F τ ns us vs dx r,aL K Y0 Y9 F H σ τ/\cw τ=true/\τ[0]? = some (some (.sh (.ptr x)))/\H x=some (.ins C dx (ns.zip vs))/\F x=none/\Y9 x=none/\vs.length=ns.length/\ns.length<1000/\aX K F us vs/\f τ ns us=some r /\
 ∀F' H' σ' us',bB Y0 Y9 F' H'->H' x=some (.ins C dx (r.1.zip us'))->F' x=none->us'.length=r.1.length->aX K F' r.2 us'->D.nx σ' H'
def HK (X:Cx)(C:Addr)(ss:List Stmt)(f:Addr->FI):Prop:=∀x Y0 Y9,kP X ss (ME X.K C x Y0 Y9 (f x))
section
variable {X:Cx}{C:Addr}{e:Expr}{rest:List Stmt}{pos:Pos}
def Jp:Addr->FI:=fun _ _ ns us=>some (ns,us)
theorem Eu:HK X C [] Jp:=fun x Y0 Y9=>kP.weak tD fun D σ H h=>by
 obtain⟨F,τ,ns,us,vs,dx,r,E,ha,h0,hx,fx,h0x,hl,hk,ru,e1,q⟩:=h
 cases e1
 exact q F H σ vs E.g hx fx hl ru
def Du (f:Str)(fe:FE)(fr:Addr->FI):Addr->FI:=fun x τ ns us=>(fe τ).bind fun p=>if cw p.2=true/\¬ f∈ns/\ns.length<999 then match (p.2[0]? : Option (Option Sl)) with
 |some (some (.sh (.ptr y)))=>if y=x then fr x p.2 (ns++[f]) (us++[p.1]) else none
 |_=>none else none
theorem Et {f:Str}{fe:FE}{fr:Addr->FI}{y:Str}{p1 p2:Pos}(hc:pH X.K C)(hn:fz X.K C f)(hy:PE X (.Name y p1) (jn 0))(he:SE X e fe)(hr:HK X C rest fr)
  (hs:swapsWith e (some (.Attribute (.Name y p1) f p2)) pos.line X.env=pure false:=by rfl):HK X C (.Assign [.Attribute (.Name y p1) f p2] e pos::rest) (Du f fe fr):=fun x Y0 Y9=>kP.weak (fS (Hi hy he.any hs) (hr x Y0 Y9)) fun D σ H h=>by
 obtain⟨F,τ,ns,us,vs,dx,r,E,ha,h0,hx,fx,h0x,hl,hk,ru,e1,q⟩:=h
 obtain⟨⟨t,τ1⟩,e2,e1⟩:=bind_some e1
 dsimp only at e1
 split at e1
 ·next hc1 =>
  split at e1
  ·next y1 hp1 =>
   split at e1
   ·next hyx =>
    subst hyx
    refine⟨F,H,F,τ,t,τ1,E.rebase ha E.g.fh,e2,fun F1 H1 w E1 s1 r1=>?_⟩
    have hx1:=E1.g.sH _ _ hx
    have fx1:F1 y1=none:=by
     cases eF:F1 y1 with
     |none=>rfl
     |some o =>
      rcases E1.g.nw _ o eF with z | z
      ·rw [fx] at z;cases z
      ·rw [hx] at z;cases z
    obtain⟨v0,k1,k2⟩:=E.sl 0 _ h0
    cases (show v0=.ref y1 from k2)
    refine⟨_,k1,y1,C,dx,_,rfl,hx1,hc,hn,by rw [List.length_zip];omega,?_⟩
    rw [vt hc1.2.1 hl]
    have E2:aL X.K Y0 Y9 F1 (upd H1 y1 (.ins C dx ((ns++[f]).zip (vs++[w])))) σ τ1:=by
     refine E1.to hc1.1 (aW.refl _) ⟨E.g.sF.trans E1.g.sF,fun b o z=>?_,fun b o z=>?_,fun b o z=>?_⟩
     ·rw [aP (fun y=>by rw [y,h0x] at z;cases z)]
      exact E1.g.sH _ _ (E.g.sH _ _ z)
     ·rw [aP (fun y=>by rw [y,fx1] at z;cases z)]
      exact E1.g.fh _ _ z
     ·rcases E1.g.nw b o z with y | y
      ·exact E.g.nw b o y
      ·exact .inr (E.g.sH.free y)
    refine⟨F1,τ1,ns++[f],us++[t],vs++[w],dx,r,E2,hc1.1,hp1,bo,fx1,h0x,by simp [hl],by rw [List.length_append];simp only [List.length_cons,List.length_nil];omega,(aX.mono E1.g.sF ru).append (.one r1),e1,q⟩
   ·cases e1
  ·cases e1
 ·cases e1
def Bo (t:FS)(fr:Addr->FI):Addr->FI:=fun x τ ns us=>(t τ).bind fun r=>match r with
 | .nx τ1=>if cw τ1=true then match (τ1[0]? : Option (Option Sl)) with
  |some (some (.sh (.ptr y)))=>if y=x then fr x τ1 ns us else none
  |_=>none else none
 |_=>none
theorem zu {st:Stmt}{t:FS}{fr:Addr->FI}(hst:SS X st t)(hr:HK X C rest fr):HK X C (st::rest) (Bo t fr):=fun x Y0 Y9=>kP.weak (fS hst.any (hr x Y0 Y9)) fun D σ H h=>by
 obtain⟨F,τ,ns,us,vs,dx,r,E,ha,h0,hx,fx,h0x,hl,hk,ru,e1,q⟩:=h
 obtain⟨r1,e2,e1⟩:=bind_some e1
 refine⟨F,H,F,τ,r1,E.rebase ha E.g.fh,e2,?_⟩
 cases r1 with
 |nx τ1 =>
  dsimp only at e1
  split at e1
  ·next hs =>
   split at e1
   ·next y1 hp1 =>
    split at e1
    ·next hyx =>
     subst hyx
     refine fun F1 H1 σ1 E1 s1=>?_
     have hx1:=E1.g.sH _ _ hx
     have fx1:F1 y1=none:=by
      cases eF:F1 y1 with
      |none=>rfl
      |some o =>
       rcases E1.g.nw _ o eF with z | z
       ·rw [fx] at z;cases z
       ·rw [hx] at z;cases z
     exact⟨F1,τ1,ns,us,vs,dx,r,E1.back hs E.g,hs,hp1,hx1,fx1,h0x,hl,hk,aX.mono E1.g.sF ru,e1,q⟩
    ·cases e1
   ·cases e1
  ·cases e1
 |rt t=>cases e1
 |bk t=>cases e1
 |ct t=>cases e1
end
def C9 (m n:Nat)(fb:Addr->FI)(ts:List T)(r:vO):Prop:=ts.length=n/\∀x:Addr,fb x (some (.sh (.ptr x))::(ts.map (fun t=>some (Sl.sh t))++List.replicate (m-(n+1)) none)) [] []=some r
open Classical in
def dI (m n:Nat)(fb:Addr->FI):List T->Option vO:=fun ts=>if h:∃r,C9 m n fb ts r then some h.choose else none
theorem IC {m n:Nat}{fb:Addr->FI}{ts:List T}{r:vO}(h:C9 m n fb ts r):dI m n fb ts=some r:=by
 unfold dI
 have hh:∃r,C9 m n fb ts r:=⟨r,h⟩
 rw [dif_pos hh]
 have h1:=hh.choose_spec.2 0
 rw [h.2 0] at h1
 exact h1.symm
theorem FW {m n:Nat}{fb:Addr->FI}{ts:List T}{r:vO}(h:dI m n fb ts=some r):C9 m n fb ts r:=by
 unfold dI at h
 split at h
 ·next hh=>cases h;exact hh.choose_spec
 ·cases h
theorem lQ:∀(ts:List T) (j:Nat),cw (ts.map (fun t=>some (Sl.sh t))++List.replicate j none)=true
 |[],0=>rfl
 |[],j+1=>by rw [List.replicate_succ];exact lQ [] j
 |t::ts,j=>lQ ts j
theorem Dv {P:Program}{w:World}{K:PySem.W.Frag}{mg:Str->Option Value}{base:Heap}{k n:Nat}{x cx:Str}{C:Addr}{qual:Str}{st:Stmt}{f:Addr}{fd:FuncData}{N ps:List Str}{fb:Addr->FI}(F:eR K x qual st f fd)(S:aO N ps (ay st))(hb:Binds K fd ps [])(M:Mk K C f)(hm:mg cx=some (.ref C))(hn:ps.length=n+1)
  (h:∀(cdv:Value) (A:Around) (outer:List Env) (s:Shared) (H:Hp) (E:XK),dG k (A.deeper (envOfC qual (ay st) s.heap.objs.size f cdv))->HK (nV pG P w K mg base N qual (ay st) f cdv A outer s H E).nox C (dP st) fb):
  uh P w K mg base (k+2) cx C n (dI N.length n fb):=by
 refine⟨k+1,f,fd,ps,rfl,M,F.ok S (fun vs H Q E z=>by rw [hn];exact z.1) (fun cdv A outer s H vs Q E hr z=>?_),hb,hm,hn⟩
 obtain⟨hl,F1,a,dx,ws,ts,r,rfl,hx,fx,sm,rw1,e,q⟩:=z
 obtain⟨hlen,hf⟩:=FW e
 refine⟨_,h cdv A outer s H E hr a F1 (kq H [a]),?_⟩
 have r1:aX K F1 (.ptr a::ts) (.ref a::ws):=⟨_,_,rfl,rfl,rw1⟩
 have E0:=iI (N:=N) sm r1
 have hsh:cw ((T.ptr a::ts).map (fun t=>some (Sl.sh t))++List.replicate (N.length-(T.ptr a::ts).length) none)=true:=lQ _ _
 have g0:bB F1 (kq H [a]) F1 H:=⟨aW.refl _,qu,sm,fun _ _ z=>.inl z⟩
 have E1:=E0.to hsh (aW.refl _) g0
 refine⟨F1,_,[],[],[],dx,r,E1,hsh,rfl,hx,fx,hZ List.mem_cons_self,rfl,by decide,rfl,?_,fun F' H' σ' us' g' h1 h2 h3 h4=>q F' H' us' g' h1 h2 h3 h4⟩
 have:=hf a
 rw [<- hlen] at this
 exact this
section
variable {X:Cx}{e:Expr}{pos:Pos}
end
section
variable {X:Cx}{e:Expr}{pos:Pos}{f:FE}
end
section
variable {K:PySem.W.Frag}{Y0 Y9 F H F' H':Hp}{σ σ':L2.St}{τ τ':aI}{x:Nat}{p:Addr}{tss:List (List T)}{A:List Addr}
end
section
variable {X:Cx}{e:Expr}{pos:Pos}{x:Nat}
end
section
variable {K:PySem.W.Frag}{Y0 Y9 F H F' H':Hp}{σ σ':L2.St}{τ τ':aI}{x:Nat}{p:Addr}{tss:List (List T)}{A:List Addr}
theorem wC (hF:∀a∈A,F a=none)(g:bB (frzO F H A) H F' H'):bB F H (kq F' A) H':=by
 refine⟨fun b u e=>?_,g.sH,fun b u e=>?_,fun b u e=>?_⟩
 ·have m:b∉A:=fun m=>by rw [hF b m] at e;cases e
  rw [cj m]
  exact g.sF b u (by rw [eY m];exact e)
 ·by_cases m:b∈A
  ·rw [hZ m] at e;cases e
  ·rw [cj m] at e;exact g.fh b u e
 ·by_cases m:b∈A
  ·rw [hZ m] at e;cases e
  ·rw [cj m] at e
   rcases g.nw b u e with z | z
   ·rw [eY m] at z;exact .inl z
   ·exact .inr z
end
section
variable {X:Cx}{e:Expr}{pos:Pos}{x:Nat}
end
section
variable {X:Cx}{e:Expr}{pos:Pos}
theorem nN {K:PySem.W.Frag}{F:Hp}:∀{ts:List T} {vs:List V} (k:Nat),aX K F ts vs->aX K F (ts.eraseIdx k) (vs.eraseIdx k)
 |[],vs,k,h=>by have:vs=[]:=h;subst this;simpa using h
 |t::ts,vs,0,h=>by
  obtain⟨v,r,rfl,h1,h2⟩:=h
  exact h2
 |t::ts,vs,k+1,h=>by
  obtain⟨v,r,rfl,h1,h2⟩:=h
  exact⟨v,_,rfl,h1,nN k h2⟩
def lW (i:Nat)(f:FE):FE:=fun τ=>match τ[i]? with
 |some (some (.own _))=>(f τ).bind fun q=>match q.2[i]?,q.1 with
  |some (some (.own us)),.int k=>if 0≤k/\k<us.length/\us.length≤1000 then (us[k.toNat]?).bind fun t=>some (t,q.2.set i (some (.own (us.eraseIdx k.toNat)))) else none
  |_,_=>none
 |_=>none
theorem Cd (i:Nat){x:Str}{p1 p2 p3:Pos}{f:FE}(hv:PE X (.Name x p1) (jn i))(he:SE X e f)
  (hbase:attributeBase (.Name x p1) "pop" X.env (eval (.Name x p1) X.env)=eval (.Name x p1) X.env:=by rfl)
  (hfew:((backTo p3 (starEach [e] X.env)).all (fun x=>!x.1)&&(backToKw p3 (keywordEach [] X.env)).all (fun x=>x.1.isSome)&&decide ([e].length+([]:List Keyword).length+(if ([]:List Keyword).isEmpty then 0 else 1)<30))=true:=by rfl)
  (hline:(p2.endLine == p3.line)=true:=by rfl) (hs:starEach [e] X.env=(false,eval e X.env)::starEach [] X.env:=by rfl) (hpl:(backTo p3 (starEach [] X.env)).any (·.1)=false:=by rfl):
  SE X (.Call (.Attribute (.Name x p1) "pop" p2) [e] [] p3) (lW i f):=fun Y0 Y9 =>
 PE.weak (qG PySem.F.plainAttrs_list PySem.F.slot_list_pop PySem.F.type_list_pop BH hv (eJ (he Y0 Y9) fX hs) hbase hfew hline hs hpl) fun σ H Q hq__=>by
  obtain⟨F,τ,t,τ',E,e1,q⟩:=hq__
  unfold lW at e1
  split at e1
  ·next us0 e3 =>
   obtain⟨⟨y,τ1⟩,e2,e1⟩:=bind_some e1
   dsimp only at e1
   split at e1
   ·next _ us k e4 =>
    split at e1
    ·next hk =>
     obtain⟨z,e5,e1⟩:=bind_some e1
     cases e1
     obtain⟨v,g1,p,vs,rfl,g2,g3,g4,g5⟩:=E.sl i _ e3
     refine⟨_,g1,.inl ⟨rfl,vs,fq.of g2⟩,F,τ,_,τ1,E,e2,fun F' H' w E' s' r'=>?_⟩
     cases r'
     obtain⟨v',k1,p',vs',rfl,k2,k3,k4,k5⟩:=E'.sl i _ e4
     rw [g1] at k1;cases k1
     obtain⟨u,m1,m2⟩:=k5.get e5
     refine⟨p,vs',k,k.toNat,u,rfl,rfl,k2,by omega,by omega,?_,m1,q F' _ u (E'.turnOwn e4 g1 (nN _ k5)) s' m2⟩
     unfold seqIndex?
     rw [k5.length]
     have e0:¬ k<0:=by omega
     simp only [if_neg e0]
     rw [if_pos (by simp only [Bool.and_eq_true,decide_eq_true_eq];omega)]
    ·cases e1
   ·cases e1
  ·cases e1
end
section
variable {X:Cx}{e:Expr}{pos:Pos}
end
section
variable {X:Cx}{e:Expr}{pos:Pos}{x:Nat}
end
section
variable {X:Cx}{i j:Nat}
def qA:List O->Option (List Int)
 |[]=>some []
 | .val (.int k)::os=>(qA os).bind fun l=>some (k::l)
 |_=>none
theorem qB:∀l:List Int,qA (l.map fun k=>O.val (.int k))=some l
 |[]=>rfl
 |k::l=>by
  show (qA (l.map fun k=>O.val (.int k))).bind _=_
  rw [qB l]
  rfl
theorem qC {K:PySem.W.Frag}{F F' H:Hp}:∀{os:List O} {l:List Int} {vs:List V} {B:List Addr},qA os=some l->cv K F H os vs B->aX K F' (l.map T.int) vs
 |[],l,vs,B,e,h=>by cases e;exact h.1
 |o::os,l,vs,B,e,h=>by
  unfold qA at e
  split at e
  ·next e'=>cases e'
  ·next k os' e' =>
   cases e'
   obtain⟨l',e1,e2⟩:=bind_some e
   cases e2
   obtain⟨v,r,B1,C,rfl,rfl,h1,h2⟩:=h
   exact⟨v,r,rfl,h1.2,qC e1 h2⟩
  ·cases e
def n6 (i j:Nat)(f:kO):FS:=fun τ=>match τ[i]? with
 |some (some (.own us))=>(f ((hide τ).set i (some (.sh (.lst us))))).bind fun q=>match q.1 with
  | .lst os=>(qA os).bind fun l=>some (.nx (τ.set j (some (.own (l.map T.int)))))
  |_=>none
 |_=>none
theorem EA {S:Stmt}{f:kO}(i:Nat)(hS:LM X S j f):SS X S (n6 i j f):=fun Y0 Y9=>PS.weak (fun pins s σ H D I (h:∃Y0 Y9,Co X.K Y0 Y9 j f D σ H)=>by
  obtain⟨a,b,q⟩:=h
  exact hS a b pins s σ H D I q) fun D σ H hq__=>by
 obtain⟨F,τ,r,E,e1,q⟩:=hq__
 unfold n6 at e1
 split at e1
 ·next us e3 =>
  obtain⟨⟨o,τ1⟩,e2,e1⟩:=bind_some e1
  dsimp only at e1
  split at e1
  ·next os =>
   obtain⟨l,e4,e1⟩:=bind_some e1
   cases e1
   obtain⟨v,h1,a,vs,rfl,h2,h3,h4,h5⟩:=E.sl i _ e3
   refine⟨L2.upd F a (.lst vs),H,L2.upd F a (.lst vs),_,_,τ1,E.look h1 h2 h3 h5,e2,fun F' H' v' A E' s' ro nd h0 ap=>?_⟩
   have gl:=bB.lent h3 E'.g
   obtain⟨p,ws,B,rfl,rfl,k1,k2,k3⟩:=ro
   have hp:H p=none:=h0 p List.mem_cons_self
   have fp:kq F' [a] p=none:=by
    by_cases m:p∈[a]
    ·exact hZ m
    ·rw [cj m];exact k2
   refine q _ H' _ ((E.grow gl).putOwn2 (i:=j) k1 fp (E.g.sH.free hp) (fun k us' p' e5 e6 m=>?_) (qC e4 k3)) gl.sF
   rw [List.mem_singleton] at m
   subst m
   obtain⟨v2,g1,q2,ws2,rfl,g2,g3⟩:=E.sl k _ e5
   rw [e6] at g1
   cases g1
   rw [hp] at g2
   cases g2
  ·cases e1
 ·cases e1
end
section
variable {X:Cx}
end
section
variable {X:Cx}{a b c:Expr}{fa fb fc:FE}{pos:Pos}
def jB (g g':T->T->Option T)(fa fb fc:FE):FE:=fun τ=>(fa τ).bind fun p=>(fb p.2).bind fun q=>(g p.1 q.1).bind fun z=>match z with
 | .bl true=>(fc q.2).bind fun r=>(g' q.1 r.1).bind fun t=>some (t,r.2)
 | .bl false=>some (.bl false,q.2)
 |_=>none
theorem wb {g g':T->T->Option T}{K:PySem.W.Frag}{Y0 Y9:Hp}{σ:L2.St}{H:Hp}{Q:VK}(h:tE K Y0 Y9 (jB g g' fa fb fc) σ H Q):Cm (Ig K g) (Ig K g') (tE K Y0 Y9 fa) (tE K Y0 Y9 fb) (tE K Y0 Y9 fc) σ H Q:=by
 obtain⟨F,τ,t,τ',E,e1,q⟩:=h
 obtain⟨⟨x,τ1⟩,e2,e1⟩:=bind_some e1
 obtain⟨⟨y,τ2⟩,e3,e1⟩:=bind_some e1
 obtain⟨z,e4,e1⟩:=bind_some e1
 refine⟨F,τ,x,τ1,E,e2,fun F1 H1 v1 E1 s1 r1=>⟨F1,τ1,y,τ2,E1,e3,fun F2 H2 v2 E2 s2 r2=>⟨F2,x,y,z,E2.g.fh,r1.mono s2,r2,e4,fun F3 H3 v3 g3 r3=>?_⟩⟩⟩
 dsimp only at e1
 split at e1
 ·obtain⟨⟨w,τ3⟩,e5,e1⟩:=bind_some e1
  obtain⟨t',e6,e1⟩:=bind_some e1
  cases e1
  refine⟨true,r3,?_⟩
  rw [if_pos rfl]
  exact⟨F3,τ2,w,_,E2.grow g3,e5,fun F4 H4 v4 E4 s4 r4=>⟨F4,y,w,_,E4.g.fh,(r2.mono g3.sF).mono s4,r4,e6,fun F5 H5 v5 g5 r5=>q F5 H5 v5 (E4.grow g5) (((s1.trans s2).trans g3.sF).trans (s4.trans g5.sF)) r5⟩⟩
 ·cases e1
  refine⟨false,r3,?_⟩
  rw [if_neg (by decide)]
  exact q F3 H3 _ (E2.grow g3) ((s1.trans s2).trans g3.sF) rfl
 ·cases e1
theorem vH {op op':CmpOp}{g g':T->T->Option T}(ho:mZ X (compareOp op) g)(ho':mZ X (compareOp op') g')(ha:SE X a fa)(hb:SE X b fb)(hc:SE X c fc)(hm:lastMarks [op,op'] [b,c]=false:=by with_unfolding_all rfl):ST X (.Compare a [op,op'] [b,c] pos) (fG (jB g g' fa fb fc)):=
 fun Y0 Y9=>PT.weak (B4 ho ho' (ha Y0 Y9) (hb Y0 Y9) (hc Y0 Y9) hm) fun σ H Q hq__=>by
  obtain⟨F,τ,k,τ',E,e1,q⟩:=hq__
  obtain⟨⟨x,τ1⟩,e2,e1⟩:=bind_some e1
  dsimp only at e1
  split at e1
  ·cases e1
   refine wb (Q:=fun x H'=>∃k,x=V.bl k/\Q k H') ⟨F,τ,_,_,E,e2,fun F' H' v E' s' r'=>?_⟩
   exact⟨k,r',q F' H' E' s'⟩
  ·cases e1
end
structure vQ (K:PySem.W.Frag)(Y0 Y9 F H:Hp)(σ:L2.St)(τ:aI)(A:List Addr):Prop where
 E:aL K Y0 Y9 F H σ τ
 lies:∀a∈A,F a=none/\∃vs,H a=some (.lst vs)
 h0:∀a∈A,Y9 a=none
 ap:Apart σ τ A
section
variable {K:PySem.W.Frag}{Y0 Y9 F H F' H':Hp}{σ σ':L2.St}{τ τ':aI}{A:List Addr}
theorem vQ.upd (D:vQ K Y0 Y9 F H σ τ A){a:Addr}(ha:a∈A)(ws:List V):vQ K Y0 Y9 F (L2.upd H a (.lst ws)) σ τ A:=by
 refine⟨⟨⟨D.E.g.sF,fun b u e=>?_,fun b u e=>?_,D.E.g.nw⟩,D.E.len,fun i s e=>?_,D.E.dj⟩,fun b hb=>⟨(D.lies b hb).1,?_⟩,D.h0,D.ap⟩
 ·rw [aP (fun z=>by rw [z,D.h0 a ha] at e;cases e)];exact D.E.g.sH _ _ e
 ·rw [aP (fun z=>by rw [z,(D.lies a ha).1] at e;cases e)];exact D.E.g.fh _ _ e
 ·obtain⟨v,h1,h2⟩:=D.E.sl i s e
  refine⟨v,h1,?_⟩
  cases s with
  |sh t=>exact h2
  |own ts =>
   obtain⟨q,vs,rfl,k1,k2,k3,k4⟩:=h2
   exact⟨q,vs,rfl,by rw [aP (show q≠a from fun z=>D.ap i ts q e h1 (by rw [z];exact ha))];exact k1,k2,k3,k4⟩
 ·by_cases h:b=a
  ·subst h;exact⟨ws,by simp [L2.upd]⟩
  ·rw [aP h];exact (D.lies b hb).2
theorem vQ.setv (D:vQ K Y0 Y9 F H σ τ A){j:Nat}{v:V}(hj:τ[j]? = some none):vQ K Y0 Y9 F H (σ.set j (some v)) τ A:=by
 have ne:∀{i:Nat} {s:Sl},τ[i]? = some (some s)->j≠i:=fun {i s} e h=>by rw [<- h,hj] at e;cases e
 refine⟨⟨D.E.g,by simp [D.E.len],fun i s e=>?_,fun i k ts us p h e1 e2 e3=>?_⟩,D.lies,D.h0,fun i us p e1 e2=>?_⟩
 ·rw [List.getElem?_set_ne (ne e)];exact D.E.sl i s e
 ·rw [List.getElem?_set_ne (ne e1)] at e3
  rw [List.getElem?_set_ne (ne e2)]
  exact D.E.dj i k ts us p h e1 e2 e3
 ·rw [List.getElem?_set_ne (ne e1)] at e2
  exact D.ap i us p e1 e2
end
section
variable {X:Cx}{r t x:Nat}{rn tn xn:Str}{p1 p2 p3 p4 p5 p6 pos:Pos}
end
section
variable {K:PySem.W.Frag}{Y0 Y9 F H F' H':Hp}{σ σ':L2.St}{τ τ':aI}{A:List Addr}{x:Nat}{o:O}{v:V}
end
def Dx (i:Nat)(τ:aI):Bool:=match τ[i]? with
 |some none=>true
 |_=>false
theorem yE {i:Nat}{τ:aI}(h:Dx i τ=true):τ[i]? = some none:=by
 unfold Dx at h
 split at h
 ·next e=>exact e
 ·cases h
section
variable {X:Cx}{r t x:Nat}{rn tn xn:Str}{p1 p2 p3 p4 p5 p6 pos q1 q2 q3 q4 q5 q6 pos':Pos}
end
section
variable {K:PySem.W.Frag}{Y0 Y9 F H F' H':Hp}{σ σ':L2.St}{τ τ':aI}{x:Nat}{p:Addr}{os:List O}{A:List Addr}
end
section
variable {X:Cx}{e:Expr}{pos:Pos}{x:Nat}
theorem ST.any' {c:Expr}{tc:FT}(hT:ST X c tc):PT X c (fun σ H Q=>∃Y0 Y9,tT X.K Y0 Y9 tc σ H Q):=fun pins s σ H Q I ⟨Y0,Y9,q⟩=>hT Y0 Y9 pins s σ H Q I q
end
section
variable {X:Cx}{e:Expr}{pos:Pos}
end
section
variable {X:Cx}{e:Expr}{pos:Pos}
end
section
variable {P:Program}{w:World}{K:PySem.W.Frag}{mg:Str->Option Value}{base:Heap}{j k n:Nat}{C:Addr}{m:Str}
end
section
variable {X:Cx}{o e:Expr}{pos apos:Pos}{fo:FE}{k n:Nat}{m:Str}
end
section
variable {X:Cx}{x y:Nat}{e:Expr}{pos:Pos}
end
section
variable {K:PySem.W.Frag}{Y0 Y9 F H F' H':Hp}{σ σ':L2.St}{τ τ':aI}{A:List Addr}{o:O}{v:V}
end
section
variable {X:Cx}{x y:Nat}{e:Expr}{pos:Pos}
end
section
variable {X:Cx}{es:List Expr}{pos:Pos}
def La (K:PySem.W.Frag)(n:Nat)(t:CF):TG:=fun v σ H Q=>∃a xs,v=.ref a/\fq K H a xs/\xs.length=n/\t xs σ H Q
theorem G9 {k:Nat}{t:CF}{n:Nat}(hc:X.calm=true)(h:HI X es t)
  (hn:(assignEach es X.env).length=n:=by rfl) (hst:(assignEach es X.env).findIdx? (·.1)=none:=by rfl):PG X (.Tuple es k pos) (La X.K n t):=by
 intro pins s σ H v u Q I r hw
 obtain⟨a,xs,e1,hq,hl,hw⟩:=hw
 subst e1
 cases r
 obtain⟨its,rv,ht,hz⟩:=I.list hq
 rw [assign_Tuple]
 refine wpAny_bind (wpAny_standAt ?_)
 unfold unpack
 rw [hst,show (assignEach es X.env).length=its.toArray.size by simp [hn,<- hl,rv.length]]
 refine wpAny_bind (wpAny_holding (PySem.W.kun_itemsOf (I.ok.hd hc) ht.isList fun h' hx=>?_))
 have I1:Inv X pins σ H { s with heap:=h' }:=I.kept (t':=s.toks) fun b o e=>hx b o (Nat.ne_of_lt (Heap.lt_size e)) e
 exact h pins _ σ H xs _ Q I1 (by simpa using rv) hw
def Fd (gs:List T->aI->Option aI):FG:=fun t τ=>match t with
 | .lst ts=>gs ts τ
 |_=>none
theorem Hr {gs:List T->aI->Option aI}{k:Nat}{n:Nat}(hc:X.calm=true)(h:HJ X es gs)(hl:∀ts τ τ',gs ts τ=some τ'->ts.length=n)
  (hn:(assignEach es X.env).length=n:=by rfl) (hst:(assignEach es X.env).findIdx? (·.1)=none:=by rfl):SG X (.Tuple es k pos) (Fd gs):=
 fun Y0 Y9 pins s σ H v u Q I r h'=>G9 hc (h Y0 Y9) hn hst pins s σ H v u Q I r (by
  obtain⟨F,τ,t,τ',E,rt,e1,q⟩:=h'
  unfold Fd at e1
  split at e1
  ·next ts =>
   obtain⟨p,xs,rfl,h1,h2⟩:=rt
   exact⟨p,xs,rfl,fq.of (E.g.fh _ _ h1),by rw [h2.length];exact hl _ _ _ e1,F,τ,ts,τ',E,h2,e1,q⟩
  ·cases e1)
def Kf (i j k:Nat)(ta:TA):TS:=fun D σ H=>ta σ H fun vs H1=>∃v w z,vs=[v,w,z]/\D.nx (((σ.set i (some v)).set j (some w)).set k (some z)) H1
theorem D6 {i j k:Nat}{x y z:Str}{a b c:Expr}{ta:TA}{px py pz pt:Pos}{kt k2 pt2}(hc:X.calm=true)(hN:X.N.Nodup)(hi:X.N[i]? = some x)(hj:X.N[j]? = some y)(hk:X.N[k]? = some z)(hij:i≠j)(hik:i≠k)(hjk:j≠k)
  (hx:X.env.scope.names.lookup x=some .local) (hy:X.env.scope.names.lookup y=some .local) (hz:X.env.scope.names.lookup z=some .local) (ha:PA X [a,b,c] ta)
  (hw:swappedStores [.Tuple [.Name x px,.Name y py,.Name z pz] kt pt] (.Tuple [a,b,c] k2 pt2) X.env=pure (some [x,y,z]))
  (hs:swapsWithSole [.Tuple [.Name x px,.Name y py,.Name z pz] kt pt] (.Tuple [a,b,c] k2 pt2) pos.line X.env=pure false:=by rfl):
  PS X (.Assign [.Tuple [.Name x px,.Name y py,.Name z pz] kt pt] (.Tuple [a,b,c] k2 pt2) pos) (Kf i j k ta):=by
 intro pins s σ H D I h
 rw [exec_Assign_arm]
 refine wpAny_bind (wpAny_standAt ?_)
 rw [hs]
 refine wpAny_bind (wpAny_pure ?_)
 rw [if_neg (by decide)]
 refine wpAny_bind (Tuple_ (dB (ha _ pins s σ H _ I h) fun us s1 ⟨vs,H1,I1,r1,q1⟩=>?_))
 obtain⟨v,w,q,e1,q1⟩:=q1
 subst e1
 obtain⟨u1,u2,u3,rfl,rv,rw',rq⟩:∃u1 u2 u3,us=[u1,u2,u3]/\RelV v u1/\RelV w u2/\RelV q u3:=by
  cases r1 with
  |cons p q =>
   cases q with
   |cons p' q' =>
    cases q' with
    |cons p'' q'' =>
     cases q''
     exact⟨_,_,_,rfl,p,p',p''⟩
 refine wpAny_newObj_type ?_ (by show 3≤sizeLine;decide)
 have I2:Inv X pins σ H1 { s1 with heap:=s1.heap.push { cls:=.type "tuple", data:=.seq [u1,u2,u3].toArray } }:=I1.kept (t':=s1.toks) fun b o e=>Heap.get?_push_of_some _ e
 rw [hw]
 refine wpAny_bind (wpAny_pure ?_)
 show wpAny (model X.prog X.w) X.A (do rule "assign.swapped-stores";let items <- unpackItems (.ref s1.heap.objs.size) 3 none;assignInOrder [fun v=>bindName X.env z v,fun v=>bindName X.env y v,fun v=>bindName X.env x v] items.reverse;pure Flow.next) _ _ _
 refine wpAny_bind (wpAny_rule (wpAny_bind (unpackItems_tuple (items:=#[u1,u2,u3]) (I.ok.hd hc) (IsTup.new s1.heap _) fun h' hx'=>?_)))
 have I3:=I2.kept (h':=h') (t':=s1.toks) fun b o e=>hx' b o (Nat.ne_of_lt (Heap.lt_size e)) e
 show wpAny _ _ (assignInOrder [fun v=>bindName X.env z v,fun v=>bindName X.env y v,fun v=>bindName X.env x v] [u3,u2,u1] >>= fun _=>pure Flow.next) _ _ _
 refine wpAny_bind (assignInOrder_cons (wpAny_bindName (gS I3 hN hk (.inl hz) rq (fun s2 I4=>?_) (.inr hz))))
 refine assignInOrder_cons (wpAny_bindName (gS I4 hN hj (.inl hy) rw' (fun s3 I5=>?_) (.inr hy)))
 refine assignInOrder_cons (wpAny_bindName (gS I5 hN hi (.inl hx) rv (fun s4 I6=>assignInOrder_nil (wpAny_pure ?_)) (.inr hx)))
 rw [List.set_comm _ _ (Ne.symm hjk),List.set_comm _ _ (Ne.symm hik),List.set_comm _ _ (Ne.symm hij)] at I6
 exact⟨_,H1,I6,q1⟩
def yy (i j k:Nat)(g:FA):FS:=fun τ=>(g τ).bind fun p=>match p.1 with
 |[t,u,v]=>some (.nx (((p.2.set i (some (.sh t))).set j (some (.sh u))).set k (some (.sh v))))
 |_=>none
theorem Ey {i j k:Nat}{x y z:Str}{a b c:Expr}{ga:FA}{px py pz pt:Pos}{kt k2 pt2}(hc:X.calm=true)(hN:X.N.Nodup)(hi:X.N[i]? = some x)(hj:X.N[j]? = some y)(hk:X.N[k]? = some z)(hij:i≠j)(hik:i≠k)(hjk:j≠k)
  (hx:X.env.scope.names.lookup x=some .local) (hy:X.env.scope.names.lookup y=some .local) (hz:X.env.scope.names.lookup z=some .local) (ha:SA X [a,b,c] ga)
  (hw:swappedStores [.Tuple [.Name x px,.Name y py,.Name z pz] kt pt] (.Tuple [a,b,c] k2 pt2) X.env=pure (some [x,y,z]))
  (hs:swapsWithSole [.Tuple [.Name x px,.Name y py,.Name z pz] kt pt] (.Tuple [a,b,c] k2 pt2) pos.line X.env=pure false:=by rfl):
  SS X (.Assign [.Tuple [.Name x px,.Name y py,.Name z pz] kt pt] (.Tuple [a,b,c] k2 pt2) pos) (yy i j k ga):=fun Y0 Y9=>PS.weak (D6 hc hN hi hj hk hij hik hjk hx hy hz (ha Y0 Y9) hw hs) fun D σ H hq__=>by
 obtain⟨F,τ,r,E,e1,q⟩:=hq__
 obtain⟨⟨ts,τ1⟩,e2,e1⟩:=bind_some e1
 dsimp only at e1
 split at e1
 ·next t u v =>
  cases e1
  refine⟨F,τ,_,_,E,e2,fun F1 H1 vs E1 s1 r1=>?_⟩
  obtain⟨v1,_,rfl,k1,v2,_,rfl,k2,v3,_,rfl,k3,rfl⟩:=r1
  exact⟨v1,v2,v3,rfl,q F1 H1 _ (((E1.set k1).set k2).set k3) s1⟩
 ·cases e1
end
section
variable {P:Program}{w:World}{K:PySem.W.Frag}{mg:Str->Option Value}{base:Heap}{j k n:Nat}{x:Str}{C:Addr}{dx:List T->Option XI}
end
section
variable {X:Cx}{e:Expr}{es:List Expr}{pos:Pos}{g:FA}{b:Bool}
end
section
variable {X:Cx}{e:Expr}{pos:Pos}{g:FA}
end
section
variable {P:Program}{w:World}{K:PySem.W.Frag}{mg:Str->Option Value}{base:Heap}
end
section
variable {X:Cx}{pos:Pos}
end
section
variable {X:Cx}{e:Expr}{pos:Pos}
end
section
variable {X:Cx}{e:Expr}{pos:Pos}
end
section
variable {X:Cx}{es:List Expr}{pos:Pos}
def uF (gs:List T->aI->Option aI):FG:=fun t τ=>match t with
 | .lst ts=>gs ts τ
 | .tup ts=>gs ts τ
 |_=>none
theorem Cf {gs:List T->aI->Option aI}{k:Nat}{n:Nat}(hc:X.calm=true)(h:HJ X es gs)(hl:∀ts τ τ',gs ts τ=some τ'->ts.length=n)
  (hn:(assignEach es X.env).length=n:=by rfl) (hst:(assignEach es X.env).findIdx? (·.1)=none:=by rfl):SG X (.Tuple es k pos) (uF gs):=by
 intro Y0 Y9 pins s σ H v u Q I r h'
 obtain⟨F,τ,t,τ',E,rt,e1,q⟩:=h'
 cases t with
 |lst ts=>exact Hr hc h hl hn hst Y0 Y9 pins s σ H v u Q I r ⟨F,τ,.lst ts,τ',E,rt,e1,q⟩
 |tup ts=>exact cX hc h hl hn hst Y0 Y9 pins s σ H v u Q I r ⟨F,τ,.tup ts,τ',E,rt,e1,q⟩
 |_=>cases e1
end
section
variable {X:Cx}{r t:Nat}{rn tn:Str}{p1 p2 p3 p4 p5 p6 pos q1 q3 q4 q5 q6 pos':Pos}
end
section
variable {K:PySem.W.Frag}{Y0 Y9 F H:Hp}{σ:L2.St}{τ:aI}{A:List Addr}
theorem vQ.new (D:vQ K Y0 Y9 F H σ τ A){q:Addr}(hq:H q=none)(o:HO):vQ K Y0 Y9 F (L2.upd H q o) σ τ A:=
 ⟨D.E.hp (dA hq),fun a ha=>⟨(D.lies a ha).1,by
  obtain⟨vs,h⟩:=(D.lies a ha).2
  exact⟨vs,by rw [aP (fun z:a=q=>by rw [z,hq] at h;cases h)];exact h⟩⟩,D.h0,D.ap⟩
end
section
variable {X:Cx}{t x:Nat}{tn xn:Str}{q1 q2 p1 p2 p3 p4 p5 r1 r2 r3 r4 r5 r6 r7 r8 r9 pos':Pos}
end
mutual
def gG:T->Bool
 | .lst _=>false
 | .scr _=>false
 | .tup ts=>ff ts
 | .obj _ _ ts=>ff ts
 | .exc _ _ ts=>ff ts
 |_=>true
def ff:List T->Bool
 |[]=>true
 |t::ts=>gG t&&ff ts
end
mutual
theorem Al {K:PySem.W.Frag}{F F':Hp}(h:∀a o,F a=some o->(∀xs,o≠.lst xs)->F' a=some o):∀{t:T} {v:V},gG t=true->Rep K F t v->Rep K F' t v
 | .non,v,_,r=>r
 | .bl _,v,_,r=>r
 | .int _,v,_,r=>r
 | .str _,v,_,r=>r
 | .ty _,v,_,r=>r
 | .ptr _,v,_,r=>r
 | .tup ts,v,n,r=>by
  obtain⟨a,xs,e,s,rs⟩:=r
  refine⟨a,xs,e,?_,gJ h (by simpa [gG] using n) rs⟩
  rcases s with (s | ⟨o,s⟩) | s
  ·exact .inl (.inl (h a _ s (fun _ z=>by cases z)))
  ·exact .inl (.inr ⟨o,h a _ s (fun _ z=>by cases z)⟩)
  ·exact .inr s
 | .lst ts,v,n,r=>by simp [gG] at n
 | .scr ts,v,n,r=>by simp [gG] at n
 | .dic,v,_,r=>by
  obtain⟨a,e,s⟩:=r
  exact⟨a,e,h a _ s (fun _ z=>by cases z)⟩
 | .obj C ns ts,v,n,r=>by
  obtain⟨a,dx,vs,e,s,l,rs⟩:=r
  exact⟨a,dx,vs,e,h a _ s (fun _ z=>by cases z),l,gJ h (by simpa [gG] using n) rs⟩
 | .exc C ns ts,v,n,r=>by
  obtain⟨a,od,e,s,r3⟩:=r
  exact⟨a,od,e,h a _ s (fun _ z=>by cases z),r3.imp id fun⟨d,us,k1,k2,k3,k4⟩=>⟨d,us,k1,h d _ k2 (fun _ z=>by cases z),k3,gJ h (by simpa [gG] using n) k4⟩⟩
theorem gJ {K:PySem.W.Frag}{F F':Hp}(h:∀a o,F a=some o->(∀xs,o≠.lst xs)->F' a=some o):∀{ts:List T} {vs:List V},ff ts=true->aX K F ts vs->aX K F' ts vs
 |[],vs,_,r=>r
 |t::ts,vs,n,r=>by
  rw [ff,Bool.and_eq_true] at n
  obtain⟨v,rr,e,r1,r2⟩:=r
  exact⟨v,rr,e,Al h n.1 r1,gJ h n.2 r2⟩
end
section
variable {X:Cx}{t x y:Nat}{tn xn yn:Str}{q1 q2 p1 p2 p3 p4 p5 r1 r2 r3 r4 r5 r6 r7 r8 r9 pos' a1 a2 c1 c2:Pos}
end
section
variable {P:Program}{w:World}{K:PySem.W.Frag}{mg:Str->Option Value}{base:Heap}{j k n:Nat}{x:Str}
end
section
variable {X:Cx}{e a b:Expr}{es:List Expr}{pos:Pos}{g:FA}{k n:Nat}
end
section
variable {X:Cx}{x:Nat}{xn:Str}{r1 r2 r3 r4 r5 r6 r7 r8 r9 a1 a2 a3:Pos}
end
section
variable {K:PySem.W.Frag}{Y0 Y9 F H F' H':Hp}{σ σ':L2.St}{τ τ':aI}{A:List Addr}
end
section
variable {X:Cx}{x:Nat}{e:Expr}{pos:Pos}{hs:List Nat}
end
section
variable {X:Cx}{r pl nu:Nat}{rn pn nn:Str}{t1 t2 px e1 e2 e3 e4 e5 b1 b2 b3 b4 pos:Pos}{E:Expr}{fE:FE}{φ:T->T}
end
section
variable {X:Cx}{r t x pl nu:Nat}{rn tn xn pn nn:Str}{t1 t2 px e1 e2 e3 e4 e5 b1 b2 b3 b4 pos c1 c2 cpos:Pos}{E:Expr}{φ:T->T}{kx:Nat}
end
section
variable {K:PySem.W.Frag}{F H:Hp}
end
section
variable {X:Cx}{r t x pl nu:Nat}{xn:Str}{a1 a2 a3 f1 f2:Pos}
end
section
variable {K:PySem.W.Frag}{F H:Hp}{A:List Addr}
end
section
variable {X:Cx}{e:Expr}{pos:Pos}{x:Nat}
end
section
variable {X:Cx}{x:Nat}{xn:Str}{r1 r2 r3 r4 r5 r6 r7 r8 r9 a1 a2 a3:Pos}
end
section
variable {X:Cx}{e:Expr}{pos:Pos}{b:Bool}
end
section
variable {K:PySem.W.Frag}{Y0 Y9 F H F' H':Hp}{σ σ':L2.St}{τ τ':aI}{x:Nat}{p:Addr}{tss:List (List T)}{A:List Addr}
end
section
variable {X:Cx}{pos p2:Pos}
end
section
variable {X:Cx}{e:Expr}{pos:Pos}{x:Nat}
end
section
variable {K:PySem.W.Frag}{Y0 Y9 F H F' H':Hp}{σ σ':L2.St}{τ τ':aI}
end
section
variable {X:Cx}{e v:Expr}{pos pos2:Pos}{x i j:Nat}{nx ni nj:Str}{q1 q2 q3 q4 q5 p1 p2 p3:Pos}{fo:kO}{fv:FE}{t:T}
end
section
variable {X:Cx}{e:Expr}{pos:Pos}{x:Nat}
end
section
variable {X:Cx}{e:Expr}{pos:Pos}{x:Str}{f:FE}
def wt (i:Nat)(f:FE):FS:=fun τ=>match τ[i]? with
 |some (some (.own _))=>(f τ).bind fun p=>match p.2[i]?,p.1 with
  |some (some (.own ts)),.lst us=>if ts.length+us.length≤sizeLine then some (.nx (p.2.set i (some (.own (ts++us))))) else none
  |_,_=>none
 |_=>none
theorem Av (i:Nat){p1 p2 p3:Pos}(hv:PE X (.Name x p1) (jn i))(he:SE X e f)
  (hbase:attributeBase (.Name x p1) "extend" X.env (eval (.Name x p1) X.env)=eval (.Name x p1) X.env:=by rfl)
  (hfew:((backTo p3 (starEach [e] X.env)).all (fun x=>!x.1)&&(backToKw p3 (keywordEach [] X.env)).all (fun x=>x.1.isSome)&&decide ([e].length+([]:List Keyword).length+(if ([]:List Keyword).isEmpty then 0 else 1)<30))=true:=by rfl)
  (hline:(p2.endLine == p3.line)=true:=by rfl) (hs:starEach [e] X.env=(false,eval e X.env)::starEach [] X.env:=by rfl) (hpl:(backTo p3 (starEach [] X.env)).any (·.1)=false:=by rfl)
  (hsw:swapsWith (.Call (.Attribute (.Name x p1) "extend" p2) [e] [] p3) none pos.line X.env=pure false:=by rfl):
  SS X (.Expr (.Call (.Attribute (.Name x p1) "extend" p2) [e] [] p3) pos) (wt i f):=fun Y0 Y9 =>
 PS.weak (lH (qG PySem.F.plainAttrs_list PySem.F.slot_list_extend PySem.F.type_list_extend zZ hv (eJ (he Y0 Y9) fX hs) hbase hfew hline hs hpl) hsw) fun D σ H hq__=>by
  obtain⟨F,τ,r,E,e1,q⟩:=hq__
  unfold wt at e1
  split at e1
  ·next ts0 h0 =>
   obtain⟨⟨t,τ1⟩,e2,e1⟩:=bind_some e1
   dsimp only at e1
   split at e1
   ·next ts us h1 =>
    split at e1
    ·next hz =>
     cases e1
     obtain⟨v,g1,p,vs,rfl,g2,g3,g4,g5⟩:=E.sl i _ h0
     refine⟨_,g1,.inl ⟨rfl,vs,fq.of g2⟩,F,τ,_,τ1,E,e2,fun F' H' w E' s' r'=>?_⟩
     obtain⟨v',k1,p',vs',rfl,k2,k3,k4,k5⟩:=E'.sl i _ h1
     rw [g1] at k1;cases k1
     obtain⟨b,zs,rfl,m1,m2⟩:=r'
     exact⟨p,b,vs',zs,rfl,rfl,k2,E'.g.fh _ _ m1,by rw [k5.length,m2.length];exact hz,q F' _ σ (E'.turnOwn h1 g1 (k5.append m2)) s'⟩
    ·cases e1
   ·cases e1
  ·cases e1
end
section
variable {prog:Program}{w:World}{A:Around}{R:Result->Shared->Prop}{s:Shared}{elt tg iter tg2 iter2:Expr}{scope:Scope}{pos:Pos}{it acc:Value}{env:Env}
end
section
variable {X:Cx}{K:PySem.W.Frag}{D:Addr}{F₂ H₁:Hp}{pins:List (Addr×Obj)}{σ:L2.St}{H F:Hp}{τ:aI}{us:List T}{s:Shared}
end
section
variable {X':Cx}{tg iter tg2 iter2 elt:Expr}{scope:Scope}{pos:Pos}{fg2:FG}{fi2:FA}{fe:FE}{D:Addr}{F₂ H₁:Hp}
end
section
variable {X:Cx}
end
variable {X:Cx}
variable {X:Cx}{e:Expr}{pos:Pos}
theorem Ce {x:Str}{a:Addr}(hg:Gl X x)(hm:X.mg x=some (.ref a))(hd:(x == ("__debug__" : Str))=false:=by decide):SE X (.Name x pos) (fC (.ptr a)):=
 gP (tw (v:=.ref a) hg hm rfl hd) fun F=>rfl
section
variable {X:Cx}{pins:List (Addr×Obj)}{σ:L2.St}{H:Hp}{s:Shared}{h':Heap}{a:Addr}{o:HO}
end
section
variable {X:Cx}{e:Expr}{pos:Pos}{g:FA}
end
section
variable {X:Cx}{pins:List (Addr×Obj)}{σ:L2.St}{H:Hp}{s:Shared}{a:Addr}{φ ψ:Heap->Prop}
end
section
variable {X:Cx}{e:Expr}{pos:Pos}{g:FA}
end
section
variable {prog:Program}{w:World}{A:Around}{E:Value->Shared->Prop}{s:Shared}{K:PySem.W.Frag}{x C f:Addr}{ox:Obj}{od:Option Obj}{name:Str}{bm:List Value}
end
section
variable {X:Cx}{o:Expr}{m:Str}{pos apos:Pos}{fo:FE}{k:Nat}
end
section
variable {X:Cx}
end
section
variable {X:Cx}{e:Expr}{pos:Pos}{f:FE}
end
section
variable {X:Cx}{tg l:Expr}{f:FE}
end
section
variable {X:Cx}{o e:Expr}{fo fe:FE}{name:Str}{id:String}{apos cpos:Pos}{g:T->T->Option T}
end
section
variable {X:Cx}{e:Expr}{pos:Pos}
end
section
variable {env:Env}{es:List Expr}
end
section
variable {X:Cx}{e:Expr}{es:List Expr}{pos:Pos}{x:Nat}{g:FA}
end
section
variable {P:Program}{w:World}{K:PySem.W.Frag}{mg:Str->Option Value}{base:Heap}
end
section
variable {K:PySem.W.Frag}{Y0 Y9 F H F' H':Hp}{σ σ':L2.St}{τ τ':aI}{x t w:Nat}{p q:Addr}{tss:List (List T)}{A:List Addr}
end
section
variable {X:Cx}{e:Expr}{pos:Pos}{x t:Nat}
end
section
variable {prog:Program}{w:World}{A:Around}{E:Value->Shared->Prop}{s:Shared}
variable {z TI TO i1 i2 l2:Addr}{k c:Nat}{u:Str}{t1:Tok}{ys:Array Value}{x y a b:Value}
end
section
variable {prog:Program}{w:World}{A:Around}{E:Value->Shared->Prop}{s:Shared}
end
section
variable {X:Cx}{e:Expr}{pos:Pos}{x:Nat}
end
section
variable {X:Cx}{e:Expr}{pos:Pos}
end
section
variable {K:PySem.W.Frag}{Y0 Y9 F H F' H':Hp}{σ:L2.St}{τ τ':aI}{A:List Addr}
end
section
variable {X:Cx}{e:Expr}{es:List Expr}{pos:Pos}{g:FA}
end
section
variable {X:Cx}{e:Expr}{pos:Pos}
def Ed:V->List V->Hp->VK->Prop:=fun x vs H Q=>∃l xs i y,x=.ref l/\vs=[.int i,y]/\H l=some (.lst xs)/\0≤i/\i.toNat≤xs.length/\xs.length<1000/\Q .non (upd H l (.lst (xs.take i.toNat++y::xs.drop i.toNat)))
theorem Aa:Kl X "list.insert" Ed:=by
 intro pins s σ H x vs v us Q I rx rv h
 obtain⟨l,xs,i,y,rfl,rfl,hH,h0,h1,h2,q⟩:=h
 cases rx
 obtain⟨u1,u2,rfl,ra,rb⟩:=Vals.two rv
 obtain⟨t,rfl⟩:=ra
 obtain⟨z,its,n,r,hl,e⟩:=I.lstM hH
 have hk:i.toNat≤its.length:=by rw [<- hl];exact h1
 have hf:¬ (!Builtin.List.listFitsIndex i)=true:=by
  unfold Builtin.List.listFitsIndex
  simp
  omega
 refine call_meets F.slot_list_insert ⟨_,e,rfl⟩ F.entry_list_insert (F.args_list_insert_3 _ _ _) (AutoSeq1.list_insert_list_int_val_1 l its.toArray n i t u2 hf (by rw [List.size_toArray];omega)) ⟨e,?_⟩
 refine⟨.non,_,I.lset (its':=its.take i.toNat++u2::its.drop i.toNat) hH e ?_ ((r.take _).append (.cons rb (r.drop _))) ?_,rfl,q⟩
 ·show (its.toArray.extract 0 _).push u2++its.toArray.extract _=_
  rw [if_neg (by omega),List.size_toArray,Nat.min_eq_left hk]
  simp
  exact List.take_of_length_le (by rw [List.length_drop];exact Nat.le_refl _)
 ·rw [List.length_append,List.length_take,List.length_cons,List.length_drop]
  have:=cY (n:=xs.length+1) (by omega)
  omega
def A7 (i:Nat)(f g:FE):FS:=fun τ=>match τ[i]? with
 |some (some (.own _))=>(f τ).bind fun p=>(g p.2).bind fun q=>match q.2[i]?,p.1 with
  |some (some (.own us)),.int k=>if 0≤k/\k.toNat≤us.length/\us.length<1000 then some (.nx (q.2.set i (some (.own (us.take k.toNat++q.1::us.drop k.toNat))))) else none
  |_,_=>none
 |_=>none
theorem Aw (i:Nat){x:Str}{e2:Expr}{p1 p2 p3:Pos}{f g:FE}(hv:PE X (.Name x p1) (jn i))(he:SE X e f)(he2:SE X e2 g)
  (hbase:attributeBase (.Name x p1) "insert" X.env (eval (.Name x p1) X.env)=eval (.Name x p1) X.env:=by rfl)
  (hfew:((backTo p3 (starEach [e,e2] X.env)).all (fun x=>!x.1)&&(backToKw p3 (keywordEach [] X.env)).all (fun x=>x.1.isSome)&&decide ([e,e2].length+([]:List Keyword).length+(if ([]:List Keyword).isEmpty then 0 else 1)<30))=true:=by rfl)
  (hline:(p2.endLine == p3.line)=true:=by rfl) (hs:starEach [e,e2] X.env=(false,eval e X.env)::starEach [e2] X.env:=by rfl) (hs2:starEach [e2] X.env=(false,eval e2 X.env)::starEach [] X.env:=by rfl) (hpl:(backTo p3 (starEach [e2] X.env)).any (·.1)=false:=by rfl)
  (hsw:swapsWith (.Call (.Attribute (.Name x p1) "insert" p2) [e,e2] [] p3) none pos.line X.env=pure false:=by rfl):
  SS X (.Expr (.Call (.Attribute (.Name x p1) "insert" p2) [e,e2] [] p3) pos) (A7 i f g):=fun Y0 Y9 =>
 PS.weak (lH (qG PySem.F.plainAttrs_list PySem.F.slot_list_insert PySem.F.type_list_insert Aa hv (eJ (he Y0 Y9) (eJ (he2 Y0 Y9) fX hs2) hs) hbase hfew hline hs hpl) hsw) fun D σ H hq__=>by
  obtain⟨F,τ,r,E,e1,q⟩:=hq__
  unfold A7 at e1
  split at e1
  ·next us0 e3 =>
   obtain⟨⟨y,τ1⟩,e2,e1⟩:=bind_some e1
   obtain⟨⟨y2,τ2⟩,e4,e1⟩:=bind_some e1
   dsimp only at e1
   split at e1
   ·next us k e5 _ =>
    split at e1
    ·next hk =>
     cases e1
     obtain⟨v,g1,p,vs,rfl,g2,g3,g4,g5⟩:=E.sl i _ e3
     refine⟨_,g1,.inl ⟨rfl,vs,fq.of g2⟩,F,τ,_,τ1,E,e2,fun F1 H1 w1 E1 s1 r1=>⟨F1,τ1,y2,τ2,E1,e4,fun F2 H2 w2 E2 s2 r2=>?_⟩⟩
     cases r1
     obtain⟨v',k1,p',vs',rfl,k2,k3,k4,k5⟩:=E2.sl i _ e5
     rw [g1] at k1;cases k1
     refine⟨p,vs',k,w2,rfl,rfl,k2,hk.1,by rw [k5.length];exact hk.2.1,by rw [k5.length];exact hk.2.2,q F2 _ σ (E2.turnOwn e5 g1 ((k5.take _).append ⟨_,_,rfl,r2,k5.drop _⟩)) (s1.trans s2)⟩
    ·cases e1
   ·cases e1
  ·cases e1
theorem vq {i:Nat}{x:Str}{p:Pos}{es:List Expr}{t:TA}{CX:ya}{k:Nat}{f:Addr}{fd:FuncData}{ps:List Str}{sp:Sp}{ds:List Value}{dvs:List V}{E:XK}
  (hv:PE X (.Name x p) (jn i)) (F:gz X.prog X.w X.K X.mg X.base CX k f fd ps sp) (hr:dG k X.A) (hk:PySem.W.keepIn X.K (.ref f)=true) (hb:Binds X.K fd ps ds) (hd:Vals dvs ds) (hx:Passes CX X E)
  (ha:PA X (e::es) t) (he:starEach (e::es) X.env=(false,eval e X.env)::starEach es X.env:=by rfl) (hpl:(backTo pos (starEach es X.env)).any (·.1)=false:=by rfl):
  PE X (.Call (.Name x p) (e::es) [] pos) (fun σ H Q=>σ[i]? = some (some (.ref f))/\Ck sp dvs E t σ H Q):=by
 intro pins s σ H Q I ⟨hσ,h⟩
 refine wpAny_Call_Name_kw (dB (hv pins s σ H (fun v H1=>v=.ref f/\Ck sp dvs E t σ H1 Q) I ⟨_,hσ,rfl,h⟩) fun u s1 ⟨y,H1,I1,rx,ey,q⟩=>?_)
 subst ey
 obtain rfl:u=Value.ref f:=rx
 refine PySem.W.callWith_K (h₀:=X.base) I1.ok.mod.kin hk (dB (ha pos pins s1 σ H1 _ I1 q) fun us s2 ⟨vs,H2,I2,r,q⟩=>⟨I2.kIn,?_⟩) he hpl
 exact xp F hr hb hd hx I2 r q
end
def nl (F:Hp):Hp:=fun a=>match F a with
 |some (.lst _)=>none
 |o=>o
theorem nI {F:Hp}{a:Addr}{o:HO}(h:nl F a=some o):F a=some o/\∀xs,o≠.lst xs:=by
 unfold nl at h
 split at h
 ·cases h
 ·next hn=>exact⟨h,fun xs z=>hn xs (by rw [h,z])⟩
theorem JI {F:Hp}{a:Addr}{o:HO}(h:F a=some o)(hn:∀xs,o≠.lst xs):nl F a=some o:=by
 unfold nl
 split
 ·next xs e=>rw [h] at e;cases e;exact absurd rfl (hn xs)
 ·exact h
theorem DN (F:Hp):aW (nl F) F:=fun _ _ e=>(nI e).1
def NB (K:PySem.W.Frag)(H:Hp):Prop:=∀a xs ys,H a=some (.lst xs)->¬ kQ K H a ys
theorem JG {X:Cx}{pins:List (Addr×Obj)}{σ:L2.St}{H:Hp}{s:Shared}(I:Inv X pins σ H s):NB X.K H:=fun a xs ys h h'=>by
 obtain⟨_,its,n,_,_,e⟩:=I.lstM h
 obtain⟨its',_,⟨o,e',hc,_⟩,_⟩:=I.tuple h'
 rw [e] at e'
 cases e'
 simp at hc
theorem JS {X:Cx}{e:Expr}{T:TE}(h:PE X e T):PE X e (fun σ H Q=>T σ H fun v H'=>NB X.K H'->Q v H'):=fun pins s σ H Q I hh=>dB (h pins s σ H _ I hh) fun u s1 ⟨v,H',I',r,q⟩=>⟨v,H',I',r,q (JG I')⟩
def lb (f:Addr):List (Addr×(List T->Option T))->Option (List T->Option T)
 |[]=>none
 |z::l=>if z.1=f then some z.2 else lb f l
theorem lX {f:Addr}{d:List T->Option T}:∀{l:List (Addr×(List T->Option T))},lb f l=some d->(f,d)∈l
 |[],h=>by cases h
 |z::l,h=>by
  unfold lb at h
  split at h
  ·next e=>cases h;rw [<- e];exact List.mem_cons_self
  ·exact List.mem_cons_of_mem _ (lX h)
section
variable {X:Cx}{e:Expr}{pos:Pos}
def vP (X:Cx)(k n:Nat)(tbl:List (Addr×(List T->Option T))):Prop:=∀z∈tbl,∃y,Def X.prog X.w X.K X.mg X.base k y n z.2/\X.mg y=some (.ref z.1)
theorem vP.two {k n:Nat}{a b:Addr}{d1 d2:List T->Option T}{y1 y2:Str}(h1:Def X.prog X.w X.K X.mg X.base k y1 n d1)(m1:X.mg y1=some (.ref a))(h2:Def X.prog X.w X.K X.mg X.base k y2 n d2)(m2:X.mg y2=some (.ref b)):vP X k n [(a,d1),(b,d2)]:=fun z hz=>by
 rcases List.mem_cons.mp hz with rfl | hz
 ·exact⟨y1,h1,m1⟩
 ·rw [List.mem_singleton.mp hz];exact⟨y2,h2,m2⟩
def nZ (i:Nat)(tbl:List (Addr×(List T->Option T)))(g:FA):FE:=fun τ=>match τ[i]? with
 |some (some (.sh (.ptr f)))=>(lb f tbl).bind fun d=>aq d g τ
 |_=>none
variable {k n i:Nat}{x:Str}{p:Pos}{es:List Expr}{g:FA}{tbl:List (Addr×(List T->Option T))}
theorem Cb (hD:vP X k n tbl)(hr:dG k X.A)(hv:PE X (.Name x p) (jn i))(ha:SA X (e::es) g)(hl:∀τ ts τ',g τ=some (ts,τ')->ts.length=n)
  (he:starEach (e::es) X.env=(false,eval e X.env)::starEach es X.env:=by rfl) (hpl:(backTo pos (starEach es X.env)).any (·.1)=false:=by rfl):SE X (.Call (.Name x p) (e::es) [] pos) (nZ i tbl g):=by
 intro Y0 Y9 pins s σ H Q I h
 obtain⟨F,τ,o,τ',E,e1,q⟩:=h
 unfold nZ at e1
 split at e1
 ·next f e0 =>
  obtain⟨d,ed,e5⟩:=bind_some e1
  obtain⟨y,D,hy⟩:=hD _ (lX ed)
  obtain⟨f',fd,ps,Fk,hb,hk,hm,hn⟩:=D.ex
  have:f'=f:=by
   rw [hy] at hm
   injection hm with hm
   injection hm with hm
   exact hm.symm
  subst this
  obtain⟨v,g1,g2⟩:=E.sl i _ e0
  obtain rfl:v=.ref f':=g2
  refine vq (E:=E0) (CX:=pG) hv Fk hr hk hb .nil vp (ha Y0 Y9) he hpl pins s σ H Q I ⟨g1,?_⟩
  obtain⟨⟨z,τ1⟩,e2,e6⟩:=bind_some e5
  have hz:=hl _ _ _ e2
  obtain⟨u,e4,e7⟩:=bind_some e6
  cases e7
  exact⟨F,τ,z,_,E,e2,fun F1 H1 vs E1 s1 r1=>⟨by rw [List.append_nil,r1.length];exact hz,F1,z,o,E1.g.fh,by rw [List.append_nil];exact r1,e4,fun F3 H3 v3 g3 r3=>q F3 H3 v3 (E1.grow g3) (s1.trans g3.sF) r3⟩⟩
 ·cases e1
theorem BR (hD:vP X k n tbl)(hr:dG k X.A)(hv:PE X (.Name x p) (jn i))(ha:SA X (e::es) g)(hl:∀τ ts τ',g τ=some (ts,τ')->ts.length=n)
  (he:starEach (e::es) X.env=(false,eval e X.env)::starEach es X.env:=by rfl) (hpl:(backTo pos (starEach es X.env)).any (·.1)=false:=by rfl):PE X (.Call (.Name x p) (e::es) [] pos)
  (fun σ H Q=>∃Y0 Y9 F τ f d ts τ1 t,aL X.K Y0 Y9 F H σ τ/\τ[i]? = some (some (.sh (.ptr f)))/\lb f tbl=some d/\g τ=some (ts,τ1)/\ff ts=true/\d ts=some t /\
   ∀F1 H1 F2 H2 v,aL X.K Y0 Y9 F1 H1 σ τ1->aW F F1->bB (nl F1) H1 F2 H2->Rep X.K F2 t v->NB X.K H2->Q v H2):=by
 intro pins s σ H Q I h
 obtain⟨Y0,Y9,F,τ,f,d,ts,τ1,t,E,e0,ed,e2,hno,e4,q⟩:=h
 obtain⟨y,D,hy⟩:=hD _ (lX ed)
 obtain⟨f',fd,ps,Fk,hb,hk,hm,hn⟩:=D.ex
 have:f'=f:=by
  rw [hy] at hm
  injection hm with hm
  injection hm with hm
  exact hm.symm
 subst this
 obtain⟨v,g1,g2⟩:=E.sl i _ e0
 obtain rfl:v=.ref f':=g2
 have hz:=hl _ _ _ e2
 exact JS (vq (E:=E0) (CX:=pG) hv Fk hr hk hb .nil vp (ha Y0 Y9) he hpl) pins s σ H Q I ⟨g1,F,τ,ts,τ1,E,e2,fun F1 H1 vs E1 s1 r1=>⟨by rw [List.append_nil,r1.length];exact hz,nl F1,ts,t,(DN F1).trans E1.g.fh,by rw [List.append_nil];exact gJ (fun a o ea hn=>JI ea hn) hno r1,e4,fun F3 H3 v3 g3 r3 nb=>q F1 H1 F3 H3 v3 E1 s1 g3 r3 nb⟩⟩
end
def Dy:T->Bool
 | .tup _=>true
 |_=>false
def kC:T->Bool
 | .lst ts=>ts.all Dy&&decide (ts.length≤100)
 |_=>false
def tabS:T->Bool
 | .lst rs=>rs.all kC&&decide (rs.length≤100)
 |_=>false
section
variable {K:PySem.W.Frag}{Y0 Y9 F H:Hp}{σ:L2.St}{τ:aI}{A:List Addr}{x:Nat}{t:T}{v:V}
theorem zk:∀{rs:List T} {vs:List V},rs.all kC=true->aX K F rs vs->∃qs:List Addr,vs=qs.map V.ref/\∀q∈qs,∃ws ts,F q=some (.lst ws)/\ws.length≤100/\ts.all Dy=true/\aX K F ts ws
 |[],vs,_,h=>by cases h;exact⟨[],rfl,fun _ h=>by cases h⟩
 | .lst ts::rs,vs,e,h=>by
  rw [List.all_cons,Bool.and_eq_true] at e
  obtain⟨v,r,rfl,⟨q,ws,rfl,h1,h2⟩,h3⟩:=h
  obtain⟨qs,rfl,h4⟩:=zk e.2 h3
  have e1:=e.1
  simp only [kC,Bool.and_eq_true,decide_eq_true_eq] at e1
  refine⟨q::qs,rfl,fun z hz=>?_⟩
  rcases List.mem_cons.mp hz with rfl | hz
  ·exact⟨ws,ts,h1,by rw [h2.length];exact e1.2,e1.1,h2⟩
  ·exact h4 z hz
 | .non::rs,vs,e,h=>by simp [kC] at e
 | .bl _::rs,vs,e,h=>by simp [kC] at e
 | .int _::rs,vs,e,h=>by simp [kC] at e
 | .str _::rs,vs,e,h=>by simp [kC] at e
 | .ty _::rs,vs,e,h=>by simp [kC] at e
 | .tup _::rs,vs,e,h=>by simp [kC] at e
 | .scr _::rs,vs,e,h=>by simp [kC] at e
 | .dic::rs,vs,e,h=>by simp [kC] at e
 | .obj _ _ _::rs,vs,e,h=>by simp [kC] at e
 | .ptr _::rs,vs,e,h=>by simp [kC] at e
 | .exc _ _ _::rs,vs,e,h=>by simp [kC] at e
theorem GQ (E:aL K Y0 Y9 F H σ τ)(hF:∀a∈A,F a=none)(rp:Rep K (frzO F H A) t v)(hv:σ[x]? = some (some v)):aL K (frzO F H A) H (frzO F H A) H σ ((hide τ).set x (some (.sh t))):=by
 have sF:aW F (frzO F H A):=eQ hF
 have sH:aW (frzO F H A) H:=fun b u eb=>by
  by_cases m:b∈A
  ·rw [lh m] at eb;exact eb
  ·rw [eY m] at eb;exact E.g.fh b u eb
 have all:∀{j:Nat} {s:Sl},((hide τ).set x (some (.sh t)))[j]? = some (some s)->(∃t,s=.sh t)/\∃v,σ[j]? = some (some v)/\vS K H (frzO F H A) H s v:=fun {j s} e=>by
  by_cases hj:x=j
  ·subst hj
   by_cases hl:x<(hide τ).length
   ·rw [List.getElem?_set_self hl] at e;cases e
    exact⟨⟨_,rfl⟩,_,hv,rp⟩
   ·rw [List.getElem?_eq_none (by simp;omega)] at e;cases e
  ·rw [List.getElem?_set_ne hj] at e
   obtain⟨e1,t,rfl⟩:=jD e
   obtain⟨w,k1,k2⟩:=E.sl j _ e1
   exact⟨⟨t,rfl⟩,w,k1,Rep.mono sF k2⟩
 refine⟨bB.refl sH,by simp [dM,E.len],fun j s e=>(all e).2,fun j k ts ws p _ e1=>?_⟩
 obtain⟨t,z⟩:=(all e1).1
 cases z
end
section
variable {X:Cx}{e:Expr}{pos:Pos}
theorem tB {x r:Nat}{xn rn:Str}{j1 j2 k7:Nat}{p1 p2 p3 p4 p5 p6 p7 p8 p9:Pos}(hp:PassesOwn (model X.prog X.w) X.A X.env X.xe)(hc:X.calm=true)(hg:PG X (.Name rn p1) (yC r))(hx:PE X (.Name xn p2) (jn x))(hr:PE X (.Name rn p3) (jn r))
  (hbase:attributeBase (.Name rn p3) "append" X.env (eval (.Name rn p3) X.env)=eval (.Name rn p3) X.env:=by rfl)
  (hfew:((backTo p8 (starEach [.Tuple [.Constant (.int 1) j1 p5,.Constant (.int 1) j2 p6] k7 p7] X.env)).all (fun x=>!x.1)&&(backToKw p8 (keywordEach [] X.env)).all (fun x=>x.1.isSome)&&decide ([Expr.Tuple [.Constant (.int 1) j1 p5,.Constant (.int 1) j2 p6] k7 p7].length+([]:List Keyword).length+(if ([]:List Keyword).isEmpty then 0 else 1)<30))=true:=by rfl)
  (hline:(p4.endLine == p8.line)=true:=by rfl) (hst:starEach [.Tuple [.Constant (.int 1) j1 p5,.Constant (.int 1) j2 p6] k7 p7] X.env=(false,eval (.Tuple [.Constant (.int 1) j1 p5,.Constant (.int 1) j2 p6] k7 p7) X.env)::starEach [] X.env:=by rfl) (hpl:(backTo p8 (starEach [] X.env)).any (·.1)=false:=by rfl)
  (hsw:swapsWith (.Call (.Attribute (.Name rn p3) "append" p4) [.Tuple [.Constant (.int 1) j1 p5,.Constant (.int 1) j2 p6] k7 p7] [] p8) none p9.line X.env=pure false:=by rfl)
  (hsa:starEach [.Constant (.int 1) j1 p5,.Constant (.int 1) j2 p6] X.env=(false,eval (.Constant (.int 1) j1 p5) X.env)::starEach [.Constant (.int 1) j2 p6] X.env:=by rfl) (hsb:starEach [.Constant (.int 1) j2 p6] X.env=(false,eval (.Constant (.int 1) j2 p6) X.env)::starEach [] X.env:=by rfl)
  (hs:∀x,foldedSetIterable (.Name xn p2) X.env x=pure x:=by intro _;rfl):
  PS X (.For (.Name rn p1) (.Name xn p2) [.Expr (.Call (.Attribute (.Name rn p3) "append" p4) [.Tuple [.Constant (.int 1) j1 p5,.Constant (.int 1) j2 p6] k7 p7] [] p8) p9] [] pos)
   (fun D σ H=>∃(Y0 Y9 F:Hp) (τ:aI) (A:List Addr) (p:Addr) (qs:List Addr),vQ X.K Y0 Y9 F H σ τ A/\τ[r]? = some none/\σ[x]? = some (some (.ref p))/\H p=some (.lst (qs.map V.ref))/\qs.length≤100/\(∀q∈qs,q∈A/\q≠p/\∃ws,H q=some (.lst ws)/\ws.length≤100) /\
    ∀H' σ',vQ X.K Y0 Y9 F H' σ' τ A->H' p=some (.lst (qs.map V.ref))->(∀j,j≠r->σ'[j]? = σ[j]?)->D.nx σ' H'):=
 PS.weak (BY hp hc (yY hx) hg (tF (lH (qG PySem.F.plainAttrs_list PySem.F.slot_list_append PySem.F.type_list_append jV hr (eJ (BV (eJ xm (eJ xm fX hsb) hsa)) fX hst) hbase hfew hline hst hpl) hsw)) hs) fun D σ H h=>by
  obtain⟨Y0,Y9,F,τ,A,p,qs,L,hτ,hσ,hq,h100,hrow,k⟩:=h
  refine⟨.ref p,hσ,p,rfl,⟨_,fq.of hq⟩,fun i m σ1 H1=>m=qs.length-i/\i≤qs.length/\vQ X.K Y0 Y9 F H1 σ1 τ A/\H1 p=some (.lst (qs.map V.ref))/\(∀q∈qs,q∈A/\q≠p/\∃ws,H1 q=some (.lst ws)/\ws.length≤100+i)/\∀j,j≠r->σ1[j]? = σ[j]?,⟨_,rfl,Nat.zero_le _,L,hq,hrow,fun _ _=>rfl⟩,?_⟩
  rintro i m σ1 H1 ⟨rfl,hi,L1,hq1,hr1,hj⟩
  by_cases hlt:i<qs.length
  ·have gi:(qs.map V.ref)[i]? = some (.ref qs[i]):=by rw [List.getElem?_map,List.getElem?_eq_getElem hlt];rfl
   refine .inr ⟨⟨_,_,fq.of hq1,gi⟩,fun σ' H'=>vQ X.K Y0 Y9 F H' σ' τ A/\H' p=some (.lst (qs.map V.ref))/\(∀q∈qs,q∈A/\q≠p/\∃ws,H' q=some (.lst ws)/\ws.length≤100+(i+1))/\∀j,j≠r->σ'[j]? = σ[j]?,fun σ' H' n=>⟨_,by omega,rfl,hlt,n⟩,fun v H2 z=>?_⟩
   obtain⟨rfl,y⟩:=z
   have hv:=y _ (fq.of hq1)
   rw [gi] at hv
   cases hv
   obtain⟨hA,hne,ws,hw,hwl⟩:=hr1 qs[i] (List.getElem_mem hlt)
   have L2':=L1.setv (v:=.ref qs[i]) hτ
   have hrl:r<σ1.length:=by
    rw [L1.E.len]
    exact (List.getElem?_eq_some_iff.mp hτ).1
   have g1:(σ1.set r (some (.ref qs[i])))[r]? = some (some (.ref qs[i])):=List.getElem?_set_self hrl
   refine⟨.ref qs[i],g1,.inl ⟨rfl,ws,fq.of hw⟩,bZ (by simp),fun l hl0=>?_⟩
   have ne:∀{a:Addr} {o:HO},H2 a=some o->a≠l:=fun {a o} ha z=>by rw [z,hl0] at ha;cases ha
   refine⟨qs[i],ws,.ref l,rfl,rfl,by rw [aP (ne hw)];exact hw,cY (by omega),(L2'.new hl0 _).upd hA _,?_,fun q hq'=>?_,fun j nj=>?_⟩
   ·rw [aP (Ne.symm hne),aP (ne hq1)];exact hq1
   ·obtain⟨b1,b2,us,b3,b4⟩:=hr1 q hq'
    refine⟨b1,b2,?_⟩
    by_cases hqi:q=qs[i]
    ·rw [hqi,bo]
     exact⟨_,rfl,by rw [List.length_append];simp;omega⟩
    ·rw [aP hqi,aP (ne b3)]
     exact⟨us,b3,by omega⟩
   ·rw [List.getElem?_set_ne (Ne.symm nj)];exact hj j nj
  ·exact .inl ⟨⟨_,fq.of hq1,by rw [List.length_map];omega⟩,k H1 σ1 L1 hq1 hj⟩
def nC (x r i:Nat)(tbl:List (Addr×(List T->Option T)))(g:FA)(tc:FT)(u:FS):FS:=fun τ=>match τ[i]? with
 |some (some (.sh (.ptr f)))=>(lb f tbl).bind fun d=>(g τ).bind fun a=>if ff a.1=true/\Dx x a.2=true/\Dx r a.2=true then (d a.1).bind fun t=>if tabS t=true then
   (tc ((hide a.2).set x (some (.sh t)))).bind fun q=>if q.1=true then some (.rt (.bl false)) else u a.2 else none else none
 |_=>none
theorem xJ {x r i k n:Nat}{xn rn cn:Str}{es:List Expr}{c:Expr}{body rest:List Stmt}{g:FA}{tbl:List (Addr×(List T->Option T))}{tc:FT}{u:FS}{j1 j2 k7:Nat}{a1 a2 a3 a4 a5 p1 p2 p3 p4 p5 p6 p7 p8 p9 b1 b2 b3 b4 b5:Pos}
  (hD:vP X k n tbl) (hro:dG k X.A) (hv:PE X (.Name cn a4) (jn i)) (ha:SA X (e::es) g) (hl:∀τ ts τ',g τ=some (ts,τ')->ts.length=n)
  (hN:X.N.Nodup) (hi:X.N[x]? = some xn) (hlx:Loc X.env.scope xn) (hT:ST X c tc) (hb:ui X body (bE (fC (.bl false)))) (hrest:ui X rest u)
  (hp:PassesOwn (model X.prog X.w) X.A X.env X.xe) (hc:X.calm=true) (hg:PG X (.Name rn p1) (yC r)) (hx:PE X (.Name xn p2) (jn x)) (hr:PE X (.Name rn p3) (jn r)) (hx':PE X (.Name xn b1) (jn x)) (hxr:x≠r)
  (he:starEach (e::es) X.env=(false,eval e X.env)::starEach es X.env:=by rfl) (hpl0:(backTo a5 (starEach es X.env)).any (·.1)=false:=by rfl)
  (hse:swapsWith (.Call (.Name cn a4) (e::es) [] a5) (some (.Name xn a1)) a2.line X.env=pure false:=by rfl) (hf:X.fn xn=true\/X.env.scope.names.lookup xn=some .local:=by first | exact .inl rfl | exact .inr rfl | assumption)
  (hbase:attributeBase (.Name rn p3) "append" X.env (eval (.Name rn p3) X.env)=eval (.Name rn p3) X.env:=by rfl)
  (hfew:((backTo p8 (starEach [.Tuple [.Constant (.int 1) j1 p5,.Constant (.int 1) j2 p6] k7 p7] X.env)).all (fun x=>!x.1)&&(backToKw p8 (keywordEach [] X.env)).all (fun x=>x.1.isSome)&&decide ([Expr.Tuple [.Constant (.int 1) j1 p5,.Constant (.int 1) j2 p6] k7 p7].length+([]:List Keyword).length+(if ([]:List Keyword).isEmpty then 0 else 1)<30))=true:=by rfl)
  (hline:(p4.endLine == p8.line)=true:=by rfl) (hst:starEach [.Tuple [.Constant (.int 1) j1 p5,.Constant (.int 1) j2 p6] k7 p7] X.env=(false,eval (.Tuple [.Constant (.int 1) j1 p5,.Constant (.int 1) j2 p6] k7 p7) X.env)::starEach [] X.env:=by rfl) (hpl:(backTo p8 (starEach [] X.env)).any (·.1)=false:=by rfl)
  (hsw:swapsWith (.Call (.Attribute (.Name rn p3) "append" p4) [.Tuple [.Constant (.int 1) j1 p5,.Constant (.int 1) j2 p6] k7 p7] [] p8) none p9.line X.env=pure false:=by rfl)
  (hsa:starEach [.Constant (.int 1) j1 p5,.Constant (.int 1) j2 p6] X.env=(false,eval (.Constant (.int 1) j1 p5) X.env)::starEach [.Constant (.int 1) j2 p6] X.env:=by rfl) (hsb:starEach [.Constant (.int 1) j2 p6] X.env=(false,eval (.Constant (.int 1) j2 p6) X.env)::starEach [] X.env:=by rfl)
  (hs:∀x,foldedSetIterable (.Name xn p2) X.env x=pure x:=by intro _;rfl)
  (hbase':attributeBase (.Name xn b1) "append" X.env (eval (.Name xn b1) X.env)=eval (.Name xn b1) X.env:=by rfl)
  (hfew':((backTo b4 (starEach [.List [] b3] X.env)).all (fun x=>!x.1)&&(backToKw b4 (keywordEach [] X.env)).all (fun x=>x.1.isSome)&&decide ([Expr.List [] b3].length+([]:List Keyword).length+(if ([]:List Keyword).isEmpty then 0 else 1)<30))=true:=by rfl)
  (hline':(b2.endLine == b4.line)=true:=by rfl) (hst':starEach [.List [] b3] X.env=(false,eval (.List [] b3) X.env)::starEach [] X.env:=by rfl) (hpl':(backTo b4 (starEach [] X.env)).any (·.1)=false:=by rfl)
  (hsw':swapsWith (.Call (.Attribute (.Name xn b1) "append" b2) [.List [] b3] [] b4) none b5.line X.env=pure false:=by rfl):
  ui X (.Assign [.Name xn a1] (.Call (.Name cn a4) (e::es) [] a5) a2::.If c body [] a3::.For (.Name rn p1) (.Name xn p2) [.Expr (.Call (.Attribute (.Name rn p3) "append" p4) [.Tuple [.Constant (.int 1) j1 p5,.Constant (.int 1) j2 p6] k7 p7] [] p8) p9] [] pos ::
   .Expr (.Call (.Attribute (.Name xn b1) "append" b2) [.List [] b3] [] b4) b5::rest) (nC x r i tbl g tc u):=fun Y0 Y9 =>
 kP.weak (fS (tx hN hi hlx (BR hD hro hv ha hl he hpl0) hse hf) (fS (Fq hT.any' hb.any tD) (fS (tB (pos:=pos) hp hc hg hx hr hbase hfew hline hst hpl hsw hsa hsb hs)
  (fS (lH (qG PySem.F.plainAttrs_list PySem.F.slot_list_append PySem.F.type_list_append jV hx' (eJ (oJ fX) fX hst') hbase' hfew' hline' hst' hpl') hsw') (hrest Y0 Y9))))) fun D σ H hq__=>by
  obtain⟨F,τ,rr,E,e1,q⟩:=hq__
  unfold nC at e1
  split at e1
  ·next f e0 =>
   obtain⟨d,ed,e2⟩:=bind_some e1
   obtain⟨⟨ts,τ1⟩,e3,e4⟩:=bind_some e2
   dsimp only at e4
   split at e4
   ·next hh =>
    obtain⟨hno,hx0,hr0⟩:=hh
    obtain⟨t,e5,e6⟩:=bind_some e4
    split at e6
    ·next hts =>
     obtain⟨⟨c0,τ3⟩,e7,e8⟩:=bind_some e6
     have hx1:=yE hx0
     have hr1:=yE hr0
     refine⟨Y0,Y9,F,τ,f,d,ts,τ1,t,E,e0,ed,e3,hno,e5,fun F1 H1 F2 H2 v E1 s1 gg rt nb=>?_⟩
     cases t with
     |lst rs =>
      simp only [tabS,Bool.and_eq_true,decide_eq_true_eq] at hts
      obtain⟨p,vs,rfl,fp,rvs⟩:=id rt
      obtain⟨qs,rfl,hqs⟩:=zk hts.1 rvs
      have hql:qs.length≤100:=by
       have:=rvs.length
       rw [List.length_map] at this
       rw [this];exact hts.2
      have fresh:∀{a:Addr} {xs:List V},F2 a=some (.lst xs)->H1 a=none:=fun {a xs} ea=>by
       rcases gg.nw a _ ea with z | z
       ·exact absurd rfl ((nI z).2 xs)
       ·exact z
      have mA:∀a∈p::qs,∃xs,F2 a=some (.lst xs):=fun a ha=>by
       rcases List.mem_cons.mp ha with rfl | ha
       ·exact⟨_,fp⟩
       ·obtain⟨ws,_,hw,_⟩:=hqs a ha
        exact⟨ws,hw⟩
      have fA:∀a∈p::qs,H1 a=none:=fun a ha=>by
       obtain⟨xs,hxs⟩:=mA a ha
       exact fresh hxs
      generalize hFg:(fun a=>match F1 a with | some o=>some o | none=>if a∈p::qs then none else F2 a:Hp)=F3
      have f3a:∀{a o},F1 a=some o->F3 a=some o:=fun {a o} ea=>by rw [<- hFg];show (match F1 a with | some o=>some o | none=>_)=_;rw [ea]
      have f3b:∀{a},F1 a=none->a∈p::qs->F3 a=none:=fun {a} ea m=>by rw [<- hFg];show (match F1 a with | some o=>some o | none=>_)=_;rw [ea];exact if_pos m
      have f3c:∀{a},F1 a=none->a∉p::qs->F3 a=F2 a:=fun {a} ea m=>by rw [<- hFg];show (match F1 a with | some o=>some o | none=>_)=_;rw [ea];exact if_neg m
      have gr:bB F1 H1 F3 H2:=by
       refine⟨fun a o ea=>f3a ea,gg.sH,fun a o ea=>?_,fun a o ea=>?_⟩
       ·cases e1a:F1 a with
        |some o'=>rw [f3a e1a] at ea;cases ea;exact gg.sH _ _ (E1.g.fh _ _ e1a)
        |none =>
         by_cases m:a∈p::qs
         ·rw [f3b e1a m] at ea;cases ea
         ·rw [f3c e1a m] at ea;exact gg.fh _ _ ea
       ·cases e1a:F1 a with
        |some o'=>rw [f3a e1a] at ea;cases ea;exact .inl rfl
        |none =>
         by_cases m:a∈p::qs
         ·rw [f3b e1a m] at ea;cases ea
         ·rw [f3c e1a m] at ea
          rcases gg.nw a o ea with z | z
          ·have:=(nI z).1;rw [e1a] at this;cases this
          ·exact .inr z
      have hF3:∀a∈p::qs,F3 a=none:=fun a ha=>f3b (E1.g.fh.free (fA a ha)) ha
      have L0:vQ X.K Y0 Y9 F3 H2 σ τ1 (p::qs):=⟨E1.grow gr,fun a ha=>⟨hF3 a ha,by obtain⟨xs,hxs⟩:=mA a ha;exact⟨xs,gg.fh _ _ hxs⟩⟩,fun a ha=>E1.g.sH.free (fA a ha),AR E1 fA⟩
      have L1:=L0.setv (v:=.ref p) hx1
      have hxl:x<σ.length:=by
       rw [E1.len]
       exact (List.getElem?_eq_some_iff.mp hx1).1
      have hσx:(σ.set x (some (.ref p)))[x]? = some (some (.ref p)):=List.getElem?_set_self hxl
      have rp:Rep X.K (frzO F3 H2 (p::qs)) (.lst rs) (.ref p):=Rep.mono (fun a o ea=>by
       by_cases m:a∈p::qs
       ·rw [lh m];exact gg.fh _ _ ea
       ·rw [eY m]
        cases e1a:F1 a with
        |none=>rw [f3c e1a m];exact ea
        |some o' =>
         rw [f3a e1a]
         rcases gg.nw a o ea with z | z
         ·have:=(nI z).1;rw [e1a] at this;exact this
         ·rw [E1.g.fh _ _ e1a] at z;cases z) rt
      refine⟨_,_,_,_,c0,τ3,GQ L1.E hF3 rp hσx,e7,fun F4 H4 E4 s4=>?_⟩
      have g':=wC hF3 E4.g
      have L2':vQ X.K Y0 Y9 (kq F4 (p::qs)) H4 (σ.set x (some (.ref p))) τ1 (p::qs):=⟨L1.E.grow g',fun a ha=>⟨hZ ha,by obtain⟨ws,hw⟩:=(L1.lies a ha).2;exact⟨ws,E4.g.sH _ _ hw⟩⟩,L1.h0,L1.ap⟩
      dsimp only at e8
      dsimp only
      split at e8
      ·next hc0 =>
       cases e8
       rw [if_pos hc0]
       exact⟨Y0,Y9,_,_,_,L2'.E,rfl,q⟩
      ·next hc0 =>
       rw [if_neg hc0]
       have hp4:H4 p=some (.lst (qs.map V.ref)):=E4.g.sH _ _ (gg.fh _ _ fp)
       refine⟨Y0,Y9,_,τ1,p::qs,p,qs,L2',hr1,hσx,hp4,hql,fun a ha=>⟨List.mem_cons_of_mem _ ha,fun z=>?_,?_⟩,fun H5 σ5 L5 hp5 hj5=>?_⟩
       ·obtain⟨ws,us,hw,_,hfl,hus⟩:=hqs a ha
        rw [z,fp] at hw
        cases hw
        cases qs with
        |nil=>cases ha
        |cons q0 qs =>
         cases us with
         |nil=>cases hus
         |cons u us =>
          obtain⟨w0,r0,ew,hu,_⟩:=hus
          cases ew
          obtain⟨ws0,_,hw0,_⟩:=hqs q0 List.mem_cons_self
          have hfu:Dy u=true:=by
           rw [List.all_cons,Bool.and_eq_true] at hfl
           exact hfl.1
          have nb2:=nb q0 ws0
          cases u with
          |tup us2 =>
           obtain⟨b,xs,eb,hsq,_⟩:=hu
           cases eb
           exact nb2 xs (gg.fh _ _ hw0) (cm gg.fh hsq)
          |_=>simp [Dy] at hfu
       ·obtain⟨ws,_,hw,hwl,_⟩:=hqs a ha
        exact⟨ws,E4.g.sH _ _ (gg.fh _ _ hw),hwl⟩
       ·have hσ5:σ5[x]? = some (some (.ref p)):=by rw [hj5 x hxr];exact hσx
        refine⟨.ref p,hσ5,.inl ⟨rfl,_,fq.of hp5⟩,Nat.zero_le _,fun l hl0=>?_⟩
        have pl:p≠l:=fun e=>by rw [e,hl0] at hp5;cases hp5
        refine⟨p,_,.ref l,rfl,rfl,by rw [aP pl];exact hp5,cY (by rw [List.length_map];omega),?_⟩
        exact⟨_,_,rr,((L5.new hl0 _).upd List.mem_cons_self _).E,e8,q.mono ((s1.trans gr.sF).trans g'.sF)⟩
     |_=>simp [tabS] at hts
    ·cases e6
   ·cases e4
  ·cases e1
end
end TM
set_option maxHeartbeats 4000000
namespace My
open PySem PySem.Spec PyProof.Rows L2 TM
variable {K:PySem.W.Frag}
abbrev ah (t:T):Option Sl:=some (.sh t)
abbrev aH (n:Nat):T:=.int n
abbrev bg (i:Nat):FA:=af (ag i) aE
abbrev aZ (i:Int):FE:=fC (.int i)
def top (i:Nat):Stmt:=PySem.Challenge.pw_echohouse_k51_reach_and_tell_tables.main.body.getD i (.Pass ⟨0,0,0,0⟩)
section
variable {P:Program}{w:World}{K:PySem.W.Frag}{mg:Str->Option Value}{base:Heap}{k:Nat}{f:Addr}{fd:FuncData}
abbrev oO:Stmt:=top 9
def nP (n:Nat)(q0:List T->Option T):FS:=
  (aR (wu 0 1 (af (aq zL (bg 0)) (af (aq zL (bg 1)) aE)))
  (aR (gc (fG (aN Bf (n9 ia (ag 1)) (aZ 4000))) (aR (wu 0 1 (af (ag 1) (af (aN cQ (ag 0) (ag 1)) aE)))
  (cT (fG (aN Bf (n9 ia (ag 1)) (aZ 4000))) (iJ (aq q0 (af (ag 0) (bg 1))) (bF (av (ai 0) (av (ai 1) (av (ai 2) bq))))) cC)) n)
  (aR (gc (fG (aN nF (ag 1) (aZ 0))) (wu 0 1 (af (ag 1) (af (aN cQ (ag 0) (ag 1)) aE))) n)
  (bE (ag 0)))))
theorem fK:aO ["one","other","factors"] ["one","other"] (ay oO):=by walk_at "sc"
theorem Ac (n:Nat)(F:eR K "common" "common" oO f fd)(hb:Binds K fd ["one","other"] [])(hm:mg "common" = some (.ref f))(q1:Def P w K mg base k "half" 2 q0)(q2:mg "abs" = none)(q3:mg "SHORT" = some (.int 4000 q4)):
  Def P w K mg base (k+1) "common" 2 (cI 3 2 (nP n q0)):=
 bp F fK hb hm fun cdv A outer s H E hr=>(au (xI rfl fK.nd rfl rfl (by decide) rfl rfl (ae (aS AY rfl q2 rfl (ae (aa 0 (pv 0)) ar)) (ae (aS AY rfl q2 rfl (ae (aa 1 (pv 1)) ar)) ar)) rfl)
  (au (vD n PassesOwn.never (du yS (jk (aa 1 (pv 1))) (gQ rfl q3) (cK _)) (au (xI rfl fK.nd rfl rfl (by decide) rfl rfl (ae (aa 1 (pv 1)) (ae (aT eh (aa 0 (pv 0)) (aa 1 (pv 1))) ar)) rfl)
  (aB (fm (du yS (jk (aa 1 (pv 1))) (gQ rfl q3) (cK _)) (aB (jm (aF q1 hr rfl (ae (aa 0 (pv 0)) (ae (aa 1 (pv 1)) ar)) (ak (ak aD))) (cX rfl (aG (ax 0 fK.nd rfl (Or.inl rfl)) (aG (ax 1 fK.nd rfl (Or.inl rfl)) (aG (ax 2 fK.nd rfl (Or.inl rfl)) bY))) (aM (aM (aM cU)))))) cN))))
  (au (vD n PassesOwn.never (du (qF hr.units) (aa 1 (pv 1)) aA (cK _)) (aB (xI rfl fK.nd rfl rfl (by decide) rfl rfl (ae (aa 1 (pv 1)) (ae (aT eh (aa 0 (pv 0)) (aa 1 (pv 1))) ar)) rfl)))
  (aB (aY (aa 0 (pv 0)))))))
abbrev Ho:Stmt:=top 10
theorem sS:(["number","by"]:List Str).Nodup:=by decide +kernel
abbrev mr:Stmt:=top 15
def lS:FS:=
  (aR (cT (fG (aN Fb (n9 ia (ag 1)) (aZ 8000))) (bE (cg 1 [1] (bh (ag 0)) (ai 0) az (aN df (ag 0) (ag 1)))) cC)
  gE)
theorem xB:aO ["numbers","by","bits","shift","inverse","mask","lows"] ["numbers","by"] (ay mr):=by walk_at "sc"
theorem xh (F:eR K "divided" "divided" mr f fd)(hb:Binds K fd ["numbers","by"] [])(hm:mg "divided" = some (.ref f))(q5:mg "SHORT_QUOTIENT" = some (.int 8000 q6)):
  Def P w K mg base (k+1) "divided" 2 (cI 7 2 (lS)):=
 bp F xB hb hm fun cdv A outer s H E hr=>(au (fm (du yU (jk (aa 1 (pv 1))) (gQ rfl q5) (cK _)) (aB (aY (cM (N':=["number","by"]) (no:=1) (cap:=[1]) rfl rfl (aQ rfl) rfl (bT rfl) (cV (aa 0 (pv 0))) (fun _ _ _ _ _ _=>(ax 0 sS rfl (Or.inl rfl))) (fun _ _ _ _ _ _=>bH) (fun _ _ _ _ _ _=>(aT dg (aa 0 (pv 0)) (aa 1 (pv 1))))))) cN)
  qL)
abbrev kI:Stmt:=top 19
def kl:FS:=
  (bE (eD (aq bu (af (ag 0) (af (fC (.ty "int")) aE))) (n9 zQ (aq bu (af (ag 0) (af (fC (.ty "bool")) aE))))))
theorem vy:aO ["thing"] ["thing"] (ay kI):=by walk_at "sc"
theorem vn (F:eR K "is_whole" "is_whole" kI f fd)(hb:Binds K fd ["thing"] [])(hm:mg "is_whole" = some (.ref f))(q7:mg "int" = none)(q8:mg "isinstance" = none)(q9:mg "bool" = none):
  Def P w K mg base (k+1) "is_whole" 1 (cI 1 1 (kl)):=
 bp F vy hb hm fun cdv A outer s H E hr=>(aB (aY (fL (aS gD rfl q8 rfl (ae (aa 0 (pv 0)) (ae (jR rfl q7 rfl) ar))) (mE (Cc (aS gD rfl q8 rfl (ae (aa 0 (pv 0)) (ae (jR rfl q9 rfl) ar))))))))
abbrev iw:Stmt:=top 20
def ij (q10 q11:List T->Option T):FS:=
  (aR (cT (ux (dQ (eG (aq bu (af (ag 0) (af (fC (.ty "tuple")) aE))))) (fG (aN nF (aq bM (bg 0)) (aZ 2)))) (bE (fC (.bl false))) cC)
  (aR (iJ (ag 0) (bF (av (ai 1) (av (ai 2) bq))))
  (bE (eD (aq q10 (bg 1)) (eD (aq q10 (bg 2)) (eD (aN K9 (ag 2) (aZ 1)) (aN lP (aq q11 (af (ag 1) (bg 2))) (aZ 1))))))))
theorem gN:aO ["thing","top","bottom"] ["thing"] (ay iw):=by walk_at "sc"
theorem oE (F:eR K "is_fraction" "is_fraction" iw f fd)(hb:Binds K fd ["thing"] [])(hm:mg "is_fraction" = some (.ref f))(q12:Def P w K mg base k "is_whole" 1 q10)(q13:Def P w K mg base k "common" 2 q11)(q14:mg "tuple" = none)(q8:mg "isinstance" = none)(q15:mg "len" = none):
  Def P w K mg base (k+1) "is_fraction" 1 (cI 3 1 (ij q10 q11)):=
 bp F gN hb hm fun cdv A outer s H E hr=>(au (fm (SW.st (qN (gR (iB (aS gD rfl q8 rfl (ae (aa 0 (pv 0)) (ae (jR rfl q14 rfl) ar))))) (pf (du (qF hr.units) (aS cH rfl q15 PySem.boot_len (ae (aa 0 (pv 0)) ar)) aA (cK _))))) (aB (aY qK)) cN)
  (au (jm (aa 0 (pv 0)) (cX rfl (aG (ax 1 gN.nd rfl (Or.inl rfl)) (aG (ax 2 gN.nd rfl (Or.inl rfl)) bY)) (aM (aM cU))))
  (aB (aY (fL (aF q12 hr rfl (ae (aa 1 (pv 1)) ar) (ak aD)) (fL (aF q12 hr rfl (ae (aa 2 (pv 2)) ar) (ak aD)) (fL (mD JQ (aa 2 (pv 2)) aA (cK _)) (mE (mD (mU hr.units) (aF q13 hr rfl (ae (aa 1 (pv 1)) (ae (aa 2 (pv 2)) ar)) (ak (ak aD))) aA (cK _))))))))))
abbrev xu:Stmt:=top 21
def vV (q11:List T->Option T):FS:=
  (aR (cT (fG (aN lP (ag 1) (aZ 0))) gE cC)
  (aR (aU 2 (aq q11 (af (ag 0) (bg 1))))
  (aR (cT (fG (aN Fb (ag 1) (aZ 0))) (aU 2 (n9 zP (ag 2))) cC)
  (aR (cT (fG (aN Fb (n9 ia (ag 2)) (aZ 8000))) (bE (di (af (aN df (ag 0) (ag 2)) (af (aN df (ag 1) (ag 2)) aE)))) cC)
  gE))))
theorem tU:aO ["top","bottom","shared"] ["top","bottom"] (ay xu):=by walk_at "sc"
theorem DT (F:eR K "frac" "frac" xu f fd)(hb:Binds K fd ["top","bottom"] [])(hm:mg "frac" = some (.ref f))(q13:Def P w K mg base k "common" 2 q11)(q5:mg "SHORT_QUOTIENT" = some (.int 8000 q6)):
  Def P w K mg base (k+1) "frac" 2 (cI 3 2 (vV q11)):=
 bp F tU hb hm fun cdv A outer s H E hr=>(au (fm (du (mU hr.units) (aa 1 (pv 1)) aA (cK _)) (aB pe) cN)
  (au (bf 2 tU.nd rfl (Or.inl rfl) (aF q13 hr rfl (ae (aa 0 (pv 0)) (ae (aa 1 (pv 1)) ar)) (ak (ak aD))))
  (au (fm (du yU (aa 1 (pv 1)) aA (cK _)) (aB (bf 2 tU.nd rfl (Or.inl rfl) (Fu Cw (aa 2 (pv 2))))) cN)
  (au (fm (du yU (jk (aa 2 (pv 2))) (gQ rfl q5) (cK _)) (aB (aY (ek (ae (aT dg (aa 0 (pv 0)) (aa 2 (pv 2))) (ae (aT dg (aa 1 (pv 1)) (aa 2 (pv 2))) ar))))) cN)
  qL))))
abbrev xy:Stmt:=top 22
def vW (q11:List T->Option T):FS:=
  (aR (aU 2 (aq q11 (af (aN bQ (ag 0) (aZ 1)) (af (aN bQ (ag 1) (aZ 1)) aE))))
  (aR (aU 3 (aN ck (aN bU (aN bQ (ag 0) (aZ 0)) (aN df (aN bQ (ag 1) (aZ 1)) (ag 2))) (aN bU (aN bQ (ag 1) (aZ 0)) (aN df (aN bQ (ag 0) (aZ 1)) (ag 2)))))
  (aR (aU 4 (aq q11 (af (ag 3) (bg 2))))
  (bE (di (af (aN df (ag 3) (ag 4)) (af (aN bU (aN df (aN bQ (ag 0) (aZ 1)) (ag 2)) (aN df (aN bQ (ag 1) (aZ 1)) (ag 4))) aE)))))))
theorem nK:aO ["one","other","shared","top","low"] ["one","other"] (ay xy):=by walk_at "sc"
theorem DV (F:eR K "plus" "plus" xy f fd)(hb:Binds K fd ["one","other"] [])(hm:mg "plus" = some (.ref f))(q13:Def P w K mg base k "common" 2 q11):
  Def P w K mg base (k+1) "plus" 2 (cI 5 2 (vW q11)):=
 bp F nK hb hm fun cdv A outer s H E hr=>(au (bf 2 nK.nd rfl (Or.inl rfl) (aF q13 hr rfl (ae (bI bJ (aa 0 (pv 0)) aA (fun _ _=>rfl)) (ae (bI bJ (aa 1 (pv 1)) aA (fun _ _=>rfl)) ar)) (ak (ak aD))))
  (au (bf 3 nK.nd rfl (Or.inl rfl) (aT dk (aT cL (bI bJ (aa 0 (pv 0)) aA (fun _ _=>rfl)) (aT dg (bI bJ (aa 1 (pv 1)) aA (fun _ _=>rfl)) (aa 2 (pv 2)))) (aT cL (bI bJ (aa 1 (pv 1)) aA (fun _ _=>rfl)) (aT dg (bI bJ (aa 0 (pv 0)) aA (fun _ _=>rfl)) (aa 2 (pv 2))))))
  (au (bf 4 nK.nd rfl (Or.inl rfl) (aF q13 hr rfl (ae (aa 3 (pv 3)) (ae (aa 2 (pv 2)) ar)) (ak (ak aD))))
  (aB (aY (ek (ae (aT dg (aa 3 (pv 3)) (aa 4 (pv 4))) (ae (aT cL (aT dg (bI bJ (aa 0 (pv 0)) aA (fun _ _=>rfl)) (aa 2 (pv 2))) (aT dg (bI bJ (aa 1 (pv 1)) aA (fun _ _=>rfl)) (aa 4 (pv 4)))) ar))))))))
abbrev tN:Stmt:=top 23
def ny (q16:List T->Option T):FS:=
  (bE (aq q16 (af (ag 0) (af (di (af (n9 zP (aN bQ (ag 1) (aZ 0))) (af (aN bQ (ag 1) (aZ 1)) aE))) aE))))
theorem Ca:aO ["one","other"] ["one","other"] (ay tN):=by walk_at "sc"
theorem BL (F:eR K "minus" "minus" tN f fd)(hb:Binds K fd ["one","other"] [])(hm:mg "minus" = some (.ref f))(q17:Def P w K mg base k "plus" 2 q16):
  Def P w K mg base (k+1) "minus" 2 (cI 2 2 (ny q16)):=
 bp F Ca hb hm fun cdv A outer s H E hr=>(aB (aY (aF q17 hr rfl (ae (aa 0 (pv 0)) (ae (ek (ae (Fu Cw (bI bJ (aa 1 (pv 1)) aA (fun _ _=>rfl))) (ae (bI bJ (aa 1 (pv 1)) aA (fun _ _=>rfl)) ar))) ar)) (ak (ak aD)))))
abbrev tO:Stmt:=top 24
def rm (q11:List T->Option T):FS:=
  (aR (aU 2 (aq q11 (af (aN bQ (ag 0) (aZ 0)) (af (aN bQ (ag 1) (aZ 1)) aE))))
  (aR (aU 3 (aq q11 (af (aN bQ (ag 1) (aZ 0)) (af (aN bQ (ag 0) (aZ 1)) aE))))
  (bE (di (af (aN bU (aN df (aN bQ (ag 0) (aZ 0)) (ag 2)) (aN df (aN bQ (ag 1) (aZ 0)) (ag 3))) (af (aN bU (aN df (aN bQ (ag 0) (aZ 1)) (ag 3)) (aN df (aN bQ (ag 1) (aZ 1)) (ag 2))) aE))))))
theorem oY:aO ["one","other","left","right"] ["one","other"] (ay tO):=by walk_at "sc"
theorem BM (F:eR K "times" "times" tO f fd)(hb:Binds K fd ["one","other"] [])(hm:mg "times" = some (.ref f))(q13:Def P w K mg base k "common" 2 q11):
  Def P w K mg base (k+1) "times" 2 (cI 4 2 (rm q11)):=
 bp F oY hb hm fun cdv A outer s H E hr=>(au (bf 2 oY.nd rfl (Or.inl rfl) (aF q13 hr rfl (ae (bI bJ (aa 0 (pv 0)) aA (fun _ _=>rfl)) (ae (bI bJ (aa 1 (pv 1)) aA (fun _ _=>rfl)) ar)) (ak (ak aD))))
  (au (bf 3 oY.nd rfl (Or.inl rfl) (aF q13 hr rfl (ae (bI bJ (aa 1 (pv 1)) aA (fun _ _=>rfl)) (ae (bI bJ (aa 0 (pv 0)) aA (fun _ _=>rfl)) ar)) (ak (ak aD))))
  (aB (aY (ek (ae (aT cL (aT dg (bI bJ (aa 0 (pv 0)) aA (fun _ _=>rfl)) (aa 2 (pv 2))) (aT dg (bI bJ (aa 1 (pv 1)) aA (fun _ _=>rfl)) (aa 3 (pv 3)))) (ae (aT cL (aT dg (bI bJ (aa 0 (pv 0)) aA (fun _ _=>rfl)) (aa 3 (pv 3))) (aT dg (bI bJ (aa 1 (pv 1)) aA (fun _ _=>rfl)) (aa 2 (pv 2)))) ar)))))))
abbrev xv:Stmt:=top 25
def rl (q18 q19:List T->Option T):FS:=
  (bE (aq q19 (af (ag 0) (af (aq q18 (af (aN bQ (ag 1) (aZ 1)) (af (aN bQ (ag 1) (aZ 0)) aE))) aE))))
theorem El:aO ["one","other"] ["one","other"] (ay xv):=by walk_at "sc"
theorem DU (F:eR K "over" "over" xv f fd)(hb:Binds K fd ["one","other"] [])(hm:mg "over" = some (.ref f))(q20:Def P w K mg base k "frac" 2 q18)(q21:Def P w K mg base k "times" 2 q19):
  Def P w K mg base (k+1) "over" 2 (cI 2 2 (rl q18 q19)):=
 bp F El hb hm fun cdv A outer s H E hr=>(aB (aY (aF q21 hr rfl (ae (aa 0 (pv 0)) (ae (aF q20 hr rfl (ae (bI bJ (aa 1 (pv 1)) aA (fun _ _=>rfl)) (ae (bI bJ (aa 1 (pv 1)) aA (fun _ _=>rfl)) ar)) (ak (ak aD))) ar)) (ak (ak aD)))))
theorem ve:(["number"]:List Str).Nodup:=by decide +kernel
abbrev oP:Stmt:=top 27
def uo (q22:List T->Option T):FS:=
  (bE (eD (aq bu (af (ag 0) (af (fC (.ty "list")) aE))) (eD (aN lP (aq bM (bg 0)) (ag 1)) (aq rJ (af (cg 1 [] (bh (ag 0)) (ai 0) az (aq q22 (bg 0))) aE)))))
theorem Am:aO ["thing","many"] ["thing","many"] (ay oP):=by walk_at "sc"
theorem Ad (F:eR K "is_row" "is_row" oP f fd)(hb:Binds K fd ["thing","many"] [])(hm:mg "is_row" = some (.ref f))(q23:Def P w K mg base k "is_fraction" 1 q22)(q24:mg "list" = none)(q8:mg "isinstance" = none)(q15:mg "len" = none)(q25:mg "all" = none):
  Def P w K mg base (k+1) "is_row" 2 (cI 2 2 (uo q22)):=
 bp F Am hb hm fun cdv A outer s H E hr=>(aB (aY (fL (aS gD rfl q8 rfl (ae (aa 0 (pv 0)) (ae (jR rfl q24 rfl) ar))) (fL (mD (mU hr.units) (aS cH rfl q15 PySem.boot_len (ae (aa 0 (pv 0)) ar)) (aa 1 (pv 1)) (cK _)) (mE (aS (AZ rfl) rfl q25 rfl (ae (cM (N':=["number"]) (no:=1) (cap:=[]) rfl rfl (aQ rfl) rfl (bT rfl) (cV (aa 0 (pv 0))) (fun _ _ _ _ _ _=>(ax 0 ve rfl (Or.inl rfl))) (fun _ _ _ _ _ _=>bH) (fun _ _ _ _ _ _=>(aF q23 hr rfl (ae (aa 0 (pv 0)) ar) (ak aD)))) ar)))))))
theorem pU:(["row","wide"]:List Str).Nodup:=by decide +kernel
abbrev kH:Stmt:=top 28
def iU (q26:List T->Option T):FS:=
  (bE (eD (aq bu (af (ag 0) (af (fC (.ty "list")) aE))) (eD (aN lP (aq bM (bg 0)) (ag 1)) (aq rJ (af (cg 1 [2] (bh (ag 0)) (ai 0) az (aq q26 (af (ag 0) (bg 1)))) aE)))))
theorem vx:aO ["thing","many","wide"] ["thing","many","wide"] (ay kH):=by walk_at "sc"
theorem vm (F:eR K "is_table" "is_table" kH f fd)(hb:Binds K fd ["thing","many","wide"] [])(hm:mg "is_table" = some (.ref f))(q27:Def P w K mg base k "is_row" 2 q26)(q24:mg "list" = none)(q8:mg "isinstance" = none)(q15:mg "len" = none)(q25:mg "all" = none):
  Def P w K mg base (k+1) "is_table" 3 (cI 3 3 (iU q26)):=
 bp F vx hb hm fun cdv A outer s H E hr=>(aB (aY (fL (aS gD rfl q8 rfl (ae (aa 0 (pv 0)) (ae (jR rfl q24 rfl) ar))) (fL (mD (mU hr.units) (aS cH rfl q15 PySem.boot_len (ae (aa 0 (pv 0)) ar)) (aa 1 (pv 1)) (cK _)) (mE (aS (AZ rfl) rfl q25 rfl (ae (cM (N':=["row","wide"]) (no:=1) (cap:=[2]) rfl rfl (aQ rfl) rfl (bT rfl) (cV (aa 0 (pv 0))) (fun _ _ _ _ _ _=>(ax 0 pU rfl (Or.inl rfl))) (fun _ _ _ _ _ _=>bH) (fun _ _ _ _ _ _=>(aF q27 hr rfl (ae (aa 0 (pv 0)) (ae (aa 1 (pv 1)) ar)) (ak (ak aD))))) ar)))))))
abbrev my:Stmt:=top 29
def qi (q19 q16:List T->Option T):FS:=
  (aR (aU 2 (fC (.tup [.int (0),.int (1)])))
  (aR (eE (dq (af (ag 0) (bg 1))) (bF (av (ai 3) (av (ai 4) bq))) (aU 2 (aq q16 (af (ag 2) (af (aq q19 (af (ag 3) (bg 4))) aE)))))
  (bE (ag 2))))
theorem gO:aO ["one","other","total","left","right"] ["one","other"] (ay my):=by walk_at "sc"
theorem xi (F:eR K "weighed" "weighed" my f fd)(hb:Binds K fd ["one","other"] [])(hm:mg "weighed" = some (.ref f))(q21:Def P w K mg base k "times" 2 q19)(q17:Def P w K mg base k "plus" 2 q16)(q28:mg "zip" = none)(q29:mg "NOUGHT" = some (.ref q30))(q31:K.lookup q30=some ⟨.type "tuple", q32,.seq #[.int (0) q33,.int (1) q34] q35,q36⟩):
  Def P w K mg base (k+1) "weighed" 2 (cI 5 2 (qi q19 q16)):=
 bp F gO hb hm fun cdv A outer s H E hr=>(au (bf 2 gO.nd rfl (Or.inl rfl) (vz rfl q29 q31))
  (au (eO PassesOwn.never rfl (kK rfl q28 (ae (aa 0 (pv 0)) (ae (aa 1 (pv 1)) ar))) (cX rfl (aG (ax 3 gO.nd rfl (Or.inl rfl)) (aG (ax 4 gO.nd rfl (Or.inl rfl)) bY)) (aM (aM cU))) (aB (bf 2 gO.nd rfl (Or.inl rfl) (aF q17 hr rfl (ae (aa 2 (pv 2)) (ae (aF q21 hr rfl (ae (aa 3 (pv 3)) (ae (aa 4 (pv 4)) ar)) (ak (ak aD))) ar)) (ak (ak aD))))))
  (aB (aY (aa 2 (pv 2))))))
theorem sV:(["row"]:List Str).Nodup:=by decide +kernel
theorem sW:(["column"]:List Str).Nodup:=by decide +kernel
theorem sX:(["row","lifted_columns"]:List Str).Nodup:=by decide +kernel
theorem sY:(["column","row"]:List Str).Nodup:=by decide +kernel
abbrev mx:Stmt:=top 30
def gu (q37 q38 q39:List T->Option T):AG:=
  (uy (eV 3 1 [] (bh (ag 0)) (ai 0) az (aq q37 (bg 0)))
  (uy (aU 4 (cg 1 [] (bh (aq q38 (af (ag 1) (bg 2)))) (ai 0) az (aq q37 (bg 0))))
  (kh (cJ 1 [4] (bh (ag 3)) (ai 0) az (cJ 1 [0] (bh (ag 1)) (ai 0) az (eX (aq q39 (af (ag 1) (bg 0)))))))))
theorem kJ:aO ["one","other","wide","lifted_rows","lifted_columns"] ["one","other","wide"] (ay mx):=by walk_at "sc"
theorem vj (F:eR K "product" "product" mx f fd)(hb:Binds K fd ["one","other","wide"] [])(hm:mg "product" = some (.ref f))(q40:Def P w K mg base k "lifted" 1 q37)(q41:Def P w K mg base k "turned" 2 q38)(q42:Def P w K mg base k "weighed_lifted" 2 q39):
  mY P w K mg base (k+1) "product" 3 (lV 5 3 (gu q37 q38 q39)):=
 rK F kJ hb hm fun cdv A outer s H E hr=>(vE (kL kJ.nd rfl rfl (N':=["row"]) (no:=1) (cap:=[]) rfl rfl (aQ rfl) rfl (bT rfl) (cV (aa 0 (pv 0))) (fun _ _ _ _ _ _=>(ax 0 sV rfl (Or.inl rfl))) (fun _ _ _ _ _ _=>bH) (fun _ _ _ _ _ _=>(aF q40 hr rfl (ae (aa 0 (pv 0)) ar) (ak aD))))
  (vE (bf 4 kJ.nd rfl (Or.inr rfl) (cM (N':=["column"]) (no:=1) (cap:=[]) rfl rfl (aQ rfl) rfl (bT rfl) (cV (aF q41 hr rfl (ae (aa 1 (pv 1)) (ae (aa 2 (pv 2)) ar)) (ak (ak aD)))) (fun _ _ _ _ _ _=>(ax 0 sW rfl (Or.inl rfl))) (fun _ _ _ _ _ _=>bH) (fun _ _ _ _ _ _=>(aF q40 hr rfl (ae (aa 0 (pv 0)) ar) (ak aD)))))
  (ua (fT (N':=["row","lifted_columns"]) (no:=1) (cap:=[4]) rfl rfl (aQ rfl) rfl (bT rfl) (cV (aa 3 (pv 3))) (fun _ _ _ _ _ _=>(ax 0 sX rfl (Or.inr rfl))) (fun _ _ _ _ _ _=>bH) (fun _ _ _ _ _ _=>(fT (N':=["column","row"]) (no:=1) (cap:=[0]) rfl rfl (aQ rfl) rfl (bT rfl) (cV (aa 1 (pv 1))) (fun _ _ _ _ _ _=>(ax 0 sY rfl (Or.inl rfl))) (fun _ _ _ _ _ _=>bH) (fun _ _ _ _ _ _=>(SE.seo (aF q42 hr rfl (ae (aa 1 (pv 1)) (ae (aa 0 (pv 0)) ar)) (ak (ak aD)))))))))))
theorem mS:(["top","bottom"]:List Str).Nodup:=by decide +kernel
abbrev oQ:Stmt:=top 31
def nQ (q43 q44:List T->Option T):FS:=
  (aR (aU 1 (aq q43 (bg 0)))
  (bE (di (af (ag 0) (af (aq q44 (af (ag 0) (bg 1))) (af (ag 1) (af (aN yB (cg 2 [] (bh (ag 0)) (bF (av (ai 0) (av (ai 1) bq))) az (n9 ia (ag 1))) (aZ 1)) aE)))))))
theorem qJ:aO ["row","low"] ["row"] (ay oQ):=by walk_at "sc"
theorem Ae (F:eR K "lifted" "lifted" oQ f fd)(hb:Binds K fd ["row"] [])(hm:mg "lifted" = some (.ref f))(q45:Def P w K mg base k "shared_bottom" 1 q43)(q46:Def P w K mg base k "raised" 2 q44)(q47:mg "max" = none):
  Def P w K mg base (k+1) "lifted" 1 (cI 2 1 (nQ q43 q44)):=
 bp F qJ hb hm fun cdv A outer s H E hr=>(au (bf 1 qJ.nd rfl (Or.inl rfl) (aF q45 hr rfl (ae (aa 0 (pv 0)) ar) (ak aD)))
  (aB (aY (ek (ae (aa 0 (pv 0)) (ae (aF q46 hr rfl (ae (aa 0 (pv 0)) (ae (aa 1 (pv 1)) ar)) (ak (ak aD))) (ae (aa 1 (pv 1)) (ae (En rfl rfl q47 (cM (N':=["top","bottom"]) (no:=2) (cap:=[]) rfl rfl (aQ rfl) rfl (bT rfl) (cV (aa 0 (pv 0))) (fun _ _ _ _ _ _=>(cX rfl (aG (ax 0 mS rfl (Or.inl rfl)) (aG (ax 1 mS rfl (Or.inl rfl)) bY)) (aM (aM cU)))) (fun _ _ _ _ _ _=>bH) (fun _ _ _ _ _ _=>(jk (aa 1 (pv 1))))) aA) ar))))))))
theorem gh:(["left","right"]:List Str).Nodup:=by decide +kernel
abbrev fJ:Stmt:=top 32
def fB (q48 q18:List T->Option T):FS:=
  (aR (iJ (ag 0) (bF (av (ai 2) (av (ai 3) (av (ai 4) (av (ai 5) bq))))))
  (aR (iJ (ag 1) (bF (av (ai 6) (av (ai 7) (av (ai 8) (av (ai 9) bq))))))
  (aR (cT (fG (aN Bf (aN ck (n9 ia (ag 4)) (n9 ia (ag 8))) (aN ck (aN bU (aZ 4) (aN ck (ag 5) (ag 9))) (aZ 128)))) (bE (aq q48 (af (ag 2) (bg 6)))) cC)
  (bE (aq q18 (af (aq Dd (af (cg 2 [] (dq (af (ag 3) (bg 7))) (bF (av (ai 0) (av (ai 1) bq))) az (aN bU (ag 0) (ag 1))) aE)) (af (aN bU (ag 4) (ag 8)) aE)))))))
theorem bG:aO ["one","other","row","tops","low","longest","other_row","other_tops","other_low","other_longest"] ["one","other"] (ay fJ):=by walk_at "sc"
theorem lF (F:eR K "weighed_lifted" "weighed_lifted" fJ f fd)(hb:Binds K fd ["one","other"] [])(hm:mg "weighed_lifted" = some (.ref f))(q49:Def P w K mg base k "weighed" 2 q48)(q20:Def P w K mg base k "frac" 2 q18)(q28:mg "zip" = none)(q50:mg "sum" = none):
  Def P w K mg base (k+1) "weighed_lifted" 2 (cI 10 2 (fB q48 q18)):=
 bp F bG hb hm fun cdv A outer s H E hr=>(au (jm (aa 0 (pv 0)) (cX rfl (aG (ax 2 bG.nd rfl (Or.inl rfl)) (aG (ax 3 bG.nd rfl (Or.inl rfl)) (aG (ax 4 bG.nd rfl (Or.inl rfl)) (aG (ax 5 bG.nd rfl (Or.inl rfl)) bY)))) (aM (aM (aM (aM cU))))))
  (au (jm (aa 1 (pv 1)) (cX rfl (aG (ax 6 bG.nd rfl (Or.inl rfl)) (aG (ax 7 bG.nd rfl (Or.inl rfl)) (aG (ax 8 bG.nd rfl (Or.inl rfl)) (aG (ax 9 bG.nd rfl (Or.inl rfl)) bY)))) (aM (aM (aM (aM cU))))))
  (au (fm (du yS (aT dk (jk (aa 4 (pv 4))) (jk (aa 8 (pv 8)))) (aT dk (aT cL aA (aT dk (aa 5 (pv 5)) (aa 9 (pv 9)))) aA) (cK _)) (aB (aY (aF q49 hr rfl (ae (aa 2 (pv 2)) (ae (aa 6 (pv 6)) ar)) (ak (ak aD))))) cN)
  (aB (aY (aF q20 hr rfl (ae (aS (FQ rfl) rfl q50 rfl (ae (cM (N':=["left","right"]) (no:=2) (cap:=[]) rfl rfl (aQ rfl) rfl (bT rfl) (kK rfl q28 (ae (aa 3 (pv 3)) (ae (aa 7 (pv 7)) ar))) (fun _ _ _ _ _ _=>(cX rfl (aG (ax 0 gh rfl (Or.inl rfl)) (aG (ax 1 gh rfl (Or.inl rfl)) bY)) (aM (aM cU)))) (fun _ _ _ _ _ _=>bH) (fun _ _ _ _ _ _=>(aT cL (aa 0 (pv 0)) (aa 1 (pv 1))))) ar)) (ae (aT cL (aa 4 (pv 4)) (aa 8 (pv 8))) ar)) (ak (ak aD))))))))
abbrev fZ:Stmt:=top 33
def fV (q11:List T->Option T):FS:=
  (aR (aU 1 (aZ 1))
  (aR (eE (bh (ag 0)) (bF (av (ai 2) (av (ai 3) bq))) (aU 1 (aN bU (aN df (ag 1) (aq q11 (af (ag 1) (bg 3)))) (ag 3))))
  (bE (ag 1))))
theorem dm:aO ["row","low","top","bottom"] ["row"] (ay fZ):=by walk_at "sc"
theorem mf (F:eR K "shared_bottom" "shared_bottom" fZ f fd)(hb:Binds K fd ["row"] [])(hm:mg "shared_bottom" = some (.ref f))(q13:Def P w K mg base k "common" 2 q11):
  Def P w K mg base (k+1) "shared_bottom" 1 (cI 4 1 (fV q11)):=
 bp F dm hb hm fun cdv A outer s H E hr=>(au (bf 1 dm.nd rfl (Or.inl rfl) aA)
  (au (eO PassesOwn.never rfl (cV (aa 0 (pv 0))) (cX rfl (aG (ax 2 dm.nd rfl (Or.inl rfl)) (aG (ax 3 dm.nd rfl (Or.inl rfl)) bY)) (aM (aM cU))) (aB (bf 1 dm.nd rfl (Or.inl rfl) (aT cL (aT dg (aa 1 (pv 1)) (aF q13 hr rfl (ae (aa 1 (pv 1)) (ae (aa 3 (pv 3)) ar)) (ak (ak aD)))) (aa 3 (pv 3))))))
  (aB (aY (aa 1 (pv 1))))))
theorem mT:(["top","bottom","low"]:List Str).Nodup:=by decide +kernel
abbrev oR:Stmt:=top 34
def uq:FS:=
  (bE (cg 2 [1] (bh (ag 0)) (bF (av (ai 0) (av (ai 1) bq))) az (aN bU (ag 0) (aN df (ag 2) (ag 1)))))
theorem An:aO ["row","low"] ["row","low"] (ay oR):=by walk_at "sc"
theorem Af (F:eR K "raised" "raised" oR f fd)(hb:Binds K fd ["row","low"] [])(hm:mg "raised" = some (.ref f)):
  Def P w K mg base (k+1) "raised" 2 (cI 2 2 (uq)):=
 bp F An hb hm fun cdv A outer s H E hr=>(aB (aY (cM (N':=["top","bottom","low"]) (no:=2) (cap:=[1]) rfl rfl (aQ rfl) rfl (bT rfl) (cV (aa 0 (pv 0))) (fun _ _ _ _ _ _=>(cX rfl (aG (ax 0 mT rfl (Or.inl rfl)) (aG (ax 1 mT rfl (Or.inl rfl)) bY)) (aM (aM cU)))) (fun _ _ _ _ _ _=>bH) (fun _ _ _ _ _ _=>(aT cL (aa 0 (pv 0)) (aT dg (aa 2 (pv 2)) (aa 1 (pv 1))))))))
theorem sT:(["row","wide"]:List Str).Nodup:=by decide +kernel
theorem sU:(["column"]:List Str).Nodup:=by decide +kernel
abbrev mw:Stmt:=top 35
def jT:AG:=
  (kh (cJ 1 [1] (bW (bg 0)) (ai 0) az (cJ 1 [] (bW (bg 1)) (ai 0) az (eX (fC (.tup [.int (0),.int (1)]))))))
theorem xC:aO ["many","wide"] ["many","wide"] (ay mw):=by walk_at "sc"
theorem vi (F:eR K "noughts" "noughts" mw f fd)(hb:Binds K fd ["many","wide"] [])(hm:mg "noughts" = some (.ref f))(q51:mg "range" = none)(q29:mg "NOUGHT" = some (.ref q30))(q31:K.lookup q30=some ⟨.type "tuple", q32,.seq #[.int (0) q33,.int (1) q34] q35,q36⟩):
  mY P w K mg base (k+1) "noughts" 2 (lV 2 2 (jT)):=
 rK F xC hb hm fun cdv A outer s H E hr=>(ua (fT (N':=["row","wide"]) (no:=1) (cap:=[1]) rfl rfl (aQ rfl) rfl (bT rfl) (eK rfl q51 (ae (aa 0 (pv 0)) ar)) (fun _ _ _ _ _ _=>(ax 0 sT rfl (Or.inl rfl))) (fun _ _ _ _ _ _=>bH) (fun _ _ _ _ _ _=>(fT (N':=["column"]) (no:=1) (cap:=[]) rfl rfl (aQ rfl) rfl (bT rfl) (eK rfl q51 (ae (aa 1 (pv 1)) ar)) (fun _ _ _ _ _ _=>(ax 0 sU rfl (Or.inl rfl))) (fun _ _ _ _ _ _=>bH) (fun _ _ _ _ _ _=>(SE.seo (vz rfl q29 q31)))))))
theorem vf:(["place","table"]:List Str).Nodup:=by decide +kernel
theorem vg:(["row","place"]:List Str).Nodup:=by decide +kernel
abbrev oS:Stmt:=top 36
def jA:AG:=
  (kh (cJ 1 [0] (bW (bg 1)) (ai 0) az (cJ 1 [0] (bh (ag 1)) (ai 0) az (eX (aN bQ (ag 0) (ag 1))))))
theorem Ao:aO ["table","wide"] ["table","wide"] (ay oS):=by walk_at "sc"
theorem xf (F:eR K "turned" "turned" oS f fd)(hb:Binds K fd ["table","wide"] [])(hm:mg "turned" = some (.ref f))(q51:mg "range" = none):
  mY P w K mg base (k+1) "turned" 2 (lV 2 2 (jA)):=
 rK F Ao hb hm fun cdv A outer s H E hr=>(ua (fT (N':=["place","table"]) (no:=1) (cap:=[0]) rfl rfl (aQ rfl) rfl (bT rfl) (eK rfl q51 (ae (aa 1 (pv 1)) ar)) (fun _ _ _ _ _ _=>(ax 0 vf rfl (Or.inr rfl))) (fun _ _ _ _ _ _=>bH) (fun _ _ _ _ _ _=>(fT (N':=["row","place"]) (no:=1) (cap:=[0]) rfl rfl (aQ rfl) rfl (bT rfl) (cV (aa 1 (pv 1))) (fun _ _ _ _ _ _=>(ax 0 vg rfl (Or.inl rfl))) (fun _ _ _ _ _ _=>bH) (fun _ _ _ _ _ _=>(SE.seo (bI bJ (aa 0 (pv 0)) (aa 1 (pv 1)) (fun _ _=>rfl))))))))
theorem lB:(["left","right"]:List Str).Nodup:=by decide +kernel
abbrev mz:Stmt:=top 37
def jU:FS:=
  (bE (cg 2 [] (dq (af (ag 0) (bg 1))) (bF (av (ai 0) (av (ai 1) bq))) az (aN ck (ag 0) (ag 1))))
theorem xD:aO ["one","other"] ["one","other"] (ay mz):=by walk_at "sc"
theorem xj (F:eR K "widened" "widened" mz f fd)(hb:Binds K fd ["one","other"] [])(hm:mg "widened" = some (.ref f))(q28:mg "zip" = none):
  Def P w K mg base (k+1) "widened" 2 (cI 2 2 (jU)):=
 bp F xD hb hm fun cdv A outer s H E hr=>(aB (aY (cM (N':=["left","right"]) (no:=2) (cap:=[]) rfl rfl (aQ rfl) rfl (bT rfl) (kK rfl q28 (ae (aa 0 (pv 0)) (ae (aa 1 (pv 1)) ar))) (fun _ _ _ _ _ _=>(cX rfl (aG (ax 0 lB rfl (Or.inl rfl)) (aG (ax 1 lB rfl (Or.inl rfl)) bY)) (aM (aM cU)))) (fun _ _ _ _ _ _=>bH) (fun _ _ _ _ _ _=>(aT dk (aa 0 (pv 0)) (aa 1 (pv 1)))))))
theorem fW:(["at","place","row"]:List Str).Nodup:=by decide +kernel
abbrev jf:Stmt:=top 39
def kS (q52 q53:List T->Option T):FS:=
  (aR (aU 1 (HU (eG (ag 0)) (aq bM (af (aN bQ (ag 0) (aZ 0)) aE)) (aZ 0)))
  (aR (aU 2 (aq q53 (af (aq q52 (bg 0)) (bg 1))))
  (bE (cg 3 [] (rP (bg 2)) (bF (av (ai 0) (av (bF (av (ai 1) (av (ai 2) bq))) bq))) (fG (aN jC (ag 1) (fC .non))) (ag 0)))))
theorem iA:aO ["table","wide","steps"] ["table"] (ay jf):=by walk_at "sc"
theorem pX (F:eR K "first_rows" "first_rows" jf f fd)(hb:Binds K fd ["table"] [])(hm:mg "first_rows" = some (.ref f))(q54:Def P w K mg base k "whole_rows" 1 q52)(q55:Def P w K mg base k "cleared_rows" 2 q53)(q15:mg "len" = none)(q56:mg "enumerate" = none):
  Def P w K mg base (k+1) "first_rows" 1 (cI 3 1 (kS q52 q53)):=
 bp F iA hb hm fun cdv A outer s H E hr=>(au (bf 1 iA.nd rfl (Or.inl rfl) (J3 (iB (aa 0 (pv 0))) (aS cH rfl q15 PySem.boot_len (ae (bI bJ (aa 0 (pv 0)) aA (fun _ _=>rfl)) ar)) aA))
  (au (bf 2 iA.nd rfl (Or.inl rfl) (aF q55 hr rfl (ae (aF q54 hr rfl (ae (aa 0 (pv 0)) ar) (ak aD)) (ae (aa 1 (pv 1)) ar)) (ak (ak aD))))
  (aB (aY (cM (N':=["at","place","row"]) (no:=3) (cap:=[]) rfl rfl (aQ rfl) rfl (bT rfl) (Es rfl q56 (ae (aa 2 (pv 2)) ar)) (fun _ _ _ _ _ _=>(cX rfl (aG (ax 0 fW rfl (Or.inl rfl)) (aG (cX rfl (aG (ax 1 fW rfl (Or.inl rfl)) (aG (ax 2 fW rfl (Or.inl rfl)) bY)) (aM (aM cU))) bY)) (aM (aM cU)))) (fun _ _ _ _ _ _=>(zy (du vo (aa 1 (pv 1)) xF (cK _)))) (fun _ _ _ _ _ _=>(aa 0 (pv 0))))))))
theorem ng:(["row"]:List Str).Nodup:=by decide +kernel
abbrev ji:Stmt:=top 40
def kX (q43 q44:List T->Option T):FS:=
  (bE (cg 1 [] (bh (ag 0)) (ai 0) az (aq q44 (af (ag 0) (af (aq q43 (bg 0)) aE)))))
theorem qd:aO ["table"] ["table"] (ay ji):=by walk_at "sc"
theorem p0 (F:eR K "whole_rows" "whole_rows" ji f fd)(hb:Binds K fd ["table"] [])(hm:mg "whole_rows" = some (.ref f))(q45:Def P w K mg base k "shared_bottom" 1 q43)(q46:Def P w K mg base k "raised" 2 q44):
  Def P w K mg base (k+1) "whole_rows" 1 (cI 1 1 (kX q43 q44)):=
 bp F qd hb hm fun cdv A outer s H E hr=>(aB (aY (cM (N':=["row"]) (no:=1) (cap:=[]) rfl rfl (aQ rfl) rfl (bT rfl) (cV (aa 0 (pv 0))) (fun _ _ _ _ _ _=>(ax 0 ng rfl (Or.inl rfl))) (fun _ _ _ _ _ _=>bH) (fun _ _ _ _ _ _=>(aF q46 hr rfl (ae (aa 0 (pv 0)) (ae (aF q45 hr rfl (ae (aa 0 (pv 0)) ar) (ak aD)) ar)) (ak (ak aD)))))))
abbrev gM:Stmt:=top 41
def eU (q57 q58:List T->Option T):FS:=
  (aR (nB 2 3)
  (aR (eE (bh (ag 0)) (ai 4) (aR (aU 5 (gF 3 (aq q57 (af (ag 4) (bg 3)))))
  (aR (aU 6 (aq q58 (af (ag 5) (bg 1))))
  (aR (iW 2 (di (af (ag 6) (bg 5))))
  (cT (fG (aN jC (ag 6) (fC .non))) (iW 3 (di (af (ag 6) (bg 5)))) cC)))))
  (bE (ag 2))))
theorem dw:aO ["rows","wide","steps","kept","row","left","place"] ["rows","wide"] (ay gM):=by walk_at "sc"
theorem nr (F:eR K "cleared_rows" "cleared_rows" gM f fd)(hb:Binds K fd ["rows","wide"] [])(hm:mg "cleared_rows" = some (.ref f))(q59:Def P w K mg base k "cleared" 2 q57)(q60:Def P w K mg base k "first_place" 2 q58):
  Def P w K mg base (k+1) "cleared_rows" 2 (cI 7 2 (eU q57 q58)):=
 bp F dw hb hm fun cdv A outer s H E hr=>(au (Ax rfl dw.nd rfl rfl (by decide) rfl rfl rfl)
  (au (eO PassesOwn.never rfl (cV (aa 0 (pv 0))) (ax 4 dw.nd rfl (Or.inl rfl)) (au (bf 5 dw.nd rfl (Or.inl rfl) (tW 3 (aF q59 hr rfl (ae (aa 4 (pv 4)) (ae (aa 3 (pv 3)) ar)) (ak (ak aD)))))
  (au (bf 6 dw.nd rfl (Or.inl rfl) (aF q60 hr rfl (ae (aa 5 (pv 5)) (ae (aa 1 (pv 1)) ar)) (ak (ak aD))))
  (au (iL 2 (pv 2) (ek (ae (aa 6 (pv 6)) (ae (aa 5 (pv 5)) ar))))
  (aB (fm (du vo (aa 6 (pv 6)) xF (cK _)) (aB (iL 3 (pv 3) (ek (ae (aa 6 (pv 6)) (ae (aa 5 (pv 5)) ar))))) cN))))))
  (aB (aY (aa 2 (pv 2))))))
theorem ly:(["number","less","here","there"]:List Str).Nodup:=by decide +kernel
abbrev mm:Stmt:=top 42
def iG (q61:List T->Option T):FS:=
  (aR (aU 2 (aZ 1))
  (aR (eE (bh (ag 1)) (bF (av (ai 3) (av (ai 4) bq))) (aR (iJ (di (af (aN bQ (ag 4) (ag 3)) (af (aN bQ (ag 0) (ag 3)) aE))) (bF (av (ai 5) (av (ai 6) bq))))
  (aR (aU 0 (aq q61 (af (cg 2 [5,6] (dq (af (ag 0) (bg 4))) (bF (av (ai 0) (av (ai 1) bq))) az (aN uC (aN bU (ag 2) (ag 0)) (aN bU (ag 3) (ag 1)))) (bg 2))))
  (aU 2 (ag 5)))))
  (bE (ag 0))))
theorem dO:aO ["row","kept","ahead","place","other","here","there"] ["row","kept"] (ay mm):=by walk_at "sc"
theorem xg (F:eR K "cleared" "cleared" mm f fd)(hb:Binds K fd ["row","kept"] [])(hm:mg "cleared" = some (.ref f))(q62:Def P w K mg base k "divided" 2 q61)(q28:mg "zip" = none):
  Def P w K mg base (k+1) "cleared" 2 (cI 7 2 (iG q61)):=
 bp F dO hb hm fun cdv A outer s H E hr=>(au (bf 2 dO.nd rfl (Or.inl rfl) aA)
  (au (eO PassesOwn.never rfl (cV (aa 1 (pv 1))) (cX rfl (aG (ax 3 dO.nd rfl (Or.inl rfl)) (aG (ax 4 dO.nd rfl (Or.inl rfl)) bY)) (aM (aM cU))) (au (jm (ek (ae (bI bJ (aa 4 (pv 4)) (aa 3 (pv 3)) (fun _ _=>rfl)) (ae (bI bJ (aa 0 (pv 0)) (aa 3 (pv 3)) (fun _ _=>rfl)) ar))) (cX rfl (aG (ax 5 dO.nd rfl (Or.inr rfl)) (aG (ax 6 dO.nd rfl (Or.inr rfl)) bY)) (aM (aM cU))))
  (au (bf 0 dO.nd rfl (Or.inl rfl) (aF q62 hr rfl (ae (cM (N':=["number","less","here","there"]) (no:=2) (cap:=[5,6]) rfl rfl (aQ rfl) rfl (bT rfl) (kK rfl q28 (ae (aa 0 (pv 0)) (ae (aa 4 (pv 4)) ar))) (fun _ _ _ _ _ _=>(cX rfl (aG (ax 0 ly rfl (Or.inl rfl)) (aG (ax 1 ly rfl (Or.inl rfl)) bY)) (aM (aM cU)))) (fun _ _ _ _ _ _=>bH) (fun _ _ _ _ _ _=>(aT BP (aT cL (aa 2 (pv 2)) (aa 0 (pv 0))) (aT cL (aa 3 (pv 3)) (aa 1 (pv 1)))))) (ae (aa 2 (pv 2)) ar)) (ak (ak aD))))
  (aB (bf 2 dO.nd rfl (Or.inl rfl) (aa 5 (pv 5)))))))
  (aB (aY (aa 0 (pv 0))))))
abbrev iu:Stmt:=top 43
def fN:FS:=
  (aR (eE (bW (bg 1)) (ai 2) (cT (fG (aN nF (aN bQ (ag 0) (ag 2)) (aZ 0))) (bE (ag 2)) cC))
  (bE (fC .non)))
theorem jQ:aO ["row","wide","place"] ["row","wide"] (ay iu):=by walk_at "sc"
theorem oC (F:eR K "first_place" "first_place" iu f fd)(hb:Binds K fd ["row","wide"] [])(hm:mg "first_place" = some (.ref f))(q51:mg "range" = none):
  Def P w K mg base (k+1) "first_place" 2 (cI 3 2 (fN)):=
 bp F jQ hb hm fun cdv A outer s H E hr=>(au (eO PassesOwn.never rfl (eK rfl q51 (ae (aa 1 (pv 1)) ar)) (ax 2 jQ.nd rfl (Or.inl rfl)) (aB (fm (du (qF hr.units) (bI bJ (aa 0 (pv 0)) (aa 2 (pv 2)) (fun _ _=>rfl)) aA (cK _)) (aB (aY (aa 2 (pv 2)))) cN)))
  (aB (aY xF)))
theorem jw:(["table"]:List Str).Nodup:=by decide +kernel
theorem jx:(["row"]:List Str).Nodup:=by decide +kernel
abbrev eN:Stmt:=inClass (top 47) 0
def dr (q63:List T->Option T):Addr->FI:=
  (Bo (cT (dQ (eG (aq q63 (af (ag 1) (af (ag 2) (af (ag 3) (bg 4))))))) gE cC)
  (Bo (cT (fG (aN Bf (aq bM (bg 1)) (aZ 8))) gE cC)
  (Du "four" (aq il (af (cg 1 [] (bh (di (af (ag 1) (af (ag 2) (af (ag 3) (bg 4)))))) (ai 0) az (aq il (af (cg 1 [] (bh (ag 0)) (ai 0) az (aq il (bg 0))) aE))) aE))
  Jp)))
theorem jZ:aO ["self","move","push","look","through"] ["self","move","push","look","through"] (ay eN):=by walk_at "sc"
theorem xb {C:Addr}{cx:Str}(F:eR K "__init__" "System.__init__" eN f fd)(hb:Binds K fd ["self","move","push","look","through"] [])(cl:pH K C)(M:Mk K C f)(hm:mg cx=some (.ref C))(q64:fz K C "four")(q65:Def P w K mg base k "is_system" 4 q63)(q15:mg "len" = none)(q14:mg "tuple" = none)(q66:mg "MOST_CELLS" = some (.int 8 q67)):
  uh P w K mg base (k+2) cx C 4 (dI 5 4 (dr q63)):=
 Dv F jZ hb M hm rfl fun cdv A outer s H E hr=>(zu (fm (gR (iB (aF q65 hr rfl (ae (aa 1 (pv 1)) (ae (aa 2 (pv 2)) (ae (aa 3 (pv 3)) (ae (aa 4 (pv 4)) ar)))) (ak (ak (ak (ak aD))))))) (aB pe) cN)
  (zu (fm (du yS (aS cH rfl q15 PySem.boot_len (ae (aa 1 (pv 1)) ar)) (gQ rfl q66) (cK _)) (aB pe) cN)
  (Et cl q64 (pv 0) (gy kZ rfl q14 rfl (ae (cM (N':=["table"]) (no:=1) (cap:=[]) rfl rfl (aQ rfl) rfl (bT rfl) (cV (ek (ae (aa 1 (pv 1)) (ae (aa 2 (pv 2)) (ae (aa 3 (pv 3)) (ae (aa 4 (pv 4)) ar)))))) (fun _ _ _ _ _ _=>(ax 0 jw rfl (Or.inl rfl))) (fun _ _ _ _ _ _=>bH) (fun _ _ _ _ _ _=>(gy kZ rfl q14 rfl (ae (cM (N':=["row"]) (no:=1) (cap:=[]) rfl rfl (aQ rfl) rfl (bT rfl) (cV (aa 0 (pv 0))) (fun _ _ _ _ _ _=>(ax 0 jx rfl (Or.inl rfl))) (fun _ _ _ _ _ _=>bH) (fun _ _ _ _ _ _=>(gy kZ rfl q14 rfl (ae (aa 0 (pv 0)) ar)))) ar)))) ar))
  Eu)))
abbrev fY:Stmt:=inClass (top 47) 1
def jo (q68:Addr):FS:=
  (bE (aq bM (af (aN bQ (A6 [q68] "four" (ag 0)) (aZ 0)) aE)))
theorem mB:aO ["self"] ["self"] (ay fY):=by walk_at "sc"
theorem lE {C:Addr}(F:eR K "cells" "System.cells" fY f fd)(hb:Binds K fd ["self"] [])(cl:pH K C)(hm:Meth K C "cells" f)(hf_four:∀C∈[q68],pH K C/\fz K C "four")(q15:mg "len" = none):
  kj P w K mg base (k+1) C "cells" 1 (cI 1 1 (jo q68)):=
 sQ F mB hb cl hm fun cdv A outer s H E hr=>(aB (aY (aS cH rfl q15 PySem.boot_len (ae (bI bJ (xE hf_four (aa 0 (pv 0))) aA (fun _ _=>rfl)) ar))))
abbrev ip:Stmt:=inClass (top 47) 2
def kf (q68:Addr):FS:=
  (bE (aq bM (af (aN bQ (aN bQ (A6 [q68] "four" (ag 0)) (aZ 3)) (aZ 0)) aE)))
theorem oV:aO ["self"] ["self"] (ay ip):=by walk_at "sc"
theorem nh {C:Addr}(F:eR K "ins" "System.ins" ip f fd)(hb:Binds K fd ["self"] [])(cl:pH K C)(hm:Meth K C "ins" f)(hf_four:∀C∈[q68],pH K C/\fz K C "four")(q15:mg "len" = none):
  kj P w K mg base (k+1) C "ins" 1 (cI 1 1 (kf q68)):=
 sQ F oV hb cl hm fun cdv A outer s H E hr=>(aB (aY (aS cH rfl q15 PySem.boot_len (ae (bI bJ (bI bJ (xE hf_four (aa 0 (pv 0))) aA (fun _ _=>rfl)) aA (fun _ _=>rfl)) ar))))
theorem jX:(["table"]:List Str).Nodup:=by decide +kernel
theorem jY:(["row"]:List Str).Nodup:=by decide +kernel
abbrev fI:Stmt:=inClass (top 47) 4
def iF (q68:Addr):FS:=
  (bE (aq il (af (cg 1 [] (bh (A6 [q68] "four" (ag 0))) (ai 0) az (cg 1 [] (bh (ag 0)) (ai 0) az (aq dList (bg 0)))) aE)))
theorem lI:aO ["self"] ["self"] (ay fI):=by walk_at "sc"
theorem kB {C:Addr}(F:eR K "tables" "System.tables" fI f fd)(hb:Binds K fd ["self"] [])(cl:pH K C)(hm:Meth K C "tables" f)(hf_four:∀C∈[q68],pH K C/\fz K C "four")(q24:mg "list" = none)(q14:mg "tuple" = none):
  kj P w K mg base (k+1) C "tables" 1 (cI 1 1 (iF q68)):=
 sQ F lI hb cl hm fun cdv A outer s H E hr=>(aB (aY (gy kZ rfl q14 rfl (ae (cM (N':=["table"]) (no:=1) (cap:=[]) rfl rfl (aQ rfl) rfl (bT rfl) (cV (xE hf_four (aa 0 (pv 0)))) (fun _ _ _ _ _ _=>(ax 0 jX rfl (Or.inl rfl))) (fun _ _ _ _ _ _=>bH) (fun _ _ _ _ _ _=>(cM (N':=["row"]) (no:=1) (cap:=[]) rfl rfl (aQ rfl) rfl (bT rfl) (cV (aa 0 (pv 0))) (fun _ _ _ _ _ _=>(ax 0 jY rfl (Or.inl rfl))) (fun _ _ _ _ _ _=>bH) (fun _ _ _ _ _ _=>(gy yj rfl q24 rfl (ae (aa 0 (pv 0)) ar)))))) ar))))
abbrev jN:Stmt:=top 48
def hV (q69:List T->Option T):FS:=
  (aR (cT (ux (dQ (eG (aq bu (af (ag 0) (af (fC (.ty "list")) aE))))) (ux (dQ (eG (aq bu (af (ag 3) (af (fC (.ty "list")) aE))))) (dQ (fG (jB zO zO (aZ 1) (aq bM (bg 3)) (aZ 2)))))) (bE (fC (.bl false))) cC)
  (aR (cT (ux (dQ (eG (aq bu (af (aN bQ (ag 3) (aZ 0)) (af (fC (.ty "list")) aE))))) (dQ (fG (jB zO zO (aZ 1) (aq bM (af (aN bQ (ag 3) (aZ 0)) aE)) (aZ 2))))) (bE (fC (.bl false))) cC)
  (aR (yy 4 5 6 (af (aq bM (bg 0)) (af (aq bM (af (aN bQ (ag 3) (aZ 0)) aE)) (af (aq bM (bg 3)) aE))))
  (bE (eD (aq q69 (af (ag 0) (af (ag 4) (bg 4)))) (eD (aq q69 (af (ag 1) (af (ag 4) (bg 5)))) (eD (aq q69 (af (ag 2) (af (ag 6) (bg 4)))) (aq q69 (af (ag 3) (af (ag 6) (bg 5)))))))))))
theorem lJ:aO ["move","push","look","through","cells","ins","outs"] ["move","push","look","through"] (ay jN):=by walk_at "sc"
theorem tq (F:eR K "is_system" "is_system" jN f fd)(hb:Binds K fd ["move","push","look","through"] [])(hm:mg "is_system" = some (.ref f))(q70:Def P w K mg base k "is_table" 3 q69)(q24:mg "list" = none)(q8:mg "isinstance" = none)(q15:mg "len" = none)(q71:mg "MOST_LINES" = some (.int 2 q72)):
  Def P w K mg base (k+1) "is_system" 4 (cI 7 4 (hV q69)):=
 bp F lJ hb hm fun cdv A outer s H E hr=>(au (fm (SW.st (qN (gR (iB (aS gD rfl q8 rfl (ae (aa 0 (pv 0)) (ae (jR rfl q24 rfl) ar))))) (qN (gR (iB (aS gD rfl q8 rfl (ae (aa 3 (pv 3)) (ae (jR rfl q24 rfl) ar))))) (pf (gR (vH yT yT aA (aS cH rfl q15 PySem.boot_len (ae (aa 3 (pv 3)) ar)) (gQ rfl q71))))))) (aB (aY qK)) cN)
  (au (fm (SW.st (qN (gR (iB (aS gD rfl q8 rfl (ae (bI bJ (aa 3 (pv 3)) aA (fun _ _=>rfl)) (ae (jR rfl q24 rfl) ar))))) (pf (gR (vH yT yT aA (aS cH rfl q15 PySem.boot_len (ae (bI bJ (aa 3 (pv 3)) aA (fun _ _=>rfl)) ar)) (gQ rfl q71)))))) (aB (aY qK)) cN)
  (au (Ey rfl lJ.nd rfl rfl rfl (by decide) (by decide) (by decide) rfl rfl rfl (ae (aS cH rfl q15 PySem.boot_len (ae (aa 0 (pv 0)) ar)) (ae (aS cH rfl q15 PySem.boot_len (ae (bI bJ (aa 3 (pv 3)) aA (fun _ _=>rfl)) ar)) (ae (aS cH rfl q15 PySem.boot_len (ae (aa 3 (pv 3)) ar)) ar))) rfl)
  (aB (aY (fL (aF q70 hr rfl (ae (aa 0 (pv 0)) (ae (aa 4 (pv 4)) (ae (aa 4 (pv 4)) ar))) (ak (ak (ak aD)))) (fL (aF q70 hr rfl (ae (aa 1 (pv 1)) (ae (aa 4 (pv 4)) (ae (aa 5 (pv 5)) ar))) (ak (ak (ak aD)))) (fL (aF q70 hr rfl (ae (aa 2 (pv 2)) (ae (aa 6 (pv 6)) (ae (aa 4 (pv 4)) ar))) (ak (ak (ak aD)))) (mE (aF q70 hr rfl (ae (aa 3 (pv 3)) (ae (aa 6 (pv 6)) (ae (aa 5 (pv 5)) ar))) (ak (ak (ak aD)))))))))))))
abbrev iz:Stmt:=top 50
def fO (q68:Addr)(q73 q74 q75:List T->Option T)(dM_System__tables dM_System__ins:List T->Option T):FS:=
  (aR (iJ (jq [(q68,dM_System__tables)] "tables" (ag 0) aE) (bF (av (ai 1) (av (ai 2) (av (ai 3) (av (ai 4) bq))))))
  (aR (aU 5 (aq q73 (af (aq bM (bg 1)) (af (aZ 0) aE))))
  (aR (eE (bW (af (aq bM (bg 1)) aE)) (ai 6) (aR (aU 5 (aq q74 (af (ag 5) (bg 2))))
  (aU 2 (aq q75 (af (ag 1) (af (ag 2) (af (jq [(q68,dM_System__ins)] "ins" (ag 0) aE) aE)))))))
  (bE (ag 5)))))
theorem bX:aO ["system","move","push","look","through","table","turn"] ["system"] (ay iz):=by walk_at "sc"
theorem oH (F:eR K "reach_table" "reach_table" iz f fd)(hb:Binds K fd ["system"] [])(hm:mg "reach_table" = some (.ref f))(q76:Def P w K mg base k "noughts" 2 q73)(q77:Def P w K mg base k "widened" 2 q74)(q78:Def P w K mg base k "product" 3 q75)(DM_tables:∀a∈[(q68,dM_System__tables)],kj P w K mg base k a.1 "tables" 1 a.2)(DM_ins:∀a∈[(q68,dM_System__ins)],kj P w K mg base k a.1 "ins" 1 a.2)(q15:mg "len" = none)(q51:mg "range" = none):
  Def P w K mg base (k+1) "reach_table" 1 (cI 7 1 (fO q68 q73 q74 q75 dM_System__tables dM_System__ins)):=
 bp F bX hb hm fun cdv A outer s H E hr=>(au (jm (lL DM_tables hr (aa 0 (pv 0))) (cX rfl (aG (ax 1 bX.nd rfl (Or.inl rfl)) (aG (ax 2 bX.nd rfl (Or.inl rfl)) (aG (ax 3 bX.nd rfl (Or.inl rfl)) (aG (ax 4 bX.nd rfl (Or.inl rfl)) bY)))) (aM (aM (aM (aM cU))))))
  (au (bf 5 bX.nd rfl (Or.inl rfl) (aF q76 hr rfl (ae (aS cH rfl q15 PySem.boot_len (ae (aa 1 (pv 1)) ar)) (ae aA ar)) (ak (ak aD))))
  (au (eO PassesOwn.never rfl (eK rfl q51 (ae (aS cH rfl q15 PySem.boot_len (ae (aa 1 (pv 1)) ar)) ar)) (ax 6 bX.nd rfl (Or.inl rfl)) (au (bf 5 bX.nd rfl (Or.inl rfl) (aF q77 hr rfl (ae (aa 5 (pv 5)) (ae (aa 2 (pv 2)) ar)) (ak (ak aD))))
  (aB (bf 2 bX.nd rfl (Or.inl rfl) (aF q78 hr rfl (ae (aa 1 (pv 1)) (ae (aa 2 (pv 2)) (ae (lL DM_ins hr (aa 0 (pv 0))) ar))) (ak (ak (ak aD))))))))
  (aB (aY (aa 5 (pv 5)))))))
abbrev iy:Stmt:=top 51
def kg (q79 q80:List T->Option T):FS:=
  (bE (aq bM (af (aq q80 (af (aq q79 (bg 0)) aE)) aE)))
theorem oX:aO ["system"] ["system"] (ay iy):=by walk_at "sc"
theorem oG (F:eR K "reach_count" "reach_count" iy f fd)(hb:Binds K fd ["system"] [])(hm:mg "reach_count" = some (.ref f))(q81:Def P w K mg base k "reach_table" 1 q79)(q82:Def P w K mg base k "first_rows" 1 q80)(q15:mg "len" = none):
  Def P w K mg base (k+1) "reach_count" 1 (cI 1 1 (kg q79 q80)):=
 bp F oX hb hm fun cdv A outer s H E hr=>(aB (aY (aS cH rfl q15 PySem.boot_len (ae (aF q82 hr rfl (ae (aF q81 hr rfl (ae (aa 0 (pv 0)) ar) (ak aD)) ar) (ak aD)) ar))))
abbrev jh:Stmt:=top 53
def gp (q68:Addr)(q83:List T->Option T)(dM_System__cells:List T->Option T):FS:=
  (bE (aq q83 (af (ag 0) (af (jq [(q68,dM_System__cells)] "cells" (ag 0) aE) aE))))
theorem qc:aO ["system"] ["system"] (ay jh):=by walk_at "sc"
theorem pZ (F:eR K "tell_table" "tell_table" jh f fd)(hb:Binds K fd ["system"] [])(hm:mg "tell_table" = some (.ref f))(q84:Def P w K mg base k "tell_rows" 2 q83)(DM_cells:∀a∈[(q68,dM_System__cells)],kj P w K mg base k a.1 "cells" 1 a.2):
  Def P w K mg base (k+1) "tell_table" 1 (cI 1 1 (gp q68 q83 dM_System__cells)):=
 bp F qc hb hm fun cdv A outer s H E hr=>(aB (aY (aF q84 hr rfl (ae (aa 0 (pv 0)) (ae (lL DM_cells hr (aa 0 (pv 0))) ar)) (ak (ak aD)))))
abbrev jO:Stmt:=top 54
def hW (q68:Addr)(q75:List T->Option T)(dM_System__tables:List T->Option T):FS:=
  (aR (iJ (jq [(q68,dM_System__tables)] "tables" (ag 0) aE) (bF (av (ai 2) (av (ai 3) (av (ai 4) (av (ai 5) bq))))))
  (aR (eW 6 aE)
  (aR (eE (bW (bg 1)) (ai 7) (aR (wt 6 (ag 4))
  (aU 4 (aq q75 (af (ag 4) (af (ag 2) (af (aq bM (bg 2)) aE)))))))
  (bE (ag 6)))))
theorem dc:aO ["system","many","move","push","look","through","rows","turn"] ["system","many"] (ay jO):=by walk_at "sc"
theorem tu (F:eR K "tell_rows" "tell_rows" jO f fd)(hb:Binds K fd ["system","many"] [])(hm:mg "tell_rows" = some (.ref f))(q78:Def P w K mg base k "product" 3 q75)(DM_tables:∀a∈[(q68,dM_System__tables)],kj P w K mg base k a.1 "tables" 1 a.2)(q51:mg "range" = none)(q15:mg "len" = none):
  Def P w K mg base (k+1) "tell_rows" 2 (cI 8 2 (hW q68 q75 dM_System__tables)):=
 bp F dc hb hm fun cdv A outer s H E hr=>(au (jm (lL DM_tables hr (aa 0 (pv 0))) (cX rfl (aG (ax 2 dc.nd rfl (Or.inl rfl)) (aG (ax 3 dc.nd rfl (Or.inl rfl)) (aG (ax 4 dc.nd rfl (Or.inl rfl)) (aG (ax 5 dc.nd rfl (Or.inl rfl)) bY)))) (aM (aM (aM (aM cU))))))
  (au (iM 6 dc.nd rfl (Or.inl rfl) ar)
  (au (eO PassesOwn.never rfl (eK rfl q51 (ae (aa 1 (pv 1)) ar)) (ax 7 dc.nd rfl (Or.inl rfl)) (au (Av 6 (pv 6) (aa 4 (pv 4)))
  (aB (bf 4 dc.nd rfl (Or.inl rfl) (aF q78 hr rfl (ae (aa 4 (pv 4)) (ae (aa 2 (pv 2)) (ae (aS cH rfl q15 PySem.boot_len (ae (aa 2 (pv 2)) ar)) ar))) (ak (ak (ak aD))))))))
  (aB (aY (aa 6 (pv 6)))))))
abbrev jg:Stmt:=top 55
def kU (q85 q80:List T->Option T):FS:=
  (bE (aq bM (af (aq q80 (af (aq q85 (bg 0)) aE)) aE)))
theorem qb:aO ["system"] ["system"] (ay jg):=by walk_at "sc"
theorem pY (F:eR K "tell_count" "tell_count" jg f fd)(hb:Binds K fd ["system"] [])(hm:mg "tell_count" = some (.ref f))(q86:Def P w K mg base k "tell_table" 1 q85)(q82:Def P w K mg base k "first_rows" 1 q80)(q15:mg "len" = none):
  Def P w K mg base (k+1) "tell_count" 1 (cI 1 1 (kU q85 q80)):=
 bp F qb hb hm fun cdv A outer s H E hr=>(aB (aY (aS cH rfl q15 PySem.boot_len (ae (aF q82 hr rfl (ae (aF q86 hr rfl (ae (aa 0 (pv 0)) ar) (ak aD)) ar) (ak aD)) ar))))
abbrev jJ:Stmt:=top 57
def gX:FS:=
  (aR (cT (fG (aN Fb (ag 1) (aq bM (bg 0)))) (bE (aN bQ (ag 0) (ag 1))) cC)
  (bE (aN cQ (aN bU (aN ck (ag 1) (aZ 2)) (aZ 104729)) (aZ 65537))))
theorem tQ:aO ["_law_script","_law_k"] ["_law_script","_law_k"] (ay jJ):=by walk_at "sc"
theorem sZ (F:eR K "_law_cell" "_law_cell" jJ f fd)(hb:Binds K fd ["_law_script","_law_k"] [])(hm:mg "_law_cell" = some (.ref f))(q15:mg "len" = none):
  Def P w K mg base (k+1) "_law_cell" 2 (cI 2 2 (gX)):=
 bp F tQ hb hm fun cdv A outer s H E hr=>(au (fm (du yU (aa 1 (pv 1)) (aS cH rfl q15 PySem.boot_len (ae (aa 0 (pv 0)) ar)) (cK _)) (aB (aY (bI bJ (aa 0 (pv 0)) (aa 1 (pv 1)) (fun _ _=>rfl)))) cN)
  (aB (aY (aT eh (aT cL (aT dk (aa 1 (pv 1)) aA) aA) aA))))
abbrev kE:Stmt:=top 58
def iQ:FS:=
  (aR (aU 2 (aN cQ (aN ck (aN ck (aN bU (aN cQ (ag 0) (aZ 2147483647)) (aZ 48271)) (aN bU (aZ 7919) (ag 1))) (aZ 13)) (aZ 2147483629)))
  (aR (aU 2 (aN cQ (aN ck (aN ck (aN bU (ag 2) (ag 2)) (aN bU (aZ 104729) (ag 1))) (aZ 7)) (aZ 2147483587)))
  (bE (aN cQ (aN bU (ag 2) (ag 2)) (aZ 2147483579)))))
theorem jP:aO ["_law_cell_here","_law_k","_law_number_here"] ["_law_cell_here","_law_k"] (ay kE):=by walk_at "sc"
theorem vk (F:eR K "_law_mix" "_law_mix" kE f fd)(hb:Binds K fd ["_law_cell_here","_law_k"] [])(hm:mg "_law_mix" = some (.ref f)):
  Def P w K mg base (k+1) "_law_mix" 2 (cI 3 2 (iQ)):=
 bp F jP hb hm fun cdv A outer s H E hr=>(au (bf 2 jP.nd rfl (Or.inl rfl) (aT eh (aT dk (aT dk (aT cL (aT eh (aa 0 (pv 0)) aA) aA) (aT cL aA (aa 1 (pv 1)))) aA) aA))
  (au (bf 2 jP.nd rfl (Or.inl rfl) (aT eh (aT dk (aT dk (aT cL (aa 2 (pv 2)) (aa 2 (pv 2))) (aT cL aA (aa 1 (pv 1)))) aA) aA))
  (aB (aY (aT eh (aT cL (aa 2 (pv 2)) (aa 2 (pv 2))) aA)))))
abbrev iq:Stmt:=top 59
def dz (q18:List T->Option T):FS:=
  (aR (cT (fG (aN lP (aN cQ (aN df (ag 0) (aZ 228)) (aZ 2)) (aZ 1))) (bE (di (af (aZ 0) (af (aZ 1) aE)))) cC)
  (bE (aq q18 (af (aN uC (aN cQ (ag 0) (aZ 19)) (aZ 9)) (af (aN ck (aZ 1) (aN cQ (aN df (ag 0) (aZ 19)) (aZ 12))) aE)))))
theorem oW:aO ["_law_number_here"] ["_law_number_here"] (ay iq):=by walk_at "sc"
theorem oA (F:eR K "_law_number" "_law_number" iq f fd)(hb:Binds K fd ["_law_number_here"] [])(hm:mg "_law_number" = some (.ref f))(q20:Def P w K mg base k "frac" 2 q18):
  Def P w K mg base (k+1) "_law_number" 1 (cI 1 1 (dz q18)):=
 bp F oW hb hm fun cdv A outer s H E hr=>(au (fm (du (mU hr.units) (aT eh (aT dg (aa 0 (pv 0)) aA) aA) aA (cK _)) (aB (aY (ek (ae aA (ae aA ar))))) cN)
  (aB (aY (aF q20 hr rfl (ae (aT BP (aT eh (aa 0 (pv 0)) aA) aA) (ae (aT dk aA (aT eh (aT dg (aa 0 (pv 0)) aA) aA)) ar)) (ak (ak aD))))))
abbrev kG:Stmt:=top 60
def iS (q87 q88:List T->Option T):FS:=
  (aR (eW 2 aE)
  (aR (aU 3 (aN df (ag 0) (aZ 2)))
  (aR (eE (bW (bg 1)) (ai 4) (aR (aU 5 (aN cQ (ag 3) (aZ 456)))
  (aR (aU 3 (aN df (ag 3) (aZ 456)))
  (aR (cT (fG (aN lP (aN cQ (ag 0) (aZ 2)) (aZ 0))) (aU 5 (aN cQ (aq q87 (af (aN df (ag 0) (aZ 2)) (bg 4))) (aZ 456))) cC)
  (iW 2 (aq q88 (bg 5)))))))
  (bE (ag 2)))))
theorem dN:aO ["_law_cell_here","_law_many","_law_row_here","_law_left","_law_k","_law_number_here"] ["_law_cell_here","_law_many"] (ay kG):=by walk_at "sc"
theorem vl (F:eR K "_law_row" "_law_row" kG f fd)(hb:Binds K fd ["_law_cell_here","_law_many"] [])(hm:mg "_law_row" = some (.ref f))(q89:Def P w K mg base k "_law_mix" 2 q87)(q90:Def P w K mg base k "_law_number" 1 q88)(q51:mg "range" = none):
  Def P w K mg base (k+1) "_law_row" 2 (cI 6 2 (iS q87 q88)):=
 bp F dN hb hm fun cdv A outer s H E hr=>(au (iM 2 dN.nd rfl (Or.inl rfl) ar)
  (au (bf 3 dN.nd rfl (Or.inl rfl) (aT dg (aa 0 (pv 0)) aA))
  (au (eO PassesOwn.never rfl (eK rfl q51 (ae (aa 1 (pv 1)) ar)) (ax 4 dN.nd rfl (Or.inl rfl)) (au (bf 5 dN.nd rfl (Or.inl rfl) (aT eh (aa 3 (pv 3)) aA))
  (au (bf 3 dN.nd rfl (Or.inl rfl) (aT dg (aa 3 (pv 3)) aA))
  (au (fm (du (mU hr.units) (aT eh (aa 0 (pv 0)) aA) aA (cK _)) (aB (bf 5 dN.nd rfl (Or.inl rfl) (aT eh (aF q89 hr rfl (ae (aT dg (aa 0 (pv 0)) aA) (ae (aa 4 (pv 4)) ar)) (ak (ak aD))) aA))) cN)
  (aB (iL 2 (pv 2) (aF q90 hr rfl (ae (aa 5 (pv 5)) ar) (ak aD))))))))
  (aB (aY (aa 2 (pv 2)))))))
theorem me:(["_law_k","_law_script","_law_at","_law_wide"]:List Str).Nodup:=by decide +kernel
abbrev ir:Stmt:=top 61
def fM (q91 q92:List T->Option T):FS:=
  (aR (aU 2 (aq q91 (af (ag 0) (bg 1))))
  (aR (aU 3 (aN bQ (kr (af (aZ 2) (af (aZ 1) (af (aZ 3) (af (aZ 2) (af (aZ 0) (af (aZ 3) (af (aZ 1) (af (aZ 4) aE))))))))) (aN cQ (ag 2) (aZ 8))))
  (aR (aU 4 (aN ck (aZ 1) (aN cQ (aN df (ag 2) (aZ 8)) (aZ 2))))
  (aR (aU 5 (aN ck (aZ 1) (aN cQ (aN df (ag 2) (aZ 16)) (aZ 2))))
  (aR (eW 6 aE)
  (aR (aU 7 (aN ck (ag 1) (aZ 1)))
  (aR (eE (bh (kr (af (di (af (ag 3) (bg 3))) (af (di (af (ag 3) (bg 4))) (af (di (af (ag 5) (bg 3))) (af (di (af (ag 5) (bg 4))) aE)))))) (bF (av (ai 8) (av (ai 9) bq))) (aR (iW 6 (cg 1 [0,7,9] (bW (bg 8)) (ai 0) az (aq q92 (af (aq q91 (af (ag 1) (af (aN ck (ag 2) (ag 0)) aE))) (bg 3)))))
  (aU 7 (aN ck (ag 7) (ag 8)))))
  (bE (ag 6)))))))))
theorem bP:aO ["_law_script","_law_start","_law_first","_law_many","_law_ins","_law_outs","_law_found","_law_at","_law_rows","_law_wide"] ["_law_script","_law_start"] (ay ir):=by walk_at "sc"
theorem oB (F:eR K "_law_tables" "_law_tables" ir f fd)(hb:Binds K fd ["_law_script","_law_start"] [])(hm:mg "_law_tables" = some (.ref f))(q93:Def P w K mg base k "_law_cell" 2 q91)(q94:Def P w K mg base k "_law_row" 2 q92)(q51:mg "range" = none):
  Def P w K mg base (k+1) "_law_tables" 2 (cI 10 2 (fM q91 q92)):=
 bp F bP hb hm fun cdv A outer s H E hr=>(au (bf 2 bP.nd rfl (Or.inl rfl) (aF q93 hr rfl (ae (aa 0 (pv 0)) (ae (aa 1 (pv 1)) ar)) (ak (ak aD))))
  (au (bf 3 bP.nd rfl (Or.inl rfl) (bI bJ (tV (ae aA (ae aA (ae aA (ae aA (ae aA (ae aA (ae aA (ae aA ar))))))))) (aT eh (aa 2 (pv 2)) aA) (fun _ _=>rfl)))
  (au (bf 4 bP.nd rfl (Or.inl rfl) (aT dk aA (aT eh (aT dg (aa 2 (pv 2)) aA) aA)))
  (au (bf 5 bP.nd rfl (Or.inl rfl) (aT dk aA (aT eh (aT dg (aa 2 (pv 2)) aA) aA)))
  (au (iM 6 bP.nd rfl (Or.inl rfl) ar)
  (au (bf 7 bP.nd rfl (Or.inr rfl) (aT dk (aa 1 (pv 1)) aA))
  (au (eO PassesOwn.never rfl (cV (tV (ae (ek (ae (aa 3 (pv 3)) (ae (aa 3 (pv 3)) ar))) (ae (ek (ae (aa 3 (pv 3)) (ae (aa 4 (pv 4)) ar))) (ae (ek (ae (aa 5 (pv 5)) (ae (aa 3 (pv 3)) ar))) (ae (ek (ae (aa 5 (pv 5)) (ae (aa 4 (pv 4)) ar))) ar)))))) (cX rfl (aG (ax 8 bP.nd rfl (Or.inl rfl)) (aG (ax 9 bP.nd rfl (Or.inr rfl)) bY)) (aM (aM cU))) (au (iL 6 (pv 6) (cM (N':=["_law_k","_law_script","_law_at","_law_wide"]) (no:=1) (cap:=[0,7,9]) rfl rfl (aQ rfl) rfl (bT rfl) (eK rfl q51 (ae (aa 8 (pv 8)) ar)) (fun _ _ _ _ _ _=>(ax 0 me rfl (Or.inl rfl))) (fun _ _ _ _ _ _=>bH) (fun _ _ _ _ _ _=>(aF q94 hr rfl (ae (aF q93 hr rfl (ae (aa 1 (pv 1)) (ae (aT dk (aa 2 (pv 2)) (aa 0 (pv 0))) ar)) (ak (ak aD))) (ae (aa 3 (pv 3)) ar)) (ak (ak aD))))))
  (aB (bf 7 bP.nd rfl (Or.inr rfl) (aT dk (aa 7 (pv 7)) (aa 8 (pv 8)))))))
  (aB (aY (aa 6 (pv 6)))))))))))
abbrev gL:Stmt:=top 62
def jz (q19 q16:List T->Option T):FS:=
  (aR (aU 2 (di (af (aZ 0) (af (aZ 1) aE))))
  (aR (eE (dq (af (ag 0) (bg 1))) (bF (av (ai 3) (av (ai 4) bq))) (aU 2 (aq q16 (af (ag 2) (af (aq q19 (af (ag 3) (bg 4))) aE)))))
  (bE (ag 2))))
theorem dv:aO ["_law_one","_law_other","_law_found","_law_here","_law_there"] ["_law_one","_law_other"] (ay gL):=by walk_at "sc"
theorem nq (F:eR K "_law_weighed" "_law_weighed" gL f fd)(hb:Binds K fd ["_law_one","_law_other"] [])(hm:mg "_law_weighed" = some (.ref f))(q21:Def P w K mg base k "times" 2 q19)(q17:Def P w K mg base k "plus" 2 q16)(q28:mg "zip" = none):
  Def P w K mg base (k+1) "_law_weighed" 2 (cI 5 2 (jz q19 q16)):=
 bp F dv hb hm fun cdv A outer s H E hr=>(au (bf 2 dv.nd rfl (Or.inl rfl) (ek (ae aA (ae aA ar))))
  (au (eO PassesOwn.never rfl (kK rfl q28 (ae (aa 0 (pv 0)) (ae (aa 1 (pv 1)) ar))) (cX rfl (aG (ax 3 dv.nd rfl (Or.inl rfl)) (aG (ax 4 dv.nd rfl (Or.inl rfl)) bY)) (aM (aM cU))) (aB (bf 2 dv.nd rfl (Or.inl rfl) (aF q17 hr rfl (ae (aa 2 (pv 2)) (ae (aF q21 hr rfl (ae (aa 3 (pv 3)) (ae (aa 4 (pv 4)) ar)) (ak (ak aD))) ar)) (ak (ak aD))))))
  (aB (aY (aa 2 (pv 2))))))
theorem ll:(["_law_k","_law_row_here","_law_other"]:List Str).Nodup:=by decide +kernel
theorem lu:(["_law_line","_law_k"]:List Str).Nodup:=by decide +kernel
abbrev gK:Stmt:=top 63
def eT (q95:List T->Option T):FS:=
  (aR (eW 3 aE)
  (aR (eE (bh (ag 0)) (ai 4) (iW 3 (cg 1 [4,1] (bW (bg 2)) (ai 0) az (aq q95 (af (ag 1) (af (cg 1 [0] (bh (ag 2)) (ai 0) az (aN bQ (ag 0) (ag 1))) aE))))))
  (bE (ag 3))))
theorem gb:aO ["_law_table","_law_other","_law_wide","_law_found","_law_row_here"] ["_law_table","_law_other","_law_wide"] (ay gK):=by walk_at "sc"
theorem nk (F:eR K "_law_product" "_law_product" gK f fd)(hb:Binds K fd ["_law_table","_law_other","_law_wide"] [])(hm:mg "_law_product" = some (.ref f))(q96:Def P w K mg base k "_law_weighed" 2 q95)(q51:mg "range" = none):
  Def P w K mg base (k+1) "_law_product" 3 (cI 5 3 (eT q95)):=
 bp F gb hb hm fun cdv A outer s H E hr=>(au (iM 3 gb.nd rfl (Or.inl rfl) ar)
  (au (eO PassesOwn.never rfl (cV (aa 0 (pv 0))) (ax 4 gb.nd rfl (Or.inr rfl)) (aB (iL 3 (pv 3) (cM (N':=["_law_k","_law_row_here","_law_other"]) (no:=1) (cap:=[4,1]) rfl rfl (aQ rfl) rfl (bT rfl) (eK rfl q51 (ae (aa 2 (pv 2)) ar)) (fun _ _ _ _ _ _=>(ax 0 ll rfl (Or.inr rfl))) (fun _ _ _ _ _ _=>bH) (fun _ _ _ _ _ _=>(aF q96 hr rfl (ae (aa 1 (pv 1)) (ae (cM (N':=["_law_line","_law_k"]) (no:=1) (cap:=[0]) rfl rfl (aQ rfl) rfl (bT rfl) (cV (aa 2 (pv 2))) (fun _ _ _ _ _ _=>(ax 0 lu rfl (Or.inl rfl))) (fun _ _ _ _ _ _=>bH) (fun _ _ _ _ _ _=>(bI bJ (aa 0 (pv 0)) (aa 1 (pv 1)) (fun _ _=>rfl)))) ar)) (ak (ak aD))))))))
  (aB (aY (aa 3 (pv 3))))))
theorem ot:(["_law_row_here"]:List Str).Nodup:=by decide +kernel
theorem ou:(["_law_k","_law_rows","_law_column"]:List Str).Nodup:=by decide +kernel
theorem jG:(["_law_one","_law_other","_law_by"]:List Str).Nodup:=by decide +kernel
abbrev jK:Stmt:=top 64
def gY (q97 q19 q98:List T->Option T):FS:=
  (aR (uz 2 (cJ 1 [] (bh (ag 0)) (ai 0) az (eX (aq dList (bg 0)))))
  (aR (aU 3 (aZ 0))
  (aR (eE (bW (bg 1)) (ai 4) (aR (n6 2 5 (cJ 1 [2,4] (ku (af (ag 3) (af (gF 2 (aq bM (bg 2))) aE))) (ai 0) (fG (aN nF (aN bQ (aN bQ (ag 1) (ag 0)) (ag 2)) (di (af (aZ 0) (af (aZ 1) aE))))) (eX (ag 0))))
  (cT (fG (aN nF (ag 5) (kr aE))) (aR (A7 2 (ag 3) (lW 2 (aN bQ (ag 5) (aZ 0))))
  (aR (eE (ku (af (aN ck (ag 3) (aZ 1)) (af (gF 2 (aq bM (bg 2))) aE))) (ai 6) (aR (aU 7 (aq q97 (af (aN bQ (ee 2 (ag 6)) (ag 4)) (af (aN bQ (ee 2 (ag 3)) (ag 4)) aE))))
  (n0 2 (cg 2 [7] (dq (af (ee 2 (ag 6)) (af (ee 2 (ag 3)) aE))) (bF (av (ai 0) (av (ai 1) bq))) az (aq q98 (af (ag 0) (af (aq q19 (af (ag 2) (bg 1))) aE)))) (ag 6))))
  (aU 3 (aN ck (ag 3) (aZ 1))))) cC)))
  (bE (ag 3)))))
theorem da:aO ["_law_table","_law_wide","_law_rows","_law_count_here","_law_column","_law_some","_law_k","_law_by"] ["_law_table","_law_wide"] (ay jK):=by walk_at "sc"
theorem tf (F:eR K "_law_rank" "_law_rank" jK f fd)(hb:Binds K fd ["_law_table","_law_wide"] [])(hm:mg "_law_rank" = some (.ref f))(q99:Def P w K mg base k "over" 2 q97)(q21:Def P w K mg base k "times" 2 q19)(q100:Def P w K mg base k "minus" 2 q98)(q24:mg "list" = none)(q51:mg "range" = none)(q15:mg "len" = none)(q28:mg "zip" = none):
  Def P w K mg base (k+1) "_law_rank" 2 (cI 8 2 (gY q97 q19 q98)):=
 bp F da hb hm fun cdv A outer s H E hr=>(au (Ez 2 da.nd rfl (Or.inr rfl) (fT (N':=["_law_row_here"]) (no:=1) (cap:=[]) rfl rfl (aQ rfl) rfl (bT rfl) (cV (aa 0 (pv 0))) (fun _ _ _ _ _ _=>(ax 0 ot rfl (Or.inl rfl))) (fun _ _ _ _ _ _=>bH) (fun _ _ _ _ _ _=>(SE.seo (gy yj rfl q24 rfl (ae (aa 0 (pv 0)) ar))))))
  (au (bf 3 da.nd rfl (Or.inl rfl) aA)
  (au (eO PassesOwn.never rfl (eK rfl q51 (ae (aa 1 (pv 1)) ar)) (ax 4 da.nd rfl (Or.inr rfl)) (au (EA 2 (vF da.nd rfl rfl (N':=["_law_k","_law_rows","_law_column"]) (no:=1) (cap:=[2,4]) rfl rfl (aQ rfl) rfl (bT rfl) (zt rfl q51 (ae (aa 3 (pv 3)) (ae (tW 2 (aS cH rfl q15 PySem.boot_len (ae (aa 2 (pv 2)) ar))) ar))) (fun _ _ _ _ _ _=>(ax 0 ou rfl (Or.inl rfl))) (fun _ _ _ _ _ _=>(zy (du (qF hr.units) (bI bJ (bI bJ (aa 1 (pv 1)) (aa 0 (pv 0)) (fun _ _=>rfl)) (aa 2 (pv 2)) (fun _ _=>rfl)) (ek (ae aA (ae aA ar))) (cK _)))) (fun _ _ _ _ _ _=>(SE.seo (aa 0 (pv 0))))))
  (aB (fm (du (qF hr.units) (aa 5 (pv 5)) (tV ar) (cK _)) (au (Aw 2 (pv 2) (aa 3 (pv 3)) (Cd 2 (pv 2) (bI bJ (aa 5 (pv 5)) aA (fun _ _=>rfl))))
  (au (eO PassesOwn.never rfl (zt rfl q51 (ae (aT dk (aa 3 (pv 3)) aA) (ae (tW 2 (aS cH rfl q15 PySem.boot_len (ae (aa 2 (pv 2)) ar))) ar))) (ax 6 da.nd rfl (Or.inl rfl)) (au (bf 7 da.nd rfl (Or.inr rfl) (aF q99 hr rfl (ae (bI bJ (lK 2 (pv 2) (aa 6 (pv 6)) (fun _ _=>rfl)) (aa 4 (pv 4)) (fun _ _=>rfl)) (ae (bI bJ (lK 2 (pv 2) (aa 3 (pv 3)) (fun _ _=>rfl)) (aa 4 (pv 4)) (fun _ _=>rfl)) ar)) (ak (ak aD))))
  (aB (Ci 2 (pv 2) (cM (N':=["_law_one","_law_other","_law_by"]) (no:=2) (cap:=[7]) rfl rfl (aQ rfl) rfl (bT rfl) (kK rfl q28 (ae (lK 2 (pv 2) (aa 6 (pv 6)) (fun _ _=>rfl)) (ae (lK 2 (pv 2) (aa 3 (pv 3)) (fun _ _=>rfl)) ar))) (fun _ _ _ _ _ _=>(cX rfl (aG (ax 0 jG rfl (Or.inl rfl)) (aG (ax 1 jG rfl (Or.inl rfl)) bY)) (aM (aM cU)))) (fun _ _ _ _ _ _=>bH) (fun _ _ _ _ _ _=>(aF q100 hr rfl (ae (aa 0 (pv 0)) (ae (aF q21 hr rfl (ae (aa 2 (pv 2)) (ae (aa 1 (pv 1)) ar)) (ak (ak aD))) ar)) (ak (ak aD))))) (aa 6 (pv 6))))))
  (aB (bf 3 da.nd rfl (Or.inl rfl) (aT dk (aa 3 (pv 3)) aA))))) cN))))
  (aB (aY (aa 3 (pv 3)))))))
theorem nc:(["_law_row_here"]:List Str).Nodup:=by decide +kernel
theorem jt:(["_law_row_here","_law_more"]:List Str).Nodup:=by decide +kernel
abbrev je:Stmt:=top 65
def gm (q101:List T->Option T):FS:=
  (aR (iJ (ag 0) (uF (av (ai 1) (av (ai 2) (av (ai 3) (av (ai 4) bq))))))
  (aR (aU 5 (aq bM (af (aN bQ (ag 4) (aZ 0)) aE)))
  (aR (eV 6 1 [] (bh (ag 1)) (ai 0) az (kr aE))
  (aR (aU 7 (ag 2))
  (aR (eE (bW (af (aq bM (bg 1)) aE)) (ai 8) (aR (eV 6 2 [] (dq (af (ag 6) (bg 7))) (bF (av (ai 0) (av (ai 1) bq))) az (aN ck (ag 0) (ag 1)))
  (aU 7 (aq q101 (af (ag 1) (af (ag 7) (bg 5)))))))
  (bE (ag 6)))))))
theorem bO:aO ["_law_tables_here","_law_move","_law_push","_law_look","_law_through","_law_wide","_law_found","_law_here","_law_turn"] ["_law_tables_here"] (ay je):=by walk_at "sc"
theorem pW (F:eR K "_law_reach" "_law_reach" je f fd)(hb:Binds K fd ["_law_tables_here"] [])(hm:mg "_law_reach" = some (.ref f))(q102:Def P w K mg base k "_law_product" 3 q101)(q15:mg "len" = none)(q51:mg "range" = none)(q28:mg "zip" = none):
  Def P w K mg base (k+1) "_law_reach" 1 (cI 9 1 (gm q101)):=
 bp F bO hb hm fun cdv A outer s H E hr=>(au (jm (aa 0 (pv 0)) (Cf rfl (aG (ax 1 bO.nd rfl (Or.inl rfl)) (aG (ax 2 bO.nd rfl (Or.inl rfl)) (aG (ax 3 bO.nd rfl (Or.inl rfl)) (aG (ax 4 bO.nd rfl (Or.inl rfl)) bY)))) (aM (aM (aM (aM cU))))))
  (au (bf 5 bO.nd rfl (Or.inl rfl) (aS cH rfl q15 PySem.boot_len (ae (bI bJ (aa 4 (pv 4)) aA (fun _ _=>rfl)) ar)))
  (au (kL bO.nd rfl rfl (N':=["_law_row_here"]) (no:=1) (cap:=[]) rfl rfl (aQ rfl) rfl (bT rfl) (cV (aa 1 (pv 1))) (fun _ _ _ _ _ _=>(ax 0 nc rfl (Or.inl rfl))) (fun _ _ _ _ _ _=>bH) (fun _ _ _ _ _ _=>(tV ar)))
  (au (bf 7 bO.nd rfl (Or.inl rfl) (aa 2 (pv 2)))
  (au (eO PassesOwn.never rfl (eK rfl q51 (ae (aS cH rfl q15 PySem.boot_len (ae (aa 1 (pv 1)) ar)) ar)) (ax 8 bO.nd rfl (Or.inl rfl)) (au (kL bO.nd rfl rfl (N':=["_law_row_here","_law_more"]) (no:=2) (cap:=[]) rfl rfl (aQ rfl) rfl (bT rfl) (kK rfl q28 (ae (aa 6 (pv 6)) (ae (aa 7 (pv 7)) ar))) (fun _ _ _ _ _ _=>(cX rfl (aG (ax 0 jt rfl (Or.inl rfl)) (aG (ax 1 jt rfl (Or.inl rfl)) bY)) (aM (aM cU)))) (fun _ _ _ _ _ _=>bH) (fun _ _ _ _ _ _=>(aT dk (aa 0 (pv 0)) (aa 1 (pv 1)))))
  (aB (bf 7 bO.nd rfl (Or.inl rfl) (aF q102 hr rfl (ae (aa 1 (pv 1)) (ae (aa 7 (pv 7)) (ae (aa 5 (pv 5)) ar))) (ak (ak (ak aD))))))))
  (aB (aY (aa 6 (pv 6)))))))))
abbrev jM:Stmt:=top 66
def hG (q101:List T->Option T):FS:=
  (aR (iJ (ag 0) (uF (av (ai 1) (av (ai 2) (av (ai 3) (av (ai 4) bq))))))
  (aR (eW 5 aE)
  (aR (aU 6 (ag 3))
  (aR (eE (bW (af (aq bM (bg 1)) aE)) (ai 7) (aR (aU 5 (aN ck (ag 5) (ag 6)))
  (aU 6 (aq q101 (af (ag 6) (af (ag 1) (af (aq bM (bg 1)) aE)))))))
  (bE (ag 5))))))
theorem cG:aO ["_law_tables_here","_law_move","_law_push","_law_look","_law_through","_law_found","_law_here","_law_turn"] ["_law_tables_here"] (ay jM):=by walk_at "sc"
theorem tm (F:eR K "_law_tell" "_law_tell" jM f fd)(hb:Binds K fd ["_law_tables_here"] [])(hm:mg "_law_tell" = some (.ref f))(q102:Def P w K mg base k "_law_product" 3 q101)(q51:mg "range" = none)(q15:mg "len" = none):
  Def P w K mg base (k+1) "_law_tell" 1 (cI 8 1 (hG q101)):=
 bp F cG hb hm fun cdv A outer s H E hr=>(au (jm (aa 0 (pv 0)) (Cf rfl (aG (ax 1 cG.nd rfl (Or.inl rfl)) (aG (ax 2 cG.nd rfl (Or.inl rfl)) (aG (ax 3 cG.nd rfl (Or.inl rfl)) (aG (ax 4 cG.nd rfl (Or.inl rfl)) bY)))) (aM (aM (aM (aM cU))))))
  (au (iM 5 cG.nd rfl (Or.inl rfl) ar)
  (au (bf 6 cG.nd rfl (Or.inl rfl) (aa 3 (pv 3)))
  (au (eO PassesOwn.never rfl (eK rfl q51 (ae (aS cH rfl q15 PySem.boot_len (ae (aa 1 (pv 1)) ar)) ar)) (ax 7 cG.nd rfl (Or.inl rfl)) (au (bf 5 cG.nd rfl (Or.inl rfl) (aT dk (aa 5 (pv 5)) (aa 6 (pv 6))))
  (aB (bf 6 cG.nd rfl (Or.inl rfl) (aF q102 hr rfl (ae (aa 6 (pv 6)) (ae (aa 1 (pv 1)) (ae (aS cH rfl q15 PySem.boot_len (ae (aa 1 (pv 1)) ar)) ar))) (ak (ak (ak aD))))))))
  (aB (aY (aa 5 (pv 5))))))))
abbrev jL:Stmt:=top 67
def gZ (q79 q85:List T->Option T):FS:=
  (nC 3 4 0 [(337,q79),(351,q85)] (bg 1) (ux (dQ (eG (aq bu (af (ag 3) (af (fC (.ty "list")) aE))))) (fG (aN nF (ag 3) (ag 2))))
  (bE (aN lP (nZ 0 [(337,q79),(351,q85)] (bg 1)) (ag 2))))
theorem jj:aO ["_law_call","_law_system","_law_due","_law_found","_law_row_here"] ["_law_call","_law_system","_law_due"] (ay jL):=by walk_at "sc"
theorem tj (F:eR K "_law_same" "_law_same" jL f fd)(hb:Binds K fd ["_law_call","_law_system","_law_due"] [])(hm:mg "_law_same" = some (.ref f))(q81:Def P w K mg base k "reach_table" 1 q79)(q86:Def P w K mg base k "tell_table" 1 q85)(q24:mg "list" = none)(q8:mg "isinstance" = none)(q103:mg "reach_table" = some (.ref 337))(q104:mg "tell_table" = some (.ref 351)):
  Def P w K mg base (k+1) "_law_same" 3 (cI 5 3 (gZ q79 q85)):=
 bp F jj hb hm fun cdv A outer s H E hr=>(xJ (vP.two q81 q103 q86 q104) hr (pv 0) (ae (aa 1 (pv 1)) ar) (ak aD) jj.nd rfl (Or.inl rfl) (SW.st (qN (gR (iB (aS gD rfl q8 rfl (ae (aa 3 (pv 3)) (ae (jR rfl q24 rfl) ar))))) (pf (du (qF hr.units) (aa 3 (pv 3)) (aa 2 (pv 2)) (cK _))))) (aB (aY qK))
  (aB (aY (mD (mU hr.units) (Cb (vP.two q81 q103 q86 q104) hr (pv 0) (ae (aa 1 (pv 1)) ar) (ak aD)) (aa 2 (pv 2)) (cK _)))) PassesOwn.never rfl (yX jj.nd rfl (Or.inl rfl)) (pv 3) (pv 4) (pv 3) (by decide))
abbrev jd:Stmt:=top 68
def gj:FS:=
  (bE (eD (aq bu (af (ag 0) (af (fC (.ty "int")) aE))) (eD (n9 zQ (aq bu (af (ag 0) (af (fC (.ty "bool")) aE)))) (aN lP (ag 0) (ag 1)))))
theorem qa:aO ["_law_found","_law_due"] ["_law_found","_law_due"] (ay jd):=by walk_at "sc"
theorem pV (F:eR K "_law_count" "_law_count" jd f fd)(hb:Binds K fd ["_law_found","_law_due"] [])(hm:mg "_law_count" = some (.ref f))(q7:mg "int" = none)(q8:mg "isinstance" = none)(q9:mg "bool" = none):
  Def P w K mg base (k+1) "_law_count" 2 (cI 2 2 (gj)):=
 bp F qa hb hm fun cdv A outer s H E hr=>(aB (aY (fL (aS gD rfl q8 rfl (ae (aa 0 (pv 0)) (ae (jR rfl q7 rfl) ar))) (fL (Cc (aS gD rfl q8 rfl (ae (aa 0 (pv 0)) (ae (jR rfl q9 rfl) ar)))) (mE (mD (mU hr.units) (aa 0 (pv 0)) (aa 1 (pv 1)) (cK _)))))))
end
end My
set_option maxHeartbeats 4000000
namespace My
open PySem PySem.Spec PyProof.Rows L2 TM
variable {K:PySem.W.Frag}
abbrev qI:Stmt:=top 69
def qh (q68:Addr)(q105 q106 q107 q108 q109 q110 q111 q112:List T->Option T)(dI_System:List T->Option vO):FS:=
  (aR (aU 1 (aq q105 (af (ag 0) (af (aZ 0) aE))))
  (aR (aU 2 (uw q68 dI_System (af (aN bQ (ag 1) (aZ 0)) (af (aN bQ (ag 1) (aZ 1)) (af (aN bQ (ag 1) (aZ 2)) (af (aN bQ (ag 1) (aZ 3)) aE))))))
  (aR (aU 3 (aq bM (af (aN bQ (ag 1) (aZ 0)) aE)))
  (aR (aU 4 (aq q106 (bg 1)))
  (aR (aU 5 (aq q107 (bg 1)))
  (aR (cT (ux (dQ (eG (aq q108 (af (fC (.ptr 337)) (af (ag 2) (bg 4)))))) (dQ (eG (aq q108 (af (fC (.ptr 351)) (af (ag 2) (bg 5))))))) (bE (fC (.bl false))) cC)
  (aR (cT (dQ (eG (aq q111 (af (aq q109 (bg 2)) (af (aq q110 (af (ag 4) (af (aN bU (ag 3) (aq bM (af (aN bQ (aN bQ (ag 1) (aZ 3)) (aZ 0)) aE))) aE))) aE))))) (bE (fC (.bl false))) cC)
  (bE (aq q111 (af (aq q112 (bg 2)) (af (aq q110 (af (ag 5) (bg 3))) aE)))))))))))
theorem mC:aO ["_law_script","_law_tables_here","_law_system","_law_many","_law_reach_here","_law_tell_here"] ["_law_script"] (ay qI):=by walk_at "sc"
theorem Gw (F:eR K "law" "law" qI f fd)(q113:Def P w K mg base k "_law_tables" 2 q105)(q114:Def P w K mg base k "_law_reach" 1 q106)(q115:Def P w K mg base k "_law_tell" 1 q107)(q116:Def P w K mg base k "_law_same" 3 q108)(q117:Def P w K mg base k "reach_count" 1 q109)(q118:Def P w K mg base k "_law_rank" 2 q110)(q119:Def P w K mg base k "_law_count" 2 q111)(q120:Def P w K mg base k "tell_count" 1 q112)(DI_System:uh P w K mg base k "System" q68 4 dI_System)(q15:mg "len" = none)(q103:mg "reach_table" = some (.ref 337))(q104:mg "tell_table" = some (.ref 351)):
  gz P w K mg base pG (k+1) f fd ["_law_script"] (spT K 1 (cI 6 1 (qh q68 q105 q106 q107 q108 q109 q110 q111 q112 dI_System))):=
 Dh F mC fun cdv A outer s H E hr=>(au (bf 1 mC.nd rfl (Or.inl rfl) (aF q113 hr rfl (ae (aa 0 (pv 0)) (ae aA ar)) (ak (ak aD))))
  (au (bf 2 mC.nd rfl (Or.inl rfl) (Em DI_System hr rfl (ae (bI bJ (aa 1 (pv 1)) aA (fun _ _=>rfl)) (ae (bI bJ (aa 1 (pv 1)) aA (fun _ _=>rfl)) (ae (bI bJ (aa 1 (pv 1)) aA (fun _ _=>rfl)) (ae (bI bJ (aa 1 (pv 1)) aA (fun _ _=>rfl)) ar)))) (ak (ak (ak (ak aD))))))
  (au (bf 3 mC.nd rfl (Or.inl rfl) (aS cH rfl q15 PySem.boot_len (ae (bI bJ (aa 1 (pv 1)) aA (fun _ _=>rfl)) ar)))
  (au (bf 4 mC.nd rfl (Or.inl rfl) (aF q114 hr rfl (ae (aa 1 (pv 1)) ar) (ak aD)))
  (au (bf 5 mC.nd rfl (Or.inl rfl) (aF q115 hr rfl (ae (aa 1 (pv 1)) ar) (ak aD)))
  (au (fm (SW.st (qN (gR (iB (aF q116 hr rfl (ae (Ce rfl q103) (ae (aa 2 (pv 2)) (ae (aa 4 (pv 4)) ar))) (ak (ak (ak aD)))))) (pf (gR (iB (aF q116 hr rfl (ae (Ce rfl q104) (ae (aa 2 (pv 2)) (ae (aa 5 (pv 5)) ar))) (ak (ak (ak aD))))))))) (aB (aY qK)) cN)
  (au (fm (gR (iB (aF q119 hr rfl (ae (aF q117 hr rfl (ae (aa 2 (pv 2)) ar) (ak aD)) (ae (aF q118 hr rfl (ae (aa 4 (pv 4)) (ae (aT cL (aa 3 (pv 3)) (aS cH rfl q15 PySem.boot_len (ae (bI bJ (bI bJ (aa 1 (pv 1)) aA (fun _ _=>rfl)) aA (fun _ _=>rfl)) ar))) ar)) (ak (ak aD))) ar)) (ak (ak aD))))) (aB (aY qK)) cN)
  (aB (aY (aF q119 hr rfl (ae (aF q120 hr rfl (ae (aa 2 (pv 2)) ar) (ak aD)) (ae (aF q118 hr rfl (ae (aa 5 (pv 5)) (ae (aa 3 (pv 3)) ar)) (ak (ak aD))) ar)) (ak (ak aD))))))))))))
end My
namespace Qm
abbrev iE (a b:Int):Prop:=Int.gcd a b=1
theorem rG {a b:Int}(h:Nat.Coprime a.natAbs b.natAbs):iE a b:=h
theorem iE.symm {a b:Int}(h:iE a b):iE b a:=by unfold iE;rw [Int.gcd_comm];exact h
theorem iE.mulL {a b c:Int}(h:iE a c)(h':iE b c):iE (a*b) c:=rG (by rw [Int.natAbs_mul];exact Nat.Coprime.mul_left h h')
theorem iE.mulR {a b c:Int}(h:iE c a)(h':iE c b):iE c (a*b):=rG (by rw [Int.natAbs_mul];exact Nat.Coprime.mul_right h h')
theorem iE.dvdL {a b c:Int}(h:iE b c)(d:a∣b):iE a c:=rG (Nat.Coprime.coprime_dvd_left (Int.natAbs_dvd_natAbs.mpr d) h)
theorem iE.dvdR {a b c:Int}(h:iE c b)(d:a∣b):iE c a:=rG (Nat.Coprime.coprime_dvd_right (Int.natAbs_dvd_natAbs.mpr d) h)
theorem iE.addL {a b c:Int}(h:iE a c):iE (a+b*c) c:=by unfold iE;rw [Int.gcd_add_mul_right_left];exact h
theorem split {a b:Int}(h:b≠0):∃x y:Int,a=(Int.gcd a b:Int)*x/\b=(Int.gcd a b:Int)*y/\iE x y/\(Int.gcd a b:Int)≠0:=by
 have hg:(Int.gcd a b:Int)≠0:=by
  intro z
  have:Int.gcd a b=0:=by omega
  rw [Int.gcd_eq_zero_iff] at this
  exact h this.2
 obtain⟨x,hx⟩:=Int.gcd_dvd_left a b
 obtain⟨y,hy⟩:=Int.gcd_dvd_right a b
 refine⟨x,y,hx,hy,?_,hg⟩
 have e:Int.gcd a b=Int.gcd a b*Int.gcd x y:=by
  have:=Int.gcd_mul_left (Int.gcd a b:Int) x y
  rw [<- hx,<- hy] at this
  simpa using this
 have hp:0<Int.gcd a b:=by omega
 have:=Nat.eq_of_mul_eq_mul_left hp (show Int.gcd a b*Int.gcd x y=Int.gcd a b*1 by omega)
 exact this
theorem eH {a g x:Int}(h:a=g*x)(hg:g≠0):a.fdiv g=x:=by rw [h];exact Int.mul_fdiv_cancel_left x hg
theorem Hg {a b c d:Int}(hb:0<b)(hd:0<d)(h1:iE a b)(h2:iE c d)(s top low:Int)(es:s=Int.gcd b d)(et:top=a*d.fdiv s+c*b.fdiv s)(el:low=Int.gcd top s):
  top.fdiv low=(a*d+c*b).fdiv (Int.gcd (a*d+c*b) (b*d))/\b.fdiv s*d.fdiv low=(b*d).fdiv (Int.gcd (a*d+c*b) (b*d))/\s≠0/\low≠0:=by
 obtain⟨x,y,hx,hy,hc,hs⟩:=split (a:=b) (b:=d) (by omega)
 rw [<- es] at hx hy hs
 have ex:b.fdiv s=x:=eH hx hs
 have ey:d.fdiv s=y:=eH hy hs
 rw [ex,ey] at et
 have cx:iE top x:=by
  have q1:iE (a*y) x:=iE.mulL (h1.dvdR ⟨s,by rw [hx,Int.mul_comm]⟩) hc.symm
  have q2:=q1.addL (b:=c)
  rw [<- et] at q2
  exact q2
 have cy:iE top y:=by
  have q1:iE (c*x) y:=iE.mulL (h2.dvdR ⟨s,by rw [hy,Int.mul_comm]⟩) hc
  have q2:=q1.addL (b:=a)
  rw [Int.add_comm,<- et] at q2
  exact q2
 obtain⟨u,v,hu,hv,_,hl⟩:=split (a:=top) (b:=s) hs
 rw [<- el] at hu hv hl
 have e1:a*d+c*b=s*top:=by
  rw [et]
  calc a*d+c*b=a*(s*y)+c*(s*x):=by rw [<- hx,<- hy]
   _=s*(a*y+c*x):=by rw [Int.mul_add,Int.mul_left_comm,Int.mul_left_comm c]
 have e2:b*d=s*(x*(y*s)):=by
  calc b*d=(s*x)*(s*y):=by rw [<- hx,<- hy]
   _=s*(x*(y*s)):=by rw [Int.mul_assoc,Int.mul_comm y s]
 have sp:0≤s:=by rw [es];omega
 have lp:0≤low:=by rw [el];omega
 have eg:((Int.gcd (a*d+c*b) (b*d):Nat):Int)=s*low:=by
  rw [e1,e2,Int.gcd_mul_left]
  have k1:Int.gcd top (x*(y*s))=Int.gcd top s:=by
   show Nat.gcd top.natAbs (x*(y*s)).natAbs=Nat.gcd top.natAbs s.natAbs
   rw [Int.natAbs_mul,Int.natAbs_mul,Nat.Coprime.gcd_mul_left_cancel_right _ (Nat.Coprime.symm cx),Nat.Coprime.gcd_mul_left_cancel_right _ (Nat.Coprime.symm cy)]
  rw [k1,el]
  push_cast
  rw [Int.natAbs_of_nonneg sp]
 have hsl:s*low≠0:=Int.mul_ne_zero hs hl
 have tl:top.fdiv low=u:=eH hu hl
 have dl:d.fdiv low=v*y:=eH (by rw [hy,hv,Int.mul_assoc]) hl
 refine⟨?_,?_,hs,hl⟩
 ·rw [eg,tl,e1]
  exact (eH (by rw [Int.mul_assoc,<- hu]) hsl).symm
 ·rw [eg,ex,dl,e2]
  refine (eH ?_ hsl).symm
  calc s*(x*(y*s))=s*(x*(y*(low*v))):=by rw [<- hv]
   _=s*low*(x*(v*y)):=by
    rw [Int.mul_assoc s low]
    congr 1
    rw [Int.mul_left_comm y low v,Int.mul_left_comm x low,Int.mul_comm y v]
theorem EB {a b c d:Int}(hb:0<b)(hd:0<d)(h1:iE a b)(h2:iE c d)(l r:Int)(el:l=Int.gcd a d)(er:r=Int.gcd c b):
  a.fdiv l*c.fdiv r=(a*c).fdiv (Int.gcd (a*c) (b*d))/\b.fdiv r*d.fdiv l=(b*d).fdiv (Int.gcd (a*c) (b*d))/\l≠0/\r≠0:=by
 obtain⟨a',d',ha,hd',c1,hl⟩:=split (a:=a) (b:=d) (by omega)
 obtain⟨c',b',hc,hb',c2,hr⟩:=split (a:=c) (b:=b) (by omega)
 rw [<- el] at ha hd' hl
 rw [<- er] at hc hb' hr
 have k:iE (a'*c') (b'*d'):=by
  have ab:iE a' b':=(h1.dvdL ⟨l,by rw [Int.mul_comm];exact ha⟩).dvdR ⟨r,by rw [Int.mul_comm];exact hb'⟩
  have cd:iE c' d':=(h2.dvdL ⟨r,by rw [Int.mul_comm];exact hc⟩).dvdR ⟨l,by rw [Int.mul_comm];exact hd'⟩
  exact iE.mulR (iE.mulL ab c2) (iE.mulL c1 cd)
 have e1:a*c=l*r*(a'*c'):=by
  calc a*c=(l*a')*(r*c'):=by rw [<- ha,<- hc]
   _=l*r*(a'*c'):=by rw [Int.mul_assoc,Int.mul_left_comm a' r c',Int.mul_assoc]
 have e2:b*d=l*r*(b'*d'):=by
  calc b*d=(r*b')*(l*d'):=by rw [<- hb',<- hd']
   _=l*r*(b'*d'):=by rw [Int.mul_assoc,Int.mul_left_comm b' l d',<- Int.mul_assoc,Int.mul_comm r l]
 have lp:0≤l:=by rw [el];omega
 have rp:0≤r:=by rw [er];omega
 have eg:((Int.gcd (a*c) (b*d):Nat):Int)=l*r:=by
  rw [e1,e2,Int.gcd_mul_left,k]
  push_cast
  rw [Int.mul_one,Int.natAbs_of_nonneg (Int.mul_nonneg lp rp)]
 have hlr:l*r≠0:=Int.mul_ne_zero hl hr
 refine⟨?_,?_,hl,hr⟩
 ·rw [eg,eH ha hl,eH hc hr]
  exact (eH e1 hlr).symm
 ·rw [eg,eH hb' hr,eH hd' hl]
  exact (eH e2 hlr).symm
end Qm
namespace Rq
def DD (k:Nat):Nat:=27720^k
theorem dX (k:Nat):0<DD k:=Nat.pow_pos (by decide)
def Lq (k m:Nat)(q:Rat):Prop:=∃n:Int,q=Rat.divInt n (DD k:Int)/\n.natAbs≤m*DD k
theorem Lq.zero (k:Nat):Lq k 0 0:=⟨0,by rw [Rat.zero_divInt],by simp⟩
theorem II (k:Nat):((DD k:Nat):Int)≠0:=by have:=dX k;omega
theorem Lq.mono {k m m':Nat}{x:Rat}(hx:Lq k m x)(h:m≤m'):Lq k m' x:=by
 obtain⟨a,rfl,ha⟩:=hx
 exact⟨a,rfl,Nat.le_trans ha (Nat.mul_le_mul_right _ h)⟩
theorem Lq.small {a b:Int}(ha:a.natAbs≤9)(hb:0<b)(hb':b≤12):Lq 1 9 (Rat.divInt a b):=by
 have hd:b∣((DD 1:Nat):Int):=by
  have e:((DD 1:Nat):Int)=27720:=by decide
  rw [e]
  have:b=1\/b=2\/b=3\/b=4\/b=5\/b=6\/b=7\/b=8\/b=9\/b=10\/b=11\/b=12:=by omega
  rcases this with rfl | rfl | rfl | rfl | rfl | rfl | rfl | rfl | rfl | rfl | rfl | rfl<;>decide
 obtain⟨c,hc⟩:=hd
 have hc0:c≠0:=fun z=>by rw [z,Int.mul_zero] at hc;exact II 1 hc
 refine⟨a*c,?_,?_⟩
 ·rw [hc,Rat.divInt_mul_right hc0]
 ·rw [Int.natAbs_mul]
  have h1:c.natAbs≤DD 1:=by
   have:((DD 1:Nat):Int).natAbs=b.natAbs*c.natAbs:=by rw [hc,Int.natAbs_mul]
   rw [Int.natAbs_natCast] at this
   rw [this]
   exact Nat.le_mul_of_pos_left _ (by omega)
  exact Nat.mul_le_mul ha h1
def wsum (r s:List Rat):Rat:=(List.zipWith (· * ·) r s).foldl (· + ·) 0
theorem foldl_add (l:List Rat):∀a:Rat,l.foldl (· + ·) a=a+l.foldl (· + ·) 0:=by
 induction l with
 |nil=>intro a;rw [List.foldl_nil,List.foldl_nil,Rat.add_zero]
 |cons x l ih =>
  intro a
  rw [List.foldl_cons,List.foldl_cons,ih (a+x),ih (0+x),Rat.zero_add,Rat.add_assoc]
theorem mJ (x y:Rat)(r s:List Rat):wsum (x::r) (y::s)=x*y+wsum r s:=by
 unfold wsum
 rw [List.zipWith_cons_cons,List.foldl_cons,foldl_add,Rat.zero_add]
theorem qR {D E:Int}(hD:D≠0)(hE:E≠0):∀(a b:List Int),wsum (a.map fun n=>Rat.divInt n D) (b.map fun n=>Rat.divInt n E)=Rat.divInt (List.zipWith (· * ·) a b).sum (D*E)
 |[],b=>by
  unfold wsum
  rw [List.map_nil,List.zipWith_nil_left,List.zipWith_nil_left,List.sum_nil,Rat.zero_divInt]
  rfl
 |x::a,[]=>by
  unfold wsum
  rw [List.map_nil,List.zipWith_nil_right,List.zipWith_nil_right,List.sum_nil,Rat.zero_divInt]
  rfl
 |x::a,y::b=>by
  rw [List.map_cons,List.map_cons,mJ,qR hD hE a b,List.zipWith_cons_cons,List.sum_cons,Rat.divInt_mul_divInt]
  have hDE:D*E≠0:=Int.mul_ne_zero hD hE
  rw [Rat.divInt_add_divInt _ _ hDE hDE,<- Int.add_mul,Rat.divInt_mul_right hDE]
def ik (B:List (List Rat))(j:Nat):List Rat:=B.map fun r=>r.getD j 0
def ml (r:List Rat)(B:List (List Rat))(w:Nat):List Rat:=(List.range w).map fun j=>wsum r (ik B j)
def mulM (A B:List (List Rat))(w:Nat):List (List Rat):=A.map fun r=>ml r B w
theorem vL (s:List Rat):wsum [] s=0:=by unfold wsum;rw [List.zipWith_nil_left];rfl
end Rq
namespace Dt
abbrev Row:=Nat->Int
abbrev Fn:=List Nat->Int
def E (x:Row):Fn->List Nat->Int
 |_,[]=>0
 |D,c::cs=>x c*D cs-E x (fun l=>D (c::l)) cs
def det:List Row->Fn
 |[]=>fun cs=>if cs=[] then 1 else 0
 |x::R=>fun cs=>E x (det R) cs
theorem eu (x:Row)(R:List Row)(cs:List Nat):det (x::R) cs=E x (det R) cs:=rfl
theorem cW (x:Row)(D:Fn)(c:Nat)(cs:List Nat):E x D (c::cs)=x c*D cs-E x (fun l=>D (c::l)) cs:=rfl
theorem qX (x:Row):∀cs,E x (fun _=>0) cs=0
 |[]=>rfl
 |c::cs=>by rw [cW,qX x cs,Int.mul_zero,Int.sub_self]
theorem ug (x:Row)(a b:Int)(D D':Fn):∀cs,E x (fun l=>a*D l+b*D' l) cs=a*E x D cs+b*E x D' cs:=by
 intro cs
 induction cs generalizing D D' with
 |nil=>simp [E]
 |cons c cs ih =>
  rw [cW,cW,cW,ih (fun l=>D (c::l)) (fun l=>D' (c::l))]
  grind
theorem EL (a b:Int)(x y:Row)(D:Fn):∀cs,E (fun c=>a*x c+b*y c) D cs=a*E x D cs+b*E y D cs:=by
 intro cs
 induction cs generalizing D with
 |nil=>simp [E]
 |cons c cs ih =>
  rw [cW,cW,cW,ih (fun l=>D (c::l))]
  grind
theorem qW (x y:Row)(D:Fn):∀cs,E x (E y D) cs = - E y (E x D) cs:=by
 intro cs
 induction cs generalizing D with
 |nil=>rfl
 |cons c cs ih =>
  have h1:E x (fun l=>E y D (c::l)) cs=y c*E x D cs-E x (E y (fun l=>D (c::l))) cs:=by
   have:=ug x (y c) (-1) D (E y fun l=>D (c::l)) cs
   rw [show (fun l=>E y D (c::l))=fun l=>y c*D l+(-1)*E y (fun l=>D (c::l)) l from funext fun l=>by rw [cW];grind,this]
   grind
  have h2:E y (fun l=>E x D (c::l)) cs=x c*E y D cs-E y (E x (fun l=>D (c::l))) cs:=by
   have:=ug y (x c) (-1) D (E x fun l=>D (c::l)) cs
   rw [show (fun l=>E x D (c::l))=fun l=>x c*D l+(-1)*E x (fun l=>D (c::l)) l from funext fun l=>by rw [cW];grind,this]
   grind
  rw [cW,cW,h1,h2,ih]
  grind
theorem yd (x:Row)(D:Fn)(cs:List Nat):E x (E x D) cs=0:=by
 have:=qW x x D cs
 omega
theorem uv (x y:Row)(R:List Row)(cs:List Nat):det (x::y::R) cs = - det (y::x::R) cs:=qW x y (det R) cs
theorem yo {x:Row}:∀{R:List Row},x∈R->∀cs,det (x::R) cs=0
 |[],h,_=>by cases h
 |y::R,h,cs=>by
  rcases List.mem_cons.mp h with rfl | h
  ·exact yd x (det R) cs
  ·rw [uv,eu,show det (x::R)=fun _=>0 from funext (yo h),qX];rfl
def Alt (D:Fn):Prop:=∀pre a b cs,D (pre++a::b::cs) = - D (pre++b::a::cs)
theorem Alt.tl {D:Fn}(h:Alt D)(c:Nat):Alt (fun l=>D (c::l)):=fun pre a b cs=>h (c::pre) a b cs
theorem EK (x:Row):∀(pre:List Nat) (D:Fn),Alt D->∀a b cs,E x D (pre++a::b::cs) = - E x D (pre++b::a::cs)
 |[],D,h,a,b,cs=>by
  show E x D (a::b::cs) = - E x D (b::a::cs)
  have e:∀cs,E x (fun l=>D (a::b::l)) cs = - E x (fun l=>D (b::a::l)) cs:=fun cs=>by
   have:=ug x (-1) 0 (fun l=>D (b::a::l)) (fun _=>0) cs
   rw [show (fun l=>D (a::b::l))=fun l=>(-1)*D (b::a::l)+0*0 from funext fun l=>by rw [show D (a::b::l) = - D (b::a::l) from h [] a b l];omega,this]
   omega
  rw [cW,cW,cW,cW,e]
  grind
 |p::pre,D,h,a,b,cs=>by
  show E x D (p::(pre++a::b::cs)) = - E x D (p::(pre++b::a::cs))
  rw [cW,cW,EK x pre _ (h.tl p),h pre a b cs]
  grind
theorem yl:∀R:List Row,Alt (det R)
 |[]=>fun pre a b cs=>by simp [det]
 |x::R=>fun pre a b cs=>EK x pre (det R) (yl R) a b cs
theorem Alt.dup {D:Fn}(h:Alt D)(c:Nat)(cs:List Nat):∀pre:List Nat,D (c::pre++c::cs)=0
 |[]=>by
  have:=h [] c c cs
  show D (c::c::cs)=0
  have e:D (c::c::cs) = - D (c::c::cs):=this
  omega
 |p::pre=>by
  have e:=h [] c p (pre++c::cs)
  have e2:D (c::p::(pre++c::cs)) = - D (p::c::(pre++c::cs)):=e
  have e3:=Alt.dup (h.tl p) c cs pre
  show D (c::p::(pre++c::cs))=0
  have e4:D (p::c::(pre++c::cs))=0:=e3
  omega
theorem ym (R:List Row){c:Nat}{cs:List Nat}(h:c∈cs):det R (c::cs)=0:=by
 obtain⟨s,t,rfl⟩:=List.append_of_mem h
 exact (yl R).dup c t s
def F (f:Row->Int):(List Row->Int)->List Row->Int
 |_,[]=>0
 |G,x::R=>f x*G R-F f (fun S=>G (x::S)) R
theorem ig (f:Row->Int)(G:List Row->Int)(x:Row)(R:List Row):F f G (x::R)=f x*G R-F f (fun S=>G (x::S)) R:=rfl
theorem Io (f g:Row->Int)(a b:Int)(G:List Row->Int):∀R,F (fun x=>a*f x+b*g x) G R=a*F f G R+b*F g G R:=by
 intro R
 induction R generalizing G with
 |nil=>simp [F]
 |cons x R ih =>
  rw [ig,ig,ig,ih (fun S=>G (x::S))]
  grind
theorem AM (f:Row->Int)(G:List Row->Int):∀R,(∀x∈R,f x=0)->F f G R=0:=by
 intro R
 induction R generalizing G with
 |nil=>intro _;rfl
 |cons x R ih =>
  intro h
  rw [ig,h x List.mem_cons_self,ih _ fun y hy=>h y (List.mem_cons_of_mem _ hy)]
  omega
theorem L7 (x:Row)(f:Row->Int)(g:List Row->Fn):∀(R:List Row) (cs:List Nat),E x (fun l=>F f (fun S=>g S l) R) cs=F f (fun S=>E x (g S) cs) R:=by
 intro R
 induction R generalizing g with
 |nil=>intro cs;exact qX x cs
 |cons y R ih =>
  intro cs
  have e:=ug x (f y) (-1) (g R) (fun l=>F f (fun S=>g (y::S) l) R) cs
  rw [show (fun l=>F f (fun S=>g S l) (y::R))=fun l=>f y*g R l+(-1)*F f (fun S=>g (y::S) l) R from funext fun l=>by rw [ig];omega,e,ih (fun S=>g (y::S)),ig]
  omega
theorem rL (c:Nat)(cs:List Nat):∀R:List Row,det R (c::cs)=F (fun x=>x c) (fun S=>det S cs) R
 |[]=>by simp [det,F]
 |x::R=>by
  rw [eu,cW,ig,show (fun l=>det R (c::l))=fun l=>F (fun x=>x c) (fun S=>det S l) R from funext fun l=>rL c l R,L7]
  rfl
def Lk (cs:List Nat)(f:Row->Int):Prop:=∃ws:List (Int×Nat),(∀w∈ws,w.2∈cs)/\∀x,f x=(ws.map fun w=>w.1*x w.2).foldr (· + ·) 0
theorem Lk.zero (cs:List Nat):Lk cs (fun _=>0):=⟨[],(fun _ h=>by cases h),fun _=>rfl⟩
theorem jS (a:Int)(x:Row):∀ws:List (Int×Nat),((ws.map fun w=>(a*w.1,w.2)).map fun w=>w.1*x w.2).foldr (· + ·) 0=a*(ws.map fun w=>w.1*x w.2).foldr (· + ·) 0
 |[]=>by simp
 |w::ws=>by
  have ih:=jS a x ws
  simp only [List.map_cons,List.foldr_cons] at ih ⊢
  rw [ih]
  grind
theorem zA (x:Row):∀(ws us:List (Int×Nat)),((ws++us).map fun w=>w.1*x w.2).foldr (· + ·) 0=(ws.map fun w=>w.1*x w.2).foldr (· + ·) 0+(us.map fun w=>w.1*x w.2).foldr (· + ·) 0
 |[],us=>by simp
 |w::ws,us=>by
  have ih:=zA x ws us
  simp only [List.cons_append,List.map_cons,List.foldr_cons] at ih ⊢
  rw [ih]
  omega
theorem Lk.lin {cs:List Nat}{f g:Row->Int}(hf:Lk cs f)(hg:Lk cs g)(a b:Int):Lk cs (fun x=>a*f x+b*g x):=by
 obtain⟨ws,h1,h2⟩:=hf
 obtain⟨us,g1,g2⟩:=hg
 refine⟨(ws.map fun w=>(a*w.1,w.2))++us.map fun w=>(b*w.1,w.2),fun w hw=>?_,fun x=>?_⟩
 ·rcases List.mem_append.mp hw with hw | hw
  ·obtain⟨z,hz,rfl⟩:=List.mem_map.mp hw;exact h1 z hz
  ·obtain⟨z,hz,rfl⟩:=List.mem_map.mp hw;exact g1 z hz
 ·rw [zA,jS,jS]
  show a*f x+b*g x=_
  rw [h2,g2]
theorem Lk.col {cs:List Nat}{c:Nat}(h:c∈cs):Lk cs (fun x=>x c):=⟨[(1,c)],(fun w hw=>by rw [List.mem_singleton.mp hw];exact h),fun x=>by simp⟩
theorem Lk.more {cs ds:List Nat}{f:Row->Int}(h:Lk cs f)(hs:∀c∈cs,c∈ds):Lk ds f:=by
 obtain⟨ws,h1,h2⟩:=h
 exact⟨ws,fun w hw=>hs _ (h1 w hw),h2⟩
theorem Lk.congr {cs:List Nat}{f g:Row->Int}(h:Lk cs f)(e:∀x,g x=f x):Lk cs g:=by rw [funext e];exact h
theorem CS:∀(cs:List Nat) (D:Fn),Lk cs (fun x=>E x D cs)
 |[],D=>Lk.zero []
 |c::cs,D=>by
  have h1:=(CS cs fun l=>D (c::l)).more (ds:=c::cs) fun z hz=>List.mem_cons_of_mem _ hz
  have h2:=Lk.col (cs:=c::cs) (c:=c) List.mem_cons_self
  refine (h2.lin h1 (D cs) (-1)).congr fun x=>?_
  rw [cW]
  grind
theorem KQ {cs:List Nat}{f:Row->Int}(h:Lk cs f)(R:List Row):F f (fun S=>det S cs) R=0:=by
 obtain⟨ws,h1,h2⟩:=h
 have key:∀ws:List (Int×Nat),(∀w∈ws,w.2∈cs)->F (fun x=>(ws.map fun w=>w.1*x w.2).foldr (· + ·) 0) (fun S=>det S cs) R=0:=by
  intro ws
  induction ws with
  |nil=>intro _;exact AM _ _ R fun _ _=>rfl
  |cons w ws ih =>
   intro h
   have e:=Io (fun x=>x w.2) (fun x=>(ws.map fun w=>w.1*x w.2).foldr (· + ·) 0) w.1 1 (fun S=>det S cs) R
   rw [show (fun x:Row=>((w::ws).map fun w=>w.1*x w.2).foldr (· + ·) 0)=fun x=>w.1*x w.2+1*(ws.map fun w=>w.1*x w.2).foldr (· + ·) 0 from funext fun x=>by simp,e,ih fun z hz=>h z (List.mem_cons_of_mem _ hz),<- rL,ym R (h w List.mem_cons_self)]
   omega
 rw [show f=fun x=>(ws.map fun w=>w.1*x w.2).foldr (· + ·) 0 from funext h2]
 exact key ws h1
theorem FP {R:List Row}{cs:List Nat}(hd:det R cs≠0){f:Row->Int}(h:Lk cs f)(h0:∀x∈R,f x=0)(x:Row):f x=0:=by
 have e:=KQ h (x::R)
 rw [ig,AM f _ R h0] at e
 have e2:f x*det R cs=0:=by omega
 rcases Int.mul_eq_zero.mp e2 with e2 | e2
 ·exact e2
 ·exact absurd e2 hd
def left (R:List Row)(ps:List Nat)(x:Row):Row:=fun j=>det (x::R) (j::ps)
theorem sO (R:List Row)(ps:List Nat)(x:Row)(j:Nat):left R ps x j=x j*det R ps-E x (fun l=>det R (j::l)) ps:=rfl
theorem jF {R:List Row}{ps:List Nat}{x:Row}(h:x∈R)(j:Nat):left R ps x j=0:=yo h _
theorem DC {R:List Row}{ps:List Nat}{x:Row}{j:Nat}(h:j∈ps):left R ps x j=0:=ym _ h
theorem nz {R:List Row}{ps:List Nat}{k:Row}{p:Nat}(hd:left R ps k p≠0)(x:Row)(j:Nat):
  det R ps*left (k::R) (p::ps) x j=left R ps k p*left R ps x j-left R ps x p*left R ps k j:=by
 have hd':det (k::R) (p::ps)=left R ps k p:=rfl
 have h1:Lk (p::ps) (fun x=>det R ps*left (k::R) (p::ps) x j-left R ps k p*left R ps x j+left R ps x p*left R ps k j):=by
  have l1:=CS (p::ps) (fun l=>det (k::R) (j::l))
  have l2:=(CS ps (fun l=>det R (j::l))).more (ds:=p::ps) fun z hz=>List.mem_cons_of_mem _ hz
  have l3:=(CS ps (fun l=>det R (p::l))).more (ds:=p::ps) fun z hz=>List.mem_cons_of_mem _ hz
  have l4:=Lk.col (cs:=p::ps) (c:=p) List.mem_cons_self
  have m1:=l1.lin l2 (- det R ps) (left R ps k p)
  have m2:=l4.lin l3 (det R ps*left R ps k j) (- left R ps k j)
  refine (m1.lin m2 1 1).congr fun x=>?_
  rw [sO (k::R),sO R ps x j,sO R ps x p,hd']
  grind
 have h2:∀y∈k::R,det R ps*left (k::R) (p::ps) y j-left R ps k p*left R ps y j+left R ps y p*left R ps k j=0:=fun y hy=>by
  rw [jF hy]
  rcases List.mem_cons.mp hy with rfl | hy
  ·grind
  ·rw [jF hy,jF hy];omega
 have h3:=FP (R:=k::R) (cs:=p::ps) (by rw [hd'];exact hd) h1 h2 x
 have h4:det R ps*left (k::R) (p::ps) x j-left R ps k p*left R ps x j+left R ps x p*left R ps k j=0:=h3
 omega
theorem CQ {x y:Row}{D D':Fn}:∀{cs:List Nat},(∀j∈cs,x j=y j)->(∀l,(∀j∈l,j∈cs)->D l=D' l)->E x D cs=E y D' cs:=by
 intro cs
 induction cs generalizing D D' with
 |nil=>intro _ _;rfl
 |cons c cs ih =>
  intro h1 h2
  rw [cW,cW,h1 c List.mem_cons_self,h2 cs fun j hj=>List.mem_cons_of_mem _ hj]
  rw [ih (D:=fun l=>D (c::l)) (D':=fun l=>D' (c::l)) (fun j hj=>h1 j (List.mem_cons_of_mem _ hj)) fun l hl=>h2 (c::l) fun j hj=>by
   rcases List.mem_cons.mp hj with rfl | hj
   ·exact List.mem_cons_self
   ·exact List.mem_cons_of_mem _ (hl j hj)]
theorem qw {α:Type}{g h:α->Row}:∀(S:List α) (cs:List Nat),(∀x∈S,∀j∈cs,g x j=h x j)->det (S.map g) cs=det (S.map h) cs
 |[],_,_=>rfl
 |x::S,cs,e=>by
  rw [List.map_cons,List.map_cons,eu,eu]
  exact CQ (e x List.mem_cons_self) fun l hl=>qw S l fun y hy j hj=>e y (List.mem_cons_of_mem _ hy) j (hl j hj)
theorem yc (a:Int)(x:Row)(D:Fn)(cs:List Nat):E (fun c=>a*x c) D cs=a*E x D cs:=by
 have:=EL a 0 x x D cs
 rw [show (fun c=>a*x c)=fun c=>a*x c+0*x c from funext fun c=>by omega,this]
 omega
theorem AK (a:Int)(x:Row)(D:Fn)(cs:List Nat):E x (fun l=>a*D l) cs=a*E x D cs:=by
 have:=ug x a 0 D D cs
 rw [show (fun l=>a*D l)=fun l=>a*D l+0*D l from funext fun l=>by omega,this]
 omega
theorem qy (a:Int):∀(S:List Row) (cs:List Nat),det (S.map fun x=>fun c=>a*x c) cs=a^S.length*det S cs
 |[],cs=>by simp
 |x::S,cs=>by
  rw [List.map_cons,eu,yc,show det (S.map fun x=>fun c=>a*x c)=fun l=>a^S.length*det S l from funext (qy a S),AK,eu,List.length_cons,Int.pow_succ]
  grind
inductive Sp:List Row->Row->Prop
 |nil {x:Row} (h:∀c,x c=0):Sp [] x
 |cons {w:Row} {W:List Row} {x y:Row} (a:Int) (h:∀c,x c=a*w c+y c) (hy:Sp W y):Sp (w::W) x
theorem Sp.lin:∀{W:List Row} {x y:Row} (a b:Int),Sp W x->Sp W y->Sp W (fun c=>a*x c+b*y c)
 |[],x,y,a,b,.nil h,.nil h'=>.nil fun c=>by rw [h,h'];omega
 |w::W,x,y,a,b,.cons s h h1,.cons t h' h2=>.cons (a*s+b*t) (fun c=>by rw [h,h'];grind) (Sp.lin a b h1 h2)
theorem Sp.zero:∀(W:List Row),Sp W (fun _=>0)
 |[]=>.nil fun _=>rfl
 |w::W=>.cons 0 (fun c=>by omega) (Sp.zero W)
theorem AL {x:Row}(h:∀c,x c=0)(D:Fn)(cs:List Nat):E x D cs=0:=by
 have:=yc 0 x D cs
 rw [show (fun c=>0*x c)=x from funext fun c=>by rw [h c];omega] at this
 omega
theorem yb (x0:Row)(a:Int)(b:Row->Int):∀(S:List Row) (cs:List Nat),E x0 (det (S.map fun x=>fun c=>a*x c+b x*x0 c)) cs=a^S.length*E x0 (det S) cs
 |[],cs=>by simp
 |x::S,cs=>by
  rw [List.map_cons]
  show E x0 (E _ (det _)) cs=_
  rw [qW,show E x0 (det (S.map fun x=>fun c=>a*x c+b x*x0 c))=fun l=>a^S.length*E x0 (det S) l from funext (yb x0 a b S),AK,EL,yd]
  show _=a^(S.length+1)*E x0 (E x (det S)) cs
  rw [qW x0 x,Int.pow_succ]
  grind
theorem qx {x:Row}:∀{S:List Row},x∈S->∃S':List Row,S'.length+1=S.length/\(∀y∈S',y∈S)/\∃s:Int,∀cs,det S cs=s*det (x::S') cs
 |[],h=>by cases h
 |y::S,h=>by
  rcases List.mem_cons.mp h with rfl | h
  ·exact⟨S,rfl,fun z hz=>List.mem_cons_of_mem _ hz,1,fun cs=>by omega⟩
  ·obtain⟨S',h1,h2,s,h3⟩:=qx h
   refine⟨y::S',by simp only [List.length_cons];omega,fun z hz=>?_,-s,fun cs=>?_⟩
   ·rcases List.mem_cons.mp hz with rfl | hz
    ·exact List.mem_cons_self
    ·exact List.mem_cons_of_mem _ (h2 z hz)
   ·rw [eu,show det S=fun l=>s*det (x::S') l from funext h3,AK,<- eu,uv]
    grind
theorem oI:∀(W S:List Row),(∀x∈S,Sp W x)->W.length<S.length->∀cs,det S cs=0
 |[],[],_,h=>by cases h
 |[],x::S,h,_=>fun cs=>by
  cases h x List.mem_cons_self with
  |nil hx=>exact AL hx _ cs
 |w::W,S,h,hl=>fun cs=>by
  by_cases hz:∀x∈S,Sp W x
  ·exact oI W S hz (by simp only [List.length_cons] at hl;omega) cs
  ·obtain⟨x0,hx0,hn⟩:∃x0,x0∈S/\¬ Sp W x0:=by
    apply Classical.byContradiction
    intro hc
    exact hz fun x hx=>Classical.byContradiction fun hs=>hc ⟨x,hx,hs⟩
   obtain⟨a,y0,ha,hy0⟩:∃a y,(∀c,x0 c=a*w c+y c)/\Sp W y:=by
    cases h x0 hx0 with
    |cons a h' hy=>exact⟨a,_,h',hy⟩
   have a0:a≠0:=fun e=>hn (by
    rw [show x0=y0 from funext fun c=>by rw [ha c,e];omega]
    exact hy0)
   obtain⟨S',l1,l2,s,l3⟩:=qx hx0
   have hco:∀x:Row,∃t:Int,x∈S->Sp W (fun c=>a*x c+(-t)*x0 c):=fun x=>by
    by_cases hx:x∈S
    ·cases h x hx with
     |cons t h' hy =>
      rename_i y
      refine⟨t,fun _=>?_⟩
      rw [show (fun c=>a*x c+(-t)*x0 c)=fun c=>a*y c+(-t)*y0 c from funext fun c=>by rw [h' c,ha c];grind]
      exact hy.lin a (-t) hy0
    ·exact⟨0,fun hx'=>absurd hx' hx⟩
   have e:=yb x0 a (fun x=>- Classical.choose (hco x)) S' cs
   have z:det (S'.map fun x=>fun c=>a*x c+(- Classical.choose (hco x))*x0 c)=fun _=>0:=funext fun l=>oI W _ (fun y hy=>by
    obtain⟨x,hx,rfl⟩:=List.mem_map.mp hy
    exact Classical.choose_spec (hco x) (l2 x hx)) (by rw [List.length_map];simp only [List.length_cons] at hl;omega) l
   rw [z,qX] at e
   have e2:E x0 (det S') cs=0:=by
    rcases Int.mul_eq_zero.mp e.symm with e2 | e2
    ·exact absurd e2 (Int.pow_ne_zero a0)
    ·exact e2
   rw [l3,eu,e2]
   omega
theorem Ip (f:Nat->Row->Int)(hf:∀j x,f j x=x j):∀(R:List Row) (G:List Row->Int),Sp R (fun j=>F (f j) G R)
 |[],G=>.nil fun _=>rfl
 | r::R,G=>.cons (G R) (y:=fun c=>-1*F (f c) (fun S=>G (r::S)) R+0*0) (fun c=>by rw [ig,hf];grind) (by
   have:=Sp.lin (-1) 0 (Ip f hf R fun S=>G (r::S)) (Sp.zero R)
   exact this)
theorem LR {R S:List Row}{ps cs:List Nat}(hd:det R ps≠0)(h:∀x∈S,∀j∈cs,left R ps x j=0)(hl:R.length<S.length):det S cs=0:=by
 have e:=qy (det R ps) S cs
 have hc:=qw (g:=fun x=>fun c=>det R ps*x c) (h:=fun x=>fun j=>F (fun y=>y j) (fun Q=>det (x::Q) ps) R) S cs fun x hx j hj=>by
  have e1:=h x hx j hj
  have e2:left R ps x j=F (fun y=>y j) (fun Q=>det Q ps) (x::R):=rL j ps (x::R)
  rw [e2,ig] at e1
  show det R ps*x j=_
  have e3:x j*det R ps-F (fun y=>y j) (fun Q=>det (x::Q) ps) R=0:=e1
  grind
 have z:=oI R (S.map fun x=>fun j=>F (fun y=>y j) (fun Q=>det (x::Q) ps) R) (fun y hy=>by
  obtain⟨x,_,rfl⟩:=List.mem_map.mp hy
  exact Ip (fun j y=>y j) (fun _ _=>rfl) R _) (by rw [List.length_map];exact hl) cs
 rw [hc,z] at e
 rcases Int.mul_eq_zero.mp e.symm with e2 | e2
 ·exact absurd e2 (Int.pow_ne_zero hd)
 ·exact e2
def rw (l:List Int):Row:=fun j=>l.getD j 0
def bj (w:Nat)(R:List Row)(ps:List Nat)(x:Row):List Int:=(List.range w).map (left R ps x)
theorem ma {w:Nat}{R:List Row}{ps:List Nat}{x:Row}{j:Nat}(h:j<w):rw (bj w R ps x) j=left R ps x j:=by
 unfold rw bj
 rw [List.getD_eq_getElem?_getD,List.getElem?_map,List.getElem?_range h]
 rfl
theorem gw (w:Nat)(R:List Row)(ps:List Nat)(x:Row):(bj w R ps x).length=w:=by unfold bj;rw [List.length_map,List.length_range]
theorem uY (x:Row)(j:Nat):left [] [] x j=x j:=by
 show E x (det []) [j]=x j
 simp [E,Dt.det]
theorem om {w:Nat}{row:List Int}(h:row.length=w):row=bj w [] [] (rw row):=by
 apply List.ext_getElem?
 intro i
 unfold bj
 rw [List.getElem?_map]
 by_cases hi:i<w
 ·rw [List.getElem?_range hi]
  show row[i]? = some (left [] [] (rw row) i)
  rw [uY]
  unfold rw
  rw [List.getD_eq_getElem?_getD,List.getElem?_eq_getElem (by omega)]
  rfl
 ·rw [List.getElem?_eq_none (by omega),List.getElem?_eq_none (by rw [List.length_range];omega)]
  rfl
theorem AF {w:Nat}{R:List Row}{ps:List Nat}{x y:Row}(f:Int->Int->Int):List.zipWith f (bj w R ps x) (bj w R ps y)=(List.range w).map fun j=>f (left R ps x j) (left R ps y j):=by
 unfold bj
 rw [List.zipWith_map_left,List.zipWith_map_right,List.zipWith_self]
theorem wW {w:Nat}{R:List Row}{ps:List Nat}{k x:Row}{p:Nat}(hd:Dt.det R ps≠0)(hn:left R ps k p≠0)(hp:p<w)(h:∀j<w,left R ps x j=0):∀j<w,left (k::R) (p::ps) x j=0:=fun j hj=>by
 have hb:=nz hn x j
 rw [h j hj,h p hp] at hb
 have:Dt.det R ps*left (k::R) (p::ps) x j=0:=by rw [hb];omega
 rcases Int.mul_eq_zero.mp this with e | e
 ·exact absurd e hd
 ·exact e
def fp (w:Nat)(x:Row):Option Nat:=(List.range w).find? fun j=>x j != 0
theorem Di {w:Nat}{x:Row}(h:fp w x=none):∀j<w,x j=0:=fun j hj=>by
 have:=List.find?_eq_none.mp h j (List.mem_range.mpr hj)
 simpa using this
theorem rQ {w:Nat}{x:Row}{p:Nat}(h:fp w x=some p):p<w/\x p≠0:=by
 refine⟨List.mem_range.mp (List.mem_of_find?_eq_some h),?_⟩
 have:=List.find?_some h
 simpa using this
theorem Ba {w:Nat}{x y:Row}(h:∀j<w,(x j=0 ↔ y j=0)):fp w x=fp w y:=by
 unfold fp
 have:∀l:List Nat,(∀j∈l,j<w)->l.find? (fun j=>x j != 0)=l.find? fun j=>y j != 0:=by
  intro l
  induction l with
  |nil=>intro _;rfl
  |cons j l ih =>
   intro hl
   have hj:=h j (hl j List.mem_cons_self)
   rw [List.find?_cons,List.find?_cons,ih fun k hk=>hl k (List.mem_cons_of_mem _ hk)]
   by_cases e:x j=0
   ·rw [e,hj.mp e]
   ·rw [show (x j != 0)=true by simpa using e,show (y j != 0)=true by simpa using fun z=>e (hj.mpr z)]
 exact this _ fun j hj=>List.mem_range.mp hj
def fr (w:Nat):List Row->Nat->List Row->List Nat->List Nat
 |[],_,_,_=>[]
 |x::rest,i,R,ps=>match fp w (left R ps x) with
  |none=>fr w rest (i+1) R ps
  |some p=>i::fr w rest (i+1) (x::R) (p::ps)
theorem wz {w:Nat}:∀(rest:List Row) (i:Nat) (R:List Row) (ps:List Nat),det R ps≠0->(∀p∈ps,p<w)->ps.length=R.length ->
  ∃R' ps',det R' ps'≠0/\(∀p∈ps',p<w)/\ps'.length=R'.length/\R'.length=R.length+(fr w rest i R ps).length/\(∀x∈R',x∈R\/x∈rest)/\(∀x∈rest,∀j<w,left R' ps' x j=0)/\∀x:Row,(∀j<w,left R ps x j=0)->∀j<w,left R' ps' x j=0
 |[],i,R,ps,h1,h2,h3=>⟨R,ps,h1,h2,h3,rfl,fun x hx=>.inl hx,(fun x hx=>by cases hx),fun x hx=>hx⟩
 |x::rest,i,R,ps,h1,h2,h3=>by
  cases e:fp w (left R ps x) with
  |none =>
   obtain⟨R',ps',g1,g2,g3,g4,g5,g6,g7⟩:=wz rest (i+1) R ps h1 h2 h3
   refine⟨R',ps',g1,g2,g3,?_,fun y hy=>?_,fun y hy=>?_,g7⟩
   ·rw [g4,fr,e]
   ·rcases g5 y hy with z | z
    ·exact .inl z
    ·exact .inr (List.mem_cons_of_mem _ z)
   ·rcases List.mem_cons.mp hy with rfl | hy
    ·exact g7 _ (Di e)
    ·exact g6 y hy
  |some p =>
   obtain⟨hp,hn⟩:=rQ e
   obtain⟨R',ps',g1,g2,g3,g4,g5,g6,g7⟩:=wz rest (i+1) (x::R) (p::ps) hn (fun q hq=>by
    rcases List.mem_cons.mp hq with rfl | hq
    ·exact hp
    ·exact h2 q hq) (by simp only [List.length_cons];omega)
   refine⟨R',ps',g1,g2,g3,?_,fun y hy=>?_,fun y hy=>?_,fun y hy=>g7 y (wW h1 hn hp hy)⟩
   ·rw [g4,fr,e];simp only [List.length_cons];omega
   ·rcases g5 y hy with z | z
    ·rcases List.mem_cons.mp z with rfl | z
     ·exact .inr List.mem_cons_self
     ·exact .inl z
    ·exact .inr (List.mem_cons_of_mem _ z)
   ·rcases List.mem_cons.mp hy with rfl | hy
    ·exact g7 _ fun j _=>jF List.mem_cons_self j
    ·exact g6 y hy
def rank (w:Nat)(A:List Row):Nat:=(fr w A 0 [] []).length
theorem vv (w:Nat)(A:List Row):∃R ps,det R ps≠0/\(∀p∈ps,p<w)/\ps.length=R.length/\R.length=rank w A/\(∀x∈R,x∈A)/\∀x∈A,∀j<w,left R ps x j=0:=by
 obtain⟨R,ps,h1,h2,h3,h4,h5,h6,_⟩:=wz (w:=w) A 0 [] [] (by decide) (fun _ h=>by cases h) rfl
 refine⟨R,ps,h1,h2,h3,by rw [h4];simp [rank],fun x hx=>?_,h6⟩
 rcases h5 x hx with z | z
 ·cases z
 ·exact z
theorem B6 {w:Nat}{A S:List Row}{cs:List Nat}(hS:∀x∈S,x∈A)(hc:∀c∈cs,c<w)(hd:det S cs≠0):S.length≤rank w A:=by
 obtain⟨R,ps,h1,h2,h3,h4,h5,h6⟩:=vv w A
 apply Classical.byContradiction
 intro hn
 exact hd (LR h1 (fun x hx j hj=>h6 x (hS x hx) j (hc j hj)) (by omega))
theorem Il {M N:Nat}:∀(cs:List Nat) (x:Row) (D:Fn),(∀j,(x j).natAbs≤M)->(∀l:List Nat,l.length<cs.length->(D l).natAbs≤N)->(E x D cs).natAbs≤cs.length*(M*N)
 |[],x,D,_,_=>by simp [E]
 |c::cs,x,D,hx,hD=>by
  rw [cW,List.length_cons,Nat.succ_mul]
  have h1:(x c*D cs).natAbs≤M*N:=by
   rw [Int.natAbs_mul]
   exact Nat.mul_le_mul (hx c) (hD cs (by simp))
  have h2:=Il (M:=M) (N:=N) cs x (fun l=>D (c::l)) hx fun l hl=>hD (c::l) (by simp only [List.length_cons];omega)
  omega
theorem we {M n:Nat}:∀(R:List Row) (cs:List Nat),(∀x∈R,∀j,(x j).natAbs≤M)->cs.length≤n->(det R cs).natAbs≤(n*M+1)^R.length
 |[],cs,_,_=>by
  cases cs with
  |nil=>simp [det]
  |cons c cs=>simp [det]
 |x::R,cs,hR,hn=>by
  rw [eu,List.length_cons,Nat.pow_succ]
  have ih:∀l:List Nat,l.length<cs.length->(det R l).natAbs≤(n*M+1)^R.length:=fun l hl=>we R l (fun y hy=>hR y (List.mem_cons_of_mem _ hy)) (by omega)
  refine Nat.le_trans (Il cs x (det R) (hR x List.mem_cons_self) ih) ?_
  calc cs.length*(M*(n*M+1)^R.length)≤n*(M*(n*M+1)^R.length):=Nat.mul_le_mul_right _ hn
   _=(n*M)*(n*M+1)^R.length:=by rw [Nat.mul_assoc]
   _≤(n*M+1)*(n*M+1)^R.length:=Nat.mul_le_mul_right _ (Nat.le_succ _)
   _=(n*M+1)^R.length*(n*M+1):=Nat.mul_comm _ _
inductive Fw (w:Nat):List Row->List Nat->List (Nat×List Int)->List Row->List Nat->Prop
 |nil {R:List Row} {ps:List Nat}:Fw w R ps [] R ps
 |cons {R R':List Row} {ps ps':List Nat} {ks:List (Nat×List Int)} {x:Row} {p:Nat} (hp:p<w) (hn:left R ps x p≠0) (h:Fw w (x::R) (p::ps) ks R' ps'):Fw w R ps ((p,bj w R ps x)::ks) R' ps'
theorem Fw.snoc {w:Nat}{R R':List Row}{ps ps':List Nat}{ks:List (Nat×List Int)}(h:Fw w R ps ks R' ps'){x:Row}{p:Nat}(hp:p<w)(hn:left R' ps' x p≠0):Fw w R ps (ks++[(p,bj w R' ps' x)]) (x::R') (p::ps'):=by
 induction h with
 |nil=>exact .cons hp hn .nil
 |cons hp' hn' h ih=>exact .cons hp' hn' (ih hn)
theorem Az {w:Nat}{R:List Row}{ps:List Nat}{k x:Row}{p:Nat}(hd:det R ps≠0)(hn:left R ps k p≠0):
  List.zipWith (fun n l=>(left R ps k p*n-left R ps x p*l).fdiv (det R ps)) (bj w R ps x) (bj w R ps k)=bj w (k::R) (p::ps) x:=by
 rw [AF]
 unfold bj
 apply List.map_congr_left
 intro j _
 rw [<- nz hn x j]
 exact Int.mul_fdiv_cancel_left _ hd
end Dt
namespace Dq
end Dq
namespace Dt
end Dt
namespace My
open PySem PySem.Spec PyProof.Rows L2 TM
theorem Lh:(17:Nat)≤sizeLine:=bZ (by decide)
theorem Mu:(6:Nat)<sizeLine:=cY (by decide)
theorem Be {a b c d:Int}:lP (.tup [.int a,.int b]) (.tup [.int c,.int d])=some (.bl (decide (a=c)&&decide (b=d))):=by
 have e:lP (.tup [.int a,.int b]) (.tup [.int c,.int d])=some (.bl ((a == c)&&((b == d)&&true))):=rfl
 rw [e,Bool.and_true,Bool.beq_eq_decide_eq,Bool.beq_eq_decide_eq]
theorem zN {x y:Bool}:lP (.lst [.bl x,.bl y]) (.lst [.bl x,.bl y])=some (.bl true):=by
 have e:lP (.lst [.bl x,.bl y]) (.lst [.bl x,.bl y])=some (.bl ((x == x)&&((y == y)&&true))):=rfl
 rw [e,beq_self_eq_true,beq_self_eq_true]
 rfl
theorem lO:∀(n:Nat) (u:Option Sl) (x y:Nat),y<n->gc (fG (aN nF (ag 1) (aZ 0))) (wu 0 1 (af (ag 1) (af (aN cQ (ag 0) (ag 1)) aE))) n [ah (.int x),ah (.int y),u]
  = some (.nx [ah (.int (Nat.gcd x y)),ah (.int 0),u])
 |0,_,_,_,h=>by omega
 |n+1,u,x,y,h=>by
  unfold gc
  by_cases hy:y=0
  ·subst hy
   have h0:((0:Nat):Int)=0:=rfl
   walk_at "ev"
   simp
  ·have hy':¬ ((y:Int)=0):=by omega
   have hm:Int.fmod (x:Int) (y:Int)=((x%y:Nat):Int):=by rw [Int.fmod_eq_emod_of_nonneg _ (by omega)];rfl
   have hg:Nat.gcd x y=Nat.gcd y (x%y):=by rw [Nat.gcd_comm x y,Nat.gcd_rec y x,Nat.gcd_comm]
   have ih:=lO n u y (x%y) (by have:=Nat.mod_lt x (Nat.pos_of_ne_zero hy);omega)
   rw [hg]
   clear hg h hy
   walk_at "ev"
theorem CA {ft:FT}{fb:FS}{τ τ':aI}{n:Nat}(h:ft τ=some (false,τ'))(hn:0<n):gc ft fb n τ=some (.nx τ'):=by
 obtain⟨m,rfl⟩:∃m,n=m+1:=⟨n-1,by omega⟩
 unfold gc
 rw [h]
 rfl
theorem Ij:0<B:=by decide +kernel
theorem bits_le {x:Int}(h:x.natAbs<B):¬ ((Builtin.Int.intBits x:Int)>4000):=by
 unfold Builtin.Int.intBits
 by_cases h0:x=0
 ·subst h0;decide
 ·rw [if_neg (by simpa using h0)]
  have:x.natAbs.log2<4000:=(Nat.log2_lt (by omega)).mpr h
  omega
def eZ:List T->Option T
 |[.int a,.int b]=>if a.natAbs<B/\b.natAbs<B then some (.int (Int.gcd a b)) else none
 |_=>none
theorem eM {a b:Int}(ha:a.natAbs<B)(hb:b.natAbs<B):eZ [.int a,.int b]=some (.int (Int.gcd a b)):=if_pos ⟨ha,hb⟩
theorem Aq (ts:List T)(t:T)(h:eZ ts=some t):cI 3 2 (nP B (fun _=>none)) ts=some t:=by
 unfold eZ at h
 split at h
 ·next a b =>
  split at h
  ·next hb =>
   cases h
   have hw:=lO B none a.natAbs b.natAbs (hb.2)
   have hbits:=bits_le (x:=((b.natAbs:Nat):Int)) (by simpa using hb.2)
   have hgt:Bf (.int (Builtin.Int.intBits ((b.natAbs:Nat):Int))) (.int 4000)=some (.bl false):=by
    show some (T.bl (decide _))=_
    rw [decide_eq_false hbits]
   have hno:gc (fG (aN Bf (n9 ia (ag 1)) (aZ 4000))) (aR (wu 0 1 (af (ag 1) (af (aN cQ (ag 0) (ag 1)) aE))) (cT (fG (aN Bf (n9 ia (ag 1)) (aZ 4000))) (iJ (aq (fun _=>none) (af (ag 0) (bg 1))) (bF (av (ai 0) (av (ai 1) (av (ai 2) bq))))) cC)) B [ah (.int (a.natAbs:Nat)),ah (.int (b.natAbs:Nat)),none]
     = some (.nx [ah (.int (a.natAbs:Nat)),ah (.int (b.natAbs:Nat)),none]):=CA (by
      clear hw hbits
      walk_at "ev") Ij
   unfold cI nP
   clear hb hbits hgt
   walk_at "ev"
   rfl
  ·cases h
 ·cases h
def sg (a b:Int):Int:=if b<0 then -(Int.gcd a b:Int) else (Int.gcd a b:Int)
def m8 (a b:Int):T:=.tup [.int (a.fdiv (sg a b)),.int (b.fdiv (sg a b))]
def ki:List T->Option T
 |[.int a,.int b]=>if a.natAbs<B/\b.natAbs<B/\b≠0 then some (m8 a b) else none
 |_=>none
theorem oq {a b:Int}(ha:a.natAbs<B)(hb:b.natAbs<B)(h0:b≠0):ki [.int a,.int b]=some (m8 a b):=if_pos ⟨ha,hb,h0⟩
theorem GB {a b:Int}(h0:b≠0):¬ ((Int.gcd a b:Nat):Int)=0:=by
 intro h
 have:Int.gcd a b=0:=by omega
 rw [Int.gcd_eq_zero_iff] at this
 exact h0 this.2
theorem uE {a b:Int}(hb:b.natAbs<B)(h0:b≠0):Int.gcd a b<B:=by
 have h1:Int.gcd a b∣b.natAbs:=Int.gcd_dvd_natAbs_right a b
 have:=Nat.le_of_dvd (by omega) h1
 omega
theorem vX {x:Int}(h:x.natAbs<B):Fb (.int (Builtin.Int.intBits x)) (.int 8000)=some (.bl true):=by
 show some (T.bl (decide _))=_
 rw [decide_eq_true (by have:=bits_le h;omega)]
theorem Ew (ts:List T)(t:T)(h:ki ts=some t):cI 3 2 (vV eZ) ts=some t:=by
 unfold ki at h
 split at h
 ·next a b =>
  split at h
  ·next hb =>
   cases h
   obtain⟨ha,hb,h0⟩:=hb
   have h1:=eM ha hb
   have h2:=GB (a:=a) h0
   have h3:=uE (a:=a) hb h0
   have h4:((Int.gcd a b:Nat):Int).natAbs<B:=by omega
   have h5:¬ -((Int.gcd a b:Nat):Int)=0:=by omega
   have h6:(-((Int.gcd a b:Nat):Int)).natAbs<B:=by omega
   have h7:=vX h4
   have h8:=vX h6
   unfold cI vV
   by_cases hs:b<0
   ·have e:m8 a b=.tup [.int (a.fdiv (-(Int.gcd a b:Int))),.int (b.fdiv (-(Int.gcd a b:Int)))]:=by unfold m8 sg;rw [if_pos hs]
    walk_at "ev"
   ·have e:m8 a b=.tup [.int (a.fdiv (Int.gcd a b:Int)),.int (b.fdiv (Int.gcd a b:Int))]:=by unfold m8 sg;rw [if_neg hs]
    walk_at "ev"
  ·cases h
 ·cases h
open PySem PySem.Spec PyProof.Rows L2 TM Qm
def C:Nat:=2^1330
theorem L4:C*C+C*C<B:=by decide +kernel
theorem CB:C<B:=by decide +kernel
theorem EJ:0<C:=by decide +kernel
theorem ltB {a:Int}(h:a.natAbs<C):a.natAbs<B:=Nat.lt_trans h CB
theorem mulC {a b:Int}(ha:a.natAbs<C)(hb:b.natAbs<C):(a*b).natAbs<C*C:=by
 rw [Int.natAbs_mul]
 exact Nat.mul_lt_mul'' ha hb
theorem K0 {a b c d:Int}(ha:a.natAbs<C)(hb:b.natAbs<C)(hc:c.natAbs<C)(hd:d.natAbs<C):(a*b+c*d).natAbs<B:=by
 have h1:=mulC ha hb
 have h2:=mulC hc hd
 have h3:=L4
 omega
theorem iX {a g:Int}(h:g∣a)(hg:g≠0):(a.fdiv g).natAbs≤a.natAbs:=by
 obtain⟨x,rfl⟩:=h
 rw [Int.mul_fdiv_cancel_left x hg,Int.natAbs_mul]
 exact Nat.le_mul_of_pos_left _ (by omega)
structure Fr (a b:Int):Prop where
 pos:0<b
 cop:iE a b
 ba:a.natAbs<C
 bb:b.natAbs<C
theorem nD {a b:Int}(h:0<b):m8 a b=.tup [.int (a.fdiv (Int.gcd a b)),.int (b.fdiv (Int.gcd a b))]:=by
 unfold m8 sg
 rw [if_neg (by omega)]
def two:List T->Option (Int×Int×Int×Int)
 |[.tup [.int a,.int b],.tup [.int c,.int d]]=>some (a,b,c,d)
 |_=>none
theorem HB {ts:List T}{a b c d:Int}(h:two ts=some (a,b,c,d)):ts=[.tup [.int a,.int b],.tup [.int c,.int d]]:=by
 unfold two at h
 split at h
 ·cases h;rfl
 ·cases h
instance (a b:Int):Decidable (Fr a b):=decidable_of_iff (0<b/\Int.gcd a b=1/\a.natAbs<C/\b.natAbs<C) ⟨fun h=>⟨h.1,h.2.1,h.2.2.1,h.2.2.2⟩,fun h=>⟨h.pos,h.cop,h.ba,h.bb⟩⟩
def DH (C:Int->Int->Int->Int->Bool)(g:Int->Int->Int->Int->T):List T->Option T:=fun ts=>(two ts).bind fun p=>if Fr p.1 p.2.1/\Fr p.2.2.1 p.2.2.2/\C p.1 p.2.1 p.2.2.1 p.2.2.2=true then some (g p.1 p.2.1 p.2.2.1 p.2.2.2) else none
theorem vc {C:Int->Int->Int->Int->Bool}{g:Int->Int->Int->Int->T}{ts:List T}{t:T}(h:DH C g ts=some t):∃a b c d,ts=[.tup [.int a,.int b],.tup [.int c,.int d]]/\Fr a b/\Fr c d/\C a b c d=true/\t=g a b c d:=by
 obtain⟨⟨a,b,c,d⟩,e,h⟩:=bind_some h
 dsimp only at h
 split at h
 ·next k=>cases h;exact⟨a,b,c,d,HB e,k.1,k.2.1,k.2.2,rfl⟩
 ·cases h
theorem yN {C:Int->Int->Int->Int->Bool}{g:Int->Int->Int->Int->T}{a b c d:Int}(h1:Fr a b)(h2:Fr c d)(h3:C a b c d=true):DH C g [.tup [.int a,.int b],.tup [.int c,.int d]]=some (g a b c d):=if_pos ⟨h1,h2,h3⟩
abbrev BD:=DH (fun _ _ _ _=>true) fun a b c d=>m8 (a*d+c*b) (b*d)
abbrev zX:=DH (fun _ _ _ _=>true) fun a b c d=>m8 (a*c) (b*d)
theorem Ex (ts:List T)(t:T)(h:BD ts=some t):cI 5 2 (vW eZ) ts=some t:=by
 obtain⟨a,b,c,d,rfl,h1,h2,_,rfl⟩:=vc h
 clear h
 obtain⟨pb,cb,ba,bb⟩:=h1
 obtain⟨pd,cd,bc,bd⟩:=h2
 obtain⟨q1,q2,q3,q4⟩:=Hg pb pd cb cd _ _ _ rfl rfl rfl
 have v1:((Int.gcd b d:Nat):Int)∣b:=Int.gcd_dvd_left b d
 have v2:((Int.gcd b d:Nat):Int)∣d:=Int.gcd_dvd_right b d
 have n1:=iX v1 q3
 have n2:=iX v2 q3
 have g1:Int.gcd b d<B:=uE (ltB bd) (by omega)
 have g1':((Int.gcd b d:Nat):Int).natAbs<B:=by omega
 generalize hs:((Int.gcd b d:Nat):Int)=s at *
 have tb:(a*d.fdiv s+c*b.fdiv s).natAbs<B:=K0 ba (by omega) bc (by omega)
 have g2:Int.gcd (a*d.fdiv s+c*b.fdiv s) s<B:=uE g1' q3
 have v3:((Int.gcd (a*d.fdiv s+c*b.fdiv s) s:Nat):Int)∣d:=Int.dvd_trans (Int.gcd_dvd_right _ _) v2
 have n3:=iX v3 q4
 have k1:=eM (ltB bb) (ltB bd)
 have k2:=eM tb g1'
 rw [hs] at k1
 have e:m8 (a*d+c*b) (b*d)=.tup [.int ((a*d.fdiv s+c*b.fdiv s).fdiv (Int.gcd (a*d.fdiv s+c*b.fdiv s) s:Nat)),.int (b.fdiv s*d.fdiv (Int.gcd (a*d.fdiv s+c*b.fdiv s) s:Nat))]:=by
  rw [nD (Int.mul_pos pb pd),q1,q2]
 have g2':((Int.gcd (a*d.fdiv s+c*b.fdiv s) s:Nat):Int).natAbs<B:=by omega
 generalize hl:((Int.gcd (a*d.fdiv s+c*b.fdiv s) s:Nat):Int)=l at *
 have w1:=ltB ba
 have w2:=ltB bc
 have cb':=CB
 have w3:(d.fdiv s).natAbs<B:=by omega
 have w4:(b.fdiv s).natAbs<B:=by omega
 have w5:(d.fdiv l).natAbs<B:=by omega
 clear q1 q2 v1 v2 n1 n2 n3 v3 cb cd ba bb bc bd pb pd hs hl g1 g2 cb'
 unfold cI vW
 walk_at "ev"
theorem Cg (ts:List T)(t:T)(h:zX ts=some t):cI 4 2 (rm eZ) ts=some t:=by
 obtain⟨a,b,c,d,rfl,h1,h2,_,rfl⟩:=vc h
 clear h
 obtain⟨pb,cb,ba,bb⟩:=h1
 obtain⟨pd,cd,bc,bd⟩:=h2
 obtain⟨q1,q2,q3,q4⟩:=EB pb pd cb cd _ _ rfl rfl
 have n1:=iX (Int.gcd_dvd_left a d) q3
 have n2:=iX (Int.gcd_dvd_right a d) q3
 have n3:=iX (Int.gcd_dvd_left c b) q4
 have n4:=iX (Int.gcd_dvd_right c b) q4
 have g1:Int.gcd a d<B:=uE (ltB bd) (by omega)
 have g2:Int.gcd c b<B:=uE (ltB bb) (by omega)
 have k1:=eM (ltB ba) (ltB bd)
 have k2:=eM (ltB bc) (ltB bb)
 have e:m8 (a*c) (b*d)=.tup [.int (a.fdiv (Int.gcd a d:Nat)*c.fdiv (Int.gcd c b:Nat)),.int (b.fdiv (Int.gcd c b:Nat)*d.fdiv (Int.gcd a d:Nat))]:=by
  rw [nD (Int.mul_pos pb pd),q1,q2]
 have g1':((Int.gcd a d:Nat):Int).natAbs<B:=by omega
 have g2':((Int.gcd c b:Nat):Int).natAbs<B:=by omega
 generalize ((Int.gcd a d:Nat):Int)=l at *
 generalize ((Int.gcd c b:Nat):Int)=r at *
 have cb':=CB
 have w1:(a.fdiv l).natAbs<B:=by omega
 have w2:(d.fdiv l).natAbs<B:=by omega
 have w3:(c.fdiv r).natAbs<B:=by omega
 have w4:(b.fdiv r).natAbs<B:=by omega
 clear q1 q2 n1 n2 n3 n4 cb cd ba bb bc bd pb pd g1 g2 cb'
 unfold cI rm
 walk_at "ev"
open Rq
def bS (q:Rat):T:=.tup [.int q.num,.int (q.den:Int)]
theorem iY {a b:Int}(hb:0<b):m8 a b=bS (Rat.divInt a b):=by
 have hs:b.sign=1:=Int.sign_eq_one_of_pos hb
 have hg:(Int.gcd b a:Int)=(Int.gcd a b:Int):=by rw [Int.gcd_comm]
 rw [nD hb]
 unfold bS
 rw [Rat.num_divInt,Rat.den_divInt,if_neg (by omega),hs,Int.one_mul,hg,Int.fdiv_eq_ediv_of_nonneg _ (by omega),Int.fdiv_eq_ediv_of_nonneg _ (by omega)]
 congr 3
 rw [Int.natCast_ediv,Int.natAbs_of_nonneg (by omega),hg]
structure Sm (q:Rat):Prop where
 n:q.num.natAbs<C
 d:q.den<C
theorem Sm.fr {q:Rat}(h:Sm q):Fr q.num q.den:=⟨by have:=q.den_nz;omega,by
 have:=q.reduced
 show Int.gcd q.num q.den=1
 exact this,h.n,by have:=h.d;omega⟩
theorem gH (q:Rat):Rat.divInt q.num q.den=q:=Rat.num_divInt_den q
theorem den_pos (q:Rat):(0:Int)<(q.den:Int):=by have:=q.den_nz;omega
theorem add_eq (x y:Rat):m8 (x.num*y.den+y.num*x.den) (x.den*y.den)=bS (x+y):=by
 rw [iY (Int.mul_pos (den_pos x) (den_pos y))]
 congr 1
 rw [<- Rat.divInt_add_divInt _ _ (Int.ne_of_gt (den_pos x)) (Int.ne_of_gt (den_pos y)),gH,gH]
theorem mul_eq (x y:Rat):m8 (x.num*y.num) (x.den*y.den)=bS (x*y):=by
 rw [iY (Int.mul_pos (den_pos x) (den_pos y))]
 congr 1
 rw [<- Rat.divInt_mul_divInt,gH,gH]
theorem BE {x y:Rat}(hx:Sm x)(hy:Sm y):BD [bS x,bS y]=some (bS (x+y)):=by
 have h:=yN (C:=fun _ _ _ _=>true) (g:=fun a b c d=>m8 (a*d+c*b) (b*d)) hx.fr hy.fr rfl
 rw [add_eq] at h
 exact h
theorem BF {x y:Rat}(hx:Sm x)(hy:Sm y):zX [bS x,bS y]=some (bS (x*y)):=by
 have h:=yN (C:=fun _ _ _ _=>true) (g:=fun a b c d=>m8 (a*c) (b*d)) hx.fr hy.fr rfl
 rw [mul_eq] at h
 exact h
open PySem PySem.Spec PyProof.Rows L2 TM Qm Rq
open Classical in
def mk {α:Type}(R:List T->α->Prop):List T->Option α:=fun ts=>if h:∃t,R ts t then some (Classical.choose h) else none
theorem xa {α:Type}{R:List T->α->Prop}{ts:List T}{t:α}(h:mk R ts=some t):R ts t:=by
 unfold mk at h
 split at h
 ·next hh=>cases h;exact Classical.choose_spec hh
 ·cases h
theorem mk_eq {α:Type}{R:List T->α->Prop}{ts:List T}{t:α}(h:R ts t)(u:∀t',R ts t'->t'=t):mk R ts=some t:=by
 unfold mk
 rw [dif_pos ⟨t,h⟩]
 congr 1
 exact u _ (Classical.choose_spec (⟨t,h⟩:∃t,R ts t))
theorem D8 {x y:Rat}(h:bS x=bS y):x=y:=by
 unfold bS at h
 injection h with h
 injection h with h1 h2
 injection h2 with h2 _
 injection h1 with h1
 injection h2 with h2
 exact Rat.ext h1 (by omega)
theorem map_inj {α β:Type}{f:α->β}(hf:∀x y,f x=f y->x=y):∀{a b:List α},a.map f=b.map f->a=b
 |[],[],_=>rfl
 |[],_::_,h=>by cases h
 |_::_,[],h=>by cases h
 |x::a,y::b,h=>by
  rw [List.map_cons,List.map_cons] at h
  injection h with h1 h2
  rw [hf _ _ h1,map_inj hf h2]
def aw (r:List Rat):T:=.lst (r.map bS)
def ao (A:List (List Rat)):T:=.lst (A.map aw)
def mj (r:List Rat):O:=J0 (r.map bS)
def xO (A:List (List Rat)):O:=.lst (A.map mj)
theorem oN {r s:List Rat}(h:aw r=aw s):r=s:=by
 unfold aw at h
 injection h with h
 exact map_inj (fun _ _=>D8) h
theorem Cr {r s:List (List Rat)}(h:ao r=ao s):r=s:=by
 unfold ao at h
 injection h with h
 exact map_inj (fun _ _=>oN) h
theorem Eh (r:List Rat):(mj r).tr=aw r:=by
 show T.lst (O.trs ((r.map bS).map O.val))=_
 rw [lN]
 rfl
theorem ud {α:Type}{f:α->O}{g:α->T}(h:∀x,(f x).tr=g x):∀l:List α,O.trs (l.map f)=l.map g
 |[]=>rfl
 |x::l=>by rw [List.map_cons,O.trs,ud h l,h x];rfl
theorem ub (A:List (List Rat)):(xO A).tr=ao A:=by
 show T.lst (O.trs (A.map mj))=_
 rw [ud Eh]
 rfl
theorem cu {α:Type}{φ:α->T}{fe:FE}{g:α->T}{ρ:aI}(hr:cw ρ=true):∀(l:List α) (u:Option Sl) (acc:List T),(∀x∈l,fe (ah (φ x)::ρ)=some (g x,ah (φ x)::ρ))->acc.length+l.length≤sizeLine->eP (ai 0) az fe (l.map φ) (u::ρ) acc=some (acc++l.map g)
 |[],u,acc,_,_=>by simp [eP]
 |x::l,u,acc,h,hl=>by
  have hl':acc.length+(l.length+1)≤sizeLine:=hl
  rw [List.map_cons,eP,show ai 0 (φ x) (u::ρ)=some (ah (φ x)::ρ) from rfl,Option.bind_some,show az (ah (φ x)::ρ)=some (true,ah (φ x)::ρ) from rfl,Option.bind_some,if_pos rfl,h x List.mem_cons_self,Option.bind_some,if_pos ⟨hr,by omega⟩,
   cu hr l _ _ (fun z hz=>h z (List.mem_cons_of_mem _ hz)) (by rw [List.length_append];simp;omega),List.map_cons,List.append_assoc]
  rfl
theorem dH {α:Type}{φ:α->T}{fe:kO}{g:α->O}{ρ:aI}(hr:cw ρ=true):∀(l:List α) (u:Option Sl) (acc:List O),(∀x∈l,fe (ah (φ x)::ρ)=some (g x,ah (φ x)::ρ))->acc.length+l.length≤sizeLine->dZ (ai 0) az fe (l.map φ) (u::ρ) acc=some (acc++l.map g)
 |[],u,acc,_,_=>by simp [dZ]
 |x::l,u,acc,h,hl=>by
  have hl':acc.length+(l.length+1)≤sizeLine:=hl
  rw [List.map_cons,dZ,show ai 0 (φ x) (u::ρ)=some (ah (φ x)::ρ) from rfl,Option.bind_some,show az (ah (φ x)::ρ)=some (true,ah (φ x)::ρ) from rfl,Option.bind_some,if_pos rfl,h x List.mem_cons_self,Option.bind_some,if_pos ⟨hr,by omega⟩,
   dH hr l _ _ (fun z hz=>h z (List.mem_cons_of_mem _ hz)) (by rw [List.length_append];simp;omega),List.map_cons,List.append_assoc]
  rfl
abbrev uD:FG:=bF (av (ai 0) (av (ai 1) bq))
theorem Dr (x y:T)(u v:Option Sl)(ρ:aI):uD (.tup [x,y]) (u::v::ρ)=some (ah x::ah y::ρ):=rfl
theorem fR {α:Type}{φ ψ:α->T}{fe:FE}{g:α->T}{ρ:aI}(hr:cw ρ=true):∀(l:List α) (u v:Option Sl) (acc:List T),(∀x∈l,fe (ah (φ x)::ah (ψ x)::ρ)=some (g x,ah (φ x)::ah (ψ x)::ρ))->acc.length+l.length≤sizeLine ->
  eP uD az fe (l.map fun x=>.tup [φ x,ψ x]) (u::v::ρ) acc=some (acc++l.map g)
 |[],u,v,acc,_,_=>by simp [eP]
 |x::l,u,v,acc,h,hl=>by
  have hl':acc.length+(l.length+1)≤sizeLine:=hl
  rw [List.map_cons,eP,Dr,Option.bind_some,show az (ah (φ x)::ah (ψ x)::ρ)=some (true,ah (φ x)::ah (ψ x)::ρ) from rfl,Option.bind_some,if_pos rfl,h x List.mem_cons_self,Option.bind_some,if_pos ⟨hr,by omega⟩,
   fR hr l _ _ _ (fun z hz=>h z (List.mem_cons_of_mem _ hz)) (by rw [List.length_append];simp;omega),List.map_cons,List.append_assoc]
  rfl
theorem gT {α β:Type}(φ:α->T)(ψ:β->T):∀(r:List α) (s:List β),iN (r.map φ) (s.map ψ)=(List.zip r s).map fun p=>.tup [φ p.1,ψ p.2]
 |[],s=>by simp [iN]
 |x::r,[]=>by simp [iN]
 |x::r,y::s=>by simp [iN,gT φ ψ r s]
theorem xT:∀(n:Nat) (lo:Int),TM.upTo lo n=(List.range n).map fun (i:Nat)=>T.int (lo+i):=by
 intro n lo
 apply List.ext_getElem?
 intro i
 by_cases h:i<n
 ·rw [pk n lo i h,List.getElem?_map,List.getElem?_range h];rfl
 ·rw [List.getElem?_eq_none (by rw [ie];omega),List.getElem?_eq_none (by simp;omega)]
theorem vJ (n:Nat):TM.upTo 0 n=(List.range n).map fun (i:Nat)=>T.int i:=by
 rw [xT]
 congr 1
 funext i
 congr 1
 omega
theorem bV {no:Nat}{cap:List Nat}{fi:FA}{fg:FG}{ft:FT}{fe:FE}{τ:aI}{ts us:List T}(h1:fi τ=some (ts,τ))(h2:frzAll cap τ=τ)(h3:cw (cR no cap τ)=true)(h4:eP fg ft fe ts (cR no cap τ) []=some us):cg no cap fi fg ft fe τ=some (.lst us,τ):=by
 unfold cg
 rw [h1,Option.bind_some]
 dsimp only
 rw [h2,if_pos h3,h4]
 rfl
theorem fF {no:Nat}{cap:List Nat}{fi:FA}{fg:FG}{ft:FT}{fe:kO}{τ:aI}{ts:List T}{us:List O}(h1:fi τ=some (ts,τ))(h2:frzAll cap τ=τ)(h3:cw (cR no cap τ)=true)(h4:dZ fg ft fe ts (cR no cap τ) []=some us):cJ no cap fi fg ft fe τ=some (.lst us,τ):=by
 unfold cJ
 rw [h1,Option.bind_some]
 dsimp only
 rw [h2,if_pos h3,h4]
 rfl
theorem bN {fg:FG}{fb:FS}{t:T}{ts:List T}{τ τ1 τ2:aI}(h1:fg t τ=some τ1)(h2:fb τ1=some (.nx τ2)):cF fg fb (t::ts) τ=cF fg fb ts τ2:=by
 rw [cF,h1,Option.bind_some,h2]
 rfl
theorem oM {f:FE}{τ:aI}{n:Int}(h:f τ=some (.int n,τ))(h0:0≤n)(h1:n≤1000):bW (af f aE) τ=some (TM.upTo 0 n.toNat,τ):=by
 unfold bW af aE
 rw [h]
 show (if _ then _ else _)=_
 rw [if_pos (by omega)]
theorem fP {f:FE}{τ:aI}{n:Nat}(h:f τ=some (.int n,τ))(h1:n≤1000):bW (af f aE) τ=some ((List.range n).map fun (i:Nat)=>T.int i,τ):=by
 have e:=oM h (by omega) (by omega)
 rw [Int.toNat_natCast,vJ] at e
 exact e
theorem HE:bS 0=.tup [.int 0,.int 1]:=rfl
theorem Ki {g:List T->Option T}{f:FA}{ρ:aI}{t:T}(ts:List T)(h1:f ρ=some (ts,ρ))(h2:g ts=some t):eX (aq g f) ρ=some (.val t,ρ):=by
 unfold eX aq
 rw [h1,Option.bind_some]
 dsimp only
 rw [h2]
 rfl
theorem tY {n:Nat}(h:n≤16):([]:List O).length+n≤sizeLine:=by rw [List.length_nil,Nat.zero_add];exact bZ (by omega)
theorem dE {n:Nat}(h:n≤16):([]:List T).length+n≤sizeLine:=by rw [List.length_nil,Nat.zero_add];exact bZ (by omega)
theorem EG {α β:Type}(r:List α)(s:List β)(h:r.length≤16):(List.zip r s).length≤16:=by rw [List.length_zip];omega
theorem dR {α β:Type}{r:List α}{s:List β}{p:α×β}(h:p∈List.zip r s):p.1∈r/\p.2∈s:=⟨(List.of_mem_zip h).1,(List.of_mem_zip h).2⟩
theorem aJ {g:List T->Option T}{f:FA}{ρ:aI}{t:T}(ts:List T)(h1:f ρ=some (ts,ρ))(h2:g ts=some t):aq g f ρ=some (t,ρ):=by
 unfold aq
 rw [h1,Option.bind_some]
 dsimp only
 rw [h2]
 rfl
def aK (r:List Rat):Nat:=r.foldl (fun l x=>Nat.lcm l x.den) 1
theorem va:∀(r:List Rat) (l:Nat),l∣r.foldl (fun l x=>Nat.lcm l x.den) l
 |[],l=>Nat.dvd_refl l
 |x::r,l=>Nat.dvd_trans (Nat.dvd_lcm_left _ _) (va r _)
theorem yk:∀(r:List Rat) (l:Nat) (x:Rat),x∈r->x.den∣r.foldl (fun l x=>Nat.lcm l x.den) l
 |y::r,l,x,h=>by
  rcases List.mem_cons.mp h with rfl | h
  ·exact Nat.dvd_trans (Nat.dvd_lcm_right _ _) (va r _)
  ·exact yk r _ x h
theorem Bx {l b:Nat}(hl:0<l)(hb:0<b):((l:Int).fdiv (Int.gcd (l:Int) (b:Int):Nat))*(b:Int)=(Nat.lcm l b:Nat):=by
 have hg:Int.gcd (l:Int) (b:Int)=Nat.gcd l b:=rfl
 rw [hg,Int.fdiv_eq_ediv_of_nonneg _ (by omega)]
 have:(l:Int)/(Nat.gcd l b:Nat)=((l/Nat.gcd l b:Nat):Int):=by rw [Int.natCast_ediv]
 rw [this,<- Int.natCast_mul]
 congr 1
 unfold Nat.lcm
 rw [Nat.div_mul_right_comm (Nat.gcd_dvd_left l b)]
def oU:FS:=aU 1 (aN bU (aN df (ag 1) (aq eZ (af (ag 1) (bg 3)))) (ag 3))
theorem zo {D:Nat}(hB:D<B)(hp:0<D)(x0:Option Sl):∀(r:List Rat) (l:Nat) (u v:Option Sl),l∣D->(∀x∈r,x.den∣D)->∃u' v',cF (bF (av (ai 2) (av (ai 3) bq))) oU (r.map bS) [x0,ah (.int l),u,v]
  = some (.nx [x0,ah (.int (r.foldl (fun l x=>Nat.lcm l x.den) l:Nat)),u',v'])
 |[],l,u,v,_,_=>⟨u,v,by simp [cF]⟩
 |x::r,l,u,v,h1,h2=>by
  have hl0:0<l:=Nat.pos_of_dvd_of_pos h1 hp
  have hl:l≤D:=Nat.le_of_dvd hp h1
  have hd:=h2 x List.mem_cons_self
  have hd0:0<x.den:=Nat.pos_of_ne_zero x.den_nz
  have hdl:x.den≤D:=Nat.le_of_dvd hp hd
  obtain⟨u',v',ih⟩:=zo hB hp x0 r (Nat.lcm l x.den) (ah (.int x.num)) (ah (.int x.den)) (Nat.lcm_dvd h1 hd) fun z hz=>h2 z (List.mem_cons_of_mem _ hz)
  refine⟨u',v',?_⟩
  have k1:=eM (a:=(l:Int)) (b:=(x.den:Int)) (by omega) (by omega)
  have e1:=Bx hl0 hd0
  have hg:Int.gcd (l:Int) (x.den:Int)≤l:=by
   show Nat.gcd l x.den≤l
   exact Nat.le_of_dvd hl0 (Nat.gcd_dvd_left _ _)
  have hg0:0<Int.gcd (l:Int) (x.den:Int):=by
   show 0<Nat.gcd l x.den
   exact Nat.gcd_pos_of_pos_left _ hl0
  have n1:¬ ((Int.gcd (l:Int) (x.den:Int):Nat):Int)=0:=by omega
  have n2:((Int.gcd (l:Int) (x.den:Int):Nat):Int).natAbs<B:=by omega
  have n3:((l:Int).fdiv ((Int.gcd (l:Int) (x.den:Int):Nat):Int)).natAbs<B:=by
   rw [Int.fdiv_eq_ediv_of_nonneg _ (by omega)]
   have:=Int.ediv_le_self ((Int.gcd (l:Int) (x.den:Int):Nat):Int) (show (0:Int)≤(l:Int) by omega)
   have:=Int.ediv_nonneg (show (0:Int)≤(l:Int) by omega) (show (0:Int)≤((Int.gcd (l:Int) (x.den:Int):Nat):Int) by omega)
   omega
  have n4:(x.den:Int).natAbs<B:=by omega
  have hb:oU [x0,ah (.int l),ah (.int x.num),ah (.int x.den)]=some (.nx [x0,ah (.int (Nat.lcm l x.den:Nat)),ah (.int x.num),ah (.int x.den)]):=by
   rw [<- e1]
   clear ih h1 h2 hB hp hl0 hl hd hd0 hdl e1 hg hg0
   unfold oU
   walk_at "ev"
  rw [List.map_cons,bN (τ1:=[x0,ah (.int l),ah (.int x.num),ah (.int x.den)]) rfl hb,ih]
  rfl
structure Gn (D N:Nat)(r:List Rat):Prop where
 len:r.length≤16
 den:∀x∈r,x.den∣D
 num:∀x∈r,x.num.natAbs≤N
 dp:0<D
 db:D<B
 nb:N<B
def Mc (ts:List T)(t:T):Prop:=∃r D N,ts=[aw r]/\Gn D N r/\t=.int (aK r:Nat)
def HY:List T->Option T:=mk Mc
theorem B8 {r r':List Rat}(e:([aw r]:List T)=[aw r']):r=r':=by
 injection e with e _
 exact oN e
theorem Fm {r:List Rat}{D N:Nat}(h1:Gn D N r):HY [aw r]=some (.int (aK r:Nat)):=
 mk_eq ⟨r,D,N,rfl,h1,rfl⟩ fun t' ⟨r',_,_,e,_,e2⟩=>by rw [e2,B8 e]
theorem mF (ts:List T)(t:T)(h:HY ts=some t):cI 4 1 (fV eZ) ts=some t:=by
 obtain⟨r,D,N,rfl,h1,rfl⟩:=xa h
 clear h
 obtain⟨u,v,hl⟩:=zo h1.db h1.dp (ah (aw r)) r 1 none none (Nat.one_dvd _) h1.den
 have e:cI 4 1 (fV eZ) [aw r]=(((cF (bF (av (ai 2) (av (ai 3) bq))) oU (r.map bS) [ah (aw r),ah (.int 1),none,none]).bind fun r=>match r with | .nx τ'=>bE (ag 1) τ' | r=>some r).bind fun r=>match r with | .rt t=>some t | .nx _=>some .non | _=>none):=rfl
 have hl':cF (bF (av (ai 2) (av (ai 3) bq))) oU (r.map bS) [ah (aw r),ah (.int 1),none,none]=_:=hl
 rw [e,hl']
 rfl
def br (L:Nat)(x:Rat):Int:=x.num*((L:Int).fdiv x.den)
theorem Ct {L:Nat}{x:Rat}(hL:0<L)(h:x.den∣L):Rat.divInt (br L x) L=x:=by
 obtain⟨c,hc⟩:=h
 have hc0:(c:Int)≠0:=fun z=>by
  have:c=0:=by omega
  rw [this,Nat.mul_zero] at hc
  omega
 have hd:=den_pos x
 have e:(L:Int).fdiv x.den=c:=by
  rw [hc,Int.natCast_mul]
  exact Int.mul_fdiv_cancel_left _ (by omega)
 unfold br
 rw [e,hc,Int.natCast_mul,Rat.divInt_mul_right hc0]
 exact gH x
def Mb (ts:List T)(t:T):Prop:=∃r D N,ts=[aw r,.int (aK r:Nat)]/\Gn D N r/\t=.lst (r.map fun x=>T.int (br (aK r) x))
def HX:List T->Option T:=mk Mb
theorem Fl {r:List Rat}{D N:Nat}(h1:Gn D N r):HX [aw r,.int (aK r:Nat)]=some (.lst (r.map fun x=>T.int (br (aK r) x))):=
 mk_eq ⟨r,D,N,rfl,h1,rfl⟩ fun t' hq__=>by
  obtain⟨r',_,_,e,_,e2⟩:=hq__
  injection e with e3 e4
  rw [e2,oN e3]
theorem uZ {D:Nat}:∀(r:List Rat) (l:Nat),l∣D->(∀x∈r,x.den∣D)->r.foldl (fun l x=>Nat.lcm l x.den) l∣D
 |[],l,h,_=>h
 |x::r,l,h,hx=>uZ r _ (Nat.lcm_dvd h (hx x List.mem_cons_self)) fun z hz=>hx z (List.mem_cons_of_mem _ hz)
theorem jr {r:List Rat}{D N:Nat}(h1:Gn D N r):aK r∣D/\0<aK r/\∀x∈r,x.den∣aK r:=by
 have h:aK r∣D:=uZ r 1 (Nat.one_dvd _) h1.den
 exact⟨h,Nat.pos_of_dvd_of_pos h h1.dp,fun x hx=>yk r 1 x hx⟩
theorem Fz {D N:Nat}{x:Rat}{L:Nat}(hx:x.num.natAbs≤N)(hp:0<D)(hL:L∣D):(br L x).natAbs≤N*D:=by
 have hl:L≤D:=Nat.le_of_dvd hp hL
 have hd:=den_pos x
 unfold br
 rw [Int.natAbs_mul,Int.fdiv_eq_ediv_of_nonneg _ (by omega)]
 refine Nat.mul_le_mul hx ?_
 have:=Int.ediv_le_self (x.den:Int) (show (0:Int)≤(L:Int) by omega)
 have:=Int.ediv_nonneg (show (0:Int)≤(L:Int) by omega) (show (0:Int)≤(x.den:Int) by omega)
 omega
theorem Ar (ts:List T)(t:T)(h:HX ts=some t):cI 2 2 uq ts=some t:=by
 obtain⟨r,D,N,rfl,h1,rfl⟩:=xa h
 clear h
 obtain⟨q1,q2,q3⟩:=jr h1
 have hB:=h1.db
 have hN:=h1.nb
 have hLk:aK r≤D:=Nat.le_of_dvd h1.dp q1
 have hc:=fR (φ:=fun x:Rat=>T.int x.num) (ψ:=fun x=>T.int x.den) (fe:=aN bU (ag 0) (aN df (ag 2) (ag 1))) (g:=fun x=>T.int (br (aK r) x)) (ρ:=[ah (.int (aK r:Nat))]) rfl r none none [] (fun x hx=>by
  have hd:=den_pos x
  have hxd:x.den≤aK r:=Nat.le_of_dvd q2 (q3 x hx)
  have n1:¬ ((x.den:Int)=0):=by omega
  have n2:(x.den:Int).natAbs<B:=by omega
  have n3:x.num.natAbs<B:=by have:=h1.num x hx;omega
  have n4:((aK r:Nat):Int).fdiv (x.den:Int)=((aK r:Nat):Int)/(x.den:Int):=Int.fdiv_eq_ediv_of_nonneg _ (by omega)
  have n5:(((aK r:Nat):Int).fdiv (x.den:Int)).natAbs<B:=by
   rw [n4]
   have:=Int.ediv_le_self (x.den:Int) (show (0:Int)≤((aK r:Nat):Int) by omega)
   have:=Int.ediv_nonneg (show (0:Int)≤((aK r:Nat):Int) by omega) (show (0:Int)≤(x.den:Int) by omega)
   omega
  have e:br (aK r) x=x.num*((aK r:Nat):Int).fdiv (x.den:Int):=rfl
  rw [e]
  clear e n4 hd hxd q1 q2 q3 hB hN hLk h1 hx
  walk_at "ev") (dE h1.len)
 have e:=bV (no:=2) (cap:=[1]) (fi:=bh (ag 0)) (fg:=uD) (ft:=az) (τ:=[ah (aw r),ah (.int (aK r:Nat))]) (h1:=rfl) rfl rfl hc
 show (((cg 2 [1] _ uD az _ [ah (aw r),ah (.int (aK r:Nat))]).bind fun p=>some (R.rt p.1)).bind _)=_
 rw [e]
 rfl
def bitsQ (r:List Rat):List Int:=r.map fun x=>(Builtin.Int.intBits (x.den:Int):Int)
def longest (r:List Rat):Int:=if bitsQ r=[] then 1 else bestOf (bitsQ r)
def liftT (r:List Rat):T:=.tup [aw r,.lst (r.map fun x=>T.int (br (aK r) x)),.int (aK r:Nat),.int (longest r)]
theorem EH {r s:List Rat}(f g:Rat->Int):(List.zip r s).map (fun p=>f p.1*g p.2)=List.zipWith (· * ·) (r.map f) (s.map g):=by
 rw [List.zipWith_map]
 induction r generalizing s with
 |nil=>simp
 |cons x r ih =>
  cases s with
  |nil=>simp
  |cons y s=>simp [ih]
theorem Cj {M:Nat}:∀l:List Int,(∀n∈l,n.natAbs≤M)->l.sum.natAbs≤l.length*M
 |[],_=>by simp
 |n::l,h=>by
  rw [List.sum_cons,List.length_cons,Nat.add_mul,Nat.one_mul]
  have h1:=h n List.mem_cons_self
  have h2:=Cj l fun z hz=>h z (List.mem_cons_of_mem _ hz)
  have:=Int.natAbs_add_le n l.sum
  omega
theorem wq {no:Nat}{cap:List Nat}{fi:FA}{fg:FG}{ft:FT}{fe:kO}{τ τ1:aI}{ts:List T}{us:List O}(h1:fi τ=some (ts,τ1))(h2:frzAll cap τ1=τ1)(h3:cw (cR no cap τ1)=true)(h4:dZ fg ft fe ts (cR no cap τ1) []=some us):cJ no cap fi fg ft fe τ=some (.lst us,τ1):=by
 unfold cJ
 rw [h1,Option.bind_some]
 dsimp only
 rw [h2,if_pos h3,h4]
 rfl
theorem Bs {r:List Rat}{j:Nat}(h:j<r.length):bQ (aw r) (aH j)=some (bS (r.getD j 0)):=by
 have e:(r.map bS)[j]? = some (bS (r.getD j 0)):=by
  rw [List.getElem?_map,List.getD_eq_getElem?_getD,List.getElem?_eq_getElem h]
  rfl
 exact yf e
def Wd (w:Nat)(A:List (List Rat)):Prop:=∀r∈A,r.length=w
def fu (A:List (List Rat))(w:Nat):List (List Rat):=(List.range w).map fun j=>ik A j
def Md (ts:List T)(o:O):Prop:=∃A,∃w:Nat,ts=[ao A,aH w]/\A.length≤16/\Wd w A/\w≤16/\o=xO (fu A w)
def JC:List T->Option O:=mk Md
theorem Dw {a b:Nat}(h:aH a=aH b):a=b:=by
 injection h with h
 omega
theorem JE {A:List (List Rat)}{w:Nat}(h1:A.length≤16)(h2:Wd w A)(h3:w≤16):JC [ao A,aH w]=some (xO (fu A w)):=
 mk_eq ⟨A,w,rfl,h1,h2,h3,rfl⟩ fun t' hq__=>by
  obtain⟨A',w',e,_,_,_,e2⟩:=hq__
  injection e with e3 e4
  injection e4 with e4 _
  rw [e2,Cr e3,Dw e4]
theorem Au (ts:List T)(o:O)(h:JC ts=some o):lV 2 2 jA ts=some o:=by
 obtain⟨A,w,rfl,h1,h2,h3,rfl⟩:=xa h
 clear h
 have inner:∀j:Nat,j<w->cJ 1 [0] (bh (ag 1)) (ai 0) az (eX (aN bQ (ag 0) (ag 1))) [ah (aH j),ah (ao A)]=some (mj (ik A j),[ah (aH j),ah (ao A)]):=fun j hj=>by
  have hc:=dH (φ:=aw) (fe:=eX (aN bQ (ag 0) (ag 1))) (g:=fun r=>O.val (bS (r.getD j 0))) (ρ:=[ah (aH j)]) rfl A none [] (fun r hr=>by
   have e:=Bs (r:=r) (j:=j) (by rw [h2 r hr];exact hj)
   show (((bQ (aw r) (aH j)).bind fun t=>some (t,[some (Sl.sh (aw r)),some (Sl.sh (aH j))])).bind fun p=>some (O.val p.1,p.2))=_
   rw [e]
   rfl) (tY h1)
  have e:=fF (no:=1) (cap:=[0]) (fi:=bh (ag 1)) (fg:=ai 0) (ft:=az) (τ:=[ah (aH j),ah (ao A)]) rfl rfl rfl hc
  rw [e]
  show some (O.lst (A.map fun r=>O.val (bS (r.getD j 0))),_)=some (O.lst (((ik A j).map bS).map O.val),_)
  unfold ik
  rw [List.map_map,List.map_map]
  rfl
 have hc:=dH (φ:=fun j:Nat=>aH j) (fe:=cJ 1 [0] (bh (ag 1)) (ai 0) az (eX (aN bQ (ag 0) (ag 1)))) (g:=fun j=>mj (ik A j)) (ρ:=[ah (ao A)]) rfl (List.range w) none [] (fun j hj=>inner j (List.mem_range.mp hj)) (tY (by rw [List.length_range];exact h3))
 have e:=fF (no:=1) (cap:=[0]) (fi:=bW (bg 1)) (fg:=ai 0) (ft:=az) (τ:=[ah (ao A),ah (aH w)]) (fP (f:=ag 1) rfl (by omega)) rfl rfl hc
 have e0:lV 2 2 jA [ao A,aH w]=jA [ah (ao A),ah (aH w)]:=rfl
 rw [e0]
 unfold jA kh
 rw [e]
 show some (O.lst ((List.range w).map fun j=>mj (ik A j)))=some (O.lst ((fu A w).map mj))
 unfold fu
 rw [List.map_map]
 rfl
abbrev wZ:List T->Option T:=fun ts=>(JC ts).bind fun o=>some o.tr
theorem GU {A:List (List Rat)}{w:Nat}(h1:A.length≤16)(h2:Wd w A)(h3:w≤16):wZ [ao A,aH w]=some (ao (fu A w)):=by
 show (JC _).bind _=_
 rw [JE h1 h2 h3]
 show some (xO _).tr=_
 rw [ub]
def mW (A B:List (List Rat)):List (List Rat):=(List.zip A B).map fun p=>p.1++p.2
mutual
theorem eqv_refl:∀d:PyData,d.canLay0=true->PyData.eqv d d=true
 | .none,_=>by simp [PyData.eqv]
 | .bool _,_=>by simp [PyData.eqv]
 | .int _,_=>by simp [PyData.eqv]
 | .str _,_=>by simp [PyData.eqv]
 | .list xs,h=>by
  simp only [PyData.canLay0] at h
  simp only [PyData.eqv]
  exact eqvAll_refl xs h
 | .tuple xs,h=>by
  simp only [PyData.canLay0] at h
  simp only [PyData.eqv]
  exact eqvAll_refl xs h
 | .dict _,h=>by simp [PyData.canLay0] at h
theorem eqvAll_refl:∀ds:List PyData,PyData.canLayAll0 ds=true->PyData.eqvAll ds ds=true
 |[],_=>by simp [PyData.eqvAll]
 |d::ds,h=>by
  simp only [PyData.canLayAll0,Bool.and_eq_true] at h
  simp only [PyData.eqvAll,eqv_refl d h.1,eqvAll_refl ds h.2,Bool.and_self]
end
def Hs (n:Nat)(t:T):Prop:=∃d,AJ t=some d/\d.canLay0=true/\d.depth≤n
theorem tX {n:Nat}:∀{ts:List T},(∀x∈ts,Hs n x)->∃ds,nt ts=some ds/\PyData.canLayAll0 ds=true/\PyData.depthAll ds≤n
 |[],_=>⟨[],rfl,rfl,Nat.zero_le _⟩
 |t::ts,h=>by
  obtain⟨d,h1,h2,h3⟩:=h t List.mem_cons_self
  obtain⟨ds,g1,g2,g3⟩:=tX fun x hx=>h x (List.mem_cons_of_mem _ hx)
  refine⟨d::ds,by simp only [nt,h1,g1,Option.bind_some],by simp only [PyData.canLayAll0,h2,g2,Bool.and_self],by simp only [PyData.depthAll];omega⟩
theorem zp {n:Nat}{ts:List T}(h:∀x∈ts,Hs n x):Hs (n+1) (.lst ts):=by
 obtain⟨ds,h1,h2,h3⟩:=tX h
 exact⟨.list ds,by simp only [AJ,h1,Option.map_some],by simp only [PyData.canLay0,h2],by simp only [PyData.depth];omega⟩
theorem Fv (q:Rat):Hs 1 (bS q):=⟨.tuple [.int q.num,.int q.den],rfl,rfl,Nat.le_of_ble_eq_true rfl⟩
theorem Er (r:List Rat):Hs 2 (aw r):=zp fun x hx=>by
 obtain⟨q,_,rfl⟩:=List.mem_map.mp hx
 exact Fv q
theorem zq (A:List (List Rat)):Hs 3 (ao A):=zp fun x hx=>by
 obtain⟨q,_,rfl⟩:=List.mem_map.mp hx
 exact Er q
theorem cmp_self {neg:Bool}{t:T}{n:Nat}(h:Hs n t)(hn:n≤60):Bd neg t t=some (.bl (!neg)):=by
 obtain⟨d,h1,h2,h3⟩:=h
 have hs:SeqAt.shaped d=true:=by
  unfold SeqAt.shaped
  rw [h2,Bool.true_and]
  exact decide_eq_true (by omega)
 unfold Bd
 rw [h1,Option.bind_some,Option.bind_some,if_pos ⟨hs,hs⟩,eqv_refl d h2]
 cases neg<;>rfl
theorem Ds {f:FE}{s:FS}{τ:aI}(h:f τ=some (.bl true,τ)):cT (dQ (eG f)) s cC τ=some (.nx τ):=by
 unfold cT dQ eG
 rw [h]
 rfl
theorem aV {t u:FS}{τ τ':aI}(h:t τ=some (.nx τ')):aR t u τ=u τ':=by
 unfold aR
 rw [h]
 rfl
theorem dF {f:FE}{τ:aI}{t:T}(h:f τ=some (t,τ)):af f aE τ=some ([t],τ):=by
 unfold af
 rw [h]
 rfl
theorem dY {f g:FE}{τ:aI}{t u:T}(h:f τ=some (t,τ))(h':g τ=some (u,τ)):af f (af g aE) τ=some ([t,u],τ):=by
 unfold af
 rw [h,Option.bind_some]
 dsimp only
 rw [h']
 rfl
theorem h9 {fi:FA}{fg:FG}{fb:FS}{τ:aI}{ts:List T}{r:R}(h1:fi τ=some (ts,τ))(h2:cF fg fb ts τ=some r):eE fi fg fb τ=some r:=by
 unfold eE
 rw [h1,Option.bind_some]
 exact h2
theorem dU {f:FE}{τ τ':aI}{t:T}(h:f τ=some (t,τ')):bE f τ=some (.rt t):=by
 unfold bE
 rw [h]
 rfl
def qS (m w:Nat):List (List Rat):=List.replicate m (List.replicate w 0)
theorem m6 {f g i:FE}{τ:aI}{t u v:T}(h:f τ=some (t,τ))(h':g τ=some (u,τ))(h'':i τ=some (v,τ)):af f (af g (af i aE)) τ=some ([t,u,v],τ):=by
 have e:=dY h' h''
 generalize hg:af g (af i aE)=G at *
 unfold af
 rw [h,Option.bind_some]
 dsimp only
 rw [e]
 rfl
theorem cP {i:Nat}{f:FE}{τ τ1 τ2:aI}{t:T}(h:f τ=some (t,τ1))(h2:aU i (fC t) τ1=some (.nx τ2)):aU i f τ=some (.nx τ2):=by
 unfold aU at *
 rw [h]
 exact h2
theorem fj {i:Int}(h1 : -1000000≤i)(h2:i≤1000000):i.natAbs<B:=by
 have:=Iw
 omega
theorem JJ {f:FE}{τ:aI}(h:f τ=some (.bl true,τ)):dQ (eG f) τ=some (false,τ):=by
 unfold dQ eG
 rw [h]
 rfl
def iT (l:List Int):T:=.lst (l.map T.int)
def pT (e:Nat×List Int):T:=.tup [.int (e.1:Nat),iT e.2]
theorem wR {l:List Int}{p:Nat}(h:p<l.length):bQ (iT l) (aH p)=some (.int (l.getD p 0)):=by
 show nv (l.map T.int) (p:Int)=_
 unfold nv yH
 rw [if_pos (by omega),if_pos (by rw [List.length_map];omega),Option.bind_some,Int.toNat_natCast,List.getElem?_map,List.getElem?_eq_getElem h,List.getD_eq_getElem?_getD,List.getElem?_eq_getElem h]
 rfl
theorem vC {n:Nat}(h:n≤24):([]:List T).length+n≤sizeLine:=by rw [List.length_nil,Nat.zero_add];exact bZ (by omega)
theorem qT {α β:Type}(r:List α)(s:List β)(h:r.length≤24):(List.zip r s).length≤24:=by rw [List.length_zip];omega
def qU (M:Nat)(x:Dt.Row):Prop:=∀j,(x j).natAbs≤M
theorem cS {m n:Nat}{fb:FS}{ts:List T}{t:T}(hl:ts.length=n)(h:fb (ts.map (fun t=>some (Sl.sh t))++List.replicate (m-n) none)=some (.rt t)):cI m n fb ts=some t:=by
 unfold cI
 rw [if_pos hl,h]
 rfl
abbrev EO:List T->Option T:=cI 7 2 lS
def ET:FE:=cg 1 [1] (bh (ag 0)) (ai 0) az (aN df (ag 0) (ag 1))
def rM:FT:=fG (aN Fb (n9 ia (ag 1)) (aZ 8000))
def AW:FE:=aN uC (aN bU (ag 2) (ag 0)) (aN bU (ag 3) (ag 1))
def AV:FE:=cg 2 [5,6] (dq (af (ag 0) (bg 4))) (bF (av (ai 0) (av (ai 1) bq))) az AW
def lU:FS:=(aR (iJ (di (af (aN bQ (ag 4) (ag 3)) (af (aN bQ (ag 0) (ag 3)) aE))) (bF (av (ai 5) (av (ai 6) bq))))
  (aR (aU 0 (aq EO (af AV (bg 2))))
  (aU 2 (ag 5))))
theorem FK {K:T}{row:List Int}{p hk hx d:Int}{o1 o5 o6:Option Sl}(h1:bQ K (.int p)=some (.int hk))(h2:bQ (iT row) (.int p)=some (.int hx)):
  iJ (di (af (aN bQ (ag 4) (ag 3)) (af (aN bQ (ag 0) (ag 3)) aE))) (bF (av (ai 5) (av (ai 6) bq))) [ah (iT row),o1,ah (.int d),ah (.int p),ah K,o5,o6]
   = some (.nx [ah (iT row),o1,ah (.int d),ah (.int p),ah K,ah (.int hk),ah (.int hx)]):=by
 have l2:=HW
 walk_at "ev"
theorem Iz {n l h t:Int}(hn:n.natAbs<B)(hl:l.natAbs<B)(hh:h.natAbs<B)(ht:t.natAbs<B):
  AW [ah (.int n),ah (.int l),ah (.int h),ah (.int t)]=some (.int (h*n-t*l),[ah (.int n),ah (.int l),ah (.int h),ah (.int t)]):=by
 unfold AW
 walk_at "ev"
theorem ju {α β γ:Type}(f:α->β->γ):∀(r:List α) (s:List β),(List.zip r s).map (fun p=>f p.1 p.2)=List.zipWith f r s
 |[],_=>by simp
 |_::_,[]=>by simp
 |a::r,b::s=>by simp [ju f r s]
theorem wy {i j:Nat}{r s:List Int}{τ:aI}(h1:τ[i]? = some (ah (iT r)))(h2:τ[j]? = some (ah (iT s))):dq (af (ag i) (af (ag j) aE)) τ=some ((List.zip r s).map fun p=>T.tup [T.int p.1,T.int p.2],τ):=by
 have e:dq (af (ag i) (af (ag j) aE)) τ=some (iN (r.map T.int) (s.map T.int),τ):=by
  have l1:ag i τ=some (iT r,τ):=by unfold ag;rw [h1]
  have l2:ag j τ=some (iT s,τ):=by unfold ag;rw [h2]
  unfold dq af aE
  rw [l1,Option.bind_some,l2,Option.bind_some,Option.bind_some]
  rfl
 rw [e,gT]
def pL:Option Nat->T
 |none=>.non
 |some p=>aH p
def lY:FS:=cT (fG (aN nF (aN bQ (ag 0) (ag 2)) (aZ 0))) (bE (ag 2)) cC
theorem Dj {L:T}{o1:Option Sl}{k n:Int}(h:bQ L (.int k)=some (.int n)):lY [ah L,o1,ah (.int k)]=if n=0 then some (.nx [ah L,o1,ah (.int k)]) else some (.rt (.int k)):=by
 unfold lY
 by_cases e:n=0
 ·subst e
  have e1:decide ((0:Int)=0)=true:=rfl
  rw [if_pos rfl]
  walk_at "ev"
 ·have e1:decide (n=0)=false:=by simpa using e
  rw [if_neg e]
  walk_at "ev"
theorem yA {l:List Int}{o1:Option Sl}:∀(js:List Nat),(∀j∈js,j<l.length)->∀o2:Option Sl,(∃o2',js.find? (fun j=>Dt.rw l j != 0)=none/\cF (ai 2) lY (js.map fun (i:Nat)=>T.int i) [ah (iT l),o1,o2]=some (.nx [ah (iT l),o1,o2']))\/∃p:Nat,js.find? (fun j=>Dt.rw l j != 0)=some p/\cF (ai 2) lY (js.map fun (i:Nat)=>T.int i) [ah (iT l),o1,o2]=some (.rt (aH p))
 |[],_,o2=>.inl ⟨o2,rfl,rfl⟩
 |j::js,hj,o2=>by
  have ht:=Dj (o1:=o1) (wR (l:=l) (hj j List.mem_cons_self))
  by_cases e:l.getD j 0=0
  ·rw [if_pos e] at ht
   have ef:(Dt.rw l j != 0)=false:=by show (l.getD j 0 != 0)=false;rw [e];rfl
   rcases yA js (fun i hi=>hj i (List.mem_cons_of_mem _ hi)) (ah (aH j)) with ⟨o',h1,h2⟩ | ⟨p,h1,h2⟩
   ·refine .inl ⟨o',by rw [List.find?_cons,ef];exact h1,?_⟩
    rw [List.map_cons,bN (τ1:=[ah (iT l),o1,ah (aH j)]) rfl ht]
    exact h2
   ·refine .inr ⟨p,by rw [List.find?_cons,ef];exact h1,?_⟩
    rw [List.map_cons,bN (τ1:=[ah (iT l),o1,ah (aH j)]) rfl ht]
    exact h2
  ·rw [if_neg e] at ht
   have ef:(Dt.rw l j != 0)=true:=by show (l.getD j 0 != 0)=true;simpa using e
   refine .inr ⟨j,by rw [List.find?_cons,ef],?_⟩
   rw [List.map_cons]
   show (ai 2 (aH j) [ah (iT l),o1,o2]).bind _=_
   rw [show ai 2 (aH j) [ah (iT l),o1,o2]=some [ah (iT l),o1,ah (aH j)] from rfl,Option.bind_some,ht]
   rfl
theorem dh {i:Nat}{τ:aI}{t:T}(h:τ[i]? = some (ah t)):ag i τ=some (t,τ):=by unfold ag;rw [h]
theorem lj:∀{τ:aI} {j:Nat} {t:T},τ[j]? = some (ah t)->(hide τ)[j]? = some (ah t)
 |[],j,t,h=>by simp at h
 |some (.own _)::τ,0,t,h=>by simp at h
 |some (.sh _)::τ,0,t,h=>by simpa [hide] using h
 |none::τ,0,t,h=>by simp at h
 |some (.own _)::τ,j+1,t,h=>by simpa [hide] using lj (τ:=τ) (j:=j) (by simpa using h)
 |some (.sh _)::τ,j+1,t,h=>by simpa [hide] using lj (τ:=τ) (j:=j) (by simpa using h)
 |none::τ,j+1,t,h=>by simpa [hide] using lj (τ:=τ) (j:=j) (by simpa using h)
theorem Cy {i:Nat}{f:FE}{τ:aI}{us:List T}{t:T}(h:τ[i]? = some (some (.own us)))(hf:∀τ':aI,τ'[i]? = some (ah (.lst us))->(∀(j:Nat) s,j≠i->τ[j]? = some (ah s)->τ'[j]? = some (ah s))->f τ'=some (t,τ')):
  gF i f τ=some (t,if apart us t=true then τ else τ.set i (ah (.lst us))):=by
 unfold gF
 rw [h]
 dsimp only
 rw [hf ((hide τ).set i (ah (.lst us))) (List.getElem?_set_self (by rw [dM];exact (List.getElem?_eq_some_iff.mp h).1)) (fun j s hj e=>by rw [List.getElem?_set_ne (Ne.symm hj)];exact lj e)]
 rfl
theorem zD {i:Nat}{f:FE}{τ:aI}{t:T}(h:τ[i]? = some (ah t)):gF i f τ=f τ:=by
 unfold gF
 rw [h]
theorem mM (us:List T):∀l:List Int,fU us (l.map T.int)=true
 |[]=>by simp [fU]
 |a::l=>by rw [List.map_cons,fU,mM us l];simp [apart]
theorem vU {ks:List (Nat×List Int)}{l:List Int}(h:ks≠[]\/l≠[]):apart (ks.map pT) (iT l)=true:=by
 unfold iT
 rw [apart,mM,Bool.and_true]
 unfold IJ
 cases ks with
 |nil =>
  cases l with
  |nil=>simp at h
  |cons a l=>simp
 |cons k ks =>
  cases l with
  |nil=>simp
  |cons a l=>simp [pT,kd]
theorem uk {i:Nat}{f:FE}{τ:aI}{ts:List T}{t:T}(h:τ[i]? = some (some (.own ts)))(hf:f τ=some (t,τ))(hl:ts.length<sizeLine):iW i f τ=some (.nx (τ.set i (some (.own (ts++[t]))))):=by
 unfold iW
 rw [h]
 dsimp only
 rw [hf,Option.bind_some]
 dsimp only
 rw [h]
 dsimp only
 rw [if_pos hl]
theorem mG {i j:Nat}{τ:aI}{a b:T}(h1:τ[i]? = some (ah a))(h2:τ[j]? = some (ah b)):di (af (ag i) (af (ag j) aE)) τ=some (.tup [a,b],τ):=by
 have l2:=HW
 unfold di af aE
 rw [dh h1,Option.bind_some,dh h2,Option.bind_some,Option.bind_some]
 show (if ([a,b]:List T).length≤sizeLine then some (T.tup [a,b],τ) else none)=_
 exact if_pos l2
def vG (e:Option Nat×List Int):T:=.tup [pL e.1,iT e.2]
def dC (L w:Nat):List (List Int)->List Dt.Row->List Nat->List (Option Nat×List Int)
 |[],_,_=>[]
 |row::rest,R,ps=>match Dt.fp w (Dt.left R ps (Dt.rw row)) with
  |none=>(none,Dt.bj L R ps (Dt.rw row))::dC L w rest R ps
  |some p=>(some p,Dt.bj L R ps (Dt.rw row))::dC L w rest (Dt.rw row::R) (p::ps)
theorem rg {i j:Nat}{d:List T->Option T}{τ:aI}{a b t:T}(h1:τ[i]? = some (ah a))(h2:τ[j]? = some (ah b))(h:d [a,b]=some t):aq d (af (ag i) (af (ag j) aE)) τ=some (t,τ):=by
 unfold aq af aE
 rw [dh h1,Option.bind_some,dh h2,Option.bind_some,Option.bind_some]
 show (d [a,b]).bind _=_
 rw [h]
 rfl
theorem yF {f:FE}{τ:aI}{t:T}(h:f τ=some (t,τ)):fG (aN jC f (fC .non)) τ=some (!oj t,τ):=by
 unfold fG aN
 rw [h]
 rfl
def Ir (L:Nat)(ks:List (Nat×List Int))(K3:Sl):Prop:=K3=.own (ks.map pT)\/(L=0/\ks=[]/\K3=.sh (.lst []))
theorem AO {w:Nat}{ks:List (Nat×List Int)}{A A':List Dt.Row}{b b':List Nat}(h:Dt.Fw w A b ks A' b'):A'.length=A.length+ks.length/\b'.length=b.length+ks.length:=by
 induction h with
 |nil=>exact⟨rfl,rfl⟩
 |cons _ _ _ ih =>
  have:=ih.1
  have:=ih.2
  simp only [List.length_cons] at *
  omega
theorem Bb {L w:Nat}(hwL:w≤L){R:List Dt.Row}{ps:List Nat}{x:Dt.Row}:Dt.fp w (Dt.rw (Dt.bj L R ps x))=Dt.fp w (Dt.left R ps x):=Dt.Ba fun j hj=>by rw [Dt.ma (by omega)]
theorem kM (L w:Nat):∀(rows:List (List Int)) (R:List Dt.Row) (ps:List Nat),(dC L w rows R ps).length=rows.length
 |[],_,_=>rfl
 |row::rows,R,ps=>by
  rw [dC]
  split
  ·rw [List.length_cons,kM L w rows,List.length_cons]
  ·rw [List.length_cons,kM L w rows,List.length_cons]
def gq (r:List Rat):List Int:=r.map (br (aK r))
theorem FL {f:FE}{g:FA}{τ τ1 τ2:aI}{t:T}{ts:List T}(h1:f τ=some (t,τ1))(h2:g τ1=some (ts,τ2)):af f g τ=some (t::ts,τ2):=by
 unfold af
 rw [h1,Option.bind_some,h2]
 rfl
theorem bA {g:T->T->Option T}{fa fb:FE}{τ:aI}{a b t:T}(h1:fa τ=some (a,τ))(h2:fb τ=some (b,τ))(h:g a b=some t):aN g fa fb τ=some (t,τ):=by
 unfold aN
 rw [h1,Option.bind_some,h2,Option.bind_some]
 show (g a b).bind _=_
 rw [h]
 rfl
theorem J1 {l:List Int}{M:Nat}(h:∀n∈l,n.natAbs≤M)(j:Nat):(Dt.rw l j).natAbs≤M:=by
 unfold Dt.rw
 rw [List.getD_eq_getElem?_getD]
 cases e:l[j]? with
 |none=>exact Nat.zero_le _
 |some n=>exact h n (List.mem_of_getElem? e)
theorem len_tab (A:List (List Rat)):bM [ao A]=some (.int (A.length:Nat)):=by
 show some (T.int ((A.map aw).length:Nat))=_
 rw [List.length_map]
theorem Ll {f g:FE}{τ:aI}{a b:Nat}(h1:f τ=some (aH a,τ))(h2:g τ=some (aH b,τ)):fG (aN Fb f g) τ=some (decide (a<b),τ):=by
 unfold fG aN
 rw [h1,Option.bind_some]
 dsimp only
 rw [h2,Option.bind_some]
 show some (decide ((a:Int)<(b:Int)),τ)=_
 congr 2
 simp only [Int.ofNat_lt]
theorem wU {A:List (List Rat)}{i:Nat}(h:i<A.length):bQ (ao A) (aH i)=some (aw (A.getD i [])):=by
 show nv (A.map aw) (i:Int)=_
 unfold nv yH
 rw [if_pos (by omega),List.length_map,if_pos (by omega),Option.bind_some,Int.toNat_natCast,List.getElem?_map,List.getElem?_eq_getElem h,List.getD_eq_getElem?_getD,List.getElem?_eq_getElem h]
 rfl
theorem Eo {i:Nat}{f g:FE}{τ:aI}{us:List T}{k:Nat}{t:T}(h:τ[i]? = some (some (.own us)))(hf:f τ=some (t,τ))(hg:g τ=some (aH k,τ))(hk:k<us.length):n0 i f g τ=some (.nx (τ.set i (some (.own (us.set k t))))):=by
 unfold n0
 rw [hf,Option.bind_some]
 dsimp only
 rw [h]
 dsimp only
 rw [hg,Option.bind_some]
 dsimp only
 rw [h]
 dsimp only
 rw [show yH us.length ((k:Nat):Int)=some k from by unfold yH;rw [if_pos (by omega),if_pos (by omega),Int.toNat_natCast]]
 rfl
theorem nW {N d:Int}(hd:¬ d=0)(bd:d.natAbs<B):df (.int N) (.int d)=some (.int (N.fdiv d)):=if_pos ⟨hd,bd⟩
theorem mR {a b:Int}(h1:a.natAbs<B)(h2:b.natAbs<B):bU (.int a) (.int b)=some (.int (a*b)):=if_pos ⟨h1,h2⟩
theorem J5 {a b:Int}:uC (.int a) (.int b)=some (.int (a-b)):=rfl
theorem Dk {a b:Int}(hb:b≠0):m8 a b=bS (Rat.divInt a b):=by
 by_cases h:0<b
 ·exact iY h
 ·have hn:0 < -b:=by omega
  have e1:m8 a b=m8 (-a) (-b):=by
   rw [nD hn]
   unfold m8 sg
   rw [if_pos (by omega),Int.gcd_neg,Int.neg_gcd]
   have h1:∀x g:Int,x.fdiv (-g)=(-x).fdiv g:=fun x g=>by
    rw [<- Int.neg_fdiv_neg]
    rw [Int.neg_neg]
   rw [h1,h1]
  rw [e1,iY hn,<- Rat.neg_divInt_neg,Int.neg_neg,Int.neg_neg]
theorem vI (r:List Rat):(gq r).length=r.length:=by unfold gq;rw [List.length_map]
theorem mO {L:List T}{p:Nat}{t:T}(h:L[p]? = some t):bQ (.lst L) (aH p)=some t:=by
 have hp:=(List.getElem?_eq_some_iff.mp h).1
 show nv L (p:Int)=_
 unfold nv yH
 rw [if_pos (by omega),if_pos (by omega),Option.bind_some,Int.toNat_natCast,h]
theorem wg {a b:Int}(hb:b≠0):(Rat.divInt a b).den∣b.natAbs:=by
 rw [Rat.den_divInt,if_neg hb]
 exact Nat.div_dvd_of_dvd (by
  have:=Int.natAbs_dvd_natAbs.mpr (Int.gcd_dvd_left b a)
  rwa [Int.natAbs_natCast] at this)
theorem wj {a b:Int}(hb:b≠0):(Rat.divInt a b).num.natAbs≤a.natAbs:=by
 rw [Rat.num_divInt]
 have h1:((Int.gcd b a:Nat):Int)∣b.sign*a:=Int.dvd_mul_of_dvd_right (Int.gcd_dvd_right _ _)
 rw [Int.natAbs_ediv_of_dvd h1,Int.natAbs_mul]
 have h2:b.sign.natAbs=1:=by
  rcases Int.lt_or_gt_of_ne hb with h | h
  ·rw [Int.sign_eq_neg_one_of_neg h];rfl
  ·rw [Int.sign_eq_one_of_pos h];rfl
 rw [h2,Nat.one_mul]
 exact Nat.div_le_self _ _
theorem ib {N d:Int}(hd:¬ d=0):cQ (.int N) (.int d)=some (.int (N.fmod d)):=if_pos hd
theorem nG {i:Nat}{f:FE}{τ:aI}{us:List T}{k t:T}(h:τ[i]? = some (some (.own us)))(hf:f τ=some (k,τ))(hx:bQ (.lst us) k=some t):ee i f τ=some (t,τ):=by
 unfold ee
 rw [h]
 dsimp only
 rw [hf,Option.bind_some]
 dsimp only
 rw [h]
 dsimp only
 rw [hx]
 rfl
structure Bw (w M:Nat)(A:List (List Rat)):Prop where
 wd:∀r∈A,r.length=w
 lq:∀r∈A,∀x∈r,Lq 1 M x
theorem BO {f:FE}{c:FT}{s:FS}{τ τ' τ'':aI}(h1:f τ=some (.bl true,τ'))(h2:c τ'=some (false,τ'')):cT (ux (dQ (eG f)) c) s cC τ=some (.nx τ''):=by
 have e:dQ (eG f) τ=some (false,τ'):=by
  unfold dQ eG
  rw [h1]
  rfl
 unfold cT ux
 rw [e,Option.bind_some]
 dsimp only
 rw [if_neg (by decide),h2]
 rfl
theorem oh {c:FT}{s:FS}{τ τ':aI}(h:c τ=some (false,τ')):cT c s cC τ=some (.nx τ'):=by
 unfold cT
 rw [h]
 rfl
theorem JH:nF (bS 0) (.tup [.int 0,.int 1])=some (.bl false):=cmp_self (neg:=true) (Fv 0) (by decide)
theorem Ln {q:Rat}(h:q≠0):nF (bS q) (.tup [.int 0,.int 1])=some (.bl true):=by
 have hn:(q.num == 0)=false:=by
  rw [beq_eq_false_iff_ne]
  exact fun z=>h (Rat.num_eq_zero.mp z)
 have e:nF (bS q) (.tup [.int 0,.int 1])=some (.bl (!(q.num == 0&&((q.den:Int) == 1&&true)))):=rfl
 rw [e,hn]
 rfl
def Ov (D N:Nat)(q:Rat):Prop:=∃a:Int,q=Rat.divInt a (D:Int)/\a.natAbs≤N
theorem Ov.zero (D:Nat):Ov D 0 0:=⟨0,by rw [Rat.zero_divInt],by simp⟩
theorem Ov.mono {D N N':Nat}{q:Rat}(h:Ov D N q)(hn:N≤N'):Ov D N' q:=by
 obtain⟨a,h1,h2⟩:=h
 exact⟨a,h1,Nat.le_trans h2 hn⟩
theorem Ov.add {D N N':Nat}(hD:0<D){x y:Rat}(h:Ov D N x)(h':Ov D N' y):Ov D (N+N') (x+y):=by
 obtain⟨a,rfl,ha⟩:=h
 obtain⟨b,rfl,hb⟩:=h'
 have hd:(D:Int)≠0:=by omega
 refine⟨a+b,?_,by have:=Int.natAbs_add_le a b;omega⟩
 rw [Rat.divInt_add_divInt _ _ hd hd,<- Int.add_mul,Rat.divInt_mul_right hd]
theorem Ov.mul {D D' N N':Nat}{x y:Rat}(h:Ov D N x)(h':Ov D' N' y):Ov (D*D') (N*N') (x*y):=by
 obtain⟨a,rfl,ha⟩:=h
 obtain⟨b,rfl,hb⟩:=h'
 refine⟨a*b,?_,by rw [Int.natAbs_mul];exact Nat.mul_le_mul ha hb⟩
 rw [Rat.divInt_mul_divInt,Int.natCast_mul]
theorem Ov.num {D N:Nat}(hD:0<D){q:Rat}(h:Ov D N q):q.num.natAbs≤N:=by
 obtain⟨a,rfl,ha⟩:=h
 exact Nat.le_trans (wj (by omega)) ha
theorem Ov.den {D N:Nat}(hD:0<D){q:Rat}(h:Ov D N q):q.den∣D:=by
 obtain⟨a,rfl,ha⟩:=h
 have:=wg (a:=a) (b:=(D:Int)) (by omega)
 rw [Int.natAbs_natCast] at this
 exact this
theorem Ov.sm {D N:Nat}(hD:0<D)(hd:D<C)(hn:N<C){q:Rat}(h:Ov D N q):Sm q:=⟨Nat.lt_of_le_of_lt (h.num hD) hn,Nat.lt_of_le_of_lt (Nat.le_of_dvd hD (h.den hD)) hd⟩
theorem Ov.lq {k m:Nat}{q:Rat}(h:Lq k m q):Ov (DD k) (m*DD k) q:=h
structure Gv (D N:Nat)(r:List Rat):Prop where
 len:r.length≤16
 ov:∀x∈r,Ov D N x
 dp:0<D
 db:D<C
 nb:N<C
theorem Gv.gn {D N:Nat}{r:List Rat}(h:Gv D N r):Gn D N r:=⟨h.len,fun x hx=>(h.ov x hx).den h.dp,fun x hx=>(h.ov x hx).num h.dp,h.dp,Nat.lt_trans h.db CB,Nat.lt_trans h.nb CB⟩
theorem Gv.sm {D N:Nat}{r:List Rat}(h:Gv D N r){x:Rat}(hx:x∈r):Sm x:=(h.ov x hx).sm h.dp h.db h.nb
structure AN (D N D' N':Nat):Prop where
 dd:D*D'<C
 nn:16*(N*N')<C
def mI (P:List T->Option T):FS:=aU 2 (aq P (af (ag 2) (af (aq zX (af (ag 3) (bg 4))) aE)))
theorem vK {P:List T->Option T}(hP:∀x y:Rat,Sm x->Sm y->P [bS x,bS y]=some (bS (x+y))){D N D' N':Nat}(hD:0<D)(hD':0<D')(hd:D<C)(hn:N<C)(hd':D'<C)(hn':N'<C)(hdd:D*D'<C)(x0 x1:Option Sl):∀(r s:List Rat) (a:Rat) (M:Nat) (u v:Option Sl),(∀x∈r,Ov D N x)->(∀y∈s,Ov D' N' y)->Ov (D*D') M a->M+r.length*(N*N')<C ->
  ∃u' v',cF (bF (av (ai 3) (av (ai 4) bq))) (mI P) ((List.zip r s).map fun p=>T.tup [bS p.1,bS p.2]) [x0,x1,ah (bS a),u,v]=some (.nx [x0,x1,ah (bS (a+wsum r s)),u',v'])
 |[],s,a,M,u,v,_,_,_,_=>⟨u,v,by rw [vL,Rat.add_zero];simp [cF]⟩
 |x::r,[],a,M,u,v,_,_,_,_=>⟨u,v,by
   have z:wsum (x::r) []=0:=by unfold wsum;rw [List.zipWith_nil_right];rfl
   rw [z,Rat.add_zero];simp [cF]⟩
 |x::r,y::s,a,M,u,v,h1,h2,h3,h4=>by
  have hx:=h1 x List.mem_cons_self
  have hy:=h2 y List.mem_cons_self
  have lx:=hx.mul hy
  have hp:=Nat.mul_pos hD hD'
  have la:=h3.add hp lx
  rw [List.length_cons,Nat.add_mul,Nat.one_mul] at h4
  obtain⟨u',v',ih⟩:=vK hP hD hD' hd hn hd' hn' hdd x0 x1 r s (a+x*y) (M+N*N') (ah (bS x)) (ah (bS y)) (fun z hz=>h1 z (List.mem_cons_of_mem _ hz)) (fun z hz=>h2 z (List.mem_cons_of_mem _ hz)) la (by omega)
  refine⟨u',v',?_⟩
  have k1:=BF (hx.sm hD hd hn) (hy.sm hD' hd' hn')
  have k2:=hP _ _ (h3.sm hp hdd (by omega)) (lx.sm hp hdd (by omega))
  have hb:(mI P) [x0,x1,ah (bS a),ah (bS x),ah (bS y)]=some (.nx [x0,x1,ah (bS (a+x*y)),ah (bS x),ah (bS y)]):=by
   clear hP ih h1 h2 h3 h4 hx hy lx la hD hD' hd hn hd' hn' hdd hp
   unfold mI
   walk_at "ev"
  rw [List.zip_cons_cons,List.map_cons,bN (τ1:=[x0,x1,ah (bS a),ah (bS x),ah (bS y)]) rfl hb,ih,mJ,Rat.add_assoc]
theorem ue {D N D' N':Nat}(hD:0<D)(hD':0<D'):∀{r s:List Rat},(∀x∈r,Ov D N x)->(∀y∈s,Ov D' N' y)->Ov (D*D') (r.length*(N*N')) (wsum r s)
 |[],s,_,_=>by rw [vL];exact (Ov.zero _).mono (Nat.zero_le _)
 |x::r,[],_,_=>by
  have z:wsum (x::r) []=0:=by unfold wsum;rw [List.zipWith_nil_right];rfl
  rw [z];exact (Ov.zero _).mono (Nat.zero_le _)
 |x::r,y::s,h1,h2=>by
  rw [mJ,List.length_cons,Nat.add_mul,Nat.one_mul,Nat.add_comm]
  exact ((h1 x List.mem_cons_self).mul (h2 y List.mem_cons_self)).add (Nat.mul_pos hD hD') (ue hD hD' (fun z hz=>h1 z (List.mem_cons_of_mem _ hz)) (fun z hz=>h2 z (List.mem_cons_of_mem _ hz)))
theorem Cz {P:List T->Option T}(hP:∀x y:Rat,Sm x->Sm y->P [bS x,bS y]=some (bS (x+y))){D N D' N':Nat}{r s:List Rat}(h1:Gv D N r)(h2:Gv D' N' s)(f:AN D N D' N'):
  ∃u v,eE (dq (af (ag 0) (bg 1))) (bF (av (ai 3) (av (ai 4) bq))) (mI P) [ah (aw r),ah (aw s),ah (bS 0),none,none]=some (.nx [ah (aw r),ah (aw s),ah (bS (wsum r s)),u,v]):=by
 have hm:=Nat.mul_le_mul_right (N*N') h1.len
 obtain⟨u,v,hl⟩:=vK hP h1.dp h2.dp h1.db h1.nb h2.db h2.nb f.dd (ah (aw r)) (ah (aw s)) r s 0 0 none none h1.ov h2.ov (Ov.zero _) (by have:=f.nn;omega)
 rw [Rat.zero_add] at hl
 have hi:dq (af (ag 0) (bg 1)) [ah (aw r),ah (aw s),ah (bS 0),none,none]=some ((List.zip r s).map fun p=>T.tup [bS p.1,bS p.2],[ah (aw r),ah (aw s),ah (bS 0),none,none]):=by
  rw [<- gT]
  rfl
 exact⟨u,v,h9 hi hl⟩
abbrev Kx:List T->Option T:=cI 5 2 (qi zX BD)
theorem Jf {D N D' N':Nat}{r s:List Rat}(h1:Gv D N r)(h2:Gv D' N' s)(f:AN D N D' N'):Kx [aw r,aw s]=some (bS (wsum r s)):=by
 obtain⟨u,v,hl⟩:=Cz (P:=BD) (fun _ _=>BE) h1 h2 f
 refine cS rfl ?_
 show aR (aU 2 (fC (.tup [.int 0,.int 1]))) (aR (eE (dq (af (ag 0) (bg 1))) (bF (av (ai 3) (av (ai 4) bq))) (mI BD)) (bE (ag 2))) [ah (aw r),ah (aw s),none,none,none]=_
 rw [aV (τ':=[ah (aw r),ah (aw s),ah (bS 0),none,none]) rfl,aV hl]
 rfl
theorem qE {r:List Rat}{D N:Nat}(h:Gv D N r):0≤longest r/\longest r≤4000:=by
 have hb:∀n∈bitsQ r,0≤n/\n≤4000:=fun n hn=>by
  obtain⟨x,hx,rfl⟩:=List.mem_map.mp hn
  have h1:(x.den:Int).natAbs<B:=by have:=(h.sm hx).d;have:=CB;omega
  have:=vY h1
  omega
 unfold longest
 split
 ·omega
 ·unfold bestOf
  rw [List.getD_eq_getElem?_getD]
  cases e:(bitsQ r)[argBest (fun i j=>decide ((bitsQ r).getD i 0>(bitsQ r).getD j 0)) ((bitsQ r).length-1)]? with
  |none=>show (0:Int)≤0/\(0:Int)≤4000;omega
  |some n=>exact hb n (List.mem_of_getElem? e)
abbrev A2:List T->Option T:=cI 2 1 (nQ HY HX)
theorem EV {r:List Rat}{D N:Nat}(h1:Gv D N r):A2 [aw r]=some (liftT r):=by
 have k1:=Fm h1.gn
 have k2:=Fl h1.gn
 have hc:=fR (φ:=fun x:Rat=>T.int x.num) (ψ:=fun x=>T.int x.den) (fe:=n9 ia (ag 1)) (g:=fun x=>T.int (Builtin.Int.intBits (x.den:Int):Int)) (ρ:=[]) rfl r none none [] (fun x hx=>rfl) (dE h1.len)
 have e:=bV (no:=2) (cap:=[]) (fi:=bh (ag 0)) (fg:=uD) (ft:=az) (τ:=[ah (aw r),ah (.int (aK r:Nat))]) (h1:=rfl) rfl rfl hc
 rw [List.nil_append] at e
 have e2:(r.map fun x:Rat=>T.int (Builtin.Int.intBits (x.den:Int):Int))=(bitsQ r).map T.int:=by unfold bitsQ;rw [List.map_map];rfl
 rw [e2] at e
 have e3:yB (.lst ((bitsQ r).map T.int)) (.int 1)=some (.int (longest r)):=by
  show ((intsOf ((bitsQ r).map T.int)).bind fun ns=>some (T.int (if ns=[] then 1 else bestOf ns)))=_
  rw [ky]
  rfl
 have l4:=Li
 clear h1 hc e2
 unfold A2 cI nQ liftT
 walk_at "ev"
theorem kN {r:List Rat}{D N:Nat}(h:Gn D N r):(r.map (br (aK r))).map (fun n=>Rat.divInt n (aK r:Nat))=r:=by
 obtain⟨q1,q2,q3⟩:=jr h
 rw [List.map_map]
 have:r.map ((fun n=>Rat.divInt n (aK r:Nat)) ∘ br (aK r))=r.map id:=List.map_congr_left fun x hx=>Ct q2 (q3 x hx)
 rw [this,List.map_id]
theorem L3:C*C*C<B:=by decide +kernel
abbrev CI:List T->Option T:=cI 10 2 (fB Kx ki)
set_option maxHeartbeats 1000000 in
theorem Jh {D N D' N':Nat}{r s:List Rat}(h1:Gv D N r)(h2:Gv D' N' s)(f:AN D N D' N'):CI [liftT r,liftT s]=some (bS (wsum r s)):=by
 obtain⟨q1,q2,q3⟩:=jr h1.gn
 obtain⟨p1,p2,p3⟩:=jr h2.gn
 have kW:=Jf h1 h2 f
 have bl:=qE h1
 have bl':=qE h2
 have hL:aK r≤D:=Nat.le_of_dvd h1.dp q1
 have hL':aK s≤D':=Nat.le_of_dvd h2.dp p1
 have cc:=L3
 have hcc:C≤C*C:=Nat.le_mul_of_pos_left C EJ
 have hccc:C*C≤C*C*C:=Nat.le_mul_of_pos_right _ EJ
 have t1:∀x∈r,(br (aK r) x).natAbs≤N*D:=fun x hx=>Fz ((h1.ov x hx).num h1.dp) h1.dp q1
 have t2:∀x∈s,(br (aK s) x).natAbs≤N'*D':=fun x hx=>Fz ((h2.ov x hx).num h2.dp) h2.dp p1
 have hND:N*D<B:=by
  have:=Nat.mul_le_mul (Nat.le_of_lt h1.nb) (Nat.le_of_lt h1.db)
  omega
 have hND':N'*D'<B:=by
  have:=Nat.mul_le_mul (Nat.le_of_lt h2.nb) (Nat.le_of_lt h2.db)
  omega
 have hc:=fR (φ:=fun p:Rat×Rat=>T.int (br (aK r) p.1)) (ψ:=fun p=>T.int (br (aK s) p.2)) (fe:=aN bU (ag 0) (ag 1)) (g:=fun p=>T.int (br (aK r) p.1*br (aK s) p.2)) (ρ:=[]) rfl (List.zip r s) none none [] (fun p hp=>by
  have a1:=t1 _ (dR hp).1
  have a2:=t2 _ (dR hp).2
  exact bA rfl rfl (mR (by omega) (by omega))) (dE (EG r s h1.len))
 rw [List.nil_append] at hc
 have hsum:(List.zip r s).map (fun p=>br (aK r) p.1*br (aK s) p.2)=List.zipWith (· * ·) (r.map (br (aK r))) (s.map (br (aK s))):=EH _ _
 have hlst:((List.zip r s).map fun p:Rat×Rat=>T.int (br (aK r) p.1*br (aK s) p.2))=(List.zipWith (· * ·) (r.map (br (aK r))) (s.map (br (aK s)))).map T.int:=by rw [<- hsum,List.map_map];rfl
 rw [hlst] at hc
 have hbs:(List.zipWith (· * ·) (r.map (br (aK r))) (s.map (br (aK s)))).sum.natAbs<B:=by
  have hM:∀n∈List.zipWith (· * ·) (r.map (br (aK r))) (s.map (br (aK s))),n.natAbs≤(N*D)*(N'*D'):=fun n hn=>by
   rw [<- hsum] at hn
   obtain⟨p,hp,rfl⟩:=List.mem_map.mp hn
   rw [Int.natAbs_mul]
   exact Nat.mul_le_mul (t1 _ (dR hp).1) (t2 _ (dR hp).2)
  have h3:=Cj _ hM
  have h4:(List.zipWith (· * ·) (r.map (br (aK r))) (s.map (br (aK s)))).length≤16:=by
   rw [List.length_zipWith,List.length_map]
   have:=h1.len
   omega
  have h5:=Nat.mul_le_mul_right ((N*D)*(N'*D')) h4
  have h6:16*((N*D)*(N'*D'))=(16*(N*N'))*(D*D'):=by rw [Nat.mul_mul_mul_comm N D N' D'];exact (Nat.mul_assoc 16 (N*N') (D*D')).symm
  have h7:=Nat.mul_le_mul (Nat.le_of_lt f.nn) (Nat.le_of_lt f.dd)
  omega
 have hbl:(((aK r:Nat):Int)*((aK s:Nat):Int)).natAbs<B:=by
  rw [Int.natAbs_mul,Int.natAbs_natCast,Int.natAbs_natCast]
  have:=Nat.mul_le_mul hL hL'
  have:=f.dd
  omega
 have hpos:(0:Int)<((aK r:Nat):Int)*((aK s:Nat):Int):=Int.mul_pos (by omega) (by omega)
 have kF:=oq hbs hbl (Int.ne_of_gt hpos)
 rw [iY hpos,<- qR (by omega) (by omega),kN h1.gn,kN h2.gn] at kF
 have hi:dq (af (ag 3) (bg 7)) [ah (liftT r),ah (liftT s),ah (aw r),ah (.lst (r.map fun x=>T.int (br (aK r) x))),ah (.int (aK r:Nat)),ah (.int (longest r)),ah (aw s),ah (.lst (s.map fun x=>T.int (br (aK s) x))),ah (.int (aK s:Nat)),ah (.int (longest s))]
   = some ((List.zip r s).map fun p=>T.tup [T.int (br (aK r) p.1),T.int (br (aK s) p.2)],[ah (liftT r),ah (liftT s),ah (aw r),ah (.lst (r.map fun x=>T.int (br (aK r) x))),ah (.int (aK r:Nat)),ah (.int (longest r)),ah (aw s),ah (.lst (s.map fun x=>T.int (br (aK s) x))),ah (.int (aK s:Nat)),ah (.int (longest s))]):=by
  have z:=gT (fun x:Rat=>T.int (br (aK r) x)) (fun x:Rat=>T.int (br (aK s) x)) r s
  rw [<- z]
  rfl
 have e:=bV (no:=2) (cap:=[]) (fg:=uD) (ft:=az) hi rfl rfl hc
 have eS:Dd [.lst ((List.zipWith (· * ·) (r.map (br (aK r))) (s.map (br (aK s)))).map T.int)]=some (.int (List.zipWith (· * ·) (r.map (br (aK r))) (s.map (br (aK s)))).sum):=by
  show ((intsOf _).bind fun ns=>some (T.int ns.sum))=_
  rw [ky]
  rfl
 have b4:(4:Int).natAbs<B:=by decide +kernel
 have bL:(longest r+longest s).natAbs<B:=by
  have:(8000:Nat)<B:=by decide +kernel
  omega
 have c1:((aK r:Nat):Int).natAbs<B:=by have:=h1.db;have:=CB;omega
 have c2:((aK s:Nat):Int).natAbs<B:=by have:=h2.db;have:=CB;omega
 have hgt:∃b,Bf (.int ((Builtin.Int.intBits ((aK r:Nat):Int):Int)+(Builtin.Int.intBits ((aK s:Nat):Int):Int))) (.int (4*(longest r+longest s)+128))=some (.bl b):=⟨_,rfl⟩
 obtain⟨b,hgt⟩:=hgt
 have Kz:liftT r=.tup [aw r,.lst (r.map fun x=>T.int (br (aK r) x)),.int (aK r:Nat),.int (longest r)]:=rfl
 have HV:liftT s=.tup [aw s,.lst (s.map fun x=>T.int (br (aK s) x)),.int (aK s:Nat),.int (longest s)]:=rfl
 have e':cg 2 [] (dq (af (ag 3) (bg 7))) (bF (av (ai 0) (av (ai 1) bq))) az (aN bU (ag 0) (ag 1)) _=_:=e
 rw [Kz,HV] at e' ⊢
 clear e Kz HV t1 t2 hND hND' cc hcc hccc
 generalize wsum r s=W at *
 generalize (List.zipWith (· * ·) (r.map (br (aK r))) (s.map (br (aK s))))=zw at *
 clear hc hlst hsum hi hbs hbl hpos bl bl' hL hL' q1 q2 q3 p1 p2 p3 h1 h2 f
 unfold CI cI fB
 generalize Kx=dW at *
 cases b with
 |true=>walk_at "ev"
 |false=>walk_at "ev"
structure Tv (D N:Nat)(A:List (List Rat)):Prop where
 len:A.length≤16
 row:∀r∈A,r.length≤16/\∀x∈r,Ov D N x
 dp:0<D
 db:D<C
 nb:N<C
theorem Tv.gv {D N:Nat}{A:List (List Rat)}(h:Tv D N A){r:List Rat}(hr:r∈A):Gv D N r:=⟨(h.row r hr).1,(h.row r hr).2,h.dp,h.db,h.nb⟩
theorem Tv.col {D N:Nat}{A:List (List Rat)}(h:Tv D N A)(j:Nat):Gv D N (ik A j):=by
 refine⟨by unfold ik;rw [List.length_map];exact h.len,fun x hx=>?_,h.dp,h.db,h.nb⟩
 obtain⟨r,hr,rfl⟩:=List.mem_map.mp hx
 rw [List.getD_eq_getElem?_getD]
 cases e:r[j]? with
 |none=>exact (Ov.zero D).mono (Nat.zero_le _)
 |some y=>exact (h.row r hr).2 y (List.mem_of_getElem? e)
abbrev Kv:List T->Option O:=lV 5 3 (gu A2 wZ CI)
theorem IZ {D N D' N' w:Nat}{A X:List (List Rat)}(h1:Tv D N A)(h2:Tv D' N' X)(h3:Wd w X)(h4:w≤16)(f:AN D N D' N'):Kv [ao A,ao X,aH w]=some (xO (mulM A X w)):=by
 have cA:=cu (φ:=aw) (fe:=aq A2 (bg 0)) (g:=liftT) (ρ:=[]) rfl A none [] (fun r hr=>aJ [aw r] rfl (EV (h1.gv hr))) (dE h1.len)
 have cB:=cu (φ:=aw) (fe:=aq A2 (bg 0)) (g:=liftT) (ρ:=[]) rfl (fu X w) none [] (fun r hr=>by
  obtain⟨j,_,rfl⟩:=List.mem_map.mp hr
  exact aJ [aw (ik X j)] rfl (EV (h2.col j))) (dE (by unfold fu;rw [List.length_map,List.length_range];exact h4))
 rw [List.nil_append] at cA cB
 have kT:=GU h2.len h3 h4
 have eA:eV 3 1 [] (bh (ag 0)) (ai 0) az (aq A2 (bg 0)) [ah (ao A),ah (ao X),ah (aH w),none,none]
   = some (.nx [ah (ao A),ah (ao X),ah (aH w),some (.own (A.map liftT)),none]):=by
  show (if cw [none]=true then (eP (ai 0) az (aq A2 (bg 0)) (A.map aw) [none] []).bind _ else none)=_
  rw [if_pos (show cw [none]=true from rfl),cA]
  rfl
 have eI:bh (aq wZ (af (ag 1) (bg 2))) [ah (ao A),ah (ao X),ah (aH w),some (.own (A.map liftT)),none]=some ((fu X w).map aw,[ah (ao A),ah (ao X),ah (aH w),some (.own (A.map liftT)),none]):=by
  have q:aq wZ (af (ag 1) (bg 2)) [ah (ao A),ah (ao X),ah (aH w),some (.own (A.map liftT)),none]=some (ao (fu X w),[ah (ao A),ah (ao X),ah (aH w),some (.own (A.map liftT)),none]):=aJ [ao X,aH w] rfl kT
  unfold bh
  rw [q]
  rfl
 have eB:=bV (no:=1) (cap:=[]) (fg:=ai 0) (ft:=az) eI rfl rfl cB
 have inner:∀r∈A,cJ 1 [0] (bh (ag 1)) (ai 0) az (eX (aq CI (af (ag 1) (bg 0)))) [ah (liftT r),ah (.lst ((fu X w).map liftT))]=some (mj (ml r X w),[ah (liftT r),ah (.lst ((fu X w).map liftT))]):=fun r hr=>by
  have hc:=dH (φ:=fun j:Nat=>liftT (ik X j)) (fe:=eX (aq CI (af (ag 1) (bg 0)))) (g:=fun j=>O.val (bS (wsum r (ik X j)))) (ρ:=[ah (liftT r)]) rfl (List.range w) none [] (fun j hj=>Ki [liftT r,liftT (ik X j)] rfl (Jh (h1.gv hr) (h2.col j) f)) (tY (by rw [List.length_range];exact h4))
  have hm:(List.range w).map (fun j=>liftT (ik X j))=(fu X w).map liftT:=by unfold fu;rw [List.map_map];rfl
  rw [hm] at hc
  have e:=fF (no:=1) (cap:=[0]) (fi:=bh (ag 1)) (fg:=ai 0) (ft:=az) (τ:=[ah (liftT r),ah (.lst ((fu X w).map liftT))]) rfl rfl rfl hc
  rw [e]
  show some (O.lst ((List.range w).map fun j=>O.val (bS (wsum r (ik X j)))),_)=some (O.lst (((ml r X w).map bS).map O.val),_)
  unfold ml
  rw [List.map_map,List.map_map]
  rfl
 have hc:=dH (φ:=liftT) (fe:=cJ 1 [0] (bh (ag 1)) (ai 0) az (eX (aq CI (af (ag 1) (bg 0))))) (g:=fun r=>mj (ml r X w)) (ρ:=[ah (.lst ((fu X w).map liftT))]) rfl A none [] inner (tY h1.len)
 have eC:=wq (no:=1) (cap:=[4]) (fi:=bh (ag 3)) (fg:=ai 0) (ft:=az) (τ:=[ah (ao A),ah (ao X),ah (aH w),some (.own (A.map liftT)),ah (.lst ((fu X w).map liftT))]) (τ1:=[ah (ao A),ah (ao X),ah (aH w),ah (.lst (A.map liftT)),ah (.lst ((fu X w).map liftT))]) rfl rfl rfl hc
 have e1:lV 5 3 (gu A2 wZ CI) [ao A,ao X,aH w]=gu A2 wZ CI [ah (ao A),ah (ao X),ah (aH w),none,none]:=rfl
 show lV 5 3 (gu A2 wZ CI) [ao A,ao X,aH w]=_
 rw [e1]
 unfold gu uy
 rw [eA,Option.bind_some]
 dsimp only
 unfold aU
 rw [eB]
 show kh _ [ah (ao A),ah (ao X),ah (aH w),some (.own (A.map liftT)),ah (.lst ((fu X w).map liftT))]=_
 unfold kh
 rw [eC]
 show some (O.lst (A.map fun r=>mj (ml r X w)))=some (O.lst ((mulM A X w).map mj))
 unfold mulM
 rw [List.map_map]
 rfl
abbrev wc:List T->Option T:=fun ts=>(Kv ts).bind fun o=>some o.tr
theorem A4 {D N D' N' w:Nat}{A X:List (List Rat)}(h1:Tv D N A)(h2:Tv D' N' X)(h3:Wd w X)(h4:w≤16)(f:AN D N D' N'):wc [ao A,ao X,aH w]=some (ao (mulM A X w)):=by
 show (Kv _).bind _=_
 rw [IZ h1 h2 h3 h4 f,Option.bind_some,ub]
theorem Ly {f:FE}{τ τ':aI}{ts:List T}(h:f τ=some (.lst ts,τ')):bh f τ=some (ts,τ'):=by
 unfold bh
 rw [h]
 rfl
theorem qq {α:Type}(f:α->Bool):∀l:List α,boolsOf (l.map fun x=>T.bl (f x))=some (l.map f)
 |[]=>rfl
 |x::l=>by rw [List.map_cons,boolsOf,qq f l];rfl
theorem all_map {α:Type}(f:α->Bool)(l:List α):rJ [.lst (l.map fun x=>T.bl (f x))]=some (.bl (l.all f)):=by
 show (boolsOf _).bind _=_
 rw [qq,Option.bind_some,List.all_map]
 rfl
abbrev ID:List T->Option T:=cI 1 1 kl
abbrev FX:List T->Option T:=cI 3 1 (ij ID eZ)
theorem Br (n:Int):ID [.int n]=some (.bl true):=by
 unfold ID cI kl
 walk_at "ev"
theorem Lf {x:Rat}(h:Sm x):FX [bS x]=some (.bl true):=by
 have k1:=eM (a:=x.num) (b:=(x.den:Int)) (ltB h.n) (ltB (by rw [Int.natAbs_natCast];exact h.d))
 have hg:Int.gcd x.num (x.den:Int)=1:=x.reduced
 rw [hg] at k1
 have k2:=Br x.num
 have k3:=Br (x.den:Int)
 have hp:K9 (.int (x.den:Int)) (.int 1)=some (.bl true):=by
  have:=x.den_nz
  show some (T.bl (decide ((x.den:Int)≥1)))=_
  rw [decide_eq_true (by omega)]
 have k4:lP (.int ((1:Nat):Int)) (.int 1)=some (.bl true):=rfl
 unfold bS
 have c2:decide (((2:Nat):Int)=2)=true:=rfl
 generalize hw:ID=w at *
 generalize x.num=a at *
 generalize (x.den:Int)=b at *
 unfold FX cI ij
 rw [hw]
 walk_at "ev"
theorem By {M:Nat}{R:List Dt.Row}{ps:List Nat}{x:Dt.Row}(hx:qU M x)(hR:∀y∈R,qU M y)(hr:R.length≤10)(hp:ps.length≤11)(j:Nat):(Dt.left R ps x j).natAbs≤(12*M+1)^(R.length+1):=
 Dt.we (M:=M) (n:=12) (x::R) (j::ps) (fun y hy=>by
  rcases List.mem_cons.mp hy with rfl | hy
  ·exact hx
  ·exact hR y hy) (by simp only [List.length_cons];omega)
theorem ES {M:Nat}{R:List Dt.Row}{ps:List Nat}(hR:∀y∈R,qU M y)(hp:ps.length≤11):(Dt.det R ps).natAbs≤(12*M+1)^R.length:=Dt.we (M:=M) (n:=12) R ps hR (by omega)
theorem JV {M e:Nat}(h:e≤11):(12*M+1)^e≤(12*M+1)^11:=Nat.pow_le_pow_right (by omega) h
theorem Fh {M:Nat}(hM:(12*M+1)^11<B){R:List Dt.Row}{ps:List Nat}{x:Dt.Row}(hx:qU M x)(hR:∀y∈R,qU M y)(hr:R.length≤10)(hp:ps.length≤11)(j:Nat):(Dt.left R ps x j).natAbs<B:=Nat.lt_of_le_of_lt (Nat.le_trans (By hx hR hr hp j) (JV (by omega))) hM
theorem K5 {M:Nat}(hM:(12*M+1)^11<B){R:List Dt.Row}{ps:List Nat}(hR:∀y∈R,qU M y)(hr:R.length≤10)(hp:ps.length≤11):(Dt.det R ps).natAbs<B:=Nat.lt_of_le_of_lt (Nat.le_trans (ES hR hp) (JV (by omega))) hM
theorem rk:lS=aR (cT rM (bE ET) cC) gE:=rfl
theorem wo {l:List Int}{d:Int}(h8:l.length≤24)(hd:¬ d=0)(hb:d.natAbs<B):EO [iT l,.int d]=some (iT (l.map fun x=>x.fdiv d)):=by
 refine cS rfl ?_
 have hc:=cu (φ:=T.int) (fe:=aN df (ag 0) (ag 1)) (g:=fun x=>T.int (x.fdiv d)) (ρ:=[ah (.int d)]) rfl l none [] (fun x _=>by walk_at "ev") (vC h8)
 have e1:=bV (no:=1) (cap:=[1]) (fi:=bh (ag 0)) (fg:=ai 0) (ft:=az) (τ:=[ah (iT l),ah (.int d),none,none,none,none,none]) (h1:=rfl) rfl rfl hc
 have t1:rM [ah (iT l),ah (.int d),none,none,none,none,none]=some (true,[ah (iT l),ah (.int d),none,none,none,none,none]):=by
  have hq:=vX hb
  unfold rM
  walk_at "ev"
 have e2:cT rM (bE ET) cC [ah (iT l),ah (.int d),none,none,none,none,none]=some (.rt (iT (l.map fun x=>x.fdiv d))):=by
  unfold cT
  rw [t1,Option.bind_some]
  refine (dU e1).trans ?_
  rw [List.nil_append]
  unfold iT
  rw [List.map_map]
  rfl
 rw [rk]
 unfold aR
 rw [show (List.map (fun t=>some (Sl.sh t)) [iT l,T.int d]++List.replicate (7-2) none)=[ah (iT l),ah (.int d),none,none,none,none,none] from rfl,e2]
 rfl
theorem C3 {w:Nat}{R:List Dt.Row}{ps:List Nat}{k x:Dt.Row}{p:Nat}(hw:w≤24)(hd:Dt.det R ps≠0)(hn:Dt.left R ps k p≠0)(hp:p<w)(bd:(Dt.det R ps).natAbs<B)(bk:∀j,(Dt.left R ps k j).natAbs<B)(bx:∀j,(Dt.left R ps x j).natAbs<B)
  (o1 o5 o6:Option Sl):
  lU [ah (iT (Dt.bj w R ps x)),o1,ah (.int (Dt.det R ps)),ah (aH p),ah (iT (Dt.bj w R ps k)),o5,o6]=some (.nx [ah (iT (Dt.bj w (k::R) (p::ps) x)),o1,ah (.int (Dt.left R ps k p)),ah (aH p),ah (iT (Dt.bj w R ps k)),ah (.int (Dt.left R ps k p)),ah (.int (Dt.left R ps x p))]):=by
 have gk:(Dt.bj w R ps k).getD p 0=Dt.left R ps k p:=Dt.ma hp
 have gx:(Dt.bj w R ps x).getD p 0=Dt.left R ps x p:=Dt.ma hp
 have e1:=FK (d:=Dt.det R ps) (o1:=o1) (o5:=o5) (o6:=o6) (wR (l:=Dt.bj w R ps k) (by rw [Dt.gw];exact hp)) (wR (l:=Dt.bj w R ps x) (by rw [Dt.gw];exact hp))
 rw [gk,gx] at e1
 have mem:∀{y:Dt.Row} {n:Int},n∈Dt.bj w R ps y->∃j,n=Dt.left R ps y j:=fun {y n} h=>by
  obtain⟨j,_,e⟩:=List.mem_map.mp h
  exact⟨j,e.symm⟩
 have hc:=fR (φ:=fun p:Int×Int=>T.int p.1) (ψ:=fun p:Int×Int=>T.int p.2) (fe:=AW) (g:=fun q=>T.int (Dt.left R ps k p*q.1-Dt.left R ps x p*q.2)) (ρ:=[ah (.int (Dt.left R ps k p)),ah (.int (Dt.left R ps x p))]) rfl
  (List.zip (Dt.bj w R ps x) (Dt.bj w R ps k)) none none [] (fun q hq=>by
   obtain⟨m1,m2⟩:=dR hq
   obtain⟨i,ei⟩:=mem m1
   obtain⟨j,ej⟩:=mem m2
   exact Iz (by rw [ei];exact bx i) (by rw [ej];exact bk j) (bk p) (bx p)) (vC (qT _ _ (by rw [Dt.gw];exact hw)))
 have e2:=bV (no:=2) (cap:=[5,6]) (fg:=uD) (ft:=az) (fe:=AW) (wy (i:=0) (j:=4) (r:=Dt.bj w R ps x) (s:=Dt.bj w R ps k) (τ:=[ah (iT (Dt.bj w R ps x)),o1,ah (.int (Dt.det R ps)),ah (aH p),ah (iT (Dt.bj w R ps k)),ah (.int (Dt.left R ps k p)),ah (.int (Dt.left R ps x p))]) rfl rfl) rfl rfl hc
 have e3:T.lst ([]++(List.zip (Dt.bj w R ps x) (Dt.bj w R ps k)).map (fun q=>T.int (Dt.left R ps k p*q.1-Dt.left R ps x p*q.2)))=iT ((List.zip (Dt.bj w R ps x) (Dt.bj w R ps k)).map fun q=>Dt.left R ps k p*q.1-Dt.left R ps x p*q.2):=by
  unfold iT
  rw [List.nil_append,List.map_map]
  rfl
 rw [e3] at e2
 have e4:((List.zip (Dt.bj w R ps x) (Dt.bj w R ps k)).map fun q=>Dt.left R ps k p*q.1-Dt.left R ps x p*q.2).map (fun n=>n.fdiv (Dt.det R ps))=Dt.bj w (k::R) (p::ps) x:=by
  rw [List.map_map,<- Dt.Az hd hn,<- ju]
  rfl
 have e5:=wo (l:=(List.zip (Dt.bj w R ps x) (Dt.bj w R ps k)).map fun q=>Dt.left R ps k p*q.1-Dt.left R ps x p*q.2) (by rw [List.length_map];exact qT _ _ (by rw [Dt.gw];exact hw)) hd bd
 rw [e4] at e5
 unfold lU
 rw [aV e1,aV (cP (i:=0) (aJ (g:=EO) _ (dY (f:=AV) (g:=ag 2) e2 rfl) e5) rfl)]
 rfl
theorem C2 {M:Nat}(hM:(12*M+1)^11<B){w:Nat}{x:Dt.Row}(hw:w≤24)(hx:qU M x)(o1:Option Sl):∀{ks:List (Nat×List Int)} {R R':List Dt.Row} {ps ps':List Nat},Dt.Fw w R ps ks R' ps'->Dt.det R ps≠0->(∀y∈R',qU M y)->R'.length≤10->ps'.length≤10->∀(o3 o4 o5 o6:Option Sl),
  ∃(o3' o4' o5' o6':Option Sl),cF (bF (av (ai 3) (av (ai 4) bq))) lU (ks.map pT) [ah (iT (Dt.bj w R ps x)),o1,ah (.int (Dt.det R ps)),o3,o4,o5,o6]=some (.nx [ah (iT (Dt.bj w R' ps' x)),o1,ah (.int (Dt.det R' ps')),o3',o4',o5',o6']):=by
 intro ks R R' ps ps' h
 induction h with
 |nil=>exact fun _ _ _ _ o3 o4 o5 o6=>⟨o3,o4,o5,o6,rfl⟩
 |cons hp hn h ih =>
  rename_i R R' ps ps' ks k p
  intro hd hR hr hps o3 o4 o5 o6
  have sub:∀{ks:List (Nat×List Int)} {A A':List Dt.Row} {b b':List Nat},Dt.Fw w A b ks A' b'->(∀y∈A,y∈A')/\A.length≤A'.length/\b.length≤b'.length:=fun h=>by
   induction h with
   |nil=>exact⟨fun y hy=>hy,Nat.le_refl _,Nat.le_refl _⟩
   |cons _ _ _ ih=>exact⟨fun y hy=>ih.1 y (List.mem_cons_of_mem _ hy),by have:=ih.2.1;simp only [List.length_cons] at this;omega,by have:=ih.2.2;simp only [List.length_cons] at this;omega⟩
  obtain⟨s1,s2,s3⟩:=sub h
  simp only [List.length_cons] at s2 s3
  have bR:∀y∈R,qU M y:=fun y hy=>hR y (s1 y (List.mem_cons_of_mem _ hy))
  have bK:qU M k:=hR k (s1 k List.mem_cons_self)
  have st:=C3 (k:=k) (x:=x) hw hd hn hp (K5 hM bR (by omega) (by omega)) (fun j=>Fh hM bK bR (by omega) (by omega) j) (fun j=>Fh hM hx bR (by omega) (by omega) j) o1 o5 o6
  obtain⟨o3',o4',o5',o6',hL⟩:=ih hn hR hr hps (ah (aH p)) (ah (iT (Dt.bj w R ps k))) (ah (.int (Dt.left R ps k p))) (ah (.int (Dt.left R ps x p)))
  refine⟨o3',o4',o5',o6',?_⟩
  rw [List.map_cons,bN (τ1:=[ah (iT (Dt.bj w R ps x)),o1,ah (.int (Dt.det R ps)),ah (aH p),ah (iT (Dt.bj w R ps k)),o5,o6]) rfl st]
  exact hL
abbrev C7:List T->Option T:=cI 7 2 (iG EO)
theorem rj:iG EO=aR (aU 2 (aZ 1)) (aR (eE (bh (ag 1)) (bF (av (ai 3) (av (ai 4) bq))) lU) (bE (ag 0))):=rfl
theorem wm {M:Nat}(hM:(12*M+1)^11<B){w:Nat}{row:List Int}{ks:List (Nat×List Int)}{R:List Dt.Row}{ps:List Nat}(hl:row.length=w)(hw:w≤24)(hx:qU M (Dt.rw row))(h:Dt.Fw w [] [] ks R ps)(hR:∀y∈R,qU M y)(hr:R.length≤10)(hp:ps.length≤10):
  C7 [iT row,.lst (ks.map pT)]=some (iT (Dt.bj w R ps (Dt.rw row))):=by
 have e0:iT row=iT (Dt.bj w [] [] (Dt.rw row)):=by rw [<- Dt.om hl]
 obtain⟨o3,o4,o5,o6,hL⟩:=C2 hM hw hx (ah (.lst (ks.map pT))) h (by decide) hR hr hp none none none none
 have hL':cF (bF (av (ai 3) (av (ai 4) bq))) lU (ks.map pT) [ah (iT row),ah (.lst (ks.map pT)),ah (.int 1),none,none,none,none]=some (.nx [ah (iT (Dt.bj w R ps (Dt.rw row))),ah (.lst (ks.map pT)),ah (.int (Dt.det R ps)),o3,o4,o5,o6]):=by rw [e0];exact hL
 have e1:eE (bh (ag 1)) (bF (av (ai 3) (av (ai 4) bq))) lU [ah (iT row),ah (.lst (ks.map pT)),ah (.int 1),none,none,none,none]=_:=h9 rfl hL'
 have e2:aU 2 (aZ 1) [ah (iT row),ah (.lst (ks.map pT)),none,none,none,none,none]=some (.nx [ah (iT row),ah (.lst (ks.map pT)),ah (.int 1),none,none,none,none]):=rfl
 have e3:iG EO [ah (iT row),ah (.lst (ks.map pT)),none,none,none,none,none]=some (.rt (iT (Dt.bj w R ps (Dt.rw row)))):=by
  rw [rj,aV e2,aV e1]
  rfl
 show ((iG EO [ah (iT row),ah (.lst (ks.map pT)),none,none,none,none,none]).bind fun r=>match r with | .rt t=>some t | .nx _=>some .non | _=>none)=_
 rw [e3]
 rfl
abbrev FV:List T->Option T:=cI 3 2 fN
theorem nY {l:List Int}{w:Nat}(hl:w≤l.length)(hw:w≤24):FV [iT l,aH w]=some (pL (Dt.fp w (Dt.rw l))):=by
 have er:=fP (f:=ag 1) (τ:=[ah (iT l),ah (aH w),none]) (n:=w) rfl (by omega)
 have eb:fN=aR (eE (bW (bg 1)) (ai 2) lY) (bE (fC .non)):=rfl
 show ((fN [ah (iT l),ah (aH w),none]).bind fun r=>match r with | .rt t=>some t | .nx _=>some .non | _=>none)=_
 rw [eb]
 rcases yA (l:=l) (o1:=ah (aH w)) (List.range w) (fun j hj=>Nat.lt_of_lt_of_le (List.mem_range.mp hj) hl) none with ⟨o',h1,h2⟩ | ⟨p,h1,h2⟩
 ·rw [aV (h9 er h2)]
  unfold Dt.fp
  rw [h1]
  rfl
 ·have e1:eE (bW (bg 1)) (ai 2) lY [ah (iT l),ah (aH w),none]=some (.rt (aH p)):=h9 er h2
  unfold aR
  rw [e1]
  unfold Dt.fp
  rw [h1]
  rfl
def ko:FS:=(aR (aU 5 (gF 3 (aq C7 (af (ag 4) (bg 3)))))
  (aR (aU 6 (aq FV (af (ag 5) (bg 1))))
  (aR (iW 2 (di (af (ag 6) (bg 5))))
  (cT (fG (aN jC (ag 6) (fC .non))) (iW 3 (di (af (ag 6) (bg 5)))) cC))))
structure CP (M L:Nat)(R:List Dt.Row)(ps:List Nat)(ks:List (Nat×List Int)):Prop where
 fw:Dt.Fw L [] [] ks R ps
 bd:∀y∈R,qU M y
 lr:R.length≤10
 lp:ps.length≤10
theorem C6 {M L:Nat}(hM:(12*M+1)^11<B){R:List Dt.Row}{ps:List Nat}{ks:List (Nat×List Int)}(C:CP M L R ps ks){row:List Int}(hl:row.length=L)(hw:L≤24)(hb:qU M (Dt.rw row)){K3:Sl}(hK:Ir L ks K3){r0 r1 r2 o5 o6:Option Sl} :
  ∃K3',Ir L ks K3'/\(L≠0->K3'=.own (ks.map pT))/\gF 3 (aq C7 (af (ag 4) (bg 3))) [r0,r1,r2,some K3,ah (iT row),o5,o6]=some (iT (Dt.bj L R ps (Dt.rw row)),[r0,r1,r2,some K3',ah (iT row),o5,o6]):=by
 have ev:=wm hM hl hw hb C.fw C.bd (by have:=C.lr;omega) (by have:=C.lp;omega)
 rcases hK with rfl | ⟨h0,rfl,rfl⟩
 ·have hv:=Cy (i:=3) (f:=aq C7 (af (ag 4) (bg 3))) (τ:=[r0,r1,r2,some (.own (ks.map pT)),ah (iT row),o5,o6]) (us:=ks.map pT) rfl (fun τ' h1 h2=>rg (h2 4 (iT row) (by decide) rfl) h1 ev)
  by_cases hap:apart (ks.map pT) (iT (Dt.bj L R ps (Dt.rw row)))=true
  ·rw [if_pos hap] at hv
   exact⟨_,.inl rfl,fun _=>rfl,hv⟩
  ·rw [if_neg hap] at hv
   have h1:¬ (ks≠[]\/Dt.bj L R ps (Dt.rw row)≠[]):=fun z=>hap (vU z)
   have h2:ks=[]:=Classical.byContradiction fun z=>h1 (.inl z)
   have h3:Dt.bj L R ps (Dt.rw row)=[]:=Classical.byContradiction fun z=>h1 (.inr z)
   have h4:L=0:=by have:=Dt.gw L R ps (Dt.rw row);rw [h3] at this;simpa using this.symm
   subst h2
   exact⟨.sh (.lst []),.inr ⟨h4,rfl,rfl⟩,fun z=>absurd h4 z,hv⟩
 ·refine⟨.sh (.lst []),.inr ⟨h0,rfl,rfl⟩,fun z=>absurd h0 z,?_⟩
  rw [zD (t:=.lst []) rfl]
  exact rg rfl rfl ev
theorem C5 {M L w:Nat}(hM:(12*M+1)^11<B)(hwL:w≤L){R:List Dt.Row}{ps:List Nat}{ks:List (Nat×List Int)}(C:CP M L R ps ks){row:List Int}(hl:row.length=L)(hw:L≤24)(hb:qU M (Dt.rw row)){K3:Sl}(hK:Ir L ks K3){S:List T}(hS:S.length≤20)(r0 o5 o6:Option Sl):
  ∃(K3':Sl) (ks':List (Nat×List Int)),Ir L ks' K3'/\(∀p,Dt.fp w (Dt.left R ps (Dt.rw row))=some p->ks'=ks++[(p,Dt.bj L R ps (Dt.rw row))])/\(Dt.fp w (Dt.left R ps (Dt.rw row))=none->ks'=ks) /\
   ko [r0,ah (aH w),some (.own S),some K3,ah (iT row),o5,o6]=some (.nx [r0,ah (aH w),some (.own (S++[vG (Dt.fp w (Dt.left R ps (Dt.rw row)),Dt.bj L R ps (Dt.rw row))])),some K3',ah (iT row),ah (iT (Dt.bj L R ps (Dt.rw row))),ah (pL (Dt.fp w (Dt.left R ps (Dt.rw row))))]):=by
 obtain⟨K4,hK4,hw0,hv⟩:=C6 hM C hl hw hb hK (r0:=r0) (r1:=ah (aH w)) (r2:=some (.own S)) (o5:=o5) (o6:=o6)
 have hf:=nY (l:=Dt.bj L R ps (Dt.rw row)) (w:=w) (by rw [Dt.gw];exact hwL) (by omega)
 rw [Bb hwL] at hf
 have hks:ks.length≤10:=by have:=(AO C.fw).1;have:=C.lr;simp only [List.length_nil] at *;omega
 generalize hq:Dt.fp w (Dt.left R ps (Dt.rw row))=q at hf
 generalize hL:Dt.bj L R ps (Dt.rw row)=L at hv hf
 have e1:aU 5 (gF 3 (aq C7 (af (ag 4) (bg 3)))) [r0,ah (aH w),some (.own S),some K3,ah (iT row),o5,o6]=some (.nx [r0,ah (aH w),some (.own S),some K4,ah (iT row),ah (iT L),o6]):=cP hv rfl
 have e2:aU 6 (aq FV (af (ag 5) (bg 1))) [r0,ah (aH w),some (.own S),some K4,ah (iT row),ah (iT L),o6]=some (.nx [r0,ah (aH w),some (.own S),some K4,ah (iT row),ah (iT L),ah (pL q)]):=cP (rg rfl rfl hf) rfl
 have e3:iW 2 (di (af (ag 6) (bg 5))) [r0,ah (aH w),some (.own S),some K4,ah (iT row),ah (iT L),ah (pL q)]=some (.nx [r0,ah (aH w),some (.own (S++[vG (q,L)])),some K4,ah (iT row),ah (iT L),ah (pL q)]):=uk rfl (mG rfl rfl) (cY (by omega))
 have t4:fG (aN jC (ag 6) (fC .non)) [r0,ah (aH w),some (.own (S++[vG (q,L)])),some K4,ah (iT row),ah (iT L),ah (pL q)]=some (!oj (pL q),[r0,ah (aH w),some (.own (S++[vG (q,L)])),some K4,ah (iT row),ah (iT L),ah (pL q)]):=yF rfl
 cases q with
 |none =>
  refine⟨K4,ks,hK4,(fun p e=>by cases e),(fun _=>rfl),?_⟩
  unfold ko
  rw [aV e1,aV e2,aV e3]
  unfold cT
  rw [t4]
  rfl
 |some p =>
  have hpw:=(Dt.rQ hq).1
  have hK5:K4=.own (ks.map pT):=hw0 (by omega)
  subst hK5
  refine⟨.own ((ks++[(p,L)]).map pT),ks++[(p,L)],.inl rfl,(fun p' e=>by cases e;rfl),(fun e=>by cases e),?_⟩
  unfold ko
  rw [aV e1,aV e2,aV e3]
  unfold cT
  rw [t4]
  have e5:iW 3 (di (af (ag 6) (bg 5))) [r0,ah (aH w),some (.own (S++[vG (some p,L)])),some (.own (ks.map pT)),ah (iT row),ah (iT L),ah (pL (some p))]=some (.nx [r0,ah (aH w),some (.own (S++[vG (some p,L)])),some (.own (ks.map pT++[pT (p,L)])),ah (iT row),ah (iT L),ah (pL (some p))]):=uk rfl (mG rfl rfl) (cY (by rw [List.length_map];omega))
  have e6:(ks++[(p,L)]).map pT=ks.map pT++[pT (p,L)]:=by rw [List.map_append];rfl
  show iW 3 (di (af (ag 6) (bg 5))) [r0,ah (aH w),some (.own (S++[vG (some p,L)])),some (.own (ks.map pT)),ah (iT row),ah (iT L),ah (pL (some p))]=_
  rw [e5,e6]
theorem yi {M L w:Nat}(hM:(12*M+1)^11<B)(hwL:w≤L)(hw:L≤24)(r0:Option Sl):∀(rows:List (List Int)) (R:List Dt.Row) (ps:List Nat) (ks:List (Nat×List Int)) (K3:Sl) (S:List T) (o4 o5 o6:Option Sl),CP M L R ps ks->R.length+rows.length≤10->(∀row∈rows,row.length=L/\qU M (Dt.rw row))->Ir L ks K3->S.length+rows.length≤20 ->
  ∃K3' o4' o5' o6',cF (ai 4) ko (rows.map iT) [r0,ah (aH w),some (.own S),some K3,o4,o5,o6]=some (.nx [r0,ah (aH w),some (.own (S++(dC L w rows R ps).map vG)),K3',o4',o5',o6'])
 |[],R,ps,ks,K3,S,o4,o5,o6,C,_,_,hK,_=>⟨some K3,o4,o5,o6,by simp [cF,dC]⟩
 |row::rows,R,ps,ks,K3,S,o4,o5,o6,C,hr,hb,hK,hS=>by
  simp only [List.length_cons] at hr hS
  obtain⟨b1,b2⟩:=hb row List.mem_cons_self
  obtain⟨K3',ks',hK',h1,h2,ht⟩:=C5 hM hwL C b1 hw b2 hK (S:=S) (by omega) r0 o5 o6
  have hln:=AO C.fw
  simp only [List.length_nil,Nat.zero_add] at hln
  have hstep:∀{R' ps'},CP M L R' ps' ks'->R'.length+rows.length≤10->dC L w (row::rows) R ps=(Dt.fp w (Dt.left R ps (Dt.rw row)),Dt.bj L R ps (Dt.rw row))::dC L w rows R' ps'->∃K3' o4' o5' o6',cF (ai 4) ko ((row::rows).map iT) [r0,ah (aH w),some (.own S),some K3,o4,o5,o6]=some (.nx [r0,ah (aH w),some (.own (S++(dC L w (row::rows) R ps).map vG)),K3',o4',o5',o6']):=fun {R' ps'} C' hr' es=>by
   obtain⟨K4,p4,p5,p6,hL⟩:=yi hM hwL hw r0 rows R' ps' ks' K3' (S++[vG (Dt.fp w (Dt.left R ps (Dt.rw row)),Dt.bj L R ps (Dt.rw row))]) (ah (iT row)) (ah (iT (Dt.bj L R ps (Dt.rw row)))) (ah (pL (Dt.fp w (Dt.left R ps (Dt.rw row))))) C' hr' (fun r hr=>hb r (List.mem_cons_of_mem _ hr)) hK' (by rw [List.length_append];simp only [List.length_cons,List.length_nil];omega)
   refine⟨K4,p4,p5,p6,?_⟩
   rw [List.map_cons,bN (τ1:=[r0,ah (aH w),some (.own S),some K3,ah (iT row),o5,o6]) rfl ht,hL,es,List.map_cons,List.append_assoc]
   rfl
  cases e:Dt.fp w (Dt.left R ps (Dt.rw row)) with
  |none =>
   have hk:=h2 e
   subst hk
   exact hstep C (by omega) (by rw [dC,e])
  |some p =>
   have hk:=h1 p e
   obtain⟨hp,hn⟩:=Dt.rQ e
   refine hstep (R':=Dt.rw row::R) (ps':=p::ps) ⟨?_,?_,?_,?_⟩ (by simp only [List.length_cons];omega) (by rw [dC,e])
   ·rw [hk];exact C.fw.snoc (by omega) hn
   ·intro y hy
    rcases List.mem_cons.mp hy with rfl | hy
    ·exact b2
    ·exact C.bd y hy
   ·simp only [List.length_cons];omega
   ·simp only [List.length_cons];omega
abbrev IA:List T->Option T:=cI 7 2 (eU C7 FV)
theorem CY:eU C7 FV=aR (nB 2 3) (aR (eE (bh (ag 0)) (ai 4) ko) (bE (ag 2))):=rfl
theorem m7 {M L w:Nat}(hM:(12*M+1)^11<B)(hwL:w≤L){rows:List (List Int)}(hw:L≤24)(hr:rows.length≤10)(hb:∀row∈rows,row.length=L/\qU M (Dt.rw row)):IA [.lst (rows.map iT),aH w]=some (.lst ((dC L w rows [] []).map vG)):=by
 obtain⟨K3',o4,o5,o6,hL⟩:=yi hM hwL hw (ah (.lst (rows.map iT))) rows [] [] [] (.own []) [] none none none ⟨.nil,(fun _ h=>by cases h),Nat.zero_le _,Nat.zero_le _⟩ (by simpa using hr) hb (.inl rfl) (by simp;omega)
 have e1:nB 2 3 [ah (.lst (rows.map iT)),ah (aH w),none,none,none,none,none]=some (.nx [ah (.lst (rows.map iT)),ah (aH w),some (.own []),some (.own []),none,none,none]):=rfl
 have e2:eE (bh (ag 0)) (ai 4) ko [ah (.lst (rows.map iT)),ah (aH w),some (.own []),some (.own []),none,none,none]=_:=h9 rfl hL
 show ((eU C7 FV [ah (.lst (rows.map iT)),ah (aH w),none,none,none,none,none]).bind fun r=>match r with | .rt t=>some t | .nx _=>some .non | _=>none)=_
 rw [CY,aV e1,aV e2]
 rfl
abbrev HM:List T->Option T:=cI 5 2 (jz zX BD)
theorem IQ {D N D' N':Nat}{r s:List Rat}(h1:Gv D N r)(h2:Gv D' N' s)(f:AN D N D' N'):HM [aw r,aw s]=some (bS (wsum r s)):=by
 obtain⟨u,v,hl⟩:=Cz (P:=BD) (fun _ _=>BE) h1 h2 f
 refine cS rfl ?_
 show aR (aU 2 (di (af (aZ 0) (af (aZ 1) aE)))) (aR (eE (dq (af (ag 0) (bg 1))) (bF (av (ai 3) (av (ai 4) bq))) (mI BD)) (bE (ag 2))) [ah (aw r),ah (aw s),none,none,none]=_
 have e:aU 2 (di (af (aZ 0) (af (aZ 1) aE))) [ah (aw r),ah (aw s),none,none,none]=some (.nx [ah (aw r),ah (aw s),ah (bS 0),none,none]):=by
  have l2:=HW
  rw [HE]
  walk_at "ev"
 rw [aV e,aV hl]
 rfl
abbrev HL:List T->Option T:=cI 2 2 gX
theorem GY {a b:Nat}(ha:a≤1000)(hb:b≤1000):bU (aH a) (aH b)=some (.int ((a*b:Nat):Nat)):=by
 rw [mR (Fo (by omega)) (Fo (by omega)),Int.natCast_mul]
theorem rf {a b:Nat}:ck (aH a) (aH b)=some (.int ((a+b:Nat):Nat)):=by
 rw [dJ,Int.natCast_add]
structure Tw (m w:Nat)(A:List (List Rat)):Prop where
 len:A.length=m
 bw:Bw w 9 A
theorem CV {f g i j:FE}{τ:aI}{t u v x:T}(h:f τ=some (t,τ))(h':g τ=some (u,τ))(h'':i τ=some (v,τ))(h3:j τ=some (x,τ)):af f (af g (af i (af j aE))) τ=some ([t,u,v,x],τ):=FL h (m6 h' h'' h3)
theorem Fj {f:FA}{τ τ':aI}{ts:List T}(h:f τ=some (ts,τ'))(hl:ts.length≤1000):kr f τ=some (.lst ts,τ'):=by
 unfold kr
 rw [h,Option.bind_some]
 exact if_pos (bZ hl)
structure gU (m i o:Nat)(A B C D:List (List Rat)):Prop where
 a:Tw m m A
 b:Tw m i B
 c:Tw o m C
 d:Tw o i D
abbrev cD (A B C D:List (List Rat)):T:=.lst [ao A,ao B,ao C,ao D]
theorem iK {n:Nat}(h:n≤100):([]:List T).length+n≤sizeLine:=by rw [List.length_nil,Nat.zero_add];exact bZ (by omega)
theorem iP {fa fb:FE}{τ τ':aI}(h:fa τ=some (.bl true,τ')):eD fa fb τ=fb τ':=by
 unfold eD
 rw [h]
 rfl
theorem FH {fa fb:FE}{τ τ':aI}(h:fa τ=some (.bl false,τ')):eD fa fb τ=some (.bl false,τ'):=by
 unfold eD
 rw [h]
 rfl
theorem DE (ts:List T):bM [.lst ts]=some (.int (ts.length:Nat)):=rfl
theorem sP (r:List Rat):bM [aw r]=some (.int (r.length:Nat)):=by
 show some (T.int ((r.map bS).length:Nat))=_
 rw [List.length_map]
theorem wk (a b:Nat):lP (aH a) (aH b)=some (.bl (decide (a=b))):=by
 rw [nE]
 exact congrArg (fun z=>some (T.bl z)) (decide_eq_decide.mpr (by omega))
abbrev FY:List T->Option T:=cI 2 2 (uo FX)
def Bq:FE:=cg 1 [] (bh (ag 0)) (ai 0) az (aq FX (bg 0))
theorem Jv (t:T)(n:Nat):FY [t,aH n]=((bE (eD (aq bu (af (ag 0) (af (fC (.ty "list")) aE))) (eD (aN lP (aq bM (bg 0)) (ag 1)) (aq rJ (af Bq aE)))) [ah t,ah (aH n)]).bind fun r=>match r with | .rt t=>some t | .nx _=>some .non | _=>none):=rfl
theorem GG {α:Type}{φ:α->T}{f:α->Bool}(l:List α)(hl:l.length≤100)(h:∀x∈l,FX [φ x]=some (.bl (f x)))(n:Nat):FY [.lst (l.map φ),aH n]=some (.bl (decide (l.length=n)&&l.all f)):=by
 have c1:=cu (φ:=φ) (fe:=aq FX (bg 0)) (g:=fun x=>T.bl (f x)) (ρ:=[]) rfl l none [] (fun x hx=>aJ [φ x] rfl (h x hx)) (iK hl)
 have e1:=bV (no:=1) (cap:=[]) (fi:=bh (ag 0)) (fg:=ai 0) (ft:=az) (τ:=[ah (.lst (l.map φ)),ah (aH n)]) (h1:=rfl) rfl rfl c1
 rw [List.nil_append] at e1
 have e2:aq bu (af (ag 0) (af (fC (.ty "list")) aE)) [ah (.lst (l.map φ)),ah (aH n)]=some (.bl true,[ah (.lst (l.map φ)),ah (aH n)]):=rfl
 have e3:aN lP (aq bM (bg 0)) (ag 1) [ah (.lst (l.map φ)),ah (aH n)]=some (.bl (decide (l.length=n)),[ah (.lst (l.map φ)),ah (aH n)]):=bA (aJ _ (dF rfl) (DE _)) rfl (by rw [List.length_map];exact wk _ _)
 rw [Jv]
 unfold bE
 rw [iP e2]
 by_cases hn:l.length=n
 ·rw [decide_eq_true hn] at e3
  rw [iP e3,show aq rJ (af Bq aE) [ah (.lst (l.map φ)),ah (aH n)]=_ from aJ _ (dF e1) (all_map f l),decide_eq_true hn]
  rfl
 ·rw [decide_eq_false hn] at e3
  rw [FH e3,decide_eq_false hn]
  rfl
theorem GV {alts:List (Addr×(List T->Option T))}{m:Str}{fo:FE}{g:FA}{τ τ1 τ2:aI}{C:Addr}{ns:List Str}{ts qs:List T}{d:List T->Option T}{t:T}(h:fo τ=some (.obj C ns ts,τ1))(hm:¬ m∈ns)(hf:uA C alts=some d)(hg:g τ1=some (qs,τ2))(hd:d (.obj C ns ts::qs)=some t):jq alts m fo g τ=some (t,τ2):=by
 unfold jq
 rw [h,Option.bind_some]
 dsimp only
 rw [if_neg hm,hf,Option.bind_some,hg,Option.bind_some]
 dsimp only
 rw [hd]
 rfl
theorem Kg (a b:Int)(τ:aI):di (af (fC (.int a)) (af (fC (.int b)) aE)) τ=some (.tup [.int a,.int b],τ):=by
 unfold di
 rw [dY (f:=fC (.int a)) (g:=fC (.int b)) rfl rfl,Option.bind_some]
 exact if_pos HW
theorem BN {c1 c2:FT}{τ τ' τ'':aI}(h1:c1 τ=some (false,τ'))(h2:c2 τ'=some (false,τ'')):ux c1 c2 τ=some (false,τ''):=by
 unfold ux
 rw [h1,Option.bind_some]
 exact (if_neg Bool.false_ne_true).trans h2
theorem yg {a b c:Int}{fb fc:FE}{τ:aI}(hb:fb τ=some (.int b,τ))(hc:fc τ=some (.int c,τ))(h1:a≤b)(h2:b≤c):jB zO zO (fC (.int a)) fb fc τ=some (.bl true,τ):=by
 unfold jB
 rw [show fC (.int a) τ=some (.int a,τ) from rfl,Option.bind_some,hb,Option.bind_some]
 rw [show zO (.int a) (.int b)=some (.bl (decide (a≤b))) from rfl,decide_eq_true h1,Option.bind_some]
 dsimp only
 rw [hc,Option.bind_some,show zO (.int b) (.int c)=some (.bl (decide (b≤c))) from rfl,decide_eq_true h2]
 rfl
theorem BJ {f:FE}{τ τ':aI}(h:f τ=some (.bl true,τ')):dQ (fG f) τ=some (false,τ'):=by
 unfold dQ fG
 rw [h]
 rfl
theorem JB {x:Rat}(h:Lq 1 9 x):Sm x:=(Ov.lq h).sm (dX 1) (by decide +kernel) (by decide +kernel)
structure Tn (m w:Nat)(A:List (List Rat)):Prop where
 len:A.length=m
 wd:∀r∈A,r.length=w
 sm:∀r∈A,∀x∈r,Sm x
theorem Tw.tn {m w:Nat}{A:List (List Rat)}(h:Tw m w A):Tn m w A:=⟨h.len,h.bw.wd,fun r hr x hx=>JB (h.bw.lq r hr x hx)⟩
structure Sy (m i o:Nat)(A B C D:List (List Rat)):Prop where
 a:Tn m m A
 b:Tn m i B
 c:Tn o m C
 d:Tn o i D
theorem gU.sy {m i o:Nat}{A B C D:List (List Rat)}(h:gU m i o A B C D):Sy m i o A B C D:=⟨h.a.tn,h.b.tn,h.c.tn,h.d.tn⟩
theorem IL {r:List Rat}{w:Nat}(hl:r.length=w)(h8:w≤100)(h:∀x∈r,Sm x):FY [aw r,aH w]=some (.bl true):=by
 have e:=GG (φ:=bS) (f:=fun _=>true) r (by omega) (fun x hx=>Lf (h x hx)) w
 rw [decide_eq_true hl,show (r.all fun _=>true)=true by simp] at e
 exact e
abbrev Ks:List T->Option T:=cI 3 3 (iU FY)
theorem yw {m w:Nat}{A:List (List Rat)}(h:Tn m w A)(hm:m≤100)(hw:w≤100):Ks [ao A,aH m,aH w]=some (.bl true):=by
 have c1:=cu (φ:=aw) (fe:=aq FY (af (ag 0) (bg 1))) (g:=fun _=>T.bl true) (ρ:=[ah (aH w)]) rfl A none [] (fun r hr=>aJ [aw r,aH w] rfl (IL (h.wd r hr) hw (h.sm r hr))) (iK (by rw [h.len];exact hm))
 have e1:=bV (no:=1) (cap:=[2]) (fi:=bh (ag 0)) (fg:=ai 0) (ft:=az) (τ:=[ah (ao A),ah (aH m),ah (aH w)]) (ts:=A.map aw) rfl rfl rfl c1
 rw [List.nil_append] at e1
 have e2:aq bu (af (ag 0) (af (fC (.ty "list")) aE)) [ah (ao A),ah (aH m),ah (aH w)]=some (.bl true,[ah (ao A),ah (aH m),ah (aH w)]):=rfl
 have e3:aN lP (aq bM (bg 0)) (ag 1) [ah (ao A),ah (aH m),ah (aH w)]=some (.bl true,[ah (ao A),ah (aH m),ah (aH w)]):=bA (aJ _ (dF rfl) (len_tab A)) rfl (by rw [wk,decide_eq_true h.len])
 have e4:=aJ (g:=rJ) _ (dF e1) (all_map (fun _=>true) A)
 rw [show (A.all fun _=>true)=true by simp] at e4
 refine cS rfl ?_
 show iU FY [ah (ao A),ah (aH m),ah (aH w)]=_
 unfold iU
 exact dU ((iP e2).trans ((iP e3).trans e4))
abbrev A1:List T->Option T:=cI 7 4 (hV Ks)
section
variable {m i o:Nat}{A B C D:List (List Rat)}
theorem Sy.row0 (h:Sy m i o A B C D)(ho:0<o):(D.getD 0 []).length=i:=by
 have hl:=h.d.len
 cases D with
 |nil=>simp at hl;omega
 |cons d D=>exact h.d.wd d List.mem_cons_self
theorem Gk (h:Sy m i o A B C D)(hm:m≤100)(hi:1≤i/\i≤2)(ho:1≤o/\o≤2):A1 [ao A,ao B,ao C,ao D]=some (.bl true):=by
 have t1:=yw h.a hm hm
 have t2:=yw h.b hm (by omega)
 have t3:=yw h.c (by omega) hm
 have t4:=yw h.d (by omega) (by omega)
 have lA:=len_tab A
 have lD:=len_tab D
 have lR:=sP (D.getD 0 [])
 have ix:bQ (ao D) (.int 0)=some (aw (D.getD 0 [])):=wU (i:=0) (by rw [h.d.len];omega)
 rw [h.row0 (by omega)] at lR
 rw [h.a.len] at lA
 rw [h.d.len] at lD
 have iR:bu [aw (D.getD 0 []),.ty "list"]=some (.bl true):=rfl
 generalize D.getD 0 []=R at *
 have hi1:(1:Int)≤((i:Nat):Int):=by omega
 have hi2:((i:Nat):Int)≤2:=by omega
 have ho1:(1:Int)≤((o:Nat):Int):=by omega
 have ho2:((o:Nat):Int)≤2:=by omega
 have v3:∀{s4 s5 s6:Option Sl},aN bQ (ag 3) (aZ 0) [ah (ao A),ah (ao B),ah (ao C),ah (ao D),s4,s5,s6]=some (aw R,[ah (ao A),ah (ao B),ah (ao C),ah (ao D),s4,s5,s6]):=fun {s4 s5 s6}=>bA rfl rfl ix
 have l0:aq bM (bg 0) [ah (ao A),ah (ao B),ah (ao C),ah (ao D),none,none,none]=some (aH m,_):=aJ _ (dF rfl) lA
 have l3:aq bM (bg 3) [ah (ao A),ah (ao B),ah (ao C),ah (ao D),none,none,none]=some (aH o,_):=aJ _ (dF rfl) lD
 have l30:aq bM (af (aN bQ (ag 3) (aZ 0)) aE) [ah (ao A),ah (ao B),ah (ao C),ah (ao D),none,none,none]=some (aH i,_):=aJ _ (dF v3) lR
 have s1:cT (ux (dQ (eG (aq bu (af (ag 0) (af (fC (.ty "list")) aE))))) (ux (dQ (eG (aq bu (af (ag 3) (af (fC (.ty "list")) aE))))) (dQ (fG (jB zO zO (aZ 1) (aq bM (bg 3)) (aZ 2)))))) (bE (fC (.bl false))) cC [ah (ao A),ah (ao B),ah (ao C),ah (ao D),none,none,none]=some (.nx [ah (ao A),ah (ao B),ah (ao C),ah (ao D),none,none,none]):=BO rfl (BN (JJ rfl) (BJ (yg l3 rfl ho1 ho2)))
 have s2:cT (ux (dQ (eG (aq bu (af (aN bQ (ag 3) (aZ 0)) (af (fC (.ty "list")) aE))))) (dQ (fG (jB zO zO (aZ 1) (aq bM (af (aN bQ (ag 3) (aZ 0)) aE)) (aZ 2))))) (bE (fC (.bl false))) cC [ah (ao A),ah (ao B),ah (ao C),ah (ao D),none,none,none]=some (.nx [ah (ao A),ah (ao B),ah (ao C),ah (ao D),none,none,none]):=BO (aJ _ (dY v3 rfl) iR) (BJ (yg l30 rfl hi1 hi2))
 have s3:yy 4 5 6 (af (aq bM (bg 0)) (af (aq bM (af (aN bQ (ag 3) (aZ 0)) aE)) (af (aq bM (bg 3)) aE))) [ah (ao A),ah (ao B),ah (ao C),ah (ao D),none,none,none]=some (.nx [ah (ao A),ah (ao B),ah (ao C),ah (ao D),ah (aH m),ah (aH i),ah (aH o)]):=by
  unfold yy
  rw [m6 l0 l30 l3]
  rfl
 refine cS rfl ?_
 show hV Ks [ah (ao A),ah (ao B),ah (ao C),ah (ao D),none,none,none]=_
 unfold hV
 rw [aV s1,aV s2,aV s3]
 exact dU ((iP (aJ _ (m6 rfl rfl rfl) t1)).trans ((iP (aJ _ (m6 rfl rfl rfl) t2)).trans ((iP (aJ _ (m6 rfl rfl rfl) t3)).trans (aJ _ (m6 rfl rfl rfl) t4))))
abbrev iH:Addr:=319
def qe (r:List Rat):T:=.tup (r.map bS)
def mH (A:List (List Rat)):T:=.tup (A.map qe)
abbrev uB (A B C D:List (List Rat)):T:=.tup [mH A,mH B,mH C,mH D]
def cO (A B C D:List (List Rat)):T:=.obj iH ["four"] [uB A B C D]
theorem Bp {t:FS}{fr:Addr->FI}{x:Addr}{τ:aI}{ns:List Str}{us:List T}(h:t τ=some (.nx τ))(ha:cw τ=true)(h0:τ[0]? = some (ah (.ptr x))):Bo t fr x τ ns us=fr x τ ns us:=by
 unfold Bo
 rw [h,Option.bind_some]
 dsimp only
 rw [if_pos ha,h0]
 exact if_pos rfl
theorem GD {f:Str}{fe:FE}{fr:Addr->FI}{x:Addr}{τ:aI}{ns:List Str}{us:List T}{t:T}(h:fe τ=some (t,τ))(ha:cw τ=true)(hn:¬ f∈ns/\ns.length<999)(h0:τ[0]? = some (ah (.ptr x))):Du f fe fr x τ ns us=fr x τ (ns++[f]) (us++[t]):=by
 unfold Du
 rw [h,Option.bind_some]
 dsimp only
 rw [if_pos ⟨ha,hn⟩,h0]
 exact if_pos rfl
theorem A9 {P:List (List Rat)->Prop}(a:P A)(b:P B)(c:P C)(d:P D):∀X∈[A,B,C,D],P X:=by
 intro X hX
 simp only [List.mem_cons,List.not_mem_nil,or_false] at hX
 rcases hX with rfl | rfl | rfl | rfl
 ·exact a
 ·exact b
 ·exact c
 ·exact d
theorem Sy.len8 (h:Sy m i o A B C D)(hm:m≤8)(ho:o≤8):∀X∈[A,B,C,D],X.length≤8:=A9 (P:=fun X=>X.length≤8) (by rw [h.a.len];exact hm) (by rw [h.b.len];exact hm) (by rw [h.c.len];exact ho) (by rw [h.d.len];exact ho)
theorem Hz {f g p q:FE}{τ:aI}{t u v x:T}(h:f τ=some (t,τ))(h':g τ=some (u,τ))(h'':p τ=some (v,τ))(h3:q τ=some (x,τ)):di (af f (af g (af p (af q aE)))) τ=some (.tup [t,u,v,x],τ):=by
 unfold di
 rw [CV h h' h'' h3,Option.bind_some]
 exact if_pos Li
abbrev Gh:List T->Option vO:=dI 5 4 (dr A1)
theorem Jb (h:Sy m i o A B C D)(hm:m≤8)(hi:1≤i/\i≤2)(ho:1≤o/\o≤2):Gh [ao A,ao B,ao C,ao D]=some (((["four"]:List Str),[uB A B C D]):vO):=by
 refine IC ⟨rfl,fun x=>?_⟩
 show dr A1 x [ah (.ptr x),ah (ao A),ah (ao B),ah (ao C),ah (ao D)] [] []=_
 have t1:=Gk h (by omega) hi ho
 have lA:=len_tab A
 rw [h.a.len] at lA
 have l8:=h.len8 hm (by omega)
 have s1:cT (dQ (eG (aq A1 (af (ag 1) (af (ag 2) (af (ag 3) (bg 4))))))) gE cC [ah (.ptr x),ah (ao A),ah (ao B),ah (ao C),ah (ao D)]=some (.nx [ah (.ptr x),ah (ao A),ah (ao B),ah (ao C),ah (ao D)]):=Ds (aJ _ (CV rfl rfl rfl rfl) t1)
 have s2:cT (fG (aN Bf (aq bM (bg 1)) (aZ 8))) gE cC [ah (.ptr x),ah (ao A),ah (ao B),ah (ao C),ah (ao D)]=some (.nx [ah (.ptr x),ah (ao A),ah (ao B),ah (ao C),ah (ao D)]):=by
  refine oh ?_
  unfold fG
  rw [bA (g:=Bf) (t:=.bl (decide (((m:Nat):Int)>8))) (aJ (g:=bM) [ao A] (dF rfl) lA) rfl rfl,decide_eq_false (by omega)]
  rfl
 have hc:=cu (φ:=ao) (fe:=aq il (af (cg 1 [] (bh (ag 0)) (ai 0) az (aq il (bg 0))) aE)) (g:=mH) (ρ:=[]) rfl [A,B,C,D] none [] (fun X hX=>by
  have hc:=cu (φ:=aw) (fe:=aq il (bg 0)) (g:=qe) (ρ:=[]) rfl X none [] (fun r hr=>aJ [aw r] rfl rfl) (dE (Nat.le_trans (l8 X hX) (by decide)))
  have e:=bV (no:=1) (cap:=[]) (fi:=bh (ag 0)) (fg:=ai 0) (ft:=az) (τ:=[ah (ao X)]) (ts:=X.map aw) rfl rfl rfl hc
  exact aJ _ (dF e) rfl) (dE (by simp))
 have hi:bh (di (af (ag 1) (af (ag 2) (af (ag 3) (bg 4))))) [ah (.ptr x),ah (ao A),ah (ao B),ah (ao C),ah (ao D)]=some ([A,B,C,D].map ao,[ah (.ptr x),ah (ao A),ah (ao B),ah (ao C),ah (ao D)]):=by
  unfold bh
  rw [Hz (t:=ao A) (u:=ao B) (v:=ao C) (x:=ao D) rfl rfl rfl rfl]
  rfl
 have e:=bV (no:=1) (cap:=[]) (fg:=ai 0) (ft:=az) hi rfl rfl hc
 unfold dr
 rw [Bp s1 rfl rfl,Bp s2 rfl rfl,GD (aJ _ (dF e) rfl) rfl ⟨by decide,by decide⟩ rfl]
 rfl
abbrev Kt:List T->Option T:=cI 1 1 (jo iH)
abbrev IF:List T->Option T:=cI 1 1 (kf iH)
theorem IS:Kt [cO A B C D]=some (.int (A.length:Nat)):=by
 refine cS rfl (dU (aJ (t:=.int (A.length:Nat)) [mH A] (dF (bA (g:=bQ) (t:=mH A) (a:=uB A B C D) (b:=.int 0) rfl rfl rfl)) ?_))
 show some (T.int ((A.map qe).length:Nat))=_
 rw [List.length_map]
theorem DA {t:T}{ts:List T}:bQ (.tup (t::ts)) (.int 0)=some t:=by
 show nv (t::ts) 0=_
 unfold nv yH
 rw [if_pos (by decide),if_pos (by rw [List.length_cons];omega)]
 rfl
theorem IT (h:Sy m i o A B C D)(ho:0<o):IF [cO A B C D]=some (aH i):=by
 have hr:=h.row0 ho
 have hl:=h.d.len
 cases D with
 |nil=>simp at hl;omega
 |cons d D =>
  refine cS rfl (dU (aJ (t:=aH i) [qe d] (dF (bA (g:=bQ) (t:=qe d) (a:=mH (d::D)) (b:=.int 0) (bA (g:=bQ) (a:=uB A B C (d::D)) (b:=.int 3) rfl rfl rfl) rfl DA)) ?_))
  show some (T.int ((d.map bS).length:Nat))=_
  rw [List.length_map]
  exact congrArg (fun n:Nat=>some (aH n)) hr
abbrev CG:List T->Option T:=cI 1 1 (iF iH)
theorem EX (h:Sy m i o A B C D)(hm:m≤8)(ho:o≤8):CG [cO A B C D]=some (.tup [ao A,ao B,ao C,ao D]):=by
 have l8:=h.len8 hm ho
 have hc:=cu (φ:=mH) (fe:=cg 1 [] (bh (ag 0)) (ai 0) az (aq dList (bg 0))) (g:=ao) (ρ:=[]) rfl [A,B,C,D] none [] (fun X hX=>by
  have hc:=cu (φ:=qe) (fe:=aq dList (bg 0)) (g:=aw) (ρ:=[]) rfl X none [] (fun r hr=>aJ [qe r] rfl rfl) (dE (Nat.le_trans (l8 X hX) (by decide)))
  exact bV (no:=1) (cap:=[]) (fi:=bh (ag 0)) (fg:=ai 0) (ft:=az) (τ:=[ah (mH X)]) (ts:=X.map qe) rfl rfl rfl hc) (dE (by simp))
 have e:=bV (no:=1) (cap:=[]) (fi:=bh (A6 [iH] "four" (ag 0))) (fg:=ai 0) (ft:=az) (τ:=[ah (cO A B C D)]) (ts:=[A,B,C,D].map mH) rfl rfl rfl hc
 exact cS rfl (dU (aJ _ (dF e) rfl))
end
theorem JA {x:Rat}(h:Lq 1 9 x):Ov (DD 1) 249480 x:=Ov.lq h
theorem Ov.scale {D N E:Nat}{q:Rat}(h:Ov D N q)(hE:0<E):Ov (D*E) (N*E) q:=by
 obtain⟨a,rfl,ha⟩:=h
 refine⟨a*(E:Int),?_,by rw [Int.natAbs_mul,Int.natAbs_natCast];exact Nat.mul_le_mul_right _ ha⟩
 rw [Int.natCast_mul,Rat.divInt_mul_right (by omega)]
theorem HG (A B:List (List Rat))(z:List (Option Sl)):dq (af (ag 0) (bg 1)) (ah (ao A)::ah (ao B)::z)=some ((List.zip A B).map fun p=>T.tup [aw p.1,aw p.2],ah (ao A)::ah (ao B)::z):=by
 have e:=dY (f:=ag 0) (g:=ag 1) (τ:=ah (ao A)::ah (ao B)::z) rfl rfl
 unfold dq
 rw [e]
 show some (iN (A.map aw) (B.map aw),_)=_
 rw [gT]
theorem lg (x:Int){b:Int}(h:0<b):0≤x.fmod b/\x.fmod b<b:=⟨Int.fmod_nonneg_of_pos x h,Int.fmod_lt_of_pos x h⟩
def cellQ (ns:List Int)(k:Nat):Int:=if k<ns.length then ns.getD k 0 else (((k:Nat)+2:Int)*104729).fmod 65537
theorem yu (ns:List Int)(k:Nat)(hk:k≤1000):HL [.scr (ns.map T.int),aH k]=some (.int (cellQ ns k)):=by
 have hl:aq bM (bg 0) [ah (.scr (ns.map T.int)),ah (aH k)]=some (.int (ns.length:Nat),[ah (.scr (ns.map T.int)),ah (aH k)]):=aJ [.scr (ns.map T.int)] (dF rfl) (by
  show some (T.int ((ns.map T.int).length:Nat))=_
  rw [List.length_map])
 have ht:=Ll (f:=ag 1) (g:=aq bM (bg 0)) (τ:=[ah (.scr (ns.map T.int)),ah (aH k)]) (a:=k) (b:=ns.length) rfl hl
 refine cS rfl ?_
 show gX [ah (.scr (ns.map T.int)),ah (aH k)]=_
 unfold gX cellQ
 by_cases h:k<ns.length
 ·have e:=Dz (ns:=ns) (k:=(k:Nat)) (by omega) (by omega)
  rw [Int.toNat_natCast] at e
  rw [if_pos h]
  unfold aR cT
  rw [ht,Option.bind_some]
  dsimp only
  rw [if_pos (decide_eq_true h),dU (bA (g:=bQ) (fa:=ag 0) (fb:=ag 1) rfl rfl e)]
  rfl
 ·rw [aV (oh (by rw [ht,decide_eq_false h])),if_neg h]
  exact dU (bA (g:=cQ) (bA (g:=bU) (bA (g:=ck) rfl rfl dJ) rfl (mR (fj (by omega) (by omega)) (fj (by decide) (by decide)))) rfl (ib (by decide)))
def GW (c k:Int):Int:=
 let a:=(c.fmod 2147483647*48271+7919*k+13).fmod 2147483629
 let b:=(a*a+104729*k+7).fmod 2147483587
 (b*b).fmod 2147483579
abbrev Gb:List T->Option T:=cI 3 2 iQ
theorem Gm {c k:Int}(h0:0≤k)(h1:k≤1000):Gb [.int c,.int k]=some (.int (GW c k)):=by
 have r0:=lg c (b:=2147483647) (by decide)
 have r1:=lg (c.fmod 2147483647*48271+7919*k+13) (b:=2147483629) (by decide)
 unfold GW
 dsimp only
 generalize hA:(c.fmod 2147483647*48271+7919*k+13).fmod 2147483629=a at *
 have r2:=lg (a*a+104729*k+7) (b:=2147483587) (by decide)
 generalize hC:(a*a+104729*k+7).fmod 2147483587=b at *
 have bb:2147483647<B:=by decide +kernel
 have e1:aU 2 (aN cQ (aN ck (aN ck (aN bU (aN cQ (ag 0) (aZ 2147483647)) (aZ 48271)) (aN bU (aZ 7919) (ag 1))) (aZ 13)) (aZ 2147483629)) [ah (.int c),ah (.int k),none]=some (.nx [ah (.int c),ah (.int k),ah (.int a)]):=by
  rw [<- hA]
  exact cP (bA (g:=cQ) (bA (g:=ck) (bA (g:=ck) (bA (g:=bU) (bA (g:=cQ) rfl rfl (ib (by decide))) rfl (mR (by omega) (by omega))) (bA (g:=bU) rfl rfl (mR (by omega) (by omega))) dJ) rfl dJ) rfl (ib (by decide))) rfl
 have e2:aU 2 (aN cQ (aN ck (aN ck (aN bU (ag 2) (ag 2)) (aN bU (aZ 104729) (ag 1))) (aZ 7)) (aZ 2147483587)) [ah (.int c),ah (.int k),ah (.int a)]=some (.nx [ah (.int c),ah (.int k),ah (.int b)]):=by
  rw [<- hC]
  exact cP (bA (g:=cQ) (bA (g:=ck) (bA (g:=ck) (bA (g:=bU) rfl rfl (mR (by omega) (by omega))) (bA (g:=bU) rfl rfl (mR (by omega) (by omega))) dJ) rfl dJ) rfl (ib (by decide))) rfl
 refine cS rfl ?_
 show iQ [ah (.int c),ah (.int k),none]=_
 unfold iQ
 rw [aV e1,aV e2]
 exact dU (bA (g:=cQ) (bA (g:=bU) rfl rfl (mR (by omega) (by omega))) rfl (ib (by decide)))
abbrev HN:List T->Option T:=cI 1 1 (dz ki)
theorem IW (c:Int):∃q:Rat,HN [.int c]=some (bS q)/\Lq 1 9 q:=by
 have r19:=lg c (b:=19) (by decide)
 have r12:=lg (c.fdiv 19) (b:=12) (by decide)
 have hf:=oq (a:=c.fmod 19-9) (b:=1+(c.fdiv 19).fmod 12) (fj (by omega) (by omega)) (fj (by omega) (by omega)) (by omega)
 rw [Dk (by omega)] at hf
 have hn:=Lq.small (a:=c.fmod 19-9) (b:=1+(c.fdiv 19).fmod 12) (by omega) (by omega) (by omega)
 have ht:fG (aN lP (aN cQ (aN df (ag 0) (aZ 228)) (aZ 2)) (aZ 1)) [ah (.int c)]=some (decide ((c.fdiv 228).fmod 2=1),[ah (.int c)]):=by
  unfold fG
  rw [bA (g:=lP) (fb:=aZ 1) (τ:=[ah (.int c)]) (bA (g:=cQ) (fb:=aZ 2) (bA (g:=df) (fa:=ag 0) (fb:=aZ 228) rfl rfl (nW (N:=c) (d:=228) (by decide) (fj (by decide) (by decide)))) rfl (ib (d:=2) (by decide))) rfl (nE _ _)]
  rfl
 by_cases h:(c.fdiv 228).fmod 2=1
 ·refine⟨0,cS rfl ?_,(Lq.zero 1).mono (Nat.zero_le _)⟩
  show dz ki [ah (.int c)]=_
  unfold dz aR cT
  rw [ht,Option.bind_some]
  dsimp only
  rw [if_pos (decide_eq_true h),dU (Kg 0 1 _)]
  rfl
 ·refine⟨_,cS rfl ?_,hn⟩
  show dz ki [ah (.int c)]=_
  unfold dz
  rw [aV (oh (by rw [ht,decide_eq_false h]))]
  exact dU (aJ [.int (c.fmod 19-9),.int (1+(c.fdiv 19).fmod 12)] (dY (bA (g:=uC) (bA (g:=cQ) rfl rfl (ib (by decide))) rfl J5) (bA (g:=ck) rfl (bA (g:=cQ) (bA (g:=df) rfl rfl (nW (by decide) (fj (by decide) (by decide)))) rfl (ib (by decide))) dJ)) hf)
def tM:FS:=(aR (aU 5 (aN cQ (ag 3) (aZ 456)))
  (aR (aU 3 (aN df (ag 3) (aZ 456)))
  (aR (cT (fG (aN lP (aN cQ (ag 0) (aZ 2)) (aZ 0))) (aU 5 (aN cQ (aq Gb (af (aN df (ag 0) (aZ 2)) (bg 4))) (aZ 456))) cC)
  (iW 2 (aq HN (bg 5))))))
abbrev xq (c n:Int)(ts:List T)(r:Int)(x4 x5:Option Sl):aI:=[ah (.int c),ah (.int n),some (.own ts),ah (.int r),x4,x5]
theorem Ek (c n r k:Int)(ts:List T)(x5:Option Sl)(hk:0≤k/\k≤1000)(hl:ts.length<1000):∃q:Rat,∃r' y5,Lq 1 9 q/\tM (xq c n ts r (ah (.int k)) x5)=some (.nx (xq c n (ts++[bS q]) r' (ah (.int k)) y5)):=by
 have b456:(456:Int).natAbs<B:=fj (by decide) (by decide)
 have e1:aU 5 (aN cQ (ag 3) (aZ 456)) (xq c n ts r (ah (.int k)) x5)=some (.nx (xq c n ts r (ah (.int k)) (ah (.int (r.fmod 456))))):=cP (bA (g:=cQ) rfl rfl (ib (by decide))) rfl
 have e2:aU 3 (aN df (ag 3) (aZ 456)) (xq c n ts r (ah (.int k)) (ah (.int (r.fmod 456))))=some (.nx (xq c n ts (r.fdiv 456) (ah (.int k)) (ah (.int (r.fmod 456))))):=cP (bA (g:=df) rfl rfl (nW (by decide) b456)) rfl
 have hm:=Gm (c:=c.fdiv 2) (k:=k) hk.1 hk.2
 have e3:∃d:Int,cT (fG (aN lP (aN cQ (ag 0) (aZ 2)) (aZ 0))) (aU 5 (aN cQ (aq Gb (af (aN df (ag 0) (aZ 2)) (bg 4))) (aZ 456))) cC (xq c n ts (r.fdiv 456) (ah (.int k)) (ah (.int (r.fmod 456))))=some (.nx (xq c n ts (r.fdiv 456) (ah (.int k)) (ah (.int d)))):=by
  have ht:fG (aN lP (aN cQ (ag 0) (aZ 2)) (aZ 0)) (xq c n ts (r.fdiv 456) (ah (.int k)) (ah (.int (r.fmod 456))))=some (decide (c.fmod 2=0),xq c n ts (r.fdiv 456) (ah (.int k)) (ah (.int (r.fmod 456)))):=by
   unfold fG
   rw [bA (g:=lP) (fb:=aZ 0) (τ:=xq c n ts (r.fdiv 456) (ah (.int k)) (ah (.int (r.fmod 456)))) (bA (g:=cQ) (fa:=ag 0) (fb:=aZ 2) rfl rfl (ib (N:=c) (d:=2) (by decide))) rfl (nE _ _)]
   rfl
  by_cases h:c.fmod 2=0
  ·refine⟨(GW (c.fdiv 2) k).fmod 456,?_⟩
   unfold cT
   rw [ht,Option.bind_some]
   dsimp only
   rw [if_pos (decide_eq_true h)]
   exact cP (bA (g:=cQ) (aJ [.int (c.fdiv 2),.int k] (dY (bA (g:=df) rfl rfl (nW (by decide) (fj (by decide) (by decide)))) rfl) hm) rfl (ib (by decide))) rfl
  ·exact⟨r.fmod 456,oh (by rw [ht,decide_eq_false h])⟩
 obtain⟨d,e3⟩:=e3
 obtain⟨q,hq,hl9⟩:=IW d
 refine⟨q,r.fdiv 456,ah (.int d),hl9,?_⟩
 unfold tM
 rw [aV e1,aV e2,aV e3]
 exact uk (i:=2) (ts:=ts) rfl (aJ [.int d] (dF rfl) hq) (cY (by omega))
theorem zm (c n:Int):∀(m:Nat) (lo r:Int) (ts:List T) (x4 x5:Option Sl),0≤lo->lo+m≤1000->ts.length+m<1000->∃us:List Rat,∃r' y4 y5,(∀t∈us,Lq 1 9 t)/\us.length=m/\cF (ai 4) tM (TM.upTo lo m) (xq c n ts r x4 x5)=some (.nx (xq c n (ts++us.map bS) r' y4 y5))
 |0,lo,r,ts,x4,x5,_,_,_=>⟨[],r,x4,x5,fun t ht=>(by cases ht),rfl,by simp [TM.upTo,cF]⟩
 |m+1,lo,r,ts,x4,x5,h0,h1,h2=>by
  obtain⟨t,r',y5,ht,hb⟩:=Ek c n r lo ts x5 (by omega) (by omega)
  obtain⟨us,r2,z4,z5,g1,g2,g3⟩:=zm c n m (lo+1) r' (ts++[bS t]) (ah (.int lo)) y5 (by omega) (by omega) (by simp;omega)
  refine⟨t::us,r2,z4,z5,fun x hx=>?_,by simp [g2],?_⟩
  ·rcases List.mem_cons.mp hx with rfl | hx
   ·exact ht
   ·exact g1 x hx
  ·rw [show TM.upTo lo (m+1)=T.int lo::TM.upTo (lo+1) m from rfl,bN rfl hb,g3]
   simp
abbrev IG:List T->Option T:=cI 6 2 (iS Gb HN)
theorem C0:iS Gb HN=aR (eW 2 aE) (aR (aU 3 (aN df (ag 0) (aZ 2))) (aR (eE (bW (bg 1)) (ai 4) tM) (bE (ag 2)))):=rfl
theorem lG (i:Nat)(τ:aI):eW i aE τ=some (.nx (τ.set i (some (.own [])))):=by
 unfold eW
 rw [show aE τ=some ([],τ) from rfl,Option.bind_some]
 exact if_pos LU
theorem Ja (c:Int)(n:Nat)(hn:n≤100):∃r:List Rat,IG [.int c,aH n]=some (aw r)/\r.length=n/\∀x∈r,Lq 1 9 x:=by
 obtain⟨us,r',y4,y5,h1,h2,h3⟩:=zm c (n:Nat) n 0 (c.fdiv 2) [] none none (by decide) (by omega) (by simp;omega)
 refine⟨us,?_,h2,h1⟩
 have hr:=oM (f:=ag 1) (τ:=xq c (n:Nat) [] (c.fdiv 2) none none) (n:=(n:Int)) rfl (by omega) (by omega)
 rw [Int.toNat_natCast] at hr
 rw [List.nil_append] at h3
 have e1:eW 2 aE [ah (.int c),ah (aH n),none,none,none,none]=some (.nx [ah (.int c),ah (aH n),some (.own []),none,none,none]):=lG 2 _
 have e2:aU 3 (aN df (ag 0) (aZ 2)) [ah (.int c),ah (aH n),some (.own []),none,none,none]=some (.nx (xq c (n:Nat) [] (c.fdiv 2) none none)):=cP (bA (g:=df) rfl rfl (nW (by decide) (fj (by decide) (by decide)))) rfl
 refine cS rfl ?_
 show iS Gb HN [ah (.int c),ah (aH n),none,none,none,none]=_
 rw [C0,aV e1,aV e2,aV (h9 hr h3)]
 rfl
theorem GX (x:Int){b:Int}(h:0<b):∃n:Nat,x.fmod b=(n:Nat)/\(n:Int)<b:=by
 refine⟨(x.fmod b).toNat,?_,?_⟩
 ·rw [Int.toNat_of_nonneg (Int.fmod_nonneg_of_pos x h)]
 ·rw [Int.toNat_of_nonneg (Int.fmod_nonneg_of_pos x h)]
  exact Int.fmod_lt_of_pos x h
abbrev CM (S:T)(k c:Int)(m i o:Nat)(ts:List T)(p:Nat)(x8 x9:Option Sl):aI:=[ah S,ah (.int k),ah (.int c),ah (aH m),ah (aH i),ah (aH o),some (.own ts),ah (aH p),x8,x9]
def Cq:FE:=aq IG (af (aq HL (af (ag 1) (af (aN ck (ag 2) (ag 0)) aE))) (bg 3))
def xM:FS:=aR (iW 6 (cg 1 [0,7,9] (bW (bg 8)) (ai 0) az Cq)) (aU 7 (aN ck (ag 7) (ag 8)))
theorem nL (ns:List Int)(k c:Int)(m i o p h w:Nat)(ts:List T)(hp:p+h≤1000)(hh:h≤100)(hw:w≤100)(ht:ts.length<1000):
  ∃A,Tw h w A/\xM (CM (.scr (ns.map T.int)) k c m i o ts p (ah (aH h)) (ah (aH w)))=some (.nx (CM (.scr (ns.map T.int)) k c m i o (ts++[ao A]) (p+h) (ah (aH h)) (ah (aH w)))):=by
 obtain⟨f,hf⟩:=Classical.skolem.mp (fun j:Nat=>Ja (cellQ ns (p+j)) w hw)
 have hc:=cu (φ:=fun j:Nat=>aH j) (fe:=Cq) (g:=fun j=>aw (f j)) (ρ:=[ah (.scr (ns.map T.int)),ah (aH p),ah (aH w)]) rfl (List.range h) none [] (fun j hj=>by
  have hj':=List.mem_range.mp hj
  have hcell:=yu ns (p+j) (by omega)
  exact aJ [.int (cellQ ns (p+j)),aH w] (dY (aJ [.scr (ns.map T.int),.int ((p+j:Nat):Nat)] (dY rfl (bA (g:=ck) rfl rfl rf)) hcell) rfl) (hf j).1) (iK (by rw [List.length_range];exact hh))
 rw [List.nil_append] at hc
 have e:=bV (no:=1) (cap:=[0,7,9]) (fi:=bW (bg 8)) (fg:=ai 0) (ft:=az) (τ:=CM (.scr (ns.map T.int)) k c m i o ts p (ah (aH h)) (ah (aH w))) (fP (f:=ag 8) (n:=h) rfl (by omega)) rfl rfl hc
 refine⟨(List.range h).map f,⟨by rw [List.length_map,List.length_range],fun r hr=>?_,fun r hr x hx=>?_⟩,?_⟩
 ·obtain⟨j,_,rfl⟩:=List.mem_map.mp hr
  exact (hf j).2.1
 ·obtain⟨j,_,rfl⟩:=List.mem_map.mp hr
  exact (hf j).2.2 x hx
 ·have e':cg 1 [0,7,9] (bW (bg 8)) (ai 0) az Cq (CM (.scr (ns.map T.int)) k c m i o ts p (ah (aH h)) (ah (aH w)))=some (ao ((List.range h).map f),CM (.scr (ns.map T.int)) k c m i o ts p (ah (aH h)) (ah (aH w))):=by
   rw [e]
   unfold ao
   rw [List.map_map]
   rfl
  have a:=uk (i:=6) (ts:=ts) rfl e' (cY (by omega))
  unfold xM
  rw [aV a]
  exact cP (bA (g:=ck) rfl rfl rf) rfl
abbrev Gi:List T->Option T:=cI 10 2 (fM HL IG)
def yr:List Nat:=[2,1,3,2,0,3,1,4]
def xN:FE:=kr (af (aZ 2) (af (aZ 1) (af (aZ 3) (af (aZ 2) (af (aZ 0) (af (aZ 3) (af (aZ 1) (af (aZ 4) aE))))))))
theorem Hf (τ:aI):xN τ=some (.lst (yr.map fun n:Nat=>T.int n),τ):=by
 unfold xN
 exact Fj (ts:=yr.map fun n:Nat=>T.int n) rfl (by decide)
theorem Jc (ns:List Int):∃(m i o:Nat) (A B C D:List (List Rat)),Gi [.scr (ns.map T.int),.int 0]=some (cD A B C D)/\gU m i o A B C D/\m≤4/\(1≤i/\i≤2)/\(1≤o/\o≤2):=by
 have c0:=yu ns 0 (by decide)
 generalize cellQ ns 0=c at *
 obtain⟨x,ex,hx⟩:=GX c (b:=8) (by decide)
 obtain⟨i',ei,hi'⟩:=GX (c.fdiv 8) (b:=2) (by decide)
 obtain⟨o',eo,ho'⟩:=GX (c.fdiv 16) (b:=2) (by decide)
 have hx8:x<8:=by omega
 obtain⟨m,em,hm⟩:∃m:Nat,yr[x]? = some m/\m≤4:=by
  have:∀y<8,∃m:Nat,yr[y]? = some m/\m≤4:=by decide
  exact this x hx8
 generalize hS:T.scr (ns.map T.int)=S at *
 have e1:aU 2 (aq HL (af (ag 0) (bg 1))) [ah S,ah (.int 0),none,none,none,none,none,none,none,none]=some (.nx [ah S,ah (.int 0),ah (.int c),none,none,none,none,none,none,none]):=cP (aJ [S,.int 0] (dY rfl rfl) c0) rfl
 have e2:aU 3 (aN bQ xN (aN cQ (ag 2) (aZ 8))) [ah S,ah (.int 0),ah (.int c),none,none,none,none,none,none,none]=some (.nx [ah S,ah (.int 0),ah (.int c),ah (aH m),none,none,none,none,none,none]):=by
  have y:=bA (g:=cQ) (fa:=ag 2) (fb:=aZ 8) (τ:=[ah S,ah (.int 0),ah (.int c),none,none,none,none,none,none,none]) rfl rfl (ib (N:=c) (d:=8) (by decide))
  rw [ex] at y
  exact cP (bA (g:=bQ) (Hf _) y (mO (by rw [List.getElem?_map,em];rfl))) rfl
 have e3:aU 4 (aN ck (aZ 1) (aN cQ (aN df (ag 2) (aZ 8)) (aZ 2))) [ah S,ah (.int 0),ah (.int c),ah (aH m),none,none,none,none,none,none]=some (.nx [ah S,ah (.int 0),ah (.int c),ah (aH m),ah (.int ((1+i':Nat):Nat)),none,none,none,none,none]):=by
  have y:=bA (g:=ck) (fa:=aZ 1) (τ:=[ah S,ah (.int 0),ah (.int c),ah (aH m),none,none,none,none,none,none]) rfl (bA (g:=cQ) (fb:=aZ 2) (bA (g:=df) (fa:=ag 2) (fb:=aZ 8) rfl rfl (nW (N:=c) (d:=8) (by decide) (fj (by decide) (by decide)))) rfl (ib (d:=2) (by decide))) dJ
  rw [ei,show (1:Int)+((i':Nat):Int)=((1+i':Nat):Int) by omega] at y
  exact cP y rfl
 have e4:aU 5 (aN ck (aZ 1) (aN cQ (aN df (ag 2) (aZ 16)) (aZ 2))) [ah S,ah (.int 0),ah (.int c),ah (aH m),ah (.int ((1+i':Nat):Nat)),none,none,none,none,none]=some (.nx [ah S,ah (.int 0),ah (.int c),ah (aH m),ah (.int ((1+i':Nat):Nat)),ah (.int ((1+o':Nat):Nat)),none,none,none,none]):=by
  have y:=bA (g:=ck) (fa:=aZ 1) (τ:=[ah S,ah (.int 0),ah (.int c),ah (aH m),ah (.int ((1+i':Nat):Nat)),none,none,none,none,none]) rfl (bA (g:=cQ) (fb:=aZ 2) (bA (g:=df) (fa:=ag 2) (fb:=aZ 16) rfl rfl (nW (N:=c) (d:=16) (by decide) (fj (by decide) (by decide)))) rfl (ib (d:=2) (by decide))) dJ
  rw [eo,show (1:Int)+((o':Nat):Int)=((1+o':Nat):Int) by omega] at y
  exact cP y rfl
 generalize hI:1+i'=i at *
 generalize hO:1+o'=o at *
 have e5:=lG 6 [ah S,ah (.int 0),ah (.int c),ah (aH m),ah (aH i),ah (aH o),none,none,none,none]
 have e6:aU 7 (aN ck (ag 1) (aZ 1)) [ah S,ah (.int 0),ah (.int c),ah (aH m),ah (aH i),ah (aH o),some (.own []),none,none,none]=some (.nx (CM S 0 c m i o [] 1 none none)):=cP (bA (g:=ck) rfl rfl dJ) rfl
 subst hS
 obtain⟨A,hA,t1⟩:=nL ns 0 c m i o 1 m m [] (by omega) (by omega) (by omega) (by simp)
 obtain⟨B,hB,t2⟩:=nL ns 0 c m i o (1+m) m i ([]++[ao A]) (by omega) (by omega) (by omega) (by simp)
 obtain⟨C,hC,t3⟩:=nL ns 0 c m i o (1+m+m) o m ([]++[ao A]++[ao B]) (by omega) (by omega) (by omega) (by simp)
 obtain⟨D,hD,t4⟩:=nL ns 0 c m i o (1+m+m+o) o i ([]++[ao A]++[ao B]++[ao C]) (by omega) (by omega) (by omega) (by simp)
 refine⟨m,i,o,A,B,C,D,?_,⟨hA,hB,hC,hD⟩,hm,by omega,by omega⟩
 have hi:bh (kr (af (di (af (ag 3) (bg 3))) (af (di (af (ag 3) (bg 4))) (af (di (af (ag 5) (bg 3))) (af (di (af (ag 5) (bg 4))) aE))))) (CM (.scr (ns.map T.int)) 0 c m i o [] 1 none none)=some ([.tup [aH m,aH m],.tup [aH m,aH i],.tup [aH o,aH m],.tup [aH o,aH i]],CM (.scr (ns.map T.int)) 0 c m i o [] 1 none none):=
  Ly (Fj (CV (mG rfl rfl) (mG rfl rfl) (mG rfl rfl) (mG rfl rfl)) (by simp))
 have hl:cF (bF (av (ai 8) (av (ai 9) bq))) xM [.tup [aH m,aH m],.tup [aH m,aH i],.tup [aH o,aH m],.tup [aH o,aH i]] (CM (.scr (ns.map T.int)) 0 c m i o [] 1 none none)=some (.nx (CM (.scr (ns.map T.int)) 0 c m i o ([]++[ao A]++[ao B]++[ao C]++[ao D]) (1+m+m+o+o) (ah (aH o)) (ah (aH i)))):=by
  rw [bN rfl t1,bN rfl t2,bN rfl t3,bN rfl t4]
  rfl
 refine cS rfl ?_
 show fM HL IG [ah (.scr (ns.map T.int)),ah (.int 0),none,none,none,none,none,none,none,none]=_
 unfold fM
 rw [aV e1]
 refine (aV e2).trans ?_
 rw [aV e3,aV e4]
 refine (aV e5).trans ?_
 refine (aV e6).trans ?_
 refine (aV (h9 hi hl)).trans ?_
 rfl
theorem Gd {m n:Nat}{fb:AG}{ts:List T}{o:O}(hl:ts.length=n)(h:fb (ts.map (fun t=>some (Sl.sh t))++List.replicate (m-n) none)=some o):lV m n fb ts=some o:=by
 unfold lV
 rw [if_pos hl,h]
theorem Hm {f:kO}{τ τ':aI}{o:O}(h:f τ=some (o,τ')):kh f τ=some o:=by
 unfold kh
 rw [h]
 rfl
abbrev C8:List T->Option O:=lV 2 2 jT
abbrev Ku:List T->Option T:=fun ts=>(C8 ts).bind fun o=>some o.tr
theorem Gp {m w:Nat}(hm:m≤100)(hw:w≤100):C8 [aH m,aH w]=some (xO (qS m w)):=by
 have hc:=dH (φ:=fun j:Nat=>aH j) (fe:=cJ 1 [] (bW (bg 1)) (ai 0) az (eX (fC (.tup [.int 0,.int 1])))) (g:=fun _=>mj (List.replicate w 0)) (ρ:=[ah (aH w)]) rfl (List.range m) none [] (fun j hj=>by
  have hc:=dH (φ:=fun j:Nat=>aH j) (fe:=eX (fC (.tup [.int 0,.int 1]))) (g:=fun _=>O.val (bS 0)) (ρ:=[]) rfl (List.range w) none [] (fun k hk=>rfl) (by rw [List.length_range,List.length_nil,Nat.zero_add];exact bZ (by omega))
  have e:=fF (no:=1) (cap:=[]) (fi:=bW (bg 1)) (fg:=ai 0) (ft:=az) (τ:=[ah (aH j),ah (aH w)]) (fP (f:=ag 1) (n:=w) rfl (by omega)) rfl rfl hc
  rw [e]
  unfold mj J0
  rw [List.nil_append,List.map_replicate,List.map_replicate,List.map_const',List.length_range]) (by rw [List.length_range,List.length_nil,Nat.zero_add];exact bZ (by omega))
 have e:=fF (no:=1) (cap:=[1]) (fi:=bW (bg 0)) (fg:=ai 0) (ft:=az) (τ:=[ah (aH m),ah (aH w)]) (fP (f:=ag 0) (n:=m) rfl (by omega)) rfl rfl hc
 refine Gd rfl ?_
 show jT [ah (aH m),ah (aH w)]=_
 unfold jT
 rw [Hm e,List.nil_append]
 unfold xO qS
 rw [List.map_replicate,List.map_const',List.length_range]
theorem IV {m w:Nat}(hm:m≤100)(hw:w≤100):Ku [aH m,aH w]=some (ao (qS m w)):=by
 show (C8 _).bind _=_
 rw [Gp hm hw,Option.bind_some,ub]
abbrev HQ:List T->Option T:=cI 2 2 jU
theorem ye {a b:List Rat}(h:a.length+b.length≤100):ck (aw a) (aw b)=some (aw (a++b)):=by
 unfold aw
 rw [og (by rw [List.length_map,List.length_map];exact bZ (by omega)),List.map_append]
theorem Jg {m i:Nat}{X Y:List (List Rat)}(hX:∀r∈X,r.length=m)(hY:∀r∈Y,r.length=i)(hn:X.length≤100)(hw:m+i≤100):HQ [ao X,ao Y]=some (ao (mW X Y)):=by
 have hc:=fR (φ:=fun p:List Rat×List Rat=>aw p.1) (ψ:=fun p=>aw p.2) (fe:=aN ck (ag 0) (ag 1)) (g:=fun p=>aw (p.1++p.2)) (ρ:=[]) rfl (List.zip X Y) none none [] (fun p hp=>bA rfl rfl (ye (by rw [hX _ (dR hp).1,hY _ (dR hp).2];omega))) (iK (by rw [List.length_zip];omega))
 rw [List.nil_append] at hc
 have e:=bV (no:=2) (cap:=[]) (fg:=uD) (ft:=az) (HG X Y []) rfl rfl hc
 refine cS rfl ?_
 show jU [ah (ao X),ah (ao Y)]=_
 unfold jU
 rw [dU e]
 unfold ao mW
 rw [List.map_map]
 rfl
def pB (A B:List (List Rat))(i:Nat):Nat->List (List Rat)
 |0=>B
 |k+1=>mulM A (pB A B i k) i
def jy (A B:List (List Rat))(m i:Nat):Nat->List (List Rat)
 |0=>qS m 0
 |k+1=>mW (jy A B m i k) (pB A B i k)
def JD:Nat:=DD 5
def JN:Nat:=2^100
def NB (k:Nat):Nat:=249480*997920^k
structure Ts (m w D N:Nat)(A:List (List Rat)):Prop where
 len:A.length=m
 wd:Wd w A
 ov:∀r∈A,∀x∈r,Ov D N x
theorem Ts.tv {m w D N:Nat}{A:List (List Rat)}(h:Ts m w D N A)(hm:m≤16)(hw:w≤16)(hp:0<D)(hd:D<C)(hn:N<C):Tv D N A:=⟨by rw [h.len];exact hm,fun r hr=>⟨by rw [h.wd r hr];exact hw,h.ov r hr⟩,hp,hd,hn⟩
theorem Tw.ts {m w:Nat}{A:List (List Rat)}(h:Tw m w A):Ts m w (DD 1) 249480 A:=⟨h.len,h.bw.wd,fun r hr x hx=>JA (h.bw.lq r hr x hx)⟩
theorem qV (a b:Nat):DD a*DD b=DD (a+b):=by
 unfold DD
 rw [<- Nat.pow_add]
theorem yh {X:List (List Rat)}{D N:Nat}(h:∀r∈X,∀x∈r,Ov D N x)(j:Nat):∀y∈ik X j,Ov D N y:=by
 intro y hy
 unfold ik at hy
 obtain⟨r,hr,rfl⟩:=List.mem_map.mp hy
 rw [List.getD_eq_getElem?_getD]
 cases e:r[j]? with
 |none=>exact (Ov.zero D).mono (Nat.zero_le _)
 |some x=>exact h r hr x (List.mem_of_getElem? e)
section
variable {m i o:Nat}{A B C D:List (List Rat)}
theorem yV (h:gU m i o A B C D)(hm:m≤4):∀k,Ts m i (DD (k+1)) (NB k) (pB A B i k)
 |0=>h.b.ts
 |k+1=>by
  have ih:=yV h hm k
  refine⟨?_,fun r hr=>?_,fun r hr x hx=>?_⟩
  ·show (mulM A _ i).length=m
   unfold mulM
   rw [List.length_map,h.a.len]
  ·have hr':r∈mulM A (pB A B i k) i:=hr
   unfold mulM at hr'
   obtain⟨a,_,rfl⟩:=List.mem_map.mp hr'
   unfold ml
   rw [List.length_map,List.length_range]
  ·have hr':r∈mulM A (pB A B i k) i:=hr
   unfold mulM at hr'
   obtain⟨a,ha,rfl⟩:=List.mem_map.mp hr'
   unfold ml at hx
   obtain⟨j,_,rfl⟩:=List.mem_map.mp hx
   have e:=ue (dX 1) (dX (k+1)) (h.a.ts.ov a ha) (yh ih.ov j)
   rw [qV,show 1+(k+1)=k+1+1 by omega] at e
   refine e.mono ?_
   unfold NB
   rw [h.a.ts.wd a ha,Nat.pow_succ]
   have:m*(249480*(249480*997920^k))≤4*(249480*(249480*997920^k)):=Nat.mul_le_mul_right _ hm
   omega
theorem Lp (h:gU m i o A B C D)(hm:m≤4){k:Nat}(hk:k<4):Ts m i JD JN (pB A B i k):=by
 have e:=yV h hm k
 refine⟨e.len,e.wd,fun r hr x hx=>?_⟩
 have z:=(e.ov r hr x hx).scale (E:=DD (4-k)) (dX _)
 rw [qV,show k+1+(4-k)=5 by omega] at z
 refine z.mono ?_
 have:∀k<4,NB k*DD (4-k)≤JN:=by decide +kernel
 exact this k hk
theorem CC {X Y:List (List Rat)}(h:X.length=Y.length):(mW X Y).length=X.length:=by
 unfold mW
 rw [List.length_map,List.length_zip,h,Nat.min_self]
theorem tH (h:gU m i o A B C D)(hm:m≤4):∀{k:Nat},k≤4->Ts m (k*i) JD JN (jy A B m i k)
 |0,_=>⟨List.length_replicate,fun r hr=>by rw [List.eq_of_mem_replicate hr,Nat.zero_mul];rfl,fun r hr x hx=>by rw [List.eq_of_mem_replicate hr] at hx;cases hx⟩
 |k+1,hk=>by
  have ih:=tH h hm (k:=k) (by omega)
  have p:=Lp h hm (k:=k) (by omega)
  refine⟨?_,fun r hr=>?_,fun r hr x hx=>?_⟩
  ·show (mW _ _).length=m
   rw [CC (by rw [ih.len,p.len]),ih.len]
  ·obtain⟨q,hq,rfl⟩:=List.mem_map.mp (show r∈(List.zip _ _).map _ from hr)
   rw [List.length_append,ih.wd _ (dR hq).1,p.wd _ (dR hq).2,Nat.add_mul,Nat.one_mul]
  ·obtain⟨q,hq,rfl⟩:=List.mem_map.mp (show r∈(List.zip _ _).map _ from hr)
   rcases List.mem_append.mp hx with hx | hx
   ·exact ih.ov _ (dR hq).1 x hx
   ·exact p.ov _ (dR hq).2 x hx
theorem yP {d:List T->Option T}{s:Str}(hs:¬ s∈(["four"]:List Str)){k:Nat}{τ:aI}{t:T}(h:τ[k]? = some (ah (cO A B C D)))(hd:d [cO A B C D]=some t):jq [(iH,d)] s (ag k) aE τ=some (t,τ):=GV (C:=iH) (ns:=["four"]) (ts:=[uB A B C D]) (qs:=[]) (d:=d) (dh h) hs rfl rfl hd
abbrev Dc:List T->Option T:=cI 7 1 (fO iH Ku HQ wc CG IF)
abbrev Ei (A B C D:List (List Rat))(P R:List (List Rat))(x6:Option Sl):aI:=[ah (cO A B C D),ah (ao A),ah (ao P),ah (ao C),ah (ao D),ah (ao R),x6]
def xo:FS:=aR (aU 5 (aq HQ (af (ag 5) (bg 2)))) (aU 2 (aq wc (af (ag 1) (af (ag 2) (af (jq [(iH,IF)] "ins" (ag 0) aE) aE)))))
theorem E5:∀k<4,AN (DD 1) 249480 (DD (k+1)) (NB k):=by
 have:∀k<4,DD 1*DD (k+1)<My.C/\16*(249480*NB k)<My.C:=by decide +kernel
 exact fun k hk=>⟨(this k hk).1,(this k hk).2⟩
theorem vd:∀k<4,DD (k+1)<My.C/\NB k<My.C:=by decide +kernel
theorem Ej (h:gU m i o A B C D)(hm:m≤4)(hi:1≤i/\i≤2)(ho:1≤o/\o≤2){k:Nat}(hk:k<4)(x6:Option Sl):
  xo (Ei A B C D (pB A B i k) (jy A B m i k) x6)=some (.nx (Ei A B C D (pB A B i (k+1)) (jy A B m i (k+1)) x6)):=by
 have p:=yV h hm k
 have r:=tH h hm (k:=k) (by omega)
 have k1:=IT h.sy (by omega)
 have hki:k*i≤3*2:=Nat.mul_le_mul (by omega) hi.2
 have k2:=Jg r.wd p.wd (by rw [r.len];omega) (by omega)
 have tA:Tv (DD 1) 249480 A:=h.a.ts.tv (by omega) (by omega) (dX 1) (by decide +kernel) (by decide +kernel)
 have tP:Tv (DD (k+1)) (NB k) (pB A B i k):=p.tv (by omega) (by omega) (dX _) (vd k hk).1 (vd k hk).2
 have k3:=A4 tA tP p.wd (by omega) (E5 k hk)
 have e1:aU 5 (aq HQ (af (ag 5) (bg 2))) (Ei A B C D (pB A B i k) (jy A B m i k) x6)=some (.nx (Ei A B C D (pB A B i k) (jy A B m i (k+1)) x6)):=cP (aJ _ (dY rfl rfl) k2) rfl
 unfold xo
 rw [aV e1]
 exact cP (aJ _ (m6 rfl rfl (yP (by decide) rfl k1)) k3) rfl
theorem zl (h:gU m i o A B C D)(hm:m≤4)(hi:1≤i/\i≤2)(ho:1≤o/\o≤2):∀(n k:Nat) (x6:Option Sl),k+n≤4->∀ts:List T,ts.length=n ->
  ∃y6,cF (ai 6) xo ts (Ei A B C D (pB A B i k) (jy A B m i k) x6)=some (.nx (Ei A B C D (pB A B i (k+n)) (jy A B m i (k+n)) y6))
 |0,k,x6,_,[],_=>⟨x6,rfl⟩
 |n+1,k,x6,hk,t::ts,hl=>by
  have ht:=Ej h hm hi ho (k:=k) (by omega) (ah t)
  obtain⟨y6,hy⟩:=zl h hm hi ho n (k+1) (ah t) (by omega) ts (by simpa using hl)
  refine⟨y6,?_⟩
  rw [bN (τ1:=Ei A B C D (pB A B i k) (jy A B m i k) (ah t)) rfl ht,hy,show k+1+n=k+(n+1) by omega]
theorem I0 (h:gU m i o A B C D)(hm:m≤4)(hi:1≤i/\i≤2)(ho:1≤o/\o≤2):Dc [cO A B C D]=some (ao (jy A B m i m)):=by
 obtain⟨y6,hl⟩:=zl h hm hi ho m 0 none (by omega) ((List.range m).map fun j:Nat=>T.int j) (by rw [List.length_map,List.length_range])
 rw [Nat.zero_add] at hl
 have k1:=EX h.sy (by omega) (by omega)
 have k2:=IV (m:=m) (w:=0) (by omega) (by decide)
 have lA:=len_tab A
 rw [h.a.len] at lA
 have a1:iJ (jq [(iH,CG)] "tables" (ag 0) aE) (bF (av (ai 1) (av (ai 2) (av (ai 3) (av (ai 4) bq))))) [ah (cO A B C D),none,none,none,none,none,none]=some (.nx [ah (cO A B C D),ah (ao A),ah (ao B),ah (ao C),ah (ao D),none,none]):=by
  unfold iJ
  rw [yP (A:=A) (B:=B) (C:=C) (D:=D) (d:=CG) (k:=0) (s := "tables") (by decide) rfl k1]
  rfl
 have a2:aU 5 (aq Ku (af (aq bM (bg 1)) (af (aZ 0) aE))) [ah (cO A B C D),ah (ao A),ah (ao B),ah (ao C),ah (ao D),none,none]=some (.nx (Ei A B C D (pB A B i 0) (jy A B m i 0) none)):=cP (aJ [aH m,.int ((0:Nat):Nat)] (dY (aJ _ (dF rfl) lA) rfl) k2) rfl
 have hr:=fP (f:=aq bM (bg 1)) (τ:=Ei A B C D (pB A B i 0) (jy A B m i 0) none) (n:=m) (aJ _ (dF rfl) lA) (by omega)
 refine cS rfl ?_
 show fO iH Ku HQ wc CG IF [ah (cO A B C D),none,none,none,none,none,none]=_
 unfold fO
 rw [aV a1,aV a2]
 refine (aV (h9 hr hl)).trans ?_
 rfl
end
theorem Jj {k:Nat}{f:FE}{τ:aI}{ts us:List T}(h:τ[k]? = some (some (.own ts)))(hf:f τ=some (.lst us,τ))(hl:ts.length+us.length≤100):wt k f τ=some (.nx (τ.set k (some (.own (ts++us))))):=by
 unfold wt
 rw [h]
 dsimp only
 rw [hf,Option.bind_some]
 dsimp only
 rw [h]
 exact if_pos (bZ (by omega))
def pC (A C:List (List Rat))(m:Nat):Nat->List (List Rat)
 |0=>C
 |k+1=>mulM (pC A C m k) A m
def jW (A C:List (List Rat))(m:Nat):Nat->List (List Rat)
 |0=>[]
 |k+1=>jW A C m k++pC A C m k
section
variable {m i o:Nat}{A B C D:List (List Rat)}
theorem yW (h:gU m i o A B C D)(hm:m≤4):∀k,Ts o m (DD (k+1)) (NB k) (pC A C m k)
 |0=>h.c.ts
 |k+1=>by
  have ih:=yW h hm k
  refine⟨?_,fun r hr=>?_,fun r hr x hx=>?_⟩
  ·show (mulM _ A m).length=o
   unfold mulM
   rw [List.length_map,ih.len]
  ·have hr':r∈mulM (pC A C m k) A m:=hr
   unfold mulM at hr'
   obtain⟨a,_,rfl⟩:=List.mem_map.mp hr'
   unfold ml
   rw [List.length_map,List.length_range]
  ·have hr':r∈mulM (pC A C m k) A m:=hr
   unfold mulM at hr'
   obtain⟨a,ha,rfl⟩:=List.mem_map.mp hr'
   unfold ml at hx
   obtain⟨j,_,rfl⟩:=List.mem_map.mp hx
   have e:=ue (dX (k+1)) (dX 1) (ih.ov a ha) (yh h.a.ts.ov j)
   rw [qV,ih.wd a ha] at e
   refine e.mono ?_
   unfold NB
   rw [Nat.pow_succ]
   have:m*(249480*997920^k*249480)≤4*(249480*997920^k*249480):=Nat.mul_le_mul_right _ hm
   omega
theorem Lr (h:gU m i o A B C D)(hm:m≤4){k:Nat}(hk:k<4):Ts o m JD JN (pC A C m k):=by
 have e:=yW h hm k
 refine⟨e.len,e.wd,fun r hr x hx=>?_⟩
 have z:=(e.ov r hr x hx).scale (E:=DD (4-k)) (dX _)
 rw [qV,show k+1+(4-k)=5 by omega] at z
 refine z.mono ?_
 have:∀k<4,NB k*DD (4-k)≤JN:=by decide +kernel
 exact this k hk
theorem uc (h:gU m i o A B C D)(hm:m≤4):∀{k:Nat},k≤4->Ts (k*o) m JD JN (jW A C m k)
 |0,_=>⟨by rw [Nat.zero_mul];rfl,fun r hr=>(by cases hr),fun r hr=>(by cases hr)⟩
 |k+1,hk=>by
  have ih:=uc h hm (k:=k) (by omega)
  have p:=Lr h hm (k:=k) (by omega)
  refine⟨?_,fun r hr=>?_,fun r hr x hx=>?_⟩
  ·show (jW A C m k++pC A C m k).length=_
   rw [List.length_append,ih.len,p.len,Nat.add_mul,Nat.one_mul]
  ·rcases List.mem_append.mp (show r∈jW A C m k++pC A C m k from hr) with hr | hr
   ·exact ih.wd r hr
   ·exact p.wd r hr
  ·rcases List.mem_append.mp (show r∈jW A C m k++pC A C m k from hr) with hr | hr
   ·exact ih.ov r hr x hx
   ·exact p.ov r hr x hx
theorem E9:∀k<4,AN (DD (k+1)) (NB k) (DD 1) 249480:=by
 have:∀k<4,DD (k+1)*DD 1<My.C/\16*(NB k*249480)<My.C:=by decide +kernel
 exact fun k hk=>⟨(this k hk).1,(this k hk).2⟩
abbrev Kw:List T->Option T:=cI 8 2 (hW iH wc CG)
abbrev De:List T->Option T:=cI 1 1 (gp iH Kw Kt)
abbrev ED (A B C D:List (List Rat))(n:Nat)(P R:List (List Rat))(x7:Option Sl):aI:=[ah (cO A B C D),ah (aH n),ah (ao A),ah (ao B),ah (ao P),ah (ao D),some (.own (R.map aw)),x7]
def xS:FS:=aR (wt 6 (ag 4)) (aU 4 (aq wc (af (ag 4) (af (ag 2) (af (aq bM (bg 2)) aE)))))
theorem EE (h:gU m i o A B C D)(hm:m≤4)(ho:o≤2)(n:Nat){k:Nat}(hk:k<4)(x7:Option Sl):
  xS (ED A B C D n (pC A C m k) (jW A C m k) x7)=some (.nx (ED A B C D n (pC A C m (k+1)) (jW A C m (k+1)) x7)):=by
 have p:=yW h hm k
 have r:=uc h hm (k:=k) (by omega)
 have lA:=len_tab A
 rw [h.a.len] at lA
 have hko:k*o≤3*2:=Nat.mul_le_mul (by omega) ho
 have tA:Tv (DD 1) 249480 A:=h.a.ts.tv (by omega) (by omega) (dX 1) (by decide +kernel) (by decide +kernel)
 have tP:Tv (DD (k+1)) (NB k) (pC A C m k):=p.tv (by omega) (by omega) (dX _) (vd k hk).1 (vd k hk).2
 have k3:=A4 tP tA h.a.bw.wd (by omega) (E9 k hk)
 have e1:wt 6 (ag 4) (ED A B C D n (pC A C m k) (jW A C m k) x7)=some (.nx (ED A B C D n (pC A C m k) (jW A C m (k+1)) x7)):=by
  have e:=Jj (k:=6) (f:=ag 4) (τ:=ED A B C D n (pC A C m k) (jW A C m k) x7) (ts:=(jW A C m k).map aw) (us:=(pC A C m k).map aw) rfl rfl (by rw [List.length_map,List.length_map,r.len,p.len];omega)
  rw [<- List.map_append] at e
  exact e
 unfold xS
 rw [aV e1]
 exact cP (aJ _ (m6 rfl rfl (aJ _ (dF rfl) lA)) k3) rfl
theorem zC (h:gU m i o A B C D)(hm:m≤4)(ho:o≤2)(N:Nat):∀(n k:Nat) (x7:Option Sl),k+n≤4->∀ts:List T,ts.length=n ->
  ∃y7,cF (ai 7) xS ts (ED A B C D N (pC A C m k) (jW A C m k) x7)=some (.nx (ED A B C D N (pC A C m (k+n)) (jW A C m (k+n)) y7))
 |0,k,x7,_,[],_=>⟨x7,rfl⟩
 |n+1,k,x7,hk,t::ts,hl=>by
  have ht:=EE h hm ho N (k:=k) (by omega) (ah t)
  obtain⟨y7,hy⟩:=zC h hm ho N n (k+1) (ah t) (by omega) ts (by simpa using hl)
  refine⟨y7,?_⟩
  rw [bN (τ1:=ED A B C D N (pC A C m k) (jW A C m k) (ah t)) rfl ht,hy,show k+1+n=k+(n+1) by omega]
theorem Je (h:gU m i o A B C D)(hm:m≤4)(ho:1≤o/\o≤2):Kw [cO A B C D,aH m]=some (ao (jW A C m m)):=by
 obtain⟨y7,hl⟩:=zC h hm ho.2 m m 0 none (by omega) ((List.range m).map fun j:Nat=>T.int j) (by rw [List.length_map,List.length_range])
 rw [Nat.zero_add] at hl
 have k1:=EX h.sy (by omega) (by omega)
 have a1:iJ (jq [(iH,CG)] "tables" (ag 0) aE) (bF (av (ai 2) (av (ai 3) (av (ai 4) (av (ai 5) bq))))) [ah (cO A B C D),ah (aH m),none,none,none,none,none,none]=some (.nx [ah (cO A B C D),ah (aH m),ah (ao A),ah (ao B),ah (ao C),ah (ao D),none,none]):=by
  unfold iJ
  rw [yP (A:=A) (B:=B) (C:=C) (D:=D) (d:=CG) (k:=0) (s := "tables") (by decide) rfl k1]
  rfl
 have a2:=lG 6 [ah (cO A B C D),ah (aH m),ah (ao A),ah (ao B),ah (ao C),ah (ao D),none,none]
 have hr:=fP (f:=ag 1) (τ:=ED A B C D m (pC A C m 0) (jW A C m 0) none) (n:=m) rfl (by omega)
 refine cS rfl ?_
 show hW iH wc CG [ah (cO A B C D),ah (aH m),none,none,none,none,none,none]=_
 unfold hW
 rw [aV a1]
 refine (aV a2).trans ?_
 refine (aV (h9 hr hl)).trans ?_
 rfl
theorem Jd (h:gU m i o A B C D)(hm:m≤4)(ho:1≤o/\o≤2):De [cO A B C D]=some (ao (jW A C m m)):=by
 have k1:=IS (A:=A) (B:=B) (C:=C) (D:=D)
 rw [h.a.len] at k1
 refine cS rfl ?_
 show gp iH Kw Kt [ah (cO A B C D)]=_
 unfold gp
 exact dU (aJ _ (dY rfl (yP (by decide) rfl k1)) (Je h hm ho))
end
abbrev ER:List T->Option T:=cI 5 3 (eT HM)
def BB:FE:=cg 1 [0] (bh (ag 2)) (ai 0) az (aN bQ (ag 0) (ag 1))
def BC:FE:=cg 1 [4,1] (bW (bg 2)) (ai 0) az (aq HM (af (ag 1) (af BB aE)))
theorem GR {P:List (List Rat)}{w j:Nat}(hw:Wd w P)(hj:j<w)(hl:P.length≤16)(s1:T):BB [ah (aH j),ah s1,ah (ao P)]=some (aw (ik P j),[ah (aH j),ah s1,ah (ao P)]):=by
 have hc:=cu (φ:=aw) (fe:=aN bQ (ag 0) (ag 1)) (g:=fun r=>bS (r.getD j 0)) (ρ:=[ah (aH j)]) rfl P none [] (fun r hr=>bA (g:=bQ) rfl rfl (Bs (by rw [hw r hr];exact hj))) (dE hl)
 rw [List.nil_append] at hc
 have e:=bV (no:=1) (cap:=[0]) (fi:=bh (ag 2)) (fg:=ai 0) (ft:=az) (τ:=[ah (aH j),ah s1,ah (ao P)]) (ts:=P.map aw) rfl rfl rfl hc
 refine e.trans ?_
 unfold aw ik
 rw [List.map_map]
 rfl
theorem GS {D N D' N' w:Nat}{P:List (List Rat)}{r:List Rat}(hr:Gv D N r)(hP:Tv D' N' P)(hw:Wd w P)(h16:w≤16)(f:AN D N D' N')(s0 s3:Option Sl):
  BC [s0,ah (ao P),ah (aH w),s3,ah (aw r)]=some (aw (ml r P w),[s0,ah (ao P),ah (aH w),s3,ah (aw r)]):=by
 have hc:=cu (φ:=fun j:Nat=>aH j) (fe:=aq HM (af (ag 1) (af BB aE))) (g:=fun j=>bS (wsum r (ik P j))) (ρ:=[ah (aw r),ah (ao P)]) rfl (List.range w) none [] (fun j hj=>aJ [aw r,aw (ik P j)] (dY rfl (GR hw (List.mem_range.mp hj) hP.len (aw r))) (IQ hr (hP.col j) f)) (dE (by rw [List.length_range];exact h16))
 rw [List.nil_append] at hc
 have e:=bV (no:=1) (cap:=[4,1]) (fi:=bW (bg 2)) (fg:=ai 0) (ft:=az) (τ:=[s0,ah (ao P),ah (aH w),s3,ah (aw r)]) (fP (f:=ag 2) (n:=w) rfl (by omega)) rfl rfl hc
 refine e.trans ?_
 unfold aw ml
 rw [List.map_map]
 rfl
theorem yK {D N D' N' w:Nat}{P:List (List Rat)}(hP:Tv D' N' P)(hw:Wd w P)(h16:w≤16)(f:AN D N D' N')(s0:Option Sl):∀(X:List (List Rat)) (acc:List T) (s4:Option Sl),(∀r∈X,Gv D N r)->acc.length+X.length≤100 ->
  ∃t4,cF (ai 4) (iW 3 BC) (X.map aw) [s0,ah (ao P),ah (aH w),some (.own acc),s4]=some (.nx [s0,ah (ao P),ah (aH w),some (.own (acc++(mulM X P w).map aw)),t4])
 |[],acc,s4,_,_=>⟨s4,by
  rw [show (mulM [] P w).map aw=[] from rfl,List.append_nil]
  rfl⟩
 |r::X,acc,s4,h,hl=>by
  rw [List.length_cons] at hl
  have e:=GS (h r List.mem_cons_self) hP hw h16 f s0 (some (.own acc))
  have a:=uk (i:=3) (ts:=acc) (τ:=[s0,ah (ao P),ah (aH w),some (.own acc),ah (aw r)]) rfl e (cY (by omega))
  obtain⟨t4,g⟩:=yK hP hw h16 f s0 X (acc++[aw (ml r P w)]) (ah (aw r)) (fun x hx=>h x (List.mem_cons_of_mem _ hx)) (by rw [List.length_append,List.length_cons,List.length_nil];omega)
  refine⟨t4,?_⟩
  rw [List.map_cons,bN rfl a]
  refine Eq.trans g ?_
  rw [List.append_assoc]
  rfl
theorem EW {D N D' N' w:Nat}{X P:List (List Rat)}(hX:Tv D N X)(hP:Tv D' N' P)(hw:Wd w P)(h16:w≤16)(f:AN D N D' N'):ER [ao X,ao P,aH w]=some (ao (mulM X P w)):=by
 obtain⟨t4,g⟩:=yK hP hw h16 f (ah (ao X)) X [] none (fun r hr=>hX.gv hr) (by have:=hX.len;simp;omega)
 rw [List.nil_append] at g
 have a1:=lG 3 [ah (ao X),ah (ao P),ah (aH w),none,none]
 have a2:eE (bh (ag 0)) (ai 4) (iW 3 BC) [ah (ao X),ah (ao P),ah (aH w),some (.own []),none]=_:=h9 (ts:=X.map aw) rfl g
 refine cS rfl ?_
 show eT HM [ah (ao X),ah (ao P),ah (aH w),none,none]=_
 unfold eT
 refine (aV a1).trans ?_
 refine (aV a2).trans ?_
 rfl
section
variable {m i o E N:Nat}{A B C D:List (List Rat)}
theorem Jn:bQ (cD A B C D) (.int 3)=some (ao D):=rfl
end
abbrev Ga:List T->Option T:=cI 2 2 (ny BD)
theorem Kh {g:T->Option T}{fa:FE}{τ τ':aI}{a t:T}(h:fa τ=some (a,τ'))(hg:g a=some t):n9 g fa τ=some (t,τ'):=by
 unfold n9
 rw [h,Option.bind_some]
 dsimp only
 rw [hg]
 rfl
theorem Sm.neg {x:Rat}(h:Sm x):Sm (-x):=⟨by rw [show (-x).num = -x.num from rfl,Int.natAbs_neg];exact h.n,h.d⟩
theorem Fe (x:Rat):bQ (bS x) (.int 0)=some (.int x.num):=rfl
theorem Ff (x:Rat):bQ (bS x) (.int 1)=some (.int (x.den:Int)):=rfl
theorem HA {f g:FE}{τ:aI}{t u:T}(h:f τ=some (t,τ))(h':g τ=some (u,τ)):di (af f (af g aE)) τ=some (.tup [t,u],τ):=by
 unfold di
 rw [dY h h',Option.bind_some]
 exact if_pos HW
theorem IU {x y:Rat}(hx:Sm x)(hy:Sm y):Ga [bS x,bS y]=some (bS (x-y)):=by
 refine cS rfl ?_
 show ny BD [ah (bS x),ah (bS y)]=_
 unfold ny
 have e:di (af (n9 zP (aN bQ (ag 1) (aZ 0))) (af (aN bQ (ag 1) (aZ 1)) aE)) [ah (bS x),ah (bS y)]=some (bS (-y),[ah (bS x),ah (bS y)]):=HA (Kh (bA rfl rfl (Fe y)) rfl) (bA rfl rfl (Ff y))
 rw [dU (aJ [bS x,bS (-y)] (dY rfl e) (BE hx hy.neg)),Rat.sub_eq_add_neg]
abbrev Ge:List T->Option T:=cI 2 2 (rl ki zX)
theorem Gj {a b:Int}(hb:b≠0):Rat.divInt (-a) (-b)=Rat.divInt a b:=by
 rw [Rat.divInt_eq_divInt_iff (by omega) hb,Int.neg_mul,Int.mul_neg]
theorem Dm {a b:Int}(hb:b<0):m8 a b=m8 (-a) (-b):=by
 unfold m8 sg
 rw [if_pos hb,if_neg (by omega),Int.gcd_neg,Int.neg_gcd,<- Int.neg_fdiv_neg a,<- Int.neg_fdiv_neg b,Int.neg_neg]
theorem Dl {y:Rat}(h:y≠0):m8 (y.den:Int) y.num=bS y⁻¹:=by
 have hn:y.num≠0:=fun z=>h (Rat.num_eq_zero.mp z)
 by_cases hp:0<y.num
 ·rw [iY hp,Rat.inv_def]
 ·rw [Dm (by omega),iY (by omega),Rat.inv_def,Gj hn]
theorem GF {y:Rat}:Ov y.num.natAbs y.den y⁻¹:=by
 rw [Rat.inv_def]
 by_cases hp:0≤y.num
 ·exact⟨(y.den:Int),by rw [Int.natAbs_of_nonneg hp],by simp⟩
 ·exact⟨-(y.den:Int),by rw [show ((y.num.natAbs:Nat):Int) = -y.num by omega,Gj (by omega)],by simp⟩
theorem Sm.inv {y:Rat}(h:Sm y)(h0:y≠0):Sm y⁻¹:=GF.sm (by have:y.num≠0:=fun z=>h0 (Rat.num_eq_zero.mp z);omega) h.n h.d
theorem Ik {n:Nat}(h:n<C):n<B:=Nat.lt_trans h CB
theorem IY {x y:Rat}(hx:Sm x)(hy:Sm y)(h0:y≠0):Ge [bS x,bS y]=some (bS (x/y)):=by
 refine cS rfl ?_
 show rl ki zX [ah (bS x),ah (bS y)]=_
 unfold rl
 have hn:y.num≠0:=fun z=>h0 (Rat.num_eq_zero.mp z)
 have e:=oq (a:=(y.den:Int)) (b:=y.num) (by have:=Ik hy.d;omega) (Ik hy.n) hn
 rw [Dl h0] at e
 rw [dU (aJ [bS x,bS y⁻¹] (dY rfl (aJ [.int (y.den:Int),.int y.num] (dY (bA rfl rfl (Ff y)) (bA rfl rfl (Fe y))) e)) (BF hx (hy.inv h0))),Rat.div_def]
theorem xH {a b:Int}(hb:b≠0)(h1:a.natAbs<C)(h2:b.natAbs<C):Sm ((a:Rat)/(b:Rat)):=by
 have o:Ov b.natAbs a.natAbs ((a:Rat)/(b:Rat)):=by
  rw [<- Rat.divInt_eq_div]
  by_cases hp:0≤b
  ·exact⟨a,by rw [Int.natAbs_of_nonneg hp],Nat.le_refl _⟩
  ·exact⟨-a,by rw [show ((b.natAbs:Nat):Int) = -b by omega,Gj hb],by rw [Int.natAbs_neg];exact Nat.le_refl _⟩
 exact o.sm (by omega) h2 h1
theorem ph {D N:Nat}{r:List Rat}(h:Gv D N r):qU N (Dt.rw (gq r)):=fun j=>J1 (fun n hn=>by
 obtain⟨x,hx,rfl⟩:=List.mem_map.mp hn
 obtain⟨a,e,ha⟩:=h.ov x hx
 obtain⟨l1,l2,l3⟩:=jr h.gn
 obtain⟨k,hk⟩:=l1
 have hD:=h.dp
 have e1:x=Rat.divInt (br (aK r) x) (aK r:Nat):=(Ct l2 (l3 x hx)).symm
 have e2:Rat.divInt (br (aK r) x*(k:Nat)) (D:Nat)=Rat.divInt a (D:Nat):=by
  have hk0:0<k:=Nat.pos_of_ne_zero fun z=>by rw [z,Nat.mul_zero] at hk;omega
  refine Eq.trans ?_ (e1.symm.trans e)
  rw [hk,Int.natCast_mul,Rat.divInt_mul_right (by omega)]
 have hk0:0<k:=Nat.pos_of_ne_zero fun z=>by rw [z,Nat.mul_zero] at hk;omega
 rw [Rat.divInt_eq_divInt_iff (by omega) (by omega)] at e2
 have e3:br (aK r) x*(k:Nat)=a:=Int.eq_of_mul_eq_mul_right (by omega) e2
 have e4:(br (aK r) x).natAbs*k=a.natAbs:=by rw [<- e3,Int.natAbs_mul,Int.natAbs_natCast]
 have:=Nat.le_mul_of_pos_right (br (aK r) x).natAbs hk0
 omega) j
def qf:List (List Rat)->Nat
 |[]=>0
 |r::_=>r.length
def idx:Nat->List (Option Nat×List Int)->List Nat
 |_,[]=>[]
 |k,(none,_)::st=>idx (k+1) st
 |k,(some _,_)::st=>k::idx (k+1) st
theorem wD (L w:Nat):∀(rows:List (List Int)) (i:Nat) (R:List Dt.Row) (ps:List Nat),idx i (dC L w rows R ps)=Dt.fr w (rows.map Dt.rw) i R ps
 |[],i,R,ps=>rfl
 |row::rows,i,R,ps=>by
  rw [dC,List.map_cons,Dt.fr]
  cases e:Dt.fp w (Dt.left R ps (Dt.rw row)) with
  |none=>dsimp only;rw [idx,wD L w rows]
  |some p=>dsimp only;rw [idx,wD L w rows]
def HS:FG:=bF (av (ai 0) (av (bF (av (ai 1) (av (ai 2) bq))) bq))
def HR:FT:=fG (aN jC (ag 1) (fC .non))
theorem rO:∀(st:List (Option Nat×List Int)) (k:Nat) (u v x:Option Sl) (acc:List T),acc.length+st.length≤1000->eP HS HR (ag 0) (yt k (st.map vG)) [u,v,x] acc=some (acc++(idx k st).map fun (i:Nat)=>aH i)
 |[],k,u,v,x,acc,_=>by simp [yt,eP,idx]
 |(q,l)::st,k,u,v,x,acc,h=>by
  simp only [List.length_cons] at h
  have e1:HS (.tup [aH k,vG (q,l)]) [u,v,x]=some [ah (aH k),ah (pL q),ah (iT l)]:=rfl
  have e2:HR [ah (aH k),ah (pL q),ah (iT l)]=some (!oj (pL q),[ah (aH k),ah (pL q),ah (iT l)]):=yF rfl
  rw [List.map_cons,yt,eP,e1,Option.bind_some,e2,Option.bind_some]
  cases q with
  |none =>
   show eP HS HR (ag 0) (yt (k+1) (st.map vG)) [ah (aH k),ah (pL none),ah (iT l)] acc=_
   rw [rO st (k+1) _ _ _ acc (by omega),idx]
  |some p =>
   have e3:ag 0 [ah (aH k),ah (pL (some p)),ah (iT l)]=some (aH k,[ah (aH k),ah (pL (some p)),ah (iT l)]):=rfl
   show ((ag 0 [ah (aH k),ah (pL (some p)),ah (iT l)]).bind fun q=>if cw q.2=true/\acc.length<sizeLine then eP HS HR (ag 0) (yt (k+1) (st.map vG)) q.2 (acc++[q.1]) else none)=_
   rw [e3,Option.bind_some]
   refine (if_pos ⟨rfl,cY (by omega)⟩).trans ?_
   rw [rO st (k+1) _ _ _ _ (by rw [List.length_append];simp only [List.length_cons,List.length_nil];omega),idx,List.map_cons,List.append_assoc]
   rfl
theorem HD (A:List (List Rat))(h:∀r∈A,r.length=qf A)(ρ:aI):HU (eG (ag 0)) (aq bM (af (aN bQ (ag 0) (aZ 0)) aE)) (aZ 0) (ah (ao A)::ρ)=some (.int (qf A:Nat),ah (ao A)::ρ):=by
 cases A with
 |nil=>rfl
 |cons r A =>
  have g:bQ (ao (r::A)) (.int 0)=some (aw r):=mO (L:=(r::A).map aw) (p:=0) rfl
  have h2:aN bQ (ag 0) (aZ 0) (ah (ao (r::A))::ρ)=some (aw r,ah (ao (r::A))::ρ):=by
   unfold aN
   rw [show ag 0 (ah (ao (r::A))::ρ)=some (ao (r::A),ah (ao (r::A))::ρ) from rfl,Option.bind_some]
   show (bQ (ao (r::A)) (.int 0)).bind _=_
   rw [g]
   rfl
  have h3:bM [aw r]=some (.int (r.length:Nat)):=by
   show some (T.int ((r.map bS).length:Nat))=_
   rw [List.length_map]
  exact aJ [aw r] (dF h2) h3
abbrev IH:List T->Option T:=cI 1 1 (kX HY HX)
theorem Ji {D N:Nat}{J:List (List Rat)}(h:∀r∈J,Gn D N r)(hl:J.length≤8):IH [ao J]=some (.lst ((J.map gq).map iT)):=by
 have c1:=cu (φ:=aw) (fe:=aq HX (af (ag 0) (af (aq HY (bg 0)) aE))) (g:=fun r=>iT (gq r)) (ρ:=[]) rfl J none [] (fun r hr=>aJ [aw r,.int (aK r:Nat)] (dY rfl (aJ [aw r] rfl (Fm (h r hr)))) (by
  rw [Fl (h r hr)]
  unfold iT gq
  rw [List.map_map]
  rfl)) (dE (by omega))
 have e1:=bV (no:=1) (cap:=[]) (fi:=bh (ag 0)) (fg:=ai 0) (ft:=az) (τ:=[ah (ao J)]) (h1:=rfl) rfl rfl c1
 refine cS rfl ?_
 refine (dU e1).trans ?_
 rw [List.nil_append,List.map_map]
 rfl
abbrev IB:List T->Option T:=cI 3 1 (kS IH IA)
theorem L8:JD<C:=by decide +kernel
theorem Ma:JN<C:=by decide +kernel
theorem Kk:0<JD:=by decide +kernel
theorem L9:(12*JN+1)^11<B:=by decide +kernel
theorem Ts.gv {m w:Nat}{A:List (List Rat)}(h:Ts m w JD JN A)(hm:m≤8)(hw:w≤8){r:List Rat}(hr:r∈A):Gv JD JN r:=⟨by rw [h.wd r hr];omega,h.ov r hr,Kk,L8,Ma⟩
theorem IK {m w:Nat}{A:List (List Rat)}(h:Ts m w JD JN A)(hm:m≤8)(hw:w≤8):∃ns:List T,IB [ao A]=some (.lst ns)/\ns.length=Dt.rank (qf A) ((A.map gq).map Dt.rw):=by
 have hwd:∀r∈A,r.length=qf A:=fun r hr=>by
  cases A with
  |nil=>cases hr
  |cons a A=>rw [h.wd r hr];exact (h.wd a List.mem_cons_self).symm
 have hw8:qf A≤8:=by
  cases A with
  |nil=>exact Nat.zero_le _
  |cons a A=>exact Nat.le_trans (Nat.le_of_eq (h.wd a List.mem_cons_self)) hw
 have e1:aU 1 (HU (eG (ag 0)) (aq bM (af (aN bQ (ag 0) (aZ 0)) aE)) (aZ 0)) [ah (ao A),none,none]=some (.nx [ah (ao A),ah (.int (qf A:Nat)),none]):=cP (HD A hwd _) rfl
 have e4:=m7 (M:=JN) (L:=qf A) (w:=qf A) L9 (Nat.le_refl _) (rows:=A.map gq) (by omega) (by rw [List.length_map,h.len];omega) (fun row hr=>by
  obtain⟨r,hm',rfl⟩:=List.mem_map.mp hr
  exact⟨by rw [vI];exact hwd r hm',ph (h.gv hm hw hm')⟩)
 have e5:aU 2 (aq IA (af (aq IH (bg 0)) (bg 1))) [ah (ao A),ah (.int (qf A:Nat)),none]=some (.nx [ah (ao A),ah (.int (qf A:Nat)),ah (.lst ((dC (qf A) (qf A) (A.map gq) [] []).map vG))]):=
  cP (aJ [.lst ((A.map gq).map iT),.int (qf A:Nat)] (dY (aJ [ao A] (dF rfl) (Ji (fun r hr=>(h.gv hm hw hr).gn) (by rw [h.len];omega))) rfl) e4) rfl
 have hcc:=rO (dC (qf A) (qf A) (A.map gq) [] []) 0 none none none [] (by rw [kM,List.length_map,List.length_nil,h.len];omega)
 have e6:=bV (no:=3) (cap:=[]) (fi:=rP (bg 2)) (fg:=HS) (ft:=HR) (fe:=ag 0) (τ:=[ah (ao A),ah (.int (qf A:Nat)),ah (.lst ((dC (qf A) (qf A) (A.map gq) [] []).map vG))]) (h1:=rfl) rfl rfl hcc
 refine⟨[]++(idx 0 (dC (qf A) (qf A) (A.map gq) [] [])).map fun (i:Nat)=>aH i,cS rfl ?_,?_⟩
 ·show aR (aU 1 (HU (eG (ag 0)) (aq bM (af (aN bQ (ag 0) (aZ 0)) aE)) (aZ 0))) (aR (aU 2 (aq IA (af (aq IH (bg 0)) (bg 1)))) (bE (cg 3 [] (rP (bg 2)) HS HR (ag 0)))) [ah (ao A),none,none]=_
  rw [aV e1,aV e5]
  exact dU e6
 ·rw [List.nil_append,List.length_map,wD]
  rfl
def xr (r:List Rat):Dt.Row:=Dt.rw (gq r)
def cq (R:List Dt.Row)(ps:List Nat)(r:List Rat)(j:Nat):Rat:=((Dt.left R ps (xr r) j:Int):Rat)/((Dt.det R ps*(aK r:Int):Int):Rat)
def cr (w:Nat)(R:List Dt.Row)(ps:List Nat)(r:List Rat):List Rat:=(List.range w).map (cq R ps r)
theorem AX (w:Nat)(R:List Dt.Row)(ps:List Nat)(r:List Rat):(cr w R ps r).length=w:=by unfold cr;rw [List.length_map,List.length_range]
theorem FN {D N:Nat}{r:List Rat}{w:Nat}(h:Gn D N r)(hw:r.length=w):cr w [] [] r=r:=by
 have hb:=kN h
 have e:(List.range w).map (fun j=>Rat.divInt ((gq r).getD j 0) (aK r:Nat))=r:=by
  refine Eq.trans ?_ hb
  show _=(gq r).map _
  have hl:=vI r
  apply List.ext_getElem
  ·rw [List.length_map,List.length_range,List.length_map,hl,hw]
  ·intro k h1 h2
   rw [List.length_map,List.length_range] at h1
   rw [List.getElem_map,List.getElem_range,List.getElem_map,List.getD_eq_getElem?_getD,List.getElem?_eq_getElem (by rw [hl,hw];exact h1),Option.getD_some]
 refine Eq.trans ?_ e
 unfold cr
 refine List.map_congr_left fun j _=>?_
 unfold cq xr
 rw [Dt.uY,Rat.divInt_eq_div]
 show ((Dt.rw (gq r) j:Int):Rat)/((1*(aK r:Int):Int):Rat)=_
 rw [Int.one_mul]
 rfl
theorem Hv (a b c d e f l m:Rat)(hd:d≠0)(he:e≠0)(hl:l≠0)(hm:m≠0)(h:d*f=e*a-b*c):a/(d*l)-(b/(d*l))/(e/(d*m))*(c/(d*m))=f/(e*l):=by
 grind
theorem C4 {D N D' N':Nat}{r s:List Rat}(hr:Gn D N r)(hs:Gn D' N' s){R:List Dt.Row}{ps:List Nat}{p:Nat}(hd:Dt.det R ps≠0)(hn:Dt.left R ps (xr s) p≠0)(j:Nat):cq R ps r j-cq R ps r p/cq R ps s p*cq R ps s j=cq (xr s::R) (p::ps) r j:=by
 have hb:=Dt.nz hn (xr r) j
 have q:∀{z:Int},z≠0->(z:Rat)≠0:=fun h z=>h (Rat.intCast_eq_zero_iff.mp z)
 have l1:((aK r:Nat):Int)≠0:=by have:=(jr hr).2.1;omega
 have l2:((aK s:Nat):Int)≠0:=by have:=(jr hs).2.1;omega
 have hb':((Dt.det R ps:Int):Rat)*((Dt.left (xr s::R) (p::ps) (xr r) j:Int):Rat)=((Dt.left R ps (xr s) p:Int):Rat)*((Dt.left R ps (xr r) j:Int):Rat)-((Dt.left R ps (xr r) p:Int):Rat)*((Dt.left R ps (xr s) j:Int):Rat):=by
  rw [<- Rat.intCast_mul,hb,Rat.intCast_sub,Rat.intCast_mul,Rat.intCast_mul]
 have:=Hv _ _ _ _ _ _ ((aK r:Int):Rat) ((aK s:Int):Rat) (q hd) (q hn) (q l1) (q l2) hb'
 unfold cq
 rw [Rat.intCast_mul,Rat.intCast_mul,Rat.intCast_mul]
 exact this
theorem rH {D N:Nat}{r:List Rat}(hr:Gn D N r){R:List Dt.Row}{ps:List Nat}(hd:Dt.det R ps≠0)(j:Nat):cq R ps r j=0 ↔ Dt.left R ps (xr r) j=0:=by
 have l1:((aK r:Nat):Int)≠0:=by have:=(jr hr).2.1;omega
 have z:((Dt.det R ps*(aK r:Int):Int):Rat)≠0:=fun z=>Int.mul_ne_zero hd l1 (Rat.intCast_eq_zero_iff.mp z)
 unfold cq
 constructor
 ·intro h
  apply Rat.intCast_eq_zero_iff.mp
  grind
 ·intro h
  rw [h]
  grind
structure Rk (w:Nat)(A:List (List Rat))(c:Nat)(R:List Dt.Row)(ps:List Nat)(S:List (List Rat)):Prop where
 dt:Dt.det R ps≠0
 lr:ps.length=R.length
 pw:∀p∈ps,p<w
 rA:∀x∈R,x∈A.map xr
 sA:∀s∈S,s∈A
 al:∀r∈A,r∈S\/xr r∈R
 z:∀s∈S,∀j<c,Dt.left R ps (xr s) j=0
 rc:R.length≤c
 len:R.length+S.length=A.length
section
variable {w c:Nat}{A S:List (List Rat)}{R:List Dt.Row}{ps:List Nat}
theorem Rk.start (w:Nat)(A:List (List Rat)):Rk w A 0 [] [] A:=⟨by decide,rfl,fun _ h=>(by cases h),fun _ h=>(by cases h),fun _ h=>h,fun _ h=>.inl h,fun _ _ j hj=>absurd hj (Nat.not_lt_zero j),Nat.le_refl _,by rw [List.length_nil,Nat.zero_add]⟩
theorem Rk.none (h:Rk w A c R ps S)(h0:∀s∈S,Dt.left R ps (xr s) c=0):Rk w A (c+1) R ps S:=⟨h.dt,h.lr,h.pw,h.rA,h.sA,h.al,fun s hs j hj=>by
 by_cases e:j=c
 ·rw [e];exact h0 s hs
 ·exact h.z s hs j (by omega),by have:=h.rc;omega,h.len⟩
theorem Rk.some {S1 S2:List (List Rat)}{s:List Rat}(h:Rk w A c R ps (S1++s::S2))(hc:c<w)(hn:Dt.left R ps (xr s) c≠0):Rk w A (c+1) (xr s::R) (c::ps) (S1++S2):=by
 have sub:∀t∈S1++S2,t∈S1++s::S2:=fun t ht=>by
  rcases List.mem_append.mp ht with z | z
  ·exact List.mem_append_left _ z
  ·exact List.mem_append_right _ (List.mem_cons_of_mem _ z)
 have ms:s∈S1++s::S2:=List.mem_append_right _ List.mem_cons_self
 refine⟨hn,by rw [List.length_cons,List.length_cons,h.lr],fun p hp=>?_,fun x hx=>?_,fun t ht=>h.sA t (sub t ht),fun r hr=>?_,fun t ht j hj=>?_,by have:=h.rc;rw [List.length_cons];omega,?_⟩
 ·rcases List.mem_cons.mp hp with rfl | hp
  ·exact hc
  ·exact h.pw p hp
 ·rcases List.mem_cons.mp hx with rfl | hx
  ·exact List.mem_map.mpr ⟨s,h.sA s ms,rfl⟩
  ·exact h.rA x hx
 ·rcases h.al r hr with z | z
  ·rcases List.mem_append.mp z with z | z
   ·exact .inl (List.mem_append_left _ z)
   ·rcases List.mem_cons.mp z with rfl | z
    ·exact .inr List.mem_cons_self
    ·exact .inl (List.mem_append_right _ z)
  ·exact .inr (List.mem_cons_of_mem _ z)
 ·by_cases e:j=c
  ·rw [e];exact Dt.DC List.mem_cons_self
  ·have hb:=Dt.nz hn (xr t) j
   rw [h.z t (sub t ht) j (by omega),h.z s ms j (by omega),Int.mul_zero,Int.mul_zero] at hb
   rcases Int.mul_eq_zero.mp (hb.trans (by omega)) with e | e
   ·exact absurd e h.dt
   ·exact e
 ·have:=h.len
  rw [List.length_append,List.length_cons] at this
  rw [List.length_append,List.length_cons]
  omega
theorem Rk.fin (h:Rk w A w R ps S):R.length=Dt.rank w ((A.map gq).map Dt.rw):=by
 have e:(A.map gq).map Dt.rw=A.map xr:=by rw [List.map_map];rfl
 rw [e]
 refine Nat.le_antisymm (Dt.B6 h.rA h.pw h.dt) ?_
 obtain⟨R',ps',d',p',_,l',r',_⟩:=Dt.vv w (A.map xr)
 rw [<- l']
 refine Nat.le_of_not_lt fun hlt=>d' (Dt.LR h.dt (fun x hx j hj=>?_) hlt)
 obtain⟨r,hr,rfl⟩:=List.mem_map.mp (r' x hx)
 rcases h.al r hr with z | z
 ·exact h.z r z j (p' j hj)
 ·exact Dt.jF z j
end
def QQ:Nat:=(12*JN+1)^5
theorem LN:QQ*QQ*JD*JD<C:=by decide +kernel
section
variable {w c:Nat}{A S:List (List Rat)}{R:List Dt.Row}{ps:List Nat}
theorem Rk.bR (h:Rk w A c R ps S)(hA:∀r∈A,Gv JD JN r):∀y∈R,qU JN y:=fun y hy=>by
 obtain⟨r,hr,rfl⟩:=List.mem_map.mp (h.rA y hy)
 exact ph (hA r hr)
theorem Rk.bl (h:Rk w A c R ps S)(hA:∀r∈A,Gv JD JN r)(h4:R.length≤4){r:List Rat}(hr:r∈A)(j:Nat):(Dt.left R ps (xr r) j).natAbs≤QQ:=
 Nat.le_trans (By (ph (hA r hr)) (h.bR hA) (by omega) (by rw [h.lr];omega) j) (Nat.pow_le_pow_right (by omega) (by omega))
theorem Rk.bd (h:Rk w A c R ps S)(hA:∀r∈A,Gv JD JN r)(h4:R.length≤4):(Dt.det R ps).natAbs≤QQ:=
 Nat.le_trans (ES (h.bR hA) (by rw [h.lr];omega)) (Nat.pow_le_pow_right (by omega) (by omega))
theorem BA {r:List Rat}(h:Gv JD JN r):aK r≤JD:=Nat.le_of_dvd Kk (jr h.gn).1
theorem EM (h:Rk w A c R ps S)(hA:∀r∈A,Gv JD JN r)(h4:R.length≤4){r:List Rat}(hr:r∈A)(j:Nat):Sm (cq R ps r j):=by
 have l1:=(jr (hA r hr).gn).2.1
 have l2:=BA (hA r hr)
 have b1:=h.bl hA h4 hr j
 have b2:=h.bd hA h4
 have q:=LN
 have hQ:0<QQ:=Nat.pow_pos (by omega)
 have hJ:=Kk
 refine xH (Int.mul_ne_zero h.dt (by omega)) ?_ ?_
 ·refine Nat.lt_of_le_of_lt (Nat.le_trans b1 ?_) q
  calc QQ=QQ*1*1*1:=by simp only [Nat.mul_one]
   _≤QQ*QQ*JD*JD:=Nat.mul_le_mul (Nat.mul_le_mul (Nat.mul_le_mul_left _ hQ) hJ) hJ
 ·rw [Int.natAbs_mul,Int.natAbs_natCast]
  refine Nat.lt_of_le_of_lt (Nat.le_trans (Nat.mul_le_mul b2 l2) ?_) q
  calc QQ*JD=QQ*1*JD*1:=by simp only [Nat.mul_one]
   _≤QQ*QQ*JD*JD:=Nat.mul_le_mul (Nat.mul_le_mul_right _ (Nat.mul_le_mul_left _ hQ)) hJ
theorem Iy (h:Rk w A c R ps S)(hA:∀r∈A,Gv JD JN r)(h4:R.length≤4){r s:List Rat}(hr:r∈A)(hs:s∈A){p:Nat}(hn:Dt.left R ps (xr s) p≠0):Sm (cq R ps r p/cq R ps s p)/\∀j,Sm (cq R ps r p/cq R ps s p*cq R ps s j):=by
 have l1:=(jr (hA r hr).gn).2.1
 have l2:=BA (hA r hr)
 have m1:=(jr (hA s hs).gn).2.1
 have m2:=BA (hA s hs)
 have b1:=h.bl hA h4 hr p
 have b2:=h.bl hA h4 hs p
 have b3:=h.bd hA h4
 have q:=LN
 have hQ:0<QQ:=Nat.pow_pos (by omega)
 have hJ:=Kk
 have cz:∀{z:Int},z≠0->(z:Rat)≠0:=fun h z=>h (Rat.intCast_eq_zero_iff.mp z)
 have k1:((aK r:Nat):Int)≠0:=by omega
 have k2:((aK s:Nat):Int)≠0:=by omega
 have e1:cq R ps r p/cq R ps s p=((Dt.left R ps (xr r) p*(aK s:Int):Int):Rat)/((Dt.left R ps (xr s) p*(aK r:Int):Int):Rat):=by
  have a1:=cz h.dt
  have a2:=cz hn
  have a3:=cz k1
  have a4:=cz k2
  unfold cq
  rw [Rat.intCast_mul,Rat.intCast_mul,Rat.intCast_mul,Rat.intCast_mul]
  grind
 have e2:∀j,cq R ps r p/cq R ps s p*cq R ps s j=((Dt.left R ps (xr r) p*Dt.left R ps (xr s) j:Int):Rat)/((Dt.left R ps (xr s) p*Dt.det R ps*(aK r:Int):Int):Rat):=fun j=>by
  have a1:=cz h.dt
  have a2:=cz hn
  have a3:=cz k1
  have a4:=cz k2
  unfold cq
  rw [Rat.intCast_mul,Rat.intCast_mul,Rat.intCast_mul,Rat.intCast_mul,Rat.intCast_mul]
  grind
 constructor
 ·rw [e1]
  refine xH (Int.mul_ne_zero hn k1) ?_ ?_
  ·rw [Int.natAbs_mul,Int.natAbs_natCast]
   refine Nat.lt_of_le_of_lt (Nat.le_trans (Nat.mul_le_mul b1 m2) ?_) q
   calc QQ*JD=QQ*1*JD*1:=by simp only [Nat.mul_one]
    _≤QQ*QQ*JD*JD:=Nat.mul_le_mul (Nat.mul_le_mul_right _ (Nat.mul_le_mul_left _ hQ)) hJ
  ·rw [Int.natAbs_mul,Int.natAbs_natCast]
   refine Nat.lt_of_le_of_lt (Nat.le_trans (Nat.mul_le_mul b2 l2) ?_) q
   calc QQ*JD=QQ*1*JD*1:=by simp only [Nat.mul_one]
    _≤QQ*QQ*JD*JD:=Nat.mul_le_mul (Nat.mul_le_mul_right _ (Nat.mul_le_mul_left _ hQ)) hJ
 ·intro j
  have b4:=h.bl hA h4 hs j
  rw [e2]
  refine xH (Int.mul_ne_zero (Int.mul_ne_zero hn h.dt) k1) ?_ ?_
  ·rw [Int.natAbs_mul]
   refine Nat.lt_of_le_of_lt (Nat.le_trans (Nat.mul_le_mul b1 b4) ?_) q
   calc QQ*QQ=QQ*QQ*1*1:=by simp only [Nat.mul_one]
    _≤QQ*QQ*JD*JD:=Nat.mul_le_mul (Nat.mul_le_mul_left _ hJ) hJ
  ·rw [Int.natAbs_mul,Int.natAbs_mul,Int.natAbs_natCast]
   refine Nat.lt_of_le_of_lt (Nat.le_trans (Nat.mul_le_mul (Nat.mul_le_mul b2 b3) l2) ?_) q
   exact Nat.le_mul_of_pos_right _ hJ
end
abbrev Gg:List T->Option T:=cI 8 2 (gY Ge zX Ga)
def tL:FT:=fG (aN nF (aN bQ (aN bQ (ag 1) (ag 0)) (ag 2)) (di (af (aZ 0) (af (aZ 1) aE))))
def tK:kO:=cJ 1 [2,4] (ku (af (ag 3) (af (gF 2 (aq bM (bg 2))) aE))) (ai 0) tL (eX (ag 0))
def Fs:FE:=cg 2 [7] (dq (af (ee 2 (ag 6)) (af (ee 2 (ag 3)) aE))) (bF (av (ai 0) (av (ai 1) bq))) az (aq Ga (af (ag 0) (af (aq zX (af (ag 2) (bg 1))) aE)))
def zc:FS:=aR (aU 7 (aq Ge (af (aN bQ (ee 2 (ag 6)) (ag 4)) (af (aN bQ (ee 2 (ag 3)) (ag 4)) aE)))) (n0 2 Fs (ag 6))
def yZ:FS:=A7 2 (ag 3) (lW 2 (aN bQ (ag 5) (aZ 0)))
def Ft:FS:=aR yZ (aR (eE (ku (af (aN ck (ag 3) (aZ 1)) (af (gF 2 (aq bM (bg 2))) aE))) (ai 6) zc) (aU 3 (aN ck (ag 3) (aZ 1))))
def tJ:FS:=aR (n6 2 5 tK) (cT (fG (aN nF (ag 5) (kr aE))) Ft cC)
theorem CZ:gY Ge zX Ga=aR (uz 2 (cJ 1 [] (bh (ag 0)) (ai 0) az (eX (aq dList (bg 0))))) (aR (aU 3 (aZ 0)) (aR (eE (bW (bg 1)) (ai 4) tJ) (bE (ag 3)))):=rfl
theorem Hq {i j:Nat}{f:kO}{τ τ2:aI}{us:List T}{l:List Int}(h:τ[i]? = some (some (.own us)))(hf:∀τ':aI,τ'[i]? = some (ah (.lst us))->(∀(j:Nat) s,j≠i->τ[j]? = some (ah s)->τ'[j]? = some (ah s))->∃τ3,f τ'=some (.lst (l.map fun k=>O.val (.int k)),τ3)):n6 i j f τ=some (.nx (τ.set j (some (.own (l.map T.int))))):=by
 unfold n6
 rw [h]
 dsimp only
 obtain⟨τ3,e⟩:=hf ((hide τ).set i (ah (.lst us))) (List.getElem?_set_self (by rw [dM];exact (List.getElem?_eq_some_iff.mp h).1)) (fun j s hj e=>by rw [List.getElem?_set_ne (Ne.symm hj)];exact lj e)
 rw [e,Option.bind_some]
 dsimp only
 rw [qB,Option.bind_some]
theorem DM (x:Rat):nF (bS x) (.tup [.int 0,.int 1])=some (.bl (decide (x≠0))):=by
 by_cases h:x=0
 ·rw [h,decide_eq_false (by simp)];exact JH
 ·rw [decide_eq_true h];exact Ln h
def sel (L:List (List Rat))(c:Nat):Nat->Nat->List Nat
 |_,0=>[]
 |n,k+1=>if (L.getD n []).getD c 0≠0 then n::sel L c (n+1) k else sel L c (n+1) k
theorem Ef {L:List (List Rat)}{c n:Nat}{r:List Rat}(h:L[n]? = some r)(hc:c<r.length):tL [ah (aH n),ah (.lst (L.map aw)),ah (aH c)]=some (decide ((L.getD n []).getD c 0≠0),[ah (aH n),ah (.lst (L.map aw)),ah (aH c)]):=by
 have e1:bQ (.lst (L.map aw)) (aH n)=some (aw r):=mO (by rw [List.getElem?_map,h];rfl)
 have e2:bQ (aw r) (aH c)=some (bS (r.getD c 0)):=mO (L:=r.map bS) (by rw [List.getElem?_map,List.getElem?_eq_getElem hc,List.getD_eq_getElem?_getD,List.getElem?_eq_getElem hc];rfl)
 have e3:(L.getD n []).getD c 0=r.getD c 0:=by rw [List.getD_eq_getElem?_getD (l:=L),h];rfl
 rw [e3]
 unfold tL fG
 rw [bA (bA (bA rfl rfl e1) rfl e2) (Kg 0 1 _) (DM _)]
 rfl
theorem tZ {L:List (List Rat)}{c:Nat}(hL:∀r∈L,c<r.length):∀(k n:Nat) (u:Option Sl) (acc:List O),n+k≤L.length->acc.length+k≤1000->dZ (ai 0) tL (eX (ag 0)) (TM.upTo (n:Nat) k) [u,ah (.lst (L.map aw)),ah (aH c)] acc=some (acc++(sel L c n k).map fun (i:Nat)=>O.val (aH i))
 |0,n,u,acc,_,_=>by simp [TM.upTo,dZ,sel]
 |k+1,n,u,acc,hn,ha=>by
  have hlt:n<L.length:=by omega
  have e1:ai 0 (aH n) [u,ah (.lst (L.map aw)),ah (aH c)]=some [ah (aH n),ah (.lst (L.map aw)),ah (aH c)]:=rfl
  have e2:=Ef (L:=L) (c:=c) (n:=n) (List.getElem?_eq_getElem hlt) (hL _ (List.getElem_mem hlt))
  rw [TM.upTo,dZ,e1,Option.bind_some,e2,Option.bind_some,sel]
  have hc1:((n:Nat):Int)+1=((n+1:Nat):Int):=by omega
  by_cases hz:(L.getD n []).getD c 0≠0
  ·rw [if_pos hz]
   dsimp only
   rw [decide_eq_true hz,if_pos rfl]
   show ((eX (ag 0) [ah (aH n),ah (.lst (L.map aw)),ah (aH c)]).bind _)=_
   rw [show eX (ag 0) [ah (aH n),ah (.lst (L.map aw)),ah (aH c)]=some (O.val (aH n),[ah (aH n),ah (.lst (L.map aw)),ah (aH c)]) from rfl,Option.bind_some]
   refine (if_pos ⟨rfl,cY (by omega)⟩).trans ?_
   rw [hc1,tZ hL k (n+1) _ _ (by omega) (by rw [List.length_append];simp only [List.length_cons,List.length_nil];omega),List.map_cons,List.append_assoc]
   rfl
  ·rw [if_neg hz]
   dsimp only
   rw [decide_eq_false hz,if_neg (by decide)]
   refine (if_pos rfl).trans ?_
   rw [hc1,tZ hL k (n+1) _ _ (by omega) (by omega)]
theorem B7 {f g:FE}{τ:aI}{a b:Nat}(h:f τ=some (aH a,τ))(h':g τ=some (aH b,τ))(ha:a≤1000)(hb:b≤1000):ku (af f (af g aE)) τ=some (TM.upTo (a:Nat) (b-a),τ):=by
 unfold ku
 rw [dY h h',Option.bind_some]
 dsimp only
 rw [if_pos (by omega),show ((b:Int)-(a:Int)).toNat=b-a by omega]
theorem Jz {i:Nat}{us:List T}{τ:aI}(h:τ[i]? = some (some (.own us))):gF i (aq bM (af (ag i) aE)) τ=some (.int (us.length:Nat),τ):=by
 have:=Cy (i:=i) (f:=aq bM (af (ag i) aE)) (τ:=τ) (us:=us) (t:=.int (us.length:Nat)) h (fun τ' h1 _=>aJ [.lst us] (dF (dh h1)) rfl)
 exact this.trans (by rw [if_pos (by simp [apart])])
theorem JZ {L:List (List Rat)}{c n:Nat}(hL:∀r∈L,c<r.length)(hn:n≤L.length)(hl:L.length≤100){τ:aI}(h2:τ[2]? = some (ah (.lst (L.map aw))))(h3:τ[3]? = some (ah (aH n)))(h4:τ[4]? = some (ah (aH c))):
  tK τ=some (.lst ((sel L c n (L.length-n)).map fun (i:Nat)=>O.val (aH i)),τ):=by
 have hb:cR 1 [2,4] τ=[none,ah (.lst (L.map aw)),ah (aH c)]:=by
  unfold cR qt
  simp [h2,h4]
 have hz:frzAll [2,4] τ=τ:=by
  unfold frzAll frz1
  rw [h2]
  dsimp only
  unfold frzAll frz1
  rw [h4]
  rfl
 refine fF (ts:=TM.upTo (n:Nat) (L.length-n)) (B7 (dh h3) ?_ (by omega) (by omega)) hz ?_ ?_
 ·rw [zD h2]
  exact aJ [ao L] (dF (dh h2)) (len_tab L)
 ·rw [hb];rfl
 ·rw [hb,tZ hL (L.length-n) n none [] (by omega) (by simp;omega),List.nil_append]
theorem Ee {L:List (List Rat)}{c n:Nat}(hL:∀r∈L,c<r.length)(hn:n≤L.length)(hl:L.length≤100){τ:aI}(h2:τ[2]? = some (some (.own (L.map aw))))(h3:τ[3]? = some (ah (aH n)))(h4:τ[4]? = some (ah (aH c))):
  n6 2 5 tK τ=some (.nx (τ.set 5 (some (.own ((sel L c n (L.length-n)).map fun (i:Nat)=>aH i))))):=by
 have:=Hq (i:=2) (j:=5) (f:=tK) (τ:=τ) (τ2:=τ) (l:=(sel L c n (L.length-n)).map fun (i:Nat)=>(i:Int)) h2 (fun τ' a2 aj=>⟨τ',by
  rw [JZ hL hn hl a2 (aj 3 _ (by decide) h3) (aj 4 _ (by decide) h4),List.map_map]
  rfl⟩)
 rw [this,List.map_map]
 rfl
theorem Ju {p q r:List T}{x:T}{ys:List T}{τ:aI}(h2:τ[2]? = some (some (.own (p++(q++x::r)))))(h3:τ[3]? = some (ah (.int (p.length:Nat))))(h5:τ[5]? = some (ah (.lst (.int ((p.length+q.length:Nat):Nat)::ys))))(hl:p.length+q.length+r.length≤100):
  yZ τ=some (.nx (τ.set 2 (some (.own (p++x::(q++r)))))):=by
 have l2:2<τ.length:=(List.getElem?_eq_some_iff.mp h2).1
 have g:(p++(q++x::r))[p.length+q.length]? = some x:=by
  rw [List.getElem?_append_right (by omega),show p.length+q.length-p.length=q.length by omega,List.getElem?_append_right (Nat.le_refl _),Nat.sub_self]
  rfl
 have er:(p++(q++x::r)).eraseIdx (p.length+q.length)=p++(q++r):=by
  rw [List.eraseIdx_append_of_length_le (by omega),show p.length+q.length-p.length=q.length by omega,List.eraseIdx_append_of_length_le (Nat.le_refl _),Nat.sub_self]
  rfl
 have hp:lW 2 (aN bQ (ag 5) (aZ 0)) τ=some (x,τ.set 2 (some (.own (p++(q++r))))):=by
  unfold lW
  rw [h2]
  dsimp only
  rw [bA (dh h5) rfl (show bQ (.lst (.int ((p.length+q.length:Nat):Nat)::ys)) (.int 0)=some (.int ((p.length+q.length:Nat):Nat)) from mO (p:=0) rfl),Option.bind_some]
  dsimp only
  rw [h2]
  dsimp only
  rw [if_pos ⟨by omega,by rw [List.length_append,List.length_append,List.length_cons];omega,by rw [List.length_append,List.length_append,List.length_cons];omega⟩,show ((p.length+q.length:Nat):Int).toNat=p.length+q.length by omega,g,er]
  rfl
 unfold yZ A7
 rw [h2]
 dsimp only
 rw [dh h3,Option.bind_some]
 dsimp only
 rw [hp,Option.bind_some]
 dsimp only
 rw [List.getElem?_set_self l2]
 dsimp only
 rw [if_pos ⟨by omega,by rw [List.length_append];omega,by rw [List.length_append,List.length_append];omega⟩,show ((p.length:Nat):Int).toNat=p.length by omega,List.take_left,List.drop_left,List.set_set]
theorem HF {α β:Type}(f:Nat->α)(g:Nat->β)(n:Nat):List.zip ((List.range n).map f) ((List.range n).map g)=(List.range n).map fun i=>(f i,g i):=List.zip_map'
theorem Jt {c:FT}{s u:FS}{τ τ':aI}(h:c τ=some (true,τ')):cT c s u τ=s τ':=by
 unfold cT
 rw [h]
 rfl
theorem ne_nil (n:Nat)(ys:List Nat):nF (.lst ((n::ys).map fun (i:Nat)=>aH i)) (.lst [])=some (.bl true):=by
 obtain⟨ds,h1,h2,h3⟩:=tX (n:=1) (ts:=ys.map fun (i:Nat)=>aH i) fun x hx=>by
  obtain⟨i,_,rfl⟩:=List.mem_map.mp hx
  exact⟨PyData.int (i:Nat),rfl,rfl,Nat.le_of_ble_eq_true rfl⟩
 have e:AJ (.lst ((n::ys).map fun (i:Nat)=>aH i))=some (.list (PyData.int (n:Nat)::ds)):=by
  rw [List.map_cons]
  simp only [AJ,nt,h1,Option.bind_some,Option.map_some]
 have hs:SeqAt.shaped (.list (PyData.int (n:Nat)::ds))=true:=by
  unfold SeqAt.shaped
  rw [Bool.and_eq_true]
  refine⟨by simp only [PyData.canLay0,PyData.canLayAll0,h2,Bool.and_self],decide_eq_true ?_⟩
  simp only [PyData.depth,PyData.depthAll]
  omega
 unfold nF Bd
 rw [e,Option.bind_some,show AJ (.lst [])=some (.list []) from rfl,Option.bind_some,if_pos ⟨hs,rfl⟩]
 simp [PyData.eqv,PyData.eqvAll]
abbrev mi (A:List (List Rat))(us:List T)(w n:Nat)(x4 x5 x6 x7:Option Sl):aI:=[ah (ao A),ah (aH w),some (.own us),ah (aH n),x4,x5,x6,x7]
section
variable {A:List (List Rat)}{w c:Nat}{f g:Nat->Rat}{p d e:List T}{x5 x7:Option Sl}
theorem Eg (hw:w≤16)(hc:c<w)(hf:∀j<w,Sm (f j))(hg:∀j<w,Sm (g j))(h0:g c≠0)(hb:Sm (f c/g c))(hp:∀j<w,Sm (f c/g c*g j)):
  zc (mi A (p++aw ((List.range w).map g)::(d++aw ((List.range w).map f)::e)) w p.length (ah (aH c)) x5 (ah (.int ((p.length+1+d.length:Nat):Nat))) x7) =
   some (.nx (mi A (p++aw ((List.range w).map g)::(d++aw ((List.range w).map fun j=>f j-f c/g c*g j)::e)) w p.length (ah (aH c)) x5 (ah (.int ((p.length+1+d.length:Nat):Nat))) (ah (bS (f c/g c))))):=by
 generalize hus:p++aw ((List.range w).map g)::(d++aw ((List.range w).map f)::e)=us
 have i1:bQ (.lst us) (.int ((p.length+1+d.length:Nat):Nat))=some (aw ((List.range w).map f)):=mO (by
  rw [<- hus,List.getElem?_append_right (by omega),show p.length+1+d.length-p.length=d.length+1 by omega,List.getElem?_cons_succ,List.getElem?_append_right (Nat.le_refl _),Nat.sub_self]
  rfl)
 have i2:bQ (.lst us) (.int (p.length:Nat))=some (aw ((List.range w).map g)):=mO (by
  rw [<- hus,List.getElem?_append_right (Nat.le_refl _),Nat.sub_self]
  rfl)
 have at1:∀h:Nat->Rat,bQ (aw ((List.range w).map h)) (aH c)=some (bS (h c)):=fun h=>mO (L:=((List.range w).map h).map bS) (by
  rw [List.getElem?_map,List.getElem?_map,List.getElem?_range hc]
  rfl)
 have s7:aU 7 (aq Ge (af (aN bQ (ee 2 (ag 6)) (ag 4)) (af (aN bQ (ee 2 (ag 3)) (ag 4)) aE))) (mi A us w p.length (ah (aH c)) x5 (ah (.int ((p.length+1+d.length:Nat):Nat))) x7)=some (.nx (mi A us w p.length (ah (aH c)) x5 (ah (.int ((p.length+1+d.length:Nat):Nat))) (ah (bS (f c/g c))))):=
  cP (aJ [bS (f c),bS (g c)] (dY (bA (nG rfl rfl i1) rfl (at1 f)) (bA (nG rfl rfl i2) rfl (at1 g))) (IY (hf c hc) (hg c hc) h0)) rfl
 have hi:dq (af (ee 2 (ag 6)) (af (ee 2 (ag 3)) aE)) (mi A us w p.length (ah (aH c)) x5 (ah (.int ((p.length+1+d.length:Nat):Nat))) (ah (bS (f c/g c))))=some ((List.range w).map (fun j=>T.tup [bS (f j),bS (g j)]),mi A us w p.length (ah (aH c)) x5 (ah (.int ((p.length+1+d.length:Nat):Nat))) (ah (bS (f c/g c)))):=by
  unfold dq
  rw [dY (nG rfl rfl i1) (nG rfl rfl i2),Option.bind_some]
  show some (iN (((List.range w).map f).map bS) (((List.range w).map g).map bS),_)=_
  rw [gT,HF,List.map_map]
  rfl
 have hc2:=fR (φ:=fun j:Nat=>bS (f j)) (ψ:=fun j=>bS (g j)) (fe:=aq Ga (af (ag 0) (af (aq zX (af (ag 2) (bg 1))) aE))) (g:=fun j=>bS (f j-f c/g c*g j)) (ρ:=[ah (bS (f c/g c))]) rfl (List.range w) none none [] (fun j hj=>by
  have hj':=List.mem_range.mp hj
  exact aJ [bS (f j),bS (f c/g c*g j)] (dY rfl (aJ [bS (f c/g c),bS (g j)] (dY rfl rfl) (BF hb (hg j hj')))) (IU (hf j hj') (hp j hj'))) (dE (by rw [List.length_range];exact hw))
 have e1:Fs (mi A us w p.length (ah (aH c)) x5 (ah (.int ((p.length+1+d.length:Nat):Nat))) (ah (bS (f c/g c))))=some (aw ((List.range w).map fun j=>f j-f c/g c*g j),mi A us w p.length (ah (aH c)) x5 (ah (.int ((p.length+1+d.length:Nat):Nat))) (ah (bS (f c/g c)))):=by
  refine (bV (no:=2) (cap:=[7]) hi rfl rfl hc2).trans ?_
  rw [List.nil_append]
  unfold aw
  rw [List.map_map]
  rfl
 unfold zc
 rw [aV s7,Eo (us:=us) (k:=p.length+1+d.length) rfl e1 rfl (by rw [<- hus];simp only [List.length_append,List.length_cons];omega)]
 have e9:us.set (p.length+1+d.length) (aw ((List.range w).map fun j=>f j-f c/g c*g j))=p++aw ((List.range w).map g)::(d++aw ((List.range w).map fun j=>f j-f c/g c*g j)::e):=by
  rw [<- hus,List.set_append_right _ _ (by omega),show p.length+1+d.length-p.length=d.length+1 by omega,List.set_cons_succ,List.set_append_right _ _ (Nat.le_refl _),Nat.sub_self]
  rfl
 rw [e9]
 rfl
end
section
variable {A S:List (List Rat)}{w c:Nat}{R:List Dt.Row}{ps:List Nat}
theorem zj (h:Rk w A c R ps S)(hA:∀r∈A,Gv JD JN r)(h4:R.length≤4)(hw:w≤16)(hc:c<w){s:List Rat}(hs:s∈A)(hn:Dt.left R ps (xr s) c≠0)(p:List T)(x5:Option Sl):∀(U:List (List Rat)) (d:List T) (x6 x7:Option Sl),(∀r∈U,r∈A)->∃y6 y7,
  cF (ai 6) zc (TM.upTo ((p.length+1+d.length:Nat):Nat) U.length) (mi A (p++aw (cr w R ps s)::(d++U.map fun r=>aw (cr w R ps r))) w p.length (ah (aH c)) x5 x6 x7) =
   some (.nx (mi A (p++aw (cr w R ps s)::(d++U.map fun r=>aw (cr w (xr s::R) (c::ps) r))) w p.length (ah (aH c)) x5 y6 y7))
 |[],d,x6,x7,_=>⟨x6,x7,by simp [TM.upTo,cF]⟩
 |r::U,d,x6,x7,hU=>by
  have hr:=hU r List.mem_cons_self
  have gr:=(hA r hr).gn
  have gs:=(hA s hs).gn
  have h0:cq R ps s c≠0:=fun z=>hn ((rH gs h.dt c).mp z)
  obtain⟨b1,b2⟩:=Iy h hA h4 hr hs hn
  have t:=Eg (A:=A) (p:=p) (d:=d) (e:=U.map fun r=>aw (cr w R ps r)) (x5:=x5) (x7:=x7) hw hc (fun j _=>EM h hA h4 hr j) (fun j _=>EM h hA h4 hs j) h0 b1 (fun j _=>b2 j)
  have e1:((List.range w).map fun j=>cq R ps r j-cq R ps r c/cq R ps s c*cq R ps s j)=cr w (xr s::R) (c::ps) r:=by
   unfold cr
   exact List.map_congr_left fun j _=>C4 gr gs h.dt hn j
  rw [e1] at t
  obtain⟨y6,y7,ih⟩:=zj h hA h4 hw hc hs hn p x5 U (d++[aw (cr w (xr s::R) (c::ps) r)]) (ah (.int ((p.length+1+d.length:Nat):Nat))) (ah (bS (cq R ps r c/cq R ps s c))) fun z hz=>hU z (List.mem_cons_of_mem _ hz)
  refine⟨y6,y7,?_⟩
  rw [List.length_cons,TM.upTo,List.map_cons,List.map_cons,bN (τ1:=mi A (p++aw (cr w R ps s)::(d++aw (cr w R ps r)::U.map fun r=>aw (cr w R ps r))) w p.length (ah (aH c)) x5 (ah (.int ((p.length+1+d.length:Nat):Nat))) x7) rfl t]
  have e2:((p.length+1+d.length:Nat):Int)+1=((p.length+1+(d++[aw (cr w (xr s::R) (c::ps) r)]).length:Nat):Int):=by rw [List.length_append];simp only [List.length_cons,List.length_nil];omega
  rw [e2]
  rw [List.append_assoc,List.append_assoc] at ih
  exact ih
theorem vA {L:List (List Rat)}{c:Nat}:∀{k n:Nat},sel L c n k=[]->∀i,n≤i->i<n+k->(L.getD i []).getD c 0=0
 |0,n,_,i,h1,h2=>by omega
 |k+1,n,h,i,h1,h2=>by
  rw [sel] at h
  split at h
  ·cases h
  ·next hz =>
   by_cases e:i=n
   ·rw [e];exact Decidable.not_not.mp hz
   ·exact vA h i (by omega) (by omega)
theorem vB {L:List (List Rat)}{c i:Nat}{ys:List Nat}:∀{k n:Nat},sel L c n k=i::ys->n≤i/\i<n+k/\(L.getD i []).getD c 0≠0
 |0,n,h=>by cases h
 |k+1,n,h=>by
  rw [sel] at h
  split at h
  ·next hz =>
   injection h with h1 h2
   rw [<- h1]
   exact⟨Nat.le_refl _,by omega,hz⟩
  ·obtain⟨a,b,c'⟩:=vB h
   exact⟨by omega,by omega,c'⟩
theorem EN {R:List Dt.Row}{ps:List Nat}{r:List Rat}{j:Nat}(hj:j<w):(cr w R ps r).getD j 0=cq R ps r j:=by
 unfold cr
 rw [List.getD_eq_getElem?_getD,List.getElem?_map,List.getElem?_range hj]
 rfl
theorem Hn (h:Rk w A c R ps S)(hA:∀r∈A,Gv JD JN r)(hl:A.length≤16)(h4:R.length≤4)(hw:w≤16)(hc:c<w){P:List (List Rat)}(hP:P.length=R.length)(hPw:∀r∈P,r.length=w)(x5 x6 x7:Option Sl):
  ∃R' ps' S' P' y5 y6 y7,Rk w A (c+1) R' ps' S'/\P'.length=R'.length/\(∀r∈P',r.length=w)/\tJ (mi A ((P++S.map (cr w R ps)).map aw) w R.length (ah (aH c)) x5 x6 x7)=some (.nx (mi A ((P'++S'.map (cr w R' ps')).map aw) w R'.length (ah (aH c)) y5 y6 y7)):=by
 have hlen:=h.len
 have hL:∀r∈P++S.map (cr w R ps),c<r.length:=fun r hr=>by
  rcases List.mem_append.mp hr with z | z
  ·rw [hPw r z];exact hc
  ·obtain⟨s,_,rfl⟩:=List.mem_map.mp z
   rw [AX];exact hc
 have hLl:(P++S.map (cr w R ps)).length=A.length:=by rw [List.length_append,List.length_map];omega
 have e1:=Ee (L:=P++S.map (cr w R ps)) (c:=c) (n:=R.length) hL (by omega) (by omega) (τ:=mi A ((P++S.map (cr w R ps)).map aw) w R.length (ah (aH c)) x5 x6 x7) rfl rfl rfl
 have at2:∀k,k<S.length->(P++S.map (cr w R ps)).getD (R.length+k) []=cr w R ps (S.getD k []):=fun k hk=>by
  rw [List.getD_eq_getElem?_getD,List.getElem?_append_right (by omega),show R.length+k-P.length=k by omega,List.getElem?_map,List.getElem?_eq_getElem hk,List.getD_eq_getElem?_getD,List.getElem?_eq_getElem hk]
  rfl
 unfold tJ
 rw [aV e1]
 cases hs:sel (P++S.map (cr w R ps)) c R.length ((P++S.map (cr w R ps)).length-R.length) with
 |nil =>
  refine⟨R,ps,S,P,_,x6,x7,h.none fun s hs'=>?_,hP,hPw,(oh (τ':=mi A ((P++S.map (cr w R ps)).map aw) w R.length (ah (aH c)) (ah (.lst [])) x6 x7) rfl).trans rfl⟩
  obtain⟨k,hk,rfl⟩:=List.getElem_of_mem hs'
  have:=vA hs (R.length+k) (by omega) (by omega)
  rw [at2 k hk,EN hc,List.getD_eq_getElem?_getD,List.getElem?_eq_getElem hk,Option.getD_some] at this
  exact (rH (hA _ (h.sA _ hs')).gn h.dt c).mp this
 |cons i ys =>
  obtain⟨a1,a2,a3⟩:=vB hs
  obtain⟨k,rfl⟩:∃k,i=R.length+k:=⟨i-R.length,by omega⟩
  have hk:k<S.length:=by omega
  have eS:S=S.take k++S[k]::S.drop (k+1):=by rw [<- List.drop_eq_getElem_cons hk,List.take_append_drop]
  have hsA:S[k]∈A:=h.sA _ (List.getElem_mem hk)
  rw [at2 k hk,EN hc,List.getD_eq_getElem?_getD,List.getElem?_eq_getElem hk,Option.getD_some] at a3
  have hn:Dt.left R ps (xr S[k]) c≠0:=fun z=>a3 ((rH (hA _ hsA).gn h.dt c).mpr z)
  have h':=h
  rw [eS] at h'
  have hR:=h'.some hc hn
  have tl:(S.take k).length=k:=by rw [List.length_take];omega
  have f1:(P++S.map (cr w R ps)).map aw=P.map aw++((S.take k).map (fun r=>aw (cr w R ps r))++aw (cr w R ps S[k])::(S.drop (k+1)).map fun r=>aw (cr w R ps r)):=by
   conv=>lhs;rw [eS]
   rw [List.map_append,List.map_map,List.map_append,List.map_cons]
   rfl
  have hpl:(P.map aw).length=R.length:=by rw [List.length_map,hP]
  have t1:fG (aN nF (ag 5) (kr aE)) (mi A ((P++S.map (cr w R ps)).map aw) w R.length (ah (aH c)) (some (.own (((R.length+k)::ys).map fun (i:Nat)=>aH i))) x6 x7)=some (true,mi A ((P++S.map (cr w R ps)).map aw) w R.length (ah (aH c)) (ah (.lst (((R.length+k)::ys).map fun (i:Nat)=>aH i))) x6 x7):=by
   unfold fG
   rw [show aN nF (ag 5) (kr aE) (mi A ((P++S.map (cr w R ps)).map aw) w R.length (ah (aH c)) (some (.own (((R.length+k)::ys).map fun (i:Nat)=>aH i))) x6 x7)=(nF (.lst (((R.length+k)::ys).map fun (i:Nat)=>aH i)) (.lst [])).bind (fun t=>some (t,mi A ((P++S.map (cr w R ps)).map aw) w R.length (ah (aH c)) (ah (.lst (((R.length+k)::ys).map fun (i:Nat)=>aH i))) x6 x7)) from rfl,ne_nil]
   rfl
  have t2:yZ (mi A ((P++S.map (cr w R ps)).map aw) w R.length (ah (aH c)) (ah (.lst (((R.length+k)::ys).map fun (i:Nat)=>aH i))) x6 x7)=some (.nx (mi A (P.map aw++aw (cr w R ps S[k])::((S.take k).map (fun r=>aw (cr w R ps r))++(S.drop (k+1)).map fun r=>aw (cr w R ps r))) w R.length (ah (aH c)) (ah (.lst (((R.length+k)::ys).map fun (i:Nat)=>aH i))) x6 x7)):=
   Ju (p:=P.map aw) (q:=(S.take k).map fun r=>aw (cr w R ps r)) (r:=(S.drop (k+1)).map fun r=>aw (cr w R ps r)) (x:=aw (cr w R ps S[k])) (ys:=ys.map fun (i:Nat)=>aH i) (by rw [f1];rfl) (by rw [hpl];rfl) (by rw [hpl,List.length_map,tl];rfl) (by rw [hpl,List.length_map,List.length_map,tl,List.length_drop];omega)
  have hU:∀r∈S.take k++S.drop (k+1),r∈A:=hR.sA
  obtain⟨y6,y7,t3⟩:=zj h hA h4 hw hc hsA hn (P.map aw) (ah (.lst (((R.length+k)::ys).map fun (i:Nat)=>aH i))) (S.take k++S.drop (k+1)) [] x6 x7 hU
  rw [hpl,List.length_nil,Nat.add_zero,List.nil_append,List.nil_append,List.map_append] at t3
  refine⟨_,_,_,P++[cr w R ps S[k]],ah (.lst (((R.length+k)::ys).map fun (i:Nat)=>aH i)),y6,y7,hR,by rw [List.length_append,List.length_cons,hP];rfl,fun r hr=>?_,?_⟩
  ·rcases List.mem_append.mp hr with z | z
   ·exact hPw r z
   ·rw [List.mem_singleton.mp z,AX]
  ·have l2:(P.map aw++aw (cr w R ps S[k])::((S.take k).map (fun r=>aw (cr w R ps r))++(S.drop (k+1)).map fun r=>aw (cr w R ps r))).length=A.length:=by
    rw [List.length_append,List.length_cons,List.length_append,List.length_map,List.length_map,List.length_map,tl,List.length_drop]
    omega
   have l3:(S.take k++S.drop (k+1)).length=A.length-(R.length+1):=by
    rw [List.length_append,tl,List.length_drop]
    omega
   rw [l3] at t3
   have r1:aN ck (ag 3) (aZ 1) (mi A (P.map aw++aw (cr w R ps S[k])::((S.take k).map (fun r=>aw (cr w R ps r))++(S.drop (k+1)).map fun r=>aw (cr w R ps r))) w R.length (ah (aH c)) (ah (.lst (((R.length+k)::ys).map fun (i:Nat)=>aH i))) x6 x7)=some (.int ((R.length+1:Nat):Nat),mi A (P.map aw++aw (cr w R ps S[k])::((S.take k).map (fun r=>aw (cr w R ps r))++(S.drop (k+1)).map fun r=>aw (cr w R ps r))) w R.length (ah (aH c)) (ah (.lst (((R.length+k)::ys).map fun (i:Nat)=>aH i))) x6 x7):=bA rfl rfl rf
   have r2:=B7 r1 (Jz (i:=2) (us:=P.map aw++aw (cr w R ps S[k])::((S.take k).map (fun r=>aw (cr w R ps r))++(S.drop (k+1)).map fun r=>aw (cr w R ps r))) rfl) (by omega) (by rw [l2];omega)
   rw [l2] at r2
   refine (Jt t1).trans ?_
   unfold Ft
   rw [aV t2,aV (h9 r2 t3)]
   refine (cP (t:=.int ((R.length+1:Nat):Nat)) (bA rfl rfl rf) rfl).trans ?_
   have f2:((P++[cr w R ps S[k]])++(S.take k++S.drop (k+1)).map (cr w (xr S[k]::R) (c::ps))).map aw=P.map aw++aw (cr w R ps S[k])::(S.take k++S.drop (k+1)).map fun r=>aw (cr w (xr S[k]::R) (c::ps) r):=by
    rw [List.map_append,List.map_append,List.map_map,List.append_assoc]
    rfl
   rw [f2]
   rfl
theorem zi (hA:∀r∈A,Gv JD JN r)(hl:A.length≤16)(h4:A.length≤4\/w≤4)(hw:w≤16):∀(k c:Nat) {R:List Dt.Row} {ps:List Nat} {S P:List (List Rat)} (x4 x5 x6 x7:Option Sl),c+k=w->Rk w A c R ps S->P.length=R.length->(∀r∈P,r.length=w) ->
  ∃us y4 y5 y6 y7,cF (ai 4) tJ (TM.upTo (c:Nat) k) (mi A ((P++S.map (cr w R ps)).map aw) w R.length x4 x5 x6 x7)=some (.nx (mi A us w (Dt.rank w ((A.map gq).map Dt.rw)) y4 y5 y6 y7))
 |0,c,R,ps,S,P,x4,x5,x6,x7,hk,h,hP,hPw=>by
  obtain rfl:c=w:=by omega
  refine⟨(P++S.map (cr c R ps)).map aw,x4,x5,x6,x7,?_⟩
  rw [<- h.fin]
  simp [TM.upTo,cF]
 |k+1,c,R,ps,S,P,x4,x5,x6,x7,hk,h,hP,hPw=>by
  have r4:R.length≤4:=by
   have:=h.len
   have:=h.rc
   omega
  obtain⟨R',ps',S',P',y5,y6,y7,h',hP',hPw',t⟩:=Hn h hA hl r4 hw (by omega) hP hPw x5 x6 x7
  obtain⟨us,z4,z5,z6,z7,ih⟩:=zi hA hl h4 hw k (c+1) (ah (aH c)) y5 y6 y7 (by omega) h' hP' hPw'
  refine⟨us,z4,z5,z6,z7,?_⟩
  rw [TM.upTo,bN (τ1:=mi A ((P++S.map (cr w R ps)).map aw) w R.length (ah (aH c)) x5 x6 x7) rfl t]
  exact ih
theorem EY {m:Nat}(h:Ts m w JD JN A)(hm:m≤8)(hw:w≤8)(h4:m≤4\/w≤4):Gg [ao A,aH w]=some (.int (Dt.rank w ((A.map gq).map Dt.rw):Nat)):=by
 have hA:∀r∈A,Gv JD JN r:=fun r hr=>h.gv hm hw hr
 have hl:=h.len
 have c1:=dH (φ:=aw) (fe:=eX (aq dList (bg 0))) (g:=fun r=>O.val (aw r)) (ρ:=[]) rfl A none [] (fun r _=>rfl) (by rw [List.length_nil,Nat.zero_add];exact bZ (by omega))
 have c2:=fF (no:=1) (cap:=[]) (fi:=bh (ag 0)) (fg:=ai 0) (ft:=az) (τ:=[ah (ao A),ah (aH w),none,none,none,none,none,none]) (h1:=rfl) rfl rfl c1
 have hcr:A.map (cr w [] [])=A:=by
  have:A.map (cr w [] [])=A.map id:=List.map_congr_left fun r hr=>FN (hA r hr).gn (h.wd r hr)
  rw [this,List.map_id]
 have e1:uz 2 (cJ 1 [] (bh (ag 0)) (ai 0) az (eX (aq dList (bg 0)))) [ah (ao A),ah (aH w),none,none,none,none,none,none]=some (.nx [ah (ao A),ah (aH w),some (.own (A.map aw)),none,none,none,none,none]):=by
  unfold uz
  rw [c2,Option.bind_some]
  dsimp only
  rw [List.nil_append,ud (g:=aw) fun _=>rfl]
  rfl
 have e2:aU 3 (aZ 0) [ah (ao A),ah (aH w),some (.own (A.map aw)),none,none,none,none,none]=some (.nx (mi A (A.map aw) w 0 none none none none)):=rfl
 obtain⟨us,z4,z5,z6,z7,lp⟩:=zi hA (by omega) (by omega) (by omega) w 0 none none none none (by omega) (Rk.start w A) (P:=[]) rfl (fun _ h=>by cases h)
 rw [List.nil_append,hcr] at lp
 refine cS rfl ?_
 show gY Ge zX Ga [ah (ao A),ah (aH w),none,none,none,none,none,none]=_
 rw [CZ,aV e1,aV e2,aV (h9 (oM (n:=(w:Nat)) rfl (by omega) (by omega)) (by rw [Int.toNat_natCast];exact lp))]
 exact dU rfl
end
theorem Lm {C:Addr}{d:List T->Option vO}{g:FA}{τ τ':aI}{ts:List T}{r:vO}(h1:g τ=some (ts,τ'))(h2:d ts=some r):uw C d g τ=some (.obj C r.1 r.2,τ'):=by
 unfold uw
 rw [h1,Option.bind_some]
 dsimp only
 rw [h2]
 rfl
theorem oZ {i no:Nat}{cap:List Nat}{fi:FA}{fg:FG}{ft:FT}{fe:FE}{τ τ1:aI}{ts us:List T}(h1:fi τ=some (ts,τ1))(h2:frzAll cap τ1=τ1)(h3:cw (cR no cap τ1)=true)(h4:eP fg ft fe ts (cR no cap τ1) []=some us):eV i no cap fi fg ft fe τ=some (.nx (τ1.set i (some (.own us)))):=by
 unfold eV
 rw [h1,Option.bind_some]
 dsimp only
 rw [h2,if_pos h3,h4]
 rfl
abbrev FZ:List T->Option T:=cI 9 1 (gm ER)
abbrev F9:List T->Option T:=cI 8 1 (hG ER)
def wX:FS:=aR (eV 6 2 [] (dq (af (ag 6) (bg 7))) (bF (av (ai 0) (av (ai 1) bq))) az (aN ck (ag 0) (ag 1))) (aU 7 (aq ER (af (ag 1) (af (ag 7) (bg 5)))))
def wY:FS:=aR (aU 5 (aN ck (ag 5) (ag 6))) (aU 6 (aq ER (af (ag 6) (af (ag 1) (af (aq bM (bg 1)) aE)))))
abbrev Fi (A B C D:List (List Rat))(i:Nat)(X P:List (List Rat))(x8:Option Sl):aI:=[ah (cD A B C D),ah (ao A),ah (ao B),ah (ao C),ah (ao D),ah (aH i),some (.own (X.map aw)),ah (ao P),x8]
abbrev CJ (A B C D:List (List Rat))(z:Sl)(P:List (List Rat))(x7:Option Sl):aI:=[ah (cD A B C D),ah (ao A),ah (ao B),ah (ao C),ah (ao D),some z,ah (ao P),x7]
section
variable {m i o:Nat}{A B C D:List (List Rat)}
theorem DF (h:gU m i o A B C D)(hm:m≤4)(hi:1≤i/\i≤2){k:Nat}(hk:k<4)(x8:Option Sl):
  wX (Fi A B C D i (jy A B m i k) (pB A B i k) x8)=some (.nx (Fi A B C D i (jy A B m i (k+1)) (pB A B i (k+1)) x8)):=by
 have p:=yV h hm k
 have r:=tH h hm (k:=k) (by omega)
 have hki:k*i≤3*2:=Nat.mul_le_mul (by omega) hi.2
 have tA:Tv (DD 1) 249480 A:=h.a.ts.tv (by omega) (by omega) (dX 1) (by decide +kernel) (by decide +kernel)
 have tP:Tv (DD (k+1)) (NB k) (pB A B i k):=p.tv (by omega) (by omega) (dX _) (vd k hk).1 (vd k hk).2
 have k3:=EW tA tP p.wd (by omega) (E5 k hk)
 have hc:=fR (φ:=fun p:List Rat×List Rat=>aw p.1) (ψ:=fun p=>aw p.2) (fe:=aN ck (ag 0) (ag 1)) (g:=fun p=>aw (p.1++p.2)) (ρ:=[]) rfl (List.zip (jy A B m i k) (pB A B i k)) none none [] (fun q hq=>bA rfl rfl (ye (by rw [r.wd _ (dR hq).1,p.wd _ (dR hq).2];omega))) (iK (by rw [List.length_zip,r.len];omega))
 have hz:dq (af (ag 6) (bg 7)) (Fi A B C D i (jy A B m i k) (pB A B i k) x8)=some ((List.zip (jy A B m i k) (pB A B i k)).map fun p=>T.tup [aw p.1,aw p.2],[ah (cD A B C D),ah (ao A),ah (ao B),ah (ao C),ah (ao D),ah (aH i),ah (ao (jy A B m i k)),ah (ao (pB A B i k)),x8]):=by
  rw [<- gT]
  rfl
 have e1:=oZ (i:=6) (no:=2) (cap:=[]) (fg:=bF (av (ai 0) (av (ai 1) bq))) (ft:=az) hz rfl rfl hc
 have f:(mW (jy A B m i k) (pB A B i k)).map aw=[]++(List.zip (jy A B m i k) (pB A B i k)).map fun p=>aw (p.1++p.2):=by
  unfold mW
  rw [List.map_map]
  rfl
 rw [<- f] at e1
 unfold wX
 rw [aV e1]
 exact cP (aJ [ao A,ao (pB A B i k),aH i] (m6 rfl rfl rfl) k3) rfl
theorem yL (h:gU m i o A B C D)(hm:m≤4)(hi:1≤i/\i≤2):∀(n k:Nat) (x8:Option Sl),k+n≤4->∀ts:List T,ts.length=n ->
  ∃y8,cF (ai 8) wX ts (Fi A B C D i (jy A B m i k) (pB A B i k) x8)=some (.nx (Fi A B C D i (jy A B m i (k+n)) (pB A B i (k+n)) y8))
 |0,k,x8,_,[],_=>⟨x8,rfl⟩
 |n+1,k,x8,hk,t::ts,hl=>by
  have ht:=DF h hm hi (k:=k) (by omega) (ah t)
  obtain⟨y8,hy⟩:=yL h hm hi n (k+1) (ah t) (by omega) ts (by simpa using hl)
  refine⟨y8,?_⟩
  rw [bN (τ1:=Fi A B C D i (jy A B m i k) (pB A B i k) (ah t)) rfl ht,hy,show k+1+n=k+(n+1) by omega]
theorem IM (h:gU m i o A B C D)(hm:m≤4)(hi:1≤i/\i≤2)(ho:1≤o/\o≤2):FZ [cD A B C D]=some (ao (jy A B m i m)):=by
 obtain⟨y8,hl⟩:=yL h hm hi m 0 none (by omega) ((List.range m).map fun j:Nat=>T.int j) (by rw [List.length_map,List.length_range])
 rw [Nat.zero_add] at hl
 have lA:=len_tab A
 rw [h.a.len] at lA
 have lR:=sP (D.getD 0 [])
 rw [h.sy.row0 (by omega)] at lR
 have a1:iJ (ag 0) (uF (av (ai 1) (av (ai 2) (av (ai 3) (av (ai 4) bq))))) [ah (cD A B C D),none,none,none,none,none,none,none,none]=some (.nx [ah (cD A B C D),ah (ao A),ah (ao B),ah (ao C),ah (ao D),none,none,none,none]):=rfl
 have a2:aU 5 (aq bM (af (aN bQ (ag 4) (aZ 0)) aE)) [ah (cD A B C D),ah (ao A),ah (ao B),ah (ao C),ah (ao D),none,none,none,none]=some (.nx [ah (cD A B C D),ah (ao A),ah (ao B),ah (ao C),ah (ao D),ah (aH i),none,none,none]):=
  cP (aJ [aw (D.getD 0 [])] (dF (bA (g:=bQ) rfl rfl (wU (i:=0) (by rw [h.d.len];omega)))) lR) rfl
 have hc:=cu (φ:=aw) (fe:=kr aE) (g:=fun _=>T.lst []) (ρ:=[]) rfl A none [] (fun r _=>rfl) (dE (by rw [h.a.len];omega))
 have a3:eV 6 1 [] (bh (ag 1)) (ai 0) az (kr aE) [ah (cD A B C D),ah (ao A),ah (ao B),ah (ao C),ah (ao D),ah (aH i),none,none,none]=some (.nx [ah (cD A B C D),ah (ao A),ah (ao B),ah (ao C),ah (ao D),ah (aH i),some (.own ((jy A B m i 0).map aw)),none,none]):=by
  refine (oZ (i:=6) (no:=1) (cap:=[]) (fi:=bh (ag 1)) (fg:=ai 0) (ft:=az) (h1:=rfl) rfl rfl hc).trans ?_
  rw [List.nil_append,List.map_const',h.a.len,show (jy A B m i 0).map aw=List.replicate m (T.lst []) from by
   show (qS m 0).map aw=_
   unfold qS
   rw [List.map_replicate]
   rfl]
  rfl
 have a4:aU 7 (ag 2) [ah (cD A B C D),ah (ao A),ah (ao B),ah (ao C),ah (ao D),ah (aH i),some (.own ((jy A B m i 0).map aw)),none,none]=some (.nx (Fi A B C D i (jy A B m i 0) (pB A B i 0) none)):=rfl
 have hr:=fP (f:=aq bM (bg 1)) (τ:=Fi A B C D i (jy A B m i 0) (pB A B i 0) none) (n:=m) (aJ _ (dF rfl) lA) (by omega)
 refine cS rfl ?_
 show gm ER [ah (cD A B C D),none,none,none,none,none,none,none,none]=_
 unfold gm
 rw [aV a1,aV a2,aV a3,aV a4]
 refine (aV (h9 hr hl)).trans ?_
 rfl
theorem CU {X Y:List (List Rat)}(h:X.length+Y.length≤100):ck (ao X) (ao Y)=some (ao (X++Y)):=by
 unfold ao
 rw [og (by rw [List.length_map,List.length_map];exact bZ (by omega)),List.map_append]
theorem DG (h:gU m i o A B C D)(hm:m≤4)(ho:o≤2){k:Nat}(hk:k<4){z:Sl}(hz:z=.own ((jW A C m k).map aw)\/z=.sh (ao (jW A C m k)))(x7:Option Sl):
  wY (CJ A B C D z (pC A C m k) x7)=some (.nx (CJ A B C D (.sh (ao (jW A C m (k+1)))) (pC A C m (k+1)) x7)):=by
 have p:=yW h hm k
 have r:=uc h hm (k:=k) (by omega)
 have hko:k*o≤3*2:=Nat.mul_le_mul (by omega) ho
 have tA:Tv (DD 1) 249480 A:=h.a.ts.tv (by omega) (by omega) (dX 1) (by decide +kernel) (by decide +kernel)
 have tP:Tv (DD (k+1)) (NB k) (pC A C m k):=p.tv (by omega) (by omega) (dX _) (vd k hk).1 (vd k hk).2
 have k3:=EW tP tA h.a.ts.wd (by omega) (E9 k hk)
 have lA:=len_tab A
 rw [h.a.len] at lA
 have ad:=CU (X:=jW A C m k) (Y:=pC A C m k) (by rw [r.len,p.len];omega)
 have e1:aU 5 (aN ck (ag 5) (ag 6)) (CJ A B C D z (pC A C m k) x7)=some (.nx (CJ A B C D (.sh (ao (jW A C m (k+1)))) (pC A C m k) x7)):=by
  rcases hz with rfl | rfl
  ·show (((ck (ao (jW A C m k)) (ao (pC A C m k))).bind fun t=>some (t,CJ A B C D (.sh (ao (jW A C m k))) (pC A C m k) x7)).bind _)=_
   rw [ad]
   rfl
  ·exact cP (bA rfl rfl ad) rfl
 unfold wY
 rw [aV e1]
 exact cP (aJ [ao (pC A C m k),ao A,aH m] (m6 rfl rfl (aJ [ao A] (dF rfl) lA)) k3) rfl
theorem yM (h:gU m i o A B C D)(hm:m≤4)(ho:o≤2):∀(n k:Nat) (z:Sl) (x7:Option Sl),(z=.own ((jW A C m k).map aw)\/z=.sh (ao (jW A C m k)))->k+n≤4->∀ts:List T,ts.length=n ->
  ∃z' y7,(z'=.own ((jW A C m (k+n)).map aw)\/z'=.sh (ao (jW A C m (k+n))))/\cF (ai 7) wY ts (CJ A B C D z (pC A C m k) x7)=some (.nx (CJ A B C D z' (pC A C m (k+n)) y7))
 |0,k,z,x7,hz,_,[],_=>⟨z,x7,hz,rfl⟩
 |n+1,k,z,x7,hz,hk,t::ts,hl=>by
  have ht:=DG (B:=B) (D:=D) h hm ho (k:=k) (by omega) hz (ah t)
  obtain⟨z',y7,hz',hy⟩:=yM h hm ho n (k+1) _ (ah t) (.inr rfl) (by omega) ts (by simpa using hl)
  refine⟨z',y7,by rw [show k+(n+1)=k+1+n by omega];exact hz',?_⟩
  rw [bN (τ1:=CJ A B C D z (pC A C m k) (ah t)) rfl ht,hy,show k+1+n=k+(n+1) by omega]
theorem IP (h:gU m i o A B C D)(hm:m≤4)(ho:1≤o/\o≤2):F9 [cD A B C D]=some (ao (jW A C m m)):=by
 obtain⟨z,y7,hz,hl⟩:=yM h hm ho.2 m 0 (.own []) none (.inl rfl) (by omega) ((List.range m).map fun j:Nat=>T.int j) (by rw [List.length_map,List.length_range])
 rw [Nat.zero_add] at hl hz
 have lA:=len_tab A
 rw [h.a.len] at lA
 have a1:iJ (ag 0) (uF (av (ai 1) (av (ai 2) (av (ai 3) (av (ai 4) bq))))) [ah (cD A B C D),none,none,none,none,none,none,none]=some (.nx [ah (cD A B C D),ah (ao A),ah (ao B),ah (ao C),ah (ao D),none,none,none]):=rfl
 have a2:=lG 5 [ah (cD A B C D),ah (ao A),ah (ao B),ah (ao C),ah (ao D),none,none,none]
 have a3:aU 6 (ag 3) [ah (cD A B C D),ah (ao A),ah (ao B),ah (ao C),ah (ao D),some (.own []),none,none]=some (.nx (CJ A B C D (.own []) (pC A C m 0) none)):=rfl
 have hr:=fP (f:=aq bM (bg 1)) (τ:=CJ A B C D (.own []) (pC A C m 0) none) (n:=m) (aJ _ (dF rfl) lA) (by omega)
 refine cS rfl ?_
 show hG ER [ah (cD A B C D),none,none,none,none,none,none,none]=_
 unfold hG
 rw [aV a1,aV a2]
 refine (aV a3).trans ?_
 refine (aV (h9 hr hl)).trans ?_
 rcases hz with rfl | rfl
 ·rfl
 ·rfl
end
abbrev CH:List T->Option T:=cI 5 3 (gZ Dc De)
abbrev FU:List T->Option T:=cI 2 2 gj
abbrev Gf:List T->Option T:=cI 1 1 (kg Dc IB)
abbrev HP:List T->Option T:=cI 1 1 (kU De IB)
theorem kA {α:Type}{φ:α->T}(h:∀x,gG (φ x)=true):∀l:List α,ff (l.map φ)=true
 |[]=>by simp [ff]
 |x::l=>by rw [List.map_cons,ff,h x,kA h l];rfl
theorem DP (q:Rat):gG (bS q)=true:=by simp [bS,gG,ff]
theorem DQ (r:List Rat):gG (qe r)=true:=by unfold qe;rw [gG];exact kA DP r
theorem DO (A:List (List Rat)):gG (mH A)=true:=by unfold mH;rw [gG];exact kA DQ A
theorem DR (A B C D:List (List Rat)):ff [cO A B C D]=true:=by
 unfold cO
 simp only [ff,gG,DO,Bool.and_self]
theorem Hx {m w:Nat}{X:List (List Rat)}(hl:X.length≤100)(hw:∀r∈X,r.length≤100):tabS (ao X)=true:=by
 unfold ao tabS
 rw [Bool.and_eq_true]
 refine⟨List.all_eq_true.mpr fun t ht=>?_,decide_eq_true (by rw [List.length_map];exact hl)⟩
 obtain⟨r,hr,rfl⟩:=List.mem_map.mp ht
 unfold aw kC
 rw [Bool.and_eq_true]
 refine⟨List.all_eq_true.mpr fun t ht=>?_,decide_eq_true (by rw [List.length_map];exact hw r hr)⟩
 obtain⟨q,_,rfl⟩:=List.mem_map.mp ht
 rfl
theorem yQ {f:FE}{τ τ':aI}(h:f τ=some (.bl true,τ')):dQ (eG f) τ=some (false,τ'):=by
 unfold dQ eG
 rw [h]
 rfl
theorem EZ {A B C D X:List (List Rat)}{f:Addr}{d:List T->Option T}(hf:lb f [(337,Dc),(351,De)]=some d)(hd:d [cO A B C D]=some (ao X))(hl:X.length≤100)(hw:∀r∈X,r.length≤100):CH [.ptr f,cO A B C D,ao X]=some (.bl true):=by
 have c1:(ux (dQ (eG (aq bu (af (ag 3) (af (fC (.ty "list")) aE))))) (fG (aN nF (ag 3) (ag 2)))) [ah (.ptr f),ah (cO A B C D),ah (ao X),ah (ao X),none]=some (false,[ah (.ptr f),ah (cO A B C D),ah (ao X),ah (ao X),none]):=by
  refine BN (τ':=[ah (.ptr f),ah (cO A B C D),ah (ao X),ah (ao X),none]) (yQ (aJ [ao X,.ty "list"] (dY rfl rfl) rfl)) ?_
  unfold fG
  rw [bA (g:=nF) (fa:=ag 3) (fb:=ag 2) (a:=ao X) (b:=ao X) rfl rfl (cmp_self (neg:=true) (zq X) (by decide))]
  rfl
 have u1:nZ 0 [(337,Dc),(351,De)] (bg 1) [ah (.ptr f),ah (cO A B C D),ah (ao X),none,none]=some (ao X,[ah (.ptr f),ah (cO A B C D),ah (ao X),none,none]):=by
  unfold nZ
  show ((lb f [(337,Dc),(351,De)]).bind _)=_
  rw [hf]
  show aq d (bg 1) [ah (.ptr f),ah (cO A B C D),ah (ao X),none,none]=_
  exact aJ [cO A B C D] (dF rfl) hd
 refine cS rfl ?_
 show gZ Dc De [ah (.ptr f),ah (cO A B C D),ah (ao X),none,none]=_
 unfold gZ nC
 show ((lb f [(337,Dc),(351,De)]).bind _)=_
 rw [hf,Option.bind_some]
 show ((bg 1 [ah (.ptr f),ah (cO A B C D),ah (ao X),none,none]).bind _)=_
 rw [show bg 1 [ah (.ptr f),ah (cO A B C D),ah (ao X),none,none]=some ([cO A B C D],[ah (.ptr f),ah (cO A B C D),ah (ao X),none,none]) from rfl,Option.bind_some]
 dsimp only
 rw [if_pos ⟨DR A B C D,rfl,rfl⟩,hd,Option.bind_some,if_pos (Hx (m:=0) (w:=0) hl hw)]
 refine Eq.trans (congrArg (fun z=>Option.bind z _) c1) ?_
 rw [Option.bind_some]
 dsimp only
 rw [if_neg (by decide)]
 exact dU (bA (g:=lP) u1 rfl (cmp_self (neg:=false) (zq X) (by decide)))
theorem EU (n:Nat):FU [aH n,aH n]=some (.bl true):=by
 refine cS rfl ?_
 show gj [ah (aH n),ah (aH n)]=_
 unfold gj
 have b1:n9 zQ (aq bu (af (ag 0) (af (fC (.ty "bool")) aE))) [ah (aH n),ah (aH n)]=some (.bl true,[ah (aH n),ah (aH n)]):=Kh (a:=.bl false) (aJ [aH n,.ty "bool"] (dY rfl rfl) rfl) rfl
 have b0:aq bu (af (ag 0) (af (fC (.ty "int")) aE)) [ah (aH n),ah (aH n)]=some (.bl true,[ah (aH n),ah (aH n)]):=aJ [aH n,.ty "int"] (dY rfl rfl) rfl
 refine dU (τ':=[ah (aH n),ah (aH n)]) ((iP b0).trans ((iP b1).trans ?_))
 refine bA (g:=lP) rfl rfl ((wk n n).trans ?_)
 rw [decide_eq_true rfl]
theorem A3 {d:List T->Option T}{t:T}{m w:Nat}{X:List (List Rat)}(h:Ts m w JD JN X)(hm:m≤8)(hw:w≤8)(h0:m=0->w=0)(hd:d [t]=some (ao X)):bE (aq bM (af (aq IB (af (aq d (bg 0)) aE)) aE)) [ah t]=some (.rt (.int (Dt.rank w ((X.map gq).map Dt.rw):Nat))):=by
 obtain⟨ns,e1,e2⟩:=IK h hm hw
 have e3:qf X=w:=by
  cases X with
  |nil=>exact (h0 h.len.symm).symm
  |cons r X=>exact h.wd r List.mem_cons_self
 rw [e3] at e2
 rw [<- e2]
 exact dU (aJ [.lst ns] (dF (aJ [ao X] (dF (aJ [t] (dF rfl) hd)) e1)) rfl)
theorem Bv (ns:List Int):cI 6 1 (qh iH Gi FZ F9 CH Gf Gg FU HP Gh) [.scr (ns.map T.int)]=some (.bl true):=by
 obtain⟨m,i,o,A,B,C,D,k1,h,hm,hi,ho⟩:=Jc ns
 have k2:=Jb h.sy (by omega) hi ho
 generalize hS:T.scr (ns.map T.int)=S at *
 have hmi:m*i≤4*2:=Nat.mul_le_mul hm hi.2
 have hmo:m*o≤4*2:=Nat.mul_le_mul hm ho.2
 have tR:=tH h hm (k:=m) hm
 have tT:=uc h hm (k:=m) hm
 have q1:=I0 h hm hi ho
 have q2:=Jd h hm ho
 have lA:=len_tab A
 rw [h.a.len] at lA
 have c1:Gf [cO A B C D]=some (.int (Dt.rank (m*i) (((jy A B m i m).map gq).map Dt.rw):Nat)):=cS rfl (A3 tR (by omega) (by omega) (fun z=>by rw [z,Nat.zero_mul]) q1)
 have c2:HP [cO A B C D]=some (.int (Dt.rank m (((jW A C m m).map gq).map Dt.rw):Nat)):=cS rfl (A3 tT (by omega) (by omega) (fun z=>by
  rcases Nat.mul_eq_zero.mp z with z | z
  ·exact z
  ·omega) q2)
 have r1:=EY tR (by omega) (by omega) (.inl hm)
 have r2:=EY tT (by omega) (by omega) (.inr hm)
 have s1:CH [.ptr 337,cO A B C D,ao (jy A B m i m)]=some (.bl true):=EZ rfl q1 (by rw [tR.len];omega) (fun r hr=>by rw [tR.wd r hr];omega)
 have s2:CH [.ptr 351,cO A B C D,ao (jW A C m m)]=some (.bl true):=EZ rfl q2 (by rw [tT.len];omega) (fun r hr=>by rw [tT.wd r hr];omega)
 have a1:aU 1 (aq Gi (af (ag 0) (af (aZ 0) aE))) [ah S,none,none,none,none,none]=some (.nx [ah S,ah (cD A B C D),none,none,none,none]):=cP (aJ _ (dY rfl rfl) k1) rfl
 have a2:aU 2 (uw iH Gh (af (aN bQ (ag 1) (aZ 0)) (af (aN bQ (ag 1) (aZ 1)) (af (aN bQ (ag 1) (aZ 2)) (af (aN bQ (ag 1) (aZ 3)) aE))))) [ah S,ah (cD A B C D),none,none,none,none]=some (.nx [ah S,ah (cD A B C D),ah (cO A B C D),none,none,none]):=cP (Lm (CV (t:=ao A) (u:=ao B) (v:=ao C) (x:=ao D) (bA (a:=cD A B C D) (b:=.int 0) rfl rfl rfl) (bA (a:=cD A B C D) (b:=.int 1) rfl rfl rfl) (bA (a:=cD A B C D) (b:=.int 2) rfl rfl rfl) (bA (a:=cD A B C D) (b:=.int 3) rfl rfl rfl)) k2) rfl
 have a3:aU 3 (aq bM (af (aN bQ (ag 1) (aZ 0)) aE)) [ah S,ah (cD A B C D),ah (cO A B C D),none,none,none]=some (.nx [ah S,ah (cD A B C D),ah (cO A B C D),ah (aH m),none,none]):=cP (aJ [ao A] (dF (bA (g:=bQ) (a:=cD A B C D) (b:=.int 0) rfl rfl rfl)) lA) rfl
 have a4:aU 4 (aq FZ (bg 1)) [ah S,ah (cD A B C D),ah (cO A B C D),ah (aH m),none,none]=some (.nx [ah S,ah (cD A B C D),ah (cO A B C D),ah (aH m),ah (ao (jy A B m i m)),none]):=cP (aJ _ (dF rfl) (IM h hm hi ho)) rfl
 have a5:aU 5 (aq F9 (bg 1)) [ah S,ah (cD A B C D),ah (cO A B C D),ah (aH m),ah (ao (jy A B m i m)),none]=some (.nx [ah S,ah (cD A B C D),ah (cO A B C D),ah (aH m),ah (ao (jy A B m i m)),ah (ao (jW A C m m))]):=cP (aJ _ (dF rfl) (IP h hm ho)) rfl
 generalize hτ:[some (Sl.sh S),ah (cD A B C D),ah (cO A B C D),ah (aH m),ah (ao (jy A B m i m)),ah (ao (jW A C m m))]=τ at *
 have g1:τ[1]? = some (ah (cD A B C D)):=by rw [<- hτ];rfl
 have g2:τ[2]? = some (ah (cO A B C D)):=by rw [<- hτ];rfl
 have g3:τ[3]? = some (ah (aH m)):=by rw [<- hτ];rfl
 have g4:τ[4]? = some (ah (ao (jy A B m i m))):=by rw [<- hτ];rfl
 have g5:τ[5]? = some (ah (ao (jW A C m m))):=by rw [<- hτ];rfl
 have lR:=sP (D.getD 0 [])
 rw [h.sy.row0 (by omega)] at lR
 have t1:(ux (dQ (eG (aq CH (af (fC (.ptr 337)) (af (ag 2) (bg 4)))))) (dQ (eG (aq CH (af (fC (.ptr 351)) (af (ag 2) (bg 5))))))) τ=some (false,τ):=BN (yQ (aJ _ (m6 rfl (dh g2) (dh g4)) s1)) (yQ (aJ _ (m6 rfl (dh g2) (dh g5)) s2))
 have w1:aN bU (ag 3) (aq bM (af (aN bQ (aN bQ (ag 1) (aZ 3)) (aZ 0)) aE)) τ=some (.int ((m*i:Nat):Nat),τ):=bA (dh g3) (aJ [aw (D.getD 0 [])] (dF (bA (g:=bQ) (bA (g:=bQ) (dh g1) rfl Jn) rfl (wU (i:=0) (by rw [h.d.len];omega)))) lR) (GY (by omega) (by omega))
 have t2:dQ (eG (aq FU (af (aq Gf (bg 2)) (af (aq Gg (af (ag 4) (af (aN bU (ag 3) (aq bM (af (aN bQ (aN bQ (ag 1) (aZ 3)) (aZ 0)) aE))) aE))) aE)))) τ=some (false,τ):=yQ (aJ _ (dY (aJ _ (dF (dh g2)) c1) (aJ _ (dY (dh g4) w1) r1)) (EU _))
 refine cS rfl ?_
 show qh iH Gi FZ F9 CH Gf Gg FU HP Gh [ah S,none,none,none,none,none]=_
 unfold qh
 rw [aV a1,aV a2,aV a3,aV a4,aV a5,aV (oh t1),aV (oh t2)]
 exact dU (aJ _ (dY (aJ _ (dF (dh g2)) c2) (aJ _ (dY (dh g5) (dh g3)) r2)) (EU _))
theorem wV (ns:List Int)(_:ns.length≤63):cI 6 1 (qh iH Gi FZ F9 CH Gf Gg FU HP Gh) [.scr (ns.map T.int)]=some (.bl true):=Bv ns
open PySem PySem.Spec PyProof.Rows L2 TM
theorem jv {α:Type}{us:List α}(h:us.length=1):∃a,us=[a]:=List.length_eq_one_iff.mp h
theorem fH {α:Type}{us:List α}(h:us.length=2):∃a b,us=[a,b]:=by
 rcases us with _ | ⟨a,us⟩
 ·cases h
 ·obtain⟨b,rfl⟩:=jv (us:=us) (by simpa using h)
  exact⟨a,b,rfl⟩
theorem Bz {α:Type}{us:List α}(h:us.length=3):∃a b c,us=[a,b,c]:=by
 rcases us with _ | ⟨a,us⟩
 ·cases h
 ·obtain⟨b,c,rfl⟩:=fH (us:=us) (by simpa using h)
  exact⟨a,b,c,rfl⟩
theorem Jy {α:Type}{us:List α}(h:us.length=4):∃a b c d,us=[a,b,c,d]:=by
 rcases us with _ | ⟨a,us⟩
 ·cases h
 ·obtain⟨b,c,d,rfl⟩:=Bz (us:=us) (by simpa using h)
  exact⟨a,b,c,d,rfl⟩
theorem Lj {α:Type}{us:List α}(h:us.length=5):∃a b c d e,us=[a,b,c,d,e]:=by
 rcases us with _ | ⟨a,us⟩
 ·cases h
 ·obtain⟨b,c,d,e,rfl⟩:=Jy (us:=us) (by simpa using h)
  exact⟨a,b,c,d,e,rfl⟩
def fo (s:Stmt)(nm qn:Str)(pm:Value)(c:Addr):Obj:=⟨.type "function", none,.func (PySem.W.fnOf nm qn (iV s) (dP s) (ay s) .none .none .none pm none (.ref c) .none),#[]⟩
theorem fk {K:PySem.W.Frag}(st:Stmt)(f c:Addr)(nm qn:Str)(pm:Value)(l:K.lookup f=some (fo st nm qn pm c))(h:PySem.W.codeIn K (.ref c) qn=true):eR K nm qn st f (PySem.W.fnOf nm qn (iV st) (dP st) (ay st) .none .none .none pm none (.ref c) .none):=Gx l h (by unfold PySem.W.keepIn;dsimp only;rw [l];rfl)
abbrev IE:List T->Option T:=(cI 6 1 (qh 319 (Gi) (FZ) (F9) (CH) (Gf) (Gg) (FU) (HP) (Gh)))
set_option maxHeartbeats 0 in
theorem all_mk {w:World}{h:Heap}{mg:Str->Option Value}{fa:Addr}(X:(kk w.params).In h)(G:h.Ns mainGlobals mg)(hfa:mg "law" = some (.ref fa)):
  ∃fd:FuncData,(∀(s:Shared) (v:Value),BindsTo s fd ⟨[v],[]⟩ [("_law_script", v)])/\∀base:Heap,(kk w.params).In base->base.Ns mainGlobals mg->gz pg w (kk w.params) mg base pG 9 fa fd ["_law_script"] (spT (kk w.params) 1 IE):=by
 have mq:∀(x:Str) (v:Value),PySem.W.nsIn (kk w.params) mainGlobals x=some (some v)->mg x=some v:=fun x v e=>PySem.W.mg_of X G e
 have mn:∀x:Str,PySem.W.nsIn (kk w.params) mainGlobals x=some none->mg x=none:=fun x e=>PySem.W.mg_none_of X G e
 have e:=hfa.symm.trans (mq "law" (.ref 448) (by kernel_rfl))
 cases e
 have a0:=fk (K:=kk w.params) jJ 372 371 "_law_cell" "_law_cell" md (by kernel_rfl) (by kernel_rfl)
 have b0:=a0.binds (ps:=["_law_script","_law_k"]) fun _ _ _ _ _ _ us hl=>by obtain⟨a,b,rfl⟩:=fH hl;rfl
 have c0:=mq "_law_cell" (.ref 372) (by kernel_rfl)
 have d0:=fk (K:=kk w.params) kE 379 378 "_law_mix" "_law_mix" md (by kernel_rfl) (by kernel_rfl)
 have e0:=d0.binds (ps:=["_law_cell_here","_law_k"]) fun _ _ _ _ _ _ us hl=>by obtain⟨a,b,rfl⟩:=fH hl;rfl
 have f0:=mq "_law_mix" (.ref 379) (by kernel_rfl)
 have g0:=fk (K:=kk w.params) Ho 93 92 "half" "half" HZ (by kernel_rfl) (by kernel_rfl)
 have i0:=g0.binds (ps:=["one","other"]) fun _ _ _ _ _ _ us hl=>by obtain⟨a,b,rfl⟩:=fH hl;rfl
 have j0:=mq "half" (.ref 93) (by kernel_rfl)
 have k0:=fk (K:=kk w.params) oO 86 85 "common" "common" HZ (by kernel_rfl) (by kernel_rfl)
 have l0:=k0.binds (ps:=["one","other"]) fun _ _ _ _ _ _ us hl=>by obtain⟨a,b,rfl⟩:=fH hl;rfl
 have o0:=mq "common" (.ref 86) (by kernel_rfl)
 have q0:=fk (K:=kk w.params) xu 155 154 "frac" "frac" yO (by kernel_rfl) (by kernel_rfl)
 have r0:=q0.binds (ps:=["top","bottom"]) fun _ _ _ _ _ _ us hl=>by obtain⟨a,b,rfl⟩:=fH hl;rfl
 have s0:=mq "frac" (.ref 155) (by kernel_rfl)
 have t0:=fk (K:=kk w.params) iq 386 385 "_law_number" "_law_number" md (by kernel_rfl) (by kernel_rfl)
 have u0:=t0.binds (ps:=["_law_number_here"]) fun _ _ _ _ _ _ us hl=>by obtain⟨a,rfl⟩:=jv hl;rfl
 have v0:=mq "_law_number" (.ref 386) (by kernel_rfl)
 have y0:=fk (K:=kk w.params) kG 393 392 "_law_row" "_law_row" md (by kernel_rfl) (by kernel_rfl)
 have z0:=y0.binds (ps:=["_law_cell_here","_law_many"]) fun _ _ _ _ _ _ us hl=>by obtain⟨a,b,rfl⟩:=fH hl;rfl
 have a1:=mq "_law_row" (.ref 393) (by kernel_rfl)
 have b1:=fk (K:=kk w.params) ir 398 397 "_law_tables" "_law_tables" md (by kernel_rfl) (by kernel_rfl)
 have c1:=b1.binds (ps:=["_law_script","_law_start"]) fun _ _ _ _ _ _ us hl=>by obtain⟨a,b,rfl⟩:=fH hl;rfl
 have d1:=mq "_law_tables" (.ref 398) (by kernel_rfl)
 have e1:=fk (K:=kk w.params) tO 176 175 "times" "times" yO (by kernel_rfl) (by kernel_rfl)
 have f1:=e1.binds (ps:=["one","other"]) fun _ _ _ _ _ _ us hl=>by obtain⟨a,b,rfl⟩:=fH hl;rfl
 have g1:=mq "times" (.ref 176) (by kernel_rfl)
 have i1:=fk (K:=kk w.params) xy 162 161 "plus" "plus" yO (by kernel_rfl) (by kernel_rfl)
 have j1:=i1.binds (ps:=["one","other"]) fun _ _ _ _ _ _ us hl=>by obtain⟨a,b,rfl⟩:=fH hl;rfl
 have k1:=mq "plus" (.ref 162) (by kernel_rfl)
 have l1:=fk (K:=kk w.params) gL 405 404 "_law_weighed" "_law_weighed" md (by kernel_rfl) (by kernel_rfl)
 have o1:=l1.binds (ps:=["_law_one","_law_other"]) fun _ _ _ _ _ _ us hl=>by obtain⟨a,b,rfl⟩:=fH hl;rfl
 have q1:=mq "_law_weighed" (.ref 405) (by kernel_rfl)
 have r1:=fk (K:=kk w.params) gK 410 409 "_law_product" "_law_product" md (by kernel_rfl) (by kernel_rfl)
 have s1:=r1.binds (ps:=["_law_table","_law_other","_law_wide"]) fun _ _ _ _ _ _ us hl=>by obtain⟨a,b,c,rfl⟩:=Bz hl;rfl
 have t1:=mq "_law_product" (.ref 410) (by kernel_rfl)
 have u1:=fk (K:=kk w.params) je 420 419 "_law_reach" "_law_reach" md (by kernel_rfl) (by kernel_rfl)
 have v1:=u1.binds (ps:=["_law_tables_here"]) fun _ _ _ _ _ _ us hl=>by obtain⟨a,rfl⟩:=jv hl;rfl
 have y1:=mq "_law_reach" (.ref 420) (by kernel_rfl)
 have z1:=fk (K:=kk w.params) jM 427 426 "_law_tell" "_law_tell" md (by kernel_rfl) (by kernel_rfl)
 have a2:=z1.binds (ps:=["_law_tables_here"]) fun _ _ _ _ _ _ us hl=>by obtain⟨a,rfl⟩:=jv hl;rfl
 have b2:=mq "_law_tell" (.ref 427) (by kernel_rfl)
 have c2:=fk (K:=kk w.params) mw 232 231 "noughts" "noughts" pF (by kernel_rfl) (by kernel_rfl)
 have d2:=c2.binds (ps:=["many","wide"]) fun _ _ _ _ _ _ us hl=>by obtain⟨a,b,rfl⟩:=fH hl;rfl
 have e2:=mq "noughts" (.ref 232) (by kernel_rfl)
 have f2:=fk (K:=kk w.params) mz 242 241 "widened" "widened" pF (by kernel_rfl) (by kernel_rfl)
 have g2:=f2.binds (ps:=["one","other"]) fun _ _ _ _ _ _ us hl=>by obtain⟨a,b,rfl⟩:=fH hl;rfl
 have i2:=mq "widened" (.ref 242) (by kernel_rfl)
 have j2:=fk (K:=kk w.params) fZ 222 221 "shared_bottom" "shared_bottom" pF (by kernel_rfl) (by kernel_rfl)
 have k2:=j2.binds (ps:=["row"]) fun _ _ _ _ _ _ us hl=>by obtain⟨a,rfl⟩:=jv hl;rfl
 have l2:=mq "shared_bottom" (.ref 222) (by kernel_rfl)
 have o2:=fk (K:=kk w.params) oR 227 226 "raised" "raised" pF (by kernel_rfl) (by kernel_rfl)
 have q2:=o2.binds (ps:=["row","low"]) fun _ _ _ _ _ _ us hl=>by obtain⟨a,b,rfl⟩:=fH hl;rfl
 have r2:=mq "raised" (.ref 227) (by kernel_rfl)
 have s2:=fk (K:=kk w.params) oQ 210 209 "lifted" "lifted" pF (by kernel_rfl) (by kernel_rfl)
 have t2:=s2.binds (ps:=["row"]) fun _ _ _ _ _ _ us hl=>by obtain⟨a,rfl⟩:=jv hl;rfl
 have u2:=mq "lifted" (.ref 210) (by kernel_rfl)
 have v2:=fk (K:=kk w.params) oS 237 236 "turned" "turned" pF (by kernel_rfl) (by kernel_rfl)
 have y2:=v2.binds (ps:=["table","wide"]) fun _ _ _ _ _ _ us hl=>by obtain⟨a,b,rfl⟩:=fH hl;rfl
 have z2:=mq "turned" (.ref 237) (by kernel_rfl)
 have a3:=fk (K:=kk w.params) my 200 199 "weighed" "weighed" pF (by kernel_rfl) (by kernel_rfl)
 have b3:=a3.binds (ps:=["one","other"]) fun _ _ _ _ _ _ us hl=>by obtain⟨a,b,rfl⟩:=fH hl;rfl
 have c3:=mq "weighed" (.ref 200) (by kernel_rfl)
 have d3:=fk (K:=kk w.params) fJ 215 214 "weighed_lifted" "weighed_lifted" pF (by kernel_rfl) (by kernel_rfl)
 have e3:=d3.binds (ps:=["one","other"]) fun _ _ _ _ _ _ us hl=>by obtain⟨a,b,rfl⟩:=fH hl;rfl
 have f3:=mq "weighed_lifted" (.ref 215) (by kernel_rfl)
 have g3:=fk (K:=kk w.params) mx 205 204 "product" "product" pF (by kernel_rfl) (by kernel_rfl)
 have i3:=g3.binds (ps:=["one","other","wide"]) fun _ _ _ _ _ _ us hl=>by obtain⟨a,b,c,rfl⟩:=Bz hl;rfl
 have j3:=mq "product" (.ref 205) (by kernel_rfl)
 have k3:=fk (K:=kk w.params) fI 309 308 "tables" "System.tables" CK (by kernel_rfl) (by kernel_rfl)
 have l3:=k3.binds (ps:=["self"]) fun _ _ _ _ _ _ us hl=>by obtain⟨a,rfl⟩:=jv hl;rfl
 have o3:=fk (K:=kk w.params) ip 297 296 "ins" "System.ins" CK (by kernel_rfl) (by kernel_rfl)
 have q3:=o3.binds (ps:=["self"]) fun _ _ _ _ _ _ us hl=>by obtain⟨a,rfl⟩:=jv hl;rfl
 have r3:=fk (K:=kk w.params) iz 337 336 "reach_table" "reach_table" md5 (by kernel_rfl) (by kernel_rfl)
 have s3:=r3.binds (ps:=["system"]) fun _ _ _ _ _ _ us hl=>by obtain⟨a,rfl⟩:=jv hl;rfl
 have t3:=mq "reach_table" (.ref 337) (by kernel_rfl)
 have u3:=fk (K:=kk w.params) jO 358 357 "tell_rows" "tell_rows" Ia (by kernel_rfl) (by kernel_rfl)
 have v3:=u3.binds (ps:=["system","many"]) fun _ _ _ _ _ _ us hl=>by obtain⟨a,b,rfl⟩:=fH hl;rfl
 have y3:=mq "tell_rows" (.ref 358) (by kernel_rfl)
 have z3:=fk (K:=kk w.params) fY 290 289 "cells" "System.cells" CK (by kernel_rfl) (by kernel_rfl)
 have a4:=z3.binds (ps:=["self"]) fun _ _ _ _ _ _ us hl=>by obtain⟨a,rfl⟩:=jv hl;rfl
 have b4:=fk (K:=kk w.params) jh 351 350 "tell_table" "tell_table" Ia (by kernel_rfl) (by kernel_rfl)
 have c4:=b4.binds (ps:=["system"]) fun _ _ _ _ _ _ us hl=>by obtain⟨a,rfl⟩:=jv hl;rfl
 have d4:=mq "tell_table" (.ref 351) (by kernel_rfl)
 have e4:=fk (K:=kk w.params) jL 434 433 "_law_same" "_law_same" md (by kernel_rfl) (by kernel_rfl)
 have f4:=e4.binds (ps:=["_law_call","_law_system","_law_due"]) fun _ _ _ _ _ _ us hl=>by obtain⟨a,b,c,rfl⟩:=Bz hl;rfl
 have g4:=mq "_law_same" (.ref 434) (by kernel_rfl)
 have i4:=fk (K:=kk w.params) ji 252 251 "whole_rows" "whole_rows" CL (by kernel_rfl) (by kernel_rfl)
 have j4:=i4.binds (ps:=["table"]) fun _ _ _ _ _ _ us hl=>by obtain⟨a,rfl⟩:=jv hl;rfl
 have k4:=mq "whole_rows" (.ref 252) (by kernel_rfl)
 have l4:=fk (K:=kk w.params) mr 126 125 "divided" "divided" HZ (by kernel_rfl) (by kernel_rfl)
 have o4:=l4.binds (ps:=["numbers","by"]) fun _ _ _ _ _ _ us hl=>by obtain⟨a,b,rfl⟩:=fH hl;rfl
 have q4:=mq "divided" (.ref 126) (by kernel_rfl)
 have r4:=fk (K:=kk w.params) mm 264 263 "cleared" "cleared" CL (by kernel_rfl) (by kernel_rfl)
 have s4:=r4.binds (ps:=["row","kept"]) fun _ _ _ _ _ _ us hl=>by obtain⟨a,b,rfl⟩:=fH hl;rfl
 have t4:=mq "cleared" (.ref 264) (by kernel_rfl)
 have u4:=fk (K:=kk w.params) iu 271 270 "first_place" "first_place" CL (by kernel_rfl) (by kernel_rfl)
 have v4:=u4.binds (ps:=["row","wide"]) fun _ _ _ _ _ _ us hl=>by obtain⟨a,b,rfl⟩:=fH hl;rfl
 have y4:=mq "first_place" (.ref 271) (by kernel_rfl)
 have z4:=fk (K:=kk w.params) gM 259 258 "cleared_rows" "cleared_rows" CL (by kernel_rfl) (by kernel_rfl)
 have a5:=z4.binds (ps:=["rows","wide"]) fun _ _ _ _ _ _ us hl=>by obtain⟨a,b,rfl⟩:=fH hl;rfl
 have b5:=mq "cleared_rows" (.ref 259) (by kernel_rfl)
 have c5:=fk (K:=kk w.params) jf 247 246 "first_rows" "first_rows" CL (by kernel_rfl) (by kernel_rfl)
 have d5:=c5.binds (ps:=["table"]) fun _ _ _ _ _ _ us hl=>by obtain⟨a,rfl⟩:=jv hl;rfl
 have e5:=mq "first_rows" (.ref 247) (by kernel_rfl)
 have f5:=fk (K:=kk w.params) iy 344 343 "reach_count" "reach_count" md5 (by kernel_rfl) (by kernel_rfl)
 have g5:=f5.binds (ps:=["system"]) fun _ _ _ _ _ _ us hl=>by obtain⟨a,rfl⟩:=jv hl;rfl
 have i5:=mq "reach_count" (.ref 344) (by kernel_rfl)
 have j5:=fk (K:=kk w.params) xv 183 182 "over" "over" yO (by kernel_rfl) (by kernel_rfl)
 have k5:=j5.binds (ps:=["one","other"]) fun _ _ _ _ _ _ us hl=>by obtain⟨a,b,rfl⟩:=fH hl;rfl
 have l5:=mq "over" (.ref 183) (by kernel_rfl)
 have o5:=fk (K:=kk w.params) tN 169 168 "minus" "minus" yO (by kernel_rfl) (by kernel_rfl)
 have q5:=o5.binds (ps:=["one","other"]) fun _ _ _ _ _ _ us hl=>by obtain⟨a,b,rfl⟩:=fH hl;rfl
 have r5:=mq "minus" (.ref 169) (by kernel_rfl)
 have s5:=fk (K:=kk w.params) jK 415 414 "_law_rank" "_law_rank" md (by kernel_rfl) (by kernel_rfl)
 have t5:=s5.binds (ps:=["_law_table","_law_wide"]) fun _ _ _ _ _ _ us hl=>by obtain⟨a,b,rfl⟩:=fH hl;rfl
 have u5:=mq "_law_rank" (.ref 415) (by kernel_rfl)
 have v5:=fk (K:=kk w.params) jd 441 440 "_law_count" "_law_count" md (by kernel_rfl) (by kernel_rfl)
 have y5:=v5.binds (ps:=["_law_found","_law_due"]) fun _ _ _ _ _ _ us hl=>by obtain⟨a,b,rfl⟩:=fH hl;rfl
 have z5:=mq "_law_count" (.ref 441) (by kernel_rfl)
 have a6:=fk (K:=kk w.params) jg 365 364 "tell_count" "tell_count" Ia (by kernel_rfl) (by kernel_rfl)
 have b6:=a6.binds (ps:=["system"]) fun _ _ _ _ _ _ us hl=>by obtain⟨a,rfl⟩:=jv hl;rfl
 have c6:=mq "tell_count" (.ref 365) (by kernel_rfl)
 have d6:=fk (K:=kk w.params) kI 141 140 "is_whole" "is_whole" yO (by kernel_rfl) (by kernel_rfl)
 have e6:=d6.binds (ps:=["thing"]) fun _ _ _ _ _ _ us hl=>by obtain⟨a,rfl⟩:=jv hl;rfl
 have f6:=mq "is_whole" (.ref 141) (by kernel_rfl)
 have g6:=fk (K:=kk w.params) iw 148 147 "is_fraction" "is_fraction" yO (by kernel_rfl) (by kernel_rfl)
 have i6:=g6.binds (ps:=["thing"]) fun _ _ _ _ _ _ us hl=>by obtain⟨a,rfl⟩:=jv hl;rfl
 have j6:=mq "is_fraction" (.ref 148) (by kernel_rfl)
 have k6:=fk (K:=kk w.params) oP 188 187 "is_row" "is_row" pF (by kernel_rfl) (by kernel_rfl)
 have l6:=k6.binds (ps:=["thing","many"]) fun _ _ _ _ _ _ us hl=>by obtain⟨a,b,rfl⟩:=fH hl;rfl
 have o6:=mq "is_row" (.ref 188) (by kernel_rfl)
 have q6:=fk (K:=kk w.params) kH 193 192 "is_table" "is_table" pF (by kernel_rfl) (by kernel_rfl)
 have r6:=q6.binds (ps:=["thing","many","wide"]) fun _ _ _ _ _ _ us hl=>by obtain⟨a,b,c,rfl⟩:=Bz hl;rfl
 have s6:=mq "is_table" (.ref 193) (by kernel_rfl)
 have t6:=fk (K:=kk w.params) jN 330 329 "is_system" "is_system" CK (by kernel_rfl) (by kernel_rfl)
 have u6:=t6.binds (ps:=["move","push","look","through"]) fun _ _ _ _ _ _ us hl=>by obtain⟨a,b,c,d,rfl⟩:=Jy hl;rfl
 have v6:=mq "is_system" (.ref 330) (by kernel_rfl)
 have y6:=fk (K:=kk w.params) eN 283 282 "__init__" "System.__init__" CK (by kernel_rfl) (by kernel_rfl)
 have z6:=y6.binds (ps:=["self","move","push","look","through"]) fun _ _ _ _ _ _ us hl=>by obtain⟨a,b,c,d,e,rfl⟩:=Lj hl;rfl
 have a7:=fk (K:=kk w.params) qI 448 447 "law" "law" md (by kernel_rfl) (by kernel_rfl)
 have b7:=a7.binds (ps:=["_law_script"]) fun _ _ _ _ _ _ us hl=>by obtain⟨a,rfl⟩:=jv hl;rfl
 have c7:=mq "law" (.ref 448) (by kernel_rfl)
 have d7:pH (kk w.params) 319:=⟨by kernel_rfl,by kernel_rfl,by kernel_rfl,by kernel_rfl⟩
 have e7:=mq "System" (.ref 319) (by kernel_rfl)
 have f7:∀C∈([319]:List Addr),pH (kk w.params) C/\fz (kk w.params) C "four" := (List.forall_mem_cons.mpr ⟨⟨d7,(by kernel_rfl:PySem.W.findIn (kk w.params) (.ref 319) "four" = some none)⟩,(fun _ h=>absurd h List.not_mem_nil)⟩)
 have g7:=mn "len" (by kernel_rfl)
 have i7:=mn "abs" (by kernel_rfl)
 have j7:=mn "range" (by kernel_rfl)
 have k7:=mn "zip" (by kernel_rfl)
 have l7:=mn "max" (by kernel_rfl)
 have o7:=mn "sum" (by kernel_rfl)
 have q7:=mn "list" (by kernel_rfl)
 have r7:=mn "tuple" (by kernel_rfl)
 have s7:=mn "isinstance" (by kernel_rfl)
 have t7:=mn "enumerate" (by kernel_rfl)
 have u7:=mn "int" (by kernel_rfl)
 have v7:=mn "bool" (by kernel_rfl)
 have y7:=mn "all" (by kernel_rfl)
 have z7:=mq "SHORT" (.int (4000) 269) (by kernel_rfl)
 have a8:=mq "SHORT_QUOTIENT" (.int (8000) 273) (by kernel_rfl)
 have b8:=mq "NOUGHT" (.ref 134) (by kernel_rfl)
 have c8:(kk w.params).lookup 134=some ⟨.type "tuple", none,.seq #[.int (0) 373,.int (1) 374] 0,#[]⟩:=by kernel_rfl
 have d8:=mq "reach_table" (.ref 337) (by kernel_rfl)
 have e8:=mq "tell_table" (.ref 351) (by kernel_rfl)
 have f8:=mq "MOST_LINES" (.int (2) 561) (by kernel_rfl)
 have g8:=mq "MOST_CELLS" (.int (8) 559) (by kernel_rfl)
 refine⟨PySem.W.fnOf "law" "law" (iV qI) (dP qI) (ay qI) .none .none .none md none (.ref 447) .none,fun s v=>.of_eq rfl,fun base _ _=>?_⟩
 have i8:Def pg w (kk w.params) mg base 1 "_law_cell" 2 (HL):=sZ a0 b0 c0 g7
 have j8:Def pg w (kk w.params) mg base 1 "_law_mix" 2 (Gb):=vk d0 e0 f0 
 have k8:Def pg w (kk w.params) mg base 0 "half" 2 (fun _=>none):=Def.zero g0 i0 j0
 have l8:Def pg w (kk w.params) mg base 1 "common" 2 (eZ):=(Ac (P:=pg) (w:=w) (base:=base) (k:=0) B k0 l0 o0 (k8.mono (by decide)) i7 z7).imp Aq
 have o8:Def pg w (kk w.params) mg base 2 "frac" 2 (ki):=(DT (P:=pg) (w:=w) (base:=base) (k:=1) q0 r0 s0 (l8.mono (by decide)) a8).imp Ew
 have q8:Def pg w (kk w.params) mg base 3 "_law_number" 1 (HN):=oA t0 u0 v0 (o8.mono (by decide)) 
 have r8:Def pg w (kk w.params) mg base 4 "_law_row" 2 (IG):=vl y0 z0 a1 (j8.mono (by decide)) (q8.mono (by decide)) j7
 have s8:Def pg w (kk w.params) mg base 5 "_law_tables" 2 (Gi):=oB b1 c1 d1 (i8.mono (by decide)) (r8.mono (by decide)) j7
 have t8:Def pg w (kk w.params) mg base 2 "times" 2 (zX):=(BM (P:=pg) (w:=w) (base:=base) (k:=1) e1 f1 g1 (l8.mono (by decide)) ).imp Cg
 have u8:Def pg w (kk w.params) mg base 2 "plus" 2 (BD):=(DV (P:=pg) (w:=w) (base:=base) (k:=1) i1 j1 k1 (l8.mono (by decide)) ).imp Ex
 have v8:Def pg w (kk w.params) mg base 3 "_law_weighed" 2 (HM):=nq l1 o1 q1 (t8.mono (by decide)) (u8.mono (by decide)) k7
 have y8:Def pg w (kk w.params) mg base 4 "_law_product" 3 (ER):=nk r1 s1 t1 (v8.mono (by decide)) j7
 have z8:Def pg w (kk w.params) mg base 5 "_law_reach" 1 (FZ):=pW u1 v1 y1 (y8.mono (by decide)) g7 j7 k7
 have a9:Def pg w (kk w.params) mg base 5 "_law_tell" 1 (F9):=tm z1 a2 b2 (y8.mono (by decide)) j7 g7
 have b9:mY pg w (kk w.params) mg base 1 "noughts" 2 (C8):=vi (P:=pg) (w:=w) (base:=base) (k:=0) c2 d2 e2 j7 b8 c8
 have c9:Def pg w (kk w.params) mg base 1 "widened" 2 (HQ):=xj f2 g2 i2 k7
 have d9:Def pg w (kk w.params) mg base 2 "shared_bottom" 1 (HY):=(mf (P:=pg) (w:=w) (base:=base) (k:=1) j2 k2 l2 (l8.mono (by decide)) ).imp mF
 have e9:Def pg w (kk w.params) mg base 1 "raised" 2 (HX):=(Af (P:=pg) (w:=w) (base:=base) (k:=0) o2 q2 r2 ).imp Ar
 have f9:Def pg w (kk w.params) mg base 3 "lifted" 1 (A2):=Ae s2 t2 u2 (d9.mono (by decide)) (e9.mono (by decide)) l7
 have g9:mY pg w (kk w.params) mg base 1 "turned" 2 (JC):=(xf (P:=pg) (w:=w) (base:=base) (k:=0) v2 y2 z2 j7).imp Au
 have i9:Def pg w (kk w.params) mg base 3 "weighed" 2 (Kx):=xi a3 b3 c3 (t8.mono (by decide)) (u8.mono (by decide)) k7 b8 c8
 have j9:Def pg w (kk w.params) mg base 4 "weighed_lifted" 2 (CI):=lF d3 e3 f3 (i9.mono (by decide)) (o8.mono (by decide)) k7 o7
 have k9:mY pg w (kk w.params) mg base 5 "product" 3 (Kv):=vj (P:=pg) (w:=w) (base:=base) (k:=4) g3 i3 j3 (f9.mono (by decide)) (g9.plain.mono (by decide)) (j9.mono (by decide)) 
 have l9:kj pg w (kk w.params) mg base 1 319 "tables" 1 (CG):=kB k3 l3 d7 ⟨by kernel_rfl,by kernel_rfl,by kernel_rfl⟩ f7 q7 r7
 have o9:kj pg w (kk w.params) mg base 1 319 "ins" 1 (IF):=nh o3 q3 d7 ⟨by kernel_rfl,by kernel_rfl,by kernel_rfl⟩ f7 g7
 have q9:Def pg w (kk w.params) mg base 6 "reach_table" 1 (Dc):=oH r3 s3 t3 (b9.plain.mono (by decide)) (c9.mono (by decide)) (k9.plain.mono (by decide)) (List.forall_mem_cons.mpr ⟨l9.mono (by decide),(fun _ h=>absurd h List.not_mem_nil)⟩) (List.forall_mem_cons.mpr ⟨o9.mono (by decide),(fun _ h=>absurd h List.not_mem_nil)⟩) g7 j7
 have r9:Def pg w (kk w.params) mg base 6 "tell_rows" 2 (Kw):=tu u3 v3 y3 (k9.plain.mono (by decide)) (List.forall_mem_cons.mpr ⟨l9.mono (by decide),(fun _ h=>absurd h List.not_mem_nil)⟩) j7 g7
 have s9:kj pg w (kk w.params) mg base 1 319 "cells" 1 (Kt):=lE z3 a4 d7 ⟨by kernel_rfl,by kernel_rfl,by kernel_rfl⟩ f7 g7
 have t9:Def pg w (kk w.params) mg base 7 "tell_table" 1 (De):=pZ b4 c4 d4 (r9.mono (by decide)) (List.forall_mem_cons.mpr ⟨s9.mono (by decide),(fun _ h=>absurd h List.not_mem_nil)⟩) 
 have u9:Def pg w (kk w.params) mg base 8 "_law_same" 3 (CH):=tj e4 f4 g4 (q9.mono (by decide)) (t9.mono (by decide)) q7 s7 d8 e8
 have v9:Def pg w (kk w.params) mg base 3 "whole_rows" 1 (IH):=p0 i4 j4 k4 (d9.mono (by decide)) (e9.mono (by decide)) 
 have y9:Def pg w (kk w.params) mg base 1 "divided" 2 (EO):=xh l4 o4 q4 a8
 have z9:Def pg w (kk w.params) mg base 2 "cleared" 2 (C7):=xg r4 s4 t4 (y9.mono (by decide)) k7
 have a10:Def pg w (kk w.params) mg base 1 "first_place" 2 (FV):=oC u4 v4 y4 j7
 have b10:Def pg w (kk w.params) mg base 3 "cleared_rows" 2 (IA):=nr z4 a5 b5 (z9.mono (by decide)) (a10.mono (by decide)) 
 have c10:Def pg w (kk w.params) mg base 4 "first_rows" 1 (IB):=pX c5 d5 e5 (v9.mono (by decide)) (b10.mono (by decide)) g7 t7
 have d10:Def pg w (kk w.params) mg base 7 "reach_count" 1 (Gf):=oG f5 g5 i5 (q9.mono (by decide)) (c10.mono (by decide)) g7
 have e10:Def pg w (kk w.params) mg base 3 "over" 2 (Ge):=DU j5 k5 l5 (o8.mono (by decide)) (t8.mono (by decide)) 
 have f10:Def pg w (kk w.params) mg base 3 "minus" 2 (Ga):=BL o5 q5 r5 (u8.mono (by decide)) 
 have g10:Def pg w (kk w.params) mg base 4 "_law_rank" 2 (Gg):=tf s5 t5 u5 (e10.mono (by decide)) (t8.mono (by decide)) (f10.mono (by decide)) q7 j7 g7 k7
 have i10:Def pg w (kk w.params) mg base 1 "_law_count" 2 (FU):=pV v5 y5 z5 u7 s7 v7
 have j10:Def pg w (kk w.params) mg base 8 "tell_count" 1 (HP):=pY a6 b6 c6 (t9.mono (by decide)) (c10.mono (by decide)) g7
 have k10:Def pg w (kk w.params) mg base 1 "is_whole" 1 (ID):=vn d6 e6 f6 u7 s7 v7
 have l10:Def pg w (kk w.params) mg base 2 "is_fraction" 1 (FX):=oE g6 i6 j6 (k10.mono (by decide)) (l8.mono (by decide)) r7 s7 g7
 have o10:Def pg w (kk w.params) mg base 3 "is_row" 2 (FY):=Ad k6 l6 o6 (l10.mono (by decide)) q7 s7 g7 y7
 have q10:Def pg w (kk w.params) mg base 4 "is_table" 3 (Ks):=vm q6 r6 s6 (o10.mono (by decide)) q7 s7 g7 y7
 have r10:Def pg w (kk w.params) mg base 5 "is_system" 4 (A1):=tq t6 u6 v6 (q10.mono (by decide)) q7 s7 g7 f8
 have s10:uh pg w (kk w.params) mg base 7 "System" 319 4 (Gh):=xb y6 z6 d7 ⟨by kernel_rfl,by kernel_rfl,by kernel_rfl,by kernel_rfl⟩ e7 (by kernel_rfl:PySem.W.findIn (kk w.params) (.ref 319) "four" = some none) (r10.mono (by decide)) g7 r7 g8
 exact Gw (P:=pg) (w:=w) (base:=base) (k:=8) a7 (s8.mono (by decide)) (z8.mono (by decide)) (a9.mono (by decide)) (u9.mono (by decide)) (d10.mono (by decide)) (g10.mono (by decide)) (i10.mono (by decide)) (j10.mono (by decide)) (s10.mono (by decide)) g7 d8 e8
theorem walk {q:Program}{loose:List Str}{XP:(Str->Option Value)->Heap->Prop}{d:DefRec}(hn:d.name = "law")(hdf:d.params.defaults=[]):PySem.W.WalkO q loose XP hk.says lw.row.toRowW d [] (fun f vs=>PySem.call f vs):=
 L2.zE (n:=63) (k:=9) (x := "_law_script") (CX:=fun _=>pG) (K:=kk) (sp:=fun w=>spT (kk w.params) 1 IE) rfl (by decide) hdf ⟨rfl,by decide,by decide⟩ (fun _ _ Y=>PySem.W.kIn_of Y) (fun w mg fa h KX G e=>all_mk KX G (by rw [hn] at e;exact e))
  (fun w H a ns hl _ hS=>⟨rfl,H,[.scr (ns.map T.int)],.bl true,aW.refl H,⟨_,[],rfl,⟨a,ns.map V.int,rfl,hS,qH ns⟩,rfl⟩,wV ns hl,fun _ _ v _ r=>r⟩) fun _ _ _ _ _ z=>z
end My
open PySem PySem.W PyProof.Rows
set_option maxHeartbeats 0 in
theorem PySem.Challenge.cw_echohouse_k51_reach_and_tell_tables_holds : PySem.Challenge.rw_echohouse_k51_reach_and_tell_tables.Holds := by
 refine holds_law My.ws fun said=>?_
 refine holds_open (q:=My.qv) (loose:=[]) (Xt:=My.xt) (XP:=XL My.qv []) My.hl (Hook.of My.hk) (Hook.keeps My.hk)
  (fun s e=>xl_of s (Bool.and_eq_true_iff.mp e).1) XL.keeps (by rfl) (by rfl) (by rfl)
  (fun s e=>recFacts_of (Bool.and_eq_true_iff.mp e).2) (by rfl) said (by decide +kernel) ⟨rfl,rfl,rfl,rfl,rfl,by decide +kernel⟩ ?hw ?hc
 case hw=>w_witness2
 case hc=>exact My.walk rfl rfl
