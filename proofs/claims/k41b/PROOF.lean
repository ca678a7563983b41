import PyProof.Rows.All
import Wide.All
import OpenK.AllK
import Wide.FinOn
import Lean
import PyProof.EqAt
import PyProof.EqKinds
import PyProof.TupleCall
import KE.KRevIter
import KE.KMinKey
import PyProof.FactsAll.range_2
import PyProof.Rows.CallKwBuiltin
import PyProof.EnumMake
import PyProof.EnumFor
import PyProof.ListNew
import PyProof.CollectIter
import PyProof.ExcClass3
import PyProof.ExcBaseAll.ValueError
import PyProof.NsDelKeeps
import PyProof.ExcAttrAll.ValueError
import PyProof.IsiBase
import KE.KIsAll
import PySem.Challenge.RW_echohouse_k41_in_a_row_and_beside
noncomputable section
local macro_rules | `(tactic| walk_at "sc")=>`(tactic| exact ⟨rfl,rfl,rfl,by decide +kernel,rfl,by decide +kernel,by decide +kernel⟩)
set_option Elab.async false
set_option linter.all false
set_option maxRecDepth 100000
set_option maxHeartbeats 4000000
local macro_rules | `(tactic| walk_at "ev")=>do
  let ns:List Lean.Name:=[`Bool.false_eq_true,`Bool.not_false,`Bool.not_true,`Ak,`Al,`Du,`List.cons_append,`List.getElem?_cons_succ,`List.getElem?_cons_zero,`List.length_cons,`List.length_nil,`List.map_cons,`List.map_nil,`List.nil_append,`List.replicate_succ,`List.replicate_zero,`List.set_cons_succ,`List.set_cons_zero,`Nat.reduceAdd,`Nat.reduceLeDiff,`Nat.reduceSub,`Nat.sub_self,`Nat.zero_add,`Option.bind_none,`Option.bind_some,`and_self,`and_true,`beq_self_eq_true,`boolsOf,`Bx,`rX,`cM,`LR,`LS,`il,`decide_false,`decide_true,`aL,`nv,`eW,`lL,`dY,`fC,`ak,`G6,`G7,`aa,`LV,`JT,`BH,`iU,`M1,`bG,`cR,`cN,`bp,`ai,`bY,`eu,`aF,`qd,`LW,`jF,`cQ,`bz,`oM,`aO,`vd,`bK,`cH,`ly,`dJ,`eR,`dR,`uF,`ny,`ag,`bI,`gq,`iJ,`jH,`BL,`jl,`Hb,`AE,`lN,`BM,`He,`M4,`BN,`BO,`BP,`BQ,`Hf,`zj,`xi,`DP,`aB,`aq,`bO,`cm,`if_false,`if_true,`Gi,`vk,`vm,`xq,`vn,`AL,`xr,`sC,`sD,`sE,`vo,`sG,`xu,`vp,`qe,`sI,`sJ,`vq,`sL,`xv,`vt,`qf,`sM,`sN,`vv,`sO,`xy,`vw,`qg,`sP,`sQ,`vx,`sR,`xB,`vy,`qh,`sS,`sT,`vz,`sV,`xC,`vA,`qi,`sW,`sX,`vB,`sY,`xD,`vC,`qj,`sZ,`tf,`vD,`tj,`xE,`vF,`qk,`ite_false,`ite_true,`ML,`MM,`L6,`J6,`M9,`L8,`ee,`Na,`ne_eq,`not_false_eq_true,`not_true_eq_false,`reduceCtorEq,`reduceIte,`KJ,`Ly,`true_and,`ji]
  let mut ls:Array (Lean.TSyntax `Lean.Parser.Tactic.simpLemma):=#[]
  for n in ns do
   unless (<- Lean.Macro.resolveGlobalName n).isEmpty do
    ls:=ls.push (<- `(Lean.Parser.Tactic.simpLemma| $(Lean.mkIdent n):ident))
  `(tactic| simp only [$[$ls],*, *])
namespace My
open PySem PySem.Spec PyProof.Rows
def tp (i:Nat):Stmt:=PySem.Challenge.pw_echohouse_k41_in_a_row_and_beside.main.body.getD i (.Pass ⟨0,0,0,0⟩)
def hA (s:Stmt):Arguments:=match s with
 | .FunctionDef _ a _ _ _ _ _ _ _ _=>a
 | _=>⟨[],[],none,[],[],none,[]⟩
def hB (s:Stmt):List Stmt:=match s with
 | .FunctionDef _ _ b _ _ _ _ _ _ _=>b
 | _=>[]
def hS (s:Stmt):Scope:=match s with
 | .FunctionDef _ _ _ _ _ _ sc _ _ _=>sc
 | _=>{ kind:=.function,names:=[],isGenerator:=false,isCoroutine:=false }
def tc (i j:Nat):Stmt:=match tp i with
 | .ClassDef _ _ _ body _ _ _ _ _ _ _=>body.getD j (.Pass ⟨0,0,0,0⟩)
 | _=>.Pass ⟨0,0,0,0⟩
abbrev pg:Program:=PySem.Challenge.pw_echohouse_k41_in_a_row_and_beside
abbrev lw:PySem.W.OpenLaw:=PySem.Challenge.rw_echohouse_k41_in_a_row_and_beside
def qv:Program:={ pg with main:={ pg.main with body:=([0,2,3,4,5,7,8,9,10,11,12,13,14,15,16,17,19,20,21,22,23,24,26,27,28,29,30,31,32,33,34,35,36,38,39,40,41,43,44,45,47,48,49,50,51,52,53,54,55,56,57,58,59,60,61,62,63,64,65,66,67]:List Nat).map tp } }
def cf:Str := "/claim/cut.py"
def MI (nm qn:Str) (t l n k:Nat) (a b c d e:Value):Obj:=⟨.type "code", none,.fields #[.str nm t,.str qn (t + 1),.str cf (t + 2),.int l 0,.int n 0,.int 0 0,.int 0 0,.int 3 0,a,.bool true,.int 181 0,b,.none,c,d,e,.int k 0,.int l 0,.str cf (k + 1)],#[]⟩
def Lh (c:Nat) (nm qn:Str) (t l n k:Nat):Obj:=MI nm qn t l n k (.ref (c - 5)) (.ref (c - 4)) (.ref (c - 3)) (.ref (c - 2)) (.ref (c - 1))
def LQ (c:Nat) (nm qn:Str) (t l n k:Nat):Obj:=MI nm qn t l n k (.ref (c - 3)) (.ref (c - 2)) .none .none (.ref (c - 1))
def cA (c:Nat) (nm:Str) (t l n k:Nat):Obj:=Lh c nm nm t l n k
def cB (c:Nat) (nm:Str) (t l n k:Nat):Obj:=LQ c nm nm t l n k
def Jg (s:Stmt) (nm qn:Str) (pm:Value) (c:Addr):Obj:=⟨.type "function", none,.func (PySem.W.fnOf nm qn (hA s) (hB s) (hS s) .none .none .none pm none (.ref c) .none),#[]⟩
def fh (s:Stmt) (nm:Str) (pm:Value) (c:Addr):Obj:=Jg s nm nm pm c
def de (P:Params) (x:Str) (t:Tok) (v:Value):DictEntry:=⟨PyData.keyHash P x,.str x t,v⟩
def ip:Value:=.str "law_echohouse_k41_in_a_row_and_beside" 650
def Dm:Value:=.str "echohouse.fracs" 394
def Lv:Value:=.str "echohouse.divisors" 290
def pW:Value:=.str "echohouse.tables" 445
def Bk:Value:=.str "echohouse.systems" 522
def md5:Value:=.str "echohouse.joins" 602
def kk (P:Params):PySem.W.Frag:=[
(3,⟨.type "dict", none,.dict #[de P "__name__" 165 (.str "law_echohouse_k41_in_a_row_and_beside" 650),de P "__doc__" 166 (.none),de P "__package__" 167 (.none),de P "__loader__" 168 (.builtin "__main__.__loader__#opaque"),de P "__spec__" 169 (.none),de P "__annotations__" 170 (.ref 6),de P "__builtins__" 171 (.ref 4),de P "__file__" 173 (.str "/claim/cut.py" 172),de P "__cached__" 174 (.none),de P "_wall" 193 (.ref 21),de P "EchoError" 220 (.ref 38),de P "NoTable" 243 (.ref 58),de P "NoFit" 266 (.ref 77),de P "TooMany" 289 (.ref 96),de P "SHORT" 293 (.int (4000) 292),de P "SHORT_HALF" 295 (.int (256) 294),de P "SHORT_QUOTIENT" 297 (.int (8000) 296),de P "common" 306 (.ref 105),de P "half" 318 (.ref 112),de P "stepped" 328 (.ref 119),de P "step" 343 (.ref 126),de P "upper_half" 360 (.ref 133),de P "factors_joined" 376 (.ref 140),de P "divided" 382 (.ref 145),de P "low_inverse" 393 (.ref 152),de P "NOUGHT" 398 (.ref 153),de P "is_whole" 405 (.ref 160),de P "is_fraction" 414 (.ref 167),de P "frac" 423 (.ref 174),de P "plus" 434 (.ref 181),de P "times" 444 (.ref 188),de P "is_row" 452 (.ref 193),de P "is_table" 458 (.ref 198),de P "weighed" 469 (.ref 205),de P "product" 475 (.ref 210),de P "lifted" 481 (.ref 215),de P "weighed_lifted" 487 (.ref 220),de P "shared_bottom" 497 (.ref 227),de P "raised" 503 (.ref 232),de P "noughts" 509 (.ref 237),de P "turned" 515 (.ref 242),de P "widened" 521 (.ref 247),de P "MOST_CELLS" 525 (.int (8) 524),de P "MOST_LINES" 527 (.int (2) 526),de P "System" 588 (.ref 295),de P "is_system" 601 (.ref 306),de P "in_row" 621 (.ref 313),de P "beside" 639 (.ref 320),de P "apart" 649 (.ref 327),de P "_law_cell" 659 (.ref 334),de P "_law_mixed" 668 (.ref 341),de P "_law_divisor" 676 (.ref 348),de P "_law_frac" 685 (.ref 355),de P "_law_numbers" 698 (.ref 362),de P "_law_rows" 704 (.ref 367),de P "_law_four" 718 (.ref 374),de P "_law_plus" 726 (.ref 381),de P "_law_weighed" 737 (.ref 388),de P "_law_led" 743 (.ref 393),de P "_law_added" 749 (.ref 398),de P "_law_turn" 763 (.ref 405),de P "_law_units" 769 (.ref 410),de P "_law_cases" 775 (.ref 415),de P "_law_shape" 784 (.ref 422),de P "_law_made" 791 (.ref 429),de P "_law_word" 802 (.ref 436),de P "_law_both" 818 (.ref 443),de P "_law_good" 831 (.ref 450),de P "_law_pair" 846 (.ref 457),de P "law" 859 (.ref 464)] 70,#[]⟩),
(37,⟨.type "dict", none,.dict #[de P "__module__" 203 (.str "echohouse.errors" 194),de P "__firstlineno__" 207 (.int (5) 206),de P "word" 214 (.ref 35),de P "__static_attributes__" 215 (.ref 36),de P "__weakref__" 217 (.ref 39),de P "__doc__" 218 (.none)] 3,#[]⟩),
(38,⟨.type "type", none,.cls ⟨"EchoError", [.type "ValueError"],[.ref 38,.type "ValueError", .type "Exception", .type "BaseException", .type "object"],37, "EchoError", true,[],[.ref 58,.ref 77,.ref 96],false,none,false⟩,#[some (.ref 22),none,some (.str "EchoError" 196),some (.str "EchoError" 204),some (.builtin "ValueError.__new__"),some (.bool true)]⟩),
(57,⟨.type "dict", none,.dict #[de P "__module__" 228 (.str "echohouse.errors" 194),de P "__firstlineno__" 232 (.int (9) 231),de P "word" 239 (.ref 55),de P "__static_attributes__" 240 (.ref 56),de P "__doc__" 241 (.none)] 2,#[]⟩),
(58,⟨.type "type", none,.cls ⟨"NoTable", [.ref 38],[.ref 58,.ref 38,.type "ValueError", .type "Exception", .type "BaseException", .type "object"],57, "NoTable", true,[],[],false,none,false⟩,#[some (.ref 42),none,some (.str "NoTable" 221),some (.str "NoTable" 229),some (.builtin "ValueError.__new__"),some (.bool true)]⟩),
(76,⟨.type "dict", none,.dict #[de P "__module__" 251 (.str "echohouse.errors" 194),de P "__firstlineno__" 255 (.int (13) 254),de P "word" 262 (.ref 74),de P "__static_attributes__" 263 (.ref 75),de P "__doc__" 264 (.none)] 2,#[]⟩),
(77,⟨.type "type", none,.cls ⟨"NoFit", [.ref 38],[.ref 77,.ref 38,.type "ValueError", .type "Exception", .type "BaseException", .type "object"],76, "NoFit", true,[],[],false,none,false⟩,#[some (.ref 61),none,some (.str "NoFit" 244),some (.str "NoFit" 252),some (.builtin "ValueError.__new__"),some (.bool true)]⟩),
(95,⟨.type "dict", none,.dict #[de P "__module__" 274 (.str "echohouse.errors" 194),de P "__firstlineno__" 278 (.int (17) 277),de P "word" 285 (.ref 93),de P "__static_attributes__" 286 (.ref 94),de P "__doc__" 287 (.none)] 2,#[]⟩),
(96,⟨.type "type", none,.cls ⟨"TooMany", [.ref 38],[.ref 96,.ref 38,.type "ValueError", .type "Exception", .type "BaseException", .type "object"],95, "TooMany", true,[],[],false,none,false⟩,#[some (.ref 80),none,some (.str "TooMany" 267),some (.str "TooMany" 275),some (.builtin "ValueError.__new__"),some (.bool true)]⟩),
(104,cA 104 "common" 298 25 2 304),
(105,fh (tp 10) "common" Lv 104),
(111,cA 111 "half" 307 34 2 316),
(112,fh (tp 11) "half" Lv 111),
(153,⟨.type "tuple", none,.seq #[.int (0) 396,.int (1) 397] 0,#[]⟩),
(159,cA 159 "is_whole" 399 88 1 403),
(160,fh (tp 20) "is_whole" Dm 159),
(166,cA 166 "is_fraction" 406 90 1 412),
(167,fh (tp 21) "is_fraction" Dm 166),
(173,cA 173 "frac" 415 95 2 421),
(174,fh (tp 22) "frac" Dm 173),
(180,cA 180 "plus" 424 104 2 432),
(181,fh (tp 23) "plus" Dm 180),
(187,cA 187 "times" 435 109 2 442),
(188,fh (tp 24) "times" Dm 187),
(192,cB 192 "is_row" 447 114 2 450),
(193,fh (tp 26) "is_row" pW 192),
(197,cB 197 "is_table" 453 116 3 456),
(198,fh (tp 27) "is_table" pW 197),
(204,cA 204 "weighed" 459 118 2 467),
(205,fh (tp 28) "weighed" pW 204),
(209,cB 209 "product" 470 123 3 473),
(210,fh (tp 29) "product" pW 209),
(214,cB 214 "lifted" 476 127 1 479),
(215,fh (tp 30) "lifted" pW 214),
(219,cB 219 "weighed_lifted" 482 130 2 485),
(220,fh (tp 31) "weighed_lifted" pW 219),
(226,cA 226 "shared_bottom" 488 136 1 495),
(227,fh (tp 32) "shared_bottom" pW 226),
(231,cB 231 "raised" 498 141 2 501),
(232,fh (tp 33) "raised" pW 231),
(236,cB 236 "noughts" 504 143 2 507),
(237,fh (tp 34) "noughts" pW 236),
(241,cB 241 "turned" 510 145 2 513),
(242,fh (tp 35) "turned" pW 241),
(246,cB 246 "widened" 516 147 2 519),
(247,fh (tp 36) "widened" pW 246),
(258,LQ 258 "__init__" "System.__init__" 540 154 5 543),
(259,Jg (tc 40 0) "__init__" "System.__init__" Bk 258),
(265,Lh 265 "cells" "System.cells" 546 161 1 550),
(266,Jg (tc 40 1) "cells" "System.cells" Bk 265),
(272,Lh 272 "ins" "System.ins" 553 164 1 557),
(273,Jg (tc 40 2) "ins" "System.ins" Bk 272),
(279,Lh 279 "outs" "System.outs" 560 167 1 564),
(280,Jg (tc 40 3) "outs" "System.outs" Bk 279),
(284,LQ 284 "tables" "System.tables" 567 170 1 570),
(285,Jg (tc 40 4) "tables" "System.tables" Bk 284),
(294,⟨.type "dict", none,.dict #[de P "__module__" 535 (.str "echohouse.systems" 522),de P "__firstlineno__" 539 (.int (152) 538),de P "__init__" 545 (.ref 259),de P "cells" 552 (.ref 266),de P "ins" 559 (.ref 273),de P "outs" 566 (.ref 280),de P "tables" 572 (.ref 285),de P "told" 579 (.ref 292),de P "__static_attributes__" 581 (.ref 293),de P "__dict__" 583 (.ref 296),de P "__weakref__" 585 (.ref 297),de P "__doc__" 586 (.none)] 4,#[]⟩),
(295,⟨.type "type", none,.cls ⟨"System", [.type "object"],[.ref 295,.type "object"],294, "System", true,[],[],false,none,false⟩,#[none,none,some (.str "System" 528),some (.str "System" 536),some (.builtin "object.__new__"),some (.bool true)]⟩),
(305,cA 305 "is_system" 589 175 4 599),
(306,fh (tp 41) "is_system" Bk 305),
(312,cA 312 "in_row" 604 183 2 619),
(313,fh (tp 43) "in_row" md5 312),
(319,cA 319 "beside" 622 190 2 637),
(320,fh (tp 44) "beside" md5 319),
(326,cA 326 "apart" 640 197 4 647),
(327,fh (tp 45) "apart" md5 326),
(333,cA 333 "_law_cell" 652 200 2 657),
(334,fh (tp 47) "_law_cell" ip 333),
(340,cA 340 "_law_mixed" 660 204 2 666),
(341,fh (tp 48) "_law_mixed" ip 340),
(347,cA 347 "_law_divisor" 669 208 2 674),
(348,fh (tp 49) "_law_divisor" ip 347),
(354,cA 354 "_law_frac" 677 214 2 683),
(355,fh (tp 50) "_law_frac" ip 354),
(361,cA 361 "_law_numbers" 686 217 2 696),
(362,fh (tp 51) "_law_numbers" ip 361),
(366,cB 366 "_law_rows" 699 231 3 702),
(367,fh (tp 52) "_law_rows" ip 366),
(373,cA 373 "_law_four" 705 233 4 716),
(374,fh (tp 53) "_law_four" ip 373),
(380,cA 380 "_law_plus" 719 241 2 724),
(381,fh (tp 54) "_law_plus" ip 380),
(387,cA 387 "_law_weighed" 727 243 2 735),
(388,fh (tp 55) "_law_weighed" ip 387),
(392,cB 392 "_law_led" 738 248 2 741),
(393,fh (tp 56) "_law_led" ip 392),
(397,cB 397 "_law_added" 744 250 2 747),
(398,fh (tp 57) "_law_added" ip 397),
(404,cA 404 "_law_turn" 750 252 3 761),
(405,fh (tp 58) "_law_turn" ip 404),
(409,cB 409 "_law_units" 764 256 1 767),
(410,fh (tp 59) "_law_units" ip 409),
(414,cB 414 "_law_cases" 770 261 2 773),
(415,fh (tp 60) "_law_cases" ip 414),
(421,cA 421 "_law_shape" 776 264 2 782),
(422,fh (tp 61) "_law_shape" ip 421),
(428,cA 428 "_law_made" 785 269 1 789),
(429,fh (tp 62) "_law_made" ip 428),
(435,cA 435 "_law_word" 792 271 3 800),
(436,fh (tp 63) "_law_word" ip 435),
(442,cA 442 "_law_both" 803 281 5 816),
(443,fh (tp 64) "_law_both" ip 442),
(449,cA 449 "_law_good" 819 290 4 829),
(450,fh (tp 65) "_law_good" ip 449),
(456,cA 456 "_law_pair" 832 300 3 844),
(457,fh (tp 66) "_law_pair" ip 456),
(463,cA 463 "law" 847 312 1 857),
(464,fh (tp 67) "law" ip 463)]
def ka:List Addr:=[3,37,38,57,58,76,77,95,96,104,105,111,112,153,159,160,166,167,173,174,180,181,187,188,192,193,197,198,204,205,209,210,214,215,219,220,226,227,231,232,236,237,241,242,246,247,258,259,265,266,272,273,279,280,284,285,294,295,305,306,312,313,319,320,326,327,333,334,340,341,347,348,354,355,361,362,366,367,373,374,380,381,387,388,392,393,397,398,404,405,409,410,414,415,421,422,428,429,435,436,442,443,449,450,456,457,463,464]
theorem M7 (P:Params):ka=(kk P).map (·.1):=by kernel_rfl
abbrev hk:PySem.W.Hook:=PySem.W.kHook kk ka M7
abbrev xt (s:Shared):Bool:=PySem.W.xlAt qv [] s && PySem.W.recOk (PySem.W.RowW.records lw.row.toRowW) s
open PySem.W PySem.Calls in
def eG (tb:String -> Option Builtin) (p:Program) (w:World) (n₀:Nat) (ann:Option Value):Nat -> SharedT -> Thread -> Option SharedT
 | 0,_,_=>none
 | n + 1,s,t=>match through t with
  | true=>some s
  | false=>match stepOk n₀ ann t with
   | false=>none
   | true=>match stepT (denote tb) p w s t with
    | some (s',t')=>eG tb p w n₀ ann n s' t'
    | none=>none
open PySem.W PySem.Calls in
theorem rf {tb:String -> Option Builtin} {p:Program} {w:World} {n₀:Nat} {ann:Option Value}:∀ {n:Nat} {s:SharedT} {t:Thread} {r:SharedT},eG tb p w n₀ ann n s t=some r -> topRun tb p w n₀ ann n s.abs t=some r.abs
 | 0,_,_,_,e=>by simp [eG] at e
 | n + 1,s,t,r,e=>by
  rw [eG] at e
  rw [topRun]
  cases h1:through t with
  | true=>rw [h1] at e; cases e; rfl
  | false =>
   rw [h1] at e
   dsimp only at e ⊢
   cases h2:stepOk n₀ ann t with
   | false=>rw [h2] at e; cases e
   | true =>
    rw [h2] at e
    dsimp only at e ⊢
    cases h3:stepT (denote tb) p w s t with
    | none=>rw [h3] at e; cases e
    | some x =>
     obtain ⟨s',t'⟩:=x
     rw [h3] at e
     rw [stepT_spec h3]
     exact rf e
def bt (P:Params):PySem.W.BT:=((PySem.W.boot_heap P).objs.toList.foldl (fun (x:PySem.W.BT × Nat) o=>(x.1.ins x.2 o,x.2 + 1)) (PySem.W.BT.nil,0)).1
open PySem.W PySem.Calls in
theorem J7 {p q:Program} {loose:List Str} {Xt:Shared -> Bool} {α:Type} {Yf:Shared -> α} {Ya:World -> α} {N:Nat} {g0:Bool} (he:opening p=plainProg p.main.scope.names) (hN:Nat.ble 600 N=true) (hf:∀ s,fenceModules? p s=some s)
  (h0:∀ P,absHeap (bt P) 11 {}=boot_heap P)
  (hz:∀ P,((boot_heap P).isNs mainGlobals,(boot_heap P).objs.size,(boot_heap P).nsMap mainGlobals (Str.ofString "__annotations__"))=(true,11,some (.ref 6)))
  (g1:∀ w:World,(fun os:OsState=>(eG treeTable p w 11 (some (.ref 6)) N ⟨bt w.params,11,{},#[],boot_drawn,boot_toks,os⟩ (topStub p)).map fun s=>staticsOk (importedModules p.main.body) (boot_heap w.params) s.abs.heap && namesBound p s.abs.heap && gensDone s.abs && laidKept (boot_heap w.params) s.abs.heap)=fun _=>some true)
  (g2:∀ w:World,(fun os:OsState=>(eG treeTable p w 11 (some (.ref 6)) N ⟨bt w.params,11,{},#[],boot_drawn,boot_toks,os⟩ (topStub p)).map fun s=>(openSeen q loose (importedModules p.main.body) Xt g0 s.abs).1)=fun _=>some (openGood q loose).1)
  (g4:∀ w:World,(fun os:OsState=>(eG treeTable p w 11 (some (.ref 6)) N ⟨bt w.params,11,{},#[],boot_drawn,boot_toks,os⟩ (topStub p)).map fun s=>(openSeen q loose (importedModules p.main.body) Xt g0 s.abs).2)=fun _=>some (openGood q loose).2)
  (g3:∀ w:World,(fun os:OsState=>(eG treeTable p w 11 (some (.ref 6)) N ⟨bt w.params,11,{},#[],boot_drawn,boot_toks,os⟩ (topStub p)).map fun s=>Yf s.abs)=fun _=>some (Ya w)) :
  LeftO p q loose Xt Yf Ya N g0:=by
 intro w
 have b:=boot_open (p:=p) (N:=N) he hN hf w
 cases c:fencedOpening treeTable p w N with
 | none=>rw [c] at b; cases b
 | some s =>
  rw [c] at b
  obtain ⟨hp,gs,dr,tk,os⟩:=s
  simp only [Option.map_some,Option.some.injEq,Prod.mk.injEq] at b
  obtain ⟨b1,b2,b3,b4⟩:=b
  subst b1 b2 b3 b4
  have g1:=congrFun (g1 w) os
  have g2:=congrFun (g2 w) os
  have g3:=congrFun (g3 w) os
  have g4:=congrFun (g4 w) os
  have z:=hz w.params
  simp only [Prod.mk.injEq] at z
  obtain ⟨z1,z2,z3⟩:=z
  unfold openEnds
  rw [c]
  simp only [Option.bind_some]
  unfold topFrom
  rw [z1,z2,z3]
  dsimp only [Bool.true_and]
  cases e:eG treeTable p w 11 (some (.ref 6)) N ⟨bt w.params,11,{},#[],boot_drawn,boot_toks,os⟩ (topStub p) with
  | none=>rw [e] at g1; cases g1
  | some r =>
   rw [e] at g1 g2 g3 g4
   have e':=rf e
   unfold SharedT.abs at e'
   rw [h0] at e'
   have:({ toList:=[] }:Array GenState).size == 0:=rfl
   rw [this]
   try dsimp only
   rw [e']
   simp only [Option.map_some,Option.some.injEq] at g1 g2 g3 g4
   have a1:=g1
   have a2:=Prod.ext g2 g4
   have a3:=g3
   unfold SharedT.abs at a1 a2 a3
   simp only [Option.bind_some]
   rw [a1]
   try dsimp only
   show some (_,_)=_
   rw [a2,a3]
theorem h0 (P:Params):PySem.W.absHeap (bt P) 11 {}=PySem.W.boot_heap P:=by kernel_rfl
set_option maxHeartbeats 0 in
open PySem.W PySem.Calls in
theorem Ln (w:World):(fun os:OsState=>(eG treeTable lw.row.prog w 11 (some (.ref 6)) 6118 ⟨bt w.params,11,{},#[],boot_drawn,boot_toks,os⟩ (topStub lw.row.prog)).map fun s=>staticsOk (importedModules lw.row.prog.main.body) (boot_heap w.params) s.abs.heap && namesBound lw.row.prog s.abs.heap && gensDone s.abs && laidKept (boot_heap w.params) s.abs.heap)=fun _=>some true:=by kernel_rfl
set_option maxHeartbeats 0 in
open PySem.W PySem.Calls in
theorem JX (w:World):(fun os:OsState=>(eG treeTable lw.row.prog w 11 (some (.ref 6)) 6118 ⟨bt w.params,11,{},#[],boot_drawn,boot_toks,os⟩ (topStub lw.row.prog)).map fun s=>(openSeen qv [] (importedModules lw.row.prog.main.body) xt true s.abs).1)=fun _=>some (openGood qv []).1:=by kernel_rfl
set_option maxHeartbeats 0 in
open PySem.W PySem.Calls in
theorem M5 (w:World):(fun os:OsState=>(eG treeTable lw.row.prog w 11 (some (.ref 6)) 6118 ⟨bt w.params,11,{},#[],boot_drawn,boot_toks,os⟩ (topStub lw.row.prog)).map fun s=>(openSeen qv [] (importedModules lw.row.prog.main.body) xt true s.abs).2)=fun _=>some (openGood qv []).2:=by kernel_rfl
set_option maxHeartbeats 0 in
open PySem.W PySem.Calls in
theorem M6 (w:World):(fun os:OsState=>(eG treeTable lw.row.prog w 11 (some (.ref 6)) 6118 ⟨bt w.params,11,{},#[],boot_drawn,boot_toks,os⟩ (topStub lw.row.prog)).map fun s=>hk.obs s.abs)=fun _=>some (hk.val w):=by kernel_rfl
theorem hl:PySem.W.LeftO lw.row.prog qv [] xt hk.obs hk.val 6118:=J7 (by kernel_rfl) (by kernel_rfl) (fun _=>by kernel_rfl) h0 (fun _=>by kernel_rfl) Ln JX M5 M6
theorem ws:lw.wellSaid=true:=by kernel_rfl
end My
namespace L2
open PySem PySem.Spec PyProof.Rows
abbrev Key:=Sum Int Str
def Gj:Key -> Value -> Bool
 | .inl k,v=>Value.isInt k v
 | .inr x,v=>Value.isStrOf x v
def L5 (w:World):Key -> Int
 | .inl k=>hashInt k
 | .inr x=>hashStr w x
theorem cX:∀ {k:Key} {v:Value},Gj k v=true -> (∃ i t,k=Sum.inl i /\ v=Value.int i t) \/ (∃ x t,k=Sum.inr x /\ v=Value.str x t)
 | .inl i,v,h=>by
  obtain ⟨t,e⟩:=Value.isInt_shape (k:=i) (v:=v) h
  exact .inl ⟨i,t,rfl,e⟩
 | .inr x,v,h=>by
  obtain ⟨t,e⟩:=Value.isStrOf_shape (x:=x) (v:=v) h
  exact .inr ⟨x,t,rfl,e⟩
theorem Hx (a b:Int):decide ((Sum.inl a:Key)=Sum.inl b)=(a == b):=by
 by_cases e:a=b
 ·subst e; simp
 ·have h:¬ (Sum.inl a:Key)=Sum.inl b:=fun q=>e (Sum.inl.inj q)
  rw [decide_eq_false h]
  exact (beq_eq_false_iff_ne.mpr e).symm
theorem HA (a b:Str):decide ((Sum.inr a:Key)=Sum.inr b)=decide (a=b):=by
 by_cases e:a=b
 ·subst e; simp
 ·have h:¬ (Sum.inr a:Key)=Sum.inr b:=fun q=>e (Sum.inr.inj q)
  rw [decide_eq_false h,decide_eq_false e]
theorem Hy (a:Int) (b:Str):decide ((Sum.inl a:Key)=Sum.inr b)=false:=decide_eq_false (fun q=>nomatch q)
theorem Hz (a:Str) (b:Int):decide ((Sum.inr a:Key)=Sum.inl b)=false:=decide_eq_false (fun q=>nomatch q)
def tu (prog:Program) (w:World):PySem.KeyKind prog w Key where
 is:=Gj
 hash:=L5 w
 inj:=fun v a b ha hb=>by
  rcases cX ha with ⟨i,t,rfl,rfl⟩ | ⟨x,t,rfl,rfl⟩
  ·rcases cX hb with ⟨j,u,rfl,e⟩ | ⟨y,u,rfl,e⟩
   ·injection e with e1 _; rw [e1]
   ·exact nomatch e
  ·rcases cX hb with ⟨j,u,rfl,e⟩ | ⟨y,u,rfl,e⟩
   ·exact nomatch e
   ·injection e with e1 _; rw [e1]
 byValue:=fun k v h=>by
  rcases cX h with ⟨i,t,rfl,rfl⟩ | ⟨x,t,rfl,rfl⟩ <;> rfl
 pyHash:=fun hv h=>by
  rcases cX hv with ⟨i,t,rfl,rfl⟩ | ⟨x,t,rfl,rfl⟩
  ·exact wpAny_pyHash_int h
  ·exact wpAny_pyHash_str h
 eqBool:=fun hu hv h=>by
  rcases cX hu with ⟨i,t,rfl,rfl⟩ | ⟨x,t,rfl,rfl⟩
  ·rcases cX hv with ⟨j,u,rfl,rfl⟩ | ⟨y,u,rfl,rfl⟩
   ·rw [Hx] at h; exact wpAny_eqBool_int h
   ·rw [Hy] at h; exact SeqAt.EqAt.int_str i t y u _ _ _ _ h
  ·rcases cX hv with ⟨j,u,rfl,rfl⟩ | ⟨y,u,rfl,rfl⟩
   ·rw [Hz] at h; exact SeqAt.EqAt.str_int x t j u _ _ _ _ h
   ·rw [HA] at h; exact wpAny_eqBool_str h
 «strs»:=fun k x t v h=>by
  rcases cX h with ⟨i,u,rfl,e⟩ | ⟨y,u,rfl,e⟩
  ·exact nomatch e
  ·injection e with e1 _
   subst e1
   cases v <;> rfl
open PySem PySem.Spec PyProof.Rows
inductive V where
 | non | bl (b:Bool) | int (i:Int) | str (x:Str) | byt (b:Array UInt8) | flt (b:UInt64) | ref (a:Addr) | ty (n:String)
 deriving DecidableEq
def RelV:V -> Value -> Prop
 | .non,u=>u=Value.none
 | .bl b,u=>u=Value.bool b
 | .int i,u=>∃ t,u=Value.int i t
 | .str x,u=>∃ t,u=Value.str x t
 | .byt b,u=>∃ t,u=Value.bytes b t
 | .flt b,u=>∃ t,u=Value.float b t
 | .ref a,u=>u=Value.ref a
 | .ty n,u=>u=Value.type n
abbrev Vals:List V -> List Value -> Prop:=Paired RelV
theorem Vals.length {xs:List V} {us:List Value} (r:Vals xs us):xs.length=us.length:=Paired.length r
theorem Vals.get:∀ {xs:List V} {us:List Value} {i:Nat} {x:V},Vals xs us -> xs[i]? = some x -> ∃ u,us[i]? = some u /\ RelV x u
 | _,_,_,_,.nil,e=>by simp at e
 | _,_,0,_,.cons r _,e=>by simp at e; subst e; exact ⟨_,rfl,r⟩
 | _,_,i + 1,x,.cons _ t,e=>by
  obtain ⟨u,h1,h2⟩:=Vals.get (i:=i) (x:=x) t (by simpa using e)
  exact ⟨u,by simpa using h1,h2⟩
theorem Vals.set {x:V} {u:Value} (r:RelV x u):∀ {xs:List V} {us:List Value} (i:Nat),Vals xs us -> Vals (xs.set i x) (us.set i u)
 | _,_,_,.nil=>.nil
 | _,_,0,.cons _ t=>.cons r t
 | _,_,i + 1,.cons q t=>.cons q (Vals.set r i t)
theorem Vals.append:∀ {xs ys:List V} {us ws:List Value},Vals xs us -> Vals ys ws -> Vals (xs ++ ys) (us ++ ws)
 | _,_,_,_,.nil,s=>s
 | _,_,_,_,.cons r t,s=>.cons r (Vals.append t s)
theorem Vals.take:∀ {xs:List V} {us:List Value} (n:Nat),Vals xs us -> Vals (xs.take n) (us.take n)
 | _,_,0,_=>.nil
 | _,_,_ + 1,.nil=>.nil
 | _,_,n + 1,.cons r t=>.cons r (Vals.take n t)
theorem Vals.drop:∀ {xs:List V} {us:List Value} (n:Nat),Vals xs us -> Vals (xs.drop n) (us.drop n)
 | _,_,0,r=>r
 | _,_,_ + 1,.nil=>.nil
 | _,_,n + 1,.cons _ t=>Vals.drop n t
theorem Vals.none_of:∀ {xs:List V} {us:List Value} {i:Nat},Vals xs us -> xs[i]? = none -> us[i]? = none:=fun {xs us i} r e=>by
 have h1:=r.length
 have h2:xs.length ≤ i:=List.getElem?_eq_none_iff.mp e
 exact List.getElem?_eq_none_iff.mpr (by omega)
def p9:Option V -> Option Value -> Prop
 | some v,some u=>RelV v u
 | none,none=>True
 | _,_=>False
def KV {κ:Type}:List (κ × V) -> List (κ × Value) -> Prop:=Paired fun (p:κ × V) (q:κ × Value)=>p.1=q.1 /\ RelV p.2 q.2
def kV:Key -> V
 | .inl i=>.int i
 | .inr x=>.str x
inductive HO where
  | lst (xs:List V)
  | tup (xs:List V)
  | dK (kvs:List (Key × V)) | dT (kvs:List (List Key × V))
  | set (S:Int -> Bool) (n:Nat)
  | ins (C dx:Addr) (fs:List (Str × V))
  | own (x:Addr)
  | xd (fs:List (Str × V))
  | met (f x:Addr)
  | rng (lo hi:Int)
  | frz (o:Obj) (u:HO)
  | tbl (ps:Array Value)
  | ext (φ:Heap -> Prop)
abbrev Hp:=Addr -> Option HO
def upd (H:Hp) (a:Addr) (o:HO):Hp:=fun b=>if b=a then some o else H b
theorem aU {H:Hp} {a:Addr} {o:HO}:upd H a o a=some o:=by unfold upd; rw [if_pos rfl]
theorem aK {H:Hp} {a b:Addr} {o:HO} (h:b ≠ a):upd H a o b=H b:=by unfold upd; rw [if_neg h]
theorem bA {H:Hp} {a b:Addr} {o:HO} (h:H a=some o) (h':H b=none):a ≠ b:=by
 intro e; subst e; rw [h] at h'; cases h'
section
variable (P:Program) (w:World)
def fu (H:Hp) (h:Heap) (a:Addr):HO -> Prop
 | .lst xs=>xs.length ≤ sizeLine /\ ∃ (its:List Value) (n:Nat),Vals xs its /\ h.get? a=some { cls:=.type "list", data:=.seq its.toArray n }
 | .tup xs=>xs.length ≤ sizeLine /\ ∃ its:List Value,Vals xs its /\ IsTup h a its.toArray
 | .dK kvs=>kvs.length ≤ sizeLine /\ (a == sysModules)=false /\ ∃ vs,KV kvs vs /\ h.DictOf (tu P w) a vs
 | .dT kvs=>kvs.length ≤ sizeLine /\ (a == sysModules)=false /\ ∃ xs:List (List Key × Addr × Value),
   Paired (fun (p:List Key × V) (q:List Key × Addr × Value)=>p.1=q.1 /\ H q.2.1=some (.tup (p.1.map kV)) /\ RelV p.2 q.2.2) kvs xs /\
   ∃ o es ep,h.get? a=some o /\ o.ExactDict /\ o.data=.dict es ep /\ es.toList=xs.map (entryOfKey (tupleKind (tu P w))) /\ (xs.map (·.1)).Nodup
 | .set S n=>h.SetOf (intKind P w) a S n
 | .ins C dx fs=>H dx=some (.own a) /\ fs.length ≤ 1000 /\ dx ≠ a /\ h.get? a=some (PySem.W.instObj C dx) /\
   ∃ mA,h.Ns1 dx mA /\ (∀ f,p9 (fs.lookup f) (mA f)) /\ PySem.Within mA (fs.map (·.1))
 | .own _=>∃ o,h.get? a=some o
 | .xd fs=>∃ mA,h.Ns1 a mA /\ ∀ f,p9 (fs.lookup f) (mA f)
 | .rng lo hi=>∃ t u v,h.get? a=some { cls:=.type "range", data:=.fields #[.int lo t,.int hi u,.int 1 v] }
 | .frz o u=>h.get? a=some o /\ fu H h a u
 | .tbl ps=>h.get? a=some { cls:=.none,data:=.fields ps }
 | .met f x=>h.get? a=some (PySem.W.methodObj (.ref f) (.ref x))
 | .ext φ=>φ h /\ (∃ o,h.get? a=some o) /\ ∀ h1 h2:Heap,φ h1 -> (∀ o,h1.get? a=some o -> h2.get? a=some o) -> φ h2
def m5 (H:Hp) (h:Heap):Prop:=∀ a o,H a=some o -> fu P w H h a o
end
section
variable {P:Program} {w:World} {H H':Hp} {h h':Heap} {a:Addr} {o:HO}
theorem fu.lt (x:fu P w H h a o):a < h.objs.size:=by
 cases o with
 | lst xs=>obtain ⟨_,_,_,_,e⟩:=x; exact Heap.lt_size e
 | tup xs=>obtain ⟨_,_,_,p⟩:=x; exact p.lt
 | dK kvs=>obtain ⟨_,_,_,_,o,_,_,e,_⟩:=x; exact Heap.lt_size e
 | dT kvs=>obtain ⟨_,_,_,_,o,_,_,e,_⟩:=x; exact Heap.lt_size e
 | set S n=>obtain ⟨o,_,_,_,e,_⟩:=x; exact Heap.lt_size e
 | ins C dx fs=>obtain ⟨_,_,_,e,_⟩:=x; exact Heap.lt_size e
 | own y=>obtain ⟨_,e⟩:=x; exact Heap.lt_size e
 | xd fs=>obtain ⟨_,⟨_,_,_,e,_⟩,_⟩:=x; exact Heap.lt_size e
 | rng lo hi=>obtain ⟨_,_,_,e⟩:=x; exact Heap.lt_size e
 | frz ob u=>obtain ⟨e,_⟩:=x; exact Heap.lt_size e
 | tbl ps=>exact Heap.lt_size (show h.get? a=some _ from x)
 | met f y=>exact Heap.lt_size (show h.get? a=some _ from x)
 | ext φ=>obtain ⟨_,⟨_,e⟩,_⟩:=x; exact Heap.lt_size e
theorem Paired.mapP {α β:Type} {F G:α -> β -> Prop}:∀ {l₁:List α} {l₂:List β},Paired F l₁ l₂ -> (∀ a b,F a b -> G a b) -> Paired G l₁ l₂
 | _,_,.nil,_=>.nil
 | _,_,.cons r t,f=>.cons (f _ _ r) (Paired.mapP t f)
theorem fu.stay (x:fu P w H h a o) (k:∀ b u,(b=a \/ H b=some (.own a)) -> h.get? b=some u -> h'.get? b=some u)
  (ho:∀ b,H b=some (.own a) -> H' b=some (.own a)) (ht:∀ b xs,H b=some (.tup xs) -> H' b=some (.tup xs)):fu P w H' h' a o:=by
 induction o with
 | lst xs=>obtain ⟨z,its,n,r,e⟩:=x; exact ⟨z,its,n,r,k _ _ (.inl rfl) e⟩
 | tup xs=>obtain ⟨z,its,r,ob,e,c⟩:=x; exact ⟨z,its,r,ob,k _ _ (.inl rfl) e,c⟩
 | dK kvs=>obtain ⟨z,y,vs,r,ob,es,ep,e,c⟩:=x; exact ⟨z,y,vs,r,ob,es,ep,k _ _ (.inl rfl) e,c⟩
 | dT kvs =>
  obtain ⟨z,y,xs,r,ob,es,ep,e,c⟩:=x
  exact ⟨z,y,xs,Paired.mapP r fun p q z=>⟨z.1,ht _ _ z.2.1,z.2.2⟩,ob,es,ep,k _ _ (.inl rfl) e,c⟩
 | set S n=>obtain ⟨ob,es,ep,t,e,c⟩:=x; exact ⟨ob,es,ep,t,k _ _ (.inl rfl) e,c⟩
 | ins C dx fs =>
  obtain ⟨d,z,ne,e,mA,⟨od,es,ep,e2,c⟩,r⟩:=x
  exact ⟨ho _ d,z,ne,k _ _ (.inl rfl) e,mA,⟨od,es,ep,k _ _ (.inr d) e2,c⟩,r⟩
 | own y=>obtain ⟨ob,e⟩:=x; exact ⟨ob,k _ _ (.inl rfl) e⟩
 | xd fs=>obtain ⟨mA,⟨od,es,ep,e,c⟩,r⟩:=x; exact ⟨mA,⟨od,es,ep,k _ _ (.inl rfl) e,c⟩,r⟩
 | rng lo hi=>obtain ⟨t,u,v,e⟩:=x; exact ⟨t,u,v,k _ _ (.inl rfl) e⟩
 | frz ob u ih=>obtain ⟨e,q⟩:=x; exact ⟨k _ _ (.inl rfl) e,ih q⟩
 | tbl ps =>
  have e:h.get? a=some { cls:=.none,data:=.fields ps }:=x
  show h'.get? a=some { cls:=.none,data:=.fields ps }
  exact k a _ (.inl rfl) e
 | met f y =>
  have e:h.get? a=some (PySem.W.methodObj (.ref f) (.ref y)):=x
  show h'.get? a=some (PySem.W.methodObj (.ref f) (.ref y))
  exact k a _ (.inl rfl) e
 | ext φ=>obtain ⟨p,⟨o,e⟩,st⟩:=x; exact ⟨st _ _ p fun o q=>k _ _ (.inl rfl) q,⟨o,k _ _ (.inl rfl) e⟩,st⟩
theorem m5.lt (x:m5 P w H h) (e:H a=some o):a < h.objs.size:=(x a o e).lt
theorem m5.fresh (x:m5 P w H h) (e:h.objs.size ≤ a):H a=none:=by
 cases q:H a with
 | none=>rfl
 | some u=>exact absurd (Nat.lt_of_lt_of_le (x.lt q) e) (Nat.lt_irrefl _)
theorem m5.kept (x:m5 P w H h) (k:∀ b u,h.get? b=some u -> h'.get? b=some u):m5 P w H h':=fun a o e =>
 (x a o e).stay (fun b u _ q=>k b u q) (fun _ q=>q) fun _ _ q=>q
theorem m5.laid (x:m5 P w H h) (k:∀ b u,h.get? b=some u -> h'.get? b=some u) (hp:h.objs.size ≤ a) (new:fu P w (upd H a o) h' a o):m5 P w (upd H a o) h':=fun b u e=>by
 have hn:=x.fresh hp
 by_cases hb:b=a
 ·subst hb; rw [aU] at e; cases e; exact new
 ·rw [aK hb] at e
  exact (x b u e).stay (fun c v _ q=>k c v q) (fun c q=>by rw [aK (bA q hn)]; exact q) fun c xs q=>by rw [aK (bA q hn)]; exact q
end
def Rd (H:Hp) (a:Addr) (u:HO):Prop:=H a=some u \/ ∃ o,H a=some (.frz o u)
theorem Rd.of {H:Hp} {a:Addr} {u:HO} (h:H a=some u):Rd H a u:=.inl h
theorem Rd.ok {P:Program} {w:World} {H:Hp} {h:Heap} {a:Addr} {u:HO} (r:Rd H a u) (x:m5 P w H h):fu P w H h a u:=by
 rcases r with r | ⟨o,r⟩
 ·exact x a u r
 ·obtain ⟨_,q⟩:=x a _ r
  exact q
def Lb:Option HO -> Prop
 | some (.lst _)=>True
 | some (.dK _)=>True
 | some (.dT _)=>True
 | some (.set _ _)=>True
 | some (.ins _ _ _)=>True
 | some (.ext _)=>True
 | _=>False
section
variable {P:Program} {w:World} {H:Hp} {h h':Heap} {x e:Addr} {o':HO}
theorem m5.write (ok:m5 P w H h) (mu:Lb (H x)) (he:e=x \/ H e=some (.own x)) (k:∀ b u,b ≠ e -> h.get? b=some u -> h'.get? b=some u) (heo:∃ u,h'.get? e=some u)
  (new:fu P w (upd H x o') h' x o'):m5 P w (upd H x o') h':=fun b u q=>by
 have nown:∀ c y,H c=some (.own y) -> c ≠ x:=fun c y r z=>by subst z; rw [r] at mu; exact mu
 have ntup:∀ c xs,H c=some (.tup xs) -> c ≠ x:=fun c xs r z=>by subst z; rw [r] at mu; exact mu
 by_cases hb:b=x
 ·subst hb; rw [aU] at q; cases q; exact new
 ·rw [aK hb] at q
  by_cases hbe:b=e
  ·have q':H b=some (.own x):=by
    rcases he with z | z
    ·exact absurd (hbe.trans z) hb
    ·rw [hbe]; exact z
   rw [q] at q'; cases q'
   obtain ⟨v,hv⟩:=heo
   exact ⟨v,by rw [hbe]; exact hv⟩
  ·refine (ok b u q).stay (fun c v hc r=>k c v ?_ r) (fun c r=>by rw [aK (nown c b r)]; exact r) fun c xs r=>by rw [aK (ntup c xs r)]; exact r
   rcases hc with rfl | hc
   ·exact hbe
   ·rintro rfl
    rcases he with z | z
    ·exact nown c b hc z
    ·rw [hc] at z; cases z; exact hb rfl
end
structure Un (fs ex:List Addr) (H H':Hp) (h h':Heap):Prop where
 keep:∀ b o,h.get? b=some o -> H b=none -> b ∉ fs -> b ∉ ex -> h'.get? b=some o
 slot:∀ b o,h.get? b=some o -> H b=none -> b ∈ fs -> b ∉ ex -> ∃ sl,h'.get? b=some { o with slots:=sl }
 free:∀ b o,h.get? b=some o -> H b=none -> b ∉ ex -> H' b=none
 there:∀ b o,h.get? b=some o -> b ∉ ex -> ∃ o',h'.get? b=some o'
 tups:∀ b xs,H b=some (.tup xs) -> H' b=some (.tup xs)
 frzs:∀ b o u,H b=some (.frz o u) -> H' b=some (.frz o u)
 tbls:∀ b ps,H b=some (.tbl ps) -> ∃ more,H' b=some (.tbl (ps ++ more))
section
variable {fs fs' ex ex':List Addr} {H H1 H2:Hp} {h h1 h2 h':Heap} {a x e:Addr} {o:HO}
theorem Un.any (u:Un fs ex H H1 h h1) {b:Addr} {ob:Obj} (q:h.get? b=some ob) (n:H b=none) (hx:b ∉ ex):∃ sl,h1.get? b=some { ob with slots:=sl }:=by
 by_cases hb:b ∈ fs
 ·exact u.slot b ob q n hb hx
 ·exact ⟨ob.slots,u.keep b ob q n hb hx⟩
theorem Un.trans (a:Un fs ex H H1 h h1) (b:Un fs ex H1 H2 h1 h2):Un fs ex H H2 h h2 where
 keep:=fun c ob q n hc hx=>b.keep c ob (a.keep c ob q n hc hx) (a.free c ob q n hx) hc hx
 slot:=fun c ob q n hc hx=>by
  obtain ⟨sl,e1⟩:=a.slot c ob q n hc hx
  obtain ⟨sl',e2⟩:=b.slot c _ e1 (a.free c ob q n hx) hc hx
  exact ⟨sl',e2⟩
 free:=fun c ob q n hx=>by
  obtain ⟨o',e1⟩:=a.there c ob q hx
  exact b.free c o' e1 (a.free c ob q n hx) hx
 there:=fun c ob q hx=>by
  obtain ⟨o',e1⟩:=a.there c ob q hx
  exact b.there c o' e1 hx
 tups:=fun c xs q=>b.tups c xs (a.tups c xs q)
 frzs:=fun c ob xs q=>b.frzs c ob xs (a.frzs c ob xs q)
 tbls:=fun c ps q=>by
  obtain ⟨m1,e1⟩:=a.tbls c ps q
  obtain ⟨m2,e2⟩:=b.tbls c _ e1
  exact ⟨m1 ++ m2,by rw [e2,Array.append_assoc]⟩
theorem Un.kept (k:∀ b u,h.get? b=some u -> h'.get? b=some u):Un fs ex H H h h':=
 ⟨fun b ob q _ _ _=>k b ob q,fun b ob q _ _ _=>⟨ob.slots,k b ob q⟩,fun _ _ _ n _=>n,fun b ob q _=>⟨ob,k b ob q⟩,fun _ _ q=>q,fun _ _ _ q=>q,fun _ ps q=>⟨#[],by rw [q]; simp⟩⟩
theorem Un.refl:Un fs ex H H h h:=Un.kept fun _ _ q=>q
theorem Un.laid (k:∀ b u,h.get? b=some u -> h'.get? b=some u) (hp:h.objs.size ≤ a) (hn:H a=none):Un fs ex H (upd H a o) h h' where
 keep:=fun b u q _ _ _=>k b u q
 slot:=fun b u q _ _ _=>⟨u.slots,k b u q⟩
 free:=fun b u q n _=>by rw [aK (Nat.ne_of_lt (Nat.lt_of_lt_of_le (Heap.lt_size q) hp))]; exact n
 there:=fun b u q _=>⟨u,k b u q⟩
 tups:=fun b xs q=>by rw [aK (bA q hn)]; exact q
 frzs:=fun b u xs q=>by rw [aK (bA q hn)]; exact q
 tbls:=fun b ps q=>⟨#[],by rw [aK (bA q hn),q]; simp⟩
theorem Un.write (mu:Lb (H x)) (he:e=x \/ H e=some (.own x)) (k:∀ b u,b ≠ e -> h.get? b=some u -> h'.get? b=some u) (heo:∃ u,h'.get? e=some u):Un fs ex H (upd H x o) h h':=by
 have hx:∀ b,H b=none -> b ≠ x:=fun b n z=>by subst z; rw [n] at mu; exact mu
 have hb:∀ b,H b=none -> b ≠ e:=fun b n z=>by
  subst z
  rcases he with r | r
  ·exact hx b n r
  ·rw [n] at r; cases r
 have hm:∀ b u,H b=some u -> ¬ Lb (some u) -> b ≠ x:=fun b u q nm z=>by subst z; rw [q] at mu; exact nm mu
 refine ⟨fun b u q n _ _=>k b u (hb b n) q,fun b u q n _ _=>⟨u.slots,k b u (hb b n) q⟩,fun b u q n _=>by rw [aK (hx b n)]; exact n,fun b u q _=>?_,
  fun b xs q=>by rw [aK (hm b _ q fun z=>z)]; exact q,fun b u xs q=>by rw [aK (hm b _ q fun z=>z)]; exact q,fun b ps q=>⟨#[],by rw [aK (hm b _ q fun z=>z),q]; simp⟩⟩
 by_cases hbe:b=e
 ·subst hbe; exact heo
 ·exact ⟨u,k b u hbe q⟩
theorem Un.mono (u:Un fs ex H H1 h h1) (hs:∀ b ∈ fs,b ∈ fs') (hx:∀ b ∈ ex,b ∈ ex'):Un fs' ex' H H1 h h1:=
 ⟨fun b ob q n hb he=>u.keep b ob q n (fun z=>hb (hs b z)) fun z=>he (hx b z),fun _ _ q n _ he=>u.any q n fun z=>he (hx _ z),fun b ob q n he=>u.free b ob q n fun z=>he (hx b z),fun b ob q he=>u.there b ob q fun z=>he (hx b z),u.tups,u.frzs,u.tbls⟩
end
def Bl (h:Heap) (H:Hp):List Addr:=(List.range h.objs.size).filter fun a=>(H a).isSome
def sx (h:Heap) (H:Hp):Heap:=PySem.W.hideAll h (Bl h H)
theorem AI (h:Heap) (H:Hp):(sx h H).objs.size=h.objs.size:=PySem.W.hideAll_size _ _
theorem BV {h:Heap} {H:Hp} {b:Addr} {o:Obj} (e:h.get? b=some o) (n:H b=none):(sx h H).get? b=some o:=
 PySem.W.hideAll_get _ e fun hm=>by
  have q:(H b).isSome=true:=(List.mem_filter.mp hm).2
  rw [n] at q; simp at q
theorem Ek {h:Heap} {H:Hp} {b:Addr} {o:Obj} (e:(sx h H).get? b=some o):h.get? b=some o /\ H b=none:=by
 have e':h.get? b=some o:=PySem.W.of_hideAll (Bl h H) e
 refine ⟨e',?_⟩
 cases q:H b with
 | none=>rfl
 | some x =>
  have hm:b ∈ Bl h H:=List.mem_filter.mpr ⟨List.mem_range.mpr (Heap.lt_size e'),by simp [q]⟩
  have z:(sx h H).get? b=none:=PySem.W.hideAll_none (Bl h H) hm
  rw [z] at e; cases e
def Dv (g h:Heap) (L:Addr):List (Addr × Obj):=(List.range h.objs.size).filterMap fun a=>if a=L \/ (g.get? a).isSome=true then none else (h.get? a).map fun o=>(a,o)
def rest (g h:Heap) (L d:Addr):List (Addr × Obj):=(Dv g h L).filter fun p=>decide (p.1 ≠ d)
open PySem PySem.Spec PyProof.Rows
structure Mod (K:PySem.W.Frag) (mg:Str -> Option Value) (base:Heap):Prop where
 kin:K.In base
 glob:base.Ns mainGlobals mg
 blt:∃ mb,base.Ns builtinsNs mb /\ ∀ x:Str,x ≠ "__name__" -> mb x=bootBuiltins x
 nolimit:base.NoLimit
structure Cx where
 prog:Program
 w:World
 K:PySem.W.Frag
 mg:Str -> Option Value
 base:Heap
 A:Around
 N:List Str
 s₀:Shared
 H₀:Hp
 env:Env
 outer:List Env
 stack:List Env
 ex:List Addr
 fn:Str -> Bool
 calm:Bool
 pn:List (Addr × Obj)
 xe:Value -> Shared -> Prop
def nU (l:List Env):List Addr:=l.filterMap (·.frame)
abbrev Cx.fs (X:Cx):List Addr:=nU X.outer
def Jd (sc:Scope) (x:Str):Prop:=sc.names.lookup x=some .local \/ sc.names.lookup x=some .cell \/ sc.names.lookup x=some .free
def Loc (sc:Scope) (x:Str):Prop:=sc.names.lookup x=some .local \/ sc.names.lookup x=some .cell
def Look (env:Env) (h:Heap) (m:Str -> Option Value) (x:Str) (u:Value):Prop:=
 (env.kindOf x=some .local /\ m x=some u) \/ ((env.kindOf x=some .cell \/ env.kindOf x=some .free) /\ ∃ c,env.cells.lookup x=some c /\ h.IsCell c (some u))
structure Cx.Ok (X:Cx):Prop where
 mod:Mod X.K X.mg X.base
 kind:X.env.scope.kind=.function
 glob:X.env.globals=mainGlobals
 blt:X.env.builtins=builtinsNs
 above:X.s₀.heap.objs.size ≤ X.env.locals
 inj:∀ x y c,X.env.cells.lookup x=some c -> X.env.cells.lookup y=some c -> x=y
 has:∀ x,(X.env.kindOf x=some .cell \/ X.env.kindOf x=some .free) -> ∃ c,X.env.cells.lookup x=some c
 cab:∀ x c,X.fn x=true -> X.env.cells.lookup x=some c -> X.s₀.heap.objs.size ≤ c
 hd:X.calm=true -> X.A.handled=none
 frames:X.A.frames=some X.stack
 stk:X.stack=X.outer \/ (X.stack=X.env :: X.outer /\ X.env.frame=some X.env.locals)
 exf:∀ b ∈ X.ex,b ≠ X.env.locals /\ ∀ x c,X.env.cells.lookup x=some c -> c ≠ b
 bs:∀ b o,X.base.get? b=some o -> X.s₀.heap.get? b=some o /\ X.H₀ b=none
 bsz:X.base.objs.size ≤ X.s₀.heap.objs.size
 noex:∀ b o,X.base.get? b=some o -> b ∉ X.ex
 exfs:∀ b ∈ X.ex,b ∉ X.fs
 funs:X.s₀.heap.FunFrames X.base X.outer
 frf:∀ b ∈ X.fs,X.H₀ b=none
structure Inv (X:Cx) (pins:List (Addr × Obj)) (σ:List (Option V)) (H:Hp) (s:Shared):Prop where
 ok:X.Ok
 os:s.os=X.s₀.os
 bare:AllBare s.gens
 base:Un X.fs X.ex X.H₀ H X.s₀.heap s.heap
 loc:∃ m,s.heap.Ns X.env.locals m /\ ∀ (i:Nat) (x:Str) (v:V),X.N[i]? = some x -> σ[i]? = some (some v) -> Jd X.env.scope x -> ∃ u,RelV v u /\ Look X.env s.heap m x u
 cell:∀ x c,X.env.cells.lookup x=some c -> ∃ v,s.heap.IsCell c v
 free:H X.env.locals=none
 freeC:∀ x c,X.env.cells.lookup x=some c -> H c=none
 pin:∀ p ∈ X.pn ++ pins,s.heap.get? p.1=some p.2 /\ H p.1=none /\ p.1 ≠ X.env.locals /\ p.1 ∉ X.fs /\ ∀ v,p.2.data ≠ .cell v
 hok:m5 X.prog X.w H s.heap
 len:σ.length=X.N.length
section
variable {X:Cx} {pins:List (Addr × Obj)} {σ:List (Option V)} {H H':Hp} {s:Shared} {h':Heap}
theorem Cx.Ok.nofr (ok:X.Ok) {b:Addr} {o:Obj} (e:X.base.get? b=some o):b ∉ X.fs:=fun hb=>by
 have:=(ok.funs.mem hb).1
 rw [e] at this; cases this
theorem Inv.bs (I:Inv X pins σ H s):∀ b o,X.base.get? b=some o -> s.heap.get? b=some o /\ H b=none:=fun b o e =>
 ⟨I.base.keep b o (I.ok.bs b o e).1 (I.ok.bs b o e).2 (I.ok.nofr e) (I.ok.noex b o e),I.base.free b o (I.ok.bs b o e).1 (I.ok.bs b o e).2 (I.ok.noex b o e)⟩
theorem Inv.bk (I:Inv X pins σ H s):∀ b o,X.base.get? b=some o -> s.heap.get? b=some o:=fun b o e=>(I.bs b o e).1
theorem Inv.mod (I:Inv X pins σ H s):Mod X.K X.mg X.base:=I.ok.mod
theorem Inv.kIn (I:Inv X pins σ H s):X.K.In s.heap:=I.ok.mod.kin.keeps I.bk
theorem Inv.nolimit (I:Inv X pins σ H s):s.heap.NoLimit:=I.ok.mod.nolimit.keeps I.bk
theorem Inv.fr (I:Inv X pins σ H s):∃ m,Fr X.base X.env.locals s.heap m:=
 let ⟨m,hn,_⟩:=I.loc
 ⟨m,hn,I.bk,Nat.le_trans I.ok.bsz I.ok.above⟩
theorem Inv.lt (I:Inv X pins σ H s):X.env.locals < s.heap.objs.size:=let ⟨_,hn,_⟩:=I.loc; hn.lt
theorem Inv.sz (I:Inv X pins σ H s):X.s₀.heap.objs.size ≤ s.heap.objs.size:=Nat.le_trans I.ok.above (Nat.le_of_lt I.lt)
theorem Inv.nofs (I:Inv X pins σ H s) {a:Addr} (h:s.heap.objs.size ≤ a):a ∉ X.fs:=fun hb=>by
 obtain ⟨_,o,ho,_⟩:=I.ok.funs.mem hb
 exact absurd (Nat.lt_of_lt_of_le (Heap.lt_size ho) (Nat.le_trans I.sz h)) (Nat.lt_irrefl _)
theorem Inv.cne (I:Inv X pins σ H s):∀ x c,X.env.cells.lookup x=some c -> c ≠ X.env.locals:=fun x c e z=>by
 obtain ⟨v,o,ho,hd⟩:=I.cell x c e
 obtain ⟨m,⟨o',es,ep,ho',hd',_⟩,_⟩:=I.loc
 rw [z,ho'] at ho; cases ho; rw [hd'] at hd; cases hd
theorem Inv.funs (I:Inv X pins σ H s):s.heap.FunFrames X.base X.outer:=by
 have all:∀ (l:List Env),(∀ b ∈ nU l,b ∈ X.fs) -> X.s₀.heap.FunFrames X.base l -> s.heap.FunFrames X.base l:=by
  intro l
  induction l with
  | nil=>intro _ _; trivial
  | cons env r ih =>
   intro hs hl
   obtain ⟨hk,⟨L,o,hf,hn,ho,hd⟩,hr⟩:=hl
   have hL:L ∈ X.fs:=hs L (by unfold nU; rw [List.filterMap_cons,hf]; exact List.mem_cons_self)
   obtain ⟨sl,e⟩:=I.base.slot L o ho (I.ok.frf L hL) hL fun z=>I.ok.exfs L z hL
   exact ⟨hk,⟨L,_,hf,hn,e,hd⟩,ih (fun b hb=>hs b (by unfold nU; rw [List.filterMap_cons,hf]; exact List.mem_cons_of_mem _ hb)) hr⟩
 exact all X.outer (fun _ hb=>hb) I.ok.funs
theorem Inv.stack (I:Inv X pins σ H s):s.heap.FunFrames X.base X.stack:=by
 rcases I.ok.stk with e | ⟨e,hf⟩
 ·rw [e]; exact I.funs
 ·rw [e]
  obtain ⟨m,hn,_⟩:=I.loc
  refine .cons (by rw [I.ok.kind]; decide) hf hn ?_ I.funs
  exact Heap.get?_none_of_le (Nat.le_trans I.ok.bsz I.ok.above)
theorem Inv.stkSub (I:Inv X pins σ H s):∀ b ∈ nU X.stack,b ∈ X.env.locals :: X.fs:=fun b hb=>by
 rcases I.ok.stk with e | ⟨e,hf⟩
 ·rw [e] at hb; exact List.mem_cons_of_mem _ hb
 ·rw [e] at hb
  unfold nU at hb
  rw [List.filterMap_cons,hf] at hb
  exact hb
theorem Inv.stkFree (I:Inv X pins σ H s):∀ b ∈ nU X.stack,H b=none:=fun b hb=>by
 rcases List.mem_cons.mp (I.stkSub b hb) with e | hb
 ·rw [e]; exact I.free
 ·obtain ⟨_,o,ho,_⟩:=I.ok.funs.mem hb
  exact I.base.free b o ho (I.ok.frf b hb) fun z=>I.ok.exfs b z hb
theorem Inv.step {g':Array GenState} {t':Nat} {d':Drawn} {ch:List Addr} (I:Inv X pins σ H s)
  (hch:∀ b ∈ ch,(b ∈ X.ex \/ X.s₀.heap.objs.size ≤ b) /\ b ≠ X.env.locals /\ (∀ x c,X.env.cells.lookup x=some c -> c ≠ b) /\ ∀ p ∈ X.pn ++ pins,p.1 ≠ b)
  (keep:∀ b o,b ≠ X.env.locals -> b ∉ X.fs -> b ∉ ch -> s.heap.get? b=some o -> H b=none -> h'.get? b=some o)
  (slot:∀ b o,b ≠ X.env.locals -> b ∈ X.fs -> b ∉ ch -> s.heap.get? b=some o -> H b=none -> ∃ sl,h'.get? b=some { o with slots:=sl }) (free:∀ b o,b ∉ ch -> s.heap.get? b=some o -> H b=none -> H' b=none)
  (there:∀ b o,b ∉ ch -> s.heap.get? b=some o -> ∃ o',h'.get? b=some o')
  (tups:∀ b xs,H b=some (.tup xs) -> H' b=some (.tup xs)) (frzs:∀ b o u,H b=some (.frz o u) -> H' b=some (.frz o u)) (tbls:∀ b ps,H b=some (.tbl ps) -> ∃ more,H' b=some (.tbl (ps ++ more)))
  (ns:∀ m,s.heap.Ns X.env.locals m -> h'.Ns X.env.locals m) (hok:m5 X.prog X.w H' h') (hg:AllBare g') :
  Inv X pins σ H' { s with heap:=h',gens:=g',drawn:=d',toks:=t' }:=by
 have neL:∀ b o,X.s₀.heap.get? b=some o -> b ≠ X.env.locals:=fun b o e=>Nat.ne_of_lt (Nat.lt_of_lt_of_le (Heap.lt_size e) I.ok.above)
 have neC:∀ b o,X.s₀.heap.get? b=some o -> b ∉ X.ex -> b ∉ ch:=fun b o e hx hb=>by
  rcases (hch b hb).1 with z | z
  ·exact hx z
  ·exact absurd (Nat.lt_of_lt_of_le (Heap.lt_size e) z) (Nat.lt_irrefl _)
 have cellK:∀ x c,X.env.cells.lookup x=some c -> ∀ v,s.heap.IsCell c v -> h'.IsCell c v:=fun x c e v hq__=>by
  obtain ⟨o,ho,hd⟩:=hq__
  have nch:c ∉ ch:=fun z=>(hch c z).2.2.1 x c e rfl
  by_cases hc:c ∈ X.fs
  ·obtain ⟨sl,q⟩:=slot c o (I.cne x c e) hc nch ho (I.freeC x c e)
   exact ⟨_,q,hd⟩
  ·exact ⟨o,keep c o (I.cne x c e) hc nch ho (I.freeC x c e),hd⟩
 refine ⟨I.ok,I.os,hg,⟨fun b o e n hb hx=>?_,fun b o e n hb hx=>?_,fun b o e n hx=>?_,fun b o e hx=>?_,fun b xs e=>tups b xs (I.base.tups b xs e),fun b o xs e=>frzs b o xs (I.base.frzs b o xs e),fun b ps e=>?_⟩,?_,fun x c e=>?_,?_,fun x c e=>?_,fun p hp=>?_,hok,I.len⟩
 ·exact keep b o (neL b o e) hb (neC b o e hx) (I.base.keep b o e n hb hx) (I.base.free b o e n hx)
 ·obtain ⟨sl,e1⟩:=I.base.slot b o e n hb hx
  obtain ⟨sl',e2⟩:=slot b _ (neL b o e) hb (neC b o e hx) e1 (I.base.free b o e n hx)
  exact ⟨sl',e2⟩
 ·obtain ⟨o',e1⟩:=I.base.there b o e hx
  exact free b o' (neC b o e hx) e1 (I.base.free b o e n hx)
 ·obtain ⟨o',e1⟩:=I.base.there b o e hx
  exact there b o' (neC b o e hx) e1
 ·obtain ⟨m1,e1⟩:=I.base.tbls b ps e
  obtain ⟨m2,e2⟩:=tbls b _ e1
  exact ⟨m1 ++ m2,by rw [e2,Array.append_assoc]⟩
 ·obtain ⟨m,hn,hl⟩:=I.loc
  refine ⟨m,ns m hn,fun i x v e1 e2 e3=>?_⟩
  obtain ⟨u,r,l⟩:=hl i x v e1 e2 e3
  refine ⟨u,r,?_⟩
  rcases l with l | ⟨k,c,e,z⟩
  ·exact .inl l
  ·exact .inr ⟨k,c,e,cellK x c e _ z⟩
 ·obtain ⟨v,z⟩:=I.cell x c e
  exact ⟨v,cellK x c e v z⟩
 ·obtain ⟨m,⟨o,_,_,ho,_⟩,_⟩:=I.loc
  exact free _ o (fun z=>(hch _ z).2.1 rfl) ho I.free
 ·obtain ⟨v,o,ho,hd⟩:=I.cell x c e
  exact free c o (fun z=>(hch c z).2.2.1 x c e rfl) ho (I.freeC x c e)
 ·obtain ⟨e,n,ne,nf,d⟩:=I.pin p hp
  have nch:p.1 ∉ ch:=fun z=>(hch p.1 z).2.2.2 p hp rfl
  exact ⟨keep p.1 p.2 ne nf nch e n,free p.1 p.2 nch e n,ne,nf,d⟩
theorem Inv.un {t':Nat} (I:Inv X pins σ H s) (u:Un X.fs [] H H' s.heap h') (hok:m5 X.prog X.w H' h'):Inv X pins σ H' { s with heap:=h',toks:=t' }:=by
 obtain ⟨m,⟨o,es,ep,ho,r⟩,_⟩:=id I.loc
 obtain ⟨sl,hL⟩:=u.any ho I.free (by simp)
 exact I.step (g':=s.gens) (d':=s.drawn) (ch:=[]) (fun _ z=>nomatch z) (fun b o _ hb _ e n=>u.keep b o e n hb (by simp)) (fun b o _ hb _ e n=>u.slot b o e n hb (by simp)) (fun b o _ e n=>u.free b o e n (by simp)) (fun b o _ e=>u.there b o e (by simp)) u.tups u.frzs u.tbls (fun m' hm=>by
  obtain ⟨o',es',ep',ho',r'⟩:=hm
  rw [ho] at ho'; cases ho'
  exact ⟨_,es',ep',hL,r'⟩) hok I.bare
theorem Inv.call {g':Array GenState} {t':Nat} {d':Drawn} {ch:List Addr} (I:Inv X pins σ H s) (u:Un (nU X.stack) ch H H' s.heap h') (hok:m5 X.prog X.w H' h') (hg:AllBare g')
  (hch:∀ b ∈ ch,(b ∈ X.ex \/ X.s₀.heap.objs.size ≤ b) /\ b ≠ X.env.locals /\ (∀ x c,X.env.cells.lookup x=some c -> c ≠ b) /\ ∀ p ∈ X.pn ++ pins,p.1 ≠ b) :
  Inv X pins σ H' { s with heap:=h',gens:=g',drawn:=d',toks:=t' }:=by
 obtain ⟨m,⟨o,es,ep,ho,r⟩,_⟩:=id I.loc
 obtain ⟨sl,hL⟩:=u.any ho I.free fun z=>(hch _ z).2.1 rfl
 exact I.step (ch:=ch) hch (fun b o hL hb hc e n=>u.keep b o e n (fun z=>(List.mem_cons.mp (I.stkSub b z)).elim hL hb) hc) (fun b o _ _ hc e n=>u.any e n hc) (fun b o hc e n=>u.free b o e n hc) (fun b o hc e=>u.there b o e hc) u.tups u.frzs u.tbls (fun m' hm=>by
  obtain ⟨o',es',ep',ho',r'⟩:=hm
  rw [ho] at ho'; cases ho'
  exact ⟨_,es',ep',hL,r'⟩) hok hg
theorem Inv.turned {t':Nat} {it:Addr} (I:Inv X pins σ H s) (k:∀ b o,b ≠ it -> s.heap.get? b=some o -> h'.get? b=some o) (hn:H it=none) (hL:it ≠ X.env.locals)
  (h1:it ∈ X.ex \/ X.s₀.heap.objs.size ≤ it) (h2:∀ x c,X.env.cells.lookup x=some c -> c ≠ it) (h3:∀ p ∈ X.pn ++ pins,p.1 ≠ it):Inv X pins σ H { s with heap:=h',toks:=t' }:=by
 have nit:∀ b u,H b=some u -> b ≠ it:=fun b u e z=>by rw [z,hn] at e; cases e
 refine I.step (g':=s.gens) (d':=s.drawn) (ch:=[it]) (fun b hb=>?_) (fun b o _ _ hc e _=>k b o (fun z=>hc (by simp [z])) e) (fun b o _ _ hc e _=>⟨o.slots,k b o (fun z=>hc (by simp [z])) e⟩) (fun _ _ _ _ n=>n)
  (fun b o hc e=>⟨o,k b o (fun z=>hc (by simp [z])) e⟩) (fun _ _ e=>e) (fun _ _ _ e=>e) (fun b ps e=>⟨#[],by rw [e]; simp⟩) (fun m hm=>?_) (fun b u e=>?_) I.bare
 ·have e:b=it:=by simpa using hb
  subst e
  exact ⟨h1,hL,h2,h3⟩
 ·obtain ⟨o,es,ep,ho,r⟩:=hm
  exact ⟨o,es,ep,k _ o (Ne.symm hL) ho,r⟩
 ·refine (I.hok b u e).stay (fun c v hc q=>k c v ?_ q) (fun _ q=>q) fun _ _ q=>q
  rcases hc with z | z
  ·rw [z]; exact nit b u e
  ·exact nit c _ z
theorem Inv.tok (I:Inv X pins σ H s) (t:Nat):Inv X pins σ H { s with toks:=t }:=I.un (h':=s.heap) (t':=t) Un.refl I.hok
theorem Inv.kept {t':Nat} (I:Inv X pins σ H s) (k:∀ b u,s.heap.get? b=some u -> h'.get? b=some u):Inv X pins σ H { s with heap:=h',toks:=t' }:=I.un (Un.kept k) (I.hok.kept k)
theorem Inv.laid {a:Addr} {o:HO} {t':Nat} (I:Inv X pins σ H s) (k:∀ b u,s.heap.get? b=some u -> h'.get? b=some u) (hp:s.heap.objs.size ≤ a) (new:fu X.prog X.w (upd H a o) h' a o) :
  Inv X pins σ (upd H a o) { s with heap:=h',toks:=t' }:=I.un (Un.laid k hp (I.hok.fresh hp)) (I.hok.laid k hp new)
theorem Inv.write {x e:Addr} {o:HO} {t':Nat} (I:Inv X pins σ H s) (mu:Lb (H x)) (he:e=x \/ H e=some (.own x)) (k:∀ b u,b ≠ e -> s.heap.get? b=some u -> h'.get? b=some u) (heo:∃ u,h'.get? e=some u)
  (new:fu X.prog X.w (upd H x o) h' x o):Inv X pins σ (upd H x o) { s with heap:=h',toks:=t' }:=I.un (Un.write mu he k heo) (I.hok.write mu he k heo new)
theorem Inv.weak {σ':List (Option V)} (I:Inv X pins σ H s) (hl:σ'.length=σ.length) (w:∀ (i:Nat) v,σ'[i]? = some (some v) -> σ[i]? = some (some v)):Inv X pins σ' H s:=
 ⟨I.ok,I.os,I.bare,I.base,let ⟨m,hn,hl'⟩:=I.loc; ⟨m,hn,fun i x v e1 e2 e3=>hl' i x v e1 (w i v e2) e3⟩,I.cell,I.free,I.freeC,I.pin,I.hok,hl.trans I.len⟩
theorem Inv.pins_of {pins':List (Addr × Obj)} (I:Inv X pins σ H s) (h:∀ p ∈ pins',s.heap.get? p.1=some p.2 /\ H p.1=none /\ p.1 ≠ X.env.locals /\ p.1 ∉ X.fs /\ ∀ v,p.2.data ≠ .cell v):Inv X pins' σ H s:=
 ⟨I.ok,I.os,I.bare,I.base,I.loc,I.cell,I.free,I.freeC,fun p hp=>(List.mem_append.mp hp).elim (fun z=>I.pin p (List.mem_append_left _ z)) (h p),I.hok,I.len⟩
theorem vR {N:List Str} (hN:N.Nodup) {i j:Nat} {x:Str} (a:N[i]? = some x) (b:N[j]? = some x):i=j:=by
 obtain ⟨h1,e1⟩:=List.getElem?_eq_some_iff.mp a
 obtain ⟨h2,e2⟩:=List.getElem?_eq_some_iff.mp b
 exact (List.getElem_inj hN).mp (e1.trans e2.symm)
theorem qZ {M:Model} {A:Around} {E:Value -> Shared -> Prop} {i:Nat} {x:Str} {v:V} {u:Value} {Q:Unit -> Shared -> Prop} (I:Inv X pins σ H s) (hN:X.N.Nodup) (hi:X.N[i]? = some x) (hx:Loc X.env.scope x) (r:RelV v u)
  (h:∀ s',Inv X pins (σ.set i (some v)) H s' -> (∃ a,Heap.SameBut a s.heap s'.heap /\ (a=X.env.locals \/ X.env.cells.lookup x=some a)) -> Q () s') (hf:X.fn x=true \/ X.env.scope.names.lookup x=some .local:=by first | exact .inl rfl | exact .inr rfl | assumption):wpAny M A (storeName X.env x u) Q E s:=by
 obtain ⟨m,hn,hl⟩:=id I.loc
 have hcls:(X.env.scope.kind == .class || (X.env.scope.kind == .module && X.env.locals != X.env.globals))=false:=by rw [I.ok.kind]; rfl
 have hiσ:i < σ.length:=by rw [I.len]; exact (List.getElem?_eq_some_iff.mp hi).1
 have cne:=I.cne
 have tracked:∀ {a:Addr} {h':Heap},(∃ o,s.heap.get? a=some o /\ H a=none) -> Heap.SameBut a s.heap h' -> m5 X.prog X.w H h':=fun {a h'} ha hs b ob e=>by
  obtain ⟨_,_,hfree⟩:=ha
  refine (I.hok b ob e).stay (fun c w' hc q=>(hs.2 c ?_).trans q) (fun _ q=>q) fun _ _ q=>q
  rintro rfl
  rcases hc with rfl | hc
  ·rw [hfree] at e; cases e
  ·rw [hfree] at hc; cases hc
 rcases hx with hk | hk
 ·refine wpAny_storeName_local hk hn (fun h' hn' hs=>?_) hcls
  obtain ⟨oL,_,_,hoL,_⟩:=id hn
  refine h _ ⟨I.ok,I.os,I.bare,⟨fun b o e n hb hx=>?_,fun b o e n hb hx=>?_,I.base.free,fun b o e hx=>?_,I.base.tups,I.base.frzs,I.base.tbls⟩,⟨_,hn',fun j y v' e1 e2 e3=>?_⟩,fun y c e=>?_,I.free,I.freeC,fun p hp=>?_,tracked ⟨oL,hoL,I.free⟩ hs,by simpa using I.len⟩ ⟨_,hs,.inl rfl⟩
  ·exact (hs.2 b (Nat.ne_of_lt (Nat.lt_of_lt_of_le (Heap.lt_size e) I.ok.above))).trans (I.base.keep b o e n hb hx)
  ·obtain ⟨sl,e1⟩:=I.base.slot b o e n hb hx
   exact ⟨sl,(hs.2 b (Nat.ne_of_lt (Nat.lt_of_lt_of_le (Heap.lt_size e) I.ok.above))).trans e1⟩
  ·obtain ⟨o',e1⟩:=I.base.there b o e hx
   exact ⟨o',(hs.2 b (Nat.ne_of_lt (Nat.lt_of_lt_of_le (Heap.lt_size e) I.ok.above))).trans e1⟩
  ·by_cases hj:j=i
   ·subst hj
    rw [hi] at e1; cases e1
    rw [List.getElem?_set_self hiσ] at e2
    cases e2
    exact ⟨u,r,.inl ⟨hk,by simp⟩⟩
   ·rw [List.getElem?_set_ne (Ne.symm hj)] at e2
    obtain ⟨u',r',q⟩:=hl j y v' e1 e2 e3
    refine ⟨u',r',?_⟩
    rcases q with ⟨k,e⟩ | ⟨k,c,e,z⟩
    ·refine .inl ⟨k,?_⟩
     have:y ≠ x:=fun e=>hj (vR hN e1 (e ▸ hi))
     simp [this,e]
    ·exact .inr ⟨k,c,e,z.sameBut hs (cne y c e)⟩
  ·obtain ⟨w',z⟩:=I.cell y c e
   exact ⟨w',z.sameBut hs (cne y c e)⟩
  ·obtain ⟨e,n,ne,nf,d⟩:=I.pin p hp
   exact ⟨(hs.2 p.1 ne).trans e,n,ne,nf,d⟩
 ·have hfn:X.fn x=true:=by
   rcases hf with z | z
   ·exact z
   ·rw [z] at hk; cases hk
  obtain ⟨c,hc⟩:=I.ok.has x (.inl hk)
  obtain ⟨w',z⟩:=I.cell x c hc
  refine wpAny_storeName_cell I.ok.kind hk hc z (fun h' hc' hs=>?_)
  obtain ⟨oc,hoc,hocd⟩:=id z
  refine h { s with heap:=h' } ⟨I.ok,I.os,I.bare,⟨fun b o e n hb hx=>?_,fun b o e n hb hx=>?_,I.base.free,fun b o e hx=>?_,I.base.tups,I.base.frzs,I.base.tbls⟩,⟨m,hn.sameBut hs (Ne.symm (cne x c hc)),fun j y v' e1 e2 e3=>?_⟩,fun y c' e=>?_,I.free,I.freeC,fun p hp=>?_,tracked ⟨oc,hoc,I.freeC x c hc⟩ hs,by simpa using I.len⟩ ⟨c,hs,.inr hc⟩
  ·exact (hs.2 b (Nat.ne_of_lt (Nat.lt_of_lt_of_le (Heap.lt_size e) (I.ok.cab x c hfn hc)))).trans (I.base.keep b o e n hb hx)
  ·obtain ⟨sl,e1⟩:=I.base.slot b o e n hb hx
   exact ⟨sl,(hs.2 b (Nat.ne_of_lt (Nat.lt_of_lt_of_le (Heap.lt_size e) (I.ok.cab x c hfn hc)))).trans e1⟩
  ·obtain ⟨o',e1⟩:=I.base.there b o e hx
   exact ⟨o',(hs.2 b (Nat.ne_of_lt (Nat.lt_of_lt_of_le (Heap.lt_size e) (I.ok.cab x c hfn hc)))).trans e1⟩
  ·by_cases hj:j=i
   ·subst hj
    rw [hi] at e1; cases e1
    rw [List.getElem?_set_self hiσ] at e2
    cases e2
    exact ⟨u,r,.inr ⟨.inl hk,c,hc,hc'⟩⟩
   ·rw [List.getElem?_set_ne (Ne.symm hj)] at e2
    obtain ⟨u',r',q⟩:=hl j y v' e1 e2 e3
    refine ⟨u',r',?_⟩
    rcases q with q | ⟨k,c',e,z'⟩
    ·exact .inl q
    ·refine .inr ⟨k,c',e,z'.sameBut hs ?_⟩
     rintro rfl
     exact hj (vR hN e1 (I.ok.inj _ _ _ e hc ▸ hi))
  ·by_cases hcc:c'=c
   ·subst hcc; exact ⟨_,hc'⟩
   ·obtain ⟨w2,z2⟩:=I.cell y c' e
    exact ⟨w2,z2.sameBut hs hcc⟩
  ·obtain ⟨e,n,ne,nf,d⟩:=I.pin p hp
   refine ⟨(hs.2 p.1 ?_).trans e,n,ne,nf,d⟩
   intro q
   rw [q,hoc] at e
   have q':oc=p.2:=Option.some.inj e
   exact d w' (by rw [<- q']; exact hocd)
theorem gd {M:Model} {A:Around} {E:Value -> Shared -> Prop} {i:Nat} {x:Str} {v:V} {u:Value} {Q:Unit -> Shared -> Prop} (I:Inv X pins σ H s) (hN:X.N.Nodup) (hi:X.N[i]? = some x) (hx:Loc X.env.scope x) (r:RelV v u)
  (h:∀ s',Inv X pins (σ.set i (some v)) H s' -> Q () s') (hf:X.fn x=true \/ X.env.scope.names.lookup x=some .local:=by first | exact .inl rfl | exact .inr rfl | assumption):wpAny M A (storeName X.env x u) Q E s:=
 qZ I hN hi hx r (fun s' I' _=>h s' I') hf
theorem Inv.call' {s':Shared} {ch:List Addr} (I:Inv X pins σ H s) (ho:s'.os=s.os) (u:Un (nU X.stack) ch H H' s.heap s'.heap) (hok:m5 X.prog X.w H' s'.heap) (hg:AllBare s'.gens)
  (hch:∀ b ∈ ch,(b ∈ X.ex \/ X.s₀.heap.objs.size ≤ b) /\ b ≠ X.env.locals /\ (∀ x c,X.env.cells.lookup x=some c -> c ≠ b) /\ ∀ p ∈ X.pn ++ pins,p.1 ≠ b):Inv X pins σ H' s':=by
 obtain ⟨h',g',d',t',o'⟩:=s'
 have e:o'=s.os:=ho
 subst e
 exact I.call (g':=g') (t':=t') (d':=d') u hok hg hch
end
abbrev XK:=Value -> Option Addr -> Hp -> Prop
abbrev St:=List (Option V)
abbrev VK:=V -> Hp -> Prop
abbrev TE:=St -> Hp -> VK -> Prop
abbrev TT:=St -> Hp -> (Bool -> Hp -> Prop) -> Prop
abbrev TA:=St -> Hp -> (List V -> Hp -> Prop) -> Prop
structure Ends where
 nx:St -> Hp -> Prop
 rt:VK
 bk:St -> Hp -> Prop:=fun _ _=>False
 ct:St -> Hp -> Prop:=fun _ _=>False
abbrev TS:=Ends -> St -> Hp -> Prop
def EP (X:Cx) (pins:List (Addr × Obj)) (σ:St) (Q:VK) (u:Value) (s':Shared):Prop:=∃ v H',Inv X pins σ H' s' /\ RelV v u /\ Q v H'
def TP (X:Cx) (pins:List (Addr × Obj)) (σ:St) (Q:Bool -> Hp -> Prop) (b:Bool) (s':Shared):Prop:=∃ H',Inv X pins σ H' s' /\ Q b H'
def AP (X:Cx) (pins:List (Addr × Obj)) (σ:St) (Q:List V -> Hp -> Prop) (us:List Value) (s':Shared):Prop:=∃ vs H',Inv X pins σ H' s' /\ Vals vs us /\ Q vs H'
def SP (X:Cx) (pins:List (Addr × Obj)) (D:Ends) (f:Flow) (s':Shared):Prop:=
 match f with
 | .next=>∃ σ' H',Inv X pins σ' H' s' /\ D.nx σ' H'
 | .brk=>∃ σ' H',Inv X pins σ' H' s' /\ D.bk σ' H'
 | .cont=>∃ σ' H',Inv X pins σ' H' s' /\ D.ct σ' H'
 | .ret u=>∃ v σ' H',Inv X pins σ' H' s' /\ RelV v u /\ D.rt v H'
def PE (X:Cx) (e:Expr) (t:TE):Prop:=
 ∀ (pins:List (Addr × Obj)) (s:Shared) (σ:St) (H:Hp) (Q:VK),Inv X pins σ H s -> t σ H Q -> wpAny (model X.prog X.w) X.A (eval e X.env) (EP X pins σ Q) X.xe s
def PT (X:Cx) (e:Expr) (t:TT):Prop:=
 ∀ (pins:List (Addr × Obj)) (s:Shared) (σ:St) (H:Hp) (Q:Bool -> Hp -> Prop),Inv X pins σ H s -> t σ H Q -> wpAny (model X.prog X.w) X.A (isTrue e X.env (eval e X.env)) (TP X pins σ Q) X.xe s
def PW (X:Cx) (e:Expr) (t:TT):Prop:=
 ∀ (whole:Sem Value) (pins:List (Addr × Obj)) (s:Shared) (σ:St) (H:Hp) (Q:Bool -> Hp -> Prop),Inv X pins σ H s -> t σ H Q -> wpAny (model X.prog X.w) X.A (isTrue e X.env whole) (TP X pins σ Q) X.xe s
theorem PW.pt {X:Cx} {e:Expr} {t:TT} (h:PW X e t):PT X e t:=h _
def PA (X:Cx) (es:List Expr) (t:TA):Prop:=
 ∀ (pos:Pos) (pins:List (Addr × Obj)) (s:Shared) (σ:St) (H:Hp) (Q:List V -> Hp -> Prop),Inv X pins σ H s -> t σ H Q -> wpAny (model X.prog X.w) X.A (spliced (backTo pos (starEach es X.env))) (AP X pins σ Q) X.xe s
def PS (X:Cx) (st:Stmt) (t:TS):Prop:=
 ∀ (pins:List (Addr × Obj)) (s:Shared) (σ:St) (H:Hp) (D:Ends),Inv X pins σ H s -> t D σ H -> wpAny (model X.prog X.w) X.A (exec st X.env) (SP X pins D) X.xe s
def lF (X:Cx) (st:List Stmt) (t:TS):Prop:=
 ∀ (pins:List (Addr × Obj)) (s:Shared) (σ:St) (H:Hp) (D:Ends),Inv X pins σ H s -> t D σ H -> wpAny (model X.prog X.w) X.A (execs st X.env) (SP X pins D) X.xe s
theorem dh {α:Type} {t:Sem α} {Q Q':α -> Shared -> Prop} {M:Model} {A:Around} {E:Value -> Shared -> Prop} {s:Shared} (h:wpAny M A t Q E s) (hQ:∀ a s,Q a s -> Q' a s):wpAny M A t Q' E s:=wpAny_mono h hQ fun _ _ x=>x
open PySem PySem.Spec PyProof.Rows
section
variable {X:Cx}
def Bc (i:Nat):TE:=fun σ H Q=>∃ v,σ[i]? = some (some v) /\ Q v H
def tC (v:V):TE:=fun _ H Q=>Q v H
theorem Ih {i:Nat} {x:Str} {pos:Pos} (hN:X.N[i]? = some x) (hv:Jd X.env.scope x) (hd:(x == ("__debug__" : Str))=false:=by decide) (hcd:(x == ("__classdict__" : Str))=false:=by decide):PE X (.Name x pos) (Bc i):=by
 intro pins s σ H Q I h
 obtain ⟨v,e,h⟩:=h
 obtain ⟨m,hn,hl⟩:=I.loc
 obtain ⟨u,r,l⟩:=hl i x v hN e hv
 have fin:EP X pins σ Q u s:=⟨v,H,I,r,h⟩
 rcases l with ⟨hk,hm⟩ | ⟨hk,c,hc,hcell⟩
 ·exact wpAny_Name (wpAny_loadName_local I.ok.kind hk hn hm fin) hd
 ·rcases hk with hk | hk
  ·exact wpAny_Name (wpAny_loadName_cell I.ok.kind hk hc hcell fin) hd
  ·exact wpAny_Name (wpAny_loadName_free I.ok.kind hk hc hcell fin hcd) hd
theorem HX {i j pos}:PE X (.Constant (.int i) j pos) (tC (.int i)):=fun _ _ _ H _ I h=>wpAny_Constant_int ⟨.int i,H,I.tok _,⟨_,rfl⟩,h⟩
theorem Kt {b j pos}:PE X (.Constant (.bool b) j pos) (tC (.bl b)):=fun _ _ _ H _ I h=>Constant_bool ⟨.bl b,H,I,rfl,h⟩
theorem HY {j pos}:PE X (.Constant .none j pos) (tC .non):=fun _ _ _ H _ I h=>Constant_none ⟨.non,H,I,rfl,h⟩
theorem Ie {x j pos}:PE X (.Constant (.str x) j pos) (tC (.str x)):=fun _ _ _ H _ I h=>Calls.Constant_str ⟨.str x,H,I.tok _,⟨_,rfl⟩,h⟩
def Gl (X:Cx) (x:Str):Prop:=X.env.kindOf x=some .globalImplicit
theorem iX {E:Value -> Shared -> Prop} {pins:List (Addr × Obj)} {s:Shared} {σ:St} {H:Hp} {x:Str} {u:Value} {pos:Pos} {Q:Value -> Shared -> Prop} (I:Inv X pins σ H s) (hg:Gl X x) (hm:X.mg x=some u) (h:Q u s)
  (hd:(x == ("__debug__" : Str))=false:=by decide):wpAny (model X.prog X.w) X.A (eval (.Name x pos) X.env) Q E s:=
 Calls.Name_function_global I.ok.kind hg (Calls.loadGlobal_global (by rw [I.ok.glob]; exact I.mod.glob.keeps I.bk) hm h) hd
theorem mH {E:Value -> Shared -> Prop} {pins:List (Addr × Obj)} {s:Shared} {σ:St} {H:Hp} {x:Str} {u:Value} {pos:Pos} {Q:Value -> Shared -> Prop} (I:Inv X pins σ H s) (hg:Gl X x) (hm:X.mg x=none) (hv:bootBuiltins x=some u) (h:Q u s)
  (hn:x ≠ "__name__" := by decide) (hd:(x == ("__debug__" : Str))=false:=by decide):wpAny (model X.prog X.w) X.A (eval (.Name x pos) X.env) Q E s:=by
 obtain ⟨mb,h1,h2⟩:=I.mod.blt
 exact Calls.Name_function_global I.ok.kind hg (Calls.loadGlobal_builtin (by rw [I.ok.glob]; exact I.mod.glob.keeps I.bk) hm (by rw [I.ok.blt]; exact h1.keeps I.bk) ((h2 x hn).trans hv) h) hd
theorem uc {x:Str} {v:V} {u:Value} {pos:Pos} (hg:Gl X x) (hm:X.mg x=some u) (r:RelV v u) (hd:(x == ("__debug__" : Str))=false:=by decide):PE X (.Name x pos) (tC v):=
 fun _ _ _ H _ I h=>iX I hg hm ⟨v,H,I,r,h⟩ hd
theorem Eu {x:Str} {v:V} {u:Value} {pos:Pos} (hg:Gl X x) (hm:X.mg x=none) (hv:bootBuiltins x=some u) (r:RelV v u) (hn:x ≠ "__name__" := by decide) (hd:(x == ("__debug__" : Str))=false:=by decide):PE X (.Name x pos) (tC v):=
 fun _ _ _ H _ I h=>mH I hg hm hv ⟨v,H,I,r,h⟩ hn hd
variable {a b:Expr} {ta tb:TE} {pos:Pos}
variable {tA tB':TT} {rest:List Expr}
def Mn (t u:TT):TT:=fun σ H Q=>t σ H fun c H1=>if c=true then u σ H1 Q else Q false H1
def Nj (t u:TT):TT:=fun σ H Q=>t σ H fun c H1=>if c=true then Q true H1 else u σ H1 Q
def Mt (t:TT):TT:=fun σ H Q=>t σ H fun c H1=>Q (!c) H1
theorem EI (ha:PT X a tA):PW X (.BoolOp .And [a] pos) tA:=by
 intro wh pins s σ H Q I h
 refine isTrue_and (dh (ha pins s σ H Q I h) fun c s1 e=>?_)
 cases c with
 | true=>exact isTrue_and_nil e
 | false=>exact e
theorem Iv (ha:PT X a tA):PW X (.BoolOp .Or [a] pos) tA:=by
 intro wh pins s σ H Q I h
 refine isTrue_or (dh (ha pins s σ H Q I h) fun c s1 e=>?_)
 cases c with
 | false=>exact isTrue_or_nil e
 | true=>exact e
theorem Iu (ha:PT X a tA) (hb:PW X (.BoolOp .And (b :: rest) pos) tB'):PW X (.BoolOp .And (a :: b :: rest) pos) (Mn tA tB'):=by
 intro wh pins s σ H Q I h
 refine isTrue_and (dh (ha pins s σ H _ I h) fun c s1 ⟨H1,I1,q1⟩=>?_)
 cases c with
 | true=>exact hb wh pins s1 σ H1 Q I1 q1
 | false=>exact ⟨H1,I1,q1⟩
theorem Kz (ha:PT X a tA) (hb:PW X (.BoolOp .Or (b :: rest) pos) tB'):PW X (.BoolOp .Or (a :: b :: rest) pos) (Nj tA tB'):=by
 intro wh pins s σ H Q I h
 refine isTrue_or (dh (ha pins s σ H _ I h) fun c s1 ⟨H1,I1,q1⟩=>?_)
 cases c with
 | true=>exact ⟨H1,I1,q1⟩
 | false=>exact hb wh pins s1 σ H1 Q I1 q1
theorem Ir (ha:PT X a tA):PT X (.UnaryOp .Not a pos) (Mt tA):=by
 intro pins s σ H Q I h
 exact isTrue_not (ha pins s σ H (fun c H1=>Q (!c) H1) I h)
def KL (ta tb:TE):TE:=fun σ H Q=>ta σ H fun x H1=>∃ c,x=.bl c /\ if c=true then tb σ H1 Q else Q (.bl false) H1
def KW (ta:TE):TE:=fun σ H Q=>ta σ H fun x H1=>∃ c,x=.bl c /\ Q (.bl (!c)) H1
theorem Ia {op} {t:TE} (h:PE X a t):PE X (.BoolOp op [a] pos) t:=fun pins s σ H Q I hw=>BoolOp_one (h pins s σ H Q I hw)
theorem HU (ha:PE X a ta) (hb:PE X (.BoolOp .And (b :: rest) pos) tb):PE X (.BoolOp .And (a :: b :: rest) pos) (KL ta tb):=by
 intro pins s σ H Q I h
 refine BoolOp_and (dh (ha pins s σ H _ I h) fun v s1 ⟨x,H1,I1,r1,q1⟩=>?_)
 obtain ⟨c,rfl,q1⟩:=q1
 cases r1
 refine wpAny_truthy_bool ?_
 cases c with
 | true=>exact hb pins s1 σ H1 Q I1 q1
 | false=>exact ⟨.bl false,H1,I1,rfl,q1⟩
theorem HZ (ha:PE X a ta):PE X (.UnaryOp .Not a pos) (KW ta):=by
 intro pins s σ H Q I h
 refine UnaryOp_ (dh (ha pins s σ H _ I h) fun v s1 ⟨x,H1,I1,r1,q1⟩=>?_)
 obtain ⟨c,rfl,q1⟩:=q1
 cases r1
 exact not_of (wpAny_truthy_bool ⟨.bl (!c),H1,I1,rfl,q1⟩)
end
open PySem PySem.Spec PyProof.Rows
def iA (K:PySem.W.Frag) (H:Hp) (a:Addr) (xs:List V):Prop:=
 Rd H a (.lst xs) \/
  ∃ (o:Obj) (its:Array Value) (n:Nat),K.lookup a=some o /\ o.cls=.type "list" /\ o.dict=none /\ o.data=.seq its n /\ its.size ≤ sizeLine /\ Vals xs its.toList
def lu (K:PySem.W.Frag) (H:Hp) (a:Addr) (xs:List V):Prop:=
 Rd H a (.tup xs) \/
  ∃ (o:Obj) (its:Array Value) (n:Nat),K.lookup a=some o /\ o.cls=.type "tuple" /\ o.data=.seq its n /\ its.size ≤ sizeLine /\ Vals xs its.toList
def LN:Value -> Option V
 | .none=>some .non
 | .bool b=>some (.bl b)
 | .int i _=>some (.int i)
 | .str x _=>some (.str x)
 | .bytes b _=>some (.byt b)
 | .float b _=>some (.flt b)
 | .ref a=>some (.ref a)
 | .type n=>some (.ty n)
 | _=>none
theorem RelV.abs {x:V} {u:Value} (r:RelV x u):LN u=some x:=by
 cases x with
 | non=>cases r; rfl
 | bl _=>cases r; rfl
 | int _=>obtain ⟨t,rfl⟩:=r; rfl
 | str _=>obtain ⟨t,rfl⟩:=r; rfl
 | byt _=>obtain ⟨t,rfl⟩:=r; rfl
 | flt _=>obtain ⟨t,rfl⟩:=r; rfl
 | ref _=>cases r; rfl
 | ty _=>cases r; rfl
theorem RelV.inj {x y:V} {u:Value} (r:RelV x u) (q:RelV y u):x=y:=Option.some.inj (r.abs.symm.trans q.abs)
theorem Vals.inj:∀ {xs ys:List V} {us:List Value},Vals xs us -> Vals ys us -> xs=ys
 | _,_,_,.nil,.nil=>rfl
 | _,_,_,.cons r t,.cons r' t'=>by rw [r.inj r',Vals.inj t t']
section
variable {X:Cx} {pins:List (Addr × Obj)} {σ:St} {H:Hp} {s:Shared} {a:Addr} {xs ys:List V}
theorem iA.of {K:PySem.W.Frag} (h:H a=some (.lst xs)):iA K H a xs:=.inl (.inl h)
theorem lu.of {K:PySem.W.Frag} (h:H a=some (.tup xs)):lu K H a xs:=.inl (.inl h)
theorem Inv.list (I:Inv X pins σ H s) (h:iA X.K H a xs):∃ its:List Value,Vals xs its /\ PlainL s.heap a its.toArray /\ xs.length ≤ sizeLine:=by
 rcases h with h | ⟨o,its,n,hk,hc,hd,hs,hz,r⟩
 ·obtain ⟨z,its,n,r,e⟩:=h.ok I.hok
  exact ⟨its,r,⟨_,n,e,rfl,rfl,rfl⟩,z⟩
 ·refine ⟨its.toList,r,⟨o,n,I.kIn a o hk,hc,hd,by simpa using hs⟩,?_⟩
  have e:=r.length
  simp only [Array.length_toList] at e
  omega
theorem Inv.tuple (I:Inv X pins σ H s) (h:lu X.K H a xs):∃ its:List Value,Vals xs its /\ IsTup s.heap a its.toArray /\ xs.length ≤ sizeLine:=by
 rcases h with h | ⟨o,its,n,hk,hc,hs,hz,r⟩
 ·obtain ⟨z,its,r,p⟩:=h.ok I.hok
  exact ⟨its,r,p,z⟩
 ·refine ⟨its.toList,r,⟨o,I.kIn a o hk,hc,n,by simpa using hs⟩,?_⟩
  have e:=r.length
  simp only [Array.length_toList] at e
  omega
theorem Inv.list_inj (I:Inv X pins σ H s) (h:iA X.K H a xs) (h':iA X.K H a ys):xs=ys:=by
 obtain ⟨its,r,⟨o,n,e,_,_,d⟩,_⟩:=I.list h
 obtain ⟨its',r',⟨o',n',e',_,_,d'⟩,_⟩:=I.list h'
 rw [e] at e'; cases e'
 rw [d] at d'
 injection d' with d1 _
 have:its=its':=by simpa using congrArg Array.toList d1
 subst this
 exact r.inj r'
theorem Inv.tuple_inj (I:Inv X pins σ H s) (h:lu X.K H a xs) (h':lu X.K H a ys):xs=ys:=by
 obtain ⟨its,r,⟨o,e,_,n,d⟩,_⟩:=I.tuple h
 obtain ⟨its',r',⟨o',e',_,n',d'⟩,_⟩:=I.tuple h'
 rw [e] at e'; cases e'
 rw [d] at d'
 injection d' with d1 _
 have:its=its':=by simpa using congrArg Array.toList d1
 subst this
 exact r.inj r'
end
abbrev Cx.wish (X:Cx) (E:Value -> Shared -> Prop):Cx:={ X with xe:=E }
abbrev Cx.nox (X:Cx):Cx:=X.wish fun _ _=>False
theorem Cx.Ok.wish {X:Cx} (ok:X.Ok) (E:Value -> Shared -> Prop):(X.wish E).Ok:=
 ⟨ok.mod,ok.kind,ok.glob,ok.blt,ok.above,ok.inj,ok.has,ok.cab,ok.hd,ok.frames,ok.stk,ok.exf,ok.bs,ok.bsz,ok.noex,ok.exfs,ok.funs,ok.frf⟩
theorem Cx.Ok.unwish {X:Cx} {E:Value -> Shared -> Prop} (ok:(X.wish E).Ok):X.Ok:=
 ⟨ok.mod,ok.kind,ok.glob,ok.blt,ok.above,ok.inj,ok.has,ok.cab,ok.hd,ok.frames,ok.stk,ok.exf,ok.bs,ok.bsz,ok.noex,ok.exfs,ok.funs,ok.frf⟩
section
variable {X:Cx} {pins:List (Addr × Obj)} {σ:St} {H:Hp} {s:Shared} {E:Value -> Shared -> Prop}
theorem Inv.wish (I:Inv X pins σ H s) (E:Value -> Shared -> Prop):Inv (X.wish E) pins σ H s:=⟨I.ok.wish E,I.os,I.bare,I.base,I.loc,I.cell,I.free,I.freeC,I.pin,I.hok,I.len⟩
theorem Inv.unwish (I:Inv (X.wish E) pins σ H s):Inv X pins σ H s:=⟨I.ok.unwish,I.os,I.bare,I.base,I.loc,I.cell,I.free,I.freeC,I.pin,I.hok,I.len⟩
theorem SP.unwish {D:Ends} {f:Flow} {s':Shared} (h:SP (X.wish E) pins D f s'):SP X pins D f s':=by
 cases f with
 | next=>obtain ⟨σ',H',I,q⟩:=h; exact ⟨σ',H',I.unwish,q⟩
 | brk=>obtain ⟨σ',H',I,q⟩:=h; exact ⟨σ',H',I.unwish,q⟩
 | cont=>obtain ⟨σ',H',I,q⟩:=h; exact ⟨σ',H',I.unwish,q⟩
 | ret u=>obtain ⟨v,σ',H',I,r,q⟩:=h; exact ⟨v,σ',H',I.unwish,r,q⟩
theorem PE.nox {e:Expr} {t:TE} (h:PE X.nox e t):PE X e t:=fun pins s σ H Q I hw =>
 wpAny_mono (h pins s σ H Q (I.wish _) hw) (fun _ _ ⟨v,H',I',r,q⟩=>⟨v,H',I'.unwish,r,q⟩) fun _ _ z=>False.elim z
theorem PT.nox {e:Expr} {t:TT} (h:PT X.nox e t):PT X e t:=fun pins s σ H Q I hw =>
 wpAny_mono (h pins s σ H Q (I.wish _) hw) (fun _ _ ⟨H',I',q⟩=>⟨H',I'.unwish,q⟩) fun _ _ z=>False.elim z
theorem lF.nox {st:List Stmt} {t:TS} (h:lF X.nox st t):lF X st t:=fun pins s σ H D I hw =>
 wpAny_mono (h pins s σ H D (I.wish _) hw) (fun _ _ q=>q.unwish) fun _ _ z=>False.elim z
end
section
variable {X:Cx} {st:Stmt} {rest:List Stmt} {t u:TS} {e:Expr} {te:TE} {pos:Pos}
def KS:TS:=fun D σ H=>D.nx σ H
def Mw (t u:TS):TS:=fun D σ H=>t { D with nx:=u D } σ H
theorem ud:lF X [] KS:=fun _ _ σ H _ I h=>wpAny_execs_nil ⟨σ,H,I,h⟩
theorem lT (h1:PS X st t) (h2:lF X rest u):lF X (st :: rest) (Mw t u):=by
 intro pins s σ H D I h
 refine wpAny_execs_cons (dh (h1 pins s σ H { D with nx:=u D } I h) fun f s1 q=>?_)
 cases f with
 | next =>
  obtain ⟨σ',H',I',q⟩:=q
  exact h2 pins s1 σ' H' D I' q
 | ret v=>exact q
 | brk=>exact q
 | cont=>exact q
theorem zL (h1:PS X st t):lF X [st] t:=by
 intro pins s σ H D I h
 refine wpAny_execs_cons (dh (h1 pins s σ H D I h) fun f s1 q=>?_)
 cases f with
 | next=>exact wpAny_execs_nil q
 | ret v=>exact q
 | brk=>exact q
 | cont=>exact q
theorem Inv.quiet {pins:List (Addr × Obj)} {σ:St} {H:Hp} {s:Shared} (I:Inv X pins σ H s):interactive X.env=false:=by simp [interactive,I.ok.kind]
def KQ (te:TE):TS:=fun D σ H=>te σ H fun _ H1=>D.nx σ H1
theorem EF (he:PE X e te) (hs:swapsWith e none pos.line X.env=pure false:=by rfl):PS X (.Expr e pos) (KQ te):=by
 intro pins s σ H D I h
 exact wpAny_Expr_any (dh (he pins s σ H _ I h) fun v s1 ⟨x,H1,I1,r1,q1⟩=>⟨σ,H1,I1,q1⟩) I.quiet hs
def Mv (te:TE):TS:=fun D σ H=>te σ H D.rt
theorem CD (he:PE X e te):PS X (.Return (some e) pos) (Mv te):=by
 intro pins s σ H D I h
 exact wpAny_Return_some (dh (he pins s σ H _ I h) fun v s1 ⟨x,H1,I1,r1,q1⟩=>⟨x,σ,H1,I1,r1,q1⟩)
def Mr (c:TT) (t u:TS):TS:=fun D σ H=>c σ H fun b H1=>if b=true then t D σ H1 else u D σ H1
theorem Ky {c:Expr} {a b:List Stmt} {tc:TT} (hc:PT X c tc) (ha:lF X a t) (hb:lF X b u):PS X (.If c a b pos) (Mr tc t u):=by
 intro pins s σ H D I h
 refine wpAny_If (dh (hc pins s σ H _ I h) fun d s1 ⟨H1,I1,q1⟩=>?_)
 cases d with
 | true=>exact ha pins s1 σ H1 D I1 q1
 | false=>exact hb pins s1 σ H1 D I1 q1
def CZ:TS:=fun _ _ _=>False
theorem CC:PS X st CZ:=fun _ _ _ _ _ _ h=>h.elim
theorem A0 {sts:List Stmt}:lF X sts CZ:=fun _ _ _ _ _ _ h=>h.elim
end
abbrev TG:=V -> St -> Hp -> (St -> Hp -> Prop) -> Prop
abbrev Dk:=List V -> St -> Hp -> (St -> Hp -> Prop) -> Prop
def PG (X:Cx) (target:Expr) (t:TG):Prop:=
 ∀ (pins:List (Addr × Obj)) (s:Shared) (σ:St) (H:Hp) (v:V) (u:Value) (Q:St -> Hp -> Prop),Inv X pins σ H s -> RelV v u -> t v σ H Q ->
  wpAny (model X.prog X.w) X.A (assign target X.env u) (fun _ s'=>∃ σ' H',Inv X pins σ' H' s' /\ Q σ' H') X.xe s
def Ja (X:Cx) (ts:List Expr) (t:Dk):Prop:=
 ∀ (pins:List (Addr × Obj)) (s:Shared) (σ:St) (H:Hp) (vs:List V) (us:List Value) (Q:St -> Hp -> Prop),Inv X pins σ H s -> Vals vs us -> t vs σ H Q ->
  wpAny (model X.prog X.w) X.A (assignInOrder ((assignEach ts X.env).map (·.2)) us) (fun _ s'=>∃ σ' H',Inv X pins σ' H' s' /\ Q σ' H') X.xe s
abbrev GH:=V -> V -> V -> Hp -> (Hp -> Prop) -> Prop
def Jv (X:Cx) (t:GH):Prop:=
 ∀ (pins:List (Addr × Obj)) (s:Shared) (σ:St) (H:Hp) (o i v:V) (ov iv u:Value) (Q:Hp -> Prop),Inv X pins σ H s -> RelV o ov -> RelV i iv -> RelV v u -> t o i v H Q ->
  wpAny (model X.prog X.w) X.A (setItem ov iv u) (fun _ s'=>∃ H',Inv X pins σ H' s' /\ Q H') X.xe s
section
variable {X:Cx} {pos:Pos}
def Ga (i:Nat):TG:=fun v σ H Q=>Q (σ.set i (some v)) H
theorem Ez {i:Nat} {x:Str} (hN:X.N.Nodup) (hi:X.N[i]? = some x) (hx:Loc X.env.scope x) (hf:X.fn x=true \/ X.env.scope.names.lookup x=some .local:=by first | exact .inl rfl | exact .inr rfl | assumption):PG X (.Name x pos) (Ga i):=by
 intro pins s σ H v u Q I r h
 exact wpAny_assign_Name (gd I hN hi hx r (fun s' I'=>⟨_,H,I',h⟩) hf)
def LZ:Dk:=fun vs σ H Q=>vs=[] /\ Q σ H
def JU (t:TG) (u:Dk):Dk:=fun vs σ H Q=>∃ v r,vs=v :: r /\ t v σ H fun σ' H'=>u r σ' H' Q
theorem EA:Ja X [] LZ:=by
 intro pins s σ H vs us Q I r h
 obtain ⟨e,h⟩:=h
 subst e
 cases r
 exact assignInOrder_nil ⟨σ,H,I,h⟩
theorem Cy {e:Expr} {es:List Expr} {t:TG} {u:Dk} (h1:PG X e t) (h2:Ja X es u)
  (hs:(assignEach (e :: es) X.env).map (·.2)=assign e X.env :: (assignEach es X.env).map (·.2):=by rfl):Ja X (e :: es) (JU t u):=by
 intro pins s σ H vs us Q I r h
 obtain ⟨v,vr,e1,h⟩:=h
 subst e1
 cases r with
 | cons r rr =>
  rw [hs]
  refine assignInOrder_cons (dh (h1 pins s σ H _ _ _ I r h) fun _ s1 ⟨σ1,H1,I1,q1⟩=>?_)
  exact h2 pins s1 σ1 H1 _ _ Q I1 rr q1
def L1 (K:PySem.W.Frag) (n:Nat) (t:Dk):TG:=fun v σ H Q=>∃ a xs,v=.ref a /\ lu K H a xs /\ xs.length=n /\ t xs σ H Q
theorem Ik {es:List Expr} {k:Nat} {t:Dk} {n:Nat} (hc:X.calm=true) (h:Ja X es t)
  (hn:(assignEach es X.env).length=n:=by rfl) (hst:(assignEach es X.env).findIdx? (·.1)=none:=by rfl):PG X (.Tuple es k pos) (L1 X.K n t):=by
 intro pins s σ H v u Q I r hw
 obtain ⟨a,xs,e1,hq,hl,hw⟩:=hw
 subst e1
 cases r
 obtain ⟨its,rv,ht,hz⟩:=I.tuple hq
 refine assign_Tuple_tuple (I.ok.hd hc) ht (by simp [hn,<- hl,rv.length]) hst fun h' hx=>?_
 have I1:Inv X pins σ H { s with heap:=h' }:=I.kept (t':=s.toks) fun b o e=>hx b o (Nat.ne_of_lt (Heap.lt_size e)) e
 exact h pins _ σ H xs _ Q I1 (by simpa using rv) hw
def sv (to ti:TE) (t:GH):TG:=fun v σ H Q=>to σ H fun o H1=>ti σ H1 fun i H2=>t o i v H2 fun H3=>Q σ H3
theorem Ij {o i:Expr} {to ti:TE} {t:GH} (ho:PE X o to) (hi:PE X i ti) (hs:Jv X t)
  (ha:∀ v,assign (.Subscript o i pos) X.env v=(do
   let ov <- holding [v] (eval o X.env)
   let iv <- holding [v,ov] (eval i X.env)
   standAt pos
   holding [v,ov,iv] (setItem ov iv v)
   release [v,ov,iv] []):=by intro _; rfl):PG X (.Subscript o i pos) (sv to ti t):=by
 intro pins s σ H v u Q I r h
 rw [ha]
 refine wpAny_bind (wpAny_holding (dh (ho pins s σ H _ I h) fun ov s1 ⟨x,H1,I1,r1,q1⟩=>?_))
 refine wpAny_bind (wpAny_holding (dh (hi pins s1 σ H1 _ I1 q1) fun iv s2 ⟨y,H2,I2,r2,q2⟩=>?_))
 refine wpAny_bind (wpAny_standAt (wpAny_bind (wpAny_holding (dh (hs pins s2 σ H2 x y v ov iv u _ I2 r1 r2 r q2) fun _ s3 ⟨H3,I3,q3⟩=>?_))))
 exact wpAny_release ⟨σ,H3,I3,q3⟩
def KN (te:TE) (g:TG):TS:=fun D σ H=>te σ H fun x H1=>g x σ H1 D.nx
theorem CA {tg e:Expr} {te:TE} {g:TG} (he:PE X e te) (hg:PG X tg g) (hs:swapsWithSole [tg] e pos.line X.env=pure false:=by rfl) (hw:swappedStores [tg] e X.env=pure none:=by rfl)
  (h1:(assignEach [tg] X.env).map (·.2)=[assign tg X.env]:=by rfl):PS X (.Assign [tg] e pos) (KN te g):=by
 intro pins s σ H D I h
 refine wpAny_Assign_stores (dh (he pins s σ H _ I h) fun v s1 ⟨x,H1,I1,r1,q1⟩=>?_) hs hw
 rw [h1]
 exact dh (hg pins s1 σ H1 x v _ I1 r1 q1) fun _ s2 q=>q
theorem CF {i:Nat} {x:Str} {e:Expr} {te:TE} {pos':Pos} (hN:X.N.Nodup) (hi:X.N[i]? = some x) (hx:Loc X.env.scope x) (he:PE X e te) (hs:swapsWith e (some (.Name x pos')) pos.line X.env=pure false:=by rfl) (hf:X.fn x=true \/ X.env.scope.names.lookup x=some .local:=by first | exact .inl rfl | exact .inr rfl | assumption) :
  PS X (.Assign [.Name x pos'] e pos) (KN te (Ga i)):=by
 intro pins s σ H D I h
 refine wpAny_Assign_Name (dh (he pins s σ H _ I h) fun v s1 ⟨y,H1,I1,r1,q1⟩=>?_) hs
 exact gd I1 hN hi hx r1 (fun s2 I2=>⟨_,H1,I2,q1⟩) hf
def Mu (i j:Nat) (ta:TA):TS:=fun D σ H=>ta σ H fun vs H1=>∃ v w,vs=[v,w] /\ D.nx ((σ.set i (some v)).set j (some w)) H1
theorem Iq {i j:Nat} {x y:Str} {a b:Expr} {ta:TA} {px py pt:Pos} {kt k2 pt2} (hc:X.calm=true) (hN:X.N.Nodup) (hi:X.N[i]? = some x) (hj:X.N[j]? = some y) (hij:i ≠ j)
  (hx:X.env.scope.names.lookup x=some .local) (hy:X.env.scope.names.lookup y=some .local) (ha:PA X [a,b] ta)
  (hw:swappedStores [.Tuple [.Name x px,.Name y py] kt pt] (.Tuple [a,b] k2 pt2) X.env=pure (some [x,y]))
  (hs:swapsWithSole [.Tuple [.Name x px,.Name y py] kt pt] (.Tuple [a,b] k2 pt2) pos.line X.env=pure false:=by rfl) :
  PS X (.Assign [.Tuple [.Name x px,.Name y py] kt pt] (.Tuple [a,b] k2 pt2) pos) (Mu i j ta):=by
 intro pins s σ H D I h
 rw [exec_Assign_arm]
 refine wpAny_bind (wpAny_standAt ?_)
 rw [hs]
 refine wpAny_bind (wpAny_pure ?_)
 rw [if_neg (by decide)]
 refine wpAny_bind (Tuple_ (dh (ha _ pins s σ H _ I h) fun us s1 ⟨vs,H1,I1,r1,q1⟩=>?_))
 obtain ⟨v,w,e1,q1⟩:=q1
 subst e1
 obtain ⟨u1,u2,rfl,rv,rw'⟩:∃ u1 u2,us=[u1,u2] /\ RelV v u1 /\ RelV w u2:=by
  cases r1 with
  | cons p q =>
   cases q with
   | cons p' q' =>
    cases q'
    exact ⟨_,_,rfl,p,p'⟩
 refine wpAny_newObj_type ?_ (by show 2 ≤ sizeLine; decide)
 have I2:Inv X pins σ H1 { s1 with heap:=s1.heap.push { cls:=.type "tuple", data:=.seq [u1,u2].toArray } }:=I1.kept (t':=s1.toks) fun b o e=>Heap.get?_push_of_some _ e
 rw [hw]
 refine wpAny_bind (wpAny_pure ?_)
 show wpAny (model X.prog X.w) X.A (do rule "assign.swapped-stores"; let items <- unpackItems (.ref s1.heap.objs.size) 2 none; assignInOrder [fun v=>bindName X.env y v,fun v=>bindName X.env x v] items.reverse; pure Flow.next) _ _ _
 refine wpAny_bind (wpAny_rule (wpAny_bind (unpackItems_tuple (items:=#[u1,u2]) (I.ok.hd hc) (IsTup.new s1.heap _) fun h' hx'=>?_)))
 have I3:=I2.kept (h':=h') (t':=s1.toks) fun b o e=>hx' b o (Nat.ne_of_lt (Heap.lt_size e)) e
 show wpAny _ _ (assignInOrder [fun v=>bindName X.env y v,fun v=>bindName X.env x v] [u2,u1] >>= fun _=>pure Flow.next) _ _ _
 refine wpAny_bind (assignInOrder_cons (wpAny_bindName (gd I3 hN hj (.inl hy) rw' (fun s2 I4=>?_) (.inr hy))))
 refine assignInOrder_cons (wpAny_bindName (gd I4 hN hi (.inl hx) rv (fun s3 I5=>assignInOrder_nil (wpAny_pure ?_)) (.inr hx)))
 rw [List.set_comm _ _ (Ne.symm hij)] at I5
 exact ⟨_,H1,I5,q1⟩
end
section
variable {X:Cx} {pos:Pos}
def II (c:TT) (tb:TS):TS:=fun D σ H=>∃ W:Nat -> St -> Hp -> Prop,(∃ m,W m σ H) /\ ∀ m σ H,W m σ H ->
 c σ H fun b H1=>if b=true then ∃ N:St -> Hp -> Prop,(∀ σ' H',N σ' H' -> ∃ m',m' < m /\ W m' σ' H') /\ tb { D with nx:=N,ct:=N,bk:=D.nx } σ H1 else D.nx σ H1
theorem CG {c:Expr} {body:List Stmt} {tc:TT} {tb:TS} (hp:PassesOwn (model X.prog X.w) X.A X.env X.xe) (hc:PT X c tc) (hb:lF X body tb):PS X (.While c body [] pos) (II tc tb):=by
 intro pins s σ H D I h
 obtain ⟨W,⟨m0,w0⟩,turn⟩:=h
 refine wpAny_While (codeAny_whileLoop (fun n s'=>∃ σ' H',Inv X pins σ' H' s' /\ W n σ' H') ?_ m0 ⟨σ,H,I,w0⟩)
 rintro n s1 ⟨σ1,H1,I1,w1⟩
 refine wpAny_passesOwn hp (dh (hc pins s1 σ1 H1 _ I1 (turn n σ1 H1 w1)) fun b s2 ⟨H2,I2,q2⟩=>?_)
 cases b with
 | true =>
  obtain ⟨N,hN,q2⟩:=q2
  rw [if_pos rfl]
  refine wpAny_passesOwn hp (dh (hb pins s2 σ1 H2 _ I2 q2) fun f s3 q3=>?_)
  cases f with
  | next =>
   obtain ⟨σ3,H3,I3,n3⟩:=q3
   obtain ⟨m',hm,w3⟩:=hN σ3 H3 n3
   exact ⟨m',hm,σ3,H3,I3,w3⟩
  | cont =>
   obtain ⟨σ3,H3,I3,n3⟩:=q3
   obtain ⟨m',hm,w3⟩:=hN σ3 H3 n3
   exact ⟨m',hm,σ3,H3,I3,w3⟩
  | brk=>exact q3
  | ret v=>exact q3
 | false =>
  rw [if_neg Bool.false_ne_true]
  exact wpAny_execs_nil ⟨σ1,H2,I2,q2⟩
end
structure It where
 go:Nat -> Hp -> Prop
 yld:Nat -> Hp -> V -> Hp -> Prop
 stop:Nat -> Hp -> Prop
def p8 (X:Cx) (pins:List (Addr × Obj)) (H:Hp) (b:Addr):Prop:=
 H b=none /\ b ≠ X.env.locals /\ b ∉ X.fs /\ (b ∈ X.ex \/ X.s₀.heap.objs.size ≤ b) /\ (∀ x c,X.env.cells.lookup x=some c -> c ≠ b) /\ ∀ p ∈ X.pn ++ pins,p.1 ≠ b
theorem Inv.fpOk {X:Cx} {pins:List (Addr × Obj)} {σ:St} {H H':Hp} {s:Shared} {b:Addr} (I:Inv X pins σ H s) (hb:s.heap.objs.size ≤ b) (hn:H' b=none):p8 X pins H' b:=by
 refine ⟨hn,Nat.ne_of_gt (Nat.lt_of_lt_of_le I.lt hb),I.nofs hb,.inr (Nat.le_trans I.sz hb),fun x c e z=>?_,fun p hp z=>?_⟩
 ·obtain ⟨v,q⟩:=I.cell x c e
  exact absurd (Nat.lt_of_lt_of_le q.lt (by rw [z]; exact hb)) (Nat.lt_irrefl _)
 ·exact absurd (Nat.lt_of_lt_of_le (Heap.lt_size (I.pin p hp).1) (by rw [z]; exact hb)) (Nat.lt_irrefl _)
structure Turn (P:Program) (w:World) (K:PySem.W.Frag) (tg:Expr) (J:It) (fp:List Addr) (it:Addr) (tn:Nat -> Heap -> Prop):Prop where
 mem:it ∈ fp
 obj:∀ i h,tn i h -> ∀ b ∈ fp,∃ o,h.get? b=some o /\ ∀ v,o.data ≠ .cell v
 keep:∀ i h h',tn i h -> (∀ b ∈ fp,∀ o,h.get? b=some o -> h'.get? b=some o) -> tn i h'
 item:∀ (X:Cx),X.prog=P -> X.w=w -> X.K=K -> X.calm=true -> ∀ (i:Nat) (pins:List (Addr × Obj)) (s:Shared) (σ:St) (H:Hp) (E:Value -> Shared -> Prop),Inv X pins σ H s -> (∀ b ∈ fp,p8 X pins H b) -> tn i s.heap -> J.go i H ->
  wpAny (model P w) X.A (pyNext (.ref it)) (fun r s1=>∃ u,r=some u /\
   wpAny (model P w) X.A (letOwnedTupleGo tg (.ref it) u) (fun _ s2=>∃ x H',Inv X pins σ H' s2 /\ RelV x u /\ J.yld i H x H' /\ tn (i + 1) s2.heap /\ ∀ b ∈ fp,H' b=none) E s1) E s
 done:∀ (X:Cx),X.prog=P -> X.w=w -> X.K=K -> X.calm=true -> ∀ (i:Nat) (pins:List (Addr × Obj)) (s:Shared) (σ:St) (H:Hp) (E:Value -> Shared -> Prop),Inv X pins σ H s -> (∀ b ∈ fp,p8 X pins H b) -> tn i s.heap -> J.stop i H ->
  wpAny (model P w) X.A (pyNext (.ref it)) (fun r s1=>r=none /\ Inv X pins σ H s1) E s
 self:∀ (A:Around) (i:Nat) (s:Shared) (Q:Value -> Shared -> Prop) (E:Value -> Shared -> Prop),tn i s.heap -> Q (.ref it) s -> wpAny (model P w) A (pyIter (.ref it)) Q E s
abbrev TI:=St -> Hp -> (It -> Hp -> Prop) -> Prop
def MF (X:Cx) (pins:List (Addr × Obj)) (σ:St) (tg:Expr) (R:It -> Hp -> Prop) (itv:Value) (s2:Shared):Prop:=
 ∃ (it:Addr) (fp:List Addr) (tn:Nat -> Heap -> Prop) (J:It) (H':Hp),itv=.ref it /\ Inv X pins σ H' s2 /\ Turn X.prog X.w X.K tg J fp it tn /\ tn 0 s2.heap /\ (∀ b ∈ fp,p8 X pins H' b) /\ R J H'
def PI (X:Cx) (tg iter:Expr) (wi:TI):Prop:=
 ∀ (pins:List (Addr × Obj)) (s:Shared) (σ:St) (H:Hp) (R:It -> Hp -> Prop),Inv X pins σ H s -> wi σ H R ->
  wpAny (model X.prog X.w) X.A (eval iter X.env) (fun v s1=>wpAny (model X.prog X.w) X.A (pyIter v) (MF X pins σ tg R) X.xe s1) X.xe s
theorem BU {M:Model} {A:Around} {E:Value -> Shared -> Prop} {s:Shared} {tg:Expr} {it:Addr} {u:Value} {o:Obj} {n:String} {vs:Array Value} {Q:Unit -> Shared -> Prop} (ho:s.heap.get? it=some o) (hc:o.cls=.type n) (hd:o.data=.fields vs)
    (hn:["enumerate", "zip", "dict_itemiterator", "dict_reverseitemiterator", "odict_iterator", "itertools.zip_longest", "itertools.pairwise"].contains n=false) (hQ:Q () s):wpAny M A (letOwnedTupleGo tg (.ref it) u) Q E s:=by
  unfold letOwnedTupleGo
  cases tg <;> first
    | exact wpAny_pure hQ
    | (cases u <;> first
        | exact wpAny_pure hQ
        | (refine wpAny_bind (wpAny_load ho ?_)
           rw [hc,hd]
           show wpAny M A (if (["enumerate", "zip", "dict_itemiterator", "dict_reverseitemiterator", "odict_iterator", "itertools.zip_longest", "itertools.pairwise"].contains n && vs[0]? == some (rawInt _))=true then _ else _) Q E s
           rw [if_neg (by intro h; rw [hn,Bool.false_and] at h; cases h)]
           exact wpAny_pure hQ))
def LG (K:PySem.W.Frag) (a:Addr):It:=
 ⟨fun i H=>∃ xs x,iA K H a xs /\ xs[i]? = some x,fun i H x H'=>H'=H /\ ∀ xs,iA K H a xs -> xs[i]? = some x,fun i H=>∃ xs,iA K H a xs /\ xs.length ≤ i⟩
def LH (K:PySem.W.Frag) (a:Addr):It:=
 ⟨fun i H=>∃ xs x,lu K H a xs /\ xs[i]? = some x,fun i H x H'=>H'=H /\ ∀ xs,lu K H a xs -> xs[i]? = some x,fun i H=>∃ xs,lu K H a xs /\ xs.length ≤ i⟩
def La (lo:Int) (n:Nat):It:=⟨fun i _=>i < n,fun i H x H'=>H'=H /\ x=.int (lo + i),fun i _=>n ≤ i⟩
theorem Bd {P:Program} {w:World} {K:PySem.W.Frag} {tg:Expr} (a it:Addr):Turn P w K tg (LG K a) [it] it (fun i h=>h.IsListIter it a i) where
 mem:=by simp
 obj:=fun i h st b hb=>by
  have e:b=it:=by simpa using hb
  subst e
  obtain ⟨o,e,c,d⟩:=st
  exact ⟨o,e,fun v z=>by rw [d] at z; cases z⟩
 keep:=fun i h h' st k=>st.at fun o e=>k it (by simp) o e
 item:=by
  intro X hP hw hK hc i pins s σ H E I hf st hg
  subst hP hw hK
  obtain ⟨xs,x,hq,hx⟩:=hg
  obtain ⟨its,rv,p,hz⟩:=I.list hq
  obtain ⟨u,hu,ru⟩:=rv.get hx
  obtain ⟨f0,f1,f2,f3,f4,f5⟩:=hf it (by simp)
  refine wpAny_pyNext_list_item st p.isList (x:=u) (by simpa using hu) fun h' st' sb=>?_
  have I1:Inv X pins σ H { s with heap:=h' }:=I.turned (t':=s.toks) (fun b o hb e=>(sb.2 b hb).trans e) f0 f1 f3 f4 f5
  obtain ⟨o,e,c,d⟩:=id st'
  exact ⟨u,rfl,BU (s:={ s with heap:=h' }) e c d (by decide) ⟨x,H,I1,ru,⟨rfl,fun ys hy=>by rw [I.list_inj hy hq]; exact hx⟩,st',fun b hb=>(hf b hb).1⟩⟩
 done:=by
  intro X hP hw hK hc i pins s σ H E I hf st hg
  subst hP hw hK
  obtain ⟨xs,hq,hx⟩:=hg
  obtain ⟨its,rv,p,hz⟩:=I.list hq
  obtain ⟨f0,f1,f2,f3,f4,f5⟩:=hf it (by simp)
  have hl:=rv.length
  exact wpAny_pyNext_list_end (I.ok.hd hc) st p.isList (by simp; omega) fun h' eb=>⟨rfl,I.turned (t':=s.toks) (fun b o hb e=>eb b o hb e) f0 f1 f3 f4 f5⟩
 self:=fun _ _ _ _ _ st h=>wpAny_pyIter_listiter st h
theorem yn {P:Program} {w:World} {K:PySem.W.Frag} {tg:Expr} (a it:Addr):Turn P w K tg (LH K a) [it] it (fun i h=>h.IsTupleIter it a i) where
 mem:=by simp
 obj:=fun i h st b hb=>by
  have e:b=it:=by simpa using hb
  subst e
  obtain ⟨o,e,c,d⟩:=st
  exact ⟨o,e,fun v z=>by rw [d] at z; cases z⟩
 keep:=fun i h h' st k=>st.at fun o e=>k it (by simp) o e
 item:=by
  intro X hP hw hK hc i pins s σ H E I hf st hg
  subst hP hw hK
  obtain ⟨xs,x,hq,hx⟩:=hg
  obtain ⟨its,rv,p,hz⟩:=I.tuple hq
  obtain ⟨u,hu,ru⟩:=rv.get hx
  obtain ⟨f0,f1,f2,f3,f4,f5⟩:=hf it (by simp)
  refine wpAny_pyNext_tuple_item st (show s.heap.IsTuple a its.toArray from p) (x:=u) (by simpa using hu) fun h' st' sb=>?_
  have I1:Inv X pins σ H { s with heap:=h' }:=I.turned (t':=s.toks) (fun b o hb e=>(sb.2 b hb).trans e) f0 f1 f3 f4 f5
  obtain ⟨o,e,c,d⟩:=id st'
  exact ⟨u,rfl,BU (s:={ s with heap:=h' }) e c d (by decide) ⟨x,H,I1,ru,⟨rfl,fun ys hy=>by rw [I.tuple_inj hy hq]; exact hx⟩,st',fun b hb=>(hf b hb).1⟩⟩
 done:=by
  intro X hP hw hK hc i pins s σ H E I hf st hg
  subst hP hw hK
  obtain ⟨xs,hq,hx⟩:=hg
  obtain ⟨its,rv,p,hz⟩:=I.tuple hq
  obtain ⟨f0,f1,f2,f3,f4,f5⟩:=hf it (by simp)
  have hl:=rv.length
  exact wpAny_pyNext_tuple_end (I.ok.hd hc) st (show s.heap.IsTuple a its.toArray from p) (by simp; omega) fun h' eb=>⟨rfl,I.turned (t':=s.toks) (fun b o hb e=>eb b o hb e) f0 f1 f3 f4 f5⟩
 self:=fun _ _ _ _ _ st h=>wpAny_pyIter_tupleiter st h
theorem ym {P:Program} {w:World} {K:PySem.W.Frag} {tg:Expr} (it:Addr) (lo:Int) (n:Nat):Turn P w K tg (La lo n) [it] it (fun i h=>IsRangeIter h it (lo + (i:Nat) * 1) ((n:Int) - (i:Nat)) 1) where
 mem:=by simp
 obj:=fun i h st b hb=>by
  have e:b=it:=by simpa using hb
  subst e
  exact ⟨_,st,fun v z=>by
   have z':Data.fields _=Data.cell v:=z
   cases z'⟩
 keep:=fun i h h' st k=>k it (by simp) _ st
 item:=by
  intro X hP hw hK hc i pins s σ H E I hf st hg
  subst hP hw hK
  obtain ⟨f0,f1,f2,f3,f4,f5⟩:=hf it (by simp)
  have W:=Walks.range (prog:=X.prog) (w:=X.w) (I.ok.hd hc) it lo 1 n
  refine W.item i s _ _ hg st fun v h' tk hv st' kk=>?_
  obtain ⟨t,rfl⟩:=hv
  have I1:Inv X pins σ H { s with heap:=h',toks:=tk }:=I.turned (fun b o hb e=>kk b o (by simpa using hb) e) f0 f1 f3 f4 f5
  refine ⟨_,rfl,BU (s:={ s with heap:=h',toks:=tk }) (n := "range_iterator") st' rfl rfl (by decide) ⟨.int (lo + i),H,I1,⟨t,?_⟩,⟨rfl,rfl⟩,st',fun b hb=>(hf b hb).1⟩⟩
  rw [Int.mul_one]
 done:=by
  intro X hP hw hK hc i pins s σ H E I hf st hg
  subst hP hw hK
  obtain ⟨f0,f1,f2,f3,f4,f5⟩:=hf it (by simp)
  exact wpAny_pyNext_range_end (I.ok.hd hc) st (by have:n ≤ i:=hg; omega) fun h' eb=>⟨rfl,I.turned (t':=s.toks) (fun b o hb e=>eb b o hb e) f0 f1 f3 f4 f5⟩
 self:=fun _ _ _ _ _ st h=>wpAny_pyIter_rangeiter st h
open PySem PySem.Spec PyProof.Rows
section
variable {X:Cx} {tg:Expr}
def JZ (K:PySem.W.Frag) (tl:TE):TI:=fun σ H R=>tl σ H fun x H1=>∃ a,x=.ref a /\ (∃ xs,iA K H1 a xs) /\ R (LG K a) H1
def L3 (K:PySem.W.Frag) (tl:TE):TI:=fun σ H R=>tl σ H fun x H1=>∃ a,x=.ref a /\ (∃ xs,lu K H1 a xs) /\ R (LH K a) H1
theorem EB {l:Expr} {tl:TE} (hl:PE X l tl):PI X tg l (JZ X.K tl):=by
 intro pins s σ H R I h
 refine dh (hl pins s σ H _ I h) fun v s1 ⟨x,H1,I1,r1,q1⟩=>?_
 obtain ⟨a,e,⟨xs,hq⟩,q⟩:=q1
 subst e
 cases r1
 obtain ⟨its,rv,p,hz⟩:=I1.list hq
 refine wpAny_pyIter_list p.isList ?_
 refine ⟨s1.heap.objs.size,[s1.heap.objs.size],_,_,H1,rfl,I1.kept (t':=s1.toks) fun b o e=>Heap.get?_push_of_some _ e,Bd a _,⟨_,Heap.get?_push_size _ rfl,rfl,rfl⟩,fun b hb=>?_,q⟩
 have e:b=s1.heap.objs.size:=by simpa using hb
 subst e
 exact I1.fpOk (Nat.le_refl _) (I1.hok.fresh (Nat.le_refl _))
theorem Il {l:Expr} {tl:TE} (hl:PE X l tl):PI X tg l (L3 X.K tl):=by
 intro pins s σ H R I h
 refine dh (hl pins s σ H _ I h) fun v s1 ⟨x,H1,I1,r1,q1⟩=>?_
 obtain ⟨a,e,⟨xs,hq⟩,q⟩:=q1
 subst e
 cases r1
 obtain ⟨its,rv,p,hz⟩:=I1.tuple hq
 refine wpAny_pyIter_tuple (show s1.heap.IsTuple a its.toArray from p) ?_
 refine ⟨s1.heap.objs.size,[s1.heap.objs.size],_,_,H1,rfl,I1.kept (t':=s1.toks) fun b o e=>Heap.get?_push_of_some _ e,yn a _,⟨_,Heap.get?_push_size _ rfl,rfl,rfl⟩,fun b hb=>?_,q⟩
 have e:b=s1.heap.objs.size:=by simpa using hb
 subst e
 exact I1.fpOk (Nat.le_refl _) (I1.hok.fresh (Nat.le_refl _))
theorem CK {pins:List (Addr × Obj)} {σ:St} {H:Hp} {s:Shared} {R:It -> Hp -> Prop} {E:Value -> Shared -> Prop} {lo hi:Int} {t u v:Tok} {tk:Nat} (I:Inv X pins σ H s) (h1 : -(2 ^ 62) ≤ lo) (h2:lo < 2 ^ 62) (h3 : -(2 ^ 62) ≤ hi) (h4:hi < 2 ^ 62)
  (q:R (La lo (hi - lo).toNat) H):wpAny (model X.prog X.w) X.A (pyIter (.ref s.heap.objs.size)) (MF X pins σ tg R) E { s with heap:=s.heap.push { cls:=.type "range", data:=.fields #[.int lo t,.int hi u,.int 1 v] },toks:=tk }:=by
 refine wpAny_pyIter_range (IsRange.new ..) (small_one h1 h2 h3 h4) ?_
 have I1:Inv X pins σ H { s with heap:=s.heap.push { cls:=.type "range", data:=.fields #[.int lo t,.int hi u,.int 1 v] },toks:=tk }:=I.kept fun b o e=>Heap.get?_push_of_some _ e
 refine ⟨(s.heap.push { cls:=.type "range", data:=.fields #[.int lo t,.int hi u,.int 1 v] }).objs.size,[(s.heap.push { cls:=.type "range", data:=.fields #[.int lo t,.int hi u,.int 1 v] }).objs.size],_,_,H,rfl,
  I1.kept (t':=tk) fun b o e=>Heap.get?_push_of_some _ e,ym _ lo (hi - lo).toNat,?_,fun b hb=>?_,q⟩
 ·have e1:lo + ((0:Nat):Int) * 1=lo:=by simp
  have e2:(((hi - lo).toNat:Nat):Int) - ((0:Nat):Int)=Builtin.Range.rangeSize lo hi 1:=by rw [rangeSize_one]; split <;> omega
  show IsRangeIter _ _ (lo + ((0:Nat):Int) * 1) ((((hi - lo).toNat:Nat):Int) - ((0:Nat):Int)) 1
  rw [e1,e2]
  exact Heap.get?_push_size _ rfl
 ·have e:b=(s.heap.push { cls:=.type "range", data:=.fields #[.int lo t,.int hi u,.int 1 v] }).objs.size:=by simpa using hb
  subst e
  exact I1.fpOk (Nat.le_refl _) (I1.hok.fresh (Nat.le_refl _))
def J0 (ta:TA):TI:=fun σ H R=>ta σ H fun vs H1=>∃ j:Int,vs=[.int j] /\ -(2 ^ 62) ≤ j /\ j < 2 ^ 62 /\ R (La 0 j.toNat) H1
theorem AY {a:Expr} {ta:TA} {p pos:Pos} (hg:Gl X "range") (hm:X.mg "range" = none) (ha:PA X [a] ta) (hs:starEach [a] X.env=[(false,eval a X.env)]:=by rfl):PI X tg (.Call (.Name "range" p) [a] [] pos) (J0 ta):=by
 intro pins s σ H R I h
 refine Call_ (mH I hg hm boot_range (PyProof.Rows.callWith_type1 (dh (ha pos pins s σ H _ I h) fun us s1 ⟨vs,H1,I1,r1,q1⟩=>?_) hs rfl))
 obtain ⟨j,e,q1,q2,q⟩:=q1
 subst e
 cases r1 with
 | cons r rr =>
  cases rr
  obtain ⟨t,rfl⟩:=r
  exact call_range_1 (CK I1 (by omega) (by omega) q1 q2 (by simpa using q))
def Mq (wi:TI) (g:TG) (tb:TS):TS:=fun D σ H=>wi σ H fun J H1=>∃ W:Nat -> Nat -> St -> Hp -> Prop,(∃ m,W 0 m σ H1) /\ ∀ i m σ H,W i m σ H ->
 (J.stop i H /\ D.nx σ H) \/ (J.go i H /\ ∃ N:St -> Hp -> Prop,(∀ σ' H',N σ' H' -> ∃ m',m' < m /\ W (i + 1) m' σ' H') /\ ∀ x H',J.yld i H x H' -> g x σ H' fun σ2 H2=>tb { D with nx:=N,ct:=N,bk:=D.nx } σ2 H2)
def mM (fp:List Addr) (h:Heap):List (Addr × Obj):=fp.filterMap fun b=>(h.get? b).map fun o=>(b,o)
theorem fN {fp:List Addr} {h:Heap} {b:Addr} {o:Obj} (hb:b ∈ fp) (e:h.get? b=some o):(b,o) ∈ mM fp h:=List.mem_filterMap.mpr ⟨b,hb,by rw [e]; rfl⟩
theorem AO {fp:List Addr} {h:Heap} {p:Addr × Obj} (hp:p ∈ mM fp h):p.1 ∈ fp /\ h.get? p.1=some p.2:=by
 obtain ⟨b,hb,e⟩:=List.mem_filterMap.mp hp
 cases q:h.get? b with
 | none=>rw [q] at e; cases e
 | some o =>
  rw [q] at e
  have e':(b,o)=p:=Option.some.inj e
  subst e'
  exact ⟨hb,q⟩
theorem Inv.pinned {pins:List (Addr × Obj)} {σ:St} {H:Hp} {s:Shared} {fp:List Addr} (I:Inv X pins σ H s) (hf:∀ b ∈ fp,p8 X pins H b) (ho:∀ b ∈ fp,∃ o,s.heap.get? b=some o /\ ∀ v,o.data ≠ .cell v):Inv X (pins ++ mM fp s.heap) σ H s:=
 I.pins_of fun p hp=>(List.mem_append.mp hp).elim (fun z=>I.pin p (List.mem_append_right _ z)) fun z=>by
  obtain ⟨hb,e⟩:=AO z
  obtain ⟨f0,f1,f2,_⟩:=hf p.1 hb
  obtain ⟨o,e',d⟩:=ho p.1 hb
  rw [e] at e'; cases e'
  exact ⟨e,f0,f1,f2,d⟩
theorem Inv.unpinned {pins pl:List (Addr × Obj)} {σ:St} {H:Hp} {s:Shared} (I:Inv X (pins ++ pl) σ H s):Inv X pins σ H s:=I.pins_of fun p hp=>I.pin p (List.mem_append_right _ (List.mem_append_left _ hp))
theorem Ip {iter:Expr} {body:List Stmt} {wi:TI} {g:TG} {tb:TS} {pos:Pos} (hp:PassesOwn (model X.prog X.w) X.A X.env X.xe) (hc:X.calm=true) (hi:PI X tg iter wi) (hg:PG X tg g) (hb:lF X body tb)
  (hs:∀ x,foldedSetIterable iter X.env x=pure x:=by intro _; rfl):PS X (.For tg iter body [] pos) (Mq wi g tb):=by
 intro pins s σ H D I h
 refine wpAny_For (dh (hi pins s σ H _ I h) fun v s1 h1=>dh h1 fun itv s2 h2=>?_) hs
 obtain ⟨it,fp,tn,J,H2,e,I2,T,st2,f2,W,⟨m0,w0⟩,turn⟩:=h2
 subst e
 -- what stays true of the iterator's objects through the loop
 have stat:∀ {H':Hp},(∀ b ∈ fp,H' b=none) -> ∀ b ∈ fp,p8 X pins H' b:=fun hn b hb=>⟨hn b hb,(f2 b hb).2⟩
 refine codeAny_forLoop_any (fun n s'=>∃ i σ' H',Inv X pins σ' H' s' /\ tn i s'.heap /\ (∀ b ∈ fp,H' b=none) /\ W i n σ' H') ?_ m0 ⟨0,σ,H2,I2,st2,fun b hb=>(f2 b hb).1,w0⟩
 rintro n s3 ⟨i,σ3,H3,I3,st3,fr3,w3⟩
 rcases turn i n σ3 H3 w3 with ⟨stop,qn⟩ | ⟨go,N,hN,step⟩
 ·refine wpAny_passesOwn hp (dh (T.done X rfl rfl rfl hc i pins s3 σ3 H3 X.xe I3 (stat fr3) st3 stop) fun r s4 ⟨hr,I4⟩=>?_)
  subst hr
  exact wpAny_execs_nil ⟨σ3,H3,I4,qn⟩
 ·refine wpAny_passesOwn hp (dh (T.item X rfl rfl rfl hc i pins s3 σ3 H3 X.xe I3 (stat fr3) st3 go) fun r s4 ⟨u,hr,h4⟩=>?_)
  subst hr
  refine wpAny_passesOwn hp (dh h4 fun _ s5 ⟨x,H5,I5,r5,y5,st5,fr5⟩=>?_)
  have I5':=I5.pinned (stat fr5) (T.obj _ _ st5)
  refine wpAny_passesOwn hp (dh (hg _ s5 σ3 H5 x u _ I5' r5 (step x H5 y5)) fun _ s6 ⟨σ6,H6,I6,q6⟩=>?_)
  refine wpAny_passesOwn hp (dh (hb _ s6 σ6 H6 _ I6 q6) fun f s7 q7=>?_)
  have again:∀ {σ7:St} {H7:Hp},Inv X (pins ++ mM fp s5.heap) σ7 H7 s7 -> N σ7 H7 -> ∃ m,m < n /\ ∃ i σ' H',Inv X pins σ' H' s7 /\ tn i s7.heap /\ (∀ b ∈ fp,H' b=none) /\ W i m σ' H':=fun {σ7 H7} I7 n7=>by
   obtain ⟨m',hm,w7⟩:=hN σ7 H7 n7
   refine ⟨m',hm,i + 1,σ7,H7,I7.unpinned,T.keep _ _ _ st5 fun b hb o e=>(I7.pin (b,o) (List.mem_append_right _ (List.mem_append_right _ (fN hb e)))).1,fun b hb=>?_,w7⟩
   obtain ⟨o,e,d⟩:=T.obj _ _ st5 b hb
   exact (I7.pin (b,o) (List.mem_append_right _ (List.mem_append_right _ (fN hb e)))).2.1
  cases f with
  | next=>obtain ⟨σ7,H7,I7,n7⟩:=q7; exact again I7 n7
  | cont=>obtain ⟨σ7,H7,I7,n7⟩:=q7; exact again I7 n7
  | brk=>obtain ⟨σ7,H7,I7,q7⟩:=q7; exact ⟨σ7,H7,I7.unpinned,q7⟩
  | ret v=>obtain ⟨x7,σ7,H7,I7,r7,q7⟩:=q7; exact ⟨x7,σ7,H7,I7.unpinned,r7,q7⟩
end
open PySem PySem.Spec PyProof.Rows
abbrev R2:=V -> V -> Hp -> VK -> Prop
def m6 (X:Cx) (f:Value -> Value -> Sem Value) (r:R2):Prop:=
 ∀ (pins:List (Addr × Obj)) (s:Shared) (σ:St) (H:Hp) (x y:V) (v u:Value) (Q:VK),Inv X pins σ H s -> RelV x v -> RelV y u -> r x y H Q ->
  wpAny (model X.prog X.w) X.A (f v u) (EP X pins σ Q) X.xe s
def Le (X:Cx) (f:Value -> Sem Value) (r:V -> Hp -> VK -> Prop):Prop:=
 ∀ (pins:List (Addr × Obj)) (s:Shared) (σ:St) (H:Hp) (x:V) (v:Value) (Q:VK),Inv X pins σ H s -> RelV x v -> r x H Q ->
  wpAny (model X.prog X.w) X.A (f v) (EP X pins σ Q) X.xe s
def gp (X:Cx) (f:Value) (r:List V -> Hp -> VK -> Prop):Prop:=
 ∀ (pins:List (Addr × Obj)) (s:Shared) (σ:St) (H:Hp) (xs:List V) (us:List Value) (Q:VK),Inv X pins σ H s -> Vals xs us -> r xs H Q ->
  wpAny (model X.prog X.w) X.A (call f us) (EP X pins σ Q) X.xe s
def LL (X:Cx) (r:V -> Hp -> (Bool -> Hp -> Prop) -> Prop):Prop:=
 ∀ (pins:List (Addr × Obj)) (s:Shared) (σ:St) (H:Hp) (x:V) (v:Value) (Q:Bool -> Hp -> Prop),Inv X pins σ H s -> RelV x v -> r x H Q ->
  wpAny (model X.prog X.w) X.A (truthy v) (TP X pins σ Q) X.xe s
def KY (r:R2) (ta tb:TE):TE:=fun σ H Q=>ta σ H fun x H1=>tb σ H1 fun y H2=>r x y H2 Q
def Nm (r:V -> Hp -> VK -> Prop) (ta:TE):TE:=fun σ H Q=>ta σ H fun x H1=>r x H1 Q
def rI (C:Int -> Int -> Prop) (g:Int -> Int -> V):R2:=fun x y H Q=>∃ i j,x=.int i /\ y=.int j /\ C i j /\ Q (g i j) H
def EM (g:Int -> Int -> V):R2:=fun x y H Q=>∃ i j,x=.int i /\ y=.int j /\ Q (g i j) H
def rU (g:Int -> V):V -> Hp -> VK -> Prop:=fun x H Q=>∃ i,x=.int i /\ Q (g i) H
section
variable {X:Cx} {a b c:Expr} {ta tb tc:TE} {pos:Pos}
theorem GO (ha:PE X a ta) (hb:PE X b tb) {pins:List (Addr × Obj)} {s:Shared} {σ:St} {H:Hp} {R:V -> V -> Hp -> Prop} (I:Inv X pins σ H s)
  (h:ta σ H fun x H1=>tb σ H1 fun y H2=>R x y H2) {Q:Value -> Shared -> Prop} {f:Value -> Value -> Sem Value}
  (hf:∀ v u s2 x y H2,Inv X pins σ H2 s2 -> RelV x v -> RelV y u -> R x y H2 -> wpAny (model X.prog X.w) X.A (f v u) Q X.xe s2) :
  wpAny (model X.prog X.w) X.A (eval a X.env) (fun v s₁=>wpAny (model X.prog X.w) X.A (eval b X.env) (fun u s₂=>wpAny (model X.prog X.w) X.A (f v u) Q X.xe s₂) X.xe s₁) X.xe s:=by
 refine dh (ha pins s σ H _ I h) fun v s1 ⟨x,H1,I1,r1,q1⟩=>?_
 refine dh (hb pins s1 σ H1 _ I1 q1) fun u s2 ⟨y,H2,I2,r2,q2⟩=>?_
 exact hf v u s2 x y H2 I2 r1 r2 q2
theorem Kw {op:Operator} {r:R2} (ho:m6 X (binaryOp op) r) (ha:PE X a ta) (hb:PE X b tb):PE X (.BinOp a op b pos) (KY r ta tb):=by
 intro pins s σ H Q I h
 exact wpAny_BinOp (GO ha hb I h fun v u s2 x y H2 I2 rx ry q=>ho pins s2 σ H2 x y v u Q I2 rx ry q)
theorem Kx {op:UnaryOp} {r:V -> Hp -> VK -> Prop} (ho:Le X (unaryOp op) r) (ha:PE X a ta):PE X (.UnaryOp op a pos) (Nm r ta):=by
 intro pins s σ H Q I h
 exact UnaryOp_ (dh (ha pins s σ H _ I h) fun v s1 ⟨x,H1,I1,r1,q1⟩=>ho pins s1 σ H1 x v Q I1 r1 q1)
theorem Ma {f:Value -> Value -> Sem Value} {C:Int -> Int -> Prop} {g:Int -> Int -> Int}
  (rule:∀ (i j:Int) (t u:Tok) (s:Shared) (Q:Value -> Shared -> Prop) (E:Value -> Shared -> Prop),C i j -> Q (.int (g i j) s.toks) { s with toks:=s.toks + 1 } -> wpAny (model X.prog X.w) X.A (f (.int i t) (.int j u)) Q E s) :
  m6 X f (rI C fun i j=>.int (g i j)):=by
 intro pins s σ H x y v u Q I rx ry h
 obtain ⟨i,j,rfl,rfl,hc,q⟩:=h
 obtain ⟨t,rfl⟩:=rx
 obtain ⟨t',rfl⟩:=ry
 exact rule i j t t' s _ _ hc ⟨.int (g i j),H,I.tok _,⟨_,rfl⟩,q⟩
theorem Kj {f:Value -> Value -> Sem Value} {g:Int -> Int -> Int}
  (rule:∀ (i j:Int) (t u:Tok) (s:Shared) (Q:Value -> Shared -> Prop) (E:Value -> Shared -> Prop),Q (.int (g i j) s.toks) { s with toks:=s.toks + 1 } -> wpAny (model X.prog X.w) X.A (f (.int i t) (.int j u)) Q E s) :
  m6 X f (EM fun i j=>.int (g i j)):=by
 intro pins s σ H x y v u Q I rx ry h
 obtain ⟨i,j,rfl,rfl,q⟩:=h
 obtain ⟨t,rfl⟩:=rx
 obtain ⟨t',rfl⟩:=ry
 exact rule i j t t' s _ _ ⟨.int (g i j),H,I.tok _,⟨_,rfl⟩,q⟩
theorem Eo {f:Value -> Value -> Sem Value} {g:Int -> Int -> Bool}
  (rule:∀ (i j:Int) (t u:Tok) (s:Shared) (Q:Value -> Shared -> Prop) (E:Value -> Shared -> Prop),Q (.bool (g i j)) s -> wpAny (model X.prog X.w) X.A (f (.int i t) (.int j u)) Q E s) :
  m6 X f (EM fun i j=>.bl (g i j)):=by
 intro pins s σ H x y v u Q I rx ry h
 obtain ⟨i,j,rfl,rfl,q⟩:=h
 obtain ⟨t,rfl⟩:=rx
 obtain ⟨t',rfl⟩:=ry
 exact rule i j t t' s _ _ ⟨.bl (g i j),H,I,rfl,q⟩
def LF (i j:Int):Prop:=0 ≤ j /\ j ≤ 1000000 /\ i.natAbs < 2 ^ 64
def Jo (i j:Int):Prop:=(-(2 ^ 64) < i /\ i < 2 ^ 64) \/ (-(2 ^ 64) < j /\ j < 2 ^ 64)
theorem Jo.ok {i j:Int} (h:Jo i j):IntMulOk i j:=by
 rcases h with ⟨h1,h2⟩ | ⟨h1,h2⟩
 ·exact .of_left (intBits_le_64 h1 h2)
 ·exact .of_right (intBits_le_64 h1 h2)
theorem HG:m6 X (binaryOp .Add) (EM fun i j=>.int (i + j)):=Kj fun _ _ _ _ _ _ _ q=>add_int q
theorem HJ:m6 X (binaryOp .Sub) (EM fun i j=>.int (i - j)):=Kj fun _ _ _ _ _ _ _ q=>sub_int q
theorem Es:m6 X (binaryOp .Mod) (rI (fun _ j=>j ≠ 0) fun i j=>.int (i.fmod j)):=Ma fun _ _ _ _ _ _ _ hc q=>mod_int' hc q
theorem Nn {f:Value -> Sem Value} {g:Int -> Int}
  (rule:∀ (i:Int) (t:Tok) (s:Shared) (Q:Value -> Shared -> Prop) (E:Value -> Shared -> Prop),Q (.int (g i) s.toks) { s with toks:=s.toks + 1 } -> wpAny (model X.prog X.w) X.A (f (.int i t)) Q E s) :
  Le X f (rU fun i=>.int (g i)):=by
 intro pins s σ H x v Q I rx h
 obtain ⟨i,rfl,q⟩:=h
 obtain ⟨t,rfl⟩:=rx
 exact rule i t s _ _ ⟨.int (g i),H,I.tok _,⟨_,rfl⟩,q⟩
theorem IS:Le X (unaryOp .USub) (rU fun i=>.int (-i)):=Nn fun _ _ _ _ _ q=>neg_int q
end
section
variable {X:Cx} {a b c:Expr} {ta tb tc:TE} {pos:Pos}
theorem Kn:m6 X (compareOp .Lt) (EM fun i j=>.bl (decide (i < j))):=Eo fun _ _ _ _ _ _ _ q=>lt_int q
theorem Km:m6 X (compareOp .LtE) (EM fun i j=>.bl (decide (i ≤ j))):=Eo fun _ _ _ _ _ _ _ q=>le_int q
theorem Kl:m6 X (compareOp .Gt) (EM fun i j=>.bl (decide (j < i))):=Eo fun _ _ _ _ _ _ _ q=>gt_int q
theorem Kk:m6 X (compareOp .GtE) (EM fun i j=>.bl (decide (j ≤ i))):=Eo fun _ _ _ _ _ _ _ q=>ge_int q
theorem m6.or {f:Value -> Value -> Sem Value} {r r':R2} (h:m6 X f r) (h':m6 X f r'):m6 X f (fun x y H Q=>r x y H Q \/ r' x y H Q):=by
 intro pins s σ H x y v u Q I rx ry q
 rcases q with q | q
 ·exact h pins s σ H x y v u Q I rx ry q
 ·exact h' pins s σ H x y v u Q I rx ry q
theorem bB (b:Expr) {op:CmpOp} (h:op ≠ .In:=by decide) (h2:op ≠ .NotIn:=by decide):behindInMarks op b=false:=by
 have e1:(op == CmpOp.In)=false:=by cases op <;> first | rfl | exact absurd rfl h
 have e2:(op == CmpOp.NotIn)=false:=by cases op <;> first | rfl | exact absurd rfl h2
 cases b <;> simp [behindInMarks,e1,e2]
theorem Ex {op:CmpOp} {r:R2} (ho:m6 X (compareOp op) r) (ha:PE X a ta) (hb:PE X b tb) (hm:behindInMarks op b=false):PE X (.Compare a [op] [b] pos) (KY r ta tb):=by
 intro pins s σ H Q I h
 exact wpAny_Compare1 (GO ha hb I h fun v u s2 x y H2 I2 rx ry q=>ho pins s2 σ H2 x y v u Q I2 rx ry q) hm
def Gy (t:TE):TT:=fun σ H Q=>t σ H fun x H'=>∃ k,x=.bl k /\ Q k H'
theorem EH {op:CmpOp} {r:R2} (ho:m6 X (compareOp op) r) (ha:PE X a ta) (hb:PE X b tb) (hm:behindInMarks op b=false):PT X (.Compare a [op] [b] pos) (Gy (KY r ta tb)):=by
 intro pins s σ H Q I h
 refine wpAny_isTrue_Compare1 (dh (ha pins s σ H _ I h) fun v s1 ⟨x,H1,I1,r1,q1⟩=>dh (hb pins s1 σ H1 _ I1 q1) fun u s2 ⟨y,H2,I2,r2,q2⟩ =>
  dh (ho pins s2 σ H2 x y v u _ I2 r1 r2 q2) fun c s3 ⟨z,H3,I3,r3,k,e,q3⟩=>?_) hm
 subst e
 cases r3
 exact wpAny_truthy_bool ⟨H3,I3,q3⟩
def CY (r r':R2) (ta tb tc:TE):TE:=fun σ H Q=>ta σ H fun x H1=>tb σ H1 fun y H2=>r x y H2 fun z H3=>∃ k,z=.bl k /\
 (if k=true then tc σ H3 fun w' H4=>r' y w' H4 Q else Q (.bl false) H3)
theorem CH {op op':CmpOp} {r r':R2} (ho:m6 X (compareOp op) r) (ho':m6 X (compareOp op') r') (ha:PE X a ta) (hb:PE X b tb) (hc:PE X c tc)
  (hm:lastMarks [op,op'] [b,c]=false:=by with_unfolding_all rfl):PT X (.Compare a [op,op'] [b,c] pos) (Gy (CY r r' ta tb tc)):=by
 intro pins s σ H Q I h
 refine isTrue_chain (dh (ha pins s σ H _ I h) fun v s1 ⟨x,H1,I1,r1,q1⟩=>test_link (dh (hb pins s1 σ H1 _ I1 q1) fun u s2 ⟨y,H2,I2,r2,q2⟩ =>
  dh (ho pins s2 σ H2 x y v u _ I2 r1 r2 q2) fun d s3 ⟨z,H3,I3,r3,k,e,q3⟩=>?_)) hm
 subst e
 cases r3
 refine wpAny_truthy_bool ?_
 cases k with
 | false =>
  obtain ⟨k',e',q'⟩:=q3
  cases e'
  exact ite_ff ⟨H3,I3,q'⟩
 | true =>
  refine ite_tt (test_last (dh (hc pins s3 σ H3 _ I3 q3) fun w' s4 ⟨z',H4,I4,r4,q4⟩=>dh (ho' pins s4 σ H4 y z' u w' _ I4 r2 r4 q4) fun d' s5 ⟨z2,H5,I5,r5,k2,e2,q5⟩=>?_))
  subst e2
  cases r5
  exact wpAny_truthy_bool ⟨H5,I5,q5⟩
def GI (K:PySem.W.Frag) (x:V) (H:Hp) (k:Bool):Prop:=
 match x with
 | .non=>k=false
 | .bl b=>k=b
 | .int i=>k=(i != 0)
 | .str y=>y.length ≤ sizeLine /\ k=((y.length:Int) != 0)
 | .byt y=>y.size ≤ sizeLine /\ k=((y.size:Int) != 0)
 | .ref p=>(∃ xs,iA K H p xs /\ k = !xs.isEmpty) \/ (∃ xs,lu K H p xs /\ k = !xs.isEmpty) \/ ∃ kvs,H p=some (.dK kvs) /\ k = !kvs.isEmpty
 | _=>False
theorem xp {κ:Type} {kvs:List (κ × V)} {vs:List (κ × Value)} (r:KV kvs vs):(!vs.isEmpty) = !kvs.isEmpty:=by
 cases r <;> rfl
theorem oO {xs:List V} {its:List Value} (r:Vals xs its):(!its.toArray.isEmpty) = !xs.isEmpty:=by
 cases r <;> simp
theorem kS:(sizeLine:Nat) < 2 ^ 63:=by rw [sizeLine_eq]; decide
theorem IM:LL X (fun x H Q=>∃ k,GI X.K x H k /\ Q k H):=by
 intro pins s σ H x v Q I rx h
 obtain ⟨k,e,q⟩:=h
 have hl:=kS
 have hs:sizeLine=16777216:=sizeLine_eq
 cases x with
 | non =>
  cases rx
  have e':k=false:=e
  subst e'
  exact truthy_none ⟨H,I,q⟩
 | bl b =>
  cases rx
  have e':k=b:=e
  subst e'
  exact wpAny_truthy_bool ⟨H,I,q⟩
 | int i =>
  obtain ⟨t,rfl⟩:=rx
  have e':k=(i != 0):=e
  subst e'
  exact PySem.P.truthy_int ⟨H,I,q⟩
 | str y =>
  obtain ⟨t,rfl⟩:=rx
  obtain ⟨hy,e'⟩:y.length ≤ sizeLine /\ k=((y.length:Int) != 0):=e
  subst e'
  exact PySem.P.truthy_str (by omega) ⟨H,I.tok _,q⟩
 | byt y =>
  obtain ⟨t,rfl⟩:=rx
  obtain ⟨hy,e'⟩:y.size ≤ sizeLine /\ k=((y.size:Int) != 0):=e
  subst e'
  exact PySem.W.truthy_bytes (by omega) ⟨H,I.tok _,q⟩
 | ref p =>
  cases rx
  have e':(∃ xs,iA X.K H p xs /\ k = !xs.isEmpty) \/ (∃ xs,lu X.K H p xs /\ k = !xs.isEmpty) \/ ∃ kvs,H p=some (.dK kvs) /\ k = !kvs.isEmpty:=e
  rcases e' with ⟨xs,hx,e'⟩ | ⟨xs,hx,e'⟩ | ⟨kvs,hx,e'⟩
  ·subst e'
   obtain ⟨its,r,pl,hz⟩:=I.list hx
   have hlen:=r.length
   exact wpAny_truthy_list pl.isList (by simp only [List.size_toArray]; omega) ⟨H,I.tok _,by rw [oO r]; exact q⟩
  ·subst e'
   obtain ⟨its,r,pl,hz⟩:=I.tuple hx
   have hlen:=r.length
   exact truthy_tuple pl (by simp only [List.size_toArray]; omega) ⟨H,I.tok _,by rw [oO r]; exact q⟩
  ·subst e'
   obtain ⟨hz,hS,vs,r,m⟩:kvs.length ≤ sizeLine /\ (p == sysModules)=false /\ ∃ vs,KV kvs vs /\ s.heap.DictOf (tu X.prog X.w) p vs:=I.hok p _ hx
   have hlen:kvs.length=vs.length:=Paired.length r
   exact wpAny_truthy_dict hS m (by omega) ⟨H,I.tok _,by rw [xp r]; exact q⟩
 | _=>exact (show False from e).elim
theorem CI (ha:PE X a ta) (he:∀ whole,isTrue a X.env whole=(do let v <- whole; standAt a.pos; holding [v] (truthy v))) :
  PT X a (fun σ H Q=>ta σ H fun x H'=>∃ k,GI X.K x H' k /\ Q k H'):=by
 intro pins s σ H Q I h
 exact isTrue_plain (dh (ha pins s σ H _ I h) fun v s1 ⟨x,H1,I1,r1,q1⟩=>IM pins s1 σ H1 x v Q I1 r1 q1) (he _)
theorem ya:m6 X (binaryOp .Add) (fun x y H Q=>∃ i j,x=.str i /\ y=.str j /\ i.length + j.length ≤ sizeLine /\ Q (.str (i ++ j)) H):=by
 intro pins s σ H x y v u Q I rx ry h
 obtain ⟨i,j,rfl,rfl,hz,q⟩:=h
 obtain ⟨t,rfl⟩:=rx
 obtain ⟨t',rfl⟩:=ry
 exact add_str (fun t' tk=>⟨.str (i ++ j),H,I.tok _,⟨_,rfl⟩,q⟩) hz
theorem vals1 {x:V} {us:List Value} (r:Vals [x] us):∃ u,us=[u] /\ RelV x u:=by
 cases r with
 | cons r1 r2=>cases r2; exact ⟨_,rfl,r1⟩
theorem Br:gp X (.builtin "abs") (fun xs H Q=>∃ i,xs=[.int i] /\ Q (.int (if i < 0 then -i else i)) H):=by
 intro pins s σ H xs us Q I r h
 obtain ⟨i,rfl,q⟩:=h
 obtain ⟨u,rfl,t,rfl⟩:=vals1 r
 exact call_abs_int fun u tk=>⟨.int (if i < 0 then -i else i),H,I.tok _,⟨_,rfl⟩,q⟩
theorem Av:gp X (.type "int") (fun xs H Q=>(∃ i,xs=[.int i] /\ Q (.int i) H) \/ ∃ k,xs=[.bl k] /\ Q (.int (if k then 1 else 0)) H):=by
 intro pins s σ H xs us Q I r h
 rcases h with ⟨i,rfl,q⟩ | ⟨k,rfl,q⟩
 ·obtain ⟨u,rfl,t,rfl⟩:=vals1 r
  exact call_int_int ⟨.int i,H,I,⟨_,rfl⟩,q⟩
 ·obtain ⟨u,rfl,r1⟩:=vals1 r
  cases r1
  exact call_int_bool ⟨.int (if k then 1 else 0),H,I.tok _,⟨_,rfl⟩,q⟩
end
open PySem PySem.Spec PyProof.Rows
structure wI (h:Heap) (x dx C:Addr) (mA:Str -> Option Value):Prop where
 obj:h.get? x=some (PySem.W.instObj C dx)
 ns:h.Ns1 dx mA
 ne:dx ≠ x
theorem AM {h:Heap} {dx:Addr} {mA:Str -> Option Value} (n:h.Ns1 dx mA):∃ od,h.get? dx=some od /\ ∀ name,PySem.W.lookIn name od=some (mA name):=by
 obtain ⟨o,es,ep,ho,hd,hk,_,hm⟩:=n
 refine ⟨o,ho,fun name=>?_⟩
 have e:=hm name
 unfold nsFind findBy at e
 rw [<- Array.find?_toList] at e
 unfold PySem.W.lookIn
 rw [hd]
 dsimp only
 split
 ·rename_i y q
  rw [q] at e
  exact congrArg some e
 ·rename_i q
  rw [q] at e
  have a:es.toList.any (·.refKey)=false:=by
   rw [List.any_eq_false]
   intro y hy
   obtain ⟨z,t,hkey⟩:=hk y (Array.mem_toList_iff.mp hy)
   simp [DictEntry.refKey,hkey]
  have a':¬ es.toList.any (·.refKey)=true:=by rw [a]; exact Bool.false_ne_true
  rw [if_neg a']
  exact congrArg some e
theorem wI.look {h:Heap} {x dx C:Addr} {mA:Str -> Option Value} (I:wI h x dx C mA):∃ od,PySem.W.InstAt h x (PySem.W.instObj C dx) C (some od) /\ ∀ name,PySem.W.lookIn name od=some (mA name):=
 let ⟨od,ho,hl⟩:=AM I.ns
 ⟨od,⟨I.obj,rfl,rfl,ho⟩,hl⟩
section
variable {prog:Program} {w:World} {A:Around} {E:Value -> Shared -> Prop} {s:Shared} {K:PySem.W.Frag} {x dx C f:Addr} {mA:Str -> Option Value} {name:Str} {v:Value}
theorem get_map {expr:Bool} {Q:Value -> Shared -> Prop} (X:K.In s.heap) (I:wI s.heap x dx C mA) (hg:PySem.W.plainGet K C name=true) (hh:PySem.W.hasDictIn K C=true)
  (ha:PySem.W.findIn K (.ref C) name=some none) (hv:mA name=some v) (hv':PySem.W.handedIn v=true) (h:Q v { s with toks:=s.toks + 1 }) :
  wpAny (model prog w) A (getAttr (.ref x) name expr) Q E s:=by
 obtain ⟨od,J,hl⟩:=I.look
 exact PySem.W.get_value X J (PySem.W.plainGet_of hg).1 (PySem.W.findObj_own hh ha rfl (by rw [hl,hv])) hv' h
theorem BS {pl:Sem Bool} {Q:Value × List Value -> Shared -> Prop} (X:K.In s.heap) (I:wI s.heap x dx C mA) (hg:PySem.W.plainGet K C name=true)
  (hf:PySem.W.findIn K (.ref C) name=some (some (.ref f))) (ht:PySem.W.isFn K (.ref f)=true) (hv:mA name=none) (h:Q (.ref f,[.ref x]) s) :
  wpAny (model prog w) A (getMethod (.ref x) name pl) Q E s:=by
 obtain ⟨od,J,hl⟩:=I.look
 exact PySem.W.method_fn X J (PySem.W.plainGet_of hg).1 (PySem.W.plainGet_of hg).2 hf (beq_iff_eq.mp ht) (by show (PySem.W.lookIn name od).map (·.isSome)=some false; rw [hl,hv]; rfl) h
theorem ET {ns:List Str} {Q:Unit -> Shared -> Prop} (X:K.In s.heap) (I:wI s.heap x dx C mA)
  (hs:PySem.W.findIn K (.ref C) "__setattr__" = some (some (.builtin "object.__setattr__"))) (hp:PySem.W.plainOver K C=true) (ht:PySem.W.takerIn K C name=some none) (hh:PySem.W.hasDictIn K C=true)
  (hw:PySem.Within mA ns) (hsz:ns.length ≤ sizeLine)
  (h:∀ h',wI h' x dx C (fun y=>if y=name then some v else mA y) -> Heap.SameBut dx s.heap h' -> Q () { s with heap:=h',toks:=s.toks + 2 }) :
  wpAny (model prog w) A (setAttr (.ref x) name v) Q E s:=by
 obtain ⟨od,J,hl⟩:=I.look
 refine PySem.W.set_plain X J hs (PySem.W.osa_open (s:={ s with toks:=s.toks + 1 }) (r:=none) X J hp ht fun b=>?_)
 obtain ⟨cd,hc,hd'⟩:=PySem.W.any_some hh
 have hx:s.heap.get? x=some ⟨.ref C,some dx,.plain,#[]⟩:=I.obj
 refine wpAny_bind (wpAny_pure (wpAny_bind (wpAny_bind (wpAny_loadPart hx (wpAny_bind (PySem.W.Looks.here (s:={ s with toks:=s.toks + 1 }) (PySem.W.looks_clsIn X hc) ?_))))))
 rw [hd']
 refine wpAny_pure (a:=some dx) (wpAny_bind (wpAny_pure (wpAny_bind ?_)))
 refine wpAny_nsSet1 (s:={ s with toks:=s.toks + 1 }) I.ns fun h' hn2 hs2=>?_
 obtain ⟨oD,esD,epD,hoD,hdD,hcD⟩:=hn2.count (PySem.Within.cons name v hw)
 refine wpAny_bind (wpAny_lookBehind hoD (by rw [hdD]; exact pastItsLine_dict (Nat.le_trans hcD (by rw [List.length_cons]; omega))) ?_)
 exact wpAny_pure (h _ ⟨(hs2.2 _ (Ne.symm I.ne)).trans I.obj,hn2,I.ne⟩ hs2)
theorem vM {R:Result -> Shared -> Prop} {vs:List Value} {kw:List (Str × Value)} (X:K.In s.heap) (hm:PySem.W.makesIn K C=true)
  (hi:PySem.W.findIn K (.ref C) "__init__" = some (some (.ref f))) (hf:PySem.W.typeIn K (.ref f)=some (.type "function"))
  (h:codeAny (model prog w) (A.under (.builtin "type.__call__" ⟨.ref C :: vs,kw⟩)) (.call (.ref f) ⟨.ref (s.heap.objs.size + 1) :: vs,kw⟩) (PySem.W.InitBack (s.heap.objs.size + 1) R)
   { s with heap:=(s.heap.push PySem.W.emptyDict).push (PySem.W.instObj C s.heap.objs.size) }) :
  codeAny (model prog w) A (.call (.ref C) ⟨vs,kw⟩) R s:=by
 obtain ⟨hh,g,d,t,os⟩:=s
 exact PySem.W.make_core (PySem.W.makes_of X hm) (PySem.W.looks_findIn X hi) (fun self=>PySem.W.bind_fn X self hf) (.inl rfl) h
end
def iY (f:Str) (v:V):List (Str × V) -> List (Str × V)
 | []=>[(f,v)]
 | (g,x) :: r=>if g=f then (g,v) :: r else (g,x) :: iY f v r
theorem nc (f g:Str) (v:V):∀ fs:List (Str × V),(iY f v fs).lookup g=if g=f then some v else fs.lookup g
 | []=>by
  show List.lookup g [(f,v)]=_
  by_cases h:g=f
  ·have hb:(g == f)=true:=beq_iff_eq.mpr h
   simp only [List.lookup,hb,if_pos h]
  ·have hb:(g == f)=false:=beq_eq_false_iff_ne.mpr h
   simp only [List.lookup,hb,if_neg h]
 | (k,x) :: r=>by
  have ih:=nc f g v r
  rw [show iY f v ((k,x) :: r)=(if k=f then (k,v) :: r else (k,x) :: iY f v r) from rfl]
  by_cases hk:k=f
  ·rw [if_pos hk]
   by_cases h:g=k
   ·have hb:(g == k)=true:=beq_iff_eq.mpr h
    simp only [List.lookup,hb,if_pos (h.trans hk)]
   ·have hb:(g == k)=false:=beq_eq_false_iff_ne.mpr h
    simp only [List.lookup,hb,if_neg (fun e:g=f=>h (e.trans hk.symm))]
  ·rw [if_neg hk]
   by_cases h:g=k
   ·have hb:(g == k)=true:=beq_iff_eq.mpr h
    simp only [List.lookup,hb,if_neg (fun e:g=f=>hk (h.symm.trans e))]
   ·have hb:(g == k)=false:=beq_eq_false_iff_ne.mpr h
    simp only [List.lookup,hb]
    exact ih
theorem mG (f:Str) (v:V):∀ fs:List (Str × V),f ∈ (iY f v fs).map (·.1) /\ ∀ g,g ∈ fs.map (·.1) -> g ∈ (iY f v fs).map (·.1)
 | []=>⟨by simp [iY],fun g h=>by simp at h⟩
 | (k,x) :: r=>by
  obtain ⟨i1,i2⟩:=mG f v r
  rw [show iY f v ((k,x) :: r)=(if k=f then (k,v) :: r else (k,x) :: iY f v r) from rfl]
  by_cases hk:k=f
  ·rw [if_pos hk]
   subst hk
   exact ⟨by simp,fun g h=>by simpa using h⟩
  ·rw [if_neg hk]
   refine ⟨?_,fun g h=>?_⟩
   ·rw [List.map_cons]
    exact List.mem_cons_of_mem _ i1
   ·rw [List.map_cons] at h ⊢
    rcases List.mem_cons.mp h with e | e
    ·exact List.mem_cons.mpr (.inl e)
    ·exact List.mem_cons_of_mem _ (i2 g e)
theorem m9 (f:Str) (v:V):∀ fs:List (Str × V),(iY f v fs).length ≤ fs.length + 1
 | []=>by simp [iY]
 | (k,x) :: r=>by
  have ih:=m9 f v r
  rw [show iY f v ((k,x) :: r)=(if k=f then (k,v) :: r else (k,x) :: iY f v r) from rfl]
  by_cases hk:k=f
  ·rw [if_pos hk,List.length_cons,List.length_cons]; omega
  ·rw [if_neg hk,List.length_cons,List.length_cons]; omega
theorem p9.some_of {v:V} {o:Option Value} (r:p9 (some v) o):∃ u,o=some u /\ RelV v u:=by
 cases o with
 | none=>exact (show False from r).elim
 | some u=>exact ⟨u,rfl,r⟩
theorem p9.none_of {o:Option Value} (r:p9 none o):o=none:=by
 cases o with
 | none=>rfl
 | some u=>exact (show False from r).elim
theorem AH {v:V} {u:Value} (r:RelV v u):PySem.W.handedIn u=true:=by
 cases v with
 | non=>cases (show u=Value.none from r); rfl
 | bl b=>cases (show u=Value.bool b from r); rfl
 | int i=>obtain ⟨t,e⟩:=(show ∃ t,u=Value.int i t from r); cases e; rfl
 | str x=>obtain ⟨t,e⟩:=(show ∃ t,u=Value.str x t from r); cases e; rfl
 | byt b=>obtain ⟨t,e⟩:=(show ∃ t,u=Value.bytes b t from r); cases e; rfl
 | flt b=>obtain ⟨t,e⟩:=(show ∃ t,u=Value.float b t from r); cases e; rfl
 | ref a=>cases (show u=Value.ref a from r); rfl
 | ty n=>cases (show u=Value.type n from r); rfl
section
variable {P:Program} {w:World} {H H':Hp} {h h':Heap} {a C dx:Addr} {fs fs':List (Str × V)}
theorem sA (hok:m5 P w H h) (e:H a=some (.ins C dx fs)):∃ mA,wI h a dx C mA /\ (∀ f,p9 (fs.lookup f) (mA f)) /\ PySem.Within mA (fs.map (·.1)) /\ fs.length ≤ 1000 /\ H dx=some (.own a):=by
 obtain ⟨d,z,ne,ob,mA,n,r,q⟩:=(show fu P w H h a (.ins C dx fs) from hok a _ e)
 exact ⟨mA,⟨ob,n,ne⟩,r,q,z,d⟩
end
structure mZ (K:PySem.W.Frag) (C:Addr):Prop where
 pg:PySem.W.plainGet K C Str.empty=true
 hd:PySem.W.hasDictIn K C=true
 po:PySem.W.plainOver K C=true
 sa:PySem.W.findIn K (.ref C) "__setattr__" = some (some (.builtin "object.__setattr__"))
theorem mZ.get {K:PySem.W.Frag} {C:Addr} (c:mZ K C) (f:Str):PySem.W.plainGet K C f=true:=c.pg
def fq (K:PySem.W.Frag) (C:Addr) (f:Str):Prop:=PySem.W.findIn K (.ref C) f=some none
theorem fq.taker {K:PySem.W.Frag} {C:Addr} {f:Str} (n:fq K C f):PySem.W.takerIn K C f=some none:=by
 unfold PySem.W.takerIn
 rw [show PySem.W.findIn K (.ref C) f=some none from n]
 rfl
structure Np (K:PySem.W.Frag) (C:Addr) (f:Str) (v:V) (u:Value):Prop where
 at_:PySem.W.findIn K (.ref C) f=some (some u)
 rel:RelV v u
 get:PySem.W.specialIn K u "__get__" = some none
 cp:PySem.W.copiedNames.contains f=false
structure Meth (K:PySem.W.Frag) (C:Addr) (m:Str) (f:Addr):Prop where
 at_:PySem.W.findIn K (.ref C) m=some (some (.ref f))
 fn:PySem.W.isFn K (.ref f)=true
 kp:PySem.W.keepIn K (.ref f)=true
section
variable {X:Cx} {pins:List (Addr × Obj)} {σ:St} {H:Hp} {s:Shared} {a C dx:Addr} {fs:List (Str × V)} {f:Str} {v:V} {A:Around} {E:Value -> Shared -> Prop}
theorem xk {b:Bool} {Q:Value -> Shared -> Prop} (I:Inv X pins σ H s) (e:H a=some (.ins C dx fs)) (c:mZ X.K C) (n:fq X.K C f) (l:fs.lookup f=some v)
  (h:∀ u s',Inv X pins σ H s' -> RelV v u -> Q u s'):wpAny (model X.prog X.w) A (getAttr (.ref a) f b) Q E s:=by
 obtain ⟨mA,O,r,_,_,_⟩:=sA I.hok e
 obtain ⟨u,hu,ru⟩:=p9.some_of (v:=v) (o:=mA f) (by rw [<- l]; exact r f)
 exact get_map I.kIn O (c.get f) c.hd n hu (AH ru) (h u _ (I.tok _) ru)
theorem xm {m:Str} {g:Addr} {pl:Sem Bool} {Q:Value × List Value -> Shared -> Prop} (I:Inv X pins σ H s) (e:H a=some (.ins C dx fs)) (c:mZ X.K C) (k:Meth X.K C m g) (l:fs.lookup m=none)
  (h:Q (.ref g,[.ref a]) s):wpAny (model X.prog X.w) A (getMethod (.ref a) m pl) Q E s:=by
 obtain ⟨mA,O,r,_,_,_⟩:=sA I.hok e
 have hn:mA m=none:=p9.none_of (by rw [<- l]; exact r m)
 exact BS I.kIn O (c.get m) k.at_ k.fn hn h
theorem yi {y:V} {u:Value} {Q:Unit -> Shared -> Prop} (I:Inv X pins σ H s) (e:H a=some (.ins C dx fs)) (c:mZ X.K C) (n:fq X.K C f) (hl:fs.length < 1000) (ry:RelV y u)
  (h:∀ s',Inv X pins σ (upd H a (.ins C dx (iY f y fs))) s' -> Q () s'):wpAny (model X.prog X.w) A (setAttr (.ref a) f u) Q E s:=by
 obtain ⟨mA,O,r,wi,_,ho⟩:=sA I.hok e
 have hz:(fs.map (·.1)).length ≤ sizeLine:=by rw [List.length_map,sizeLine_eq]; omega
 refine ET I.kIn O c.sa c.po n.taker c.hd wi hz fun h' O' sb=>h _ ?_
 have hd:∃ o,h'.get? dx=some o:=let ⟨o,_,_,e',_⟩:=O'.ns; ⟨o,e'⟩
 refine I.write (x:=a) (e:=dx) (by rw [e]; exact True.intro) (.inr ho) (fun b q hb z=>(sb.2 b hb).trans z) hd ?_
 refine ⟨by rw [aK O.ne]; exact ho,?_,O.ne,O'.obj,_,O'.ns,fun g=>?_,fun g hg=>?_⟩
 ·have:=m9 f y fs; omega
 ·show p9 ((iY f y fs).lookup g) (if g=f then some u else mA g)
  rw [nc]
  by_cases q:g=f
  ·rw [if_pos q,if_pos q]; exact ry
  ·rw [if_neg q,if_neg q]; exact r g
 ·by_cases q:g=f
  ·rw [q]; exact (mG f y fs).1
  ·refine (mG f y fs).2 g (wi g fun z=>hg ?_)
   show (if g=f then some u else mA g)=none
   rw [if_neg q]; exact z
theorem Inv.made (I:Inv X pins σ H s):Inv X pins σ (upd (upd H s.heap.objs.size (.own (s.heap.objs.size + 1))) (s.heap.objs.size + 1) (.ins C s.heap.objs.size []))
  { s with heap:=(s.heap.push PySem.W.emptyDict).push (PySem.W.instObj C s.heap.objs.size) }:=by
 have e1:(s.heap.push PySem.W.emptyDict).get? s.heap.objs.size=some PySem.W.emptyDict:=Heap.get?_push_size s.heap rfl
 have e2:((s.heap.push PySem.W.emptyDict).push (PySem.W.instObj C s.heap.objs.size)).get? (s.heap.objs.size + 1)=some (PySem.W.instObj C s.heap.objs.size):=by
  have:=Heap.get?_push_size (s.heap.push PySem.W.emptyDict) (o:=PySem.W.instObj C s.heap.objs.size) rfl
  rwa [Heap.size_push] at this
 have e3:(s.heap.push PySem.W.emptyDict).Ns s.heap.objs.size (fun _=>none):=⟨PySem.W.emptyDict,#[],_,e1,rfl,(fun e he=>absurd he (by simp)),fun _=>rfl⟩
 have I1:=I.laid (a:=s.heap.objs.size) (o:=.own (s.heap.objs.size + 1)) (h':=s.heap.push PySem.W.emptyDict) (t':=s.toks) (fun b u q=>Heap.get?_push_of_some _ q) (Nat.le_refl _) ⟨_,e1⟩
 refine I1.laid (a:=s.heap.objs.size + 1) (o:=.ins C s.heap.objs.size []) (t':=s.toks) (fun b u q=>Heap.get?_push_of_some _ q) (Nat.le_of_eq (Heap.size_push _ _)) ?_
 have ne:s.heap.objs.size ≠ s.heap.objs.size + 1:=Nat.ne_of_lt (Nat.lt_succ_self _)
 refine ⟨by rw [aK ne,aU],Nat.zero_le _,ne,e2,fun _=>none,(Heap.Ns1.of_empty e3).at fun o q=>Heap.get?_push_of_some _ q,fun _=>True.intro,fun y hy=>absurd rfl hy⟩
theorem Dw {prog:Program} {w:World} {env:Env} {e:Expr} {f:Str} {pos:Pos} {s:Shared} {Q:Value -> Shared -> Prop} (hb:attributeBase e f env (eval e env)=eval e env)
  (h:wpAny (model prog w) A (eval e env) (fun o s₁=>wpAny (model prog w) A (getAttr o f true) Q E s₁) E s):wpAny (model prog w) A (eval (.Attribute e f pos) env) Q E s:=
 Attribute_any_ h (by rw [arm_eval_Attribute,hb])
end
def Mp (K:PySem.W.Frag) (ta:TE) (f:Str):TE:=fun σ H Q=>ta σ H fun x H1=>∃ a C dx fs v,x=.ref a /\ H1 a=some (.ins C dx fs) /\ mZ K C /\ fq K C f /\ fs.lookup f=some v /\ Q v H1
def Mj (K:PySem.W.Frag) (ta tv:TE) (f:Str):TS:=fun D σ H=>tv σ H fun y H1=>ta σ H1 fun x H2=>∃ a C dx fs,x=.ref a /\ H2 a=some (.ins C dx fs) /\ mZ K C /\ fq K C f /\ fs.length < 1000 /\
 D.nx σ (upd H2 a (.ins C dx (iY f y fs)))
section
variable {X:Cx} {o e value:Expr} {f:Str} {pos pos' tpos:Pos} {ta tv:TE}
theorem HW (he:PE X e ta) (hb:attributeBase e f X.env (eval e X.env)=eval e X.env):PE X (.Attribute e f pos) (Mp X.K ta f):=by
 intro pins s σ H Q I h
 refine Dw hb (dh (he pins s σ H _ I h) fun u s1 ⟨x,H1,I1,rx,a,C,dx,fs,v,ex,ea,c,n,l,q⟩=>?_)
 subst ex
 obtain rfl:u=Value.ref a:=rx
 exact xk I1 ea c n l fun u' s2 I2 ru=>⟨v,H1,I2,ru,q⟩
theorem Io (ha:PE X o ta) (hv:PE X value tv) (hs:swapsWith value (some (.Attribute o f pos')) pos.line X.env=pure false):PS X (.Assign [.Attribute o f pos'] value pos) (Mj X.K ta tv f):=by
 intro pins s σ H D I h
 refine plainObj_wpAny_Assign_Attribute (dh (hv pins s σ H _ I h) fun u s1 ⟨y,H1,I1,ry,q⟩=>dh (ha pins s1 σ H1 _ I1 q) fun ov s2 ⟨x,H2,I2,rx,a,C,dx,fs,ex,ea,c,n,l,q2⟩=>?_) hs
 subst ex
 obtain rfl:ov=Value.ref a:=rx
 exact yi I2 ea c n l ry fun s3 I3=>⟨σ,_,I3,q2⟩
end
section
variable {X:Cx} {pins:List (Addr × Obj)} {σ:St} {H:Hp} {s:Shared} {A:Around} {E:Value -> Shared -> Prop} {Q:Value -> Shared -> Prop} {c:Value} {b:Bool}
inductive ou (K:PySem.W.Frag) (H:Hp):V -> Value -> Prop where
 | non:ou K H .non (.type "NoneType")
 | bl (x:Bool):ou K H (.bl x) (.type "bool")
 | int (i:Int):ou K H (.int i) (.type "int")
 | str (x:Str):ou K H (.str x) (.type "str")
 | flt (x:UInt64):ou K H (.flt x) (.type "float")
 | lst {a:Addr} {xs:List V} (e:H a=some (.lst xs)):ou K H (.ref a) (.type "list")
 | frz {a:Addr} {o:Obj} {xs:List V} (e:H a=some (.frz o (.lst xs))):ou K H (.ref a) (.type "list")
 | tup {a:Addr} {xs:List V} (e:H a=some (.tup xs)):ou K H (.ref a) (.type "tuple")
 | dK {a:Addr} {kvs:List (Key × V)} (e:H a=some (.dK kvs)):ou K H (.ref a) (.type "dict")
 | dT {a:Addr} {kvs:List (List Key × V)} (e:H a=some (.dT kvs)):ou K H (.ref a) (.type "dict")
 | ins {a C dx:Addr} {fs:List (Str × V)} (e:H a=some (.ins C dx fs)) (cl:mZ K C) (ha:PySem.W.findIn K (.ref C) "__class__" = some (some (.builtin "object.__class__")))
   (hn:PySem.W.specialIn K (.builtin "object.__class__") "__get__" = some (some (.builtin "getset_descriptor.__get__"))) (htk:PySem.W.takesIn K (.builtin "object.__class__")=some true)
   (hm:PySem.W.mroIn K C (.type "object")=some true):ou K H (.ref a) (.ref C)
end
open PySem PySem.Spec PyProof.Rows
structure dz (k:Nat) (A:Around):Prop where
 hd:A.handled=none
 dp:A.depth + 3 * k + 5 < recursionLimit
 un:A.units + 16 * k + 200 < cLine
theorem dz.mono {j k:Nat} {A:Around} (r:dz k A) (h:j ≤ k):dz j A:=⟨r.hd,by have:=r.dp; omega,by have:=r.un; omega⟩
theorem dz.deeper {k:Nat} {A:Around} (r:dz (k + 1) A) (env:Env):dz k (A.deeper env):=
 ⟨r.hd,by have:=r.dp; show A.depth + 1 + 3 * k + 5 < _; omega,by have:=r.un; show A.units + 3 + 16 * k + 200 < _; omega⟩
theorem dz.in1 {k:Nat} {A:Around} (r:dz (k + 1) A):dz k A.in1:=
 ⟨r.hd,by have:=r.dp; show A.depth + 3 * k + 5 < _; omega,by have:=r.un; show A.units + 1 + 16 * k + 200 < _; omega⟩
theorem xO {A:Around} {C:Addr} {us:List Value} {kw:List (Str × Value)}:(A.under (.builtin "type.__call__" ⟨.ref C :: us,kw⟩)).depth=A.depth + 1:=by
 first | rfl | simp [Around.under,Code.weight,Code.isCreation,Code.isGuard,Code.isCaller,Code.frames,Code.isFrame,guardIds]
theorem xR {A:Around} {C:Addr} {us:List Value} {kw:List (Str × Value)}:(A.under (.builtin "type.__call__" ⟨.ref C :: us,kw⟩)).units=A.units + 1:=by
 first | rfl | simp [Around.under,Code.cUnits,Code.frames,Code.isFrame]
theorem dz.make {k:Nat} {A:Around} (r:dz (k + 1) A) (C:Addr) (us:List Value) (kw:List (Str × Value)):dz k (A.under (.builtin "type.__call__" ⟨.ref C :: us,kw⟩)):=
 ⟨r.hd,by have:=r.dp; rw [xO]; omega,by have:=r.un; rw [xR]; omega⟩
theorem dz.depth {k:Nat} {A:Around} (r:dz k A):A.depth < recursionLimit:=by have:=r.dp; omega
theorem dz.units {k:Nat} {A:Around} (r:dz k A):A.units + 64 < cLine:=by have:=r.un; omega
def KU:TA:=fun _ H Q=>Q [] H
def KP (ta:TE) (tr:TA):TA:=fun σ H Q=>ta σ H fun x H1=>tr σ H1 fun xs H2=>Q (x :: xs) H2
section
variable {X:Cx} {e:Expr} {es:List Expr} {te:TE} {t:TA} {pos:Pos}
theorem yc:PA X [] KU:=fun _ _ _ _ H Q I h=>Calls.spliced_nil ⟨[],H,I,.nil,h⟩
theorem nZ (ha:PE X e te) (hr:PA X es t) (hs:starEach (e :: es) X.env=(false,eval e X.env) :: starEach es X.env:=by rfl):PA X (e :: es) (KP te t):=by
 intro pos pins s σ H Q I h
 rw [hs]
 show wpAny _ _ (spliced ((false,eval e X.env) :: backTo pos (starEach es X.env))) _ _ s
 refine Calls.spliced_cons (dh (ha pins s σ H _ I h) fun u s1 ⟨x,H1,I1,r1,q1⟩=>?_)
 exact dh (hr pos pins s1 σ H1 _ I1 q1) fun us s2 ⟨xs,H2,I2,r2,q2⟩=>⟨x :: xs,H2,I2,.cons r1 r2,q2⟩
def Mx (t:TA):TE:=fun σ H Q=>t σ H fun xs H1=>xs.length ≤ sizeLine /\ ∀ p,H1 p=none -> Q (.ref p) (upd H1 p (.tup xs))
def Ms (t:TA):TE:=fun σ H Q=>t σ H fun xs H1=>xs.length ≤ sizeLine /\ ∀ p,H1 p=none -> Q (.ref p) (upd H1 p (.lst xs))
theorem Ig {x1} (h:PA X es t):PE X (.Tuple es x1 pos) (Mx t):=by
 intro pins s σ H Q I hq
 refine wpAny_Tuple_spliced (dh (h pos pins s σ H _ I hq) fun us s1 ⟨xs,H1,I1,r,z,q⟩=>⟨by rw [<- r.length]; exact z,?_⟩)
 have hf:H1 s1.heap.objs.size=none:=I1.hok.fresh (Nat.le_refl _)
 refine ⟨.ref s1.heap.objs.size,upd H1 s1.heap.objs.size (.tup xs),I1.laid (t':=s1.toks) (fun b u e=>Heap.get?_push_of_some _ e) (Nat.le_refl _) ?_,rfl,q _ hf⟩
 exact ⟨z,us,r,⟨_,Heap.get?_push_size _ rfl,rfl,_,rfl⟩⟩
theorem Cu (h:PA X es t):PE X (.List es pos) (Ms t):=by
 intro pins s σ H Q I hq
 refine wpAny_List_spliced (dh (h pos pins s σ H _ I hq) fun us s1 ⟨xs,H1,I1,r,z,q⟩=>⟨by rw [<- r.length]; exact z,?_⟩)
 have hf:H1 s1.heap.objs.size=none:=I1.hok.fresh (Nat.le_refl _)
 refine ⟨.ref s1.heap.objs.size,upd H1 s1.heap.objs.size (.lst xs),I1.laid (t':=s1.toks) (fun b u e=>Heap.get?_push_of_some _ e) (Nat.le_refl _) ?_,rfl,q _ hf⟩
 exact ⟨z,us,0,r,Heap.get?_push_size _ rfl⟩
end
abbrev Sp:=List V -> Hp -> VK -> XK -> Prop
abbrev yz:=List Env -> Hp -> Shared -> XK -> Value -> Shared -> Prop
structure pZ (P:Program) (w:World) (K:PySem.W.Frag) (mg:Str -> Option Value) (base:Heap) (A:Around) (outer:List Env) (s:Shared) (H:Hp):Prop where
 frames:A.frames=some outer
 mod:Mod K mg base
 bs:∀ b o,base.get? b=some o -> s.heap.get? b=some o /\ H b=none
 bsz:base.objs.size ≤ s.heap.objs.size
 funs:s.heap.FunFrames base outer
 frf:∀ b ∈ nU outer,H b=none
 hok:m5 P w H s.heap
 bare:AllBare s.gens
def CE (outer:List Env) (P:Program) (w:World) (H:Hp) (s:Shared) (Q:VK) (u:Value) (s':Shared):Prop:=
 ∃ v H',s'.os=s.os /\ AllBare s'.gens /\ Un (nU outer) [] H H' s.heap s'.heap /\ m5 P w H' s'.heap /\ RelV v u /\ Q v H'
def CR (CX:yz) (outer:List Env) (P:Program) (w:World) (H:Hp) (s:Shared) (Q:VK) (E:XK) (r:Result) (s':Shared):Prop:=
 match r with
 | .ok (.ret u)=>CE outer P w H s Q u s'
 | .ok _=>False
 | .error e=>CX outer H s E e s'
structure fJ (P:Program) (w:World) (K:PySem.W.Frag) (mg:Str -> Option Value) (base:Heap) (CX:yz) (k:Nat) (f:Addr) (fd:FuncData) (ps:List Str) (sp:Sp):Prop where
 len:∀ vs H Q E,sp vs H Q E -> vs.length=ps.length
 run:∀ (A:Around) (outer:List Env) (s:Shared) (H:Hp) (args:Args) (us:List Value) (vs:List V) (Q:VK) (E:XK),dz k A -> pZ P w K mg base A outer s H -> BindsTo s fd args (ps.zip us) -> Vals vs us -> sp vs H Q E ->
  codeAny (model P w) A (.call (.ref f) args) (CR CX outer P w H s Q E) s
theorem fJ.mono {P:Program} {w:World} {K:PySem.W.Frag} {mg:Str -> Option Value} {base:Heap} {CX:yz} {j k:Nat} {f:Addr} {fd:FuncData} {ps:List Str} {sp:Sp} (F:fJ P w K mg base CX j f fd ps sp) (h:j ≤ k) :
  fJ P w K mg base CX k f fd ps sp:=⟨F.len,fun A outer s H args us vs Q E hr=>F.run A outer s H args us vs Q E (hr.mono h)⟩
theorem fJ.imp {P:Program} {w:World} {K:PySem.W.Frag} {mg:Str -> Option Value} {base:Heap} {CX:yz} {k:Nat} {f:Addr} {fd:FuncData} {ps:List Str} {sp sp':Sp} (F:fJ P w K mg base CX k f fd ps sp)
  (h:∀ vs H Q E,sp' vs H Q E -> sp vs H Q E):fJ P w K mg base CX k f fd ps sp':=
 ⟨fun vs H Q E q=>F.len vs H Q E (h _ _ _ _ q),fun A outer s H args us vs Q E hr he hb hv hs=>F.run A outer s H args us vs Q E hr he hb hv (h _ _ _ _ hs)⟩
theorem pZ.make {P:Program} {w:World} {K:PySem.W.Frag} {mg:Str -> Option Value} {base:Heap} {A:Around} {outer:List Env} {s:Shared} {H:Hp} (e:pZ P w K mg base A outer s H) (C:Addr) (us:List Value) (kw:List (Str × Value)) :
  pZ P w K mg base (A.under (.builtin "type.__call__" ⟨.ref C :: us,kw⟩)) outer s H:=⟨by first | exact e.frames | (simpa [Around.under,Code.envs,Code.isFrame,pushEnvs] using e.frames),e.mod,e.bs,e.bsz,e.funs,e.frf,e.hok,e.bare⟩
theorem pZ.in1 {P:Program} {w:World} {K:PySem.W.Frag} {mg:Str -> Option Value} {base:Heap} {A:Around} {outer:List Env} {s:Shared} {H:Hp} (e:pZ P w K mg base A outer s H) :
  pZ P w K mg base A.in1 outer s H:=⟨e.frames,e.mod,e.bs,e.bsz,e.funs,e.frf,e.hok,e.bare⟩
section
variable {X:Cx} {pins:List (Addr × Obj)} {σ:St} {H:Hp} {s s':Shared}
theorem Inv.env0 (I:Inv X pins σ H s):pZ X.prog X.w X.K X.mg X.base X.A X.stack s H:=
 ⟨I.ok.frames,I.ok.mod,I.bs,Nat.le_trans I.ok.bsz I.sz,I.stack,I.stkFree,I.hok,I.bare⟩
theorem Inv.after {Q:VK} {u:Value} (I:Inv X pins σ H s) (h:CE X.stack X.prog X.w H s Q u s'):EP X pins σ Q u s':=by
 obtain ⟨v,H',os,bare,un,hok,r,q⟩:=h
 obtain ⟨hh,g,d,t,os'⟩:=s'
 obtain rfl:os'=s.os:=os
 exact ⟨v,H',I.call (h':=hh) (g':=g) (d':=d) (t':=t) (ch:=[]) un hok bare (fun b z=>absurd z (by simp)),r,q⟩
end
def KO (sp:Sp) (dvs:List V) (E:XK) (t:TA):TE:=fun σ H Q=>t σ H fun vs H1=>sp (vs ++ dvs) H1 Q E
def Gx (C:Addr) (m:Str) (sp:Sp) (dvs:List V) (E:XK) (ta:TE) (t:TA):TE:=fun σ H Q=>ta σ H fun x H1=>∃ a dx fs,x=.ref a /\ H1 a=some (.ins C dx fs) /\ fs.lookup m=none /\
 t σ H1 fun vs H2=>sp (x :: (vs ++ dvs)) H2 Q E
def KR (C:Addr) (sp:Sp) (dvs:List V) (E:XK) (t:TA):TE:=fun σ H Q=>t σ H fun vs H1=>∀ x dx,H1 x=none -> H1 dx=none -> dx ≠ x ->
 sp (.ref x :: (vs ++ dvs)) (upd (upd H1 dx (.own x)) x (.ins C dx [])) (fun v H2=>v=.non /\ Q (.ref x) H2) E
def Binds (K:PySem.W.Frag) (fd:FuncData) (ps:List Str) (ds:List Value):Prop:=
 ∀ (s:Shared) (us:List Value),K.In s.heap -> (us ++ ds).length=ps.length -> BindsTo s fd ⟨us,[]⟩ (ps.zip (us ++ ds))
theorem Binds.all {K:PySem.W.Frag} {fd:FuncData} {ps:List Str} (h:∀ us:List Value,us.length=ps.length -> bindArgs fd ⟨us,[]⟩=pure (ps.zip us)):Binds K fd ps []:=fun s us _ hl=>by
 rw [List.append_nil] at hl ⊢
 exact .of_eq (h us hl)
def Passes (CX:yz) (X:Cx) (E:XK):Prop:=∀ (pins:List (Addr × Obj)) (σ:St) (H:Hp) (s:Shared) (e:Value) (s':Shared),Inv X pins σ H s -> CX X.stack H s E e s' -> X.xe e s'
section
variable {X:Cx} {CX:yz} {k:Nat} {f C:Addr} {fd:FuncData} {ps:List Str} {sp:Sp} {dvs:List V} {ds:List Value} {E:XK} {x m:Str} {p pos apos:Pos} {e o:Expr} {es:List Expr} {ta:TE} {t:TA}
theorem CM {pins:List (Addr × Obj)} {σ:St} {H:Hp} {s:Shared} {Q:VK} {us:List Value} {vs:List V} (F:fJ X.prog X.w X.K X.mg X.base CX k f fd ps sp) (hr:dz k X.A) (hb:Binds X.K fd ps ds) (hd:Vals dvs ds) (hx:Passes CX X E)
  (I:Inv X pins σ H s) (r:Vals vs us) (h:sp (vs ++ dvs) H Q E):wpAny (model X.prog X.w) X.A (call (.ref f) us) (EP X pins σ Q) X.xe s:=by
 have r2:Vals (vs ++ dvs) (us ++ ds):=r.append hd
 have hl:(us ++ ds).length=ps.length:=by rw [<- r2.length]; exact F.len _ _ _ _ h
 refine wpAny_call (codeAny_mono (F.run X.A X.stack s H ⟨us,[]⟩ (us ++ ds) (vs ++ dvs) Q E hr I.env0 (hb s us I.kIn hl) r2 h) fun r s' hq=>?_)
 cases r with
 | error e=>exact hx pins σ H s e s' I hq
 | ok fl =>
  cases fl with
  | ret u=>exact I.after hq
  | next=>exact False.elim hq
  | brk=>exact False.elim hq
  | cont=>exact False.elim hq
theorem Ew (F:fJ X.prog X.w X.K X.mg X.base CX k f fd ps sp) (hr:dz k X.A) (hg:Gl X x) (hm:X.mg x=some (.ref f)) (hk:PySem.W.keepIn X.K (.ref f)=true) (hb:Binds X.K fd ps ds) (hd:Vals dvs ds) (hx:Passes CX X E)
  (ha:PA X (e :: es) t) (hdb:(x == ("__debug__" : Str))=false:=by decide) (he:starEach (e :: es) X.env=(false,eval e X.env) :: starEach es X.env:=by rfl) (hpl:(backTo pos (starEach es X.env)).any (·.1)=false:=by rfl) :
  PE X (.Call (.Name x p) (e :: es) [] pos) (KO sp dvs E t):=by
 intro pins s σ H Q I h
 refine wpAny_Call_Name_kw (iX I hg hm ?_ hdb)
 refine PySem.W.callWith_K (h₀:=X.base) I.ok.mod.kin hk (dh (ha pos pins s σ H _ I h) fun us s1 ⟨vs,H1,I1,r,q⟩=>⟨I1.kIn,?_⟩) he hpl
 exact CM F hr hb hd hx I1 r q
theorem Cv {pl:Sem Bool} (he:PE X o ta) (c:mZ X.K C) (hm:Meth X.K C m f) (F:fJ X.prog X.w X.K X.mg X.base CX k f fd ps sp) (hr:dz k X.A) (hb:Binds X.K fd ps ds) (hd:Vals dvs ds) (hx:Passes CX X E)
  (ht:eval (.Call (.Attribute o m apos) [] [] pos) X.env=(do
   let ov <- eval o X.env
   standAt apos.atName
   let (f,first) <- holding [ov] (getMethod ov m pl)
   callWith pos f first (backTo pos (starEach [] X.env)) (backToKw pos (keywordEach [] X.env))):=by rfl) :
  PE X (.Call (.Attribute o m apos) [] [] pos) (Gx C m sp dvs E ta KU):=by
 intro pins s σ H Q I h
 refine PySem.W.methodCall_KW (pl:=pl) (dh (he pins s σ H _ I h) fun u s1 ⟨x,H1,I1,rx,a,dx,fs,ex,ea,l,q⟩=>?_) ht
 subst ex
 obtain rfl:u=Value.ref a:=rx
 refine xm I1 ea c hm l ?_
 exact PySem.W.callWith_K0 (first:=[.ref a]) I1.kIn hm.kp (CM (us:=[.ref a]) (vs:=[.ref a]) F hr hb hd hx I1 (.cons rfl .nil) q)
structure Mk (K:PySem.W.Frag) (C f:Addr):Prop where
 makes:PySem.W.makesIn K C=true
 init:PySem.W.findIn K (.ref C) "__init__" = some (some (.ref f))
 fn:PySem.W.isFn K (.ref f)=true
 kp:PySem.W.keepIn K (.ref C)=true
theorem CN {pins:List (Addr × Obj)} {σ:St} {H:Hp} {s:Shared} {Q:VK} {us:List Value} {vs:List V} (M:Mk X.K C f) (F:fJ X.prog X.w X.K X.mg X.base CX k f fd ps sp) (hr:dz (k + 1) X.A) (hb:Binds X.K fd ps ds) (hd:Vals dvs ds)
  (hx:Passes CX X E) (I:Inv X pins σ H s) (r:Vals vs us)
  (h:∀ x dx,H x=none -> H dx=none -> dx ≠ x -> sp (.ref x :: (vs ++ dvs)) (upd (upd H dx (.own x)) x (.ins C dx [])) (fun v H2=>v=.non /\ Q (.ref x) H2) E) :
  wpAny (model X.prog X.w) X.A (call (.ref C) us) (EP X pins σ Q) X.xe s:=by
 have hq:=h (s.heap.objs.size + 1) s.heap.objs.size (I.hok.fresh (Nat.le_succ _)) (I.hok.fresh (Nat.le_refl _)) (Nat.ne_of_lt (Nat.lt_succ_self _))
 have I2:=Inv.made (C:=C) I
 have r2:Vals (V.ref (s.heap.objs.size + 1) :: (vs ++ dvs)) (Value.ref (s.heap.objs.size + 1) :: (us ++ ds)):=.cons rfl (r.append hd)
 have hl:(Value.ref (s.heap.objs.size + 1) :: us ++ ds).length=ps.length:=by
  have e:=r2.length
  rw [F.len _ _ _ _ hq] at e
  exact e.symm
 refine wpAny_call (vM (f:=f) I.kIn M.makes M.init (beq_iff_eq.mp M.fn) (codeAny_mono (F.run _ X.stack _ _ ⟨Value.ref (s.heap.objs.size + 1) :: us,[]⟩ (Value.ref (s.heap.objs.size + 1) :: (us ++ ds)) _ _ E (hr.make C us [])
  (I2.env0.make C us []) (hb _ (Value.ref (s.heap.objs.size + 1) :: us) I2.kIn hl) r2 hq) fun r s' hq'=>?_))
 cases r with
 | error e=>exact hx pins σ _ _ e s' I2 hq'
 | ok fl =>
  cases fl with
  | ret u =>
   obtain ⟨v,H',I3,rv,ev,q3⟩:=I2.after hq'
   subst ev
   exact ⟨rv,⟨V.ref (s.heap.objs.size + 1),H',I3,rfl,q3⟩⟩
  | next=>exact False.elim hq'
  | brk=>exact False.elim hq'
  | cont=>exact False.elim hq'
theorem Ey (M:Mk X.K C f) (F:fJ X.prog X.w X.K X.mg X.base CX k f fd ps sp) (hr:dz (k + 1) X.A) (hg:Gl X x) (hm:X.mg x=some (.ref C)) (hb:Binds X.K fd ps ds) (hd:Vals dvs ds) (hx:Passes CX X E)
  (ha:PA X (e :: es) t) (hdb:(x == ("__debug__" : Str))=false:=by decide) (he:starEach (e :: es) X.env=(false,eval e X.env) :: starEach es X.env:=by rfl) (hpl:(backTo pos (starEach es X.env)).any (·.1)=false:=by rfl) :
  PE X (.Call (.Name x p) (e :: es) [] pos) (KR C sp dvs E t):=by
 intro pins s σ H Q I h
 refine wpAny_Call_Name_kw (iX I hg hm ?_ hdb)
 refine PySem.W.callWith_K (h₀:=X.base) I.ok.mod.kin M.kp (dh (ha pos pins s σ H _ I h) fun us s1 ⟨vs,H1,I1,r,q⟩=>⟨I1.kIn,?_⟩) he hpl
 exact CN M F hr hb hd hx I1 r q
end
section
variable {X:Cx} {CX:yz} {k:Nat} {f C:Addr} {fd:FuncData} {ps ks:List Str} {sp:Sp} {E:XK} {x m:Str} {p pos apos kpos:Pos} {e o:Expr} {es:List Expr} {kws:List Keyword} {te ta:TE} {t tk:TA} {nm:Option Str}
structure LJ (K:PySem.W.Frag) (fd:FuncData) (ps ks:List Str) (g:List Value -> List Value -> List Value) (gV:List V -> List V -> List V):Prop where
 to:∀ (s:Shared) (us ws:List Value),K.In s.heap -> (g us ws).length=ps.length -> BindsTo s fd ⟨us,ks.zip ws⟩ (ps.zip (g us ws))
 rel:∀ {vs:List V} {us:List Value} {zs:List V} {ws:List Value},Vals vs us -> Vals zs ws -> Vals (gV vs zs) (g us ws)
variable {g:List Value -> List Value -> List Value} {gV:List V -> List V -> List V}
end
structure aP (N P:List Str) (sc:Scope):Prop where
 kind:sc.kind=.function
 co:sc.isCoroutine=false
 gen:sc.isGenerator=false
 nd:N.Nodup
 pre:N.take P.length=P
 par:∀ x ∈ P,sc.names.lookup x=some .local \/ sc.names.lookup x=some .cell
 nofree:∀ y ∈ sc.names,y.2 ≠ .free
theorem qH {kindOf:Str -> Option NameKind} {x:Str}:∀ {binds:List (Str × Value)} {m:Str -> Option Value},(∀ v,(x,v) ∉ binds) -> bindL kindOf binds m x=m x
 | [],_,_=>rfl
 | (n,v) :: r,m,h=>by
  unfold bindL
  rw [qH fun w hw=>h w (List.mem_cons_of_mem _ hw)]
  split
  ·have:x ≠ n:=by rintro rfl; exact h v List.mem_cons_self
   simp [this]
  ·rfl
theorem qF {kindOf:Str -> Option NameKind} {x:Str}:∀ {binds:List (Str × Value)} {m:Str -> Option Value},(∀ v,(x,v) ∉ binds) -> bindC kindOf binds m x=m x
 | [],_,_=>rfl
 | (n,v) :: r,m,h=>by
  unfold bindC
  rw [qF fun w hw=>h w (List.mem_cons_of_mem _ hw)]
  split
  ·rfl
  ·have:x ≠ n:=by rintro rfl; exact h v List.mem_cons_self
   simp [this]
theorem qG {kindOf:Str -> Option NameKind} {x:Str} {v:Value}:∀ {P:List Str} {vs:List Value} {i:Nat} {m:Str -> Option Value},P.Nodup -> P[i]? = some x -> vs[i]? = some v -> kindOf x=some .local ->
  bindL kindOf (P.zip vs) m x=some v
 | [],_,_,_,_,h,_,_=>by simp at h
 | _ :: _,[],_,_,_,_,h,_=>by simp at h
 | p :: P,w :: vs,0,m,nd,h1,h2,hk=>by
  simp at h1 h2; subst h1; subst h2
  show bindL kindOf ((p,w) :: P.zip vs) m p=_
  unfold bindL
  rw [qH fun v hv=>(List.nodup_cons.mp nd).1 (List.of_mem_zip hv).1,if_pos hk]
  simp
 | p :: P,w :: vs,i + 1,m,nd,h1,h2,hk=>by
  show bindL kindOf ((p,w) :: P.zip vs) m x=_
  unfold bindL
  exact qG (i:=i) (List.nodup_cons.mp nd).2 (by simpa using h1) (by simpa using h2) hk
theorem qE {kindOf:Str -> Option NameKind} {x:Str} {v:Value}:∀ {P:List Str} {vs:List Value} {i:Nat} {m:Str -> Option Value},P.Nodup -> P[i]? = some x -> vs[i]? = some v -> kindOf x ≠ some .local ->
  bindC kindOf (P.zip vs) m x=some v
 | [],_,_,_,_,h,_,_=>by simp at h
 | _ :: _,[],_,_,_,_,h,_=>by simp at h
 | p :: P,w :: vs,0,m,nd,h1,h2,hk=>by
  simp at h1 h2; subst h1; subst h2
  show bindC kindOf ((p,w) :: P.zip vs) m p=_
  unfold bindC
  rw [qF fun v hv=>(List.nodup_cons.mp nd).1 (List.of_mem_zip hv).1,if_neg hk]
  simp
 | p :: P,w :: vs,i + 1,m,nd,h1,h2,hk=>by
  show bindC kindOf ((p,w) :: P.zip vs) m x=_
  unfold bindC
  exact qE (i:=i) (List.nodup_cons.mp nd).2 (by simpa using h1) (by simpa using h2) hk
def start (N:List Str) (vs:List V):St:=vs.map some ++ List.replicate (N.length - vs.length) none
def lI (CX:yz) (P:Program) (w:World) (K:PySem.W.Frag) (mg:Str -> Option Value) (base:Heap) (N:List Str) (qual:Str) (scope:Scope) (f:Addr) (cd:Value) (A:Around) (outer:List Env) (s:Shared) (H:Hp) (E:XK):Cx where
 prog:=P
 w:=w
 K:=K
 mg:=mg
 base:=base
 A:=A.deeper (envOfC qual scope s.heap.objs.size f cd)
 N:=N
 s₀:=s
 H₀:=H
 env:=envOfC qual scope s.heap.objs.size f cd
 outer:=outer
 stack:=envOfC qual scope s.heap.objs.size f cd :: outer
 ex:=[]
 calm:=true
 fn:=fun _=>true
 pn:=[]
 xe:=fun e s'=>wpAny (model P w) (A.deeper (envOfC qual scope s.heap.objs.size f cd)) (leaving (envOfC qual scope s.heap.objs.size f cd) e) (fun _ s''=>CX outer H s E e s'') (fun e' s''=>CX outer H s E e' s'') s'
theorem uQ {sc:Scope} {n:Nat} {x:Str} (h:sc.names.lookup x=some .cell):∃ c,(cellsFrom n sc.names []).lookup x=some c:=by
 have q:=PySem.W.cellsFrom_some sc.names n [] (.inl h)
 exact Option.isSome_iff_exists.mp q
theorem AJ {CX:yz} {P:Program} {w:World} {K:PySem.W.Frag} {mg:Str -> Option Value} {base:Heap} {N ps:List Str} {qual:Str} {scope:Scope} {f:Addr} {cd:Value} {A:Around} {outer:List Env} {s s1:Shared} {H:Hp} {E:XK} {us:List Value} {vs:List V}
  (S:aP N ps scope) (hd:A.handled=none) (e0:pZ P w K mg base A outer s H) (hl:vs.length=ps.length) (r:Vals vs us)
  (x:InCallC s s.heap.objs.size (bindL (envOfC qual scope s.heap.objs.size f cd).kindOf (ps.zip us) fun _=>none) (cellsFrom (s.heap.objs.size + 1) scope.names []) (bindC (envOfC qual scope s.heap.objs.size f cd).kindOf (ps.zip us) fun _=>none) s1) :
  Inv (lI CX P w K mg base N qual scope f cd A outer s H E) [] (start N vs) H s1:=by
 have hpl:ps.length ≤ N.length:=by have:=congrArg List.length S.pre; rw [List.length_take] at this; omega
 obtain ⟨h1,tk,rfl,hk⟩:=x.done
 have noA:∀ b:Addr,b ∉ (lI CX P w K mg base N qual scope f cd A outer s H E).ex:=fun b z=>absurd (show b ∈ ([]:List Addr) from z) (by simp)
 refine ⟨⟨e0.mod,S.kind,rfl,rfl,Nat.le_refl _,fun y z c h1 h2=>?_,fun y hy=>?_,fun y c _ h=>?_,fun _=>hd,Around.frames_deeper e0.frames,.inr ⟨rfl,rfl⟩,fun b z=>absurd z (noA b),e0.bs,e0.bsz,fun b _ _=>noA b,fun b z=>absurd z (noA b),e0.funs,e0.frf⟩,
  rfl,e0.bare,Un.kept hk,⟨_,x.toInCall.ns,fun i y v h1 h2 h3=>?_⟩,fun y c h=>⟨_,x.cell y c h⟩,e0.hok.fresh (Nat.le_refl _),fun y c h=>?_,fun p hp=>absurd (show p ∈ ([]:List (Addr × Obj)) from hp) (by simp),e0.hok.kept hk,?_⟩
 ·exact name_of_addr x.apart (PySem.mem_of_lookup h1) (PySem.mem_of_lookup h2)
 ·have hy:scope.names.lookup y=some .cell \/ scope.names.lookup y=some .free:=hy
  rcases hy with hy | hy
  ·exact uQ hy
  ·exact absurd rfl (S.nofree _ (PySem.mem_of_lookup hy))
 ·exact Nat.le_of_lt (x.above y c (PySem.mem_of_lookup h))
 ·have hi:i < vs.length:=by
   unfold start at h2
   by_cases hi:i < vs.length
   ·exact hi
   ·rw [List.getElem?_append_right (by simpa using hi)] at h2
    rw [List.getElem?_replicate] at h2
    split at h2 <;> cases h2
  have ha:vs[i]? = some v:=by
   unfold start at h2
   rw [List.getElem?_append_left (by simpa using hi),List.getElem?_map] at h2
   cases e:vs[i]? with
   | none=>rw [e] at h2; cases h2
   | some a=>rw [e] at h2; cases h2; rfl
  obtain ⟨u,hu,rv⟩:=r.get ha
  have hp:ps[i]? = some y:=by
   rw [<- S.pre,List.getElem?_take_of_lt (by omega)]; exact h1
  have ndP:ps.Nodup:=by rw [<- S.pre]; exact S.nd.sublist (List.take_sublist _ _)
  refine ⟨u,rv,?_⟩
  rcases S.par y (List.mem_of_getElem? hp) with k | k
  ·exact .inl ⟨k,qG ndP hp hu k⟩
  ·obtain ⟨c,e⟩:=uQ (n:=s.heap.objs.size + 1) k
   refine .inr ⟨.inl k,c,e,?_⟩
   have q:=x.cell y c e
   rw [qE ndP hp hu (by show scope.names.lookup y ≠ _; rw [k]; decide)] at q
   exact q
 ·exact e0.hok.fresh (Nat.le_of_lt (x.above y c (PySem.mem_of_lookup h)))
 ·unfold start
  show _=N.length
  rw [List.length_append,List.length_map,List.length_replicate]
  omega
theorem F9 {CX:yz} {P:Program} {w:World} {K:PySem.W.Frag} {mg:Str -> Option Value} {base:Heap} {k:Nat} {f:Addr} {name qual:Str} {params:Arguments} {body:List Stmt} {scope:Scope} {dV kV doc pm cdv ct oc:Value} {an od:Option Addr}
  {osl:Array (Option Value)} {N ps:List Str} {sp:Sp} (lk:K.lookup f=some ⟨oc,od,.func (PySem.W.fnOf name qual params body scope dV kV doc pm an cdv ct),osl⟩) (hcd:PySem.W.codeIn K cdv qual=true) (S:aP N ps scope)
  (len:∀ vs H Q E,sp vs H Q E -> vs.length=ps.length)
  (hbody:∀ (A:Around) (outer:List Env) (s:Shared) (H:Hp) (vs:List V) (Q:VK) (E:XK),dz k (A.deeper (envOfC qual scope s.heap.objs.size f cdv)) -> sp vs H Q E ->
   ∃ t,lF (lI CX P w K mg base N qual scope f cdv A outer s H E) body t /\ t { nx:=fun _ H'=>Q .non H',rt:=Q } (start N vs) H) :
  fJ P w K mg base CX (k + 1) f (PySem.W.fnOf name qual params body scope dV kV doc pm an cdv ct) ps sp:=by
 refine ⟨len,fun A outer s H args us vs Q E hr e0 hb r hsp=>?_⟩
 have hl:=len _ _ _ _ hsp
 have KX:K.In s.heap:=e0.mod.kin.keeps fun b o e=>(e0.bs b o e).1
 have lim:s.heap.NoLimit:=e0.mod.nolimit.keeps fun b o e=>(e0.bs b o e).1
 have hkind:∀ y ∈ ps.zip us,scope.names.lookup y.1=some .local \/ (scope.names.lookup y.1=some .cell /\ ((cellsFrom (s.heap.objs.size + 1) scope.names []).lookup y.1).isSome=true):=fun ⟨n,v⟩ hy=>by
  rcases S.par n (List.of_mem_zip hy).1 with q | q
  ·exact .inl q
  ·exact .inr ⟨q,PySem.W.cellsFrom_some _ _ _ (.inl q)⟩
 refine codeAny_call_function hr.depth (KX _ _ lk) rfl S.co S.gen rfl (PySem.W.codeRec_of KX hcd) (hb _ _ _ _ ?_)
 refine wpAny_newFunctionEnv_cells S.kind hkind fun env he s1 x=>?_
 subst he
 refine ⟨lim.keeps x.toInCall.keep,codeAny_func ?_⟩
 obtain ⟨t,ht,hq⟩:=hbody A outer s H vs Q E (hr.deeper _) hsp
 have I:Inv (lI CX P w K mg base N qual scope f cdv A outer s H E) [] (start N vs) H s1:=AJ S hr.hd e0 hl r x
 refine wpAny_mono (ht [] s1 (start N vs) H _ I hq) (fun fl s' hs=>?_) fun e s' hs=>hs
 have fin:∀ {σ':St} {H':Hp} {v:V} {u:Value},Inv (lI CX P w K mg base N qual scope f cdv A outer s H E) [] σ' H' s' -> RelV v u -> Q v H' -> CE outer P w H s Q u s':=
  fun {σ' H' v u} J rv q=>⟨v,H',J.os,J.bare,J.base,J.hok,rv,q⟩
 cases fl with
 | ret u =>
  obtain ⟨v,σ',H',J,rv,q⟩:=hs
  exact fin J rv q
 | next =>
  obtain ⟨σ',H',J,q⟩:=hs
  exact fin (v:=V.non) (u:=Value.none) J rfl q
 | brk =>
  obtain ⟨_,_,_,q⟩:=hs
  exact False.elim q
 | cont =>
  obtain ⟨_,_,_,q⟩:=hs
  exact False.elim q
open PySem PySem.Spec PyProof.Rows
section
variable {X:Cx} {x:Str} {p pos:Pos} {e:Expr} {es:List Expr} {t:TA} {id T:String} {r:List V -> Hp -> VK -> Prop}
def MO (r:List V -> Hp -> VK -> Prop) (t:TA):TE:=fun σ H Q=>t σ H fun vs H1=>r vs H1 Q
theorem vX (hc:gp X (.builtin id) r) (hg:Gl X x) (hm:X.mg x=none) (hv:bootBuiltins x=some (.builtin id)) (ha:PA X (e :: es) t) (hn:x ≠ "__name__" := by decide) (hdb:(x == ("__debug__" : Str))=false:=by decide)
  (he:starEach (e :: es) X.env=(false,eval e X.env) :: starEach es X.env:=by rfl) (hpl:(backTo pos (starEach es X.env)).any (·.1)=false:=by rfl):PE X (.Call (.Name x p) (e :: es) [] pos) (MO r t):=by
 intro pins s σ H Q I h
 refine wpAny_Call_Name_kw (mH I hg hm hv ?_ hn hdb)
 exact PyProof.Rows.callWith_builtin1 (dh (ha pos pins s σ H _ I h) fun us s1 ⟨vs,H1,I1,r1,q1⟩=>hc pins s1 σ H1 vs us Q I1 r1 q1) he hpl
theorem AX (hc:gp X (.type T) r) (hg:Gl X x) (hm:X.mg x=none) (hv:bootBuiltins x=some (.type T)) (ha:PA X (e :: es) t) (hn:x ≠ "__name__" := by decide) (hdb:(x == ("__debug__" : Str))=false:=by decide)
  (he:starEach (e :: es) X.env=(false,eval e X.env) :: starEach es X.env:=by rfl) (hpl:(backTo pos (starEach es X.env)).any (·.1)=false:=by rfl):PE X (.Call (.Name x p) (e :: es) [] pos) (MO r t):=by
 intro pins s σ H Q I h
 refine wpAny_Call_Name_kw (mH I hg hm hv ?_ hn hdb)
 exact PyProof.Rows.callWith_type1 (dh (ha pos pins s σ H _ I h) fun us s1 ⟨vs,H1,I1,r1,q1⟩=>hc pins s1 σ H1 vs us Q I1 r1 q1) he hpl
end
end L2
namespace HT
open PySem PyProof.Rows
section
open PySem.SeqAt
open PySem.AutoSeq1 (wpAny_loadPart')
open PySem.MeetsSeq PySem.MeetsSeq2 PySem.MeetsSeq3
end
section
variable {prog:Program} {w:World} {A:Around} {E:Value -> Shared -> Prop} {s:Shared}
theorem DC {t b:Addr} {vs ws:List Value} {Q:Value -> Shared -> Prop} (ht:IsTup s.heap t vs.toArray) (hb:IsTup s.heap b ws.toArray) (hv:vs ≠ [])
  (h1:ws=[] -> Q (.ref t) s) (h2:ws ≠ [] -> Q (.ref s.heap.objs.size) { s with heap:=s.heap.push { cls:=.type "tuple", data:=.seq (vs ++ ws).toArray } })
  (hsz:vs.length + ws.length ≤ sizeLine):wpAny (model prog w) A (binaryOp .Add (.ref t) (.ref b)) Q E s:=by
 obtain ⟨⟨cls,dd,data,sl⟩,ho,hc,n,hd⟩:=id ht
 obtain ⟨⟨cls2,dd2,data2,sl2⟩,ho2,hc2,n2,hd2⟩:=id hb
 simp only at hc hd hc2 hd2
 subst hc hd hc2 hd2
 have e:vs.toArray ++ ws.toArray=(vs ++ ws).toArray:=by simp
 by_cases hw:ws=[]
 ·exact concat_meets ⟨_,ho,rfl⟩ ⟨_,ho2,rfl⟩ noFill_tuple_add seq_tuple_add PySem.F.slot_tuple_add PySem.F.entry_tuple_add (PySem.F.args_tuple_add_2 _ _)
   (tuple_addW1 t b vs.toArray ws.toArray n n2 dd dd2 sl sl2 (by simpa using hv) (by simp [hw])) ⟨ho,ho2,h1 hw⟩
 ·refine concat_meets ⟨_,ho,rfl⟩ ⟨_,ho2,rfl⟩ noFill_tuple_add seq_tuple_add PySem.F.slot_tuple_add PySem.F.entry_tuple_add (PySem.F.args_tuple_add_2 _ _)
   (tuple_addW2 t b vs.toArray ws.toArray n n2 dd dd2 sl sl2 (by simpa using hv) (by simpa using hw) (by rw [List.size_toArray,List.size_toArray]; exact hsz)) ⟨ho,ho2,?_⟩
  rw [e]
  exact h2 hw
def fG (n d:Nat):Option Int -> Nat
 | none=>d
 | some v=>if v < 0 then (v + (n:Int)).toNat else min v.toNat n
theorem wg (n d:Nat):fG n d none=d:=rfl
theorem n9 (n d k:Nat):fG n d (some (k:Int))=min k n:=by
 show (if (k:Int) < 0 then ((k:Int) + (n:Int)).toNat else min (k:Int).toNat n)=min k n
 rw [if_neg (by omega),Int.toNat_natCast]
theorem Iw (n d:Nat) (hd:d ≤ n) (o:Option Int):fG n d o ≤ n:=by
 cases o with
 | none=>exact hd
 | some v =>
  show (if v < 0 then (v + (n:Int)).toNat else min v.toNat n) ≤ n
  by_cases hv:v < 0
  ·rw [if_pos hv]; omega
  ·rw [if_neg hv]; exact Nat.min_le_right _ _
theorem yN (v:Int) (n d:Nat):(if v < 0 then max (v + (n:Int)) 0 else min v (n:Int))=((fG n d (some v):Nat):Int):=by
 show (if v < 0 then max (v + (n:Int)) 0 else min v (n:Int))=(((if v < 0 then (v + (n:Int)).toNat else min v.toNat n):Nat):Int)
 by_cases hv:v < 0
 ·simp only [if_pos hv]; omega
 ·simp only [if_neg hv]; omega
theorem wK (lo hi:Option Int) (n:Nat):Builtin.Slice.sliceAdjust lo hi 1 (n:Int)=(((fG n 0 lo:Nat):Int),((fG n n hi:Nat):Int)):=by
 have h1:¬ ((1:Int) < 0):=by omega
 unfold Builtin.Slice.sliceAdjust
 simp only [h1,if_false]
 refine Prod.ext ?_ ?_
 ·cases lo with
  | none=>rfl
  | some v=>exact yN v n 0
 ·cases hi with
  | none=>rfl
  | some v=>exact yN v n n
theorem yd (i j:Nat):Builtin.Slice.slicePlaces (i:Int) (j:Int) 1=j - i:=by
 unfold Builtin.Slice.slicePlaces
 have h1:(1:Int) > 0:=by omega
 simp only [h1,if_true,Int.ediv_one]
 split <;> omega
theorem pI {v:Value} {o:Option Int} {Q:Option Int -> Shared -> Prop} (p:IsPart v o) (h:Q o s):wpAny (model prog w) A (Builtin.Slice.slicePartIndex v) Q E s:=by
 cases p with
 | none=>exact slicePart_none h
 | int i t=>exact slicePart_int h
theorem mU {sl:Addr} {vl vu:Value} {lo hi:Option Int} {n:Nat} {Q:Int × Int × Nat -> Shared -> Prop} (hs:s.heap.IsSliceOf sl vl vu .none) (pl:IsPart vl lo) (pu:IsPart vu hi)
  (h:Q (((fG n 0 lo:Nat):Int),1,fG n n hi - fG n 0 lo) s):wpAny (model prog w) A (Builtin.Slice.sliceApplied (.ref sl) (pure (n:Int))) Q E s:=by
 obtain ⟨os,hos,hcs,hds⟩:=id hs
 unfold Builtin.Slice.sliceApplied Builtin.Slice.sliceFields
 refine wpAny_bind (wpAny_bind (wpAny_field hos hds (x:=vl) rfl (wpAny_bind (wpAny_field hos hds (x:=vu) rfl (wpAny_bind (wpAny_field hos hds (x:=.none) rfl (wpAny_pure ?_)))))))
 refine wpAny_bind (slicePart_none ?_)
 show wpAny _ _ (if ((1:Int) == 0)=true then _ else _) _ _ s
 rw [if_neg (by decide)]
 refine wpAny_bind (pI pl (wpAny_bind (pI pu (wpAny_bind (wpAny_pure ?_)))))
 show wpAny _ _ (match Builtin.Slice.sliceAdjust lo hi 1 (n:Int) with | (lo,hi)=>pure (lo,(1:Int),Builtin.Slice.slicePlaces lo hi 1)) _ _ s
 rw [wK lo hi n]
 show wpAny _ _ (pure (((fG n 0 lo:Nat):Int),(1:Int),Builtin.Slice.slicePlaces ((fG n 0 lo:Nat):Int) ((fG n n hi:Nat):Int) 1)) _ _ s
 rw [yd]
 exact wpAny_pure h
theorem Cz (xs:Array Value) (i k:Nat):((List.range k).filterMap fun (m:Nat)=>xs[((i:Int) + (m:Int) * 1).toNat]?).toArray=((xs.toList.drop i).take k).toArray:=by
 have e:(fun (m:Nat)=>xs[((i:Int) + (m:Int) * 1).toNat]?)=fun m=>xs[i + m]?:=by
  funext m
  have:((i:Int) + (m:Int) * 1).toNat=i + m:=by omega
  rw [this]
 rw [e]
 have:=pick_run xs i k
 rw [List.filterMap_map] at this
 have e2:((fun x=>xs[x]?) ∘ fun x=>i + x)=fun m=>xs[i + m]?:=rfl
 rw [e2] at this
 rw [this]
theorem lO {t sl:Addr} {items:Array Value} {vl vu:Value} {lo hi:Option Int} {Q:Value -> Shared -> Prop} (ht:IsTup s.heap t items) (hs:s.heap.IsSliceOf sl vl vu .none) (pl:IsPart vl lo) (pu:IsPart vu hi)
  (hw:¬ (fG items.size 0 lo=0 /\ fG items.size items.size hi=items.size))
  (h:Q (.ref s.heap.objs.size) { s with heap:=s.heap.push { cls:=.type "tuple", data:=.seq ((items.toList.drop (fG items.size 0 lo)).take (fG items.size items.size hi - fG items.size 0 lo)).toArray } })
  (hsz:items.size ≤ sizeLine):wpAny (model prog w) A (getItem (.ref t) (.ref sl)) Q E s:=by
 have htake:sizeOk (.seq ((items.toList.drop (fG items.size 0 lo)).take (fG items.size items.size hi - fG items.size 0 lo)).toArray):=by
  show ((items.toList.drop (fG items.size 0 lo)).take (fG items.size items.size hi - fG items.size 0 lo)).toArray.size ≤ sizeLine
  rw [List.size_toArray,List.length_take,List.length_drop,Array.length_toList]
  omega
 have hj:fG items.size items.size hi ≤ items.size:=Iw _ _ (Nat.le_refl _) hi
 obtain ⟨os,hos,hcs,hds⟩:=id hs
 have hTs:s.TypeIs (.ref sl) "slice" := ⟨os,hos,hcs⟩
 unfold getItem
 try with_reducible refine wpAny_holding ?_
 first | refine wpAny_bind (wpAny_pure ?_) | skip
 refine wpAny_bind (wpAny_sequenceKey ht.typeIs (by decide) ?_)
 refine wpAny_bind (wpAny_callSpecial?_slot (name:=Str.ofString "__getitem__") ht.typeIs PyProof.Rows.slot_tuple_getitem
  (wpAny_call_entry PyProof.Rows.slot_tuple_getitem ht.typeIs entry_tuple_getitem ?_ (args_tuple_getitem _ _)))
 show wpAny _ _ (Builtin.Tuple.tupleItemsOf (.ref t) >>= _) _ _ s
 refine wpAny_bind (tupleItemsOf_ ht ?_)
 refine wpAny_bind (wpAny_typeOf hTs ?_)
 rw [if_pos (by decide)]
 refine wpAny_bind (mU hs pl pu ?_)
 have hno:¬ ((((fG items.size 0 lo:Nat):Int) == 0 && (1:Int) == 1 && (fG items.size items.size hi - fG items.size 0 lo) == items.size)=true):=by
  intro q
  rw [Bool.and_eq_true,Bool.and_eq_true] at q
  have q1:((fG items.size 0 lo:Nat):Int)=0:=eq_of_beq q.1.1
  have q2:fG items.size items.size hi - fG items.size 0 lo=items.size:=eq_of_beq q.2
  exact hw ⟨by omega,by omega⟩
 show wpAny _ _ (if (((fG items.size 0 lo:Nat):Int) == 0 && (1:Int) == 1 && (fG items.size items.size hi - fG items.size 0 lo) == items.size)=true then _ else _) _ _ s
 rw [if_neg hno,Cz]
 first
  | exact wpAny_bind (m:=Builtin.Tuple.tupleExact _) (wpAny_newObj_type (wpAny_pure ⟨_,rfl,wpAny_pure h⟩) htake)
  | exact wpAny_bind (m:=Builtin.Tuple.tupleExact _) (wpAny_newObj_type (wpAny_bind (wpAny_pure (wpAny_pure ⟨_,rfl,wpAny_pure h⟩))) htake)
  | exact wpAny_bind (wpAny_bind (m:=Builtin.Tuple.tupleExact _) (wpAny_newObj_type (wpAny_pure (wpAny_pure ⟨_,rfl,wpAny_pure h⟩)) htake))
  | exact wpAny_bind (wpAny_bind (m:=Builtin.Tuple.tupleExact _) (wpAny_newObj_type (wpAny_pure ⟨_,rfl,wpAny_pure h⟩) htake))
end
end HT
namespace L2
open PySem PySem.Spec PyProof.Rows
abbrev TO:=St -> Hp -> (Option Int -> Hp -> Prop) -> Prop
def PO (X:Cx) (e:Option Expr) (t:TO):Prop:=
 ∀ (pins:List (Addr × Obj)) (s:Shared) (σ:St) (H:Hp) (Q:Option Int -> Hp -> Prop),Inv X pins σ H s -> t σ H Q ->
  wpAny (model X.prog X.w) X.A (evalPart e X.env) (fun u s'=>∃ o H',Inv X pins σ H' s' /\ IsPart u o /\ Q o H') X.xe s
def E9:TO:=fun _ H Q=>Q none H
def K0 (t:TE):TO:=fun σ H Q=>t σ H fun x H1=>∃ i,x=.int i /\ Q (some i) H1
section
variable {X:Cx} {e:Expr} {te:TE} {lo hi:Option Expr} {tl th:TO} {pos p2:Pos}
theorem EC:PO X none E9:=by
 intro pins s σ H Q I h
 rw [evalPart_none]
 exact wpAny_pure ⟨none,H,I,.none,h⟩
theorem ED (h:PE X e te):PO X (some e) (K0 te):=by
 intro pins s σ H Q I hw
 rw [evalPart_some]
 refine dh (h pins s σ H _ I hw) fun u s1 ⟨x,H1,I1,r1,q1⟩=>?_
 obtain ⟨i,rfl,q⟩:=q1
 obtain ⟨t,rfl⟩:=r1
 exact ⟨some i,H1,I1,.int i t,q⟩
def Fs (X:Cx) (r:V -> Option Int -> Option Int -> Hp -> VK -> Prop):Prop:=
 ∀ (pins:List (Addr × Obj)) (s:Shared) (σ:St) (H:Hp) (x:V) (v vl vu:Value) (lo hi:Option Int) (sl:Addr) (Q:VK),Inv X pins σ H s -> RelV x v -> s.heap.IsSliceOf sl vl vu .none -> IsPart vl lo -> IsPart vu hi -> r x lo hi H Q ->
  ∃ T id,typeLookup (.type T) "__getitem__" = pure (some (.builtin id)) /\ s.TypeIs v T /\ wpAny (model X.prog X.w) X.A (getItem v (.ref sl)) (EP X pins σ Q) X.xe s
theorem Fs.or {r r':V -> Option Int -> Option Int -> Hp -> VK -> Prop} (h:Fs X r) (h':Fs X r'):Fs X (fun x lo hi H Q=>r x lo hi H Q \/ r' x lo hi H Q):=by
 intro pins s σ H x v vl vu lo hi sl Q I rx hs pl pu q
 rcases q with q | q
 ·exact h pins s σ H x v vl vu lo hi sl Q I rx hs pl pu q
 ·exact h' pins s σ H x v vl vu lo hi sl Q I rx hs pl pu q
def Nk (r:V -> Option Int -> Option Int -> Hp -> VK -> Prop) (te:TE) (tl th:TO):TE:=fun σ H Q=>te σ H fun x H1=>tl σ H1 fun l H2=>th σ H2 fun u H3=>r x l u H3 Q
theorem Cw {r:V -> Option Int -> Option Int -> Hp -> VK -> Prop} (hr:Fs X r) (he:PE X e te) (hl:PO X lo tl) (hu:PO X hi th):PE X (.Subscript e (.Slice lo hi none p2) pos) (Nk r te tl th):=by
 intro pins s σ H Q I h
 refine Subscript_ (dh (he pins s σ H _ I h) fun v s1 ⟨x,H1,I1,r1,q1⟩=>?_)
 refine wpAny_Slice (dh (hl pins s1 σ H1 _ I1 q1) fun vl s2 ⟨l,H2,I2,pl,q2⟩=>dh (hu pins s2 σ H2 _ I2 q2) fun vu s3 ⟨u,H3,I3,pu,q3⟩=>?_)
 rw [evalPart_none]
 refine wpAny_pure ?_
 have I4:Inv X pins σ H3 { s3 with heap:=s3.heap.push { cls:=.type "slice", data:=.fields #[vl,vu,.none] } }:=I3.kept (t':=s3.toks) fun b ob q=>Heap.get?_push_of_some _ q
 obtain ⟨T,id,hT,ht,hg⟩:=hr pins { s3 with heap:=s3.heap.push { cls:=.type "slice", data:=.fields #[vl,vu,.none] } } σ H3 x v vl vu l u s3.heap.objs.size Q I4 r1 (Heap.IsSliceOf.new ..) pl pu q3
 show wpAny (model X.prog X.w) X.A (subscriptTail e (.Slice lo hi none p2) v (.ref s3.heap.objs.size)) (EP X pins σ Q) X.xe { s3 with heap:=s3.heap.push { cls:=.type "slice", data:=.fields #[vl,vu,.none] } }
 exact tail_any (ops:=[.ref s3.heap.objs.size,v]) ht hT hg (by with_unfolding_all rfl)
def oH (xs:List V) (lo hi:Option Int):List V:=(xs.drop (HT.fG xs.length 0 lo)).take (HT.fG xs.length xs.length hi - HT.fG xs.length 0 lo)
theorem m8 (xs:List V) (lo hi:Option Int):(oH xs lo hi).length ≤ xs.length:=by
 unfold oH
 rw [List.length_take,List.length_drop]
 omega
def Mi (K:PySem.W.Frag):V -> Option Int -> Option Int -> Hp -> VK -> Prop:=fun x lo hi H Q=>∃ a xs,x=.ref a /\ lu K H a xs /\
 ¬ (HT.fG xs.length 0 lo=0 /\ HT.fG xs.length xs.length hi=xs.length) /\ ∀ p,H p=none -> Q (.ref p) (upd H p (.tup (oH xs lo hi)))
theorem IE:Fs X (Mi X.K):=by
 intro pins s σ H x v vl vu lo hi sl Q I rx hs pl pu h
 obtain ⟨a,xs,rfl,hx,hw,q⟩:=h
 cases rx
 obtain ⟨its,r,ht,hz⟩:=I.tuple hx
 have hlen:its.toArray.size=xs.length:=by rw [List.size_toArray]; exact r.length.symm
 refine ⟨"tuple", _,PyProof.Rows.slot_tuple_getitem.lookup,ht.typeIs,?_⟩
 refine HT.lO ht hs pl pu (by rw [hlen]; exact hw) ?_ (by rw [hlen]; exact hz)
 rw [hlen]
 refine ⟨.ref s.heap.objs.size,_,I.laid (t':=s.toks) (o:=.tup (oH xs lo hi)) (fun b ob q=>Heap.get?_push_of_some _ q) (Nat.le_refl _) ?_,rfl,q _ (I.hok.fresh (Nat.le_refl _))⟩
 exact ⟨Nat.le_trans (m8 xs lo hi) hz,_,(r.drop (HT.fG xs.length 0 lo)).take (HT.fG xs.length xs.length hi - HT.fG xs.length 0 lo),IsTup.new _ _⟩
def KC (K:PySem.W.Frag):R2:=fun x y H Q=>∃ a b xs ys,x=.ref a /\ y=.ref b /\ lu K H a xs /\ lu K H b ys /\ xs ≠ [] /\ xs.length + ys.length ≤ sizeLine /\
 (ys=[] -> Q (.ref a) H) /\ (ys ≠ [] -> ∀ p,H p=none -> Q (.ref p) (upd H p (.tup (xs ++ ys))))
theorem Vals.nil_iff {xs:List V} {us:List Value} (r:Vals xs us):us=[] ↔ xs=[]:=by
 cases r with
 | nil=>simp
 | cons _ _=>simp
theorem Ep:m6 X (binaryOp .Add) (KC X.K):=by
 intro pins s σ H x y v u Q I rx ry h
 obtain ⟨a,b,xs,ys,rfl,rfl,ha,hb,hx,hz,q1,q2⟩:=h
 cases rx
 cases ry
 obtain ⟨its,r1,p1,_⟩:=I.tuple ha
 obtain ⟨its2,r2,p2,_⟩:=I.tuple hb
 refine HT.DC p1 p2 (fun z=>hx (r1.nil_iff.mp z)) (fun z=>⟨.ref a,H,I,rfl,q1 (r2.nil_iff.mp z)⟩) (fun z=>?_) (by rw [<- r1.length,<- r2.length]; exact hz)
 refine ⟨.ref s.heap.objs.size,_,I.laid (t':=s.toks) (o:=.tup (xs ++ ys)) (fun b ob q=>Heap.get?_push_of_some _ q) (Nat.le_refl _) ?_,rfl,q2 (fun w=>z (r2.nil_iff.mpr w)) _ (I.hok.fresh (Nat.le_refl _))⟩
 exact ⟨by rw [List.length_append]; exact hz,_,r1.append r2,IsTup.new _ _⟩
end
open PySem PySem.Spec PyProof.Rows
def zu (n:Nat) (i:Int):Option Nat:=if 0 ≤ i then (if i < n then some i.toNat else none) else if -(n:Int) ≤ i then some (i + n).toNat else none
def qB {α:Type} (xs:List α) (i:Int):Option α:=(zu xs.length i).bind fun j=>xs[j]?
theorem zv {n:Nat} {i:Int} {j:Nat} (h:zu n i=some j):seqIndex? i n=some j /\ j < n /\ -(n:Int) ≤ i /\ i < n:=by
 unfold zu at h
 by_cases h0:0 ≤ i
 ·rw [if_pos h0] at h
  by_cases h1:i < n
  ·rw [if_pos h1] at h
   have e:i.toNat=j:=Option.some.inj h
   exact ⟨by rw [seqIndex_of h0 h1,e],by omega,by omega,h1⟩
  ·rw [if_neg h1] at h; cases h
 ·rw [if_neg h0] at h
  by_cases h1 : -(n:Int) ≤ i
  ·rw [if_pos h1] at h
   have e:(i + n).toNat=j:=Option.some.inj h
   exact ⟨by rw [seqIndex_neg (by omega) h1,e],by omega,h1,by omega⟩
  ·rw [if_neg h1] at h; cases h
theorem rE {α:Type} {xs:List α} {i:Int} {v:α} (h:qB xs i=some v):∃ j,seqIndex? i xs.length=some j /\ xs[j]? = some v /\ j < xs.length /\ -(xs.length:Int) ≤ i /\ i < xs.length:=by
 unfold qB at h
 cases e:zu xs.length i with
 | none=>rw [e] at h; cases h
 | some j =>
  rw [e] at h
  obtain ⟨h1,h2,h3,h4⟩:=zv e
  exact ⟨j,h1,h,h2,h3,h4⟩
theorem rF {α:Type} {xs:List α} {j:Nat} {v:α} (h:xs[j]? = some v):qB xs (j:Int)=some v:=by
 have hj:j < xs.length:=(List.getElem?_eq_some_iff.mp h).1
 have e:zu xs.length (j:Int)=some j:=by
  unfold zu
  rw [if_pos (by omega),if_pos (by omega)]; simp
 unfold qB; rw [e]; exact h
def yA (b:Expr):Prop:=∀ o i,subscripted b false o i=operate [o,i] (getItem o i)
def Di (X:Cx) (r:R2):Prop:=
 ∀ (value slice:Expr) (pins:List (Addr × Obj)) (s:Shared) (σ:St) (H:Hp) (x y:V) (v u:Value) (Q:VK),Inv X pins σ H s -> RelV x v -> RelV y u -> r x y H Q ->
  subscripted slice false v u=operate [v,u] (getItem v u) -> wpAny (model X.prog X.w) X.A (subscriptTail value slice v u) (EP X pins σ Q) X.xe s
def Fo (X:Cx) (id:String) (r:V -> List V -> Hp -> VK -> Prop):Prop:=
 ∀ (pins:List (Addr × Obj)) (s:Shared) (σ:St) (H:Hp) (x:V) (xs:List V) (v:Value) (us:List Value) (Q:VK),Inv X pins σ H s -> RelV x v -> Vals xs us -> r x xs H Q ->
  wpAny (model X.prog X.w) X.A (call (.builtin id) (v :: us)) (EP X pins σ Q) X.xe s
section
variable {X:Cx} {a b:Expr} {ta tb:TE} {pos:Pos}
theorem Di.or {r r':R2} (h:Di X r) (h':Di X r'):Di X (fun x y H Q=>r x y H Q \/ r' x y H Q):=by
 intro value slice pins s σ H x y v u Q I rx ry q hs
 rcases q with q | q
 ·exact h value slice pins s σ H x y v u Q I rx ry q hs
 ·exact h' value slice pins s σ H x y v u Q I rx ry q hs
theorem Fo.or {id:String} {r r':V -> List V -> Hp -> VK -> Prop} (h:Fo X id r) (h':Fo X id r'):Fo X id (fun x xs H Q=>r x xs H Q \/ r' x xs H Q):=by
 intro pins s σ H x xs v us Q I rx rs q
 rcases q with q | q
 ·exact h pins s σ H x xs v us Q I rx rs q
 ·exact h' pins s σ H x xs v us Q I rx rs q
theorem Kv {r:R2} (hr:Di X r) (ha:PE X a ta) (hb:PE X b tb) (hs:yA b):PE X (.Subscript a b pos) (KY r ta tb):=by
 intro pins s σ H Q I h
 exact Subscript_ (GO ha hb I h fun v u s2 x y H2 I2 rx ry q=>hr a b pins s2 σ H2 x y v u Q I2 rx ry q (hs _ _))
def Md (K:PySem.W.Frag):R2:=fun x y H Q=>∃ p xs i v,x=.ref p /\ y=.int i /\ iA K H p xs /\ qB xs i=some v /\ Q v H
def Mf (K:PySem.W.Frag):R2:=fun x y H Q=>∃ p xs i v,x=.ref p /\ y=.int i /\ lu K H p xs /\ qB xs i=some v /\ Q v H
def Me:R2:=fun x y H Q=>∃ z i c,x=.str z /\ y=.int i /\ z.length ≤ sizeLine /\ qB z.cps.toList i=some c /\ Q (.str ⟨#[c]⟩) H
theorem zx:Di X (Md X.K):=by
 intro value slice pins s σ H x y v u Q I rx ry h hs
 obtain ⟨p,xs,i,z,rfl,rfl,hq,he,q⟩:=h
 cases rx
 obtain ⟨t,rfl⟩:=ry
 obtain ⟨its,r,pl,hz⟩:=I.list hq
 obtain ⟨j,h1,h2,h3,h4,h5⟩:=rE he
 obtain ⟨w,ew,rw'⟩:=r.get h2
 have hl:=r.length
 have hn:=kS
 have fin:EP X pins σ Q w s:=⟨z,H,I,rw',q⟩
 by_cases h0:0 ≤ i
 ·have hj:i.toNat=j:=by
   rw [seqIndex_of h0 h5] at h1
   exact Option.some.inj h1
  exact item_listR pl.isList h0 (by omega) (by rw [hj]; simpa using ew) fin hs
 ·have hj:(i + (its.toArray.size:Int)).toNat=j:=by
   rw [seqIndex_neg (by omega) h4] at h1
   rw [List.size_toArray,<- hl]
   exact Option.some.inj h1
  exact subscriptTail_builtinR (x:=w) pl.isList.typeIs slot_list_getitem.lookup
   (wpAny_getItem_list_neg (Q:=fun r s'=>r=w /\ EP X pins σ Q r s') pl.isList (by omega) (by rw [List.size_toArray] <;> omega) (by omega) (by rw [hj]; simpa using ew) ⟨rfl,fin⟩) hs
theorem Hv:Di X (Mf X.K):=by
 intro value slice pins s σ H x y v u Q I rx ry h hs
 obtain ⟨p,xs,i,z,rfl,rfl,hq,he,q⟩:=h
 cases rx
 obtain ⟨t,rfl⟩:=ry
 obtain ⟨its,r,pl,hz⟩:=I.tuple hq
 obtain ⟨j,h1,h2,h3,h4,h5⟩:=rE he
 obtain ⟨w,ew,rw'⟩:=r.get h2
 have hl:=r.length
 have hn:=kS
 have fin:EP X pins σ Q w s:=⟨z,H,I,rw',q⟩
 exact subscriptTail_builtinR (x:=w) pl.typeIs slot_tuple_getitem.lookup
  (getItem_tuple (j:=j) (Q:=fun r s'=>r=w /\ EP X pins σ Q r s') pl (by omega) (by omega) (by rw [List.size_toArray,<- hl]; exact h1) (by simpa using ew) ⟨rfl,fin⟩) hs
theorem Hu:Di X Me:=by
 intro value slice pins s σ H x y v u Q I rx ry h hs
 obtain ⟨z,i,c,rfl,rfl,hz,he,q⟩:=h
 obtain ⟨t,rfl⟩:=rx
 obtain ⟨t',rfl⟩:=ry
 obtain ⟨j,h1,h2,h3,h4,h5⟩:=rE he
 have hl:z.cps.toList.length=z.length:=by simp [Str.length]
 rw [hl] at h1 h4 h5
 have hn:=kS
 exact tail_any (typeIs_str s z t) slot_str_getitem.lookup (getItem_str (c:=c) (by
  have e1:decide (i < -(2 ^ 63:Int))=false:=decide_eq_false (by omega)
  have e2:decide (i ≥ 2 ^ 63)=false:=decide_eq_false (by omega)
  rw [e1,e2,Bool.or_false]) (by rw [h1]; simpa using h2) ⟨.str ⟨#[c]⟩,H,I.tok _,⟨_,rfl⟩,q⟩) hs
theorem xS (its:List Value) (n j:Nat) (u:Value):Obj.mapSeq (·.setIfInBounds j u) { cls:=.type "list", data:=.seq its.toArray n }={ cls:=.type "list", data:=.seq (its.set j u).toArray n }:=by
 simp [Obj.mapSeq]
theorem Inv.lst {pins:List (Addr × Obj)} {σ:St} {H:Hp} {s:Shared} {p:Addr} {xs:List V} (I:Inv X pins σ H s) (h:H p=some (.lst xs)) :
  ∃ (its:List Value) (n:Nat),Vals xs its /\ s.heap.get? p=some { cls:=.type "list", data:=.seq its.toArray n } /\ xs.length ≤ sizeLine:=by
 obtain ⟨z,its,n,r,e⟩:=I.hok p _ h
 exact ⟨its,n,r,e,z⟩
theorem Inv.lstUpd {pins:List (Addr × Obj)} {σ:St} {H:Hp} {s:Shared} {p:Addr} {xs ys:List V} {its its':List Value} {n n':Nat} {f:Obj -> Obj} (I:Inv X pins σ H s) (h:H p=some (.lst xs))
  (ho:s.heap.get? p=some { cls:=.type "list", data:=.seq its.toArray n }) (hf:f { cls:=.type "list", data:=.seq its.toArray n }={ cls:=.type "list", data:=.seq its'.toArray n' }) (r:Vals ys its') (hz:ys.length ≤ sizeLine) (t:Nat) :
  Inv X pins σ (upd H p (.lst ys)) { s with heap:=s.heap.update p f,toks:=t }:=by
 have e:(s.heap.update p f).get? p=some { cls:=.type "list", data:=.seq its'.toArray n' }:=by
  rw [Heap.get?_update_self f ho (by rw [hf] <;> rfl),hf]
 refine I.write (x:=p) (e:=p) (by rw [h]; trivial) (.inl rfl) (fun b u hb q=>(Heap.get?_update_other _ _ (Ne.symm hb)).trans q) ⟨_,e⟩ ?_
 exact ⟨hz,its',n',r,e⟩
def KD:V -> V -> V -> Hp -> (Hp -> Prop) -> Prop:=fun o i v H Q=>∃ p xs k j,o=.ref p /\ i=.int k /\ H p=some (.lst xs) /\ zu xs.length k=some j /\ Q (upd H p (.lst (xs.set j v)))
theorem set_list:Jv X KD:=by
 intro pins s σ H o i v ov iv u Q I ro ri rv h
 obtain ⟨p,xs,k,j,rfl,rfl,hp,hj,q⟩:=h
 cases ro
 obtain ⟨t,rfl⟩:=ri
 obtain ⟨its,n,r,ho,hz⟩:=I.lst hp
 obtain ⟨h1,h2,h3,h4⟩:=zv hj
 have hl:=r.length
 have hn:=kS
 have I':Inv X pins σ (upd H p (.lst (xs.set j v))) { s with heap:=s.heap.update p (Obj.mapSeq (·.setIfInBounds j u)) }:=
  I.lstUpd hp ho (xS its n j u) (r.set rv j) (by rw [List.length_set]; exact hz) s.toks
 by_cases h0:0 ≤ k
 ·have hk:k.toNat=j:=by
   rw [seqIndex_of h0 h4] at h1
   exact Option.some.inj h1
  exact PySem.W.ki_setAt ho h0 (by omega) (by rw [List.size_toArray,<- hl]; exact h4) (by rw [hk]; exact ⟨_,I',q⟩)
 ·have hk:(k + (its.toArray.size:Int)).toNat=j:=by
   rw [seqIndex_neg (by omega) h3] at h1
   rw [List.size_toArray,<- hl]
   exact Option.some.inj h1
  exact PySem.W.ki_setBack ho (by omega) (by rw [List.size_toArray,<- hl]; exact h3) (by omega) (by rw [hk]; exact ⟨_,I',q⟩)
theorem uv (lo hi:Option Int) (n:Nat):(sliceBounds lo hi none n).1=((HT.fG n 0 lo:Nat):Int) /\ (sliceBounds lo hi none n).2.1=((HT.fG n n hi:Nat):Int) /\ (sliceBounds lo hi none n).2.2=1:=by
 refine ⟨?_,?_,rfl⟩
 ·cases lo with
  | none=>simp [sliceBounds,HT.fG]
  | some i =>
   simp only [sliceBounds,HT.fG,Option.getD_none,show (1:Int) > 0 by decide,if_true]
   by_cases h:i < 0
   ·simp only [h,if_true] <;> omega
   ·simp only [h,if_false] <;> omega
 ·cases hi with
  | none=>simp [sliceBounds,HT.fG]
  | some i =>
   simp only [sliceBounds,HT.fG,Option.getD_none,show (1:Int) > 0 by decide,if_true]
   by_cases h:i < 0
   ·simp only [h,if_true] <;> omega
   ·simp only [h,if_false] <;> omega
theorem qy (its:List Value) (lo hi:Option Int):slicePick its.toArray lo hi none=((its.drop (HT.fG its.length 0 lo)).take (HT.fG its.length its.length hi - HT.fG its.length 0 lo)).toArray:=by
 obtain ⟨h1,h2,h3⟩:=uv lo hi its.toArray.size
 unfold slicePick
 rw [h1,h2,h3]
 simp only [sliceRange_one,pick_run,List.size_toArray] <;> rfl
def Mh (K:PySem.W.Frag):V -> Option Int -> Option Int -> Hp -> VK -> Prop:=fun x lo hi H Q=>∃ a xs,x=.ref a /\ iA K H a xs /\ ∀ p,H p=none -> Q (.ref p) (upd H p (.lst (oH xs lo hi)))
theorem EX:Fs X (Mh X.K):=by
 intro pins s σ H x v vl vu lo hi sl Q I rx hs pl pu h
 obtain ⟨a,xs,rfl,hx,q⟩:=h
 cases rx
 obtain ⟨its,r,ht,hz⟩:=I.list hx
 have hlen:=r.length
 refine ⟨"list", _,slot_list_getitem.lookup,ht.isList.typeIs,?_⟩
 refine wpAny_getItem_list_slice ht.isList hs pl pu .none (by simp) ?_ (by rw [List.size_toArray] <;> omega)
 rw [qy,<- hlen]
 refine ⟨.ref s.heap.objs.size,_,I.laid (t':=s.toks) (o:=.lst (oH xs lo hi)) (fun b ob q=>Heap.get?_push_of_some _ q) (Nat.le_refl _) ?_,rfl,q _ (I.hok.fresh (Nat.le_refl _))⟩
 exact ⟨Nat.le_trans (m8 xs lo hi) hz,_,0,(r.drop (HT.fG xs.length 0 lo)).take (HT.fG xs.length xs.length hi - HT.fG xs.length 0 lo),Heap.get?_push_size _ rfl⟩
theorem rM:gp X (.builtin "len") (fun xs H Q=>∃ p ys,xs=[.ref p] /\ (iA X.K H p ys \/ lu X.K H p ys) /\ Q (.int ys.length) H):=by
 intro pins s σ H xs us Q I r h
 obtain ⟨p,ys,rfl,hq,q⟩:=h
 obtain ⟨u,rfl,rx⟩:=vals1 r
 cases rx
 have hn:=kS
 rcases hq with hq | hq
 ·obtain ⟨its,r',pl,hz⟩:=I.list hq
  have hlen:=r'.length
  exact Calls.call_len_list pl.isList (by simp only [List.size_toArray] <;> omega) ⟨.int ys.length,H,I.tok _,⟨s.toks + 1,by rw [List.size_toArray,hlen]⟩,q⟩
 ·obtain ⟨its,r',pl,hz⟩:=I.tuple hq
  have hlen:=r'.length
  exact len_tuple pl (by simp only [List.size_toArray] <;> omega) ⟨.int ys.length,H,I.tok _,⟨s.toks + 1,by rw [List.size_toArray,hlen]⟩,q⟩
theorem rN:gp X (.builtin "len") (fun xs H Q=>∃ z,xs=[.str z] /\ z.length ≤ sizeLine /\ Q (.int z.length) H):=by
 intro pins s σ H xs us Q I r h
 obtain ⟨z,rfl,hz,q⟩:=h
 obtain ⟨u,rfl,t,rfl⟩:=vals1 r
 have hn:=kS
 exact len_str (by omega) ⟨.int z.length,H,I.tok _,⟨_,rfl⟩,q⟩
theorem gp.or {f:Value} {r r':List V -> Hp -> VK -> Prop} (h:gp X f r) (h':gp X f r'):gp X f (fun xs H Q=>r xs H Q \/ r' xs H Q):=by
 intro pins s σ H xs us Q I rs q
 rcases q with q | q
 ·exact h pins s σ H xs us Q I rs q
 ·exact h' pins s σ H xs us Q I rs q
theorem rO:gp X (.type "list") (fun xs H Q=>∃ p ys,xs=[.ref p] /\ (iA X.K H p ys \/ lu X.K H p ys) /\ ∀ l,H l=none -> Q (.ref l) (upd H l (.lst ys))):=by
 intro pins s σ H xs us Q I r h
 obtain ⟨p,ys,rfl,hq,q⟩:=h
 obtain ⟨u,rfl,rx⟩:=vals1 r
 cases rx
 have fin:∀ (its:List Value),Vals ys its -> ys.length ≤ sizeLine -> ∀ (h':Heap) (c':Nat),(∀ b o',s.heap.get? b=some o' -> h'.get? b=some o') ->
   h'.get? s.heap.objs.size=some { cls:=.type "list", dict:=none,data:=.seq its.toArray c',slots:=#[] } -> EP X pins σ Q (.ref s.heap.objs.size) { s with heap:=h' }:=fun its r' hz h' c' kp e =>
  ⟨.ref s.heap.objs.size,_,I.laid (t':=s.toks) kp (Nat.le_refl _) (show fu X.prog X.w _ h' _ (.lst ys) from ⟨hz,its,c',r',e⟩),rfl,q _ (I.hok.fresh (Nat.le_refl _))⟩
 rcases hq with hq | hq
 ·obtain ⟨its,r',pl,hz⟩:=I.list hq
  have hlen:=r'.length
  obtain ⟨o,ho,hc,n,hd⟩:=pl.isList
  exact call_list_seq p (.inl rfl) ho hc hd (fun h' c' kp e=>fin its r' hz h' c' kp e) (by simp only [List.size_toArray] <;> omega)
 ·obtain ⟨its,r',pl,hz⟩:=I.tuple hq
  have hlen:=r'.length
  obtain ⟨o,ho,hc,n,hd⟩:=pl
  exact call_list_seq p (.inr rfl) ho hc hd (fun h' c' kp e=>fin its r' hz h' c' kp e) (by simp only [List.size_toArray] <;> omega)
theorem qb:gp X (.type "tuple") (fun xs H Q=>∃ p ys,xs=[.ref p] /\ ((iA X.K H p ys /\ ∀ l,H l=none -> Q (.ref l) (upd H l (.tup ys))) \/ (lu X.K H p ys /\ Q (.ref p) H))):=by
 intro pins s σ H xs us Q I r h
 obtain ⟨p,ys,rfl,h⟩:=h
 obtain ⟨u,rfl,rx⟩:=vals1 r
 cases rx
 rcases h with ⟨hq,q⟩ | ⟨hq,q⟩
 ·obtain ⟨its,r',pl,hz⟩:=I.list hq
  have hlen:=r'.length
  refine call_tuple_list pl.isList (fun h' kp=>?_) (by simp only [List.size_toArray] <;> omega)
  have I1:Inv X pins σ H { s with heap:=h' }:=I.kept (t':=s.toks) kp
  have I2:Inv X pins σ (upd H h'.objs.size (.tup ys)) { s with heap:=h'.push { cls:=.type "tuple", data:=.seq its.toArray } }:=
   I1.laid (t':=s.toks) (fun b o e=>Heap.get?_push_of_some _ e) (Nat.le_refl _) (show fu X.prog X.w _ _ _ (.tup ys) from ⟨hz,its,r',IsTup.new _ _⟩)
  exact ⟨.ref h'.objs.size,_,I2,rfl,q _ (I1.hok.fresh (Nat.le_refl _))⟩
 ·obtain ⟨its,r',pl,hz⟩:=I.tuple hq
  exact call_tuple_same pl ⟨.ref p,H,I,rfl,q⟩
def MA (K:PySem.W.Frag) (T:String) (x:V) (H:Hp):Prop:=match x with
 | .str _=>T = "str"
 | .int _=>T = "int"
 | .ref p=>(T = "list" /\ ∃ xs,iA K H p xs) \/ (T = "tuple" /\ ∃ o,K.lookup p=some o /\ o.cls=.type "tuple" /\ o.dict=none) \/
   (T = "dict" /\ ((∃ kvs,H p=some (.dK kvs)) \/ ∃ kvs,H p=some (.dT kvs))) \/ (T = "set" /\ ∃ S n,H p=some (.set S n))
 | _=>False
theorem C7 {pins:List (Addr × Obj)} {σ:St} {H:Hp} {s:Shared} {T:String} {x:V} {v:Value} (I:Inv X pins σ H s) (r:RelV x v) (ty:MA X.K T x H) :
  s.TypeIs v T /\ ∀ a,v=.ref a -> ∃ ob,s.heap.get? a=some ob /\ ob.dict=none:=by
 cases x with
 | str z =>
  obtain ⟨t,rfl⟩:=r
  cases (show T = "str" from ty)
  exact ⟨typeIs_str s z t,fun _ e=>nomatch e⟩
 | int i =>
  obtain ⟨t,rfl⟩:=r
  cases (show T = "int" from ty)
  exact ⟨typeIs_int s i t,fun _ e=>nomatch e⟩
 | ref p =>
  cases r
  rcases ty with ⟨rfl,xs,hq⟩ | ⟨rfl,o,hk,hc,hd⟩ | ⟨rfl,hk⟩ | ⟨rfl,S,n,hk⟩
  ·obtain ⟨its,_,pl,_⟩:=I.list hq
   refine ⟨pl.isList.typeIs,fun a e=>?_⟩
   cases e
   obtain ⟨o,n,e,c,hd,_⟩:=pl
   exact ⟨o,e,hd⟩
  ·refine ⟨⟨o,I.kIn p o hk,hc⟩,fun a e=>?_⟩
   cases e
   exact ⟨o,I.kIn _ o hk,hd⟩
  ·have z:∃ o,s.heap.get? p=some o /\ o.ExactDict:=by
    rcases hk with ⟨kvs,hk⟩ | ⟨kvs,hk⟩
    ·obtain ⟨_,_,_,_,o,_,_,e,ex,_⟩:=I.hok p _ hk
     exact ⟨o,e,ex⟩
    ·obtain ⟨_,_,_,_,o,_,_,e,ex,_⟩:=I.hok p _ hk
     exact ⟨o,e,ex⟩
   obtain ⟨o,e,ex⟩:=z
   refine ⟨⟨o,e,ex.1⟩,fun a e2=>?_⟩
   cases e2
   exact ⟨o,e,ex.2.1⟩
  ·obtain ⟨o,_,_,_,e,ex,_⟩:=I.hok p _ hk
   refine ⟨⟨o,e,ex.1⟩,fun a e2=>?_⟩
   cases e2
   exact ⟨o,e,ex.2.1⟩
 | _=>exact False.elim ty
def Mo (K:PySem.W.Frag) (T:String) (r:V -> List V -> Hp -> VK -> Prop) (to:TE):TE:=fun σ H Q=>to σ H fun x H1=>MA K T x H1 /\ r x [] H1 Q
def Ng (K:PySem.W.Frag) (T:String) (r:V -> List V -> Hp -> VK -> Prop) (to:TE) (t:TA):TE:=fun σ H Q=>to σ H fun x H1=>MA K T x H1 /\ t σ H1 fun xs H2=>r x xs H2 Q
variable {o e:Expr} {es:List Expr} {to:TE} {t:TA} {name:Str} {apos cpos:Pos} {T id:String} {r:V -> List V -> Hp -> VK -> Prop}
theorem HV (pa:PlainAttrs T) (slot:Slot T name id) (hty:typeOf (.builtin id)=pure (.type "method_descriptor")) (hm:Fo X id r) (ho:PE X o to)
  (hbase:attributeBase o name X.env (eval o X.env)=eval o X.env:=by rfl) (hline:(apos.endLine == cpos.line)=true:=by rfl):PE X (.Call (.Attribute o name apos) [] [] cpos) (Mo X.K T r to):=by
 intro pins s σ H Q I h
 refine wpAny_Call_method0_late hbase hline (dh (ho pins s σ H _ I h) fun v s1 ⟨x,H1,I1,r1,ty,q1⟩=>?_)
 obtain ⟨h1,h2⟩:=C7 I1 r1 ty
 exact ⟨T,id,pa,slot,hty,h1,h2,Calls.callWith_builtin rfl (PySem.evalArgs_none (hm pins s1 σ H1 x [] v [] Q I1 r1 .nil q1))⟩
theorem Ku (pa:PlainAttrs T) (slot:Slot T name id) (hty:typeOf (.builtin id)=pure (.type "method_descriptor")) (hm:Fo X id r) (ho:PE X o to) (ha:PA X (e :: es) t)
  (hbase:attributeBase o name X.env (eval o X.env)=eval o X.env:=by rfl)
  (hfew:((backTo cpos (starEach (e :: es) X.env)).all (fun x=>!x.1) && (backToKw cpos (keywordEach [] X.env)).all (fun x=>x.1.isSome)
   && decide ((e :: es).length + ([]:List Keyword).length + (if ([]:List Keyword).isEmpty then 0 else 1) < 30))=true:=by rfl)
  (hline:(apos.endLine == cpos.line)=true:=by rfl) (hs:starEach (e :: es) X.env=(false,eval e X.env) :: starEach es X.env:=by rfl) (hplain:(backTo cpos (starEach es X.env)).any (·.1)=false:=by rfl) :
  PE X (.Call (.Attribute o name apos) (e :: es) [] cpos) (Ng X.K T r to t):=by
 intro pins s σ H Q I h
 refine wpAny_Call_method_late hbase hfew hline rfl (dh (ho pins s σ H _ I h) fun v s1 ⟨x,H1,I1,r1,ty,q1⟩=>?_)
 obtain ⟨h1,h2⟩:=C7 I1 r1 ty
 refine ⟨T,id,pa,slot,hty,h1,h2,?_⟩
 have hA:=ha cpos pins s1 σ H1 _ I1 q1
 rw [hs] at hA ⊢
 refine Calls.callWith_builtin (by show (false || (backTo cpos (starEach es X.env)).any (·.1))=false; rw [hplain] <;> rfl) (Calls.evalArgs_plain ?_)
 exact dh hA fun us s2 ⟨vs,H2,I2,r2,q2⟩=>hm pins s2 σ H2 x vs v us Q I2 r1 r2 q2
/- xs.append(e),list.index on a module's tuple .. are Fo facts of 06m -/
end
open PySem PySem.Spec PyProof.Rows
def MV (X:Cx) (id:String) (r:V -> List V -> Hp -> VK -> Prop):Prop:=
 ∀ (pins:List (Addr × Obj)) (s:Shared) (σ:St) (H:Hp) (x:V) (xs:List V) (v:Value) (us:List Value) (Q:VK),Inv X pins σ H s -> RelV x v -> Vals xs us -> r x xs H Q ->
  wpAny (model X.prog X.w) X.A (call (.builtin id) (v :: us)) (EP X pins σ Q) X.xe s
theorem Vals.one:∀ {x:V} {us:List Value},Vals [x] us -> ∃ u,us=[u] /\ RelV x u
 | _,_,.cons r .nil=>⟨_,rfl,r⟩
theorem Vals.two:∀ {x y:V} {us:List Value},Vals [x,y] us -> ∃ u v,us=[u,v] /\ RelV x u /\ RelV y v
 | _,_,_,.cons r (.cons q .nil)=>⟨_,_,rfl,r,q⟩
theorem Vals.zero:∀ {us:List Value},Vals [] us -> us=[]
 | _,.nil=>rfl
theorem Vals.dropLast {xs:List V} {us:List Value} (h:Vals xs us):Vals xs.dropLast us.dropLast:=by
 induction h with
 | nil=>exact .nil
 | cons r t ih =>
  cases t with
  | nil=>exact .nil
  | cons q t'=>exact .cons r ih
theorem Vals.reverse {xs:List V} {us:List Value} (h:Vals xs us):Vals xs.reverse us.reverse:=by
 induction h with
 | nil=>exact .nil
 | cons r t ih=>rw [List.reverse_cons,List.reverse_cons]; exact Vals.append ih (.cons r .nil)
theorem Vals.rep {xs:List V} {us:List Value} (h:Vals xs us):∀ k:Nat,Vals (List.replicate k xs).flatten (List.replicate k us).flatten
 | 0=>.nil
 | k + 1=>by
  rw [List.replicate_succ,List.replicate_succ,List.flatten_cons,List.flatten_cons]
  exact Vals.append h (Vals.rep h k)
theorem foldl_rep (its:List Value):∀ (k:Nat) (acc:List Value),
  List.foldl (fun x1 x2=>x1 ++ x2) acc.toArray (List.replicate k its.toArray)=(acc ++ (List.replicate k its).flatten).toArray
 | 0,acc=>by simp
 | k + 1,acc=>by
  have e:acc.toArray ++ its.toArray=(acc ++ its).toArray:=by simp
  have e2:(acc ++ its) ++ (List.replicate k its).flatten=acc ++ (List.replicate (k + 1) its).flatten:=by
   rw [List.replicate_succ,List.flatten_cons,List.append_assoc]
  rw [<- e2,<- foldl_rep its k (acc ++ its),<- e,List.replicate_succ,List.foldl_cons]
section
variable {X:Cx} {pins:List (Addr × Obj)} {σ:St} {H:Hp} {s:Shared} {l b:Addr} {xs ys zs:List V}
theorem Inv.lset {its its':List Value} {n:Nat} {f:Array Value -> Array Value} {t':Nat} (I:Inv X pins σ H s) (hH:H l=some (.lst xs))
  (e:s.heap.get? l=some { cls:=.type "list", data:=.seq its.toArray n }) (hf:f its.toArray=its'.toArray) (hv:Vals ys its') (hz:ys.length ≤ sizeLine) :
  Inv X pins σ (upd H l (.lst ys)) { s with heap:=s.heap.update l (Obj.mapSeq f),toks:=t' }:=by
 have q:=PySem.IsL.update e f
 rw [hf] at q
 refine I.write (x:=l) (e:=l) (by rw [hH]; exact trivial) (.inl rfl) (fun b' u hb hu=>(Heap.get?_update_other s.heap (Obj.mapSeq f) (Ne.symm hb)).trans hu) ⟨_,q⟩ ?_
 exact ⟨hz,its',_,hv,q⟩
theorem Inv.lnew {its:List Value} {t':Nat} (I:Inv X pins σ H s) (hv:Vals ys its) (hz:ys.length ≤ sizeLine) :
  Inv X pins σ (upd H s.heap.objs.size (.lst ys)) { s with heap:=s.heap.push { cls:=.type "list", data:=.seq its.toArray },toks:=t' }:=
 I.laid (fun _ _ q=>Heap.get?_push_of_some _ q) (Nat.le_refl _) ⟨hz,its,0,hv,Heap.get?_push_size _ rfl⟩
theorem Inv.fresh (I:Inv X pins σ H s):H s.heap.objs.size=none:=I.hok.fresh (Nat.le_refl _)
theorem Inv.lstM (I:Inv X pins σ H s) (hH:H l=some (.lst xs)):xs.length ≤ sizeLine /\ ∃ (its:List Value) (n:Nat),Vals xs its /\ xs.length=its.length /\ s.heap.get? l=some { cls:=.type "list", data:=.seq its.toArray n }:=by
 obtain ⟨z,its,n,r,e⟩:=I.hok l _ hH
 exact ⟨z,its,n,r,r.length,e⟩
theorem Cj {n:Nat} (h:n ≤ sizeLine):Builtin.List.listTooLong n=false:=by
 unfold Builtin.List.listTooLong
 exact decide_eq_false (by omega)
end
section
variable {X:Cx}
def EL:V -> List V -> Hp -> VK -> Prop:=fun x vs H Q=>∃ l xs y,x=.ref l /\ vs=[y] /\ H l=some (.lst xs) /\ xs.length < sizeLine /\ Q .non (upd H l (.lst (xs ++ [y])))
theorem mI:MV X "list.append" EL:=by
 intro pins s σ H x vs v us Q I rx rv h
 obtain ⟨l,xs,y,rfl,rfl,hH,hz,q⟩:=h
 cases rx
 obtain ⟨u,rfl,ru⟩:=rv.one
 obtain ⟨z,its,n,r,hl,e⟩:=I.lstM hH
 refine call_meets F.slot_list_append ⟨_,e,rfl⟩ F.entry_list_append (F.args_list_append_2 _ _) (PySem.list_append l its.toArray n u (by rw [List.size_toArray]; omega)) ⟨e,?_⟩
 refine ⟨.non,_,I.lset (its':=its ++ [u]) hH e (by simp) (r.append (.cons ru .nil)) ?_,rfl,q⟩
 rw [List.length_append,List.length_singleton]
 omega
def Mc:R2:=fun x y H Q=>∃ l b xs zs,x=.ref l /\ y=.ref b /\ H l=some (.lst xs) /\ H b=some (.lst zs) /\ xs.length + zs.length ≤ sizeLine /\ ∀ p,H p=none -> Q (.ref p) (upd H p (.lst (xs ++ zs)))
theorem HH:m6 X (binaryOp .Add) Mc:=by
 intro pins s σ H x y v u Q I rx ry h
 obtain ⟨l,b,xs,zs,rfl,rfl,hH,hB,hz,q⟩:=h
 cases rx
 cases ry
 obtain ⟨z,its,n,r,hl,e⟩:=I.lstM hH
 obtain ⟨z2,its2,n2,r2,JX,e2⟩:=I.lstM hB
 refine PySem.P.add_list e e2 ?_ (by rw [List.size_toArray,List.size_toArray]; omega)
 have ea:its.toArray ++ its2.toArray=(its ++ its2).toArray:=by simp
 rw [ea]
 exact ⟨.ref _,_,I.lnew (t':=s.toks) (r.append r2) (by rw [List.length_append]; omega),rfl,q _ I.fresh⟩
def Mg:R2:=fun x y H Q=>∃ l k xs,x=.ref l /\ y=.int k /\ H l=some (.lst xs) /\ -(2 ^ 63) ≤ k /\ k < 2 ^ 63 /\ xs.length * k.toNat ≤ sizeLine /\
 ∀ p,H p=none -> Q (.ref p) (upd H p (.lst (List.replicate k.toNat xs).flatten))
theorem len_rep {α:Type} (xs:List α) (k:Nat):(List.replicate k xs).flatten.length=k * xs.length:=by
 induction k with
 | zero=>simp
 | succ k ih=>rw [List.replicate_succ,List.flatten_cons,List.length_append,ih,Nat.succ_mul,Nat.add_comm]
theorem HI:m6 X (binaryOp .Mult) Mg:=by
 intro pins s σ H x y v u Q I rx ry h
 obtain ⟨l,k,xs,rfl,rfl,hH,h1,h2,hz,q⟩:=h
 cases rx
 obtain ⟨t,rfl⟩:=ry
 obtain ⟨z,its,n,r,hl,e⟩:=I.lstM hH
 have hlen:its.toArray.size * k.toNat ≤ sizeLine:=by rw [List.size_toArray,<- hl]; exact hz
 have hcap:¬ its.toArray.size * k.toNat > (2 ^ 63 - 1) / 8:=by
  have:(sizeLine:Nat) ≤ (2 ^ 63 - 1) / 8:=by decide
  omega
 have hfit:¬ (!Builtin.List.listFitsIndex k)=true:=by
  rw [fitsIndex_both h1 h2]
  exact Bool.false_ne_true
 have hlong:¬ Builtin.List.listTooLong (its.toArray.size * k.toNat)=true:=by
  rw [Cj hlen]
  exact Bool.false_ne_true
 have hnew:List.foldl (fun x1 x2=>x1 ++ x2) #[] (List.replicate (if its.toArray.isEmpty=true then 0 else k.toNat) its.toArray)=(List.replicate k.toNat its).flatten.toArray:=by
  have f0:∀ m:Nat,List.foldl (fun x1 x2=>x1 ++ x2) #[] (List.replicate m its.toArray)=(List.replicate m its).flatten.toArray:=fun m=>by
   have:=foldl_rep its m []
   rw [List.nil_append] at this
   exact this
  rw [f0]
  cases its with
  | nil=>simp
  | cons a r'=>rw [if_neg (by simp)]
 refine wpAny_binaryOp_repeat_ref (T := "list") (U := "int") (by decide) ⟨_,e,rfl⟩ (fun s'=>typeIs_int s' k t) noFill_list_mul F.fills_int_mul F.slot_int_rmul repeat_list F.slot_int_index.lookup
  (call_meets F.slot_int_rmul (typeIs_int s k t) F.entry_int_rmul (F.args_int_rmul_2 _ _) (int___rmul___int_list k t l its.toArray n)
   ⟨e,rfl,⟨_,e,rfl⟩,call_meets F.slot_list_mul ⟨_,e,rfl⟩ F.entry_list_mul (F.args_list_mul_2 _ _) (AutoListH.list___mul___list_int_3 l its.toArray n k t hfit hcap hlong) ⟨e,?_⟩⟩)
 rw [hnew]
 exact ⟨.ref _,_,I.lnew (t':=s.toks) (r.rep k.toNat) (by rw [len_rep,Nat.mul_comm]; exact hz),rfl,q _ I.fresh⟩
end
section
variable {prog:Program} {w:World} {A:Around} {E:Value -> Shared -> Prop} {s:Shared}
end
section
variable {X:Cx}
end
end L2
namespace Att
open PySem PySem.W PySem.Calls PyProof.Rows
theorem nz {P:Params} {h:Heap}:∀ (ns:List Int) (vs:List Value),WellAll P h vs (ns.map WData.int) -> IntsAre vs ns:=by
 intro ns
 induction ns with
 | nil =>
  intro vs w
  rw [List.map_nil] at w
  cases w
  exact .nil
 | cons n ns ih =>
  intro vs w
  rw [List.map_cons] at w
  cases w with
  | cons a b =>
   cases a
   exact .cons _ _ (ih _ b)
theorem A6 {l:OpenLaw} {n:Nat} (hn:l.most=some n) {P:Params} {h:Heap} {args:List WData} {vals:List Value}
  (hpre:l.row.toRowW.claim.pre args=true) (hwl:WellAll P h vals args) :
  ∃ a vs ns,vals=[Value.ref a] /\ args=[WData.list (ns.map WData.int)] /\ h.get? a=some { cls:=.type "list", data:=.seq vs.toArray } /\ IntsAre vs ns /\ ns.length ≤ n:=by
 have hsh:WShape.hasAll [] args [.list .int]=true:=(pre_splitW hpre).1
 have hc:l.pre.holds [] { args:=args }=true:=(pre_splitW hpre).2
 obtain ⟨d,r,rfl,h1,h2⟩:=hasAllW_cons hsh
 obtain rfl:=hasAllW_nil h2
 obtain ⟨xs,rfl,h3⟩:=hasW_list h1
 obtain ⟨ns,rfl⟩:=items_int h3
 have hlen:ns.length ≤ n:=by
  unfold OpenLaw.pre at hc
  have h4:(WTm.not (.lt (.lit (.int (n:Int))) (.len (.arg 0)))).holds [] { args:=[.list (ns.map .int)] }=true:=by
   have h4:=(holds_andW hc).1
   rw [hn] at h4
   exact h4
  have h5:=condW_of h4 (w_not (w_lt w_lit (w_len_list (w_arg rfl))))
  rw [List.length_map] at h5
  refine Nat.le_of_not_lt fun q=>?_
  have q':(n:Int) < ((ns.length:Nat):Int):=by omega
  first
   | (rw [decide_eq_true q'] at h5; exact absurd h5 (by decide))
   | (simp at h5; omega)
 cases hwl with
 | cons w1 w2 =>
  cases w2
  cases w1 with
  | list ho hall=>exact ⟨_,_,ns,rfl,rfl,ho,nz ns _ hall,hlen⟩
theorem AZ (l:OpenLaw) (args:List WData):l.row.toRowW.claim.post args (.bool true) args=true:=
 postW_of (r:=l.row.toRowW) (X:=(true == true))
  (show WShape.has [] (.bool true) .bool=true by first | rfl | decide | simp [WShape.has,WShape.arms,WShape.armsAll])
  (show (WTm.eq .res (.lit (.bool true))).value [] { args:=args,res:=some (.bool true),after:=args }=some (.bool (true == true)) from w_eq_bool (w_res rfl) w_lit) rfl
theorem uJ {l:OpenLaw} {n:Nat} {q:Program} {loose:List Str} {XP:(Str -> Option Value) -> Heap -> Prop} {YP:World -> Heap -> Prop} {d:DefRec}
  (hn:l.most=some n) (hdf:d.params.defaults=[])
  (call:∀ (w:World) (s₀ s₁:Shared) (mg mb:Str -> Option Value) (fa:Addr) (o:Obj) (pm cd doc:Value) (a:Addr) (vs:List Value) (ns:List Int),
   Ground q loose [] XP w s₀ mg mb s₁.heap -> YP w s₁.heap ->
   s₁.heap.get? fa=some o -> o.data=.func (docDef d.name d.params d.body d.scope pm cd doc) -> s₁.heap.CodeRec cd d.name -> mg d.name=some (.ref fa) ->
   s₁.heap.get? a=some { cls:=.type "list", data:=.seq vs.toArray } -> IntsAre vs ns -> ns.length ≤ n -> s₁.gens = #[] ->
   codeAny (model l.prog w) callerA (.call (.ref fa) ⟨[.ref a],[]⟩) (fun r s'=>r=.ok (.ret (.bool true)) /\ OldK s₁.heap s'.heap /\ s'.os=s₁.os /\ AllBare s'.gens) s₁) :
  WalkO q loose XP YP l.row.toRowW d [] (fun f vs=>PySem.call f vs):=by
 intro w s₀ s₁ mg mb G Y fa o pm cd doc dV kV ho hd hcd hD hmg hg args vals as hpre hlay hrd hwl hlo
 obtain rfl:dV=.none:=Dflts.none hD hdf
 obtain rfl:kV=.none:=Dflts.noKw hD
 obtain ⟨a,vs,ns,rfl,rfl,hobj,hints,hlen⟩:=A6 hn hpre hwl
 refine enter_call (codeAny_mono (call w s₀ s₁ mg mb fa o pm cd doc a vs ns G Y ho (fd_plain hd) hcd hmg hobj hints hlen hg) fun r s' hq=>?_)
 obtain ⟨rfl,h2,h3,h4⟩:=hq
 exact ⟨.inl ⟨.bool true,.bool true,[],rfl,fun _=>rfl,.bool true,AZ l _,fun _=>⟨List.Pairwise.nil,fun _ hm=>(nomatch hm)⟩⟩,h2,h3,h4⟩
section
variable {prog:Program} {w:World} {A:Around} {E:Value -> Shared -> Prop} {s:Shared} {K:Frag}
end
end Att
namespace L2
open PySem PySem.Spec PyProof.Rows
theorem rg:∀ {vs:List Value} {ns:List Int},IntsAre vs ns -> Vals (ns.map V.int) vs
 | _,_,.nil=>.nil
 | _,_,.cons n t h=>.cons ⟨t,rfl⟩ (rg h)
def GG (H:Hp):Prop:=∀ b,H b=none \/ ∃ o xs,H b=some (.frz o (.lst xs))
theorem B6 {P:Program} {w:World} {K:PySem.W.Frag} {mg mb:Str -> Option Value} {CX:yz} {k:Nat} {fa a:Addr} {fd:FuncData} {x:Str} {sp:Sp} {s₁:Shared} {vs:List Value} {ns:List Int}
  (KX:K.In s₁.heap) (hns:s₁.heap.Ns mainGlobals mg) (hb:s₁.heap.Ns builtinsNs mb) (hbb:∀ x:Str,x ≠ "__name__" -> mb x=bootBuiltins x) (hlim:s₁.heap.NoLimit) (hg:s₁.gens = #[])
  (ha:s₁.heap.get? a=some { cls:=.type "list", data:=.seq vs.toArray }) (hi:IntsAre vs ns) (hl:ns.length ≤ sizeLine) (hr:dz k callerA)
  (F:∀ base:Heap,K.In base -> base.Ns mainGlobals mg -> fJ P w K mg base CX k fa fd [x] sp) (hbind:∀ (s:Shared) (u:Value),BindsTo s fd ⟨[u],[]⟩ [(x,u)])
  (hsp:∀ H:Hp,GG H -> iA K H a (ns.map V.int) -> sp [.ref a] H (fun v _=>v=.bl true) fun _ _ _=>False)
  (hCX:∀ H e s',CX [] H s₁ (fun _ _ _=>False) e s' -> False) :
  codeAny (model P w) callerA (.call (.ref fa) ⟨[.ref a],[]⟩) (fun r s'=>r=.ok (.ret (.bool true)) /\ OldK s₁.heap s'.heap /\ s'.os=s₁.os /\ AllBare s'.gens) s₁:=by
 have rv:=rg hi
 have lenV:=hi.length
 -- from an abstract heap in which nothing but the script may be tracked
 have core:∀ H:Hp,GG H -> iA K H a (ns.map V.int) -> m5 P w H s₁.heap -> (∀ b,H b ≠ none -> b=a) -> (H a ≠ none -> K.lookup a=none) ->
   codeAny (model P w) callerA (.call (.ref fa) ⟨[.ref a],[]⟩) (fun r s'=>r=.ok (.ret (.bool true)) /\ OldK s₁.heap s'.heap /\ s'.os=s₁.os /\ AllBare s'.gens) s₁:=by
  intro H hO hS hok hA hK
  have base_of:∀ {b:Addr} {o:Obj},s₁.heap.get? b=some o -> H b=none -> (sx s₁.heap H).get? b=some o:=fun e n=>BV e n
  have noA:∀ {b:Addr} {o:Obj} {es:Array DictEntry} {ep:Nat},s₁.heap.get? b=some o -> o.data=.dict es ep -> H b=none:=fun {b o es ep} e d=>by
   cases q:H b with
   | none=>rfl
   | some u =>
    have e':b=a:=hA b (by rw [q]; simp)
    subst e'
    rw [ha] at e; cases e
    have d':Data.seq vs.toArray _=Data.dict es ep:=d
    cases d'
  have nsK:∀ {b:Addr} {m:Str -> Option Value},s₁.heap.Ns b m -> (sx s₁.heap H).Ns b m:=fun {b m} ⟨o,es,ep,e,d,r⟩=>⟨o,es,ep,base_of e (noA e d),d,r⟩
  have hKb:K.In (sx s₁.heap H):=fun b o e=>base_of (KX b o e) (by
   cases q:H b with
   | none=>rfl
   | some u =>
    have e':b=a:=hA b (by rw [q]; simp)
    subst e'
    rw [hK (by rw [q]; simp)] at e; cases e)
  have hM:Mod K mg (sx s₁.heap H):=⟨hKb,nsK hns,⟨mb,nsK hb,hbb⟩,let ⟨mc,h1,h2⟩:=hlim; ⟨mc,nsK h1,h2⟩⟩
  have e0:pZ P w K mg (sx s₁.heap H) callerA [] s₁ H:=⟨rfl,hM,fun b o e=>Ek e,Nat.le_of_eq (AI _ _),trivial,fun b hb=>absurd (show b ∈ ([]:List Addr) from hb) (by simp),hok,.of_eq hg⟩
  refine codeAny_mono ((F _ hKb (nsK hns)).run callerA [] s₁ H ⟨[.ref a],[]⟩ [.ref a] [.ref a] _ _ hr e0 (hbind s₁ (.ref a)) (.cons rfl .nil) (hsp H hO hS)) fun r s' h=>?_
  cases r with
  | error e=>exact (hCX H e s' h).elim
  | ok fl =>
   cases fl with
   | next=>exact False.elim h
   | brk=>exact False.elim h
   | cont=>exact False.elim h
   | ret u =>
    obtain ⟨v,H',os,bare,un,hok',r',q⟩:=h
    have q':v=.bl true:=q
    subst q'
    obtain rfl:u=Value.bool true:=r'
    refine ⟨rfl,OldK.of_keep fun b o e=>?_,os,bare⟩
    cases q:H b with
    | none=>exact un.keep b o e q (by intro z; exact absurd (show b ∈ ([]:List Addr) from z) (by simp)) (by simp)
    | some u =>
     rcases hO b with z | ⟨ob,xs,z⟩
     ·rw [q] at z; cases z
     ·have z2:=un.frzs b ob _ z
      obtain ⟨e1,_⟩:=hok b _ z
      obtain ⟨e2,_⟩:=hok' b _ z2
      rw [e] at e1; cases e1
      exact e2
 cases hk:K.lookup a with
 | some o =>
  -- the script is one of the module's own objects
  have e:=KX a o hk
  rw [ha] at e
  cases e
  refine core (fun _=>none) (fun _=>.inl rfl) (.inr ⟨_,vs.toArray,_,hk,rfl,rfl,rfl,by rw [List.size_toArray,lenV]; exact hl,by simpa using rv⟩) (fun b u z=>by have z':(none:Option HO)=some u:=z; cases z') (fun b z=>absurd rfl z) fun z=>absurd rfl z
 | none =>
  refine core (fun b=>if b=a then some (.frz { cls:=.type "list", data:=.seq vs.toArray } (.lst (ns.map V.int))) else none) (fun b=>?_) (.inl (.inr ⟨{ cls:=.type "list", data:=.seq vs.toArray },if_pos rfl⟩)) (fun b u z=>?_) (fun b z=>?_) fun _=>hk
  ·by_cases hb:b=a
   ·exact .inr ⟨_,_,if_pos hb⟩
   ·exact .inl (if_neg hb)
  ·by_cases hb:b=a
   ·have z':=(if_pos hb).symm.trans z
    cases z'
    subst hb
    exact ⟨ha,by rw [List.length_map]; exact hl,vs,_,rv,ha⟩
   ·have z':=(if_neg hb).symm.trans z
    cases z'
  ·by_cases hb:b=a
   ·exact hb
   ·exact absurd (if_neg hb) z
open PySem PySem.Spec PyProof.Rows
abbrev ME {K:PySem.W.Frag} {h:Heap} (_:K.In h):PySem.W.Frag:=K
theorem Ae {l:PySem.W.OpenLaw} {n k:Nat} {q:Program} {loose:List Str} {XP:(Str -> Option Value) -> Heap -> Prop} {YP:World -> Heap -> Prop} {d:DefRec} {K:Params -> PySem.W.Frag} {CX:World -> yz} {sp:World -> Sp} {x:Str}
  (hn:l.most=some n) (hn2:n ≤ sizeLine) (hdf:d.params.defaults=[]) (hr:dz k callerA)
  (hY:∀ (w:World) (h:Heap),YP w h -> (K w.params).In h)
  (F:∀ (w:World) (mg:Str -> Option Value) (fa:Addr) (h:Heap),(K w.params).In h -> h.Ns mainGlobals mg -> mg d.name=some (.ref fa) ->
   ∃ fd:FuncData,(∀ (s:Shared) (u:Value),BindsTo s fd ⟨[u],[]⟩ [(x,u)]) /\
    ∀ base:Heap,(K w.params).In base -> base.Ns mainGlobals mg -> fJ l.prog w (K w.params) mg base (CX w) k fa fd [x] (sp w))
  (hsp:∀ (w:World) (H:Hp) (a:Addr) (ns:List Int),ns.length ≤ n -> GG H -> iA (K w.params) H a (ns.map V.int) -> sp w [.ref a] H (fun v _=>v=.bl true) fun _ _ _=>False)
  (hCX:∀ (w:World) (H:Hp) (s:Shared) (e:Value) (s':Shared),CX w [] H s (fun _ _ _=>False) e s' -> False) :
  PySem.W.WalkO q loose XP YP l.row.toRowW d [] (fun f vs=>PySem.call f vs):=by
 refine Att.uJ hn hdf fun w s₀ s₁ mg mb fa o pm cd doc a vs ns G Y ho hd hcd hmg hobj hints hlen hg=>?_
 have KX:=hY w _ Y
 obtain ⟨fd,hb,hF⟩:=F w mg fa _ KX G.T.g hmg
 exact B6 KX G.T.g G.T.b G.T.builtins G.T.nolimit hg hobj hints (Nat.le_trans hlen hn2) hr hF hb (fun H hO hS=>hsp w H a ns hlen hO hS) fun H e s'=>hCX w H s₁ e s'
end L2
/- THE LAST THEOREM (shape; LID,My.* are yours):
   My.Adr: a structure of the addresses that your layer names (classes,functions); My.Txt K t: a structure (Prop) of the equations over K;
   My.txt_mk:{K} {implicit addresses ..} (e1:nsIn K mainGlobals "law" = some (some (.ref f))) (e2:K.lookup f=some ⟨oc,od,.func (fnOf "law" "law" params body scope dV kV doc pm an cdv ct),sl⟩) (e3:codeIn K cdv "law" = true) .. : ∃ t,My.Txt K t
set_option maxRecDepth 100000 in
set_option maxHeartbeats 0 in
theorem PySem.Challenge.cw_LID_holds : PySem.Challenge.rw_LID.Holds := by
 w_on; o_law; k_head; (case hw=>w_witness2)
 k_fill
 refine L2.Ae (l:=PySem.Challenge.rw_LID) (n:=63) (k:=40) (x := "script") (CX:=fun w=>..) (sp:=fun _=>My.sp_law) rfl (by decide) rfl ⟨rfl,by decide,by decide⟩ (fun w h Y=>PySem.W.kIn_of Y) ?F ?S ?C
 case F =>
  intro w mg fa h KX G hmg
  have T:∃ t,My.Txt (L2.ME KX) t:=by
   dsimp only [L2.ME]                          -- K must stand as «<heap const> w.params» for k_is
   refine' My.txt_mk ?e1 ?e2 ?e3 ..
   (case e1=>PySem.W.k_is)                    -- in the order: a name -> its address -> its object -> its parts
   (case e2=>PySem.W.k_is)
   ..
  obtain ⟨t,T⟩:=T
  have e0:=hmg.symm.trans (PySem.W.mg_of KX G T.law)
  cases e0                                       -- fa is the law's own address
  exact ⟨_,fun s u=>.of_eq rfl,fun base kb nb=>My.law_fn T kb nb⟩     -- if «.of_eq rfl» comes too early: refine' ⟨_,?b,fun base kb nb=>My.law_fn T kb nb⟩; exact fun s u=>.of_eq rfl
 case S=>exact fun w H a ns hl hO hS=>..
 case C=>exact ..
(the tactic k_is has no namespace: write k_is) -/
namespace L2
open PySem PySem.Spec PyProof.Rows
def inClass (s:Stmt) (j:Nat):Stmt:=match s with
 | .ClassDef _ _ _ body _ _ _ _ _ _ _=>body.getD j (.Pass ⟨0,0,0,0⟩)
 | _=>.Pass ⟨0,0,0,0⟩
def iT (s:Stmt):Arguments:=match s with
 | .FunctionDef _ a _ _ _ _ _ _ _ _=>a
 | _=>{ posonlyargs:=[],args:=[],vararg:=none,kwonlyargs:=[],kw_defaults:=[],kwarg:=none,defaults:=[] }
def dk (s:Stmt):List Stmt:=match s with
 | .FunctionDef _ _ b _ _ _ _ _ _ _=>b
 | _=>[]
def aA (s:Stmt):Scope:=match s with
 | .FunctionDef _ _ _ _ _ _ sc _ _ _=>sc
 | _=>{ kind:=.function,names:=[],isGenerator:=false,isCoroutine:=false }
abbrev pX:yz:=fun _ _ _ _ _ _=>False
abbrev E0:XK:=fun _ _ _=>False
theorem Cr {X:Cx}:Passes pX X E0:=fun _ _ _ _ _ _ _ h=>h.elim
structure eJ (K:PySem.W.Frag) (x qual:Str) (st:Stmt) (f:Addr) (fd:FuncData):Prop where
 ex:∃ (oc:Value) (od:Option Addr) (kV doc pm:Value) (an:Option Addr) (cdv ct:Value) (osl:Array (Option Value)),
  fd=PySem.W.fnOf x qual (iT st) (dk st) (aA st) .none kV doc pm an cdv ct /\ K.lookup f=some ⟨oc,od,.func fd,osl⟩ /\ PySem.W.codeIn K cdv qual=true
 kp:PySem.W.keepIn K (.ref f)=true
section
variable {P:Program} {w:World} {K:PySem.W.Frag} {mg:Str -> Option Value} {base:Heap}
theorem eJ.ok {x qual:Str} {st:Stmt} {f:Addr} {fd:FuncData} {N ps:List Str} {k:Nat} {sp:Sp} (F:eJ K x qual st f fd) (S:aP N ps (aA st)) (len:∀ vs H Q E,sp vs H Q E -> vs.length=ps.length)
  (hbody:∀ (cdv:Value) (A:Around) (outer:List Env) (s:Shared) (H:Hp) (vs:List V) (Q:VK) (E:XK),dz k (A.deeper (envOfC qual (aA st) s.heap.objs.size f cdv)) -> sp vs H Q E ->
   ∃ t,lF (lI pX P w K mg base N qual (aA st) f cdv A outer s H E).nox (dk st) t /\ t { nx:=fun _ H'=>Q .non H',rt:=Q } (start N vs) H):fJ P w K mg base pX (k + 1) f fd ps sp:=by
 obtain ⟨oc,od,kV,doc,pm,an,cdv,ct,osl,rfl,lk,hcd⟩:=F.ex
 refine F9 lk hcd S len fun A outer s H vs Q E hr hsp=>?_
 obtain ⟨t,h,q⟩:=hbody cdv A outer s H vs Q E hr hsp
 exact ⟨t,h.nox,q⟩
theorem eJ.binds {x qual:Str} {st:Stmt} {f:Addr} {fd:FuncData} {ps:List Str} (F:eJ K x qual st f fd)
  (h:∀ (kV doc pm:Value) (an:Option Addr) (cdv ct:Value) (us:List Value),us.length=ps.length -> bindArgs (PySem.W.fnOf x qual (iT st) (dk st) (aA st) .none kV doc pm an cdv ct) ⟨us,[]⟩=pure (ps.zip us)):Binds K fd ps []:=by
 obtain ⟨oc,od,kV,doc,pm,an,cdv,ct,osl,rfl,lk,hcd⟩:=F.ex
 exact .all (h kV doc pm an cdv ct)
theorem Ha {x qual:Str} {st:Stmt} {f:Addr} {oc:Value} {od an:Option Addr} {osl:Array (Option Value)} {kV doc pm cdv ct:Value} (l:K.lookup f=some ⟨oc,od,.func (PySem.W.fnOf x qual (iT st) (dk st) (aA st) .none kV doc pm an cdv ct),osl⟩)
  (c:PySem.W.codeIn K cdv qual=true) (k:PySem.W.keepIn K (.ref f)=true):eJ K x qual st f (PySem.W.fnOf x qual (iT st) (dk st) (aA st) .none kV doc pm an cdv ct):=⟨⟨oc,od,kV,doc,pm,an,cdv,ct,osl,rfl,l,c⟩,k⟩
end
theorem iL {n:Nat} (h:n ≤ 1000):n < sizeLine:=Nat.lt_of_le_of_lt h (by decide)
section
variable {X:Cx}
theorem pv (i:Nat) {x:Str} {pos:Pos} (hN:X.N[i]? = some x:=by rfl) (hv:Jd X.env.scope x:=by first | exact Or.inl rfl | exact Or.inr (Or.inl rfl) | exact Or.inr (Or.inr rfl)) (hd:(x == ("__debug__" : Str))=false:=by decide)
  (hcd:(x == ("__classdict__" : Str))=false:=by decide):PE X (.Name x pos) (Bc i):=Ih hN hv hd hcd
end
def aQ (H H':Hp):Prop:=∀ b o,H b=some o -> H' b=some o
theorem aQ.refl (H:Hp):aQ H H:=fun _ _ h=>h
theorem aQ.trans {H H1 H2:Hp} (a:aQ H H1) (b:aQ H1 H2):aQ H H2:=fun c o h=>b c o (a c o h)
theorem aQ.free {H H':Hp} (e:aQ H H') {l:Addr} (h:H' l=Option.none):H l=Option.none:=by
 cases q:H l with
 | none=>rfl
 | some o =>
  rw [e l o q] at h
  cases h
theorem aQ.seq {K:PySem.W.Frag} {H H':Hp} {a:Addr} {xs:List V} (e:aQ H H') (h:iA K H a xs):iA K H' a xs:=by
 rcases h with (h | ⟨o,h⟩) | h
 ·exact .inl (.inl (e _ _ h))
 ·exact .inl (.inr ⟨o,e _ _ h⟩)
 ·exact .inr h
open PySem PySem.Spec PyProof.Rows
abbrev vE:List Value:=[.type "ValueError", .type "Exception", .type "BaseException", .type "object"]
structure iB (K:PySem.W.Frag) (C:Addr) (bm:List Value):Prop where
 ex:∃ N nm q bs hdct sn sub ab col dd k0 k1 k2 k3 k5 od es ep,K.lookup C=some (excClassObj nm q C N bs bm hdct sn sub ab col dd k0 k1 k2 k3 k5 "ValueError.__new__") /\ K.lookup N=some od /\ od.data=.dict es ep /\ es.all (fun e=>match e.key with | .str _ _=>true | _=>false)=true /\ nsFind es "__init__" = none
theorem iB.at {K:PySem.W.Frag} {C:Addr} {bm:List Value} (x:iB K C bm):∃ N nm q bs hdct sn sub ab col dd k0 k1 k2 k3 k5 mN,(∀ h,K.In h -> h.get? C=some (excClassObj nm q C N bs bm hdct sn sub ab col dd k0 k1 k2 k3 k5 "ValueError.__new__") /\ h.Ns N mN) /\ mN "__init__" = none:=by
 obtain ⟨N,nm,q,bs,hdct,sn,sub,ab,col,dd,k0,k1,k2,k3,k5,od,es,ep,e1,e2,e3,e4,e5⟩:=x.ex
 refine ⟨N,nm,q,bs,hdct,sn,sub,ab,col,dd,k0,k1,k2,k3,k5,nsFind es,fun h k=>⟨k _ _ e1,?_⟩,e5⟩
 have hN:h.isNs N=true:=by
  unfold Heap.isNs
  rw [k _ _ e2]
  dsimp only
  rw [e3]
  exact e4
 obtain ⟨o,es',ep',f1,f2,f3,f4⟩:=Heap.Ns.of_isNs hN
 rw [k _ _ e2] at f1
 cases f1
 rw [e3] at f2
 cases f2
 exact ⟨_,es,ep,k _ _ e2,e3,f3,fun _=>rfl⟩
structure lB (K:PySem.W.Frag) (C:Addr) (up:List Addr):Prop where
 cls:iB K C (up.map Value.ref ++ vE)
 ups:∀ A ∈ up,∃ bm,iB K A bm
theorem uz {K:PySem.W.Frag} {h:Heap} (k:K.In h):∀ up:List Addr,(∀ A ∈ up,∃ bm,iB K A bm) -> OwnTail h vE (up.map Value.ref ++ vE)
 | [],_=>.base
 | A :: up,x=>by
  obtain ⟨bm,z⟩:=x A List.mem_cons_self
  obtain ⟨N,nm,q,bs,hdct,sn,sub,ab,col,dd,k0,k1,k2,k3,k5,mN,e1,e3⟩:=z.at
  exact .own (e1 h k).1 (e1 h k).2 e3 (uz k up fun B hB=>x B (List.mem_cons_of_mem _ hB))
section
variable {X:Cx} {pins:List (Addr × Obj)} {σ:St} {H:Hp} {s:Shared} {C:Addr} {up:List Addr} {x:Str} {np cpos pos:Pos} {e:Expr} {t:TA}
theorem CJ (hc:X.calm=true) (hx:∀ e s,X.xe e s -> False) (E:lB X.K C up) (hg:Gl X x) (hm:X.mg x=some (.ref C)) (ha:PA X [e] t) {P:Value -> Shared -> Prop} (I:Inv X pins σ H s)
  (ht:t σ H fun vs H1=>vs.length ≤ sizeLine /\ ∀ h' a s1 args,Inv X pins σ H1 s1 -> Heap.MadeExcOf s1.heap h' a (.ref C) args -> P (.ref a) { s1 with heap:=h' })
  (hdb:(x == ("__debug__" : Str))=false:=by decide) (he:starEach [e] X.env=(false,eval e X.env) :: starEach [] X.env:=by rfl) :
  wpAny (model X.prog X.w) X.A (exec (.Raise (some (.Call (.Name x np) [e] [] cpos)) none pos) X.env) (fun _ _=>False) P s:=by
 obtain ⟨N,nm,q,bs,hdct,sn,sub,ab,col,dd,k0,k1,k2,k3,k5,mN,e1,e3⟩:=E.cls.at
 refine wpAny_Raise_call_subU (C:=C) (N:=N) (nm:=nm) (q:=q) (bs:=bs) (bm:=up.map Value.ref ++ vE) (hdct:=hdct) (sn:=sn) (sub:=sub) (ab:=ab) (col:=col) (dd:=dd) (k0:=k0) (k1:=k1) (k2:=k2) (k3:=k3) (k5:=k5) (mN:=mN) (bmB:=vE) PySem.F.excBase_ValueError (by decide +kernel) PySem.F.excBase_ValueError ((uz I.kIn up E.ups).hasType (by decide +kernel)) (I.ok.hd hc) (by rw [he]; rfl) e3 ?_
 refine iX I hg hm ⟨rfl,?_⟩ hdb
 have hs:=ha cpos pins s σ H _ I ht
 rw [he] at hs ⊢
 refine Calls.evalArgs_plain (wpAny_mono hs (fun us s1 z=>?_) fun e s z=>False.elim (hx e s z))
 obtain ⟨vs,H1,I1,r,hl,q1⟩:=z
 exact ⟨rfl,by rw [<- r.length]; exact hl,(e1 _ I1.kIn).1,(e1 _ I1.kIn).2,uz I1.kIn up E.ups,fun h' a hm=>q1 h' a s1 us I1 hm⟩
end
theorem fu.has {P:Program} {w:World} {H:Hp} {h:Heap} {a:Addr} {o:HO} (x:fu P w H h a o):∃ ob,h.get? a=some ob:=by
 cases o with
 | lst xs=>obtain ⟨_,_,_,_,e⟩:=x; exact ⟨_,e⟩
 | tup xs=>obtain ⟨_,_,_,o,e,_⟩:=x; exact ⟨_,e⟩
 | dK kvs=>obtain ⟨_,_,_,_,o,_,_,e,_⟩:=x; exact ⟨_,e⟩
 | dT kvs=>obtain ⟨_,_,_,_,o,_,_,e,_⟩:=x; exact ⟨_,e⟩
 | set S n=>obtain ⟨o,_,_,_,e,_⟩:=x; exact ⟨_,e⟩
 | ins C dx fs=>obtain ⟨_,_,_,e,_⟩:=x; exact ⟨_,e⟩
 | own y=>exact x
 | xd fs=>obtain ⟨_,⟨_,_,_,e,_⟩,_⟩:=x; exact ⟨_,e⟩
 | rng lo hi=>obtain ⟨_,_,_,e⟩:=x; exact ⟨_,e⟩
 | frz ob u=>obtain ⟨e,_⟩:=x; exact ⟨_,e⟩
 | tbl ps=>exact ⟨_,x⟩
 | met f y=>exact ⟨_,x⟩
 | ext φ=>exact x.2.1
structure IZ (P:Program) (w:World) (outer:List Env) (H:Hp) (s:Shared) (C a:Addr) (H':Hp) (s':Shared):Prop where
 os:s'.os=s.os
 bare:AllBare s'.gens
 un:Un (nU outer) [] H H' s.heap s'.heap
 hok:m5 P w H' s'.heap
 new:s.heap.get? a=none
 nH:H' a=none
 fl:∃ B a0,Heap.FlyingW B outer a (.ref C) a0 s'.heap /\ ∀ b o,s'.heap.get? b=some o -> (H' b ≠ none \/ ((∃ o',s.heap.get? b=some o') /\ b ∉ nU outer)) -> B.get? b=some o
def IW (P:Program) (w:World):yz:=fun outer H s E e s'=>∃ a C H',e=.ref a /\ IZ P w outer H s C a H' s' /\ E e (some C) H'
def Made (X:Cx) (pins:List (Addr × Obj)) (σ:St) (H:Hp) (C:Addr) (e:Value) (s':Shared):Prop:=∃ a h args,e=.ref a /\ Inv X pins σ H { s' with heap:=h } /\ Heap.MadeExcOf h s'.heap a (.ref C) args
def GD (X:Cx) (pins:List (Addr × Obj)) (σ:St) (H:Hp) (C:Addr) (e:Value) (s':Shared):Prop:=∃ a s H0,e=.ref a /\ Inv X pins σ H0 s /\ IZ X.prog X.w X.stack H0 s C a H s'
section
variable {X:Cx} {pins:List (Addr × Obj)} {σ:St} {H H0:Hp} {s s':Shared} {C a:Addr} {h1 h' B:Heap}
theorem Inv.offStack (I:Inv X pins σ H s) {b:Addr} {o:Obj} (e:X.s₀.heap.get? b=some o) (hb:b ∉ X.fs):b ∉ nU X.stack:=fun z=>by
 rcases List.mem_cons.mp (I.stkSub b z) with z | z
 ·exact absurd (Nat.lt_of_lt_of_le (Heap.lt_size e) I.ok.above) (by rw [z]; exact Nat.lt_irrefl _)
 ·exact hb z
theorem zc (hex:X.ex=[]) (I:Inv X pins σ H { s' with heap:=h1 }) (hB:B.StaysIn h') (cov:∀ b o,h1.get? b=some o -> (H b ≠ none \/ ((∃ o',X.s₀.heap.get? b=some o') /\ b ∉ nU X.stack)) -> B.get? b=some o)
  (up:h1.UpToSlots h') (na:h1.get? a=none \/ (X.s₀.heap.get? a=none /\ H a=none)) {a0:Value} (fl:Heap.FlyingW B X.outer a (.ref C) a0 h') :
  IZ X.prog X.w X.outer X.H₀ X.s₀ C a H { s' with heap:=h' }:=by
 have un0:=I.base
 rw [hex] at un0
 have kept:∀ b o,X.s₀.heap.get? b=some o -> b ∉ X.fs -> ∀ o1,h1.get? b=some o1 -> h'.get? b=some o1:=fun b o e hb o1 e1=>hB _ _ (cov b o1 e1 (.inr ⟨⟨o,e⟩,I.offStack e hb⟩))
 have Bl:∀ b u o,H b=some u -> h1.get? b=some o -> h'.get? b=some o:=fun b u o e e1=>hB _ _ (cov b o e1 (.inl (by rw [e]; simp)))
 refine ⟨I.os,I.bare,⟨fun b o e n hb hx=>?_,fun b o e n hb hx=>?_,fun b o e n hx=>un0.free b o e n hx,fun b o e hx=>?_,un0.tups,un0.frzs,un0.tbls⟩,fun b u e=>?_,?_,?_,B,a0,fl,fun b o e z=>?_⟩
 ·exact kept b o e hb o (un0.keep b o e n hb hx)
 ·obtain ⟨sl,e1⟩:=un0.slot b o e n hb hx
  obtain ⟨_,o2,e2,d2⟩:=I.ok.funs.mem hb
  rw [e] at e2
  cases e2
  obtain ⟨sl2,e3⟩:=up b _ e1 d2
  exact ⟨sl2,e3⟩
 ·obtain ⟨o1,e1⟩:=un0.there b o e hx
  by_cases hb:b ∈ X.fs
  ·cases q:X.H₀ b with
   | none =>
    obtain ⟨sl,e1⟩:=un0.slot b o e q hb hx
    obtain ⟨_,o2,e2,d2⟩:=I.ok.funs.mem hb
    rw [e] at e2
    cases e2
    obtain ⟨sl2,e3⟩:=up b _ e1 d2
    exact ⟨_,e3⟩
   | some u=>rw [I.ok.frf b hb] at q; cases q
  ·exact ⟨o1,kept b o e hb o1 e1⟩
 ·exact (I.hok b u e).stay (fun c v hc q=>by
   rcases hc with rfl | hc
   ·exact Bl _ u v e q
   ·exact Bl _ _ v hc q) (fun _ q=>q) fun _ _ q=>q
 ·rcases na with na | na
  ·cases q:X.s₀.heap.get? a with
   | none=>rfl
   | some o =>
    obtain ⟨o1,e1⟩:=un0.there a o q (by simp)
    have e2:h1.get? a=some o1:=e1
    rw [na] at e2; cases e2
  ·exact na.1
 ·rcases na with na | na
  ·cases q:H a with
   | none=>rfl
   | some u =>
    obtain ⟨ob,e1⟩:=(I.hok a u q).has
    have e2:h1.get? a=some ob:=e1
    rw [na] at e2; cases e2
  ·exact na.2
 ·rcases z with z | ⟨⟨o',e'⟩,hb⟩
  ·cases q:H b with
   | none=>exact absurd q z
   | some u =>
    obtain ⟨ob,e1⟩:=(I.hok b u q).has
    have e2:=Bl b u ob q e1
    have e3:h'.get? b=some o:=e
    rw [e2] at e3; cases e3
    exact cov b _ e1 (.inl z)
  ·obtain ⟨o1,e1⟩:=un0.there b o' e' (by simp)
   have e2:=kept b o' e' hb o1 e1
   have e3:h'.get? b=some o:=e
   rw [e2] at e3; cases e3
   exact cov b _ e1 (.inr ⟨⟨o',e'⟩,I.offStack e' hb⟩)
theorem G9 {l:List Env}:∀ env ∈ l,∀ b,env.frame=some b -> b ∈ nU l:=fun env he b hb=>List.mem_filterMap.mpr ⟨env,he,hb⟩
theorem xJ {e:Value} {E:Value -> Shared -> Prop} (hex:X.ex=[]) (hst:X.stack=X.env :: X.outer) (hf:X.env.frame=some X.env.locals) (z:Made X pins σ H C e s') :
  wpAny (model X.prog X.w) X.A (leaving X.env e) (fun _ s''=>∃ a,e=.ref a /\ IZ X.prog X.w X.outer X.H₀ X.s₀ C a H s'') E s':=by
 obtain ⟨a,h,args,rfl,I,hm⟩:=z
 have hfr:=I.ok.frames
 have fun1:h.FunFrames X.base X.stack:=I.stack
 have fr0:=I.stkFree
 rw [hst] at hfr fun1
 refine PySem.wpAny_leaves_madeW (base:=PySem.W.hideAll h (nU X.stack)) (h:=h) hfr hf (fun b o q=>PySem.W.of_hideAll _ q) (PySem.W.funFrames_hide fun1 (by rw [hst]; exact G9)) hm fun h' t x1 x2 x3 x4=>⟨a,rfl,?_⟩
 refine zc (h1:=h) (B:=PySem.W.hideAll h (nU X.stack)) hex I x1.1 (fun b o e1 z=>PySem.W.hideAll_get _ e1 fun hb=>?_) (fun b o e1 d=>x4 b o (hm.keeps b o e1) d) (.inl hm.new) x1
 rcases z with z | z
 ·exact z (fr0 b hb)
 ·exact z.2 hb
theorem xI {e:Value} {E:Value -> Shared -> Prop} (hex:X.ex=[]) (hst:X.stack=X.env :: X.outer) (hf:X.env.frame=some X.env.locals) (z:GD X pins σ H C e s') :
  wpAny (model X.prog X.w) X.A (leaving X.env e) (fun _ s''=>∃ a,e=.ref a /\ IZ X.prog X.w X.outer X.H₀ X.s₀ C a H s'') E s':=by
 obtain ⟨a,s,H0,rfl,I0,F⟩:=z
 obtain ⟨B,a0,fl,cov⟩:=F.fl
 have hfr:=I0.ok.frames
 rw [hst] at hfr fl
 have I:=I0.call' F.os F.un F.hok F.bare (fun b hb=>absurd hb (by simp))
 refine PySem.wpAny_leaves_onW hfr hf fl fun h' x1 x2=>⟨a,rfl,?_⟩
 refine zc (h1:=s'.heap) (B:=B) hex I x1.1 (fun b o e1 z=>cov b o e1 ?_) x2 (.inr ⟨?_,F.nH⟩) x1
 ·rcases z with z | ⟨⟨o',e'⟩,hb⟩
  ·exact .inl z
  ·obtain ⟨o2,e2⟩:=I0.base.there b o' e' (by rw [hex]; simp)
   exact .inr ⟨⟨o2,e2⟩,hb⟩
 ·cases q:X.s₀.heap.get? a with
  | none=>rfl
  | some o =>
   obtain ⟨o2,e2⟩:=I0.base.there a o q (by rw [hex]; simp)
   rw [F.new] at e2; cases e2
end
open PySem PySem.Spec PyProof.Rows
abbrev Cx.inS (X:Cx) (e:Value):Cx:={ X with A:=X.A.mark (some e),calm:=false,xe:=fun _ _=>False }
section
variable {X:Cx} {pins:List (Addr × Obj)} {σ:St} {H H0:Hp} {s s':Shared} {C D a:Addr} {h1 h' B:Heap}
theorem Inv.inS (I:Inv X pins σ H s) (e:Value):Inv (X.inS e) pins σ H s:=
 ⟨⟨I.ok.mod,I.ok.kind,I.ok.glob,I.ok.blt,I.ok.above,I.ok.inj,I.ok.has,I.ok.cab,(fun z=>nomatch z),I.ok.frames,I.ok.stk,I.ok.exf,I.ok.bs,I.ok.bsz,I.ok.noex,I.ok.exfs,I.ok.funs,I.ok.frf⟩,I.os,I.bare,I.base,I.loc,I.cell,I.free,I.freeC,I.pin,I.hok,I.len⟩
theorem Inv.outS {e:Value} (ok:X.Ok) (I:Inv (X.inS e) pins σ H s):Inv X pins σ H s:=⟨ok,I.os,I.bare,I.base,I.loc,I.cell,I.free,I.freeC,I.pin,I.hok,I.len⟩
theorem nV {i:Nat} {n:Str} {m:Str -> Option Value} {v:Option Value} {tk:Nat} (I:Inv X pins σ H s) (hN:X.N.Nodup) (hi:X.N[i]? = some n)
  (hl:∀ (j:Nat) (x:Str) (w:V),X.N[j]? = some x -> σ[j]? = some (some w) -> Jd X.env.scope x -> ∃ u,RelV w u /\ Look X.env s.heap m x u)
  (hn:h'.Ns X.env.locals (fun x=>if x=n then v else m x)) (sb:Heap.SameBut X.env.locals s.heap h'):Inv X pins (σ.set i none) H { s with heap:=h',toks:=tk }:=by
 have neL:∀ b o,X.s₀.heap.get? b=some o -> b ≠ X.env.locals:=fun b o e=>Nat.ne_of_lt (Nat.lt_of_lt_of_le (Heap.lt_size e) I.ok.above)
 have oth:∀ b,b ≠ X.env.locals -> h'.get? b=s.heap.get? b:=fun b hb=>sb.2 b hb
 refine ⟨I.ok,I.os,I.bare,⟨fun b o e n' hb hx=>?_,fun b o e n' hb hx=>?_,fun b o e n' hx=>I.base.free b o e n' hx,fun b o e hx=>?_,I.base.tups,I.base.frzs,I.base.tbls⟩,⟨_,hn,fun j x w e1 e2 e3=>?_⟩,fun x c e=>?_,I.free,I.freeC,fun p hp=>?_,fun b u e=>?_,by rw [List.length_set]; exact I.len⟩
 ·rw [oth b (neL b o e)]; exact I.base.keep b o e n' hb hx
 ·rw [oth b (neL b o e)]; exact I.base.slot b o e n' hb hx
 ·rw [oth b (neL b o e)]; exact I.base.there b o e hx
 ·have hj:j ≠ i:=fun z=>by
   rw [z] at e2
   by_cases hil:i < σ.length
   ·rw [List.getElem?_set_self hil] at e2; cases e2
   ·rw [List.getElem?_eq_none (by rw [List.length_set]; omega)] at e2; cases e2
  rw [List.getElem?_set_ne (Ne.symm hj)] at e2
  obtain ⟨u,r,l⟩:=hl j x w e1 e2 e3
  refine ⟨u,r,?_⟩
  have hxn:x ≠ n:=fun z=>by
   rw [z,<- hi] at e1
   exact hj (((List.getElem?_inj (List.getElem?_eq_some_iff.mp hi).1 hN).mp e1.symm).symm)
  rcases l with ⟨k,l⟩ | ⟨k,c,e,ob,z⟩
  ·exact .inl ⟨k,by dsimp only; rw [if_neg hxn]; exact l⟩
  ·exact .inr ⟨k,c,e,ob,by rw [oth c (I.cne x c e)]; exact z.1,z.2⟩
 ·obtain ⟨w,ob,z⟩:=I.cell x c e
  exact ⟨w,ob,by rw [oth c (I.cne x c e)]; exact z.1,z.2⟩
 ·obtain ⟨e,n',ne,nf,d⟩:=I.pin p hp
  exact ⟨by rw [oth p.1 ne]; exact e,n',ne,nf,d⟩
 ·refine (I.hok b u e).stay (fun c w hc q=>?_) (fun _ q=>q) fun _ _ q=>q
  have hcl:c ≠ X.env.locals:=fun z=>by
   have f:=I.free
   rw [<- z] at f
   rcases hc with rfl | hc
   ·rw [e] at f; cases f
   ·rw [hc] at f; cases f
  rw [oth c hcl]; exact q
def iD (a C:Addr):Heap -> Prop:=fun h=>∃ oe vs,h.get? a=some oe /\ oe.cls=.ref C /\ oe.data=.fields vs
theorem oN (I0:Inv X pins σ H0 s) (F:IZ X.prog X.w X.stack H0 s C a H s') (hB:B.StaysIn h') (cov:∀ b o,s'.heap.get? b=some o -> (H b ≠ none \/ ((∃ o',s.heap.get? b=some o') /\ b ∉ nU X.stack)) -> B.get? b=some o)
  (up:s'.heap.UpToSlots h') (he:iD a C h') {tk:Nat}:Inv X pins σ (upd H a (.ext (iD a C))) { s' with heap:=h',toks:=tk }:=by
 have un0:=F.un
 have ne:∀ b u,H b=some u -> b ≠ a:=fun b u e z=>by rw [z,F.nH] at e; cases e
 have ne':∀ b o,s.heap.get? b=some o -> b ≠ a:=fun b o e z=>by rw [z,F.new] at e; cases e
 have Bl:∀ b u o,H b=some u -> s'.heap.get? b=some o -> h'.get? b=some o:=fun b u o e e1=>hB _ _ (cov b o e1 (.inl (by rw [e]; simp)))
 have kept:∀ b o,s.heap.get? b=some o -> b ∉ nU X.stack -> ∀ o1,s'.heap.get? b=some o1 -> h'.get? b=some o1:=fun b o e hb o1 e1=>hB _ _ (cov b o1 e1 (.inr ⟨⟨o,e⟩,hb⟩))
 have slot:∀ b o,s.heap.get? b=some o -> H0 b=none -> b ∈ nU X.stack -> ∃ sl,h'.get? b=some { o with slots:=sl }:=fun b o e n hb=>by
  obtain ⟨sl,e1⟩:=un0.slot b o e n hb (by simp)
  obtain ⟨_,o2,e2,d2⟩:=I0.stack.mem hb
  rw [e] at e2
  cases e2
  obtain ⟨sl2,e3⟩:=up b _ e1 d2
  exact ⟨sl2,e3⟩
 refine I0.call' (s':={ s' with heap:=h',toks:=tk }) (ch:=[]) F.os ⟨fun b o e n hb hx=>?_,fun b o e n hb hx=>slot b o e n hb,fun b o e n hx=>?_,fun b o e hx=>?_,fun b xs e=>?_,fun b o u e=>?_,fun b ps e=>?_⟩ (fun b u e=>?_) F.bare fun b hb=>absurd hb (by simp)
 ·exact kept b o e hb o (un0.keep b o e n hb hx)
 ·rw [aK (ne' b o e)]; exact un0.free b o e n hx
 ·obtain ⟨o1,e1⟩:=un0.there b o e hx
  by_cases hb:b ∈ nU X.stack
  ·obtain ⟨sl,q⟩:=slot b o e (I0.stkFree b hb) hb
   exact ⟨_,q⟩
  ·exact ⟨o1,kept b o e hb o1 e1⟩
 ·have:=un0.tups b xs e
  rw [aK (ne b _ this)]; exact this
 ·have:=un0.frzs b o u e
  rw [aK (ne b _ this)]; exact this
 ·obtain ⟨more,this⟩:=un0.tbls b ps e
  exact ⟨more,by rw [aK (ne b _ this)]; exact this⟩
 ·by_cases hb:b=a
  ·subst hb
   rw [aU] at e
   cases e
   obtain ⟨oe,vs,q⟩:=id he
   exact ⟨he,⟨oe,q.1⟩,fun g1 g2 ⟨o1,v1,q1⟩ k=>⟨o1,v1,k _ q1.1,q1.2⟩⟩
  ·rw [aK hb] at e
   refine (F.hok b u e).stay (fun c w hc q=>?_) (fun c q=>?_) fun c xs q=>?_
   ·rcases hc with rfl | hc
    ·exact Bl _ u w e q
    ·exact Bl _ _ w hc q
   ·rw [aK (ne c _ q)]; exact q
   ·rw [aK (ne c _ q)]; exact q
theorem AB {M:Model} {A:Around} {E:Value -> Shared -> Prop} {K:PySem.W.Frag} {upC:List Addr} {bD:List Value} (k:K.In s.heap) (cC:lB K C upC) (cD:iB K D bD) (hbD:bD.contains (.type "BaseException")=true) (hD:D=C \/ D ∈ upC) (he:iD a C s.heap)
  {Q:Bool -> Shared -> Prop} (hq:Q true s):wpAny M A (excMatches (.ref a) (.ref D)) Q E s:=by
 obtain ⟨N,nm,q,bs,hdct,sn,sub,ab,col,dd,k0,k1,k2,k3,k5,mN,e1,_⟩:=cC.cls.at
 obtain ⟨N',nm',q',bs',hdct',sn',sub',ab',col',dd',j0,j1,j2,j3,j5,mN',e1',_⟩:=cD.at
 have hC:=(e1 _ k).1
 have hDc:=(e1' _ k).1
 obtain ⟨oe,vs,g1,g2,g3⟩:=he
 have hcB:(Value.ref D :: bD).contains (.type "BaseException")=true:=by rw [List.contains_cons,hbD,Bool.or_true]
 have hcC:(Value.ref C :: (upC.map Value.ref ++ vE)).contains (.ref D)=true:=by
  rw [List.contains_iff_mem]
  rcases hD with rfl | hD
  ·exact List.mem_cons_self
  ·exact List.mem_cons_of_mem _ (List.mem_append_left _ (List.mem_map.mpr ⟨D,hD,rfl⟩))
 have f:=PySem.tc_notTuple
 obtain ⟨hp,g,d,tk,os⟩:=s
 unfold excMatches
 repeat (first
  | (with_reducible refine wpAny_loadPart_at g1 ?_; rw [g2])
  | (with_reducible refine wpAny_loadPart_at hDc ?_)
  | (with_reducible refine PySem.wpAny_isSubtype_exc hDc ?_; rw [hcB])
  | (with_reducible refine PySem.wpAny_isSubtype_exc hC ?_; rw [hcC])
  | wp_step)
 exact hq
end
open PySem PySem.Spec PyProof.Rows
theorem mF {B h:Heap} {l:List Env} {a C:Addr} {a0:Value} (x:Heap.FlyingW B l a (.ref C) a0 h):iD a C h:=by
 obtain ⟨_,_,_,oe,vs,T,oT,ts,e1,e2,e3,_⟩:=x
 exact ⟨oe,vs,e1,e2.1,e3⟩
def Ends.gone (D:Ends) (i:Nat):Ends:={ nx:=fun σ H=>D.nx (σ.set i none) H,bk:=fun σ H=>D.bk (σ.set i none) H,ct:=fun σ H=>D.ct (σ.set i none) H,rt:=D.rt }
section
variable {X:Cx} {pins:List (Addr × Obj)} {σ:St} {H:Hp} {s':Shared} {C D:Addr} {upC:List Addr} {bD:List Value} {e:Value} {i:Nat} {n x:Str} {b₀:Stmt} {suite:List Stmt} {np pos:Pos} {Dn:Ends} {E:Value -> Shared -> Prop}
theorem wO (hst:X.stack=X.env :: X.outer) (hf:X.env.frame=some X.env.locals) (z:GD X pins σ H C e s') (cC:lB X.K C upC) (cD:iB X.K D bD) (hbD:bD.contains (.type "BaseException")=true) (hD:D=C \/ D ∈ upC)
  (hg:Gl X x) (hm:X.mg x=some (.ref D)) (hN:X.N.Nodup) (hi:X.N[i]? = some n) (hl:X.env.scope.names.lookup n=some .local) (hlo:X.env.kindOf n=some .local)
  (hs:∀ a s2,H a=none -> Inv (X.inS (.ref a)) pins (σ.set i (some (.ref a))) (upd H a (.ext (iD a C))) s2 -> wpAny (model X.prog X.w) (X.A.mark (some (.ref a))) (execs (b₀ :: suite) X.env) (SP (X.inS (.ref a)) pins (Dn.gone i)) (fun _ _=>False) s2)
  (hdb:(x == ("__debug__" : Str))=false:=by decide) :
  wpAny (model X.prog X.w) X.A (noteFrame e X.env) (fun _ s₂=>wpAny (model X.prog X.w) X.A (setFlight e none) (fun _ s₃=>wpAny (model X.prog X.w) X.A (handleBy e X.env [.ExceptHandler (some (.Name x np)) (some n) (b₀ :: suite) pos]) (SP X pins Dn) E s₃) E s₂) E s':=by
 obtain ⟨a,s,H0,rfl,I0,F⟩:=z
 obtain ⟨B,a0,fl,cov⟩:=F.fl
 have hfr:=I0.ok.frames
 rw [hst] at fl hfr
 have hp:(X.env.scope.kind == .class || (X.env.scope.kind == .module && X.env.locals != X.env.globals))=false:=by rw [I0.ok.kind]; rfl
 refine PySem.wpAny_looks_onW hfr hf fl fun h₄ x4 u4=>PySem.wpAny_landsW x4 fun h₅ x5 u5=>?_
 have I5:=oN (tk:=s'.toks) I0 F x5.1 cov (u4.trans u5) (mF x5)
 refine wpAny_handleBy_cons (codeAny_handlers_test ?_) (by intro q; cases q)
 refine iX (I5.inS (.ref a)) hg hm ?_ hdb
 refine AB I5.kIn cC cD hbD hD (mF x5) ?_
 show codeAny _ _ _ _ _
 refine codeAny_handlers_suite_as ?_
 refine lands_againW x5 fun h₆ x6 u6=>?_
 have I6:=oN (tk:=s'.toks) I0 F x6.1 cov ((u4.trans u5).trans u6) (mF x6)
 refine gd (i:=i) (v:=.ref a) I6 hN hi (.inl hl) rfl (fun s7 I7=>?_) (.inr hl)
 refine wpAny_mono (hs a s7 F.nH (I7.inS (.ref a))) (fun f s8 h8=>?_) fun _ _ q=>False.elim q
 cases f with
 | next =>
  obtain ⟨σ',H',I8,q⟩:=h8
  have I9:=I8.outS I0.ok
  obtain ⟨m,hn,hll⟩:=id I9.loc
  exact wpAny_nameGoes_keeps hlo hn hp fun h' v hn' sb=>⟨σ'.set i none,H',nV I9 hN hi hll hn' sb,q⟩
 | brk =>
  obtain ⟨σ',H',I8,q⟩:=h8
  have I9:=I8.outS I0.ok
  obtain ⟨m,hn,hll⟩:=id I9.loc
  exact wpAny_nameGoes_keeps hlo hn hp fun h' v hn' sb=>⟨σ'.set i none,H',nV I9 hN hi hll hn' sb,q⟩
 | cont =>
  obtain ⟨σ',H',I8,q⟩:=h8
  have I9:=I8.outS I0.ok
  obtain ⟨m,hn,hll⟩:=id I9.loc
  exact wpAny_nameGoes_keeps hlo hn hp fun h' v hn' sb=>⟨σ'.set i none,H',nV I9 hN hi hll hn' sb,q⟩
 | ret u =>
  obtain ⟨w,σ',H',I8,r,q⟩:=h8
  have I9:=I8.outS I0.ok
  obtain ⟨m,hn,hll⟩:=id I9.loc
  exact wpAny_nameGoes_keeps hlo hn hp fun h' v hn' sb=>⟨w,σ'.set i none,H',nV I9 hN hi hll hn' sb,r,q⟩
end
open PySem PySem.Spec PyProof.Rows
structure wH (K:PySem.W.Frag) (C:Addr) (bm:List Value):Prop where
 cls:iB K C bm
 fc:PySem.W.findIn K (.ref C) "__class__" = some (some (.builtin "object.__class__"))
 fg:PySem.W.findIn K (.ref C) "__getattribute__" = some (some (.builtin "BaseException.__getattribute__"))
 fn:PySem.W.findIn K (.ref C) "__getattr__" = some none
 ob:bm.contains (.type "object")=true
 be:bm.contains (.type "BaseException")=true
section
variable {prog:Program} {w:World} {A:Around} {E:Value -> Shared -> Prop} {h:Heap} {g:Array GenState} {d:Drawn} {t:Nat} {os:OsState} {a C:Addr} {o:Obj} {K:PySem.W.Frag} {bm:List Value}
theorem GU {R:Result -> Shared -> Prop} (X:wH K C bm) (k:K.In h) (hx:h.get? a=some o) (hc:o.cls=.ref C) (hq:R (.ok (.ret (.ref C))) ⟨h,g,d,t,os⟩) :
  codeAny (model prog w) A (.call (.builtin "getset_descriptor.__get__") ⟨[.builtin "object.__class__", .ref a,.ref C],[]⟩) R ⟨h,g,d,t,os⟩:=by
 obtain ⟨N,nm,q,bs,hdct,sn,sub,ab,col,dd,k0,k1,k2,k3,k5,mN,e1,_⟩:=X.cls.at
 have hC:=(e1 _ k).1
 have tD:(⟨h,g,d,t,os⟩:Shared).TypeIs (.builtin "object.__class__") "getset_descriptor" := F.typeOf_object_class
 have hcO:(Value.ref C :: bm).contains (.type (".".intercalate ("object.__class__".cutAt '.').dropLast))=true:=by
  rw [F.owner_object_class,List.contains_cons,X.ob,Bool.or_true]
 refine codeAny_call_builtin F.slot_gs_get.plain F.entry_gs_get (F.slot_gs_get.check _ _ _ _ _ _ _ _ tD (F.args_gs_get _ _ _) ?_)
 repeat (any_goals (first
  | assumption
  | (with_reducible refine wpAny_loadPart_at hx ?_; rw [hc])
  | (with_reducible refine PySem.wpAny_isSubtype_exc hC ?_; rw [hcO])
  | wp_step))
 refine ⟨Code.quiet_builtin _ (by decide +kernel),codeAny_builtin F.entry_object_class ?_⟩
 repeat (any_goals (first
  | assumption
  | (with_reducible refine wpAny_loadPart_at hx ?_; rw [hc])
  | wp_step))
theorem GS {tk:Tok} {Q:Fin -> Shared -> Prop} (X:wH K C bm) (k:K.In h) (hx:h.get? a=some o) (hc:o.cls=.ref C) (hq:Q (.done (.ret (.ref C))) ⟨h,g,d,t,os⟩) :
  wpAny (model prog w) A (Builtin.«object.__getattribute__» ⟨[.ref a,.str "__class__" tk],[]⟩) Q E ⟨h,g,d,t,os⟩:=by
 have tD:(⟨h,g,d,t,os⟩:Shared).TypeIs (.builtin "object.__class__") "getset_descriptor" := F.typeOf_object_class
 have g5:=F.typeOf_object_class
 have g6:=F.slot_gs_get.lookup
 have g7:=F.slot_gs_set.lookup
 have lk:=fun M=>PySem.W.looks_findIn (M:=M) k X.fc
 repeat (any_goals (first
  | assumption
  | (with_reducible refine wpAny_loadPart_at hx ?_; rw [hc])
  | (with_reducible refine (lk _).here ?_)
  | wp_step))
 refine GU X k hx hc ?_
 repeat (any_goals (first
  | assumption
  | wp_step))
theorem GR {M:Model} {nameV:Value} {Q:Unit -> Shared -> Prop} (X:wH K C bm) (k:K.In h) (hx:h.get? a=some o) (hc:o.cls=.ref C) (hq:Q () ⟨h,g,d,t,os⟩) :
  wpAny M A (checkBuiltinCall "BaseException.__getattribute__" ⟨[.ref a,nameV],[]⟩) Q E ⟨h,g,d,t,os⟩:=by
 obtain ⟨N,nm,q,bs,hdct,sn,sub,ab,col,dd,k0,k1,k2,k3,k5,mN,e1,_⟩:=X.cls.at
 have hC:=(e1 _ k).1
 have y1:builtinKind "BaseException.__getattribute__" = some .slot:=by decide +kernel
 have y2:splitId "BaseException.__getattribute__" = some ("BaseException", "__getattribute__"):=by decide +kernel
 have hcE:(Value.ref C :: bm).contains (.type "BaseException")=true:=by rw [List.contains_cons,X.be,Bool.or_true]
 have y3:=F.args_bexc_ga (.ref a) nameV
 simp only [checkBuiltinCall,y1,y2]
 refine wpAny_bind ?_
 unfold isInstance
 repeat (first
  | (with_reducible refine wpAny_loadPart_at hx ?_; rw [hc])
  | (with_reducible refine PySem.wpAny_isSubtype_exc hC ?_; rw [hcE])
  | wp_step)
 exact hq
theorem GQ {tk:Tok} {Q:Value -> Shared -> Prop} (X:wH K C bm) (k:K.In h) (hx:h.get? a=some o) (hc:o.cls=.ref C) (hq:Q (.ref C) ⟨h,g,d,t,os⟩) :
  wpAny (model prog w) A (getAttrBy (.ref a) (.str "__class__" tk) false) Q E ⟨h,g,d,t,os⟩:=by
 have lg:=fun M=>PySem.W.looks_findIn (M:=M) k X.fg
 have ln:=fun M=>PySem.W.looks_findIn (M:=M) k X.fn
 have z1:=F.attr_ValueError.ga.bind (.ref a)
 have z2:(Value.builtin "BaseException.__getattribute__" == Value.builtin "object.__getattribute__")=false:=by decide +kernel
 have z3:(onTheHeap (Value.ref C) && Value.builtin "BaseException.__getattribute__" == Value.builtin "object.__getattribute__")=false:=by rw [z2]; rfl
 repeat (any_goals (first
  | assumption
  | (with_reducible refine wpAny_loadPart_at hx ?_; rw [hc])
  | (with_reducible refine (lg _).here ?_)
  | (with_reducible refine (ln _).here ?_)
  | wp_step))
 refine codeAny_call_builtin F.attr_ValueError.ga.plain F.entry_bexc_ga (GR X k hx hc (GS X k hx hc ?_))
 repeat (any_goals (first
  | assumption
  | wp_step))
theorem GP {Q:Option Value -> Shared -> Prop} (X:wH K C bm) (k:K.In h) (hx:h.get? a=some o) (hc:o.cls=.ref C) (hq:Q (some (.ref C)) ⟨h,g,d,t + 1,os⟩) :
  wpAny (model prog w) A (getAttr? (.ref a) "__class__") Q E ⟨h,g,d,t,os⟩:=by
 unfold getAttr? getAttrBy?
 repeat (any_goals (first
  | assumption
  | (with_reducible apply GQ X k hx hc)
  | wp_step))
theorem B5 (X:wH K C bm):PySem.W.KitX K (.ref a) (.ref C) (iD a C):=by
 obtain ⟨N,nm,q,bs,hdct,sn,sub,ab,col,dd,k0,k1,k2,k3,k5,mN,e1,_⟩:=X.cls.at
 refine ⟨fun M h k he=>?_,fun M h k he=>?_,fun h tp dd' its n sl k htp=>?_,fun {prog w A E Q s} k he hq=>?_⟩
 ·obtain ⟨oe,vs,g1,g2,g3⟩:=he
  intro A' Q' E' s' kk hq
  obtain ⟨hp,gg,dd,tk,os⟩:=s'
  have g1':=kk _ _ g1
  repeat (first
   | (with_reducible refine wpAny_loadPart_at g1' ?_; rw [g2])
   | wp_step)
  exact hq
 ·intro A' Q' E' s' kk hq
  unfold isType loadHead
  exact wpAny_bind (wpAny_loadPart (kk _ _ (e1 _ k).1) (wpAny_pure hq))
 ·refine Bool.eq_false_iff.mpr fun z=>?_
  have e:C=tp:=Value.ref.inj (beq_iff_eq.mp z)
  subst e
  have z2:=(e1 _ k).1.symm.trans htp
  injection z2 with z2
  have z3:=congrArg Obj.cls z2
  injection z3 with z3
  exact absurd z3 (by decide)
 ·obtain ⟨oe,vs,g1,g2,g3⟩:=he
  obtain ⟨hp,gg,dd,tk,os⟩:=s
  exact GP X k g1 g2 hq
end
end L2
namespace TM
open PySem PySem.Spec PyProof.Rows L2
inductive T where
 | non | bl (b:Bool) | int (i:Int) | str (x:Str) | ty (n:String) | tup (ts:List T) | lst (ts:List T) | scr (ts:List T) | dic | obj (C:Addr) (ns:List Str) (ts:List T) | ptr (a:Addr) | exc (C:Addr)
mutual
def Rep (K:PySem.W.Frag) (F:Hp):T -> V -> Prop
 | .non,v=>v=.non
 | .bl b,v=>v=.bl b
 | .int i,v=>v=.int i
 | .str x,v=>v=.str x
 | .ty n,v=>v=.ty n
 | .tup ts,v=>∃ a xs,v=.ref a /\ lu K F a xs /\ aV K F ts xs
 | .lst ts,v=>∃ a xs,v=.ref a /\ F a=some (.lst xs) /\ aV K F ts xs
 | .scr ts,v=>∃ a xs,v=.ref a /\ iA K F a xs /\ aV K F ts xs
 | .dic,v=>∃ a,v=.ref a /\ F a=some (.dK [])
 | .obj C ns ts,v=>∃ a dx vs,v=.ref a /\ F a=some (.ins C dx (ns.zip vs)) /\ vs.length=ns.length /\ aV K F ts vs
 | .ptr a,v=>v=.ref a
 | .exc C,v=>∃ a,v=.ref a /\ F a=some (.ext (iD a C))
def aV (K:PySem.W.Frag) (F:Hp):List T -> List V -> Prop
 | [],xs=>xs=[]
 | t :: ts,xs=>∃ v r,xs=v :: r /\ Rep K F t v /\ aV K F ts r
end
theorem cw {K:PySem.W.Frag} {H H':Hp} {a:Addr} {xs:List V} (e:aQ H H') (h:lu K H a xs):lu K H' a xs:=by
 rcases h with (h | ⟨o,h⟩) | h
 ·exact .inl (.inl (e _ _ h))
 ·exact .inl (.inr ⟨o,e _ _ h⟩)
 ·exact .inr h
mutual
theorem Rep.mono {K:PySem.W.Frag} {F F':Hp} (e:aQ F F'):∀ {t:T} {v:V},Rep K F t v -> Rep K F' t v
 | .non,_,h=>h
 | .bl _,_,h=>h
 | .int _,_,h=>h
 | .str _,_,h=>h
 | .ty _,_,h=>h
 | .tup ts,_,h=>by
  obtain ⟨a,xs,h1,h2,h3⟩:=h
  exact ⟨a,xs,h1,cw e h2,aV.mono e h3⟩
 | .lst ts,_,h=>by
  obtain ⟨a,xs,h1,h2,h3⟩:=h
  exact ⟨a,xs,h1,e _ _ h2,aV.mono e h3⟩
 | .scr ts,_,h=>by
  obtain ⟨a,xs,h1,h2,h3⟩:=h
  exact ⟨a,xs,h1,e.seq h2,aV.mono e h3⟩
 | .dic,_,h=>by
  obtain ⟨a,h1,h2⟩:=h
  exact ⟨a,h1,e _ _ h2⟩
 | .obj C ns ts,_,h=>by
  obtain ⟨a,dx,vs,h1,h2,h3,h4⟩:=h
  exact ⟨a,dx,vs,h1,e _ _ h2,h3,aV.mono e h4⟩
 | .ptr _,_,h=>h
 | .exc _,_,h=>by
  obtain ⟨a,h1,h2⟩:=h
  exact ⟨a,h1,e _ _ h2⟩
theorem aV.mono {K:PySem.W.Frag} {F F':Hp} (e:aQ F F'):∀ {ts:List T} {vs:List V},aV K F ts vs -> aV K F' ts vs
 | [],_,h=>h
 | t :: ts,_,h=>by
  obtain ⟨v,r,h1,h2,h3⟩:=h
  exact ⟨v,r,h1,Rep.mono e h2,aV.mono e h3⟩
end
section
variable {K:PySem.W.Frag} {F:Hp}
theorem aV.length:∀ {ts:List T} {vs:List V},aV K F ts vs -> vs.length=ts.length
 | [],_,h=>by cases h; rfl
 | t :: ts,_,h=>by
  obtain ⟨v,r,rfl,h2,h3⟩:=h
  simp [aV.length h3]
theorem aV.get:∀ {ts:List T} {vs:List V} {i:Nat} {t:T},aV K F ts vs -> ts[i]? = some t -> ∃ v,vs[i]? = some v /\ Rep K F t v
 | [],_,_,_,h,e=>by simp at e
 | t :: ts,_,0,_,h,e=>by
  obtain ⟨v,r,rfl,h2,h3⟩:=h
  simp at e; subst e
  exact ⟨v,rfl,h2⟩
 | t :: ts,_,i + 1,u,h,e=>by
  obtain ⟨v,r,rfl,h2,h3⟩:=h
  obtain ⟨w,h4,h5⟩:=aV.get (i:=i) (t:=u) h3 (by simpa using e)
  exact ⟨w,by simpa using h4,h5⟩
theorem aV.append:∀ {ts us:List T} {vs ws:List V},aV K F ts vs -> aV K F us ws -> aV K F (ts ++ us) (vs ++ ws)
 | [],_,_,_,h,h'=>by cases h; exact h'
 | t :: ts,_,_,_,h,h'=>by
  obtain ⟨v,r,rfl,h2,h3⟩:=h
  exact ⟨v,r ++ _,rfl,h2,aV.append h3 h'⟩
theorem aV.one {t:T} {v:V} (h:Rep K F t v):aV K F [t] [v]:=⟨v,[],rfl,h,rfl⟩
theorem aV.take:∀ {ts:List T} {vs:List V} (n:Nat),aV K F ts vs -> aV K F (ts.take n) (vs.take n)
 | _,_,0,_=>rfl
 | [],_,n + 1,h=>by cases h; rfl
 | t :: ts,_,n + 1,h=>by
  obtain ⟨v,r,rfl,h2,h3⟩:=h
  exact ⟨v,r.take n,rfl,h2,aV.take n h3⟩
theorem aV.drop:∀ {ts:List T} {vs:List V} (n:Nat),aV K F ts vs -> aV K F (ts.drop n) (vs.drop n)
 | _,_,0,h=>h
 | [],_,n + 1,h=>by cases h; rfl
 | t :: ts,_,n + 1,h=>by
  obtain ⟨v,r,rfl,h2,h3⟩:=h
  exact aV.drop n h3
theorem qW:∀ ns:List Int,aV K F (ns.map T.int) (ns.map V.int)
 | []=>rfl
 | n :: ns=>⟨.int n,ns.map V.int,rfl,rfl,qW ns⟩
end
structure bx (F H F' H':Hp):Prop where
 sF:aQ F F'
 sH:aQ H H'
 fh:aQ F' H'
 nw:∀ a o,F' a=some o -> F a=some o \/ H a=none
theorem bx.refl {F H:Hp} (h:aQ F H):bx F H F H:=⟨aQ.refl _,aQ.refl _,h,fun _ _ e=>.inl e⟩
theorem bx.trans {F H F1 H1 F2 H2:Hp} (a:bx F H F1 H1) (b:bx F1 H1 F2 H2):bx F H F2 H2:=
 ⟨a.sF.trans b.sF,a.sH.trans b.sH,b.fh,fun x o e=>by
  rcases b.nw x o e with e | e
  ·exact a.nw x o e
  ·exact .inr (a.sH.free e)⟩
theorem dq {H:Hp} {p:Addr} {o:HO} (h:H p=none):aQ H (upd H p o):=fun b u q=>by rw [aK (bA q h)]; exact q
theorem bx.new {F H:Hp} {p:Addr} (o:HO) (h:aQ F H) (n:H p=none):bx F H (upd F p o) (upd H p o):=by
 refine ⟨dq (h.free n),dq n,fun b u q=>?_,fun a u q=>?_⟩
 ·by_cases e:b=p
  ·subst e; rw [aU] at q ⊢; exact q
  ·rw [aK e] at q ⊢; exact h _ _ q
 ·by_cases e:a=p
  ·subst e; exact .inr n
  ·rw [aK e] at q; exact .inl q
inductive Sl where
 | sh (t:T) | own (ts:List T)
abbrev aJ:=List (Option Sl)
def wJ (K:PySem.W.Frag) (H₀ F H:Hp):Sl -> V -> Prop
 | .sh t,v=>Rep K F t v
 | .own ts,v=>∃ p vs,v=.ref p /\ H p=some (.lst vs) /\ F p=none /\ H₀ p=none /\ aV K F ts vs
structure aI (K:PySem.W.Frag) (F₀ H₀ F H:Hp) (σ:L2.St) (τ:aJ):Prop where
 g:bx F₀ H₀ F H
 len:σ.length=τ.length
 sl:∀ (i:Nat) (s:Sl),τ[i]? = some (some s) -> ∃ v,σ[i]? = some (some v) /\ wJ K H₀ F H s v
 dj:∀ (i j:Nat) (ts us:List T) (p:Addr),i ≠ j -> τ[i]? = some (some (.own ts)) -> τ[j]? = some (some (.own us)) -> σ[i]? = some (some (.ref p)) -> σ[j]? ≠ some (some (.ref p))
section
variable {K:PySem.W.Frag} {F₀ H₀ F H F' H':Hp} {σ:L2.St} {τ:aJ}
theorem wJ.grow {s:Sl} {v:V} (g:bx F H F' H') (h:wJ K H₀ F H s v):wJ K H₀ F' H' s v:=by
 cases s with
 | sh t=>exact Rep.mono g.sF h
 | own ts =>
  obtain ⟨p,vs,h1,h2,h3,h4,h5⟩:=h
  refine ⟨p,vs,h1,g.sH _ _ h2,?_,h4,aV.mono g.sF h5⟩
  cases e:F' p with
  | none=>rfl
  | some o =>
   rcases g.nw p o e with q | q
   ·rw [q] at h3; cases h3
   ·rw [q] at h2; cases h2
theorem aI.grow (E:aI K F₀ H₀ F H σ τ) (g:bx F H F' H'):aI K F₀ H₀ F' H' σ τ:=by
 refine ⟨E.g.trans g,E.len,fun i s e=>?_,E.dj⟩
 obtain ⟨v,h1,h2⟩:=E.sl i s e
 exact ⟨v,h1,h2.grow g⟩
theorem aI.set {i:Nat} {t:T} {v:V} (E:aI K F₀ H₀ F H σ τ) (r:Rep K F t v):aI K F₀ H₀ F H (σ.set i (some v)) (τ.set i (some (.sh t))):=by
 refine ⟨E.g,by simp [E.len],fun j s e=>?_,fun j k ts us p hjk e1 e2 e3=>?_⟩
 ·by_cases hj:i=j
  ·subst hj
   by_cases hl:i < τ.length
   ·rw [List.getElem?_set_self hl] at e
    cases e
    exact ⟨v,List.getElem?_set_self (by rw [E.len]; exact hl),r⟩
   ·rw [List.getElem?_eq_none (by simp; omega)] at e; cases e
  ·rw [List.getElem?_set_ne hj] at e
   rw [List.getElem?_set_ne hj]
   exact E.sl j s e
 ·have n1:i ≠ j:=fun z=>by
   subst z
   by_cases hl:i < τ.length
   ·rw [List.getElem?_set_self hl] at e1; cases e1
   ·rw [List.getElem?_eq_none (by simp; omega)] at e1; cases e1
  have n2:i ≠ k:=fun z=>by
   subst z
   by_cases hl:i < τ.length
   ·rw [List.getElem?_set_self hl] at e2; cases e2
   ·rw [List.getElem?_eq_none (by simp; omega)] at e2; cases e2
  rw [List.getElem?_set_ne n1] at e1 e3
  rw [List.getElem?_set_ne n2] at e2 ⊢
  exact E.dj j k ts us p hjk e1 e2 e3
theorem aI.freeze {i:Nat} {ts:List T} (E:aI K F₀ H₀ F H σ τ) (e:τ[i]? = some (some (.own ts))) :
  ∃ F' v,σ[i]? = some (some v) /\ aI K F₀ H₀ F' H σ (τ.set i (some (.sh (.lst ts)))) /\ aQ F F' /\ Rep K F' (.lst ts) v:=by
 obtain ⟨v,h1,p,vs,rfl,h2,h3,h4,h5⟩:=E.sl i _ e
 have sF:aQ F (upd F p (.lst vs)):=dq h3
 have rp:Rep K (upd F p (.lst vs)) (.lst ts) (.ref p):=⟨p,vs,rfl,aU,aV.mono sF h5⟩
 refine ⟨upd F p (.lst vs),.ref p,h1,⟨⟨E.g.sF.trans sF,E.g.sH,fun b o q=>?_,fun b o q=>?_⟩,by simp [E.len],fun j s q=>?_,fun j k us ws r hjk e1 e2 e3=>?_⟩,sF,rp⟩
 ·by_cases z:b=p
  ·subst z; rw [aU] at q; cases q; exact h2
  ·rw [aK z] at q; exact E.g.fh _ _ q
 ·by_cases z:b=p
  ·subst z; exact .inr h4
  ·rw [aK z] at q; exact E.g.nw _ _ q
 ·by_cases hj:i=j
  ·subst hj
   have hl:i < τ.length:=by
    have:=(List.getElem?_eq_some_iff.mp e).1
    exact this
   rw [List.getElem?_set_self hl] at q
   cases q
   exact ⟨_,h1,rp⟩
  ·rw [List.getElem?_set_ne hj] at q
   obtain ⟨v,g1,g2⟩:=E.sl j s q
   refine ⟨v,g1,?_⟩
   cases s with
   | sh t=>exact Rep.mono sF g2
   | own us =>
    obtain ⟨r,ws,rfl,k2,k3,k4,k5⟩:=g2
    have hne:r ≠ p:=fun z=>by
     subst z
     exact E.dj i j ts us r hj e q h1 g1
    exact ⟨r,ws,rfl,k2,by rw [aK hne]; exact k3,k4,aV.mono sF k5⟩
 ·have hl:i < τ.length:=(List.getElem?_eq_some_iff.mp e).1
  have n1:i ≠ j:=fun z=>by subst z; rw [List.getElem?_set_self hl] at e1; cases e1
  have n2:i ≠ k:=fun z=>by subst z; rw [List.getElem?_set_self hl] at e2; cases e2
  rw [List.getElem?_set_ne n1] at e1
  rw [List.getElem?_set_ne n2] at e2
  exact E.dj j k us ws r hjk e1 e2 e3
theorem aI.setOwn {i:Nat} {ts:List T} {vs:List V} {p:Addr} (E:aI K F₀ H₀ F H σ τ) (n:H p=none) (r:aV K F ts vs):aI K F₀ H₀ F (upd H p (.lst vs)) (σ.set i (some (.ref p))) (τ.set i (some (.own ts))):=by
 have sH:aQ H (upd H p (.lst vs)):=dq n
 have fp:F p=none:=E.g.fh.free n
 have old:∀ {j:Nat} {s:Sl},i ≠ j -> τ[j]? = some (some s) -> ∃ v,σ[j]? = some (some v) /\ wJ K H₀ F (upd H p (.lst vs)) s v:=fun {j s} hj q=>by
  obtain ⟨v,g1,g2⟩:=E.sl j s q
  refine ⟨v,g1,?_⟩
  cases s with
  | sh t=>exact g2
  | own us =>
   obtain ⟨r,ws,rfl,k2,k3,k4,k5⟩:=g2
   exact ⟨r,ws,rfl,sH _ _ k2,k3,k4,k5⟩
 refine ⟨⟨E.g.sF,E.g.sH.trans sH,E.g.fh.trans sH,E.g.nw⟩,by simp [E.len],fun j s e=>?_,fun j k ts' us q hjk e1 e2 e3 e4=>?_⟩
 ·by_cases hj:i=j
  ·subst hj
   by_cases hl:i < τ.length
   ·rw [List.getElem?_set_self hl] at e
    cases e
    exact ⟨.ref p,List.getElem?_set_self (by rw [E.len]; exact hl),p,vs,rfl,aU,fp,E.g.sH.free n,r⟩
   ·rw [List.getElem?_eq_none (by simp; omega)] at e; cases e
  ·rw [List.getElem?_set_ne hj] at e
   rw [List.getElem?_set_ne hj]
   exact old hj e
 ·by_cases hj:i=j
  ·subst hj
   have n2:i ≠ k:=hjk
   rw [List.getElem?_set_ne n2] at e2 e4
   by_cases hl:i < τ.length
   ·rw [List.getElem?_set_self (by rw [E.len]; exact hl)] at e3
    cases e3
    obtain ⟨v,g1,r',ws,rfl,k2,_⟩:=E.sl k _ e2
    rw [g1] at e4; cases e4
    rw [n] at k2; cases k2
   ·rw [List.getElem?_eq_none (by simp; omega)] at e1; cases e1
  ·rw [List.getElem?_set_ne hj] at e1 e3
   by_cases hk:i=k
   ·subst hk
    by_cases hl:i < τ.length
    ·rw [List.getElem?_set_self (by rw [E.len]; exact hl)] at e4
     cases e4
     obtain ⟨v,g1,r',ws,rfl,k2,_⟩:=E.sl j _ e1
     rw [g1] at e3; cases e3
     rw [n] at k2; cases k2
    ·rw [List.getElem?_eq_none (by simp; omega)] at e2; cases e2
   ·rw [List.getElem?_set_ne hk] at e2 e4
    exact E.dj j k ts' us q hjk e1 e2 e3 e4
theorem aI.turnOwn {i:Nat} {ts us:List T} {vs:List V} {p:Addr} (E:aI K F₀ H₀ F H σ τ) (e:τ[i]? = some (some (.own ts))) (hp:σ[i]? = some (some (.ref p))) (r:aV K F us vs) :
  aI K F₀ H₀ F (upd H p (.lst vs)) σ (τ.set i (some (.own us))):=by
 obtain ⟨v,h1,p',vs',rfl,h2,h3,h4,h5⟩:=E.sl i _ e
 rw [hp] at h1; cases h1
 have hl:i < τ.length:=(List.getElem?_eq_some_iff.mp e).1
 refine ⟨⟨E.g.sF,fun b o q=>?_,fun b o q=>?_,E.g.nw⟩,by simp [E.len],fun j s q=>?_,fun j k ts' us' q hjk e1 e2 e3=>?_⟩
 ·rw [aK (fun z=>by subst z; rw [h4] at q; cases q)]; exact E.g.sH _ _ q
 ·rw [aK (fun z=>by subst z; rw [h3] at q; cases q)]; exact E.g.fh _ _ q
 ·by_cases hj:i=j
  ·subst hj
   rw [List.getElem?_set_self hl] at q; cases q
   exact ⟨_,hp,p,vs,rfl,aU,h3,h4,r⟩
  ·rw [List.getElem?_set_ne hj] at q
   obtain ⟨v,g1,g2⟩:=E.sl j s q
   refine ⟨v,g1,?_⟩
   cases s with
   | sh t=>exact g2
   | own us' =>
    obtain ⟨r',ws,rfl,k2,k3,k4,k5⟩:=g2
    have hne:r' ≠ p:=fun z=>by subst z; exact E.dj i j ts us' r' hj e q hp g1
    exact ⟨r',ws,rfl,by rw [aK hne]; exact k2,k3,k4,k5⟩
 ·have q1:∃ zs,τ[j]? = some (some (.own zs)):=by
   by_cases hj:i=j
   ·subst hj; exact ⟨_,e⟩
   ·rw [List.getElem?_set_ne hj] at e1; exact ⟨_,e1⟩
  have q2:∃ zs,τ[k]? = some (some (.own zs)):=by
   by_cases hj:i=k
   ·subst hj; exact ⟨_,e⟩
   ·rw [List.getElem?_set_ne hj] at e2; exact ⟨_,e2⟩
  obtain ⟨z1,q1⟩:=q1
  obtain ⟨z2,q2⟩:=q2
  exact E.dj j k z1 z2 q hjk q1 q2 e3
end
open PySem PySem.Spec PyProof.Rows L2
abbrev FE:=aJ -> Option (T × aJ)
abbrev FA:=aJ -> Option (List T × aJ)
abbrev FT:=aJ -> Option (Bool × aJ)
inductive R where
 | nx (τ:aJ) | rt (t:T) | bk (τ:aJ) | ct (τ:aJ)
abbrev FS:=aJ -> Option R
abbrev FG:=T -> aJ -> Option aJ
section
variable (K:PySem.W.Frag) (F₀ H₀:Hp)
def tE (f:FE):TE:=fun σ H Q=>∃ F τ t τ',aI K F₀ H₀ F H σ τ /\ f τ=some (t,τ') /\ ∀ F' H' v,aI K F₀ H₀ F' H' σ τ' -> aQ F F' -> Rep K F' t v -> Q v H'
def tA (f:FA):TA:=fun σ H Q=>∃ F τ ts τ',aI K F₀ H₀ F H σ τ /\ f τ=some (ts,τ') /\ ∀ F' H' vs,aI K F₀ H₀ F' H' σ τ' -> aQ F F' -> aV K F' ts vs -> Q vs H'
def tT (f:FT):TT:=fun σ H Q=>∃ F τ b τ',aI K F₀ H₀ F H σ τ /\ f τ=some (b,τ') /\ ∀ F' H',aI K F₀ H₀ F' H' σ τ' -> aQ F F' -> Q b H'
def rA (F:Hp) (D:Ends):R -> Prop
 | .nx τ'=>∀ F' H' σ',aI K F₀ H₀ F' H' σ' τ' -> aQ F F' -> D.nx σ' H'
 | .rt t=>∀ F' H' v,bx F₀ H₀ F' H' -> Rep K F' t v -> D.rt v H'
 | .bk τ'=>∀ F' H' σ',aI K F₀ H₀ F' H' σ' τ' -> aQ F F' -> D.bk σ' H'
 | .ct τ'=>∀ F' H' σ',aI K F₀ H₀ F' H' σ' τ' -> aQ F F' -> D.ct σ' H'
def tS (f:FS):TS:=fun D σ H=>∃ F τ r,aI K F₀ H₀ F H σ τ /\ f τ=some r /\ rA K F₀ H₀ F D r
end
def SE (X:Cx) (e:Expr) (f:FE):Prop:=∀ F₀ H₀,PE X e (tE X.K F₀ H₀ f)
def SA (X:Cx) (es:List Expr) (f:FA):Prop:=∀ F₀ H₀,PA X es (tA X.K F₀ H₀ f)
def ST (X:Cx) (e:Expr) (f:FT):Prop:=∀ F₀ H₀,PT X e (tT X.K F₀ H₀ f)
def SW (X:Cx) (e:Expr) (f:FT):Prop:=∀ F₀ H₀,PW X e (tT X.K F₀ H₀ f)
def SS (X:Cx) (st:Stmt) (f:FS):Prop:=∀ F₀ H₀,PS X st (tS X.K F₀ H₀ f)
def wF (X:Cx) (st:List Stmt) (f:FS):Prop:=∀ F₀ H₀,lF X st (tS X.K F₀ H₀ f)
section
variable {X:Cx} {e a b:Expr} {pos:Pos} {f fa fb:FE}
theorem PE.weak {t t':TE} (h:PE X e t) (i:∀ σ H Q,t' σ H Q -> t σ H Q):PE X e t':=fun pins s σ H Q I q=>h pins s σ H Q I (i σ H Q q)
theorem PT.weak {t t':TT} (h:PT X e t) (i:∀ σ H Q,t' σ H Q -> t σ H Q):PT X e t':=fun pins s σ H Q I q=>h pins s σ H Q I (i σ H Q q)
theorem PW.weak {t t':TT} (h:PW X e t) (i:∀ σ H Q,t' σ H Q -> t σ H Q):PW X e t':=fun wh pins s σ H Q I q=>h wh pins s σ H Q I (i σ H Q q)
theorem PA.weak {es:List Expr} {t t':TA} (h:PA X es t) (i:∀ σ H Q,t' σ H Q -> t σ H Q):PA X es t':=fun p pins s σ H Q I q=>h p pins s σ H Q I (i σ H Q q)
theorem PS.weak {st:Stmt} {t t':TS} (h:PS X st t) (i:∀ D σ H,t' D σ H -> t D σ H):PS X st t':=fun pins s σ H D I q=>h pins s σ H D I (i D σ H q)
theorem lF.weak {st:List Stmt} {t t':TS} (h:lF X st t) (i:∀ D σ H,t' D σ H -> t D σ H):lF X st t':=fun pins s σ H D I q=>h pins s σ H D I (i D σ H q)
def fC (t:T):FE:=fun τ=>some (t,τ)
def ag (i:Nat):FE:=fun τ=>match τ[i]? with
 | some (some (.sh t))=>some (t,τ)
 | some (some (.own ts))=>some (.lst ts,τ.set i (some (.sh (.lst ts))))
 | _=>none
theorem gW {t:T} {v:V} (h:PE X e (tC v)) (r:∀ F,Rep X.K F t v):SE X e (fC t):=fun F₀ H₀=>PE.weak h fun σ H Q hq__=>by
 obtain ⟨F,τ,t',τ',E,e1,q⟩:=hq__
 cases e1
 exact q F H v E (aQ.refl _) (r F)
theorem ar {i:Int} {j}:SE X (.Constant (.int i) j pos) (fC (.int i)):=gW HX fun _=>rfl
theorem kH {c:Bool} {j}:SE X (.Constant (.bool c) j pos) (fC (.bl c)):=gW Kt fun _=>rfl
theorem Iz {j}:SE X (.Constant .none j pos) (fC .non):=gW HY fun _=>rfl
theorem fS {x:Str} {j}:SE X (.Constant (.str x) j pos) (fC (.str x)):=gW Ie fun _=>rfl
theorem af (i:Nat) {x:Str} (h:PE X (.Name x pos) (Bc i)):SE X (.Name x pos) (ag i):=fun F₀ H₀=>PE.weak h fun σ H Q hq__=>by
 obtain ⟨F,τ,t,τ',E,e1,q⟩:=hq__
 unfold ag at e1
 split at e1
 ·next t' e2 =>
  cases e1
  obtain ⟨v,h1,h2⟩:=E.sl i _ e2
  exact ⟨v,h1,q F H v E (aQ.refl _) h2⟩
 ·next ts e2 =>
  cases e1
  obtain ⟨F',v,h1,E',sF,r⟩:=E.freeze e2
  exact ⟨v,h1,q F' H v E' sF r⟩
 ·cases e1
theorem nj {x:Str} {n:String} (hg:Gl X x) (hm:X.mg x=none) (hv:bootBuiltins x=some (.type n)) (hn:x ≠ "__name__" := by decide) (hd:(x == ("__debug__" : Str))=false:=by decide):SE X (.Name x pos) (fC (.ty n)):=
 gW (Eu (v:=.ty n) hg hm hv rfl hn hd) fun _=>rfl
def Jj (K:PySem.W.Frag) (g:T -> T -> Option T):R2:=fun x y H Q=>∃ F a b t,aQ F H /\ Rep K F a x /\ Rep K F b y /\ g a b=some t /\ ∀ F' H' v,bx F H F' H' -> Rep K F' t v -> Q v H'
def Nb (K:PySem.W.Frag) (g:T -> Option T):V -> Hp -> VK -> Prop:=fun x H Q=>∃ F a t,aQ F H /\ Rep K F a x /\ g a=some t /\ ∀ F' H' v,bx F H F' H' -> Rep K F' t v -> Q v H'
def Lw (K:PySem.W.Frag) (g:List T -> Option T):List V -> Hp -> VK -> Prop:=fun xs H Q=>∃ F ts t,aQ F H /\ aV K F ts xs /\ g ts=some t /\ ∀ F' H' v,bx F H F' H' -> Rep K F' t v -> Q v H'
abbrev nt (X:Cx) (f:Value -> Value -> Sem Value) (g:T -> T -> Option T):Prop:=m6 X f (Jj X.K g)
abbrev MH (X:Cx) (f:Value -> Sem Value) (g:T -> Option T):Prop:=Le X f (Nb X.K g)
abbrev jq (X:Cx) (f:Value) (g:List T -> Option T):Prop:=gp X f (Lw X.K g)
def aF (g:T -> T -> Option T) (fa fb:FE):FE:=fun τ=>(fa τ).bind fun p=>(fb p.2).bind fun q=>(g p.1 q.1).bind fun t=>some (t,q.2)
def uF (g:T -> Option T) (fa:FE):FE:=fun τ=>(fa τ).bind fun p=>(g p.1).bind fun t=>some (t,p.2)
theorem bind_some {α β:Type} {o:Option α} {f:α -> Option β} {z:β} (h:o.bind f=some z):∃ x,o=some x /\ f x=some z:=by
 cases o with
 | none=>cases h
 | some x=>exact ⟨x,rfl,h⟩
theorem nY {g:T -> T -> Option T} {F₀ H₀:Hp} {σ:L2.St} {H:Hp} {Q:VK} (h:tE X.K F₀ H₀ (aF g fa fb) σ H Q):KY (Jj X.K g) (tE X.K F₀ H₀ fa) (tE X.K F₀ H₀ fb) σ H Q:=by
 obtain ⟨F,τ,t,τ',E,e1,q⟩:=h
 obtain ⟨⟨x,τ1⟩,e2,e1⟩:=bind_some e1
 obtain ⟨⟨y,τ2⟩,e3,e1⟩:=bind_some e1
 obtain ⟨z,e4,e1⟩:=bind_some e1
 cases e1
 refine ⟨F,τ,x,τ1,E,e2,fun F1 H1 v1 E1 s1 r1=>⟨F1,τ1,y,_,E1,e3,fun F2 H2 v2 E2 s2 r2=>?_⟩⟩
 exact ⟨F2,x,y,t,E2.g.fh,Rep.mono s2 r1,r2,e4,fun F3 H3 v3 g3 r3=>q F3 H3 v3 (E2.grow g3) ((s1.trans s2).trans g3.sF) r3⟩
theorem aN {op:Operator} {g:T -> T -> Option T} (ho:nt X (binaryOp op) g) (ha:SE X a fa) (hb:SE X b fb):SE X (.BinOp a op b pos) (aF g fa fb):=
 fun F₀ H₀=>PE.weak (Kw ho (ha F₀ H₀) (hb F₀ H₀)) fun _ _ _=>nY
theorem Gu {op:UnaryOp} {g:T -> Option T} (ho:MH X (unaryOp op) g) (ha:SE X a fa):SE X (.UnaryOp op a pos) (uF g fa):=
 fun F₀ H₀=>PE.weak (Kx ho (ha F₀ H₀)) fun σ H Q hq__=>by
  obtain ⟨F,τ,t,τ',E,e1,q⟩:=hq__
  obtain ⟨⟨x,τ1⟩,e2,e1⟩:=bind_some e1
  obtain ⟨z,e4,e1⟩:=bind_some e1
  cases e1
  exact ⟨F,τ,x,_,E,e2,fun F1 H1 v1 E1 s1 r1=>⟨F1,x,t,E1.g.fh,r1,e4,fun F3 H3 v3 g3 r3=>q F3 H3 v3 (E1.grow g3) (s1.trans g3.sF) r3⟩⟩
theorem jY {op:CmpOp} {g:T -> T -> Option T} (ho:nt X (compareOp op) g) (ha:SE X a fa) (hb:SE X b fb) (hm:behindInMarks op b=false):SE X (.Compare a [op] [b] pos) (aF g fa fb):=
 fun F₀ H₀=>PE.weak (Ex ho (ha F₀ H₀) (hb F₀ H₀) hm) fun _ _ _=>nY
theorem bh {g:T -> T -> Option T} (ho:Di X (Jj X.K g)) (ha:SE X a fa) (hb:SE X b fb) (hs:yA b):SE X (.Subscript a b pos) (aF g fa fb):=
 fun F₀ H₀=>PE.weak (Kv ho (ha F₀ H₀) (hb F₀ H₀) hs) fun _ _ _=>nY
def dJ (f:FE):FT:=fun τ=>(f τ).bind fun p=>match p.1 with | .bl c=>some (c,p.2) | _=>none
def Ly:T -> Option Bool
 | .non=>some false
 | .bl c=>some c
 | .int i=>some (i != 0)
 | .str x=>if x.length ≤ sizeLine then some ((x.length:Int) != 0) else none
 | .tup ts=>some (!ts.isEmpty)
 | .lst ts=>some (!ts.isEmpty)
 | .scr ts=>some (!ts.isEmpty)
 | .dic=>some false
 | .obj _ _ _=>none
 | .ptr _=>none
 | .exc _=>none
 | .ty _=>none
def eR (f:FE):FT:=fun τ=>(f τ).bind fun p=>(Ly p.1).bind fun c=>some (c,p.2)
theorem bX {op:CmpOp} {g:T -> T -> Option T} (ho:nt X (compareOp op) g) (ha:SE X a fa) (hb:SE X b fb) (hm:behindInMarks op b=false):ST X (.Compare a [op] [b] pos) (dJ (aF g fa fb)):=
 fun F₀ H₀=>PT.weak (EH ho (ha F₀ H₀) (hb F₀ H₀) hm) fun σ H Q hq__=>by
  obtain ⟨F,τ,c,τ',E,e1,q⟩:=hq__
  obtain ⟨⟨x,τ1⟩,e2,e1⟩:=bind_some e1
  dsimp only at e1
  split at e1
  ·cases e1
   refine nY (Q:=fun x H'=>∃ k,x=V.bl k /\ Q k H') ⟨F,τ,_,_,E,e2,fun F' H' v E' s' r'=>?_⟩
   exact ⟨c,r',q F' H' E' s'⟩
  ·cases e1
theorem iW {K:PySem.W.Frag} {F:Hp} {ts:List T} {vs:List V} (h:aV K F ts vs):vs.isEmpty=ts.isEmpty:=by
 cases ts with
 | nil=>cases h; rfl
 | cons t ts=>obtain ⟨v,r,rfl,_⟩:=h; rfl
theorem Fe {K:PySem.W.Frag} {F H:Hp} {t:T} {v:V} {c:Bool} (s:aQ F H) (r:Rep K F t v) (e:Ly t=some c):GI K v H c:=by
 cases t with
 | non=>cases r; cases e; exact rfl
 | bl _=>cases r; cases e; exact rfl
 | int _=>cases r; cases e; exact rfl
 | str x =>
  cases r
  simp only [Ly] at e
  split at e
  ·next h=>cases e; exact ⟨h,rfl⟩
  ·cases e
 | ty _=>cases e
 | tup ts =>
  obtain ⟨p,xs,rfl,h1,h2⟩:=r
  cases e
  exact .inr (.inl ⟨xs,cw s h1,by rw [iW h2]⟩)
 | lst ts =>
  obtain ⟨p,xs,rfl,h1,h2⟩:=r
  cases e
  exact .inl ⟨xs,iA.of (s _ _ h1),by rw [iW h2]⟩
 | scr ts =>
  obtain ⟨p,xs,rfl,h1,h2⟩:=r
  cases e
  exact .inl ⟨xs,s.seq h1,by rw [iW h2]⟩
 | dic =>
  obtain ⟨p,rfl,h1⟩:=r
  cases e
  exact .inr (.inr ⟨[],s _ _ h1,rfl⟩)
 | obj _ _ _=>cases e
 | ptr _=>cases e
 | exc _=>cases e
theorem gY (h:SE X e f) (he:∀ whole,isTrue e X.env whole=(do let v <- whole; standAt e.pos; holding [v] (truthy v)):=by intro _; rfl):ST X e (eR f):=
 fun F₀ H₀=>PT.weak (CI (h F₀ H₀) he) fun σ H Q hq__=>by
  obtain ⟨F,τ,c,τ',E,e1,q⟩:=hq__
  obtain ⟨⟨x,τ1⟩,e2,e1⟩:=bind_some e1
  obtain ⟨z,e4,e1⟩:=bind_some e1
  cases e1
  exact ⟨F,τ,x,_,E,e2,fun F1 H1 v1 E1 s1 r1=>⟨c,Fe E1.g.fh r1 e4,q F1 H1 E1 s1⟩⟩
variable {ta tb:FT} {rest:List Expr}
def nv (ta tb:FT):FT:=fun τ=>(ta τ).bind fun p=>if p.1=true then tb p.2 else some (false,p.2)
def qd (ta tb:FT):FT:=fun τ=>(ta τ).bind fun p=>if p.1=true then some (true,p.2) else tb p.2
def eu (ta:FT):FT:=fun τ=>(ta τ).bind fun p=>some (!p.1,p.2)
theorem gm (h:ST X a ta):ST X (.UnaryOp .Not a pos) (eu ta):=fun F₀ H₀=>PT.weak (Ir (h F₀ H₀)) fun σ H Q hq__=>by
 obtain ⟨F,τ,c,τ',E,e1,q⟩:=hq__
 obtain ⟨⟨x,τ1⟩,e2,e1⟩:=bind_some e1
 cases e1
 exact ⟨F,τ,x,_,E,e2,fun F1 H1 E1 s1=>q F1 H1 E1 s1⟩
theorem ux (h:ST X a ta):SW X (.BoolOp .And [a] pos) ta:=fun F₀ H₀=>EI (h F₀ H₀)
theorem pN (h:ST X a ta):SW X (.BoolOp .Or [a] pos) ta:=fun F₀ H₀=>Iv (h F₀ H₀)
theorem yj (ha:ST X a ta) (hb:SW X (.BoolOp .And (b :: rest) pos) tb):SW X (.BoolOp .And (a :: b :: rest) pos) (nv ta tb):=fun F₀ H₀=>PW.weak (Iu (ha F₀ H₀) (hb F₀ H₀)) fun σ H Q hq__=>by
 obtain ⟨F,τ,c,τ',E,e1,q⟩:=hq__
 obtain ⟨⟨x,τ1⟩,e2,e1⟩:=bind_some e1
 refine ⟨F,τ,x,τ1,E,e2,fun F1 H1 E1 s1=>?_⟩
 dsimp only at e1
 split at e1
 ·next h=>rw [if_pos h]; exact ⟨F1,τ1,c,τ',E1,e1,fun F2 H2 E2 s2=>q F2 H2 E2 (s1.trans s2)⟩
 ·next h=>rw [if_neg h]; cases e1; exact q F1 H1 E1 s1
theorem rd (ha:ST X a ta) (hb:SW X (.BoolOp .Or (b :: rest) pos) tb):SW X (.BoolOp .Or (a :: b :: rest) pos) (qd ta tb):=fun F₀ H₀=>PW.weak (Kz (ha F₀ H₀) (hb F₀ H₀)) fun σ H Q hq__=>by
 obtain ⟨F,τ,c,τ',E,e1,q⟩:=hq__
 obtain ⟨⟨x,τ1⟩,e2,e1⟩:=bind_some e1
 refine ⟨F,τ,x,τ1,E,e2,fun F1 H1 E1 s1=>?_⟩
 dsimp only at e1
 split at e1
 ·next h=>rw [if_pos h]; cases e1; exact q F1 H1 E1 s1
 ·next h=>rw [if_neg h]; exact ⟨F1,τ1,c,τ',E1,e1,fun F2 H2 E2 s2=>q F2 H2 E2 (s1.trans s2)⟩
theorem SW.st (h:SW X e ta):ST X e ta:=fun F₀ H₀=>(h F₀ H₀).pt
def eW (fa fb:FE):FE:=fun τ=>(fa τ).bind fun p=>match p.1 with | .bl true=>fb p.2 | .bl false=>some (.bl false,p.2) | _=>none
def LW (fa fb:FE):FE:=fun τ=>(fa τ).bind fun p=>match p.1 with | .bl true=>some (.bl true,p.2) | .bl false=>fb p.2 | _=>none
def DP:T -> Option T
 | .bl c=>some (.bl (!c))
 | _=>none
theorem mT {op} (h:SE X a fa):SE X (.BoolOp op [a] pos) fa:=fun F₀ H₀=>Ia (h F₀ H₀)
theorem gk (ha:SE X a fa) (hb:SE X (.BoolOp .And (b :: rest) pos) fb):SE X (.BoolOp .And (a :: b :: rest) pos) (eW fa fb):=fun F₀ H₀=>PE.weak (HU (ha F₀ H₀) (hb F₀ H₀)) fun σ H Q hq__=>by
 obtain ⟨F,τ,c,τ',E,e1,q⟩:=hq__
 obtain ⟨⟨x,τ1⟩,e2,e1⟩:=bind_some e1
 dsimp only at e1
 refine ⟨F,τ,x,τ1,E,e2,fun F1 H1 v E1 s1 r1=>?_⟩
 split at e1
 ·cases r1; exact ⟨true,rfl,by rw [if_pos rfl]; exact ⟨F1,τ1,c,τ',E1,e1,fun F2 H2 v2 E2 s2=>q F2 H2 v2 E2 (s1.trans s2)⟩⟩
 ·cases r1; cases e1; exact ⟨false,rfl,by rw [if_neg (by decide)]; exact q F1 H1 _ E1 s1 rfl⟩
 ·cases e1
theorem IA (ha:SE X a fa):SE X (.UnaryOp .Not a pos) (uF DP fa):=fun F₀ H₀=>PE.weak (HZ (ha F₀ H₀)) fun σ H Q hq__=>by
 obtain ⟨F,τ,c,τ',E,e1,q⟩:=hq__
 obtain ⟨⟨x,τ1⟩,e2,e1⟩:=bind_some e1
 obtain ⟨z,e4,e1⟩:=bind_some e1
 cases e1
 refine ⟨F,τ,x,_,E,e2,fun F1 H1 v E1 s1 r1=>?_⟩
 dsimp only at e4
 unfold DP at e4
 split at e4
 ·cases r1; cases e4; exact ⟨_,rfl,q F1 H1 _ E1 s1 rfl⟩
 ·cases e4
def M1 (t:FT) (fa fb:FE):FE:=fun τ=>(t τ).bind fun p=>if p.1=true then fa p.2 else fb p.2
variable {es:List Expr} {g:FA}
def ai:FA:=fun τ=>some ([],τ)
def aa (f:FE) (g:FA):FA:=fun τ=>(f τ).bind fun p=>(g p.2).bind fun q=>some (p.1 :: q.1,q.2)
theorem aj:SA X [] ai:=fun F₀ H₀=>PA.weak yc fun σ H Q hq__=>by
 obtain ⟨F,τ,c,τ',E,e1,q⟩:=hq__
 cases e1
 exact q F H [] E (aQ.refl _) rfl
theorem ae (ha:SE X e f) (hr:SA X es g) (hs:starEach (e :: es) X.env=(false,eval e X.env) :: starEach es X.env:=by rfl):SA X (e :: es) (aa f g):=fun F₀ H₀=>PA.weak (nZ (ha F₀ H₀) (hr F₀ H₀) hs) fun σ H Q hq__=>by
 obtain ⟨F,τ,c,τ',E,e1,q⟩:=hq__
 obtain ⟨⟨x,τ1⟩,e2,e1⟩:=bind_some e1
 obtain ⟨⟨y,τ2⟩,e3,e1⟩:=bind_some e1
 cases e1
 exact ⟨F,τ,x,τ1,E,e2,fun F1 H1 v E1 s1 r1=>⟨F1,τ1,y,_,E1,e3,fun F2 H2 vs E2 s2 r2=>q F2 H2 _ E2 (s1.trans s2) ⟨v,vs,rfl,Rep.mono s2 r1,r2⟩⟩⟩
def dR (g:FA):FE:=fun τ=>(g τ).bind fun p=>if p.1.length ≤ sizeLine then some (.tup p.1,p.2) else none
def cR (g:FA):FE:=fun τ=>(g τ).bind fun p=>if p.1.length ≤ sizeLine then some (.lst p.1,p.2) else none
theorem eU {k} (h:SA X es g):SE X (.Tuple es k pos) (dR g):=fun F₀ H₀=>PE.weak (Ig (h F₀ H₀)) fun σ H Q hq__=>by
 obtain ⟨F,τ,c,τ',E,e1,q⟩:=hq__
 obtain ⟨⟨x,τ1⟩,e2,e1⟩:=bind_some e1
 dsimp only at e1
 split at e1
 ·next hl =>
  cases e1
  refine ⟨F,τ,x,_,E,e2,fun F1 H1 vs E1 s1 r1=>⟨by rw [r1.length]; exact hl,fun p hp=>?_⟩⟩
  have gr:=bx.new (.tup vs) E1.g.fh hp
  exact q _ _ _ (E1.grow gr) (s1.trans gr.sF) ⟨p,vs,rfl,lu.of aU,aV.mono gr.sF r1⟩
 ·cases e1
theorem cV (h:SA X es g):SE X (.List es pos) (cR g):=fun F₀ H₀=>PE.weak (Cu (h F₀ H₀)) fun σ H Q hq__=>by
 obtain ⟨F,τ,c,τ',E,e1,q⟩:=hq__
 obtain ⟨⟨x,τ1⟩,e2,e1⟩:=bind_some e1
 dsimp only at e1
 split at e1
 ·next hl =>
  cases e1
  refine ⟨F,τ,x,_,E,e2,fun F1 H1 vs E1 s1 r1=>⟨by rw [r1.length]; exact hl,fun p hp=>?_⟩⟩
  have gr:=bx.new (.lst vs) E1.g.fh hp
  exact q _ _ _ (E1.grow gr) (s1.trans gr.sF) ⟨p,vs,rfl,aU,aV.mono gr.sF r1⟩
 ·cases e1
def ak (d:List T -> Option T) (g:FA):FE:=fun τ=>(g τ).bind fun p=>(d p.1).bind fun t=>some (t,p.2)
theorem qL {d:List T -> Option T} {F₀ H₀:Hp} {σ:L2.St} {H:Hp} {Q:VK} (h:tE X.K F₀ H₀ (ak d g) σ H Q):tA X.K F₀ H₀ g σ H fun vs H1=>Lw X.K d vs H1 Q:=by
 obtain ⟨F,τ,c,τ',E,e1,q⟩:=h
 obtain ⟨⟨x,τ1⟩,e2,e1⟩:=bind_some e1
 obtain ⟨z,e4,e1⟩:=bind_some e1
 cases e1
 exact ⟨F,τ,x,_,E,e2,fun F1 H1 vs E1 s1 r1=>⟨F1,x,c,E1.g.fh,r1,e4,fun F3 H3 v3 g3 r3=>q F3 H3 v3 (E1.grow g3) (s1.trans g3.sF) r3⟩⟩
theorem bf {d:List T -> Option T} {id:String} {x:Str} {p:Pos} (hc:jq X (.builtin id) d) (hg:Gl X x) (hm:X.mg x=none) (hv:bootBuiltins x=some (.builtin id)) (ha:SA X (e :: es) g) (hn:x ≠ "__name__" := by decide) (hdb:(x == ("__debug__" : Str))=false:=by decide)
  (he:starEach (e :: es) X.env=(false,eval e X.env) :: starEach es X.env:=by rfl) (hpl:(backTo pos (starEach es X.env)).any (·.1)=false:=by rfl):SE X (.Call (.Name x p) (e :: es) [] pos) (ak d g):=
 fun F₀ H₀=>PE.weak (vX hc hg hm hv (ha F₀ H₀) hn hdb he hpl) fun _ _ _=>qL
theorem dP {d:List T -> Option T} {id:String} {x:Str} {p:Pos} (hc:jq X (.type id) d) (hg:Gl X x) (hm:X.mg x=none) (hv:bootBuiltins x=some (.type id)) (ha:SA X (e :: es) g) (hn:x ≠ "__name__" := by decide) (hdb:(x == ("__debug__" : Str))=false:=by decide)
  (he:starEach (e :: es) X.env=(false,eval e X.env) :: starEach es X.env:=by rfl) (hpl:(backTo pos (starEach es X.env)).any (·.1)=false:=by rfl):SE X (.Call (.Name x p) (e :: es) [] pos) (ak d g):=
 fun F₀ H₀=>PE.weak (AX hc hg hm hv (ha F₀ H₀) hn hdb he hpl) fun _ _ _=>qL
end
def spT (K:PySem.W.Frag) (n:Nat) (d:List T -> Option T):Sp:=fun vs H Q _=>vs.length=n /\ Lw K d vs H Q
structure Def (P:Program) (w:World) (K:PySem.W.Frag) (mg:Str -> Option Value) (base:Heap) (k:Nat) (x:Str) (n:Nat) (d:List T -> Option T):Prop where
 ex:∃ f fd ps,fJ P w K mg base pX k f fd ps (spT K n d) /\ Binds K fd ps [] /\ PySem.W.keepIn K (.ref f)=true /\ mg x=some (.ref f) /\ ps.length=n
theorem Def.imp {P:Program} {w:World} {K:PySem.W.Frag} {mg:Str -> Option Value} {base:Heap} {k n:Nat} {x:Str} {d d':List T -> Option T} (D:Def P w K mg base k x n d) (h:∀ ts t,d' ts=some t -> d ts=some t):Def P w K mg base k x n d':=by
 obtain ⟨f,fd,ps,F,r⟩:=D.ex
 exact ⟨f,fd,ps,F.imp fun vs H Q E ⟨l,F,ts,t,a,b,c,q⟩=>⟨l,F,ts,t,a,b,h _ _ c,q⟩,r⟩
theorem Def.mono {P:Program} {w:World} {K:PySem.W.Frag} {mg:Str -> Option Value} {base:Heap} {j k n:Nat} {x:Str} {d:List T -> Option T} (D:Def P w K mg base j x n d) (h:j ≤ k):Def P w K mg base k x n d:=by
 obtain ⟨f,fd,ps,F,r⟩:=D.ex
 exact ⟨f,fd,ps,F.mono h,r⟩
theorem Def.zero {P:Program} {w:World} {K:PySem.W.Frag} {mg:Str -> Option Value} {base:Heap} {x qual:Str} {st:Stmt} {f:Addr} {fd:FuncData} {ps:List Str} (F:eJ K x qual st f fd) (hb:Binds K fd ps []) (hm:mg x=some (.ref f)):Def P w K mg base 0 x ps.length (fun _=>none):=
 ⟨f,fd,ps,⟨fun vs H Q E h=>h.1,fun A outer s H args us vs Q E _ _ _ _ h=>by obtain ⟨_,F,ts,t,_,_,e,_⟩:=h; cases e⟩,hb,F.kp,hm,rfl⟩
section
variable {X:Cx} {e:Expr} {es:List Expr} {pos:Pos} {g:FA}
theorem aw {k n:Nat} {x:Str} {p:Pos} {d:List T -> Option T} (D:Def X.prog X.w X.K X.mg X.base k x n d) (hr:dz k X.A) (hg:Gl X x) (ha:SA X (e :: es) g) (hl:∀ τ ts τ',g τ=some (ts,τ') -> ts.length=n) (hdb:(x == ("__debug__" : Str))=false:=by decide)
  (he:starEach (e :: es) X.env=(false,eval e X.env) :: starEach es X.env:=by rfl) (hpl:(backTo pos (starEach es X.env)).any (·.1)=false:=by rfl):SE X (.Call (.Name x p) (e :: es) [] pos) (ak d g):=by
 obtain ⟨f,fd,ps,F,hb,hk,hm,hn⟩:=D.ex
 intro F₀ H₀
 refine PE.weak (Ew (E:=E0) (CX:=pX) F hr hg hm hk hb .nil Cr (ha F₀ H₀) hdb he hpl) fun σ H Q h=>?_
 obtain ⟨F,τ,c,τ',E,e1,q⟩:=h
 obtain ⟨⟨z,τ1⟩,e2,e1⟩:=bind_some e1
 have hz:=hl _ _ _ e2
 obtain ⟨u,e4,e1⟩:=bind_some e1
 cases e1
 refine ⟨F,τ,z,_,E,e2,fun F1 H1 vs E1 s1 r1=>⟨by rw [List.append_nil,r1.length]; exact hz,F1,z,c,E1.g.fh,by rw [List.append_nil]; exact r1,e4,fun F3 H3 v3 g3 r3=>q F3 H3 v3 (E1.grow g3) (s1.trans g3.sF) r3⟩⟩
theorem au:∀ τ ts τ',ai τ=some (ts,τ') -> ts.length=0:=fun _ _ _ h=>by cases h; rfl
theorem ah {f:FE} {g:FA} {n:Nat} (h:∀ τ ts τ',g τ=some (ts,τ') -> ts.length=n):∀ τ ts τ',aa f g τ=some (ts,τ') -> ts.length=n + 1:=fun τ ts τ' e=>by
 obtain ⟨⟨x,τ1⟩,e2,e1⟩:=bind_some e
 obtain ⟨⟨y,τ2⟩,e3,e1⟩:=bind_some e1
 cases e1
 simp [h _ _ _ e3]
end
open PySem PySem.Spec PyProof.Rows L2
section
variable {X:Cx} {e a b:Expr} {pos:Pos} {f fa fb:FE} {ga:FA} {es:List Expr}
def cN:FS:=fun _=>none
def bp:FS:=fun τ=>some (.nx τ)
def bz (f:FE):FS:=fun τ=>(f τ).bind fun p=>some (.rt p.1)
def JT (f:FE):FS:=fun τ=>(f τ).bind fun p=>some (.nx p.2)
def bG (c:FT) (t u:FS):FS:=fun τ=>(c τ).bind fun p=>if p.1=true then t p.2 else u p.2
def aO (t u:FS):FS:=fun τ=>(t τ).bind fun r=>match r with | .nx τ'=>u τ' | r=>some r
theorem rA.mono {K:PySem.W.Frag} {F₀ H₀ F F':Hp} {D:Ends} {r:R} (s:aQ F F') (h:rA K F₀ H₀ F D r):rA K F₀ H₀ F' D r:=by
 cases r with
 | nx τ=>exact fun F1 H1 σ1 E1 s1=>h F1 H1 σ1 E1 (s.trans s1)
 | rt t=>exact h
 | bk τ=>exact fun F1 H1 σ1 E1 s1=>h F1 H1 σ1 E1 (s.trans s1)
 | ct τ=>exact fun F1 H1 σ1 E1 s1=>h F1 H1 σ1 E1 (s.trans s1)
theorem gc {st:Stmt}:SS X st cN:=fun F₀ H₀=>PS.weak CC fun D σ H ⟨F,τ,r,E,e1,q⟩=>by cases e1
theorem aZ (h:SE X e f):SS X (.Return (some e) pos) (bz f):=fun F₀ H₀=>PS.weak (CD (h F₀ H₀)) fun D σ H hq__=>by
 obtain ⟨F,τ,r,E,e1,q⟩:=hq__
 obtain ⟨⟨x,τ1⟩,e2,e1⟩:=bind_some e1
 cases e1
 exact ⟨F,τ,x,τ1,E,e2,fun F' H' v E' s' r'=>q F' H' v E'.g r'⟩
theorem cZ {c:Expr} {ss us:List Stmt} {tc:FT} {t u:FS} (hc:ST X c tc) (ha:wF X ss t) (hb:wF X us u):SS X (.If c ss us pos) (bG tc t u):=fun F₀ H₀=>PS.weak (Ky (hc F₀ H₀) (ha F₀ H₀) (hb F₀ H₀)) fun D σ H hq__=>by
 obtain ⟨F,τ,r,E,e1,q⟩:=hq__
 obtain ⟨⟨x,τ1⟩,e2,e1⟩:=bind_some e1
 refine ⟨F,τ,x,τ1,E,e2,fun F' H' E' s'=>?_⟩
 dsimp only at e1
 split at e1
 ·next h=>rw [if_pos h]; exact ⟨F',τ1,r,E',e1,q.mono s'⟩
 ·next h=>rw [if_neg h]; exact ⟨F',τ1,r,E',e1,q.mono s'⟩
theorem bW:wF X [] bp:=fun F₀ H₀=>lF.weak ud fun D σ H hq__=>by
 obtain ⟨F,τ,r,E,e1,q⟩:=hq__
 cases e1
 exact q F H σ E (aQ.refl _)
theorem av {st:Stmt} {rest:List Stmt} {t u:FS} (h1:SS X st t) (h2:wF X rest u):wF X (st :: rest) (aO t u):=fun F₀ H₀=>lF.weak (lT (h1 F₀ H₀) (h2 F₀ H₀)) fun D σ H hq__=>by
 obtain ⟨F,τ,r,E,e1,q⟩:=hq__
 obtain ⟨x,e2,e1⟩:=bind_some e1
 refine ⟨F,τ,x,E,e2,?_⟩
 cases x with
 | nx τ1=>exact fun F1 H1 σ1 E1 s1=>⟨F1,τ1,r,E1,e1,q.mono s1⟩
 | rt t=>cases e1; exact q
 | bk t=>cases e1; exact q
 | ct t=>cases e1; exact q
theorem aE {st:Stmt} {t:FS} (h1:SS X st t):wF X [st] t:=fun F₀ H₀=>zL (h1 F₀ H₀)
theorem Bb {st:List Stmt}:wF X st cN:=fun F₀ H₀=>lF.weak A0 fun D σ H ⟨F,τ,r,E,e1,q⟩=>by cases e1
def bK (i:Nat) (f:FE):FS:=fun τ=>(f τ).bind fun p=>some (.nx (p.2.set i (some (.sh p.1))))
def cH (i:Nat) (g:FA):FS:=fun τ=>(g τ).bind fun p=>if p.1.length ≤ sizeLine then some (.nx (p.2.set i (some (.own p.1)))) else none
theorem bu (i:Nat) {x:Str} {pos':Pos} (hN:X.N.Nodup) (hi:X.N[i]? = some x) (hx:Loc X.env.scope x) (he:SE X e f) (hs:swapsWith e (some (.Name x pos')) pos.line X.env=pure false:=by rfl)
  (hf:X.fn x=true \/ X.env.scope.names.lookup x=some .local:=by first | exact .inl rfl | exact .inr rfl | assumption):SS X (.Assign [.Name x pos'] e pos) (bK i f):=fun F₀ H₀=>PS.weak (CF hN hi hx (he F₀ H₀) hs hf) fun D σ H hq__=>by
 obtain ⟨F,τ,r,E,e1,q⟩:=hq__
 obtain ⟨⟨y,τ1⟩,e2,e1⟩:=bind_some e1
 cases e1
 exact ⟨F,τ,y,τ1,E,e2,fun F' H' v E' s' r'=>q F' H' _ (E'.set r') s'⟩
theorem gG (i:Nat) {x:Str} {pos':Pos} {p2:Pos} (hN:X.N.Nodup) (hi:X.N[i]? = some x) (hx:Loc X.env.scope x) (he:SA X es ga) (hs:swapsWith (.List es p2) (some (.Name x pos')) pos.line X.env=pure false:=by rfl)
  (hf:X.fn x=true \/ X.env.scope.names.lookup x=some .local:=by first | exact .inl rfl | exact .inr rfl | assumption):SS X (.Assign [.Name x pos'] (.List es p2) pos) (cH i ga):=fun F₀ H₀=>PS.weak (CF hN hi hx (Cu (he F₀ H₀)) hs hf) fun D σ H hq__=>by
 obtain ⟨F,τ,r,E,e1,q⟩:=hq__
 obtain ⟨⟨y,τ1⟩,e2,e1⟩:=bind_some e1
 dsimp only at e1
 split at e1
 ·next hl =>
  cases e1
  exact ⟨F,τ,y,τ1,E,e2,fun F' H' vs E' s' r'=>⟨by rw [r'.length]; exact hl,fun p hp=>q F' _ _ (E'.setOwn hp r') s'⟩⟩
 ·cases e1
def tG (K:PySem.W.Frag) (F₀ H₀:Hp) (fg:FG):TG:=fun v σ H Q=>∃ F τ t τ',aI K F₀ H₀ F H σ τ /\ Rep K F t v /\ fg t τ=some τ' /\ ∀ F' H' σ',aI K F₀ H₀ F' H' σ' τ' -> aQ F F' -> Q σ' H'
def Nh (K:PySem.W.Frag) (F₀ H₀:Hp) (fg:List T -> aJ -> Option aJ):Dk:=fun vs σ H Q=>∃ F τ ts τ',aI K F₀ H₀ F H σ τ /\ aV K F ts vs /\ fg ts τ=some τ' /\ ∀ F' H' σ',aI K F₀ H₀ F' H' σ' τ' -> aQ F F' -> Q σ' H'
def SG (X:Cx) (tg:Expr) (fg:FG):Prop:=∀ F₀ H₀,PG X tg (tG X.K F₀ H₀ fg)
def Jb (X:Cx) (tg:List Expr) (fg:List T -> aJ -> Option aJ):Prop:=∀ F₀ H₀,Ja X tg (Nh X.K F₀ H₀ fg)
def aq (i:Nat):FG:=fun t τ=>some (τ.set i (some (.sh t)))
def bO:List T -> aJ -> Option aJ
 | [],τ=>some τ
 | _ :: _,_=>none
def aB (g:FG) (gs:List T -> aJ -> Option aJ):List T -> aJ -> Option aJ
 | [],_=>none
 | t :: ts,τ=>(g t τ).bind fun τ1=>gs ts τ1
def cm (gs:List T -> aJ -> Option aJ):FG:=fun t τ=>match t with
 | .tup ts=>gs ts τ
 | _=>none
theorem az (i:Nat) {x:Str} (hN:X.N.Nodup) (hi:X.N[i]? = some x) (hx:Loc X.env.scope x) (hf:X.fn x=true \/ X.env.scope.names.lookup x=some .local:=by first | exact .inl rfl | exact .inr rfl | assumption):SG X (.Name x pos) (aq i):=
 fun F₀ H₀ pins s σ H v u Q I r h=>Ez hN hi hx hf pins s σ H v u Q I r (by
  obtain ⟨F,τ,t,τ',E,rt,e1,q⟩:=h
  cases e1
  exact q F H _ (E.set rt) (aQ.refl _))
theorem bU:Jb X [] bO:=fun F₀ H₀ pins s σ H vs us Q I r h=>EA pins s σ H vs us Q I r (by
 obtain ⟨F,τ,ts,τ',E,rt,e1,q⟩:=h
 cases ts with
 | nil=>cases e1; cases rt; exact ⟨rfl,q F H σ E (aQ.refl _)⟩
 | cons t ts=>cases e1)
theorem aD {g:FG} {gs:List T -> aJ -> Option aJ} (h1:SG X e g) (h2:Jb X es gs) (hs:(assignEach (e :: es) X.env).map (·.2)=assign e X.env :: (assignEach es X.env).map (·.2):=by rfl):Jb X (e :: es) (aB g gs):=
 fun F₀ H₀ pins s σ H vs us Q I r h=>Cy (h1 F₀ H₀) (h2 F₀ H₀) hs pins s σ H vs us Q I r (by
  obtain ⟨F,τ,ts,τ',E,rt,e1,q⟩:=h
  cases ts with
  | nil=>cases e1
  | cons t ts =>
   obtain ⟨v,rr,rfl,r1,r2⟩:=rt
   obtain ⟨τ1,e2,e1⟩:=bind_some e1
   exact ⟨v,rr,rfl,F,τ,t,τ1,E,r1,e2,fun F' H' σ' E' s'=>⟨F',τ1,ts,τ',E',aV.mono s' r2,e1,fun F2 H2 σ2 E2 s2=>q F2 H2 σ2 E2 (s'.trans s2)⟩⟩)
theorem cq:∀ ts τ τ',bO ts τ=some τ' -> ts.length=0:=fun ts τ τ' h=>by cases ts <;> first | rfl | cases h
theorem aG {g:FG} {gs:List T -> aJ -> Option aJ} {n:Nat} (h:∀ ts τ τ',gs ts τ=some τ' -> ts.length=n):∀ ts τ τ',aB g gs ts τ=some τ' -> ts.length=n + 1:=fun ts τ τ' e=>by
 cases ts with
 | nil=>cases e
 | cons t ts =>
  obtain ⟨τ1,e2,e1⟩:=bind_some e
  simp [h _ _ _ e1]
theorem cW {gs:List T -> aJ -> Option aJ} {k:Nat} {n:Nat} (hc:X.calm=true) (h:Jb X es gs) (hl:∀ ts τ τ',gs ts τ=some τ' -> ts.length=n)
  (hn:(assignEach es X.env).length=n:=by rfl) (hst:(assignEach es X.env).findIdx? (·.1)=none:=by rfl):SG X (.Tuple es k pos) (cm gs):=
 fun F₀ H₀ pins s σ H v u Q I r h'=>Ik hc (h F₀ H₀) hn hst pins s σ H v u Q I r (by
  obtain ⟨F,τ,t,τ',E,rt,e1,q⟩:=h'
  unfold cm at e1
  split at e1
  ·next ts =>
   obtain ⟨p,xs,rfl,h1,h2⟩:=rt
   exact ⟨p,xs,rfl,cw E.g.fh h1,by rw [h2.length]; exact hl _ _ _ e1,F,τ,ts,τ',E,h2,e1,q⟩
  ·cases e1)
def dY (f:FE) (g:FG):FS:=fun τ=>(f τ).bind fun p=>(g p.1 p.2).bind fun τ'=>some (.nx τ')
theorem dF {tg:Expr} {g:FG} (he:SE X e f) (hg:SG X tg g) (hs:swapsWithSole [tg] e pos.line X.env=pure false:=by rfl) (hw:swappedStores [tg] e X.env=pure none:=by rfl)
  (h1:(assignEach [tg] X.env).map (·.2)=[assign tg X.env]:=by rfl):SS X (.Assign [tg] e pos) (dY f g):=fun F₀ H₀=>PS.weak (CA (he F₀ H₀) (hg F₀ H₀) hs hw h1) fun D σ H hq__=>by
 obtain ⟨F,τ,r,E,e1,q⟩:=hq__
 obtain ⟨⟨y,τ1⟩,e2,e1⟩:=bind_some e1
 obtain ⟨τ2,e3,e1⟩:=bind_some e1
 cases e1
 exact ⟨F,τ,y,τ1,E,e2,fun F' H' v E' s' r'=>⟨F',τ1,y,τ2,E',r',e3,fun F2 H2 σ2 E2 s2=>q F2 H2 σ2 E2 (s'.trans s2)⟩⟩
def jF (i j:Nat) (g:FA):FS:=fun τ=>(g τ).bind fun p=>match p.1 with
 | [v,w]=>some (.nx ((p.2.set i (some (.sh v))).set j (some (.sh w))))
 | _=>none
theorem kc {i j:Nat} {x y:Str} {px py pt:Pos} {kt k2 pt2} (hc:X.calm=true) (hN:X.N.Nodup) (hi:X.N[i]? = some x) (hj:X.N[j]? = some y) (hij:i ≠ j)
  (hx:X.env.scope.names.lookup x=some .local) (hy:X.env.scope.names.lookup y=some .local) (ha:SA X [a,b] ga)
  (hw:swappedStores [.Tuple [.Name x px,.Name y py] kt pt] (.Tuple [a,b] k2 pt2) X.env=pure (some [x,y]))
  (hs:swapsWithSole [.Tuple [.Name x px,.Name y py] kt pt] (.Tuple [a,b] k2 pt2) pos.line X.env=pure false:=by rfl) :
  SS X (.Assign [.Tuple [.Name x px,.Name y py] kt pt] (.Tuple [a,b] k2 pt2) pos) (jF i j ga):=fun F₀ H₀=>PS.weak (Iq hc hN hi hj hij hx hy (ha F₀ H₀) hw hs) fun D σ H hq__=>by
 obtain ⟨F,τ,r,E,e1,q⟩:=hq__
 obtain ⟨⟨ts,τ1⟩,e2,e1⟩:=bind_some e1
 dsimp only at e1
 split at e1
 ·next v w =>
  cases e1
  refine ⟨F,τ,_,τ1,E,e2,fun F' H' vs E' s' r'=>?_⟩
  obtain ⟨v1,r1,rfl,q1,v2,r2,rfl,q2,rfl⟩:=r'
  exact ⟨v1,v2,rfl,q F' H' _ ((E'.set q1).set q2) s'⟩
 ·cases e1
structure Walks (K:PySem.W.Frag) (F:Hp) (ts:List T) (J:It):Prop where
 go:∀ (i:Nat) t F1 H1,ts[i]? = some t -> aQ F F1 -> aQ F1 H1 -> J.go i H1
 yld:∀ (i:Nat) t F1 H1 x H2,ts[i]? = some t -> aQ F F1 -> aQ F1 H1 -> J.yld i H1 x H2 -> ∃ F2,bx F1 H1 F2 H2 /\ Rep K F2 t x
 stop:∀ F1 H1,aQ F F1 -> aQ F1 H1 -> J.stop ts.length H1
def tI (K:PySem.W.Frag) (F₀ H₀:Hp) (fi:FA):TI:=fun σ H R=>∃ F τ ts τ',aI K F₀ H₀ F H σ τ /\ fi τ=some (ts,τ') /\ ∀ F' H' J,aI K F₀ H₀ F' H' σ τ' -> aQ F F' -> Walks K F' ts J -> R J H'
def SI (X:Cx) (tg iter:Expr) (fi:FA):Prop:=∀ F₀ H₀,PI X tg iter (tI X.K F₀ H₀ fi)
def ee (fg:FG) (fb:FS):List T -> FS
 | [],τ=>some (.nx τ)
 | t :: ts,τ=>(fg t τ).bind fun τ1=>(fb τ1).bind fun r=>match r with
  | .nx τ2=>ee fg fb ts τ2
  | .ct τ2=>ee fg fb ts τ2
  | .bk τ2=>some (.nx τ2)
  | .rt v=>some (.rt v)
def iU (fi:FA) (fg:FG) (fb:FS):FS:=fun τ=>(fi τ).bind fun p=>ee fg fb p.1 p.2
theorem ll {tg iter:Expr} {body:List Stmt} {fi:FA} {fg:FG} {fb:FS} (hp:PassesOwn (model X.prog X.w) X.A X.env X.xe) (hc:X.calm=true) (hi:SI X tg iter fi) (hg:SG X tg fg) (hb:wF X body fb)
  (hs:∀ x,foldedSetIterable iter X.env x=pure x:=by intro _; rfl):SS X (.For tg iter body [] pos) (iU fi fg fb):=fun F₀ H₀=>PS.weak (Ip hp hc (hi F₀ H₀) (hg F₀ H₀) (hb F₀ H₀) hs) fun D σ H hq__=>by
 obtain ⟨F,τ,r,E,e1,q⟩:=hq__
 obtain ⟨⟨ts,τ1⟩,e2,e1⟩:=bind_some e1
 refine ⟨F,τ,ts,τ1,E,e2,fun F' H' J E' s' W=>?_⟩
 refine ⟨fun i m σ H=>m=ts.length - i /\ i ≤ ts.length /\ ∃ F1 τ1,aI X.K F₀ H₀ F1 H σ τ1 /\ aQ F' F1 /\ ee fg fb (ts.drop i) τ1=some r,⟨_,rfl,Nat.zero_le _,F',τ1,E',aQ.refl _,e1⟩,?_⟩
 rintro i m σ1 H1 ⟨rfl,hi,F1,τ2,E1,s1,e3⟩
 by_cases hlt:i < ts.length
 ·have hd:ts.drop i=ts[i] :: ts.drop (i + 1):=List.drop_eq_getElem_cons hlt
  have hg:ts[i]? = some ts[i]:=List.getElem?_eq_getElem hlt
  rw [hd] at e3
  obtain ⟨τ3,e4,e3⟩:=bind_some e3
  obtain ⟨r',e5,e3⟩:=bind_some e3
  refine .inr ⟨W.go i _ F1 H1 hg s1 E1.g.fh,fun σ H=>∃ F1 τ1,aI X.K F₀ H₀ F1 H σ τ1 /\ aQ F' F1 /\ ee fg fb (ts.drop (i + 1)) τ1=some r,fun σ' H' n=>⟨_,by omega,rfl,hlt,n⟩,fun x H2 y=>?_⟩
  obtain ⟨F2,gr,rx⟩:=W.yld i _ F1 H1 x H2 hg s1 E1.g.fh y
  refine ⟨F2,τ2,ts[i],τ3,E1.grow gr,rx,e4,fun F3 H3 σ3 E3 s3=>⟨F3,τ3,r',E3,e5,?_⟩⟩
  have s03:aQ F' F3:=s1.trans (gr.sF.trans s3)
  cases r' with
  | nx τ4=>exact fun F4 H4 σ4 E4 s4=>⟨F4,τ4,E4,s03.trans s4,e3⟩
  | ct τ4=>exact fun F4 H4 σ4 E4 s4=>⟨F4,τ4,E4,s03.trans s4,e3⟩
  | bk τ4=>cases e3; exact fun F4 H4 σ4 E4 s4=>q F4 H4 σ4 E4 (s'.trans (s03.trans s4))
  | rt v=>cases e3; exact q
 ·have he:i=ts.length:=by omega
  subst he
  rw [List.drop_length] at e3
  cases e3
  exact .inl ⟨W.stop F1 H1 s1 E1.g.fh,q F1 H1 σ1 E1 (s'.trans s1)⟩
def xh (f:FE):FA:=fun τ=>(f τ).bind fun p=>match p.1 with | .lst ts=>some (ts,p.2) | .scr ts=>some (ts,p.2) | _=>none
def BI (f:FE):FA:=fun τ=>(f τ).bind fun p=>match p.1 with | .tup ts=>some (ts,p.2) | _=>none
theorem pT {K:PySem.W.Frag} {F:Hp} {p:Addr} {xs:List V} {ts:List T} (h1:iA K F p xs) (h2:aV K F ts xs):Walks K F ts (LG K p):=by
 refine ⟨fun i t F1 H1 e s1 s2=>?_,fun i t F1 H1 x H2 e s1 s2 y=>?_,fun F1 H1 s1 s2=>⟨xs,(s1.trans s2).seq h1,by rw [h2.length]; exact Nat.le_refl _⟩⟩
 ·obtain ⟨v,g1,_⟩:=h2.get e
  exact ⟨xs,v,(s1.trans s2).seq h1,g1⟩
 ·obtain ⟨rfl,y⟩:=y
  obtain ⟨v,g1,g2⟩:=h2.get e
  have:=y xs ((s1.trans s2).seq h1)
  rw [g1] at this; cases this
  exact ⟨F1,bx.refl s2,Rep.mono s1 g2⟩
theorem Bf {K:PySem.W.Frag} {F:Hp} {p:Addr} {xs:List V} {ts:List T} (h1:lu K F p xs) (h2:aV K F ts xs):Walks K F ts (LH K p):=by
 refine ⟨fun i t F1 H1 e s1 s2=>?_,fun i t F1 H1 x H2 e s1 s2 y=>?_,fun F1 H1 s1 s2=>⟨xs,cw (s1.trans s2) h1,by rw [h2.length]; exact Nat.le_refl _⟩⟩
 ·obtain ⟨v,g1,_⟩:=h2.get e
  exact ⟨xs,v,cw (s1.trans s2) h1,g1⟩
 ·obtain ⟨rfl,y⟩:=y
  obtain ⟨v,g1,g2⟩:=h2.get e
  have:=y xs (cw (s1.trans s2) h1)
  rw [g1] at this; cases this
  exact ⟨F1,bx.refl s2,Rep.mono s1 g2⟩
theorem PI.weak {tg it:Expr} {t t':TI} (h:PI X tg it t) (i:∀ σ H R,t' σ H R -> t σ H R):PI X tg it t':=fun pins s σ H R I q=>h pins s σ H R I (i σ H R q)
theorem zR {tg l:Expr} (h:SE X l f):SI X tg l (xh f):=fun F₀ H₀=>PI.weak (EB (h F₀ H₀)) fun σ H R hq__=>by
 obtain ⟨F,τ,ts,τ',E,e1,q⟩:=hq__
 obtain ⟨⟨x,τ1⟩,e2,e1⟩:=bind_some e1
 dsimp only at e1
 split at e1
 ·cases e1
  refine ⟨F,τ,_,τ',E,e2,fun F' H' v E' s' r'=>?_⟩
  obtain ⟨p,xs,rfl,h1,h2⟩:=r'
  exact ⟨p,rfl,⟨xs,iA.of (E'.g.fh _ _ h1)⟩,q F' H' _ E' s' (pT (iA.of h1) h2)⟩
 ·cases e1
  refine ⟨F,τ,_,τ',E,e2,fun F' H' v E' s' r'=>?_⟩
  obtain ⟨p,xs,rfl,h1,h2⟩:=r'
  exact ⟨p,rfl,⟨xs,E'.g.fh.seq h1⟩,q F' H' _ E' s' (pT h1 h2)⟩
 ·cases e1
theorem ID {tg l:Expr} (h:SE X l f):SI X tg l (BI f):=fun F₀ H₀=>PI.weak (Il (h F₀ H₀)) fun σ H R hq__=>by
 obtain ⟨F,τ,ts,τ',E,e1,q⟩:=hq__
 obtain ⟨⟨x,τ1⟩,e2,e1⟩:=bind_some e1
 dsimp only at e1
 split at e1
 ·cases e1
  refine ⟨F,τ,_,τ',E,e2,fun F' H' v E' s' r'=>?_⟩
  obtain ⟨p,xs,rfl,h1,h2⟩:=r'
  exact ⟨p,rfl,⟨xs,cw E'.g.fh h1⟩,q F' H' _ E' s' (Bf h1 h2)⟩
 ·cases e1
def upTo (lo:Int):Nat -> List T
 | 0=>[]
 | n + 1=>.int lo :: upTo (lo + 1) n
theorem ie:∀ (n:Nat) (lo:Int),(upTo lo n).length=n
 | 0,_=>rfl
 | n + 1,lo=>by simp [upTo,ie n]
theorem pR:∀ (n:Nat) (lo:Int) (i:Nat),i < n -> (upTo lo n)[i]? = some (.int (lo + i))
 | 0,_,_,h=>by omega
 | n + 1,lo,0,_=>by simp [upTo]
 | n + 1,lo,i + 1,h=>by
  simp only [upTo,List.getElem?_cons_succ]
  rw [pR n (lo + 1) i (by omega)]
  congr 2
  push_cast
  omega
def cS (g:FA):FA:=fun τ=>(g τ).bind fun p=>match p.1 with
 | [.int j]=>if -(2 ^ 62) ≤ j /\ j < 2 ^ 62 then some (upTo 0 j.toNat,p.2) else none
 | _=>none
theorem Be {K:PySem.W.Frag} {F:Hp} (lo:Int) (n:Nat):Walks K F (upTo lo n) (La lo n):=by
 have hl:∀ {i:Nat} {t:T},(upTo lo n)[i]? = some t -> i < n:=fun {i t} e=>by
  have:=(List.getElem?_eq_some_iff.mp e).1
  rwa [ie] at this
 refine ⟨fun i t F1 H1 e s1 s2=>hl e,fun i t F1 H1 x H2 e s1 s2 y=>?_,fun F1 H1 s1 s2=>by show n ≤ _; rw [ie]; exact Nat.le_refl _⟩
 obtain ⟨rfl,rfl⟩:=y
 rw [pR n lo i (hl e)] at e
 cases e
 exact ⟨F1,bx.refl s2,rfl⟩
theorem ic {tg:Expr} {p:Pos} (hg:Gl X "range") (hm:X.mg "range" = none) (ha:SA X [a] ga) (hs:starEach [a] X.env=[(false,eval a X.env)]:=by rfl):SI X tg (.Call (.Name "range" p) [a] [] pos) (cS ga):=
 fun F₀ H₀=>PI.weak (AY hg hm (ha F₀ H₀) hs) fun σ H R hq__=>by
  obtain ⟨F,τ,ts,τ',E,e1,q⟩:=hq__
  obtain ⟨⟨x,τ1⟩,e2,e1⟩:=bind_some e1
  dsimp only at e1
  split at e1
  ·split at e1
   ·next hb =>
    cases e1
    refine ⟨F,τ,_,τ',E,e2,fun F' H' vs E' s' r'=>?_⟩
    obtain ⟨v,r,rfl,q1,rfl⟩:=r'
    cases q1
    exact ⟨_,rfl,hb.1,hb.2,q F' H' _ E' s' (Be 0 _)⟩
   ·cases e1
  ·cases e1
def eV (ft:FT) (fb:FS):Nat -> FS
 | 0,_=>none
 | n + 1,τ=>(ft τ).bind fun p=>if p.1=true then (fb p.2).bind fun r=>match r with
  | .nx τ2=>eV ft fb n τ2
  | .ct τ2=>eV ft fb n τ2
  | .bk τ2=>some (.nx τ2)
  | .rt v=>some (.rt v) else some (.nx p.2)
theorem pM (n:Nat) {c:Expr} {body:List Stmt} {ft:FT} {fb:FS} (hp:PassesOwn (model X.prog X.w) X.A X.env X.xe) (hc:ST X c ft) (hb:wF X body fb):SS X (.While c body [] pos) (eV ft fb n):=fun F₀ H₀=>PS.weak (CG hp (hc F₀ H₀) (hb F₀ H₀)) fun D σ H hq__=>by
 obtain ⟨F,τ,r,E,e1,q⟩:=hq__
 refine ⟨fun m σ H=>∃ F1 τ1,aI X.K F₀ H₀ F1 H σ τ1 /\ aQ F F1 /\ eV ft fb m τ1=some r,⟨n,F,τ,E,aQ.refl _,e1⟩,?_⟩
 rintro m σ1 H1 ⟨F1,τ1,E1,s1,e2⟩
 cases m with
 | zero=>cases e2
 | succ m =>
  obtain ⟨⟨x,τ2⟩,e3,e2⟩:=bind_some e2
  refine ⟨F1,τ1,x,τ2,E1,e3,fun F2 H2 E2 s2=>?_⟩
  dsimp only at e2
  split at e2
  ·next h =>
   rw [if_pos h]
   obtain ⟨r',e4,e2⟩:=bind_some e2
   refine ⟨fun σ H=>∃ F1 τ1,aI X.K F₀ H₀ F1 H σ τ1 /\ aQ F F1 /\ eV ft fb m τ1=some r,fun σ' H' n=>⟨m,Nat.lt_succ_self m,n⟩,F2,τ2,r',E2,e4,?_⟩
   cases r' with
   | nx τ4=>exact fun F4 H4 σ4 E4 s4=>⟨F4,τ4,E4,(s1.trans s2).trans s4,e2⟩
   | ct τ4=>exact fun F4 H4 σ4 E4 s4=>⟨F4,τ4,E4,(s1.trans s2).trans s4,e2⟩
   | bk τ4=>cases e2; exact fun F4 H4 σ4 E4 s4=>q F4 H4 σ4 E4 ((s1.trans s2).trans s4)
   | rt v=>cases e2; exact q
  ·next h =>
   rw [if_neg h]
   cases e2
   exact q F2 H2 σ1 E2 (s1.trans s2)
def lL (i:Nat) (f:FE):FS:=fun τ=>match τ[i]? with
 | some (some (.own _))=>(f τ).bind fun p=>match p.2[i]? with
  | some (some (.own ts))=>if ts.length < sizeLine then some (.nx (p.2.set i (some (.own (ts ++ [p.1]))))) else none
  | _=>none
 | _=>none
end
def cz (m n:Nat) (fb:FS):List T -> Option T:=fun ts=>if ts.length=n then (fb (ts.map (fun t=>some (Sl.sh t)) ++ List.replicate (m - n) none)).bind fun r=>match r with
 | .rt t=>some t
 | .nx _=>some .non
 | _=>none else none
theorem gF {K:PySem.W.Frag} {F H:Hp} {N:List Str} {vs:List V} {ts:List T} (s:aQ F H) (r:aV K F ts vs):aI K F H F H (start N vs) (ts.map (fun t=>some (Sl.sh t)) ++ List.replicate (N.length - ts.length) none):=by
 have hl:=r.length
 have key:∀ (i:Nat) (sl:Sl),(ts.map (fun t=>some (Sl.sh t)) ++ List.replicate (N.length - ts.length) none)[i]? = some (some sl) -> ∃ t,ts[i]? = some t /\ sl=.sh t:=fun i sl e=>by
  by_cases h:i < ts.length
  ·rw [List.getElem?_append_left (by simpa using h),List.getElem?_map,List.getElem?_eq_getElem h] at e
   simp at e
   exact ⟨ts[i],List.getElem?_eq_getElem h,e.symm⟩
  ·rw [List.getElem?_append_right (by simp; omega),List.getElem?_replicate] at e
   split at e <;> cases e
 refine ⟨bx.refl s,by simp [L2.start,hl],fun i sl e=>?_,fun i j us ws p _ e1 _ _=>?_⟩
 ·obtain ⟨t,e1,rfl⟩:=key i sl e
  obtain ⟨v,g1,g2⟩:=r.get e1
  refine ⟨v,?_,g2⟩
  have hi:i < vs.length:=(List.getElem?_eq_some_iff.mp g1).1
  unfold L2.start
  rw [List.getElem?_append_left (by simpa using hi),List.getElem?_map,g1]
  rfl
 ·obtain ⟨t,_,e⟩:=key i _ e1
  cases e
section
variable {P:Program} {w:World} {K:PySem.W.Frag} {mg:Str -> Option Value} {base:Heap}
theorem bH {x qual:Str} {st:Stmt} {f:Addr} {fd:FuncData} {N ps:List Str} {k:Nat} {fb:FS} (F:eJ K x qual st f fd) (S:aP N ps (aA st)) (hb:Binds K fd ps []) (hm:mg x=some (.ref f))
  (h:∀ (cdv:Value) (A:Around) (outer:List Env) (s:Shared) (H:Hp) (E:XK),dz k (A.deeper (envOfC qual (aA st) s.heap.objs.size f cdv)) -> wF (lI pX P w K mg base N qual (aA st) f cdv A outer s H E).nox (dk st) fb) :
  Def P w K mg base (k + 1) x ps.length (cz N.length ps.length fb):=by
 refine ⟨f,fd,ps,F.ok S (fun vs H Q E z=>z.1) (fun cdv A outer s H vs Q E hr z=>?_),hb,F.kp,hm,rfl⟩
 obtain ⟨hl,F1,ts,t,sm,r,e,q⟩:=z
 unfold cz at e
 split at e
 ·next hn =>
  obtain ⟨r',e1,e⟩:=bind_some e
  refine ⟨_,h cdv A outer s H E hr F1 H,F1,_,r',?_,e1,?_⟩
  ·have:=gF (N:=N) sm r
   rw [hn] at this
   exact this
  ·cases r' with
   | rt u=>cases e; exact fun F' H' v g r'=>q F' H' v g r'
   | nx τ=>cases e; exact fun F' H' σ' E' s'=>q F' H' .non E'.g rfl
   | bk τ=>cases e
   | ct τ=>cases e
 ·cases e
end
open PySem PySem.Spec PyProof.Rows L2
def B:Nat:=2 ^ 4000
theorem Fl {n:Nat} (h:n < B):n.log2 < 4000:=by
 rcases Nat.eq_zero_or_pos n with h0 | hp
 ·rw [h0]; decide
 ·exact (Nat.log2_lt (Nat.ne_of_gt hp)).mpr h
theorem wN {i:Int} (h:i.natAbs < B):Builtin.Int.intBits i ≤ 4000:=by
 unfold Builtin.Int.intBits
 split
 ·omega
 ·have:=Fl h
  omega
theorem Ki {i j:Int} (hi:i.natAbs < B) (hj:j.natAbs < B):IntMulOk i j:=by
 have h1:=wN hi
 have h2:=wN hj
 unfold IntMulOk
 have h3:Builtin.Int.intTooBig (Builtin.Int.intBits i + Builtin.Int.intBits j)=false:=by
  unfold Builtin.Int.intTooBig
  have hb:((bitsLine:Nat):Int)=134217728:=by decide
  rw [decide_eq_false]
  show ¬ ((Builtin.Int.intBits i:Int) + (Builtin.Int.intBits j:Int) > ((bitsLine:Nat):Int))
  rw [hb]
  omega
 rw [h3]
 simp
section
variable {X:Cx}
def gI (C:Int -> Int -> Prop) [∀ i j,Decidable (C i j)] (g:Int -> Int -> T):T -> T -> Option T:=fun a b=>match a,b with
 | .int i,.int j=>if C i j then some (g i j) else none
 | _,_=>none
theorem He {C:Int -> Int -> Prop} [∀ i j,Decidable (C i j)] {g:Int -> Int -> T} {i j:Int}:gI C g (.int i) (.int j)=if C i j then some (g i j) else none:=rfl
theorem zI {f:Value -> Value -> Sem Value} {C:Int -> Int -> Prop} [∀ i j,Decidable (C i j)] {g:Int -> Int -> T} {gv:Int -> Int -> V} (h:m6 X f (rI C gv)) (hg:∀ K F i j,Rep K F (g i j) (gv i j)):nt X f (gI C g):=by
 intro pins s σ H x y v u Q I rx ry ⟨F,a,b,t,sm,ra,rb,e,q⟩
 unfold gI at e
 split at e
 ·cases ra
  cases rb
  split at e
  ·next hc =>
   cases e
   exact h pins s σ H _ _ v u Q I rx ry ⟨_,_,rfl,rfl,hc,q F H _ (bx.refl sm) (hg _ _ _ _)⟩
  ·cases e
 ·cases e
theorem mL {f:Value -> Value -> Sem Value} {g:Int -> Int -> T} {gv:Int -> Int -> V} (h:m6 X f (EM gv)) (hg:∀ K F i j,Rep K F (g i j) (gv i j)):nt X f (gI (fun _ _=>True) g):=
 zI (fun pins s σ H x y v u Q I rx ry ⟨i,j,e1,e2,_,q⟩=>h pins s σ H x y v u Q I rx ry ⟨i,j,e1,e2,q⟩) hg
def L0 (g g':T -> T -> Option T):T -> T -> Option T:=fun a b=>match g a b with
 | some t=>some t
 | none=>g' a b
theorem nt.or {f:Value -> Value -> Sem Value} {g g':T -> T -> Option T} (h:nt X f g) (h':nt X f g'):nt X f (L0 g g'):=by
 intro pins s σ H x y v u Q I rx ry ⟨F,a,b,t,sm,ra,rb,e,q⟩
 unfold L0 at e
 split at e
 ·next t' e'=>cases e; exact h pins s σ H x y v u Q I rx ry ⟨F,a,b,_,sm,ra,rb,e',q⟩
 ·exact h' pins s σ H x y v u Q I rx ry ⟨F,a,b,t,sm,ra,rb,e,q⟩
def yy (i j:Int):Prop:=i.natAbs < B /\ j.natAbs < B
instance (i j:Int):Decidable (yy i j):=inferInstanceAs (Decidable (_ /\ _))
def yx (i j:Int):Prop:=j ≠ 0 /\ j.natAbs < B
instance (i j:Int):Decidable (yx i j):=inferInstanceAs (Decidable (_ /\ _))
def K9 (i j:Int):Prop:=j ≠ 0
instance (i j:Int):Decidable (K9 i j):=inferInstanceAs (Decidable (_ ≠ _))
instance (i j:Int):Decidable (LF i j):=inferInstanceAs (Decidable (_ /\ _ /\ _))
abbrev sv:=gI (fun _ _=>True) fun i j=>.int (i - j)
abbrev bq:=gI yy fun i j=>.int (i * j)
abbrev dc:=gI yx fun i j=>.int (i.fdiv j)
abbrev df:=gI K9 fun i j=>.int (i.fmod j)
abbrev Jh:=gI (fun _ _=>True) fun i j=>.bl (decide (i < j))
abbrev AF:=gI (fun _ _=>True) fun i j=>.bl (decide (i ≤ j))
abbrev qT:=gI (fun _ _=>True) fun i j=>.bl (decide (j < i))
abbrev LX:=gI (fun _ _=>True) fun i j=>.bl (decide (j ≤ i))
theorem yb:nt X (binaryOp .Sub) sv:=mL HJ fun _ _ _ _=>rfl
theorem bT:nt X (binaryOp .Mult) bq:=zI (C:=yy) (gv:=fun i j=>.int (i * j)) (Ma fun _ _ _ _ _ _ _ hc q=>mul_int q (Ki hc.1 hc.2)) fun _ _ _ _=>rfl
theorem cJ:nt X (binaryOp .FloorDiv) dc:=zI (C:=yx) (gv:=fun i j=>.int (i.fdiv j)) (Ma fun _ _ _ _ _ _ _ hc q=>floordiv_int hc.1 q (.inl (PyProof.noPylong_of_log2 (Nat.lt_trans (Fl hc.2) (by decide:4000 < 9000))))) fun _ _ _ _=>rfl
theorem dS:nt X (binaryOp .Mod) df:=zI (C:=K9) (gv:=fun i j=>.int (i.fmod j)) Es fun _ _ _ _=>rfl
theorem Cq:nt X (compareOp .Lt) Jh:=mL Kn fun _ _ _ _=>rfl
theorem zJ:nt X (compareOp .LtE) AF:=mL Km fun _ _ _ _=>rfl
theorem pf:nt X (compareOp .Gt) qT:=mL Kl fun _ _ _ _=>rfl
theorem Kp:nt X (compareOp .GtE) LX:=mL Kk fun _ _ _ _=>rfl
def lM:T -> T -> Option T
 | .str x,.str y=>if x.length + y.length ≤ sizeLine then some (.str (x ++ y)) else none
 | .lst xs,.lst ys=>if xs.length + ys.length ≤ sizeLine then some (.lst (xs ++ ys)) else none
 | .tup (x :: xs),.tup (y :: ys)=>if (x :: xs).length + (y :: ys).length ≤ sizeLine then some (.tup (x :: xs ++ y :: ys)) else none
 | _,_=>none
theorem Et:nt X (binaryOp .Add) lM:=by
 intro pins s σ H x y v u Q I rx ry ⟨F,a,b,t,sm,ra,rb,e,q⟩
 unfold lM at e
 split at e
 ·split at e
  ·next hl =>
   cases e; cases ra; cases rb
   exact ya pins s σ H _ _ v u Q I rx ry ⟨_,_,rfl,rfl,hl,q F H _ (bx.refl sm) rfl⟩
  ·cases e
 ·split at e
  ·next hl =>
   cases e
   obtain ⟨p1,x1,rfl,h1,h2⟩:=ra
   obtain ⟨p2,x2,rfl,h3,h4⟩:=rb
   refine HH pins s σ H _ _ v u Q I rx ry ⟨p1,p2,x1,x2,rfl,rfl,sm _ _ h1,sm _ _ h3,by rw [h2.length,h4.length]; exact hl,fun p hp=>?_⟩
   have gr:=bx.new (.lst (x1 ++ x2)) sm hp
   exact q _ _ _ gr ⟨p,_,rfl,aU,aV.mono gr.sF (h2.append h4)⟩
  ·cases e
 ·split at e
  ·next hl =>
   cases e
   obtain ⟨p1,x1,rfl,h1,h2⟩:=ra
   obtain ⟨p2,x2,rfl,h3,h4⟩:=rb
   refine Ep pins s σ H _ _ v u Q I rx ry ⟨p1,p2,x1,x2,rfl,rfl,cw sm h1,cw sm h3,fun z=>?_,by rw [h2.length,h4.length]; exact hl,fun z=>?_,fun _ p hp=>?_⟩
   ·subst z; have:=h2.length; simp at this
   ·subst z; have:=h4.length; simp at this
   ·have gr:=bx.new (.tup (x1 ++ x2)) sm hp
    exact q _ _ _ gr ⟨p,_,rfl,lu.of aU,aV.mono gr.sF (h2.append h4)⟩
  ·cases e
 ·cases e
def bJ:T -> T -> Option T:=L0 (gI (fun _ _=>True) fun i j=>.int (i + j)) lM
theorem cj:nt X (binaryOp .Add) bJ:=nt.or (mL HG fun _ _ _ _=>rfl) Et
theorem iJ {i j:Int}:bJ (.int i) (.int j)=some (.int (i + j)):=rfl
theorem jH {xs ys:List T} (h:xs.length + ys.length ≤ sizeLine):bJ (.lst xs) (.lst ys)=some (.lst (xs ++ ys)):=by
 show lM (.lst xs) (.lst ys)=_
 simp only [lM,if_pos h]
theorem BL {x y:T} {xs ys:List T} (h:(x :: xs).length + (y :: ys).length ≤ sizeLine):bJ (.tup (x :: xs)) (.tup (y :: ys))=some (.tup (x :: xs ++ y :: ys)):=by
 show lM (.tup (x :: xs)) (.tup (y :: ys))=_
 simp only [lM,if_pos h]
theorem vh {x y:Str} (h:x.length + y.length ≤ sizeLine):bJ (.str x) (.str y)=some (.str (x ++ y)):=by
 show lM (.str x) (.str y)=_
 simp only [lM,if_pos h]
def xi:T -> Option T
 | .int i=>some (.int (-i))
 | _=>none
theorem C9:MH X (unaryOp .USub) xi:=by
 intro pins s σ H x v Q I rx ⟨F,a,t,sm,ra,e,q⟩
 unfold xi at e
 split at e
 ·cases e; cases ra
  exact IS pins s σ H _ v Q I rx ⟨_,rfl,q F H _ (bx.refl sm) rfl⟩
 ·cases e
mutual
def Fd:T -> Option PyData
 | .non=>some .none
 | .bl b=>some (.bool b)
 | .int i=>some (.int i)
 | .str x=>some (.str x)
 | .tup ts=>(pO ts).map .tuple
 | .lst ts=>(pO ts).map .list
 | .scr ts=>(pO ts).map .list
 | .ty _=>none
 | .dic=>none
 | .obj _ _ _=>none
 | .ptr _=>none
 | .exc _=>none
def pO:List T -> Option (List PyData)
 | []=>some []
 | t :: ts=>(Fd t).bind fun d=>(pO ts).bind fun ds=>some (d :: ds)
end
mutual
theorem jL {pins:List (Addr × Obj)} {σ:L2.St} {H F:Hp} {s:Shared} (I:Inv X pins σ H s) (sm:aQ F H):∀ {t:T} {d:PyData} {v:V} {u:Value},Fd t=some d -> Rep X.K F t v -> RelV v u -> ∃ as,Reads s.heap u d as
 | .non,d,v,u,e,r,ru=>by cases r; cases e; cases ru; exact ⟨_,.none⟩
 | .bl b,d,v,u,e,r,ru=>by cases r; cases e; cases ru; exact ⟨_,.bool _⟩
 | .int i,d,v,u,e,r,ru=>by cases r; cases e; obtain ⟨t,rfl⟩:=ru; exact ⟨_,.int _ _⟩
 | .str x,d,v,u,e,r,ru=>by cases r; cases e; obtain ⟨t,rfl⟩:=ru; exact ⟨_,.str _ _⟩
 | .ty _,d,v,u,e,r,ru=>by cases e
 | .dic,d,v,u,e,r,ru=>by cases e
 | .obj _ _ _,d,v,u,e,r,ru=>by cases e
 | .ptr _,d,v,u,e,r,ru=>by cases e
 | .exc _,d,v,u,e,r,ru=>by cases e
 | .tup ts,d,v,u,e,r,ru=>by
  obtain ⟨p,xs,rfl,h1,h2⟩:=r
  cases ru
  simp only [Fd] at e
  cases e1:pO ts with
  | none=>rw [e1] at e; cases e
  | some ds =>
   rw [e1] at e; cases e
   obtain ⟨its,rv,⟨o,g1,g2,n,g3⟩,_⟩:=I.tuple (cw sm h1)
   obtain ⟨as,q⟩:=ib I sm e1 h2 rv
   exact ⟨_,.tuple g1 g2 g3 q⟩
 | .lst ts,d,v,u,e,r,ru=>by
  obtain ⟨p,xs,rfl,h1,h2⟩:=r
  cases ru
  simp only [Fd] at e
  cases e1:pO ts with
  | none=>rw [e1] at e; cases e
  | some ds =>
   rw [e1] at e; cases e
   obtain ⟨its,rv,⟨o,n,g1,g2,_,g3⟩,_⟩:=I.list (iA.of (sm _ _ h1))
   obtain ⟨as,q⟩:=ib I sm e1 h2 rv
   exact ⟨_,.list g1 g2 g3 q⟩
 | .scr ts,d,v,u,e,r,ru=>by
  obtain ⟨p,xs,rfl,h1,h2⟩:=r
  cases ru
  simp only [Fd] at e
  cases e1:pO ts with
  | none=>rw [e1] at e; cases e
  | some ds =>
   rw [e1] at e; cases e
   obtain ⟨its,rv,⟨o,n,g1,g2,_,g3⟩,_⟩:=I.list (sm.seq h1)
   obtain ⟨as,q⟩:=ib I sm e1 h2 rv
   exact ⟨_,.list g1 g2 g3 q⟩
theorem ib {pins:List (Addr × Obj)} {σ:L2.St} {H F:Hp} {s:Shared} (I:Inv X pins σ H s) (sm:aQ F H):∀ {ts:List T} {ds:List PyData} {vs:List V} {us:List Value},pO ts=some ds -> aV X.K F ts vs -> Vals vs us -> ∃ as,ReadsAll s.heap us ds as
 | [],ds,vs,us,e,r,ru=>by cases r; cases ru; cases e; exact ⟨_,.nil⟩
 | t :: ts,ds,vs,us,e,r,ru=>by
  obtain ⟨v,rr,rfl,h1,h2⟩:=r
  cases ru with
  | cons r1 r2 =>
   simp only [pO] at e
   obtain ⟨d,e1,e⟩:=bind_some e
   obtain ⟨ds',e2,e⟩:=bind_some e
   cases e
   obtain ⟨as,q1⟩:=jL I sm e1 h1 r1
   obtain ⟨bs,q2⟩:=ib I sm e2 h2 r2
   exact ⟨_,.cons q1 q2⟩
end
def DO (neg:Bool) (a b:T):Option T:=(Fd a).bind fun p=>(Fd b).bind fun q=>if SeqAt.shaped p=true /\ SeqAt.shaped q=true then some (.bl (if neg then !PyData.eqv p q else PyData.eqv p q)) else none
abbrev fX:=DO false
abbrev jI:=DO true
theorem gb (hu:X.A.units + 64 < cLine):nt X (compareOp .Eq) fX:=by
 intro pins s σ H x y v u Q I rx ry ⟨F,a,b,t,sm,ra,rb,e,q⟩
 obtain ⟨d1,e1,e⟩:=bind_some e
 obtain ⟨d2,e2,e⟩:=bind_some e
 split at e
 ·next hs =>
  cases e
  obtain ⟨as,q1⟩:=jL I sm e1 ra rx
  obtain ⟨bs,q2⟩:=jL I sm e2 rb ry
  exact SeqAt.compareEq_shaped q1 q2 hs.1 hs.2 hu ⟨.bl _,H,I,rfl,q F H _ (bx.refl sm) rfl⟩
 ·cases e
theorem iK (hu:X.A.units + 64 < cLine):nt X (compareOp .NotEq) jI:=by
 intro pins s σ H x y v u Q I rx ry ⟨F,a,b,t,sm,ra,rb,e,q⟩
 obtain ⟨d1,e1,e⟩:=bind_some e
 obtain ⟨d2,e2,e⟩:=bind_some e
 split at e
 ·next hs =>
  cases e
  obtain ⟨as,q1⟩:=jL I sm e1 ra rx
  obtain ⟨bs,q2⟩:=jL I sm e2 rb ry
  exact SeqAt.compareNe_shaped q1 q2 hs.1 hs.2 hu ⟨.bl _,H,I,rfl,q F H _ (bx.refl sm) rfl⟩
 ·cases e
def Gi:T -> Bool
 | .non=>true
 | _=>false
def M4:T -> T -> Option T
 | a,.non=>some (.bl (Gi a))
 | .bl c,.bl d=>some (.bl (c == d))
 | _,_=>none
def bC:T -> T -> Option T
 | .lst ts,.int i=>qB ts i
 | .scr ts,.int i=>qB ts i
 | .tup ts,.int i=>qB ts i
 | .str x,.int i=>if x.length ≤ sizeLine then (qB x.cps.toList i).map fun c=>.str ⟨#[c]⟩ else none
 | _,_=>none
theorem rG {K:PySem.W.Frag} {F:Hp} {ts:List T} {vs:List V} {i:Int} {t:T} (r:aV K F ts vs) (e:qB ts i=some t):∃ v,qB vs i=some v /\ Rep K F t v:=by
 unfold qB at e ⊢
 rw [r.length]
 obtain ⟨j,e1,e2⟩:=bind_some e
 obtain ⟨v,g1,g2⟩:=r.get e2
 exact ⟨v,by rw [e1]; exact g1,g2⟩
theorem bj:Di X (Jj X.K bC):=by
 intro value slice pins s σ H x y v u Q I rx ry ⟨F,a,b,t,sm,ra,rb,e,q⟩ hs
 unfold bC at e
 split at e
 ·obtain ⟨p,xs,rfl,h1,h2⟩:=ra
  cases rb
  obtain ⟨w,g1,g2⟩:=rG h2 e
  exact zx value slice pins s σ H _ _ v u Q I rx ry ⟨p,xs,_,w,rfl,rfl,iA.of (sm _ _ h1),g1,q F H _ (bx.refl sm) g2⟩ hs
 ·obtain ⟨p,xs,rfl,h1,h2⟩:=ra
  cases rb
  obtain ⟨w,g1,g2⟩:=rG h2 e
  exact zx value slice pins s σ H _ _ v u Q I rx ry ⟨p,xs,_,w,rfl,rfl,sm.seq h1,g1,q F H _ (bx.refl sm) g2⟩ hs
 ·obtain ⟨p,xs,rfl,h1,h2⟩:=ra
  cases rb
  obtain ⟨w,g1,g2⟩:=rG h2 e
  exact Hv value slice pins s σ H _ _ v u Q I rx ry ⟨p,xs,_,w,rfl,rfl,cw sm h1,g1,q F H _ (bx.refl sm) g2⟩ hs
 ·split at e
  ·next hl =>
   cases ra; cases rb
   cases e1:qB (Str.cps _).toList _ with
   | none=>rw [e1] at e; cases e
   | some c =>
    rw [e1] at e; cases e
    exact Hu value slice pins s σ H _ _ v u Q I rx ry ⟨_,_,c,rfl,rfl,hl,e1,q F H _ (bx.refl sm) rfl⟩ hs
  ·cases e
 ·cases e
theorem jB {f:Value} {r:List V -> Hp -> VK -> Prop} {g:List T -> Option T} (h:gp X f r) (i:∀ vs H Q,Lw X.K g vs H Q -> r vs H Q):jq X f g:=fun pins s σ H xs us Q I rx q=>h pins s σ H xs us Q I rx (i _ _ _ q)
def cM:List T -> Option T
 | [.lst ts]=>some (.int ts.length)
 | [.scr ts]=>some (.int ts.length)
 | [.tup ts]=>some (.int ts.length)
 | [.str x]=>if x.length ≤ sizeLine then some (.int x.length) else none
 | _=>none
theorem da:jq X (.builtin "len") cM:=jB (gp.or rM rN) fun vs H Q hq__=>by
 obtain ⟨F,ts,t,sm,r,e,q⟩:=hq__
 unfold cM at e
 split at e
 ·obtain ⟨v,rr,rfl,⟨p,xs,rfl,h1,h2⟩,rfl⟩:=r
  cases e
  exact .inl ⟨p,xs,rfl,.inl (iA.of (sm _ _ h1)),by rw [h2.length]; exact q F H _ (bx.refl sm) rfl⟩
 ·obtain ⟨v,rr,rfl,⟨p,xs,rfl,h1,h2⟩,rfl⟩:=r
  cases e
  exact .inl ⟨p,xs,rfl,.inl (sm.seq h1),by rw [h2.length]; exact q F H _ (bx.refl sm) rfl⟩
 ·obtain ⟨v,rr,rfl,⟨p,xs,rfl,h1,h2⟩,rfl⟩:=r
  cases e
  exact .inl ⟨p,xs,rfl,.inr (cw sm h1),by rw [h2.length]; exact q F H _ (bx.refl sm) rfl⟩
 ·split at e
  ·next hl =>
   obtain ⟨v,rr,rfl,h1,rfl⟩:=r
   cases h1; cases e
   exact .inr ⟨_,rfl,hl,q F H _ (bx.refl sm) rfl⟩
  ·cases e
 ·cases e
def uR:List T -> Option T
 | [.int i]=>some (.int (if i < 0 then -i else i))
 | _=>none
theorem rS:jq X (.builtin "abs") uR:=jB Br fun vs H Q hq__=>by
 obtain ⟨F,ts,t,sm,r,e,q⟩:=hq__
 unfold uR at e
 split at e
 ·obtain ⟨v,rr,rfl,h1,rfl⟩:=r
  cases h1; cases e
  exact ⟨_,rfl,q F H _ (bx.refl sm) rfl⟩
 ·cases e
def LR:List T -> Option T
 | [.int i,.int j]=>some (.int (if j > i then j else i))
 | _=>none
def LS:List T -> Option T
 | [.int i,.int j]=>some (.int (if j < i then j else i))
 | _=>none
def nu:List T -> Option T
 | [.int i]=>some (.int i)
 | [.bl c]=>some (.int (if c then 1 else 0))
 | _=>none
theorem wW:jq X (.type "int") nu:=jB Av fun vs H Q hq__=>by
 obtain ⟨F,ts,t,sm,r,e,q⟩:=hq__
 unfold nu at e
 split at e
 ·obtain ⟨v,rr,rfl,h1,rfl⟩:=r
  cases h1; cases e
  exact .inl ⟨_,rfl,q F H _ (bx.refl sm) rfl⟩
 ·obtain ⟨v,rr,rfl,h1,rfl⟩:=r
  cases h1; cases e
  exact .inr ⟨_,rfl,q F H _ (bx.refl sm) rfl⟩
 ·cases e
def dList:List T -> Option T
 | [.lst ts]=>some (.lst ts)
 | [.scr ts]=>some (.lst ts)
 | [.tup ts]=>some (.lst ts)
 | _=>none
theorem rT:jq X (.type "list") dList:=jB rO fun vs H Q hq__=>by
 obtain ⟨F,ts,t,sm,r,e,q⟩:=hq__
 unfold dList at e
 split at e
 ·obtain ⟨v,rr,rfl,⟨p,xs,rfl,h1,h2⟩,rfl⟩:=r
  cases e
  refine ⟨p,xs,rfl,.inl (iA.of (sm _ _ h1)),fun l hl=>?_⟩
  have gr:=bx.new (.lst xs) sm hl
  exact q _ _ _ gr ⟨l,xs,rfl,aU,aV.mono gr.sF h2⟩
 ·obtain ⟨v,rr,rfl,⟨p,xs,rfl,h1,h2⟩,rfl⟩:=r
  cases e
  refine ⟨p,xs,rfl,.inl (sm.seq h1),fun l hl=>?_⟩
  have gr:=bx.new (.lst xs) sm hl
  exact q _ _ _ gr ⟨l,xs,rfl,aU,aV.mono gr.sF h2⟩
 ·obtain ⟨v,rr,rfl,⟨p,xs,rfl,h1,h2⟩,rfl⟩:=r
  cases e
  refine ⟨p,xs,rfl,.inr (cw sm h1),fun l hl=>?_⟩
  have gr:=bx.new (.lst xs) sm hl
  exact q _ _ _ gr ⟨l,xs,rfl,aU,aV.mono gr.sF h2⟩
 ·cases e
def Jk:T -> Option String
 | .non=>some "NoneType"
 | .bl _=>some "bool"
 | .int _=>some "int"
 | .str _=>some "str"
 | .tup _=>some "tuple"
 | .lst _=>some "list"
 | .scr _=>some "list"
 | .dic=>some "dict"
 | .obj _ _ _=>none
 | .ptr _=>none
 | .exc _=>none
 | .ty _=>none
def kinds:List String:=["int", "bool", "str", "list", "tuple", "dict"]
def Lr (a c:String):Option Bool:=if c ∈ kinds then some (a == c || (a == "bool" && c == "int")) else none
def Hs (a:String):List T -> Option Bool
 | []=>some false
 | .ty c :: r=>(Lr a c).bind fun b=>if b=true then some true else Hs a r
 | _ :: _=>none
theorem B4 {K:PySem.W.Frag} {t:T} {a c:String} {b:Bool} (ha:Jk t=some a) (h:Lr a c=some b):PySem.W.kitOne K (.type a) (.type c)=some b:=by
 have ha:a ∈ ["NoneType", "bool", "int", "str", "tuple", "list", "dict"]:=by
  cases t <;> simp only [Jk] at ha <;> cases ha <;> simp
 unfold Lr at h
 split at h
 ·next hc =>
  cases h
  simp only [kinds,List.mem_cons,List.not_mem_nil,or_false] at hc ha
  rcases ha with rfl | rfl | rfl | rfl | rfl | rfl | rfl <;> rcases hc with rfl | rfl | rfl | rfl | rfl | rfl <;> rfl
 ·cases h
theorem zy {K:PySem.W.Frag} {F:Hp} {t:T} {a:String} (ha:Jk t=some a):∀ {cs:List T} {vs:List V} {us:List Value} {b:Bool},Hs a cs=some b -> aV K F cs vs -> Vals vs us -> PySem.W.kitAny K (.type a) us=some b
 | [],vs,us,b,h,r,ru=>by cases r; cases ru; cases h; rfl
 | .ty c :: cs,vs,us,b,h,r,ru=>by
  obtain ⟨v,rr,rfl,h1,h2⟩:=r
  cases h1
  cases ru with
  | cons r1 r2 =>
   cases r1
   obtain ⟨b',e1,h⟩:=bind_some h
   unfold PySem.W.kitAny
   rw [B4 ha e1]
   cases b' with
   | true=>rw [if_pos rfl] at h; exact h
   | false=>rw [if_neg (by decide)] at h; exact zy ha h h2 r2
 | .non :: cs,vs,us,b,h,r,ru=>by cases h
 | .bl _ :: cs,vs,us,b,h,r,ru=>by cases h
 | .int _ :: cs,vs,us,b,h,r,ru=>by cases h
 | .str _ :: cs,vs,us,b,h,r,ru=>by cases h
 | .tup _ :: cs,vs,us,b,h,r,ru=>by cases h
 | .lst _ :: cs,vs,us,b,h,r,ru=>by cases h
 | .scr _ :: cs,vs,us,b,h,r,ru=>by cases h
 | .dic :: cs,vs,us,b,h,r,ru=>by cases h
 | .obj _ _ _ :: cs,vs,us,b,h,r,ru=>by cases h
 | .ptr _ :: cs,vs,us,b,h,r,ru=>by cases h
 | .exc _ :: cs,vs,us,b,h,r,ru=>by cases h
theorem vH {pins:List (Addr × Obj)} {σ:L2.St} {H F:Hp} {s:Shared} {t:T} {v:V} {u:Value} {a:String} (I:Inv X pins σ H s) (sm:aQ F H) (r:Rep X.K F t v) (ru:RelV v u) (ha:Jk t=some a) :
  ∃ Hh:Heap -> Prop,PySem.W.KitX X.K u (.type a) Hh /\ Hh s.heap /\ u ≠ .builtin "__main__.__loader__#opaque" := by
 cases t with
 | non=>cases r; cases ru; cases ha; exact ⟨_,PySem.W.kitx_none,True.intro,fun z=>nomatch z⟩
 | bl _=>cases r; cases ru; cases ha; exact ⟨_,PySem.W.kitx_bool,True.intro,fun z=>nomatch z⟩
 | int _=>cases r; obtain ⟨t,rfl⟩:=ru; cases ha; exact ⟨_,PySem.W.kitx_int,True.intro,fun z=>nomatch z⟩
 | str _=>cases r; obtain ⟨t,rfl⟩:=ru; cases ha; exact ⟨_,PySem.W.kitx_str,True.intro,fun z=>nomatch z⟩
 | ty _=>cases ha
 | tup _ =>
  obtain ⟨p,xs,rfl,h1,h2⟩:=r
  cases ru; cases ha
  obtain ⟨its,rv,⟨o,g1,g2,n,g3⟩,_⟩:=I.tuple (cw sm h1)
  exact ⟨_,PySem.W.kitx_tuple,⟨o,g1,g2⟩,fun z=>nomatch z⟩
 | lst _ =>
  obtain ⟨p,xs,rfl,h1,h2⟩:=r
  cases ru; cases ha
  obtain ⟨its,rv,⟨o,n,g1,g2,_,g3⟩,_⟩:=I.list (iA.of (sm _ _ h1))
  exact ⟨_,PySem.W.kitx_list,⟨o,g1,g2⟩,fun z=>nomatch z⟩
 | scr _ =>
  obtain ⟨p,xs,rfl,h1,h2⟩:=r
  cases ru; cases ha
  obtain ⟨its,rv,⟨o,n,g1,g2,_,g3⟩,_⟩:=I.list (sm.seq h1)
  exact ⟨_,PySem.W.kitx_list,⟨o,g1,g2⟩,fun z=>nomatch z⟩
 | dic =>
  obtain ⟨p,rfl,h1⟩:=r
  cases ru; cases ha
  obtain ⟨_,_,vs,_,o,es,ep,h1,h2,_⟩:=(show fu X.prog X.w H s.heap p (.dK []) from I.hok p _ (sm _ _ h1))
  exact ⟨_,PySem.W.kitx_dict,⟨o,h1,h2.1⟩,fun z=>nomatch z⟩
 | obj _ _ _=>cases ha
 | ptr _=>cases ha
 | exc _=>cases ha
def bN:List T -> Option T
 | [t,.ty c]=>(Jk t).bind fun a=>(Lr a c).bind fun b=>some (.bl b)
 | [t,.tup cs]=>(Jk t).bind fun a=>(Hs a cs).bind fun b=>some (.bl b)
 | _=>none
theorem jC:jq X (.builtin "isinstance") bN:=by
 intro pins s σ H xs us Q I rx ⟨F,ts,t,sm,r,e,q⟩
 unfold bN at e
 split at e
 ·obtain ⟨a,e1,e⟩:=bind_some e
  obtain ⟨b,e2,e⟩:=bind_some e
  cases e
  obtain ⟨v,rr,rfl,h1,v2,r2,rfl,h2,rfl⟩:=r
  cases h2
  obtain ⟨u1,u2,rfl,ra,rb⟩:=Vals.two rx
  cases rb
  obtain ⟨Hh,Z,hh,hn⟩:=vH I sm h1 ra e1
  exact PySem.W.kia_one Z I.kIn hh (B4 e1 e2) hn fun tk=>⟨.bl b,H,I.tok tk,rfl,q F H _ (bx.refl sm) rfl⟩
 ·obtain ⟨a,e1,e⟩:=bind_some e
  obtain ⟨b,e2,e⟩:=bind_some e
  cases e
  obtain ⟨v,rr,rfl,h1,v2,r2,rfl,⟨p,xs,rfl,h3,h4⟩,rfl⟩:=r
  obtain ⟨u1,u2,rfl,ra,rb⟩:=Vals.two rx
  cases rb
  obtain ⟨Hh,Z,hh,hn⟩:=vH I sm h1 ra e1
  obtain ⟨its,rv,⟨o,g1,g2,n,g3⟩,_⟩:=I.tuple (cw sm h3)
  obtain ⟨oc,od,odt,osl⟩:=o
  dsimp only at g2 g3
  subst g2 g3
  exact PySem.W.kia_tup Z I.kIn hh g1 (zy e1 e2 h4 rv) hn fun tk=>⟨.bl b,H,I.tok tk,rfl,q F H _ (bx.refl sm) rfl⟩
 ·cases e
end
open PySem PySem.Spec PyProof.Rows L2
section
variable {X:Cx} {pos:Pos}
def LV:FE:=fun τ=>some (.dic,τ)
abbrev FO:=aJ -> Option (Option Int × aJ)
def tO (K:PySem.W.Frag) (F₀ H₀:Hp) (f:FO):TO:=fun σ H Q=>∃ F τ o τ',aI K F₀ H₀ F H σ τ /\ f τ=some (o,τ') /\ ∀ F' H',aI K F₀ H₀ F' H' σ τ' -> aQ F F' -> Q o H'
def SO (X:Cx) (e:Option Expr) (f:FO):Prop:=∀ F₀ H₀,PO X e (tO X.K F₀ H₀ f)
def bY:FO:=fun τ=>some (none,τ)
def cQ (f:FE):FO:=fun τ=>(f τ).bind fun p=>match p.1 with | .int i=>some (some i,p.2) | _=>none
theorem PO.weak {e:Option Expr} {t t':TO} (h:PO X e t) (i:∀ σ H Q,t' σ H Q -> t σ H Q):PO X e t':=fun pins s σ H Q I q=>h pins s σ H Q I (i σ H Q q)
theorem fE:SO X none bY:=fun F₀ H₀=>PO.weak EC fun σ H Q hq__=>by
 obtain ⟨F,τ,t,τ',E,e1,q⟩:=hq__
 cases e1
 exact q F H E (aQ.refl _)
theorem eE {e:Expr} {f:FE} (h:SE X e f):SO X (some e) (cQ f):=fun F₀ H₀=>PO.weak (ED (h F₀ H₀)) fun σ H Q hq__=>by
 obtain ⟨F,τ,t,τ',E,e1,q⟩:=hq__
 obtain ⟨⟨x,τ1⟩,e2,e1⟩:=bind_some e1
 dsimp only at e1
 split at e1
 ·cases e1
  exact ⟨F,τ,_,_,E,e2,fun F' H' v E' s' r'=>by cases r'; exact ⟨_,rfl,q F' H' E' s'⟩⟩
 ·cases e1
def oG (xs:List T) (lo hi:Option Int):List T:=(xs.drop (HT.fG xs.length 0 lo)).take (HT.fG xs.length xs.length hi - HT.fG xs.length 0 lo)
def Bj (t:T) (lo hi:Option Int):Option T:=match t with
 | .lst xs=>some (.lst (oG xs lo hi))
 | .scr xs=>some (.lst (oG xs lo hi))
 | .tup xs=>if HT.fG xs.length 0 lo=0 /\ HT.fG xs.length xs.length hi=xs.length then none else some (.tup (oG xs lo hi))
 | _=>none
theorem rW {K:PySem.W.Frag} {F:Hp} {ts:List T} {vs:List V} (r:aV K F ts vs) (lo hi:Option Int):aV K F (oG ts lo hi) (oH vs lo hi):=by
 unfold oG oH
 rw [r.length]
 exact (r.drop _).take _
def ly (f:FE) (fl fh:FO):FE:=fun τ=>(f τ).bind fun p=>(fl p.2).bind fun q=>(fh q.2).bind fun r=>(Bj p.1 q.1 r.1).bind fun t=>some (t,r.2)
theorem dN {e:Expr} {lo hi:Option Expr} {f:FE} {fl fh:FO} {p2:Pos} (he:SE X e f) (hl:SO X lo fl) (hh:SO X hi fh):SE X (.Subscript e (.Slice lo hi none p2) pos) (ly f fl fh):=
 fun F₀ H₀=>PE.weak (Cw (Fs.or EX IE) (he F₀ H₀) (hl F₀ H₀) (hh F₀ H₀)) fun σ H Q hq__=>by
  obtain ⟨F,τ,t,τ',E,e1,q⟩:=hq__
  obtain ⟨⟨x,τ1⟩,e2,e1⟩:=bind_some e1
  obtain ⟨⟨l,τ2⟩,e3,e1⟩:=bind_some e1
  obtain ⟨⟨h,τ3⟩,e4,e1⟩:=bind_some e1
  obtain ⟨y,e5,e1⟩:=bind_some e1
  cases e1
  refine ⟨F,τ,x,τ1,E,e2,fun F1 H1 v E1 s1 r1=>⟨F1,τ1,l,τ2,E1,e3,fun F2 H2 E2 s2=>⟨F2,τ2,h,_,E2,e4,fun F3 H3 E3 s3=>?_⟩⟩⟩
  have r3:=Rep.mono (s2.trans s3) r1
  have sm:=E3.g.fh
  dsimp only at e5
  unfold Bj at e5
  split at e5
  ·cases e5
   obtain ⟨p,xs,rfl,h1,h2⟩:=r3
   refine .inl ⟨p,xs,rfl,iA.of (sm _ _ h1),fun a ha=>?_⟩
   have gr:=bx.new (.lst (oH xs l h)) sm ha
   exact q _ _ _ (E3.grow gr) (((s1.trans s2).trans s3).trans gr.sF) ⟨a,_,rfl,aU,aV.mono gr.sF (rW h2 l h)⟩
  ·cases e5
   obtain ⟨p,xs,rfl,h1,h2⟩:=r3
   refine .inl ⟨p,xs,rfl,sm.seq h1,fun a ha=>?_⟩
   have gr:=bx.new (.lst (oH xs l h)) sm ha
   exact q _ _ _ (E3.grow gr) (((s1.trans s2).trans s3).trans gr.sF) ⟨a,_,rfl,aU,aV.mono gr.sF (rW h2 l h)⟩
  ·split at e5
   ·cases e5
   ·next hn =>
    cases e5
    obtain ⟨p,xs,rfl,h1,h2⟩:=r3
    refine .inr ⟨p,xs,rfl,cw sm h1,by rw [h2.length]; exact hn,fun a ha=>?_⟩
    have gr:=bx.new (.tup (oH xs l h)) sm ha
    exact q _ _ _ (E3.grow gr) (((s1.trans s2).trans s3).trans gr.sF) ⟨a,_,rfl,lu.of aU,aV.mono gr.sF (rW h2 l h)⟩
  ·cases e5
theorem mX (i:Nat) {x:Str} {p1 p2 p3:Pos} {e:Expr} {f:FE} (hv:PE X (.Name x p1) (Bc i)) (he:SE X e f)
  (hbase:attributeBase (.Name x p1) "append" X.env (eval (.Name x p1) X.env)=eval (.Name x p1) X.env:=by rfl)
  (hfew:((backTo p3 (starEach [e] X.env)).all (fun x=>!x.1) && (backToKw p3 (keywordEach [] X.env)).all (fun x=>x.1.isSome) && decide ([e].length + ([]:List Keyword).length + (if ([]:List Keyword).isEmpty then 0 else 1) < 30))=true:=by rfl)
  (hline:(p2.endLine == p3.line)=true:=by rfl) (hs:starEach [e] X.env=(false,eval e X.env) :: starEach [] X.env:=by rfl) (hpl:(backTo p3 (starEach [] X.env)).any (·.1)=false:=by rfl)
  (hsw:swapsWith (.Call (.Attribute (.Name x p1) "append" p2) [e] [] p3) none pos.line X.env=pure false:=by rfl) :
  SS X (.Expr (.Call (.Attribute (.Name x p1) "append" p2) [e] [] p3) pos) (lL i f):=fun F₀ H₀ =>
 PS.weak (EF (Ku PySem.F.plainAttrs_list PySem.F.slot_list_append PySem.F.type_list_append mI hv (nZ (he F₀ H₀) yc hs) hbase hfew hline hs hpl) hsw) fun D σ H hq__=>by
  obtain ⟨F,τ,r,E,e1,q⟩:=hq__
  unfold lL at e1
  split at e1
  ·next ts0 h0 =>
   obtain ⟨⟨t,τ1⟩,e2,e1⟩:=bind_some e1
   dsimp only at e1
   split at e1
   ·next ts h1 =>
    split at e1
    ·next hz =>
     cases e1
     obtain ⟨v,g1,p,vs,rfl,g2,g3,g4,g5⟩:=E.sl i _ h0
     refine ⟨_,g1,.inl ⟨rfl,vs,iA.of g2⟩,F,τ,t,τ1,E,e2,fun F' H' w E' s' r'=>?_⟩
     obtain ⟨v',k1,p',vs',rfl,k2,k3,k4,k5⟩:=E'.sl i _ h1
     rw [g1] at k1; cases k1
     exact ⟨p,vs',w,rfl,rfl,k2,by rw [k5.length]; exact hz,q F' _ σ (E'.turnOwn h1 g1 (k5.append (.one r'))) s'⟩
    ·cases e1
   ·cases e1
  ·cases e1
def IG (a b c:Int):Prop:=(0 ≤ a /\ a < 2 ^ 62) /\ (0 ≤ b /\ b < 2 ^ 62) /\ (1 ≤ c /\ c < 2 ^ 29)
instance (a b c:Int):Decidable (IG a b c):=inferInstanceAs (Decidable ((_ /\ _) /\ (_ /\ _) /\ _ /\ _))
end
open PySem PySem.Spec PyProof.Rows L2
def fK (b:Bool) (h:Heap) (it a:Addr) (i:Nat):Prop:=match b with
 | true=>h.IsListIter it a i
 | false=>h.IsTupleIter it a i
def iO (b:Bool) (h:Heap) (a:Addr) (xs:Array Value):Prop:=match b with
 | true=>h.IsList a xs
 | false=>h.IsTuple a xs
theorem fK.ext {b:Bool} {h h':Heap} {it a:Addr} {i:Nat} (x:fK b h it a i) (k:∀ o,h.get? it=some o -> h'.get? it=some o):fK b h' it a i:=by
 cases b with
 | true=>obtain ⟨o,e,r⟩:=x; exact ⟨o,k o e,r⟩
 | false=>obtain ⟨o,e,r⟩:=x; exact ⟨o,k o e,r⟩
theorem iO.ext {b:Bool} {h h':Heap} {a:Addr} {xs:Array Value} (x:iO b h a xs) (k:∀ o,h.get? a=some o -> h'.get? a=some o):iO b h' a xs:=by
 cases b with
 | true=>obtain ⟨o,e,r⟩:=x; exact ⟨o,k o e,r⟩
 | false=>obtain ⟨o,e,r⟩:=x; exact ⟨o,k o e,r⟩
theorem fK.obj {b:Bool} {h:Heap} {it a:Addr} {i:Nat} (x:fK b h it a i):∃ o,h.get? it=some o /\ ∀ v,o.data ≠ .cell v:=by
 cases b with
 | true=>obtain ⟨o,e,_,d⟩:=x; exact ⟨o,e,fun v z=>by rw [d] at z; cases z⟩
 | false=>obtain ⟨o,e,_,d⟩:=x; exact ⟨o,e,fun v z=>by rw [d] at z; cases z⟩
section
variable {prog:Program} {w:World} {A:Around} {E:Value -> Shared -> Prop} {s:Shared}
theorem jK {b:Bool} {it a:Addr} {i:Nat} {xs:Array Value} {x:Value} {Q:Value -> Shared -> Prop} (h1:fK b s.heap it a i) (h2:iO b s.heap a xs) (hx:xs[i]? = some x)
  (hQ:∀ h',fK b h' it a (i + 1) -> Heap.SameBut it s.heap h' -> Q x { s with heap:=h' }):wpAny (model prog w) A (Builtin.SmallTypes.nextOf (.ref it)) Q E s:=by
 cases b with
 | true=>exact wpAny_nextOf_list_item h1 h2 hx hQ
 | false =>
  have h1':s.heap.IsTupleIter it a i:=h1
  obtain ⟨o,ho,hc,hd⟩:=id h1'
  obtain ⟨ol,hol,_,nl,hdl⟩:=(show s.heap.IsTuple a xs from h2)
  unfold Builtin.SmallTypes.nextOf
  refine wpAny_bind (wpAny_callSpecial?_slot (name:=Str.ofString "__next__") h1'.typeIs F.slot_tuple_iterator_next (wpAny_call_entry F.slot_tuple_iterator_next h1'.typeIs F.entry_tuple_iterator_next (?_:wpAny _ _ (field (.ref it) 0 >>= _) _ _ s) (F.args_tuple_iterator_next_1 _)))
  refine wpAny_bind (wpAny_field ho hd (x:=.ref a) rfl (?_:wpAny _ _ (if (Value.ref a == Value.none)=true then _ else _) _ _ s))
  rw [if_neg (show ¬ ((Value.ref a == Value.none)=true) from Bool.false_ne_true)]
  refine (wpAny_bind (wpAny_field ho hd (x:=.int i 0) rfl ?_):wpAny _ _ (field (.ref it) 1 >>= _) _ _ s)
  refine wpAny_bind (wpAny_seqItems (a:=a) hol hdl ?_)
  simp only [Int.toNat_natCast,hx]
  refine wpAny_bind (wpAny_setField ho hd (by simp) (wpAny_pure ⟨x,rfl,wpAny_pure (hQ _ ⟨_,Heap.get?_update_self _ ho (Obj.isFreed_of_fields (Obj.data_mapFields hd _)),(Obj.cls_mapFields ..).trans hc,?_⟩ (Heap.SameBut.update ..))⟩))
  rw [Obj.data_mapFields hd] <;> simp [rawInt]
theorem oY {b:Bool} {it a:Addr} {i:Nat} {xs:Array Value} {Q:Value -> Shared -> Prop} (hh:A.handled=none) (h1:fK b s.heap it a i) (h2:iO b s.heap a xs) (hx:xs[i]? = none)
  (hE:∀ h' e,Heap.ExtBut it s.heap h' -> (∃ o,h'.get? e=some o /\ o.cls=.type "StopIteration") -> E (.ref e) { s with heap:=h' }):wpAny (model prog w) A (Builtin.SmallTypes.nextOf (.ref it)) Q E s:=by
 cases b with
 | true=>exact wpAny_nextOf_list_end hh h1 h2 hx hE
 | false =>
  have h1':s.heap.IsTupleIter it a i:=h1
  obtain ⟨o,ho,hc,hd⟩:=id h1'
  obtain ⟨ol,hol,_,nl,hdl⟩:=(show s.heap.IsTuple a xs from h2)
  unfold Builtin.SmallTypes.nextOf
  refine wpAny_bind (wpAny_callSpecial?_slot (name:=Str.ofString "__next__") h1'.typeIs F.slot_tuple_iterator_next (wpAny_call_entry F.slot_tuple_iterator_next h1'.typeIs F.entry_tuple_iterator_next (?_:wpAny _ _ (field (.ref it) 0 >>= _) _ _ s) (F.args_tuple_iterator_next_1 _)))
  refine wpAny_bind (wpAny_field ho hd (x:=.ref a) rfl (?_:wpAny _ _ (if (Value.ref a == Value.none)=true then _ else _) _ _ s))
  rw [if_neg (show ¬ ((Value.ref a == Value.none)=true) from Bool.false_ne_true)]
  refine (wpAny_bind (wpAny_field ho hd (x:=.int i 0) rfl ?_):wpAny _ _ (field (.ref it) 1 >>= _) _ _ s)
  refine wpAny_bind (wpAny_seqItems (a:=a) hol hdl ?_)
  simp only [Int.toNat_natCast,hx]
  refine wpAny_bind (wpAny_rule (wpAny_bind (wpAny_setField ho hd (by simp) (wpAny_bind (m:=newExc (.type "StopIteration") []) ?_))))
  simp only [newExc,newTuple]
  refine wpAny_bind (wpAny_newObj_type (wpAny_bind (m:=firstArgMember _ _) (wpAny_of_eq (a:=Value.none) (by first | rfl | (simp only [firstArgMember]; rfl)) (wpAny_newObj_type ?_ (by size_fits)))) (by size_fits))
  simp only [raiseNew]
  refine wpAny_bind (wpAny_handled ?_)
  first | rw [show A.in1.handled=none from hh] | rw [hh]
  exact wpAny_bind (wpAny_pure (wpAny_throw (hE _ _ (((Heap.SameBut.update ..).extBut.push _).push _) ⟨_,Heap.get?_push_size _ rfl,rfl⟩)))
variable {z TI TO i1 i2 l1 l2:Addr} {k:Nat} {xs ys:Array Value} {x y a b:Value} {c1 c2:Bool}
theorem Df {Q:Value -> Shared -> Prop} (D:ZipApart z TI TO i1 i2 l1 l2) (hz:IsZip s.heap z TI TO .none) (hI:IsPair s.heap TI (.ref i1) (.ref i2)) (hO:IsPair s.heap TO a b)
  (h1:fK c1 s.heap i1 l1 k) (h2:fK c2 s.heap i2 l2 k) (g1:iO c1 s.heap l1 xs) (g2:iO c2 s.heap l2 ys) (hx:xs[k]? = some x) (hy:ys[k]? = some y)
  (hQ:∀ h',IsZip h' z TI TO (rawInt s.heap.objs.size) -> IsPair h' TO x y -> fK c1 h' i1 l1 (k + 1) -> fK c2 h' i2 l2 (k + 1) -> IsPair h' s.heap.objs.size x y ->
   (∀ c o,c ≠ z -> c ≠ TO -> c ≠ i1 -> c ≠ i2 -> s.heap.get? c=some o -> h'.get? c=some o) -> Q (.ref s.heap.objs.size) { s with heap:=h' }) :
  wpAny (model prog w) A (Builtin.«zip.__next__» ⟨[.ref z],[]⟩) (fun fin s'=>∃ v,fin=.done (.ret v) /\ Q v s') E s:=by
 refine (wpAny_bind (wpAny_field hz rfl (x:=.bool false) rfl ?_):wpAny _ _ (field (.ref z) 2 >>= _) _ _ _)
 refine (wpAny_bind (wpAny_field hz rfl (x:=.ref TI) rfl ?_):wpAny _ _ (field (.ref z) 3 >>= _) _ _ _)
 refine wpAny_bind (wpAny_seqItems hI rfl ?_)
 refine (wpAny_bind ?_:wpAny _ _ (Builtin.SmallTypes.ownedTupleIsFree (.ref z) >>= _) _ _ _)
 unfold Builtin.SmallTypes.ownedTupleIsFree
 refine wpAny_bind (wpAny_field hz rfl (x:=.none) rfl (wpAny_pure ?_))
 simp only [if_true]
 refine wpAny_bind (wpAny_rule (wpAny_bind (wpAny_field hz rfl (x:=.ref TO) rfl (wpAny_bind (wpAny_setField_rec hz (by simp) fun ha za sa=>?_)))))
 replace za:IsZip ha z TI TO .ellipsis:=za
 refine wpAny_bind ?_
 simp only [List.zipIdx_cons,List.zipIdx_nil,List.forIn_cons,List.forIn_nil]
 refine wpAny_bind (wpAny_bind (wpAny_onRaise (?_:wpAny _ _ (Builtin.SmallTypes.nextOf (.ref i1) >>= _) _ _ _)))
 refine wpAny_bind (jK (h1.ext fun o e=>sa.extBut _ _ D.i1z e) (g1.ext fun o e=>sa.extBut _ _ D.l1z e) hx fun hb kb sb=>wpAny_pure ?_)
 have Ob:IsPair hb TO a b:=sb.extBut _ _ D.TOi1 (sa.extBut _ _ D.TOz hO)
 refine wpAny_bind (wpAny_seqItems Ob rfl (wpAny_bind (wpAny_updateSeq_pair Ob fun hc Oc sc=>wpAny_bind (wpAny_letGo (wpAny_pure ?_)))))
 replace Oc:IsPair hc TO x b:=Oc
 refine wpAny_bind (wpAny_bind (wpAny_onRaise (?_:wpAny _ _ (Builtin.SmallTypes.nextOf (.ref i2) >>= _) _ _ _)))
 refine wpAny_bind (jK (h2.ext fun o e=>sc.extBut _ _ D.TOi2.symm (sb.extBut _ _ D.i12.symm (sa.extBut _ _ D.i2z e))) (g2.ext fun o e=>sc.extBut _ _ D.l2TO (sb.extBut _ _ D.l2i1 (sa.extBut _ _ D.l2z e))) hy fun hd kd sd=>wpAny_pure ?_)
 have Od:IsPair hd TO x b:=sd.extBut _ _ D.TOi2 Oc
 refine wpAny_bind (wpAny_seqItems Od rfl (wpAny_bind (wpAny_updateSeq_pair Od fun he Oe se=>wpAny_bind (wpAny_letGo (wpAny_pure (wpAny_pure ?_))))))
 replace Oe:IsPair he TO x y:=Oe
 refine wpAny_bind (wpAny_seqItems Oe rfl (wpAny_bind (wpAny_newTuple ?_)))
 have ez:he.objs.size=s.heap.objs.size:=by rw [se.1,sd.1,sc.1,sb.1,sa.1]
 have ze:IsZip he z TI TO .ellipsis:=se.extBut _ _ D.TOz.symm (sd.extBut _ _ D.i2z.symm (sc.extBut _ _ D.TOz.symm (sb.extBut _ _ D.i1z.symm za)))
 have ke:∀ c o,c ≠ z -> c ≠ TO -> c ≠ i1 -> c ≠ i2 -> s.heap.get? c=some o -> he.get? c=some o:=fun c o n1 n2 n3 n4 e=>se.extBut _ _ n2 (sd.extBut _ _ n4 (sc.extBut _ _ n2 (sb.extBut _ _ n3 (sa.extBut _ _ n1 e))))
 have i1e:fK c1 he i1 l1 (k + 1):=kb.ext fun o e=>se.extBut _ _ D.TOi1.symm (sd.extBut _ _ D.i12 (sc.extBut _ _ D.TOi1.symm e))
 have i2e:fK c2 he i2 l2 (k + 1):=kd.ext fun o e=>se.extBut _ _ D.TOi2.symm e
 have zlt:z < he.objs.size:=Heap.lt_size ze
 refine (wpAny_bind ?_:wpAny _ _ (Builtin.SmallTypes.ownedTupleHandOut (.ref z) (.ref he.objs.size) >>= _) _ _ _)
 unfold Builtin.SmallTypes.ownedTupleHandOut
 have zf:IsZip (he.push { cls:=.type "tuple", data:=.seq #[x,y] }) z TI TO .ellipsis:=Heap.get?_push_of_some _ ze
 refine wpAny_bind (wpAny_setField_rec zf (by simp) fun hg zg sg=>?_)
 replace zg:IsZip hg z TI TO (rawInt he.objs.size):=zg
 refine wpAny_setField_rec zg (by simp) fun hh zh sh=>?_
 replace zh:IsZip hh z TI TO (rawInt he.objs.size):=zh
 have up:∀ c o,c ≠ z -> he.get? c=some o -> hh.get? c=some o:=fun c o n e=>sh.extBut _ _ n (sg.extBut _ _ n (Heap.get?_push_of_some _ e))
 have tp:IsPair hh he.objs.size x y:=sh.extBut _ _ (Nat.ne_of_gt zlt) (sg.extBut _ _ (Nat.ne_of_gt zlt) (Heap.get?_push_size _ rfl))
 rw [ez] at zh tp
 refine wpAny_pure ⟨_,rfl,(?_:Q (.ref he.objs.size) _)⟩
 rw [ez]
 exact hQ hh zh (up _ _ D.TOz Oe) (i1e.ext fun o e=>up _ o D.i1z e) (i2e.ext fun o e=>up _ o D.i2z e) tp fun c o n1 n2 n3 n4 e=>up c o n1 (ke c o n1 n2 n3 n4 e)
theorem Fi {Q:Fin -> Shared -> Prop} (hh:A.handled=none) (D:ZipApart z TI TO i1 i2 l1 l2) (hz:IsZip s.heap z TI TO .none) (hI:IsPair s.heap TI (.ref i1) (.ref i2)) (hO:IsPair s.heap TO a b)
  (h1:fK c1 s.heap i1 l1 k) (h2:fK c2 s.heap i2 l2 k) (g1:iO c1 s.heap l1 xs) (g2:iO c2 s.heap l2 ys) (hend:xs[k]? = none \/ ys[k]? = none)
  (hE:∀ h' e,(∀ c o,c ≠ z -> c ≠ TO -> c ≠ i1 -> c ≠ i2 -> s.heap.get? c=some o -> h'.get? c=some o) -> (∃ o,h'.get? e=some o /\ o.cls=.type "StopIteration") -> E (.ref e) { s with heap:=h' }) :
  wpAny (model prog w) A (Builtin.«zip.__next__» ⟨[.ref z],[]⟩) Q E s:=by
 refine (wpAny_bind (wpAny_field hz rfl (x:=.bool false) rfl ?_):wpAny _ _ (field (.ref z) 2 >>= _) _ _ _)
 refine (wpAny_bind (wpAny_field hz rfl (x:=.ref TI) rfl ?_):wpAny _ _ (field (.ref z) 3 >>= _) _ _ _)
 refine wpAny_bind (wpAny_seqItems hI rfl ?_)
 refine (wpAny_bind ?_:wpAny _ _ (Builtin.SmallTypes.ownedTupleIsFree (.ref z) >>= _) _ _ _)
 unfold Builtin.SmallTypes.ownedTupleIsFree
 refine wpAny_bind (wpAny_field hz rfl (x:=.none) rfl (wpAny_pure ?_))
 simp only [if_true]
 refine wpAny_bind (wpAny_rule (wpAny_bind (wpAny_field hz rfl (x:=.ref TO) rfl (wpAny_bind (wpAny_setField_rec hz (by simp) fun ha za sa=>?_)))))
 replace za:IsZip ha z TI TO .ellipsis:=za
 refine wpAny_bind ?_
 simp only [List.zipIdx_cons,List.zipIdx_nil,List.forIn_cons,List.forIn_nil]
 refine wpAny_bind (wpAny_bind (wpAny_onRaise (?_:wpAny _ _ (Builtin.SmallTypes.nextOf (.ref i1) >>= _) _ _ _)))
 cases hx:xs[k]? with
 | none =>
  refine wpAny_bind (oY hh (h1.ext fun o e=>sa.extBut _ _ D.i1z e) (g1.ext fun o e=>sa.extBut _ _ D.l1z e) hx fun hb e sb eo=>?_)
  obtain ⟨oe,ho,hc⟩:=eo
  have zb:IsZip hb z TI TO .ellipsis:=sb _ _ D.i1z.symm za
  have ne:e ≠ z:=fun q=>by subst q; rw [zb] at ho; cases ho; simp at hc
  exact wpAny_setField_rec zb (by simp) fun hd _ sd=>hE hd e (fun c o n1 _ n3 _ q=>sd.extBut _ _ n1 (sb _ _ n3 (sa.extBut _ _ n1 q))) ⟨oe,sd.extBut _ _ ne ho,hc⟩
 | some x =>
  have hy:ys[k]? = none:=by rcases hend with h | h; rw [hx] at h; cases h; exact h
  refine wpAny_bind (jK (h1.ext fun o e=>sa.extBut _ _ D.i1z e) (g1.ext fun o e=>sa.extBut _ _ D.l1z e) hx fun hb kb sb=>wpAny_pure ?_)
  have Ob:IsPair hb TO a b:=sb.extBut _ _ D.TOi1 (sa.extBut _ _ D.TOz hO)
  refine wpAny_bind (wpAny_seqItems Ob rfl (wpAny_bind (wpAny_updateSeq_pair Ob fun hc Oc sc=>wpAny_bind (wpAny_letGo (wpAny_pure ?_)))))
  refine wpAny_bind (wpAny_bind (wpAny_onRaise (?_:wpAny _ _ (Builtin.SmallTypes.nextOf (.ref i2) >>= _) _ _ _)))
  refine wpAny_bind (oY hh (h2.ext fun o e=>sc.extBut _ _ D.TOi2.symm (sb.extBut _ _ D.i12.symm (sa.extBut _ _ D.i2z e))) (g2.ext fun o e=>sc.extBut _ _ D.l2TO (sb.extBut _ _ D.l2i1 (sa.extBut _ _ D.l2z e))) hy fun hd e sd eo=>?_)
  obtain ⟨oe,ho,hk⟩:=eo
  have zd:IsZip hd z TI TO .ellipsis:=sd _ _ D.i2z.symm (sc.extBut _ _ D.TOz.symm (sb.extBut _ _ D.i1z.symm za))
  have ne:e ≠ z:=fun q=>by subst q; rw [zd] at ho; cases ho; simp at hk
  exact wpAny_setField_rec zd (by simp) fun hf _ sf=>hE hf e (fun c o n1 n2 n3 n4 q=>sf.extBut _ _ n1 (sd _ _ n4 (sc.extBut _ _ n2 (sb.extBut _ _ n3 (sa.extBut _ _ n1 q))))) ⟨oe,sf.extBut _ _ ne ho,hk⟩
theorem uD {Q:Option Value -> Shared -> Prop} (D:ZipApart z TI TO i1 i2 l1 l2) (hz:IsZip s.heap z TI TO .none) (hI:IsPair s.heap TI (.ref i1) (.ref i2)) (hO:IsPair s.heap TO a b)
  (h1:fK c1 s.heap i1 l1 k) (h2:fK c2 s.heap i2 l2 k) (g1:iO c1 s.heap l1 xs) (g2:iO c2 s.heap l2 ys) (hx:xs[k]? = some x) (hy:ys[k]? = some y)
  (hQ:∀ h',IsZip h' z TI TO (rawInt s.heap.objs.size) -> IsPair h' TO x y -> fK c1 h' i1 l1 (k + 1) -> fK c2 h' i2 l2 (k + 1) -> IsPair h' s.heap.objs.size x y ->
   (∀ c o,c ≠ z -> c ≠ TO -> c ≠ i1 -> c ≠ i2 -> s.heap.get? c=some o -> h'.get? c=some o) -> Q (some (.ref s.heap.objs.size)) { s with heap:=h' }):wpAny (model prog w) A (pyNext (.ref z)) Q E s:=by
 have hT:s.TypeIs (.ref z) "zip" := ⟨_,hz,rfl⟩
 unfold pyNext
 exact wpAny_bind (wpAny_attempt (wpAny_callSpecial?_slot (name:=Str.ofString "__next__") hT F.slot_zip_next (wpAny_call_entry F.slot_zip_next hT F.entry_zip_next
  (Df D hz hI hO h1 h2 g1 g2 hx hy fun h' a1 a2 a3 a4 a5 a6=>wpAny_pure (hQ h' a1 a2 a3 a4 a5 a6)) (F.args_zip_next_1 _))))
theorem wD {Q:Option Value -> Shared -> Prop} (hh:A.handled=none) (D:ZipApart z TI TO i1 i2 l1 l2) (hz:IsZip s.heap z TI TO .none) (hI:IsPair s.heap TI (.ref i1) (.ref i2)) (hO:IsPair s.heap TO a b)
  (h1:fK c1 s.heap i1 l1 k) (h2:fK c2 s.heap i2 l2 k) (g1:iO c1 s.heap l1 xs) (g2:iO c2 s.heap l2 ys) (hend:xs[k]? = none \/ ys[k]? = none)
  (hQ:∀ h',(∀ c o,c ≠ z -> c ≠ TO -> c ≠ i1 -> c ≠ i2 -> s.heap.get? c=some o -> h'.get? c=some o) -> Q none { s with heap:=h' }):wpAny (model prog w) A (pyNext (.ref z)) Q E s:=by
 have hT:s.TypeIs (.ref z) "zip" := ⟨_,hz,rfl⟩
 unfold pyNext
 refine wpAny_bind (wpAny_attempt (wpAny_callSpecial?_slot (name:=Str.ofString "__next__") hT F.slot_zip_next (wpAny_call_entry F.slot_zip_next hT F.entry_zip_next
  (Fi hh D hz hI hO h1 h2 g1 g2 hend fun h' e hk eo=>?_) (F.args_zip_next_1 _))))
 obtain ⟨o,ho,hc⟩:=eo
 exact wpAny_bind (wpAny_isInstance (T := "StopIteration") (b:=true) ⟨o,ho,hc⟩ isSubtype_stop (wpAny_pure (hQ _ hk)))
end
open PySem PySem.Spec PyProof.Rows L2
def xF (b:Bool) (l:Addr):Obj:=match b with
 | true=>{ cls:=.type "list_iterator", data:=.fields #[.ref l,.int 0 0] }
 | false=>{ cls:=.type "tuple_iterator", data:=.fields #[.ref l,.int 0 0] }
theorem zt {b:Bool} {l it:Addr} {h:Heap} (e:h.get? it=some (xF b l)):fK b h it l 0:=by
 cases b with
 | true=>exact ⟨_,e,rfl,rfl⟩
 | false=>exact ⟨_,e,rfl,rfl⟩
abbrev Lz (h:Heap) (c1:Bool) (l1:Addr):Heap:=h.push (xF c1 l1)
abbrev LA (h:Heap) (c1 c2:Bool) (l1 l2:Addr):Heap:=(Lz h c1 l1).push (xF c2 l2)
abbrev LB (h:Heap) (c1 c2:Bool) (l1 l2:Addr):Heap:=(LA h c1 c2 l1 l2).push { cls:=.type "tuple", data:=.seq #[.ref h.objs.size,.ref (Lz h c1 l1).objs.size] }
abbrev LC (h:Heap) (c1 c2:Bool) (l1 l2:Addr):Heap:=(LB h c1 c2 l1 l2).push { cls:=.type "tuple", data:=.seq #[.none,.none] }
abbrev Jm (h:Heap) (c1 c2:Bool) (l1 l2:Addr):Heap:=(LC h c1 c2 l1 l2).push { cls:=.type "zip", data:=.fields #[.none,.bool false,.bool false,.ref (LA h c1 c2 l1 l2).objs.size,.ref (LB h c1 c2 l1 l2).objs.size] }
abbrev Bm (c1 c2:Bool) (l1 l2:Addr) (xs ys:Array Value):Prop:=Meets (Builtin.«zip.__new__» ⟨[.type "zip", .ref l1,.ref l2],[]⟩) (fun _ R s=>iO c1 s.heap l1 xs /\ iO c2 s.heap l2 ys /\
   R (.ok (.ret (.ref (LC s.heap c1 c2 l1 l2).objs.size))) { s with heap:=Jm s.heap c1 c2 l1 l2 })
theorem yw (l1 l2:Addr) (xs ys:Array Value):Bm true true l1 l2 xs ys:=.of_wp fun prog w A R s h=>by
 obtain ⟨hp,g,d,tk,os⟩:=s
 obtain ⟨q1,q2,h⟩:=h
 have hsub:=sub_zip
 have p1:Heap.IsList (Shared.heap ⟨hp,g,d,tk,os⟩) l1 xs:=q1
 have p2:Heap.IsList (Shared.heap ⟨hp.push { cls:=.type "list_iterator", data:=.fields #[.ref l1,.int 0 0] },g,d,tk,os⟩) l2 ys:=Heap.IsList.push q2 _
 wp_walk using wpAny_pyIter_list p1,wpAny_pyIter_list p2
 exact ⟨_,rfl,h⟩
theorem yu (l1 l2:Addr) (xs ys:Array Value):Bm true false l1 l2 xs ys:=.of_wp fun prog w A R s h=>by
 obtain ⟨hp,g,d,tk,os⟩:=s
 obtain ⟨q1,q2,h⟩:=h
 have hsub:=sub_zip
 have p1:Heap.IsList (Shared.heap ⟨hp,g,d,tk,os⟩) l1 xs:=q1
 have p2:Heap.IsTuple (Shared.heap ⟨hp.push { cls:=.type "list_iterator", data:=.fields #[.ref l1,.int 0 0] },g,d,tk,os⟩) l2 ys:=Heap.IsTuple.push q2 _
 wp_walk using wpAny_pyIter_list p1,wpAny_pyIter_tuple p2
 exact ⟨_,rfl,h⟩
theorem yt (l1 l2:Addr) (xs ys:Array Value):Bm false true l1 l2 xs ys:=.of_wp fun prog w A R s h=>by
 obtain ⟨hp,g,d,tk,os⟩:=s
 obtain ⟨q1,q2,h⟩:=h
 have hsub:=sub_zip
 have p1:Heap.IsTuple (Shared.heap ⟨hp,g,d,tk,os⟩) l1 xs:=q1
 have p2:Heap.IsList (Shared.heap ⟨hp.push { cls:=.type "tuple_iterator", data:=.fields #[.ref l1,.int 0 0] },g,d,tk,os⟩) l2 ys:=Heap.IsList.push q2 _
 wp_walk using wpAny_pyIter_tuple p1,wpAny_pyIter_list p2
 exact ⟨_,rfl,h⟩
theorem yr (l1 l2:Addr) (xs ys:Array Value):Bm false false l1 l2 xs ys:=.of_wp fun prog w A R s h=>by
 obtain ⟨hp,g,d,tk,os⟩:=s
 obtain ⟨q1,q2,h⟩:=h
 have hsub:=sub_zip
 have p1:Heap.IsTuple (Shared.heap ⟨hp,g,d,tk,os⟩) l1 xs:=q1
 have p2:Heap.IsTuple (Shared.heap ⟨hp.push { cls:=.type "tuple_iterator", data:=.fields #[.ref l1,.int 0 0] },g,d,tk,os⟩) l2 ys:=Heap.IsTuple.push q2 _
 wp_walk using wpAny_pyIter_tuple p1,wpAny_pyIter_tuple p2
 exact ⟨_,rfl,h⟩
theorem qA (c1 c2:Bool) (l1 l2:Addr) (xs ys:Array Value):Bm c1 c2 l1 l2 xs ys:=by
 cases c1 <;> cases c2
 ·exact yr l1 l2 xs ys
 ·exact yt l1 l2 xs ys
 ·exact yu l1 l2 xs ys
 ·exact yw l1 l2 xs ys
section
variable {prog:Program} {w:World} {A:Around} {E:Value -> Shared -> Prop} {s:Shared}
theorem Bt {c1 c2:Bool} {l1 l2:Addr} {xs ys:Array Value} {Q:Value -> Shared -> Prop} (q1:iO c1 s.heap l1 xs) (q2:iO c2 s.heap l2 ys)
  (h:∀ h',IsZip h' (s.heap.objs.size + 4) (s.heap.objs.size + 2) (s.heap.objs.size + 3) .none -> IsPair h' (s.heap.objs.size + 2) (.ref s.heap.objs.size) (.ref (s.heap.objs.size + 1)) ->
   IsPair h' (s.heap.objs.size + 3) .none .none -> fK c1 h' s.heap.objs.size l1 0 -> fK c2 h' (s.heap.objs.size + 1) l2 0 -> (∀ c o,s.heap.get? c=some o -> h'.get? c=some o) -> Q (.ref (s.heap.objs.size + 4)) { s with heap:=h' }) :
  wpAny (model prog w) A (call (.type "zip") [.ref l1,.ref l2]) Q E s:=by
 refine callType_new F.called_zip (by decide) (F.typeCall_zip_2 _ _) (F.newCall_zip_2 _ _) (fun obj=>F.args_object_init_3 obj _ _) F.entry_zip_new (qA c1 c2 l1 l2 xs ys) ⟨q1,q2,?_⟩
 have z1:(Lz s.heap c1 l1).objs.size=s.heap.objs.size + 1:=Heap.size_push ..
 have z2:(LA s.heap c1 c2 l1 l2).objs.size=s.heap.objs.size + 2:=by rw [Heap.size_push,z1]
 have z3:(LB s.heap c1 c2 l1 l2).objs.size=s.heap.objs.size + 3:=by rw [Heap.size_push,z2]
 have z4:(LC s.heap c1 c2 l1 l2).objs.size=s.heap.objs.size + 4:=by rw [Heap.size_push,z3]
 have p:∀ {h:Heap} {o:Obj} {c:Addr} {u:Obj},h.get? c=some u -> (h.push o).get? c=some u:=fun e=>Heap.get?_push_of_some _ e
 have n1:(xF c1 l1).isFreed=false:=by cases c1 <;> rfl
 have n2:(xF c2 l2).isFreed=false:=by cases c2 <;> rfl
 have g5:(Jm s.heap c1 c2 l1 l2).get? (LC s.heap c1 c2 l1 l2).objs.size=some _:=Heap.get?_push_size _ rfl
 have g4:(Jm s.heap c1 c2 l1 l2).get? (LB s.heap c1 c2 l1 l2).objs.size=some _:=p (Heap.get?_push_size _ rfl)
 have g3:(Jm s.heap c1 c2 l1 l2).get? (LA s.heap c1 c2 l1 l2).objs.size=some _:=p (p (Heap.get?_push_size _ rfl))
 have g2:(Jm s.heap c1 c2 l1 l2).get? (Lz s.heap c1 l1).objs.size=some (xF c2 l2):=p (p (p (Heap.get?_push_size _ n2)))
 have g1:(Jm s.heap c1 c2 l1 l2).get? s.heap.objs.size=some (xF c1 l1):=p (p (p (p (Heap.get?_push_size _ n1))))
 show _ /\ _
 rw [z2,z3,z4] at g5
 rw [z1,z2] at g3
 rw [z3] at g4
 rw [z1] at g2
 rw [z4]
 exact ⟨⟨_,g5,rfl⟩,h _ g5 g3 g4 (zt g1) (zt g2) fun c o x=>p (p (p (p (p x))))⟩
end
def uI (b:Bool) (K:PySem.W.Frag) (H:Hp) (a:Addr) (xs:List V):Prop:=match b with
 | true=>iA K H a xs
 | false=>lu K H a xs
def LI (K:PySem.W.Frag) (c1 c2:Bool) (l1 l2:Addr):It:=
  ⟨fun i H=>∃ xs ys x y,uI c1 K H l1 xs /\ uI c2 K H l2 ys /\ xs[i]? = some x /\ ys[i]? = some y,
   fun i H v H'=>∃ p x y,v=.ref p /\ H p=none /\ H'=upd H p (.tup [x,y]) /\ (∀ xs,uI c1 K H l1 xs -> xs[i]? = some x) /\ ∀ ys,uI c2 K H l2 ys -> ys[i]? = some y,
   fun i H=>∃ xs ys,uI c1 K H l1 xs /\ uI c2 K H l2 ys /\ (xs.length ≤ i \/ ys.length ≤ i)⟩
section
variable {X:Cx} {pins:List (Addr × Obj)} {σ:L2.St} {H:Hp} {s:Shared}
theorem mW {b:Bool} {a:Addr} {xs:List V} (I:Inv X pins σ H s) (h:uI b X.K H a xs):∃ its:List Value,Vals xs its /\ iO b s.heap a its.toArray:=by
 cases b with
 | true=>obtain ⟨its,r,p,_⟩:=I.list h; exact ⟨its,r,p.isList⟩
 | false=>obtain ⟨its,r,p,_⟩:=I.tuple h; exact ⟨its,r,p⟩
theorem zV {b:Bool} {a:Addr} {xs ys:List V} (I:Inv X pins σ H s) (h:uI b X.K H a xs) (h':uI b X.K H a ys):xs=ys:=by
 cases b with
 | true=>exact I.list_inj h h'
 | false=>exact I.tuple_inj h h'
end
structure M0 (c1 c2:Bool) (z TI TO i1 i2 l1 l2:Addr) (i:Nat) (h:Heap):Prop where
 hz:IsZip h z TI TO .none
 hI:IsPair h TI (.ref i1) (.ref i2)
 hO:∃ a b,IsPair h TO a b
 h1:fK c1 h i1 l1 i
 h2:fK c2 h i2 l2 i
theorem yo {X:Cx} {pins:List (Addr × Obj)} {σ:L2.St} {H:Hp} {s:Shared} {h':Heap} {fp:List Addr} (I:Inv X pins σ H s) (hf:∀ b ∈ fp,p8 X pins H b) (k:∀ b o,b ∉ fp -> s.heap.get? b=some o -> h'.get? b=some o):Inv X pins σ H { s with heap:=h' }:=by
 have nit:∀ b u,H b=some u -> b ∉ fp:=fun b u e z=>by rw [(hf b z).1] at e; cases e
 refine I.step (g':=s.gens) (d':=s.drawn) (t':=s.toks) (ch:=fp) (fun b hb=>?_) (fun b o _ _ hc e _=>k b o hc e) (fun b o _ _ hc e _=>⟨o.slots,k b o hc e⟩) (fun _ _ _ _ n=>n)
  (fun b o hc e=>⟨o,k b o hc e⟩) (fun _ _ e=>e) (fun _ _ _ e=>e) (fun b ps e=>⟨#[],by rw [e]; simp⟩) (fun m hm=>?_) (fun b u e=>?_) I.bare
 ·obtain ⟨_,f1,_,f3,f4,f5⟩:=hf b hb
  exact ⟨f3,f1,f4,f5⟩
 ·obtain ⟨o,es,ep,ho,r⟩:=hm
  exact ⟨o,es,ep,k _ o (fun z=>(hf _ z).2.1 rfl) ho,r⟩
 ·refine (I.hok b u e).stay (fun c v hc q=>k c v ?_ q) (fun _ q=>q) fun _ _ q=>q
  rcases hc with z | z
  ·rw [z]; exact nit b u e
  ·exact nit c _ z
theorem C6 {P:Program} {w:World} {K:PySem.W.Frag} {elts:List Expr} {kx:Nat} {px:Pos} {c1 c2:Bool} {z TI TO i1 i2 l1 l2:Addr} (D:ZipApart z TI TO i1 i2 l1 l2) :
  Turn P w K (.Tuple elts kx px) (LI K c1 c2 l1 l2) [z,TI,TO,i1,i2] z (M0 c1 c2 z TI TO i1 i2 l1 l2) where
 mem:=by simp
 obj:=fun i h st b hb=>by
  simp only [List.mem_cons,List.not_mem_nil,or_false] at hb
  rcases hb with rfl | rfl | rfl | rfl | rfl
  ·exact ⟨_,st.hz,fun v q=>nomatch (show Data.fields _=Data.cell v from q)⟩
  ·exact ⟨_,st.hI,fun v q=>nomatch (show Data.seq _ _=Data.cell v from q)⟩
  ·obtain ⟨a,b,e⟩:=st.hO
   exact ⟨_,e,fun v q=>nomatch (show Data.seq _ _=Data.cell v from q)⟩
  ·exact st.h1.obj
  ·exact st.h2.obj
 keep:=fun i h h' st k=>by
  obtain ⟨a,b,e⟩:=st.hO
  exact ⟨k z (by simp) _ st.hz,k TI (by simp) _ st.hI,⟨a,b,k TO (by simp) _ e⟩,st.h1.ext fun o e=>k i1 (by simp) o e,st.h2.ext fun o e=>k i2 (by simp) o e⟩
 item:=fun X hP hw hK hc i pins s σ H E I hf st hg=>by
  subst hP hw hK
  obtain ⟨xs,ys,x,y,q1,q2,g1,g2⟩:=hg
  obtain ⟨its,r1,p1⟩:=mW I q1
  obtain ⟨jts,r2,p2⟩:=mW I q2
  obtain ⟨u,e1,ru⟩:=r1.get g1
  obtain ⟨v,e2,rv⟩:=r2.get g2
  obtain ⟨a,b,hO⟩:=st.hO
  refine uD D st.hz st.hI hO st.h1 st.h2 p1 p2 (x:=u) (y:=v) (by simpa using e1) (by simpa using e2) fun h' a1 a2 a3 a4 a5 a6=>⟨_,rfl,?_⟩
  refine wpAny_letOwnedTupleGo_zip (s:={ s with heap:=h' }) a1 fun h2 b1 b2=>?_
  have kp:∀ b o,b ∉ [z,TI,TO,i1,i2] -> s.heap.get? b=some o -> h2.get? b=some o:=fun b o hb e=>by
   simp only [List.mem_cons,List.not_mem_nil,or_false,not_or] at hb
   exact b2.extBut _ _ hb.1 (a6 b o hb.1 hb.2.2.1 hb.2.2.2.1 hb.2.2.2.2 e)
  have lz:z < s.heap.objs.size:=Heap.lt_size st.hz
  have pr:IsPair h2 s.heap.objs.size u v:=b2.extBut _ _ (Nat.ne_of_gt lz) a5
  have fr:H s.heap.objs.size=none:=I.hok.fresh (Nat.le_refl _)
  have hokA:m5 X.prog X.w (upd H s.heap.objs.size (.tup [x,y])) h2:=by
   intro c o e
   by_cases hcz:c=s.heap.objs.size
   ·subst hcz
    rw [aU] at e; cases e
    exact ⟨by show 2 ≤ sizeLine; decide,[u,v],.cons ru (.cons rv .nil),_,pr,rfl,_,rfl⟩
   ·rw [aK hcz] at e
    have nf:∀ d o',H d=some o' -> d ∉ [z,TI,TO,i1,i2]:=fun d o' ed hd=>by rw [(hf d hd).1] at ed; cases ed
    have up:∀ d o',H d=some o' -> upd H s.heap.objs.size (.tup [x,y]) d=some o':=fun d o' ed=>by rw [aK (bA ed fr)]; exact ed
    refine (I.hok c o e).stay (fun d v' hd q=>kp d v' ?_ q) (fun d q=>up d _ q) fun d xs q=>up d _ q
    rcases hd with rfl | hd
    ·exact nf _ o e
    ·exact nf d _ hd
  have J:Inv X pins σ (upd H s.heap.objs.size (.tup [x,y])) { s with heap:=h2 }:=by
   have ne:∀ b o,s.heap.get? b=some o -> b ≠ s.heap.objs.size:=fun b o e=>Nat.ne_of_lt (Heap.lt_size e)
   refine I.step (g':=s.gens) (d':=s.drawn) (t':=s.toks) (ch:=[z,TI,TO,i1,i2]) (fun b hb=>?_) (fun b o _ _ hc e _=>kp b o hc e) (fun b o _ _ hc e _=>⟨o.slots,kp b o hc e⟩) (fun b o _ e n=>by rw [aK (ne b o e)]; exact n)
    (fun b o hc e=>⟨o,kp b o hc e⟩) (fun b xs e=>by rw [aK (bA e fr)]; exact e) (fun b o u e=>by rw [aK (bA e fr)]; exact e) (fun b ps e=>⟨#[],by rw [aK (bA e fr),e]; simp⟩) (fun m hm=>?_) hokA I.bare
   ·obtain ⟨_,f1,_,f3,f4,f5⟩:=hf b hb
    exact ⟨f3,f1,f4,f5⟩
   ·obtain ⟨o,es,ep,ho,r⟩:=hm
    exact ⟨o,es,ep,kp _ o (fun q=>(hf _ q).2.1 rfl) ho,r⟩
  refine ⟨.ref s.heap.objs.size,_,J,rfl,⟨_,x,y,rfl,fr,rfl,fun xs' h=>by rw [zV I h q1]; exact g1,fun ys' h=>by rw [zV I h q2]; exact g2⟩,?_,fun b hb=>?_⟩
  ·exact ⟨b1,b2.extBut _ _ D.TIz (a6 _ _ D.TIz D.TITO D.TIi1 D.TIi2 st.hI),⟨_,_,b2.extBut _ _ D.TOz a2⟩,a3.ext fun o e=>b2.extBut _ _ D.i1z e,a4.ext fun o e=>b2.extBut _ _ D.i2z e⟩
  ·obtain ⟨o,e,_⟩:∃ o,s.heap.get? b=some o /\ True:=by
    simp only [List.mem_cons,List.not_mem_nil,or_false] at hb
    rcases hb with rfl | rfl | rfl | rfl | rfl
    ·exact ⟨_,st.hz,trivial⟩
    ·exact ⟨_,st.hI,trivial⟩
    ·exact ⟨_,hO,trivial⟩
    ·obtain ⟨o,e,_⟩:=st.h1.obj; exact ⟨o,e,trivial⟩
    ·obtain ⟨o,e,_⟩:=st.h2.obj; exact ⟨o,e,trivial⟩
   rw [aK (Nat.ne_of_lt (Heap.lt_size e))]
   exact (hf b hb).1
 done:=fun X hP hw hK hc i pins s σ H E I hf st hg=>by
  subst hP hw hK
  obtain ⟨xs,ys,q1,q2,g⟩:=hg
  obtain ⟨its,r1,p1⟩:=mW I q1
  obtain ⟨jts,r2,p2⟩:=mW I q2
  obtain ⟨a,b,hO⟩:=st.hO
  have n1:=r1.length
  have n2:=r2.length
  refine wD (I.ok.hd hc) D st.hz st.hI hO st.h1 st.h2 p1 p2 ?_ fun h' k=>⟨rfl,yo I hf fun b o hb e=>?_⟩
  ·rcases g with g | g
   ·exact .inl (by simp; omega)
   ·exact .inr (by simp; omega)
  ·simp only [List.mem_cons,List.not_mem_nil,or_false,not_or] at hb
   exact k b o hb.1 hb.2.2.1 hb.2.2.2.1 hb.2.2.2.2 e
 self:=fun _ _ _ _ _ st h=>wpAny_pyIter_zip st.hz h
open PySem PySem.Spec PyProof.Rows L2
def KJ:T -> Option (Bool × List T)
 | .lst ts=>some (true,ts)
 | .scr ts=>some (true,ts)
 | .tup ts=>some (false,ts)
 | _=>none
theorem zU {K:PySem.W.Frag} {F:Hp} {t:T} {v:V} {b:Bool} {ts:List T} (r:Rep K F t v) (e:KJ t=some (b,ts)):∃ a xs,v=.ref a /\ uI b K F a xs /\ aV K F ts xs:=by
 cases t <;> simp only [KJ] at e <;> cases e
 ·exact r
 ·obtain ⟨a,xs,h1,h2,h3⟩:=r
  exact ⟨a,xs,h1,iA.of h2,h3⟩
 ·exact r
theorem uI.same {b:Bool} {K:PySem.W.Frag} {H H':Hp} {a:Addr} {xs:List V} (s:aQ H H') (h:uI b K H a xs):uI b K H' a xs:=by
 cases b with
 | true=>exact s.seq h
 | false=>exact cw s h
def ji:List T -> List T -> List T
 | x :: xs,y :: ys=>.tup [x,y] :: ji xs ys
 | _,_=>[]
theorem nr:∀ (xs ys:List T),(ji xs ys).length=min xs.length ys.length
 | [],_=>by simp [ji]
 | _ :: _,[]=>by simp [ji]
 | x :: xs,y :: ys=>by simp [ji,nr xs ys]
theorem pU:∀ (xs ys:List T) (i:Nat) (t:T),(ji xs ys)[i]? = some t -> ∃ x y,xs[i]? = some x /\ ys[i]? = some y /\ t=.tup [x,y]
 | [],_,i,t,e=>by simp [ji] at e
 | _ :: _,[],i,t,e=>by simp [ji] at e
 | x :: xs,y :: ys,0,t,e=>by simp [ji] at e; exact ⟨x,y,rfl,rfl,e.symm⟩
 | x :: xs,y :: ys,i + 1,t,e=>by
  obtain ⟨a,b,h1,h2,h3⟩:=pU xs ys i t (by simpa [ji] using e)
  exact ⟨a,b,by simpa using h1,by simpa using h2,h3⟩
theorem Bg {K:PySem.W.Frag} {F:Hp} {c1 c2:Bool} {l1 l2:Addr} {xs ys:List V} {ts us:List T} (h1:uI c1 K F l1 xs) (r1:aV K F ts xs) (h2:uI c2 K F l2 ys) (r2:aV K F us ys):Walks K F (ji ts us) (LI K c1 c2 l1 l2):=by
 refine ⟨fun i t F1 H1 e s1 s2=>?_,fun i t F1 H1 x H2 e s1 s2 y=>?_,fun F1 H1 s1 s2=>⟨xs,ys,h1.same (s1.trans s2),h2.same (s1.trans s2),?_⟩⟩
 ·obtain ⟨a,b,e1,e2,rfl⟩:=pU ts us i t e
  obtain ⟨v,g1,_⟩:=r1.get e1
  obtain ⟨w,g2,_⟩:=r2.get e2
  exact ⟨xs,ys,v,w,h1.same (s1.trans s2),h2.same (s1.trans s2),g1,g2⟩
 ·obtain ⟨p,v,w,rfl,hp,rfl,q1,q2⟩:=y
  obtain ⟨a,b,e1,e2,rfl⟩:=pU ts us i t e
  obtain ⟨v',g1,k1⟩:=r1.get e1
  obtain ⟨w',g2,k2⟩:=r2.get e2
  have m1:=q1 xs (h1.same (s1.trans s2))
  have m2:=q2 ys (h2.same (s1.trans s2))
  rw [g1] at m1; cases m1
  rw [g2] at m2; cases m2
  have gr:=bx.new (.tup [v,w]) s2 hp
  exact ⟨_,gr,p,_,rfl,lu.of aU,v,[w],rfl,Rep.mono (s1.trans gr.sF) k1,w,[],rfl,Rep.mono (s1.trans gr.sF) k2,rfl⟩
 ·rw [nr,r1.length,r2.length]
  omega
def gq (g:FA):FA:=fun τ=>(g τ).bind fun p=>match p.1 with
 | [a,b]=>(KJ a).bind fun x=>(KJ b).bind fun y=>some (ji x.2 y.2,p.2)
 | _=>none
theorem pH {X:Cx} {a b:Expr} {p pos:Pos} {ga:FA} {elts:List Expr} {kx:Nat} {px:Pos} (hg:Gl X "zip") (hm:X.mg "zip" = none) (ha:SA X [a,b] ga) (hs:starEach [a,b] X.env=(false,eval a X.env) :: starEach [b] X.env:=by rfl)
  (hs2:(backTo pos (starEach [b] X.env)).any (·.1)=false:=by rfl):SI X (.Tuple elts kx px) (.Call (.Name "zip" p) [a,b] [] pos) (gq ga):=by
 intro F₀ H₀ pins s σ H R I ⟨F,τ,ts,τ',E,e1,q⟩
 obtain ⟨⟨x,τ1⟩,e2,e1⟩:=bind_some e1
 dsimp only at e1
 split at e1
 ·next t u =>
  obtain ⟨⟨c1,us⟩,e3,e1⟩:=bind_some e1
  obtain ⟨⟨c2,ws⟩,e4,e1⟩:=bind_some e1
  cases e1
  refine Call_ (mH I hg hm (show bootBuiltins "zip" = some (.type "zip") from rfl) (PyProof.Rows.callWith_type1 (dh (ha F₀ H₀ pos pins s σ H (fun vs H'=>∃ l1 l2 xs ys,vs=[.ref l1,.ref l2] /\ uI c1 X.K H' l1 xs /\ uI c2 X.K H' l2 ys /\ R (LI X.K c1 c2 l1 l2) H') I ⟨F,τ,_,_,E,e2,fun F' H' vs E' s' r'=>?_⟩) fun vs s1 ⟨ws',H1,I1,r1,q1⟩=>?_) hs hs2))
  ·obtain ⟨v1,r1,rfl,k1,v2,r2,rfl,k2,rfl⟩:=r'
   obtain ⟨l1,xs,rfl,h1,h2⟩:=zU k1 e3
   obtain ⟨l2,ys,rfl,h3,h4⟩:=zU k2 e4
   exact ⟨l1,l2,xs,ys,rfl,h1.same E'.g.fh,h3.same E'.g.fh,q F' H' _ E' s' (Bg h1 h2 h3 h4)⟩
  ·obtain ⟨l1,l2,xs,ys,rfl,h1,h2,q1⟩:=q1
   cases r1 with
   | cons ra rr =>
    cases rr with
    | cons rb rr =>
     cases rr; cases ra; cases rb
     obtain ⟨its,_,p1⟩:=mW I1 h1
     obtain ⟨jts,_,p2⟩:=mW I1 h2
     refine Bt p1 p2 fun h' a1 a2 a3 a4 a5 kp=>wpAny_pyIter_zip (s:={ s1 with heap:=h' }) a1 ?_
     have lt:∀ {c:Bool} {l:Addr} {zs:Array Value},iO c s1.heap l zs -> l < s1.heap.objs.size:=fun {c l zs} h=>by
      cases c with
      | true=>obtain ⟨o,e,_⟩:=h; exact Heap.lt_size e
      | false=>obtain ⟨o,e,_⟩:=h; exact Heap.lt_size e
     have n1:@LT.lt Nat _ l1 s1.heap.objs.size:=lt p1
     have n2:@LT.lt Nat _ l2 s1.heap.objs.size:=lt p2
     have J:Inv X pins σ H1 { s1 with heap:=h' }:=I1.kept (t':=s1.toks) kp
     refine ⟨_,[_,_,_,_,_],_,_,H1,rfl,J,C6 (c1:=c1) (c2:=c2) (z:=s1.heap.objs.size + 4) (TI:=s1.heap.objs.size + 2) (TO:=s1.heap.objs.size + 3) (i1:=s1.heap.objs.size) (i2:=s1.heap.objs.size + 1) (l1:=l1) (l2:=l2) ?_,⟨a1,a2,⟨_,_,a3⟩,a4,a5⟩,fun b hb=>?_,q1⟩
     ·constructor <;> (refine (?_:@Ne Nat _ _); omega)
     ·have hb':s1.heap.objs.size ≤ b:=by
       simp only [List.mem_cons,List.not_mem_nil,or_false] at hb
       rcases hb with rfl | rfl | rfl | rfl | rfl <;> omega
      exact I1.fpOk hb' (I1.hok.fresh hb')
 ·cases e1
open PySem PySem.Spec PyProof.Rows L2
theorem vx:bN [.non,.ty "int"]=some (.bl false):=rfl
theorem sP:bN [.non,.ty "bool"]=some (.bl false):=rfl
theorem vy:bN [.non,.ty "str"]=some (.bl false):=rfl
theorem sR:bN [.non,.ty "list"]=some (.bl false):=rfl
theorem qh:bN [.non,.ty "tuple"]=some (.bl false):=rfl
theorem sQ:bN [.non,.ty "dict"]=some (.bl false):=rfl
theorem xB:bN [.non,.tup [.ty "list", .ty "tuple"]]=some (.bl false):=rfl
theorem xq {b:Bool}:bN [(.bl b),.ty "int"]=some (.bl true):=rfl
theorem vk {b:Bool}:bN [(.bl b),.ty "bool"]=some (.bl true):=rfl
theorem xr {b:Bool}:bN [(.bl b),.ty "str"]=some (.bl false):=rfl
theorem vn {b:Bool}:bN [(.bl b),.ty "list"]=some (.bl false):=rfl
theorem sC {b:Bool}:bN [(.bl b),.ty "tuple"]=some (.bl false):=rfl
theorem vm {b:Bool}:bN [(.bl b),.ty "dict"]=some (.bl false):=rfl
theorem AL {b:Bool}:bN [(.bl b),.tup [.ty "list", .ty "tuple"]]=some (.bl false):=rfl
theorem vq {i:Int}:bN [(.int i),.ty "int"]=some (.bl true):=rfl
theorem sI {i:Int}:bN [(.int i),.ty "bool"]=some (.bl false):=rfl
theorem vt {i:Int}:bN [(.int i),.ty "str"]=some (.bl false):=rfl
theorem sL {i:Int}:bN [(.int i),.ty "list"]=some (.bl false):=rfl
theorem qf {i:Int}:bN [(.int i),.ty "tuple"]=some (.bl false):=rfl
theorem sJ {i:Int}:bN [(.int i),.ty "dict"]=some (.bl false):=rfl
theorem xv {i:Int}:bN [(.int i),.tup [.ty "list", .ty "tuple"]]=some (.bl false):=rfl
theorem vB {x:Str}:bN [(.str x),.ty "int"]=some (.bl false):=rfl
theorem sW {x:Str}:bN [(.str x),.ty "bool"]=some (.bl false):=rfl
theorem vC {x:Str}:bN [(.str x),.ty "str"]=some (.bl true):=rfl
theorem sY {x:Str}:bN [(.str x),.ty "list"]=some (.bl false):=rfl
theorem qj {x:Str}:bN [(.str x),.ty "tuple"]=some (.bl false):=rfl
theorem sX {x:Str}:bN [(.str x),.ty "dict"]=some (.bl false):=rfl
theorem xD {x:Str}:bN [(.str x),.tup [.ty "list", .ty "tuple"]]=some (.bl false):=rfl
theorem vD {ts:List T}:bN [(.tup ts),.ty "int"]=some (.bl false):=rfl
theorem sZ {ts:List T}:bN [(.tup ts),.ty "bool"]=some (.bl false):=rfl
theorem vF {ts:List T}:bN [(.tup ts),.ty "str"]=some (.bl false):=rfl
theorem tj {ts:List T}:bN [(.tup ts),.ty "list"]=some (.bl false):=rfl
theorem qk {ts:List T}:bN [(.tup ts),.ty "tuple"]=some (.bl true):=rfl
theorem tf {ts:List T}:bN [(.tup ts),.ty "dict"]=some (.bl false):=rfl
theorem xE {ts:List T}:bN [(.tup ts),.tup [.ty "list", .ty "tuple"]]=some (.bl true):=rfl
theorem vv {ts:List T}:bN [(.lst ts),.ty "int"]=some (.bl false):=rfl
theorem sM {ts:List T}:bN [(.lst ts),.ty "bool"]=some (.bl false):=rfl
theorem vw {ts:List T}:bN [(.lst ts),.ty "str"]=some (.bl false):=rfl
theorem sO {ts:List T}:bN [(.lst ts),.ty "list"]=some (.bl true):=rfl
theorem qg {ts:List T}:bN [(.lst ts),.ty "tuple"]=some (.bl false):=rfl
theorem sN {ts:List T}:bN [(.lst ts),.ty "dict"]=some (.bl false):=rfl
theorem xy {ts:List T}:bN [(.lst ts),.tup [.ty "list", .ty "tuple"]]=some (.bl true):=rfl
theorem vz {ts:List T}:bN [(.scr ts),.ty "int"]=some (.bl false):=rfl
theorem sS {ts:List T}:bN [(.scr ts),.ty "bool"]=some (.bl false):=rfl
theorem vA {ts:List T}:bN [(.scr ts),.ty "str"]=some (.bl false):=rfl
theorem sV {ts:List T}:bN [(.scr ts),.ty "list"]=some (.bl true):=rfl
theorem qi {ts:List T}:bN [(.scr ts),.ty "tuple"]=some (.bl false):=rfl
theorem sT {ts:List T}:bN [(.scr ts),.ty "dict"]=some (.bl false):=rfl
theorem xC {ts:List T}:bN [(.scr ts),.tup [.ty "list", .ty "tuple"]]=some (.bl true):=rfl
theorem vo:bN [.dic,.ty "int"]=some (.bl false):=rfl
theorem sD:bN [.dic,.ty "bool"]=some (.bl false):=rfl
theorem vp:bN [.dic,.ty "str"]=some (.bl false):=rfl
theorem sG:bN [.dic,.ty "list"]=some (.bl false):=rfl
theorem qe:bN [.dic,.ty "tuple"]=some (.bl false):=rfl
theorem sE:bN [.dic,.ty "dict"]=some (.bl true):=rfl
theorem xu:bN [.dic,.tup [.ty "list", .ty "tuple"]]=some (.bl false):=rfl
theorem lN (i j:Int):fX (.int i) (.int j)=some (.bl (decide (i=j))):=by
 show some (T.bl (i == j))=_
 rw [Bool.beq_eq_decide_eq]
theorem zj (i j:Int):jI (.int i) (.int j)=some (.bl (!decide (i=j))):=by
 show some (T.bl (!(i == j)))=_
 rw [Bool.beq_eq_decide_eq]
theorem Hb (i j:Bool):fX (.bl i) (.bl j)=some (.bl (i == j)):=rfl
theorem Hf (i j:Bool):jI (.bl i) (.bl j)=some (.bl (!(i == j))):=rfl
theorem Ak (i j:Int):yx i j ↔ (¬ j=0 /\ j.natAbs < B):=Iff.rfl
theorem Al (i j:Int):yy i j ↔ (i.natAbs < B /\ j.natAbs < B):=Iff.rfl
theorem Du (i j:Int):K9 i j ↔ ¬ j=0:=Iff.rfl
theorem cg {n:Nat} (h:n ≤ 1000):n ≤ sizeLine:=Nat.le_of_lt (iL h)
theorem ML:(0:Nat) ≤ sizeLine:=cg (by decide)
theorem MM:(1:Nat) ≤ sizeLine:=cg (by decide)
theorem J6:(2:Nat) ≤ sizeLine:=cg (by decide)
theorem M9:(3:Nat) ≤ sizeLine:=cg (by decide)
theorem L8:(4:Nat) ≤ sizeLine:=cg (by decide)
theorem BP {x y:T}:bC (.tup [x,y]) (.int 0)=some x:=rfl
theorem BQ {x y:T}:bC (.tup [x,y]) (.int 1)=some y:=rfl
theorem BN {x y:T}:bC (.lst [x,y]) (.int 0)=some x:=rfl
theorem BO {x y:T}:bC (.lst [x,y]) (.int 1)=some y:=rfl
theorem Bx (a:Int):uR [.int a]=some (.int (a.natAbs:Int)):=by
 have e:(if a < 0 then -a else a)=(a.natAbs:Int):=by split <;> omega
 simp only [uR,e]
theorem Jz:(2 ^ 64:Nat) < B:=by decide +kernel
open PySem PySem.Spec PyProof.Rows L2
theorem fW (a:Int) {b:Int} (h:0 < b):0 ≤ a.fmod b /\ a.fmod b < b:=⟨Int.fmod_nonneg_of_pos _ h,Int.fmod_lt_of_pos _ h⟩
theorem Gp {n:Nat} (h:n < 2 ^ 64):((n:Int)).natAbs < B:=by have:=Jz; omega
def intsOf:List T -> Option (List Int)
 | []=>some []
 | .int i :: ts=>(intsOf ts).bind fun ns=>some (i :: ns)
 | _ :: _=>none
theorem kR:∀ ns:List Int,intsOf (ns.map T.int)=some ns
 | []=>rfl
 | n :: ns=>by simp [intsOf,kR ns]
theorem kQ:∀ {ts:List T} {ns:List Int},intsOf ts=some ns -> ts=ns.map T.int
 | [],ns,h=>by cases h; rfl
 | .int i :: ts,ns,h=>by
  obtain ⟨ms,e,h⟩:=bind_some h
  cases h
  rw [kQ e]; rfl
 | .non :: _,_,h=>by cases h
 | .bl _ :: _,_,h=>by cases h
 | .str _ :: _,_,h=>by cases h
 | .ty _ :: _,_,h=>by cases h
 | .tup _ :: _,_,h=>by cases h
 | .lst _ :: _,_,h=>by cases h
 | .scr _ :: _,_,h=>by cases h
 | .dic :: _,_,h=>by cases h
 | .obj _ _ _ :: _,_,h=>by cases h
 | .ptr _ :: _,_,h=>by cases h
 | .exc _ :: _,_,h=>by cases h
theorem D5 {ns:List Int} {k:Int} (h0:0 ≤ k) (h1:k < (ns.length:Int)):bC (.scr (ns.map T.int)) (.int k)=some (.int (ns.getD k.toNat 0)):=by
 show qB (ns.map T.int) k=_
 obtain ⟨j,rfl⟩:=Int.eq_ofNat_of_zero_le h0
 have hk:j < ns.length:=by omega
 refine rF ?_
 rw [List.getElem?_map,List.getElem?_eq_getElem hk]
 simp [List.getD,List.getElem?_eq_getElem hk]
open PySem PySem.Spec PyProof.Rows L2
def mB (env:Env):List (Str × NameKind) -> List (Str × Addr) -> List (Str × Addr)
 | [],acc=>acc
 | (x,k) :: r,acc=>if k == .free then mB env r ((x,(env.cells.lookup x).getD 0) :: acc) else mB env r acc
theorem m7 {env:Env} (f:Str × NameKind -> List (Str × Addr) -> Sem (ForInStep (List (Str × Addr)))) (hf:∀ x k cs,f (x,k) cs=if k == .free then (do let a <- cellOf env x; pure (.yield ((x,a) :: cs))) else pure (.yield cs)) :
  ∀ (names:List (Str × NameKind)) (acc:List (Str × Addr)),(∀ y ∈ names,y.2=.free -> ∃ c,env.cells.lookup y.1=some c) -> forIn names acc f=pure (mB env names acc)
 | [],acc,_=>by rw [List.forIn_nil]; rfl
 | (x,k) :: r,acc,hy=>by
  rw [List.forIn_cons,hf]
  have ih:=m7 f hf r
  have hr:∀ y ∈ r,y.2=.free -> ∃ c,env.cells.lookup y.1=some c:=fun z hz=>hy z (List.mem_cons_of_mem _ hz)
  cases hk:(k == NameKind.free) with
  | true =>
   obtain ⟨c,hc⟩:=hy (x,k) List.mem_cons_self (beq_iff_eq.mp hk)
   dsimp only at hc
   simp only [if_true,mB,hc,cellOf,pure_bind,Option.getD_some,hk]
   exact ih _ hr
  | false =>
   simp only [Bool.false_eq_true,if_false,mB,pure_bind,hk]
   exact ih _ hr
theorem kO {env:Env} {scope:Scope} (h:∀ y ∈ scope.names,y.2=.free -> ∃ c,env.cells.lookup y.1=some c):closureFor scope env=pure (mB env scope.names []):=by
 simp only [closureFor]
 rw [m7 (env:=env) _ (fun x k cs=>by cases hk:k == NameKind.free <;> simp [hk]) scope.names [] h]
 rfl
theorem rQ {env:Env}:∀ (names:List (Str × NameKind)) (acc:List (Str × Addr)) (x:Str) (c:Addr),(∀ y ∈ names,y.2=.free -> ∃ c,env.cells.lookup y.1=some c) -> (x,c) ∈ mB env names acc -> (x,c) ∈ acc \/ (env.cells.lookup x=some c /\ (x,NameKind.free) ∈ names)
 | [],acc,x,c,_,h=>.inl h
 | (y,k) :: r,acc,x,c,hy,h=>by
  unfold mB at h
  have hr:∀ z ∈ r,z.2=.free -> ∃ c,env.cells.lookup z.1=some c:=fun z hz=>hy z (List.mem_cons_of_mem _ hz)
  cases hk:(k == NameKind.free) with
  | true =>
   rw [if_pos hk] at h
   rcases rQ r _ x c hr h with h | h
   ·rcases List.mem_cons.mp h with h | h
    ·cases h
     obtain ⟨c,hc⟩:=hy (y,k) List.mem_cons_self (beq_iff_eq.mp hk)
     dsimp only at hc
     refine .inr ⟨by rw [hc]; rfl,?_⟩
     rw [beq_iff_eq.mp hk]
     exact List.mem_cons_self
    ·exact .inl h
   ·exact .inr ⟨h.1,List.mem_cons_of_mem _ h.2⟩
  | false =>
   rw [if_neg (by rw [hk]; decide)] at h
   rcases rQ r _ x c hr h with h | h
   ·exact .inl h
   ·exact .inr ⟨h.1,List.mem_cons_of_mem _ h.2⟩
theorem eT:∀ {l:List (Str × Addr)} {x:Str} {c:Addr},(x,c) ∈ l -> ∃ d,l.lookup x=some d
 | (y,d) :: r,x,c,h=>by
  rw [List.lookup_cons]
  cases hb:x == y with
  | true=>exact ⟨d,rfl⟩
  | false =>
   rcases List.mem_cons.mp h with h | h
   ·cases h; simp at hb
   ·exact eT h
theorem nQ {env:Env}:∀ (names:List (Str × NameKind)) (acc:List (Str × Addr)) (x:Str),((x,NameKind.free) ∈ names \/ ∃ c,(x,c) ∈ acc) -> ∃ c,(x,c) ∈ mB env names acc
 | [],acc,x,h=>by
  rcases h with h | h
  ·cases h
  ·exact h
 | (y,k) :: r,acc,x,h=>by
  unfold mB
  cases hk:(k == NameKind.free) with
  | true =>
   rw [if_pos rfl]
   refine nQ r _ x ?_
   rcases h with h | ⟨c,h⟩
   ·rcases List.mem_cons.mp h with h | h
    ·cases h; exact .inr ⟨_,List.mem_cons_self⟩
    ·exact .inl h
   ·exact .inr ⟨c,List.mem_cons_of_mem _ h⟩
  | false =>
   rw [if_neg (by decide)]
   refine nQ r _ x ?_
   rcases h with h | h
   ·rcases List.mem_cons.mp h with h | h
    ·cases h; cases hk
    ·exact .inl h
   ·exact .inr h
theorem wR:∀ (names:List (Str × NameKind)) (n:Nat) (acc:List (Str × Addr)) (x:Str) (c:Addr),(x,c) ∈ cellsFrom n names acc -> (x,c) ∈ acc \/ (n ≤ c /\ (x,NameKind.cell) ∈ names)
 | [],n,acc,x,c,h=>.inl h
 | (y,k) :: r,n,acc,x,c,h=>by
  unfold cellsFrom at h
  cases hk:(k == NameKind.cell) with
  | true =>
   rw [if_pos hk] at h
   rcases wR r _ _ x c h with h | ⟨h1,h2⟩
   ·rcases List.mem_cons.mp h with h | h
    ·cases h
     refine .inr ⟨Nat.le_refl _,?_⟩
     rw [beq_iff_eq.mp hk]
     exact List.mem_cons_self
    ·exact .inl h
   ·exact .inr ⟨Nat.le_of_succ_le h1,List.mem_cons_of_mem _ h2⟩
  | false =>
   rw [if_neg (by rw [hk]; decide)] at h
   rcases wR r _ _ x c h with h | ⟨h1,h2⟩
   ·exact .inl h
   ·exact .inr ⟨h1,List.mem_cons_of_mem _ h2⟩
theorem wQ:∀ (names:List (Str × NameKind)) (n:Nat) (acc:List (Str × Addr)),(∀ x y c,(x,c) ∈ acc -> (y,c) ∈ acc -> x=y) -> (∀ x c,(x,c) ∈ acc -> @LT.lt Nat _ c n) -> ∀ x y c,(x,c) ∈ cellsFrom n names acc -> (y,c) ∈ cellsFrom n names acc -> x=y
 | [],n,acc,h1,_,x,y,c,h,h'=>h1 x y c h h'
 | (z,k) :: r,n,acc,h1,h2,x,y,c,h,h'=>by
  unfold cellsFrom at h h'
  cases hk:(k == NameKind.cell) with
  | true =>
   rw [if_pos hk] at h h'
   refine wQ r (n + 1) _ (fun a b d ha hb=>?_) (fun a d ha=>?_) x y c h h'
   ·rcases List.mem_cons.mp ha with ha | ha <;> rcases List.mem_cons.mp hb with hb | hb
    ·cases ha; cases hb; rfl
    ·cases ha; exact absurd (h2 _ _ hb) (Nat.lt_irrefl _)
    ·cases hb; exact absurd (h2 _ _ ha) (Nat.lt_irrefl _)
    ·exact h1 a b d ha hb
   ·rcases List.mem_cons.mp ha with ha | ha
    ·cases ha; exact Nat.lt_succ_self _
    ·exact Nat.lt_succ_of_lt (h2 _ _ ha)
  | false =>
   rw [if_neg (by rw [hk]; decide)] at h h'
   exact wQ r n acc h1 h2 x y c h h'
theorem oF:∀ (names:List (Str × NameKind)) (n:Nat) (acc:List (Str × Addr)) (x:Str),((x,NameKind.cell) ∈ names \/ ∃ c,(x,c) ∈ acc) -> ∃ c,(x,c) ∈ cellsFrom n names acc
 | [],n,acc,x,h=>by
  rcases h with h | h
  ·cases h
  ·exact h
 | (y,k) :: r,n,acc,x,h=>by
  unfold cellsFrom
  cases hk:(k == NameKind.cell) with
  | true =>
   rw [if_pos rfl]
   refine oF r _ _ x ?_
   rcases h with h | ⟨c,h⟩
   ·rcases List.mem_cons.mp h with h | h
    ·cases h; exact .inr ⟨_,List.mem_cons_self⟩
    ·exact .inl h
   ·exact .inr ⟨c,List.mem_cons_of_mem _ h⟩
  | false =>
   rw [if_neg (by decide)]
   refine oF r _ _ x ?_
   rcases h with h | h
   ·rcases List.mem_cons.mp h with h | h
    ·cases h; cases hk
    ·exact .inl h
   ·exact .inr h
theorem rP:∀ (names:List (Str × NameKind)) (h:Heap) (acc:List (Str × Addr)) (x:Str) (c:Addr),(x,c) ∈ cellsFrom h.objs.size names acc -> (x,c) ∈ acc \/ (pushCells h names).IsCell c none
 | [],h,acc,x,c,m=>.inl m
 | (y,k) :: r,h,acc,x,c,m=>by
  unfold cellsFrom at m
  unfold pushCells
  cases hk:(k == NameKind.cell) with
  | true =>
   rw [if_pos hk] at m
   rw [if_pos rfl]
   have m':(x,c) ∈ cellsFrom (h.push { cls:=.type "cell", data:=.cell none }).objs.size r ((y,h.objs.size) :: acc):=by rw [Heap.size_push]; exact m
   rcases rP r _ _ x c m' with m | m
   ·rcases List.mem_cons.mp m with m | m
    ·cases m
     refine .inr ?_
     have q:(h.push { cls:=.type "cell", data:=.cell none }).IsCell h.objs.size none:=⟨_,Heap.get?_push_size _ rfl,rfl⟩
     exact q.keeps fun b o e=>pushCells_keeps r _ b o e
    ·exact .inl m
   ·exact .inr m
  | false =>
   rw [if_neg (by rw [hk]; decide)] at m
   rw [if_neg (by decide)]
   exact rP r h acc x c m
open PySem PySem.Spec PyProof.Rows L2
def ij (X:Cx) (scope:Scope) (C:Addr) (cs:List (Str × Addr)):Env:=
 { newEnv scope C X.env.globals cs X.env.qual none .none (some X.env) builtinsNs with scope:=relabel scope X.env }
def rL (X:Cx) (scope:Scope) (N':List Str) (C:Addr) (cs:List (Str × Addr)) (s₀:Shared) (H₀:Hp) (fp:List Addr) (pins:List (Addr × Obj)):Cx:=
 { X with N:=N',s₀:=s₀,H₀:=H₀,env:=ij X scope C cs,outer:=X.stack,stack:=X.stack,ex:=fp,fn:=fun x=>scope.names.lookup x == some .cell,pn:=X.pn ++ pins,xe:=fun _ _=>False }
structure gH (X:Cx) (scope:Scope):Prop where
 kind:scope.kind=.function
 names:∀ y ∈ scope.names,y.2=.local -> scope.names.lookup y.1=some .local
 free:∀ y ∈ scope.names,y.2=.free -> (X.env.kindOf y.1=some .cell \/ X.env.kindOf y.1=some .free) /\ (y.1,NameKind.cell) ∉ scope.names /\ scope.names.lookup y.1=some .free
theorem mem_of_lookupK:∀ {l:List (Str × NameKind)} {x:Str} {k:NameKind},l.lookup x=some k -> (x,k) ∈ l
 | (y,d) :: r,x,k,h=>by
  rw [List.lookup_cons] at h
  cases hb:x == y with
  | true=>rw [hb] at h; cases h; rw [beq_iff_eq.mp hb]; exact List.mem_cons_self
  | false=>rw [hb] at h; exact List.mem_cons_of_mem _ (mem_of_lookupK h)
theorem gu {env:Env}:∀ {names:List (Str × NameKind)} {x:Str},names.lookup x=some .free ->
    ((names.map fun (n,k)=>if (k == NameKind.free && env.scope.kind == .function && env.kindOf n == some .cell) then (n,NameKind.cell) else (n,k)).lookup x=some .cell \/
     (names.map fun (n,k)=>if (k == NameKind.free && env.scope.kind == .function && env.kindOf n == some .cell) then (n,NameKind.cell) else (n,k)).lookup x=some .free)
  | (n,k) :: r,x,h=>by
    rw [List.lookup_cons] at h
    have en:∀ y:Str × NameKind,y=(if (k == NameKind.free && env.scope.kind == .function && env.kindOf n == some .cell)=true then (n,NameKind.cell) else (n,k)) -> y.1=n /\ (y.2=.cell \/ y.2=k):=fun y e=>by
      subst e
      split
      · exact ⟨rfl,.inl rfl⟩
      · exact ⟨rfl,.inr rfl⟩
    rw [List.map_cons]
    dsimp only
    generalize hy:(if (k == NameKind.free && env.scope.kind == .function && env.kindOf n == some .cell)=true then (n,NameKind.cell) else (n,k))=y
    obtain ⟨e1,e2⟩:=en y hy.symm
    obtain ⟨a,b⟩:=y
    dsimp only at e1 e2
    subst e1
    rw [List.lookup_cons]
    cases hb:x == a with
    | true =>
      rw [hb] at h
      cases h
      rcases e2 with rfl | rfl
      · exact .inl rfl
      · exact .inr rfl
    | false =>
      rw [hb] at h
      exact gu h
theorem vZ {X:Cx} {scope:Scope} {x:Str} (h:(ij X scope C cs).kindOf x=some .cell \/ (ij X scope C cs).kindOf x=some .free):(x,NameKind.cell) ∈ scope.names \/ (x,NameKind.free) ∈ scope.names:=by
 have key:∀ k,(ij X scope C cs).kindOf x=some k -> (k=.cell \/ k=.free) -> (x,NameKind.cell) ∈ scope.names \/ (x,NameKind.free) ∈ scope.names:=fun k h hk=>by
  have m:=mem_of_lookupK (show (relabel scope X.env).names.lookup x=some k from h)
  unfold relabel at m
  obtain ⟨⟨y,j⟩,m1,m2⟩:=List.mem_map.mp m
  dsimp only at m2
  split at m2
  ·next hc =>
   cases m2
   simp only [Bool.and_eq_true,beq_iff_eq] at hc
   rw [hc.1.1] at m1
   exact .inr m1
  ·cases m2
   rcases hk with rfl | rfl
   ·exact .inl m1
   ·exact .inr m1
 rcases h with h | h
 ·exact key _ h (.inl rfl)
 ·exact key _ h (.inr rfl)
section
variable {X:Cx} {pins:List (Addr × Obj)} {σ:L2.St} {H:Hp} {s:Shared} {scope:Scope} {fp:List Addr} {N':List Str} {σ':L2.St}
abbrev kz:Obj:={ cls:=.type "list", dict:=none,data:=.seq ([]:List Value).toArray }
abbrev uV:Obj:={ cls:=.type "dict", data:=.dict #[] }
def h0 (h:Heap) (scope:Scope):Heap:=pushCells ((h.push kz).push uV) scope.names
theorem gD {h:Heap} {b:Addr} {o:Obj} (e:h.get? b=some o):(h0 h scope).get? b=some o:=pushCells_keeps _ _ _ _ (Heap.get?_push_of_some _ (Heap.get?_push_of_some _ e))
theorem Hj (h:Heap):(h0 h scope).get? h.objs.size=some kz:=pushCells_keeps _ _ _ _ (Heap.get?_push_of_some _ (Heap.get?_push_size _ rfl))
theorem qI (I:Inv X pins σ H s) (B:gH X scope) (hf:∀ b ∈ fp,p8 X pins H b) (ho:∀ b ∈ fp,∃ o,s.heap.get? b=some o) (hl:σ'.length=N'.length)
  (cap:∀ (i:Nat) (x:Str) (v:V),N'[i]? = some x -> σ'[i]? = some (some v) -> ((x,NameKind.free) ∈ scope.names /\ ∃ j:Nat,X.N[j]? = some x /\ σ[j]? = some (some v)) \/ ¬ Jd (relabel scope X.env) x) {tk:Nat} :
  Inv (rL X scope N' (s.heap.objs.size + 1) (cellsFrom (s.heap.objs.size + 2) scope.names (mB X.env scope.names [])) s H fp pins) [] σ' (upd H s.heap.objs.size (.lst [])) { s with heap:=h0 s.heap scope,toks:=tk }:=by
 have hz1:(s.heap.push kz).objs.size=s.heap.objs.size + 1:=Heap.size_push ..
 have hz2:((s.heap.push kz).push uV).objs.size=s.heap.objs.size + 2:=by rw [Heap.size_push,hz1]
 have hfree:∀ y ∈ scope.names,y.2=.free -> ∃ c,X.env.cells.lookup y.1=some c:=fun y hy hk=>I.ok.has y.1 (B.free y hy hk).1
 have clm:∀ x c,(x,c) ∈ mB X.env scope.names [] -> X.env.cells.lookup x=some c /\ (x,NameKind.free) ∈ scope.names:=fun x c h=>by
  rcases rQ _ _ x c hfree h with h | h
  ·cases h
  ·exact h
 have cl_lt:∀ x c,(x,c) ∈ mB X.env scope.names [] -> @LT.lt Nat _ c s.heap.objs.size:=fun x c h=>by
  obtain ⟨v,q⟩:=I.cell x c (clm x c h).1
  exact q.lt
 have csm:∀ x c,(x,c) ∈ cellsFrom (s.heap.objs.size + 2) scope.names (mB X.env scope.names []) -> (X.env.cells.lookup x=some c /\ (x,NameKind.free) ∈ scope.names /\ @LT.lt Nat _ c s.heap.objs.size) \/ (@LE.le Nat _ (s.heap.objs.size + 2) c /\ (x,NameKind.cell) ∈ scope.names):=fun x c h=>by
  rcases wR _ _ _ x c h with h | h
  ·exact .inl ⟨(clm x c h).1,(clm x c h).2,cl_lt x c h⟩
  ·exact .inr h
 have hD:H s.heap.objs.size=none:=I.fresh
 have up:∀ b:Addr,@LT.lt Nat _ b s.heap.objs.size -> upd H s.heap.objs.size (.lst []) b=H b:=fun b hb=>aK (Nat.ne_of_lt hb)
 have upF:∀ b:Addr,@LT.lt Nat _ s.heap.objs.size b -> upd H s.heap.objs.size (.lst []) b=none:=fun b hb=>by rw [aK (Nat.ne_of_gt hb)]; exact I.hok.fresh (Nat.le_of_lt hb)
 have flt:∀ b ∈ fp,@LT.lt Nat _ b s.heap.objs.size:=fun b hb=>by obtain ⟨o,e⟩:=ho b hb; exact Heap.lt_size e
 refine ⟨⟨I.ok.mod,B.kind,I.ok.glob,I.ok.blt,Nat.le_succ _,fun x y c h1 h2=>?_,fun x hx=>?_,fun x c hx h=>?_,I.ok.hd,I.ok.frames,.inl rfl,fun b hb=>⟨?_,fun x c h=>?_⟩,I.bs,Nat.le_trans I.ok.bsz I.sz,fun b o e hb=>?_,fun b hb z=>?_,I.stack,I.stkFree⟩,
  rfl,I.bare,?_,⟨fun _=>none,?_,fun i x v e1 e2 e3=>?_⟩,fun x c h=>?_,upF _ (Nat.lt_succ_self _),fun x c h=>?_,fun p hp=>?_,?_,hl⟩
 ·exact wQ _ _ _ (fun a b d ha hb=>I.ok.inj a b d (clm a d ha).1 (clm b d hb).1) (fun a d ha=>Nat.lt_of_lt_of_le (cl_lt a d ha) (Nat.le_add_right _ 2)) x y c (PySem.mem_of_lookup h1) (PySem.mem_of_lookup h2)
 ·have hm:∃ c,(x,c) ∈ cellsFrom (s.heap.objs.size + 2) scope.names (mB X.env scope.names []):=by
   rcases vZ hx with h | h
   ·exact oF _ _ _ x (.inl h)
   ·exact oF _ _ _ x (.inr (nQ _ _ x (.inl h)))
  obtain ⟨c,hm⟩:=hm
  exact eT hm
 ·have hx':scope.names.lookup x=some .cell:=beq_iff_eq.mp hx
  rcases csm x c (PySem.mem_of_lookup h) with ⟨_,h2,_⟩ | ⟨h1,_⟩
  ·exact absurd (mem_of_lookupK hx') (B.free _ h2 rfl).2.1
  ·exact Nat.le_trans (Nat.le_add_right _ 2) h1
 ·exact Nat.ne_of_lt (Nat.lt_succ_of_lt (flt b hb))
 ·rcases csm x c (PySem.mem_of_lookup h) with ⟨h1,_,_⟩ | ⟨h1,_⟩
  ·exact (hf b hb).2.2.2.2.1 x c h1
  ·exact Nat.ne_of_gt (Nat.lt_of_lt_of_le (flt b hb) (Nat.le_trans (Nat.le_add_right _ 2) h1))
 ·rcases (hf b hb).2.2.2.1 with z | z
  ·exact I.ok.noex b o e z
  ·exact absurd (Nat.lt_of_lt_of_le (Heap.lt_size e) (Nat.le_trans I.ok.bsz z)) (Nat.lt_irrefl _)
 ·rcases List.mem_cons.mp (I.stkSub b z) with z | z
  ·exact (hf b hb).2.1 z
  ·exact (hf b hb).2.2.1 z
 ·exact Un.laid (fun b o e=>gD e) (Nat.le_refl _) hD
 ·have q:=Heap.Ns.new (s.heap.push kz) (.type "dict")
  rw [hz1] at q
  exact q.keeps fun b o e=>pushCells_keeps _ _ b o e
 ·rcases cap i x v e1 e2 with ⟨hx,j,hj,hv⟩ | hn
  ·obtain ⟨m,hm,hlk⟩:=I.loc
   have hk:=(B.free _ hx rfl).1
   have vis:Jd X.env.scope x:=by
    rcases hk with hk | hk
    ·exact .inr (.inl hk)
    ·exact .inr (.inr hk)
   obtain ⟨u,r,l⟩:=hlk j x v hj hv vis
   refine ⟨u,r,.inr ?_⟩
   rcases l with ⟨z,_⟩ | ⟨_,c,hc,hcell⟩
   ·rcases hk with hk | hk <;> (rw [show X.env.kindOf x=X.env.scope.names.lookup x from rfl] at hk z; rw [hk] at z; cases z)
   ·obtain ⟨c',hc'⟩:=eT (Classical.choose_spec (oF scope.names (s.heap.objs.size + 2) (mB X.env scope.names []) x (.inr (nQ _ _ x (.inl hx)))))
    have ec:c'=c:=by
     rcases csm x c' (PySem.mem_of_lookup hc') with ⟨h1,_,_⟩ | ⟨_,h2⟩
     ·rw [hc] at h1; exact (Option.some.inj h1).symm
     ·exact absurd h2 (B.free _ hx rfl).2.1
    subst ec
    refine ⟨?_,c',hc',hcell.keeps fun b o e=>gD e⟩
    rcases e3 with e3 | e3 | e3
    ·rcases gu (env:=X.env) (B.free _ hx rfl).2.2 with q | q
     ·exact .inl q
     ·exact .inr q
    ·exact .inl e3
    ·exact .inr e3
  ·exact absurd e3 hn
 ·rcases rP scope.names ((s.heap.push kz).push uV) (mB X.env scope.names []) x c (by rw [hz2]; exact PySem.mem_of_lookup h) with m | m
  ·obtain ⟨v,q⟩:=I.cell x c (clm x c m).1
   exact ⟨v,q.keeps fun b o e=>gD e⟩
  ·exact ⟨none,m⟩
 ·rcases csm x c (PySem.mem_of_lookup h) with ⟨h1,_,h3⟩ | ⟨h1,_⟩
  ·rw [up c h3]; exact I.freeC x c h1
  ·exact upF c (Nat.lt_of_lt_of_le (Nat.lt_add_of_pos_right (by decide)) h1)
 ·have hp':p ∈ X.pn ++ pins:=by simpa [rL] using hp
  obtain ⟨e,n,ne,nf,d⟩:=I.pin p hp'
  have lt:@LT.lt Nat _ p.1 s.heap.objs.size:=Heap.lt_size e
  refine ⟨gD e,by rw [up _ lt]; exact n,Nat.ne_of_lt (Nat.lt_succ_of_lt lt),fun z=>?_,d⟩
  rcases List.mem_cons.mp (I.stkSub _ z) with z | z
  ·exact ne z
  ·exact nf z
 ·exact I.hok.laid (fun b o e=>gD e) (Nat.le_refl _) ⟨Nat.zero_le _,[],0,.nil,Hj s.heap⟩
end
open PySem PySem.Spec PyProof.Rows L2
abbrev Aa (ifs:List Expr) (env:Env):Sem Bool:=forIn ifs true fun c r=>if r=true then do let ok <- isTrue c env (eval c env); pure (ForInStep.yield ok) else pure (ForInStep.yield r)
theorem qN {prog:Program} {w:World} {A:Around} {R:Result -> Shared -> Prop} {s:Shared} {elt target iter:Expr} {ifs:List Expr} {scope:Scope} {pos:Pos} {it acc:Value} {env:Env} (I:Nat -> Shared -> Prop)
  (turn:∀ n s,I n s -> wpAny (model prog w) A (pyNext it) (fun r s₁=>match r with
   | none=>R (.ok .next) s₁
   | some v=>wpAny (model prog w) A (letOwnedTupleGo target it v) (fun _ s₂=>wpAny (model prog w) A (assign target env v) (fun _ s₃=>wpAny (model prog w) A (Aa ifs env) (fun ok s₄ =>
     if ok=true then wpAny (model prog w) A (eval elt env) (fun x s₅=>wpAny (model prog w) A (call (.builtin "list.append") [acc,x]) (fun _ s₆=>∃ m,m < n /\ I m s₆) (fun _ _=>False) s₅) (fun _ _=>False) s₄
     else ∃ m,m < n /\ I m s₄) (fun _ _=>False) s₃) (fun _ _=>False) s₂) (fun _ _=>False) s₁) (fun _ _=>False) s)
  (n:Nat) (h:I n s):codeAny (model prog w) A (.compLoop (.ListComp elt [⟨target,iter,ifs,0⟩] scope pos) 0 it acc env) R s:=by
 have no:∀ {α:Type} {m:Sem α} {Q:α -> Shared -> Prop} {E:Value -> Shared -> Prop} {s:Shared},wpAny (model prog w) A m Q (fun _ _=>False) s -> wpAny (model prog w) A m Q E s:=fun h=>wpAny_mono h (fun _ _ q=>q) fun _ _ z=>z.elim
 refine codeAny_loop rfl I (fun n s hI=>?_) n h
 refine (wpAny_noted ?_:wpAny _ A ((compTurn (.ListComp elt [⟨target,iter,ifs,0⟩] scope pos) 0 it acc env).onRaise (fun x=>do noteFrame x env; theTreesLotGoes x)) _ _ s)
 rw [compTurn_list]
 refine wpAny_bind (wpAny_standAt (wpAny_bind (wpAny_mono (no (turn n s hI)) (fun r s₁ h₁=>?_) fun _ _ z=>z)))
 cases r with
 | none=>exact wpAny_pure h₁
 | some v =>
  refine wpAny_bind (wpAny_mono (no h₁) (fun _ s₂ h₂=>wpAny_bind (wpAny_mono (no h₂) (fun _ s₃ h₃=>wpAny_bind (wpAny_mono (no h₃) (fun ok s₄ h₄=>?_) fun _ _ z=>z)) fun _ _ z=>z)) fun _ _ z=>z)
  cases ok with
  | false=>exact wpAny_pure ⟨rfl,h₄⟩
  | true=>exact wpAny_bind (wpAny_bind (wpAny_mono (no h₄) (fun x s₅ h₅=>wpAny_bind (wpAny_mono (no h₅) (fun _ s₆ h₆=>wpAny_pure (wpAny_pure ⟨rfl,h₆⟩)) fun _ _ z=>z)) fun _ _ z=>z))
def cu:aJ -> Bool
 | []=>true
 | some (.own _) :: _=>false
 | _ :: r=>cu r
theorem dO:∀ {τ:aJ} {i:Nat} {ts:List T},cu τ=true -> τ[i]? ≠ some (some (.own ts))
 | [],i,ts,_=>by simp
 | some (.own _) :: _,i,ts,h=>by cases h
 | some (.sh t) :: r,0,ts,h=>by simp
 | none :: r,0,ts,h=>by simp
 | some (.sh t) :: r,i + 1,ts,h=>by rw [List.getElem?_cons_succ]; exact dO (τ:=r) h
 | none :: r,i + 1,ts,h=>by rw [List.getElem?_cons_succ]; exact dO (τ:=r) h
def gM (fg:FG) (ft:FT) (fe:FE):List T -> aJ -> List T -> Option (List T)
 | [],_,acc=>some acc
 | t :: ts,τ,acc=>(fg t τ).bind fun τ1=>(ft τ1).bind fun p=>if p.1=true then (fe p.2).bind fun q=>if cu q.2=true /\ acc.length < sizeLine then gM fg ft fe ts q.2 (acc ++ [q.1]) else none
  else if cu p.2=true then gM fg ft fe ts p.2 acc else none
def frz1 (j:Nat) (τ:aJ):aJ:=match τ[j]? with
 | some (some (.own ts))=>τ.set j (some (.sh (.lst ts)))
 | _=>τ
def frzAll:List Nat -> aJ -> aJ
 | [],τ=>τ
 | j :: r,τ=>frzAll r (frz1 j τ)
def uP {α:Type} (l:List (Option α)) (j:Nat):Option α:=match l[j]? with
 | some x=>x
 | none=>none
def cG {α:Type} (no:Nat) (cap:List Nat) (l:List (Option α)):List (Option α):=List.replicate no none ++ cap.map (uP l)
def dg (no:Nat) (cap:List Nat) (fi:FA) (fg:FG) (ft:FT) (fe:FE):FE:=fun τ=>(fi τ).bind fun p =>
 if cu (cG no cap (frzAll cap p.2))=true then (gM fg ft fe p.1 (cG no cap (frzAll cap p.2)) []).bind fun us=>some (.lst us,frzAll cap p.2) else none
def aL:FT:=fun τ=>some (true,τ)
def Fq (X:Cx) (ifs:List Expr) (ft:FT):Prop:=∀ F₀ H₀ pins s σ H Q,Inv X pins σ H s -> tT X.K F₀ H₀ ft σ H Q -> wpAny (model X.prog X.w) X.A (Aa ifs X.env) (TP X pins σ Q) X.xe s
theorem ck {X:Cx}:Fq X [] aL:=fun F₀ H₀ pins s σ H Q I hq__=>by
 obtain ⟨F,τ,b,τ',E,e,q⟩:=hq__
 cases e
 exact wpAny_tests_nil ⟨H,I,q F H E (aQ.refl _)⟩
section
variable {K:PySem.W.Frag} {F₀ H₀ F H:Hp} {σ:L2.St} {τ:aJ}
theorem aI.frz1 (E:aI K F₀ H₀ F H σ τ) (j:Nat):∃ F',aI K F₀ H₀ F' H σ (TM.frz1 j τ) /\ aQ F F':=by
 unfold TM.frz1
 split
 ·next ts e =>
  obtain ⟨F',v,_,E',s',_⟩:=E.freeze e
  exact ⟨F',E',s'⟩
 ·exact ⟨F,E,aQ.refl _⟩
theorem aI.frzAll:∀ (cap:List Nat) {F:Hp} {τ:aJ},aI K F₀ H₀ F H σ τ -> ∃ F',aI K F₀ H₀ F' H σ (TM.frzAll cap τ) /\ aQ F F'
 | [],F,τ,E=>⟨F,E,aQ.refl _⟩
 | j :: r,F,τ,E=>by
  obtain ⟨F1,E1,s1⟩:=E.frz1 j
  obtain ⟨F2,E2,s2⟩:=aI.frzAll r E1
  exact ⟨F2,E2,s1.trans s2⟩
theorem aI.rebase {H':Hp} (E:aI K F₀ H₀ F H σ τ) (ha:cu τ=true) (s:aQ F H'):aI K F H' F H' σ τ:=by
 refine ⟨bx.refl s,E.len,fun i sl e=>?_,fun i j ts us p _ e1=>absurd e1 (dO ha)⟩
 obtain ⟨v,h1,h2⟩:=E.sl i sl e
 cases sl with
 | sh t=>exact ⟨v,h1,h2⟩
 | own ts=>exact absurd e (dO ha)
theorem mx {α:Type} {no:Nat} {cap:List Nat} {l:List (Option α)} {i:Nat} {x:α} (h:(cG no cap l)[i]? = some (some x)):∃ k j:Nat,i=no + k /\ cap[k]? = some j /\ l[j]? = some (some x):=by
 unfold cG at h
 by_cases hi:i < no
 ·rw [List.getElem?_append_left (by simpa using hi),List.getElem?_replicate] at h
  split at h <;> cases h
 ·rw [List.getElem?_append_right (by simpa using hi),List.length_replicate,List.getElem?_map] at h
  cases e:cap[i - no]? with
  | none=>rw [e] at h; cases h
  | some j =>
   rw [e] at h
   have h':uP l j=some x:=Option.some.inj h
   unfold uP at h'
   split at h'
   ·next y ey=>exact ⟨i - no,j,by omega,e,by rw [ey,h']⟩
   ·cases h'
theorem Ar {α:Type} {no:Nat} {cap:List Nat} {l:List (Option α)} {k j:Nat} {x:α} (h1:cap[k]? = some j) (h2:l[j]? = some (some x)):(cG no cap l)[no + k]? = some (some x):=by
 unfold cG
 rw [List.getElem?_append_right (by simp),List.length_replicate,Nat.add_sub_cancel_left,List.getElem?_map,h1]
 show some (uP l j)=_
 unfold uP
 rw [h2]
theorem aI.block {H':Hp} {no:Nat} {cap:List Nat} (E:aI K F₀ H₀ F H σ τ) (ha:cu (cG no cap τ)=true) (s:aQ F H'):aI K F H' F H' (cG no cap σ) (cG no cap τ):=by
 refine ⟨bx.refl s,by simp [cG],fun i sl e=>?_,fun i j ts us p _ e1=>absurd e1 (dO ha)⟩
 obtain ⟨k,j,rfl,hk,hj⟩:=mx e
 obtain ⟨v,h1,h2⟩:=E.sl j sl hj
 refine ⟨v,Ar hk h1,?_⟩
 cases sl with
 | sh t=>exact h2
 | own ts=>exact absurd e (dO ha)
end
section
variable {X:Cx}
structure CompEnd (X:Cx) (pins:List (Addr × Obj)) (σ:L2.St) (F₀ H₀ F:Hp) (τ:aJ) (rs:List T) (D C:Addr) (s:Shared):Prop where
 ex:∃ (H F3:Hp) (vs:List V),Inv X pins σ H s /\ aI X.K F₀ H₀ F3 H σ τ /\ aQ F F3 /\ F3 D=none /\ H D=some (.lst vs) /\ H₀ D=none /\ aV X.K F3 rs vs /\ H C=none
 ns:∃ m,s.heap.Ns C m
 cl:C ≠ X.env.locals
 c0:X.s₀.heap.objs.size ≤ C
 cc:∀ x c,X.env.cells.lookup x=some c -> c ≠ C
 cp:∀ p ∈ X.pn ++ pins,p.1 ≠ C
 ow:∀ (j:Nat) us p,τ[j]? = some (some (.own us)) -> σ[j]? = some (some (.ref p)) -> p ≠ D
theorem qM {elt tg iter:Expr} {ifs:List Expr} {scope:Scope} {pos:Pos} {N':List Str} {no:Nat} {cap:List Nat} {fi:FA} {fg:FG} {ft:FT} {fe:FE} (hx:X.xe=fun _ _=>False) (hc:X.calm=true) (B:gH X scope) (hN:N'.length=no + cap.length)
  (hcap:∀ (k j:Nat),cap[k]? = some j -> ∃ x,N'[no + k]? = some x /\ X.N[j]? = some x /\ (x,NameKind.free) ∈ scope.names) (hi:SI X tg iter fi)
  (hg:∀ C cs s₀ H₀ fp pins,SG (rL X scope N' C cs s₀ H₀ fp pins) tg fg) (ht:∀ C cs s₀ H₀ fp pins,Fq (rL X scope N' C cs s₀ H₀ fp pins) ifs ft) (he:∀ C cs s₀ H₀ fp pins,SE (rL X scope N' C cs s₀ H₀ fp pins) elt fe)
  {F₀ H₀ F H:Hp} {pins:List (Addr × Obj)} {s:Shared} {σ:L2.St} {τ τ1:aJ} {ts rs:List T} (I:Inv X pins σ H s) (E:aI X.K F₀ H₀ F H σ τ) (e2:fi τ=some (ts,τ1)) (ha:cu (cG no cap (frzAll cap τ1))=true) (e3:gM fg ft fe ts (cG no cap (frzAll cap τ1)) []=some rs)
  {post:Value -> Addr -> Result -> Shared -> Prop} (hpost:∀ D C s',CompEnd X pins σ F₀ H₀ F (frzAll cap τ1) rs D C s' -> post (.ref D) C (.ok .next) s') :
  wpAny (model X.prog X.w) X.A (eval iter X.env) (fun x s₁=>wpAny (model X.prog X.w) X.A (pyIter x) (fun it s₂=>wpAny (model X.prog X.w) X.A (newList []) (fun acc s₃ =>
   wpAny (model X.prog X.w) X.A (newFunctionEnv scope X.env.globals (mB X.env scope.names []) [] X.env.qual none .none (some X.env)) (fun cenv s₄ =>
    codeAny (model X.prog X.w) X.A (.compStart (.ListComp elt [⟨tg,iter,ifs,0⟩] scope pos) 0 it acc { cenv with scope:=relabel scope X.env }) (post acc cenv.locals) s₄) X.xe s₃) X.xe s₂) X.xe s₁) X.xe s:=by
 refine dh (hi F₀ H₀ pins s σ H (fun J H1=>∃ F1,aI X.K F₀ H₀ F1 H1 σ τ1 /\ aQ F F1 /\ Walks X.K F1 ts J) I ⟨F,τ,ts,τ1,E,e2,fun F1 H1 J E1 s1 W=>⟨F1,E1,s1,W⟩⟩) fun v s1 h1=>dh h1 fun itv s2 h2=>?_
 obtain ⟨it,fp,tn,J,H1,rfl,I2,Tn,st2,f2,F1,E1,sF1,W⟩:=h2
 obtain ⟨F2,E2,sF2⟩:=E1.frzAll cap
 have W2:Walks X.K F2 ts J:=⟨fun i t F3 H3 e a b=>W.go i t F3 H3 e (sF2.trans a) b,fun i t F3 H3 x H4 e a b y=>W.yld i t F3 H3 x H4 e (sF2.trans a) b y,fun F3 H3 a b=>W.stop F3 H3 (sF2.trans a) b⟩
 refine wpAny_newObj_type ?_
 have hz:(s2.heap.push kz).objs.size=s2.heap.objs.size + 1:=Heap.size_push ..
 have hz2:((s2.heap.push kz).push uV).objs.size=s2.heap.objs.size + 2:=by rw [Heap.size_push,hz]
 simp only [newFunctionEnv,Option.isSome_some,if_true]
 refine wpAny_bind (wpAny_alloc ?_)
 refine wpAny_bind (wpAny_layCells _ (fun name kind cells=>by cases hkc:kind == NameKind.cell <;> simp [hkc]) _ _ _ _ ?_)
 simp only [List.forIn_nil]
 refine wpAny_bind (wpAny_pure (wpAny_pure ?_))
 have loop:codeAny (model X.prog X.w) X.A (.compLoop (.ListComp elt [⟨tg,iter,ifs,0⟩] scope pos) 0 (.ref it) (.ref s2.heap.objs.size) (ij X scope (s2.heap.objs.size + 1) (cellsFrom (s2.heap.objs.size + 2) scope.names (mB X.env scope.names []))))
   (post (.ref s2.heap.objs.size) (s2.heap.objs.size + 1)) { s2 with heap:=h0 s2.heap scope }:=by
  have Ib:=qI (N':=N') (σ':=cG no cap σ) (tk:=s2.toks) I2 B f2 (fun b hb=>by obtain ⟨o,e,_⟩:=Tn.obj 0 _ st2 b hb; exact ⟨o,e⟩) (by simp [cG,hN]) (fun i x v a1 a2=>by
   obtain ⟨k,j,rfl,hk,hj⟩:=mx a2
   obtain ⟨x',b1,b2,b3⟩:=hcap k j hk
   rw [a1] at b1; cases b1
   exact .inl ⟨b3,j,b2,hj⟩)
  generalize hX':rL X scope N' (s2.heap.objs.size + 1) (cellsFrom (s2.heap.objs.size + 2) scope.names (mB X.env scope.names [])) s2 H1 fp pins=X' at Ib
  have hg':SG X' tg fg:=by rw [<- hX']; exact hg _ _ _ _ _ _
  have ht':Fq X' ifs ft:=by rw [<- hX']; exact ht _ _ _ _ _ _
  have he':SE X' elt fe:=by rw [<- hX']; exact he _ _ _ _ _ _
  have xP:X'.prog=X.prog:=by rw [<- hX']; rfl
  have xw:X'.w=X.w:=by rw [<- hX']; rfl
  have xK:X'.K=X.K:=by rw [<- hX']; rfl
  have xA:X'.A=X.A:=by rw [<- hX']; rfl
  have xc:X'.calm=true:=by rw [<- hX']; exact hc
  have xx:X'.xe=fun _ _=>False:=by rw [<- hX']; rfl
  have xe':X'.env=ij X scope (s2.heap.objs.size + 1) (cellsFrom (s2.heap.objs.size + 2) scope.names (mB X.env scope.names [])):=by rw [<- hX']; rfl
  have xex:X'.ex=fp:=by rw [<- hX']; rfl
  have xfs:X'.fs=nU X.stack:=by rw [<- hX']; rfl
  have xpn:X'.pn=X.pn ++ pins:=by rw [<- hX']; rfl
  have xs0:X'.s₀=s2:=by rw [<- hX']; rfl
  have xH0:X'.H₀=H1:=by rw [<- hX']; rfl
  have xl:X'.env.locals=s2.heap.objs.size + 1:=by rw [<- hX']; rfl
  rw [<- xe',<- xP,<- xw,<- xA]
  have hD1:H1 s2.heap.objs.size=none:=I2.fresh
  have fpk:∀ {Hc:Hp} {σc:L2.St} {pc:List (Addr × Obj)} {sc:Shared},Inv X' pc σc Hc sc -> (∀ b ∈ fp,Hc b=none) -> ∀ b ∈ fp,p8 X' [] Hc b:=fun {Hc σc pc sc} Ic hn b hb=>by
   have q1:=Ic.ok.exf b (by rw [xex]; exact hb)
   have q2:=Ic.ok.exfs b (by rw [xex]; exact hb)
   refine ⟨hn b hb,q1.1,q2,.inl (by rw [xex]; exact hb),q1.2,fun p hp=>?_⟩
   rw [xpn,List.append_nil] at hp
   exact (f2 b hb).2.2.2.2.2 p hp
  refine qN (fun n s3=>∃ i σ3 H3 F3 τ3 us vs,Inv X' [] σ3 H3 s3 /\ tn i s3.heap /\ (∀ b ∈ fp,H3 b=none) /\ aI X.K F3 H3 F3 H3 σ3 τ3 /\ cu τ3=true /\ F3 s2.heap.objs.size=none /\ H3 s2.heap.objs.size=some (.lst vs) /\ aV X.K F3 us vs /\ aQ F2 F3 /\ aQ H1 H3 /\
   (∀ a o,F3 a=some o -> F2 a=some o \/ H1 a=none) /\ i ≤ ts.length /\ n=ts.length - i /\ gM fg ft fe (ts.drop i) τ3 us=some rs) ?_ ts.length ?_
  ·rintro n s3 ⟨i,σ3,H3,F3,τ3,us,vs,I3,st3,fr3,E3,ha3,fD,hD,rv,sF,sH,nw,hi',rfl,ec⟩
   by_cases hlt:i < ts.length
   ·have hgi:ts[i]? = some ts[i]:=List.getElem?_eq_getElem hlt
    rw [List.drop_eq_getElem_cons hlt] at ec
    obtain ⟨τ4,e4,ec⟩:=bind_some ec
    obtain ⟨⟨b,τ5⟩,e5,ec⟩:=bind_some ec
    have go:=W2.go i _ F3 H3 hgi sF E3.g.fh
    have itm:=(xP ▸ xw ▸ xK ▸ Tn:Turn X'.prog X'.w X'.K tg J fp it tn).item X' rfl rfl rfl xc i [] s3 σ3 H3 (fun _ _=>False) I3 (fpk I3 fr3) st3 go
    refine dh itm fun r s4 ⟨u,hr,h4⟩=>?_
    subst hr
    refine dh h4 fun _ s5 ⟨x,H5,I5,r5,y5,st5,fr5⟩=>?_
    have I5':=I5.pinned (fpk I5 fr5) (Tn.obj _ _ st5)
    obtain ⟨F5,gr,rx⟩:=W2.yld i _ F3 H3 x H5 hgi sF E3.g.fh y5
    have a1:=hg' F3 H3 _ s5 σ3 H5 x u (fun σ6 H6=>∃ F6,aI X.K F3 H3 F6 H6 σ6 τ4 /\ aQ F5 F6) I5' r5 (by rw [xK]; exact ⟨F5,τ3,ts[i],τ4,E3.grow gr,rx,e4,fun F6 H6 σ6 E6 s6=>⟨F6,E6,s6⟩⟩)
    rw [xx] at a1
    refine dh a1 fun _ s6 ⟨σ6,H6,I6,F6,E6,sF6⟩=>?_
    have a2:=ht' F3 H3 _ s6 σ6 H6 (fun b' H7=>b'=b /\ ∃ F7,aI X.K F3 H3 F7 H7 σ6 τ5 /\ aQ F6 F7) I6 (by rw [xK]; exact ⟨F6,τ4,b,τ5,E6,e5,fun F7 H7 E7 s7=>⟨rfl,F7,E7,s7⟩⟩)
    rw [xx] at a2
    refine dh a2 fun ok s7 ⟨H7,I7,hok,F7,E7,sF7⟩=>?_
    subst hok
    have tail:∀ {σc:L2.St} {Hc:Hp} {sc:Shared},Inv X' ([] ++ mM fp s5.heap) σc Hc sc -> tn (i + 1) sc.heap /\ ∀ b ∈ fp,Hc b=none:=fun {σc Hc sc} Ic=>by
     refine ⟨Tn.keep _ _ _ st5 fun b hb o e=>(Ic.pin (b,o) (List.mem_append_right _ (List.mem_append_right _ (fN hb e)))).1,fun b hb=>?_⟩
     obtain ⟨o,e,d⟩:=Tn.obj _ _ st5 b hb
     exact (Ic.pin (b,o) (List.mem_append_right _ (List.mem_append_right _ (fN hb e)))).2.1
    have keepD:∀ {Fc Hc:Hp} {σc:L2.St} {τc:aJ},aI X.K F3 H3 Fc Hc σc τc -> Fc s2.heap.objs.size=none:=fun {Fc Hc σc τc} Ec=>by
     cases eF:Fc s2.heap.objs.size with
     | none=>rfl
     | some o =>
      rcases Ec.g.nw _ o eF with z | z
      ·rw [fD] at z; cases z
      ·rw [hD] at z; cases z
    have newF:∀ {Fc Hc:Hp} {σc:L2.St} {τc:aJ},aI X.K F3 H3 Fc Hc σc τc -> ∀ a o,Fc a=some o -> F2 a=some o \/ H1 a=none:=fun {Fc Hc σc τc} Ec a o eF=>by
     rcases Ec.g.nw a o eF with z | z
     ·exact nw a o z
     ·exact .inr (sH.free z)
    cases b':ok with
    | false =>
     subst b'
     dsimp only at ec
     rw [if_neg (by decide)] at ec
     split at ec
     ·next ha =>
      rw [if_neg (by decide)]
      obtain ⟨t1,t2⟩:=tail I7
      exact ⟨ts.length - (i + 1),by omega,i + 1,σ6,H7,F7,τ5,us,vs,I7.unpinned,t1,t2,E7.rebase ha E7.g.fh,ha,keepD E7,E7.g.sH _ _ hD,aV.mono E7.g.sF rv,sF.trans E7.g.sF,sH.trans E7.g.sH,newF E7,hlt,rfl,ec⟩
     ·cases ec
    | true =>
     subst b'
     dsimp only at ec
     rw [if_pos rfl] at ec
     rw [if_pos rfl]
     obtain ⟨⟨y0,τ6⟩,e6,ec⟩:=bind_some ec
     dsimp only at ec
     split at ec
     ·next ha =>
      have a3:=he' F3 H3 _ s7 σ6 H7 (fun y H8=>∃ F8,aI X.K F3 H3 F8 H8 σ6 τ6 /\ Rep X.K F8 y0 y) I7 (by rw [xK]; exact ⟨F7,τ5,y0,τ6,E7,e6,fun F8 H8 y E8 s8 r8=>⟨F8,E8,r8⟩⟩)
      rw [xx] at a3
      refine dh a3 fun yv s8 ⟨y,H8,I8,ry,F8,E8,rp⟩=>?_
      have dD:H8 s2.heap.objs.size=some (.lst vs):=E8.g.sH _ _ hD
      have a4:=mI (X:=X') _ s8 σ6 H8 (.ref s2.heap.objs.size) [y] (.ref s2.heap.objs.size) [yv] (fun _ H9=>H9=upd H8 s2.heap.objs.size (.lst (vs ++ [y]))) I8 rfl (.cons ry .nil) ⟨s2.heap.objs.size,vs,y,rfl,rfl,dD,by rw [rv.length]; exact ha.2,rfl⟩
      rw [xx] at a4
      refine dh a4 fun _ s9 ⟨_,H9,I9,_,e9⟩=>?_
      subst e9
      obtain ⟨t1,t2⟩:=tail I9
      have kD:=keepD E8
      have sm:aQ F8 (upd H8 s2.heap.objs.size (.lst (vs ++ [y]))):=fun c o z=>by rw [aK (fun w=>by subst w; rw [kD] at z; cases z)]; exact E8.g.fh _ _ z
      have sm1:aQ H1 (upd H8 s2.heap.objs.size (.lst (vs ++ [y]))):=fun c o z=>by rw [aK (fun w=>by subst w; rw [hD1] at z; cases z)]; exact E8.g.sH _ _ (sH _ _ z)
      exact ⟨ts.length - (i + 1),by omega,i + 1,σ6,_,F8,τ6,us ++ [y0],vs ++ [y],I9.unpinned,t1,t2,E8.rebase ha.1 sm,ha.1,kD,aU,(aV.mono E8.g.sF rv).append (.one rp),sF.trans E8.g.sF,sm1,newF E8,hlt,rfl,ec⟩
     ·cases ec
   ·have hie:i=ts.length:=by omega
    subst hie
    rw [List.drop_length] at ec
    cases ec
    have dn:=(xP ▸ xw ▸ xK ▸ Tn:Turn X'.prog X'.w X'.K tg J fp it tn).done X' rfl rfl rfl xc ts.length [] s3 σ3 H3 (fun _ _=>False) I3 (fpk I3 fr3) st3 (W2.stop F3 H3 sF E3.g.fh)
    refine dh dn fun r s4 ⟨hr,I4⟩=>?_
    subst hr
    obtain ⟨m4,hm4,_⟩:=I4.loc
    rw [xl] at hm4
    have un:=I4.base
    rw [xfs,xex,xH0,xs0] at un
    have ox:=I4.os
    rw [xs0] at ox
    have hok4:=I4.hok
    rw [xP,xw] at hok4
    have IX:Inv X pins σ H3 s4:=I2.call' ox un hok4 I4.bare fun b hb=>⟨(f2 b hb).2.2.2.1,(f2 b hb).2.1,(f2 b hb).2.2.2.2.1,(f2 b hb).2.2.2.2.2⟩
    have hC:H3 (s2.heap.objs.size + 1)=none:=by have:=I4.free; rw [xl] at this; exact this
    have lC:@LT.lt Nat _ X.env.locals s2.heap.objs.size:=I2.lt
    have gr:bx F2 H1 F3 H3:=⟨sF,sH,E3.g.fh,nw⟩
    refine hpost _ _ _ ⟨⟨H3,F3,vs,IX,E2.grow gr,(sF1.trans sF2).trans sF,fD,hD,E2.g.sH.free hD1,rv,hC⟩,⟨m4,hm4⟩,Nat.ne_of_gt (Nat.lt_succ_of_lt lC),Nat.le_trans I2.sz (Nat.le_succ _),
     fun x c hxc=>by obtain ⟨v,z⟩:=I2.cell x c hxc; exact Nat.ne_of_lt (Nat.lt_succ_of_lt z.lt),fun p hp=>Nat.ne_of_lt (Nat.lt_succ_of_lt (Heap.lt_size (I2.pin p hp).1)),fun j us p j1 j2=>?_⟩
    obtain ⟨v,k1,p',vs',rfl,k2,_⟩:=E2.sl j _ j1
    rw [j2] at k1; cases k1
    exact bA k2 hD1
  ·refine ⟨0,cG no cap σ,upd H1 s2.heap.objs.size (.lst []),F2,cG no cap (frzAll cap τ1),[],[],Ib,Tn.keep _ _ _ st2 fun b hb o e=>gD e,fun b hb=>?_,E2.block ha (E2.g.fh.trans (dq hD1)),ha,E2.g.fh.free hD1,aU,rfl,aQ.refl _,dq hD1,fun a o z=>.inl z,Nat.zero_le _,rfl,e3⟩
   obtain ⟨o,e,_⟩:=Tn.obj 0 _ st2 b hb
   rw [aK (Nat.ne_of_lt (Heap.lt_size e))]
   exact (f2 b hb).1
 have fin:∀ {C:Addr} {cs:List (Str × Addr)},C=s2.heap.objs.size + 1 -> cs=cellsFrom (s2.heap.objs.size + 2) scope.names (mB X.env scope.names []) ->
   codeAny (model X.prog X.w) X.A (.compStart (.ListComp elt [⟨tg,iter,ifs,0⟩] scope pos) 0 (.ref it) (.ref s2.heap.objs.size) (ij X scope C cs)) (post (.ref s2.heap.objs.size) C) { s2 with heap:=h0 s2.heap scope }:=fun {C cs} h1 h2=>by
  subst h1 h2
  exact codeAny_compStart_list loop (Tn.self _ 0 _ _ _ (Tn.keep _ _ _ st2 fun b hb o e=>gD e) loop)
 exact fin hz (by rw [<- hz2])
theorem cT {elt tg iter:Expr} {ifs:List Expr} {scope:Scope} {pos:Pos} {N':List Str} {no:Nat} {cap:List Nat} {fi:FA} {fg:FG} {ft:FT} {fe:FE} (hx:X.xe=fun _ _=>False) (hc:X.calm=true) (B:gH X scope) (hN:N'.length=no + cap.length)
  (hcap:∀ (k j:Nat),cap[k]? = some j -> ∃ x,N'[no + k]? = some x /\ X.N[j]? = some x /\ (x,NameKind.free) ∈ scope.names) (hi:SI X tg iter fi)
  (hg:∀ C cs s₀ H₀ fp pins,SG (rL X scope N' C cs s₀ H₀ fp pins) tg fg) (ht:∀ C cs s₀ H₀ fp pins,Fq (rL X scope N' C cs s₀ H₀ fp pins) ifs ft) (he:∀ C cs s₀ H₀ fp pins,SE (rL X scope N' C cs s₀ H₀ fp pins) elt fe)
  (hs:∀ x,foldedSetIterable iter X.env x=pure x:=by intro _; rfl):SE X (.ListComp elt [⟨tg,iter,ifs,0⟩] scope pos) (dg no cap fi fg ft fe):=by
 intro F₀ H₀ pins s σ H Q I ⟨F,τ,t,τ',E,e1,q⟩
 obtain ⟨⟨ts,τ1⟩,e2,e1⟩:=bind_some e1
 dsimp only at e1
 split at e1
 ·next ha =>
  obtain ⟨rs,e3,e1⟩:=bind_some e1
  cases e1
  have hfree:∀ y ∈ scope.names,y.2=.free -> ∃ c,X.env.cells.lookup y.1=some c:=fun y hy hk=>I.ok.has y.1 (B.free y hy hk).1
  rw [eval_ListComp]
  refine wpAny_comprehension_free (use:=none) rfl hs (kO hfree) B.kind B.names (qM hx hc B hN hcap hi hg ht he I E e2 ha e3 fun D C s' Z=>?_)
  obtain ⟨H3,F3,vs,IX,E3,sF,fD,hD,h0D,rv,hC⟩:=Z.ex
  obtain ⟨m,hm⟩:=Z.ns
  refine ⟨m,hm,fun h' sb=>⟨.ref D,H3,IX.turned (t':=s'.toks) (it:=C) (fun b o hb e=>(sb.2 b hb).trans e) hC Z.cl (.inr Z.c0) Z.cc Z.cp,rfl,?_⟩⟩
  have gr:bx F3 H3 (upd F3 D (.lst vs)) H3 \/ True:=.inr trivial
  have sU:aQ F3 (upd F3 D (.lst vs)):=dq fD
  refine q (upd F3 D (.lst vs)) H3 (.ref D) ⟨⟨E3.g.sF.trans sU,E3.g.sH,fun c o z=>?_,fun c o z=>?_⟩,E3.len,fun j sl ej=>?_,E3.dj⟩ (sF.trans sU) ⟨D,vs,rfl,aU,aV.mono sU rv⟩
  ·by_cases w:c=D
   ·subst w; rw [aU] at z; cases z; exact hD
   ·rw [aK w] at z; exact E3.g.fh _ _ z
  ·by_cases w:c=D
   ·subst w; exact .inr h0D
   ·rw [aK w] at z; exact E3.g.nw _ _ z
  ·obtain ⟨v,k1,k2⟩:=E3.sl j sl ej
   refine ⟨v,k1,?_⟩
   cases sl with
   | sh t=>exact Rep.mono sU k2
   | own us =>
    obtain ⟨p,ws,rfl,g2,g3,g4,g5⟩:=k2
    exact ⟨p,ws,rfl,g2,by rw [aK (Z.ow j us p ej k1)]; exact g3,g4,aV.mono sU g5⟩
 ·cases e1
theorem aI.putOwn {K:PySem.W.Frag} {F₀ H₀ F H:Hp} {σ:L2.St} {τ:aJ} {i:Nat} {rs:List T} {vs:List V} {D:Addr} (E:aI K F₀ H₀ F H σ τ) (fD:F D=none) (hD:H D=some (.lst vs)) (h0:H₀ D=none) (r:aV K F rs vs)
  (ow:∀ (j:Nat) us p,τ[j]? = some (some (.own us)) -> σ[j]? = some (some (.ref p)) -> p ≠ D):aI K F₀ H₀ F H (σ.set i (some (.ref D))) (τ.set i (some (.own rs))):=by
 refine ⟨E.g,by simp [E.len],fun j s e=>?_,fun j k ts' us q hjk e1 e2 e3 e4=>?_⟩
 ·by_cases hj:i=j
  ·subst hj
   by_cases hl:i < τ.length
   ·rw [List.getElem?_set_self hl] at e
    cases e
    exact ⟨.ref D,List.getElem?_set_self (by rw [E.len]; exact hl),D,vs,rfl,hD,fD,h0,r⟩
   ·rw [List.getElem?_eq_none (by simp; omega)] at e; cases e
  ·rw [List.getElem?_set_ne hj] at e
   rw [List.getElem?_set_ne hj]
   exact E.sl j s e
 ·by_cases hj:i=j
  ·subst hj
   rw [List.getElem?_set_ne hjk] at e2 e4
   by_cases hl:i < τ.length
   ·rw [List.getElem?_set_self (by rw [E.len]; exact hl)] at e3
    cases e3
    exact ow k us _ e2 e4 rfl
   ·rw [List.getElem?_eq_none (by simp; omega)] at e1; cases e1
  ·rw [List.getElem?_set_ne hj] at e1 e3
   by_cases hk:i=k
   ·subst hk
    by_cases hl:i < τ.length
    ·rw [List.getElem?_set_self (by rw [E.len]; exact hl)] at e4
     cases e4
     exact ow j ts' _ e1 e3 rfl
    ·rw [List.getElem?_eq_none (by simp; omega)] at e2; cases e2
   ·rw [List.getElem?_set_ne hk] at e2 e4
    exact E.dj j k ts' us q hjk e1 e2 e3 e4
def iI (i no:Nat) (cap:List Nat) (fi:FA) (fg:FG) (ft:FT) (fe:FE):FS:=fun τ=>(fi τ).bind fun p =>
 if cu (cG no cap (frzAll cap p.2))=true then (gM fg ft fe p.1 (cG no cap (frzAll cap p.2)) []).bind fun us=>some (.nx ((frzAll cap p.2).set i (some (.own us)))) else none
theorem pL {i:Nat} {y:Str} {py spos:Pos} {elt tg iter:Expr} {ifs:List Expr} {scope:Scope} {pos:Pos} {N':List Str} {no:Nat} {cap:List Nat} {fi:FA} {fg:FG} {ft:FT} {fe:FE} (hNd:X.N.Nodup) (hiy:X.N[i]? = some y) (hy:X.env.scope.names.lookup y=some .local)
  (hx:X.xe=fun _ _=>False) (hc:X.calm=true) (B:gH X scope) (hN:N'.length=no + cap.length)
  (hcap:∀ (k j:Nat),cap[k]? = some j -> ∃ x,N'[no + k]? = some x /\ X.N[j]? = some x /\ (x,NameKind.free) ∈ scope.names) (hi:SI X tg iter fi)
  (hg:∀ C cs s₀ H₀ fp pins,SG (rL X scope N' C cs s₀ H₀ fp pins) tg fg) (ht:∀ C cs s₀ H₀ fp pins,Fq (rL X scope N' C cs s₀ H₀ fp pins) ifs ft) (he:∀ C cs s₀ H₀ fp pins,SE (rL X scope N' C cs s₀ H₀ fp pins) elt fe)
  (hsw:swapsWith (.ListComp elt [⟨tg,iter,ifs,0⟩] scope pos) (some (.Name y py)) spos.line X.env=pure true:=by rfl) (hs:∀ x,foldedSetIterable iter X.env x=pure x:=by intro _; rfl) :
  SS X (.Assign [.Name y py] (.ListComp elt [⟨tg,iter,ifs,0⟩] scope pos) spos) (iI i no cap fi fg ft fe):=by
 intro F₀ H₀ pins s σ H Dn I ⟨F,τ,r,E,e1,q⟩
 obtain ⟨⟨ts,τ1⟩,e2,e1⟩:=bind_some e1
 dsimp only at e1
 split at e1
 ·next ha =>
  obtain ⟨rs,e3,e1⟩:=bind_some e1
  cases e1
  have hfree:∀ y ∈ scope.names,y.2=.free -> ∃ c,X.env.cells.lookup y.1=some c:=fun y hy hk=>I.ok.has y.1 (B.free y hy hk).1
  rw [exec_Assign_Name_used _ _ _ _ hsw]
  refine wpAny_bind (wpAny_standAt (wpAny_bind (?_:wpAny _ X.A (do let _ <- comprehension (.ListComp elt [⟨tg,iter,ifs,0⟩] scope pos) scope X.env _ (newList []) false (eval iter X.env) (some (assign (.Name y py) X.env))) _ _ s)))
  refine wpAny_bind (dh (wpAny_comprehension_free (use:=some (assign (.Name y py) X.env)) (Q:=fun _ s'=>SP X pins Dn .next s') rfl hs (kO hfree) B.kind B.names (qM hx hc B hN hcap hi hg ht he I E e2 ha e3 fun D C s' Z=>?_)) fun _ s' hq=>wpAny_pure (wpAny_pure hq))
  obtain ⟨H3,F3,vs,IX,E3,sF,fD,hD,h0D,rv,hC⟩:=Z.ex
  obtain ⟨m,hm⟩:=Z.ns
  refine (wpAny_assign_Name (qZ IX hNd hiy (.inl hy) (v:=.ref D) rfl (fun s'' I'' w=>?_) (.inr hy)):wpAny _ X.A (assign (.Name y py) X.env (.ref D)) _ _ _)
  obtain ⟨a,sb,hab⟩:=w
  have aC:C ≠ a:=fun z=>by
   subst z
   rcases hab with z | z
   ·exact Z.cl z
   ·exact Z.cc _ _ z rfl
  refine ⟨m,hm.sameBut sb aC,fun h' sb'=>⟨_,H3,I''.turned (t':=s''.toks) (it:=C) (fun b o hb e=>(sb'.2 b hb).trans e) hC Z.cl (.inr Z.c0) Z.cc Z.cp,?_⟩⟩
  exact q F3 H3 _ (E3.putOwn fD hD h0D rv Z.ow) sF
 ·cases e1
end
def uM (sc scope:Scope):Bool:=scope.kind == .function && scope.names.all fun y=>(y.2 != .local || scope.names.lookup y.1 == some .local) &&
 (y.2 != .free || ((sc.names.lookup y.1 == some .cell || sc.names.lookup y.1 == some .free) && scope.names.all (fun z=>!(z.1 == y.1 && z.2 == .cell)) && scope.names.lookup y.1 == some .free))
theorem aY {X:Cx} {scope:Scope} (h:uM X.env.scope scope=true):gH X scope:=by
 unfold uM at h
 simp only [Bool.and_eq_true,List.all_eq_true,Bool.or_eq_true,bne_iff_ne,beq_iff_eq,Bool.not_eq_true',Bool.and_eq_false_iff,ne_eq] at h
 refine ⟨h.1,fun y hy hk=>?_,fun y hy hk=>?_⟩
 ·rcases (h.2 y hy).1 with z | z
  ·exact absurd hk z
  ·exact z
 ·rcases (h.2 y hy).2 with z | ⟨⟨z1,z2⟩,z3⟩
  ·exact absurd hk z
  ·refine ⟨z1,fun m=>?_,z3⟩
   rcases z2 _ m with w | w
   ·simp at w
   ·simp at w
def oE (N N':List Str) (scope:Scope) (no:Nat):List Nat -> Bool
 | []=>true
 | j :: r=>(match N'[no]?,N[j]? with | some x,some y=>x == y && scope.names.any (fun z=>z.1 == x && z.2 == .free) | _,_=>false) && oE N N' scope (no + 1) r
theorem cI {N N':List Str} {scope:Scope}:∀ {no:Nat} {cap:List Nat},oE N N' scope no cap=true -> ∀ (k j:Nat),cap[k]? = some j -> ∃ x,N'[no + k]? = some x /\ N[j]? = some x /\ (x,NameKind.free) ∈ scope.names
 | no,[],_,k,j,e=>by simp at e
 | no,c :: r,h,k,j,e=>by
  simp only [oE,Bool.and_eq_true] at h
  cases k with
  | zero =>
   simp at e
   subst e
   have h1:=h.1
   split at h1
   ·next x y ex ey =>
    simp only [Bool.and_eq_true,beq_iff_eq,List.any_eq_true] at h1
    obtain ⟨rfl,z,hz,z1,z2⟩:=h1
    refine ⟨x,ex,ey,?_⟩
    obtain ⟨a,b⟩:=z
    dsimp only at z1 z2
    subst z1 z2
    exact hz
   ·cases h1
  | succ k =>
   obtain ⟨x,h1,h2,h3⟩:=cI h.2 k j (by simpa using e)
   exact ⟨x,by rw [show no + (k + 1)=no + 1 + k by omega]; exact h1,h2,h3⟩
open PySem PySem.Spec PyProof.Rows L2
inductive O where
 | val (t:T) | lst (os:List O)
mutual
def dH (K:PySem.W.Frag) (F H:Hp):O -> V -> List Addr -> Prop
 | .val t,v,A=>A=[] /\ Rep K F t v
 | .lst os,v,A=>∃ p vs B,v=.ref p /\ A=p :: B /\ H p=some (.lst vs) /\ F p=none /\ br K F H os vs B
def br (K:PySem.W.Frag) (F H:Hp):List O -> List V -> List Addr -> Prop
 | [],vs,A=>vs=[] /\ A=[]
 | o :: os,vs,A=>∃ v r B C,vs=v :: r /\ A=B ++ C /\ dH K F H o v B /\ br K F H os r C
end
mutual
def O.tr:O -> T
 | .val t=>t
 | .lst os=>.lst (O.trs os)
def O.trs:List O -> List T
 | []=>[]
 | o :: os=>o.tr :: O.trs os
end
section
variable {K:PySem.W.Frag} {F H F' H':Hp}
mutual
theorem dH.move (sF:aQ F F'):∀ {o:O} {v:V} {A:List Addr},(∀ a ∈ A,H' a=H a /\ F' a=none) -> dH K F H o v A -> dH K F' H' o v A
 | .val t,v,A,_,h=>⟨h.1,Rep.mono sF h.2⟩
 | .lst os,v,A,hA,h=>by
  obtain ⟨p,vs,B,rfl,rfl,h1,h2,h3⟩:=h
  have hp:=hA p List.mem_cons_self
  exact ⟨p,vs,B,rfl,rfl,hp.1.trans h1,hp.2,br.move sF (fun a ha=>hA a (List.mem_cons_of_mem _ ha)) h3⟩
theorem br.move (sF:aQ F F'):∀ {os:List O} {vs:List V} {A:List Addr},(∀ a ∈ A,H' a=H a /\ F' a=none) -> br K F H os vs A -> br K F' H' os vs A
 | [],vs,A,_,h=>h
 | o :: os,vs,A,hA,h=>by
  obtain ⟨v,r,B,C,rfl,rfl,h1,h2⟩:=h
  exact ⟨v,r,B,C,rfl,rfl,dH.move sF (fun a ha=>hA a (List.mem_append_left _ ha)) h1,br.move sF (fun a ha=>hA a (List.mem_append_right _ ha)) h2⟩
end
mutual
theorem dH.at:∀ {o:O} {v:V} {A:List Addr},dH K F H o v A -> ∀ a ∈ A,F a=none /\ ∃ vs,H a=some (.lst vs)
 | .val t,v,A,h,a,ha=>by rw [h.1] at ha; cases ha
 | .lst os,v,A,h,a,ha=>by
  obtain ⟨p,vs,B,rfl,rfl,h1,h2,h3⟩:=h
  rcases List.mem_cons.mp ha with rfl | ha
  ·exact ⟨h2,vs,h1⟩
  ·exact br.at h3 a ha
theorem br.at:∀ {os:List O} {vs:List V} {A:List Addr},br K F H os vs A -> ∀ a ∈ A,F a=none /\ ∃ vs,H a=some (.lst vs)
 | [],vs,A,h,a,ha=>by rw [h.2] at ha; cases ha
 | o :: os,vs,A,h,a,ha=>by
  obtain ⟨v,r,B,C,rfl,rfl,h1,h2⟩:=h
  rcases List.mem_append.mp ha with ha | ha
  ·exact dH.at h1 a ha
  ·exact br.at h2 a ha
end
mutual
theorem dH.rep (sF:aQ F F'):∀ {o:O} {v:V} {A:List Addr},(∀ a ∈ A,F' a=H a) -> dH K F H o v A -> Rep K F' o.tr v
 | .val t,v,A,_,h=>Rep.mono sF h.2
 | .lst os,v,A,hA,h=>by
  obtain ⟨p,vs,B,rfl,rfl,h1,h2,h3⟩:=h
  exact ⟨p,vs,rfl,(hA p List.mem_cons_self).trans h1,br.rep sF (fun a ha=>hA a (List.mem_cons_of_mem _ ha)) h3⟩
theorem br.rep (sF:aQ F F'):∀ {os:List O} {vs:List V} {A:List Addr},(∀ a ∈ A,F' a=H a) -> br K F H os vs A -> aV K F' (O.trs os) vs
 | [],vs,A,_,h=>h.1
 | o :: os,vs,A,hA,h=>by
  obtain ⟨v,r,B,C,rfl,rfl,h1,h2⟩:=h
  exact ⟨v,r,rfl,dH.rep sF (fun a ha=>hA a (List.mem_append_left _ ha)) h1,br.rep sF (fun a ha=>hA a (List.mem_append_right _ ha)) h2⟩
end
theorem br.app:∀ {os us:List O} {vs ws:List V} {A B:List Addr},br K F H os vs A -> br K F H us ws B -> br K F H (os ++ us) (vs ++ ws) (A ++ B)
 | [],_,_,_,_,_,h,h'=>by obtain ⟨rfl,rfl⟩:=h; exact h'
 | o :: os,_,_,_,_,_,h,h'=>by
  obtain ⟨v,r,B,C,rfl,rfl,h1,h2⟩:=h
  exact ⟨v,r ++ _,B,C ++ _,rfl,by rw [List.append_assoc],h1,br.app h2 h'⟩
theorem br.one {o:O} {v:V} {A:List Addr} (h:dH K F H o v A):br K F H [o] [v] A:=⟨v,[],A,[],rfl,by simp,h,rfl,rfl⟩
theorem br.length:∀ {os:List O} {vs:List V} {A:List Addr},br K F H os vs A -> vs.length=os.length
 | [],_,_,h=>by rw [h.1]; rfl
 | o :: os,_,_,h=>by
  obtain ⟨v,r,B,C,rfl,rfl,h1,h2⟩:=h
  simp [br.length h2]
theorem br.split:∀ {os:List O} {vs:List V} {A:List Addr} {k:Nat} {o:O},br K F H os vs A -> os[k]? = some o ->
  ∃ (ws:List V) (v:V) (xs:List V) (B C D:List Addr),vs=ws ++ v :: xs /\ ws.length=k /\ A=B ++ (C ++ D) /\ br K F H (os.take k) ws B /\ dH K F H o v C /\ br K F H (os.drop (k + 1)) xs D
 | [],_,_,k,o,h,e=>by simp at e
 | o :: os,_,_,0,o',h,e=>by
  obtain ⟨v,r,B,C,rfl,rfl,h1,h2⟩:=h
  simp at e; subst e
  exact ⟨[],v,r,[],B,C,rfl,rfl,rfl,⟨rfl,rfl⟩,h1,by simpa using h2⟩
 | o :: os,_,_,k + 1,o',h,e=>by
  obtain ⟨v,r,B,C,rfl,rfl,h1,h2⟩:=h
  obtain ⟨ws,w,xs,B',C',D',rfl,rfl,rfl,g1,g2,g3⟩:=br.split (k:=k) h2 (by simpa using e)
  exact ⟨v :: ws,w,xs,B ++ B',C',D',rfl,rfl,by simp [List.append_assoc],⟨v,ws,B,B',rfl,rfl,h1,g1⟩,g2,by simpa using g3⟩
def frzO (F H:Hp) (A:List Addr):Hp:=fun a=>if a ∈ A then H a else F a
theorem ia {A:List Addr} {a:Addr} (h:a ∈ A):frzO F H A a=H a:=if_pos h
theorem fA {A:List Addr} {a:Addr} (h:a ∉ A):frzO F H A a=F a:=if_neg h
theorem eY {A:List Addr} (h:∀ a ∈ A,F a=none):aQ F (frzO F H A):=fun a o e=>by
 rw [fA (fun m=>by rw [h a m] at e; cases e)]; exact e
theorem dH.frz {o:O} {v:V} {A:List Addr} (h:dH K F H o v A):Rep K (frzO F H A) o.tr v:=dH.rep (eY fun a ha=>(h.at a ha).1) (fun a ha=>ia ha) h
theorem bx.frzO {F₀ H₀:Hp} {A:List Addr} (g:bx F₀ H₀ F H) (h:∀ a ∈ A,F a=none) (h0:∀ a ∈ A,H₀ a=none):bx F₀ H₀ (frzO F H A) H:=by
 refine ⟨g.sF.trans (eY h),g.sH,fun a o e=>?_,fun a o e=>?_⟩
 ·by_cases m:a ∈ A
  ·rw [ia m] at e; exact e
  ·rw [fA m] at e; exact g.fh _ _ e
 ·by_cases m:a ∈ A
  ·exact .inr (h0 a m)
  ·rw [fA m] at e; exact g.nw _ _ e
end
section
variable {K:PySem.W.Frag} {F₀ H₀ F H F' H':Hp} {σ:L2.St} {τ:aJ} {A:List Addr}
def Apart (σ:L2.St) (τ:aJ) (A:List Addr):Prop:=∀ (j:Nat) us p,τ[j]? = some (some (.own us)) -> σ[j]? = some (some (.ref p)) -> p ∉ A
theorem aI.frzO (E:aI K F₀ H₀ F H σ τ) (h:∀ a ∈ A,F a=none) (h0:∀ a ∈ A,H₀ a=none) (ow:Apart σ τ A):aI K F₀ H₀ (TM.frzO F H A) H σ τ:=by
 refine ⟨E.g.frzO h h0,E.len,fun i s e=>?_,E.dj⟩
 obtain ⟨v,h1,h2⟩:=E.sl i s e
 refine ⟨v,h1,?_⟩
 cases s with
 | sh t=>exact Rep.mono (eY h) h2
 | own ts =>
  obtain ⟨p,vs,rfl,k2,k3,k4,k5⟩:=h2
  exact ⟨p,vs,rfl,k2,by rw [fA (ow i ts p e h1)]; exact k3,k4,aV.mono (eY h) k5⟩
theorem aI.hp (E:aI K F₀ H₀ F H σ τ) (s:aQ H H'):aI K F₀ H₀ F H' σ τ:=by
 refine ⟨⟨E.g.sF,E.g.sH.trans s,E.g.fh.trans s,E.g.nw⟩,E.len,fun i sl e=>?_,E.dj⟩
 obtain ⟨v,h1,h2⟩:=E.sl i sl e
 refine ⟨v,h1,?_⟩
 cases sl with
 | sh t=>exact h2
 | own ts =>
  obtain ⟨p,vs,rfl,k2,k3,k4,k5⟩:=h2
  exact ⟨p,vs,rfl,s _ _ k2,k3,k4,k5⟩
end
abbrev rm:=aJ -> Option (O × aJ)
def MP (K:PySem.W.Frag) (F₀ H₀:Hp) (f:rm):TE:=fun σ H Q=>∃ F τ o τ',aI K F₀ H₀ F H σ τ /\ f τ=some (o,τ') /\
 ∀ F' H' v A,aI K F₀ H₀ F' H' σ τ' -> aQ F F' -> dH K F' H' o v A -> A.Nodup -> (∀ a ∈ A,H₀ a=none) -> Apart σ τ' A -> Q v H'
def Dj (X:Cx) (e:Expr) (f:rm):Prop:=∀ F₀ H₀,PE X e (MP X.K F₀ H₀ f)
section
variable {X:Cx} {e:Expr} {pos:Pos}
def M3 (f:rm):FE:=fun τ=>(f τ).bind fun p=>some (p.1.tr,p.2)
theorem Dj.se {f:rm} (h:Dj X e f):SE X e (M3 f):=fun F₀ H₀=>PE.weak (h F₀ H₀) fun σ H Q hq__=>by
 obtain ⟨F,τ,t,τ',E,e1,q⟩:=hq__
 obtain ⟨⟨o,τ1⟩,e2,e1⟩:=bind_some e1
 cases e1
 refine ⟨F,τ,o,τ1,E,e2,fun F' H' v A E' s' r nd h0 ow=>?_⟩
 have hF:∀ a ∈ A,F' a=none:=fun a ha=>(r.at a ha).1
 exact q _ H' v (E'.frzO hF h0 ow) (s'.trans (eY hF)) r.frz
def ny (f:FE):rm:=fun τ=>(f τ).bind fun p=>some (.val p.1,p.2)
theorem SE.seo {f:FE} (h:SE X e f):Dj X e (ny f):=fun F₀ H₀=>PE.weak (h F₀ H₀) fun σ H Q hq__=>by
 obtain ⟨F,τ,t,τ',E,e1,q⟩:=hq__
 obtain ⟨⟨o,τ1⟩,e2,e1⟩:=bind_some e1
 cases e1
 exact ⟨F,τ,o,τ1,E,e2,fun F' H' v E' s' r=>q F' H' v [] E' s' ⟨rfl,r⟩ List.nodup_nil (fun a ha=>by cases ha) (fun j us p _ _ m=>by cases m)⟩
theorem br.vals {K:PySem.W.Frag} {F H:Hp}:∀ {ts:List T} {vs:List V},aV K F ts vs -> br K F H (ts.map O.val) vs []
 | [],_,h=>⟨h,rfl⟩
 | t :: ts,_,h=>by
  obtain ⟨v,r,rfl,h2,h3⟩:=h
  exact ⟨v,r,[],[],rfl,rfl,⟨rfl,h2⟩,br.vals h3⟩
theorem dH.new {K:PySem.W.Frag} {F H:Hp} {p:Addr} {ts:List T} {vs:List V} (s:aQ F H) (n:H p=none) (r:aV K F ts vs):dH K F (upd H p (.lst vs)) (.lst (ts.map O.val)) (.ref p) [p]:=
 ⟨p,vs,[],rfl,rfl,aU,s.free n,.vals r⟩
end
open PySem PySem.Spec PyProof.Rows L2
def ik (fg:FG) (ft:FT) (fe:rm):List T -> aJ -> List O -> Option (List O)
 | [],_,acc=>some acc
 | t :: ts,τ,acc=>(fg t τ).bind fun τ1=>(ft τ1).bind fun p=>if p.1=true then (fe p.2).bind fun q=>if cu q.2=true /\ acc.length < sizeLine then ik fg ft fe ts q.2 (acc ++ [q.1]) else none
  else if cu p.2=true then ik fg ft fe ts p.2 acc else none
section
variable {X:Cx}
structure oo (X:Cx) (pins:List (Addr × Obj)) (σ:L2.St) (F₀ H₀ F:Hp) (τ:aJ) (rs:List O) (D C:Addr) (s:Shared):Prop where
 ex:∃ (H F3:Hp) (vs:List V) (As:List Addr),Inv X pins σ H s /\ aI X.K F₀ H₀ F3 H σ τ /\ aQ F F3 /\ F3 D=none /\ H D=some (.lst vs) /\ H₀ D=none /\ br X.K F3 H rs vs As /\ As.Nodup /\ (∀ a ∈ As,H₀ a=none /\ a ≠ D) /\ Apart σ τ As /\ H C=none
 ns:∃ m,s.heap.Ns C m
 cl:C ≠ X.env.locals
 c0:X.s₀.heap.objs.size ≤ C
 cc:∀ x c,X.env.cells.lookup x=some c -> c ≠ C
 cp:∀ p ∈ X.pn ++ pins,p.1 ≠ C
 ow:∀ (j:Nat) us p,τ[j]? = some (some (.own us)) -> σ[j]? = some (some (.ref p)) -> p ≠ D
theorem wV {elt tg iter:Expr} {ifs:List Expr} {scope:Scope} {pos:Pos} {N':List Str} {no:Nat} {cap:List Nat} {fi:FA} {fg:FG} {ft:FT} {fe:rm} (hx:X.xe=fun _ _=>False) (hc:X.calm=true) (B:gH X scope) (hN:N'.length=no + cap.length)
  (hcap:∀ (k j:Nat),cap[k]? = some j -> ∃ x,N'[no + k]? = some x /\ X.N[j]? = some x /\ (x,NameKind.free) ∈ scope.names) (hi:SI X tg iter fi)
  (hg:∀ C cs s₀ H₀ fp pins,SG (rL X scope N' C cs s₀ H₀ fp pins) tg fg) (ht:∀ C cs s₀ H₀ fp pins,Fq (rL X scope N' C cs s₀ H₀ fp pins) ifs ft) (he:∀ C cs s₀ H₀ fp pins,Dj (rL X scope N' C cs s₀ H₀ fp pins) elt fe)
  {F₀ H₀ F H:Hp} {pins:List (Addr × Obj)} {s:Shared} {σ:L2.St} {τ τ1:aJ} {ts:List T} {rs:List O} (I:Inv X pins σ H s) (E:aI X.K F₀ H₀ F H σ τ) (e2:fi τ=some (ts,τ1)) (ha:cu (cG no cap (frzAll cap τ1))=true) (e3:ik fg ft fe ts (cG no cap (frzAll cap τ1)) []=some rs)
  {post:Value -> Addr -> Result -> Shared -> Prop} (hpost:∀ D C s',oo X pins σ F₀ H₀ F (frzAll cap τ1) rs D C s' -> post (.ref D) C (.ok .next) s') :
  wpAny (model X.prog X.w) X.A (eval iter X.env) (fun x s₁=>wpAny (model X.prog X.w) X.A (pyIter x) (fun it s₂=>wpAny (model X.prog X.w) X.A (newList []) (fun acc s₃ =>
   wpAny (model X.prog X.w) X.A (newFunctionEnv scope X.env.globals (mB X.env scope.names []) [] X.env.qual none .none (some X.env)) (fun cenv s₄ =>
    codeAny (model X.prog X.w) X.A (.compStart (.ListComp elt [⟨tg,iter,ifs,0⟩] scope pos) 0 it acc { cenv with scope:=relabel scope X.env }) (post acc cenv.locals) s₄) X.xe s₃) X.xe s₂) X.xe s₁) X.xe s:=by
 refine dh (hi F₀ H₀ pins s σ H (fun J H1=>∃ F1,aI X.K F₀ H₀ F1 H1 σ τ1 /\ aQ F F1 /\ Walks X.K F1 ts J) I ⟨F,τ,ts,τ1,E,e2,fun F1 H1 J E1 s1 W=>⟨F1,E1,s1,W⟩⟩) fun v s1 h1=>dh h1 fun itv s2 h2=>?_
 obtain ⟨it,fp,tn,J,H1,rfl,I2,Tn,st2,f2,F1,E1,sF1,W⟩:=h2
 obtain ⟨F2,E2,sF2⟩:=E1.frzAll cap
 have W2:Walks X.K F2 ts J:=⟨fun i t F3 H3 e a b=>W.go i t F3 H3 e (sF2.trans a) b,fun i t F3 H3 x H4 e a b y=>W.yld i t F3 H3 x H4 e (sF2.trans a) b y,fun F3 H3 a b=>W.stop F3 H3 (sF2.trans a) b⟩
 refine wpAny_newObj_type ?_
 have hz:(s2.heap.push kz).objs.size=s2.heap.objs.size + 1:=Heap.size_push ..
 have hz2:((s2.heap.push kz).push uV).objs.size=s2.heap.objs.size + 2:=by rw [Heap.size_push,hz]
 simp only [newFunctionEnv,Option.isSome_some,if_true]
 refine wpAny_bind (wpAny_alloc ?_)
 refine wpAny_bind (wpAny_layCells _ (fun name kind cells=>by cases hkc:kind == NameKind.cell <;> simp [hkc]) _ _ _ _ ?_)
 simp only [List.forIn_nil]
 refine wpAny_bind (wpAny_pure (wpAny_pure ?_))
 have loop:codeAny (model X.prog X.w) X.A (.compLoop (.ListComp elt [⟨tg,iter,ifs,0⟩] scope pos) 0 (.ref it) (.ref s2.heap.objs.size) (ij X scope (s2.heap.objs.size + 1) (cellsFrom (s2.heap.objs.size + 2) scope.names (mB X.env scope.names []))))
   (post (.ref s2.heap.objs.size) (s2.heap.objs.size + 1)) { s2 with heap:=h0 s2.heap scope }:=by
  have Ib:=qI (N':=N') (σ':=cG no cap σ) (tk:=s2.toks) I2 B f2 (fun b hb=>by obtain ⟨o,e,_⟩:=Tn.obj 0 _ st2 b hb; exact ⟨o,e⟩) (by simp [cG,hN]) (fun i x v a1 a2=>by
   obtain ⟨k,j,rfl,hk,hj⟩:=mx a2
   obtain ⟨x',b1,b2,b3⟩:=hcap k j hk
   rw [a1] at b1; cases b1
   exact .inl ⟨b3,j,b2,hj⟩)
  generalize hX':rL X scope N' (s2.heap.objs.size + 1) (cellsFrom (s2.heap.objs.size + 2) scope.names (mB X.env scope.names [])) s2 H1 fp pins=X' at Ib
  have hg':SG X' tg fg:=by rw [<- hX']; exact hg _ _ _ _ _ _
  have ht':Fq X' ifs ft:=by rw [<- hX']; exact ht _ _ _ _ _ _
  have he':Dj X' elt fe:=by rw [<- hX']; exact he _ _ _ _ _ _
  have xP:X'.prog=X.prog:=by rw [<- hX']; rfl
  have xw:X'.w=X.w:=by rw [<- hX']; rfl
  have xK:X'.K=X.K:=by rw [<- hX']; rfl
  have xA:X'.A=X.A:=by rw [<- hX']; rfl
  have xc:X'.calm=true:=by rw [<- hX']; exact hc
  have xx:X'.xe=fun _ _=>False:=by rw [<- hX']; rfl
  have xe':X'.env=ij X scope (s2.heap.objs.size + 1) (cellsFrom (s2.heap.objs.size + 2) scope.names (mB X.env scope.names [])):=by rw [<- hX']; rfl
  have xex:X'.ex=fp:=by rw [<- hX']; rfl
  have xfs:X'.fs=nU X.stack:=by rw [<- hX']; rfl
  have xpn:X'.pn=X.pn ++ pins:=by rw [<- hX']; rfl
  have xs0:X'.s₀=s2:=by rw [<- hX']; rfl
  have xH0:X'.H₀=H1:=by rw [<- hX']; rfl
  have xl:X'.env.locals=s2.heap.objs.size + 1:=by rw [<- hX']; rfl
  rw [<- xe',<- xP,<- xw,<- xA]
  have hD1:H1 s2.heap.objs.size=none:=I2.fresh
  have fpk:∀ {Hc:Hp} {σc:L2.St} {pc:List (Addr × Obj)} {sc:Shared},Inv X' pc σc Hc sc -> (∀ b ∈ fp,Hc b=none) -> ∀ b ∈ fp,p8 X' [] Hc b:=fun {Hc σc pc sc} Ic hn b hb=>by
   have q1:=Ic.ok.exf b (by rw [xex]; exact hb)
   have q2:=Ic.ok.exfs b (by rw [xex]; exact hb)
   refine ⟨hn b hb,q1.1,q2,.inl (by rw [xex]; exact hb),q1.2,fun p hp=>?_⟩
   rw [xpn,List.append_nil] at hp
   exact (f2 b hb).2.2.2.2.2 p hp
  refine qN (fun n s3=>∃ i σ3 H3 F3 τ3 us vs As,Inv X' [] σ3 H3 s3 /\ tn i s3.heap /\ (∀ b ∈ fp,H3 b=none) /\ aI X.K F3 H3 F3 H3 σ3 τ3 /\ cu τ3=true /\ F3 s2.heap.objs.size=none /\ H3 s2.heap.objs.size=some (.lst vs) /\ (br X.K F3 H3 us vs As /\ As.Nodup /\ ∀ a ∈ As,H1 a=none /\ a ≠ s2.heap.objs.size) /\ aQ F2 F3 /\ aQ H1 H3 /\
   (∀ a o,F3 a=some o -> F2 a=some o \/ H1 a=none) /\ i ≤ ts.length /\ n=ts.length - i /\ ik fg ft fe (ts.drop i) τ3 us=some rs) ?_ ts.length ?_
  ·rintro n s3 ⟨i,σ3,H3,F3,τ3,us,vs,As,I3,st3,fr3,E3,ha3,fD,hD,⟨rv,nd,fr⟩,sF,sH,nw,hi',rfl,ec⟩
   by_cases hlt:i < ts.length
   ·have hgi:ts[i]? = some ts[i]:=List.getElem?_eq_getElem hlt
    rw [List.drop_eq_getElem_cons hlt] at ec
    obtain ⟨τ4,e4,ec⟩:=bind_some ec
    obtain ⟨⟨b,τ5⟩,e5,ec⟩:=bind_some ec
    have go:=W2.go i _ F3 H3 hgi sF E3.g.fh
    have itm:=(xP ▸ xw ▸ xK ▸ Tn:Turn X'.prog X'.w X'.K tg J fp it tn).item X' rfl rfl rfl xc i [] s3 σ3 H3 (fun _ _=>False) I3 (fpk I3 fr3) st3 go
    refine dh itm fun r s4 ⟨u,hr,h4⟩=>?_
    subst hr
    refine dh h4 fun _ s5 ⟨x,H5,I5,r5,y5,st5,fr5⟩=>?_
    have I5':=I5.pinned (fpk I5 fr5) (Tn.obj _ _ st5)
    obtain ⟨F5,gr,rx⟩:=W2.yld i _ F3 H3 x H5 hgi sF E3.g.fh y5
    have a1:=hg' F3 H3 _ s5 σ3 H5 x u (fun σ6 H6=>∃ F6,aI X.K F3 H3 F6 H6 σ6 τ4 /\ aQ F5 F6) I5' r5 (by rw [xK]; exact ⟨F5,τ3,ts[i],τ4,E3.grow gr,rx,e4,fun F6 H6 σ6 E6 s6=>⟨F6,E6,s6⟩⟩)
    rw [xx] at a1
    refine dh a1 fun _ s6 ⟨σ6,H6,I6,F6,E6,sF6⟩=>?_
    have a2:=ht' F3 H3 _ s6 σ6 H6 (fun b' H7=>b'=b /\ ∃ F7,aI X.K F3 H3 F7 H7 σ6 τ5 /\ aQ F6 F7) I6 (by rw [xK]; exact ⟨F6,τ4,b,τ5,E6,e5,fun F7 H7 E7 s7=>⟨rfl,F7,E7,s7⟩⟩)
    rw [xx] at a2
    refine dh a2 fun ok s7 ⟨H7,I7,hok,F7,E7,sF7⟩=>?_
    subst hok
    have tail:∀ {σc:L2.St} {Hc:Hp} {sc:Shared},Inv X' ([] ++ mM fp s5.heap) σc Hc sc -> tn (i + 1) sc.heap /\ ∀ b ∈ fp,Hc b=none:=fun {σc Hc sc} Ic=>by
     refine ⟨Tn.keep _ _ _ st5 fun b hb o e=>(Ic.pin (b,o) (List.mem_append_right _ (List.mem_append_right _ (fN hb e)))).1,fun b hb=>?_⟩
     obtain ⟨o,e,d⟩:=Tn.obj _ _ st5 b hb
     exact (Ic.pin (b,o) (List.mem_append_right _ (List.mem_append_right _ (fN hb e)))).2.1
    have keepD:∀ {Fc Hc:Hp} {σc:L2.St} {τc:aJ},aI X.K F3 H3 Fc Hc σc τc -> Fc s2.heap.objs.size=none:=fun {Fc Hc σc τc} Ec=>by
     cases eF:Fc s2.heap.objs.size with
     | none=>rfl
     | some o =>
      rcases Ec.g.nw _ o eF with z | z
      ·rw [fD] at z; cases z
      ·rw [hD] at z; cases z
    have newF:∀ {Fc Hc:Hp} {σc:L2.St} {τc:aJ},aI X.K F3 H3 Fc Hc σc τc -> ∀ a o,Fc a=some o -> F2 a=some o \/ H1 a=none:=fun {Fc Hc σc τc} Ec a o eF=>by
     rcases Ec.g.nw a o eF with z | z
     ·exact nw a o z
     ·exact .inr (sH.free z)
    have mv:∀ {Fc Hc Hd:Hp} {σc:L2.St} {τc:aJ},aI X.K F3 H3 Fc Hc σc τc -> (∀ a,a ≠ s2.heap.objs.size -> Hd a=Hc a) -> br X.K Fc Hd us vs As:=fun {Fc Hc Hd σc τc} Ec hd=>by
     refine br.move Ec.g.sF (fun a ha=>?_) rv
     obtain ⟨f1,ws,f2⟩:=rv.at a ha
     refine ⟨by rw [hd a (fr a ha).2,Ec.g.sH _ _ f2,f2],?_⟩
     cases eF:Fc a with
     | none=>rfl
     | some o =>
      rcases Ec.g.nw _ o eF with z | z
      ·rw [f1] at z; cases z
      ·rw [f2] at z; cases z
    cases b':ok with
    | false =>
     subst b'
     dsimp only at ec
     rw [if_neg (by decide)] at ec
     split at ec
     ·next ha =>
      rw [if_neg (by decide)]
      obtain ⟨t1,t2⟩:=tail I7
      exact ⟨ts.length - (i + 1),by omega,i + 1,σ6,H7,F7,τ5,us,vs,As,I7.unpinned,t1,t2,E7.rebase ha E7.g.fh,ha,keepD E7,E7.g.sH _ _ hD,⟨mv E7 (fun _ _=>rfl),nd,fr⟩,sF.trans E7.g.sF,sH.trans E7.g.sH,newF E7,hlt,rfl,ec⟩
     ·cases ec
    | true =>
     subst b'
     dsimp only at ec
     rw [if_pos rfl] at ec
     rw [if_pos rfl]
     obtain ⟨⟨y0,τ6⟩,e6,ec⟩:=bind_some ec
     dsimp only at ec
     split at ec
     ·next ha =>
      have a3:=he' F3 H3 _ s7 σ6 H7 (fun y H8=>∃ F8 Ay,aI X.K F3 H3 F8 H8 σ6 τ6 /\ dH X.K F8 H8 y0 y Ay /\ Ay.Nodup /\ ∀ a ∈ Ay,H3 a=none) I7 (by rw [xK]; exact ⟨F7,τ5,y0,τ6,E7,e6,fun F8 H8 y Ay E8 s8 r8 n8 h8 _=>⟨F8,Ay,E8,r8,n8,h8⟩⟩)
      rw [xx] at a3
      refine dh a3 fun yv s8 ⟨y,H8,I8,ry,F8,Ay,E8,rp,ndy,hy8⟩=>?_
      have dD:H8 s2.heap.objs.size=some (.lst vs):=E8.g.sH _ _ hD
      have a4:=mI (X:=X') _ s8 σ6 H8 (.ref s2.heap.objs.size) [y] (.ref s2.heap.objs.size) [yv] (fun _ H9=>H9=upd H8 s2.heap.objs.size (.lst (vs ++ [y]))) I8 rfl (.cons ry .nil) ⟨s2.heap.objs.size,vs,y,rfl,rfl,dD,by rw [rv.length]; exact ha.2,rfl⟩
      rw [xx] at a4
      refine dh a4 fun _ s9 ⟨_,H9,I9,_,e9⟩=>?_
      subst e9
      obtain ⟨t1,t2⟩:=tail I9
      have kD:=keepD E8
      have sm:aQ F8 (upd H8 s2.heap.objs.size (.lst (vs ++ [y]))):=fun c o z=>by rw [aK (fun w=>by subst w; rw [kD] at z; cases z)]; exact E8.g.fh _ _ z
      have sm1:aQ H1 (upd H8 s2.heap.objs.size (.lst (vs ++ [y]))):=fun c o z=>by rw [aK (fun w=>by subst w; rw [hD1] at z; cases z)]; exact E8.g.sH _ _ (sH _ _ z)
      have yD:∀ a ∈ Ay,a ≠ s2.heap.objs.size:=fun a ha z=>by have:=hy8 a ha; rw [z,hD] at this; cases this
      have rp9:dH X.K F8 (upd H8 s2.heap.objs.size (.lst (vs ++ [y]))) y0 y Ay:=dH.move (aQ.refl _) (fun a ha=>⟨aK (yD a ha),(rp.at a ha).1⟩) rp
      have all9:br X.K F8 (upd H8 s2.heap.objs.size (.lst (vs ++ [y]))) (us ++ [y0]) (vs ++ [y]) (As ++ Ay):=(mv E8 (fun a ha=>aK ha)).app (.one rp9)
      have nd9:(As ++ Ay).Nodup:=List.nodup_append.mpr ⟨nd,ndy,fun a ha b hb z=>by subst z; obtain ⟨_,ws,f2⟩:=rv.at a ha; rw [hy8 a hb] at f2; cases f2⟩
      have fr9:∀ a ∈ As ++ Ay,H1 a=none /\ a ≠ s2.heap.objs.size:=fun a ha=>by
       rcases List.mem_append.mp ha with ha | ha
       ·exact fr a ha
       ·exact ⟨sH.free (hy8 a ha),yD a ha⟩
      exact ⟨ts.length - (i + 1),by omega,i + 1,σ6,_,F8,τ6,us ++ [y0],vs ++ [y],As ++ Ay,I9.unpinned,t1,t2,E8.rebase ha.1 sm,ha.1,kD,aU,⟨all9,nd9,fr9⟩,sF.trans E8.g.sF,sm1,newF E8,hlt,rfl,ec⟩
     ·cases ec
   ·have hie:i=ts.length:=by omega
    subst hie
    rw [List.drop_length] at ec
    cases ec
    have dn:=(xP ▸ xw ▸ xK ▸ Tn:Turn X'.prog X'.w X'.K tg J fp it tn).done X' rfl rfl rfl xc ts.length [] s3 σ3 H3 (fun _ _=>False) I3 (fpk I3 fr3) st3 (W2.stop F3 H3 sF E3.g.fh)
    refine dh dn fun r s4 ⟨hr,I4⟩=>?_
    subst hr
    obtain ⟨m4,hm4,_⟩:=I4.loc
    rw [xl] at hm4
    have un:=I4.base
    rw [xfs,xex,xH0,xs0] at un
    have ox:=I4.os
    rw [xs0] at ox
    have hok4:=I4.hok
    rw [xP,xw] at hok4
    have IX:Inv X pins σ H3 s4:=I2.call' ox un hok4 I4.bare fun b hb=>⟨(f2 b hb).2.2.2.1,(f2 b hb).2.1,(f2 b hb).2.2.2.2.1,(f2 b hb).2.2.2.2.2⟩
    have hC:H3 (s2.heap.objs.size + 1)=none:=by have:=I4.free; rw [xl] at this; exact this
    have lC:@LT.lt Nat _ X.env.locals s2.heap.objs.size:=I2.lt
    have gr:bx F2 H1 F3 H3:=⟨sF,sH,E3.g.fh,nw⟩
    have ap3:Apart σ (frzAll cap τ1) As:=fun j us p j1 j2 m=>by
     obtain ⟨v,k1,p',vs',rfl,k2,_⟩:=E2.sl j _ j1
     rw [j2] at k1; cases k1
     rw [(fr _ m).1] at k2; cases k2
    refine hpost _ _ _ ⟨⟨H3,F3,vs,As,IX,E2.grow gr,(sF1.trans sF2).trans sF,fD,hD,E2.g.sH.free hD1,rv,nd,fun a ha=>⟨E2.g.sH.free (fr a ha).1,(fr a ha).2⟩,ap3,hC⟩,⟨m4,hm4⟩,Nat.ne_of_gt (Nat.lt_succ_of_lt lC),Nat.le_trans I2.sz (Nat.le_succ _),
     fun x c hxc=>by obtain ⟨v,z⟩:=I2.cell x c hxc; exact Nat.ne_of_lt (Nat.lt_succ_of_lt z.lt),fun p hp=>Nat.ne_of_lt (Nat.lt_succ_of_lt (Heap.lt_size (I2.pin p hp).1)),fun j us p j1 j2=>?_⟩
    obtain ⟨v,k1,p',vs',rfl,k2,_⟩:=E2.sl j _ j1
    rw [j2] at k1; cases k1
    exact bA k2 hD1
  ·refine ⟨0,cG no cap σ,upd H1 s2.heap.objs.size (.lst []),F2,cG no cap (frzAll cap τ1),[],[],[],Ib,Tn.keep _ _ _ st2 fun b hb o e=>gD e,fun b hb=>?_,E2.block ha (E2.g.fh.trans (dq hD1)),ha,E2.g.fh.free hD1,aU,⟨⟨rfl,rfl⟩,List.nodup_nil,fun a ha=>by cases ha⟩,aQ.refl _,dq hD1,fun a o z=>.inl z,Nat.zero_le _,rfl,e3⟩
   obtain ⟨o,e,_⟩:=Tn.obj 0 _ st2 b hb
   rw [aK (Nat.ne_of_lt (Heap.lt_size e))]
   exact (f2 b hb).1
 have fin:∀ {C:Addr} {cs:List (Str × Addr)},C=s2.heap.objs.size + 1 -> cs=cellsFrom (s2.heap.objs.size + 2) scope.names (mB X.env scope.names []) ->
   codeAny (model X.prog X.w) X.A (.compStart (.ListComp elt [⟨tg,iter,ifs,0⟩] scope pos) 0 (.ref it) (.ref s2.heap.objs.size) (ij X scope C cs)) (post (.ref s2.heap.objs.size) C) { s2 with heap:=h0 s2.heap scope }:=fun {C cs} h1 h2=>by
  subst h1 h2
  exact codeAny_compStart_list loop (Tn.self _ 0 _ _ _ (Tn.keep _ _ _ st2 fun b hb o e=>gD e) loop)
 exact fin hz (by rw [<- hz2])
def fM (no:Nat) (cap:List Nat) (fi:FA) (fg:FG) (ft:FT) (fe:rm):rm:=fun τ=>(fi τ).bind fun p =>
 if cu (cG no cap (frzAll cap p.2))=true then (ik fg ft fe p.1 (cG no cap (frzAll cap p.2)) []).bind fun us=>some (.lst us,frzAll cap p.2) else none
theorem oo.fin {pins:List (Addr × Obj)} {σ:L2.St} {F₀ H₀ F:Hp} {τ:aJ} {rs:List O} {D C:Addr} {s:Shared} (Z:oo X pins σ F₀ H₀ F τ rs D C s) :
  ∃ (H F3:Hp) (As:List Addr),Inv X pins σ H s /\ aI X.K F₀ H₀ F3 H σ τ /\ aQ F F3 /\ dH X.K F3 H (.lst rs) (.ref D) As /\ As.Nodup /\ (∀ a ∈ As,H₀ a=none) /\ Apart σ τ As /\ H C=none:=by
 obtain ⟨H,F3,vs,As,IX,E3,sF,fD,hD,h0D,rv,nd,h0,ap,hC⟩:=Z.ex
 refine ⟨H,F3,D :: As,IX,E3,sF,⟨D,vs,As,rfl,rfl,hD,fD,rv⟩,List.nodup_cons.mpr ⟨fun m=>(h0 D m).2 rfl,nd⟩,fun a ha=>?_,fun j us p e1 e2 m=>?_,hC⟩
 ·rcases List.mem_cons.mp ha with rfl | ha
  ·exact h0D
  ·exact (h0 a ha).1
 ·rcases List.mem_cons.mp m with rfl | m
  ·exact Z.ow j us _ e1 e2 rfl
  ·exact ap j us p e1 e2 m
theorem lZ {elt tg iter:Expr} {ifs:List Expr} {scope:Scope} {pos:Pos} {N':List Str} {no:Nat} {cap:List Nat} {fi:FA} {fg:FG} {ft:FT} {fe:rm} (hx:X.xe=fun _ _=>False) (hc:X.calm=true) (B:gH X scope) (hN:N'.length=no + cap.length)
  (hcap:∀ (k j:Nat),cap[k]? = some j -> ∃ x,N'[no + k]? = some x /\ X.N[j]? = some x /\ (x,NameKind.free) ∈ scope.names) (hi:SI X tg iter fi)
  (hg:∀ C cs s₀ H₀ fp pins,SG (rL X scope N' C cs s₀ H₀ fp pins) tg fg) (ht:∀ C cs s₀ H₀ fp pins,Fq (rL X scope N' C cs s₀ H₀ fp pins) ifs ft) (he:∀ C cs s₀ H₀ fp pins,Dj (rL X scope N' C cs s₀ H₀ fp pins) elt fe)
  (hs:∀ x,foldedSetIterable iter X.env x=pure x:=by intro _; rfl):Dj X (.ListComp elt [⟨tg,iter,ifs,0⟩] scope pos) (fM no cap fi fg ft fe):=by
 intro F₀ H₀ pins s σ H Q I ⟨F,τ,t,τ',E,e1,q⟩
 obtain ⟨⟨ts,τ1⟩,e2,e1⟩:=bind_some e1
 dsimp only at e1
 split at e1
 ·next ha =>
  obtain ⟨rs,e3,e1⟩:=bind_some e1
  cases e1
  have hfree:∀ y ∈ scope.names,y.2=.free -> ∃ c,X.env.cells.lookup y.1=some c:=fun y hy hk=>I.ok.has y.1 (B.free y hy hk).1
  rw [eval_ListComp]
  refine wpAny_comprehension_free (use:=none) rfl hs (kO hfree) B.kind B.names (wV hx hc B hN hcap hi hg ht he I E e2 ha e3 fun D C s' Z=>?_)
  obtain ⟨H3,F3,As,IX,E3,sF,ro,nd,h0,ap,hC⟩:=Z.fin
  obtain ⟨m,hm⟩:=Z.ns
  refine ⟨m,hm,fun h' sb=>⟨.ref D,H3,IX.turned (t':=s'.toks) (it:=C) (fun b o hb e=>(sb.2 b hb).trans e) hC Z.cl (.inr Z.c0) Z.cc Z.cp,rfl,?_⟩⟩
  exact q F3 H3 (.ref D) As E3 sF ro nd h0 ap
 ·cases e1
end
open PySem PySem.Spec PyProof.Rows L2
def sj (H:Hp) (A:List Addr):Hp:=fun a=>if a ∈ A then none else H a
theorem yR {H:Hp} {A:List Addr} {a:Addr} (h:a ∈ A):sj H A a=none:=if_pos h
theorem fz {H:Hp} {A:List Addr} {a:Addr} (h:a ∉ A):sj H A a=H a:=if_neg h
theorem AA {H:Hp} {A:List Addr}:aQ (sj H A) H:=fun a o e=>by
 by_cases m:a ∈ A
 ·rw [yR m] at e; cases e
 ·rw [fz m] at e; exact e
def Nc (K:PySem.W.Frag) (n:Nat) (d:O -> List T -> Option T):Sp:=fun vs H Q _=>vs.length=n /\ ∃ F o v ws ts A t,aQ F H /\ vs=v :: ws /\ dH K F H o v A /\ A.Nodup /\ aV K F ts ws /\ d o ts=some t /\
 ∀ F' H' v',bx F (sj H A) F' H' -> Rep K F' t v' -> Q v' H'
structure Am (P:Program) (w:World) (K:PySem.W.Frag) (mg:Str -> Option Value) (base:Heap) (k:Nat) (x:Str) (n:Nat) (d:O -> List T -> Option T):Prop where
 ex:∃ f fd ps,fJ P w K mg base pX k f fd ps (Nc K n d) /\ Binds K fd ps [] /\ PySem.W.keepIn K (.ref f)=true /\ mg x=some (.ref f) /\ ps.length=n
theorem Am.imp {P:Program} {w:World} {K:PySem.W.Frag} {mg:Str -> Option Value} {base:Heap} {k n:Nat} {x:Str} {d d':O -> List T -> Option T} (D:Am P w K mg base k x n d) (h:∀ o ts t,d' o ts=some t -> d o ts=some t):Am P w K mg base k x n d':=by
 obtain ⟨f,fd,ps,F,r⟩:=D.ex
 exact ⟨f,fd,ps,F.imp fun vs H Q E ⟨l,F,o,v,ws,ts,A,t,a,b,c,nd,r,e,q⟩=>⟨l,F,o,v,ws,ts,A,t,a,b,c,nd,r,h _ _ _ e,q⟩,r⟩
theorem Am.mono {P:Program} {w:World} {K:PySem.W.Frag} {mg:Str -> Option Value} {base:Heap} {j k n:Nat} {x:Str} {d:O -> List T -> Option T} (D:Am P w K mg base j x n d) (h:j ≤ k):Am P w K mg base k x n d:=by
 obtain ⟨f,fd,ps,F,r⟩:=D.ex
 exact ⟨f,fd,ps,F.mono h,r⟩
section
variable {K:PySem.W.Frag} {F₀ H₀ F₁ H₁ F H F' H':Hp} {σ:L2.St} {τ:aJ}
theorem aI.back (E:aI K F₁ H₁ F H σ τ) (ha:cu τ=true) (g:bx F₀ H₀ F₁ H₁):aI K F₀ H₀ F H σ τ:=by
 refine ⟨g.trans E.g,E.len,fun i sl e=>?_,fun i j ts us p _ e1=>absurd e1 (dO ha)⟩
 obtain ⟨v,h1,h2⟩:=E.sl i sl e
 cases sl with
 | sh t=>exact ⟨v,h1,h2⟩
 | own ts=>exact absurd e (dO ha)
theorem aI.to (E:aI K F₁ H₁ F H σ τ) (ha:cu τ=true) (sF:aQ F F') (g:bx F₀ H₀ F' H'):aI K F₀ H₀ F' H' σ τ:=by
 refine ⟨g,E.len,fun i sl e=>?_,fun i j ts us p _ e1=>absurd e1 (dO ha)⟩
 obtain ⟨v,h1,h2⟩:=E.sl i sl e
 cases sl with
 | sh t=>exact ⟨v,h1,Rep.mono sF h2⟩
 | own ts=>exact absurd e (dO ha)
theorem dH.over {o:O} {v:V} {A:List Addr} (g:bx F H F' H') (h:dH K F H o v A):dH K F' H' o v A:=by
 refine dH.move g.sF (fun a ha=>?_) h
 obtain ⟨f1,ws,f2⟩:=h.at a ha
 refine ⟨by rw [g.sH _ _ f2,f2],?_⟩
 cases eF:F' a with
 | none=>rfl
 | some o =>
  rcases g.nw _ o eF with z | z
  ·rw [f1] at z; cases z
  ·rw [f2] at z; cases z
end
section
variable {X:Cx} {e:Expr} {f:FE} {ft:FT} {es:List Expr} {g:FA}
theorem SE.any (h:SE X e f):PE X e (fun σ H Q=>∃ F₀ H₀,tE X.K F₀ H₀ f σ H Q):=fun pins s σ H Q I ⟨F₀,H₀,q⟩=>h F₀ H₀ pins s σ H Q I q
theorem ST.any (h:ST X e ft):PT X e (fun σ H Q=>∃ F₀ H₀,tT X.K F₀ H₀ ft σ H Q):=fun pins s σ H Q I ⟨F₀,H₀,q⟩=>h F₀ H₀ pins s σ H Q I q
theorem SA.any (h:SA X es g):PA X es (fun σ H Q=>∃ F₀ H₀,tA X.K F₀ H₀ g σ H Q):=fun p pins s σ H Q I ⟨F₀,H₀,q⟩=>h F₀ H₀ p pins s σ H Q I q
theorem wF.any {ss:List Stmt} {fs:FS} (h:wF X ss fs):lF X ss (fun D σ H=>∃ F₀ H₀,tS X.K F₀ H₀ fs D σ H):=fun pins s σ H D I ⟨F₀,H₀,q⟩=>h F₀ H₀ pins s σ H D I q
end
open PySem PySem.Spec PyProof.Rows L2
section
variable {X:Cx}
def boolsOf:List T -> Option (List Bool)
 | []=>some []
 | .bl b :: r=>(boolsOf r).bind fun bs=>some (b :: bs)
 | _=>none
def rX:List T -> Option T
 | [.lst ts]=>(boolsOf ts).bind fun bs=>some (.bl (bs.all id))
 | _=>none
theorem qJ {K:PySem.W.Frag} {F:Hp}:∀ {ts:List T} {bs:List Bool} {vs:List V} {its:List Value},boolsOf ts=some bs -> aV K F ts vs -> Vals vs its -> its=bs.map Value.bool
 | [],bs,vs,its,e,r,z=>by
  cases e; cases r; cases z; rfl
 | t :: ts,bs,vs,its,e,r,z=>by
  obtain ⟨v,rr,rfl,h1,h2⟩:=r
  unfold boolsOf at e
  split at e
  ·next he=>cases he
  ·next b r0 he =>
   cases he
   obtain ⟨bs',e1,e2⟩:=bind_some e
   cases e2
   cases h1
   cases z with
   | cons rz zz =>
    cases rz
    rw [qJ e1 h2 zz]
    rfl
  ·cases e
theorem D7 {s:Shared} {h':Heap} {o:Obj} (hk:∀ b x,b ∉ [s.heap.objs.size] -> (s.heap.push o).get? b=some x -> h'.get? b=some x):∀ b x,s.heap.get? b=some x -> h'.get? b=some x:=
 fun b x e=>hk b x (fun hm=>by rw [List.mem_singleton.mp hm] at e; exact Nat.lt_irrefl _ (Heap.lt_size e)) (Heap.get?_push_of_some _ e)
theorem range_all (bs:List Bool):((List.range bs.length).all fun i=>(bs[i]?).getD true)=bs.all id:=by
 induction bs with
 | nil=>rfl
 | cons b bs ih =>
  rw [List.length_cons,List.range_succ_eq_map,List.all_cons,List.all_map]
  simp only [List.all_cons,List.getElem?_cons_zero,Option.getD_some,id]
  rw [<- ih]
  congr 1
theorem Bv (hc:X.calm=true):jq X (.builtin "all") rX:=by
 intro pins s σ H xs us Q I rx ⟨F,ts,t,sm,r,e,q⟩
 unfold rX at e
 split at e
 ·next ts =>
  obtain ⟨bs,e1,e2⟩:=bind_some e
  cases e2
  obtain ⟨v,rr,rfl,⟨p,vs,rfl,h1,h2⟩,rfl⟩:=r
  obtain ⟨u,rfl,ru⟩:=Vals.one rx
  cases ru
  obtain ⟨its,rv,pl,hz⟩:=I.list (iA.of (sm _ _ h1))
  have hb:=qJ e1 h2 rv
  subst hb
  have hl:=pl.isList
  have hlt:@LT.lt Nat _ p s.heap.objs.size:=by obtain ⟨_,e,_⟩:=hl; exact Heap.lt_size e
  refine call_all_walk (wpAny_pyIter_list hl ?_)
  refine ⟨s.heap.objs.size,[s.heap.objs.size,p],[s.heap.objs.size],(bs.map Value.bool).toArray.size,_,_,fun i=>(bs[i]?).getD true,rfl,PySem.Walks.list (A:=X.A.in1) (I.ok.hd hc) _ p (Nat.ne_of_lt hlt) (bs.map Value.bool).toArray,
   ⟨⟨_,Heap.get?_push_size _ rfl,rfl,rfl⟩,hl.push _⟩,fun i v s' Q' E' hP hQ=>?_,fun h' tk hk=>?_⟩
  ·have hP':(bs.map Value.bool)[i]? = some v:=by simpa using hP
   rw [List.getElem?_map] at hP'
   cases eb:bs[i]? with
   | none=>rw [eb] at hP'; cases hP'
   | some b =>
    rw [eb] at hP'
    have:v=.bool b:=(Option.some.inj hP').symm
    subst this
    simp only [eb,Option.getD_some] at hQ
    exact wpAny_truthy_bool hQ
  ·have e:((List.range (bs.map Value.bool).toArray.size).all fun i=>(bs[i]?).getD true)=bs.all id:=by
    rw [List.size_toArray,List.length_map]
    exact range_all bs
   rw [e]
   exact ⟨.bl _,H,I.kept (t':=tk) (D7 hk),rfl,q F H _ (bx.refl sm) rfl⟩
 ·cases e
def il:List T -> Option T
 | [.lst ts]=>some (.tup ts)
 | [.tup ts]=>some (.tup ts)
 | _=>none
theorem lH:jq X (.type "tuple") il:=jB qb fun vs H Q hq__=>by
 obtain ⟨F,ts,t,sm,r,e,q⟩:=hq__
 unfold il at e
 split at e
 ·obtain ⟨v,rr,rfl,⟨p,xs,rfl,h1,h2⟩,rfl⟩:=r
  cases e
  refine ⟨p,xs,rfl,.inl ⟨iA.of (sm _ _ h1),fun l hl=>?_⟩⟩
  have gr:=bx.new (.tup xs) sm hl
  exact q _ _ _ gr ⟨l,xs,rfl,lu.of aU,aV.mono gr.sF h2⟩
 ·obtain ⟨v,rr,rfl,⟨p,xs,rfl,h1,h2⟩,rfl⟩:=r
  cases e
  exact ⟨p,xs,rfl,.inr ⟨cw sm h1,q F H _ (bx.refl sm) ⟨p,xs,rfl,h1,h2⟩⟩⟩
 ·cases e
theorem Ed:Fo X "int.bit_length" (fun x vs H Q=>∃ i,x=.int i /\ vs=[] /\ Q (.int (Builtin.Int.intBits i)) H):=by
 intro pins s σ H x vs v us Q I rx rv ⟨i,hx,hvs,q⟩
 subst hx; subst hvs
 obtain ⟨t,rfl⟩:=rx
 have:=rv.zero
 subst this
 exact PyProof.Rows.call_int_bit_length ⟨.int _,H,I.tok _,⟨_,rfl⟩,q⟩
def jl:T -> Option T
 | .int i=>some (.int (Builtin.Int.intBits i))
 | _=>none
theorem ko {e:Expr} {f:FE} {p2 p3:Pos} (he:SE X e f) (hbase:attributeBase e "bit_length" X.env (eval e X.env)=eval e X.env:=by rfl) (hline:(p2.endLine == p3.line)=true:=by rfl) :
  SE X (.Call (.Attribute e "bit_length" p2) [] [] p3) (uF jl f):=fun F₀ H₀ =>
 PE.weak (HV PySem.F.plainAttrs_int PySem.F.slot_int_bit_length PySem.F.type_int_bit_length Ed (he F₀ H₀) hbase hline) fun σ H Q hq__=>by
  obtain ⟨F,τ,t,τ',E,e1,q⟩:=hq__
  obtain ⟨⟨x,τ1⟩,e2,e1⟩:=bind_some e1
  obtain ⟨z,e4,e1⟩:=bind_some e1
  cases e1
  refine ⟨F,τ,x,_,E,e2,fun F1 H1 v1 E1 s1 r1=>?_⟩
  dsimp only at e4
  unfold jl at e4
  split at e4
  ·cases e4; cases r1
   exact ⟨rfl,_,rfl,rfl,q F1 H1 _ E1 s1 rfl⟩
  ·cases e4
theorem gX {x:Str} {i:Int} {t:Tok} {pos:Pos} (hg:Gl X x) (hm:X.mg x=some (.int i t)) (hd:(x == ("__debug__" : Str))=false:=by decide):SE X (.Name x pos) (fC (.int i)):=gW (uc (v:=.int i) hg hm ⟨_,rfl⟩ hd) fun _=>rfl
def bI (f:FE):FA:=fun τ=>(f τ).bind fun p=>match p.1 with | .lst ts=>some (ts,p.2) | .scr ts=>some (ts,p.2) | .tup ts=>some (ts,p.2) | _=>none
theorem dU {tg l:Expr} {f:FE} (h:SE X l f):SI X tg l (bI f):=by
 intro F₀ H₀ pins s σ H R I ⟨F,τ,ts,τ',E,e1,q⟩
 obtain ⟨⟨x,τ1⟩,e2,e1⟩:=bind_some e1
 dsimp only at e1
 split at e1
 ·exact zR h F₀ H₀ pins s σ H R I ⟨F,τ,ts,τ',E,by unfold xh; rw [e2]; exact e1,q⟩
 ·exact zR h F₀ H₀ pins s σ H R I ⟨F,τ,ts,τ',E,by unfold xh; rw [e2]; exact e1,q⟩
 ·exact ID h F₀ H₀ pins s σ H R I ⟨F,τ,ts,τ',E,by unfold BI; rw [e2]; exact e1,q⟩
 ·cases e1
end
theorem DN {P:Program} {w:World} {K:PySem.W.Frag} {mg:Str -> Option Value} {base:Heap} {x qual:Str} {st:Stmt} {f:Addr} {fd:FuncData} {N ps:List Str} {k:Nat} {fb:FS} (F:eJ K x qual st f fd) (S:aP N ps (aA st))
  (h:∀ (cdv:Value) (A:Around) (outer:List Env) (s:Shared) (H:Hp) (E:XK),dz k (A.deeper (envOfC qual (aA st) s.heap.objs.size f cdv)) -> wF (lI pX P w K mg base N qual (aA st) f cdv A outer s H E).nox (dk st) fb) :
  fJ P w K mg base pX (k + 1) f fd ps (spT K ps.length (cz N.length ps.length fb)):=by
 refine F.ok S (fun vs H Q E z=>z.1) (fun cdv A outer s H vs Q E hr z=>?_)
 obtain ⟨hl,F1,ts,t,sm,r,e,q⟩:=z
 unfold cz at e
 split at e
 ·next hn =>
  obtain ⟨r',e1,e⟩:=bind_some e
  refine ⟨_,h cdv A outer s H E hr F1 H,F1,_,r',?_,e1,?_⟩
  ·have:=gF (N:=N) sm r
   rw [hn] at this
   exact this
  ·cases r' with
   | rt u=>cases e; exact fun F' H' v g r'=>q F' H' v g r'
   | nx τ=>cases e; exact fun F' H' σ' E' s'=>q F' H' .non E'.g rfl
   | bk τ=>cases e
   | ct τ=>cases e
 ·cases e
open PySem PySem.Spec PyProof.Rows L2
theorem SS.any {X:Cx} {st:Stmt} {fs:FS} (h:SS X st fs):PS X st (fun D σ H=>∃ F₀ H₀,tS X.K F₀ H₀ fs D σ H):=fun pins s σ H D I ⟨F₀,H₀,q⟩=>h F₀ H₀ pins s σ H D I q
structure eK (K:PySem.W.Frag) (F0 H0 F H:Hp) (p:Addr) (os:List O) (A:List Addr):Prop where
 g:bx F0 H0 F H
 r:dH K F H (.lst os) (.ref p) A
 nd:A.Nodup
 h0:∀ a ∈ A,H0 a=none
section
variable {K:PySem.W.Frag} {F0 H0 F H F1 H1:Hp} {p:Addr} {os:List O} {A:List Addr}
theorem eK.hp (S:eK K F0 H0 F H p os A) (s:aQ H H1):eK K F0 H0 F H1 p os A:=
 ⟨⟨S.g.sF,S.g.sH.trans s,S.g.fh.trans s,S.g.nw⟩,dH.move (aQ.refl _) (fun a ha=>by obtain ⟨f1,ws,f2⟩:=S.r.at a ha; exact ⟨by rw [s _ _ f2,f2],f1⟩) S.r,S.nd,S.h0⟩
theorem eK.over (S:eK K F0 H0 F H p os A) (g:bx F H F1 H1):eK K F0 H0 F1 H1 p os A:=⟨S.g.trans g,S.r.over g,S.nd,S.h0⟩
theorem eK.root (S:eK K F0 H0 F H p os A):∃ vs B,A=p :: B /\ H p=some (.lst vs) /\ F p=none /\ br K F H os vs B:=by
 obtain ⟨p',vs,B,e,rfl,h1,h2,h3⟩:=S.r
 cases e
 exact ⟨vs,B,rfl,h1,h2,h3⟩
theorem eK.fin (S:eK K F0 H0 F H p os A):∃ F',bx F0 H0 F' H /\ Rep K F' (.lst (O.trs os)) (.ref p):=
 ⟨frzO F H A,S.g.frzO (fun a ha=>(S.r.at a ha).1) S.h0,S.r.frz⟩
theorem EU {α:Type} (a:List α) (x y:α) (b:List α):(a ++ x :: b).set a.length y=a ++ y :: b:=by
 rw [List.set_append_right _ _ (Nat.le_refl _),Nat.sub_self,List.set_cons_zero]
theorem zP {os:List O} {j:Nat} {o:O} (o':O) (e:os[j]? = some o):os.set j o'=os.take j ++ ([o'] ++ os.drop (j + 1)):=by
 rw [List.set_eq_take_append_cons_drop,if_pos (List.getElem?_eq_some_iff.mp e).1]
 rfl
theorem eK.put (S:eK K F0 H0 F H p os A) {j:Nat} {o:O} {vs:List V} {t:T} {v:V} (e:os[j]? = some o) (hp:H p=some (.lst vs)) (r:Rep K F t v):∃ A',eK K F0 H0 F (upd H p (.lst (vs.set j v))) p (os.set j (.val t)) A':=by
 obtain ⟨vs',B,rfl,h1,h2,h3⟩:=S.root
 rw [hp] at h1; cases h1
 obtain ⟨ws,v0,xs,B1,C,D,rfl,rfl,rfl,g1,g2,g3⟩:=h3.split e
 have nd:=List.nodup_cons.mp S.nd
 have mv:∀ {us:List O} {zs:List V} {E:List Addr},(∀ a ∈ E,a ∈ B1 ++ (C ++ D)) -> br K F H us zs E -> br K F (upd H p (.lst ((ws ++ v0 :: xs).set ws.length v))) us zs E:=fun sub h=>br.move (aQ.refl _) (fun a ha=>⟨aK (fun z=>nd.1 (z ▸ sub a ha)),(h.at a ha).1⟩) h
 have s1:∀ a ∈ B1,a ∈ B1 ++ (C ++ D):=fun a ha=>List.mem_append_left _ ha
 have s2:∀ a ∈ D,a ∈ B1 ++ (C ++ D):=fun a ha=>List.mem_append_right _ (List.mem_append_right _ ha)
 have p0:H0 p=none:=S.h0 p List.mem_cons_self
 refine ⟨p :: (B1 ++ ([] ++ D)),⟨⟨S.g.sF,fun a o' ha=>?_,fun a o' ha=>?_,S.g.nw⟩,⟨p,_,_,rfl,rfl,aU,h2,?_⟩,?_,fun a ha=>?_⟩⟩
 ·rw [aK (fun z=>by subst z; rw [p0] at ha; cases ha)]; exact S.g.sH _ _ ha
 ·rw [aK (fun z=>by subst z; rw [h2] at ha; cases ha)]; exact S.g.fh _ _ ha
 ·rw [zP (.val t) e]
  have all:=(mv s1 g1).app ((br.one (K:=K) (F:=F) (H:=upd H p (.lst ((ws ++ v0 :: xs).set ws.length v))) (o:=.val t) ⟨rfl,r⟩).app (mv s2 g3))
  have e2:(ws ++ v0 :: xs).set ws.length v=ws ++ ([v] ++ xs):=EU ws v0 v xs
  rw [<- e2] at all
  exact all
 ·refine List.nodup_cons.mpr ⟨fun m=>nd.1 ?_,?_⟩
  ·rcases List.mem_append.mp m with m | m
   ·exact s1 _ m
   ·exact s2 _ m
  ·rw [List.nil_append]
   obtain ⟨n1,n2,n3⟩:=List.nodup_append.mp nd.2
   obtain ⟨n4,n5,n6⟩:=List.nodup_append.mp n2
   exact List.nodup_append.mpr ⟨n1,n5,fun a ha b hb=>n3 a ha b (List.mem_append_right _ hb)⟩
 ·rcases List.mem_cons.mp ha with rfl | ha
  ·exact p0
  ·refine S.h0 a (List.mem_cons_of_mem _ ?_)
   rcases List.mem_append.mp ha with m | m
   ·exact s1 _ m
   ·exact s2 _ m
theorem eK.more (S:eK K F0 H0 F H p os A) {vs:List V} {t:T} {v:V} (hp:H p=some (.lst vs)) (r:Rep K F t v):eK K F0 H0 F (upd H p (.lst (vs ++ [v]))) p (os ++ [.val t]) A:=by
 obtain ⟨vs',B,rfl,h1,h2,h3⟩:=S.root
 rw [hp] at h1; cases h1
 have nd:=List.nodup_cons.mp S.nd
 have p0:H0 p=none:=S.h0 p List.mem_cons_self
 refine ⟨⟨S.g.sF,fun a o' ha=>?_,fun a o' ha=>?_,S.g.nw⟩,⟨p,_,_,rfl,rfl,aU,h2,?_⟩,S.nd,S.h0⟩
 ·rw [aK (fun z=>by subst z; rw [p0] at ha; cases ha)]; exact S.g.sH _ _ ha
 ·rw [aK (fun z=>by subst z; rw [h2] at ha; cases ha)]; exact S.g.fh _ _ ha
 ·have m1:br K F (upd H p (.lst (vs ++ [v]))) os vs B:=br.move (aQ.refl _) (fun a ha=>⟨aK (fun z=>nd.1 (z ▸ ha)),(h3.at a ha).1⟩) h3
  have all:=m1.app (br.one (K:=K) (F:=F) (H:=upd H p (.lst (vs ++ [v]))) (o:=.val t) ⟨rfl,r⟩)
  rw [List.append_nil] at all
  exact all
def oy:List O -> Bool
 | []=>true
 | .val _ :: r=>oy r
 | _ :: _=>false
theorem br.plain:∀ {ro:List O} {ws:List V} {C:List Addr},oy ro=true -> br K F H ro ws C -> C=[] /\ aV K F (O.trs ro) ws
 | [],ws,C,_,h=>⟨h.2,h.1⟩
 | .val t :: r,ws,C,ha,h=>by
  obtain ⟨v,q,B,D,rfl,rfl,⟨rfl,h1⟩,h2⟩:=h
  obtain ⟨rfl,h3⟩:=br.plain (ro:=r) ha h2
  exact ⟨rfl,v,q,rfl,h1,h3⟩
 | .lst _ :: r,ws,C,ha,h=>by cases ha
theorem eK.row (S:eK K F0 H0 F H p os A) {j:Nat} {ro:List O} (e:os[j]? = some (.lst ro)) (ha:oy ro=true):∃ vs q ws,H p=some (.lst vs) /\ vs[j]? = some (.ref q) /\ H q=some (.lst ws) /\ aV K F (O.trs ro) ws /\ vs.length=os.length:=by
 obtain ⟨vs,B,rfl,h1,h2,h3⟩:=S.root
 have hl:=h3.length
 obtain ⟨ws,v0,xs,B1,C,D,rfl,rfl,rfl,g1,⟨q,zs,C',rfl,rfl,k1,k2,k3⟩,g3⟩:=h3.split e
 obtain ⟨rfl,k4⟩:=k3.plain ha
 exact ⟨_,q,zs,h1,by rw [List.getElem?_append_right (Nat.le_refl _),Nat.sub_self,List.getElem?_cons_zero],k1,k4,hl⟩
theorem eK.turn (S:eK K F0 H0 F H p os A) {j:Nat} {ro:List O} {vs:List V} {q:Addr} {ts:List T} {ws:List V} (e:os[j]? = some (.lst ro)) (ha:oy ro=true) (hp:H p=some (.lst vs)) (hq:vs[j]? = some (.ref q)) (r:aV K F ts ws) :
  eK K F0 H0 F (upd H q (.lst ws)) p (os.set j (.lst (ts.map O.val))) A:=by
 obtain ⟨vs',B,rfl,h1,h2,h3⟩:=S.root
 rw [hp] at h1; cases h1
 obtain ⟨us,v0,xs,B1,C,D,rfl,rfl,rfl,g1,⟨q',zs,C',rfl,rfl,k1,k2,k3⟩,g3⟩:=h3.split e
 rw [List.getElem?_append_right (Nat.le_refl _),Nat.sub_self,List.getElem?_cons_zero] at hq
 cases hq
 obtain ⟨rfl,k4⟩:=k3.plain ha
 have nd:=List.nodup_cons.mp S.nd
 obtain ⟨n1,n2,n3⟩:=List.nodup_append.mp nd.2
 obtain ⟨n4,n5,n6⟩:=List.nodup_append.mp n2
 have q0:H0 q=none:=S.h0 q (List.mem_cons_of_mem _ (List.mem_append_right _ (List.mem_append_left _ List.mem_cons_self)))
 have qp:p ≠ q:=fun z=>nd.1 (z ▸ (List.mem_append_right _ (List.mem_append_left _ List.mem_cons_self)))
 have mv:∀ {us:List O} {zs:List V} {E:List Addr},(∀ a ∈ E,a ≠ q) -> br K F H us zs E -> br K F (upd H q (.lst ws)) us zs E:=fun sub h=>br.move (aQ.refl _) (fun a ha=>⟨aK (sub a ha),(h.at a ha).1⟩) h
 have s1:∀ a ∈ B1,a ≠ q:=fun a ha=>n3 a ha q (List.mem_append_left _ List.mem_cons_self)
 have s2:∀ a ∈ D,a ≠ q:=fun a ha z=>n6 q List.mem_cons_self a ha z.symm
 refine ⟨⟨S.g.sF,fun a o' ha=>?_,fun a o' ha=>?_,S.g.nw⟩,⟨p,_,_,rfl,rfl,(aK qp).trans hp,h2,?_⟩,S.nd,S.h0⟩
 ·rw [aK (fun z=>by subst z; rw [q0] at ha; cases ha)]; exact S.g.sH _ _ ha
 ·rw [aK (fun z=>by subst z; rw [k2] at ha; cases ha)]; exact S.g.fh _ _ ha
 ·rw [zP _ e]
  exact (mv s1 g1).app ((br.one (K:=K) (F:=F) (H:=upd H q (.lst ws)) (o:=.lst (ts.map O.val)) ⟨q,ws,[],rfl,rfl,aU,k2,.vals r⟩).app (mv s2 g3))
theorem iM:∀ (ts:List T),O.trs (ts.map O.val)=ts
 | []=>rfl
 | t :: ts=>by rw [List.map_cons,O.trs,iM ts]; rfl
end
open PySem PySem.Spec PyProof.Rows L2
def Nf (K:PySem.W.Frag) (n:Nat) (d:List T -> Option O):Sp:=fun vs H Q _=>vs.length=n /\ ∃ F ts o,aQ F H /\ aV K F ts vs /\ d ts=some o /\
 ∀ F' H' v A,bx F H F' H' -> dH K F' H' o v A -> A.Nodup -> (∀ a ∈ A,H a=none) -> Q v H'
structure mi (P:Program) (w:World) (K:PySem.W.Frag) (mg:Str -> Option Value) (base:Heap) (k:Nat) (x:Str) (n:Nat) (d:List T -> Option O):Prop where
 ex:∃ f fd ps,fJ P w K mg base pX k f fd ps (Nf K n d) /\ Binds K fd ps [] /\ PySem.W.keepIn K (.ref f)=true /\ mg x=some (.ref f) /\ ps.length=n
section
variable {P:Program} {w:World} {K:PySem.W.Frag} {mg:Str -> Option Value} {base:Heap} {j k n:Nat} {x:Str}
theorem mi.imp {d d':List T -> Option O} (D:mi P w K mg base k x n d) (h:∀ ts o,d' ts=some o -> d ts=some o):mi P w K mg base k x n d':=by
 obtain ⟨f,fd,ps,F,r⟩:=D.ex
 exact ⟨f,fd,ps,F.imp fun vs H Q E ⟨l,F,ts,o,a,b,c,q⟩=>⟨l,F,ts,o,a,b,h _ _ c,q⟩,r⟩
theorem mi.mono {d:List T -> Option O} (D:mi P w K mg base j x n d) (h:j ≤ k):mi P w K mg base k x n d:=by
 obtain ⟨f,fd,ps,F,r⟩:=D.ex
 exact ⟨f,fd,ps,F.mono h,r⟩
theorem mi.plain {d:List T -> Option O} (D:mi P w K mg base k x n d):Def P w K mg base k x n (fun ts=>(d ts).bind fun o=>some o.tr):=by
 obtain ⟨f,fd,ps,F,r⟩:=D.ex
 refine ⟨f,fd,ps,F.imp fun vs H Q E ⟨l,F,ts,t,a,b,c,q⟩=>?_,r⟩
 obtain ⟨o,e1,e2⟩:=bind_some c
 cases e2
 exact ⟨l,F,ts,o,a,b,e1,fun F' H' v A g ro nd h0=>q _ H' v (g.frzO (fun a ha=>(ro.at a ha).1) h0) ro.frz⟩
end
section
variable {X:Cx} {e:Expr} {es:List Expr} {pos:Pos} {g:FA}
def G7 (d:List T -> Option O) (g:FA):rm:=fun τ=>(g τ).bind fun p=>(d p.1).bind fun o=>some (o,p.2)
abbrev Dh:=aJ -> Option O
def Nl (K:PySem.W.Frag) (F₀ H₀:Hp) (f:Dh):TS:=fun D σ H=>∃ F τ o,aI K F₀ H₀ F H σ τ /\ f τ=some o /\ ∀ F' H' v A,bx F₀ H₀ F' H' -> dH K F' H' o v A -> A.Nodup -> (∀ a ∈ A,H₀ a=none) -> D.rt v H'
def Lc (X:Cx) (ss:List Stmt) (f:Dh):Prop:=∀ F₀ H₀,lF X ss (Nl X.K F₀ H₀ f)
def oM (f:rm):Dh:=fun τ=>(f τ).bind fun p=>some p.1
theorem zW {f:rm} (h:Dj X e f):Lc X [.Return (some e) pos] (oM f):=fun F₀ H₀=>lF.weak (zL (CD (h F₀ H₀))) fun D σ H hq__=>by
 obtain ⟨F,τ,o,E,e1,q⟩:=hq__
 obtain ⟨⟨x,τ1⟩,e2,e1⟩:=bind_some e1
 cases e1
 exact ⟨F,τ,_,τ1,E,e2,fun F' H' v A E' _ r nd h0 _=>q F' H' v A E'.g r nd h0⟩
def vd (t:FS) (u:Dh):Dh:=fun τ=>(t τ).bind fun r=>match r with | .nx τ'=>u τ' | _=>none
theorem wu {st:Stmt} {rest:List Stmt} {t:FS} {u:Dh} (h1:SS X st t) (h2:Lc X rest u):Lc X (st :: rest) (vd t u):=fun F₀ H₀=>lF.weak (lT (h1 F₀ H₀) (h2 F₀ H₀)) fun D σ H hq__=>by
 obtain ⟨F,τ,o,E,e1,q⟩:=hq__
 obtain ⟨x,e2,e1⟩:=bind_some e1
 refine ⟨F,τ,x,E,e2,?_⟩
 cases x with
 | nx τ1=>exact fun F1 H1 σ1 E1 s1=>⟨F1,τ1,o,E1,e1,q⟩
 | rt t=>cases e1
 | bk t=>cases e1
 | ct t=>cases e1
end
def rY (m n:Nat) (fb:Dh):List T -> Option O:=fun ts=>if ts.length=n then fb (ts.map (fun t=>some (Sl.sh t)) ++ List.replicate (m - n) none) else none
section
variable {P:Program} {w:World} {K:PySem.W.Frag} {mg:Str -> Option Value} {base:Heap}
theorem yP {x qual:Str} {st:Stmt} {f:Addr} {fd:FuncData} {N ps:List Str} {k:Nat} {fb:Dh} (F:eJ K x qual st f fd) (S:aP N ps (aA st)) (hb:Binds K fd ps []) (hm:mg x=some (.ref f))
  (h:∀ (cdv:Value) (A:Around) (outer:List Env) (s:Shared) (H:Hp) (E:XK),dz k (A.deeper (envOfC qual (aA st) s.heap.objs.size f cdv)) -> Lc (lI pX P w K mg base N qual (aA st) f cdv A outer s H E).nox (dk st) fb) :
  mi P w K mg base (k + 1) x ps.length (rY N.length ps.length fb):=by
 refine ⟨f,fd,ps,F.ok S (fun vs H Q E z=>z.1) (fun cdv A outer s H vs Q E hr z=>?_),hb,F.kp,hm,rfl⟩
 obtain ⟨hl,F1,ts,o,sm,r,e,q⟩:=z
 unfold rY at e
 split at e
 ·next hn =>
  refine ⟨_,h cdv A outer s H E hr F1 H,F1,_,o,?_,e,fun F' H' v A g ro nd h0=>q F' H' v A g ro nd h0⟩
  have:=gF (N:=N) sm r
  rw [hn] at this
  exact this
 ·cases e
end
section
variable {X:Cx} {e:Expr} {es:List Expr} {pos:Pos} {g:FA}
def G6 (fo:rm) (g:FA) (d:O -> List T -> Option T):FE:=fun τ=>(fo τ).bind fun p=>if cu p.2=true then (g p.2).bind fun r=>if cu r.2=true then (d p.1 r.1).bind fun t=>some (t,r.2) else none else none
def BH (fo:rm) (f:FE):FS:=fun τ=>(fo τ).bind fun p=>match p.1 with
 | .lst os=>if cu p.2=true /\ os.length < sizeLine then (f p.2).bind fun r=>if cu r.2=true then some (.nx r.2) else none else none
 | _=>none
theorem wo {x:Str} {a:Addr} {i j:Int} {t t':Tok} {od:Option Addr} {n:Nat} {sl:Array (Option Value)} {pos:Pos} (hg:Gl X x) (hm:X.mg x=some (.ref a)) (hK:X.K.lookup a=some ⟨.type "tuple", od,.seq #[.int i t,.int j t'] n,sl⟩) (hd:(x == ("__debug__" : Str))=false:=by decide) :
  SE X (.Name x pos) (fC (.tup [.int i,.int j])):=
 gW (uc (v:=.ref a) hg hm rfl hd) fun F=>⟨a,[.int i,.int j],rfl,.inr ⟨_,_,n,hK,rfl,rfl,cg (n:=2) (by decide),.cons ⟨_,rfl⟩ (.cons ⟨_,rfl⟩ .nil)⟩,⟨_,_,rfl,rfl,_,_,rfl,rfl,rfl⟩⟩
def vi:T -> T -> Option T
 | .lst ts,.int k=>if (-(2 ^ 63) ≤ k /\ k < 2 ^ 63) /\ ts.length * k.toNat ≤ sizeLine then some (.lst (List.replicate k.toNat ts).flatten) else none
 | _,_=>none
theorem wa {K:PySem.W.Frag} {F:Hp} {ts:List T} {vs:List V} (h:aV K F ts vs):∀ k:Nat,aV K F (List.replicate k ts).flatten (List.replicate k vs).flatten
 | 0=>rfl
 | k + 1=>by
  rw [List.replicate_succ,List.replicate_succ,List.flatten_cons,List.flatten_cons]
  exact h.append (wa h k)
theorem HL:nt X (binaryOp .Mult) vi:=by
 intro pins s σ H x y v u Q I rx ry ⟨F,a,b,t,sm,ra,rb,e,q⟩
 unfold vi at e
 split at e
 ·next ts k =>
  split at e
  ·next hc =>
   cases e
   obtain ⟨p,xs,rfl,h1,h2⟩:=ra
   cases rb
   refine HI pins s σ H _ _ v u Q I rx ry ⟨p,k,xs,rfl,rfl,sm _ _ h1,hc.1.1,hc.1.2,by rw [h2.length]; exact hc.2,fun l hl=>?_⟩
   have gr:=bx.new (.lst (List.replicate k.toNat xs).flatten) sm hl
   exact q _ _ _ gr ⟨l,_,rfl,aU,aV.mono gr.sF (wa h2 _)⟩
  ·cases e
 ·cases e
end
open PySem PySem.Spec PyProof.Rows L2
section
variable {X:Cx}
def DK:List T -> Option T
 | [.lst ts]=>(intsOf ts).bind fun ns=>some (.int ns.sum)
 | _=>none
theorem ints_get {K:PySem.W.Frag} {F:Hp}:∀ {ns:List Int} {vs:List V} {its:List Value},aV K F (ns.map T.int) vs -> Vals vs its -> ∃ xs:List (Int × Tok),its=xs.map (fun p=>Value.int p.1 p.2) /\ xs.map (·.1)=ns
 | [],vs,its,r,z=>by
  cases r; cases z; exact ⟨[],rfl,rfl⟩
 | n :: ns,vs,its,r,z=>by
  obtain ⟨v,rr,rfl,h1,h2⟩:=r
  cases h1
  cases z with
  | cons rz zz =>
   obtain ⟨t,rfl⟩:=rz
   obtain ⟨xs,e1,e2⟩:=ints_get h2 zz
   exact ⟨(n,t) :: xs,by rw [e1]; rfl,by rw [List.map_cons,e2]⟩
theorem GV (hc:X.calm=true):jq X (.builtin "sum") DK:=by
 intro pins s σ H xs us Q I rx ⟨F,ts,t,sm,r,e,q⟩
 unfold DK at e
 split at e
 ·next ts =>
  obtain ⟨ns,e1,e2⟩:=bind_some e
  cases e2
  have et:=kQ e1
  subst et
  obtain ⟨v,rr,rfl,⟨p,vs,rfl,h1,h2⟩,rfl⟩:=r
  obtain ⟨u,rfl,ru⟩:=Vals.one rx
  cases ru
  obtain ⟨its,rv,pl,hz⟩:=I.list (iA.of (sm _ _ h1))
  obtain ⟨xs,ex,en⟩:=ints_get h2 rv
  have hl:s.heap.IsList p (intItems xs.toArray):=by
   have:=pl.isList
   rw [ex] at this
   simpa [intItems] using this
  refine sum_intListG (I.ok.hd hc) hl fun h' tk t' hk=>?_
  have e2:preSum (numAt xs.toArray) xs.toArray.size=ns.sum:=by
   rw [preSum_eq,List.take_of_length_le (by simp),<- en]
  rw [e2]
  exact ⟨.int _,H,I.kept (t':=tk) hk,⟨t',rfl⟩,q F H _ (bx.refl sm) rfl⟩
 ·cases e
end
open PySem PySem.Spec PyProof.Rows L2
section
variable {prog:Program} {w:World} {A:Around} {E:Value -> Shared -> Prop} {s:Shared}
end
section
variable {X:Cx}
end
open PySem PySem.Spec PyProof.Rows L2
section
variable {prog:Program} {w:World} {A:Around} {R:Result -> Shared -> Prop} {I:Addr} {fp wr:List Addr} {n:Nat} {P:Nat -> Value -> Prop} {St:Nat -> Heap -> Prop} {kw:List (Str × Value)}
abbrev mw (a:Array Value) (c:Nat):Obj:={ cls:=.type "list", dict:=none,data:=.seq a c,slots:=#[] }
theorem nX:(toString "max" ++ toString ".loop" : String) = "max.loop" := by decide
theorem Eg (W:PySem.Walks prog w A.in1 I fp wr n P St) (bt:Nat -> Nat -> Bool) (hcmp:CmpOf prog w A.in1 .Gt P bt) (S:Addr) (hSf:S ∉ fp) (k:Nat) :
  ∀ (j:Nat) (s:Shared) (vb:Value) (c:Nat),n - (j + 1)=k -> j + 1 ≤ n -> St (j + 1) s.heap -> P (argBest bt j) vb -> s.heap.get? S=some (mw #[vb,vb] c) ->
  (∀ v h' tk,P (argBest bt (n - 1)) v -> (∀ b o,b ∉ wr -> b ≠ S -> s.heap.get? b=some o -> h'.get? b=some o) -> R (.ok (.ret v)) { s with heap:=h',toks:=tk }) -> codeAny (model prog w) A (.builtin "max.loop" ⟨[.ref I,.none,.ref S],kw⟩) R s:=by
 have hSw:S ∉ wr:=fun h=>hSf (W.sub _ h)
 induction k with
 | zero =>
  intro j s vb c hk hj hst hPb hS hR
  have hin:j + 1=n:=by omega
  refine codeAny_builtin F.entry_max_loop (?_:_); rw [Around.under_plainId F.plain_max_loop _]
  show wpAny _ A.in1 (seqItems? (.ref S) >>= _) _ _ s; refine wpAny_bind (wpAny_seqItems hS rfl ?_)
  show wpAny _ A.in1 (tryCatch (pyNext (.ref I)) _ >>= _) _ _ s; refine wpAny_bind (wpAny_tryCatch (W.done s _ _ (hin ▸ hst) fun h' tk hk'=>?_))
  show wpAny _ A.in1 (updateSeq S (fun _=>#[]) >>= _) _ _ _; refine wpAny_bind (wpAny_updateSeq (hk' S _ hSw hS) rfl (wpAny_bind (wpAny_letGo (wpAny_pure ?_))))
  exact hR vb _ tk (by rw [<- hin]; exact hPb) fun b o hbw hbS e=>(Heap.get?_update_other _ _ (Ne.symm hbS)).trans (hk' b o hbw e)
 | succ k ih =>
  intro j s vb c hk hj hst hPb hS hR
  have hlt:j + 1 < n:=by omega
  refine codeAny_builtin F.entry_max_loop (?_:_); rw [Around.under_plainId F.plain_max_loop _]
  show wpAny _ A.in1 (seqItems? (.ref S) >>= _) _ _ s; refine wpAny_bind (wpAny_seqItems hS rfl ?_)
  show wpAny _ A.in1 (tryCatch (pyNext (.ref I)) _ >>= _) _ _ s; refine wpAny_bind (wpAny_tryCatch (W.item (j + 1) s _ _ hlt hst fun v h' tk hP hst' hk'=>?_))
  have hS':=hk' S _ hSw hS
  show wpAny _ A.in1 (tryCatch (holding [v,v] (richCompare .Gt v vb >>= _)) _ >>= _) _ _ _; refine wpAny_bind (wpAny_tryCatch (wpAny_holding (wpAny_bind (hcmp (j + 1) (argBest bt j) v vb _ _ _ hP hPb (wpAny_bind (wpAny_holding (wpAny_truthy_bool (wpAny_bind (wpAny_letGo (wpAny_pure ?_))))))))))
  cases hb:bt (j + 1) (argBest bt j) with
  | true =>
   simp only [if_true]
   refine wpAny_bind (wpAny_updateSeq hS' rfl (wpAny_bind (wpAny_letGo (?_:_)))); rw [nX]
   refine wpAny_pure ⟨plainId_quiet F.plain_max_loop _,ih (j + 1) _ v _ (by omega) hlt (W.frame _ _ _ hst' fun b hbf o e=>(Heap.get?_update_other _ _ (fun h:S=b=>hSf (by rw [h]; exact hbf))).trans e) (by simp only [argBest,hb,if_true]; exact hP) (Heap.get?_update_self _ hS' rfl) fun v' h'' tk'' hP' hk''=>?_⟩
   exact hR v' h'' tk'' hP' fun b o hbw hbS e=>hk'' b o hbw hbS ((Heap.get?_update_other _ _ (Ne.symm hbS)).trans (hk' b o hbw e))
  | false =>
   simp only [Bool.false_eq_true,if_false]
   refine wpAny_bind (wpAny_letGo (?_:_)); rw [nX]
   refine wpAny_pure ⟨plainId_quiet F.plain_max_loop _,ih (j + 1) _ vb c (by omega) hlt hst' (by simp only [argBest,hb,Bool.false_eq_true,if_false]; exact hPb) hS' fun v' h'' tk'' hP' hk''=>?_⟩
   exact hR v' h'' tk'' hP' fun b o hbw hbS e=>hk'' b o hbw hbS (hk' b o hbw e)
theorem Ce (W:PySem.Walks prog w A.in1 I fp wr n P St) (bt:Nat -> Nat -> Bool) (hcmp:CmpOf prog w A.in1 .Gt P bt) (S:Addr) (hSf:S ∉ fp) (hn:0 < n) {s:Shared} {c:Nat} (hst:St 0 s.heap) (hS:s.heap.get? S=some (mw #[] c))
  (hR:∀ v h' tk,P (argBest bt (n - 1)) v -> (∀ b o,b ∉ wr -> b ≠ S -> s.heap.get? b=some o -> h'.get? b=some o) -> R (.ok (.ret v)) { s with heap:=h',toks:=tk }):codeAny (model prog w) A (.builtin "max.loop" ⟨[.ref I,.none,.ref S],kw⟩) R s:=by
 have hSw:S ∉ wr:=fun h=>hSf (W.sub _ h)
 refine codeAny_builtin F.entry_max_loop (?_:_); rw [Around.under_plainId F.plain_max_loop _]
 show wpAny _ A.in1 (seqItems? (.ref S) >>= _) _ _ s; refine wpAny_bind (wpAny_seqItems hS rfl ?_)
 show wpAny _ A.in1 (tryCatch (pyNext (.ref I)) _ >>= _) _ _ s; refine wpAny_bind (wpAny_tryCatch (W.item 0 s _ _ hn hst fun v h' tk hP hst' hk'=>?_))
 have hS':=hk' S _ hSw hS
 show wpAny _ A.in1 (updateSeq S (fun _=>#[v,v]) >>= _) _ _ _; refine wpAny_bind (wpAny_updateSeq hS' rfl (?_:_)); rw [nX]
 refine wpAny_pure ⟨plainId_quiet F.plain_max_loop _,Eg W bt hcmp S hSf _ 0 _ v _ rfl hn (W.frame _ _ _ hst' fun b hbf o e=>(Heap.get?_update_other _ _ (fun h:S=b=>hSf (by rw [h]; exact hbf))).trans e) hP (Heap.get?_update_self _ hS' rfl) fun v' h'' tk'' hP' hk''=>?_⟩
 exact hR v' h'' tk'' hP' fun b o hbw hbS e=>hk'' b o hbw hbS ((Heap.get?_update_other _ _ (Ne.symm hbS)).trans (hk' b o hbw e))
theorem Ef (W:PySem.Walks prog w A.in1 I fp wr n P St) (hn:n=0) (S:Addr) (hSf:S ∉ fp) {d:Value} {s:Shared} {c:Nat} (hst:St 0 s.heap) (hS:s.heap.get? S=some (mw #[] c))
  (hR:∀ h' tk,(∀ b o,b ∉ wr -> b ≠ S -> s.heap.get? b=some o -> h'.get? b=some o) -> R (.ok (.ret d)) { s with heap:=h',toks:=tk }):codeAny (model prog w) A (.builtin "max.loop" ⟨[.ref I,.none,.ref S],[("default", d)]⟩) R s:=by
 refine codeAny_builtin F.entry_max_loop (?_:_); rw [Around.under_plainId F.plain_max_loop _]
 show wpAny _ A.in1 (seqItems? (.ref S) >>= _) _ _ s; refine wpAny_bind (wpAny_seqItems hS rfl ?_)
 show wpAny _ A.in1 (tryCatch (pyNext (.ref I)) _ >>= _) _ _ s; refine wpAny_bind (wpAny_tryCatch (W.done s _ _ (hn.symm ▸ hst) fun h' tk hk'=>?_))
 exact wpAny_bind (wpAny_rule (wpAny_pure (hR h' tk fun b o hbw _ e=>hk' b o hbw e)))
end
def bestOf (ns:List Int):Int:=ns.getD (argBest (fun i j=>decide (ns.getD i 0 > ns.getD j 0)) (ns.length - 1)) 0
theorem Ap (a v:Value):argsOk "max" ⟨[a],[(Str.ofString "default", v)]⟩:=by unfold argsOk; kernel_rfl
theorem oZ (xs:List (Int × Tok)) (i:Nat):numAt xs.toArray i=(xs.map (·.1)).getD i 0:=by
 unfold numAt
 rw [List.getElem?_toArray,List.getD_eq_getElem?_getD,List.getElem?_map]
section
variable {prog:Program} {w:World} {A:Around} {E:Value -> Shared -> Prop} {s:Shared}
theorem Ee {l:Addr} {xs:List (Int × Tok)} {d:Value} {Q:Value -> Shared -> Prop} (hh:A.handled=none) (hl:s.heap.IsList l (intItems xs.toArray))
  (h:∀ v h' tk,(∀ b o,s.heap.get? b=some o -> h'.get? b=some o) -> (xs=[] /\ v=d \/ xs ≠ [] /\ ∃ t,v=Value.int (bestOf (xs.map (·.1))) t) -> Q v { s with heap:=h',toks:=tk }) :
  wpAny (model prog w) A (call (.builtin "max") [.ref l] [(Str.ofString "default", d)]) Q E s:=by
 obtain ⟨ol,hol,_⟩:=id hl
 have hll:@LT.lt Nat _ l s.heap.objs.size:=Heap.lt_size hol
 refine kmk_tree PySem.F.kind_max PySem.F.plain_max PySem.F.entry_max (Ap _ _) ?_
 show wpAny _ A.in1 (Builtin.Builtins.bindParams "max" ["key", "default"] 0 ⟨[],[(Str.ofString "default", d)]⟩ >>= _) _ _ s
 refine wpAny_bind (wpAny_of_eq (show Builtin.Builtins.bindParams "max" ["key", "default"] 0 ⟨[],[(Str.ofString "default", d)]⟩=pure [none,some d] from rfl) ?_)
 refine wpAny_bind (wpAny_pure (wpAny_bind (wpAny_pyIter_list hl (wpAny_bind (wpAny_newObj_type ?_)))))
 rw [nX]
 have hz:(s.heap.push { cls:=.type "list_iterator", data:=.fields #[.ref l,.int 0 0] }).objs.size=s.heap.objs.size + 1:=Heap.size_push ..
 have W:=PySem.Walks.list (prog:=prog) (w:=w) (A:=A.in1) hh s.heap.objs.size l (Nat.ne_of_lt hll) (intItems xs.toArray)
 have st0:((s.heap.push { cls:=.type "list_iterator", data:=.fields #[.ref l,.int 0 0] }).push (mw #[] 0)).IsListIter s.heap.objs.size l 0 /\ ((s.heap.push { cls:=.type "list_iterator", data:=.fields #[.ref l,.int 0 0] }).push (mw #[] 0)).IsList l (intItems xs.toArray):=
  ⟨⟨_,Heap.get?_push_of_some _ (Heap.get?_push_size _ rfl),rfl,rfl⟩,(hl.push _).push _⟩
 have hSf:(s.heap.push { cls:=.type "list_iterator", data:=.fields #[.ref l,.int 0 0] }).objs.size ∉ [s.heap.objs.size,l]:=fun m=>by
  rw [hz] at m
  rcases List.mem_cons.mp m with m | m
  ·exact absurd m (Nat.succ_ne_self _)
  ·rw [List.mem_singleton] at m; rw [<- m] at hll; exact absurd hll (by omega)
 have keep:∀ {h':Heap},(∀ b o,b ∉ [s.heap.objs.size] -> b ≠ (s.heap.push { cls:=.type "list_iterator", data:=.fields #[.ref l,.int 0 0] }).objs.size -> ((s.heap.push { cls:=.type "list_iterator", data:=.fields #[.ref l,.int 0 0] }).push (mw #[] 0)).get? b=some o -> h'.get? b=some o) -> ∀ b o,s.heap.get? b=some o -> h'.get? b=some o:=fun k b o e=>by
  have hb:@LT.lt Nat _ b s.heap.objs.size:=Heap.lt_size e
  exact k b o (fun m=>by rw [List.mem_singleton.mp m] at hb; exact Nat.lt_irrefl _ hb) (fun m=>by rw [m,hz] at hb; omega) (Heap.get?_push_of_some _ (Heap.get?_push_of_some _ e))
 cases xs with
 | nil=>exact wpAny_pure ⟨plainId_quiet F.plain_max_loop _,Ef W (by simp [intItems]) _ hSf st0 (Heap.get?_push_size _ rfl) fun h' tk hk=>h d h' tk (keep hk) (.inl ⟨rfl,rfl⟩)⟩
 | cons x xs =>
  have val:∀ i v,(intItems (x :: xs).toArray)[i]? = some v -> ∃ t,v=Value.int (numAt (x :: xs).toArray i) t:=fun i v e=>intItems_at e
  refine wpAny_pure ⟨plainId_quiet F.plain_max_loop _,Ce W _ (CmpOf.ints_gt (numAt (x :: xs).toArray) val) _ hSf (by simp [intItems]) st0 (Heap.get?_push_size _ rfl) fun v h' tk hP hk=>h v h' tk (keep hk) (.inr ⟨by simp,?_⟩)⟩
  obtain ⟨t,e⟩:=val _ _ hP
  refine ⟨t,e.trans ?_⟩
  congr 1
  rw [oZ]
  unfold bestOf
  simp only [oZ]
  congr 2
  simp [intItems]
end
section
variable {X:Cx}
def zi:T -> T -> Option T
 | .lst ts,.int d=>(intsOf ts).bind fun ns=>some (.int (if ns=[] then d else bestOf ns))
 | _,_=>none
theorem ES {e d:Expr} {f fd:FE} {p pos kp:Pos} (hc:X.calm=true) (hg:Gl X "max") (hm:X.mg "max" = none) (he:SE X e f) (hd:SE X d fd) (hs:starEach [e] X.env=[(false,eval e X.env)]:=by rfl) :
  SE X (.Call (.Name "max" p) [e] [⟨some "default", d,kp⟩] pos) (aF zi f fd):=by
 intro F₀ H₀ pins s σ H Q I h
 obtain ⟨F,τ,t,τ',E,e1,q⟩:=h
 obtain ⟨⟨x,τ1⟩,e2,e1⟩:=bind_some e1
 obtain ⟨⟨y,τ2⟩,e3,e1⟩:=bind_some e1
 obtain ⟨z,e4,e1⟩:=bind_some e1
 cases e1
 refine wpAny_Call_Name_kw (mH I hg hm PyProof.Rows.boot_max (PyProof.Rows.callWith_kw ?_ (by rw [hs]; rfl) (by rw [hs]; rfl)))
 rw [hs]
 refine Calls.spliced_cons (dh (he F₀ H₀ pins s σ H (fun v H1=>∃ F1,aI X.K F₀ H₀ F1 H1 σ τ1 /\ aQ F F1 /\ Rep X.K F1 x v) I ⟨F,τ,x,τ1,E,e2,fun F1 H1 v E1 s1 r1=>⟨F1,E1,s1,r1⟩⟩) fun u s1 ⟨v1,H1,I1,ru,F1,E1,sF1,r1⟩=>Calls.spliced_nil ?_)
 refine PyProof.Rows.kws_cons (dh (hd F₀ H₀ pins s1 σ H1 (fun v H2=>∃ F2,aI X.K F₀ H₀ F2 H2 σ _ /\ aQ F1 F2 /\ Rep X.K F2 y v) I1 ⟨F1,τ1,y,_,E1,e3,fun F2 H2 v E2 s2 r2=>⟨F2,E2,s2,r2⟩⟩) fun u2 s2 ⟨v2,H2,I2,ru2,F2,E2,sF2,r2⟩=>PyProof.Rows.kws_nil ?_)
 dsimp only at e4
 unfold zi at e4
 split at e4
 ·next ts dd =>
  obtain ⟨ns,e5,e6⟩:=bind_some e4
  cases e6
  have et:=kQ e5
  subst et
  obtain ⟨pl,vs,rfl,h1,h2⟩:=Rep.mono sF2 r1
  cases ru
  cases r2
  obtain ⟨its,rv,pl',hz⟩:=I2.list (iA.of (E2.g.fh _ _ h1))
  obtain ⟨xs,ex,en⟩:=ints_get h2 rv
  have hl:s2.heap.IsList pl (intItems xs.toArray):=by
   have:=pl'.isList
   rw [ex] at this
   simpa [intItems] using this
  obtain ⟨td,rfl⟩:=ru2
  refine Ee (I2.ok.hd hc) hl fun v h' tk hk hv=>?_
  have I3:=I2.kept (t':=tk) hk
  rcases hv with ⟨hx,rfl⟩ | ⟨hx,t,rfl⟩
  ·subst hx
   subst en
   exact ⟨V.int _,H2,I3,⟨_,rfl⟩,q F2 H2 _ E2 (sF1.trans sF2) rfl⟩
  ·refine ⟨.int (bestOf (xs.map (·.1))),H2,I3,⟨_,rfl⟩,q F2 H2 _ E2 (sF1.trans sF2) ?_⟩
   have hne:ns ≠ []:=fun z=>hx (by rw [z] at en; simpa using en)
   rw [if_neg hne,<- en]
   rfl
 ·cases e4
end
open PySem PySem.Spec PyProof.Rows L2
section
variable {X:Cx}
end
open PySem PySem.Spec PyProof.Rows L2
def Fits (K:PySem.W.Frag) (F:Hp):L2.St -> aJ -> Prop
 | [],[]=>True
 | _ :: σ,none :: τ=>Fits K F σ τ
 | some v :: σ,some (.sh t) :: τ=>Rep K F t v /\ Fits K F σ τ
 | _,_=>False
theorem Fits.len {K:PySem.W.Frag} {F:Hp}:∀ {σ:L2.St} {τ:aJ},Fits K F σ τ -> σ.length=τ.length
 | [],[],_=>rfl
 | [],_ :: _,h=>by cases h
 | _ :: _,[],h=>by cases h
 | _ :: σ,none :: τ,h=>by have:Fits K F σ τ:=h; simp [this.len]
 | some v :: σ,some (.sh t) :: τ,h=>by simp [(h.2:Fits K F σ τ).len]
 | none :: σ,some (.sh t) :: τ,h=>by cases h
 | none :: σ,some (.own t) :: τ,h=>by cases h
 | some v :: σ,some (.own t) :: τ,h=>by cases h
theorem Fits.get {K:PySem.W.Frag} {F:Hp}:∀ {σ:L2.St} {τ:aJ} {i:Nat} {s:Sl},Fits K F σ τ -> τ[i]? = some (some s) -> ∃ t v,s=.sh t /\ σ[i]? = some (some v) /\ Rep K F t v
 | [],[],i,s,_,e=>by simp at e
 | [],_ :: _,_,_,h,_=>by cases h
 | _ :: _,[],_,_,h,_=>by cases h
 | _ :: σ,none :: τ,0,s,h,e=>by simp at e
 | _ :: σ,none :: τ,i + 1,s,h,e=>Fits.get (σ:=σ) (τ:=τ) (i:=i) h (by simpa using e)
 | some v :: σ,some (.sh t) :: τ,0,s,h,e=>by simp at e; exact ⟨t,v,e.symm,rfl,h.1⟩
 | some v :: σ,some (.sh t) :: τ,i + 1,s,h,e=>Fits.get (σ:=σ) (τ:=τ) (i:=i) h.2 (by simpa using e)
 | none :: σ,some (.sh t) :: τ,_,_,h,_=>by cases h
 | none :: σ,some (.own t) :: τ,_,_,h,_=>by cases h
 | some v :: σ,some (.own t) :: τ,_,_,h,_=>by cases h
abbrev wb (ts:List T):O:=.lst (ts.map O.val)
theorem wz:∀ tss:List (List T),O.trs (tss.map wb)=tss.map T.lst
 | []=>rfl
 | ts :: tss=>by
  rw [List.map_cons,List.map_cons,O.trs,wz tss]
  show T.lst (O.trs (ts.map O.val)) :: _=_
  rw [iM]
theorem kK:∀ ts:List T,oy (ts.map O.val)=true
 | []=>rfl
 | _ :: ts=>kK ts
theorem uH {K:PySem.W.Frag} {F:Hp} {t:T} {v:V} (h:Rep K F t v):∀ {ts:List T} {vs:List V} (m:Nat),aV K F ts vs -> aV K F (ts.set m t) (vs.set m v)
 | [],_,_,r=>by cases r; rfl
 | a :: ts,_,0,r=>by obtain ⟨w,q,rfl,h1,h2⟩:=r; exact ⟨v,q,rfl,h,h2⟩
 | a :: ts,_,m + 1,r=>by obtain ⟨w,q,rfl,h1,h2⟩:=r; exact ⟨w,_,rfl,h1,uH h m h2⟩
theorem Dj.any {X:Cx} {e:Expr} {f:rm} (h:Dj X e f):PE X e (fun σ H Q=>∃ F₀ H₀,MP X.K F₀ H₀ f σ H Q):=fun pins s σ H Q I ⟨F₀,H₀,q⟩=>h F₀ H₀ pins s σ H Q I q
theorem SI.any {X:Cx} {tg e:Expr} {f:FA} (h:SI X tg e f):PI X tg e (fun σ H R=>∃ F₀ H₀,tI X.K F₀ H₀ f σ H R):=fun pins s σ H R I ⟨F₀,H₀,q⟩=>h F₀ H₀ pins s σ H R I q
theorem eK.at {K:PySem.W.Frag} {F0 H0 F H:Hp} {p:Addr} {A:List Addr} {tss:List (List T)} (S:eK K F0 H0 F H p (tss.map wb) A) {j:Nat} {ts:List T} (e:tss[j]? = some ts) :
  ∃ vs q ws,H p=some (.lst vs) /\ vs[j]? = some (.ref q) /\ H q=some (.lst ws) /\ aV K F ts ws /\ vs.length=tss.length:=by
 obtain ⟨vs,q,ws,h1,h2,h3,h4,h5⟩:=S.row (j:=j) (ro:=ts.map O.val) (by rw [List.getElem?_map,e]; rfl) (kK ts)
 exact ⟨vs,q,ws,h1,h2,h3,by rw [iM] at h4; exact h4,by rw [h5,List.length_map]⟩
theorem eK.turnRow {K:PySem.W.Frag} {F0 H0 F H:Hp} {p:Addr} {A:List Addr} {tss:List (List T)} (S:eK K F0 H0 F H p (tss.map wb) A) {j:Nat} {ts us:List T} {vs ws:List V} {q:Addr} (e:tss[j]? = some ts) (hp:H p=some (.lst vs)) (hq:vs[j]? = some (.ref q)) (r:aV K F us ws) :
  eK K F0 H0 F (upd H q (.lst ws)) p ((tss.set j us).map wb) A:=by
 have:=S.turn (j:=j) (ro:=ts.map O.val) (ts:=us) (ws:=ws) (by rw [List.getElem?_map,e]; rfl) (kK ts) hp hq r
 rw [List.map_set]
 exact this
theorem eK.len {K:PySem.W.Frag} {F0 H0 F H:Hp} {p:Addr} {A:List Addr} {os:List O} (S:eK K F0 H0 F H p os A):∃ vs,H p=some (.lst vs) /\ vs.length=os.length:=by
 obtain ⟨vs,B,_,h1,_,h3⟩:=S.root
 exact ⟨vs,h1,h3.length⟩
theorem eK.gone {K:PySem.W.Frag} {F0 H0 F H:Hp} {p:Addr} {A:List Addr} {os:List O} {x:HO} (S:eK K F0 H0 F H p os A):bx F0 H0 F (upd H p x):=by
 obtain ⟨vs,B,rfl,h1,h2,h3⟩:=S.root
 have p0:H0 p=none:=S.h0 p List.mem_cons_self
 refine ⟨S.g.sF,fun a o' z=>?_,fun a o' z=>?_,S.g.nw⟩
 ·rw [aK (fun y=>by subst y; rw [p0] at z; cases z)]; exact S.g.sH _ _ z
 ·rw [aK (fun y=>by subst y; rw [h2] at z; cases z)]; exact S.g.fh _ _ z
open PySem PySem.Spec PyProof.Rows L2
def kd:T -> Nat
 | .non=>1 | .bl _=>2 | .int _=>0 | .str _=>3 | .ty _=>4 | .tup _=>5 | .lst _=>5 | .scr _=>5 | .dic=>5 | .obj _ _ _=>5 | .ptr _=>5 | .exc _=>5
def Lm (us ts:List T):Bool:=us.length != ts.length || (List.zip us ts).any fun p=>kd p.1 != kd p.2
mutual
def apart (us:List T):T -> Bool
 | .tup ts=>jt us ts
 | .lst ts=>Lm us ts && jt us ts
 | .scr _=>false
 | .obj _ _ ts=>jt us ts
 | _=>true
def jt (us:List T):List T -> Bool
 | []=>true
 | t :: ts=>apart us t && jt us ts
end
def M8:V -> Nat
 | .non=>1 | .bl _=>2 | .int _=>0 | .str _=>3 | .ty _=>4 | .ref _=>5 | _=>6
theorem J5 {K:PySem.W.Frag} {F:Hp} {t:T} {v:V} (h:Rep K F t v):kd t=M8 v:=by
 cases t with
 | non=>rw [show v=_ from h]; rfl
 | bl b=>rw [show v=_ from h]; rfl
 | int b=>rw [show v=_ from h]; rfl
 | str b=>rw [show v=_ from h]; rfl
 | ty b=>rw [show v=_ from h]; rfl
 | tup ts=>obtain ⟨a,xs,e,_⟩:=h; rw [e]; rfl
 | lst ts=>obtain ⟨a,xs,e,_⟩:=h; rw [e]; rfl
 | scr ts=>obtain ⟨a,xs,e,_⟩:=h; rw [e]; rfl
 | dic=>obtain ⟨a,e,_⟩:=h; rw [e]; rfl
 | obj _ _ _=>obtain ⟨a,_,_,e,_⟩:=h; rw [e]; rfl
 | ptr _=>rw [show v=_ from h]; rfl
 | exc _=>obtain ⟨a,e,_⟩:=h; rw [e]; rfl
theorem Hw {K:PySem.W.Frag} {F:Hp} {t u:T} {v:V} (h:Rep K F t v) (h':Rep K F u v):kd t=kd u:=(J5 h).trans (J5 h').symm
theorem yT {K:PySem.W.Frag} {F:Hp}:∀ {us ts:List T} {vs:List V},aV K F us vs -> aV K F ts vs -> Lm us ts=false
 | [],[],_,_,_=>rfl
 | [],t :: ts,_,h,h'=>by
  obtain ⟨v,r,e,_⟩:=h'
  rw [show _=[] from h] at e; cases e
 | u :: us,[],_,h,h'=>by
  obtain ⟨v,r,e,_⟩:=h
  rw [show _=[] from h'] at e; cases e
 | u :: us,t :: ts,_,h,h'=>by
  obtain ⟨v,r,rfl,h1,h2⟩:=h
  obtain ⟨v',r',e,h3,h4⟩:=h'
  cases e
  have ih:=yT h2 h4
  unfold Lm at ih ⊢
  simp only [List.length_cons,List.zip_cons_cons,List.any_cons,Hw h1 h3,bne_self_eq_false,Bool.false_or] at ih ⊢
  simpa using ih
mutual
theorem Rep.drop {K:PySem.W.Frag} {F:Hp} {a:Addr} {us:List T} {vs:List V} (ha:F a=some (.lst vs)) (hu:aV K F us vs):∀ {t:T} {v:V},apart us t=true -> Rep K F t v -> Rep K (sj F [a]) t v
 | .non,_,_,h=>h
 | .bl _,_,_,h=>h
 | .int _,_,_,h=>h
 | .str _,_,_,h=>h
 | .ty _,_,_,h=>h
 | .tup ts,_,k,h=>by
  obtain ⟨b,xs,h1,h2,h3⟩:=h
  refine ⟨b,xs,h1,?_,aV.drop' ha hu (by simpa [apart] using k) h3⟩
  rcases h2 with (h2 | ⟨o,h2⟩) | h2
  ·refine .inl (.inl ?_)
   rw [fz (fun m=>by rw [List.mem_singleton.mp m,ha] at h2; cases h2)]; exact h2
  ·refine .inl (.inr ⟨o,?_⟩)
   rw [fz (fun m=>by rw [List.mem_singleton.mp m,ha] at h2; cases h2)]; exact h2
  ·exact .inr h2
 | .lst ts,_,k,h=>by
  obtain ⟨b,xs,h1,h2,h3⟩:=h
  have k':Lm us ts=true /\ jt us ts=true:=by simpa [apart] using k
  refine ⟨b,xs,h1,?_,aV.drop' ha hu k'.2 h3⟩
  rw [fz (fun m=>by
   rw [List.mem_singleton.mp m,ha] at h2
   cases h2
   rw [yT hu h3] at k'
   exact absurd k'.1 (by decide))]
  exact h2
 | .scr _,_,k,_=>by simp [apart] at k
 | .dic,_,_,h=>by
  obtain ⟨b,h1,h2⟩:=h
  refine ⟨b,h1,?_⟩
  rw [fz (fun m=>by rw [List.mem_singleton.mp m,ha] at h2; cases h2)]
  exact h2
 | .obj C ns ts,_,k,h=>by
  obtain ⟨b,dx,xs,h1,h2,h3,h4⟩:=h
  refine ⟨b,dx,xs,h1,?_,h3,aV.drop' ha hu (by simpa [apart] using k) h4⟩
  rw [fz (fun m=>by rw [List.mem_singleton.mp m,ha] at h2; cases h2)]
  exact h2
 | .ptr _,_,_,h=>h
 | .exc _,_,_,h=>by
  obtain ⟨b,h1,h2⟩:=h
  refine ⟨b,h1,?_⟩
  rw [fz (fun m=>by rw [List.mem_singleton.mp m,ha] at h2; cases h2)]
  exact h2
theorem aV.drop' {K:PySem.W.Frag} {F:Hp} {a:Addr} {us:List T} {vs:List V} (ha:F a=some (.lst vs)) (hu:aV K F us vs):∀ {ts:List T} {ws:List V},jt us ts=true -> aV K F ts ws -> aV K (sj F [a]) ts ws
 | [],_,_,h=>h
 | t :: ts,_,k,h=>by
  obtain ⟨v,r,h1,h2,h3⟩:=h
  have k':apart us t=true /\ jt us ts=true:=by simpa [jt] using k
  exact ⟨v,r,h1,Rep.drop ha hu k'.1 h2,aV.drop' ha hu k'.2 h3⟩
end
section
variable {X:Cx} {e:Expr} {pos:Pos}
end
open PySem PySem.Spec PyProof.Rows L2
structure Nq (e it l:Addr) (i:Nat) (h:Heap):Prop where
 he:∃ old,IsEnum h e it (i:Int) old
 hi:h.IsListIter it l i
open PySem PySem.Spec PyProof.Rows L2
def hide:aJ -> aJ
 | []=>[]
 | some (.own _) :: τ=>none :: hide τ
 | some (.sh t) :: τ=>some (.sh t) :: hide τ
 | none :: τ=>none :: hide τ
theorem fY:∀ τ:aJ,(hide τ).length=τ.length
 | []=>rfl
 | some (.own _) :: τ=>by simp [hide,fY τ]
 | some (.sh t) :: τ=>by simp [hide,fY τ]
 | none :: τ=>by simp [hide,fY τ]
theorem jJ:∀ {τ:aJ} {j:Nat} {s:Sl},(hide τ)[j]? = some (some s) -> τ[j]? = some (some s) /\ ∃ t,s=.sh t
 | [],j,s,h=>by simp [hide] at h
 | some (.own _) :: τ,0,s,h=>by simp [hide] at h
 | some (.sh t) :: τ,0,s,h=>by simp [hide] at h; subst h; exact ⟨rfl,t,rfl⟩
 | none :: τ,0,s,h=>by simp [hide] at h
 | some (.own _) :: τ,j + 1,s,h=>by simpa using jJ (τ:=τ) (j:=j) (by simpa [hide] using h)
 | some (.sh t) :: τ,j + 1,s,h=>by simpa using jJ (τ:=τ) (j:=j) (by simpa [hide] using h)
 | none :: τ,j + 1,s,h=>by simpa using jJ (τ:=τ) (j:=j) (by simpa [hide] using h)
section
variable {K:PySem.W.Frag} {F₀ H₀ F H F' H':Hp} {σ:L2.St} {τ:aJ}
theorem aI.look {i:Nat} {us:List T} {vs:List V} {a:Addr} (E:aI K F₀ H₀ F H σ τ) (hs:σ[i]? = some (some (.ref a))) (h2:H a=some (.lst vs)) (h3:F a=none) (h5:aV K F us vs) :
  aI K (upd F a (.lst vs)) H (upd F a (.lst vs)) H σ ((hide τ).set i (some (.sh (.lst us)))):=by
 have sF:aQ F (upd F a (.lst vs)):=dq h3
 have sH:aQ (upd F a (.lst vs)) H:=fun b o eb=>by
  by_cases hb:b=a
  ·rw [hb,aU] at eb; cases eb; rw [hb]; exact h2
  ·rw [aK hb] at eb; exact E.g.fh b o eb
 have rp:Rep K (upd F a (.lst vs)) (.lst us) (.ref a):=⟨a,vs,rfl,aU,aV.mono sF h5⟩
 have all:∀ {j:Nat} {s:Sl},((hide τ).set i (some (.sh (.lst us))))[j]? = some (some s) -> (∃ t,s=.sh t) /\ ∃ v,σ[j]? = some (some v) /\ wJ K H (upd F a (.lst vs)) H s v:=fun {j s} e=>by
  by_cases hj:i=j
  ·subst hj
   by_cases hl:i < (hide τ).length
   ·rw [List.getElem?_set_self hl] at e; cases e
    exact ⟨⟨_,rfl⟩,_,hs,rp⟩
   ·rw [List.getElem?_eq_none (by simp; omega)] at e; cases e
  ·rw [List.getElem?_set_ne hj] at e
   obtain ⟨e1,t,rfl⟩:=jJ e
   obtain ⟨v,k1,k2⟩:=E.sl j _ e1
   exact ⟨⟨t,rfl⟩,v,k1,Rep.mono sF k2⟩
 refine ⟨bx.refl sH,by simp [fY,E.len],fun j s e=>(all e).2,fun j k ts ws p _ e1=>?_⟩
 obtain ⟨t,z⟩:=(all e1).1
 cases z
theorem aI.drop {i:Nat} (E:aI K F₀ H₀ F H σ τ):aI K F₀ H₀ F H σ (τ.set i none):=by
 have key:∀ {j:Nat} {s:Sl},(τ.set i none)[j]? = some (some s) -> τ[j]? = some (some s):=fun {j s} e=>by
  by_cases hj:i=j
  ·subst hj
   by_cases hl:i < τ.length
   ·rw [List.getElem?_set_self hl] at e; cases e
   ·rw [List.getElem?_eq_none (by simp; omega)] at e; cases e
  ·rw [List.getElem?_set_ne hj] at e; exact e
 exact ⟨E.g,by simp [E.len],fun j s e=>E.sl j s (key e),fun j k ts us p hjk e1 e2=>E.dj j k ts us p hjk (key e1) (key e2)⟩
end
section
variable {X:Cx} {e:Expr} {pos:Pos}
theorem aV.put {K:PySem.W.Frag} {F:Hp}:∀ {ts:List T} {vs:List V} {t:T} {v:V} (j:Nat),aV K F ts vs -> Rep K F t v -> aV K F (ts.set j t) (vs.set j v)
 | [],_,_,_,_,h,_=>by cases h; rfl
 | t :: ts,_,_,_,0,h,r=>by
  obtain ⟨v,rr,rfl,h2,h3⟩:=h
  exact ⟨_,rr,rfl,r,h3⟩
 | t :: ts,_,_,_,j + 1,h,r=>by
  obtain ⟨v,rr,rfl,h2,h3⟩:=h
  exact ⟨v,_,rfl,h2,aV.put j h3 r⟩
def eQ (i:Nat) (f g:FE):FS:=fun τ=>(f τ).bind fun p=>match p.2[i]? with
 | some (some _)=>(g p.2).bind fun r=>match r.2[i]?,r.1 with
  | some (some (.own us)),.int k=>(zu us.length k).bind fun j=>some (.nx (r.2.set i (some (.own (us.set j p.1)))))
  | _,_=>none
 | _=>none
theorem ma (i:Nat) {x:Str} {p1 p2:Pos} {v:Expr} {f g:FE} (hv:PE X (.Name x p1) (Bc i)) (hf:SE X v f) (hg:SE X e g)
  (ha:∀ u,assign (.Subscript (.Name x p1) e p2) X.env u=(do
   let ov <- holding [u] (eval (.Name x p1) X.env)
   let iv <- holding [u,ov] (eval e X.env)
   standAt p2
   holding [u,ov,iv] (setItem ov iv u)
   release [u,ov,iv] []):=by intro _; rfl)
  (hs:swapsWithSole [.Subscript (.Name x p1) e p2] v pos.line X.env=pure false:=by rfl) (hw:swappedStores [.Subscript (.Name x p1) e p2] v X.env=pure none:=by rfl)
  (h1:(assignEach [.Subscript (.Name x p1) e p2] X.env).map (·.2)=[assign (.Subscript (.Name x p1) e p2) X.env]:=by rfl) :
  SS X (.Assign [.Subscript (.Name x p1) e p2] v pos) (eQ i f g):=fun F₀ H₀=>PS.weak (CA (hf F₀ H₀) (Ij hv (hg F₀ H₀) set_list ha) hs hw h1) fun D σ H hq__=>by
 obtain ⟨F,τ,r,E,e1,q⟩:=hq__
 obtain ⟨⟨t,τ1⟩,e2,e1⟩:=bind_some e1
 refine ⟨F,τ,t,τ1,E,e2,fun F1 H1 w E1 s1 r1=>?_⟩
 dsimp only at e1
 split at e1
 ·next s e3 =>
  obtain ⟨⟨y,τ2⟩,e4,e1⟩:=bind_some e1
  obtain ⟨v0,g1,_⟩:=E1.sl i _ e3
  refine ⟨v0,g1,F1,τ1,y,τ2,E1,e4,fun F2 H2 w2 E2 s2 r2=>?_⟩
  dsimp only at e1
  split at e1
  ·next _ us k e5 =>
   obtain ⟨j,e7,e1⟩:=bind_some e1
   cases e1
   cases r2
   obtain ⟨v',k1,p,vs,rfl,k2,k3,k4,k5⟩:=E2.sl i _ e5
   rw [g1] at k1; cases k1
   exact ⟨p,vs,k,j,rfl,rfl,k2,by rw [k5.length]; exact e7,q F2 _ σ (E2.turnOwn e5 g1 (k5.put j (Rep.mono s2 r1))) (s1.trans s2)⟩
  ·cases e1
 ·cases e1
end
section
variable {P:Program} {w:World} {K:PySem.W.Frag} {mg:Str -> Option Value} {base:Heap}
end
open PySem PySem.Spec PyProof.Rows L2
section
variable {prog:Program} {w:World} {A:Around} {E:Value -> Shared -> Prop} {s:Shared}
end
section
variable {X:Cx}
end
open PySem PySem.Spec PyProof.Rows L2
section
variable {X:Cx}
end
open PySem PySem.Spec PyProof.Rows L2
def DM (f:Str):List Str -> List T -> Option T
 | n :: ns,t :: ts=>if f=n then some t else DM f ns ts
 | _,_=>none
theorem yZ {K:PySem.W.Frag} {F:Hp} {f:Str}:∀ {ns:List Str} {ts:List T} {vs:List V} {t:T},aV K F ts vs -> DM f ns ts=some t -> ∃ v,(ns.zip vs).lookup f=some v /\ Rep K F t v
 | [],_,_,_,_,e=>by cases e
 | n :: ns,[],_,_,_,e=>by cases e
 | n :: ns,t :: ts,_,u,r,e=>by
  obtain ⟨v,rr,rfl,h1,h2⟩:=r
  unfold DM at e
  rw [List.zip_cons_cons,List.lookup_cons]
  by_cases h:f=n
  ·rw [if_pos h] at e
   cases e
   rw [beq_iff_eq.mpr h]
   exact ⟨v,rfl,h1⟩
  ·rw [if_neg h] at e
   rw [beq_eq_false_iff_ne.mpr h]
   exact yZ h2 e
theorem oQ {f:Str}:∀ {ns:List Str} {vs:List V},f ∉ ns -> (ns.zip vs).lookup f=none
 | [],_,_=>by simp
 | n :: ns,[],_=>by simp
 | n :: ns,v :: vs,h=>by
  rw [List.zip_cons_cons,List.lookup_cons,beq_eq_false_iff_ne.mpr (show f ≠ n from fun z=>h (by rw [z]; exact List.mem_cons_self))]
  exact oQ fun m=>h (List.mem_cons_of_mem _ m)
theorem vY {f:Str} {y:V}:∀ {ns:List Str} {vs:List V},f ∉ ns -> vs.length=ns.length -> iY f y (ns.zip vs)=(ns ++ [f]).zip (vs ++ [y])
 | [],[],_,_=>rfl
 | [],_ :: _,_,h=>by cases h
 | _ :: _,[],_,h=>by cases h
 | n :: ns,v :: vs,h,hl=>by
  rw [List.zip_cons_cons,show iY f y ((n,v) :: ns.zip vs)=(if n=f then (n,y) :: ns.zip vs else (n,v) :: iY f y (ns.zip vs)) from rfl,if_neg (show ¬ n=f from fun z=>h (by rw [z]; exact List.mem_cons_self)),vY (fun m=>h (List.mem_cons_of_mem _ m)) (by simpa using hl)]
  rfl
section
variable {X:Cx} {e:Expr} {es:List Expr} {pos:Pos}
def AD (Cs:List Addr) (f:Str) (fe:FE):FE:=fun τ=>(fe τ).bind fun p=>match p.1 with
 | .obj C ns ts=>if C ∈ Cs then (DM f ns ts).bind fun t=>some (t,p.2) else none
 | _=>none
theorem uq {Cs:List Addr} {f:Str} {fe:FE} (hC:∀ C ∈ Cs,mZ X.K C /\ fq X.K C f) (he:SE X e fe) (hb:attributeBase e f X.env (eval e X.env)=eval e X.env:=by rfl):SE X (.Attribute e f pos) (AD Cs f fe):=
 fun F₀ H₀=>PE.weak (HW (he F₀ H₀) hb) fun σ H Q h=>by
  obtain ⟨F,τ,t,τ',E,e1,q⟩:=h
  obtain ⟨⟨x,τ1⟩,e2,e1⟩:=bind_some e1
  dsimp only at e1
  split at e1
  ·next C ns ts =>
   split at e1
   ·next hm =>
    obtain ⟨u,e3,e1⟩:=bind_some e1
    cases e1
    refine ⟨F,τ,_,_,E,e2,fun F1 H1 v E1 s1 r1=>?_⟩
    obtain ⟨a,dx,vs,rfl,h1,h2,h3⟩:=r1
    obtain ⟨w,l1,l2⟩:=yZ h3 e3
    exact ⟨a,C,dx,_,w,rfl,E1.g.fh _ _ h1,(hC C hm).1,(hC C hm).2,l1,q F1 H1 w E1 s1 l2⟩
   ·cases e1
  ·cases e1
end
structure dG (P:Program) (w:World) (K:PySem.W.Frag) (mg:Str -> Option Value) (base:Heap) (k:Nat) (C:Addr) (m:Str) (n:Nat) (d:List T -> Option T):Prop where
 cl:mZ K C
 ex:∃ f fd ps,fJ P w K mg base pX k f fd ps (spT K n d) /\ Binds K fd ps [] /\ Meth K C m f /\ ps.length=n
section
variable {P:Program} {w:World} {K:PySem.W.Frag} {mg:Str -> Option Value} {base:Heap} {j k n:Nat} {C:Addr} {m:Str}
theorem dG.imp {d d':List T -> Option T} (D:dG P w K mg base k C m n d) (h:∀ ts t,d' ts=some t -> d ts=some t):dG P w K mg base k C m n d':=by
 obtain ⟨f,fd,ps,F,r⟩:=D.ex
 exact ⟨D.cl,f,fd,ps,F.imp fun vs H Q E z=>by
  obtain ⟨l,F,ts,t,a,b,c,q⟩:=z
  exact ⟨l,F,ts,t,a,b,h _ _ c,q⟩,r⟩
theorem dG.mono {d:List T -> Option T} (D:dG P w K mg base j C m n d) (h:j ≤ k):dG P w K mg base k C m n d:=by
 obtain ⟨f,fd,ps,F,r⟩:=D.ex
 exact ⟨D.cl,f,fd,ps,F.mono h,r⟩
theorem nW {x qual:Str} {st:Stmt} {f:Addr} {fd:FuncData} {N ps:List Str} {fb:FS} (F:eJ K x qual st f fd) (S:aP N ps (aA st)) (hb:Binds K fd ps []) (cl:mZ K C) (hm:Meth K C m f)
  (h:∀ (cdv:Value) (A:Around) (outer:List Env) (s:Shared) (H:Hp) (E:XK),dz k (A.deeper (envOfC qual (aA st) s.heap.objs.size f cdv)) -> wF (lI pX P w K mg base N qual (aA st) f cdv A outer s H E).nox (dk st) fb) :
  dG P w K mg base (k + 1) C m ps.length (cz N.length ps.length fb):=by
 refine ⟨cl,f,fd,ps,F.ok S (fun vs H Q E z=>z.1) (fun cdv A outer s H vs Q E hr z=>?_),hb,hm,rfl⟩
 obtain ⟨hl,F1,ts,t,sm,r,e,q⟩:=z
 unfold cz at e
 split at e
 ·next hn =>
  obtain ⟨r',e1,e⟩:=bind_some e
  refine ⟨_,h cdv A outer s H E hr F1 H,F1,_,r',?_,e1,?_⟩
  ·have:=gF (N:=N) sm r
   rw [hn] at this
   exact this
  ·cases r' with
   | rt u=>cases e; exact fun F' H' v g r'=>q F' H' v g r'
   | nx τ=>cases e; exact fun F' H' σ' E' s'=>q F' H' .non E'.g rfl
   | bk τ=>cases e
   | ct τ=>cases e
 ·cases e
end
section
variable {X:Cx} {o e:Expr} {es:List Expr} {pos apos:Pos} {g:FA} {fo:FE} {k n:Nat} {m:Str}
def vg (C:Addr):List (Addr × (List T -> Option T)) -> Option (List T -> Option T)
 | []=>none
 | a :: r=>if C=a.1 then some a.2 else vg C r
theorem qP {C:Addr} {d:List T -> Option T}:∀ {l:List (Addr × (List T -> Option T))},vg C l=some d -> (C,d) ∈ l
 | [],h=>by cases h
 | a :: r,h=>by
  unfold vg at h
  split at h
  ·next e=>cases h; subst e; exact List.mem_cons_self
  ·exact List.mem_cons_of_mem _ (qP h)
def bo (alts:List (Addr × (List T -> Option T))) (m:Str) (fo:FE) (g:FA):FE:=fun τ=>(fo τ).bind fun p=>match p.1 with
 | .obj C ns ts=>if m ∈ ns then none else (vg C alts).bind fun d=>(g p.2).bind fun q=>(d (.obj C ns ts :: q.1)).bind fun t=>some (t,q.2)
 | _=>none
theorem AN {alts:List (Addr × (List T -> Option T))} {F₀ H₀:Hp} {σ:L2.St} {H:Hp} {Q:VK} (h:tE X.K F₀ H₀ (bo alts m fo g) σ H Q) (hl:∀ τ ts τ',g τ=some (ts,τ') -> ts.length + 1=n) :
  ∃ C d,(C,d) ∈ alts /\ Gx C m (spT X.K n d) [] E0 (tE X.K F₀ H₀ fo) (tA X.K F₀ H₀ g) σ H Q:=by
 obtain ⟨F,τ,t,τ',E,e1,q⟩:=h
 obtain ⟨⟨x,τ1⟩,e2,e1⟩:=bind_some e1
 dsimp only at e1
 split at e1
 ·next C ns ts =>
  split at e1
  ·cases e1
  ·next hm =>
   obtain ⟨d,e3,e1⟩:=bind_some e1
   obtain ⟨⟨us,τ2⟩,e4,e1⟩:=bind_some e1
   obtain ⟨u,e5,e1⟩:=bind_some e1
   cases e1
   refine ⟨C,d,qP e3,F,τ,_,τ1,E,e2,fun F1 H1 v E1 s1 r1=>?_⟩
   obtain ⟨a,dx,vs,rfl,h1,h2,h3⟩:=id r1
   refine ⟨a,dx,_,rfl,E1.g.fh _ _ h1,oQ hm,F1,τ1,us,_,E1,e4,fun F2 H2 ws E2 s2 r2=>?_⟩
   refine ⟨by rw [List.append_nil,List.length_cons,r2.length]; exact hl _ _ _ e4,F2,.obj C ns ts :: us,_,E2.g.fh,⟨_,_,rfl,Rep.mono s2 r1,by rw [List.append_nil]; exact r2⟩,e5,fun F3 H3 v3 g3 r3=>?_⟩
   exact q F3 H3 v3 (E2.grow g3) ((s1.trans s2).trans g3.sF) r3
 ·cases e1
theorem aS {pl:Sem Bool} {alts:List (Addr × (List T -> Option T))} (hD:∀ a ∈ alts,dG X.prog X.w X.K X.mg X.base k a.1 m 1 a.2) (hr:dz k X.A) (he:SE X o fo)
  (ht:eval (.Call (.Attribute o m apos) [] [] pos) X.env=(do
   let ov <- eval o X.env
   standAt apos.atName
   let (f,first) <- holding [ov] (getMethod ov m pl)
   callWith pos f first (backTo pos (starEach [] X.env)) (backToKw pos (keywordEach [] X.env))):=by rfl) :
  SE X (.Call (.Attribute o m apos) [] [] pos) (bo alts m fo ai):=by
 intro F₀ H₀ pins s σ H Q I h
 obtain ⟨C,d,hm,h'⟩:=AN (n:=1) h (fun τ ts τ' e=>by cases e; rfl)
 have D:=hD _ hm
 obtain ⟨f,fd,ps,Fk,hb,hme,hn⟩:=D.ex
 refine Cv (E:=E0) (CX:=pX) (he F₀ H₀) D.cl hme Fk hr hb .nil Cr ht pins s σ H Q I ?_
 obtain ⟨F,τ,t,τ',E,e1,q⟩:=h'
 refine ⟨F,τ,t,τ',E,e1,fun F1 H1 v E1 s1 r1=>?_⟩
 obtain ⟨a,dx,fs,h1,h2,h3,F2,τ2,us,τ3,E2,e2,q2⟩:=q F1 H1 v E1 s1 r1
 cases e2
 exact ⟨a,dx,fs,h1,h2,h3,q2 F2 H1 [] E2 (aQ.refl _) rfl⟩
end
abbrev p7:=List Str × List T
def Nd (K:PySem.W.Frag) (C:Addr) (n:Nat) (d:List T -> Option p7):Sp:=fun vs H Q _=>vs.length=n + 1 /\ ∃ F x dx ws ts r,vs=.ref x :: ws /\ H x=some (.ins C dx []) /\ F x=none /\ aQ F H /\ aV K F ts ws /\ d ts=some r /\
 ∀ F' H' us,bx F (sj H [x]) F' H' -> H' x=some (.ins C dx (r.1.zip us)) -> F' x=none -> us.length=r.1.length -> aV K F' r.2 us -> Q .non H'
structure mj (P:Program) (w:World) (K:PySem.W.Frag) (mg:Str -> Option Value) (base:Heap) (k:Nat) (x:Str) (C:Addr) (n:Nat) (d:List T -> Option p7):Prop where
 ex:∃ j f fd ps,k=j + 1 /\ Mk K C f /\ fJ P w K mg base pX j f fd ps (Nd K C n d) /\ Binds K fd ps [] /\ mg x=some (.ref C) /\ ps.length=n + 1
theorem mj.mono {P:Program} {w:World} {K:PySem.W.Frag} {mg:Str -> Option Value} {base:Heap} {j k n:Nat} {x:Str} {C:Addr} {d:List T -> Option p7} (D:mj P w K mg base j x C n d) (h:j ≤ k):mj P w K mg base k x C n d:=by
 obtain ⟨i,f,fd,ps,hj,M,F,r⟩:=D.ex
 exact ⟨k - 1,f,fd,ps,by omega,M,F.mono (by omega),r⟩
theorem mj.imp {P:Program} {w:World} {K:PySem.W.Frag} {mg:Str -> Option Value} {base:Heap} {k n:Nat} {x:Str} {C:Addr} {d d':List T -> Option p7} (D:mj P w K mg base k x C n d) (h:∀ ts r,d' ts=some r -> d ts=some r):mj P w K mg base k x C n d':=by
 obtain ⟨i,f,fd,ps,hj,M,F,r⟩:=D.ex
 exact ⟨i,f,fd,ps,hj,M,F.imp fun vs H Q E z=>by
  obtain ⟨l,F,x,dx,ws,ts,r,a,b,c,dd,e,g,q⟩:=z
  exact ⟨l,F,x,dx,ws,ts,r,a,b,c,dd,e,h _ _ g,q⟩,r⟩
section
variable {X:Cx} {e:Expr} {es:List Expr} {pos:Pos} {g:FA}
def kC (C:Addr) (d:List T -> Option p7) (g:FA):FE:=fun τ=>(g τ).bind fun p=>(d p.1).bind fun r=>some (.obj C r.1 r.2,p.2)
theorem ur {k n:Nat} {x:Str} {p:Pos} {C:Addr} {d:List T -> Option p7} (D:mj X.prog X.w X.K X.mg X.base k x C n d) (hr:dz k X.A) (hg:Gl X x) (ha:SA X (e :: es) g) (hl:∀ τ ts τ',g τ=some (ts,τ') -> ts.length=n) (hdb:(x == ("__debug__" : Str))=false:=by decide)
  (he:starEach (e :: es) X.env=(false,eval e X.env) :: starEach es X.env:=by rfl) (hpl:(backTo pos (starEach es X.env)).any (·.1)=false:=by rfl):SE X (.Call (.Name x p) (e :: es) [] pos) (kC C d g):=by
 obtain ⟨j,f,fd,ps,hj,M,Fk,hb,hm,hn⟩:=D.ex
 subst hj
 intro F₀ H₀
 refine PE.weak (Ey (E:=E0) (CX:=pX) M Fk hr hg hm hb .nil Cr (ha F₀ H₀) hdb he hpl) fun σ H Q h=>?_
 obtain ⟨F,τ,t,τ',E,e1,q⟩:=h
 obtain ⟨⟨ts,τ1⟩,e2,e1⟩:=bind_some e1
 obtain ⟨r,e3,e1⟩:=bind_some e1
 cases e1
 refine ⟨F,τ,ts,_,E,e2,fun F1 H1 vs E1 s1 r1=>fun a dx na ndx ne=>?_⟩
 have fa:F1 a=none:=E1.g.fh.free na
 have fd':F1 dx=none:=E1.g.fh.free ndx
 have sm:aQ F1 (upd (upd H1 dx (.own a)) a (.ins C dx [])):=fun b o z=>by
  rw [aK (bA z fa),aK (bA z fd')]
  exact E1.g.fh b o z
 have sm1:aQ H1 (upd (upd H1 dx (.own a)) a (.ins C dx [])):=fun b o z=>by
  rw [aK (bA z na),aK (bA z ndx)]
  exact z
 refine ⟨by rw [List.append_nil,List.length_cons,r1.length,hl _ _ _ e2],F1,a,dx,vs,ts,r,by rw [List.append_nil],aU,fa,sm,r1,e3,fun F' H' us gr hx fx hlu ru=>⟨rfl,?_⟩⟩
 have sF:aQ F' (upd F' a (.ins C dx (r.1.zip us))):=dq fx
 have g2:bx F1 H1 (upd F' a (.ins C dx (r.1.zip us))) H':=by
  refine ⟨gr.sF.trans sF,fun b o z=>gr.sH b o ?_,fun b o z=>?_,fun b o z=>?_⟩
  ·rw [fz (fun m=>by rw [List.mem_singleton.mp m,na] at z; cases z)]
   exact sm1 b o z
  ·by_cases hb:b=a
   ·rw [hb,aU] at z; cases z; rw [hb]; exact hx
   ·rw [aK hb] at z; exact gr.fh b o z
  ·by_cases hb:b=a
   ·exact .inr (by rw [hb]; exact na)
   ·rw [aK hb] at z
    rcases gr.nw b o z with y | y
    ·exact .inl y
    ·rw [fz (fun m=>hb (List.mem_singleton.mp m))] at y
     exact .inr (sm1.free y)
 exact q _ H' (.ref a) (E1.grow g2) (s1.trans g2.sF) ⟨a,dx,us,rfl,aU,hlu,aV.mono sF ru⟩
end
abbrev FI:=aJ -> List Str -> List T -> Option p7
def Ni (K:PySem.W.Frag) (C x:Addr) (F₀ H₀:Hp) (f:FI):TS:=fun D σ H=>∃ F τ ns us vs dx r,aI K F₀ H₀ F H σ τ /\ cu τ=true /\ τ[0]? = some (some (.sh (.ptr x))) /\ H x=some (.ins C dx (ns.zip vs)) /\ F x=none /\ H₀ x=none /\ vs.length=ns.length /\ ns.length < 1000 /\ aV K F us vs /\ f τ ns us=some r /\
 ∀ F' H' σ' us',bx F₀ H₀ F' H' -> H' x=some (.ins C dx (r.1.zip us')) -> F' x=none -> us'.length=r.1.length -> aV K F' r.2 us' -> D.nx σ' H'
def Jc (X:Cx) (C:Addr) (ss:List Stmt) (f:Addr -> FI):Prop:=∀ x F₀ H₀,lF X ss (Ni X.K C x F₀ H₀ (f x))
section
variable {X:Cx} {C:Addr} {e:Expr} {rest:List Stmt} {pos:Pos}
def JY:Addr -> FI:=fun _ _ ns us=>some (ns,us)
theorem EW:Jc X C [] JY:=fun x F₀ H₀=>lF.weak ud fun D σ H h=>by
 obtain ⟨F,τ,ns,us,vs,dx,r,E,ha,h0,hx,fx,h0x,hl,hk,ru,e1,q⟩:=h
 cases e1
 exact q F H σ vs E.g hx fx hl ru
def DX (f:Str) (fe:FE) (fr:Addr -> FI):Addr -> FI:=fun x τ ns us=>(fe τ).bind fun p=>if cu p.2=true /\ ¬ f ∈ ns /\ ns.length < 999 then match (p.2[0]? : Option (Option Sl)) with
 | some (some (.sh (.ptr y)))=>if y=x then fr x p.2 (ns ++ [f]) (us ++ [p.1]) else none
 | _=>none else none
theorem EV {f:Str} {fe:FE} {fr:Addr -> FI} {y:Str} {p1 p2:Pos} (hc:mZ X.K C) (hn:fq X.K C f) (hy:PE X (.Name y p1) (Bc 0)) (he:SE X e fe) (hr:Jc X C rest fr)
  (hs:swapsWith e (some (.Attribute (.Name y p1) f p2)) pos.line X.env=pure false:=by rfl):Jc X C (.Assign [.Attribute (.Name y p1) f p2] e pos :: rest) (DX f fe fr):=fun x F₀ H₀=>lF.weak (lT (Io hy he.any hs) (hr x F₀ H₀)) fun D σ H h=>by
 obtain ⟨F,τ,ns,us,vs,dx,r,E,ha,h0,hx,fx,h0x,hl,hk,ru,e1,q⟩:=h
 obtain ⟨⟨t,τ1⟩,e2,e1⟩:=bind_some e1
 dsimp only at e1
 split at e1
 ·next hc1 =>
  split at e1
  ·next y1 hp1 =>
   split at e1
   ·next hyx =>
    subst hyx
    refine ⟨F,H,F,τ,t,τ1,E.rebase ha E.g.fh,e2,fun F1 H1 w E1 s1 r1=>?_⟩
    have hx1:=E1.g.sH _ _ hx
    have fx1:F1 y1=none:=by
     cases eF:F1 y1 with
     | none=>rfl
     | some o =>
      rcases E1.g.nw _ o eF with z | z
      ·rw [fx] at z; cases z
      ·rw [hx] at z; cases z
    obtain ⟨v0,k1,k2⟩:=E.sl 0 _ h0
    cases (show v0=.ref y1 from k2)
    refine ⟨_,k1,y1,C,dx,_,rfl,hx1,hc,hn,by rw [List.length_zip]; omega,?_⟩
    rw [vY hc1.2.1 hl]
    have E2:aI X.K F₀ H₀ F1 (upd H1 y1 (.ins C dx ((ns ++ [f]).zip (vs ++ [w])))) σ τ1:=by
     refine E1.to hc1.1 (aQ.refl _) ⟨E.g.sF.trans E1.g.sF,fun b o z=>?_,fun b o z=>?_,fun b o z=>?_⟩
     ·rw [aK (fun y=>by rw [y,h0x] at z; cases z)]
      exact E1.g.sH _ _ (E.g.sH _ _ z)
     ·rw [aK (fun y=>by rw [y,fx1] at z; cases z)]
      exact E1.g.fh _ _ z
     ·rcases E1.g.nw b o z with y | y
      ·exact E.g.nw b o y
      ·exact .inr (E.g.sH.free y)
    refine ⟨F1,τ1,ns ++ [f],us ++ [t],vs ++ [w],dx,r,E2,hc1.1,hp1,aU,fx1,h0x,by simp [hl],by rw [List.length_append]; simp only [List.length_cons,List.length_nil]; omega,(aV.mono E1.g.sF ru).append (.one r1),e1,q⟩
   ·cases e1
  ·cases e1
 ·cases e1
def BW (t:FS) (fr:Addr -> FI):Addr -> FI:=fun x τ ns us=>(t τ).bind fun r=>match r with
 | .nx τ1=>if cu τ1=true then match (τ1[0]? : Option (Option Sl)) with
  | some (some (.sh (.ptr y)))=>if y=x then fr x τ1 ns us else none
  | _=>none else none
 | _=>none
theorem zT {st:Stmt} {t:FS} {fr:Addr -> FI} (hst:SS X st t) (hr:Jc X C rest fr):Jc X C (st :: rest) (BW t fr):=fun x F₀ H₀=>lF.weak (lT hst.any (hr x F₀ H₀)) fun D σ H h=>by
 obtain ⟨F,τ,ns,us,vs,dx,r,E,ha,h0,hx,fx,h0x,hl,hk,ru,e1,q⟩:=h
 obtain ⟨r1,e2,e1⟩:=bind_some e1
 refine ⟨F,H,F,τ,r1,E.rebase ha E.g.fh,e2,?_⟩
 cases r1 with
 | nx τ1 =>
  dsimp only at e1
  split at e1
  ·next hs =>
   split at e1
   ·next y1 hp1 =>
    split at e1
    ·next hyx =>
     subst hyx
     refine fun F1 H1 σ1 E1 s1=>?_
     have hx1:=E1.g.sH _ _ hx
     have fx1:F1 y1=none:=by
      cases eF:F1 y1 with
      | none=>rfl
      | some o =>
       rcases E1.g.nw _ o eF with z | z
       ·rw [fx] at z; cases z
       ·rw [hx] at z; cases z
     exact ⟨F1,τ1,ns,us,vs,dx,r,E1.back hs E.g,hs,hp1,hx1,fx1,h0x,hl,hk,aV.mono E1.g.sF ru,e1,q⟩
    ·cases e1
   ·cases e1
  ·cases e1
 | rt t=>cases e1
 | bk t=>cases e1
 | ct t=>cases e1
end
def DI (m n:Nat) (fb:Addr -> FI) (ts:List T) (r:p7):Prop:=ts.length=n /\ ∀ x:Addr,fb x (some (.sh (.ptr x)) :: (ts.map (fun t=>some (Sl.sh t)) ++ List.replicate (m - (n + 1)) none)) [] []=some r
open Classical in
def dI (m n:Nat) (fb:Addr -> FI):List T -> Option p7:=fun ts=>if h:∃ r,DI m n fb ts r then some h.choose else none
theorem JH {m n:Nat} {fb:Addr -> FI} {ts:List T} {r:p7} (h:DI m n fb ts r):dI m n fb ts=some r:=by
 unfold dI
 have hh:∃ r,DI m n fb ts r:=⟨r,h⟩
 rw [dif_pos hh]
 have h1:=hh.choose_spec.2 0
 rw [h.2 0] at h1
 exact h1.symm
theorem GY {m n:Nat} {fb:Addr -> FI} {ts:List T} {r:p7} (h:dI m n fb ts=some r):DI m n fb ts r:=by
 unfold dI at h
 split at h
 ·next hh=>cases h; exact hh.choose_spec
 ·cases h
theorem mm:∀ (ts:List T) (j:Nat),cu (ts.map (fun t=>some (Sl.sh t)) ++ List.replicate j none)=true
 | [],0=>rfl
 | [],j + 1=>by rw [List.replicate_succ]; exact mm [] j
 | t :: ts,j=>mm ts j
theorem DY {P:Program} {w:World} {K:PySem.W.Frag} {mg:Str -> Option Value} {base:Heap} {k n:Nat} {x cx:Str} {C:Addr} {qual:Str} {st:Stmt} {f:Addr} {fd:FuncData} {N ps:List Str} {fb:Addr -> FI} (F:eJ K x qual st f fd) (S:aP N ps (aA st)) (hb:Binds K fd ps []) (M:Mk K C f) (hm:mg cx=some (.ref C)) (hn:ps.length=n + 1)
  (h:∀ (cdv:Value) (A:Around) (outer:List Env) (s:Shared) (H:Hp) (E:XK),dz k (A.deeper (envOfC qual (aA st) s.heap.objs.size f cdv)) -> Jc (lI pX P w K mg base N qual (aA st) f cdv A outer s H E).nox C (dk st) fb) :
  mj P w K mg base (k + 2) cx C n (dI N.length n fb):=by
 refine ⟨k + 1,f,fd,ps,rfl,M,F.ok S (fun vs H Q E z=>by rw [hn]; exact z.1) (fun cdv A outer s H vs Q E hr z=>?_),hb,hm,hn⟩
 obtain ⟨hl,F1,a,dx,ws,ts,r,rfl,hx,fx,sm,rw1,e,q⟩:=z
 obtain ⟨hlen,hf⟩:=GY e
 refine ⟨_,h cdv A outer s H E hr a F1 (sj H [a]),?_⟩
 have r1:aV K F1 (.ptr a :: ts) (.ref a :: ws):=⟨_,_,rfl,rfl,rw1⟩
 have E0:=gF (N:=N) sm r1
 have hsh:cu ((T.ptr a :: ts).map (fun t=>some (Sl.sh t)) ++ List.replicate (N.length - (T.ptr a :: ts).length) none)=true:=mm _ _
 have g0:bx F1 (sj H [a]) F1 H:=⟨aQ.refl _,AA,sm,fun _ _ z=>.inl z⟩
 have E1:=E0.to hsh (aQ.refl _) g0
 refine ⟨F1,_,[],[],[],dx,r,E1,hsh,rfl,hx,fx,yR List.mem_cons_self,rfl,by decide,rfl,?_,fun F' H' σ' us' g' h1 h2 h3 h4=>q F' H' us' g' h1 h2 h3 h4⟩
 have:=hf a
 rw [<- hlen] at this
 exact this
open PySem PySem.Spec PyProof.Rows L2
structure MD (K:PySem.W.Frag) (Ct C:Addr) (b:Bool):Prop where
 cl:mZ K C
 ha:PySem.W.findIn K (.ref C) "__class__" = some (some (.builtin "object.__class__"))
 hn:PySem.W.specialIn K (.builtin "object.__class__") "__get__" = some (some (.builtin "getset_descriptor.__get__"))
 htk:PySem.W.takesIn K (.builtin "object.__class__")=some true
 hm:PySem.W.mroIn K C (.type "object")=some true
 kit:PySem.W.kitOne K (.ref C) (.ref Ct)=some b
def findB (C:Addr):List (Addr × Bool) -> Option Bool
 | []=>none
 | a :: r=>if C=a.1 then some a.2 else findB C r
theorem qQ {C:Addr} {d:Bool}:∀ {l:List (Addr × Bool)},findB C l=some d -> (C,d) ∈ l
 | [],h=>by cases h
 | a :: r,h=>by
  unfold findB at h
  split at h
  ·next e=>cases h; subst e; exact List.mem_cons_self
  ·exact List.mem_cons_of_mem _ (qQ h)
section
variable {X:Cx} {e:Expr} {pos:Pos}
structure MW (K:PySem.W.Frag) (C:Addr):Prop where
 makes:PySem.W.makesIn K C=true
 init:PySem.W.findIn K (.ref C) "__init__" = some (some (.builtin "object.__init__"))
 kp:PySem.W.keepIn K (.ref C)=true
end
open PySem PySem.Spec PyProof.Rows L2
section
variable {X:Cx} {e:Expr} {pos:Pos} {f:FE}
end
open PySem PySem.Spec PyProof.Rows L2
structure pY (K:PySem.W.Frag) (F₀ H₀ F H:Hp) (σ:L2.St) (τ:aJ) (x:Nat) (p:Addr) (tss:List (List T)) (A:List Addr):Prop where
 E:aI K F₀ H₀ F H σ τ
 hx:τ[x]? = some (some (.sh (.ptr p)))
 r:dH K F H (.lst (tss.map wb)) (.ref p) A
 nd:A.Nodup
 h0:∀ a ∈ A,H₀ a=none
 ap:Apart σ τ A
section
variable {K:PySem.W.Frag} {F₀ H₀ F H F' H':Hp} {σ σ':L2.St} {τ τ':aJ} {x:Nat} {p:Addr} {tss:List (List T)} {A:List Addr}
theorem pY.lies (D:pY K F₀ H₀ F H σ τ x p tss A) {a:Addr} (ha:a ∈ A):F a=none /\ ∃ vs,H a=some (.lst vs):=D.r.at a ha
theorem pY.back (D:pY K F₀ H₀ F H σ τ x p tss A) (E':aI K F₀ (frzO H₀ H A) F' H' σ' τ') (s:aQ F F') (hx:τ'[x]? = some (some (.sh (.ptr p)))):pY K F₀ H₀ F' H' σ' τ' x p tss A:=by
 have out:∀ {a:Addr},frzO H₀ H A a=none -> a ∉ A /\ H₀ a=none:=fun {a} e=>by
  have m:a ∉ A:=fun m=>by
   obtain ⟨vs,k⟩:=(D.lies m).2
   rw [ia m,k] at e; cases e
  exact ⟨m,by rw [fA m] at e; exact e⟩
 refine ⟨⟨⟨E'.g.sF,fun a o e=>?_,E'.g.fh,fun a o e=>?_⟩,E'.len,fun i s e=>?_,E'.dj⟩,hx,dH.move s (fun a ha=>?_) D.r,D.nd,D.h0,fun j us q e1 e2=>?_⟩
 ·have m:a ∉ A:=fun m=>by rw [D.h0 a m] at e; cases e
  exact E'.g.sH _ _ (by rw [fA m]; exact e)
 ·rcases E'.g.nw a o e with z | z
  ·exact .inl z
  ·exact .inr (out z).2
 ·obtain ⟨v,h1,h2⟩:=E'.sl i s e
  refine ⟨v,h1,?_⟩
  cases s with
  | sh t=>exact h2
  | own ts =>
   obtain ⟨q,vs,rfl,k1,k2,k3,k4⟩:=h2
   exact ⟨q,vs,rfl,k1,k2,(out k3).2,k4⟩
 ·obtain ⟨f1,vs,f2⟩:=D.lies ha
  refine ⟨by rw [f2]; exact E'.g.sH _ _ (by rw [ia ha]; exact f2),?_⟩
  cases eF:F' a with
  | none=>rfl
  | some o =>
   rcases E'.g.nw a o eF with z | z
   ·rw [D.E.g.sF _ _ z] at f1; cases f1
   ·exact absurd ha (out z).1
 ·obtain ⟨v,h1,q',vs,rfl,k1,k2,k3,k4⟩:=E'.sl j _ e1
  rw [e2] at h1; cases h1
  exact (out k3).1
theorem pY.grow (D:pY K F₀ H₀ F H σ τ x p tss A) (g:bx F H F' H'):pY K F₀ H₀ F' H' σ τ x p tss A:=⟨D.E.grow g,D.hx,D.r.over g,D.nd,D.h0,D.ap⟩
theorem pY.held (D:pY K F₀ H₀ F H σ τ x p tss A):eK K F₀ H₀ F H p (tss.map wb) A:=⟨D.E.g,D.r,D.nd,D.h0⟩
theorem pY.get (D:pY K F₀ H₀ F H σ τ x p tss A):σ[x]? = Option.some (Option.some (.ref p)):=by
 obtain ⟨v,h1,h2⟩:=D.E.sl x _ D.hx
 have:v=.ref p:=h2
 rw [h1,this]
end
abbrev FD:=Addr -> List (List T) -> aJ -> Option (List (List T) × aJ)
def J3 (x:Nat) (p:Addr) (τ:aJ):Bool:=match τ[x]? with
 | some (some (.sh (.ptr q)))=>Nat.beq q p
 | _=>false
def tD (K:PySem.W.Frag) (F₀ H₀:Hp) (x:Nat) (f:FD):TS:=fun D σ H=>∃ F τ p tss A r,pY K F₀ H₀ F H σ τ x p tss A /\ f p tss τ=some r /\ ∀ F' H' σ' A',pY K F₀ H₀ F' H' σ' r.2 x p r.1 A' -> aQ F F' -> D.nx σ' H'
theorem SG.any {X:Cx} {tg:Expr} {g:FG} (h:SG X tg g):PG X tg (fun v σ H Q=>∃ F₀ H₀,tG X.K F₀ H₀ g v σ H Q):=fun pins s σ H v u Q I r ⟨F₀,H₀,q⟩=>h F₀ H₀ pins s σ H v u Q I r q
section
variable {X:Cx} {e:Expr} {pos:Pos} {x:Nat}
def FH (x:Nat) (c:FT) (f g:FD):FD:=fun p tss τ=>(c τ).bind fun q=>if J3 x p q.2=true then (if q.1=true then f p tss q.2 else g p tss q.2) else none
end
theorem we {K:PySem.W.Frag} {F H:Hp}:∀ {tss:List (List T)} {vs:List V} {B:List Addr} {k:Nat} {q:Addr} {row:List T},br K F H (tss.map wb) vs B -> tss[k]? = some row -> vs[k]? = some (.ref q) -> q ∈ B
 | [],_,_,k,_,_,_,e,_=>by simp at e
 | r :: tss,vs,B,k,q,row,h,e,e'=>by
  obtain ⟨v,r',B1,C,rfl,rfl,h1,h2⟩:=h
  cases k with
  | zero =>
   cases e'
   obtain ⟨q',ws,B2,hq,rfl,_⟩:=h1
   cases hq
   exact List.mem_append_left _ List.mem_cons_self
  | succ k=>exact List.mem_append_right _ (we h2 e e')
section
variable {K:PySem.W.Frag} {F₀ H₀ F H F' H':Hp} {σ σ':L2.St} {τ τ':aJ} {x:Nat} {p:Addr} {tss:List (List T)} {A:List Addr}
theorem pY.upd (D:pY K F₀ H₀ F H σ τ x p tss A) {a:Addr} (ha:a ∈ A) (o:HO):aI K F₀ H₀ F (L2.upd H a o) σ τ:=by
 refine ⟨⟨D.E.g.sF,fun b u e=>?_,fun b u e=>?_,D.E.g.nw⟩,D.E.len,fun i s e=>?_,D.E.dj⟩
 ·rw [aK (fun z=>by rw [z,D.h0 a ha] at e; cases e)]; exact D.E.g.sH _ _ e
 ·rw [aK (fun z=>by rw [z,(D.lies ha).1] at e; cases e)]; exact D.E.g.fh _ _ e
 ·obtain ⟨v,h1,h2⟩:=D.E.sl i s e
  refine ⟨v,h1,?_⟩
  cases s with
  | sh t=>exact h2
  | own ts =>
   obtain ⟨q,vs,rfl,k1,k2,k3,k4⟩:=h2
   exact ⟨q,vs,rfl,by rw [aK (show q ≠ a from fun z=>D.ap i ts q e h1 (by rw [z]; exact ha))]; exact k1,k2,k3,k4⟩
theorem pY.put (D:pY K F₀ H₀ F H σ τ x p tss A) {k l:Nat} {row:List T} {t:T} {w:V} (er:tss[k]? = some row) (r:Rep K F t w) :
  ∃ vs qa ws,H p=some (.lst vs) /\ vs[k]? = some (.ref qa) /\ H qa=some (.lst ws) /\ ws.length=row.length /\ vs.length=tss.length /\ pY K F₀ H₀ F (L2.upd H qa (.lst (ws.set l w))) σ τ x p (tss.set k (row.set l t)) A:=by
 obtain ⟨vs,qa,ws,h1,h2,h3,h4,h5⟩:=D.held.at er
 have S:=D.held.turnRow (us:=row.set l t) (ws:=ws.set l w) er h1 h2 (uH r l h4)
 obtain ⟨vs',B,hA,g1,g2,g3⟩:=D.held.root
 rw [h1] at g1; cases g1
 have m:qa ∈ A:=by rw [hA]; exact List.mem_cons_of_mem _ (we g3 er h2)
 exact ⟨vs,qa,ws,h1,h2,h3,h4.length,h5,D.upd m _,D.hx,S.r,S.nd,S.h0,D.ap⟩
theorem pY.look (D:pY K F₀ H₀ F H σ τ x p tss A):aI K (frzO F H A) H (frzO F H A) H σ ((hide τ).set x (Option.some (.sh (.lst (tss.map T.lst))))):=by
 have sF:aQ F (frzO F H A):=eY fun a ha=>(D.lies ha).1
 have sH:aQ (frzO F H A) H:=fun b o eb=>by
  by_cases m:b ∈ A
  ·rw [ia m] at eb; exact eb
  ·rw [fA m] at eb; exact D.E.g.fh b o eb
 have rp:Rep K (frzO F H A) (.lst (tss.map T.lst)) (.ref p):=by
  have:=D.r.frz
  rw [O.tr,wz] at this
  exact this
 have all:∀ {j:Nat} {s:Sl},((hide τ).set x (Option.some (.sh (.lst (tss.map T.lst)))))[j]? = Option.some (Option.some s) -> (∃ t,s=.sh t) /\ ∃ v,σ[j]? = Option.some (Option.some v) /\ wJ K H (frzO F H A) H s v:=fun {j s} e=>by
  by_cases hj:x=j
  ·subst hj
   by_cases hl:x < (hide τ).length
   ·rw [List.getElem?_set_self hl] at e; cases e
    exact ⟨⟨_,rfl⟩,_,D.get,rp⟩
   ·rw [List.getElem?_eq_none (by simp; omega)] at e; cases e
  ·rw [List.getElem?_set_ne hj] at e
   obtain ⟨e1,t,rfl⟩:=jJ e
   obtain ⟨v,k1,k2⟩:=D.E.sl j _ e1
   exact ⟨⟨t,rfl⟩,v,k1,Rep.mono sF k2⟩
 refine ⟨bx.refl sH,by simp [fY,D.E.len],fun j s e=>(all e).2,fun j k ts ws p _ e1=>?_⟩
 obtain ⟨t,z⟩:=(all e1).1
 cases z
end
section
variable {X:Cx} {e:Expr} {pos:Pos} {x:Nat}
end
open PySem PySem.Spec PyProof.Rows L2
section
variable {X:Cx} {e:Expr} {pos:Pos}
end
open PySem PySem.Spec PyProof.Rows L2
inductive R2 where
 | nx (τ:aJ) | ro (o:O)
def LM (K:PySem.W.Frag) (F₀ H₀ F:Hp) (D:Ends):R2 -> Prop
 | .nx τ'=>∀ F' H' σ',aI K F₀ H₀ F' H' σ' τ' -> aQ F F' -> D.nx σ' H'
 | .ro o=>∀ F' H' v A,bx F₀ H₀ F' H' -> dH K F' H' o v A -> A.Nodup -> (∀ a ∈ A,H₀ a=none) -> D.rt v H'
theorem LM.mono {K:PySem.W.Frag} {F₀ H₀ F F':Hp} {D:Ends}:∀ {r:R2},aQ F F' -> LM K F₀ H₀ F D r -> LM K F₀ H₀ F' D r
 | .nx _,s,h=>fun F1 H1 σ1 E1 s1=>h F1 H1 σ1 E1 (s.trans s1)
 | .ro _,_,h=>h
section
variable {X:Cx} {e:Expr} {pos:Pos}
end
open PySem PySem.Spec PyProof.Rows L2
section
variable {X:Cx} {e:Expr} {pos:Pos} {x:Nat}
end
section
variable {X:Cx} {i j:Nat}
end
open PySem PySem.Spec PyProof.Rows L2
section
variable {X:Cx}
end
open PySem PySem.Spec PyProof.Rows L2
section
variable {X:Cx} {a b c:Expr} {fa fb fc:FE} {pos:Pos}
def jD (g g':T -> T -> Option T) (fa fb fc:FE):FE:=fun τ=>(fa τ).bind fun p=>(fb p.2).bind fun q=>(g p.1 q.1).bind fun z=>match z with
 | .bl true=>(fc q.2).bind fun r=>(g' q.1 r.1).bind fun t=>some (t,r.2)
 | .bl false=>some (.bl false,q.2)
 | _=>none
theorem wU {g g':T -> T -> Option T} {K:PySem.W.Frag} {F₀ H₀:Hp} {σ:L2.St} {H:Hp} {Q:VK} (h:tE K F₀ H₀ (jD g g' fa fb fc) σ H Q):CY (Jj K g) (Jj K g') (tE K F₀ H₀ fa) (tE K F₀ H₀ fb) (tE K F₀ H₀ fc) σ H Q:=by
 obtain ⟨F,τ,t,τ',E,e1,q⟩:=h
 obtain ⟨⟨x,τ1⟩,e2,e1⟩:=bind_some e1
 obtain ⟨⟨y,τ2⟩,e3,e1⟩:=bind_some e1
 obtain ⟨z,e4,e1⟩:=bind_some e1
 refine ⟨F,τ,x,τ1,E,e2,fun F1 H1 v1 E1 s1 r1=>⟨F1,τ1,y,τ2,E1,e3,fun F2 H2 v2 E2 s2 r2=>⟨F2,x,y,z,E2.g.fh,r1.mono s2,r2,e4,fun F3 H3 v3 g3 r3=>?_⟩⟩⟩
 dsimp only at e1
 split at e1
 ·obtain ⟨⟨w,τ3⟩,e5,e1⟩:=bind_some e1
  obtain ⟨t',e6,e1⟩:=bind_some e1
  cases e1
  refine ⟨true,r3,?_⟩
  rw [if_pos rfl]
  exact ⟨F3,τ2,w,_,E2.grow g3,e5,fun F4 H4 v4 E4 s4 r4=>⟨F4,y,w,_,E4.g.fh,(r2.mono g3.sF).mono s4,r4,e6,fun F5 H5 v5 g5 r5=>q F5 H5 v5 (E4.grow g5) (((s1.trans s2).trans g3.sF).trans (s4.trans g5.sF)) r5⟩⟩
 ·cases e1
  refine ⟨false,r3,?_⟩
  rw [if_neg (by decide)]
  exact q F3 H3 _ (E2.grow g3) ((s1.trans s2).trans g3.sF) rfl
 ·cases e1
theorem wx {op op':CmpOp} {g g':T -> T -> Option T} (ho:nt X (compareOp op) g) (ho':nt X (compareOp op') g') (ha:SE X a fa) (hb:SE X b fb) (hc:SE X c fc) (hm:lastMarks [op,op'] [b,c]=false:=by with_unfolding_all rfl):ST X (.Compare a [op,op'] [b,c] pos) (dJ (jD g g' fa fb fc)):=
 fun F₀ H₀=>PT.weak (CH ho ho' (ha F₀ H₀) (hb F₀ H₀) (hc F₀ H₀) hm) fun σ H Q hq__=>by
  obtain ⟨F,τ,k,τ',E,e1,q⟩:=hq__
  obtain ⟨⟨x,τ1⟩,e2,e1⟩:=bind_some e1
  dsimp only at e1
  split at e1
  ·cases e1
   refine wU (Q:=fun x H'=>∃ k,x=V.bl k /\ Q k H') ⟨F,τ,_,_,E,e2,fun F' H' v E' s' r'=>?_⟩
   exact ⟨k,r',q F' H' E' s'⟩
  ·cases e1
end
open PySem PySem.Spec PyProof.Rows L2
structure Ju (K:PySem.W.Frag) (F₀ H₀ F H:Hp) (σ:L2.St) (τ:aJ) (A:List Addr):Prop where
 E:aI K F₀ H₀ F H σ τ
 lies:∀ a ∈ A,F a=none /\ ∃ vs,H a=some (.lst vs)
 h0:∀ a ∈ A,H₀ a=none
 ap:Apart σ τ A
section
variable {K:PySem.W.Frag} {F₀ H₀ F H F' H':Hp} {σ σ':L2.St} {τ τ':aJ} {A:List Addr}
theorem Ju.upd (D:Ju K F₀ H₀ F H σ τ A) {a:Addr} (ha:a ∈ A) (ws:List V):Ju K F₀ H₀ F (L2.upd H a (.lst ws)) σ τ A:=by
 refine ⟨⟨⟨D.E.g.sF,fun b u e=>?_,fun b u e=>?_,D.E.g.nw⟩,D.E.len,fun i s e=>?_,D.E.dj⟩,fun b hb=>⟨(D.lies b hb).1,?_⟩,D.h0,D.ap⟩
 ·rw [aK (fun z=>by rw [z,D.h0 a ha] at e; cases e)]; exact D.E.g.sH _ _ e
 ·rw [aK (fun z=>by rw [z,(D.lies a ha).1] at e; cases e)]; exact D.E.g.fh _ _ e
 ·obtain ⟨v,h1,h2⟩:=D.E.sl i s e
  refine ⟨v,h1,?_⟩
  cases s with
  | sh t=>exact h2
  | own ts =>
   obtain ⟨q,vs,rfl,k1,k2,k3,k4⟩:=h2
   exact ⟨q,vs,rfl,by rw [aK (show q ≠ a from fun z=>D.ap i ts q e h1 (by rw [z]; exact ha))]; exact k1,k2,k3,k4⟩
 ·by_cases h:b=a
  ·subst h; exact ⟨ws,by simp [L2.upd]⟩
  ·rw [aK h]; exact (D.lies b hb).2
end
section
variable {X:Cx} {r t x:Nat} {rn tn xn:Str} {p1 p2 p3 p4 p5 p6 pos:Pos}
end
open PySem PySem.Spec PyProof.Rows L2
section
variable {K:PySem.W.Frag} {F₀ H₀ F H F' H':Hp} {σ σ':L2.St} {τ τ':aJ} {A:List Addr} {x:Nat} {o:O} {v:V}
theorem Ju.of (E:aI K F₀ H₀ F H σ τ) (r:dH K F H o v A) (h0:∀ a ∈ A,H₀ a=none) (ap:Apart σ τ A):Ju K F₀ H₀ F H σ (τ.set x none) A:=by
 refine ⟨E.drop,r.at,h0,fun j us p e1 e2=>?_⟩
 refine ap j us p ?_ e2
 by_cases hj:x=j
 ·subst hj
  by_cases hl:x < τ.length
  ·rw [List.getElem?_set_self hl] at e1; cases e1
  ·rw [List.getElem?_eq_none (by simp; omega)] at e1; cases e1
 ·rw [List.getElem?_set_ne hj] at e1; exact e1
end
section
variable {X:Cx} {r t x:Nat} {rn tn xn:Str} {p1 p2 p3 p4 p5 p6 pos q1 q2 q3 q4 q5 q6 pos':Pos}
end
open PySem PySem.Spec PyProof.Rows L2
structure Bi (K:PySem.W.Frag) (F₀ H₀ F H:Hp) (σ:L2.St) (τ:aJ) (x:Nat) (p:Addr) (os:List O) (A:List Addr):Prop where
 E:aI K F₀ H₀ F H σ τ
 hx:τ[x]? = some (some (.sh (.ptr p)))
 r:dH K F H (.lst os) (.ref p) A
 nd:A.Nodup
 h0:∀ a ∈ A,H₀ a=none
 ap:Apart σ τ A
section
variable {K:PySem.W.Frag} {F₀ H₀ F H F' H':Hp} {σ σ':L2.St} {τ τ':aJ} {x:Nat} {p:Addr} {os:List O} {A:List Addr}
theorem Bi.lies (D:Bi K F₀ H₀ F H σ τ x p os A) {a:Addr} (ha:a ∈ A):F a=none /\ ∃ vs,H a=some (.lst vs):=D.r.at a ha
theorem Bi.back (D:Bi K F₀ H₀ F H σ τ x p os A) (E':aI K F₀ (frzO H₀ H A) F' H' σ' τ') (s:aQ F F') (hx:τ'[x]? = some (some (.sh (.ptr p)))):Bi K F₀ H₀ F' H' σ' τ' x p os A:=by
 have out:∀ {a:Addr},frzO H₀ H A a=none -> a ∉ A /\ H₀ a=none:=fun {a} e=>by
  have m:a ∉ A:=fun m=>by
   obtain ⟨vs,k⟩:=(D.lies m).2
   rw [ia m,k] at e; cases e
  exact ⟨m,by rw [fA m] at e; exact e⟩
 refine ⟨⟨⟨E'.g.sF,fun a o e=>?_,E'.g.fh,fun a o e=>?_⟩,E'.len,fun i s e=>?_,E'.dj⟩,hx,dH.move s (fun a ha=>?_) D.r,D.nd,D.h0,fun j us q e1 e2=>?_⟩
 ·have m:a ∉ A:=fun m=>by rw [D.h0 a m] at e; cases e
  exact E'.g.sH _ _ (by rw [fA m]; exact e)
 ·rcases E'.g.nw a o e with z | z
  ·exact .inl z
  ·exact .inr (out z).2
 ·obtain ⟨v,h1,h2⟩:=E'.sl i s e
  refine ⟨v,h1,?_⟩
  cases s with
  | sh t=>exact h2
  | own ts =>
   obtain ⟨q,vs,rfl,k1,k2,k3,k4⟩:=h2
   exact ⟨q,vs,rfl,k1,k2,(out k3).2,k4⟩
 ·obtain ⟨f1,vs,f2⟩:=D.lies ha
  refine ⟨by rw [f2]; exact E'.g.sH _ _ (by rw [ia ha]; exact f2),?_⟩
  cases eF:F' a with
  | none=>rfl
  | some o =>
   rcases E'.g.nw a o eF with z | z
   ·rw [D.E.g.sF _ _ z] at f1; cases f1
   ·exact absurd ha (out z).1
 ·obtain ⟨v,h1,q',vs,rfl,k1,k2,k3,k4⟩:=E'.sl j _ e1
  rw [e2] at h1; cases h1
  exact (out k3).1
theorem Bi.grow (D:Bi K F₀ H₀ F H σ τ x p os A) (g:bx F H F' H'):Bi K F₀ H₀ F' H' σ τ x p os A:=⟨D.E.grow g,D.hx,D.r.over g,D.nd,D.h0,D.ap⟩
theorem Bi.held (D:Bi K F₀ H₀ F H σ τ x p os A):eK K F₀ H₀ F H p os A:=⟨D.E.g,D.r,D.nd,D.h0⟩
theorem Bi.get (D:Bi K F₀ H₀ F H σ τ x p os A):σ[x]? = Option.some (Option.some (.ref p)):=by
 obtain ⟨v,h1,h2⟩:=D.E.sl x _ D.hx
 have:v=.ref p:=h2
 rw [h1,this]
end
section
variable {X:Cx} {e:Expr} {pos:Pos} {x:Nat}
theorem br.len {K:PySem.W.Frag} {F H:Hp}:∀ {os:List O} {vs:List V} {B:List Addr},br K F H os vs B -> vs.length=os.length
 | [],vs,B,r=>by obtain ⟨rfl,rfl⟩:=r; rfl
 | o' :: os,vs,B,r=>by
  obtain ⟨w,rs,B1,B2,rfl,rfl,r1,r2⟩:=r
  simp [br.len r2]
end
open PySem PySem.Spec PyProof.Rows L2
section
variable {X:Cx} {e:Expr} {pos:Pos}
end
section
variable {X:Cx} {e:Expr} {pos:Pos}
end
def Ml (K:PySem.W.Frag) (n:Nat) (d:List T -> Option (List O)):Sp:=fun vs H Q _=>vs.length=n /\ ∃ F ts os,aQ F H /\ aV K F ts vs /\ d ts=some os /\
 ∀ F' H' a ws A,bx F H F' H' -> F' a=some (.tup ws) -> br K F' H' os ws A -> A.Nodup -> (∀ b ∈ A,H b=none) -> Q (.ref a) H'
structure uG (P:Program) (w:World) (K:PySem.W.Frag) (mg:Str -> Option Value) (base:Heap) (k:Nat) (C:Addr) (m:Str) (n:Nat) (d:List T -> Option (List O)):Prop where
 cl:mZ K C
 ex:∃ f fd ps,fJ P w K mg base pX k f fd ps (Ml K n d) /\ Binds K fd ps [] /\ Meth K C m f /\ ps.length=n
section
variable {P:Program} {w:World} {K:PySem.W.Frag} {mg:Str -> Option Value} {base:Heap} {j k n:Nat} {C:Addr} {m:Str}
theorem uG.mono {d:List T -> Option (List O)} (D:uG P w K mg base j C m n d) (h:j ≤ k):uG P w K mg base k C m n d:=by
 obtain ⟨f,fd,ps,F,r⟩:=D.ex
 exact ⟨D.cl,f,fd,ps,F.mono h,r⟩
theorem uG.plain {d:List T -> Option (List O)} (D:uG P w K mg base k C m n d):dG P w K mg base k C m n (fun ts=>(d ts).bind fun os=>some (.tup (O.trs os))):=by
 obtain ⟨f,fd,ps,F,r⟩:=D.ex
 refine ⟨D.cl,f,fd,ps,F.imp fun vs H Q E ⟨l,F,ts,t,a,b,c,q⟩=>?_,r⟩
 obtain ⟨os,e1,e2⟩:=bind_some c
 cases e2
 refine ⟨l,F,ts,os,a,b,e1,fun F' H' x ws A g hF ro nd h0=>?_⟩
 have hn:∀ b ∈ A,F' b=none:=fun b hb=>(ro.at b hb).1
 exact q _ H' _ (g.frzO hn h0) ⟨x,ws,rfl,lu.of (eY hn _ _ hF),br.rep (eY hn) (fun a ha=>ia ha) ro⟩
end
section
variable {X:Cx} {o e:Expr} {pos apos:Pos} {fo:FE} {k n:Nat} {m:Str}
end
theorem SO.any {X:Cx} {e:Option Expr} {f:FO} (h:SO X e f):PO X e (fun σ H Q=>∃ F₀ H₀,tO X.K F₀ H₀ f σ H Q):=fun pins s σ H Q I ⟨F₀,H₀,q⟩=>h F₀ H₀ pins s σ H Q I q
section
variable {X:Cx} {x y:Nat} {e:Expr} {pos:Pos}
end
section
variable {K:PySem.W.Frag} {F₀ H₀ F H F' H':Hp} {σ σ':L2.St} {τ τ':aJ} {A:List Addr} {o:O} {v:V}
end
section
variable {X:Cx} {x y:Nat} {e:Expr} {pos:Pos}
end
open PySem PySem.Spec PyProof.Rows L2
section
variable {X:Cx} {es:List Expr} {pos:Pos}
def LY (K:PySem.W.Frag) (n:Nat) (t:Dk):TG:=fun v σ H Q=>∃ a xs,v=.ref a /\ iA K H a xs /\ xs.length=n /\ t xs σ H Q
theorem Ii {k:Nat} {t:Dk} {n:Nat} (hc:X.calm=true) (h:Ja X es t)
  (hn:(assignEach es X.env).length=n:=by rfl) (hst:(assignEach es X.env).findIdx? (·.1)=none:=by rfl):PG X (.Tuple es k pos) (LY X.K n t):=by
 intro pins s σ H v u Q I r hw
 obtain ⟨a,xs,e1,hq,hl,hw⟩:=hw
 subst e1
 cases r
 obtain ⟨its,rv,ht,hz⟩:=I.list hq
 rw [assign_Tuple]
 refine wpAny_bind (wpAny_standAt ?_)
 unfold unpack
 rw [hst,show (assignEach es X.env).length=its.toArray.size by simp [hn,<- hl,rv.length]]
 refine wpAny_bind (wpAny_holding (PySem.W.kun_itemsOf (I.ok.hd hc) ht.isList fun h' hx=>?_))
 have I1:Inv X pins σ H { s with heap:=h' }:=I.kept (t':=s.toks) fun b o e=>hx b o (Nat.ne_of_lt (Heap.lt_size e)) e
 exact h pins _ σ H xs _ Q I1 (by simpa using rv) hw
def Gb (gs:List T -> aJ -> Option aJ):FG:=fun t τ=>match t with
 | .lst ts=>gs ts τ
 | _=>none
theorem IC {gs:List T -> aJ -> Option aJ} {k:Nat} {n:Nat} (hc:X.calm=true) (h:Jb X es gs) (hl:∀ ts τ τ',gs ts τ=some τ' -> ts.length=n)
  (hn:(assignEach es X.env).length=n:=by rfl) (hst:(assignEach es X.env).findIdx? (·.1)=none:=by rfl):SG X (.Tuple es k pos) (Gb gs):=
 fun F₀ H₀ pins s σ H v u Q I r h'=>Ii hc (h F₀ H₀) hn hst pins s σ H v u Q I r (by
  obtain ⟨F,τ,t,τ',E,rt,e1,q⟩:=h'
  unfold Gb at e1
  split at e1
  ·next ts =>
   obtain ⟨p,xs,rfl,h1,h2⟩:=rt
   exact ⟨p,xs,rfl,iA.of (E.g.fh _ _ h1),by rw [h2.length]; exact hl _ _ _ e1,F,τ,ts,τ',E,h2,e1,q⟩
  ·cases e1)
def KZ (i j k:Nat) (ta:TA):TS:=fun D σ H=>ta σ H fun vs H1=>∃ v w z,vs=[v,w,z] /\ D.nx (((σ.set i (some v)).set j (some w)).set k (some z)) H1
theorem EG {i j k:Nat} {x y z:Str} {a b c:Expr} {ta:TA} {px py pz pt:Pos} {kt k2 pt2} (hc:X.calm=true) (hN:X.N.Nodup) (hi:X.N[i]? = some x) (hj:X.N[j]? = some y) (hk:X.N[k]? = some z) (hij:i ≠ j) (hik:i ≠ k) (hjk:j ≠ k)
  (hx:X.env.scope.names.lookup x=some .local) (hy:X.env.scope.names.lookup y=some .local) (hz:X.env.scope.names.lookup z=some .local) (ha:PA X [a,b,c] ta)
  (hw:swappedStores [.Tuple [.Name x px,.Name y py,.Name z pz] kt pt] (.Tuple [a,b,c] k2 pt2) X.env=pure (some [x,y,z]))
  (hs:swapsWithSole [.Tuple [.Name x px,.Name y py,.Name z pz] kt pt] (.Tuple [a,b,c] k2 pt2) pos.line X.env=pure false:=by rfl) :
  PS X (.Assign [.Tuple [.Name x px,.Name y py,.Name z pz] kt pt] (.Tuple [a,b,c] k2 pt2) pos) (KZ i j k ta):=by
 intro pins s σ H D I h
 rw [exec_Assign_arm]
 refine wpAny_bind (wpAny_standAt ?_)
 rw [hs]
 refine wpAny_bind (wpAny_pure ?_)
 rw [if_neg (by decide)]
 refine wpAny_bind (Tuple_ (dh (ha _ pins s σ H _ I h) fun us s1 ⟨vs,H1,I1,r1,q1⟩=>?_))
 obtain ⟨v,w,q,e1,q1⟩:=q1
 subst e1
 obtain ⟨u1,u2,u3,rfl,rv,rw',rq⟩:∃ u1 u2 u3,us=[u1,u2,u3] /\ RelV v u1 /\ RelV w u2 /\ RelV q u3:=by
  cases r1 with
  | cons p q =>
   cases q with
   | cons p' q' =>
    cases q' with
    | cons p'' q'' =>
     cases q''
     exact ⟨_,_,_,rfl,p,p',p''⟩
 refine wpAny_newObj_type ?_ (by show 3 ≤ sizeLine; decide)
 have I2:Inv X pins σ H1 { s1 with heap:=s1.heap.push { cls:=.type "tuple", data:=.seq [u1,u2,u3].toArray } }:=I1.kept (t':=s1.toks) fun b o e=>Heap.get?_push_of_some _ e
 rw [hw]
 refine wpAny_bind (wpAny_pure ?_)
 show wpAny (model X.prog X.w) X.A (do rule "assign.swapped-stores"; let items <- unpackItems (.ref s1.heap.objs.size) 3 none; assignInOrder [fun v=>bindName X.env z v,fun v=>bindName X.env y v,fun v=>bindName X.env x v] items.reverse; pure Flow.next) _ _ _
 refine wpAny_bind (wpAny_rule (wpAny_bind (unpackItems_tuple (items:=#[u1,u2,u3]) (I.ok.hd hc) (IsTup.new s1.heap _) fun h' hx'=>?_)))
 have I3:=I2.kept (h':=h') (t':=s1.toks) fun b o e=>hx' b o (Nat.ne_of_lt (Heap.lt_size e)) e
 show wpAny _ _ (assignInOrder [fun v=>bindName X.env z v,fun v=>bindName X.env y v,fun v=>bindName X.env x v] [u3,u2,u1] >>= fun _=>pure Flow.next) _ _ _
 refine wpAny_bind (assignInOrder_cons (wpAny_bindName (gd I3 hN hk (.inl hz) rq (fun s2 I4=>?_) (.inr hz))))
 refine assignInOrder_cons (wpAny_bindName (gd I4 hN hj (.inl hy) rw' (fun s3 I5=>?_) (.inr hy)))
 refine assignInOrder_cons (wpAny_bindName (gd I5 hN hi (.inl hx) rv (fun s4 I6=>assignInOrder_nil (wpAny_pure ?_)) (.inr hx)))
 rw [List.set_comm _ _ (Ne.symm hjk),List.set_comm _ _ (Ne.symm hik),List.set_comm _ _ (Ne.symm hij)] at I6
 exact ⟨_,H1,I6,q1⟩
def yY (i j k:Nat) (g:FA):FS:=fun τ=>(g τ).bind fun p=>match p.1 with
 | [t,u,v]=>some (.nx (((p.2.set i (some (.sh t))).set j (some (.sh u))).set k (some (.sh v))))
 | _=>none
theorem E5 {i j k:Nat} {x y z:Str} {a b c:Expr} {ga:FA} {px py pz pt:Pos} {kt k2 pt2} (hc:X.calm=true) (hN:X.N.Nodup) (hi:X.N[i]? = some x) (hj:X.N[j]? = some y) (hk:X.N[k]? = some z) (hij:i ≠ j) (hik:i ≠ k) (hjk:j ≠ k)
  (hx:X.env.scope.names.lookup x=some .local) (hy:X.env.scope.names.lookup y=some .local) (hz:X.env.scope.names.lookup z=some .local) (ha:SA X [a,b,c] ga)
  (hw:swappedStores [.Tuple [.Name x px,.Name y py,.Name z pz] kt pt] (.Tuple [a,b,c] k2 pt2) X.env=pure (some [x,y,z]))
  (hs:swapsWithSole [.Tuple [.Name x px,.Name y py,.Name z pz] kt pt] (.Tuple [a,b,c] k2 pt2) pos.line X.env=pure false:=by rfl) :
  SS X (.Assign [.Tuple [.Name x px,.Name y py,.Name z pz] kt pt] (.Tuple [a,b,c] k2 pt2) pos) (yY i j k ga):=fun F₀ H₀=>PS.weak (EG hc hN hi hj hk hij hik hjk hx hy hz (ha F₀ H₀) hw hs) fun D σ H hq__=>by
 obtain ⟨F,τ,r,E,e1,q⟩:=hq__
 obtain ⟨⟨ts,τ1⟩,e2,e1⟩:=bind_some e1
 dsimp only at e1
 split at e1
 ·next t u v =>
  cases e1
  refine ⟨F,τ,_,_,E,e2,fun F1 H1 vs E1 s1 r1=>?_⟩
  obtain ⟨v1,_,rfl,k1,v2,_,rfl,k2,v3,_,rfl,k3,rfl⟩:=r1
  exact ⟨v1,v2,v3,rfl,q F1 H1 _ (((E1.set k1).set k2).set k3) s1⟩
 ·cases e1
end
open PySem PySem.Spec PyProof.Rows L2
abbrev FX:=aJ -> Option (Addr × aJ)
def rB (b:Bool) (X:Cx) (pins:List (Addr × Obj)) (F₀ H₀ F:Hp) (C:Addr) (τ':aJ) (e:Value) (s':Shared):Prop:=
 ∃ σ' F' H',((b=true /\ Made X pins σ' H' C e s') \/ GD X pins σ' H' C e s') /\ aI X.K F₀ H₀ F' H' σ' τ' /\ aQ F F'
def Ld (b:Bool) (X:Cx) (e:Expr) (fx:FX):Prop:=∀ F₀ H₀ pins s σ H F τ C τ',Inv X pins σ H s -> aI X.K F₀ H₀ F H σ τ -> fx τ=some (C,τ') -> wpAny (model X.prog X.w) X.A (eval e X.env) (fun _ _=>False) (rB b X pins F₀ H₀ F C τ') s
def SX (b:Bool) (X:Cx) (st:Stmt) (fx:FX):Prop:=∀ F₀ H₀ pins s σ H F τ C τ',Inv X pins σ H s -> aI X.K F₀ H₀ F H σ τ -> fx τ=some (C,τ') -> wpAny (model X.prog X.w) X.A (exec st X.env) (fun _ _=>False) (rB b X pins F₀ H₀ F C τ') s
def Ao (b:Bool) (X:Cx) (ss:List Stmt) (fx:FX):Prop:=∀ F₀ H₀ pins s σ H F τ C τ',Inv X pins σ H s -> aI X.K F₀ H₀ F H σ τ -> fx τ=some (C,τ') -> wpAny (model X.prog X.w) X.A (execs ss X.env) (fun _ _=>False) (rB b X pins F₀ H₀ F C τ') s
theorem rB.of {b:Bool} {X:Cx} {pins:List (Addr × Obj)} {F₀ H₀ F F1:Hp} {C:Addr} {τ':aJ} {e:Value} {s':Shared} (s:aQ F F1) (p:rB b X pins F₀ H₀ F1 C τ' e s'):rB b X pins F₀ H₀ F C τ' e s':=by
 obtain ⟨σ',F',H',z,E,s2⟩:=p
 exact ⟨σ',F',H',z,E,s.trans s2⟩
theorem rB.any {X:Cx} {pins:List (Addr × Obj)} {F₀ H₀ F:Hp} {C:Addr} {τ':aJ} {e:Value} {s':Shared} (p:rB false X pins F₀ H₀ F C τ' e s'):rB true X pins F₀ H₀ F C τ' e s':=by
 obtain ⟨σ',F',H',z,E,s2⟩:=p
 rcases z with ⟨z,_⟩ | z
 ·cases z
 ·exact ⟨σ',F',H',.inr z,E,s2⟩
def Mm (K:PySem.W.Frag) (n:Nat) (dx:List T -> Option Addr):Sp:=fun vs H _ E=>vs.length=n /\ ∃ F ts C,aQ F H /\ aV K F ts vs /\ dx ts=some C /\ ∀ e F' H',bx F H F' H' -> E e (some C) H'
structure ot (P:Program) (w:World) (K:PySem.W.Frag) (mg:Str -> Option Value) (base:Heap) (k:Nat) (x:Str) (n:Nat) (dx:List T -> Option Addr):Prop where
 ex:∃ f fd ps,fJ P w K mg base (IW P w) k f fd ps (Mm K n dx) /\ Binds K fd ps [] /\ PySem.W.keepIn K (.ref f)=true /\ mg x=some (.ref f) /\ ps.length=n
def LU (dx:List T -> Option Addr):List T -> Option Addr
 | .ptr _ :: ts=>dx ts
 | _=>none
structure lE (P:Program) (w:World) (K:PySem.W.Frag) (mg:Str -> Option Value) (base:Heap) (k:Nat) (x:Str) (C:Addr) (n:Nat) (dx:List T -> Option Addr):Prop where
 ex:∃ j f fd ps,k=j + 1 /\ Mk K C f /\ fJ P w K mg base (IW P w) j f fd ps (Mm K (n + 1) (LU dx)) /\ Binds K fd ps [] /\ mg x=some (.ref C) /\ ps.length=n + 1
section
variable {P:Program} {w:World} {K:PySem.W.Frag} {mg:Str -> Option Value} {base:Heap} {j k n:Nat} {x:Str} {C:Addr} {dx:List T -> Option Addr}
theorem ot.mono (D:ot P w K mg base j x n dx) (h:j ≤ k):ot P w K mg base k x n dx:=by
 obtain ⟨f,fd,ps,F,r⟩:=D.ex
 exact ⟨f,fd,ps,F.mono h,r⟩
theorem lE.mono (D:lE P w K mg base j x C n dx) (h:j ≤ k):lE P w K mg base k x C n dx:=by
 obtain ⟨i,f,fd,ps,e,M,F,r⟩:=D.ex
 exact ⟨k - 1,f,fd,ps,by omega,M,F.mono (by omega),r⟩
end
section
variable {X:Cx} {e:Expr} {es:List Expr} {pos:Pos} {g:FA} {b:Bool}
def gh (dx:List T -> Option Addr) (g:FA):FX:=fun τ=>(g τ).bind fun p=>(dx p.1).bind fun C=>some (C,p.2)
theorem zX {k n:Nat} {x:Str} {p:Pos} {dx:List T -> Option Addr} (hx:∀ e s,X.xe e s -> False) (D:ot X.prog X.w X.K X.mg X.base k x n dx) (hr:dz k X.A) (hg:Gl X x) (ha:SA X (e :: es) g) (hl:∀ τ ts τ',g τ=some (ts,τ') -> ts.length=n) (hdb:(x == ("__debug__" : Str))=false:=by decide)
  (he:starEach (e :: es) X.env=(false,eval e X.env) :: starEach es X.env:=by rfl) (hpl:(backTo pos (starEach es X.env)).any (·.1)=false:=by rfl):Ld b X (.Call (.Name x p) (e :: es) [] pos) (gh dx g):=by
 obtain ⟨f,fd,ps,Fk,hb,hk,hm,hn⟩:=D.ex
 intro F₀ H₀ pins s σ H F τ C τ' I E e1
 obtain ⟨⟨ts,τ1⟩,e2,e1⟩:=bind_some e1
 obtain ⟨C',e3,e1⟩:=bind_some e1
 cases e1
 have hlen:=hl _ _ _ e2
 refine wpAny_Call_Name_kw (iX I hg hm ?_ hdb)
 refine PySem.W.callWith_K (h₀:=X.base) I.ok.mod.kin hk (wpAny_mono (ha F₀ H₀ pos pins s σ H (fun vs H1=>∃ F1,aI X.K F₀ H₀ F1 H1 σ τ1 /\ aQ F F1 /\ aV X.K F1 ts vs) I ⟨F,τ,ts,τ1,E,e2,fun F1 H1 vs E1 s1 r1=>⟨F1,E1,s1,r1⟩⟩) (fun us s1 z=>?_) fun e s z=>False.elim (hx e s z)) he hpl
 obtain ⟨vs,H1,I1,r,F1,E1,sF,r1⟩:=z
 refine ⟨I1.kIn,?_⟩
 have hvl:vs.length=n:=by rw [r1.length]; exact hlen
 have hul:(us ++ []).length=ps.length:=by rw [List.append_nil,<- r.length,hvl,hn]
 refine wpAny_call (codeAny_mono (Fk.run X.A X.stack s1 H1 ⟨[] ++ us,[]⟩ (us ++ []) (vs ++ []) (fun _ _=>False) (fun _ oc H'=>oc=some C /\ ∃ F',aI X.K F₀ H₀ F' H' σ τ1 /\ aQ F F') hr I1.env0 (hb s1 us I1.kIn hul) (r.append .nil) ⟨by rw [List.append_nil]; exact hvl,F1,ts,C,E1.g.fh,by rw [List.append_nil]; exact r1,e3,fun e F' H' gr=>⟨rfl,F',E1.grow gr,sF.trans gr.sF⟩⟩) fun rr s' hq=>?_)
 cases rr with
 | error ev =>
  obtain ⟨a,C2,H',rfl,fl,ec,F',E2,s2⟩:=hq
  cases ec
  exact ⟨σ,F',H',.inr ⟨a,s1,H1,rfl,I1,fl⟩,E2,s2⟩
 | ok fl =>
  cases fl with
  | ret u=>obtain ⟨v,H',_,_,_,_,_,q⟩:=hq; exact q.elim
  | next=>exact False.elim hq
  | brk=>exact False.elim hq
  | cont=>exact False.elim hq
theorem zY {k n:Nat} {x:Str} {p:Pos} {C0:Addr} {dx:List T -> Option Addr} (hx:∀ e s,X.xe e s -> False) (D:lE X.prog X.w X.K X.mg X.base k x C0 n dx) (hr:dz k X.A) (hg:Gl X x) (ha:SA X (e :: es) g) (hl:∀ τ ts τ',g τ=some (ts,τ') -> ts.length=n) (hdb:(x == ("__debug__" : Str))=false:=by decide)
  (he:starEach (e :: es) X.env=(false,eval e X.env) :: starEach es X.env:=by rfl) (hpl:(backTo pos (starEach es X.env)).any (·.1)=false:=by rfl):Ld b X (.Call (.Name x p) (e :: es) [] pos) (gh dx g):=by
 obtain ⟨j,f,fd,ps,hj,M,Fk,hb,hm,hn⟩:=D.ex
 subst hj
 intro F₀ H₀ pins s σ H F τ C τ' I E e1
 obtain ⟨⟨ts,τ1⟩,e2,e1⟩:=bind_some e1
 obtain ⟨C',e3,e1⟩:=bind_some e1
 cases e1
 have hlen:=hl _ _ _ e2
 refine wpAny_Call_Name_kw (iX I hg hm ?_ hdb)
 refine PySem.W.callWith_K (h₀:=X.base) I.ok.mod.kin M.kp (wpAny_mono (ha F₀ H₀ pos pins s σ H (fun vs H1=>∃ F1,aI X.K F₀ H₀ F1 H1 σ τ1 /\ aQ F F1 /\ aV X.K F1 ts vs) I ⟨F,τ,ts,τ1,E,e2,fun F1 H1 vs E1 s1 r1=>⟨F1,E1,s1,r1⟩⟩) (fun us s1 z=>?_) fun e s z=>False.elim (hx e s z)) he hpl
 obtain ⟨vs,H1,I1,r,F1,E1,sF,r1⟩:=z
 refine ⟨I1.kIn,?_⟩
 have hvl:vs.length=n:=by rw [r1.length]; exact hlen
 have I2:=Inv.made (C:=C0) I1
 have n1:H1 s1.heap.objs.size=none:=I1.hok.fresh (Nat.le_refl _)
 have n2:H1 (s1.heap.objs.size + 1)=none:=I1.hok.fresh (Nat.le_succ _)
 have sm:aQ H1 (upd (upd H1 s1.heap.objs.size (.own (s1.heap.objs.size + 1))) (s1.heap.objs.size + 1) (.ins C0 s1.heap.objs.size [])):=fun c o q=>by
  rw [aK (bA q n2),aK (bA q n1)]
  exact q
 have r2:Vals (V.ref (s1.heap.objs.size + 1) :: (vs ++ [])) (Value.ref (s1.heap.objs.size + 1) :: (us ++ [])):=.cons rfl (r.append .nil)
 have hul:(Value.ref (s1.heap.objs.size + 1) :: us ++ []).length=ps.length:=by
  rw [List.append_nil,List.length_cons,<- r.length,hvl,hn]
 have hbb:=hb _ (Value.ref (s1.heap.objs.size + 1) :: us) I2.kIn hul
 rw [List.cons_append] at hbb
 refine wpAny_call (vM (f:=f) I1.kIn M.makes M.init (beq_iff_eq.mp M.fn) (codeAny_mono (Fk.run _ X.stack _ _ ⟨Value.ref (s1.heap.objs.size + 1) :: us,[]⟩ (Value.ref (s1.heap.objs.size + 1) :: (us ++ [])) (V.ref (s1.heap.objs.size + 1) :: (vs ++ [])) (fun _ _=>False) (fun _ oc H'=>oc=some C /\ ∃ F',aI X.K F₀ H₀ F' H' σ τ1 /\ aQ F F') (hr.make C0 us [])
  (I2.env0.make C0 us []) hbb r2 ⟨by rw [List.append_nil,List.length_cons,hvl],F1,.ptr (s1.heap.objs.size + 1) :: ts,C,fun c o q=>sm c o (E1.g.fh c o q),by rw [List.append_nil]; exact ⟨_,_,rfl,rfl,r1⟩,e3,fun e F' H' gr=>⟨rfl,F',E1.grow ⟨gr.sF,fun c o q=>gr.sH c o (sm c o q),gr.fh,fun c o q=>?_⟩,sF.trans gr.sF⟩⟩) fun rr s' hq=>?_))
 ·rcases gr.nw c o q with q | q
  ·exact .inl q
  ·refine .inr ?_
   cases z:H1 c with
   | none=>rfl
   | some o'=>rw [sm c o' z] at q; cases q
 cases rr with
 | error ev =>
  obtain ⟨a,C2,H',rfl,fl,ec,F',E2,s2⟩:=hq
  cases ec
  exact ⟨σ,F',H',.inr ⟨a,_,_,rfl,I2,fl⟩,E2,s2⟩
 | ok fl =>
  cases fl with
  | ret u=>obtain ⟨v,H',_,_,_,_,_,q⟩:=hq; exact q.elim
  | next=>exact False.elim hq
  | brk=>exact False.elim hq
  | cont=>exact False.elim hq
theorem CW {fx:FX} (h:Ld b X e fx):SX b X (.Return (some e) pos) fx:=fun F₀ H₀ pins s σ H F τ C τ' I E e1=>wpAny_Return_some (wpAny_mono (h F₀ H₀ pins s σ H F τ C τ' I E e1) (fun _ _ z=>z.elim) fun _ _ z=>z)
theorem CV {tg:Expr} {fx:FX} (h:Ld b X e fx) (hs:swapsWithSole [tg] e pos.line X.env=pure false:=by rfl) (hw:swappedStores [tg] e X.env=pure none:=by rfl):SX b X (.Assign [tg] e pos) fx:=fun F₀ H₀ pins s σ H F τ C τ' I E e1 =>
 wpAny_Assign_stores (wpAny_mono (h F₀ H₀ pins s σ H F τ C τ' I E e1) (fun _ _ z=>z.elim) fun _ _ z=>z) hs hw
def mD (c:FT) (f1 f2:FX):FX:=fun τ=>(c τ).bind fun p=>if p.1=true then f1 p.2 else f2 p.2
def xg:FX:=fun _=>none
theorem uy {ss:List Stmt}:Ao b X ss xg:=fun F₀ H₀ pins s σ H F τ C τ' I E e1=>by cases e1
theorem wy {c:Expr} {tc:FT} {as bs:List Stmt} {f1 f2:FX} (hx:∀ e s,X.xe e s -> False) (hc:ST X c tc) (h1:Ao b X as f1) (h2:Ao b X bs f2):SX b X (.If c as bs pos) (mD tc f1 f2):=fun F₀ H₀ pins s σ H F τ C τ' I E e1=>by
 obtain ⟨⟨c0,τ1⟩,e2,e1⟩:=bind_some e1
 refine wpAny_If (wpAny_mono (hc F₀ H₀ pins s σ H (fun d H1=>d=c0 /\ ∃ F1,aI X.K F₀ H₀ F1 H1 σ τ1 /\ aQ F F1) I ⟨F,τ,c0,τ1,E,e2,fun F1 H1 E1 s1=>⟨rfl,F1,E1,s1⟩⟩) (fun d s1 z=>?_) fun e s z=>False.elim (hx e s z))
 obtain ⟨H1,I1,rfl,F1,E1,sF⟩:=z
 dsimp only at e1
 cases d with
 | true =>
  rw [if_pos rfl] at e1
  exact wpAny_mono (h1 F₀ H₀ pins s1 σ H1 F1 τ1 C τ' I1 E1 e1) (fun _ _ z=>z.elim) fun _ _ z=>z.of sF
 | false =>
  rw [if_neg Bool.false_ne_true] at e1
  exact wpAny_mono (h2 F₀ H₀ pins s1 σ H1 F1 τ1 C τ' I1 E1 e1) (fun _ _ z=>z.elim) fun _ _ z=>z.of sF
theorem du {st:Stmt} {rest:List Stmt} {fx:FX} (h:SX b X st fx):Ao b X (st :: rest) fx:=fun F₀ H₀ pins s σ H F τ C τ' I E e1 =>
 wpAny_execs_cons (wpAny_mono (h F₀ H₀ pins s σ H F τ C τ' I E e1) (fun _ _ z=>z.elim) fun _ _ z=>z)
def eX (f:FS) (fx:FX):FX:=fun τ=>(f τ).bind fun r=>match r with
 | .nx τ1=>fx τ1
 | _=>none
theorem fF {st:Stmt} {rest:List Stmt} {f:FS} {fx:FX} (hx:∀ e s,X.xe e s -> False) (h1:SS X st f) (h2:Ao b X rest fx):Ao b X (st :: rest) (eX f fx):=fun F₀ H₀ pins s σ H F τ C τ' I E e1=>by
 obtain ⟨r,e2,e1⟩:=bind_some e1
 cases r with
 | nx τ1 =>
  refine wpAny_execs_cons (wpAny_mono (h1 F₀ H₀ pins s σ H { nx:=fun σ1 H1=>∃ F1,aI X.K F₀ H₀ F1 H1 σ1 τ1 /\ aQ F F1,rt:=fun _ _=>False } I ⟨F,τ,.nx τ1,E,e2,fun F1 H1 σ1 E1 s1=>⟨F1,E1,s1⟩⟩) (fun fl s1 z=>?_) fun e s z=>False.elim (hx e s z))
  cases fl with
  | next =>
   obtain ⟨σ1,H1,I1,F1,E1,sF⟩:=z
   exact wpAny_mono (h2 F₀ H₀ pins s1 σ1 H1 F1 τ1 C τ' I1 E1 e1) (fun _ _ z=>z.elim) fun _ _ z=>z.of sF
  | ret v=>obtain ⟨_,_,_,_,_,z⟩:=z; exact z.elim
  | brk=>obtain ⟨_,_,_,z⟩:=z; exact z.elim
  | cont=>obtain ⟨_,_,_,z⟩:=z; exact z.elim
 | rt t=>cases e1
 | bk t=>cases e1
 | ct t=>cases e1
def mE (f1 f2:FX):FX:=fun τ=>match f1 τ with
 | some z=>some z
 | none=>f2 τ
theorem yk {ss:List Stmt} {f1 f2:FX} (h1:Ao b X ss f1) (h2:Ao b X ss f2):Ao b X ss (mE f1 f2):=fun F₀ H₀ pins s σ H F τ C τ' I E e1=>by
 unfold mE at e1
 split at e1
 ·next z e2=>cases e1; exact h1 F₀ H₀ pins s σ H F τ C τ' I E e2
 ·exact h2 F₀ H₀ pins s σ H F τ C τ' I E e1
def jG (C:Addr) (g:FA):FX:=fun τ=>(g τ).bind fun p=>if p.1.length ≤ 1000 then some (C,p.2) else none
theorem md {C0:Addr} {up:List Addr} {x:Str} {np cpos:Pos} (hc:X.calm=true) (hx:∀ e s,X.xe e s -> False) (Er:lB X.K C0 up) (hg:Gl X x) (hm:X.mg x=some (.ref C0)) (ha:SA X [e] g) (hdb:(x == ("__debug__" : Str))=false:=by decide)
  (he:starEach [e] X.env=(false,eval e X.env) :: starEach [] X.env:=by rfl):SX true X (.Raise (some (.Call (.Name x np) [e] [] cpos)) none pos) (jG C0 g):=fun F₀ H₀ pins s σ H F τ C τ' I E e1=>by
 obtain ⟨⟨ts,τ1⟩,e2,e1⟩:=bind_some e1
 dsimp only at e1
 split at e1
 ·next hl =>
  cases e1
  exact CJ hc hx Er hg hm (ha F₀ H₀) I ⟨F,τ,ts,_,E,e2,fun F1 H1 vs E1 s1 r1=>⟨by rw [r1.length]; exact Nat.le_of_lt (L2.iL hl),fun h' a s2 args I2 hm'=>⟨σ,F1,H1,.inl ⟨rfl,a,s2.heap,args,rfl,I2,hm'⟩,E1,s1⟩⟩⟩ hdb he
 ·cases e1
end
open PySem PySem.Spec PyProof.Rows L2
def uU (m n:Nat) (fx:FX):List T -> Option Addr:=fun ts=>if ts.length=n then (fx (ts.map (fun t=>some (Sl.sh t)) ++ List.replicate (m - n) none)).bind fun p=>some p.1 else none
section
variable {P:Program} {w:World} {K:PySem.W.Frag} {mg:Str -> Option Value} {base:Heap}
theorem BJ {x qual:Str} {st:Stmt} {f:Addr} {fd:FuncData} {N ps:List Str} {k:Nat} {fx:FX} {dx:List T -> Option Addr} (F:eJ K x qual st f fd) (S:aP N ps (aA st))
  (hd:∀ ts C,dx ts=some C -> ts.length=ps.length -> ∃ τ',fx (ts.map (fun t=>some (Sl.sh t)) ++ List.replicate (N.length - ps.length) none)=some (C,τ'))
  (h:∀ (cdv:Value) (A:Around) (outer:List Env) (s:Shared) (H:Hp) (E:XK),dz k (A.deeper (envOfC qual (aA st) s.heap.objs.size f cdv)) -> Ao true (lI (IW P w) P w K mg base N qual (aA st) f cdv A outer s H E).nox (dk st) fx) :
  fJ P w K mg base (IW P w) (k + 1) f fd ps (Mm K ps.length dx):=by
 obtain ⟨oc,od,kV,doc,pm,an,cdv,ct,osl,rfl,lk,hcd⟩:=F.ex
 refine F9 lk hcd S (fun vs H Q E z=>z.1) fun A outer s H vs Q E hr z=>?_
 obtain ⟨hl,F1,ts,C,sm,r,e,q⟩:=z
 obtain ⟨τ',e1⟩:=hd ts C e (by rw [<- r.length]; exact hl)
 refine ⟨fun _ σ1 H1=>∃ τ,aI K F1 H F1 H1 σ1 τ /\ fx τ=some (C,τ'),?_,?_⟩
 ·intro pins s1 σ1 H1 D I z
  obtain ⟨τ,E1,e2⟩:=z
  refine wpAny_mono (h cdv A outer s H E hr F1 H pins s1 σ1 H1 F1 τ C τ' (I.wish _) E1 e2) (fun _ _ z=>z.elim) fun ev s2 z=>?_
  obtain ⟨σ2,F2,H2,z,E2,_⟩:=z
  rcases z with ⟨_,z⟩ | z
  ·refine wpAny_mono (xJ (E:=fun _ _=>False) rfl rfl rfl z) (fun _ s3 z=>?_) fun _ _ z=>z.elim
   obtain ⟨a,rfl,fl⟩:=z
   exact ⟨a,C,H2,rfl,fl,q _ F2 H2 E2.g⟩
  ·refine wpAny_mono (xI (E:=fun _ _=>False) rfl rfl rfl z) (fun _ s3 z=>?_) fun _ _ z=>z.elim
   obtain ⟨a,rfl,fl⟩:=z
   exact ⟨a,C,H2,rfl,fl,q _ F2 H2 E2.g⟩
 ·refine ⟨_,?_,e1⟩
  have:=gF (N:=N) sm r
  rw [show ts.length=ps.length by rw [<- r.length]; exact hl] at this
  exact this
theorem yQ {x qual:Str} {st:Stmt} {f:Addr} {fd:FuncData} {N ps:List Str} {k:Nat} {fx:FX} (F:eJ K x qual st f fd) (S:aP N ps (aA st)) (hb:Binds K fd ps []) (hm:mg x=some (.ref f))
  (h:∀ (cdv:Value) (A:Around) (outer:List Env) (s:Shared) (H:Hp) (E:XK),dz k (A.deeper (envOfC qual (aA st) s.heap.objs.size f cdv)) -> Ao true (lI (IW P w) P w K mg base N qual (aA st) f cdv A outer s H E).nox (dk st) fx) :
  ot P w K mg base (k + 1) x ps.length (uU N.length ps.length fx):=by
 refine ⟨f,fd,ps,BJ F S (fun ts C e hl=>?_) h,hb,F.kp,hm,rfl⟩
 unfold uU at e
 rw [if_pos hl] at e
 obtain ⟨⟨C',τ'⟩,e1,e⟩:=bind_some e
 cases e
 exact ⟨τ',e1⟩
open Classical in
def GW (m n:Nat) (fx:FX):List T -> Option Addr:=fun ts=>if h:∃ C,ts.length=n /\ ∀ x:Addr,∃ τ',fx (some (.sh (.ptr x)) :: (ts.map (fun t=>some (Sl.sh t)) ++ List.replicate (m - (n + 1)) none))=some (C,τ') then some h.choose else none
theorem GX {m n:Nat} {fx:FX} {ts:List T} {C:Addr} (hl:ts.length=n) (h:∀ x:Addr,∃ τ',fx (some (.sh (.ptr x)) :: (ts.map (fun t=>some (Sl.sh t)) ++ List.replicate (m - (n + 1)) none))=some (C,τ')):GW m n fx ts=some C:=by
 have hh:∃ C,ts.length=n /\ ∀ x:Addr,∃ τ',fx (some (.sh (.ptr x)) :: (ts.map (fun t=>some (Sl.sh t)) ++ List.replicate (m - (n + 1)) none))=some (C,τ'):=⟨C,hl,h⟩
 unfold GW
 rw [dif_pos hh]
 obtain ⟨τ1,e1⟩:=hh.choose_spec.2 0
 obtain ⟨τ2,e2⟩:=h 0
 rw [e1] at e2
 cases e2
 rfl
theorem BX {x cx qual:Str} {st:Stmt} {f C:Addr} {fd:FuncData} {N ps:List Str} {k n:Nat} {fx:FX} (F:eJ K x qual st f fd) (S:aP N ps (aA st)) (hb:Binds K fd ps []) (M:Mk K C f) (hm:mg cx=some (.ref C)) (hn:ps.length=n + 1)
  (h:∀ (cdv:Value) (A:Around) (outer:List Env) (s:Shared) (H:Hp) (E:XK),dz k (A.deeper (envOfC qual (aA st) s.heap.objs.size f cdv)) -> Ao true (lI (IW P w) P w K mg base N qual (aA st) f cdv A outer s H E).nox (dk st) fx) :
  lE P w K mg base (k + 2) cx C n (GW N.length n fx):=by
 refine ⟨k + 1,f,fd,ps,rfl,M,?_,hb,hm,hn⟩
 have z:=BJ (P:=P) (w:=w) (mg:=mg) (base:=base) (k:=k) (dx:=LU (GW N.length n fx)) F S (fun ts C e hl=>?_) h
 ·rw [hn] at z
  exact z
 ·unfold LU at e
  split at e
  ·next a ts =>
   unfold GW at e
   split at e
   ·next hh =>
    cases e
    have:=hh.choose_spec.2 a
    rw [hn]
    exact this
   ·cases e
  ·cases e
end
theorem aI.del {K:PySem.W.Frag} {F₀ H₀ F H:Hp} {σ:L2.St} {τ:aJ} {i:Nat} (E:aI K F₀ H₀ F H σ τ):aI K F₀ H₀ F H (σ.set i none) (τ.set i none):=by
 have key:∀ (j:Nat) (s:Sl),(τ.set i none)[j]? = some (some s) -> j ≠ i /\ τ[j]? = some (some s):=fun j s e=>by
  have hj:j ≠ i:=fun z=>by
   rw [z] at e
   by_cases hi:i < τ.length
   ·rw [List.getElem?_set_self hi] at e; cases e
   ·rw [List.getElem?_eq_none (by rw [List.length_set]; omega)] at e; cases e
  rw [List.getElem?_set_ne (Ne.symm hj)] at e
  exact ⟨hj,e⟩
 refine ⟨E.g,by rw [List.length_set,List.length_set]; exact E.len,fun j s e=>?_,fun j l ts us p hjl e1 e2 e3=>?_⟩
 ·obtain ⟨hj,e⟩:=key j s e
  obtain ⟨v,h1,h2⟩:=E.sl j s e
  exact ⟨v,by rw [List.getElem?_set_ne (Ne.symm hj)]; exact h1,h2⟩
 ·obtain ⟨hj,e1⟩:=key j _ e1
  obtain ⟨hl,e2⟩:=key l _ e2
  rw [List.getElem?_set_ne (Ne.symm hj)] at e3
  rw [List.getElem?_set_ne (Ne.symm hl)]
  exact E.dj j l ts us p hjl e1 e2 e3
def vf (iE:Nat) (tbl:List Addr) (fb:FS) (fx:FX) (fh:FS):FS:=fun τ=>match fb τ with
 | some r=>some r
 | none=>(fx τ).bind fun p=>if p.1 ∈ tbl then (fh (p.2.set iE (some (.sh (.exc p.1))))).bind fun r=>match r with
  | .nx τ2=>some (.nx (τ2.set iE none))
  | .rt t=>some (.rt t)
  | _=>none else none
section
variable {X:Cx} {pos:Pos}
theorem IH {body suite:List Stmt} {b₀:Stmt} {x n:Str} {np hpos:Pos} {D:Addr} {bD:List Value} {iE:Nat} {tbl:List Addr} {fb fh:FS} {fx:FX} (hx:∀ e s,X.xe e s -> False) (hst:X.stack=X.env :: X.outer) (hf:X.env.frame=some X.env.locals) (hN:X.N.Nodup) (hi:X.N[iE]? = some n)
  (hl:X.env.scope.names.lookup n=some .local) (hlo:X.env.kindOf n=some .local) (hg:Gl X x) (hm:X.mg x=some (.ref D)) (cD:iB X.K D bD) (hbD:bD.contains (.type "BaseException")=true) (ht:∀ C ∈ tbl,∃ up,lB X.K C up /\ (D=C \/ D ∈ up))
  (hb:wF X body fb) (hxb:Ao false X body fx) (hh:∀ a,wF (X.inS (.ref a)) (b₀ :: suite) fh) (hdb:(x == ("__debug__" : Str))=false:=by decide) :
  SS X (.Try body [.ExceptHandler (some (.Name x np)) (some n) (b₀ :: suite) hpos] [] [] pos) (vf iE tbl fb fx fh):=by
 intro F₀ H₀ pins s σ H Dn I z
 obtain ⟨F,τ,r,E,e1,q⟩:=z
 unfold vf at e1
 split at e1
 ·next r' eb =>
  cases e1
  refine wpAny_Try_except (wpAny_mono (hb F₀ H₀ pins s σ H Dn I ⟨F,τ,_,E,eb,q⟩) (fun f s1 z=>?_) fun e s z=>False.elim (hx e s z))
  cases f with
  | next =>
   obtain ⟨σ',H',I',z⟩:=z
   exact ud pins s1 σ' H' Dn I' z
  | ret v=>exact z
  | brk=>exact z
  | cont=>exact z
 ·obtain ⟨⟨C,τ1⟩,ex,e1⟩:=bind_some e1
  dsimp only at e1
  split at e1
  ·next hC =>
   obtain ⟨r',eh,e1⟩:=bind_some e1
   obtain ⟨up,cC,hD⟩:=ht C hC
   refine wpAny_Try_except (wpAny_mono (hxb F₀ H₀ pins s σ H F τ C τ1 I E ex) (fun _ _ z=>z.elim) fun ev s1 z=>?_)
   obtain ⟨σ',F',H',z,E2,sF⟩:=z
   rcases z with ⟨z,_⟩ | z
   ·cases z
   refine wO hst hf z cC cD hbD hD hg hm hN hi hl hlo (fun a s2 na I2=>?_) hdb
   have nF:F' a=none:=E2.g.fh.free na
   have gr:bx F' H' (upd F' a (.ext (iD a C))) (upd H' a (.ext (iD a C))):=⟨fun c o e=>by rw [aK (bA e nF)]; exact e,fun c o e=>by rw [aK (bA e na)]; exact e,fun c o e=>by
    by_cases hc:c=a
    ·rw [hc] at e ⊢
     rw [aU] at e ⊢
     exact e
    ·rw [aK hc] at e ⊢
     exact E2.g.fh _ _ e,fun c o e=>by
    by_cases hc:c=a
    ·exact .inr (by rw [hc]; exact na)
    ·rw [aK hc] at e
     exact .inl e⟩
   have E3:aI X.K F₀ H₀ (upd F' a (.ext (iD a C))) (upd H' a (.ext (iD a C))) (σ'.set iE (some (.ref a))) (τ1.set iE (some (.sh (.exc C)))):=(E2.grow gr).set (t:=.exc C) ⟨a,rfl,aU⟩
   refine hh a F₀ H₀ pins s2 _ _ (Dn.gone iE) I2 ⟨_,_,r',E3,eh,?_⟩
   cases r' with
   | nx τ2 =>
    cases e1
    exact fun F3 H3 σ3 E4 s4=>q F3 H3 (σ3.set iE none) E4.del (sF.trans (gr.sF.trans s4))
   | rt t =>
    cases e1
    exact q
   | bk τ2=>cases e1
   | ct τ2=>cases e1
  ·cases e1
end
structure An (K:PySem.W.Frag) (Ct C:Addr) (b:Bool):Prop where
 ex:∃ bm,wH K C bm
 kit:PySem.W.kitOne K (.ref C) (.ref Ct)=some b
section
variable {X:Cx} {e:Expr} {pos:Pos}
theorem Aw {Ct:Addr}:gp X (.builtin "isinstance") (fun xs H Q=>∃ a C b,xs=[.ref a,.ref Ct] /\ H a=some (.ext (iD a C)) /\ An X.K Ct C b /\ Q (.bl b) H):=by
 intro pins s σ H xs us Q I r h
 obtain ⟨a,C,b,rfl,ea,ok,q⟩:=h
 obtain ⟨u1,u2,rfl,ra,rb⟩:=Vals.two r
 cases (show u2=Value.ref Ct from rb)
 cases (show u1=Value.ref a from ra)
 obtain ⟨bm,ax⟩:=ok.ex
 obtain ⟨ph,_⟩:=(show fu X.prog X.w H s.heap a (.ext (iD a C)) from I.hok a _ ea)
 exact PySem.W.kia_one (B5 ax) I.kIn ph ok.kit (fun z=>nomatch z) fun tk=>⟨.bl b,H,I.tok tk,rfl,q⟩
def kB (tbl:List (Addr × Bool)) (fe:FE):FE:=fun τ=>(fe τ).bind fun p=>match p.1 with
 | .exc C=>(findB C tbl).bind fun b=>some (.bl b,p.2)
 | _=>none
theorem zN {Ct:Addr} {x:Str} {p p':Pos} {fe:FE} {tbl:List (Addr × Bool)} (ht:∀ a ∈ tbl,An X.K Ct a.1 a.2) (hg:Gl X "isinstance") (hm:X.mg "isinstance" = none) (hgx:Gl X x) (hmx:X.mg x=some (.ref Ct)) (he:SE X e fe)
  (hs:starEach [e,.Name x p] X.env=(false,eval e X.env) :: starEach [.Name x p] X.env:=by rfl) (hs2:starEach [.Name x p] X.env=(false,eval (.Name x p) X.env) :: starEach [] X.env:=by rfl) (hpl:(backTo pos (starEach [.Name x p] X.env)).any (·.1)=false:=by rfl) (hdx:(x == ("__debug__" : Str))=false:=by decide) :
  SE X (.Call (.Name "isinstance" p') [e,.Name x p] [] pos) (kB tbl fe):=fun F₀ H₀ =>
 PE.weak (vX Aw hg hm (show bootBuiltins "isinstance" = some (.builtin "isinstance") from rfl) (nZ (he F₀ H₀) (nZ (uc (v:=.ref Ct) hgx hmx rfl hdx) yc hs2) hs) (by decide) (by decide) hs hpl) fun σ H Q h=>by
  obtain ⟨F,τ,t,τ',E,e1,q⟩:=h
  obtain ⟨⟨y,τ1⟩,e2,e1⟩:=bind_some e1
  dsimp only at e1
  split at e1
  ·next C =>
   obtain ⟨b,e3,e1⟩:=bind_some e1
   cases e1
   refine ⟨F,τ,_,_,E,e2,fun F1 H1 v E1 s1 r1=>?_⟩
   obtain ⟨a,rfl,h1⟩:=r1
   exact ⟨a,C,b,rfl,E1.g.fh _ _ h1,ht _ (qQ e3),q F1 H1 _ E1 s1 rfl⟩
  ·cases e1
end
open PySem PySem.Spec PyProof.Rows L2
section
variable {X:Cx} {es:List Expr} {pos:Pos}
def kE (gs:List T -> aJ -> Option aJ):FG:=fun t τ=>match t with
 | .lst ts=>gs ts τ
 | .tup ts=>gs ts τ
 | _=>none
theorem lj {gs:List T -> aJ -> Option aJ} {k:Nat} {n:Nat} (hc:X.calm=true) (h:Jb X es gs) (hl:∀ ts τ τ',gs ts τ=some τ' -> ts.length=n)
  (hn:(assignEach es X.env).length=n:=by rfl) (hst:(assignEach es X.env).findIdx? (·.1)=none:=by rfl):SG X (.Tuple es k pos) (kE gs):=by
 intro F₀ H₀ pins s σ H v u Q I r h'
 obtain ⟨F,τ,t,τ',E,rt,e1,q⟩:=h'
 cases t with
 | lst ts=>exact IC hc h hl hn hst F₀ H₀ pins s σ H v u Q I r ⟨F,τ,.lst ts,τ',E,rt,e1,q⟩
 | tup ts=>exact cW hc h hl hn hst F₀ H₀ pins s σ H v u Q I r ⟨F,τ,.tup ts,τ',E,rt,e1,q⟩
 | _=>cases e1
end
def Fx (K:PySem.W.Frag) (C:Addr) (bm:List Value):Bool:=match K.lookup C with
 | some ⟨.type t,_,.cls ⟨_,_,mro,N,_,_,_,_,_,_,hd⟩,⟨[_,_,_,_,some (.builtin nid),_]⟩⟩=>t == "type" && decide (mro=.ref C :: bm) && !hd && nid == "ValueError.__new__" && (match K.lookup N with
  | some ⟨_,_,.dict es _,_⟩=>es.all (fun e=>match e.key with | .str _ _=>true | _=>false) && (nsFind es "__init__").isNone
  | _=>false)
 | _=>false
theorem iB.of {K:PySem.W.Frag} {C:Addr} {bm:List Value} (h:Fx K C bm=true):iB K C bm:=by
 unfold Fx at h
 split at h
 ·next t dd nm bs mro N q hdct sn sub ab col hd k0 k1 k2 k3 nid k5 e1 =>
  simp only [Bool.and_eq_true,beq_iff_eq,decide_eq_true_eq,Bool.not_eq_true'] at h
  obtain ⟨⟨⟨⟨rfl,rfl⟩,rfl⟩,rfl⟩,h⟩:=h
  split at h
  ·next c d es ep sl e2 =>
   simp only [Bool.and_eq_true,Option.isNone_iff_eq_none] at h
   exact ⟨N,nm,q,bs,hdct,sn,sub,ab,col,_,k0,k1,k2,k3,k5,_,es,ep,e1,e2,rfl,h.1,h.2⟩
  ·cases h
 ·cases h
end TM
namespace Qm
abbrev iC (a b:Int):Prop:=Int.gcd a b=1
theorem rR {a b:Int} (h:Nat.Coprime a.natAbs b.natAbs):iC a b:=h
theorem iC.symm {a b:Int} (h:iC a b):iC b a:=by unfold iC; rw [Int.gcd_comm]; exact h
theorem iC.mulL {a b c:Int} (h:iC a c) (h':iC b c):iC (a * b) c:=rR (by rw [Int.natAbs_mul]; exact Nat.Coprime.mul_left h h')
theorem iC.mulR {a b c:Int} (h:iC c a) (h':iC c b):iC c (a * b):=rR (by rw [Int.natAbs_mul]; exact Nat.Coprime.mul_right h h')
theorem iC.dvdL {a b c:Int} (h:iC b c) (d:a ∣ b):iC a c:=rR (Nat.Coprime.coprime_dvd_left (Int.natAbs_dvd_natAbs.mpr d) h)
theorem iC.dvdR {a b c:Int} (h:iC c b) (d:a ∣ b):iC c a:=rR (Nat.Coprime.coprime_dvd_right (Int.natAbs_dvd_natAbs.mpr d) h)
theorem iC.addL {a b c:Int} (h:iC a c):iC (a + b * c) c:=by unfold iC; rw [Int.gcd_add_mul_right_left]; exact h
theorem split {a b:Int} (h:b ≠ 0):∃ x y:Int,a=(Int.gcd a b:Int) * x /\ b=(Int.gcd a b:Int) * y /\ iC x y /\ (Int.gcd a b:Int) ≠ 0:=by
 have hg:(Int.gcd a b:Int) ≠ 0:=by
  intro z
  have:Int.gcd a b=0:=by omega
  rw [Int.gcd_eq_zero_iff] at this
  exact h this.2
 obtain ⟨x,hx⟩:=Int.gcd_dvd_left a b
 obtain ⟨y,hy⟩:=Int.gcd_dvd_right a b
 refine ⟨x,y,hx,hy,?_,hg⟩
 have e:Int.gcd a b=Int.gcd a b * Int.gcd x y:=by
  have:=Int.gcd_mul_left (Int.gcd a b:Int) x y
  rw [<- hx,<- hy] at this
  simpa using this
 have hp:0 < Int.gcd a b:=by omega
 have:=Nat.eq_of_mul_eq_mul_left hp (show Int.gcd a b * Int.gcd x y=Int.gcd a b * 1 by omega)
 exact this
theorem eN {a g x:Int} (h:a=g * x) (hg:g ≠ 0):a.fdiv g=x:=by rw [h]; exact Int.mul_fdiv_cancel_left x hg
theorem Im {a b c d:Int} (hb:0 < b) (hd:0 < d) (h1:iC a b) (h2:iC c d) (s top low:Int) (es:s=Int.gcd b d) (et:top=a * d.fdiv s + c * b.fdiv s) (el:low=Int.gcd top s) :
  top.fdiv low=(a * d + c * b).fdiv (Int.gcd (a * d + c * b) (b * d)) /\ b.fdiv s * d.fdiv low=(b * d).fdiv (Int.gcd (a * d + c * b) (b * d)) /\ s ≠ 0 /\ low ≠ 0:=by
 obtain ⟨x,y,hx,hy,hc,hs⟩:=split (a:=b) (b:=d) (by omega)
 rw [<- es] at hx hy hs
 have ex:b.fdiv s=x:=eN hx hs
 have ey:d.fdiv s=y:=eN hy hs
 rw [ex,ey] at et
 have cx:iC top x:=by
  have q1:iC (a * y) x:=iC.mulL (h1.dvdR ⟨s,by rw [hx,Int.mul_comm]⟩) hc.symm
  have q2:=q1.addL (b:=c)
  rw [<- et] at q2
  exact q2
 have cy:iC top y:=by
  have q1:iC (c * x) y:=iC.mulL (h2.dvdR ⟨s,by rw [hy,Int.mul_comm]⟩) hc
  have q2:=q1.addL (b:=a)
  rw [Int.add_comm,<- et] at q2
  exact q2
 obtain ⟨u,v,hu,hv,_,hl⟩:=split (a:=top) (b:=s) hs
 rw [<- el] at hu hv hl
 have e1:a * d + c * b=s * top:=by
  rw [et]
  calc a * d + c * b=a * (s * y) + c * (s * x):=by rw [<- hx,<- hy]
   _=s * (a * y + c * x):=by rw [Int.mul_add,Int.mul_left_comm,Int.mul_left_comm c]
 have e2:b * d=s * (x * (y * s)):=by
  calc b * d=(s * x) * (s * y):=by rw [<- hx,<- hy]
   _=s * (x * (y * s)):=by rw [Int.mul_assoc,Int.mul_comm y s]
 have sp:0 ≤ s:=by rw [es]; omega
 have lp:0 ≤ low:=by rw [el]; omega
 have eg:((Int.gcd (a * d + c * b) (b * d):Nat):Int)=s * low:=by
  rw [e1,e2,Int.gcd_mul_left]
  have k1:Int.gcd top (x * (y * s))=Int.gcd top s:=by
   show Nat.gcd top.natAbs (x * (y * s)).natAbs=Nat.gcd top.natAbs s.natAbs
   rw [Int.natAbs_mul,Int.natAbs_mul,Nat.Coprime.gcd_mul_left_cancel_right _ (Nat.Coprime.symm cx),Nat.Coprime.gcd_mul_left_cancel_right _ (Nat.Coprime.symm cy)]
  rw [k1,el]
  push_cast
  rw [Int.natAbs_of_nonneg sp]
 have hsl:s * low ≠ 0:=Int.mul_ne_zero hs hl
 have tl:top.fdiv low=u:=eN hu hl
 have dl:d.fdiv low=v * y:=eN (by rw [hy,hv,Int.mul_assoc]) hl
 refine ⟨?_,?_,hs,hl⟩
 ·rw [eg,tl,e1]
  exact (eN (by rw [Int.mul_assoc,<- hu]) hsl).symm
 ·rw [eg,ex,dl,e2]
  refine (eN ?_ hsl).symm
  calc s * (x * (y * s))=s * (x * (y * (low * v))):=by rw [<- hv]
   _=s * low * (x * (v * y)):=by
    rw [Int.mul_assoc s low]
    congr 1
    rw [Int.mul_left_comm y low v,Int.mul_left_comm x low,Int.mul_comm y v]
theorem Fb {a b c d:Int} (hb:0 < b) (hd:0 < d) (h1:iC a b) (h2:iC c d) (l r:Int) (el:l=Int.gcd a d) (er:r=Int.gcd c b) :
  a.fdiv l * c.fdiv r=(a * c).fdiv (Int.gcd (a * c) (b * d)) /\ b.fdiv r * d.fdiv l=(b * d).fdiv (Int.gcd (a * c) (b * d)) /\ l ≠ 0 /\ r ≠ 0:=by
 obtain ⟨a',d',ha,hd',c1,hl⟩:=split (a:=a) (b:=d) (by omega)
 obtain ⟨c',b',hc,hb',c2,hr⟩:=split (a:=c) (b:=b) (by omega)
 rw [<- el] at ha hd' hl
 rw [<- er] at hc hb' hr
 have k:iC (a' * c') (b' * d'):=by
  have ab:iC a' b':=(h1.dvdL ⟨l,by rw [Int.mul_comm]; exact ha⟩).dvdR ⟨r,by rw [Int.mul_comm]; exact hb'⟩
  have cd:iC c' d':=(h2.dvdL ⟨r,by rw [Int.mul_comm]; exact hc⟩).dvdR ⟨l,by rw [Int.mul_comm]; exact hd'⟩
  exact iC.mulR (iC.mulL ab c2) (iC.mulL c1 cd)
 have e1:a * c=l * r * (a' * c'):=by
  calc a * c=(l * a') * (r * c'):=by rw [<- ha,<- hc]
   _=l * r * (a' * c'):=by rw [Int.mul_assoc,Int.mul_left_comm a' r c',Int.mul_assoc]
 have e2:b * d=l * r * (b' * d'):=by
  calc b * d=(r * b') * (l * d'):=by rw [<- hb',<- hd']
   _=l * r * (b' * d'):=by rw [Int.mul_assoc,Int.mul_left_comm b' l d',<- Int.mul_assoc,Int.mul_comm r l]
 have lp:0 ≤ l:=by rw [el]; omega
 have rp:0 ≤ r:=by rw [er]; omega
 have eg:((Int.gcd (a * c) (b * d):Nat):Int)=l * r:=by
  rw [e1,e2,Int.gcd_mul_left,k]
  push_cast
  rw [Int.mul_one,Int.natAbs_of_nonneg (Int.mul_nonneg lp rp)]
 have hlr:l * r ≠ 0:=Int.mul_ne_zero hl hr
 refine ⟨?_,?_,hl,hr⟩
 ·rw [eg,eN ha hl,eN hc hr]
  exact (eN e1 hlr).symm
 ·rw [eg,eN hb' hr,eN hd' hl]
  exact (eN e2 hlr).symm
end Qm
namespace Rq
def DD (k:Nat):Nat:=27720 ^ k
theorem dZ (k:Nat):0 < DD k:=Nat.pow_pos (by decide)
theorem oq (k j:Nat):DD (k + j)=DD k * DD j:=Nat.pow_add _ _ _
def Lq (k m:Nat) (q:Rat):Prop:=∃ n:Int,q=Rat.divInt n (DD k:Int) /\ n.natAbs ≤ m * DD k
theorem Lq.zero (k:Nat):Lq k 0 0:=⟨0,by rw [Rat.zero_divInt],by simp⟩
theorem qO (k:Nat):((DD k:Nat):Int) ≠ 0:=by have:=dZ k; omega
theorem Lq.add {k m m':Nat} {x y:Rat} (hx:Lq k m x) (hy:Lq k m' y):Lq k (m + m') (x + y):=by
 obtain ⟨a,rfl,ha⟩:=hx
 obtain ⟨b,rfl,hb⟩:=hy
 refine ⟨a + b,?_,?_⟩
 ·rw [Rat.divInt_add_divInt _ _ (qO k) (qO k),<- Int.add_mul,Rat.divInt_mul_right (qO k)]
 ·rw [Nat.add_mul]
  have:=Int.natAbs_add_le a b
  omega
theorem Lq.mul {k k' m m':Nat} {x y:Rat} (hx:Lq k m x) (hy:Lq k' m' y):Lq (k + k') (m * m') (x * y):=by
 obtain ⟨a,rfl,ha⟩:=hx
 obtain ⟨b,rfl,hb⟩:=hy
 refine ⟨a * b,?_,?_⟩
 ·rw [Rat.divInt_mul_divInt,oq]
  push_cast
  rfl
 ·rw [Int.natAbs_mul,oq]
  calc a.natAbs * b.natAbs ≤ (m * DD k) * (m' * DD k'):=Nat.mul_le_mul ha hb
   _=m * m' * (DD k * DD k'):=by rw [Nat.mul_mul_mul_comm]
theorem Lq.mono {k m m':Nat} {x:Rat} (hx:Lq k m x) (h:m ≤ m'):Lq k m' x:=by
 obtain ⟨a,rfl,ha⟩:=hx
 exact ⟨a,rfl,Nat.le_trans ha (Nat.mul_le_mul_right _ h)⟩
theorem Lq.bd {k m:Nat} {x:Rat} (hx:Lq k m x):x.num.natAbs ≤ m * DD k /\ x.den ∣ DD k:=by
 obtain ⟨a,rfl,ha⟩:=hx
 have hp:=dZ k
 rw [Rat.num_divInt,Rat.den_divInt,if_neg (qO k)]
 have hs:((DD k:Nat):Int).sign=1:=Int.sign_eq_one_of_pos (by omega)
 rw [hs,Int.one_mul]
 constructor
 ·rw [Int.natAbs_ediv_of_dvd (Int.gcd_dvd_right _ _)]
  exact Nat.le_trans (Nat.div_le_self _ _) ha
 ·rw [Int.natAbs_natCast]
  exact Nat.div_dvd_of_dvd (by have:=Int.gcd_dvd_left ((DD k:Nat):Int) a; exact Int.natCast_dvd_natCast.mp this)
theorem Lq.small {a b:Int} (ha:a.natAbs ≤ 9) (hb:0 < b) (hb':b ≤ 12):Lq 1 9 (Rat.divInt a b):=by
 have hd:b ∣ ((DD 1:Nat):Int):=by
  have e:((DD 1:Nat):Int)=27720:=by decide
  rw [e]
  have:b=1 \/ b=2 \/ b=3 \/ b=4 \/ b=5 \/ b=6 \/ b=7 \/ b=8 \/ b=9 \/ b=10 \/ b=11 \/ b=12:=by omega
  rcases this with rfl | rfl | rfl | rfl | rfl | rfl | rfl | rfl | rfl | rfl | rfl | rfl <;> decide
 obtain ⟨c,hc⟩:=hd
 have hc0:c ≠ 0:=fun z=>by rw [z,Int.mul_zero] at hc; exact qO 1 hc
 refine ⟨a * c,?_,?_⟩
 ·rw [hc,Rat.divInt_mul_right hc0]
 ·rw [Int.natAbs_mul]
  have h1:c.natAbs ≤ DD 1:=by
   have:((DD 1:Nat):Int).natAbs=b.natAbs * c.natAbs:=by rw [hc,Int.natAbs_mul]
   rw [Int.natAbs_natCast] at this
   rw [this]
   exact Nat.le_mul_of_pos_left _ (by omega)
  exact Nat.mul_le_mul ha h1
def wsum (r s:List Rat):Rat:=(List.zipWith (· * ·) r s).foldl (· + ·) 0
theorem foldl_add (l:List Rat):∀ a:Rat,l.foldl (· + ·) a=a + l.foldl (· + ·) 0:=by
 induction l with
 | nil=>intro a; rw [List.foldl_nil,List.foldl_nil,Rat.add_zero]
 | cons x l ih =>
  intro a
  rw [List.foldl_cons,List.foldl_cons,ih (a + x),ih (0 + x),Rat.zero_add,Rat.add_assoc]
theorem bS (x y:Rat) (r s:List Rat):wsum (x :: r) (y :: s)=x * y + wsum r s:=by
 unfold wsum
 rw [List.zipWith_cons_cons,List.foldl_cons,foldl_add,Rat.zero_add]
theorem Ai {k k' m m':Nat}:∀ {r s:List Rat},(∀ x ∈ r,Lq k m x) -> (∀ y ∈ s,Lq k' m' y) -> Lq (k + k') (r.length * (m * m')) (wsum r s)
 | [],s,_,_=>by
  have:wsum [] s=0:=by unfold wsum; rw [List.zipWith_nil_left]; rfl
  rw [this,List.length_nil,Nat.zero_mul]
  exact Lq.zero _
 | x :: r,[],h1,h2=>by
  have:wsum (x :: r) []=0:=by unfold wsum; rw [List.zipWith_nil_right]; rfl
  rw [this]
  exact (Lq.zero _).mono (Nat.zero_le _)
 | x :: r,y :: s,h1,h2=>by
  rw [bS,List.length_cons,Nat.add_mul,Nat.one_mul,Nat.add_comm (r.length * (m * m'))]
  exact ((h1 x List.mem_cons_self).mul (h2 y List.mem_cons_self)).add (Ai (fun z hz=>h1 z (List.mem_cons_of_mem _ hz)) (fun z hz=>h2 z (List.mem_cons_of_mem _ hz)))
theorem rk {D E:Int} (hD:D ≠ 0) (hE:E ≠ 0):∀ (a b:List Int),wsum (a.map fun n=>Rat.divInt n D) (b.map fun n=>Rat.divInt n E)=Rat.divInt (List.zipWith (· * ·) a b).sum (D * E)
 | [],b=>by
  unfold wsum
  rw [List.map_nil,List.zipWith_nil_left,List.zipWith_nil_left,List.sum_nil,Rat.zero_divInt]
  rfl
 | x :: a,[]=>by
  unfold wsum
  rw [List.map_nil,List.zipWith_nil_right,List.zipWith_nil_right,List.sum_nil,Rat.zero_divInt]
  rfl
 | x :: a,y :: b=>by
  rw [List.map_cons,List.map_cons,bS,rk hD hE a b,List.zipWith_cons_cons,List.sum_cons,Rat.divInt_mul_divInt]
  have hDE:D * E ≠ 0:=Int.mul_ne_zero hD hE
  rw [Rat.divInt_add_divInt _ _ hDE hDE,<- Int.add_mul,Rat.divInt_mul_right hDE]
def gL (B:List (List Rat)) (j:Nat):List Rat:=B.map fun r=>r.getD j 0
def ky (r:List Rat) (B:List (List Rat)) (w:Nat):List Rat:=(List.range w).map fun j=>wsum r (gL B j)
def mulM (A B:List (List Rat)) (w:Nat):List (List Rat):=A.map fun r=>ky r B w
theorem dv (s:List Rat):wsum [] s=0:=by unfold wsum; rw [List.zipWith_nil_left]; rfl
theorem jh:∀ (n:Nat) (c:List Rat),wsum (List.replicate n 0) c=0
 | 0,c=>dv c
 | n + 1,[]=>by unfold wsum; rw [List.zipWith_nil_right]; rfl
 | n + 1,y :: c=>by rw [List.replicate_succ,bS,jh n c,Rat.zero_mul,Rat.zero_add]
theorem jg (x:Rat):∀ (b c:List Rat),wsum (b.map (x * ·)) c=x * wsum b c
 | [],c=>by rw [List.map_nil,dv,Rat.mul_zero]
 | y :: b,[]=>by
  have z:∀ l:List Rat,wsum l []=0:=fun l=>by unfold wsum; rw [List.zipWith_nil_right]; rfl
  rw [z,z,Rat.mul_zero]
 | y :: b,w :: c=>by rw [List.map_cons,bS,bS,jg x b c,Rat.mul_add,Rat.mul_assoc]
theorem wc (r:List Rat) (B:List (List Rat)) (w:Nat):(ky r B w).length=w:=by unfold ky; simp
def Sq (n:Nat) (A:List (List Rat)):Prop:=A.length=n /\ ∀ r ∈ A,r.length=n
theorem Sq.mul {n:Nat} {A B:List (List Rat)} (hA:Sq n A):Sq n (mulM A B n):=by
 refine ⟨by unfold mulM; rw [List.length_map]; exact hA.1,fun r hr=>?_⟩
 obtain ⟨a,_,rfl⟩:=List.mem_map.mp hr
 exact wc _ _ _
end Rq
namespace Dt
abbrev Row:=Nat -> Int
abbrev Fn:=List Nat -> Int
def E (x:Row):Fn -> List Nat -> Int
 | _,[]=>0
 | D,c :: cs=>x c * D cs - E x (fun l=>D (c :: l)) cs
def det:List Row -> Fn
 | []=>fun cs=>if cs=[] then 1 else 0
 | x :: R=>fun cs=>E x (det R) cs
def Alt (D:Fn):Prop:=∀ pre a b cs,D (pre ++ a :: b :: cs) = - D (pre ++ b :: a :: cs)
theorem Alt.tl {D:Fn} (h:Alt D) (c:Nat):Alt (fun l=>D (c :: l)):=fun pre a b cs=>h (c :: pre) a b cs
def F (f:Row -> Int):(List Row -> Int) -> List Row -> Int
 | _,[]=>0
 | G,x :: R=>f x * G R - F f (fun S=>G (x :: S)) R
def Lk (cs:List Nat) (f:Row -> Int):Prop:=∃ ws:List (Int × Nat),(∀ w ∈ ws,w.2 ∈ cs) /\ ∀ x,f x=(ws.map fun w=>w.1 * x w.2).foldr (· + ·) 0
theorem Lk.zero (cs:List Nat):Lk cs (fun _=>0):=⟨[],(fun _ h=>by cases h),fun _=>rfl⟩
theorem Lk.col {cs:List Nat} {c:Nat} (h:c ∈ cs):Lk cs (fun x=>x c):=⟨[(1,c)],(fun w hw=>by rw [List.mem_singleton.mp hw]; exact h),fun x=>by simp⟩
theorem Lk.more {cs ds:List Nat} {f:Row -> Int} (h:Lk cs f) (hs:∀ c ∈ cs,c ∈ ds):Lk ds f:=by
 obtain ⟨ws,h1,h2⟩:=h
 exact ⟨ws,fun w hw=>hs _ (h1 w hw),h2⟩
theorem Lk.congr {cs:List Nat} {f g:Row -> Int} (h:Lk cs f) (e:∀ x,g x=f x):Lk cs g:=by rw [funext e]; exact h
def left (R:List Row) (ps:List Nat) (x:Row):Row:=fun j=>det (x :: R) (j :: ps)
inductive Sp:List Row -> Row -> Prop
 | nil {x:Row} (h:∀ c,x c=0):Sp [] x
 | cons {w:Row} {W:List Row} {x y:Row} (a:Int) (h:∀ c,x c=a * w c + y c) (hy:Sp W y):Sp (w :: W) x
theorem Sp.zero:∀ (W:List Row),Sp W (fun _=>0)
 | []=>.nil fun _=>rfl
 | w :: W=>.cons 0 (fun c=>by omega) (Sp.zero W)
def rw (l:List Int):Row:=fun j=>l.getD j 0
def Gk (w:Nat) (R:List Row) (ps:List Nat) (x:Row):List Int:=(List.range w).map (left R ps x)
inductive Ch (w:Nat):List Row -> List Nat -> List (Nat × List Int) -> Prop
 | nil:Ch w [] [] []
 | cons {R:List Row} {ps:List Nat} {kr:List (Nat × List Int)} {x:Row} {p:Nat} (h:Ch w R ps kr) (hp:p < w) (hn:left R ps x p ≠ 0):Ch w (x :: R) (p :: ps) ((p,Gk w R ps x) :: kr)
theorem Ch.det {w:Nat} {R:List Row} {ps:List Nat} {kr:List (Nat × List Int)}:Ch w R ps kr -> det R ps ≠ 0
 | .nil=>by decide
 | .cons h hp hn=>hn
theorem Ch.ps {w:Nat} {R:List Row} {ps:List Nat} {kr:List (Nat × List Int)}:Ch w R ps kr -> ∀ p ∈ ps,p < w
 | .nil,_,h=>by cases h
 | .cons h hp hn,q,hq=>by
  rcases List.mem_cons.mp hq with rfl | hq
  ·exact hp
  ·exact h.ps q hq
theorem Ch.len {w:Nat} {R:List Row} {ps:List Nat} {kr:List (Nat × List Int)}:Ch w R ps kr -> R.length=kr.length /\ ps.length=kr.length
 | .nil=>⟨rfl,rfl⟩
 | .cons h hp hn=>by have:=h.len; simp only [List.length_cons]; omega
def Fp (w:Nat) (r:Row) (l:Row):Prop:=∃ a b:Int,a ≠ 0 /\ b ≠ 0 /\ ∀ j < w,a * r j=b * l j
theorem Fp.zero {w:Nat} {r l:Row} (h:Fp w r l) {j:Nat} (hj:j < w):r j=0 ↔ l j=0:=by
 obtain ⟨a,b,ha,hb,e⟩:=h
 have ej:=e j hj
 constructor
 ·intro h0
  rw [h0,Int.mul_zero] at ej
  rcases Int.mul_eq_zero.mp ej.symm with z | z
  ·exact absurd z hb
  ·exact z
 ·intro h0
  rw [h0,Int.mul_zero] at ej
  rcases Int.mul_eq_zero.mp ej with z | z
  ·exact absurd z ha
  ·exact z
def fp (w:Nat) (x:Row):Option Nat:=(List.range w).find? fun j=>x j != 0
def fr (w:Nat):List Row -> Nat -> List Row -> List Nat -> List Nat
 | [],_,_,_=>[]
 | x :: rest,i,R,ps=>match fp w (left R ps x) with
  | none=>fr w rest (i + 1) R ps
  | some p=>i :: fr w rest (i + 1) (x :: R) (p :: ps)
theorem index {α:Type} {l:List α}:∀ {S:List α},(∀ x ∈ S,x ∈ l) -> ∀ d,∃ is:List Nat,(∀ i ∈ is,i < l.length) /\ S=is.map fun i=>l.getD i d
 | [],_,d=>⟨[],(fun _ h=>by cases h),rfl⟩
 | x :: S,h,d=>by
  obtain ⟨is,h1,h2⟩:=index (S:=S) (fun y hy=>h y (List.mem_cons_of_mem _ hy)) d
  obtain ⟨i,hi,e⟩:=List.getElem_of_mem (h x List.mem_cons_self)
  refine ⟨i :: is,fun j hj=>?_,?_⟩
  ·rcases List.mem_cons.mp hj with rfl | hj
   ·exact hi
   ·exact h1 j hj
  ·rw [List.map_cons,<- h2,List.getD_eq_getElem?_getD,List.getElem?_eq_getElem hi,e]; rfl
inductive Fw (w:Nat):List Row -> List Nat -> List (Nat × List Int) -> List Row -> List Nat -> Prop
 | nil {R:List Row} {ps:List Nat}:Fw w R ps [] R ps
 | cons {R R':List Row} {ps ps':List Nat} {ks:List (Nat × List Int)} {x:Row} {p:Nat} (hp:p < w) (hn:left R ps x p ≠ 0) (h:Fw w (x :: R) (p :: ps) ks R' ps'):Fw w R ps ((p,Gk w R ps x) :: ks) R' ps'
end Dt
namespace Dq
abbrev Row:=Nat -> Rat
abbrev Fn:=List Nat -> Rat
def E (x:Row):Fn -> List Nat -> Rat
 | _,[]=>0
 | D,c :: cs=>x c * D cs - E x (fun l=>D (c :: l)) cs
def det:List Row -> Fn
 | []=>fun cs=>if cs=[] then 1 else 0
 | x :: R=>fun cs=>E x (det R) cs
def Alt (D:Fn):Prop:=∀ pre a b cs,D (pre ++ a :: b :: cs) = - D (pre ++ b :: a :: cs)
theorem Alt.tl {D:Fn} (h:Alt D) (c:Nat):Alt (fun l=>D (c :: l)):=fun pre a b cs=>h (c :: pre) a b cs
def F (f:Row -> Rat):(List Row -> Rat) -> List Row -> Rat
 | _,[]=>0
 | G,x :: R=>f x * G R - F f (fun S=>G (x :: S)) R
def sm (cs:List Nat) (f:Nat -> Rat):Rat:=(cs.map f).foldr (· + ·) 0
theorem IF (f:Nat -> Rat):sm [] f=0:=rfl
theorem kq (c:Nat) (cs:List Nat) (f:Nat -> Rat):sm (c :: cs) f=f c + sm cs f:=rfl
theorem CS (a b:Rat) (f g:Nat -> Rat):∀ cs,sm cs (fun k=>a * f k + b * g k)=a * sm cs f + b * sm cs g
 | []=>by simp only [IF]; grind
 | c :: cs=>by rw [kq,kq,kq,CS a b f g cs]; grind
theorem oj:∀ cs,sm cs (fun _=>0)=0
 | []=>rfl
 | c :: cs=>by rw [kq,oj cs]; grind
theorem pJ {f g:Nat -> Rat}:∀ {cs:List Nat},(∀ k ∈ cs,f k=g k) -> sm cs f=sm cs g
 | [],_=>rfl
 | c :: cs,h=>by rw [kq,kq,h c List.mem_cons_self,pJ fun k hk=>h k (List.mem_cons_of_mem _ hk)]
end Dq
namespace Dt
def ins (a:Nat):List Nat -> List Nat
 | []=>[a]
 | b :: l=>if b < a then b :: ins a l else a :: b :: l
inductive Up:List Nat -> Prop
 | nil:Up []
 | cons {a:Nat} {l:List Nat} (h:∀ b ∈ l,a ≤ b) (u:Up l):Up (a :: l)
theorem zp {a:Nat}:∀ {l:List Nat} {x:Nat},x ∈ ins a l ↔ x=a \/ x ∈ l
 | [],x=>by simp [ins]
 | b :: l,x=>by
  unfold ins
  split
  ·rw [List.mem_cons,zp,List.mem_cons]
   grind
  ·simp
theorem Up.ins {a:Nat}:∀ {l:List Nat},Up l -> Up (ins a l)
 | [],_=>.cons (fun _ h=>by cases h) .nil
 | b :: l,.cons h u=>by
  unfold Dt.ins
  split
  ·next hb =>
   refine .cons (fun x hx=>?_) u.ins
   rcases zp.mp hx with rfl | hx
   ·omega
   ·exact h x hx
  ·next hb =>
   refine .cons (fun x hx=>?_) (.cons h u)
   rcases List.mem_cons.mp hx with rfl | hx
   ·omega
   ·have:=h x hx
    omega
def put (ps:List Nat) (c p:Nat):List Nat:=ps.map fun q=>if q=p then c else q
end Dt
namespace My
open PySem PySem.Spec PyProof.Rows L2 TM
def top (i:Nat):Stmt:=PySem.Challenge.pw_echohouse_k41_in_a_row_and_beside.main.body.getD i (.Pass ⟨0,0,0,0⟩)
section
variable {P:Program} {w:World} {K:PySem.W.Frag} {mg:Str -> Option Value} {base:Heap} {k:Nat} {f:Addr} {fd:FuncData}
abbrev pw:Stmt:=top 10
def oA (n:Nat) (d_half:List T -> Option T):FS:=
  (aO (jF 0 1 (aa (ak uR (aa (ag 0) ai)) (aa (ak uR (aa (ag 1) ai)) ai)))
  (aO (eV (dJ (aF qT (uF jl (ag 1)) (fC (.int 4000)))) (aO (jF 0 1 (aa (ag 1) (aa (aF df (ag 0) (ag 1)) ai)))
  (bG (dJ (aF qT (uF jl (ag 1)) (fC (.int 4000)))) (dY (ak d_half (aa (ag 0) (aa (ag 1) ai))) (cm (aB (aq 0) (aB (aq 1) (aB (aq 2) bO))))) bp)) n)
  (aO (eV (dJ (aF jI (ag 1) (fC (.int 0)))) (jF 0 1 (aa (ag 1) (aa (aF df (ag 0) (ag 1)) ai))) n)
  (bz (ag 0)))))
theorem fR:aP ["one", "other", "factors"] ["one", "other"] (aA pw):=by walk_at "sc"
theorem AR {d_half:List T -> Option T} {t_SHORT:Tok} (n:Nat) (F:eJ K "common" "common" pw f fd) (hb:Binds K fd ["one", "other"] []) (hm:mg "common" = some (.ref f)) (D_half:Def P w K mg base k "half" 2 d_half) (m_abs:mg "abs" = none) (g_SHORT:mg "SHORT" = some (.int 4000 t_SHORT)) :
  Def P w K mg base (k + 1) "common" 2 (cz 3 2 (oA n d_half)):=
 bH F fR hb hm fun cdv A outer s H E hr=>(av (kc rfl fR.nd rfl rfl (by decide) rfl rfl (ae (bf rS rfl m_abs rfl (ae (af 0 (pv 0)) aj)) (ae (bf rS rfl m_abs rfl (ae (af 1 (pv 1)) aj)) aj)) rfl)
  (av (pM n PassesOwn.never (bX pf (ko (af 1 (pv 1))) (gX rfl g_SHORT) (bB _)) (av (kc rfl fR.nd rfl rfl (by decide) rfl rfl (ae (af 1 (pv 1)) (ae (aN dS (af 0 (pv 0)) (af 1 (pv 1))) aj)) rfl)
  (aE (cZ (bX pf (ko (af 1 (pv 1))) (gX rfl g_SHORT) (bB _)) (aE (dF (aw D_half hr rfl (ae (af 0 (pv 0)) (ae (af 1 (pv 1)) aj)) (ah (ah au))) (cW rfl (aD (az 0 fR.nd rfl (Or.inl rfl)) (aD (az 1 fR.nd rfl (Or.inl rfl)) (aD (az 2 fR.nd rfl (Or.inl rfl)) bU))) (aG (aG (aG cq)))))) bW))))
  (av (pM n PassesOwn.never (bX (iK hr.units) (af 1 (pv 1)) ar (bB _)) (aE (kc rfl fR.nd rfl rfl (by decide) rfl rfl (ae (af 1 (pv 1)) (ae (aN dS (af 0 (pv 0)) (af 1 (pv 1))) aj)) rfl)))
  (aE (aZ (af 0 (pv 0)))))))
abbrev Iy:Stmt:=top 11
abbrev kZ:Stmt:=top 20
def kM:FS:=
  (bz (eW (ak bN (aa (ag 0) (aa (fC (.ty "int")) ai))) (uF DP (ak bN (aa (ag 0) (aa (fC (.ty "bool")) ai))))))
theorem wm:aP ["thing"] ["thing"] (aA kZ):=by walk_at "sc"
theorem vW (F:eJ K "is_whole" "is_whole" kZ f fd) (hb:Binds K fd ["thing"] []) (hm:mg "is_whole" = some (.ref f)) (m_int:mg "int" = none) (m_isinstance:mg "isinstance" = none) (m_bool:mg "bool" = none) :
  Def P w K mg base (k + 1) "is_whole" 1 (cz 1 1 (kM)):=
 bH F wm hb hm fun cdv A outer s H E hr=>(aE (aZ (gk (bf jC rfl m_isinstance rfl (ae (af 0 (pv 0)) (ae (nj rfl m_int rfl) aj))) (mT (IA (bf jC rfl m_isinstance rfl (ae (af 0 (pv 0)) (ae (nj rfl m_bool rfl) aj))))))))
abbrev iu:Stmt:=top 21
def ig (d_is_whole d_common:List T -> Option T):FS:=
  (aO (bG (qd (eu (eR (ak bN (aa (ag 0) (aa (fC (.ty "tuple")) ai))))) (dJ (aF jI (ak cM (aa (ag 0) ai)) (fC (.int 2))))) (bz (fC (.bl false))) bp)
  (aO (dY (ag 0) (cm (aB (aq 1) (aB (aq 2) bO))))
  (bz (eW (ak d_is_whole (aa (ag 1) ai)) (eW (ak d_is_whole (aa (ag 2) ai)) (eW (aF LX (ag 2) (fC (.int 1))) (aF fX (ak d_common (aa (ag 1) (aa (ag 2) ai))) (fC (.int 1)))))))))
theorem gT:aP ["thing", "top", "bottom"] ["thing"] (aA iu):=by walk_at "sc"
theorem pe {d_is_whole:List T -> Option T} {d_common:List T -> Option T} (F:eJ K "is_fraction" "is_fraction" iu f fd) (hb:Binds K fd ["thing"] []) (hm:mg "is_fraction" = some (.ref f)) (D_is_whole:Def P w K mg base k "is_whole" 1 d_is_whole) (D_common:Def P w K mg base k "common" 2 d_common) (m_tuple:mg "tuple" = none) (m_isinstance:mg "isinstance" = none) (m_len:mg "len" = none) :
  Def P w K mg base (k + 1) "is_fraction" 1 (cz 3 1 (ig d_is_whole d_common)):=
 bH F gT hb hm fun cdv A outer s H E hr=>(av (cZ (SW.st (rd (gm (gY (bf jC rfl m_isinstance rfl (ae (af 0 (pv 0)) (ae (nj rfl m_tuple rfl) aj))))) (pN (bX (iK hr.units) (bf da rfl m_len PySem.boot_len (ae (af 0 (pv 0)) aj)) ar (bB _))))) (aE (aZ kH)) bW)
  (av (dF (af 0 (pv 0)) (cW rfl (aD (az 1 gT.nd rfl (Or.inl rfl)) (aD (az 2 gT.nd rfl (Or.inl rfl)) bU)) (aG (aG cq))))
  (aE (aZ (gk (aw D_is_whole hr rfl (ae (af 1 (pv 1)) aj) (ah au)) (gk (aw D_is_whole hr rfl (ae (af 2 (pv 2)) aj) (ah au)) (gk (jY Kp (af 2 (pv 2)) ar (bB _)) (mT (jY (gb hr.units) (aw D_common hr rfl (ae (af 1 (pv 1)) (ae (af 2 (pv 2)) aj)) (ah (ah au))) ar (bB _))))))))))
abbrev ye:Stmt:=top 22
def wL (d_common:List T -> Option T):FS:=
  (aO (bG (dJ (aF fX (ag 1) (fC (.int 0)))) cN bp)
  (aO (bK 2 (ak d_common (aa (ag 0) (aa (ag 1) ai))))
  (aO (bG (dJ (aF Jh (ag 1) (fC (.int 0)))) (bK 2 (uF xi (ag 2))) bp)
  (aO (bG (dJ (aF Jh (uF jl (ag 2)) (fC (.int 8000)))) (bz (dR (aa (aF dc (ag 0) (ag 2)) (aa (aF dc (ag 1) (ag 2)) ai)))) bp)
  cN))))
theorem uo:aP ["top", "bottom", "shared"] ["top", "bottom"] (aA ye):=by walk_at "sc"
theorem El {d_common:List T -> Option T} {t_SHORT_QUOTIENT:Tok} (F:eJ K "frac" "frac" ye f fd) (hb:Binds K fd ["top", "bottom"] []) (hm:mg "frac" = some (.ref f)) (D_common:Def P w K mg base k "common" 2 d_common) (g_SHORT_QUOTIENT:mg "SHORT_QUOTIENT" = some (.int 8000 t_SHORT_QUOTIENT)) :
  Def P w K mg base (k + 1) "frac" 2 (cz 3 2 (wL d_common)):=
 bH F uo hb hm fun cdv A outer s H E hr=>(av (cZ (bX (gb hr.units) (af 1 (pv 1)) ar (bB _)) (aE gc) bW)
  (av (bu 2 uo.nd rfl (Or.inl rfl) (aw D_common hr rfl (ae (af 0 (pv 0)) (ae (af 1 (pv 1)) aj)) (ah (ah au))))
  (av (cZ (bX Cq (af 1 (pv 1)) ar (bB _)) (aE (bu 2 uo.nd rfl (Or.inl rfl) (Gu C9 (af 2 (pv 2))))) bW)
  (av (cZ (bX Cq (ko (af 2 (pv 2))) (gX rfl g_SHORT_QUOTIENT) (bB _)) (aE (aZ (eU (ae (aN cJ (af 0 (pv 0)) (af 2 (pv 2))) (ae (aN cJ (af 1 (pv 1)) (af 2 (pv 2))) aj))))) bW)
  Bb))))
abbrev yf:Stmt:=top 23
def wM (d_common:List T -> Option T):FS:=
  (aO (bK 2 (ak d_common (aa (aF bC (ag 0) (fC (.int 1))) (aa (aF bC (ag 1) (fC (.int 1))) ai))))
  (aO (bK 3 (aF bJ (aF bq (aF bC (ag 0) (fC (.int 0))) (aF dc (aF bC (ag 1) (fC (.int 1))) (ag 2))) (aF bq (aF bC (ag 1) (fC (.int 0))) (aF dc (aF bC (ag 0) (fC (.int 1))) (ag 2)))))
  (aO (bK 4 (ak d_common (aa (ag 3) (aa (ag 2) ai))))
  (bz (dR (aa (aF dc (ag 3) (ag 4)) (aa (aF bq (aF dc (aF bC (ag 0) (fC (.int 1))) (ag 2)) (aF dc (aF bC (ag 1) (fC (.int 1))) (ag 4))) ai)))))))
theorem oa:aP ["one", "other", "shared", "top", "low"] ["one", "other"] (aA yf):=by walk_at "sc"
theorem Em {d_common:List T -> Option T} (F:eJ K "plus" "plus" yf f fd) (hb:Binds K fd ["one", "other"] []) (hm:mg "plus" = some (.ref f)) (D_common:Def P w K mg base k "common" 2 d_common) :
  Def P w K mg base (k + 1) "plus" 2 (cz 5 2 (wM d_common)):=
 bH F oa hb hm fun cdv A outer s H E hr=>(av (bu 2 oa.nd rfl (Or.inl rfl) (aw D_common hr rfl (ae (bh bj (af 0 (pv 0)) ar (fun _ _=>rfl)) (ae (bh bj (af 1 (pv 1)) ar (fun _ _=>rfl)) aj)) (ah (ah au))))
  (av (bu 3 oa.nd rfl (Or.inl rfl) (aN cj (aN bT (bh bj (af 0 (pv 0)) ar (fun _ _=>rfl)) (aN cJ (bh bj (af 1 (pv 1)) ar (fun _ _=>rfl)) (af 2 (pv 2)))) (aN bT (bh bj (af 1 (pv 1)) ar (fun _ _=>rfl)) (aN cJ (bh bj (af 0 (pv 0)) ar (fun _ _=>rfl)) (af 2 (pv 2))))))
  (av (bu 4 oa.nd rfl (Or.inl rfl) (aw D_common hr rfl (ae (af 3 (pv 3)) (ae (af 2 (pv 2)) aj)) (ah (ah au))))
  (aE (aZ (eU (ae (aN cJ (af 3 (pv 3)) (af 4 (pv 4))) (ae (aN bT (aN cJ (bh bj (af 0 (pv 0)) ar (fun _ _=>rfl)) (af 2 (pv 2))) (aN cJ (bh bj (af 1 (pv 1)) ar (fun _ _=>rfl)) (af 4 (pv 4)))) aj))))))))
abbrev uh:Stmt:=top 24
def rK (d_common:List T -> Option T):FS:=
  (aO (bK 2 (ak d_common (aa (aF bC (ag 0) (fC (.int 0))) (aa (aF bC (ag 1) (fC (.int 1))) ai))))
  (aO (bK 3 (ak d_common (aa (aF bC (ag 1) (fC (.int 0))) (aa (aF bC (ag 0) (fC (.int 1))) ai))))
  (bz (dR (aa (aF bq (aF dc (aF bC (ag 0) (fC (.int 0))) (ag 2)) (aF dc (aF bC (ag 1) (fC (.int 0))) (ag 3))) (aa (aF bq (aF dc (aF bC (ag 0) (fC (.int 1))) (ag 3)) (aF dc (aF bC (ag 1) (fC (.int 1))) (ag 2))) ai))))))
theorem pG:aP ["one", "other", "left", "right"] ["one", "other"] (aA uh):=by walk_at "sc"
theorem Cm {d_common:List T -> Option T} (F:eJ K "times" "times" uh f fd) (hb:Binds K fd ["one", "other"] []) (hm:mg "times" = some (.ref f)) (D_common:Def P w K mg base k "common" 2 d_common) :
  Def P w K mg base (k + 1) "times" 2 (cz 4 2 (rK d_common)):=
 bH F pG hb hm fun cdv A outer s H E hr=>(av (bu 2 pG.nd rfl (Or.inl rfl) (aw D_common hr rfl (ae (bh bj (af 0 (pv 0)) ar (fun _ _=>rfl)) (ae (bh bj (af 1 (pv 1)) ar (fun _ _=>rfl)) aj)) (ah (ah au))))
  (av (bu 3 pG.nd rfl (Or.inl rfl) (aw D_common hr rfl (ae (bh bj (af 1 (pv 1)) ar (fun _ _=>rfl)) (ae (bh bj (af 0 (pv 0)) ar (fun _ _=>rfl)) aj)) (ah (ah au))))
  (aE (aZ (eU (ae (aN bT (aN cJ (bh bj (af 0 (pv 0)) ar (fun _ _=>rfl)) (af 2 (pv 2))) (aN cJ (bh bj (af 1 (pv 1)) ar (fun _ _=>rfl)) (af 3 (pv 3)))) (ae (aN bT (aN cJ (bh bj (af 0 (pv 0)) ar (fun _ _=>rfl)) (af 3 (pv 3))) (aN cJ (bh bj (af 1 (pv 1)) ar (fun _ _=>rfl)) (af 2 (pv 2)))) aj)))))))
theorem vO:(["number"]:List Str).Nodup:=by decide +kernel
abbrev pA:Stmt:=top 26
def uK (d_is_fraction:List T -> Option T):FS:=
  (bz (eW (ak bN (aa (ag 0) (aa (fC (.ty "list")) ai))) (eW (aF fX (ak cM (aa (ag 0) ai)) (ag 1)) (ak rX (aa (dg 1 [] (bI (ag 0)) (aq 0) aL (ak d_is_fraction (aa (ag 0) ai))) ai)))))
theorem A3:aP ["thing", "many"] ["thing", "many"] (aA pA):=by walk_at "sc"
theorem AU {d_is_fraction:List T -> Option T} (F:eJ K "is_row" "is_row" pA f fd) (hb:Binds K fd ["thing", "many"] []) (hm:mg "is_row" = some (.ref f)) (D_is_fraction:Def P w K mg base k "is_fraction" 1 d_is_fraction) (m_list:mg "list" = none) (m_isinstance:mg "isinstance" = none) (m_len:mg "len" = none) (m_all:mg "all" = none) :
  Def P w K mg base (k + 1) "is_row" 2 (cz 2 2 (uK d_is_fraction)):=
 bH F A3 hb hm fun cdv A outer s H E hr=>(aE (aZ (gk (bf jC rfl m_isinstance rfl (ae (af 0 (pv 0)) (ae (nj rfl m_list rfl) aj))) (gk (jY (gb hr.units) (bf da rfl m_len PySem.boot_len (ae (af 0 (pv 0)) aj)) (af 1 (pv 1)) (bB _)) (mT (bf (Bv rfl) rfl m_all rfl (ae (cT (N':=["number"]) (no:=1) (cap:=[]) rfl rfl (aY rfl) rfl (cI rfl) (dU (af 0 (pv 0))) (fun _ _ _ _ _ _=>(az 0 vO rfl (Or.inl rfl))) (fun _ _ _ _ _ _=>ck) (fun _ _ _ _ _ _=>(aw D_is_fraction hr rfl (ae (af 0 (pv 0)) aj) (ah au)))) aj)))))))
theorem qm:(["row", "wide"]:List Str).Nodup:=by decide +kernel
abbrev kY:Stmt:=top 27
def iS (d_is_row:List T -> Option T):FS:=
  (bz (eW (ak bN (aa (ag 0) (aa (fC (.ty "list")) ai))) (eW (aF fX (ak cM (aa (ag 0) ai)) (ag 1)) (ak rX (aa (dg 1 [2] (bI (ag 0)) (aq 0) aL (ak d_is_row (aa (ag 0) (aa (ag 1) ai)))) ai)))))
theorem wk:aP ["thing", "many", "wide"] ["thing", "many", "wide"] (aA kY):=by walk_at "sc"
theorem vV {d_is_row:List T -> Option T} (F:eJ K "is_table" "is_table" kY f fd) (hb:Binds K fd ["thing", "many", "wide"] []) (hm:mg "is_table" = some (.ref f)) (D_is_row:Def P w K mg base k "is_row" 2 d_is_row) (m_list:mg "list" = none) (m_isinstance:mg "isinstance" = none) (m_len:mg "len" = none) (m_all:mg "all" = none) :
  Def P w K mg base (k + 1) "is_table" 3 (cz 3 3 (iS d_is_row)):=
 bH F wk hb hm fun cdv A outer s H E hr=>(aE (aZ (gk (bf jC rfl m_isinstance rfl (ae (af 0 (pv 0)) (ae (nj rfl m_list rfl) aj))) (gk (jY (gb hr.units) (bf da rfl m_len PySem.boot_len (ae (af 0 (pv 0)) aj)) (af 1 (pv 1)) (bB _)) (mT (bf (Bv rfl) rfl m_all rfl (ae (cT (N':=["row", "wide"]) (no:=1) (cap:=[2]) rfl rfl (aY rfl) rfl (cI rfl) (dU (af 0 (pv 0))) (fun _ _ _ _ _ _=>(az 0 qm rfl (Or.inl rfl))) (fun _ _ _ _ _ _=>ck) (fun _ _ _ _ _ _=>(aw D_is_row hr rfl (ae (af 0 (pv 0)) (ae (af 1 (pv 1)) aj)) (ah (ah au))))) aj)))))))
abbrev mQ:Stmt:=top 28
def qD (d_times d_plus:List T -> Option T):FS:=
  (aO (bK 2 (fC (.tup [.int 0,.int 1])))
  (aO (iU (gq (aa (ag 0) (aa (ag 1) ai))) (cm (aB (aq 3) (aB (aq 4) bO))) (bK 2 (ak d_plus (aa (ag 2) (aa (ak d_times (aa (ag 3) (aa (ag 4) ai))) ai)))))
  (bz (ag 2))))
theorem gU:aP ["one", "other", "total", "left", "right"] ["one", "other"] (aA mQ):=by walk_at "sc"
theorem x8 {d_times:List T -> Option T} {d_plus:List T -> Option T} {a_NOUGHT:Addr} {od_NOUGHT:Option Addr} {t_NOUGHT u_NOUGHT:Tok} {n_NOUGHT:Nat} {sl_NOUGHT:Array (Option Value)} (F:eJ K "weighed" "weighed" mQ f fd) (hb:Binds K fd ["one", "other"] []) (hm:mg "weighed" = some (.ref f)) (D_times:Def P w K mg base k "times" 2 d_times) (D_plus:Def P w K mg base k "plus" 2 d_plus) (m_zip:mg "zip" = none) (g_NOUGHT:mg "NOUGHT" = some (.ref a_NOUGHT)) (h_NOUGHT:K.lookup a_NOUGHT=some ⟨.type "tuple", od_NOUGHT,.seq #[.int 0 t_NOUGHT,.int 1 u_NOUGHT] n_NOUGHT,sl_NOUGHT⟩) :
  Def P w K mg base (k + 1) "weighed" 2 (cz 5 2 (qD d_times d_plus)):=
 bH F gU hb hm fun cdv A outer s H E hr=>(av (bu 2 gU.nd rfl (Or.inl rfl) (wo rfl g_NOUGHT h_NOUGHT))
  (av (ll PassesOwn.never rfl (pH rfl m_zip (ae (af 0 (pv 0)) (ae (af 1 (pv 1)) aj))) (cW rfl (aD (az 3 gU.nd rfl (Or.inl rfl)) (aD (az 4 gU.nd rfl (Or.inl rfl)) bU)) (aG (aG cq))) (aE (bu 2 gU.nd rfl (Or.inl rfl) (aw D_plus hr rfl (ae (af 2 (pv 2)) (ae (aw D_times hr rfl (ae (af 3 (pv 3)) (ae (af 4 (pv 4)) aj)) (ah (ah au))) aj)) (ah (ah au))))))
  (aE (aZ (af 2 (pv 2))))))
theorem tF:(["row"]:List Str).Nodup:=by decide +kernel
theorem tH:(["column"]:List Str).Nodup:=by decide +kernel
theorem tJ:(["row", "lifted_columns"]:List Str).Nodup:=by decide +kernel
theorem tK:(["column", "row"]:List Str).Nodup:=by decide +kernel
abbrev mP:Stmt:=top 29
def gE (d_lifted d_turned d_weighed_lifted:List T -> Option T):Dh:=
  (vd (iI 3 1 [] (bI (ag 0)) (aq 0) aL (ak d_lifted (aa (ag 0) ai)))
  (vd (bK 4 (dg 1 [] (bI (ak d_turned (aa (ag 1) (aa (ag 2) ai)))) (aq 0) aL (ak d_lifted (aa (ag 0) ai))))
  (oM (fM 1 [4] (bI (ag 3)) (aq 0) aL (fM 1 [0] (bI (ag 1)) (aq 0) aL (ny (ak d_weighed_lifted (aa (ag 1) (aa (ag 0) ai)))))))))
theorem lh:aP ["one", "other", "wide", "lifted_rows", "lifted_columns"] ["one", "other", "wide"] (aA mP):=by walk_at "sc"
theorem vT {d_lifted:List T -> Option T} {d_turned:List T -> Option T} {d_weighed_lifted:List T -> Option T} (F:eJ K "product" "product" mP f fd) (hb:Binds K fd ["one", "other", "wide"] []) (hm:mg "product" = some (.ref f)) (D_lifted:Def P w K mg base k "lifted" 1 d_lifted) (D_turned:Def P w K mg base k "turned" 2 d_turned) (D_weighed_lifted:Def P w K mg base k "weighed_lifted" 2 d_weighed_lifted) :
  mi P w K mg base (k + 1) "product" 3 (rY 5 3 (gE d_lifted d_turned d_weighed_lifted)):=
 yP F lh hb hm fun cdv A outer s H E hr=>(wu (pL lh.nd rfl rfl (N':=["row"]) (no:=1) (cap:=[]) rfl rfl (aY rfl) rfl (cI rfl) (dU (af 0 (pv 0))) (fun _ _ _ _ _ _=>(az 0 tF rfl (Or.inl rfl))) (fun _ _ _ _ _ _=>ck) (fun _ _ _ _ _ _=>(aw D_lifted hr rfl (ae (af 0 (pv 0)) aj) (ah au))))
  (wu (bu 4 lh.nd rfl (Or.inr rfl) (cT (N':=["column"]) (no:=1) (cap:=[]) rfl rfl (aY rfl) rfl (cI rfl) (dU (aw D_turned hr rfl (ae (af 1 (pv 1)) (ae (af 2 (pv 2)) aj)) (ah (ah au)))) (fun _ _ _ _ _ _=>(az 0 tH rfl (Or.inl rfl))) (fun _ _ _ _ _ _=>ck) (fun _ _ _ _ _ _=>(aw D_lifted hr rfl (ae (af 0 (pv 0)) aj) (ah au)))))
  (zW (lZ (N':=["row", "lifted_columns"]) (no:=1) (cap:=[4]) rfl rfl (aY rfl) rfl (cI rfl) (dU (af 3 (pv 3))) (fun _ _ _ _ _ _=>(az 0 tJ rfl (Or.inr rfl))) (fun _ _ _ _ _ _=>ck) (fun _ _ _ _ _ _=>(lZ (N':=["column", "row"]) (no:=1) (cap:=[0]) rfl rfl (aY rfl) rfl (cI rfl) (dU (af 1 (pv 1))) (fun _ _ _ _ _ _=>(az 0 tK rfl (Or.inl rfl))) (fun _ _ _ _ _ _=>ck) (fun _ _ _ _ _ _=>(SE.seo (aw D_weighed_lifted hr rfl (ae (af 1 (pv 1)) (ae (af 0 (pv 0)) aj)) (ah (ah au)))))))))))
theorem ng:(["top", "bottom"]:List Str).Nodup:=by decide +kernel
abbrev pB:Stmt:=top 30
def oC (d_shared_bottom d_raised:List T -> Option T):FS:=
  (aO (bK 1 (ak d_shared_bottom (aa (ag 0) ai)))
  (bz (dR (aa (ag 0) (aa (ak d_raised (aa (ag 0) (aa (ag 1) ai))) (aa (ag 1) (aa (aF zi (dg 2 [] (bI (ag 0)) (cm (aB (aq 0) (aB (aq 1) bO))) aL (uF jl (ag 1))) (fC (.int 1))) ai)))))))
theorem qY:aP ["row", "low"] ["row"] (aA pB):=by walk_at "sc"
theorem AV {d_shared_bottom:List T -> Option T} {d_raised:List T -> Option T} (F:eJ K "lifted" "lifted" pB f fd) (hb:Binds K fd ["row"] []) (hm:mg "lifted" = some (.ref f)) (D_shared_bottom:Def P w K mg base k "shared_bottom" 1 d_shared_bottom) (D_raised:Def P w K mg base k "raised" 2 d_raised) (m_max:mg "max" = none) :
  Def P w K mg base (k + 1) "lifted" 1 (cz 2 1 (oC d_shared_bottom d_raised)):=
 bH F qY hb hm fun cdv A outer s H E hr=>(av (bu 1 qY.nd rfl (Or.inl rfl) (aw D_shared_bottom hr rfl (ae (af 0 (pv 0)) aj) (ah au)))
  (aE (aZ (eU (ae (af 0 (pv 0)) (ae (aw D_raised hr rfl (ae (af 0 (pv 0)) (ae (af 1 (pv 1)) aj)) (ah (ah au))) (ae (af 1 (pv 1)) (ae (ES rfl rfl m_max (cT (N':=["top", "bottom"]) (no:=2) (cap:=[]) rfl rfl (aY rfl) rfl (cI rfl) (dU (af 0 (pv 0))) (fun _ _ _ _ _ _=>(cW rfl (aD (az 0 ng rfl (Or.inl rfl)) (aD (az 1 ng rfl (Or.inl rfl)) bU)) (aG (aG cq)))) (fun _ _ _ _ _ _=>ck) (fun _ _ _ _ _ _=>(ko (af 1 (pv 1))))) ar) aj))))))))
theorem gw:(["left", "right"]:List Str).Nodup:=by decide +kernel
abbrev fQ:Stmt:=top 31
def fL (d_weighed d_frac:List T -> Option T):FS:=
  (aO (dY (ag 0) (cm (aB (aq 2) (aB (aq 3) (aB (aq 4) (aB (aq 5) bO))))))
  (aO (dY (ag 1) (cm (aB (aq 6) (aB (aq 7) (aB (aq 8) (aB (aq 9) bO))))))
  (aO (bG (dJ (aF qT (aF bJ (uF jl (ag 4)) (uF jl (ag 8))) (aF bJ (aF bq (fC (.int 4)) (aF bJ (ag 5) (ag 9))) (fC (.int 128))))) (bz (ak d_weighed (aa (ag 2) (aa (ag 6) ai)))) bp)
  (bz (ak d_frac (aa (ak DK (aa (dg 2 [] (gq (aa (ag 3) (aa (ag 7) ai))) (cm (aB (aq 0) (aB (aq 1) bO))) aL (aF bq (ag 0) (ag 1))) ai)) (aa (aF bq (ag 4) (ag 8)) ai)))))))
theorem bM:aP ["one", "other", "row", "tops", "low", "longest", "other_row", "other_tops", "other_low", "other_longest"] ["one", "other"] (aA fQ):=by walk_at "sc"
theorem lS {d_weighed:List T -> Option T} {d_frac:List T -> Option T} (F:eJ K "weighed_lifted" "weighed_lifted" fQ f fd) (hb:Binds K fd ["one", "other"] []) (hm:mg "weighed_lifted" = some (.ref f)) (D_weighed:Def P w K mg base k "weighed" 2 d_weighed) (D_frac:Def P w K mg base k "frac" 2 d_frac) (m_zip:mg "zip" = none) (m_sum:mg "sum" = none) :
  Def P w K mg base (k + 1) "weighed_lifted" 2 (cz 10 2 (fL d_weighed d_frac)):=
 bH F bM hb hm fun cdv A outer s H E hr=>(av (dF (af 0 (pv 0)) (cW rfl (aD (az 2 bM.nd rfl (Or.inl rfl)) (aD (az 3 bM.nd rfl (Or.inl rfl)) (aD (az 4 bM.nd rfl (Or.inl rfl)) (aD (az 5 bM.nd rfl (Or.inl rfl)) bU)))) (aG (aG (aG (aG cq))))))
  (av (dF (af 1 (pv 1)) (cW rfl (aD (az 6 bM.nd rfl (Or.inl rfl)) (aD (az 7 bM.nd rfl (Or.inl rfl)) (aD (az 8 bM.nd rfl (Or.inl rfl)) (aD (az 9 bM.nd rfl (Or.inl rfl)) bU)))) (aG (aG (aG (aG cq))))))
  (av (cZ (bX pf (aN cj (ko (af 4 (pv 4))) (ko (af 8 (pv 8)))) (aN cj (aN bT ar (aN cj (af 5 (pv 5)) (af 9 (pv 9)))) ar) (bB _)) (aE (aZ (aw D_weighed hr rfl (ae (af 2 (pv 2)) (ae (af 6 (pv 6)) aj)) (ah (ah au))))) bW)
  (aE (aZ (aw D_frac hr rfl (ae (bf (GV rfl) rfl m_sum rfl (ae (cT (N':=["left", "right"]) (no:=2) (cap:=[]) rfl rfl (aY rfl) rfl (cI rfl) (pH rfl m_zip (ae (af 3 (pv 3)) (ae (af 7 (pv 7)) aj))) (fun _ _ _ _ _ _=>(cW rfl (aD (az 0 gw rfl (Or.inl rfl)) (aD (az 1 gw rfl (Or.inl rfl)) bU)) (aG (aG cq)))) (fun _ _ _ _ _ _=>ck) (fun _ _ _ _ _ _=>(aN bT (af 0 (pv 0)) (af 1 (pv 1))))) aj)) (ae (aN bT (af 4 (pv 4)) (af 8 (pv 8))) aj)) (ah (ah au))))))))
abbrev gj:Stmt:=top 32
def gf (d_common:List T -> Option T):FS:=
  (aO (bK 1 (fC (.int 1)))
  (aO (iU (bI (ag 0)) (cm (aB (aq 2) (aB (aq 3) bO))) (bK 1 (aF bq (aF dc (ag 1) (ak d_common (aa (ag 1) (aa (ag 3) ai)))) (ag 3))))
  (bz (ag 1))))
theorem dt:aP ["row", "low", "top", "bottom"] ["row"] (aA gj):=by walk_at "sc"
theorem mK {d_common:List T -> Option T} (F:eJ K "shared_bottom" "shared_bottom" gj f fd) (hb:Binds K fd ["row"] []) (hm:mg "shared_bottom" = some (.ref f)) (D_common:Def P w K mg base k "common" 2 d_common) :
  Def P w K mg base (k + 1) "shared_bottom" 1 (cz 4 1 (gf d_common)):=
 bH F dt hb hm fun cdv A outer s H E hr=>(av (bu 1 dt.nd rfl (Or.inl rfl) ar)
  (av (ll PassesOwn.never rfl (dU (af 0 (pv 0))) (cW rfl (aD (az 2 dt.nd rfl (Or.inl rfl)) (aD (az 3 dt.nd rfl (Or.inl rfl)) bU)) (aG (aG cq))) (aE (bu 1 dt.nd rfl (Or.inl rfl) (aN bT (aN cJ (af 1 (pv 1)) (aw D_common hr rfl (ae (af 1 (pv 1)) (ae (af 3 (pv 3)) aj)) (ah (ah au)))) (af 3 (pv 3))))))
  (aE (aZ (af 1 (pv 1))))))
theorem nh:(["top", "bottom", "low"]:List Str).Nodup:=by decide +kernel
abbrev pC:Stmt:=top 33
def uL:FS:=
  (bz (dg 2 [1] (bI (ag 0)) (cm (aB (aq 0) (aB (aq 1) bO))) aL (aF bq (ag 0) (aF dc (ag 2) (ag 1)))))
theorem A4:aP ["row", "low"] ["row", "low"] (aA pC):=by walk_at "sc"
theorem AW (F:eJ K "raised" "raised" pC f fd) (hb:Binds K fd ["row", "low"] []) (hm:mg "raised" = some (.ref f)) :
  Def P w K mg base (k + 1) "raised" 2 (cz 2 2 (uL)):=
 bH F A4 hb hm fun cdv A outer s H E hr=>(aE (aZ (cT (N':=["top", "bottom", "low"]) (no:=2) (cap:=[1]) rfl rfl (aY rfl) rfl (cI rfl) (dU (af 0 (pv 0))) (fun _ _ _ _ _ _=>(cW rfl (aD (az 0 nh rfl (Or.inl rfl)) (aD (az 1 nh rfl (Or.inl rfl)) bU)) (aG (aG cq)))) (fun _ _ _ _ _ _=>ck) (fun _ _ _ _ _ _=>(aN bT (af 0 (pv 0)) (aN cJ (af 2 (pv 2)) (af 1 (pv 1))))))))
theorem tx:(["row", "wide"]:List Str).Nodup:=by decide +kernel
theorem tB:(["column"]:List Str).Nodup:=by decide +kernel
abbrev mO:Stmt:=top 34
def kj:FS:=
  (bz (dg 1 [1] (cS (aa (ag 0) ai)) (aq 0) aL (dg 1 [] (cS (aa (ag 1) ai)) (aq 0) aL (fC (.tup [.int 0,.int 1])))))
theorem yg:aP ["many", "wide"] ["many", "wide"] (aA mO):=by walk_at "sc"
theorem xZ {a_NOUGHT:Addr} {od_NOUGHT:Option Addr} {t_NOUGHT u_NOUGHT:Tok} {n_NOUGHT:Nat} {sl_NOUGHT:Array (Option Value)} (F:eJ K "noughts" "noughts" mO f fd) (hb:Binds K fd ["many", "wide"] []) (hm:mg "noughts" = some (.ref f)) (m_range:mg "range" = none) (g_NOUGHT:mg "NOUGHT" = some (.ref a_NOUGHT)) (h_NOUGHT:K.lookup a_NOUGHT=some ⟨.type "tuple", od_NOUGHT,.seq #[.int 0 t_NOUGHT,.int 1 u_NOUGHT] n_NOUGHT,sl_NOUGHT⟩) :
  Def P w K mg base (k + 1) "noughts" 2 (cz 2 2 (kj)):=
 bH F yg hb hm fun cdv A outer s H E hr=>(aE (aZ (cT (N':=["row", "wide"]) (no:=1) (cap:=[1]) rfl rfl (aY rfl) rfl (cI rfl) (ic rfl m_range (ae (af 0 (pv 0)) aj)) (fun _ _ _ _ _ _=>(az 0 tx rfl (Or.inl rfl))) (fun _ _ _ _ _ _=>ck) (fun _ _ _ _ _ _=>(cT (N':=["column"]) (no:=1) (cap:=[]) rfl rfl (aY rfl) rfl (cI rfl) (ic rfl m_range (ae (af 1 (pv 1)) aj)) (fun _ _ _ _ _ _=>(az 0 tB rfl (Or.inl rfl))) (fun _ _ _ _ _ _=>ck) (fun _ _ _ _ _ _=>(wo rfl g_NOUGHT h_NOUGHT)))))))
theorem vP:(["place", "table"]:List Str).Nodup:=by decide +kernel
theorem vQ:(["row", "place"]:List Str).Nodup:=by decide +kernel
abbrev pD:Stmt:=top 35
def jA:Dh:=
  (oM (fM 1 [0] (cS (aa (ag 1) ai)) (aq 0) aL (fM 1 [0] (bI (ag 1)) (aq 0) aL (ny (aF bC (ag 0) (ag 1))))))
theorem A5:aP ["table", "wide"] ["table", "wide"] (aA pD):=by walk_at "sc"
theorem xW (F:eJ K "turned" "turned" pD f fd) (hb:Binds K fd ["table", "wide"] []) (hm:mg "turned" = some (.ref f)) (m_range:mg "range" = none) :
  mi P w K mg base (k + 1) "turned" 2 (rY 2 2 (jA)):=
 yP F A5 hb hm fun cdv A outer s H E hr=>(zW (lZ (N':=["place", "table"]) (no:=1) (cap:=[0]) rfl rfl (aY rfl) rfl (cI rfl) (ic rfl m_range (ae (af 1 (pv 1)) aj)) (fun _ _ _ _ _ _=>(az 0 vP rfl (Or.inr rfl))) (fun _ _ _ _ _ _=>ck) (fun _ _ _ _ _ _=>(lZ (N':=["row", "place"]) (no:=1) (cap:=[0]) rfl rfl (aY rfl) rfl (cI rfl) (dU (af 1 (pv 1))) (fun _ _ _ _ _ _=>(az 0 vQ rfl (Or.inl rfl))) (fun _ _ _ _ _ _=>ck) (fun _ _ _ _ _ _=>(SE.seo (bh bj (af 0 (pv 0)) (af 1 (pv 1)) (fun _ _=>rfl))))))))
theorem lP:(["left", "right"]:List Str).Nodup:=by decide +kernel
abbrev mR:Stmt:=top 36
def kl:FS:=
  (bz (dg 2 [] (gq (aa (ag 0) (aa (ag 1) ai))) (cm (aB (aq 0) (aB (aq 1) bO))) aL (aF bJ (ag 0) (ag 1))))
theorem yh:aP ["one", "other"] ["one", "other"] (aA mR):=by walk_at "sc"
theorem x9 (F:eJ K "widened" "widened" mR f fd) (hb:Binds K fd ["one", "other"] []) (hm:mg "widened" = some (.ref f)) (m_zip:mg "zip" = none) :
  Def P w K mg base (k + 1) "widened" 2 (cz 2 2 (kl)):=
 bH F yh hb hm fun cdv A outer s H E hr=>(aE (aZ (cT (N':=["left", "right"]) (no:=2) (cap:=[]) rfl rfl (aY rfl) rfl (cI rfl) (pH rfl m_zip (ae (af 0 (pv 0)) (ae (af 1 (pv 1)) aj))) (fun _ _ _ _ _ _=>(cW rfl (aD (az 0 lP rfl (Or.inl rfl)) (aD (az 1 lP rfl (Or.inl rfl)) bU)) (aG (aG cq)))) (fun _ _ _ _ _ _=>ck) (fun _ _ _ _ _ _=>(aN cj (af 0 (pv 0)) (af 1 (pv 1)))))))
theorem jn:(["table"]:List Str).Nodup:=by decide +kernel
theorem jo:(["row"]:List Str).Nodup:=by decide +kernel
abbrev dC:Stmt:=inClass (top 40) 0
def bV (d_is_system:List T -> Option T):Addr -> FI:=
  (BW (bG (eu (eR (ak d_is_system (aa (ag 1) (aa (ag 2) (aa (ag 3) (aa (ag 4) ai))))))) cN bp)
  (BW (bG (dJ (aF qT (ak cM (aa (ag 1) ai)) (fC (.int 8)))) cN bp)
  (DX "four" (ak il (aa (dg 1 [] (bI (dR (aa (ag 1) (aa (ag 2) (aa (ag 3) (aa (ag 4) ai)))))) (aq 0) aL (ak il (aa (dg 1 [] (bI (ag 0)) (aq 0) aL (ak il (aa (ag 0) ai))) ai))) ai))
  JY)))
theorem gx:aP ["self", "move", "push", "look", "through"] ["self", "move", "push", "look", "through"] (aA dC):=by walk_at "sc"
theorem xV {d_is_system:List T -> Option T} {t_MOST_CELLS:Tok} {C:Addr} {cx:Str} (F:eJ K "__init__" "System.__init__" dC f fd) (hb:Binds K fd ["self", "move", "push", "look", "through"] []) (cl:mZ K C) (M:Mk K C f) (hm:mg cx=some (.ref C)) (n_four:fq K C "four") (D_is_system:Def P w K mg base k "is_system" 4 d_is_system) (m_len:mg "len" = none) (m_tuple:mg "tuple" = none) (g_MOST_CELLS:mg "MOST_CELLS" = some (.int 8 t_MOST_CELLS)) :
  mj P w K mg base (k + 2) cx C 4 (dI 5 4 (bV d_is_system)):=
 DY F gx hb M hm rfl fun cdv A outer s H E hr=>(zT (cZ (gm (gY (aw D_is_system hr rfl (ae (af 1 (pv 1)) (ae (af 2 (pv 2)) (ae (af 3 (pv 3)) (ae (af 4 (pv 4)) aj)))) (ah (ah (ah (ah au))))))) (aE gc) bW)
  (zT (cZ (bX pf (bf da rfl m_len PySem.boot_len (ae (af 1 (pv 1)) aj)) (gX rfl g_MOST_CELLS) (bB _)) (aE gc) bW)
  (EV cl n_four (pv 0) (dP lH rfl m_tuple rfl (ae (cT (N':=["table"]) (no:=1) (cap:=[]) rfl rfl (aY rfl) rfl (cI rfl) (dU (eU (ae (af 1 (pv 1)) (ae (af 2 (pv 2)) (ae (af 3 (pv 3)) (ae (af 4 (pv 4)) aj)))))) (fun _ _ _ _ _ _=>(az 0 jn rfl (Or.inl rfl))) (fun _ _ _ _ _ _=>ck) (fun _ _ _ _ _ _=>(dP lH rfl m_tuple rfl (ae (cT (N':=["row"]) (no:=1) (cap:=[]) rfl rfl (aY rfl) rfl (cI rfl) (dU (af 0 (pv 0))) (fun _ _ _ _ _ _=>(az 0 jo rfl (Or.inl rfl))) (fun _ _ _ _ _ _=>ck) (fun _ _ _ _ _ _=>(dP lH rfl m_tuple rfl (ae (af 0 (pv 0)) aj)))) aj)))) aj))
  EW)))
def di (c_TooMany c_NoTable:Addr) (d_is_system:List T -> Option T):FX:=
  (mE (mD (eu (eR (ak d_is_system (aa (ag 1) (aa (ag 2) (aa (ag 3) (aa (ag 4) ai))))))) (jG c_NoTable (aa (fC (.str "these are not the four tables of a system")) ai)) xg)
  (eX (bG (eu (eR (ak d_is_system (aa (ag 1) (aa (ag 2) (aa (ag 3) (aa (ag 4) ai))))))) cN bp)
  (mD (dJ (aF qT (ak cM (aa (ag 1) ai)) (fC (.int 8)))) (jG c_TooMany (aa (fC (.str "a system has at most 8 cells")) ai)) xg)))
theorem vS {c_TooMany c_NoTable:Addr} {d_is_system:List T -> Option T} {t_MOST_CELLS:Tok} {up_TooMany:List Addr} {up_NoTable:List Addr} {C:Addr} {cx:Str} (F:eJ K "__init__" "System.__init__" dC f fd) (hb:Binds K fd ["self", "move", "push", "look", "through"] []) (M:Mk K C f) (hm:mg cx=some (.ref C)) (D_is_system:Def P w K mg base k "is_system" 4 d_is_system) (er_TooMany:lB K c_TooMany up_TooMany) (er_NoTable:lB K c_NoTable up_NoTable) (mc_NoTable:mg "NoTable" = some (.ref c_NoTable)) (mc_TooMany:mg "TooMany" = some (.ref c_TooMany)) (m_len:mg "len" = none) (g_MOST_CELLS:mg "MOST_CELLS" = some (.int 8 t_MOST_CELLS)) :
  lE P w K mg base (k + 2) cx C 4 (GW 5 4 (di c_TooMany c_NoTable d_is_system)):=
 BX F gx hb M hm rfl fun cdv A outer s H E hr=>(yk (du (wy (fun _ _ z=>z) (gm (gY (aw D_is_system hr rfl (ae (af 1 (pv 1)) (ae (af 2 (pv 2)) (ae (af 3 (pv 3)) (ae (af 4 (pv 4)) aj)))) (ah (ah (ah (ah au))))))) (du (md rfl (fun _ _ z=>z) er_NoTable rfl mc_NoTable (ae fS aj))) uy))
  (fF (fun _ _ z=>z) (cZ (gm (gY (aw D_is_system hr rfl (ae (af 1 (pv 1)) (ae (af 2 (pv 2)) (ae (af 3 (pv 3)) (ae (af 4 (pv 4)) aj)))) (ah (ah (ah (ah au))))))) (aE gc) bW)
  (du (wy (fun _ _ z=>z) (bX pf (bf da rfl m_len PySem.boot_len (ae (af 1 (pv 1)) aj)) (gX rfl g_MOST_CELLS) (bB _)) (du (md rfl (fun _ _ z=>z) er_TooMany rfl mc_TooMany (ae fS aj))) uy))))
abbrev gi:Stmt:=inClass (top 40) 1
def jk (c_System:Addr):FS:=
  (bz (ak cM (aa (aF bC (AD [c_System] "four" (ag 0)) (fC (.int 0))) ai)))
theorem mS:aP ["self"] ["self"] (aA gi):=by walk_at "sc"
theorem lQ {c_System:Addr} {C:Addr} (F:eJ K "cells" "System.cells" gi f fd) (hb:Binds K fd ["self"] []) (cl:mZ K C) (hm:Meth K C "cells" f) (hf_four:∀ C ∈ [c_System],mZ K C /\ fq K C "four") (m_len:mg "len" = none) :
  dG P w K mg base (k + 1) C "cells" 1 (cz 1 1 (jk c_System)):=
 nW F mS hb cl hm fun cdv A outer s H E hr=>(aE (aZ (bf da rfl m_len PySem.boot_len (ae (bh bj (uq hf_four (af 0 (pv 0))) ar (fun _ _=>rfl)) aj))))
abbrev ir:Stmt:=inClass (top 40) 2
def kA (c_System:Addr):FS:=
  (bz (ak cM (aa (aF bC (aF bC (AD [c_System] "four" (ag 0)) (fC (.int 3))) (fC (.int 0))) ai)))
theorem pF:aP ["self"] ["self"] (aA ir):=by walk_at "sc"
theorem nE {c_System:Addr} {C:Addr} (F:eJ K "ins" "System.ins" ir f fd) (hb:Binds K fd ["self"] []) (cl:mZ K C) (hm:Meth K C "ins" f) (hf_four:∀ C ∈ [c_System],mZ K C /\ fq K C "four") (m_len:mg "len" = none) :
  dG P w K mg base (k + 1) C "ins" 1 (cz 1 1 (kA c_System)):=
 nW F pF hb cl hm fun cdv A outer s H E hr=>(aE (aZ (bf da rfl m_len PySem.boot_len (ae (bh bj (bh bj (uq hf_four (af 0 (pv 0))) ar (fun _ _=>rfl)) ar (fun _ _=>rfl)) aj))))
abbrev gP:Stmt:=inClass (top 40) 3
def jv (c_System:Addr):FS:=
  (bz (ak cM (aa (aF bC (AD [c_System] "four" (ag 0)) (fC (.int 3))) ai)))
theorem nK:aP ["self"] ["self"] (aA gP):=by walk_at "sc"
theorem mJ {c_System:Addr} {C:Addr} (F:eJ K "outs" "System.outs" gP f fd) (hb:Binds K fd ["self"] []) (cl:mZ K C) (hm:Meth K C "outs" f) (hf_four:∀ C ∈ [c_System],mZ K C /\ fq K C "four") (m_len:mg "len" = none) :
  dG P w K mg base (k + 1) C "outs" 1 (cz 1 1 (jv c_System)):=
 nW F nK hb cl hm fun cdv A outer s H E hr=>(aE (aZ (bf da rfl m_len PySem.boot_len (ae (bh bj (uq hf_four (af 0 (pv 0))) ar (fun _ _=>rfl)) aj))))
theorem ku:(["table"]:List Str).Nodup:=by decide +kernel
theorem kv:(["row"]:List Str).Nodup:=by decide +kernel
abbrev fP:Stmt:=inClass (top 40) 4
def iG (c_System:Addr):FS:=
  (bz (ak il (aa (dg 1 [] (bI (AD [c_System] "four" (ag 0))) (aq 0) aL (dg 1 [] (bI (ag 0)) (aq 0) aL (ak dList (aa (ag 0) ai)))) ai)))
theorem lW:aP ["self"] ["self"] (aA fP):=by walk_at "sc"
theorem kU {c_System:Addr} {C:Addr} (F:eJ K "tables" "System.tables" fP f fd) (hb:Binds K fd ["self"] []) (cl:mZ K C) (hm:Meth K C "tables" f) (hf_four:∀ C ∈ [c_System],mZ K C /\ fq K C "four") (m_list:mg "list" = none) (m_tuple:mg "tuple" = none) :
  dG P w K mg base (k + 1) C "tables" 1 (cz 1 1 (iG c_System)):=
 nW F lW hb cl hm fun cdv A outer s H E hr=>(aE (aZ (dP lH rfl m_tuple rfl (ae (cT (N':=["table"]) (no:=1) (cap:=[]) rfl rfl (aY rfl) rfl (cI rfl) (dU (uq hf_four (af 0 (pv 0)))) (fun _ _ _ _ _ _=>(az 0 ku rfl (Or.inl rfl))) (fun _ _ _ _ _ _=>ck) (fun _ _ _ _ _ _=>(cT (N':=["row"]) (no:=1) (cap:=[]) rfl rfl (aY rfl) rfl (cI rfl) (dU (af 0 (pv 0))) (fun _ _ _ _ _ _=>(az 0 kv rfl (Or.inl rfl))) (fun _ _ _ _ _ _=>ck) (fun _ _ _ _ _ _=>(dP rT rfl m_list rfl (ae (af 0 (pv 0)) aj)))))) aj))))
abbrev jX:Stmt:=top 41
def h9 (d_is_table:List T -> Option T):FS:=
  (aO (bG (qd (eu (eR (ak bN (aa (ag 0) (aa (fC (.ty "list")) ai))))) (qd (eu (eR (ak bN (aa (ag 3) (aa (fC (.ty "list")) ai))))) (eu (dJ (jD AF AF (fC (.int 1)) (ak cM (aa (ag 3) ai)) (fC (.int 2))))))) (bz (fC (.bl false))) bp)
  (aO (bG (qd (eu (eR (ak bN (aa (aF bC (ag 3) (fC (.int 0))) (aa (fC (.ty "list")) ai))))) (eu (dJ (jD AF AF (fC (.int 1)) (ak cM (aa (aF bC (ag 3) (fC (.int 0))) ai)) (fC (.int 2)))))) (bz (fC (.bl false))) bp)
  (aO (yY 4 5 6 (aa (ak cM (aa (ag 0) ai)) (aa (ak cM (aa (aF bC (ag 3) (fC (.int 0))) ai)) (aa (ak cM (aa (ag 3) ai)) ai))))
  (bz (eW (ak d_is_table (aa (ag 0) (aa (ag 4) (aa (ag 4) ai)))) (eW (ak d_is_table (aa (ag 1) (aa (ag 4) (aa (ag 5) ai)))) (eW (ak d_is_table (aa (ag 2) (aa (ag 6) (aa (ag 4) ai)))) (ak d_is_table (aa (ag 3) (aa (ag 6) (aa (ag 5) ai)))))))))))
theorem lY:aP ["move", "push", "look", "through", "cells", "ins", "outs"] ["move", "push", "look", "through"] (aA jX):=by walk_at "sc"
theorem tZ {d_is_table:List T -> Option T} {t_MOST_LINES:Tok} (F:eJ K "is_system" "is_system" jX f fd) (hb:Binds K fd ["move", "push", "look", "through"] []) (hm:mg "is_system" = some (.ref f)) (D_is_table:Def P w K mg base k "is_table" 3 d_is_table) (m_list:mg "list" = none) (m_isinstance:mg "isinstance" = none) (m_len:mg "len" = none) (g_MOST_LINES:mg "MOST_LINES" = some (.int 2 t_MOST_LINES)) :
  Def P w K mg base (k + 1) "is_system" 4 (cz 7 4 (h9 d_is_table)):=
 bH F lY hb hm fun cdv A outer s H E hr=>(av (cZ (SW.st (rd (gm (gY (bf jC rfl m_isinstance rfl (ae (af 0 (pv 0)) (ae (nj rfl m_list rfl) aj))))) (rd (gm (gY (bf jC rfl m_isinstance rfl (ae (af 3 (pv 3)) (ae (nj rfl m_list rfl) aj))))) (pN (gm (wx zJ zJ ar (bf da rfl m_len PySem.boot_len (ae (af 3 (pv 3)) aj)) (gX rfl g_MOST_LINES))))))) (aE (aZ kH)) bW)
  (av (cZ (SW.st (rd (gm (gY (bf jC rfl m_isinstance rfl (ae (bh bj (af 3 (pv 3)) ar (fun _ _=>rfl)) (ae (nj rfl m_list rfl) aj))))) (pN (gm (wx zJ zJ ar (bf da rfl m_len PySem.boot_len (ae (bh bj (af 3 (pv 3)) ar (fun _ _=>rfl)) aj)) (gX rfl g_MOST_LINES)))))) (aE (aZ kH)) bW)
  (av (E5 rfl lY.nd rfl rfl rfl (by decide) (by decide) (by decide) rfl rfl rfl (ae (bf da rfl m_len PySem.boot_len (ae (af 0 (pv 0)) aj)) (ae (bf da rfl m_len PySem.boot_len (ae (bh bj (af 3 (pv 3)) ar (fun _ _=>rfl)) aj)) (ae (bf da rfl m_len PySem.boot_len (ae (af 3 (pv 3)) aj)) aj))) rfl)
  (aE (aZ (gk (aw D_is_table hr rfl (ae (af 0 (pv 0)) (ae (af 4 (pv 4)) (ae (af 4 (pv 4)) aj))) (ah (ah (ah au)))) (gk (aw D_is_table hr rfl (ae (af 1 (pv 1)) (ae (af 4 (pv 4)) (ae (af 5 (pv 5)) aj))) (ah (ah (ah au)))) (gk (aw D_is_table hr rfl (ae (af 2 (pv 2)) (ae (af 6 (pv 6)) (ae (af 4 (pv 4)) aj))) (ah (ah (ah au)))) (mT (aw D_is_table hr rfl (ae (af 3 (pv 3)) (ae (af 6 (pv 6)) (ae (af 5 (pv 5)) aj))) (ah (ah (ah au)))))))))))))
abbrev lV:Stmt:=top 43
def oB (c_System:Addr) (d_noughts d_widened d_product:List T -> Option T) (dM_System__outs dM_System__ins dM_System__tables dM_System__cells:List T -> Option T) (dI_System:List T -> Option p7):FS:=
  (aO (bG (dJ (aF jI (bo [(c_System,dM_System__outs)] "outs" (ag 0) ai) (bo [(c_System,dM_System__ins)] "ins" (ag 1) ai))) cN bp)
  (aO (dY (bo [(c_System,dM_System__tables)] "tables" (ag 0) ai) (cm (aB (aq 2) (aB (aq 3) (aB (aq 4) (aB (aq 5) bO))))))
  (aO (dY (bo [(c_System,dM_System__tables)] "tables" (ag 1) ai) (cm (aB (aq 6) (aB (aq 7) (aB (aq 8) (aB (aq 9) bO))))))
  (aO (jF 10 11 (aa (bo [(c_System,dM_System__cells)] "cells" (ag 0) ai) (aa (bo [(c_System,dM_System__ins)] "ins" (ag 0) ai) ai)))
  (bz (kC c_System dI_System (aa (aF bJ (ak d_widened (aa (ag 2) (aa (ak d_noughts (aa (ag 10) (aa (bo [(c_System,dM_System__cells)] "cells" (ag 1) ai) ai))) ai))) (ak d_widened (aa (ak d_product (aa (ag 7) (aa (ag 4) (aa (ag 10) ai)))) (aa (ag 6) ai)))) (aa (aF bJ (ag 3) (ak d_product (aa (ag 7) (aa (ag 5) (aa (ag 11) ai))))) (aa (ak d_widened (aa (ak d_product (aa (ag 9) (aa (ag 4) (aa (ag 10) ai)))) (aa (ag 8) ai))) (aa (ak d_product (aa (ag 9) (aa (ag 5) (aa (ag 11) ai)))) ai))))))))))
theorem bQ:aP ["one", "other", "move", "push", "look", "through", "next_move", "next_push", "next_look", "next_through", "cells", "ins"] ["one", "other"] (aA lV):=by walk_at "sc"
theorem AS {c_System:Addr} {d_noughts:List T -> Option T} {d_widened:List T -> Option T} {d_product:List T -> Option T} {dM_System__outs:List T -> Option T} {dM_System__ins:List T -> Option T} {dM_System__tables:List T -> Option T} {dM_System__cells:List T -> Option T} {dI_System:List T -> Option p7} (F:eJ K "in_row" "in_row" lV f fd) (hb:Binds K fd ["one", "other"] []) (hm:mg "in_row" = some (.ref f)) (D_noughts:Def P w K mg base k "noughts" 2 d_noughts) (D_widened:Def P w K mg base k "widened" 2 d_widened) (D_product:Def P w K mg base k "product" 3 d_product) (DM_outs:∀ a ∈ [(c_System,dM_System__outs)],dG P w K mg base k a.1 "outs" 1 a.2) (DM_ins:∀ a ∈ [(c_System,dM_System__ins)],dG P w K mg base k a.1 "ins" 1 a.2) (DM_tables:∀ a ∈ [(c_System,dM_System__tables)],dG P w K mg base k a.1 "tables" 1 a.2) (DM_cells:∀ a ∈ [(c_System,dM_System__cells)],dG P w K mg base k a.1 "cells" 1 a.2) (DI_System:mj P w K mg base k "System" c_System 4 dI_System) :
  Def P w K mg base (k + 1) "in_row" 2 (cz 12 2 (oB c_System d_noughts d_widened d_product dM_System__outs dM_System__ins dM_System__tables dM_System__cells dI_System)):=
 bH F bQ hb hm fun cdv A outer s H E hr=>(av (cZ (bX (iK hr.units) (aS DM_outs hr (af 0 (pv 0))) (aS DM_ins hr (af 1 (pv 1))) (bB _)) (aE gc) bW)
  (av (dF (aS DM_tables hr (af 0 (pv 0))) (cW rfl (aD (az 2 bQ.nd rfl (Or.inl rfl)) (aD (az 3 bQ.nd rfl (Or.inl rfl)) (aD (az 4 bQ.nd rfl (Or.inl rfl)) (aD (az 5 bQ.nd rfl (Or.inl rfl)) bU)))) (aG (aG (aG (aG cq))))))
  (av (dF (aS DM_tables hr (af 1 (pv 1))) (cW rfl (aD (az 6 bQ.nd rfl (Or.inl rfl)) (aD (az 7 bQ.nd rfl (Or.inl rfl)) (aD (az 8 bQ.nd rfl (Or.inl rfl)) (aD (az 9 bQ.nd rfl (Or.inl rfl)) bU)))) (aG (aG (aG (aG cq))))))
  (av (kc rfl bQ.nd rfl rfl (by decide) rfl rfl (ae (aS DM_cells hr (af 0 (pv 0))) (ae (aS DM_ins hr (af 0 (pv 0))) aj)) rfl)
  (aE (aZ (ur DI_System hr rfl (ae (aN cj (aw D_widened hr rfl (ae (af 2 (pv 2)) (ae (aw D_noughts hr rfl (ae (af 10 (pv 10)) (ae (aS DM_cells hr (af 1 (pv 1))) aj)) (ah (ah au))) aj)) (ah (ah au))) (aw D_widened hr rfl (ae (aw D_product hr rfl (ae (af 7 (pv 7)) (ae (af 4 (pv 4)) (ae (af 10 (pv 10)) aj))) (ah (ah (ah au)))) (ae (af 6 (pv 6)) aj)) (ah (ah au)))) (ae (aN cj (af 3 (pv 3)) (aw D_product hr rfl (ae (af 7 (pv 7)) (ae (af 5 (pv 5)) (ae (af 11 (pv 11)) aj))) (ah (ah (ah au))))) (ae (aw D_widened hr rfl (ae (aw D_product hr rfl (ae (af 9 (pv 9)) (ae (af 4 (pv 4)) (ae (af 10 (pv 10)) aj))) (ah (ah (ah au)))) (ae (af 8 (pv 8)) aj)) (ah (ah au))) (ae (aw D_product hr rfl (ae (af 9 (pv 9)) (ae (af 5 (pv 5)) (ae (af 11 (pv 11)) aj))) (ah (ah (ah au)))) aj)))) (ah (ah (ah (ah au)))))))))))
def mz (c_System c_NoFit:Addr) (d_noughts d_widened d_product:List T -> Option T) (dM_System__outs dM_System__ins dM_System__tables dM_System__cells:List T -> Option T) (dxI_System:List T -> Option Addr):FX:=
  (mE (mD (dJ (aF jI (bo [(c_System,dM_System__outs)] "outs" (ag 0) ai) (bo [(c_System,dM_System__ins)] "ins" (ag 1) ai))) (jG c_NoFit (aa (fC (.str "the other has not as many lines in as the one has lines out")) ai)) xg)
  (eX (bG (dJ (aF jI (bo [(c_System,dM_System__outs)] "outs" (ag 0) ai) (bo [(c_System,dM_System__ins)] "ins" (ag 1) ai))) cN bp)
  (eX (dY (bo [(c_System,dM_System__tables)] "tables" (ag 0) ai) (cm (aB (aq 2) (aB (aq 3) (aB (aq 4) (aB (aq 5) bO))))))
  (eX (dY (bo [(c_System,dM_System__tables)] "tables" (ag 1) ai) (cm (aB (aq 6) (aB (aq 7) (aB (aq 8) (aB (aq 9) bO))))))
  (eX (jF 10 11 (aa (bo [(c_System,dM_System__cells)] "cells" (ag 0) ai) (aa (bo [(c_System,dM_System__ins)] "ins" (ag 0) ai) ai)))
  (gh dxI_System (aa (aF bJ (ak d_widened (aa (ag 2) (aa (ak d_noughts (aa (ag 10) (aa (bo [(c_System,dM_System__cells)] "cells" (ag 1) ai) ai))) ai))) (ak d_widened (aa (ak d_product (aa (ag 7) (aa (ag 4) (aa (ag 10) ai)))) (aa (ag 6) ai)))) (aa (aF bJ (ag 3) (ak d_product (aa (ag 7) (aa (ag 5) (aa (ag 11) ai))))) (aa (ak d_widened (aa (ak d_product (aa (ag 9) (aa (ag 4) (aa (ag 10) ai)))) (aa (ag 8) ai))) (aa (ak d_product (aa (ag 9) (aa (ag 5) (aa (ag 11) ai)))) ai))))))))))
theorem xY {c_System c_NoFit:Addr} {d_noughts:List T -> Option T} {d_widened:List T -> Option T} {d_product:List T -> Option T} {dM_System__outs:List T -> Option T} {dM_System__ins:List T -> Option T} {dM_System__tables:List T -> Option T} {dM_System__cells:List T -> Option T} {dxI_System:List T -> Option Addr} {up_NoFit:List Addr} (F:eJ K "in_row" "in_row" lV f fd) (hb:Binds K fd ["one", "other"] []) (hm:mg "in_row" = some (.ref f)) (D_noughts:Def P w K mg base k "noughts" 2 d_noughts) (D_widened:Def P w K mg base k "widened" 2 d_widened) (D_product:Def P w K mg base k "product" 3 d_product) (DM_outs:∀ a ∈ [(c_System,dM_System__outs)],dG P w K mg base k a.1 "outs" 1 a.2) (DM_ins:∀ a ∈ [(c_System,dM_System__ins)],dG P w K mg base k a.1 "ins" 1 a.2) (DM_tables:∀ a ∈ [(c_System,dM_System__tables)],dG P w K mg base k a.1 "tables" 1 a.2) (DM_cells:∀ a ∈ [(c_System,dM_System__cells)],dG P w K mg base k a.1 "cells" 1 a.2) (DIX_System:lE P w K mg base k "System" c_System 4 dxI_System) (er_NoFit:lB K c_NoFit up_NoFit) (mc_NoFit:mg "NoFit" = some (.ref c_NoFit)) :
  ot P w K mg base (k + 1) "in_row" 2 (uU 12 2 (mz c_System c_NoFit d_noughts d_widened d_product dM_System__outs dM_System__ins dM_System__tables dM_System__cells dxI_System)):=
 yQ F bQ hb hm fun cdv A outer s H E hr=>(yk (du (wy (fun _ _ z=>z) (bX (iK hr.units) (aS DM_outs hr (af 0 (pv 0))) (aS DM_ins hr (af 1 (pv 1))) (bB _)) (du (md rfl (fun _ _ z=>z) er_NoFit rfl mc_NoFit (ae fS aj))) uy))
  (fF (fun _ _ z=>z) (cZ (bX (iK hr.units) (aS DM_outs hr (af 0 (pv 0))) (aS DM_ins hr (af 1 (pv 1))) (bB _)) (aE gc) bW)
  (fF (fun _ _ z=>z) (dF (aS DM_tables hr (af 0 (pv 0))) (cW rfl (aD (az 2 bQ.nd rfl (Or.inl rfl)) (aD (az 3 bQ.nd rfl (Or.inl rfl)) (aD (az 4 bQ.nd rfl (Or.inl rfl)) (aD (az 5 bQ.nd rfl (Or.inl rfl)) bU)))) (aG (aG (aG (aG cq))))))
  (fF (fun _ _ z=>z) (dF (aS DM_tables hr (af 1 (pv 1))) (cW rfl (aD (az 6 bQ.nd rfl (Or.inl rfl)) (aD (az 7 bQ.nd rfl (Or.inl rfl)) (aD (az 8 bQ.nd rfl (Or.inl rfl)) (aD (az 9 bQ.nd rfl (Or.inl rfl)) bU)))) (aG (aG (aG (aG cq))))))
  (fF (fun _ _ z=>z) (kc rfl bQ.nd rfl rfl (by decide) rfl rfl (ae (aS DM_cells hr (af 0 (pv 0))) (ae (aS DM_ins hr (af 0 (pv 0))) aj)) rfl)
  (du (CW (zY (fun _ _ z=>z) DIX_System hr rfl (ae (aN cj (aw D_widened hr rfl (ae (af 2 (pv 2)) (ae (aw D_noughts hr rfl (ae (af 10 (pv 10)) (ae (aS DM_cells hr (af 1 (pv 1))) aj)) (ah (ah au))) aj)) (ah (ah au))) (aw D_widened hr rfl (ae (aw D_product hr rfl (ae (af 7 (pv 7)) (ae (af 4 (pv 4)) (ae (af 10 (pv 10)) aj))) (ah (ah (ah au)))) (ae (af 6 (pv 6)) aj)) (ah (ah au)))) (ae (aN cj (af 3 (pv 3)) (aw D_product hr rfl (ae (af 7 (pv 7)) (ae (af 5 (pv 5)) (ae (af 11 (pv 11)) aj))) (ah (ah (ah au))))) (ae (aw D_widened hr rfl (ae (aw D_product hr rfl (ae (af 9 (pv 9)) (ae (af 4 (pv 4)) (ae (af 10 (pv 10)) aj))) (ah (ah (ah au)))) (ae (af 8 (pv 8)) aj)) (ah (ah au))) (ae (aw D_product hr rfl (ae (af 9 (pv 9)) (ae (af 5 (pv 5)) (ae (af 11 (pv 11)) aj))) (ah (ah (ah au)))) aj)))) (ah (ah (ah (ah au))))))))))))
abbrev lU:Stmt:=top 44
def oz (c_System:Addr) (d_apart:List T -> Option T) (dM_System__ins dM_System__outs dM_System__cells dM_System__tables:List T -> Option T) (dI_System:List T -> Option p7):FS:=
  (aO (bG (dJ (aF jI (cR (aa (bo [(c_System,dM_System__ins)] "ins" (ag 0) ai) (aa (bo [(c_System,dM_System__outs)] "outs" (ag 0) ai) (aa (bo [(c_System,dM_System__ins)] "ins" (ag 1) ai) (aa (bo [(c_System,dM_System__outs)] "outs" (ag 1) ai) ai))))) (cR (aa (fC (.int 1)) (aa (fC (.int 1)) (aa (fC (.int 1)) (aa (fC (.int 1)) ai))))))) cN bp)
  (aO (jF 2 3 (aa (bo [(c_System,dM_System__cells)] "cells" (ag 0) ai) (aa (bo [(c_System,dM_System__cells)] "cells" (ag 1) ai) ai)))
  (aO (dY (bo [(c_System,dM_System__tables)] "tables" (ag 0) ai) (cm (aB (aq 4) (aB (aq 5) (aB (aq 6) (aB (aq 7) bO))))))
  (aO (dY (bo [(c_System,dM_System__tables)] "tables" (ag 1) ai) (cm (aB (aq 8) (aB (aq 9) (aB (aq 10) (aB (aq 11) bO))))))
  (bz (kC c_System dI_System (aa (ak d_apart (aa (ag 4) (aa (ag 2) (aa (ag 8) (aa (ag 3) ai))))) (aa (ak d_apart (aa (ag 5) (aa (fC (.int 1)) (aa (ag 9) (aa (fC (.int 1)) ai))))) (aa (ak d_apart (aa (ag 6) (aa (ag 2) (aa (ag 10) (aa (ag 3) ai))))) (aa (ak d_apart (aa (ag 7) (aa (fC (.int 1)) (aa (ag 11) (aa (fC (.int 1)) ai))))) ai))))))))))
theorem bP:aP ["one", "other", "cells", "others", "move", "push", "look", "through", "other_move", "other_push", "other_look", "other_through"] ["one", "other"] (aA lU):=by walk_at "sc"
theorem AQ {c_System:Addr} {d_apart:List T -> Option T} {dM_System__ins:List T -> Option T} {dM_System__outs:List T -> Option T} {dM_System__cells:List T -> Option T} {dM_System__tables:List T -> Option T} {dI_System:List T -> Option p7} (F:eJ K "beside" "beside" lU f fd) (hb:Binds K fd ["one", "other"] []) (hm:mg "beside" = some (.ref f)) (D_apart:Def P w K mg base k "apart" 4 d_apart) (DM_ins:∀ a ∈ [(c_System,dM_System__ins)],dG P w K mg base k a.1 "ins" 1 a.2) (DM_outs:∀ a ∈ [(c_System,dM_System__outs)],dG P w K mg base k a.1 "outs" 1 a.2) (DM_cells:∀ a ∈ [(c_System,dM_System__cells)],dG P w K mg base k a.1 "cells" 1 a.2) (DM_tables:∀ a ∈ [(c_System,dM_System__tables)],dG P w K mg base k a.1 "tables" 1 a.2) (DI_System:mj P w K mg base k "System" c_System 4 dI_System) :
  Def P w K mg base (k + 1) "beside" 2 (cz 12 2 (oz c_System d_apart dM_System__ins dM_System__outs dM_System__cells dM_System__tables dI_System)):=
 bH F bP hb hm fun cdv A outer s H E hr=>(av (cZ (bX (iK hr.units) (cV (ae (aS DM_ins hr (af 0 (pv 0))) (ae (aS DM_outs hr (af 0 (pv 0))) (ae (aS DM_ins hr (af 1 (pv 1))) (ae (aS DM_outs hr (af 1 (pv 1))) aj))))) (cV (ae ar (ae ar (ae ar (ae ar aj))))) (bB _)) (aE gc) bW)
  (av (kc rfl bP.nd rfl rfl (by decide) rfl rfl (ae (aS DM_cells hr (af 0 (pv 0))) (ae (aS DM_cells hr (af 1 (pv 1))) aj)) rfl)
  (av (dF (aS DM_tables hr (af 0 (pv 0))) (cW rfl (aD (az 4 bP.nd rfl (Or.inl rfl)) (aD (az 5 bP.nd rfl (Or.inl rfl)) (aD (az 6 bP.nd rfl (Or.inl rfl)) (aD (az 7 bP.nd rfl (Or.inl rfl)) bU)))) (aG (aG (aG (aG cq))))))
  (av (dF (aS DM_tables hr (af 1 (pv 1))) (cW rfl (aD (az 8 bP.nd rfl (Or.inl rfl)) (aD (az 9 bP.nd rfl (Or.inl rfl)) (aD (az 10 bP.nd rfl (Or.inl rfl)) (aD (az 11 bP.nd rfl (Or.inl rfl)) bU)))) (aG (aG (aG (aG cq))))))
  (aE (aZ (ur DI_System hr rfl (ae (aw D_apart hr rfl (ae (af 4 (pv 4)) (ae (af 2 (pv 2)) (ae (af 8 (pv 8)) (ae (af 3 (pv 3)) aj)))) (ah (ah (ah (ah au))))) (ae (aw D_apart hr rfl (ae (af 5 (pv 5)) (ae ar (ae (af 9 (pv 9)) (ae ar aj)))) (ah (ah (ah (ah au))))) (ae (aw D_apart hr rfl (ae (af 6 (pv 6)) (ae (af 2 (pv 2)) (ae (af 10 (pv 10)) (ae (af 3 (pv 3)) aj)))) (ah (ah (ah (ah au))))) (ae (aw D_apart hr rfl (ae (af 7 (pv 7)) (ae ar (ae (af 11 (pv 11)) (ae ar aj)))) (ah (ah (ah (ah au))))) aj)))) (ah (ah (ah (ah au)))))))))))
def my (c_System c_NoFit:Addr) (d_apart:List T -> Option T) (dM_System__ins dM_System__outs dM_System__cells dM_System__tables:List T -> Option T) (dxI_System:List T -> Option Addr):FX:=
  (mE (mD (dJ (aF jI (cR (aa (bo [(c_System,dM_System__ins)] "ins" (ag 0) ai) (aa (bo [(c_System,dM_System__outs)] "outs" (ag 0) ai) (aa (bo [(c_System,dM_System__ins)] "ins" (ag 1) ai) (aa (bo [(c_System,dM_System__outs)] "outs" (ag 1) ai) ai))))) (cR (aa (fC (.int 1)) (aa (fC (.int 1)) (aa (fC (.int 1)) (aa (fC (.int 1)) ai))))))) (jG c_NoFit (aa (fC (.str "each has not one line in and one line out")) ai)) xg)
  (eX (bG (dJ (aF jI (cR (aa (bo [(c_System,dM_System__ins)] "ins" (ag 0) ai) (aa (bo [(c_System,dM_System__outs)] "outs" (ag 0) ai) (aa (bo [(c_System,dM_System__ins)] "ins" (ag 1) ai) (aa (bo [(c_System,dM_System__outs)] "outs" (ag 1) ai) ai))))) (cR (aa (fC (.int 1)) (aa (fC (.int 1)) (aa (fC (.int 1)) (aa (fC (.int 1)) ai))))))) cN bp)
  (eX (jF 2 3 (aa (bo [(c_System,dM_System__cells)] "cells" (ag 0) ai) (aa (bo [(c_System,dM_System__cells)] "cells" (ag 1) ai) ai)))
  (eX (dY (bo [(c_System,dM_System__tables)] "tables" (ag 0) ai) (cm (aB (aq 4) (aB (aq 5) (aB (aq 6) (aB (aq 7) bO))))))
  (eX (dY (bo [(c_System,dM_System__tables)] "tables" (ag 1) ai) (cm (aB (aq 8) (aB (aq 9) (aB (aq 10) (aB (aq 11) bO))))))
  (gh dxI_System (aa (ak d_apart (aa (ag 4) (aa (ag 2) (aa (ag 8) (aa (ag 3) ai))))) (aa (ak d_apart (aa (ag 5) (aa (fC (.int 1)) (aa (ag 9) (aa (fC (.int 1)) ai))))) (aa (ak d_apart (aa (ag 6) (aa (ag 2) (aa (ag 10) (aa (ag 3) ai))))) (aa (ak d_apart (aa (ag 7) (aa (fC (.int 1)) (aa (ag 11) (aa (fC (.int 1)) ai))))) ai))))))))))
theorem xX {c_System c_NoFit:Addr} {d_apart:List T -> Option T} {dM_System__ins:List T -> Option T} {dM_System__outs:List T -> Option T} {dM_System__cells:List T -> Option T} {dM_System__tables:List T -> Option T} {dxI_System:List T -> Option Addr} {up_NoFit:List Addr} (F:eJ K "beside" "beside" lU f fd) (hb:Binds K fd ["one", "other"] []) (hm:mg "beside" = some (.ref f)) (D_apart:Def P w K mg base k "apart" 4 d_apart) (DM_ins:∀ a ∈ [(c_System,dM_System__ins)],dG P w K mg base k a.1 "ins" 1 a.2) (DM_outs:∀ a ∈ [(c_System,dM_System__outs)],dG P w K mg base k a.1 "outs" 1 a.2) (DM_cells:∀ a ∈ [(c_System,dM_System__cells)],dG P w K mg base k a.1 "cells" 1 a.2) (DM_tables:∀ a ∈ [(c_System,dM_System__tables)],dG P w K mg base k a.1 "tables" 1 a.2) (DIX_System:lE P w K mg base k "System" c_System 4 dxI_System) (er_NoFit:lB K c_NoFit up_NoFit) (mc_NoFit:mg "NoFit" = some (.ref c_NoFit)) :
  ot P w K mg base (k + 1) "beside" 2 (uU 12 2 (my c_System c_NoFit d_apart dM_System__ins dM_System__outs dM_System__cells dM_System__tables dxI_System)):=
 yQ F bP hb hm fun cdv A outer s H E hr=>(yk (du (wy (fun _ _ z=>z) (bX (iK hr.units) (cV (ae (aS DM_ins hr (af 0 (pv 0))) (ae (aS DM_outs hr (af 0 (pv 0))) (ae (aS DM_ins hr (af 1 (pv 1))) (ae (aS DM_outs hr (af 1 (pv 1))) aj))))) (cV (ae ar (ae ar (ae ar (ae ar aj))))) (bB _)) (du (md rfl (fun _ _ z=>z) er_NoFit rfl mc_NoFit (ae fS aj))) uy))
  (fF (fun _ _ z=>z) (cZ (bX (iK hr.units) (cV (ae (aS DM_ins hr (af 0 (pv 0))) (ae (aS DM_outs hr (af 0 (pv 0))) (ae (aS DM_ins hr (af 1 (pv 1))) (ae (aS DM_outs hr (af 1 (pv 1))) aj))))) (cV (ae ar (ae ar (ae ar (ae ar aj))))) (bB _)) (aE gc) bW)
  (fF (fun _ _ z=>z) (kc rfl bP.nd rfl rfl (by decide) rfl rfl (ae (aS DM_cells hr (af 0 (pv 0))) (ae (aS DM_cells hr (af 1 (pv 1))) aj)) rfl)
  (fF (fun _ _ z=>z) (dF (aS DM_tables hr (af 0 (pv 0))) (cW rfl (aD (az 4 bP.nd rfl (Or.inl rfl)) (aD (az 5 bP.nd rfl (Or.inl rfl)) (aD (az 6 bP.nd rfl (Or.inl rfl)) (aD (az 7 bP.nd rfl (Or.inl rfl)) bU)))) (aG (aG (aG (aG cq))))))
  (fF (fun _ _ z=>z) (dF (aS DM_tables hr (af 1 (pv 1))) (cW rfl (aD (az 8 bP.nd rfl (Or.inl rfl)) (aD (az 9 bP.nd rfl (Or.inl rfl)) (aD (az 10 bP.nd rfl (Or.inl rfl)) (aD (az 11 bP.nd rfl (Or.inl rfl)) bU)))) (aG (aG (aG (aG cq))))))
  (du (CW (zY (fun _ _ z=>z) DIX_System hr rfl (ae (aw D_apart hr rfl (ae (af 4 (pv 4)) (ae (af 2 (pv 2)) (ae (af 8 (pv 8)) (ae (af 3 (pv 3)) aj)))) (ah (ah (ah (ah au))))) (ae (aw D_apart hr rfl (ae (af 5 (pv 5)) (ae ar (ae (af 9 (pv 9)) (ae ar aj)))) (ah (ah (ah (ah au))))) (ae (aw D_apart hr rfl (ae (af 6 (pv 6)) (ae (af 2 (pv 2)) (ae (af 10 (pv 10)) (ae (af 3 (pv 3)) aj)))) (ah (ah (ah (ah au))))) (ae (aw D_apart hr rfl (ae (af 7 (pv 7)) (ae ar (ae (af 11 (pv 11)) (ae ar aj)))) (ah (ah (ah (ah au))))) aj)))) (ah (ah (ah (ah au))))))))))))
abbrev ug:Stmt:=top 45
def nO (d_noughts d_widened:List T -> Option T):FS:=
  (bz (aF bJ (ak d_widened (aa (ag 0) (aa (ak d_noughts (aa (ak cM (aa (ag 0) ai)) (aa (ag 3) ai))) ai))) (ak d_widened (aa (ak d_noughts (aa (ak cM (aa (ag 2) ai)) (aa (ag 1) ai))) (aa (ag 2) ai)))))
theorem CO:aP ["one", "wide", "other", "other_wide"] ["one", "wide", "other", "other_wide"] (aA ug):=by walk_at "sc"
theorem Ck {d_noughts:List T -> Option T} {d_widened:List T -> Option T} (F:eJ K "apart" "apart" ug f fd) (hb:Binds K fd ["one", "wide", "other", "other_wide"] []) (hm:mg "apart" = some (.ref f)) (D_noughts:Def P w K mg base k "noughts" 2 d_noughts) (D_widened:Def P w K mg base k "widened" 2 d_widened) (m_len:mg "len" = none) :
  Def P w K mg base (k + 1) "apart" 4 (cz 4 4 (nO d_noughts d_widened)):=
 bH F CO hb hm fun cdv A outer s H E hr=>(aE (aZ (aN cj (aw D_widened hr rfl (ae (af 0 (pv 0)) (ae (aw D_noughts hr rfl (ae (bf da rfl m_len PySem.boot_len (ae (af 0 (pv 0)) aj)) (ae (af 3 (pv 3)) aj)) (ah (ah au))) aj)) (ah (ah au))) (aw D_widened hr rfl (ae (aw D_noughts hr rfl (ae (bf da rfl m_len PySem.boot_len (ae (af 2 (pv 2)) aj)) (ae (af 1 (pv 1)) aj)) (ah (ah au))) (ae (af 2 (pv 2)) aj)) (ah (ah au))))))
abbrev jN:Stmt:=top 47
def gZ:FS:=
  (aO (bG (dJ (aF Jh (ag 1) (ak cM (aa (ag 0) ai)))) (bz (aF bC (ag 0) (ag 1))) bp)
  (bz (fC (.int 0))))
theorem ui:aP ["_law_script", "_law_k"] ["_law_script", "_law_k"] (aA jN):=by walk_at "sc"
theorem tM (F:eJ K "_law_cell" "_law_cell" jN f fd) (hb:Binds K fd ["_law_script", "_law_k"] []) (hm:mg "_law_cell" = some (.ref f)) (m_len:mg "len" = none) :
  Def P w K mg base (k + 1) "_law_cell" 2 (cz 2 2 (gZ)):=
 bH F ui hb hm fun cdv A outer s H E hr=>(av (cZ (bX Cq (af 1 (pv 1)) (bf da rfl m_len PySem.boot_len (ae (af 0 (pv 0)) aj)) (bB _)) (aE (aZ (bh bj (af 0 (pv 0)) (af 1 (pv 1)) (fun _ _=>rfl)))) bW)
  (aE (aZ ar)))
abbrev jb:Stmt:=top 48
def iQ:FS:=
  (aO (bK 2 (aF df (aF bJ (aF bJ (ag 0) (aF bq (fC (.int 7919)) (ag 1))) (fC (.int 12345))) (fC (.int 2147483629))))
  (aO (bK 2 (aF df (aF bJ (aF bq (ag 2) (ag 2)) (aF bq (fC (.int 48271)) (ag 1))) (fC (.int 2147483629))))
  (bz (aF df (aF bq (ag 2) (ag 2)) (fC (.int 2147483587))))))
theorem iw:aP ["_law_cell_here", "_law_k", "_law_number"] ["_law_cell_here", "_law_k"] (aA jb):=by walk_at "sc"
theorem qr (F:eJ K "_law_mixed" "_law_mixed" jb f fd) (hb:Binds K fd ["_law_cell_here", "_law_k"] []) (hm:mg "_law_mixed" = some (.ref f)) :
  Def P w K mg base (k + 1) "_law_mixed" 2 (cz 3 2 (iQ)):=
 bH F iw hb hm fun cdv A outer s H E hr=>(av (bu 2 iw.nd rfl (Or.inl rfl) (aN dS (aN cj (aN cj (af 0 (pv 0)) (aN bT ar (af 1 (pv 1)))) ar) ar))
  (av (bu 2 iw.nd rfl (Or.inl rfl) (aN dS (aN cj (aN bT (af 2 (pv 2)) (af 2 (pv 2))) (aN bT ar (af 1 (pv 1)))) ar))
  (aE (aZ (aN dS (aN bT (af 2 (pv 2)) (af 2 (pv 2))) ar)))))
abbrev gQ:Stmt:=top 49
def gK (n:Nat):FS:=
  (aO (bK 0 (ak uR (aa (ag 0) ai)))
  (aO (bK 1 (ak uR (aa (ag 1) ai)))
  (aO (eV (dJ (aF qT (ag 1) (fC (.int 0)))) (jF 0 1 (aa (ag 1) (aa (aF df (ag 0) (ag 1)) ai))) n)
  (bz (ag 0)))))
theorem eO:aP ["_law_one", "_law_other"] ["_law_one", "_law_other"] (aA gQ):=by walk_at "sc"
theorem nG (n:Nat) (F:eJ K "_law_divisor" "_law_divisor" gQ f fd) (hb:Binds K fd ["_law_one", "_law_other"] []) (hm:mg "_law_divisor" = some (.ref f)) (m_abs:mg "abs" = none) :
  Def P w K mg base (k + 1) "_law_divisor" 2 (cz 2 2 (gK n)):=
 bH F eO hb hm fun cdv A outer s H E hr=>(av (bu 0 eO.nd rfl (Or.inl rfl) (bf rS rfl m_abs rfl (ae (af 0 (pv 0)) aj)))
  (av (bu 1 eO.nd rfl (Or.inl rfl) (bf rS rfl m_abs rfl (ae (af 1 (pv 1)) aj)))
  (av (pM n PassesOwn.never (bX pf (af 1 (pv 1)) ar (bB _)) (aE (kc rfl eO.nd rfl rfl (by decide) rfl rfl (ae (af 1 (pv 1)) (ae (aN dS (af 0 (pv 0)) (af 1 (pv 1))) aj)) rfl)))
  (aE (aZ (af 0 (pv 0)))))))
abbrev jP:Stmt:=top 50
def jw (d__law_divisor:List T -> Option T):FS:=
  (aO (bK 2 (ak d__law_divisor (aa (ag 0) (aa (ag 1) ai))))
  (bz (dR (aa (aF dc (ag 0) (ag 2)) (aa (aF dc (ag 1) (ag 2)) ai)))))
theorem lX:aP ["_law_top", "_law_bottom", "_law_by"] ["_law_top", "_law_bottom"] (aA jP):=by walk_at "sc"
theorem tP {d__law_divisor:List T -> Option T} (F:eJ K "_law_frac" "_law_frac" jP f fd) (hb:Binds K fd ["_law_top", "_law_bottom"] []) (hm:mg "_law_frac" = some (.ref f)) (D__law_divisor:Def P w K mg base k "_law_divisor" 2 d__law_divisor) :
  Def P w K mg base (k + 1) "_law_frac" 2 (cz 3 2 (jw d__law_divisor)):=
 bH F lX hb hm fun cdv A outer s H E hr=>(av (bu 2 lX.nd rfl (Or.inl rfl) (aw D__law_divisor hr rfl (ae (af 0 (pv 0)) (ae (af 1 (pv 1)) aj)) (ah (ah au))))
  (aE (aZ (eU (ae (aN cJ (af 0 (pv 0)) (af 2 (pv 2))) (ae (aN cJ (af 1 (pv 1)) (af 2 (pv 2))) aj))))))
abbrev gR:Stmt:=top 51
def fv (d__law_frac d__law_mixed:List T -> Option T):FS:=
  (aO (cH 2 ai)
  (aO (bK 3 (aF dc (ag 0) (fC (.int 2))))
  (aO (iU (cS (aa (ag 1) ai)) (aq 4) (bG (dJ (aF fX (aF df (ag 0) (fC (.int 2))) (fC (.int 1)))) (aO (lL 2 (ak d__law_frac (aa (aF sv (aF df (ag 3) (fC (.int 19))) (fC (.int 9))) (aa (aF bJ (fC (.int 1)) (aF df (aF dc (ag 3) (fC (.int 19))) (fC (.int 12)))) ai))))
  (bK 3 (aF dc (ag 3) (fC (.int 228))))) (aO (bK 5 (ak d__law_mixed (aa (ag 0) (aa (ag 4) ai))))
  (aO (bK 6 (aF df (ag 5) (fC (.int 4))))
  (aO (lL 2 (aF bC (cR (aa (dR (aa (fC (.int 0)) (aa (fC (.int 1)) ai))) (aa (dR (aa (aF sv (aF df (aF dc (ag 5) (fC (.int 4))) (fC (.int 3))) (fC (.int 1))) (aa (fC (.int 1)) ai))) (aa (dR (aa (fC (.int 1)) (aa (fC (.int 2)) ai))) (aa (dR (aa (fC (.int 0)) (aa (fC (.int 1)) ai))) ai))))) (ag 6)))
  (bG (dJ (aF fX (ag 6) (fC (.int 2)))) (eQ 2 (ak d__law_frac (aa (aF sv (aF df (aF dc (ag 5) (fC (.int 4))) (fC (.int 19))) (fC (.int 9))) (aa (aF bJ (fC (.int 1)) (aF df (aF dc (ag 5) (fC (.int 76))) (fC (.int 12)))) ai))) (uF xi (fC (.int 1)))) bp))))))
  (bz (ag 2)))))
theorem cK:aP ["_law_cell_here", "_law_many", "_law_found", "_law_rest", "_law_k", "_law_number", "_law_kind"] ["_law_cell_here", "_law_many"] (aA gR):=by walk_at "sc"
theorem nI {d__law_frac:List T -> Option T} {d__law_mixed:List T -> Option T} (F:eJ K "_law_numbers" "_law_numbers" gR f fd) (hb:Binds K fd ["_law_cell_here", "_law_many"] []) (hm:mg "_law_numbers" = some (.ref f)) (D__law_frac:Def P w K mg base k "_law_frac" 2 d__law_frac) (D__law_mixed:Def P w K mg base k "_law_mixed" 2 d__law_mixed) (m_range:mg "range" = none) :
  Def P w K mg base (k + 1) "_law_numbers" 2 (cz 7 2 (fv d__law_frac d__law_mixed)):=
 bH F cK hb hm fun cdv A outer s H E hr=>(av (gG 2 cK.nd rfl (Or.inl rfl) aj)
  (av (bu 3 cK.nd rfl (Or.inl rfl) (aN cJ (af 0 (pv 0)) ar))
  (av (ll PassesOwn.never rfl (ic rfl m_range (ae (af 1 (pv 1)) aj)) (az 4 cK.nd rfl (Or.inl rfl)) (aE (cZ (bX (gb hr.units) (aN dS (af 0 (pv 0)) ar) ar (bB _)) (av (mX 2 (pv 2) (aw D__law_frac hr rfl (ae (aN yb (aN dS (af 3 (pv 3)) ar) ar) (ae (aN cj ar (aN dS (aN cJ (af 3 (pv 3)) ar) ar)) aj)) (ah (ah au))))
  (aE (bu 3 cK.nd rfl (Or.inl rfl) (aN cJ (af 3 (pv 3)) ar)))) (av (bu 5 cK.nd rfl (Or.inl rfl) (aw D__law_mixed hr rfl (ae (af 0 (pv 0)) (ae (af 4 (pv 4)) aj)) (ah (ah au))))
  (av (bu 6 cK.nd rfl (Or.inl rfl) (aN dS (af 5 (pv 5)) ar))
  (av (mX 2 (pv 2) (bh bj (cV (ae (eU (ae ar (ae ar aj))) (ae (eU (ae (aN yb (aN dS (aN cJ (af 5 (pv 5)) ar) ar) ar) (ae ar aj))) (ae (eU (ae ar (ae ar aj))) (ae (eU (ae ar (ae ar aj))) aj))))) (af 6 (pv 6)) (fun _ _=>rfl)))
  (aE (cZ (bX (gb hr.units) (af 6 (pv 6)) ar (bB _)) (aE (ma 2 (pv 2) (aw D__law_frac hr rfl (ae (aN yb (aN dS (aN cJ (af 5 (pv 5)) ar) ar) ar) (ae (aN cj ar (aN dS (aN cJ (af 5 (pv 5)) ar) ar)) aj)) (ah (ah au))) (Gu C9 ar))) bW))))))))
  (aE (aZ (af 2 (pv 2)))))))
theorem oX:(["_law_k", "_law_numbers_here", "_law_wide"]:List Str).Nodup:=by decide +kernel
abbrev jU:Stmt:=top 52
def hV:FS:=
  (bz (dg 1 [0,2] (cS (aa (ag 1) ai)) (aq 0) aL (ly (ag 1) (cQ (aF bq (ag 2) (ag 0))) (cQ (aF bJ (aF bq (ag 2) (ag 0)) (ag 2))))))
theorem um:aP ["_law_numbers_here", "_law_many", "_law_wide"] ["_law_numbers_here", "_law_many", "_law_wide"] (aA jU):=by walk_at "sc"
theorem tW (F:eJ K "_law_rows" "_law_rows" jU f fd) (hb:Binds K fd ["_law_numbers_here", "_law_many", "_law_wide"] []) (hm:mg "_law_rows" = some (.ref f)) (m_range:mg "range" = none) :
  Def P w K mg base (k + 1) "_law_rows" 3 (cz 3 3 (hV)):=
 bH F um hb hm fun cdv A outer s H E hr=>(aE (aZ (cT (N':=["_law_k", "_law_numbers_here", "_law_wide"]) (no:=1) (cap:=[0,2]) rfl rfl (aY rfl) rfl (cI rfl) (ic rfl m_range (ae (af 1 (pv 1)) aj)) (fun _ _ _ _ _ _=>(az 0 oX rfl (Or.inl rfl))) (fun _ _ _ _ _ _=>ck) (fun _ _ _ _ _ _=>(dN (af 1 (pv 1)) (eE (aN bT (af 2 (pv 2)) (af 0 (pv 0)))) (eE (aN cj (aN bT (af 2 (pv 2)) (af 0 (pv 0))) (af 2 (pv 2)))))))))
abbrev jO:Stmt:=top 53
def hG (d__law_numbers d__law_rows:List T -> Option T):FS:=
  (aO (bK 4 (ak d__law_numbers (aa (ag 0) (aa (aF bJ (aF bJ (aF bJ (aF bq (ag 1) (ag 1)) (aF bq (ag 1) (ag 2))) (aF bq (ag 3) (ag 1))) (aF bq (ag 3) (ag 2))) ai))))
  (aO (bK 5 (ak d__law_rows (aa (ag 4) (aa (ag 1) (aa (ag 1) ai)))))
  (aO (bK 4 (ly (ag 4) (cQ (aF bq (ag 1) (ag 1))) bY))
  (aO (bK 6 (ak d__law_rows (aa (ag 4) (aa (ag 1) (aa (ag 2) ai)))))
  (aO (bK 4 (ly (ag 4) (cQ (aF bq (ag 1) (ag 2))) bY))
  (aO (bK 7 (ak d__law_rows (aa (ag 4) (aa (ag 3) (aa (ag 1) ai)))))
  (bz (cR (aa (ag 5) (aa (ag 6) (aa (ag 7) (aa (ak d__law_rows (aa (ly (ag 4) (cQ (aF bq (ag 3) (ag 1))) bY) (aa (ag 3) (aa (ag 2) ai)))) ai))))))))))))
theorem dE:aP ["_law_cell_here", "_law_many", "_law_ins", "_law_outs", "_law_numbers_here", "_law_move", "_law_push", "_law_look"] ["_law_cell_here", "_law_many", "_law_ins", "_law_outs"] (aA jO):=by walk_at "sc"
theorem tN {d__law_numbers:List T -> Option T} {d__law_rows:List T -> Option T} (F:eJ K "_law_four" "_law_four" jO f fd) (hb:Binds K fd ["_law_cell_here", "_law_many", "_law_ins", "_law_outs"] []) (hm:mg "_law_four" = some (.ref f)) (D__law_numbers:Def P w K mg base k "_law_numbers" 2 d__law_numbers) (D__law_rows:Def P w K mg base k "_law_rows" 3 d__law_rows) :
  Def P w K mg base (k + 1) "_law_four" 4 (cz 8 4 (hG d__law_numbers d__law_rows)):=
 bH F dE hb hm fun cdv A outer s H E hr=>(av (bu 4 dE.nd rfl (Or.inl rfl) (aw D__law_numbers hr rfl (ae (af 0 (pv 0)) (ae (aN cj (aN cj (aN cj (aN bT (af 1 (pv 1)) (af 1 (pv 1))) (aN bT (af 1 (pv 1)) (af 2 (pv 2)))) (aN bT (af 3 (pv 3)) (af 1 (pv 1)))) (aN bT (af 3 (pv 3)) (af 2 (pv 2)))) aj)) (ah (ah au))))
  (av (bu 5 dE.nd rfl (Or.inl rfl) (aw D__law_rows hr rfl (ae (af 4 (pv 4)) (ae (af 1 (pv 1)) (ae (af 1 (pv 1)) aj))) (ah (ah (ah au)))))
  (av (bu 4 dE.nd rfl (Or.inl rfl) (dN (af 4 (pv 4)) (eE (aN bT (af 1 (pv 1)) (af 1 (pv 1)))) fE))
  (av (bu 6 dE.nd rfl (Or.inl rfl) (aw D__law_rows hr rfl (ae (af 4 (pv 4)) (ae (af 1 (pv 1)) (ae (af 2 (pv 2)) aj))) (ah (ah (ah au)))))
  (av (bu 4 dE.nd rfl (Or.inl rfl) (dN (af 4 (pv 4)) (eE (aN bT (af 1 (pv 1)) (af 2 (pv 2)))) fE))
  (av (bu 7 dE.nd rfl (Or.inl rfl) (aw D__law_rows hr rfl (ae (af 4 (pv 4)) (ae (af 3 (pv 3)) (ae (af 1 (pv 1)) aj))) (ah (ah (ah au)))))
  (aE (aZ (cV (ae (af 5 (pv 5)) (ae (af 6 (pv 6)) (ae (af 7 (pv 7)) (ae (aw D__law_rows hr rfl (ae (dN (af 4 (pv 4)) (eE (aN bT (af 3 (pv 3)) (af 1 (pv 1)))) fE) (ae (af 3 (pv 3)) (ae (af 2 (pv 2)) aj))) (ah (ah (ah au)))) aj)))))))))))))
abbrev jT:Stmt:=top 54
def hU (d__law_frac:List T -> Option T):FS:=
  (bz (ak d__law_frac (aa (aF bJ (aF bq (aF bC (ag 0) (fC (.int 0))) (aF bC (ag 1) (fC (.int 1)))) (aF bq (aF bC (ag 1) (fC (.int 0))) (aF bC (ag 0) (fC (.int 1))))) (aa (aF bq (aF bC (ag 0) (fC (.int 1))) (aF bC (ag 1) (fC (.int 1)))) ai))))
theorem uk:aP ["_law_one", "_law_other"] ["_law_one", "_law_other"] (aA jT):=by walk_at "sc"
theorem tV {d__law_frac:List T -> Option T} (F:eJ K "_law_plus" "_law_plus" jT f fd) (hb:Binds K fd ["_law_one", "_law_other"] []) (hm:mg "_law_plus" = some (.ref f)) (D__law_frac:Def P w K mg base k "_law_frac" 2 d__law_frac) :
  Def P w K mg base (k + 1) "_law_plus" 2 (cz 2 2 (hU d__law_frac)):=
 bH F uk hb hm fun cdv A outer s H E hr=>(aE (aZ (aw D__law_frac hr rfl (ae (aN cj (aN bT (bh bj (af 0 (pv 0)) ar (fun _ _=>rfl)) (bh bj (af 1 (pv 1)) ar (fun _ _=>rfl))) (aN bT (bh bj (af 1 (pv 1)) ar (fun _ _=>rfl)) (bh bj (af 0 (pv 0)) ar (fun _ _=>rfl)))) (ae (aN bT (bh bj (af 0 (pv 0)) ar (fun _ _=>rfl)) (bh bj (af 1 (pv 1)) ar (fun _ _=>rfl))) aj)) (ah (ah au)))))
abbrev gS:Stmt:=top 55
def fy (d__law_frac d__law_plus:List T -> Option T):FS:=
  (aO (bK 2 (dR (aa (fC (.int 0)) (aa (fC (.int 1)) ai))))
  (aO (iU (gq (aa (ag 0) (aa (ag 1) ai))) (cm (aB (aq 3) (aB (aq 4) bO))) (bK 2 (ak d__law_plus (aa (ag 2) (aa (ak d__law_frac (aa (aF bq (aF bC (ag 3) (fC (.int 0))) (aF bC (ag 4) (fC (.int 0)))) (aa (aF bq (aF bC (ag 3) (fC (.int 1))) (aF bC (ag 4) (fC (.int 1)))) ai))) ai)))))
  (bz (ag 2))))
theorem dM:aP ["_law_row", "_law_other", "_law_total", "_law_here", "_law_there"] ["_law_row", "_law_other"] (aA gS):=by walk_at "sc"
theorem nJ {d__law_frac:List T -> Option T} {d__law_plus:List T -> Option T} (F:eJ K "_law_weighed" "_law_weighed" gS f fd) (hb:Binds K fd ["_law_row", "_law_other"] []) (hm:mg "_law_weighed" = some (.ref f)) (D__law_frac:Def P w K mg base k "_law_frac" 2 d__law_frac) (D__law_plus:Def P w K mg base k "_law_plus" 2 d__law_plus) (m_zip:mg "zip" = none) :
  Def P w K mg base (k + 1) "_law_weighed" 2 (cz 5 2 (fy d__law_frac d__law_plus)):=
 bH F dM hb hm fun cdv A outer s H E hr=>(av (bu 2 dM.nd rfl (Or.inl rfl) (eU (ae ar (ae ar aj))))
  (av (ll PassesOwn.never rfl (pH rfl m_zip (ae (af 0 (pv 0)) (ae (af 1 (pv 1)) aj))) (cW rfl (aD (az 3 dM.nd rfl (Or.inl rfl)) (aD (az 4 dM.nd rfl (Or.inl rfl)) bU)) (aG (aG cq))) (aE (bu 2 dM.nd rfl (Or.inl rfl) (aw D__law_plus hr rfl (ae (af 2 (pv 2)) (ae (aw D__law_frac hr rfl (ae (aN bT (bh bj (af 3 (pv 3)) ar (fun _ _=>rfl)) (bh bj (af 4 (pv 4)) ar (fun _ _=>rfl))) (ae (aN bT (bh bj (af 3 (pv 3)) ar (fun _ _=>rfl)) (bh bj (af 4 (pv 4)) ar (fun _ _=>rfl))) aj)) (ah (ah au))) aj)) (ah (ah au))))))
  (aE (aZ (af 2 (pv 2))))))
theorem ql:(["_law_line", "_law_row"]:List Str).Nodup:=by decide +kernel
abbrev kX:Stmt:=top 56
def iP (d__law_weighed:List T -> Option T):FS:=
  (bz (dg 1 [1] (bI (ag 0)) (aq 0) aL (ak d__law_weighed (aa (ag 0) (aa (ag 1) ai)))))
theorem wj:aP ["_law_table", "_law_row"] ["_law_table", "_law_row"] (aA kX):=by walk_at "sc"
theorem vU {d__law_weighed:List T -> Option T} (F:eJ K "_law_led" "_law_led" kX f fd) (hb:Binds K fd ["_law_table", "_law_row"] []) (hm:mg "_law_led" = some (.ref f)) (D__law_weighed:Def P w K mg base k "_law_weighed" 2 d__law_weighed) :
  Def P w K mg base (k + 1) "_law_led" 2 (cz 2 2 (iP d__law_weighed)):=
 bH F wj hb hm fun cdv A outer s H E hr=>(aE (aZ (cT (N':=["_law_line", "_law_row"]) (no:=1) (cap:=[1]) rfl rfl (aY rfl) rfl (cI rfl) (dU (af 0 (pv 0))) (fun _ _ _ _ _ _=>(az 0 ql rfl (Or.inl rfl))) (fun _ _ _ _ _ _=>ck) (fun _ _ _ _ _ _=>(aw D__law_weighed hr rfl (ae (af 0 (pv 0)) (ae (af 1 (pv 1)) aj)) (ah (ah au)))))))
theorem jm:(["_law_here", "_law_there"]:List Str).Nodup:=by decide +kernel
abbrev iZ:Stmt:=top 57
def gz (d__law_plus:List T -> Option T):FS:=
  (bz (dg 2 [] (gq (aa (ag 0) (aa (ag 1) ai))) (cm (aB (aq 0) (aB (aq 1) bO))) aL (ak d__law_plus (aa (ag 0) (aa (ag 1) ai)))))
theorem qx:aP ["_law_one", "_law_other"] ["_law_one", "_law_other"] (aA iZ):=by walk_at "sc"
theorem qo {d__law_plus:List T -> Option T} (F:eJ K "_law_added" "_law_added" iZ f fd) (hb:Binds K fd ["_law_one", "_law_other"] []) (hm:mg "_law_added" = some (.ref f)) (D__law_plus:Def P w K mg base k "_law_plus" 2 d__law_plus) (m_zip:mg "zip" = none) :
  Def P w K mg base (k + 1) "_law_added" 2 (cz 2 2 (gz d__law_plus)):=
 bH F qx hb hm fun cdv A outer s H E hr=>(aE (aZ (cT (N':=["_law_here", "_law_there"]) (no:=2) (cap:=[]) rfl rfl (aY rfl) rfl (cI rfl) (pH rfl m_zip (ae (af 0 (pv 0)) (ae (af 1 (pv 1)) aj))) (fun _ _ _ _ _ _=>(cW rfl (aD (az 0 jm rfl (Or.inl rfl)) (aD (az 1 jm rfl (Or.inl rfl)) bU)) (aG (aG cq)))) (fun _ _ _ _ _ _=>ck) (fun _ _ _ _ _ _=>(aw D__law_plus hr rfl (ae (af 0 (pv 0)) (ae (af 1 (pv 1)) aj)) (ah (ah au)))))))
abbrev jV:Stmt:=top 58
def hW (d__law_led d__law_added:List T -> Option T):FS:=
  (aO (dY (ag 0) (kE (aB (aq 3) (aB (aq 4) (aB (aq 5) (aB (aq 6) bO))))))
  (aO (bK 7 (ak d__law_added (aa (ak d__law_led (aa (ag 5) (aa (ag 1) ai))) (aa (ak d__law_led (aa (ag 6) (aa (ag 2) ai))) ai))))
  (bz (cR (aa (ag 7) (aa (ak d__law_added (aa (ak d__law_led (aa (ag 3) (aa (ag 1) ai))) (aa (ak d__law_led (aa (ag 4) (aa (ag 2) ai))) ai))) ai))))))
theorem eD:aP ["_law_four_here", "_law_state", "_law_given", "_law_move", "_law_push", "_law_look", "_law_through", "_law_output"] ["_law_four_here", "_law_state", "_law_given"] (aA jV):=by walk_at "sc"
theorem tX {d__law_led:List T -> Option T} {d__law_added:List T -> Option T} (F:eJ K "_law_turn" "_law_turn" jV f fd) (hb:Binds K fd ["_law_four_here", "_law_state", "_law_given"] []) (hm:mg "_law_turn" = some (.ref f)) (D__law_led:Def P w K mg base k "_law_led" 2 d__law_led) (D__law_added:Def P w K mg base k "_law_added" 2 d__law_added) :
  Def P w K mg base (k + 1) "_law_turn" 3 (cz 8 3 (hW d__law_led d__law_added)):=
 bH F eD hb hm fun cdv A outer s H E hr=>(av (dF (af 0 (pv 0)) (lj rfl (aD (az 3 eD.nd rfl (Or.inl rfl)) (aD (az 4 eD.nd rfl (Or.inl rfl)) (aD (az 5 eD.nd rfl (Or.inl rfl)) (aD (az 6 eD.nd rfl (Or.inl rfl)) bU)))) (aG (aG (aG (aG cq))))))
  (av (bu 7 eD.nd rfl (Or.inl rfl) (aw D__law_added hr rfl (ae (aw D__law_led hr rfl (ae (af 5 (pv 5)) (ae (af 1 (pv 1)) aj)) (ah (ah au))) (ae (aw D__law_led hr rfl (ae (af 6 (pv 6)) (ae (af 2 (pv 2)) aj)) (ah (ah au))) aj)) (ah (ah au))))
  (aE (aZ (cV (ae (af 7 (pv 7)) (ae (aw D__law_added hr rfl (ae (aw D__law_led hr rfl (ae (af 3 (pv 3)) (ae (af 1 (pv 1)) aj)) (ah (ah au))) (ae (aw D__law_led hr rfl (ae (af 4 (pv 4)) (ae (af 2 (pv 2)) aj)) (ah (ah au))) aj)) (ah (ah au))) aj)))))))
theorem nD:(["_law_place", "_law_k"]:List Str).Nodup:=by decide +kernel
abbrev jd:Stmt:=top 59
def gC:FS:=
  (aO (cH 1 (aa (aF vi (cR (aa (dR (aa (fC (.int 0)) (aa (fC (.int 1)) ai))) ai)) (ag 0)) ai))
  (aO (iU (cS (aa (ag 0) ai)) (aq 2) (lL 1 (dg 1 [2] (cS (aa (ag 0) ai)) (aq 0) aL (dR (aa (ak nu (aa (aF fX (ag 0) (ag 1)) ai)) (aa (fC (.int 1)) ai))))))
  (bz (ag 1))))
theorem iz:aP ["_law_many", "_law_found", "_law_k"] ["_law_many"] (aA jd):=by walk_at "sc"
theorem qu (F:eJ K "_law_units" "_law_units" jd f fd) (hb:Binds K fd ["_law_many"] []) (hm:mg "_law_units" = some (.ref f)) (m_range:mg "range" = none) (m_int:mg "int" = none) :
  Def P w K mg base (k + 1) "_law_units" 1 (cz 3 1 (gC)):=
 bH F iz hb hm fun cdv A outer s H E hr=>(av (gG 1 iz.nd rfl (Or.inl rfl) (ae (aN HL (cV (ae (eU (ae ar (ae ar aj))) aj)) (af 0 (pv 0))) aj))
  (av (ll PassesOwn.never rfl (ic rfl m_range (ae (af 0 (pv 0)) aj)) (az 2 iz.nd rfl (Or.inr rfl)) (aE (mX 1 (pv 1) (cT (N':=["_law_place", "_law_k"]) (no:=1) (cap:=[2]) rfl rfl (aY rfl) rfl (cI rfl) (ic rfl m_range (ae (af 0 (pv 0)) aj)) (fun _ _ _ _ _ _=>(az 0 nD rfl (Or.inl rfl))) (fun _ _ _ _ _ _=>ck) (fun _ _ _ _ _ _=>(eU (ae (dP wW rfl m_int rfl (ae (jY (gb hr.units) (af 0 (pv 0)) (af 1 (pv 1)) (bB _)) aj)) (ae ar aj))))))))
  (aE (aZ (af 1 (pv 1))))))
theorem nB:(["_law_state", "_law_ins"]:List Str).Nodup:=by decide +kernel
theorem nC:(["_law_given", "_law_many"]:List Str).Nodup:=by decide +kernel
abbrev ja:Stmt:=top 60
def gA (d__law_units:List T -> Option T):FS:=
  (aO (iI 2 1 [1] (bI (ak d__law_units (aa (ag 0) ai))) (aq 0) aL (dR (aa (ag 0) (aa (aF bC (ak d__law_units (aa (ag 1) ai)) (fC (.int 0))) ai))))
  (bz (aF bJ (ag 2) (dg 1 [0] (bI (ak d__law_units (aa (ag 1) ai))) (aq 0) aL (dR (aa (aF bC (ak d__law_units (aa (ag 1) ai)) (fC (.int 0))) (aa (ag 0) ai)))))))
theorem kG:aP ["_law_many", "_law_ins", "_law_units_here"] ["_law_many", "_law_ins"] (aA ja):=by walk_at "sc"
theorem qq {d__law_units:List T -> Option T} (F:eJ K "_law_cases" "_law_cases" ja f fd) (hb:Binds K fd ["_law_many", "_law_ins"] []) (hm:mg "_law_cases" = some (.ref f)) (D__law_units:Def P w K mg base k "_law_units" 1 d__law_units) :
  Def P w K mg base (k + 1) "_law_cases" 2 (cz 3 2 (gA d__law_units)):=
 bH F kG hb hm fun cdv A outer s H E hr=>(av (pL kG.nd rfl rfl (N':=["_law_state", "_law_ins"]) (no:=1) (cap:=[1]) rfl rfl (aY rfl) rfl (cI rfl) (dU (aw D__law_units hr rfl (ae (af 0 (pv 0)) aj) (ah au))) (fun _ _ _ _ _ _=>(az 0 nB rfl (Or.inl rfl))) (fun _ _ _ _ _ _=>ck) (fun _ _ _ _ _ _=>(eU (ae (af 0 (pv 0)) (ae (bh bj (aw D__law_units hr rfl (ae (af 1 (pv 1)) aj) (ah au)) ar (fun _ _=>rfl)) aj)))))
  (aE (aZ (aN cj (af 2 (pv 2)) (cT (N':=["_law_given", "_law_many"]) (no:=1) (cap:=[0]) rfl rfl (aY rfl) rfl (cI rfl) (dU (aw D__law_units hr rfl (ae (af 1 (pv 1)) aj) (ah au))) (fun _ _ _ _ _ _=>(az 0 nC rfl (Or.inl rfl))) (fun _ _ _ _ _ _=>ck) (fun _ _ _ _ _ _=>(eU (ae (bh bj (aw D__law_units hr rfl (ae (af 1 (pv 1)) aj) (ah au)) ar (fun _ _=>rfl)) (ae (af 0 (pv 0)) aj)))))))))
abbrev jc:Stmt:=top 61
def gB:FS:=
  (aO (bK 2 (aF df (ag 0) (fC (.int 4))))
  (aO (bG (eR (ag 1)) (bK 2 (aF bJ (fC (.int 4)) (aF df (aF dc (ag 0) (fC (.int 16))) (fC (.int 2))))) bp)
  (bz (cR (aa (ag 2) (aa (aF bJ (fC (.int 1)) (aF df (aF dc (ag 0) (fC (.int 4))) (fC (.int 2)))) (aa (aF bJ (fC (.int 1)) (aF df (aF dc (ag 0) (fC (.int 8))) (fC (.int 2)))) ai)))))))
theorem iy:aP ["_law_cell_here", "_law_large", "_law_many"] ["_law_cell_here", "_law_large"] (aA jc):=by walk_at "sc"
theorem qt (F:eJ K "_law_shape" "_law_shape" jc f fd) (hb:Binds K fd ["_law_cell_here", "_law_large"] []) (hm:mg "_law_shape" = some (.ref f)) :
  Def P w K mg base (k + 1) "_law_shape" 2 (cz 3 2 (gB)):=
 bH F iy hb hm fun cdv A outer s H E hr=>(av (bu 2 iy.nd rfl (Or.inl rfl) (aN dS (af 0 (pv 0)) ar))
  (av (cZ (gY (af 1 (pv 1))) (aE (bu 2 iy.nd rfl (Or.inl rfl) (aN cj ar (aN dS (aN cJ (af 0 (pv 0)) ar) ar)))) bW)
  (aE (aZ (cV (ae (af 2 (pv 2)) (ae (aN cj ar (aN dS (aN cJ (af 0 (pv 0)) ar) ar)) (ae (aN cj ar (aN dS (aN cJ (af 0 (pv 0)) ar) ar)) aj))))))))
abbrev jR:Stmt:=top 62
def hJ (c_System:Addr) (dI_System:List T -> Option p7):FS:=
  (bz (kC c_System dI_System (aa (aF bC (ag 0) (fC (.int 0))) (aa (aF bC (ag 0) (fC (.int 1))) (aa (aF bC (ag 0) (fC (.int 2))) (aa (aF bC (ag 0) (fC (.int 3))) ai))))))
theorem uj:aP ["_law_four_here"] ["_law_four_here"] (aA jR):=by walk_at "sc"
theorem tR {c_System:Addr} {dI_System:List T -> Option p7} (F:eJ K "_law_made" "_law_made" jR f fd) (hb:Binds K fd ["_law_four_here"] []) (hm:mg "_law_made" = some (.ref f)) (DI_System:mj P w K mg base k "System" c_System 4 dI_System) :
  Def P w K mg base (k + 1) "_law_made" 1 (cz 1 1 (hJ c_System dI_System)):=
 bH F uj hb hm fun cdv A outer s H E hr=>(aE (aZ (ur DI_System hr rfl (ae (bh bj (af 0 (pv 0)) ar (fun _ _=>rfl)) (ae (bh bj (af 0 (pv 0)) ar (fun _ _=>rfl)) (ae (bh bj (af 0 (pv 0)) ar (fun _ _=>rfl)) (ae (bh bj (af 0 (pv 0)) ar (fun _ _=>rfl)) aj)))) (ah (ah (ah (ah au)))))))
abbrev jW:Stmt:=top 63
def jz (c_EchoError c_NoFit c_TooMany:Addr) (d_in_row d_beside:List T -> Option T) (dx_in_row dx_beside:List T -> Option Addr):FS:=
  (aO (cH 3 (aa (fC .non) (aa (fC (.str "")) ai)))
  (aO (vf 4 [c_NoFit,c_TooMany] (bG (dJ (aF fX (ag 0) (fC (.int 0)))) (eQ 3 (ak d_in_row (aa (ag 1) (aa (ag 2) ai))) (fC (.int 0))) (eQ 3 (ak d_beside (aa (ag 1) (aa (ag 2) ai))) (fC (.int 0))))
  (mD (dJ (aF fX (ag 0) (fC (.int 0)))) (gh dx_in_row (aa (ag 1) (aa (ag 2) ai))) (gh dx_beside (aa (ag 1) (aa (ag 2) ai))))
  (eQ 3 (aF bJ (aF bC (cR (aa (fC (.str "")) (aa (fC (.str "fit")) ai))) (ak nu (aa (kB [(c_NoFit,true),(c_TooMany,false)] (ag 4)) ai))) (aF bC (cR (aa (fC (.str "")) (aa (fC (.str "many")) ai))) (ak nu (aa (kB [(c_NoFit,false),(c_TooMany,true)] (ag 4)) ai)))) (fC (.int 1))))
  (bz (ag 3))))
theorem je:aP ["_law_way", "_law_one", "_law_other", "_law_found", "e"] ["_law_way", "_law_one", "_law_other"] (aA jW):=by walk_at "sc"
theorem tY {c_EchoError c_NoFit c_TooMany:Addr} {d_in_row:List T -> Option T} {d_beside:List T -> Option T} {dx_in_row:List T -> Option Addr} {dx_beside:List T -> Option Addr} (F:eJ K "_law_word" "_law_word" jW f fd) (hb:Binds K fd ["_law_way", "_law_one", "_law_other"] []) (hm:mg "_law_word" = some (.ref f)) (D_in_row:Def P w K mg base k "in_row" 2 d_in_row) (D_beside:Def P w K mg base k "beside" 2 d_beside) (DX_in_row:ot P w K mg base k "in_row" 2 dx_in_row) (DX_beside:ot P w K mg base k "beside" 2 dx_beside) (cx_EchoError:iB K c_EchoError vE) (hE_EchoError:∀ C ∈ [c_NoFit,c_TooMany],∃ up,lB K C up /\ (c_EchoError=C \/ c_EchoError ∈ up)) (hix_NoFit:∀ a ∈ [(c_NoFit,true),(c_TooMany,false)],An K c_NoFit a.1 a.2) (hix_TooMany:∀ a ∈ [(c_NoFit,false),(c_TooMany,true)],An K c_TooMany a.1 a.2) (mc_EchoError:mg "EchoError" = some (.ref c_EchoError)) (mc_NoFit:mg "NoFit" = some (.ref c_NoFit)) (mc_TooMany:mg "TooMany" = some (.ref c_TooMany)) (m_isinstance:mg "isinstance" = none) (m_int:mg "int" = none) :
  Def P w K mg base (k + 1) "_law_word" 3 (cz 5 3 (jz c_EchoError c_NoFit c_TooMany d_in_row d_beside dx_in_row dx_beside)):=
 bH F je hb hm fun cdv A outer s H E hr=>(av (gG 3 je.nd rfl (Or.inl rfl) (ae Iz (ae fS aj)))
  (av (IH (iE:=4) (tbl:=[c_NoFit,c_TooMany]) (fun _ _ z=>z) rfl rfl je.nd rfl rfl rfl rfl mc_EchoError cx_EchoError (by decide +kernel) hE_EchoError
  (aE (cZ (bX (gb hr.units) (af 0 (pv 0)) ar (bB _)) (aE (ma 3 (pv 3) (aw D_in_row hr rfl (ae (af 1 (pv 1)) (ae (af 2 (pv 2)) aj)) (ah (ah au))) ar)) (aE (ma 3 (pv 3) (aw D_beside hr rfl (ae (af 1 (pv 1)) (ae (af 2 (pv 2)) aj)) (ah (ah au))) ar))))
  (du (wy (fun _ _ z=>z) (bX (gb hr.units) (af 0 (pv 0)) ar (bB _)) (du (CV (zX (fun _ _ z=>z) DX_in_row hr rfl (ae (af 1 (pv 1)) (ae (af 2 (pv 2)) aj)) (ah (ah au))))) (du (CV (zX (fun _ _ z=>z) DX_beside hr rfl (ae (af 1 (pv 1)) (ae (af 2 (pv 2)) aj)) (ah (ah au)))))))
  (fun _=>(aE (ma 3 (pv 3) (aN cj (bh bj (cV (ae fS (ae fS aj))) (dP wW rfl m_int rfl (ae (zN hix_NoFit rfl m_isinstance rfl mc_NoFit (af 4 (pv 4))) aj)) (fun _ _=>rfl)) (bh bj (cV (ae fS (ae fS aj))) (dP wW rfl m_int rfl (ae (zN hix_TooMany rfl m_isinstance rfl mc_TooMany (af 4 (pv 4))) aj)) (fun _ _=>rfl))) ar))))
  (aE (aZ (af 3 (pv 3))))))
abbrev jM:Stmt:=top 64
def fV (d__law_turn:List T -> Option T):FS:=
  (aO (bK 5 (ak cM (aa (aF bC (ag 1) (fC (.int 0))) ai)))
  (aO (bG (dJ (aF fX (ag 0) (fC (.int 0)))) (aO (dY (ak d__law_turn (aa (ag 1) (aa (ly (ag 3) bY (cQ (ag 5))) (aa (ag 4) ai)))) (kE (aB (aq 6) (aB (aq 7) bO))))
  (aO (dY (ak d__law_turn (aa (ag 2) (aa (ly (ag 3) (cQ (ag 5)) bY) (aa (ag 6) ai)))) (kE (aB (aq 8) (aB (aq 9) bO))))
  (bz (cR (aa (ag 8) (aa (aF bJ (ag 7) (ag 9)) ai)))))) bp)
  (aO (dY (ak d__law_turn (aa (ag 1) (aa (ly (ag 3) bY (cQ (ag 5))) (aa (ly (ag 4) bY (cQ (fC (.int 1)))) ai)))) (kE (aB (aq 6) (aB (aq 7) bO))))
  (aO (dY (ak d__law_turn (aa (ag 2) (aa (ly (ag 3) (cQ (ag 5)) bY) (aa (ly (ag 4) (cQ (fC (.int 1))) bY) ai)))) (kE (aB (aq 8) (aB (aq 9) bO))))
  (bz (cR (aa (aF bJ (ag 6) (ag 8)) (aa (aF bJ (ag 7) (ag 9)) ai))))))))
theorem cF:aP ["_law_way", "_law_one", "_law_other", "_law_state", "_law_given", "_law_many", "_law_output", "_law_end", "_law_last", "_law_behind"] ["_law_way", "_law_one", "_law_other", "_law_state", "_law_given"] (aA jM):=by walk_at "sc"
theorem tL {d__law_turn:List T -> Option T} (F:eJ K "_law_both" "_law_both" jM f fd) (hb:Binds K fd ["_law_way", "_law_one", "_law_other", "_law_state", "_law_given"] []) (hm:mg "_law_both" = some (.ref f)) (D__law_turn:Def P w K mg base k "_law_turn" 3 d__law_turn) (m_len:mg "len" = none) :
  Def P w K mg base (k + 1) "_law_both" 5 (cz 10 5 (fV d__law_turn)):=
 bH F cF hb hm fun cdv A outer s H E hr=>(av (bu 5 cF.nd rfl (Or.inl rfl) (bf da rfl m_len PySem.boot_len (ae (bh bj (af 1 (pv 1)) ar (fun _ _=>rfl)) aj)))
  (av (cZ (bX (gb hr.units) (af 0 (pv 0)) ar (bB _)) (av (dF (aw D__law_turn hr rfl (ae (af 1 (pv 1)) (ae (dN (af 3 (pv 3)) fE (eE (af 5 (pv 5)))) (ae (af 4 (pv 4)) aj))) (ah (ah (ah au)))) (lj rfl (aD (az 6 cF.nd rfl (Or.inl rfl)) (aD (az 7 cF.nd rfl (Or.inl rfl)) bU)) (aG (aG cq))))
  (av (dF (aw D__law_turn hr rfl (ae (af 2 (pv 2)) (ae (dN (af 3 (pv 3)) (eE (af 5 (pv 5))) fE) (ae (af 6 (pv 6)) aj))) (ah (ah (ah au)))) (lj rfl (aD (az 8 cF.nd rfl (Or.inl rfl)) (aD (az 9 cF.nd rfl (Or.inl rfl)) bU)) (aG (aG cq))))
  (aE (aZ (cV (ae (af 8 (pv 8)) (ae (aN cj (af 7 (pv 7)) (af 9 (pv 9))) aj))))))) bW)
  (av (dF (aw D__law_turn hr rfl (ae (af 1 (pv 1)) (ae (dN (af 3 (pv 3)) fE (eE (af 5 (pv 5)))) (ae (dN (af 4 (pv 4)) fE (eE ar)) aj))) (ah (ah (ah au)))) (lj rfl (aD (az 6 cF.nd rfl (Or.inl rfl)) (aD (az 7 cF.nd rfl (Or.inl rfl)) bU)) (aG (aG cq))))
  (av (dF (aw D__law_turn hr rfl (ae (af 2 (pv 2)) (ae (dN (af 3 (pv 3)) (eE (af 5 (pv 5))) fE) (ae (dN (af 4 (pv 4)) (eE ar) fE) aj))) (ah (ah (ah au)))) (lj rfl (aD (az 8 cF.nd rfl (Or.inl rfl)) (aD (az 9 cF.nd rfl (Or.inl rfl)) bU)) (aG (aG cq))))
  (aE (aZ (cV (ae (aN cj (af 6 (pv 6)) (af 8 (pv 8))) (ae (aN cj (af 7 (pv 7)) (af 9 (pv 9))) aj)))))))))
abbrev jQ:Stmt:=top 65
def jx (c_System:Addr) (d__law_cases d__law_turn d__law_both:List T -> Option T) (dM_System__cells dM_System__ins dM_System__outs dM_System__tables:List T -> Option T):FS:=
  (aO (cH 4 (aa (aF bJ (ak cM (aa (aF bC (ag 2) (fC (.int 0))) ai)) (ak cM (aa (aF bC (ag 3) (fC (.int 0))) ai))) (aa (ak cM (aa (aF bC (aF bC (ag 2) (fC (.int 3))) (fC (.int 0))) ai)) (aa (ak cM (aa (aF bC (ag 3) (fC (.int 3))) ai)) ai))))
  (aO (bG (dJ (aF fX (ag 0) (fC (.int 1)))) (cH 4 (aa (aF bC (ag 4) (fC (.int 0))) (aa (fC (.int 2)) (aa (fC (.int 2)) ai)))) bp)
  (aO (bG (dJ (aF jI (cR (aa (bo [(c_System,dM_System__cells)] "cells" (ag 1) ai) (aa (bo [(c_System,dM_System__ins)] "ins" (ag 1) ai) (aa (bo [(c_System,dM_System__outs)] "outs" (ag 1) ai) ai)))) (ag 4))) (bz (fC (.bl false))) bp)
  (aO (iU (bI (ak d__law_cases (aa (aF bC (ag 4) (fC (.int 0))) (aa (aF bC (ag 4) (fC (.int 1))) ai)))) (cm (aB (aq 5) (aB (aq 6) bO))) (bG (dJ (aF jI (ak d__law_turn (aa (bo [(c_System,dM_System__tables)] "tables" (ag 1) ai) (aa (ag 5) (aa (ag 6) ai)))) (ak d__law_both (aa (ag 0) (aa (ag 2) (aa (ag 3) (aa (ag 5) (aa (ag 6) ai)))))))) (bz (fC (.bl false))) bp))
  (bz (fC (.bl true)))))))
theorem fB:aP ["_law_way", "_law_found", "_law_one", "_law_other", "_law_shape_here", "_law_state", "_law_given"] ["_law_way", "_law_found", "_law_one", "_law_other"] (aA jQ):=by walk_at "sc"
theorem tQ {c_System:Addr} {d__law_cases:List T -> Option T} {d__law_turn:List T -> Option T} {d__law_both:List T -> Option T} {dM_System__cells:List T -> Option T} {dM_System__ins:List T -> Option T} {dM_System__outs:List T -> Option T} {dM_System__tables:List T -> Option T} (F:eJ K "_law_good" "_law_good" jQ f fd) (hb:Binds K fd ["_law_way", "_law_found", "_law_one", "_law_other"] []) (hm:mg "_law_good" = some (.ref f)) (D__law_cases:Def P w K mg base k "_law_cases" 2 d__law_cases) (D__law_turn:Def P w K mg base k "_law_turn" 3 d__law_turn) (D__law_both:Def P w K mg base k "_law_both" 5 d__law_both) (DM_cells:∀ a ∈ [(c_System,dM_System__cells)],dG P w K mg base k a.1 "cells" 1 a.2) (DM_ins:∀ a ∈ [(c_System,dM_System__ins)],dG P w K mg base k a.1 "ins" 1 a.2) (DM_outs:∀ a ∈ [(c_System,dM_System__outs)],dG P w K mg base k a.1 "outs" 1 a.2) (DM_tables:∀ a ∈ [(c_System,dM_System__tables)],dG P w K mg base k a.1 "tables" 1 a.2) (m_len:mg "len" = none) :
  Def P w K mg base (k + 1) "_law_good" 4 (cz 7 4 (jx c_System d__law_cases d__law_turn d__law_both dM_System__cells dM_System__ins dM_System__outs dM_System__tables)):=
 bH F fB hb hm fun cdv A outer s H E hr=>(av (gG 4 fB.nd rfl (Or.inl rfl) (ae (aN cj (bf da rfl m_len PySem.boot_len (ae (bh bj (af 2 (pv 2)) ar (fun _ _=>rfl)) aj)) (bf da rfl m_len PySem.boot_len (ae (bh bj (af 3 (pv 3)) ar (fun _ _=>rfl)) aj))) (ae (bf da rfl m_len PySem.boot_len (ae (bh bj (bh bj (af 2 (pv 2)) ar (fun _ _=>rfl)) ar (fun _ _=>rfl)) aj)) (ae (bf da rfl m_len PySem.boot_len (ae (bh bj (af 3 (pv 3)) ar (fun _ _=>rfl)) aj)) aj))))
  (av (cZ (bX (gb hr.units) (af 0 (pv 0)) ar (bB _)) (aE (gG 4 fB.nd rfl (Or.inl rfl) (ae (bh bj (af 4 (pv 4)) ar (fun _ _=>rfl)) (ae ar (ae ar aj))))) bW)
  (av (cZ (bX (iK hr.units) (cV (ae (aS DM_cells hr (af 1 (pv 1))) (ae (aS DM_ins hr (af 1 (pv 1))) (ae (aS DM_outs hr (af 1 (pv 1))) aj)))) (af 4 (pv 4)) (bB _)) (aE (aZ kH)) bW)
  (av (ll PassesOwn.never rfl (dU (aw D__law_cases hr rfl (ae (bh bj (af 4 (pv 4)) ar (fun _ _=>rfl)) (ae (bh bj (af 4 (pv 4)) ar (fun _ _=>rfl)) aj)) (ah (ah au)))) (cW rfl (aD (az 5 fB.nd rfl (Or.inl rfl)) (aD (az 6 fB.nd rfl (Or.inl rfl)) bU)) (aG (aG cq))) (aE (cZ (bX (iK hr.units) (aw D__law_turn hr rfl (ae (aS DM_tables hr (af 1 (pv 1))) (ae (af 5 (pv 5)) (ae (af 6 (pv 6)) aj))) (ah (ah (ah au)))) (aw D__law_both hr rfl (ae (af 0 (pv 0)) (ae (af 2 (pv 2)) (ae (af 3 (pv 3)) (ae (af 5 (pv 5)) (ae (af 6 (pv 6)) aj))))) (ah (ah (ah (ah (ah au)))))) (bB _)) (aE (aZ kH)) bW)))
  (aE (aZ kH))))))
abbrev jS:Stmt:=top 66
def jy (d__law_word d__law_good:List T -> Option T):FS:=
  (aO (dY (ag 1) (kE (aB (aq 3) (aB (aq 4) bO))))
  (aO (iU (cS (aa (fC (.int 2)) ai)) (aq 5) (aO (bK 6 (fC (.str "")))
  (aO (bG (dJ (aF qT (aF bJ (aF bC (ag 3) (fC (.int 0))) (aF bC (ag 4) (fC (.int 0)))) (fC (.int 8)))) (bK 6 (fC (.str "many"))) bp)
  (aO (bG (qd (nv (dJ (aF fX (ag 5) (fC (.int 0)))) (dJ (aF jI (aF bC (ag 3) (fC (.int 2))) (aF bC (ag 4) (fC (.int 1)))))) (nv (dJ (aF fX (ag 5) (fC (.int 1)))) (dJ (aF jI (aF bJ (ly (ag 3) (cQ (fC (.int 1))) bY) (ly (ag 4) (cQ (fC (.int 1))) bY)) (cR (aa (fC (.int 1)) (aa (fC (.int 1)) (aa (fC (.int 1)) (aa (fC (.int 1)) ai))))))))) (bK 6 (fC (.str "fit"))) bp)
  (aO (dY (ak d__law_word (aa (ag 5) (aa (aF bC (ag 0) (fC (.int 0))) (aa (aF bC (ag 0) (fC (.int 1))) ai)))) (kE (aB (aq 7) (aB (aq 8) bO))))
  (bG (qd (dJ (aF jI (ag 8) (ag 6))) (nv (dJ (aF fX (ag 6) (fC (.str "")))) (eu (eR (ak d__law_good (aa (ag 5) (aa (ag 7) (aa (aF bC (ag 2) (fC (.int 0))) (aa (aF bC (ag 2) (fC (.int 1))) ai))))))))) (bz (fC (.bl false))) bp))))))
  (bz (fC (.bl true)))))
theorem cO:aP ["_law_systems", "_law_shapes", "_law_fours", "_law_shape_here", "_law_more", "_law_way", "_law_due", "_law_found", "_law_word_here"] ["_law_systems", "_law_shapes", "_law_fours"] (aA jS):=by walk_at "sc"
theorem tU {d__law_word:List T -> Option T} {d__law_good:List T -> Option T} (F:eJ K "_law_pair" "_law_pair" jS f fd) (hb:Binds K fd ["_law_systems", "_law_shapes", "_law_fours"] []) (hm:mg "_law_pair" = some (.ref f)) (D__law_word:Def P w K mg base k "_law_word" 3 d__law_word) (D__law_good:Def P w K mg base k "_law_good" 4 d__law_good) (m_range:mg "range" = none) :
  Def P w K mg base (k + 1) "_law_pair" 3 (cz 9 3 (jy d__law_word d__law_good)):=
 bH F cO hb hm fun cdv A outer s H E hr=>(av (dF (af 1 (pv 1)) (lj rfl (aD (az 3 cO.nd rfl (Or.inl rfl)) (aD (az 4 cO.nd rfl (Or.inl rfl)) bU)) (aG (aG cq))))
  (av (ll PassesOwn.never rfl (ic rfl m_range (ae ar aj)) (az 5 cO.nd rfl (Or.inl rfl)) (av (bu 6 cO.nd rfl (Or.inl rfl) fS)
  (av (cZ (bX pf (aN cj (bh bj (af 3 (pv 3)) ar (fun _ _=>rfl)) (bh bj (af 4 (pv 4)) ar (fun _ _=>rfl))) ar (bB _)) (aE (bu 6 cO.nd rfl (Or.inl rfl) fS)) bW)
  (av (cZ (SW.st (rd (SW.st (yj (bX (gb hr.units) (af 5 (pv 5)) ar (bB _)) (ux (bX (iK hr.units) (bh bj (af 3 (pv 3)) ar (fun _ _=>rfl)) (bh bj (af 4 (pv 4)) ar (fun _ _=>rfl)) (bB _))))) (pN (SW.st (yj (bX (gb hr.units) (af 5 (pv 5)) ar (bB _)) (ux (bX (iK hr.units) (aN cj (dN (af 3 (pv 3)) (eE ar) fE) (dN (af 4 (pv 4)) (eE ar) fE)) (cV (ae ar (ae ar (ae ar (ae ar aj))))) (bB _)))))))) (aE (bu 6 cO.nd rfl (Or.inl rfl) fS)) bW)
  (av (dF (aw D__law_word hr rfl (ae (af 5 (pv 5)) (ae (bh bj (af 0 (pv 0)) ar (fun _ _=>rfl)) (ae (bh bj (af 0 (pv 0)) ar (fun _ _=>rfl)) aj))) (ah (ah (ah au)))) (lj rfl (aD (az 7 cO.nd rfl (Or.inl rfl)) (aD (az 8 cO.nd rfl (Or.inl rfl)) bU)) (aG (aG cq))))
  (aE (cZ (SW.st (rd (bX (iK hr.units) (af 8 (pv 8)) (af 6 (pv 6)) (bB _)) (pN (SW.st (yj (bX (gb hr.units) (af 6 (pv 6)) fS (bB _)) (ux (gm (gY (aw D__law_good hr rfl (ae (af 5 (pv 5)) (ae (af 7 (pv 7)) (ae (bh bj (af 2 (pv 2)) ar (fun _ _=>rfl)) (ae (bh bj (af 2 (pv 2)) ar (fun _ _=>rfl)) aj)))) (ah (ah (ah (ah au))))))))))))) (aE (aZ kH)) bW)))))))
  (aE (aZ kH))))
end
open PySem PySem.Spec PyProof.Rows L2 TM
abbrev qX:Stmt:=top 67
def qC (c_System:Addr) (d__law_cell d__law_shape d__law_four d__law_made d__law_pair:List T -> Option T) (dM_System__tables:List T -> Option T):FS:=
  (aO (bK 1 (aF fX (aF df (aF dc (ak d__law_cell (aa (ag 0) (aa (fC (.int 0)) ai))) (fC (.int 32))) (fC (.int 8))) (fC (.int 1))))
  (aO (bK 2 (ak d__law_shape (aa (ak d__law_cell (aa (ag 0) (aa (fC (.int 0)) ai))) (aa (ag 1) ai))))
  (aO (bK 3 (ak d__law_shape (aa (ak d__law_cell (aa (ag 0) (aa (fC (.int 1)) ai))) (aa (ag 1) ai))))
  (aO (bK 4 (ak d__law_four (aa (ak d__law_cell (aa (ag 0) (aa (fC (.int 2)) ai))) (aa (aF bC (ag 2) (fC (.int 0))) (aa (aF bC (ag 2) (fC (.int 1))) (aa (aF bC (ag 2) (fC (.int 2))) ai))))))
  (aO (bK 5 (ak d__law_four (aa (ak d__law_cell (aa (ag 0) (aa (fC (.int 3)) ai))) (aa (aF bC (ag 3) (fC (.int 0))) (aa (aF bC (ag 3) (fC (.int 1))) (aa (aF bC (ag 3) (fC (.int 2))) ai))))))
  (aO (cH 6 (aa (ak d__law_made (aa (ag 4) ai)) (aa (ak d__law_made (aa (ag 5) ai)) ai)))
  (aO (bG (eu (eR (ak d__law_pair (aa (ag 6) (aa (cR (aa (ag 2) (aa (ag 3) ai))) (aa (cR (aa (ag 4) (aa (ag 5) ai))) ai)))))) (bz (fC (.bl false))) bp)
  (aO (bG (eu (eR (ak d__law_pair (aa (cR (aa (aF bC (ag 6) (fC (.int 0))) (aa (aF bC (ag 6) (fC (.int 0))) ai))) (aa (cR (aa (ag 2) (aa (ag 2) ai))) (aa (cR (aa (ag 4) (aa (ag 4) ai))) ai)))))) (bz (fC (.bl false))) bp)
  (bz (eW (aF fX (ak dList (aa (bo [(c_System,dM_System__tables)] "tables" (aF bC (ag 6) (fC (.int 0))) ai) ai)) (ag 4)) (aF fX (ak dList (aa (bo [(c_System,dM_System__tables)] "tables" (aF bC (ag 6) (fC (.int 1))) ai) ai)) (ag 5))))))))))))
theorem lb:aP ["_law_script", "_law_large", "_law_shape_here", "_law_more", "_law_one", "_law_other", "_law_systems"] ["_law_script"] (aA qX):=by walk_at "sc"
theorem G8 {P:Program} {w:World} {K:PySem.W.Frag} {mg:Str -> Option Value} {base:Heap} {k:Nat} {f:Addr} {fd:FuncData} {c_System:Addr} {d__law_cell:List T -> Option T} {d__law_shape:List T -> Option T} {d__law_four:List T -> Option T} {d__law_made:List T -> Option T} {d__law_pair:List T -> Option T} {dM_System__tables:List T -> Option T} (F:eJ K "law" "law" qX f fd) (D__law_cell:Def P w K mg base k "_law_cell" 2 d__law_cell) (D__law_shape:Def P w K mg base k "_law_shape" 2 d__law_shape) (D__law_four:Def P w K mg base k "_law_four" 4 d__law_four) (D__law_made:Def P w K mg base k "_law_made" 1 d__law_made) (D__law_pair:Def P w K mg base k "_law_pair" 3 d__law_pair) (DM_tables:∀ a ∈ [(c_System,dM_System__tables)],dG P w K mg base k a.1 "tables" 1 a.2) (m_list:mg "list" = none) :
  fJ P w K mg base pX (k + 1) f fd ["_law_script"] (spT K 1 (cz 7 1 (qC c_System d__law_cell d__law_shape d__law_four d__law_made d__law_pair dM_System__tables))):=
 DN F lb fun cdv A outer s H E hr=>(av (bu 1 lb.nd rfl (Or.inl rfl) (jY (gb hr.units) (aN dS (aN cJ (aw D__law_cell hr rfl (ae (af 0 (pv 0)) (ae ar aj)) (ah (ah au))) ar) ar) ar (bB _)))
  (av (bu 2 lb.nd rfl (Or.inl rfl) (aw D__law_shape hr rfl (ae (aw D__law_cell hr rfl (ae (af 0 (pv 0)) (ae ar aj)) (ah (ah au))) (ae (af 1 (pv 1)) aj)) (ah (ah au))))
  (av (bu 3 lb.nd rfl (Or.inl rfl) (aw D__law_shape hr rfl (ae (aw D__law_cell hr rfl (ae (af 0 (pv 0)) (ae ar aj)) (ah (ah au))) (ae (af 1 (pv 1)) aj)) (ah (ah au))))
  (av (bu 4 lb.nd rfl (Or.inl rfl) (aw D__law_four hr rfl (ae (aw D__law_cell hr rfl (ae (af 0 (pv 0)) (ae ar aj)) (ah (ah au))) (ae (bh bj (af 2 (pv 2)) ar (fun _ _=>rfl)) (ae (bh bj (af 2 (pv 2)) ar (fun _ _=>rfl)) (ae (bh bj (af 2 (pv 2)) ar (fun _ _=>rfl)) aj)))) (ah (ah (ah (ah au))))))
  (av (bu 5 lb.nd rfl (Or.inl rfl) (aw D__law_four hr rfl (ae (aw D__law_cell hr rfl (ae (af 0 (pv 0)) (ae ar aj)) (ah (ah au))) (ae (bh bj (af 3 (pv 3)) ar (fun _ _=>rfl)) (ae (bh bj (af 3 (pv 3)) ar (fun _ _=>rfl)) (ae (bh bj (af 3 (pv 3)) ar (fun _ _=>rfl)) aj)))) (ah (ah (ah (ah au))))))
  (av (gG 6 lb.nd rfl (Or.inl rfl) (ae (aw D__law_made hr rfl (ae (af 4 (pv 4)) aj) (ah au)) (ae (aw D__law_made hr rfl (ae (af 5 (pv 5)) aj) (ah au)) aj)))
  (av (cZ (gm (gY (aw D__law_pair hr rfl (ae (af 6 (pv 6)) (ae (cV (ae (af 2 (pv 2)) (ae (af 3 (pv 3)) aj))) (ae (cV (ae (af 4 (pv 4)) (ae (af 5 (pv 5)) aj))) aj))) (ah (ah (ah au)))))) (aE (aZ kH)) bW)
  (av (cZ (gm (gY (aw D__law_pair hr rfl (ae (cV (ae (bh bj (af 6 (pv 6)) ar (fun _ _=>rfl)) (ae (bh bj (af 6 (pv 6)) ar (fun _ _=>rfl)) aj))) (ae (cV (ae (af 2 (pv 2)) (ae (af 2 (pv 2)) aj))) (ae (cV (ae (af 4 (pv 4)) (ae (af 4 (pv 4)) aj))) aj))) (ah (ah (ah au)))))) (aE (aZ kH)) bW)
  (aE (aZ (gk (jY (gb hr.units) (dP rT rfl m_list rfl (ae (aS DM_tables hr (bh bj (af 6 (pv 6)) ar (fun _ _=>rfl))) aj)) (af 4 (pv 4)) (bB _)) (mT (jY (gb hr.units) (dP rT rfl m_list rfl (ae (aS DM_tables hr (bh bj (af 6 (pv 6)) ar (fun _ _=>rfl))) aj)) (af 5 (pv 5)) (bB _))))))))))))))
open PySem PySem.Spec PyProof.Rows L2 TM
theorem L6:(17:Nat) ≤ sizeLine:=cg (by decide)
theorem Na:(6:Nat) < sizeLine:=iL (by decide)
theorem BM {a b c d:Int}:fX (.tup [.int a,.int b]) (.tup [.int c,.int d])=some (.bl (decide (a=c) && decide (b=d))):=by
 have e:fX (.tup [.int a,.int b]) (.tup [.int c,.int d])=some (.bl ((a == c) && ((b == d) && true))):=rfl
 rw [e,Bool.and_true,Bool.beq_eq_decide_eq,Bool.beq_eq_decide_eq]
theorem AE {x y:Bool}:fX (.lst [.bl x,.bl y]) (.lst [.bl x,.bl y])=some (.bl true):=by
 have e:fX (.lst [.bl x,.bl y]) (.lst [.bl x,.bl y])=some (.bl ((x == x) && ((y == y) && true))):=rfl
 rw [e,beq_self_eq_true,beq_self_eq_true]
 rfl
theorem me:∀ (n:Nat) (u:Option Sl) (x y:Nat),y < n -> eV (dJ (aF jI (ag 1) (fC (.int 0)))) (jF 0 1 (aa (ag 1) (aa (aF df (ag 0) (ag 1)) ai))) n [some (.sh (.int x)),some (.sh (.int y)),u]
  = some (.nx [some (.sh (.int (Nat.gcd x y))),some (.sh (.int 0)),u])
 | 0,_,_,_,h=>by omega
 | n + 1,u,x,y,h=>by
  unfold eV
  by_cases hy:y=0
  ·subst hy
   have h0:((0:Nat):Int)=0:=rfl
   walk_at "ev"
   simp
  ·have hy':¬ ((y:Int)=0):=by omega
   have hm:Int.fmod (x:Int) (y:Int)=((x % y:Nat):Int):=by rw [Int.fmod_eq_emod_of_nonneg _ (by omega)]; rfl
   have hg:Nat.gcd x y=Nat.gcd y (x % y):=by rw [Nat.gcd_comm x y,Nat.gcd_rec y x,Nat.gcd_comm]
   have ih:=me n u y (x % y) (by have:=Nat.mod_lt x (Nat.pos_of_ne_zero hy); omega)
   rw [hg]
   clear hg h hy
   walk_at "ev"
theorem Dc {ft:FT} {fb:FS} {τ τ':aJ} {n:Nat} (h:ft τ=some (false,τ')) (hn:0 < n):eV ft fb n τ=some (.nx τ'):=by
 obtain ⟨m,rfl⟩:∃ m,n=m + 1:=⟨n - 1,by omega⟩
 unfold eV
 rw [h]
 rfl
theorem Jn:0 < B:=by decide +kernel
theorem bits_le {x:Int} (h:x.natAbs < B):¬ ((Builtin.Int.intBits x:Int) > 4000):=by
 unfold Builtin.Int.intBits
 by_cases h0:x=0
 ·subst h0; decide
 ·rw [if_neg (by simpa using h0)]
  have:x.natAbs.log2 < 4000:=(Nat.log2_lt (by omega)).mpr h
  omega
def dA:List T -> Option T
 | [.int a,.int b]=>if a.natAbs < B /\ b.natAbs < B then some (.int (Int.gcd a b)) else none
 | _=>none
theorem ef {a b:Int} (ha:a.natAbs < B) (hb:b.natAbs < B):dA [.int a,.int b]=some (.int (Int.gcd a b)):=if_pos ⟨ha,hb⟩
theorem A8 (ts:List T) (t:T) (h:dA ts=some t):cz 3 2 (oA B (fun _=>none)) ts=some t:=by
 unfold dA at h
 split at h
 ·next a b =>
  split at h
  ·next hb =>
   cases h
   have hw:=me B none a.natAbs b.natAbs (hb.2)
   have hbits:=bits_le (x:=((b.natAbs:Nat):Int)) (by simpa using hb.2)
   have hgt:qT (.int (Builtin.Int.intBits ((b.natAbs:Nat):Int))) (.int 4000)=some (.bl false):=by
    show some (T.bl (decide _))=_
    rw [decide_eq_false hbits]
   have hno:eV (dJ (aF qT (uF jl (ag 1)) (fC (.int 4000)))) (aO (jF 0 1 (aa (ag 1) (aa (aF df (ag 0) (ag 1)) ai))) (bG (dJ (aF qT (uF jl (ag 1)) (fC (.int 4000)))) (dY (ak (fun _=>none) (aa (ag 0) (aa (ag 1) ai))) (cm (aB (aq 0) (aB (aq 1) (aB (aq 2) bO))))) bp)) B [some (.sh (.int (a.natAbs:Nat))),some (.sh (.int (b.natAbs:Nat))),none]
     = some (.nx [some (.sh (.int (a.natAbs:Nat))),some (.sh (.int (b.natAbs:Nat))),none]):=Dc (by
      clear hw hbits
      walk_at "ev") Jn
   unfold cz oA
   clear hb hbits hgt
   walk_at "ev"
   rfl
  ·cases h
 ·cases h
def sg (a b:Int):Int:=if b < 0 then -(Int.gcd a b:Int) else (Int.gcd a b:Int)
def sr (a b:Int):T:=.tup [.int (a.fdiv (sg a b)),.int (b.fdiv (sg a b))]
def vK:List T -> Option T
 | [.int a,.int b]=>if a.natAbs < B /\ b.natAbs < B /\ b ≠ 0 then some (sr a b) else none
 | _=>none
theorem Ca {a b:Int} (ha:a.natAbs < B) (hb:b.natAbs < B) (h0:b ≠ 0):vK [.int a,.int b]=some (sr a b):=if_pos ⟨ha,hb,h0⟩
theorem BR {a b:Int} (h0:b ≠ 0):¬ ((Int.gcd a b:Nat):Int)=0:=by
 intro h
 have:Int.gcd a b=0:=by omega
 rw [Int.gcd_eq_zero_iff] at this
 exact h0 this.2
theorem qU {a b:Int} (hb:b.natAbs < B) (h0:b ≠ 0):Int.gcd a b < B:=by
 have h1:Int.gcd a b ∣ b.natAbs:=Int.gcd_dvd_natAbs_right a b
 have:=Nat.le_of_dvd (by omega) h1
 omega
theorem Bq {x:Int} (h:x.natAbs < B):Jh (.int (Builtin.Int.intBits x)) (.int 8000)=some (.bl true):=by
 show some (T.bl (decide _))=_
 rw [decide_eq_true (by have:=bits_le h; omega)]
theorem EY (ts:List T) (t:T) (h:vK ts=some t):cz 3 2 (wL dA) ts=some t:=by
 unfold vK at h
 split at h
 ·next a b =>
  split at h
  ·next hb =>
   cases h
   obtain ⟨ha,hb,h0⟩:=hb
   have h1:=ef ha hb
   have h2:=BR (a:=a) h0
   have h3:=qU (a:=a) hb h0
   have h4:((Int.gcd a b:Nat):Int).natAbs < B:=by omega
   have h5:¬ -((Int.gcd a b:Nat):Int)=0:=by omega
   have h6:(-((Int.gcd a b:Nat):Int)).natAbs < B:=by omega
   have h7:=Bq h4
   have h8:=Bq h6
   unfold cz wL
   by_cases hs:b < 0
   ·have e:sr a b=.tup [.int (a.fdiv (-(Int.gcd a b:Int))),.int (b.fdiv (-(Int.gcd a b:Int)))]:=by unfold sr sg; rw [if_pos hs]
    walk_at "ev"
   ·have e:sr a b=.tup [.int (a.fdiv (Int.gcd a b:Int)),.int (b.fdiv (Int.gcd a b:Int))]:=by unfold sr sg; rw [if_neg hs]
    walk_at "ev"
  ·cases h
 ·cases h
open PySem PySem.Spec PyProof.Rows L2 TM Qm
def C:Nat:=2 ^ 1000
theorem LD:C * C + C * C < B:=by decide +kernel
theorem CB:C < B:=by decide +kernel
theorem Fm:0 < C:=by decide +kernel
theorem ltB {a:Int} (h:a.natAbs < C):a.natAbs < B:=Nat.lt_trans h CB
theorem mulC {a b:Int} (ha:a.natAbs < C) (hb:b.natAbs < C):(a * b).natAbs < C * C:=by
 rw [Int.natAbs_mul]
 exact Nat.mul_lt_mul'' ha hb
theorem LO {a b c d:Int} (ha:a.natAbs < C) (hb:b.natAbs < C) (hc:c.natAbs < C) (hd:d.natAbs < C):(a * b + c * d).natAbs < B:=by
 have h1:=mulC ha hb
 have h2:=mulC hc hd
 have h3:=LD
 omega
theorem iV {a g:Int} (h:g ∣ a) (hg:g ≠ 0):(a.fdiv g).natAbs ≤ a.natAbs:=by
 obtain ⟨x,rfl⟩:=h
 rw [Int.mul_fdiv_cancel_left x hg,Int.natAbs_mul]
 exact Nat.le_mul_of_pos_left _ (by omega)
structure Fr (a b:Int):Prop where
 pos:0 < b
 cop:iC a b
 ba:a.natAbs < C
 bb:b.natAbs < C
theorem su {a b:Int} (h:0 < b):sr a b=.tup [.int (a.fdiv (Int.gcd a b)),.int (b.fdiv (Int.gcd a b))]:=by
 unfold sr sg
 rw [if_neg (by omega)]
def two:List T -> Option (Int × Int × Int × Int)
 | [.tup [.int a,.int b],.tup [.int c,.int d]]=>some (a,b,c,d)
 | _=>none
theorem IQ {ts:List T} {a b c d:Int} (h:two ts=some (a,b,c,d)):ts=[.tup [.int a,.int b],.tup [.int c,.int d]]:=by
 unfold two at h
 split at h
 ·cases h; rfl
 ·cases h
instance (a b:Int):Decidable (Fr a b):=decidable_of_iff (0 < b /\ Int.gcd a b=1 /\ a.natAbs < C /\ b.natAbs < C) ⟨fun h=>⟨h.1,h.2.1,h.2.2.1,h.2.2.2⟩,fun h=>⟨h.pos,h.cop,h.ba,h.bb⟩⟩
def Ea (C:Int -> Int -> Int -> Int -> Bool) (g:Int -> Int -> Int -> Int -> T):List T -> Option T:=fun ts=>(two ts).bind fun p=>if Fr p.1 p.2.1 /\ Fr p.2.2.1 p.2.2.2 /\ C p.1 p.2.1 p.2.2.1 p.2.2.2=true then some (g p.1 p.2.1 p.2.2.1 p.2.2.2) else none
theorem vL {C:Int -> Int -> Int -> Int -> Bool} {g:Int -> Int -> Int -> Int -> T} {ts:List T} {t:T} (h:Ea C g ts=some t):∃ a b c d,ts=[.tup [.int a,.int b],.tup [.int c,.int d]] /\ Fr a b /\ Fr c d /\ C a b c d=true /\ t=g a b c d:=by
 obtain ⟨⟨a,b,c,d⟩,e,h⟩:=bind_some h
 dsimp only at h
 split at h
 ·next k=>cases h; exact ⟨a,b,c,d,IQ e,k.1,k.2.1,k.2.2,rfl⟩
 ·cases h
theorem zF {C:Int -> Int -> Int -> Int -> Bool} {g:Int -> Int -> Int -> Int -> T} {a b c d:Int} (h1:Fr a b) (h2:Fr c d) (h3:C a b c d=true):Ea C g [.tup [.int a,.int b],.tup [.int c,.int d]]=some (g a b c d):=if_pos ⟨h1,h2,h3⟩
abbrev Ji:=Ea (fun _ _ _ _=>true) fun a b c d=>sr (a * d + c * b) (b * d)
abbrev Kd:=Ea (fun _ _ _ _=>true) fun a b c d=>sr (a * c) (b * d)
theorem EZ (ts:List T) (t:T) (h:Ji ts=some t):cz 5 2 (wM dA) ts=some t:=by
 obtain ⟨a,b,c,d,rfl,h1,h2,_,rfl⟩:=vL h
 clear h
 obtain ⟨pb,cb,ba,bb⟩:=h1
 obtain ⟨pd,cd,bc,bd⟩:=h2
 obtain ⟨q1,q2,q3,q4⟩:=Im pb pd cb cd _ _ _ rfl rfl rfl
 have v1:((Int.gcd b d:Nat):Int) ∣ b:=Int.gcd_dvd_left b d
 have v2:((Int.gcd b d:Nat):Int) ∣ d:=Int.gcd_dvd_right b d
 have n1:=iV v1 q3
 have n2:=iV v2 q3
 have g1:Int.gcd b d < B:=qU (ltB bd) (by omega)
 have g1':((Int.gcd b d:Nat):Int).natAbs < B:=by omega
 generalize hs:((Int.gcd b d:Nat):Int)=s at *
 have tb:(a * d.fdiv s + c * b.fdiv s).natAbs < B:=LO ba (by omega) bc (by omega)
 have g2:Int.gcd (a * d.fdiv s + c * b.fdiv s) s < B:=qU g1' q3
 have v3:((Int.gcd (a * d.fdiv s + c * b.fdiv s) s:Nat):Int) ∣ d:=Int.dvd_trans (Int.gcd_dvd_right _ _) v2
 have n3:=iV v3 q4
 have k1:=ef (ltB bb) (ltB bd)
 have k2:=ef tb g1'
 rw [hs] at k1
 have e:sr (a * d + c * b) (b * d)=.tup [.int ((a * d.fdiv s + c * b.fdiv s).fdiv (Int.gcd (a * d.fdiv s + c * b.fdiv s) s:Nat)),.int (b.fdiv s * d.fdiv (Int.gcd (a * d.fdiv s + c * b.fdiv s) s:Nat))]:=by
  rw [su (Int.mul_pos pb pd),q1,q2]
 have g2':((Int.gcd (a * d.fdiv s + c * b.fdiv s) s:Nat):Int).natAbs < B:=by omega
 generalize hl:((Int.gcd (a * d.fdiv s + c * b.fdiv s) s:Nat):Int)=l at *
 have w1:=ltB ba
 have w2:=ltB bc
 have cb':=CB
 have w3:(d.fdiv s).natAbs < B:=by omega
 have w4:(b.fdiv s).natAbs < B:=by omega
 have w5:(d.fdiv l).natAbs < B:=by omega
 clear q1 q2 v1 v2 n1 n2 n3 v3 cb cd ba bb bc bd pb pd hs hl g1 g2 cb'
 unfold cz wM
 walk_at "ev"
theorem CT (ts:List T) (t:T) (h:Kd ts=some t):cz 4 2 (rK dA) ts=some t:=by
 obtain ⟨a,b,c,d,rfl,h1,h2,_,rfl⟩:=vL h
 clear h
 obtain ⟨pb,cb,ba,bb⟩:=h1
 obtain ⟨pd,cd,bc,bd⟩:=h2
 obtain ⟨q1,q2,q3,q4⟩:=Fb pb pd cb cd _ _ rfl rfl
 have n1:=iV (Int.gcd_dvd_left a d) q3
 have n2:=iV (Int.gcd_dvd_right a d) q3
 have n3:=iV (Int.gcd_dvd_left c b) q4
 have n4:=iV (Int.gcd_dvd_right c b) q4
 have g1:Int.gcd a d < B:=qU (ltB bd) (by omega)
 have g2:Int.gcd c b < B:=qU (ltB bb) (by omega)
 have k1:=ef (ltB ba) (ltB bd)
 have k2:=ef (ltB bc) (ltB bb)
 have e:sr (a * c) (b * d)=.tup [.int (a.fdiv (Int.gcd a d:Nat) * c.fdiv (Int.gcd c b:Nat)),.int (b.fdiv (Int.gcd c b:Nat) * d.fdiv (Int.gcd a d:Nat))]:=by
  rw [su (Int.mul_pos pb pd),q1,q2]
 have g1':((Int.gcd a d:Nat):Int).natAbs < B:=by omega
 have g2':((Int.gcd c b:Nat):Int).natAbs < B:=by omega
 generalize ((Int.gcd a d:Nat):Int)=l at *
 generalize ((Int.gcd c b:Nat):Int)=r at *
 have cb':=CB
 have w1:(a.fdiv l).natAbs < B:=by omega
 have w2:(d.fdiv l).natAbs < B:=by omega
 have w3:(c.fdiv r).natAbs < B:=by omega
 have w4:(b.fdiv r).natAbs < B:=by omega
 clear q1 q2 n1 n2 n3 n4 cb cd ba bb bc bd pb pd g1 g2 cb'
 unfold cz rK
 walk_at "ev"
open Rq
def bF (q:Rat):T:=.tup [.int q.num,.int (q.den:Int)]
theorem nT {a b:Int} (hb:0 < b):sr a b=bF (Rat.divInt a b):=by
 have hs:b.sign=1:=Int.sign_eq_one_of_pos hb
 have hg:(Int.gcd b a:Int)=(Int.gcd a b:Int):=by rw [Int.gcd_comm]
 rw [su hb]
 unfold bF
 rw [Rat.num_divInt,Rat.den_divInt,if_neg (by omega),hs,Int.one_mul,hg,Int.fdiv_eq_ediv_of_nonneg _ (by omega),Int.fdiv_eq_ediv_of_nonneg _ (by omega)]
 congr 3
 rw [Int.natCast_ediv,Int.natAbs_of_nonneg (by omega),hg]
structure Sm (q:Rat):Prop where
 n:q.num.natAbs < C
 d:q.den < C
theorem Sm.fr {q:Rat} (h:Sm q):Fr q.num q.den:=⟨by have:=q.den_nz; omega,by
 have:=q.reduced
 show Int.gcd q.num q.den=1
 exact this,h.n,by have:=h.d; omega⟩
theorem dB (q:Rat):Rat.divInt q.num q.den=q:=Rat.num_divInt_den q
theorem den_pos (q:Rat):(0:Int) < (q.den:Int):=by have:=q.den_nz; omega
theorem add_eq (x y:Rat):sr (x.num * y.den + y.num * x.den) (x.den * y.den)=bF (x + y):=by
 rw [nT (Int.mul_pos (den_pos x) (den_pos y))]
 congr 1
 rw [<- Rat.divInt_add_divInt _ _ (Int.ne_of_gt (den_pos x)) (Int.ne_of_gt (den_pos y)),dB,dB]
theorem mul_eq (x y:Rat):sr (x.num * y.num) (x.den * y.den)=bF (x * y):=by
 rw [nT (Int.mul_pos (den_pos x) (den_pos y))]
 congr 1
 rw [<- Rat.divInt_mul_divInt,dB,dB]
theorem Ka {x y:Rat} (hx:Sm x) (hy:Sm y):Ji [bF x,bF y]=some (bF (x + y)):=by
 have h:=zF (C:=fun _ _ _ _=>true) (g:=fun a b c d=>sr (a * d + c * b) (b * d)) hx.fr hy.fr rfl
 rw [add_eq] at h
 exact h
theorem Ke {x y:Rat} (hx:Sm x) (hy:Sm y):Kd [bF x,bF y]=some (bF (x * y)):=by
 have h:=zF (C:=fun _ _ _ _=>true) (g:=fun a b c d=>sr (a * c) (b * d)) hx.fr hy.fr rfl
 rw [mul_eq] at h
 exact h
theorem MU:2 ^ 100 * DD 12 < C:=by decide +kernel
theorem KI {k m:Nat} {q:Rat} (h:Lq k m q) (hk:k ≤ 12) (hm:m ≤ 2 ^ 100):Sm q:=by
 obtain ⟨h1,h2⟩:=h.bd
 have hd:DD k ≤ DD 12:=Nat.pow_le_pow_right (by decide) hk
 have hp:=dZ k
 have h3:q.den ≤ DD k:=Nat.le_of_dvd hp h2
 have h4:m * DD k ≤ 2 ^ 100 * DD 12:=Nat.mul_le_mul hm hd
 have h5:DD k ≤ 2 ^ 100 * DD 12:=Nat.le_trans hd (Nat.le_mul_of_pos_left _ (by decide))
 have:=MU
 exact ⟨by omega,by omega⟩
open PySem PySem.Spec PyProof.Rows L2 TM Qm Rq
open Classical in
def mk {α:Type} (R:List T -> α -> Prop):List T -> Option α:=fun ts=>if h:∃ t,R ts t then some (Classical.choose h) else none
theorem xT {α:Type} {R:List T -> α -> Prop} {ts:List T} {t:α} (h:mk R ts=some t):R ts t:=by
 unfold mk at h
 split at h
 ·next hh=>cases h; exact Classical.choose_spec hh
 ·cases h
theorem mk_eq {α:Type} {R:List T -> α -> Prop} {ts:List T} {t:α} (h:R ts t) (u:∀ t',R ts t' -> t'=t):mk R ts=some t:=by
 unfold mk
 rw [dif_pos ⟨t,h⟩]
 congr 1
 exact u _ (Classical.choose_spec (⟨t,h⟩:∃ t,R ts t))
theorem EK {x y:Rat} (h:bF x=bF y):x=y:=by
 unfold bF at h
 injection h with h
 injection h with h1 h2
 injection h2 with h2 _
 injection h1 with h1
 injection h2 with h2
 exact Rat.ext h1 (by omega)
theorem map_inj {α β:Type} {f:α -> β} (hf:∀ x y,f x=f y -> x=y):∀ {a b:List α},a.map f=b.map f -> a=b
 | [],[],_=>rfl
 | [],_ :: _,h=>by cases h
 | _ :: _,[],h=>by cases h
 | x :: a,y :: b,h=>by
  rw [List.map_cons,List.map_cons] at h
  injection h with h1 h2
  rw [hf _ _ h1,map_inj hf h2]
def ay (r:List Rat):T:=.lst (r.map bF)
def ao (A:List (List Rat)):T:=.lst (A.map ay)
def pk (r:List Rat):O:=wb (r.map bF)
def C3 (A:List (List Rat)):O:=.lst (A.map pk)
theorem pq {r s:List Rat} (h:ay r=ay s):r=s:=by
 unfold ay at h
 injection h with h
 exact map_inj (fun _ _=>EK) h
theorem C4 {r s:List (List Rat)} (h:ao r=ao s):r=s:=by
 unfold ao at h
 injection h with h
 exact map_inj (fun _ _=>pq) h
theorem EN (r:List Rat):(pk r).tr=ay r:=by
 show T.lst (O.trs ((r.map bF).map O.val))=_
 rw [iM]
 rfl
theorem Ab {α:Type} {f:α -> O} {g:α -> T} (h:∀ x,(f x).tr=g x):∀ l:List α,O.trs (l.map f)=l.map g
 | []=>rfl
 | x :: l=>by rw [List.map_cons,O.trs,Ab h l,h x]; rfl
theorem zZ (A:List (List Rat)):(C3 A).tr=ao A:=by
 show T.lst (O.trs (A.map pk))=_
 rw [Ab EN]
 rfl
theorem cn {α:Type} {φ:α -> T} {fe:FE} {g:α -> T} {ρ:aJ} (hr:cu ρ=true):∀ (l:List α) (u:Option Sl) (acc:List T),(∀ x ∈ l,fe (some (.sh (φ x)) :: ρ)=some (g x,some (.sh (φ x)) :: ρ)) -> acc.length + l.length ≤ sizeLine -> gM (aq 0) aL fe (l.map φ) (u :: ρ) acc=some (acc ++ l.map g)
 | [],u,acc,_,_=>by simp [gM]
 | x :: l,u,acc,h,hl=>by
  have hl':acc.length + (l.length + 1) ≤ sizeLine:=hl
  rw [List.map_cons,gM,show aq 0 (φ x) (u :: ρ)=some (some (.sh (φ x)) :: ρ) from rfl,Option.bind_some,show aL (some (.sh (φ x)) :: ρ)=some (true,some (.sh (φ x)) :: ρ) from rfl,Option.bind_some,if_pos rfl,h x List.mem_cons_self,Option.bind_some,if_pos ⟨hr,by omega⟩,
   cn hr l _ _ (fun z hz=>h z (List.mem_cons_of_mem _ hz)) (by rw [List.length_append]; simp; omega),List.map_cons,List.append_assoc]
  rfl
theorem gN {α:Type} {φ:α -> T} {fe:rm} {g:α -> O} {ρ:aJ} (hr:cu ρ=true):∀ (l:List α) (u:Option Sl) (acc:List O),(∀ x ∈ l,fe (some (.sh (φ x)) :: ρ)=some (g x,some (.sh (φ x)) :: ρ)) -> acc.length + l.length ≤ sizeLine -> ik (aq 0) aL fe (l.map φ) (u :: ρ) acc=some (acc ++ l.map g)
 | [],u,acc,_,_=>by simp [ik]
 | x :: l,u,acc,h,hl=>by
  have hl':acc.length + (l.length + 1) ≤ sizeLine:=hl
  rw [List.map_cons,ik,show aq 0 (φ x) (u :: ρ)=some (some (.sh (φ x)) :: ρ) from rfl,Option.bind_some,show aL (some (.sh (φ x)) :: ρ)=some (true,some (.sh (φ x)) :: ρ) from rfl,Option.bind_some,if_pos rfl,h x List.mem_cons_self,Option.bind_some,if_pos ⟨hr,by omega⟩,
   gN hr l _ _ (fun z hz=>h z (List.mem_cons_of_mem _ hz)) (by rw [List.length_append]; simp; omega),List.map_cons,List.append_assoc]
  rfl
abbrev vj:FG:=cm (aB (aq 0) (aB (aq 1) bO))
theorem DR (x y:T) (u v:Option Sl) (ρ:aJ):vj (.tup [x,y]) (u :: v :: ρ)=some (some (.sh x) :: some (.sh y) :: ρ):=rfl
theorem iH {α:Type} {φ ψ:α -> T} {fe:FE} {g:α -> T} {ρ:aJ} (hr:cu ρ=true):∀ (l:List α) (u v:Option Sl) (acc:List T),(∀ x ∈ l,fe (some (.sh (φ x)) :: some (.sh (ψ x)) :: ρ)=some (g x,some (.sh (φ x)) :: some (.sh (ψ x)) :: ρ)) -> acc.length + l.length ≤ sizeLine ->
  gM vj aL fe (l.map fun x=>.tup [φ x,ψ x]) (u :: v :: ρ) acc=some (acc ++ l.map g)
 | [],u,v,acc,_,_=>by simp [gM]
 | x :: l,u,v,acc,h,hl=>by
  have hl':acc.length + (l.length + 1) ≤ sizeLine:=hl
  rw [List.map_cons,gM,DR,Option.bind_some,show aL (some (.sh (φ x)) :: some (.sh (ψ x)) :: ρ)=some (true,some (.sh (φ x)) :: some (.sh (ψ x)) :: ρ) from rfl,Option.bind_some,if_pos rfl,h x List.mem_cons_self,Option.bind_some,if_pos ⟨hr,by omega⟩,
   iH hr l _ _ _ (fun z hz=>h z (List.mem_cons_of_mem _ hz)) (by rw [List.length_append]; simp; omega),List.map_cons,List.append_assoc]
  rfl
theorem kf {α β:Type} (φ:α -> T) (ψ:β -> T):∀ (r:List α) (s:List β),ji (r.map φ) (s.map ψ)=(List.zip r s).map fun p=>.tup [φ p.1,ψ p.2]
 | [],s=>by simp [ji]
 | x :: r,[]=>by simp [ji]
 | x :: r,y :: s=>by simp [ji,kf φ ψ r s]
theorem yp:∀ (n:Nat) (lo:Int),TM.upTo lo n=(List.range n).map fun (i:Nat)=>T.int (lo + i):=by
 intro n lo
 apply List.ext_getElem?
 intro i
 by_cases h:i < n
 ·rw [pR n lo i h,List.getElem?_map,List.getElem?_range h]; rfl
 ·rw [List.getElem?_eq_none (by rw [ie]; omega),List.getElem?_eq_none (by simp; omega)]
theorem wA (n:Nat):TM.upTo 0 n=(List.range n).map fun (i:Nat)=>T.int i:=by
 rw [yp]
 congr 1
 funext i
 congr 1
 omega
theorem cv {no:Nat} {cap:List Nat} {fi:FA} {fg:FG} {ft:FT} {fe:FE} {τ:aJ} {ts us:List T} (h1:fi τ=some (ts,τ)) (h2:frzAll cap τ=τ) (h3:cu (cG no cap τ)=true) (h4:gM fg ft fe ts (cG no cap τ) []=some us):dg no cap fi fg ft fe τ=some (.lst us,τ):=by
 unfold dg
 rw [h1,Option.bind_some]
 dsimp only
 rw [h2,if_pos h3,h4]
 rfl
theorem mC {no:Nat} {cap:List Nat} {fi:FA} {fg:FG} {ft:FT} {fe:rm} {τ:aJ} {ts:List T} {us:List O} (h1:fi τ=some (ts,τ)) (h2:frzAll cap τ=τ) (h3:cu (cG no cap τ)=true) (h4:ik fg ft fe ts (cG no cap τ) []=some us):fM no cap fi fg ft fe τ=some (.lst us,τ):=by
 unfold fM
 rw [h1,Option.bind_some]
 dsimp only
 rw [h2,if_pos h3,h4]
 rfl
theorem ff {fg:FG} {fb:FS} {t:T} {ts:List T} {τ τ1 τ2:aJ} (h1:fg t τ=some τ1) (h2:fb τ1=some (.nx τ2)):ee fg fb (t :: ts) τ=ee fg fb ts τ2:=by
 rw [ee,h1,Option.bind_some,h2]
 rfl
theorem pj {f:FE} {τ:aJ} {n:Int} (h:f τ=some (.int n,τ)) (h0:0 ≤ n) (h1:n ≤ 1000):cS (aa f ai) τ=some (TM.upTo 0 n.toNat,τ):=by
 unfold cS aa ai
 rw [h]
 show (if _ then _ else _)=_
 rw [if_pos (by omega)]
theorem kn {f:FE} {τ:aJ} {n:Nat} (h:f τ=some (.int n,τ)) (h1:n ≤ 1000):cS (aa f ai) τ=some ((List.range n).map fun (i:Nat)=>T.int i,τ):=by
 have e:=pj h (by omega) (by omega)
 rw [Int.toNat_natCast,wA] at e
 exact e
structure Gd (k m:Nat) (r:List Rat):Prop where
 len:r.length ≤ 8
 lq:∀ x ∈ r,Lq k m x
def MC (k m:Nat):Prop:=k ≤ 6 /\ m ≤ 2 ^ 40
theorem Gd.sm {k m:Nat} {r:List Rat} (h:Gd k m r) (f:MC k m) {x:Rat} (hx:x ∈ r):Sm x:=KI (h.lq x hx) (by have:=f.1; omega) (Nat.le_trans f.2 (by decide))
open PySem PySem.Spec PyProof.Rows L2 TM Qm Rq
theorem K5 {g:List T -> Option T} {f:FA} {ρ:aJ} {t:T} (ts:List T) (h1:f ρ=some (ts,ρ)) (h2:g ts=some t):ny (ak g f) ρ=some (.val t,ρ):=by
 unfold ny ak
 rw [h1,Option.bind_some]
 dsimp only
 rw [h2]
 rfl
theorem uw {n:Nat} (h:n ≤ 8):([]:List O).length + n ≤ sizeLine:=by rw [List.length_nil,Nat.zero_add]; exact cg (by omega)
theorem fU {n:Nat} (h:n ≤ 8):([]:List T).length + n ≤ sizeLine:=by rw [List.length_nil,Nat.zero_add]; exact cg (by omega)
theorem uE {α β:Type} (r:List α) (s:List β) (h:r.length ≤ 8):(List.zip r s).length ≤ 8:=by rw [List.length_zip]; omega
theorem dm {α β:Type} {r:List α} {s:List β} {p:α × β} (h:p ∈ List.zip r s):p.1 ∈ r /\ p.2 ∈ s:=⟨(List.of_mem_zip h).1,(List.of_mem_zip h).2⟩
def Jw (r s:List Rat):List Rat:=(List.zip r s).map fun p=>p.1 + p.2
def mulR (b:Rat) (r:List Rat):List Rat:=r.map (b * ·)
structure Tb (k m:Nat) (A:List (List Rat)):Prop where
 len:A.length ≤ 8
 row:∀ r ∈ A,Gd k m r
def Jx (A B:List (List Rat)):List (List Rat):=(List.zip A B).map fun p=>Jw p.1 p.2
theorem aH {g:List T -> Option T} {f:FA} {ρ:aJ} {t:T} (ts:List T) (h1:f ρ=some (ts,ρ)) (h2:g ts=some t):ak g f ρ=some (t,ρ):=by
 unfold ak
 rw [h1,Option.bind_some]
 dsimp only
 rw [h2]
 rfl
def Kh (b:Rat) (A:List (List Rat)):List (List Rat):=A.map (mulR b)
open PySem PySem.Spec PyProof.Rows L2 TM Qm Rq
def aT (r:List Rat):Nat:=r.foldl (fun l x=>Nat.lcm l x.den) 1
theorem vJ:∀ (r:List Rat) (l:Nat),l ∣ r.foldl (fun l x=>Nat.lcm l x.den) l
 | [],l=>Nat.dvd_refl l
 | x :: r,l=>Nat.dvd_trans (Nat.dvd_lcm_left _ _) (vJ r _)
theorem yS:∀ (r:List Rat) (l:Nat) (x:Rat),x ∈ r -> x.den ∣ r.foldl (fun l x=>Nat.lcm l x.den) l
 | y :: r,l,x,h=>by
  rcases List.mem_cons.mp h with rfl | h
  ·exact Nat.dvd_trans (Nat.dvd_lcm_right _ _) (vJ r _)
  ·exact yS r _ x h
theorem MT {k:Nat} (h:k ≤ 12):DD k < B:=by
 have hd:DD k ≤ DD 12:=Nat.pow_le_pow_right (by decide) h
 have:DD 12 < B:=by decide +kernel
 omega
theorem B8 {l b:Nat} (hl:0 < l) (hb:0 < b):((l:Int).fdiv (Int.gcd (l:Int) (b:Int):Nat)) * (b:Int)=(Nat.lcm l b:Nat):=by
 have hg:Int.gcd (l:Int) (b:Int)=Nat.gcd l b:=rfl
 rw [hg,Int.fdiv_eq_ediv_of_nonneg _ (by omega)]
 have:(l:Int) / (Nat.gcd l b:Nat)=((l / Nat.gcd l b:Nat):Int):=by rw [Int.natCast_ediv]
 rw [this,<- Int.natCast_mul]
 congr 1
 unfold Nat.lcm
 rw [Nat.div_mul_right_comm (Nat.gcd_dvd_left l b)]
def pE:FS:=bK 1 (aF bq (aF dc (ag 1) (ak dA (aa (ag 1) (aa (ag 3) ai)))) (ag 3))
theorem zM {D:Nat} (hB:D < B) (hp:0 < D) (x0:Option Sl):∀ (r:List Rat) (l:Nat) (u v:Option Sl),l ∣ D -> (∀ x ∈ r,x.den ∣ D) -> ∃ u' v',ee (cm (aB (aq 2) (aB (aq 3) bO))) pE (r.map bF) [x0,some (.sh (.int l)),u,v]
  = some (.nx [x0,some (.sh (.int (r.foldl (fun l x=>Nat.lcm l x.den) l:Nat))),u',v'])
 | [],l,u,v,_,_=>⟨u,v,by simp [ee]⟩
 | x :: r,l,u,v,h1,h2=>by
  have hl0:0 < l:=Nat.pos_of_dvd_of_pos h1 hp
  have hl:l ≤ D:=Nat.le_of_dvd hp h1
  have hd:=h2 x List.mem_cons_self
  have hd0:0 < x.den:=Nat.pos_of_ne_zero x.den_nz
  have hdl:x.den ≤ D:=Nat.le_of_dvd hp hd
  obtain ⟨u',v',ih⟩:=zM hB hp x0 r (Nat.lcm l x.den) (some (.sh (.int x.num))) (some (.sh (.int x.den))) (Nat.lcm_dvd h1 hd) fun z hz=>h2 z (List.mem_cons_of_mem _ hz)
  refine ⟨u',v',?_⟩
  have k1:=ef (a:=(l:Int)) (b:=(x.den:Int)) (by omega) (by omega)
  have e1:=B8 hl0 hd0
  have hg:Int.gcd (l:Int) (x.den:Int) ≤ l:=by
   show Nat.gcd l x.den ≤ l
   exact Nat.le_of_dvd hl0 (Nat.gcd_dvd_left _ _)
  have hg0:0 < Int.gcd (l:Int) (x.den:Int):=by
   show 0 < Nat.gcd l x.den
   exact Nat.gcd_pos_of_pos_left _ hl0
  have n1:¬ ((Int.gcd (l:Int) (x.den:Int):Nat):Int)=0:=by omega
  have n2:((Int.gcd (l:Int) (x.den:Int):Nat):Int).natAbs < B:=by omega
  have n3:((l:Int).fdiv ((Int.gcd (l:Int) (x.den:Int):Nat):Int)).natAbs < B:=by
   rw [Int.fdiv_eq_ediv_of_nonneg _ (by omega)]
   have:=Int.ediv_le_self ((Int.gcd (l:Int) (x.den:Int):Nat):Int) (show (0:Int) ≤ (l:Int) by omega)
   have:=Int.ediv_nonneg (show (0:Int) ≤ (l:Int) by omega) (show (0:Int) ≤ ((Int.gcd (l:Int) (x.den:Int):Nat):Int) by omega)
   omega
  have n4:(x.den:Int).natAbs < B:=by omega
  have hb:pE [x0,some (.sh (.int l)),some (.sh (.int x.num)),some (.sh (.int x.den))]=some (.nx [x0,some (.sh (.int (Nat.lcm l x.den:Nat))),some (.sh (.int x.num)),some (.sh (.int x.den))]):=by
   rw [<- e1]
   clear ih h1 h2 hB hp hl0 hl hd hd0 hdl e1 hg hg0
   unfold pE
   walk_at "ev"
  rw [List.map_cons,ff (τ1:=[x0,some (.sh (.int l)),some (.sh (.int x.num)),some (.sh (.int x.den))]) rfl hb,ih]
  rfl
structure Gn (D N:Nat) (r:List Rat):Prop where
 len:r.length ≤ 8
 den:∀ x ∈ r,x.den ∣ D
 num:∀ x ∈ r,x.num.natAbs ≤ N
 dp:0 < D
 db:D < B
 nb:N < B
theorem GN:2 ^ 40 * DD 6 < B:=by decide +kernel
theorem Gn.of {k m:Nat} {r:List Rat} (h:Gd k m r) (f:MC k m):Gn (DD k) (m * DD k) r:=by
 have hd:DD k ≤ DD 6:=Nat.pow_le_pow_right (by decide) f.1
 exact ⟨h.len,fun x hx=>(h.lq x hx).bd.2,fun x hx=>(h.lq x hx).bd.1,dZ k,MT (by have:=f.1; omega),Nat.lt_of_le_of_lt (Nat.mul_le_mul f.2 hd) GN⟩
def MY (ts:List T) (t:T):Prop:=∃ r D N,ts=[ay r] /\ Gn D N r /\ t=.int (aT r:Nat)
def Lu:List T -> Option T:=mk MY
theorem CL {r r':List Rat} (e:([ay r]:List T)=[ay r']):r=r':=by
 injection e with e _
 exact pq e
theorem Kc {r:List Rat} {D N:Nat} (h1:Gn D N r):Lu [ay r]=some (.int (aT r:Nat)):=
 mk_eq ⟨r,D,N,rfl,h1,rfl⟩ fun t' ⟨r',_,_,e,_,e2⟩=>by rw [e2,CL e]
theorem mV (ts:List T) (t:T) (h:Lu ts=some t):cz 4 1 (gf dA) ts=some t:=by
 obtain ⟨r,D,N,rfl,h1,rfl⟩:=xT h
 clear h
 obtain ⟨u,v,hl⟩:=zM h1.db h1.dp (some (.sh (ay r))) r 1 none none (Nat.one_dvd _) h1.den
 have e:cz 4 1 (gf dA) [ay r]=(((ee (cm (aB (aq 2) (aB (aq 3) bO))) pE (r.map bF) [some (.sh (ay r)),some (.sh (.int 1)),none,none]).bind fun r=>match r with | .nx τ'=>bz (ag 1) τ' | r=>some r).bind fun r=>match r with | .rt t=>some t | .nx _=>some .non | _=>none):=rfl
 have hl':ee (cm (aB (aq 2) (aB (aq 3) bO))) pE (r.map bF) [some (.sh (ay r)),some (.sh (.int 1)),none,none]=_:=hl
 rw [e,hl']
 rfl
def bR (L:Nat) (x:Rat):Int:=x.num * ((L:Int).fdiv x.den)
theorem IK {L:Nat} {x:Rat} (hL:0 < L) (h:x.den ∣ L):Rat.divInt (bR L x) L=x:=by
 obtain ⟨c,hc⟩:=h
 have hc0:(c:Int) ≠ 0:=fun z=>by
  have:c=0:=by omega
  rw [this,Nat.mul_zero] at hc
  omega
 have hd:=den_pos x
 have e:(L:Int).fdiv x.den=c:=by
  rw [hc,Int.natCast_mul]
  exact Int.mul_fdiv_cancel_left _ (by omega)
 unfold bR
 rw [e,hc,Int.natCast_mul,Rat.divInt_mul_right hc0]
 exact dB x
def MX (ts:List T) (t:T):Prop:=∃ r D N,ts=[ay r,.int (aT r:Nat)] /\ Gn D N r /\ t=.lst (r.map fun x=>T.int (bR (aT r) x))
def Ls:List T -> Option T:=mk MX
theorem Kb {r:List Rat} {D N:Nat} (h1:Gn D N r):Ls [ay r,.int (aT r:Nat)]=some (.lst (r.map fun x=>T.int (bR (aT r) x))):=
 mk_eq ⟨r,D,N,rfl,h1,rfl⟩ fun t' hq__=>by
  obtain ⟨r',_,_,e,_,e2⟩:=hq__
  injection e with e3 e4
  rw [e2,pq e3]
theorem vI {D:Nat}:∀ (r:List Rat) (l:Nat),l ∣ D -> (∀ x ∈ r,x.den ∣ D) -> r.foldl (fun l x=>Nat.lcm l x.den) l ∣ D
 | [],l,h,_=>h
 | x :: r,l,h,hx=>vI r _ (Nat.lcm_dvd h (hx x List.mem_cons_self)) fun z hz=>hx z (List.mem_cons_of_mem _ hz)
theorem zB {r:List Rat} {D N:Nat} (h1:Gn D N r):aT r ∣ D /\ 0 < aT r /\ ∀ x ∈ r,x.den ∣ aT r:=by
 have h:aT r ∣ D:=vI r 1 (Nat.one_dvd _) h1.den
 exact ⟨h,Nat.pos_of_dvd_of_pos h h1.dp,fun x hx=>yS r 1 x hx⟩
theorem Gz {D N:Nat} {x:Rat} {L:Nat} (hx:x.num.natAbs ≤ N) (hp:0 < D) (hL:L ∣ D):(bR L x).natAbs ≤ N * D:=by
 have hl:L ≤ D:=Nat.le_of_dvd hp hL
 have hd:=den_pos x
 unfold bR
 rw [Int.natAbs_mul,Int.fdiv_eq_ediv_of_nonneg _ (by omega)]
 refine Nat.mul_le_mul hx ?_
 have:=Int.ediv_le_self (x.den:Int) (show (0:Int) ≤ (L:Int) by omega)
 have:=Int.ediv_nonneg (show (0:Int) ≤ (L:Int) by omega) (show (0:Int) ≤ (x.den:Int) by omega)
 omega
theorem A9 (ts:List T) (t:T) (h:Ls ts=some t):cz 2 2 uL ts=some t:=by
 obtain ⟨r,D,N,rfl,h1,rfl⟩:=xT h
 clear h
 obtain ⟨q1,q2,q3⟩:=zB h1
 have hB:=h1.db
 have hN:=h1.nb
 have hLk:aT r ≤ D:=Nat.le_of_dvd h1.dp q1
 have hc:=iH (φ:=fun x:Rat=>T.int x.num) (ψ:=fun x=>T.int x.den) (fe:=aF bq (ag 0) (aF dc (ag 2) (ag 1))) (g:=fun x=>T.int (bR (aT r) x)) (ρ:=[some (.sh (.int (aT r:Nat)))]) rfl r none none [] (fun x hx=>by
  have hd:=den_pos x
  have hxd:x.den ≤ aT r:=Nat.le_of_dvd q2 (q3 x hx)
  have n1:¬ ((x.den:Int)=0):=by omega
  have n2:(x.den:Int).natAbs < B:=by omega
  have n3:x.num.natAbs < B:=by have:=h1.num x hx; omega
  have n4:((aT r:Nat):Int).fdiv (x.den:Int)=((aT r:Nat):Int) / (x.den:Int):=Int.fdiv_eq_ediv_of_nonneg _ (by omega)
  have n5:(((aT r:Nat):Int).fdiv (x.den:Int)).natAbs < B:=by
   rw [n4]
   have:=Int.ediv_le_self (x.den:Int) (show (0:Int) ≤ ((aT r:Nat):Int) by omega)
   have:=Int.ediv_nonneg (show (0:Int) ≤ ((aT r:Nat):Int) by omega) (show (0:Int) ≤ (x.den:Int) by omega)
   omega
  have e:bR (aT r) x=x.num * ((aT r:Nat):Int).fdiv (x.den:Int):=rfl
  rw [e]
  clear e n4 hd hxd q1 q2 q3 hB hN hLk h1 hx
  walk_at "ev") (fU h1.len)
 have e:=cv (no:=2) (cap:=[1]) (fi:=bI (ag 0)) (fg:=vj) (ft:=aL) (τ:=[some (.sh (ay r)),some (.sh (.int (aT r:Nat)))]) (h1:=rfl) rfl rfl hc
 show (((dg 2 [1] _ vj aL _ [some (.sh (ay r)),some (.sh (.int (aT r:Nat)))]).bind fun p=>some (R.rt p.1)).bind _)=_
 rw [e]
 rfl
open PySem PySem.Spec PyProof.Rows L2 TM Qm Rq
def bitsQ (r:List Rat):List Int:=r.map fun x=>(Builtin.Int.intBits (x.den:Int):Int)
def longest (r:List Rat):Int:=if bitsQ r=[] then 1 else bestOf (bitsQ r)
def liftT (r:List Rat):T:=.tup [ay r,.lst (r.map fun x=>T.int (bR (aT r) x)),.int (aT r:Nat),.int (longest r)]
theorem Fj {r s:List Rat} (f g:Rat -> Int):(List.zip r s).map (fun p=>f p.1 * g p.2)=List.zipWith (· * ·) (r.map f) (s.map g):=by
 rw [List.zipWith_map]
 induction r generalizing s with
 | nil=>simp
 | cons x r ih =>
  cases s with
  | nil=>simp
  | cons y s=>simp [ih]
theorem CU {M:Nat}:∀ l:List Int,(∀ n ∈ l,n.natAbs ≤ M) -> l.sum.natAbs ≤ l.length * M
 | [],_=>by simp
 | n :: l,h=>by
  rw [List.sum_cons,List.length_cons,Nat.add_mul,Nat.one_mul]
  have h1:=h n List.mem_cons_self
  have h2:=CU l fun z hz=>h z (List.mem_cons_of_mem _ hz)
  have:=Int.natAbs_add_le n l.sum
  omega
open PySem PySem.Spec PyProof.Rows L2 TM Qm Rq
theorem xf {no:Nat} {cap:List Nat} {fi:FA} {fg:FG} {ft:FT} {fe:rm} {τ τ1:aJ} {ts:List T} {us:List O} (h1:fi τ=some (ts,τ1)) (h2:frzAll cap τ1=τ1) (h3:cu (cG no cap τ1)=true) (h4:ik fg ft fe ts (cG no cap τ1) []=some us):fM no cap fi fg ft fe τ=some (.lst us,τ1):=by
 unfold fM
 rw [h1,Option.bind_some]
 dsimp only
 rw [h2,if_pos h3,h4]
 rfl
theorem Ht {r:List Rat} {j:Nat} (h:j < r.length):bC (ay r) (.int (j:Nat))=some (bF (r.getD j 0)):=by
 have e:(r.map bF)[j]? = some (bF (r.getD j 0)):=by
  rw [List.getElem?_map,List.getD_eq_getElem?_getD,List.getElem?_eq_getElem h]
  rfl
 exact rF e
def Wd (w:Nat) (A:List (List Rat)):Prop:=∀ r ∈ A,r.length=w
def fm (A:List (List Rat)) (w:Nat):List (List Rat):=(List.range w).map fun j=>gL A j
theorem yO {k m:Nat} {A:List (List Rat)} (h:Tb k m A) (j:Nat):Gd k m (gL A j):=by
 refine ⟨by unfold gL; rw [List.length_map]; exact h.len,fun x hx=>?_⟩
 obtain ⟨r,hr,rfl⟩:=List.mem_map.mp hx
 rw [List.getD_eq_getElem?_getD]
 cases e:r[j]? with
 | none=>exact (Lq.zero k).mono (Nat.zero_le _)
 | some y=>exact (h.row r hr).lq y (List.mem_of_getElem? e)
def MZ (ts:List T) (o:O):Prop:=∃ A,∃ w:Nat,ts=[ao A,.int (w:Nat)] /\ A.length ≤ 8 /\ Wd w A /\ w ≤ 8 /\ o=C3 (fm A w)
def Kf:List T -> Option O:=mk MZ
theorem D0 {a b:Nat} (h:T.int (a:Nat)=T.int (b:Nat)):a=b:=by
 injection h with h
 omega
theorem Kg {A:List (List Rat)} {w:Nat} (h1:A.length ≤ 8) (h2:Wd w A) (h3:w ≤ 8):Kf [ao A,.int (w:Nat)]=some (C3 (fm A w)):=
 mk_eq ⟨A,w,rfl,h1,h2,h3,rfl⟩ fun t' hq__=>by
  obtain ⟨A',w',e,_,_,_,e2⟩:=hq__
  injection e with e3 e4
  injection e4 with e4 _
  rw [e2,C4 e3,D0 e4]
theorem Ba (ts:List T) (o:O) (h:Kf ts=some o):rY 2 2 jA ts=some o:=by
 obtain ⟨A,w,rfl,h1,h2,h3,rfl⟩:=xT h
 clear h
 have inner:∀ j:Nat,j < w -> fM 1 [0] (bI (ag 1)) (aq 0) aL (ny (aF bC (ag 0) (ag 1))) [some (.sh (.int (j:Nat))),some (.sh (ao A))]=some (pk (gL A j),[some (.sh (.int (j:Nat))),some (.sh (ao A))]):=fun j hj=>by
  have hc:=gN (φ:=ay) (fe:=ny (aF bC (ag 0) (ag 1))) (g:=fun r=>O.val (bF (r.getD j 0))) (ρ:=[some (.sh (.int (j:Nat)))]) rfl A none [] (fun r hr=>by
   have e:=Ht (r:=r) (j:=j) (by rw [h2 r hr]; exact hj)
   show (((bC (ay r) (.int (j:Nat))).bind fun t=>some (t,[some (Sl.sh (ay r)),some (Sl.sh (T.int (j:Nat)))])).bind fun p=>some (O.val p.1,p.2))=_
   rw [e]
   rfl) (uw h1)
  have e:=mC (no:=1) (cap:=[0]) (fi:=bI (ag 1)) (fg:=aq 0) (ft:=aL) (τ:=[some (.sh (.int (j:Nat))),some (.sh (ao A))]) rfl rfl rfl hc
  rw [e]
  show some (O.lst (A.map fun r=>O.val (bF (r.getD j 0))),_)=some (O.lst (((gL A j).map bF).map O.val),_)
  unfold gL
  rw [List.map_map,List.map_map]
  rfl
 have hc:=gN (φ:=fun j:Nat=>T.int (j:Nat)) (fe:=fM 1 [0] (bI (ag 1)) (aq 0) aL (ny (aF bC (ag 0) (ag 1)))) (g:=fun j=>pk (gL A j)) (ρ:=[some (.sh (ao A))]) rfl (List.range w) none [] (fun j hj=>inner j (List.mem_range.mp hj)) (uw (by rw [List.length_range]; exact h3))
 have e:=mC (no:=1) (cap:=[0]) (fi:=cS (aa (ag 1) ai)) (fg:=aq 0) (ft:=aL) (τ:=[some (.sh (ao A)),some (.sh (.int (w:Nat)))]) (kn (f:=ag 1) rfl (by omega)) rfl rfl hc
 have e0:rY 2 2 jA [ao A,.int (w:Nat)]=jA [some (.sh (ao A)),some (.sh (.int (w:Nat)))]:=rfl
 rw [e0]
 unfold jA oM
 rw [e]
 show some (O.lst ((List.range w).map fun j=>pk (gL A j)))=some (O.lst ((fm A w).map pk))
 unfold fm
 rw [List.map_map]
 rfl
abbrev xN:List T -> Option T:=fun ts=>(Kf ts).bind fun o=>some o.tr
theorem HC {A:List (List Rat)} {w:Nat} (h1:A.length ≤ 8) (h2:Wd w A) (h3:w ≤ 8):xN [ao A,.int (w:Nat)]=some (ao (fm A w)):=by
 show (Kf _).bind _=_
 rw [Kg h1 h2 h3]
 show some (C3 _).tr=_
 rw [zZ]
def eM (A B:List (List Rat)):List (List Rat):=(List.zip A B).map fun p=>p.1 ++ p.2
open PySem PySem.Spec PyProof.Rows L2 TM Qm Rq
open PySem PySem.Spec PyProof.Rows L2 TM Qm Rq
mutual
theorem eqv_refl:∀ d:PyData,d.canLay0=true -> PyData.eqv d d=true
 | .none,_=>by simp [PyData.eqv]
 | .bool _,_=>by simp [PyData.eqv]
 | .int _,_=>by simp [PyData.eqv]
 | .str _,_=>by simp [PyData.eqv]
 | .list xs,h=>by
  simp only [PyData.canLay0] at h
  simp only [PyData.eqv]
  exact eqvAll_refl xs h
 | .tuple xs,h=>by
  simp only [PyData.canLay0] at h
  simp only [PyData.eqv]
  exact eqvAll_refl xs h
 | .dict _,h=>by simp [PyData.canLay0] at h
theorem eqvAll_refl:∀ ds:List PyData,PyData.canLayAll0 ds=true -> PyData.eqvAll ds ds=true
 | [],_=>by simp [PyData.eqvAll]
 | d :: ds,h=>by
  simp only [PyData.canLayAll0,Bool.and_eq_true] at h
  simp only [PyData.eqvAll,eqv_refl d h.1,eqvAll_refl ds h.2,Bool.and_self]
end
def Dp (n:Nat) (t:T):Prop:=∃ d,Fd t=some d /\ d.canLay0=true /\ d.depth ≤ n
theorem zQ {n:Nat}:∀ {ts:List T},(∀ x ∈ ts,Dp n x) -> ∃ ds,pO ts=some ds /\ PyData.canLayAll0 ds=true /\ PyData.depthAll ds ≤ n
 | [],_=>⟨[],rfl,rfl,Nat.zero_le _⟩
 | t :: ts,h=>by
  obtain ⟨d,h1,h2,h3⟩:=h t List.mem_cons_self
  obtain ⟨ds,g1,g2,g3⟩:=zQ fun x hx=>h x (List.mem_cons_of_mem _ hx)
  refine ⟨d :: ds,by simp only [pO,h1,g1,Option.bind_some],by simp only [PyData.canLayAll0,h2,g2,Bool.and_self],by simp only [PyData.depthAll]; omega⟩
theorem oh {n:Nat} {ts:List T} (h:∀ x ∈ ts,Dp n x):Dp (n + 1) (.lst ts):=by
 obtain ⟨ds,h1,h2,h3⟩:=zQ h
 exact ⟨.list ds,by simp only [Fd,h1,Option.map_some],by simp only [PyData.canLay0,h2],by simp only [PyData.depth]; omega⟩
theorem KH (q:Rat):Dp 1 (bF q):=⟨.tuple [.int q.num,.int q.den],rfl,rfl,Nat.le_of_ble_eq_true rfl⟩
theorem uu (r:List Rat):Dp 2 (ay r):=oh fun x hx=>by
 obtain ⟨q,_,rfl⟩:=List.mem_map.mp hx
 exact KH q
theorem oi (A:List (List Rat)):Dp 3 (ao A):=oh fun x hx=>by
 obtain ⟨q,_,rfl⟩:=List.mem_map.mp hx
 exact uu q
theorem cmp_self {neg:Bool} {t:T} {n:Nat} (h:Dp n t) (hn:n ≤ 60):DO neg t t=some (.bl (!neg)):=by
 obtain ⟨d,h1,h2,h3⟩:=h
 have hs:SeqAt.shaped d=true:=by
  unfold SeqAt.shaped
  rw [h2,Bool.true_and]
  exact decide_eq_true (by omega)
 unfold DO
 rw [h1,Option.bind_some,Option.bind_some,if_pos ⟨hs,hs⟩,eqv_refl d h2]
 cases neg <;> rfl
open PySem PySem.Spec PyProof.Rows L2 TM Qm Rq
structure MG (n:Nat) (A:List (List Rat)):Prop where
 sq:Sq n A
 n4:n ≤ 4
 lq:∀ r ∈ A,∀ x ∈ r,Lq 1 9 x
theorem MG.tb {n:Nat} {A:List (List Rat)} (h:MG n A):Tb 1 9 A:=⟨by have:=h.sq.1; have:=h.n4; omega,fun r hr=>⟨by have:=h.sq.2 r hr; have:=h.n4; omega,h.lq r hr⟩⟩
theorem DV {f:FE} {s:FS} {τ:aJ} (h:f τ=some (.bl true,τ)):bG (eu (eR f)) s bp τ=some (.nx τ):=by
 unfold bG eu eR
 rw [h]
 rfl
theorem aW {t u:FS} {τ τ':aJ} (h:t τ=some (.nx τ')):aO t u τ=u τ':=by
 unfold aO
 rw [h]
 rfl
theorem eL {f:FE} {τ:aJ} {t:T} (h:f τ=some (t,τ)):aa f ai τ=some ([t],τ):=by
 unfold aa
 rw [h]
 rfl
theorem dy {f g:FE} {τ:aJ} {t u:T} (h:f τ=some (t,τ)) (h':g τ=some (u,τ)):aa f (aa g ai) τ=some ([t,u],τ):=by
 unfold aa
 rw [h,Option.bind_some]
 dsimp only
 rw [h']
 rfl
theorem Tb.add {k m m':Nat} {A B:List (List Rat)} (h1:Tb k m A) (h2:Tb k m' B):Tb k (m + m') (Jx A B):=by
 refine ⟨by unfold Jx; rw [List.length_map]; exact uE A B h1.len,fun r hr=>?_⟩
 obtain ⟨p,hp,rfl⟩:=List.mem_map.mp hr
 refine ⟨by unfold Jw; rw [List.length_map]; exact uE _ _ (h1.row _ (dm hp).1).len,fun x hx=>?_⟩
 obtain ⟨q,hq,rfl⟩:=List.mem_map.mp hx
 exact ((h1.row _ (dm hp).1).lq _ (dm hq).1).add ((h2.row _ (dm hp).2).lq _ (dm hq).2)
theorem Tb.scale {k m k' m':Nat} {b:Rat} {A:List (List Rat)} (h1:Lq k m b) (h2:Tb k' m' A):Tb (k + k') (m * m') (Kh b A):=by
 refine ⟨by unfold Kh; rw [List.length_map]; exact h2.len,fun r hr=>?_⟩
 obtain ⟨p,hp,rfl⟩:=List.mem_map.mp hr
 refine ⟨by unfold mulR; rw [List.length_map]; exact (h2.row p hp).len,fun x hx=>?_⟩
 obtain ⟨q,hq,rfl⟩:=List.mem_map.mp hx
 exact h1.mul ((h2.row p hp).lq q hq)
theorem Tb.turn {k m w:Nat} {A:List (List Rat)} (h:Tb k m A) (hw:w ≤ 8):Tb k m (fm A w):=by
 refine ⟨by unfold fm; rw [List.length_map,List.length_range]; exact hw,fun r hr=>?_⟩
 obtain ⟨j,_,rfl⟩:=List.mem_map.mp hr
 exact yO h j
theorem Tb.mul {k m k' m' w:Nat} {A B:List (List Rat)} (h1:Tb k m A) (h2:Tb k' m' B) (hw:w ≤ 8):Tb (k + k') (8 * (m * m')) (mulM A B w):=by
 refine ⟨by unfold mulM; rw [List.length_map]; exact h1.len,fun r hr=>?_⟩
 obtain ⟨p,hp,rfl⟩:=List.mem_map.mp hr
 refine ⟨by rw [wc]; exact hw,fun x hx=>?_⟩
 obtain ⟨j,_,rfl⟩:=List.mem_map.mp hx
 exact (Ai (h1.row p hp).lq (yO h2 j).lq).mono (Nat.mul_le_mul_right _ (h1.row p hp).len)
open PySem PySem.Spec PyProof.Rows L2 TM Qm Rq
structure Dr (w:Nat) (A:List (List Rat)):Prop where
 len:A.length ≤ 4
 wd:Wd w A
 w4:w ≤ 4
 lq:∀ r ∈ A,∀ x ∈ r,Lq 1 9 x
theorem Dr.tb {w:Nat} {A:List (List Rat)} (h:Dr w A):Tb 1 9 A:=⟨by have:=h.len; omega,fun r hr=>⟨by have:=h.wd r hr; have:=h.w4; omega,h.lq r hr⟩⟩
theorem KG (n:Nat):(List.replicate n ([bF 0]:List T)).flatten=(List.replicate n (0:Rat)).map bF:=by
 induction n with
 | zero=>rfl
 | succ n ih=>rw [List.replicate_succ,List.flatten_cons,ih,List.replicate_succ]; rfl
theorem DQ {ts:List T} {k:Int} (h1 : -(2 ^ 63) ≤ k) (h2:k < 2 ^ 63) (h3:ts.length * k.toNat ≤ sizeLine):vi (.lst ts) (.int k)=some (.lst (List.replicate k.toNat ts).flatten):=if_pos ⟨⟨h1,h2⟩,h3⟩
theorem Hg {n:Nat} (h:n ≤ 8):vi (.lst [bF 0]) (.int (n:Nat))=some (ay (List.replicate n 0)):=by
 have e:=DQ (ts:=[bF 0]) (k:=(n:Int)) (by omega) (by omega) (by rw [List.length_singleton,Nat.one_mul,Int.toNat_natCast]; exact cg (by omega))
 rw [e,Int.toNat_natCast,KG]
 rfl
theorem qR {fi:FA} {fg:FG} {fb:FS} {τ:aJ} {ts:List T} {r:R} (h1:fi τ=some (ts,τ)) (h2:ee fg fb ts τ=some r):iU fi fg fb τ=some r:=by
 unfold iU
 rw [h1,Option.bind_some]
 exact h2
theorem dX {f:FE} {τ τ':aJ} {t:T} (h:f τ=some (t,τ')):bz f τ=some (.rt t):=by
 unfold bz
 rw [h]
 rfl
open PySem PySem.Spec PyProof.Rows L2 TM Qm Rq
def dw (m w:Nat):List (List Rat):=List.replicate m (List.replicate w 0)
theorem gy {f g i:FE} {τ:aJ} {t u v:T} (h:f τ=some (t,τ)) (h':g τ=some (u,τ)) (h'':i τ=some (v,τ)):aa f (aa g (aa i ai)) τ=some ([t,u,v],τ):=by
 have e:=dy h' h''
 generalize hg:aa g (aa i ai)=G at *
 unfold aa
 rw [h,Option.bind_some]
 dsimp only
 rw [e]
 rfl
theorem fj {i:Nat} {f:FE} {τ τ1 τ2:aJ} {t:T} (h:f τ=some (t,τ1)) (h2:bK i (fC t) τ1=some (.nx τ2)):bK i f τ=some (.nx τ2):=by
 unfold bK at *
 rw [h]
 exact h2
open PySem PySem.Spec PyProof.Rows L2 TM Qm Rq
theorem J4 {L:List T} {i:Int} (h0:0 ≤ i) (h1:i < (L.length:Int)):∃ t,bC (.lst L) (.int i)=some t /\ t ∈ L:=by
 obtain ⟨j,rfl⟩:=Int.eq_ofNat_of_zero_le h0
 have hj:j < L.length:=by omega
 exact ⟨L[j],rF (List.getElem?_eq_getElem hj),List.getElem_mem hj⟩
theorem cY {i:Int} (h1 : -1000000 ≤ i) (h2:i ≤ 1000000):i.natAbs < B:=by
 have:=Jz
 omega
theorem Ff (a:Int):T.tup [.int a,.int 1]=bF (Rat.divInt a 1):=by
 have e:=Rat.divInt_ofNat a 1
 rw [show ((1:Nat):Int)=1 from rfl] at e
 rw [e,Rat.mkRat_one]
 rfl
def drawn (d:Int):Rat:=Rat.divInt (d.fmod 19 - 9) (1 + d.fdiv 19)
open PySem PySem.Spec PyProof.Rows L2 TM Qm Rq
theorem ve {i no:Nat} {cap:List Nat} {fi:FA} {fg:FG} {ft:FT} {fe:FE} {τ:aJ} {ts us:List T} (h1:fi τ=some (ts,τ)) (h2:frzAll cap τ=τ) (h3:cu (cG no cap τ)=true) (h4:gM fg ft fe ts (cG no cap τ) []=some us):iI i no cap fi fg ft fe τ=some (.nx (τ.set i (some (.own us)))):=by
 unfold iI
 rw [h1,Option.bind_some]
 dsimp only
 rw [h2,if_pos h3,h4]
 rfl
theorem zH {f:FE} {τ:aJ} (h:f τ=some (.bl true,τ)):eu (eR f) τ=some (false,τ):=by
 unfold eu eR
 rw [h]
 rfl
open PySem PySem.Spec PyProof.Rows L2 TM Qm Rq
def MQ (M:Nat) (x:Dt.Row):Prop:=∀ j,(x j).natAbs ≤ M
theorem cL {m n:Nat} {fb:FS} {ts:List T} {t:T} (hl:ts.length=n) (h:fb (ts.map (fun t=>some (Sl.sh t)) ++ List.replicate (m - n) none)=some (.rt t)):cz m n fb ts=some t:=by
 unfold cz
 rw [if_pos hl,h]
 rfl
open PySem PySem.Spec PyProof.Rows L2 TM Qm Rq
theorem Ft {i:Nat} {f:FE} {τ:aJ} {ts:List T} {t:T} (h:τ[i]? = some (some (.own ts))) (hf:f τ=some (t,τ)) (hl:ts.length < sizeLine):lL i f τ=some (.nx (τ.set i (some (.own (ts ++ [t]))))):=by
 unfold lL
 rw [h]
 dsimp only
 rw [hf,Option.bind_some]
 dsimp only
 rw [h]
 dsimp only
 rw [if_pos hl]
structure MS (M L:Nat) (R:List Dt.Row) (ps:List Nat) (ks:List (Nat × List Int)):Prop where
 fw:Dt.Fw L [] [] ks R ps
 bd:∀ y ∈ R,MQ M y
 lr:R.length ≤ 5
 lp:ps.length ≤ 5
open PySem PySem.Spec PyProof.Rows L2 TM Qm Rq
def Mz (r:List Rat):List Int:=r.map (bR (aT r))
theorem DB {g:List T -> Option T} {f:FA} {ρ ρ':aJ} {t:T} (ts:List T) (h1:f ρ=some (ts,ρ')) (h2:g ts=some t):ak g f ρ=some (t,ρ'):=by
 unfold ak
 rw [h1,Option.bind_some,h2]
 rfl
theorem Bu {f:FE} {g:FA} {τ τ1 τ2:aJ} {t:T} {ts:List T} (h1:f τ=some (t,τ1)) (h2:g τ1=some (ts,τ2)):aa f g τ=some (t :: ts,τ2):=by
 unfold aa
 rw [h1,Option.bind_some,h2]
 rfl
theorem bg {g:T -> T -> Option T} {fa fb:FE} {τ:aJ} {a b t:T} (h1:fa τ=some (a,τ)) (h2:fb τ=some (b,τ)) (h:g a b=some t):aF g fa fb τ=some (t,τ):=by
 unfold aF
 rw [h1,Option.bind_some,h2,Option.bind_some]
 show (g a b).bind _=_
 rw [h]
 rfl
theorem len_tab (A:List (List Rat)):cM [ao A]=some (.int (A.length:Nat)):=by
 show some (T.int ((A.map ay).length:Nat))=_
 rw [List.length_map]
theorem L9 {f g:FE} {τ:aJ} {a b:Nat} (h1:f τ=some (.int (a:Nat),τ)) (h2:g τ=some (.int (b:Nat),τ)):dJ (aF Jh f g) τ=some (decide (a < b),τ):=by
 unfold dJ aF
 rw [h1,Option.bind_some]
 dsimp only
 rw [h2,Option.bind_some]
 show some (decide ((a:Int) < (b:Int)),τ)=_
 congr 2
 simp only [Int.ofNat_lt]
theorem xG {A:List (List Rat)} {i:Nat} (h:i < A.length):bC (ao A) (.int (i:Nat))=some (ay (A.getD i [])):=by
 show qB (A.map ay) (i:Int)=_
 unfold qB zu
 rw [if_pos (by omega),List.length_map,if_pos (by omega),Option.bind_some,Int.toNat_natCast,List.getElem?_map,List.getElem?_eq_getElem h,List.getD_eq_getElem?_getD,List.getElem?_eq_getElem h]
 rfl
theorem AG {l:List Rat} {c:Nat} (h:c < l.length):l.getD c 0 ∈ l:=by
 rw [List.getD_eq_getElem?_getD,List.getElem?_eq_getElem h]
 exact List.getElem_mem h
theorem og {i:Nat} {f g:FE} {τ:aJ} {us:List T} {k:Nat} {t:T} (h:τ[i]? = some (some (.own us))) (hf:f τ=some (t,τ)) (hg:g τ=some (.int (k:Nat),τ)) (hk:k < us.length):eQ i f g τ=some (.nx (τ.set i (some (.own (us.set k t))))):=by
 unfold eQ
 rw [hf,Option.bind_some]
 dsimp only
 rw [h]
 dsimp only
 rw [hg,Option.bind_some]
 dsimp only
 rw [h]
 dsimp only
 rw [show zu us.length ((k:Nat):Int)=some k from by unfold zu; rw [if_pos (by omega),if_pos (by omega),Int.toNat_natCast]]
 rfl
theorem uW {N d:Int} (hd:¬ d=0) (bd:d.natAbs < B):dc (.int N) (.int d)=some (.int (N.fdiv d)):=if_pos ⟨hd,bd⟩
theorem oU {a b:Int} (h1:a.natAbs < B) (h2:b.natAbs < B):bq (.int a) (.int b)=some (.int (a * b)):=if_pos ⟨h1,h2⟩
def K4 (m i:Nat) (low:Nat):List Int:=(List.range m).map fun o=>if o=i then (low:Int) else 0
def IL (m i:Nat) (r:List Rat):List Int:=Mz r ++ K4 m i (aT r)
def Bl (A:List (List Rat)):List (List Int):=(List.range A.length).map fun i=>IL A.length i (A.getD i [])
theorem fO {f:FE} {τ:aJ} {k:Int} (h:f τ=some (.int k,τ)):cQ f τ=some (some k,τ):=by
 unfold cQ
 rw [h]
 rfl
theorem nL {f:FE} {fl fh:FO} {τ:aJ} {a t:T} {lo hi:Option Int} (h:f τ=some (a,τ)) (h1:fl τ=some (lo,τ)) (h2:fh τ=some (hi,τ)) (h3:Bj a lo hi=some t):ly f fl fh τ=some (t,τ):=by
 unfold ly
 rw [h,Option.bind_some]
 dsimp only
 rw [h1,Option.bind_some]
 dsimp only
 rw [h2,Option.bind_some]
 dsimp only
 rw [h3]
 rfl
theorem w8 {a b:Int} (hb:b ≠ 0):(Rat.divInt a b).den ∣ b.natAbs:=by
 rw [Rat.den_divInt,if_neg hb]
 exact Nat.div_dvd_of_dvd (by
  have:=Int.natAbs_dvd_natAbs.mpr (Int.gcd_dvd_left b a)
  rwa [Int.natAbs_natCast] at this)
theorem w9 {a b:Int} (hb:b ≠ 0):(Rat.divInt a b).num.natAbs ≤ a.natAbs:=by
 rw [Rat.num_divInt]
 have h1:((Int.gcd b a:Nat):Int) ∣ b.sign * a:=Int.dvd_mul_of_dvd_right (Int.gcd_dvd_right _ _)
 rw [Int.natAbs_ediv_of_dvd h1,Int.natAbs_mul]
 have h2:b.sign.natAbs=1:=by
  rcases Int.lt_or_gt_of_ne hb with h | h
  ·rw [Int.sign_eq_neg_one_of_neg h]; rfl
  ·rw [Int.sign_eq_one_of_pos h]; rfl
 rw [h2,Nat.one_mul]
 exact Nat.div_le_self _ _
theorem oR {N d:Int} (hd:¬ d=0):df (.int N) (.int d)=some (.int (N.fmod d)):=if_pos hd
structure Bw (w M:Nat) (A:List (List Rat)):Prop where
 wd:∀ r ∈ A,r.length=w
 lq:∀ r ∈ A,∀ x ∈ r,Lq 1 M x
theorem Cp {f:FE} {c:FT} {s:FS} {τ τ' τ'':aJ} (h1:f τ=some (.bl true,τ')) (h2:c τ'=some (false,τ'')):bG (qd (eu (eR f)) c) s bp τ=some (.nx τ''):=by
 have e:eu (eR f) τ=some (false,τ'):=by
  unfold eu eR
  rw [h1]
  rfl
 unfold bG qd
 rw [e,Option.bind_some]
 dsimp only
 rw [if_neg (by decide),h2]
 rfl
theorem eZ {c:FT} {s:FS} {τ τ':aJ} (h:c τ=some (false,τ')):bG c s bp τ=some (.nx τ'):=by
 unfold bG
 rw [h]
 rfl
theorem iM:∀ ts:List T,O.trs (ts.map O.val)=ts
 | []=>rfl
 | t :: ts=>by rw [List.map_cons,O.trs,iM ts]; rfl
open PySem PySem.Spec PyProof.Rows L2 TM Qm Rq
def Tr (w m:Nat) (Jq:Nat -> Nat -> Rat) (x:Dt.Row):Prop:=∀ j < w + 1,((x j:Int):Rat)=Dq.sm (List.range m) fun k=>((x (w + 1 + k):Int):Rat) * Jq k j
theorem Tr.sp {w m:Nat} {Jq:Nat -> Nat -> Rat}:∀ {W:List Dt.Row} {x:Dt.Row},Dt.Sp W x -> (∀ y ∈ W,Tr w m Jq y) -> Tr w m Jq x
 | _,_,.nil h,_=>fun j _=>by
  rw [h j,Dq.pJ (g:=fun _=>0) fun k _=>by rw [h]; exact Rat.zero_mul _,Dq.oj]
  rfl
 | _,_,.cons (w:=v) (y:=y) a h hy,hw=>fun j hj=>by
  have h1:=hw v List.mem_cons_self j hj
  have h2:=Tr.sp hy (fun z hz=>hw z (List.mem_cons_of_mem _ hz)) j hj
  have e3:(Dq.sm (List.range m) fun k=>((a:Int):Rat) * (((v (w + 1 + k):Int):Rat) * Jq k j) + 1 * (((y (w + 1 + k):Int):Rat) * Jq k j))=((a:Int):Rat) * (Dq.sm (List.range m) fun k=>((v (w + 1 + k):Int):Rat) * Jq k j) + 1 * (Dq.sm (List.range m) fun k=>((y (w + 1 + k):Int):Rat) * Jq k j):=Dq.CS _ _ _ _ _
  rw [Rat.one_mul,<- h1,<- h2] at e3
  rw [h j,Rat.intCast_add,Rat.intCast_mul,<- e3]
  refine Dq.pJ fun k _=>?_
  rw [h,Rat.intCast_add,Rat.intCast_mul]
  grind
open PySem PySem.Spec PyProof.Rows L2 TM Qm Rq
open PySem PySem.Spec PyProof.Rows L2 TM Qm Rq
def Ov (D N:Nat) (q:Rat):Prop:=∃ a:Int,q=Rat.divInt a (D:Int) /\ a.natAbs ≤ N
theorem Ov.zero (D:Nat):Ov D 0 0:=⟨0,by rw [Rat.zero_divInt],by simp⟩
theorem Ov.mono {D N N':Nat} {q:Rat} (h:Ov D N q) (hn:N ≤ N'):Ov D N' q:=by
 obtain ⟨a,h1,h2⟩:=h
 exact ⟨a,h1,Nat.le_trans h2 hn⟩
theorem Ov.add {D N N':Nat} (hD:0 < D) {x y:Rat} (h:Ov D N x) (h':Ov D N' y):Ov D (N + N') (x + y):=by
 obtain ⟨a,rfl,ha⟩:=h
 obtain ⟨b,rfl,hb⟩:=h'
 have hd:(D:Int) ≠ 0:=by omega
 refine ⟨a + b,?_,by have:=Int.natAbs_add_le a b; omega⟩
 rw [Rat.divInt_add_divInt _ _ hd hd,<- Int.add_mul,Rat.divInt_mul_right hd]
theorem Ov.mul {D D' N N':Nat} {x y:Rat} (h:Ov D N x) (h':Ov D' N' y):Ov (D * D') (N * N') (x * y):=by
 obtain ⟨a,rfl,ha⟩:=h
 obtain ⟨b,rfl,hb⟩:=h'
 refine ⟨a * b,?_,by rw [Int.natAbs_mul]; exact Nat.mul_le_mul ha hb⟩
 rw [Rat.divInt_mul_divInt,Int.natCast_mul]
theorem Ov.num {D N:Nat} (hD:0 < D) {q:Rat} (h:Ov D N q):q.num.natAbs ≤ N:=by
 obtain ⟨a,rfl,ha⟩:=h
 exact Nat.le_trans (w9 (by omega)) ha
theorem Ov.den {D N:Nat} (hD:0 < D) {q:Rat} (h:Ov D N q):q.den ∣ D:=by
 obtain ⟨a,rfl,ha⟩:=h
 have:=w8 (a:=a) (b:=(D:Int)) (by omega)
 rw [Int.natAbs_natCast] at this
 exact this
theorem Ov.sm {D N:Nat} (hD:0 < D) (hd:D < C) (hn:N < C) {q:Rat} (h:Ov D N q):Sm q:=⟨Nat.lt_of_le_of_lt (h.num hD) hn,Nat.lt_of_le_of_lt (Nat.le_of_dvd hD (h.den hD)) hd⟩
theorem Ov.lq {k m:Nat} {q:Rat} (h:Lq k m q):Ov (DD k) (m * DD k) q:=h
structure Gv (D N:Nat) (r:List Rat):Prop where
 len:r.length ≤ 8
 ov:∀ x ∈ r,Ov D N x
 dp:0 < D
 db:D < C
 nb:N < C
theorem Gv.gn {D N:Nat} {r:List Rat} (h:Gv D N r):Gn D N r:=⟨h.len,fun x hx=>(h.ov x hx).den h.dp,fun x hx=>(h.ov x hx).num h.dp,h.dp,Nat.lt_trans h.db CB,Nat.lt_trans h.nb CB⟩
theorem Gv.sm {D N:Nat} {r:List Rat} (h:Gv D N r) {x:Rat} (hx:x ∈ r):Sm x:=(h.ov x hx).sm h.dp h.db h.nb
structure IY (D N D' N':Nat):Prop where
 dd:D * D' < C
 nn:8 * (N * N') < C
def pS (P:List T -> Option T):FS:=bK 2 (ak P (aa (ag 2) (aa (ak Kd (aa (ag 3) (aa (ag 4) ai))) ai)))
theorem wB {P:List T -> Option T} (hP:∀ x y:Rat,Sm x -> Sm y -> P [bF x,bF y]=some (bF (x + y))) {D N D' N':Nat} (hD:0 < D) (hD':0 < D') (hd:D < C) (hn:N < C) (hd':D' < C) (hn':N' < C) (hdd:D * D' < C) (x0 x1:Option Sl):∀ (r s:List Rat) (a:Rat) (M:Nat) (u v:Option Sl),(∀ x ∈ r,Ov D N x) -> (∀ y ∈ s,Ov D' N' y) -> Ov (D * D') M a -> M + r.length * (N * N') < C ->
  ∃ u' v',ee (cm (aB (aq 3) (aB (aq 4) bO))) (pS P) ((List.zip r s).map fun p=>T.tup [bF p.1,bF p.2]) [x0,x1,some (.sh (bF a)),u,v]=some (.nx [x0,x1,some (.sh (bF (a + wsum r s))),u',v'])
 | [],s,a,M,u,v,_,_,_,_=>⟨u,v,by rw [dv,Rat.add_zero]; simp [ee]⟩
 | x :: r,[],a,M,u,v,_,_,_,_=>⟨u,v,by
   have z:wsum (x :: r) []=0:=by unfold wsum; rw [List.zipWith_nil_right]; rfl
   rw [z,Rat.add_zero]; simp [ee]⟩
 | x :: r,y :: s,a,M,u,v,h1,h2,h3,h4=>by
  have hx:=h1 x List.mem_cons_self
  have hy:=h2 y List.mem_cons_self
  have lx:=hx.mul hy
  have hp:=Nat.mul_pos hD hD'
  have la:=h3.add hp lx
  rw [List.length_cons,Nat.add_mul,Nat.one_mul] at h4
  obtain ⟨u',v',ih⟩:=wB hP hD hD' hd hn hd' hn' hdd x0 x1 r s (a + x * y) (M + N * N') (some (.sh (bF x))) (some (.sh (bF y))) (fun z hz=>h1 z (List.mem_cons_of_mem _ hz)) (fun z hz=>h2 z (List.mem_cons_of_mem _ hz)) la (by omega)
  refine ⟨u',v',?_⟩
  have k1:=Ke (hx.sm hD hd hn) (hy.sm hD' hd' hn')
  have k2:=hP _ _ (h3.sm hp hdd (by omega)) (lx.sm hp hdd (by omega))
  have hb:(pS P) [x0,x1,some (.sh (bF a)),some (.sh (bF x)),some (.sh (bF y))]=some (.nx [x0,x1,some (.sh (bF (a + x * y))),some (.sh (bF x)),some (.sh (bF y))]):=by
   clear hP ih h1 h2 h3 h4 hx hy lx la hD hD' hd hn hd' hn' hdd hp
   unfold pS
   walk_at "ev"
  rw [List.zip_cons_cons,List.map_cons,ff (τ1:=[x0,x1,some (.sh (bF a)),some (.sh (bF x)),some (.sh (bF y))]) rfl hb,ih,bS,Rat.add_assoc]
theorem uC {D N D' N':Nat} (hD:0 < D) (hD':0 < D'):∀ {r s:List Rat},(∀ x ∈ r,Ov D N x) -> (∀ y ∈ s,Ov D' N' y) -> Ov (D * D') (r.length * (N * N')) (wsum r s)
 | [],s,_,_=>by rw [dv]; exact (Ov.zero _).mono (Nat.zero_le _)
 | x :: r,[],_,_=>by
  have z:wsum (x :: r) []=0:=by unfold wsum; rw [List.zipWith_nil_right]; rfl
  rw [z]; exact (Ov.zero _).mono (Nat.zero_le _)
 | x :: r,y :: s,h1,h2=>by
  rw [bS,List.length_cons,Nat.add_mul,Nat.one_mul,Nat.add_comm]
  exact ((h1 x List.mem_cons_self).mul (h2 y List.mem_cons_self)).add (Nat.mul_pos hD hD') (uC hD hD' (fun z hz=>h1 z (List.mem_cons_of_mem _ hz)) (fun z hz=>h2 z (List.mem_cons_of_mem _ hz)))
theorem IT {P:List T -> Option T} (hP:∀ x y:Rat,Sm x -> Sm y -> P [bF x,bF y]=some (bF (x + y))) {D N D' N':Nat} {r s:List Rat} (h1:Gv D N r) (h2:Gv D' N' s) (f:IY D N D' N') :
  ∃ u v,iU (gq (aa (ag 0) (aa (ag 1) ai))) (cm (aB (aq 3) (aB (aq 4) bO))) (pS P) [some (.sh (ay r)),some (.sh (ay s)),some (.sh (bF 0)),none,none]=some (.nx [some (.sh (ay r)),some (.sh (ay s)),some (.sh (bF (wsum r s))),u,v]):=by
 have hm:=Nat.mul_le_mul_right (N * N') h1.len
 obtain ⟨u,v,hl⟩:=wB hP h1.dp h2.dp h1.db h1.nb h2.db h2.nb f.dd (some (.sh (ay r))) (some (.sh (ay s))) r s 0 0 none none h1.ov h2.ov (Ov.zero _) (by have:=f.nn; omega)
 rw [Rat.zero_add] at hl
 have hi:gq (aa (ag 0) (aa (ag 1) ai)) [some (.sh (ay r)),some (.sh (ay s)),some (.sh (bF 0)),none,none]=some ((List.zip r s).map fun p=>T.tup [bF p.1,bF p.2],[some (.sh (ay r)),some (.sh (ay s)),some (.sh (bF 0)),none,none]):=by
  rw [<- kf]
  rfl
 exact ⟨u,v,qR hi hl⟩
abbrev Ll:List T -> Option T:=cz 5 2 (qD Kd Ji)
theorem JR {D N D' N':Nat} {r s:List Rat} (h1:Gv D N r) (h2:Gv D' N' s) (f:IY D N D' N'):Ll [ay r,ay s]=some (bF (wsum r s)):=by
 obtain ⟨u,v,hl⟩:=IT (P:=Ji) (fun _ _=>Ka) h1 h2 f
 refine cL rfl ?_
 show aO (bK 2 (fC (.tup [.int 0,.int 1]))) (aO (iU (gq (aa (ag 0) (aa (ag 1) ai))) (cm (aB (aq 3) (aB (aq 4) bO))) (pS Ji)) (bz (ag 2))) [some (.sh (ay r)),some (.sh (ay s)),none,none,none]=_
 rw [aW (τ':=[some (.sh (ay r)),some (.sh (ay s)),some (.sh (bF 0)),none,none]) rfl,aW hl]
 rfl
theorem qV {r:List Rat} {D N:Nat} (h:Gv D N r):0 ≤ longest r /\ longest r ≤ 4000:=by
 have hb:∀ n ∈ bitsQ r,0 ≤ n /\ n ≤ 4000:=fun n hn=>by
  obtain ⟨x,hx,rfl⟩:=List.mem_map.mp hn
  have h1:(x.den:Int).natAbs < B:=by have:=(h.sm hx).d; have:=CB; omega
  have:=wN h1
  omega
 unfold longest
 split
 ·omega
 ·unfold bestOf
  rw [List.getD_eq_getElem?_getD]
  cases e:(bitsQ r)[argBest (fun i j=>decide ((bitsQ r).getD i 0 > (bitsQ r).getD j 0)) ((bitsQ r).length - 1)]? with
  | none=>show (0:Int) ≤ 0 /\ (0:Int) ≤ 4000; omega
  | some n=>exact hb n (List.mem_of_getElem? e)
abbrev Bz:List T -> Option T:=cz 2 1 (oC Lu Ls)
theorem FU {r:List Rat} {D N:Nat} (h1:Gv D N r):Bz [ay r]=some (liftT r):=by
 have k1:=Kc h1.gn
 have k2:=Kb h1.gn
 have hc:=iH (φ:=fun x:Rat=>T.int x.num) (ψ:=fun x=>T.int x.den) (fe:=uF jl (ag 1)) (g:=fun x=>T.int (Builtin.Int.intBits (x.den:Int):Int)) (ρ:=[]) rfl r none none [] (fun x hx=>rfl) (fU h1.len)
 have e:=cv (no:=2) (cap:=[]) (fi:=bI (ag 0)) (fg:=vj) (ft:=aL) (τ:=[some (.sh (ay r)),some (.sh (.int (aT r:Nat)))]) (h1:=rfl) rfl rfl hc
 rw [List.nil_append] at e
 have e2:(r.map fun x:Rat=>T.int (Builtin.Int.intBits (x.den:Int):Int))=(bitsQ r).map T.int:=by unfold bitsQ; rw [List.map_map]; rfl
 rw [e2] at e
 have e3:zi (.lst ((bitsQ r).map T.int)) (.int 1)=some (.int (longest r)):=by
  show ((intsOf ((bitsQ r).map T.int)).bind fun ns=>some (T.int (if ns=[] then 1 else bestOf ns)))=_
  rw [kR]
  rfl
 have l4:=L8
 clear h1 hc e2
 unfold Bz cz oC liftT
 walk_at "ev"
theorem pP {r:List Rat} {D N:Nat} (h:Gn D N r):(r.map (bR (aT r))).map (fun n=>Rat.divInt n (aT r:Nat))=r:=by
 obtain ⟨q1,q2,q3⟩:=zB h
 rw [List.map_map]
 have:r.map ((fun n=>Rat.divInt n (aT r:Nat)) ∘ bR (aT r))=r.map id:=List.map_congr_left fun x hx=>IK q2 (q3 x hx)
 rw [this,List.map_id]
theorem MR:C * C * C < B:=by decide +kernel
abbrev Dl:List T -> Option T:=cz 10 2 (fL Ll vK)
set_option maxHeartbeats 1000000 in
theorem JS {D N D' N':Nat} {r s:List Rat} (h1:Gv D N r) (h2:Gv D' N' s) (f:IY D N D' N'):Dl [liftT r,liftT s]=some (bF (wsum r s)):=by
 obtain ⟨q1,q2,q3⟩:=zB h1.gn
 obtain ⟨p1,p2,p3⟩:=zB h2.gn
 have kW:=JR h1 h2 f
 have bl:=qV h1
 have bl':=qV h2
 have hL:aT r ≤ D:=Nat.le_of_dvd h1.dp q1
 have hL':aT s ≤ D':=Nat.le_of_dvd h2.dp p1
 have cc:=MR
 have hcc:C ≤ C * C:=Nat.le_mul_of_pos_left C Fm
 have hccc:C * C ≤ C * C * C:=Nat.le_mul_of_pos_right _ Fm
 have t1:∀ x ∈ r,(bR (aT r) x).natAbs ≤ N * D:=fun x hx=>Gz ((h1.ov x hx).num h1.dp) h1.dp q1
 have t2:∀ x ∈ s,(bR (aT s) x).natAbs ≤ N' * D':=fun x hx=>Gz ((h2.ov x hx).num h2.dp) h2.dp p1
 have hND:N * D < B:=by
  have:=Nat.mul_le_mul (Nat.le_of_lt h1.nb) (Nat.le_of_lt h1.db)
  omega
 have hND':N' * D' < B:=by
  have:=Nat.mul_le_mul (Nat.le_of_lt h2.nb) (Nat.le_of_lt h2.db)
  omega
 have hc:=iH (φ:=fun p:Rat × Rat=>T.int (bR (aT r) p.1)) (ψ:=fun p=>T.int (bR (aT s) p.2)) (fe:=aF bq (ag 0) (ag 1)) (g:=fun p=>T.int (bR (aT r) p.1 * bR (aT s) p.2)) (ρ:=[]) rfl (List.zip r s) none none [] (fun p hp=>by
  have a1:=t1 _ (dm hp).1
  have a2:=t2 _ (dm hp).2
  exact bg rfl rfl (oU (by omega) (by omega))) (fU (uE r s h1.len))
 rw [List.nil_append] at hc
 have hsum:(List.zip r s).map (fun p=>bR (aT r) p.1 * bR (aT s) p.2)=List.zipWith (· * ·) (r.map (bR (aT r))) (s.map (bR (aT s))):=Fj _ _
 have hlst:((List.zip r s).map fun p:Rat × Rat=>T.int (bR (aT r) p.1 * bR (aT s) p.2))=(List.zipWith (· * ·) (r.map (bR (aT r))) (s.map (bR (aT s)))).map T.int:=by rw [<- hsum,List.map_map]; rfl
 rw [hlst] at hc
 have hbs:(List.zipWith (· * ·) (r.map (bR (aT r))) (s.map (bR (aT s)))).sum.natAbs < B:=by
  have hM:∀ n ∈ List.zipWith (· * ·) (r.map (bR (aT r))) (s.map (bR (aT s))),n.natAbs ≤ (N * D) * (N' * D'):=fun n hn=>by
   rw [<- hsum] at hn
   obtain ⟨p,hp,rfl⟩:=List.mem_map.mp hn
   rw [Int.natAbs_mul]
   exact Nat.mul_le_mul (t1 _ (dm hp).1) (t2 _ (dm hp).2)
  have h3:=CU _ hM
  have h4:(List.zipWith (· * ·) (r.map (bR (aT r))) (s.map (bR (aT s)))).length ≤ 8:=by
   rw [List.length_zipWith,List.length_map]
   have:=h1.len
   omega
  have h5:=Nat.mul_le_mul_right ((N * D) * (N' * D')) h4
  have h6:8 * ((N * D) * (N' * D'))=(8 * (N * N')) * (D * D'):=by rw [Nat.mul_mul_mul_comm N D N' D']; exact (Nat.mul_assoc 8 (N * N') (D * D')).symm
  have h7:=Nat.mul_le_mul (Nat.le_of_lt f.nn) (Nat.le_of_lt f.dd)
  omega
 have hbl:(((aT r:Nat):Int) * ((aT s:Nat):Int)).natAbs < B:=by
  rw [Int.natAbs_mul,Int.natAbs_natCast,Int.natAbs_natCast]
  have:=Nat.mul_le_mul hL hL'
  have:=f.dd
  omega
 have hpos:(0:Int) < ((aT r:Nat):Int) * ((aT s:Nat):Int):=Int.mul_pos (by omega) (by omega)
 have kF:=Ca hbs hbl (Int.ne_of_gt hpos)
 rw [nT hpos,<- rk (by omega) (by omega),pP h1.gn,pP h2.gn] at kF
 have hi:gq (aa (ag 3) (aa (ag 7) ai)) [some (.sh (liftT r)),some (.sh (liftT s)),some (.sh (ay r)),some (.sh (.lst (r.map fun x=>T.int (bR (aT r) x)))),some (.sh (.int (aT r:Nat))),some (.sh (.int (longest r))),some (.sh (ay s)),some (.sh (.lst (s.map fun x=>T.int (bR (aT s) x)))),some (.sh (.int (aT s:Nat))),some (.sh (.int (longest s)))]
   = some ((List.zip r s).map fun p=>T.tup [T.int (bR (aT r) p.1),T.int (bR (aT s) p.2)],[some (.sh (liftT r)),some (.sh (liftT s)),some (.sh (ay r)),some (.sh (.lst (r.map fun x=>T.int (bR (aT r) x)))),some (.sh (.int (aT r:Nat))),some (.sh (.int (longest r))),some (.sh (ay s)),some (.sh (.lst (s.map fun x=>T.int (bR (aT s) x)))),some (.sh (.int (aT s:Nat))),some (.sh (.int (longest s)))]):=by
  have z:=kf (fun x:Rat=>T.int (bR (aT r) x)) (fun x:Rat=>T.int (bR (aT s) x)) r s
  rw [<- z]
  rfl
 have e:=cv (no:=2) (cap:=[]) (fg:=vj) (ft:=aL) hi rfl rfl hc
 have eS:DK [.lst ((List.zipWith (· * ·) (r.map (bR (aT r))) (s.map (bR (aT s)))).map T.int)]=some (.int (List.zipWith (· * ·) (r.map (bR (aT r))) (s.map (bR (aT s)))).sum):=by
  show ((intsOf _).bind fun ns=>some (T.int ns.sum))=_
  rw [kR]
  rfl
 have b4:(4:Int).natAbs < B:=by decide +kernel
 have bL:(longest r + longest s).natAbs < B:=by
  have:(8000:Nat) < B:=by decide +kernel
  omega
 have c1:((aT r:Nat):Int).natAbs < B:=by have:=h1.db; have:=CB; omega
 have c2:((aT s:Nat):Int).natAbs < B:=by have:=h2.db; have:=CB; omega
 have hgt:∃ b,qT (.int ((Builtin.Int.intBits ((aT r:Nat):Int):Int) + (Builtin.Int.intBits ((aT s:Nat):Int):Int))) (.int (4 * (longest r + longest s) + 128))=some (.bl b):=⟨_,rfl⟩
 obtain ⟨b,hgt⟩:=hgt
 have Ln:liftT r=.tup [ay r,.lst (r.map fun x=>T.int (bR (aT r) x)),.int (aT r:Nat),.int (longest r)]:=rfl
 have JX:liftT s=.tup [ay s,.lst (s.map fun x=>T.int (bR (aT s) x)),.int (aT s:Nat),.int (longest s)]:=rfl
 have e':dg 2 [] (gq (aa (ag 3) (aa (ag 7) ai))) (cm (aB (aq 0) (aB (aq 1) bO))) aL (aF bq (ag 0) (ag 1)) _=_:=e
 rw [Ln,JX] at e' ⊢
 clear e Ln JX t1 t2 hND hND' cc hcc hccc
 generalize wsum r s=W at *
 generalize (List.zipWith (· * ·) (r.map (bR (aT r))) (s.map (bR (aT s))))=zw at *
 clear hc hlst hsum hi hbs hbl hpos bl bl' hL hL' q1 q2 q3 p1 p2 p3 h1 h2 f
 unfold Dl cz fL
 generalize Ll=dW at *
 cases b with
 | true=>walk_at "ev"
 | false=>walk_at "ev"
open PySem PySem.Spec PyProof.Rows L2 TM Qm Rq
structure Tv (D N:Nat) (A:List (List Rat)):Prop where
 len:A.length ≤ 8
 row:∀ r ∈ A,r.length ≤ 8 /\ ∀ x ∈ r,Ov D N x
 dp:0 < D
 db:D < C
 nb:N < C
theorem Tv.gv {D N:Nat} {A:List (List Rat)} (h:Tv D N A) {r:List Rat} (hr:r ∈ A):Gv D N r:=⟨(h.row r hr).1,(h.row r hr).2,h.dp,h.db,h.nb⟩
theorem Tv.col {D N:Nat} {A:List (List Rat)} (h:Tv D N A) (j:Nat):Gv D N (gL A j):=by
 refine ⟨by unfold gL; rw [List.length_map]; exact h.len,fun x hx=>?_,h.dp,h.db,h.nb⟩
 obtain ⟨r,hr,rfl⟩:=List.mem_map.mp hx
 rw [List.getD_eq_getElem?_getD]
 cases e:r[j]? with
 | none=>exact (Ov.zero D).mono (Nat.zero_le _)
 | some y=>exact (h.row r hr).2 y (List.mem_of_getElem? e)
abbrev Lj:List T -> Option O:=rY 5 3 (gE Bz xN Dl)
theorem JQ {D N D' N' w:Nat} {A X:List (List Rat)} (h1:Tv D N A) (h2:Tv D' N' X) (h3:Wd w X) (h4:w ≤ 8) (f:IY D N D' N'):Lj [ao A,ao X,.int (w:Nat)]=some (C3 (mulM A X w)):=by
 have cA:=cn (φ:=ay) (fe:=ak Bz (aa (ag 0) ai)) (g:=liftT) (ρ:=[]) rfl A none [] (fun r hr=>aH [ay r] rfl (FU (h1.gv hr))) (fU h1.len)
 have cB:=cn (φ:=ay) (fe:=ak Bz (aa (ag 0) ai)) (g:=liftT) (ρ:=[]) rfl (fm X w) none [] (fun r hr=>by
  obtain ⟨j,_,rfl⟩:=List.mem_map.mp hr
  exact aH [ay (gL X j)] rfl (FU (h2.col j))) (fU (by unfold fm; rw [List.length_map,List.length_range]; exact h4))
 rw [List.nil_append] at cA cB
 have kT:=HC h2.len h3 h4
 have eA:iI 3 1 [] (bI (ag 0)) (aq 0) aL (ak Bz (aa (ag 0) ai)) [some (.sh (ao A)),some (.sh (ao X)),some (.sh (.int (w:Nat))),none,none]
   = some (.nx [some (.sh (ao A)),some (.sh (ao X)),some (.sh (.int (w:Nat))),some (.own (A.map liftT)),none]):=by
  show (if cu [none]=true then (gM (aq 0) aL (ak Bz (aa (ag 0) ai)) (A.map ay) [none] []).bind _ else none)=_
  rw [if_pos (show cu [none]=true from rfl),cA]
  rfl
 have eI:bI (ak xN (aa (ag 1) (aa (ag 2) ai))) [some (.sh (ao A)),some (.sh (ao X)),some (.sh (.int (w:Nat))),some (.own (A.map liftT)),none]=some ((fm X w).map ay,[some (.sh (ao A)),some (.sh (ao X)),some (.sh (.int (w:Nat))),some (.own (A.map liftT)),none]):=by
  have q:ak xN (aa (ag 1) (aa (ag 2) ai)) [some (.sh (ao A)),some (.sh (ao X)),some (.sh (.int (w:Nat))),some (.own (A.map liftT)),none]=some (ao (fm X w),[some (.sh (ao A)),some (.sh (ao X)),some (.sh (.int (w:Nat))),some (.own (A.map liftT)),none]):=aH [ao X,.int (w:Nat)] rfl kT
  unfold bI
  rw [q]
  rfl
 have eB:=cv (no:=1) (cap:=[]) (fg:=aq 0) (ft:=aL) eI rfl rfl cB
 have inner:∀ r ∈ A,fM 1 [0] (bI (ag 1)) (aq 0) aL (ny (ak Dl (aa (ag 1) (aa (ag 0) ai)))) [some (.sh (liftT r)),some (.sh (.lst ((fm X w).map liftT)))]=some (pk (ky r X w),[some (.sh (liftT r)),some (.sh (.lst ((fm X w).map liftT)))]):=fun r hr=>by
  have hc:=gN (φ:=fun j:Nat=>liftT (gL X j)) (fe:=ny (ak Dl (aa (ag 1) (aa (ag 0) ai)))) (g:=fun j=>O.val (bF (wsum r (gL X j)))) (ρ:=[some (.sh (liftT r))]) rfl (List.range w) none [] (fun j hj=>K5 [liftT r,liftT (gL X j)] rfl (JS (h1.gv hr) (h2.col j) f)) (uw (by rw [List.length_range]; exact h4))
  have hm:(List.range w).map (fun j=>liftT (gL X j))=(fm X w).map liftT:=by unfold fm; rw [List.map_map]; rfl
  rw [hm] at hc
  have e:=mC (no:=1) (cap:=[0]) (fi:=bI (ag 1)) (fg:=aq 0) (ft:=aL) (τ:=[some (.sh (liftT r)),some (.sh (.lst ((fm X w).map liftT)))]) rfl rfl rfl hc
  rw [e]
  show some (O.lst ((List.range w).map fun j=>O.val (bF (wsum r (gL X j)))),_)=some (O.lst (((ky r X w).map bF).map O.val),_)
  unfold ky
  rw [List.map_map,List.map_map]
  rfl
 have hc:=gN (φ:=liftT) (fe:=fM 1 [0] (bI (ag 1)) (aq 0) aL (ny (ak Dl (aa (ag 1) (aa (ag 0) ai))))) (g:=fun r=>pk (ky r X w)) (ρ:=[some (.sh (.lst ((fm X w).map liftT)))]) rfl A none [] inner (uw h1.len)
 have eC:=xf (no:=1) (cap:=[4]) (fi:=bI (ag 3)) (fg:=aq 0) (ft:=aL) (τ:=[some (.sh (ao A)),some (.sh (ao X)),some (.sh (.int (w:Nat))),some (.own (A.map liftT)),some (.sh (.lst ((fm X w).map liftT)))]) (τ1:=[some (.sh (ao A)),some (.sh (ao X)),some (.sh (.int (w:Nat))),some (.sh (.lst (A.map liftT))),some (.sh (.lst ((fm X w).map liftT)))]) rfl rfl rfl hc
 have e1:rY 5 3 (gE Bz xN Dl) [ao A,ao X,.int (w:Nat)]=gE Bz xN Dl [some (.sh (ao A)),some (.sh (ao X)),some (.sh (.int (w:Nat))),none,none]:=rfl
 show rY 5 3 (gE Bz xN Dl) [ao A,ao X,.int (w:Nat)]=_
 rw [e1]
 unfold gE vd
 rw [eA,Option.bind_some]
 dsimp only
 unfold bK
 rw [eB]
 show oM _ [some (.sh (ao A)),some (.sh (ao X)),some (.sh (.int (w:Nat))),some (.own (A.map liftT)),some (.sh (.lst ((fm X w).map liftT)))]=_
 unfold oM
 rw [eC]
 show some (O.lst (A.map fun r=>pk (ky r X w)))=some (O.lst ((mulM A X w).map pk))
 unfold mulM
 rw [List.map_map]
 rfl
abbrev si:List T -> Option T:=fun ts=>(Lj ts).bind fun o=>some o.tr
theorem so {D N D' N' w:Nat} {A X:List (List Rat)} (h1:Tv D N A) (h2:Tv D' N' X) (h3:Wd w X) (h4:w ≤ 8) (f:IY D N D' N'):si [ao A,ao X,.int (w:Nat)]=some (ao (mulM A X w)):=by
 show (Lj _).bind _=_
 rw [JQ h1 h2 h3 h4 f,Option.bind_some,zZ]
theorem qK {α:Type} (f:α -> Bool):∀ l:List α,boolsOf (l.map fun x=>T.bl (f x))=some (l.map f)
 | []=>rfl
 | x :: l=>by rw [List.map_cons,boolsOf,qK f l]; rfl
theorem all_map {α:Type} (f:α -> Bool) (l:List α):rX [.lst (l.map fun x=>T.bl (f x))]=some (.bl (l.all f)):=by
 show (boolsOf _).bind _=_
 rw [qK,Option.bind_some,List.all_map]
 rfl
abbrev JI:List T -> Option T:=cz 1 1 kM
abbrev FH:List T -> Option T:=cz 3 1 (ig JI dA)
theorem B3 (n:Int):JI [.int n]=some (.bl true):=by
 unfold JI cz kM
 walk_at "ev"
theorem L4 {x:Rat} (h:Sm x):FH [bF x]=some (.bl true):=by
 have k1:=ef (a:=x.num) (b:=(x.den:Int)) (ltB h.n) (ltB (by rw [Int.natAbs_natCast]; exact h.d))
 have hg:Int.gcd x.num (x.den:Int)=1:=x.reduced
 rw [hg] at k1
 have k2:=B3 x.num
 have k3:=B3 (x.den:Int)
 have hp:LX (.int (x.den:Int)) (.int 1)=some (.bl true):=by
  have:=x.den_nz
  show some (T.bl (decide ((x.den:Int) ≥ 1)))=_
  rw [decide_eq_true (by omega)]
 have k4:fX (.int ((1:Nat):Int)) (.int 1)=some (.bl true):=rfl
 unfold bF
 have c2:decide (((2:Nat):Int)=2)=true:=rfl
 generalize hw:JI=w at *
 generalize x.num=a at *
 generalize (x.den:Int)=b at *
 unfold FH cz ig
 rw [hw]
 walk_at "ev"
open PySem PySem.Spec PyProof.Rows L2 TM Qm Rq
theorem rh:∀ (n:Nat) (x y:Nat),y < n -> eV (dJ (aF qT (ag 1) (fC (.int 0)))) (jF 0 1 (aa (ag 1) (aa (aF df (ag 0) (ag 1)) ai))) n [some (.sh (.int x)),some (.sh (.int y))]
  = some (.nx [some (.sh (.int (Nat.gcd x y))),some (.sh (.int 0))])
 | 0,_,_,h=>by omega
 | n + 1,x,y,h=>by
  unfold eV
  by_cases hy:y=0
  ·subst hy
   have h0:((0:Nat):Int)=0:=rfl
   walk_at "ev"
   simp
  ·have hy':¬ ((y:Int)=0):=by omega
   have hy2:(0:Int) < y:=by omega
   have hm:Int.fmod (x:Int) (y:Int)=((x % y:Nat):Int):=by rw [Int.fmod_eq_emod_of_nonneg _ (by omega)]; rfl
   have hg:Nat.gcd x y=Nat.gcd y (x % y):=by rw [Nat.gcd_comm x y,Nat.gcd_rec y x,Nat.gcd_comm]
   have ih:=rh n y (x % y) (by have:=Nat.mod_lt x (Nat.pos_of_ne_zero hy); omega)
   rw [hg]
   clear hg h hy
   walk_at "ev"
theorem pK (ts:List T) (t:T) (h:dA ts=some t):cz 2 2 (gK B) ts=some t:=by
 unfold dA at h
 split at h
 ·next a b =>
  split at h
  ·next hb =>
   cases h
   have hw:=rh B a.natAbs b.natAbs (hb.2)
   have hg:Nat.gcd a.natAbs b.natAbs=Int.gcd a b:=rfl
   unfold cz gK
   clear hb
   walk_at "ev"
  ·cases h
 ·cases h
def zE:List T -> Option T
 | [.int a,.int b]=>if a.natAbs < B /\ b.natAbs < B /\ 0 < b then some (bF (Rat.divInt a b)) else none
 | _=>none
theorem tm {a b:Int} (ha:a.natAbs < B) (hb:b.natAbs < B) (h0:0 < b):zE [.int a,.int b]=some (bF (Rat.divInt a b)):=if_pos ⟨ha,hb,h0⟩
theorem wt (ts:List T) (t:T) (h:zE ts=some t):cz 3 2 (jw dA) ts=some t:=by
 unfold zE at h
 split at h
 ·next a b =>
  split at h
  ·next hb =>
   cases h
   obtain ⟨ha,hb,h0⟩:=hb
   have h2:=BR (a:=a) (b:=b) (by omega)
   have h3:=qU (a:=a) hb (by omega)
   have h4:((Int.gcd a b:Nat):Int).natAbs < B:=by omega
   have hc:=ef ha hb
   have e:sr a b=.tup [.int (a.fdiv (Int.gcd a b:Int)),.int (b.fdiv (Int.gcd a b:Int))]:=by unfold sr sg; rw [if_neg (by omega)]
   rw [<- nT h0,e]
   unfold cz jw
   clear e h0
   walk_at "ev"
  ·cases h
 ·cases h
def HE (c k:Int):Int:=
 let a:=(c + 7919 * k + 12345).fmod 2147483629
 let b:=(a * a + 48271 * k).fmod 2147483629
 (b * b).fmod 2147483587
abbrev FL:List T -> Option T:=cz 3 2 iQ
theorem BD {c k:Int} (h0:0 ≤ k) (h1:k ≤ 1000):FL [.int c,.int k]=some (.int (HE c k)):=by
 have r1:=fW (c + 7919 * k + 12345) (b:=2147483629) (by decide)
 have r2:=fW ((c + 7919 * k + 12345).fmod 2147483629 * (c + 7919 * k + 12345).fmod 2147483629 + 48271 * k) (b:=2147483629) (by decide)
 have bb:2147483629 < B:=by decide +kernel
 have bk:k.natAbs < B:=by omega
 have b1:((c + 7919 * k + 12345).fmod 2147483629).natAbs < B:=by omega
 have b2:(((c + 7919 * k + 12345).fmod 2147483629 * (c + 7919 * k + 12345).fmod 2147483629 + 48271 * k).fmod 2147483629).natAbs < B:=by omega
 have b3:(7919:Int).natAbs < B:=by omega
 have b4:(48271:Int).natAbs < B:=by omega
 have n1:¬ (2147483629:Int)=0:=by decide
 have n2:¬ (2147483587:Int)=0:=by decide
 unfold HE
 dsimp only
 clear r1 r2 bb h0 h1
 unfold FL cz iQ
 walk_at "ev"
theorem A7 {i:Nat} {f g:FE} {τ:aJ} {us:List T} {u t:T} (h:τ[i]? = some (some (.own (us ++ [u])))) (hf:f τ=some (t,τ)) (hg:g τ=some (.int (-1),τ)):eQ i f g τ=some (.nx (τ.set i (some (.own (us ++ [t]))))):=by
 unfold eQ
 rw [hf,Option.bind_some]
 dsimp only
 rw [h]
 dsimp only
 rw [hg,Option.bind_some]
 dsimp only
 rw [h]
 dsimp only
 rw [show zu (us ++ [u]).length (-1)=some us.length from by
  unfold zu
  rw [if_neg (by decide),List.length_append,List.length_cons,List.length_nil,if_pos (by omega)]
  rw [show (-1:Int) + ((us.length + (0 + 1):Nat):Int)=(us.length:Nat) by omega,Int.toNat_natCast]]
 rw [Option.bind_some,List.set_append_right _ _ (Nat.le_refl _),Nat.sub_self]
 rfl
def Cf:FS:=(aO (lL 2 (ak zE (aa (aF sv (aF df (ag 3) (fC (.int 19))) (fC (.int 9))) (aa (aF bJ (fC (.int 1)) (aF df (aF dc (ag 3) (fC (.int 19))) (fC (.int 12)))) ai))))
  (bK 3 (aF dc (ag 3) (fC (.int 228)))))
def oW:FE:=(aF bC (cR (aa (dR (aa (fC (.int 0)) (aa (fC (.int 1)) ai))) (aa (dR (aa (aF sv (aF df (aF dc (ag 5) (fC (.int 4))) (fC (.int 3))) (fC (.int 1))) (aa (fC (.int 1)) ai))) (aa (dR (aa (fC (.int 1)) (aa (fC (.int 2)) ai))) (aa (dR (aa (fC (.int 0)) (aa (fC (.int 1)) ai))) ai))))) (ag 6))
def Eh:FE:=(ak zE (aa (aF sv (aF df (aF dc (ag 5) (fC (.int 4))) (fC (.int 19))) (fC (.int 9))) (aa (aF bJ (fC (.int 1)) (aF df (aF dc (ag 5) (fC (.int 76))) (fC (.int 12)))) ai)))
def tw:FS:=(aO (bK 5 (ak FL (aa (ag 0) (aa (ag 4) ai))))
  (aO (bK 6 (aF df (ag 5) (fC (.int 4))))
  (aO (lL 2 oW)
  (bG (dJ (aF fX (ag 6) (fC (.int 2)))) (eQ 2 Eh (uF xi (fC (.int 1)))) bp))))
def oV:FS:=(bG (dJ (aF fX (aF df (ag 0) (fC (.int 2))) (fC (.int 1)))) Cf tw)
abbrev mh (c n:Int) (ts:List T) (r:Int) (x4 x5 x6:Option Sl):aJ:=[some (.sh (.int c)),some (.sh (.int n)),some (.own ts),some (.sh (.int r)),x4,x5,x6]
theorem DW:Lq 1 9 (Rat.divInt 1 2):=Lq.small (a:=1) (b:=2) (by decide) (by decide) (by decide)
theorem HF (c n r:Int) (ts:List T) (x4 x5 x6:Option Sl) (hl:ts.length < 1000):∃ q:Rat,Lq 1 9 q /\ Cf (mh c n ts r x4 x5 x6)=some (.nx (mh c n (ts ++ [bF q]) (r.fdiv 228) x4 x5 x6)):=by
 have r19:=fW r (b:=19) (by decide)
 have r12:=fW (r.fdiv 19) (b:=12) (by decide)
 have hf:=tm (a:=r.fmod 19 - 9) (b:=1 + (r.fdiv 19).fmod 12) (cY (by omega) (by omega)) (cY (by omega) (by omega)) (by omega)
 have hn:=Lq.small (a:=r.fmod 19 - 9) (b:=1 + (r.fdiv 19).fmod 12) (by omega) (by omega) (by omega)
 generalize Rat.divInt (r.fmod 19 - 9) (1 + (r.fdiv 19).fmod 12)=q at *
 refine ⟨q,hn,?_⟩
 have hz:ts.length < sizeLine:=iL (by omega)
 have n228:¬ (228:Int)=0:=by decide
 have n19:¬ (19:Int)=0:=by decide
 have n12:¬ (12:Int)=0:=by decide
 have b228:(228:Int).natAbs < B:=cY (by decide) (by decide)
 have b19:(19:Int).natAbs < B:=cY (by decide) (by decide)
 have b12:(12:Int).natAbs < B:=cY (by decide) (by decide)
 clear r19 r12 hn hl
 generalize bF q=Q at *
 unfold Cf
 walk_at "ev"
theorem Ei (c n r k:Int) (ts:List T) (x5 x6:Option Sl) (hk:0 ≤ k /\ k ≤ 1000) (hl:ts.length < 1000):∃ q:Rat,∃ y5 y6,Lq 1 9 q /\ tw (mh c n ts r (some (.sh (.int k))) x5 x6)=some (.nx (mh c n (ts ++ [bF q]) r (some (.sh (.int k))) y5 y6)):=by
 have hm:=BD (c:=c) (k:=k) hk.1 hk.2
 generalize HE c k=m at *
 have r3:=fW (m.fdiv 4) (b:=3) (by decide)
 have r4:=fW m (b:=4) (by decide)
 have r19:=fW (m.fdiv 4) (b:=19) (by decide)
 have r12:=fW (m.fdiv 76) (b:=12) (by decide)
 have hf:=tm (a:=(m.fdiv 4).fmod 19 - 9) (b:=1 + (m.fdiv 76).fmod 12) (cY (by omega) (by omega)) (cY (by omega) (by omega)) (by omega)
 have hn:=Lq.small (a:=(m.fdiv 4).fmod 19 - 9) (b:=1 + (m.fdiv 76).fmod 12) (by omega) (by omega) (by omega)
 have hn2:=Lq.small (a:=(m.fdiv 4).fmod 3 - 1) (b:=1) (by omega) (by omega) (by omega)
 generalize Rat.divInt ((m.fdiv 4).fmod 19 - 9) (1 + (m.fdiv 76).fmod 12)=fr at *
 obtain ⟨t,ht,hmem⟩:=J4 (L:=[.tup [.int 0,.int 1],.tup [.int ((m.fdiv 4).fmod 3 - 1),.int 1],.tup [.int 1,.int 2],.tup [.int 0,.int 1]]) (i:=m.fmod 4) (by omega) (by simp; omega)
 have hz:ts.length < sizeLine:=iL (by omega)
 have n4:¬ (4:Int)=0:=by decide
 have n3:¬ (3:Int)=0:=by decide
 have n19:¬ (19:Int)=0:=by decide
 have n76:¬ (76:Int)=0:=by decide
 have n12:¬ (12:Int)=0:=by decide
 have b4:(4:Int).natAbs < B:=cY (by decide) (by decide)
 have b3:(3:Int).natAbs < B:=cY (by decide) (by decide)
 have b19:(19:Int).natAbs < B:=cY (by decide) (by decide)
 have b76:(76:Int).natAbs < B:=cY (by decide) (by decide)
 have b12:(12:Int).natAbs < B:=cY (by decide) (by decide)
 have l4:(4:Nat) ≤ sizeLine:=cg (by decide)
 have l2:=J6
 have hq:∃ q,t=bF q /\ Lq 1 9 q:=by
  simp only [List.mem_cons,List.not_mem_nil,or_false] at hmem
  rcases hmem with rfl | rfl | rfl | rfl
  ·exact ⟨0,rfl,(Lq.zero 1).mono (Nat.zero_le _)⟩
  ·exact ⟨_,Ff _,hn2⟩
  ·exact ⟨Rat.divInt 1 2,rfl,DW⟩
  ·exact ⟨0,rfl,(Lq.zero 1).mono (Nat.zero_le _)⟩
 obtain ⟨q,rfl,hq⟩:=hq
 have e1:bK 5 (ak FL (aa (ag 0) (aa (ag 4) ai))) (mh c n ts r (some (.sh (.int k))) x5 x6)=some (.nx (mh c n ts r (some (.sh (.int k))) (some (.sh (.int m))) x6)):=fj (aH [.int c,.int k] (dy rfl rfl) hm) rfl
 have e2:bK 6 (aF df (ag 5) (fC (.int 4))) (mh c n ts r (some (.sh (.int k))) (some (.sh (.int m))) x6)=some (.nx (mh c n ts r (some (.sh (.int k))) (some (.sh (.int m))) (some (.sh (.int (m.fmod 4)))))):=fj (bg (g:=df) rfl rfl (oR n4)) rfl
 have e3:oW (mh c n ts r (some (.sh (.int k))) (some (.sh (.int m))) (some (.sh (.int (m.fmod 4)))))=some (bF q,mh c n ts r (some (.sh (.int k))) (some (.sh (.int m))) (some (.sh (.int (m.fmod 4))))):=by
  clear hm hf hn hn2 hmem hq e1 e2 r3 r4 r19 r12 hk hl
  generalize bF q=Q at *
  unfold oW
  walk_at "ev"
 have e4:=Ft (i:=2) (f:=oW) (τ:=mh c n ts r (some (.sh (.int k))) (some (.sh (.int m))) (some (.sh (.int (m.fmod 4))))) rfl e3 hz
 have e4':lL 2 oW (mh c n ts r (some (.sh (.int k))) (some (.sh (.int m))) (some (.sh (.int (m.fmod 4)))))=some (.nx (mh c n (ts ++ [bF q]) r (some (.sh (.int k))) (some (.sh (.int m))) (some (.sh (.int (m.fmod 4)))))):=e4
 have t5:dJ (aF fX (ag 6) (fC (.int 2))) (mh c n (ts ++ [bF q]) r (some (.sh (.int k))) (some (.sh (.int m))) (some (.sh (.int (m.fmod 4)))))=some (decide (m.fmod 4=2),mh c n (ts ++ [bF q]) r (some (.sh (.int k))) (some (.sh (.int m))) (some (.sh (.int (m.fmod 4))))):=by
  have e:=bg (g:=fX) (fa:=ag 6) (fb:=fC (.int 2)) (τ:=mh c n (ts ++ [bF q]) r (some (.sh (.int k))) (some (.sh (.int m))) (some (.sh (.int (m.fmod 4))))) rfl rfl (lN _ _)
  unfold dJ
  rw [e]
  rfl
 by_cases h2:m.fmod 4=2
 ·refine ⟨fr,some (.sh (.int m)),some (.sh (.int (m.fmod 4))),hn,?_⟩
  have e6:Eh (mh c n (ts ++ [bF q]) r (some (.sh (.int k))) (some (.sh (.int m))) (some (.sh (.int (m.fmod 4)))))=some (bF fr,mh c n (ts ++ [bF q]) r (some (.sh (.int k))) (some (.sh (.int m))) (some (.sh (.int (m.fmod 4))))):=by
   clear hm hn hn2 hmem hq e1 e2 e3 e4 e4' t5 r3 r4 r19 r12 hk hl ht h2
   generalize bF q=Q at *
   generalize bF fr=Q2 at *
   unfold Eh
   walk_at "ev"
  have e7:=A7 (i:=2) (f:=Eh) (g:=uF xi (fC (.int 1))) (us:=ts) (u:=bF q) (τ:=mh c n (ts ++ [bF q]) r (some (.sh (.int k))) (some (.sh (.int m))) (some (.sh (.int (m.fmod 4))))) rfl e6 rfl
  unfold tw
  rw [aW e1,aW e2,aW e4']
  unfold bG
  rw [t5,Option.bind_some]
  refine (if_pos (decide_eq_true h2)).trans ?_
  exact e7
 ·refine ⟨q,some (.sh (.int m)),some (.sh (.int (m.fmod 4))),hq,?_⟩
  unfold tw
  rw [aW e1,aW e2,aW e4']
  refine eZ ?_
  rw [t5,decide_eq_false h2]
theorem Ej (c n r k:Int) (ts:List T) (x5 x6:Option Sl) (hk:0 ≤ k /\ k ≤ 1000) (hl:ts.length < 1000):∃ q:Rat,∃ r' y5 y6,Lq 1 9 q /\ oV (mh c n ts r (some (.sh (.int k))) x5 x6)=some (.nx (mh c n (ts ++ [bF q]) r' (some (.sh (.int k))) y5 y6)):=by
 have t5:dJ (aF fX (aF df (ag 0) (fC (.int 2))) (fC (.int 1))) (mh c n ts r (some (.sh (.int k))) x5 x6)=some (decide (c.fmod 2=1),mh c n ts r (some (.sh (.int k))) x5 x6):=by
  have e:=bg (g:=fX) (fa:=aF df (ag 0) (fC (.int 2))) (fb:=fC (.int 1)) (τ:=mh c n ts r (some (.sh (.int k))) x5 x6) (bg (g:=df) rfl rfl (oR (by decide))) rfl (lN _ _)
  unfold dJ
  rw [e]
  rfl
 by_cases h:c.fmod 2=1
 ·obtain ⟨q,h1,h2⟩:=HF c n r ts (some (.sh (.int k))) x5 x6 hl
  refine ⟨q,r.fdiv 228,x5,x6,h1,?_⟩
  unfold oV bG
  rw [t5,Option.bind_some]
  exact (if_pos (decide_eq_true h)).trans h2
 ·obtain ⟨q,y5,y6,h1,h2⟩:=Ei c n r k ts x5 x6 hk hl
  refine ⟨q,r,y5,y6,h1,?_⟩
  unfold oV bG
  rw [t5,Option.bind_some]
  refine (if_neg ?_).trans h2
  intro z
  exact h (of_decide_eq_true z)
theorem zG (c n:Int):∀ (m:Nat) (lo r:Int) (ts:List T) (x4 x5 x6:Option Sl),0 ≤ lo -> lo + m ≤ 1000 -> ts.length + m < 1000 -> ∃ us:List Rat,∃ r' y4 y5 y6,(∀ t ∈ us,Lq 1 9 t) /\ us.length=m /\ ee (aq 4) oV (TM.upTo lo m) (mh c n ts r x4 x5 x6)=some (.nx (mh c n (ts ++ us.map bF) r' y4 y5 y6))
 | 0,lo,r,ts,x4,x5,x6,_,_,_=>⟨[],r,x4,x5,x6,fun t ht=>(by cases ht),rfl,by simp [TM.upTo,ee]⟩
 | m + 1,lo,r,ts,x4,x5,x6,h0,h1,h2=>by
  obtain ⟨t,r',y5,y6,ht,hb⟩:=Ej c n r lo ts x5 x6 (by omega) (by omega)
  obtain ⟨us,r2,z4,z5,z6,g1,g2,g3⟩:=zG c n m (lo + 1) r' (ts ++ [bF t]) (some (.sh (.int lo))) y5 y6 (by omega) (by omega) (by simp; omega)
  refine ⟨t :: us,r2,z4,z5,z6,fun x hx=>?_,by simp [g2],?_⟩
  ·rcases List.mem_cons.mp hx with rfl | hx
   ·exact ht
   ·exact g1 x hx
  ·rw [show TM.upTo lo (m + 1)=T.int lo :: TM.upTo (lo + 1) m from rfl,ff rfl hb,g3]
   simp
abbrev JL:List T -> Option T:=cz 7 2 (fv zE FL)
theorem Dx:fv zE FL=aO (cH 2 ai) (aO (bK 3 (aF dc (ag 0) (fC (.int 2)))) (aO (iU (cS (aa (ag 1) ai)) (aq 4) oV) (bz (ag 2)))):=rfl
theorem xb (c:Int) (n:Nat) (hn:n ≤ 100):∃ r:List Rat,JL [.int c,.int (n:Nat)]=some (ay r) /\ r.length=n /\ ∀ x ∈ r,Lq 1 9 x:=by
 obtain ⟨us,r',y4,y5,y6,h1,h2,h3⟩:=zG c (n:Nat) n 0 (c.fdiv 2) [] none none none (by decide) (by omega) (by simp; omega)
 refine ⟨us,?_,h2,h1⟩
 have hr:=pj (f:=ag 1) (τ:=mh c (n:Nat) [] (c.fdiv 2) none none none) (n:=(n:Int)) rfl (by omega) (by omega)
 rw [Int.toNat_natCast] at hr
 rw [List.nil_append] at h3
 have e1:cH 2 ai [some (.sh (.int c)),some (.sh (.int (n:Nat))),none,none,none,none,none]=some (.nx [some (.sh (.int c)),some (.sh (.int (n:Nat))),some (.own []),none,none,none,none]):=by
  have:=ML
  walk_at "ev"
 have e2:bK 3 (aF dc (ag 0) (fC (.int 2))) [some (.sh (.int c)),some (.sh (.int (n:Nat))),some (.own []),none,none,none,none]=some (.nx (mh c (n:Nat) [] (c.fdiv 2) none none none)):=fj (bg (g:=dc) rfl rfl (uW (by decide) (cY (by decide) (by decide)))) rfl
 refine cL rfl ?_
 show fv zE FL [some (.sh (.int c)),some (.sh (.int (n:Nat))),none,none,none,none,none]=_
 rw [Dx,aW e1,aW e2,aW (qR hr h3)]
 rfl
open PySem PySem.Spec PyProof.Rows L2 TM Qm Rq
abbrev Ax:List T -> Option T:=cz 2 2 gZ
theorem nR (ns:List Int) (k:Nat):Ax [.scr (ns.map T.int),.int (k:Nat)]=some (.int (ns.getD k 0)):=by
 have hl:ak cM (aa (ag 0) ai) [some (.sh (.scr (ns.map T.int))),some (.sh (.int (k:Nat)))]=some (.int (ns.length:Nat),[some (.sh (.scr (ns.map T.int))),some (.sh (.int (k:Nat)))]):=aH [.scr (ns.map T.int)] (eL rfl) (by
  show some (T.int ((ns.map T.int).length:Nat))=_
  rw [List.length_map])
 have ht:=L9 (f:=ag 1) (g:=ak cM (aa (ag 0) ai)) (τ:=[some (.sh (.scr (ns.map T.int))),some (.sh (.int (k:Nat)))]) (a:=k) (b:=ns.length) rfl hl
 refine cL rfl ?_
 show gZ [some (.sh (.scr (ns.map T.int))),some (.sh (.int (k:Nat)))]=_
 unfold gZ
 by_cases h:k < ns.length
 ·have e:=D5 (ns:=ns) (k:=(k:Nat)) (by omega) (by omega)
  rw [Int.toNat_natCast] at e
  unfold aO bG
  rw [ht,Option.bind_some]
  dsimp only
  rw [if_pos (decide_eq_true h),dX (bg (g:=bC) (fa:=ag 0) (fb:=ag 1) rfl rfl e)]
  rfl
 ·rw [aW (eZ (by rw [ht,decide_eq_false h]))]
  rw [List.getD_eq_getElem?_getD,List.getElem?_eq_none (by omega)]
  rfl
theorem oS {a b:Nat} (ha:a ≤ 1000) (hb:b ≤ 1000):bq (.int (a:Nat)) (.int (b:Nat))=some (.int ((a * b:Nat):Nat)):=by
 rw [oU (Gp (by omega)) (Gp (by omega)),Int.natCast_mul]
theorem ml {a b:Nat}:bJ (.int (a:Nat)) (.int (b:Nat))=some (.int ((a + b:Nat):Nat)):=by
 rw [iJ,Int.natCast_add]
theorem DE (xs:List Rat) (a b:Nat) (h:a + b ≤ xs.length):Bj (ay xs) (some (a:Nat)) (some ((a + b:Nat):Nat))=some (ay ((xs.drop a).take b)):=by
 show some (T.lst (oG (xs.map bF) (some (a:Nat)) (some ((a + b:Nat):Nat))))=_
 unfold oG
 rw [HT.n9,HT.n9,List.length_map,Nat.min_eq_left h,Nat.min_eq_left (by omega:a ≤ xs.length),Nat.add_sub_cancel_left,<- List.map_drop,<- List.map_take]
 rfl
theorem km (xs:List Rat) (a:Nat) (h:a ≤ xs.length):Bj (ay xs) (some (a:Nat)) none=some (ay (xs.drop a)):=by
 show some (T.lst (oG (xs.map bF) (some (a:Nat)) none))=_
 unfold oG
 rw [HT.n9,HT.wg,List.length_map,Nat.min_eq_left h,<- List.map_drop,List.take_of_length_le (by rw [List.length_map,List.length_drop]; omega)]
 rfl
def ni (xs:List Rat) (m w:Nat):List (List Rat):=(List.range m).map fun k=>(xs.drop (w * k)).take w
structure Tw (m w:Nat) (A:List (List Rat)):Prop where
 len:A.length=m
 bw:Bw w 9 A
theorem n0 {xs:List Rat} {m w:Nat} (h:m * w ≤ xs.length) (hq:∀ x ∈ xs,Lq 1 9 x):Tw m w (ni xs m w):=by
 unfold ni
 refine ⟨by rw [List.length_map,List.length_range],fun r hr=>?_,fun r hr x hx=>?_⟩
 ·obtain ⟨k,hk,rfl⟩:=List.mem_map.mp hr
  have hkm:=List.mem_range.mp hk
  have hkw:w * k + w ≤ m * w:=by
   have:(k + 1) * w ≤ m * w:=Nat.mul_le_mul_right w hkm
   rw [Nat.add_mul,Nat.one_mul,Nat.mul_comm] at this
   exact this
  rw [List.length_take,List.length_drop]
  omega
 ·obtain ⟨k,hk,rfl⟩:=List.mem_map.mp hr
  exact hq x (List.mem_of_mem_drop (List.mem_of_mem_take hx))
abbrev FN:List T -> Option T:=cz 3 3 hV
theorem nS {xs:List Rat} {m w:Nat} (hm:m ≤ 8) (hw:w ≤ 8) (h:m * w ≤ xs.length):FN [ay xs,.int (m:Nat),.int (w:Nat)]=some (ao (ni xs m w)):=by
 have hc:=cn (φ:=fun j:Nat=>T.int (j:Nat)) (fe:=ly (ag 1) (cQ (aF bq (ag 2) (ag 0))) (cQ (aF bJ (aF bq (ag 2) (ag 0)) (ag 2)))) (g:=fun k=>ay ((xs.drop (w * k)).take w)) (ρ:=[some (.sh (ay xs)),some (.sh (.int (w:Nat)))]) rfl (List.range m) none [] (fun k hk=>by
  have hkm:=List.mem_range.mp hk
  have hkw:w * k + w ≤ m * w:=by
   have:(k + 1) * w ≤ m * w:=Nat.mul_le_mul_right w hkm
   rw [Nat.add_mul,Nat.one_mul,Nat.mul_comm] at this
   exact this
  have m1:=bg (g:=bq) (fa:=ag 2) (fb:=ag 0) (τ:=[some (.sh (.int (k:Nat))),some (.sh (ay xs)),some (.sh (.int (w:Nat)))]) (a:=.int (w:Nat)) (b:=.int (k:Nat)) rfl rfl (oS (by omega) (by omega))
  exact nL (a:=ay xs) rfl (fO m1) (fO (bg (g:=bJ) (b:=.int (w:Nat)) m1 rfl ml)) (DE xs (w * k) w (by omega))) (fU (by rw [List.length_range]; omega))
 have e:=cv (no:=1) (cap:=[0,2]) (fi:=cS (aa (ag 1) ai)) (fg:=aq 0) (ft:=aL) (τ:=[some (.sh (ay xs)),some (.sh (.int (m:Nat))),some (.sh (.int (w:Nat)))]) (kn (f:=ag 1) (n:=m) rfl (by omega)) rfl rfl hc
 refine cL rfl ?_
 show hV [some (.sh (ay xs)),some (.sh (.int (m:Nat))),some (.sh (.int (w:Nat)))]=_
 unfold hV
 rw [dX e]
 unfold ao ni
 rw [List.map_map]
 rfl
theorem ju {f g i j:FE} {τ:aJ} {t u v x:T} (h:f τ=some (t,τ)) (h':g τ=some (u,τ)) (h'':i τ=some (v,τ)) (h3:j τ=some (x,τ)):aa f (aa g (aa i (aa j ai))) τ=some ([t,u,v,x],τ):=Bu h (gy h' h'' h3)
theorem gO {f:FA} {τ τ':aJ} {ts:List T} (h:f τ=some (ts,τ')) (hl:ts.length ≤ 1000):cR f τ=some (.lst ts,τ'):=by
 unfold cR
 rw [h,Option.bind_some]
 exact if_pos (cg hl)
abbrev FF:List T -> Option T:=cz 8 4 (hG JL FN)
structure cE (m i o:Nat) (A B C D:List (List Rat)):Prop where
 a:Tw m m A
 b:Tw m i B
 c:Tw o m C
 d:Tw o i D
abbrev aM (A B C D:List (List Rat)):T:=.lst [ao A,ao B,ao C,ao D]
theorem yU (c:Int) {m i o:Nat} (hm:m ≤ 5) (hi:i ≤ 2) (ho:o ≤ 2):∃ A B C D,FF [.int c,.int (m:Nat),.int (i:Nat),.int (o:Nat)]=some (aM A B C D) /\ cE m i o A B C D:=by
 have p1:m * m ≤ 25:=Nat.mul_le_mul hm hm
 have p2:m * i ≤ 10:=Nat.mul_le_mul hm hi
 have p3:o * m ≤ 10:=Nat.mul_le_mul ho hm
 have p4:o * i ≤ 4:=Nat.mul_le_mul ho hi
 obtain ⟨xs,e1,e2,e3⟩:=xb c (m * m + m * i + o * m + o * i) (by omega)
 have q1:=nS (xs:=xs) (m:=m) (w:=m) (by omega) (by omega) (by omega)
 have l2:(xs.drop (m * m)).length=m * i + o * m + o * i:=by rw [List.length_drop]; omega
 have m2:∀ x ∈ xs.drop (m * m),Lq 1 9 x:=fun x hx=>e3 x (List.mem_of_mem_drop hx)
 have q2:=nS (xs:=xs.drop (m * m)) (m:=m) (w:=i) (by omega) (by omega) (by omega)
 have l3:((xs.drop (m * m)).drop (m * i)).length=o * m + o * i:=by rw [List.length_drop]; omega
 have m3:∀ x ∈ (xs.drop (m * m)).drop (m * i),Lq 1 9 x:=fun x hx=>m2 x (List.mem_of_mem_drop hx)
 have q3:=nS (xs:=(xs.drop (m * m)).drop (m * i)) (m:=o) (w:=m) (by omega) (by omega) (by omega)
 have l4:(((xs.drop (m * m)).drop (m * i)).drop (o * m)).length=o * i:=by rw [List.length_drop]; omega
 have m4:∀ x ∈ ((xs.drop (m * m)).drop (m * i)).drop (o * m),Lq 1 9 x:=fun x hx=>m3 x (List.mem_of_mem_drop hx)
 have q4:=nS (xs:=((xs.drop (m * m)).drop (m * i)).drop (o * m)) (m:=o) (w:=i) (by omega) (by omega) (by omega)
 have t1:=n0 (m:=m) (w:=m) (show m * m ≤ xs.length by omega) e3
 have t2:=n0 (m:=m) (w:=i) (show m * i ≤ (xs.drop (m * m)).length by omega) m2
 have t3:=n0 (m:=o) (w:=m) (show o * m ≤ ((xs.drop (m * m)).drop (m * i)).length by omega) m3
 have t4:=n0 (m:=o) (w:=i) (show o * i ≤ (((xs.drop (m * m)).drop (m * i)).drop (o * m)).length by omega) m4
 have c1:=km xs (m * m) (by omega)
 have c2:=km (xs.drop (m * m)) (m * i) (by omega)
 have c3:=km ((xs.drop (m * m)).drop (m * i)) (o * m) (by omega)
 refine ⟨_,_,_,_,?_,t1,t2,t3,t4⟩
 generalize ni xs m m=A at *
 generalize ni (xs.drop (m * m)) m i=B at *
 generalize ni ((xs.drop (m * m)).drop (m * i)) o m=C at *
 generalize ni (((xs.drop (m * m)).drop (m * i)).drop (o * m)) o i=D at *
 generalize hx3:((xs.drop (m * m)).drop (m * i)).drop (o * m)=x3 at *
 generalize hx2:(xs.drop (m * m)).drop (m * i)=x2 at *
 generalize hx1:xs.drop (m * m)=x1 at *
 refine cL rfl ?_
 show hG JL FN [some (.sh (.int c)),some (.sh (.int (m:Nat))),some (.sh (.int (i:Nat))),some (.sh (.int (o:Nat))),none,none,none,none]=_
 have v:∀ {s4 s5 s6 s7:Option Sl},aF bq (ag 1) (ag 1) [some (.sh (.int c)),some (.sh (.int (m:Nat))),some (.sh (.int (i:Nat))),some (.sh (.int (o:Nat))),s4,s5,s6,s7]=some (.int ((m * m:Nat):Nat),_):=fun {s4 s5 s6 s7}=>bg (g:=bq) rfl rfl (oS (by omega) (by omega))
 have v2:∀ {s4 s5 s6 s7:Option Sl},aF bq (ag 1) (ag 2) [some (.sh (.int c)),some (.sh (.int (m:Nat))),some (.sh (.int (i:Nat))),some (.sh (.int (o:Nat))),s4,s5,s6,s7]=some (.int ((m * i:Nat):Nat),_):=fun {s4 s5 s6 s7}=>bg (g:=bq) rfl rfl (oS (by omega) (by omega))
 have v3:∀ {s4 s5 s6 s7:Option Sl},aF bq (ag 3) (ag 1) [some (.sh (.int c)),some (.sh (.int (m:Nat))),some (.sh (.int (i:Nat))),some (.sh (.int (o:Nat))),s4,s5,s6,s7]=some (.int ((o * m:Nat):Nat),_):=fun {s4 s5 s6 s7}=>bg (g:=bq) rfl rfl (oS (by omega) (by omega))
 have v4:∀ {s4 s5 s6 s7:Option Sl},aF bq (ag 3) (ag 2) [some (.sh (.int c)),some (.sh (.int (m:Nat))),some (.sh (.int (i:Nat))),some (.sh (.int (o:Nat))),s4,s5,s6,s7]=some (.int ((o * i:Nat):Nat),_):=fun {s4 s5 s6 s7}=>bg (g:=bq) rfl rfl (oS (by omega) (by omega))
 have s1:=fj (i:=4) (τ:=[some (.sh (.int c)),some (.sh (.int (m:Nat))),some (.sh (.int (i:Nat))),some (.sh (.int (o:Nat))),none,none,none,none]) (aH (g:=JL) (f:=aa (ag 0) (aa (aF bJ (aF bJ (aF bJ (aF bq (ag 1) (ag 1)) (aF bq (ag 1) (ag 2))) (aF bq (ag 3) (ag 1))) (aF bq (ag 3) (ag 2))) ai)) _ (dy rfl (bg (g:=bJ) (bg (g:=bJ) (bg (g:=bJ) v v2 ml) v3 ml) v4 ml)) e1) rfl
 have s2:=fj (i:=5) (τ:=[some (.sh (.int c)),some (.sh (.int (m:Nat))),some (.sh (.int (i:Nat))),some (.sh (.int (o:Nat))),some (.sh (ay xs)),none,none,none]) (aH (g:=FN) (f:=aa (ag 4) (aa (ag 1) (aa (ag 1) ai))) _ (gy rfl rfl rfl) q1) rfl
 have s3:=fj (i:=4) (τ:=[some (.sh (.int c)),some (.sh (.int (m:Nat))),some (.sh (.int (i:Nat))),some (.sh (.int (o:Nat))),some (.sh (ay xs)),some (.sh (ao A)),none,none]) (f:=ly (ag 4) (cQ (aF bq (ag 1) (ag 1))) bY) (nL (a:=ay xs) rfl (fO v) rfl c1) rfl
 have s4:=fj (i:=6) (τ:=[some (.sh (.int c)),some (.sh (.int (m:Nat))),some (.sh (.int (i:Nat))),some (.sh (.int (o:Nat))),some (.sh (ay x1)),some (.sh (ao A)),none,none]) (aH (g:=FN) (f:=aa (ag 4) (aa (ag 1) (aa (ag 2) ai))) _ (gy rfl rfl rfl) q2) rfl
 have s5:=fj (i:=4) (τ:=[some (.sh (.int c)),some (.sh (.int (m:Nat))),some (.sh (.int (i:Nat))),some (.sh (.int (o:Nat))),some (.sh (ay x1)),some (.sh (ao A)),some (.sh (ao B)),none]) (f:=ly (ag 4) (cQ (aF bq (ag 1) (ag 2))) bY) (nL (a:=ay x1) rfl (fO v2) rfl c2) rfl
 have s6:=fj (i:=7) (τ:=[some (.sh (.int c)),some (.sh (.int (m:Nat))),some (.sh (.int (i:Nat))),some (.sh (.int (o:Nat))),some (.sh (ay x2)),some (.sh (ao A)),some (.sh (ao B)),none]) (aH (g:=FN) (f:=aa (ag 4) (aa (ag 3) (aa (ag 1) ai))) _ (gy rfl rfl rfl) q3) rfl
 have s7:=aH (g:=FN) (f:=aa (ly (ag 4) (cQ (aF bq (ag 3) (ag 1))) bY) (aa (ag 3) (aa (ag 2) ai))) (ρ:=[some (.sh (.int c)),some (.sh (.int (m:Nat))),some (.sh (.int (i:Nat))),some (.sh (.int (o:Nat))),some (.sh (ay x2)),some (.sh (ao A)),some (.sh (ao B)),some (.sh (ao C))]) _ (gy (nL (a:=ay x2) rfl (fO v3) rfl c3) rfl rfl) q4
 unfold hG
 rw [aW s1]
 show aO _ _ [some (.sh (.int c)),some (.sh (.int (m:Nat))),some (.sh (.int (i:Nat))),some (.sh (.int (o:Nat))),some (.sh (ay xs)),none,none,none]=_
 rw [aW s2]
 show aO _ _ [some (.sh (.int c)),some (.sh (.int (m:Nat))),some (.sh (.int (i:Nat))),some (.sh (.int (o:Nat))),some (.sh (ay xs)),some (.sh (ao A)),none,none]=_
 rw [aW s3]
 show aO _ _ [some (.sh (.int c)),some (.sh (.int (m:Nat))),some (.sh (.int (i:Nat))),some (.sh (.int (o:Nat))),some (.sh (ay x1)),some (.sh (ao A)),none,none]=_
 rw [aW s4]
 show aO _ _ [some (.sh (.int c)),some (.sh (.int (m:Nat))),some (.sh (.int (i:Nat))),some (.sh (.int (o:Nat))),some (.sh (ay x1)),some (.sh (ao A)),some (.sh (ao B)),none]=_
 rw [aW s5]
 show aO _ _ [some (.sh (.int c)),some (.sh (.int (m:Nat))),some (.sh (.int (i:Nat))),some (.sh (.int (o:Nat))),some (.sh (ay x2)),some (.sh (ao A)),some (.sh (ao B)),none]=_
 rw [aW s6]
 exact dX (gO (ju rfl rfl rfl s7) (by show 4 ≤ 1000; decide))
open PySem PySem.Spec PyProof.Rows L2 TM Qm Rq
theorem dQ {n:Nat} (h:n ≤ 100):([]:List T).length + n ≤ sizeLine:=by rw [List.length_nil,Nat.zero_add]; exact cg (by omega)
theorem jr {fa fb:FE} {τ τ':aJ} (h:fa τ=some (.bl true,τ')):eW fa fb τ=fb τ':=by
 unfold eW
 rw [h]
 rfl
theorem GJ {fa fb:FE} {τ τ':aJ} (h:fa τ=some (.bl false,τ')):eW fa fb τ=some (.bl false,τ'):=by
 unfold eW
 rw [h]
 rfl
theorem D8 (ts:List T):cM [.lst ts]=some (.int (ts.length:Nat)):=rfl
theorem zA (r:List Rat):cM [ay r]=some (.int (r.length:Nat)):=by
 show some (T.int ((r.map bF).length:Nat))=_
 rw [List.length_map]
theorem xa (a b:Nat):fX (.int (a:Nat)) (.int (b:Nat))=some (.bl (decide (a=b))):=by
 rw [lN]
 exact congrArg (fun z=>some (T.bl z)) (decide_eq_decide.mpr (by omega))
theorem Cg (a b:Nat):jI (.int (a:Nat)) (.int (b:Nat))=some (.bl (!decide (a=b))):=by
 rw [zj]
 exact congrArg (fun z=>some (T.bl (!z))) (decide_eq_decide.mpr (by omega))
abbrev GZ:List T -> Option T:=cz 2 2 (uK FH)
def BY:FE:=dg 1 [] (bI (ag 0)) (aq 0) aL (ak FH (aa (ag 0) ai))
theorem J1 (t:T) (n:Nat):GZ [t,.int (n:Nat)]=((bz (eW (ak bN (aa (ag 0) (aa (fC (.ty "list")) ai))) (eW (aF fX (ak cM (aa (ag 0) ai)) (ag 1)) (ak rX (aa BY ai)))) [some (.sh t),some (.sh (.int (n:Nat)))]).bind fun r=>match r with | .rt t=>some t | .nx _=>some .non | _=>none):=rfl
theorem Hr {α:Type} {φ:α -> T} {f:α -> Bool} (l:List α) (hl:l.length ≤ 100) (h:∀ x ∈ l,FH [φ x]=some (.bl (f x))) (n:Nat):GZ [.lst (l.map φ),.int (n:Nat)]=some (.bl (decide (l.length=n) && l.all f)):=by
 have c1:=cn (φ:=φ) (fe:=ak FH (aa (ag 0) ai)) (g:=fun x=>T.bl (f x)) (ρ:=[]) rfl l none [] (fun x hx=>aH [φ x] rfl (h x hx)) (dQ hl)
 have e1:=cv (no:=1) (cap:=[]) (fi:=bI (ag 0)) (fg:=aq 0) (ft:=aL) (τ:=[some (.sh (.lst (l.map φ))),some (.sh (.int (n:Nat)))]) (h1:=rfl) rfl rfl c1
 rw [List.nil_append] at e1
 have e2:ak bN (aa (ag 0) (aa (fC (.ty "list")) ai)) [some (.sh (.lst (l.map φ))),some (.sh (.int (n:Nat)))]=some (.bl true,[some (.sh (.lst (l.map φ))),some (.sh (.int (n:Nat)))]):=rfl
 have e3:aF fX (ak cM (aa (ag 0) ai)) (ag 1) [some (.sh (.lst (l.map φ))),some (.sh (.int (n:Nat)))]=some (.bl (decide (l.length=n)),[some (.sh (.lst (l.map φ))),some (.sh (.int (n:Nat)))]):=bg (aH _ (eL rfl) (D8 _)) rfl (by rw [List.length_map]; exact xa _ _)
 rw [J1]
 unfold bz
 rw [jr e2]
 by_cases hn:l.length=n
 ·rw [decide_eq_true hn] at e3
  rw [jr e3,show ak rX (aa BY ai) [some (.sh (.lst (l.map φ))),some (.sh (.int (n:Nat)))]=_ from aH _ (eL e1) (all_map f l),decide_eq_true hn]
  rfl
 ·rw [decide_eq_false hn] at e3
  rw [GJ e3,decide_eq_false hn]
  rfl
theorem HD {alts:List (Addr × (List T -> Option T))} {m:Str} {fo:FE} {g:FA} {τ τ1 τ2:aJ} {C:Addr} {ns:List Str} {ts qs:List T} {d:List T -> Option T} {t:T} (h:fo τ=some (.obj C ns ts,τ1)) (hm:¬ m ∈ ns) (hf:vg C alts=some d) (hg:g τ1=some (qs,τ2)) (hd:d (.obj C ns ts :: qs)=some t):bo alts m fo g τ=some (t,τ2):=by
 unfold bo
 rw [h,Option.bind_some]
 dsimp only
 rw [if_neg hm,hf,Option.bind_some,hg,Option.bind_some]
 dsimp only
 rw [hd]
 rfl
theorem HB {f:FE} {τ:aJ} {u:T} (h:f τ=some (u,τ)):cR (aa f ai) τ=some (.lst [u],τ):=by
 unfold cR
 rw [eL h,Option.bind_some]
 exact if_pos MM
theorem K1 (a b:Int) (τ:aJ):dR (aa (fC (.int a)) (aa (fC (.int b)) ai)) τ=some (.tup [.int a,.int b],τ):=by
 unfold dR
 rw [dy (f:=fC (.int a)) (g:=fC (.int b)) rfl rfl,Option.bind_some]
 exact if_pos J6
theorem Ko {c1 c2:FT} {τ τ' τ'':aJ} (h1:c1 τ=some (false,τ')) (h2:c2 τ'=some (false,τ'')):qd c1 c2 τ=some (false,τ''):=by
 unfold qd
 rw [h1,Option.bind_some]
 exact (if_neg Bool.false_ne_true).trans h2
theorem yM {a b c:Int} {fb fc:FE} {τ:aJ} (hb:fb τ=some (.int b,τ)) (hc:fc τ=some (.int c,τ)) (h1:a ≤ b) (h2:b ≤ c):jD AF AF (fC (.int a)) fb fc τ=some (.bl true,τ):=by
 unfold jD
 rw [show fC (.int a) τ=some (.int a,τ) from rfl,Option.bind_some,hb,Option.bind_some]
 rw [show AF (.int a) (.int b)=some (.bl (decide (a ≤ b))) from rfl,decide_eq_true h1,Option.bind_some]
 dsimp only
 rw [hc,Option.bind_some,show AF (.int b) (.int c)=some (.bl (decide (b ≤ c))) from rfl,decide_eq_true h2]
 rfl
theorem Ci {f:FE} {τ τ':aJ} (h:f τ=some (.bl true,τ')):eu (dJ f) τ=some (false,τ'):=by
 unfold eu dJ
 rw [h]
 rfl
theorem Gm {x:Rat} (h:Lq 1 9 x):Sm x:=(Ov.lq h).sm (dZ 1) (by decide +kernel) (by decide +kernel)
structure Tn (m w:Nat) (A:List (List Rat)):Prop where
 len:A.length=m
 wd:∀ r ∈ A,r.length=w
 sm:∀ r ∈ A,∀ x ∈ r,Sm x
theorem Tw.tn {m w:Nat} {A:List (List Rat)} (h:Tw m w A):Tn m w A:=⟨h.len,h.bw.wd,fun r hr x hx=>Gm (h.bw.lq r hr x hx)⟩
structure Sy (m i o:Nat) (A B C D:List (List Rat)):Prop where
 a:Tn m m A
 b:Tn m i B
 c:Tn o m C
 d:Tn o i D
theorem cE.sy {m i o:Nat} {A B C D:List (List Rat)} (h:cE m i o A B C D):Sy m i o A B C D:=⟨h.a.tn,h.b.tn,h.c.tn,h.d.tn⟩
theorem JO {r:List Rat} {w:Nat} (hl:r.length=w) (h8:w ≤ 100) (h:∀ x ∈ r,Sm x):GZ [ay r,.int (w:Nat)]=some (.bl true):=by
 have e:=Hr (φ:=bF) (f:=fun _=>true) r (by omega) (fun x hx=>L4 (h x hx)) w
 rw [decide_eq_true hl,show (r.all fun _=>true)=true by simp] at e
 exact e
abbrev Li:List T -> Option T:=cz 3 3 (iS GZ)
theorem yV {m w:Nat} {A:List (List Rat)} (h:Tn m w A) (hm:m ≤ 100) (hw:w ≤ 100):Li [ao A,.int (m:Nat),.int (w:Nat)]=some (.bl true):=by
 have c1:=cn (φ:=ay) (fe:=ak GZ (aa (ag 0) (aa (ag 1) ai))) (g:=fun _=>T.bl true) (ρ:=[some (.sh (.int (w:Nat)))]) rfl A none [] (fun r hr=>aH [ay r,.int (w:Nat)] rfl (JO (h.wd r hr) hw (h.sm r hr))) (dQ (by rw [h.len]; exact hm))
 have e1:=cv (no:=1) (cap:=[2]) (fi:=bI (ag 0)) (fg:=aq 0) (ft:=aL) (τ:=[some (.sh (ao A)),some (.sh (.int (m:Nat))),some (.sh (.int (w:Nat)))]) (ts:=A.map ay) rfl rfl rfl c1
 rw [List.nil_append] at e1
 have e2:ak bN (aa (ag 0) (aa (fC (.ty "list")) ai)) [some (.sh (ao A)),some (.sh (.int (m:Nat))),some (.sh (.int (w:Nat)))]=some (.bl true,[some (.sh (ao A)),some (.sh (.int (m:Nat))),some (.sh (.int (w:Nat)))]):=rfl
 have e3:aF fX (ak cM (aa (ag 0) ai)) (ag 1) [some (.sh (ao A)),some (.sh (.int (m:Nat))),some (.sh (.int (w:Nat)))]=some (.bl true,[some (.sh (ao A)),some (.sh (.int (m:Nat))),some (.sh (.int (w:Nat)))]):=bg (aH _ (eL rfl) (len_tab A)) rfl (by rw [xa,decide_eq_true h.len])
 have e4:=aH (g:=rX) _ (eL e1) (all_map (fun _=>true) A)
 rw [show (A.all fun _=>true)=true by simp] at e4
 refine cL rfl ?_
 show iS GZ [some (.sh (ao A)),some (.sh (.int (m:Nat))),some (.sh (.int (w:Nat)))]=_
 unfold iS
 exact dX ((jr e2).trans ((jr e3).trans e4))
abbrev oI:List T -> Option T:=cz 7 4 (h9 Li)
section
variable {m i o:Nat} {A B C D:List (List Rat)}
theorem Sy.row0 (h:Sy m i o A B C D) (ho:0 < o):(D.getD 0 []).length=i:=by
 have hl:=h.d.len
 cases D with
 | nil=>simp at hl; omega
 | cons d D=>exact h.d.wd d List.mem_cons_self
theorem BC (h:Sy m i o A B C D) (hm:m ≤ 100) (hi:1 ≤ i /\ i ≤ 2) (ho:1 ≤ o /\ o ≤ 2):oI [ao A,ao B,ao C,ao D]=some (.bl true):=by
 have t1:=yV h.a hm hm
 have t2:=yV h.b hm (by omega)
 have t3:=yV h.c (by omega) hm
 have t4:=yV h.d (by omega) (by omega)
 have lA:=len_tab A
 have lD:=len_tab D
 have lR:=zA (D.getD 0 [])
 have ix:bC (ao D) (.int 0)=some (ay (D.getD 0 [])):=xG (i:=0) (by rw [h.d.len]; omega)
 rw [h.row0 (by omega)] at lR
 rw [h.a.len] at lA
 rw [h.d.len] at lD
 have iR:bN [ay (D.getD 0 []),.ty "list"]=some (.bl true):=rfl
 generalize D.getD 0 []=R at *
 have hi1:(1:Int) ≤ ((i:Nat):Int):=by omega
 have hi2:((i:Nat):Int) ≤ 2:=by omega
 have ho1:(1:Int) ≤ ((o:Nat):Int):=by omega
 have ho2:((o:Nat):Int) ≤ 2:=by omega
 have v3:∀ {s4 s5 s6:Option Sl},aF bC (ag 3) (fC (.int 0)) [some (.sh (ao A)),some (.sh (ao B)),some (.sh (ao C)),some (.sh (ao D)),s4,s5,s6]=some (ay R,[some (.sh (ao A)),some (.sh (ao B)),some (.sh (ao C)),some (.sh (ao D)),s4,s5,s6]):=fun {s4 s5 s6}=>bg rfl rfl ix
 have l0:ak cM (aa (ag 0) ai) [some (.sh (ao A)),some (.sh (ao B)),some (.sh (ao C)),some (.sh (ao D)),none,none,none]=some (.int (m:Nat),_):=aH _ (eL rfl) lA
 have l3:ak cM (aa (ag 3) ai) [some (.sh (ao A)),some (.sh (ao B)),some (.sh (ao C)),some (.sh (ao D)),none,none,none]=some (.int (o:Nat),_):=aH _ (eL rfl) lD
 have l30:ak cM (aa (aF bC (ag 3) (fC (.int 0))) ai) [some (.sh (ao A)),some (.sh (ao B)),some (.sh (ao C)),some (.sh (ao D)),none,none,none]=some (.int (i:Nat),_):=aH _ (eL v3) lR
 have s1:bG (qd (eu (eR (ak bN (aa (ag 0) (aa (fC (.ty "list")) ai))))) (qd (eu (eR (ak bN (aa (ag 3) (aa (fC (.ty "list")) ai))))) (eu (dJ (jD AF AF (fC (.int 1)) (ak cM (aa (ag 3) ai)) (fC (.int 2))))))) (bz (fC (.bl false))) bp [some (.sh (ao A)),some (.sh (ao B)),some (.sh (ao C)),some (.sh (ao D)),none,none,none]=some (.nx [some (.sh (ao A)),some (.sh (ao B)),some (.sh (ao C)),some (.sh (ao D)),none,none,none]):=Cp rfl (Ko (zH rfl) (Ci (yM l3 rfl ho1 ho2)))
 have s2:bG (qd (eu (eR (ak bN (aa (aF bC (ag 3) (fC (.int 0))) (aa (fC (.ty "list")) ai))))) (eu (dJ (jD AF AF (fC (.int 1)) (ak cM (aa (aF bC (ag 3) (fC (.int 0))) ai)) (fC (.int 2)))))) (bz (fC (.bl false))) bp [some (.sh (ao A)),some (.sh (ao B)),some (.sh (ao C)),some (.sh (ao D)),none,none,none]=some (.nx [some (.sh (ao A)),some (.sh (ao B)),some (.sh (ao C)),some (.sh (ao D)),none,none,none]):=Cp (aH _ (dy v3 rfl) iR) (Ci (yM l30 rfl hi1 hi2))
 have s3:yY 4 5 6 (aa (ak cM (aa (ag 0) ai)) (aa (ak cM (aa (aF bC (ag 3) (fC (.int 0))) ai)) (aa (ak cM (aa (ag 3) ai)) ai))) [some (.sh (ao A)),some (.sh (ao B)),some (.sh (ao C)),some (.sh (ao D)),none,none,none]=some (.nx [some (.sh (ao A)),some (.sh (ao B)),some (.sh (ao C)),some (.sh (ao D)),some (.sh (.int (m:Nat))),some (.sh (.int (i:Nat))),some (.sh (.int (o:Nat)))]):=by
  unfold yY
  rw [gy l0 l30 l3]
  rfl
 refine cL rfl ?_
 show h9 Li [some (.sh (ao A)),some (.sh (ao B)),some (.sh (ao C)),some (.sh (ao D)),none,none,none]=_
 unfold h9
 rw [aW s1,aW s2,aW s3]
 exact dX ((jr (aH _ (gy rfl rfl rfl) t1)).trans ((jr (aH _ (gy rfl rfl rfl) t2)).trans ((jr (aH _ (gy rfl rfl rfl) t3)).trans (aH _ (gy rfl rfl rfl) t4))))
abbrev cU:Addr:=295
abbrev JF:Addr:=38
abbrev JG:Addr:=58
abbrev eP:Addr:=77
abbrev fH:Addr:=96
def uA (r:List Rat):T:=.tup (r.map bF)
def mY (A:List (List Rat)):T:=.tup (A.map uA)
abbrev qS (A B C D:List (List Rat)):T:=.tup [mY A,mY B,mY C,mY D]
def aR (A B C D:List (List Rat)):T:=.obj cU ["four"] [qS A B C D]
theorem xo {t:FS} {fr:Addr -> FI} {x:Addr} {τ:aJ} {ns:List Str} {us:List T} (h:t τ=some (.nx τ)) (ha:cu τ=true) (h0:τ[0]? = some (some (.sh (.ptr x)))):BW t fr x τ ns us=fr x τ ns us:=by
 unfold BW
 rw [h,Option.bind_some]
 dsimp only
 rw [if_pos ha,h0]
 exact if_pos rfl
theorem Hk {f:Str} {fe:FE} {fr:Addr -> FI} {x:Addr} {τ:aJ} {ns:List Str} {us:List T} {t:T} (h:fe τ=some (t,τ)) (ha:cu τ=true) (hn:¬ f ∈ ns /\ ns.length < 999) (h0:τ[0]? = some (some (.sh (.ptr x)))):DX f fe fr x τ ns us=fr x τ (ns ++ [f]) (us ++ [t]):=by
 unfold DX
 rw [h,Option.bind_some]
 dsimp only
 rw [if_pos ⟨ha,hn⟩,h0]
 exact if_pos rfl
theorem BK {P:List (List Rat) -> Prop} (a:P A) (b:P B) (c:P C) (d:P D):∀ X ∈ [A,B,C,D],P X:=by
 intro X hX
 simp only [List.mem_cons,List.not_mem_nil,or_false] at hX
 rcases hX with rfl | rfl | rfl | rfl
 ·exact a
 ·exact b
 ·exact c
 ·exact d
theorem Sy.len8 (h:Sy m i o A B C D) (hm:m ≤ 8) (ho:o ≤ 8):∀ X ∈ [A,B,C,D],X.length ≤ 8:=BK (P:=fun X=>X.length ≤ 8) (by rw [h.a.len]; exact hm) (by rw [h.b.len]; exact hm) (by rw [h.c.len]; exact ho) (by rw [h.d.len]; exact ho)
theorem IP {f g p q:FE} {τ:aJ} {t u v x:T} (h:f τ=some (t,τ)) (h':g τ=some (u,τ)) (h'':p τ=some (v,τ)) (h3:q τ=some (x,τ)):dR (aa f (aa g (aa p (aa q ai)))) τ=some (.tup [t,u,v,x],τ):=by
 unfold dR
 rw [ju h h' h'' h3,Option.bind_some]
 exact if_pos L8
abbrev BA:List T -> Option p7:=dI 5 4 (bV oI)
theorem BF (h:Sy m i o A B C D) (hm:m ≤ 8) (hi:1 ≤ i /\ i ≤ 2) (ho:1 ≤ o /\ o ≤ 2):BA [ao A,ao B,ao C,ao D]=some (((["four"]:List Str),[qS A B C D]):p7):=by
 refine JH ⟨rfl,fun x=>?_⟩
 show bV oI x [some (.sh (.ptr x)),some (.sh (ao A)),some (.sh (ao B)),some (.sh (ao C)),some (.sh (ao D))] [] []=_
 have t1:=BC h (by omega) hi ho
 have lA:=len_tab A
 rw [h.a.len] at lA
 have l8:=h.len8 hm (by omega)
 have s1:bG (eu (eR (ak oI (aa (ag 1) (aa (ag 2) (aa (ag 3) (aa (ag 4) ai))))))) cN bp [some (.sh (.ptr x)),some (.sh (ao A)),some (.sh (ao B)),some (.sh (ao C)),some (.sh (ao D))]=some (.nx [some (.sh (.ptr x)),some (.sh (ao A)),some (.sh (ao B)),some (.sh (ao C)),some (.sh (ao D))]):=DV (aH _ (ju rfl rfl rfl rfl) t1)
 have s2:bG (dJ (aF qT (ak cM (aa (ag 1) ai)) (fC (.int 8)))) cN bp [some (.sh (.ptr x)),some (.sh (ao A)),some (.sh (ao B)),some (.sh (ao C)),some (.sh (ao D))]=some (.nx [some (.sh (.ptr x)),some (.sh (ao A)),some (.sh (ao B)),some (.sh (ao C)),some (.sh (ao D))]):=by
  refine eZ ?_
  unfold dJ
  rw [bg (g:=qT) (t:=.bl (decide (((m:Nat):Int) > 8))) (aH (g:=cM) [ao A] (eL rfl) lA) rfl rfl,decide_eq_false (by omega)]
  rfl
 have hc:=cn (φ:=ao) (fe:=ak il (aa (dg 1 [] (bI (ag 0)) (aq 0) aL (ak il (aa (ag 0) ai))) ai)) (g:=mY) (ρ:=[]) rfl [A,B,C,D] none [] (fun X hX=>by
  have hc:=cn (φ:=ay) (fe:=ak il (aa (ag 0) ai)) (g:=uA) (ρ:=[]) rfl X none [] (fun r hr=>aH [ay r] rfl rfl) (fU (l8 X hX))
  have e:=cv (no:=1) (cap:=[]) (fi:=bI (ag 0)) (fg:=aq 0) (ft:=aL) (τ:=[some (.sh (ao X))]) (ts:=X.map ay) rfl rfl rfl hc
  exact aH _ (eL e) rfl) (fU (by simp))
 have hi:bI (dR (aa (ag 1) (aa (ag 2) (aa (ag 3) (aa (ag 4) ai))))) [some (.sh (.ptr x)),some (.sh (ao A)),some (.sh (ao B)),some (.sh (ao C)),some (.sh (ao D))]=some ([A,B,C,D].map ao,[some (.sh (.ptr x)),some (.sh (ao A)),some (.sh (ao B)),some (.sh (ao C)),some (.sh (ao D))]):=by
  unfold bI
  rw [IP (t:=ao A) (u:=ao B) (v:=ao C) (x:=ao D) rfl rfl rfl rfl]
  rfl
 have e:=cv (no:=1) (cap:=[]) (fg:=aq 0) (ft:=aL) hi rfl rfl hc
 unfold bV
 rw [xo s1 rfl rfl,xo s2 rfl rfl,Hk (aH _ (eL e) rfl) rfl ⟨by decide,by decide⟩ rfl]
 rfl
abbrev uS:List T -> Option T:=cz 1 1 (jk cU)
abbrev uT:List T -> Option T:=cz 1 1 (kA cU)
theorem uY:uS [aR A B C D]=some (.int (A.length:Nat)):=by
 refine cL rfl (dX (aH (t:=.int (A.length:Nat)) [mY A] (eL (bg (g:=bC) (t:=mY A) (a:=qS A B C D) (b:=.int 0) rfl rfl rfl)) ?_))
 show some (T.int ((A.map uA).length:Nat))=_
 rw [List.length_map]
theorem D6 {t:T} {ts:List T}:bC (.tup (t :: ts)) (.int 0)=some t:=by
 show qB (t :: ts) 0=_
 unfold qB zu
 rw [if_pos (by decide),if_pos (by rw [List.length_cons]; omega)]
 rfl
theorem uZ (h:Sy m i o A B C D) (ho:0 < o):uT [aR A B C D]=some (.int (i:Nat)):=by
 have hr:=h.row0 ho
 have hl:=h.d.len
 cases D with
 | nil=>simp at hl; omega
 | cons d D =>
  refine cL rfl (dX (aH (t:=.int (i:Nat)) [uA d] (eL (bg (g:=bC) (t:=uA d) (a:=mY (d :: D)) (b:=.int 0) (bg (g:=bC) (a:=qS A B C (d :: D)) (b:=.int 3) rfl rfl rfl) rfl D6)) ?_))
  show some (T.int ((d.map bF).length:Nat))=_
  rw [List.length_map]
  exact congrArg (fun n:Nat=>some (T.int (n:Nat))) hr
abbrev wG:List T -> Option T:=cz 1 1 (jv cU)
theorem yW:wG [aR A B C D]=some (.int (D.length:Nat)):=by
 refine cL rfl (dX (aH (t:=.int (D.length:Nat)) [mY D] (eL (bg (g:=bC) (t:=mY D) (a:=qS A B C D) (b:=.int 3) rfl rfl rfl)) ?_))
 show some (T.int ((D.map uA).length:Nat))=_
 rw [List.length_map]
abbrev oJ:List T -> Option T:=cz 1 1 (iG cU)
theorem oK (h:Sy m i o A B C D) (hm:m ≤ 8) (ho:o ≤ 8):oJ [aR A B C D]=some (.tup [ao A,ao B,ao C,ao D]):=by
 have l8:=h.len8 hm ho
 have hc:=cn (φ:=mY) (fe:=dg 1 [] (bI (ag 0)) (aq 0) aL (ak dList (aa (ag 0) ai))) (g:=ao) (ρ:=[]) rfl [A,B,C,D] none [] (fun X hX=>by
  have hc:=cn (φ:=uA) (fe:=ak dList (aa (ag 0) ai)) (g:=ay) (ρ:=[]) rfl X none [] (fun r hr=>aH [uA r] rfl rfl) (fU (l8 X hX))
  exact cv (no:=1) (cap:=[]) (fi:=bI (ag 0)) (fg:=aq 0) (ft:=aL) (τ:=[some (.sh (mY X))]) (ts:=X.map uA) rfl rfl rfl hc) (fU (by simp))
 have e:=cv (no:=1) (cap:=[]) (fi:=bI (AD [cU] "four" (ag 0))) (fg:=aq 0) (ft:=aL) (τ:=[some (.sh (aR A B C D))]) (ts:=[A,B,C,D].map mY) rfl rfl rfl hc
 exact cL rfl (dX (aH _ (eL e) rfl))
def gtB:FT:=dJ (aF qT (ak cM (aa (ag 1) ai)) (fC (.int 8)))
theorem JW (x:Addr) {m:Nat} (hA:A.length=m):gtB [some (.sh (.ptr x)),some (.sh (ao A)),some (.sh (ao B)),some (.sh (ao C)),some (.sh (ao D))]=some (decide (((m:Nat):Int) > 8),[some (.sh (.ptr x)),some (.sh (ao A)),some (.sh (ao B)),some (.sh (ao C)),some (.sh (ao D))]):=by
 have lA:=len_tab A
 rw [hA] at lA
 unfold gtB dJ
 rw [bg (g:=qT) (t:=.bl (decide (((m:Nat):Int) > 8))) (aH (g:=cM) [ao A] (eL rfl) lA) rfl rfl]
 rfl
theorem B0 (h:Sy m i o A B C D) (hm:m ≤ 100) (hi:1 ≤ i /\ i ≤ 2) (ho:1 ≤ o /\ o ≤ 2) (x:Addr):eu (eR (ak oI (aa (ag 1) (aa (ag 2) (aa (ag 3) (aa (ag 4) ai)))))) [some (.sh (.ptr x)),some (.sh (ao A)),some (.sh (ao B)),some (.sh (ao C)),some (.sh (ao D))]=some (false,[some (.sh (.ptr x)),some (.sh (ao A)),some (.sh (ao B)),some (.sh (ao C)),some (.sh (ao D))]):=zH (aH _ (ju rfl rfl rfl rfl) (BC h hm hi ho))
theorem zS (h:Sy m i o A B C D) (hm:8 < m /\ m ≤ 100) (hi:1 ≤ i /\ i ≤ 2) (ho:1 ≤ o /\ o ≤ 2):BA [ao A,ao B,ao C,ao D]=none:=by
 have e0:∀ x:Addr,bV oI x [some (.sh (.ptr x)),some (.sh (ao A)),some (.sh (ao B)),some (.sh (ao C)),some (.sh (ao D))] [] []=none:=fun x=>by
  unfold bV
  rw [xo (eZ (B0 h (by omega) hi ho x)) rfl rfl]
  have g:=JW (B:=B) (C:=C) (D:=D) x h.a.len
  rw [decide_eq_true (by omega)] at g
  show (bG gtB cN bp _).bind _=_
  unfold bG
  rw [g]
  rfl
 show dI 5 4 (bV oI) _=none
 unfold dI
 rw [dif_neg]
 rintro ⟨r,hr⟩
 have z:=hr.2 0
 rw [show bV oI 0 (some (.sh (.ptr 0)) :: ([ao A,ao B,ao C,ao D].map (fun t=>some (Sl.sh t)) ++ List.replicate (5 - (4 + 1)) none)) [] []=none from e0 0] at z
 cases z
abbrev FQ:List T -> Option Addr:=GW 5 4 (di fH JG oI)
theorem zo {c:FT} {f1 f2:FX} {τ τ':aJ} (h:c τ=some (true,τ')):mD c f1 f2 τ=f1 τ':=by
 unfold mD
 rw [h]
 rfl
theorem zm {c:FT} {f1 f2:FX} {τ τ':aJ} (h:c τ=some (false,τ')):mD c f1 f2 τ=f2 τ':=by
 unfold mD
 rw [h]
 rfl
theorem jf {f:FS} {fx:FX} {τ τ':aJ} (h:f τ=some (.nx τ')):eX f fx τ=fx τ':=by
 unfold eX
 rw [h]
 rfl
theorem Co {f1 f2:FX} {τ:aJ} (h:f1 τ=none):mE f1 f2 τ=f2 τ:=by
 unfold mE
 rw [h]
theorem Gq {f1 f2:FX} {τ:aJ} {z:Addr × aJ} (h:f1 τ=some z):mE f1 f2 τ=some z:=by
 unfold mE
 rw [h]
theorem ue {C:Addr} {x:Str} {τ:aJ}:jG C (aa (fC (.str x)) ai) τ=some (C,τ):=rfl
theorem BG (h:Sy m i o A B C D) (hm:8 < m /\ m ≤ 100) (hi:1 ≤ i /\ i ≤ 2) (ho:1 ≤ o /\ o ≤ 2):FQ [ao A,ao B,ao C,ao D]=some fH:=by
 refine GX rfl fun x=>⟨[some (.sh (.ptr x)),some (.sh (ao A)),some (.sh (ao B)),some (.sh (ao C)),some (.sh (ao D))],?_⟩
 show di fH JG oI [some (.sh (.ptr x)),some (.sh (ao A)),some (.sh (ao B)),some (.sh (ao C)),some (.sh (ao D))]=_
 have g:=JW (B:=B) (C:=C) (D:=D) x h.a.len
 rw [decide_eq_true (by omega)] at g
 have s:=B0 h (by omega) hi ho x
 unfold di
 rw [Co (zm s),jf (eZ s)]
 exact (zo g).trans ue
end
open PySem PySem.Spec PyProof.Rows L2 TM Qm Rq
def aX (P:List (List Rat)) (u:List Rat):List Rat:=P.map fun r=>wsum r u
def bZ (x y:List Rat):List Rat:=List.zipWith (· + ·) x y
theorem eH (r:List Rat):wsum r []=0:=by unfold wsum; rw [List.zipWith_nil_right]; rfl
theorem wC:∀ (c d x u:List Rat),c.length=x.length -> wsum (c ++ d) (x ++ u)=wsum c x + wsum d u
 | [],d,[],u,_=>by rw [dv,Rat.zero_add]; rfl
 | a :: c,d,b :: x,u,h=>by
  rw [List.cons_append,List.cons_append,bS,bS,wC c d x u (by simpa using h),Rat.add_assoc]
 | [],d,b :: x,u,h=>by simp at h
 | a :: c,d,[],u,h=>by simp at h
theorem rj:∀ (r x y:List Rat),x.length=y.length -> wsum r (bZ x y)=wsum r x + wsum r y
 | [],x,y,_=>by rw [dv,dv,dv,Rat.add_zero]
 | a :: r,[],[],_=>by show wsum (a :: r) []=_; rw [eH,Rat.add_zero]
 | a :: r,b :: x,c :: y,h=>by
  show wsum (a :: r) ((b + c) :: bZ x y)=_
  rw [bS,bS,bS,rj r x y (by simpa using h)]
  grind
 | a :: r,[],c :: y,h=>by simp at h
 | a :: r,b :: x,[],h=>by simp at h
theorem nq (f g:Nat -> Rat):∀ (js:List Nat) (u:List Rat),wsum (js.map fun j=>f j + g j) u=wsum (js.map f) u + wsum (js.map g) u
 | [],u=>by rw [List.map_nil,List.map_nil,List.map_nil,dv,Rat.add_zero]
 | j :: js,[]=>by rw [eH,eH,eH,Rat.add_zero]
 | j :: js,y :: u=>by
  rw [List.map_cons,List.map_cons,List.map_cons,bS,bS,bS,nq f g js u]
  grind
theorem jg (x:Rat) (f:Nat -> Rat):∀ (js:List Nat) (u:List Rat),wsum (js.map fun j=>x * f j) u=x * wsum (js.map f) u
 | [],u=>by rw [List.map_nil,List.map_nil,dv,Rat.mul_zero]
 | j :: js,[]=>by rw [eH,eH,Rat.mul_zero]
 | j :: js,y :: u=>by
  rw [List.map_cons,List.map_cons,bS,bS,jg x f js u]
  grind
theorem xj (p:List Rat):(List.range p.length).map (fun j=>p.getD j 0)=p:=by
 refine List.ext_getElem (by simp) fun n h1 h2=>?_
 rw [List.getElem_map,List.getElem_range,List.getD_eq_getElem?_getD,List.getElem?_eq_getElem h2]
 rfl
theorem vN (js:List Nat):(js.map fun _=>(0:Rat))=List.replicate js.length 0:=by
 induction js with
 | nil=>rfl
 | cons j js ih=>rw [List.map_cons,ih]; rfl
theorem rl:∀ (r:List Rat) (P:List (List Rat)) (i:Nat) (u:List Rat),(∀ p ∈ P,p.length=i) -> wsum (ky r P i) u=wsum r (aX P u)
 | [],P,i,u,_=>by
  unfold ky
  rw [show (fun j=>wsum [] (gL P j))=fun _:Nat=>(0:Rat) from funext fun j=>dv _,vN,jh,dv]
 | x :: r,[],i,u,_=>by
  unfold ky
  rw [show (fun j=>wsum (x :: r) (gL [] j))=fun _:Nat=>(0:Rat) from funext fun j=>eH _,vN,jh]
  exact (eH _).symm
 | x :: r,p :: P,i,u,h=>by
  have ih:=rl r P i u fun q hq=>h q (List.mem_cons_of_mem _ hq)
  have hp:=h p List.mem_cons_self
  unfold ky
  rw [show (fun j=>wsum (x :: r) (gL (p :: P) j))=fun j=>x * p.getD j 0 + wsum r (gL P j) from funext fun j=>bS _ _ _ _]
  rw [nq (fun j=>x * p.getD j 0),jg]
  show _=wsum (x :: r) (wsum p u :: aX P u)
  rw [bS,<- ih]
  unfold ky
  rw [<- hp,xj]
theorem nN {A P:List (List Rat)} {i:Nat} {u:List Rat} (h:∀ p ∈ P,p.length=i):aX (mulM A P i) u=aX A (aX P u):=by
 unfold aX mulM
 rw [List.map_map]
 exact List.map_congr_left fun r _=>rl r P i u h
theorem yF {A:List (List Rat)} {x y:List Rat} (h:x.length=y.length):aX A (bZ x y)=bZ (aX A x) (aX A y):=by
 unfold aX
 induction A with
 | nil=>rfl
 | cons a A ih =>
  rw [List.map_cons,List.map_cons,List.map_cons,ih,rj a x y h]
  rfl
theorem bE (A:List (List Rat)) (u:List Rat):(aX A u).length=A.length:=List.length_map ..
theorem ki {x y:List Rat} (h:x.length=y.length):(bZ x y).length=x.length:=by
 unfold bZ
 rw [List.length_zipWith]
 omega
theorem kh:∀ (x y:List Rat),bZ x y=bZ y x
 | [],[]=>rfl
 | [],y :: ys=>rfl
 | x :: xs,[]=>rfl
 | x :: xs,y :: ys=>by
  show (x + y) :: bZ xs ys=(y + x) :: bZ ys xs
  rw [kh xs ys,Rat.add_comm]
theorem iF:∀ (A X:List (List Rat)) (x u:List Rat),(∀ a ∈ A,a.length=x.length) -> (eM A X).map (fun r=>wsum r (x ++ u))=bZ (aX A x) (aX X u)
 | [],X,x,u,_=>rfl
 | a :: A,[],x,u,_=>rfl
 | a :: A,b :: X,x,u,h=>by
  show wsum (a ++ b) (x ++ u) :: (eM A X).map _=(wsum a x + wsum b u) :: bZ (aX A x) (aX X u)
  rw [iF A X x u fun r hr=>h r (List.mem_cons_of_mem _ hr),wC a b x u (h a List.mem_cons_self)]
theorem kJ:∀ (x y z:List Rat),bZ (bZ x y) z=bZ x (bZ y z)
 | [],y,z=>rfl
 | a :: x,[],z=>rfl
 | a :: x,b :: y,[]=>rfl
 | a :: x,b :: y,c :: z=>by
  show (a + b + c) :: bZ (bZ x y) z=(a + (b + c)) :: bZ x (bZ y z)
  rw [kJ x y z,Rat.add_assoc]
theorem lG:∀ (a b c d:List Rat),a.length=c.length -> bZ (a ++ b) (c ++ d)=bZ a c ++ bZ b d
 | [],b,[],d,_=>rfl
 | x :: a,b,y :: c,d,h=>by
  show (x + y) :: bZ (a ++ b) (c ++ d)=(x + y) :: (bZ a c ++ bZ b d)
  rw [lG a b c d (by simpa using h)]
 | [],b,y :: c,d,h=>by simp at h
 | x :: a,b,[],d,h=>by simp at h
theorem kL (P Q:List (List Rat)) (v:List Rat):aX (P ++ Q) v=aX P v ++ aX Q v:=by
 unfold aX
 rw [List.map_append]
theorem kg:∀ (x:List Rat),bZ x (List.replicate x.length 0)=x
 | []=>rfl
 | a :: x=>by
  show (a + 0) :: bZ x (List.replicate x.length 0)=_
  rw [kg x,Rat.add_zero]
theorem Bh (x:List Rat):bZ (List.replicate x.length 0) x=x:=by rw [kh,kg]
theorem mr (m w:Nat) (y:List Rat):aX (dw m w) y=List.replicate m 0:=by
 unfold aX dw
 rw [List.map_replicate,jh]
theorem Tn.append {n p w:Nat} {X Y:List (List Rat)} (hX:Tn n w X) (hY:Tn p w Y):Tn (n + p) w (X ++ Y):=⟨by rw [List.length_append,hX.len,hY.len],fun r hr=>(List.mem_append.mp hr).elim (hX.wd r) (hY.wd r),fun r hr=>(List.mem_append.mp hr).elim (hX.sm r) (hY.sm r)⟩
theorem Tn.wide {n a b:Nat} {X Y:List (List Rat)} (hX:Tn n a X) (hY:Tn n b Y):Tn n (a + b) (eM X Y):=by
 unfold eM
 refine ⟨by rw [List.length_map,List.length_zip,hX.len,hY.len,Nat.min_self],fun r hr=>?_,fun r hr x hx=>?_⟩
 ·obtain ⟨p,hp,rfl⟩:=List.mem_map.mp hr
  obtain ⟨h1,h2⟩:=dm hp
  rw [List.length_append,hX.wd _ h1,hY.wd _ h2]
 ·obtain ⟨p,hp,rfl⟩:=List.mem_map.mp hr
  obtain ⟨h1,h2⟩:=dm hp
  rcases List.mem_append.mp hx with hx | hx
  ·exact hX.sm _ h1 x hx
  ·exact hY.sm _ h2 x hx
theorem oj:Sm 0:=Gm ((Lq.zero 1).mono (Nat.zero_le _))
theorem Tn.zero (m w:Nat):Tn m w (dw m w):=by
 unfold dw
 refine ⟨List.length_replicate,fun r hr=>?_,fun r hr x hx=>?_⟩
 ·rw [(List.mem_replicate.mp hr).2,List.length_replicate]
 ·rw [(List.mem_replicate.mp hr).2] at hx
  rw [(List.mem_replicate.mp hx).2]
  exact oj
def Q2 (x:Rat):Prop:=Ov (DD 2) (2 ^ 40) x
theorem zC {x:Rat} (h:Lq 1 9 x):Ov (DD 1) 249480 x:=Ov.lq h
theorem Ov.scale {D N E:Nat} {q:Rat} (h:Ov D N q) (hE:0 < E):Ov (D * E) (N * E) q:=by
 obtain ⟨a,rfl,ha⟩:=h
 refine ⟨a * (E:Int),?_,?_⟩
 ·rw [Int.natCast_mul,Rat.divInt_mul_right (by omega)]
 ·rw [Int.natAbs_mul,Int.natAbs_natCast]
  exact Nat.mul_le_mul_right _ ha
theorem KA {x:Rat} (h:Lq 1 9 x):Q2 x:=by
 have z:=(zC h).scale (dZ 1)
 rw [<- oq] at z
 exact z.mono (by decide +kernel)
theorem EJ:Q2 0:=(Ov.zero _).mono (Nat.zero_le _)
theorem Jr:DD 2 < C:=by decide +kernel
theorem Gr {x:Rat} (h:Q2 x):Sm x:=h.sm (dZ 2) Jr (by decide +kernel)
theorem Js:DD 1 < C:=by decide +kernel
theorem LK:249480 < C:=by decide +kernel
theorem nk {n w:Nat} {X:List (List Rat)} (hX:Tw n w X) (hn:n ≤ 8) (hw:w ≤ 8):Tv (DD 1) 249480 X:=⟨by rw [hX.len]; exact hn,fun r hr=>⟨by rw [hX.bw.wd r hr]; exact hw,fun x hx=>zC (hX.bw.lq r hr x hx)⟩,dZ 1,Js,LK⟩
theorem DL:IY (DD 1) 249480 (DD 1) 249480:=⟨by decide +kernel,by decide +kernel⟩
theorem xU {n k w:Nat} {X Y:List (List Rat)} (hX:Tw n k X) (hY:Tw k w Y) (hk:k ≤ 5):(mulM X Y w).length=n /\ ∀ r ∈ mulM X Y w,r.length=w /\ ∀ x ∈ r,Q2 x:=by
 unfold mulM
 refine ⟨by rw [List.length_map,hX.len],fun r hr=>?_⟩
 obtain ⟨s,hs,rfl⟩:=List.mem_map.mp hr
 unfold ky
 refine ⟨by rw [List.length_map,List.length_range],fun x hx=>?_⟩
 obtain ⟨j,hj,rfl⟩:=List.mem_map.mp hx
 have z:=uC (dZ 1) (dZ 1) (r:=s) (s:=gL Y j) (fun x hx=>zC (hX.bw.lq s hs x hx)) fun y hy=>by
  unfold gL at hy
  obtain ⟨t,ht,rfl⟩:=List.mem_map.mp hy
  have hl:=hY.bw.wd t ht
  exact zC (hY.bw.lq t ht _ (AG (by rw [hl]; exact List.mem_range.mp hj)))
 rw [<- oq] at z
 refine z.mono ?_
 rw [hX.bw.wd s hs]
 exact Nat.le_trans (Nat.mul_le_mul_right _ hk) (by decide +kernel)
structure Tq (m w:Nat) (A:List (List Rat)):Prop where
 len:A.length=m
 wd:∀ r ∈ A,r.length=w
 q:∀ r ∈ A,∀ x ∈ r,Q2 x
theorem Tq.tn {m w:Nat} {A:List (List Rat)} (h:Tq m w A):Tn m w A:=⟨h.len,h.wd,fun r hr x hx=>Gr (h.q r hr x hx)⟩
theorem Tw.tq {m w:Nat} {A:List (List Rat)} (h:Tw m w A):Tq m w A:=⟨h.len,h.bw.wd,fun r hr x hx=>KA (h.bw.lq r hr x hx)⟩
theorem Tq.mul {n k w:Nat} {X Y:List (List Rat)} (hX:Tw n k X) (hY:Tw k w Y) (hk:k ≤ 5):Tq n w (mulM X Y w):=⟨(xU hX hY hk).1,fun r hr=>((xU hX hY hk).2 r hr).1,fun r hr=>((xU hX hY hk).2 r hr).2⟩
theorem Tq.append {n p w:Nat} {X Y:List (List Rat)} (hX:Tq n w X) (hY:Tq p w Y):Tq (n + p) w (X ++ Y):=⟨by rw [List.length_append,hX.len,hY.len],fun r hr=>(List.mem_append.mp hr).elim (hX.wd r) (hY.wd r),fun r hr=>(List.mem_append.mp hr).elim (hX.q r) (hY.q r)⟩
theorem Tq.wide {n a b:Nat} {X Y:List (List Rat)} (hX:Tq n a X) (hY:Tq n b Y):Tq n (a + b) (eM X Y):=by
 have z:=hX.tn.wide hY.tn
 refine ⟨z.len,z.wd,fun r hr x hx=>?_⟩
 unfold eM at hr
 obtain ⟨p,hp,rfl⟩:=List.mem_map.mp hr
 obtain ⟨h1,h2⟩:=dm hp
 rcases List.mem_append.mp hx with hx | hx
 ·exact hX.q _ h1 x hx
 ·exact hY.q _ h2 x hx
theorem Tq.zero (m w:Nat):Tq m w (dw m w):=by
 have z:=Tn.zero m w
 refine ⟨z.len,z.wd,fun r hr x hx=>?_⟩
 unfold dw at hr
 rw [(List.mem_replicate.mp hr).2] at hx
 rw [(List.mem_replicate.mp hx).2]
 exact EJ
structure Sq (m i o:Nat) (A B C D:List (List Rat)):Prop where
 a:Tq m m A
 b:Tq m i B
 c:Tq o m C
 d:Tq o i D
theorem Sq.sy {m i o:Nat} {A B C D:List (List Rat)} (h:Sq m i o A B C D):Sy m i o A B C D:=⟨h.a.tn,h.b.tn,h.c.tn,h.d.tn⟩
theorem cE.sq {m i o:Nat} {A B C D:List (List Rat)} (h:cE m i o A B C D):Sq m i o A B C D:=⟨h.a.tq,h.b.tq,h.c.tq,h.d.tq⟩
abbrev Hl (A1 C1 A2 B2:List (List Rat)) (m1 m2:Nat):List (List Rat):=eM A1 (dw m1 m2) ++ eM (mulM B2 C1 m1) A2
abbrev Hm (B1 D1 B2:List (List Rat)) (i1:Nat):List (List Rat):=B1 ++ mulM B2 D1 i1
abbrev Gg (C1 C2 D2:List (List Rat)) (m1:Nat):List (List Rat):=eM (mulM D2 C1 m1) C2
abbrev Hn (D1 D2:List (List Rat)) (i1:Nat):List (List Rat):=mulM D2 D1 i1
theorem uf {m1 i1 o1 m2 o2:Nat} {A1 B1 C1 D1 A2 B2 C2 D2:List (List Rat)} (h1:cE m1 i1 o1 A1 B1 C1 D1) (h2:cE m2 o1 o2 A2 B2 C2 D2) (ho:o1 ≤ 5):Sq (m1 + m2) i1 o2 (Hl A1 C1 A2 B2 m1 m2) (Hm B1 D1 B2 i1) (Gg C1 C2 D2 m1) (Hn D1 D2 i1):=
 ⟨(h1.a.tq.wide (Tq.zero m1 m2)).append ((Tq.mul h2.b h1.c ho).wide h2.a.tq),h1.b.tq.append (Tq.mul h2.b h1.d ho),(Tq.mul h2.d h1.c ho).wide h2.c.tq,Tq.mul h2.d h1.d ho⟩
abbrev gJ (X Y:List (List Rat)) (w1 w2:Nat):List (List Rat):=eM X (dw X.length w2) ++ eM (dw Y.length w1) Y
theorem Tq.ap {n p a b:Nat} {X Y:List (List Rat)} (hX:Tq n a X) (hY:Tq p b Y):Tq (n + p) (a + b) (gJ X Y a b):=by
 have z1:=hX.wide (Y:=dw X.length b) (by rw [hX.len]; exact Tq.zero n b)
 have z2:=Tq.wide (X:=dw Y.length a) (Y:=Y) (by rw [hY.len]; exact Tq.zero p a) hY
 exact z1.append z2
theorem rD {n p a b:Nat} {X Y:List (List Rat)} (hX:Tq n a X) (hY:Tq p b Y) {x y:List Rat} (hx:x.length=a) (hy:y.length=b):aX (gJ X Y a b) (x ++ y)=aX X x ++ aX Y y:=by
 rw [kL]
 have e1:aX (eM X (dw X.length b)) (x ++ y)=aX X x:=by
  have z:=iF X (dw X.length b) x y fun r hr=>by rw [hX.wd r hr,hx]
  refine Eq.trans z ?_
  rw [mr,<- bE X x,kg]
 have e2:aX (eM (dw Y.length a) Y) (x ++ y)=aX Y y:=by
  have z:=iF (dw Y.length a) Y x y fun r hr=>by rw [(Tn.zero Y.length a).wd r hr,hx]
  refine Eq.trans z ?_
  rw [mr,<- bE Y y,Bh]
 rw [e1,e2]
theorem ER {m1 i1 o1 m2 o2:Nat} {A1 B1 C1 D1 A2 B2 C2 D2:List (List Rat)} (h1:cE m1 i1 o1 A1 B1 C1 D1) (h2:cE m2 o1 o2 A2 B2 C2 D2) {x y g:List Rat} (hx:x.length=m1) (hy:y.length=m2) (hg:g.length=i1) :
  bZ (aX (Gg C1 C2 D2 m1) (x ++ y)) (aX (Hn D1 D2 i1) g)=bZ (aX C2 y) (aX D2 (bZ (aX C1 x) (aX D1 g))):=by
 have e1:aX (Gg C1 C2 D2 m1) (x ++ y)=bZ (aX D2 (aX C1 x)) (aX C2 y):=by
  have z:=iF (mulM D2 C1 m1) C2 x y fun r hr=>by
   unfold mulM at hr
   obtain ⟨s,_,rfl⟩:=List.mem_map.mp hr
   unfold ky
   rw [List.length_map,List.length_range,hx]
  refine Eq.trans z ?_
  rw [nN h1.c.bw.wd]
 rw [e1,nN h1.d.bw.wd,yF (by rw [bE,bE,h1.c.len,h1.d.len]),kh (aX D2 (aX C1 x)) (aX C2 y),kJ]
theorem EO {m1 i1 o1 m2 o2:Nat} {A1 B1 C1 D1 A2 B2 C2 D2:List (List Rat)} (h1:cE m1 i1 o1 A1 B1 C1 D1) (h2:cE m2 o1 o2 A2 B2 C2 D2) {x y g:List Rat} (hx:x.length=m1) (hy:y.length=m2) (hg:g.length=i1) :
  bZ (aX (Hl A1 C1 A2 B2 m1 m2) (x ++ y)) (aX (Hm B1 D1 B2 i1) g)=bZ (aX A1 x) (aX B1 g) ++ bZ (aX A2 y) (aX B2 (bZ (aX C1 x) (aX D1 g))):=by
 have e1:aX (eM A1 (dw m1 m2)) (x ++ y)=aX A1 x:=by
  have z:=iF A1 (dw m1 m2) x y fun r hr=>by rw [h1.a.bw.wd r hr,hx]
  refine Eq.trans z ?_
  rw [mr,show m1=(aX A1 x).length by rw [bE,h1.a.len],kg]
 have e2:aX (eM (mulM B2 C1 m1) A2) (x ++ y)=bZ (aX B2 (aX C1 x)) (aX A2 y):=by
  have z:=iF (mulM B2 C1 m1) A2 x y fun r hr=>by
   unfold mulM at hr
   obtain ⟨s,_,rfl⟩:=List.mem_map.mp hr
   unfold ky
   rw [List.length_map,List.length_range,hx]
  refine Eq.trans z ?_
  rw [nN h1.c.bw.wd]
 rw [kL,kL,e1,e2,lG _ _ _ _ (by rw [bE,bE,h1.a.len,h1.b.len]),nN h1.d.bw.wd,yF (x:=aX C1 x) (y:=aX D1 g) (by rw [bE,bE,h1.c.len,h1.d.len]),kh (aX B2 (aX C1 x)) (aX A2 y),kJ]
abbrev DH:List T -> Option T:=cz 2 2 kj
theorem BE {m w:Nat} (hm:m ≤ 100) (hw:w ≤ 100):DH [.int (m:Nat),.int (w:Nat)]=some (ao (dw m w)):=by
 have hc:=cn (φ:=fun j:Nat=>T.int (j:Nat)) (fe:=dg 1 [] (cS (aa (ag 1) ai)) (aq 0) aL (fC (.tup [.int 0,.int 1]))) (g:=fun _=>ay (List.replicate w 0)) (ρ:=[some (.sh (.int (w:Nat)))]) rfl (List.range m) none [] (fun j hj=>by
  have hc:=cn (φ:=fun j:Nat=>T.int (j:Nat)) (fe:=fC (.tup [.int 0,.int 1])) (g:=fun _=>bF 0) (ρ:=[]) rfl (List.range w) none [] (fun k hk=>rfl) (dQ (by rw [List.length_range]; exact hw))
  have e:=cv (no:=1) (cap:=[]) (fi:=cS (aa (ag 1) ai)) (fg:=aq 0) (ft:=aL) (τ:=[some (.sh (.int (j:Nat))),some (.sh (.int (w:Nat)))]) (kn (f:=ag 1) (n:=w) rfl (by omega)) rfl rfl hc
  rw [e]
  unfold ay
  rw [List.nil_append,List.map_replicate,show ((List.range w).map fun _=>bF 0)=List.replicate w (bF 0) from by rw [List.map_const',List.length_range]]) (dQ (by rw [List.length_range]; exact hm))
 have e:=cv (no:=1) (cap:=[1]) (fi:=cS (aa (ag 0) ai)) (fg:=aq 0) (ft:=aL) (τ:=[some (.sh (.int (m:Nat))),some (.sh (.int (w:Nat)))]) (kn (f:=ag 0) (n:=m) rfl (by omega)) rfl rfl hc
 refine cL rfl ?_
 show kj [some (.sh (.int (m:Nat))),some (.sh (.int (w:Nat)))]=_
 unfold kj
 rw [dX e,List.nil_append]
 unfold ao dw
 rw [List.map_replicate,List.map_const',List.length_range]
abbrev BB:List T -> Option T:=cz 2 2 kl
theorem nM {a b:List Rat} (h:a.length + b.length ≤ 100):bJ (ay a) (ay b)=some (ay (a ++ b)):=by
 unfold ay
 rw [jH (by rw [List.length_map,List.length_map]; exact cg (by omega)),List.map_append]
theorem rC {a b:List (List Rat)} (h:a.length + b.length ≤ 100):bJ (ao a) (ao b)=some (ao (a ++ b)):=by
 unfold ao
 rw [jH (by rw [List.length_map,List.length_map]; exact cg (by omega)),List.map_append]
theorem vc {n m i:Nat} {X Y:List (List Rat)} (hX:Tq n m X) (hY:Tq n i Y) (hn:n ≤ 100) (hw:m + i ≤ 100):BB [ao X,ao Y]=some (ao (eM X Y)):=by
 have hc:=iH (φ:=fun p:List Rat × List Rat=>ay p.1) (ψ:=fun p=>ay p.2) (fe:=aF bJ (ag 0) (ag 1)) (g:=fun p=>ay (p.1 ++ p.2)) (ρ:=[]) rfl (List.zip X Y) none none [] (fun p hp=>bg rfl rfl (nM (by rw [hX.wd _ (dm hp).1,hY.wd _ (dm hp).2]; omega))) (dQ (by rw [List.length_zip,hX.len,hY.len]; omega))
 rw [List.nil_append] at hc
 have hz:gq (aa (ag 0) (aa (ag 1) ai)) [some (.sh (ao X)),some (.sh (ao Y))]=some ((List.zip X Y).map fun p=>T.tup [ay p.1,ay p.2],[some (.sh (ao X)),some (.sh (ao Y))]):=by
  show some (ji (X.map ay) (Y.map ay),_)=_
  rw [kf]
 have e:=cv (no:=2) (cap:=[]) (fg:=vj) (ft:=aL) hz rfl rfl hc
 refine cL rfl ?_
 show kl [some (.sh (ao X)),some (.sh (ao Y))]=_
 unfold kl
 rw [dX e]
 unfold ao eM
 rw [List.map_map]
 rfl
open PySem PySem.Spec PyProof.Rows L2 TM Qm Rq
theorem Gw {t u:FS} {τ:aJ} (h:t τ=none):aO t u τ=none:=by
 unfold aO
 rw [h]
 rfl
theorem MK {c:FT} {u:FS} {τ τ':aJ} (h:c τ=some (true,τ')):bG c cN u τ=none:=by
 unfold bG
 rw [h]
 rfl
theorem lJ {m n:Nat} {fb:FS} {ts:List T} (h:fb (ts.map (fun t=>some (Sl.sh t)) ++ List.replicate (m - n) none)=none):cz m n fb ts=none:=by
 unfold cz
 rw [h]
 split <;> rfl
theorem rZ {m n:Nat} {fx:FX} {ts:List T} {C:Addr} {τ:aJ} (hl:ts.length=n) (h:fx (ts.map (fun t=>some (Sl.sh t)) ++ List.replicate (m - n) none)=some (C,τ)):uU m n fx ts=some C:=by
 unfold uU
 rw [if_pos hl,h]
 rfl
theorem xQ {C:Addr} {d:List T -> Option p7} {g:FA} {τ τ':aJ} {ts:List T} {ns:List Str} {us:List T} (h:g τ=some (ts,τ')) (hd:d ts=some (ns,us)):kC C d g τ=some (.obj C ns us,τ'):=by
 unfold kC
 rw [h,Option.bind_some,hd]
 rfl
theorem Cb {C:Addr} {d:List T -> Option p7} {g:FA} {τ τ':aJ} {ts:List T} (h:g τ=some (ts,τ')) (hd:d ts=none):kC C d g τ=none:=by
 unfold kC
 rw [h,Option.bind_some,hd]
 rfl
theorem nP {dx:List T -> Option Addr} {g:FA} {τ τ':aJ} {ts:List T} {C:Addr} (h:g τ=some (ts,τ')) (hd:dx ts=some C):gh dx g τ=some (C,τ'):=by
 unfold gh
 rw [h,Option.bind_some,hd]
 rfl
theorem jj {f:FE} {g:FG} {τ τ1 τ2:aJ} {t:T} (h:f τ=some (t,τ1)) (hg:g t τ1=some τ2):dY f g τ=some (.nx τ2):=by
 unfold dY
 rw [h,Option.bind_some,hg]
 rfl
theorem Gs {f:FE} {τ:aJ} (h:f τ=none):bz f τ=none:=by
 unfold bz
 rw [h]
 rfl
abbrev DG:List T -> Option T:=cz 12 2 (oB cU DH BB si wG uT oJ uS BA)
abbrev wY:List T -> Option Addr:=uU 12 2 (mz cU eP DH BB si wG uT oJ uS FQ)
def Gh:FT:=dJ (aF jI (bo [(cU,wG)] "outs" (ag 0) ai) (bo [(cU,uT)] "ins" (ag 1) ai))
def Lp:FA:=(aa (aF bJ (ak BB (aa (ag 2) (aa (ak DH (aa (ag 10) (aa (bo [(cU,uS)] "cells" (ag 1) ai) ai))) ai))) (ak BB (aa (ak si (aa (ag 7) (aa (ag 4) (aa (ag 10) ai)))) (aa (ag 6) ai)))) (aa (aF bJ (ag 3) (ak si (aa (ag 7) (aa (ag 5) (aa (ag 11) ai))))) (aa (ak BB (aa (ak si (aa (ag 9) (aa (ag 4) (aa (ag 10) ai)))) (aa (ag 8) ai))) (aa (ak si (aa (ag 9) (aa (ag 5) (aa (ag 11) ai)))) ai))))
abbrev Lx (a b c d:Nat):FG:=cm (aB (aq a) (aB (aq b) (aB (aq c) (aB (aq d) bO))))
def Ho:FS:=dY (bo [(cU,oJ)] "tables" (ag 0) ai) (Lx 2 3 4 5)
def Hq:FS:=dY (bo [(cU,oJ)] "tables" (ag 1) ai) (Lx 6 7 8 9)
def D3:FS:=jF 10 11 (aa (bo [(cU,uS)] "cells" (ag 0) ai) (aa (bo [(cU,uT)] "ins" (ag 0) ai) ai))
theorem rJ:oB cU DH BB si wG uT oJ uS BA=aO (bG Gh cN bp) (aO Ho (aO Hq (aO D3 (bz (kC cU BA Lp))))):=rfl
theorem uO:mz cU eP DH BB si wG uT oJ uS FQ=mE (mD Gh (jG eP (aa (fC (.str "the other has not as many lines in as the one has lines out")) ai)) xg) (eX (bG Gh cN bp) (eX Ho (eX Hq (eX D3 (gh FQ Lp))))):=rfl
section
variable {m1 i1 o1 m2 i2 o2:Nat} {A1 B1 C1 D1 A2 B2 C2 D2:List (List Rat)}
abbrev jE (S1 S2:T) (r:List (Option Sl)):aJ:=some (.sh S1) :: some (.sh S2) :: r
theorem iq {d:List T -> Option T} {mn:Str} {A B C D:List (List Rat)} {f:FE} {τ:aJ} {t:T} (h:f τ=some (aR A B C D,τ)) (hm:¬ mn ∈ (["four"]:List Str)) (hd:d [aR A B C D]=some t):bo [(cU,d)] mn f ai τ=some (t,τ):=
 HD (C:=cU) (ns:=["four"]) (ts:=[qS A B C D]) (qs:=[]) (d:=d) h hm rfl rfl hd
theorem zr (h1:cE m1 i1 o1 A1 B1 C1 D1) (h2:cE m2 i2 o2 A2 B2 C2 D2) (ho:0 < o2) (r:List (Option Sl)):Gh (jE (aR A1 B1 C1 D1) (aR A2 B2 C2 D2) r)=some (!decide (o1=i2),jE (aR A1 B1 C1 D1) (aR A2 B2 C2 D2) r):=by
 have k1:=yW (A:=A1) (B:=B1) (C:=C1) (D:=D1)
 rw [h1.d.len] at k1
 have k2:=uZ h2.sy ho
 have e:=bg (g:=jI) (τ:=jE (aR A1 B1 C1 D1) (aR A2 B2 C2 D2) r) (iq (mn := "outs") (f:=ag 0) rfl (by decide) k1) (iq (mn := "ins") (f:=ag 1) rfl (by decide) k2) (Cg o1 i2)
 unfold Gh dJ
 rw [e]
 rfl
theorem AK (h1:cE m1 i1 o1 A1 B1 C1 D1) (h2:cE m2 i2 o2 A2 B2 C2 D2) (ho:0 < o2) (hne:o1 ≠ i2):DG [aR A1 B1 C1 D1,aR A2 B2 C2 D2]=none /\ wY [aR A1 B1 C1 D1,aR A2 B2 C2 D2]=some eP:=by
 have t:=zr h1 h2 ho [none,none,none,none,none,none,none,none,none,none]
 rw [decide_eq_false hne] at t
 constructor
 ·refine lJ ?_
  rw [rJ]
  exact Gw (MK t)
 ·refine rZ (τ:=jE (aR A1 B1 C1 D1) (aR A2 B2 C2 D2) [none,none,none,none,none,none,none,none,none,none]) rfl ?_
  rw [uO]
  exact Gq ((zo t).trans ue)
abbrev Lo (A1 B1 C1 D1 A2 B2 C2 D2:List (List Rat)) (m1 i1:Nat):aJ:=jE (aR A1 B1 C1 D1) (aR A2 B2 C2 D2) [some (.sh (ao A1)),some (.sh (ao B1)),some (.sh (ao C1)),some (.sh (ao D1)),some (.sh (ao A2)),some (.sh (ao B2)),some (.sh (ao C2)),some (.sh (ao D2)),some (.sh (.int (m1:Nat))),some (.sh (.int (i1:Nat)))]
theorem zq (h1:cE m1 i1 o1 A1 B1 C1 D1) (h2:cE m2 o1 o2 A2 B2 C2 D2) (hm1:m1 ≤ 5) (hm2:m2 ≤ 5) (hi1:i1 ≤ 2) (ho1:o1 ≤ 2) (ho2:o2 ≤ 2):Lp (Lo A1 B1 C1 D1 A2 B2 C2 D2 m1 i1)=some ([ao (Hl A1 C1 A2 B2 m1 m2),ao (Hm B1 D1 B2 i1),ao (Gg C1 C2 D2 m1),ao (Hn D1 D2 i1)],Lo A1 B1 C1 D1 A2 B2 C2 D2 m1 i1):=by
 have c2:=uY (A:=A2) (B:=B2) (C:=C2) (D:=D2)
 rw [h2.a.len] at c2
 have n1:=BE (m:=m1) (w:=m2) (by omega) (by omega)
 have w1:=vc h1.a.tq (Tq.zero m1 m2) (by omega) (by omega)
 have p1:=so (nk h2.b (by omega) (by omega)) (nk h1.c (by omega) (by omega)) h1.c.bw.wd (by omega) DL
 have p2:=so (nk h2.b (by omega) (by omega)) (nk h1.d (by omega) (by omega)) h1.d.bw.wd (by omega) DL
 have p3:=so (nk h2.d (by omega) (by omega)) (nk h1.c (by omega) (by omega)) h1.c.bw.wd (by omega) DL
 have p4:=so (nk h2.d (by omega) (by omega)) (nk h1.d (by omega) (by omega)) h1.d.bw.wd (by omega) DL
 have q1:=Tq.mul h2.b h1.c (by omega)
 have q2:=Tq.mul h2.b h1.d (by omega)
 have q3:=Tq.mul h2.d h1.c (by omega)
 have w2:=vc q1 h2.a.tq (by omega) (by omega)
 have w3:=vc q3 h2.c.tq (by omega) (by omega)
 have z1:=h1.a.tq.wide (Tq.zero m1 m2)
 have z2:=q1.wide h2.a.tq
 have a1:=rC (a:=eM A1 (dw m1 m2)) (b:=eM (mulM B2 C1 m1) A2) (by rw [z1.len,z2.len]; omega)
 have a2:=rC (a:=B1) (b:=mulM B2 D1 i1) (by rw [h1.b.len,q2.len]; omega)
 unfold Lp
 exact ju (bg (g:=bJ) (aH [ao A1,ao (dw m1 m2)] (dy rfl (aH [.int (m1:Nat),.int (m2:Nat)] (dy rfl (iq (mn := "cells") (f:=ag 1) rfl (by decide) c2)) n1)) w1) (aH [ao (mulM B2 C1 m1),ao A2] (dy (aH [ao B2,ao C1,.int (m1:Nat)] (gy rfl rfl rfl) p1) rfl) w2) a1)
  (bg (g:=bJ) (a:=ao B1) rfl (aH [ao B2,ao D1,.int (i1:Nat)] (gy rfl rfl rfl) p2) a2)
  (aH [ao (mulM D2 C1 m1),ao C2] (dy (aH [ao D2,ao C1,.int (m1:Nat)] (gy rfl rfl rfl) p3) rfl) w3)
  (aH [ao D2,ao D1,.int (i1:Nat)] (gy rfl rfl rfl) p4)
theorem BZ (h1:cE m1 i1 o1 A1 B1 C1 D1) (h2:cE m2 o1 o2 A2 B2 C2 D2) (hm1:m1 ≤ 5) (hm2:m2 ≤ 5) (ho1:1 ≤ o1 /\ o1 ≤ 2) (ho2:1 ≤ o2 /\ o2 ≤ 2) :
  Gh (jE (aR A1 B1 C1 D1) (aR A2 B2 C2 D2) [none,none,none,none,none,none,none,none,none,none])=some (false,jE (aR A1 B1 C1 D1) (aR A2 B2 C2 D2) [none,none,none,none,none,none,none,none,none,none]) /\
  Ho (jE (aR A1 B1 C1 D1) (aR A2 B2 C2 D2) [none,none,none,none,none,none,none,none,none,none])=some (.nx (jE (aR A1 B1 C1 D1) (aR A2 B2 C2 D2) [some (.sh (ao A1)),some (.sh (ao B1)),some (.sh (ao C1)),some (.sh (ao D1)),none,none,none,none,none,none])) /\
  Hq (jE (aR A1 B1 C1 D1) (aR A2 B2 C2 D2) [some (.sh (ao A1)),some (.sh (ao B1)),some (.sh (ao C1)),some (.sh (ao D1)),none,none,none,none,none,none])=some (.nx (jE (aR A1 B1 C1 D1) (aR A2 B2 C2 D2) [some (.sh (ao A1)),some (.sh (ao B1)),some (.sh (ao C1)),some (.sh (ao D1)),some (.sh (ao A2)),some (.sh (ao B2)),some (.sh (ao C2)),some (.sh (ao D2)),none,none])) /\
  D3 (jE (aR A1 B1 C1 D1) (aR A2 B2 C2 D2) [some (.sh (ao A1)),some (.sh (ao B1)),some (.sh (ao C1)),some (.sh (ao D1)),some (.sh (ao A2)),some (.sh (ao B2)),some (.sh (ao C2)),some (.sh (ao D2)),none,none])=some (.nx (Lo A1 B1 C1 D1 A2 B2 C2 D2 m1 i1)):=by
 have t:=zr h1 h2 (by omega) [none,none,none,none,none,none,none,none,none,none]
 rw [decide_eq_true rfl] at t
 have k1:=oK h1.sy (by omega) (by omega)
 have k2:=oK h2.sy (by omega) (by omega)
 have k3:=uY (A:=A1) (B:=B1) (C:=C1) (D:=D1)
 rw [h1.a.len] at k3
 have k4:=uZ h1.sy (by omega)
 refine ⟨t,jj (iq (mn := "tables") (f:=ag 0) rfl (by decide) k1) rfl,jj (iq (mn := "tables") (f:=ag 1) rfl (by decide) k2) rfl,?_⟩
 unfold D3 jF
 rw [dy (iq (mn := "cells") (f:=ag 0) rfl (by decide) k3) (iq (mn := "ins") (f:=ag 0) rfl (by decide) k4)]
 rfl
theorem J2 (h1:cE m1 i1 o1 A1 B1 C1 D1) (h2:cE m2 o1 o2 A2 B2 C2 D2) (hm1:m1 ≤ 5) (hm2:m2 ≤ 5) (hi1:1 ≤ i1 /\ i1 ≤ 2) (ho1:1 ≤ o1 /\ o1 ≤ 2) (ho2:1 ≤ o2 /\ o2 ≤ 2) (h8:m1 + m2 ≤ 8):DG [aR A1 B1 C1 D1,aR A2 B2 C2 D2]=some (aR (Hl A1 C1 A2 B2 m1 m2) (Hm B1 D1 B2 i1) (Gg C1 C2 D2 m1) (Hn D1 D2 i1)):=by
 obtain ⟨t,s2,s3,s4⟩:=BZ h1 h2 hm1 hm2 ho1 ho2
 have g:=zq h1 h2 hm1 hm2 hi1.2 ho1.2 ho2.2
 have e:=BF (uf h1 h2 (by omega)).sy h8 hi1 ho2
 refine cL rfl ?_
 rw [rJ]
 show aO (bG Gh cN bp) _ (jE (aR A1 B1 C1 D1) (aR A2 B2 C2 D2) [none,none,none,none,none,none,none,none,none,none])=_
 rw [aW (eZ t),aW s2,aW s3,aW s4]
 exact dX (xQ g e)
theorem D4 (h1:cE m1 i1 o1 A1 B1 C1 D1) (h2:cE m2 o1 o2 A2 B2 C2 D2) (hm1:m1 ≤ 5) (hm2:m2 ≤ 5) (hi1:1 ≤ i1 /\ i1 ≤ 2) (ho1:1 ≤ o1 /\ o1 ≤ 2) (ho2:1 ≤ o2 /\ o2 ≤ 2) (h8:8 < m1 + m2):DG [aR A1 B1 C1 D1,aR A2 B2 C2 D2]=none /\ wY [aR A1 B1 C1 D1,aR A2 B2 C2 D2]=some fH:=by
 obtain ⟨t,s2,s3,s4⟩:=BZ h1 h2 hm1 hm2 ho1 ho2
 have g:=zq h1 h2 hm1 hm2 hi1.2 ho1.2 ho2.2
 have e:=zS (uf h1 h2 (by omega)).sy ⟨h8,by omega⟩ hi1 ho2
 have e':=BG (uf h1 h2 (by omega)).sy ⟨h8,by omega⟩ hi1 ho2
 constructor
 ·refine lJ ?_
  rw [rJ]
  show aO (bG Gh cN bp) _ (jE (aR A1 B1 C1 D1) (aR A2 B2 C2 D2) [none,none,none,none,none,none,none,none,none,none])=_
  rw [aW (eZ t),aW s2,aW s3,aW s4]
  exact Gs (Cb g e)
 ·refine rZ (τ:=Lo A1 B1 C1 D1 A2 B2 C2 D2 m1 i1) rfl ?_
  rw [uO]
  show mE _ _ (jE (aR A1 B1 C1 D1) (aR A2 B2 C2 D2) [none,none,none,none,none,none,none,none,none,none])=_
  rw [Co (zm t),jf (eZ t),jf s2,jf s3,jf s4]
  exact nP g e'
end
open PySem PySem.Spec PyProof.Rows L2 TM Qm Rq
abbrev qc:List T -> Option T:=cz 4 4 (nO DH BB)
theorem lK {n p a b:Nat} {X Y:List (List Rat)} (hX:Tq n a X) (hY:Tq p b Y) (h1:n ≤ 8) (h2:p ≤ 8) (h3:a ≤ 8) (h4:b ≤ 8):qc [ao X,.int (a:Nat),ao Y,.int (b:Nat)]=some (ao (gJ X Y a b)):=by
 have n1:=BE (m:=X.length) (w:=b) (by rw [hX.len]; omega) (by omega)
 have n2:=BE (m:=Y.length) (w:=a) (by rw [hY.len]; omega) (by omega)
 have z1:Tq n b (dw X.length b):=by rw [hX.len]; exact Tq.zero n b
 have z2:Tq p a (dw Y.length a):=by rw [hY.len]; exact Tq.zero p a
 have w1:=vc hX z1 (by omega) (by omega)
 have w2:=vc z2 hY (by omega) (by omega)
 have a1:=rC (a:=eM X (dw X.length b)) (b:=eM (dw Y.length a) Y) (by rw [(hX.wide z1).len,(z2.wide hY).len]; omega)
 refine cL rfl ?_
 show nO DH BB [some (.sh (ao X)),some (.sh (.int (a:Nat))),some (.sh (ao Y)),some (.sh (.int (b:Nat)))]=_
 unfold nO
 exact dX (bg (g:=bJ) (aH [ao X,ao (dw X.length b)] (dy rfl (aH [.int (X.length:Nat),.int (b:Nat)] (dy (aH [ao X] (eL rfl) (len_tab X)) rfl) n1)) w1) (aH [ao (dw Y.length a),ao Y] (dy (aH [.int (Y.length:Nat),.int (a:Nat)] (dy (aH [ao Y] (eL rfl) (len_tab Y)) rfl) n2) rfl) w2) a1)
abbrev DF:List T -> Option T:=cz 12 2 (oz cU qc uT wG uS oJ BA)
abbrev wX:List T -> Option Addr:=uU 12 2 (my cU eP qc uT wG uS oJ FQ)
def Fu:FT:=dJ (aF jI (cR (aa (bo [(cU,uT)] "ins" (ag 0) ai) (aa (bo [(cU,wG)] "outs" (ag 0) ai) (aa (bo [(cU,uT)] "ins" (ag 1) ai) (aa (bo [(cU,wG)] "outs" (ag 1) ai) ai))))) (cR (aa (fC (.int 1)) (aa (fC (.int 1)) (aa (fC (.int 1)) (aa (fC (.int 1)) ai))))))
def Lg:FA:=(aa (ak qc (aa (ag 4) (aa (ag 2) (aa (ag 8) (aa (ag 3) ai))))) (aa (ak qc (aa (ag 5) (aa (fC (.int 1)) (aa (ag 9) (aa (fC (.int 1)) ai))))) (aa (ak qc (aa (ag 6) (aa (ag 2) (aa (ag 10) (aa (ag 3) ai))))) (aa (ak qc (aa (ag 7) (aa (fC (.int 1)) (aa (ag 11) (aa (fC (.int 1)) ai))))) ai))))
def Dz:FS:=jF 2 3 (aa (bo [(cU,uS)] "cells" (ag 0) ai) (aa (bo [(cU,uS)] "cells" (ag 1) ai) ai))
def GK:FS:=dY (bo [(cU,oJ)] "tables" (ag 0) ai) (Lx 4 5 6 7)
def GL:FS:=dY (bo [(cU,oJ)] "tables" (ag 1) ai) (Lx 8 9 10 11)
theorem rH:oz cU qc uT wG uS oJ BA=aO (bG Fu cN bp) (aO Dz (aO GK (aO GL (bz (kC cU BA Lg))))):=rfl
theorem uN:my cU eP qc uT wG uS oJ FQ=mE (mD Fu (jG eP (aa (fC (.str "each has not one line in and one line out")) ai)) xg) (eX (bG Fu cN bp) (eX Dz (eX GK (eX GL (gh FQ Lg))))):=rfl
def qw (a b c d:Nat):Bool:=decide (a=1) && (decide (b=1) && (decide (c=1) && decide (d=1)))
theorem DZ (a:Nat):(((a:Nat):Int) == 1)=decide (a=1):=by
 rw [Bool.beq_eq_decide_eq]
 exact decide_eq_decide.mpr (by omega)
theorem ne4 (a b c d:Nat):jI (.lst [.int (a:Nat),.int (b:Nat),.int (c:Nat),.int (d:Nat)]) (.lst [.int 1,.int 1,.int 1,.int 1])=some (.bl (!qw a b c d)):=by
 have e:jI (.lst [.int (a:Nat),.int (b:Nat),.int (c:Nat),.int (d:Nat)]) (.lst [.int 1,.int 1,.int 1,.int 1])=some (.bl (!((((a:Nat):Int) == 1) && ((((b:Nat):Int) == 1) && ((((c:Nat):Int) == 1) && ((((d:Nat):Int) == 1) && true)))))):=rfl
 rw [e,DZ,DZ,DZ,DZ,Bool.and_true]
 rfl
section
variable {m1 i1 o1 m2 i2 o2:Nat} {A1 B1 C1 D1 A2 B2 C2 D2:List (List Rat)}
theorem yL (h1:cE m1 i1 o1 A1 B1 C1 D1) (h2:cE m2 i2 o2 A2 B2 C2 D2) (ho1:0 < o1) (ho2:0 < o2) (r:List (Option Sl)):Fu (jE (aR A1 B1 C1 D1) (aR A2 B2 C2 D2) r)=some (!qw i1 o1 i2 o2,jE (aR A1 B1 C1 D1) (aR A2 B2 C2 D2) r):=by
 have k1:=uZ h1.sy ho1
 have k2:=yW (A:=A1) (B:=B1) (C:=C1) (D:=D1)
 rw [h1.d.len] at k2
 have k3:=uZ h2.sy ho2
 have k4:=yW (A:=A2) (B:=B2) (C:=C2) (D:=D2)
 rw [h2.d.len] at k4
 have l1:=gO (τ:=jE (aR A1 B1 C1 D1) (aR A2 B2 C2 D2) r) (ju (iq (mn := "ins") (f:=ag 0) rfl (by decide) k1) (iq (mn := "outs") (f:=ag 0) rfl (by decide) k2) (iq (mn := "ins") (f:=ag 1) rfl (by decide) k3) (iq (mn := "outs") (f:=ag 1) rfl (by decide) k4)) (by show 4 ≤ 1000; decide)
 have e:=bg (g:=jI) l1 (gO (f:=aa (fC (.int 1)) (aa (fC (.int 1)) (aa (fC (.int 1)) (aa (fC (.int 1)) ai)))) (ju rfl rfl rfl rfl) (by show 4 ≤ 1000; decide)) (ne4 i1 o1 i2 o2)
 unfold Fu dJ
 rw [e]
 rfl
theorem Aq (h1:cE m1 i1 o1 A1 B1 C1 D1) (h2:cE m2 i2 o2 A2 B2 C2 D2) (ho1:0 < o1) (ho2:0 < o2) (hne:qw i1 o1 i2 o2=false):DF [aR A1 B1 C1 D1,aR A2 B2 C2 D2]=none /\ wX [aR A1 B1 C1 D1,aR A2 B2 C2 D2]=some eP:=by
 have t:=yL h1 h2 ho1 ho2 [none,none,none,none,none,none,none,none,none,none]
 rw [hne] at t
 constructor
 ·refine lJ ?_
  rw [rH]
  exact Gw (MK t)
 ·refine rZ (τ:=jE (aR A1 B1 C1 D1) (aR A2 B2 C2 D2) [none,none,none,none,none,none,none,none,none,none]) rfl ?_
  rw [uN]
  exact Gq ((zo t).trans ue)
abbrev Lf (A1 B1 C1 D1 A2 B2 C2 D2:List (List Rat)) (m1 m2:Nat):aJ:=jE (aR A1 B1 C1 D1) (aR A2 B2 C2 D2) [some (.sh (.int (m1:Nat))),some (.sh (.int (m2:Nat))),some (.sh (ao A1)),some (.sh (ao B1)),some (.sh (ao C1)),some (.sh (ao D1)),some (.sh (ao A2)),some (.sh (ao B2)),some (.sh (ao C2)),some (.sh (ao D2))]
theorem yK (h1:cE m1 1 1 A1 B1 C1 D1) (h2:cE m2 1 1 A2 B2 C2 D2):Sq (m1 + m2) 2 2 (gJ A1 A2 m1 m2) (gJ B1 B2 1 1) (gJ C1 C2 m1 m2) (gJ D1 D2 1 1):=
 ⟨h1.a.tq.ap h2.a.tq,h1.b.tq.ap h2.b.tq,h1.c.tq.ap h2.c.tq,h1.d.tq.ap h2.d.tq⟩
theorem yJ (h1:cE m1 1 1 A1 B1 C1 D1) (h2:cE m2 1 1 A2 B2 C2 D2) (hm1:m1 ≤ 5) (hm2:m2 ≤ 5):Lg (Lf A1 B1 C1 D1 A2 B2 C2 D2 m1 m2)=some ([ao (gJ A1 A2 m1 m2),ao (gJ B1 B2 1 1),ao (gJ C1 C2 m1 m2),ao (gJ D1 D2 1 1)],Lf A1 B1 C1 D1 A2 B2 C2 D2 m1 m2):=by
 have p1:=lK h1.a.tq h2.a.tq (by omega) (by omega) (by omega) (by omega)
 have p2:=lK h1.b.tq h2.b.tq (by omega) (by omega) (by omega) (by omega)
 have p3:=lK h1.c.tq h2.c.tq (by omega) (by omega) (by omega) (by omega)
 have p4:=lK h1.d.tq h2.d.tq (by omega) (by omega) (by omega) (by omega)
 unfold Lg
 exact ju (aH [ao A1,.int (m1:Nat),ao A2,.int (m2:Nat)] (ju rfl rfl rfl rfl) p1) (aH [ao B1,.int (1:Nat),ao B2,.int (1:Nat)] (ju rfl rfl rfl rfl) p2) (aH [ao C1,.int (m1:Nat),ao C2,.int (m2:Nat)] (ju rfl rfl rfl rfl) p3) (aH [ao D1,.int (1:Nat),ao D2,.int (1:Nat)] (ju rfl rfl rfl rfl) p4)
theorem Bp (h1:cE m1 1 1 A1 B1 C1 D1) (h2:cE m2 1 1 A2 B2 C2 D2) (hm1:m1 ≤ 5) (hm2:m2 ≤ 5) :
  Fu (jE (aR A1 B1 C1 D1) (aR A2 B2 C2 D2) [none,none,none,none,none,none,none,none,none,none])=some (false,jE (aR A1 B1 C1 D1) (aR A2 B2 C2 D2) [none,none,none,none,none,none,none,none,none,none]) /\
  Dz (jE (aR A1 B1 C1 D1) (aR A2 B2 C2 D2) [none,none,none,none,none,none,none,none,none,none])=some (.nx (jE (aR A1 B1 C1 D1) (aR A2 B2 C2 D2) [some (.sh (.int (m1:Nat))),some (.sh (.int (m2:Nat))),none,none,none,none,none,none,none,none])) /\
  GK (jE (aR A1 B1 C1 D1) (aR A2 B2 C2 D2) [some (.sh (.int (m1:Nat))),some (.sh (.int (m2:Nat))),none,none,none,none,none,none,none,none])=some (.nx (jE (aR A1 B1 C1 D1) (aR A2 B2 C2 D2) [some (.sh (.int (m1:Nat))),some (.sh (.int (m2:Nat))),some (.sh (ao A1)),some (.sh (ao B1)),some (.sh (ao C1)),some (.sh (ao D1)),none,none,none,none])) /\
  GL (jE (aR A1 B1 C1 D1) (aR A2 B2 C2 D2) [some (.sh (.int (m1:Nat))),some (.sh (.int (m2:Nat))),some (.sh (ao A1)),some (.sh (ao B1)),some (.sh (ao C1)),some (.sh (ao D1)),none,none,none,none])=some (.nx (Lf A1 B1 C1 D1 A2 B2 C2 D2 m1 m2)):=by
 have t:=yL h1 h2 (by omega) (by omega) [none,none,none,none,none,none,none,none,none,none]
 rw [show qw 1 1 1 1=true from rfl] at t
 have k1:=oK h1.sy (by omega) (by omega)
 have k2:=oK h2.sy (by omega) (by omega)
 have k3:=uY (A:=A1) (B:=B1) (C:=C1) (D:=D1)
 rw [h1.a.len] at k3
 have k4:=uY (A:=A2) (B:=B2) (C:=C2) (D:=D2)
 rw [h2.a.len] at k4
 refine ⟨t,?_,jj (iq (mn := "tables") (f:=ag 0) rfl (by decide) k1) rfl,jj (iq (mn := "tables") (f:=ag 1) rfl (by decide) k2) rfl⟩
 unfold Dz jF
 rw [dy (iq (mn := "cells") (f:=ag 0) rfl (by decide) k3) (iq (mn := "cells") (f:=ag 1) rfl (by decide) k4)]
 rfl
theorem Jy (h1:cE m1 1 1 A1 B1 C1 D1) (h2:cE m2 1 1 A2 B2 C2 D2) (hm1:m1 ≤ 5) (hm2:m2 ≤ 5) (h8:m1 + m2 ≤ 8):DF [aR A1 B1 C1 D1,aR A2 B2 C2 D2]=some (aR (gJ A1 A2 m1 m2) (gJ B1 B2 1 1) (gJ C1 C2 m1 m2) (gJ D1 D2 1 1)):=by
 obtain ⟨t,s2,s3,s4⟩:=Bp h1 h2 hm1 hm2
 have g:=yJ h1 h2 hm1 hm2
 have e:=BF (yK h1 h2).sy h8 (by omega) (by omega)
 refine cL rfl ?_
 rw [rH]
 show aO (bG Fu cN bp) _ (jE (aR A1 B1 C1 D1) (aR A2 B2 C2 D2) [none,none,none,none,none,none,none,none,none,none])=_
 rw [aW (eZ t),aW s2,aW s3,aW s4]
 exact dX (xQ g e)
theorem DA (h1:cE m1 1 1 A1 B1 C1 D1) (h2:cE m2 1 1 A2 B2 C2 D2) (hm1:m1 ≤ 5) (hm2:m2 ≤ 5) (h8:8 < m1 + m2):DF [aR A1 B1 C1 D1,aR A2 B2 C2 D2]=none /\ wX [aR A1 B1 C1 D1,aR A2 B2 C2 D2]=some fH:=by
 obtain ⟨t,s2,s3,s4⟩:=Bp h1 h2 hm1 hm2
 have g:=yJ h1 h2 hm1 hm2
 have e:=zS (yK h1 h2).sy ⟨h8,by omega⟩ (by omega) (by omega)
 have e':=BG (yK h1 h2).sy ⟨h8,by omega⟩ (by omega) (by omega)
 constructor
 ·refine lJ ?_
  rw [rH]
  show aO (bG Fu cN bp) _ (jE (aR A1 B1 C1 D1) (aR A2 B2 C2 D2) [none,none,none,none,none,none,none,none,none,none])=_
  rw [aW (eZ t),aW s2,aW s3,aW s4]
  exact Gs (Cb g e)
 ·refine rZ (τ:=Lf A1 B1 C1 D1 A2 B2 C2 D2 m1 m2) rfl ?_
  rw [uN]
  show mE _ _ (jE (aR A1 B1 C1 D1) (aR A2 B2 C2 D2) [none,none,none,none,none,none,none,none,none,none])=_
  rw [Co (zm t),jf (eZ t),jf s2,jf s3,jf s4]
  exact nP g e'
end
open PySem PySem.Spec PyProof.Rows L2 TM Qm Rq
abbrev FJ:List T -> Option T:=cz 2 2 (hU zE)
theorem Jp {a b:Nat} (ha:a < C) (hb:b < C):a * b ≤ C * C:=Nat.mul_le_mul (Nat.le_of_lt ha) (Nat.le_of_lt hb)
theorem FV {x y:Rat} (hx:Sm x) (hy:Sm y):FJ [bF x,bF y]=some (bF (x + y)):=by
 have cb:=CB
 have ccb:=LD
 have b1:x.num.natAbs < B:=ltB hx.n
 have b2:y.num.natAbs < B:=ltB hy.n
 have b3:((x.den:Nat):Int).natAbs < B:=by have:=hx.d; omega
 have b4:((y.den:Nat):Int).natAbs < B:=by have:=hy.d; omega
 have e1:=Jp hx.n hy.d
 have e2:=Jp hy.n hx.d
 have e3:=Jp hx.d hy.d
 have n1:(x.num * ((y.den:Nat):Int)).natAbs=x.num.natAbs * y.den:=by rw [Int.natAbs_mul,Int.natAbs_natCast]
 have n2:(y.num * ((x.den:Nat):Int)).natAbs=y.num.natAbs * x.den:=by rw [Int.natAbs_mul,Int.natAbs_natCast]
 have n3:(((x.den:Nat):Int) * ((y.den:Nat):Int)).natAbs=x.den * y.den:=by rw [Int.natAbs_mul,Int.natAbs_natCast,Int.natAbs_natCast]
 have hf:=tm (a:=x.num * ((y.den:Nat):Int) + y.num * ((x.den:Nat):Int)) (b:=((x.den:Nat):Int) * ((y.den:Nat):Int)) (by have:=Int.natAbs_add_le (x.num * ((y.den:Nat):Int)) (y.num * ((x.den:Nat):Int)); omega) (by omega) (Int.mul_pos (den_pos x) (den_pos y))
 have hd:Rat.divInt (x.num * ((y.den:Nat):Int) + y.num * ((x.den:Nat):Int)) (((x.den:Nat):Int) * ((y.den:Nat):Int))=x + y:=by
  rw [<- Rat.divInt_add_divInt _ _ (Int.ne_of_gt (den_pos x)) (Int.ne_of_gt (den_pos y)),dB,dB]
 rw [hd] at hf
 have i0:∀ (z w:Rat),aF bC (ag 0) (fC (.int 0)) [some (.sh (bF z)),some (.sh (bF w))]=some (.int z.num,[some (.sh (bF z)),some (.sh (bF w))]):=fun z w=>bg rfl rfl rfl
 have i1:∀ (z w:Rat),aF bC (ag 0) (fC (.int 1)) [some (.sh (bF z)),some (.sh (bF w))]=some (.int (z.den:Nat),[some (.sh (bF z)),some (.sh (bF w))]):=fun z w=>bg rfl rfl rfl
 have j0:∀ (z w:Rat),aF bC (ag 1) (fC (.int 0)) [some (.sh (bF z)),some (.sh (bF w))]=some (.int w.num,[some (.sh (bF z)),some (.sh (bF w))]):=fun z w=>bg rfl rfl rfl
 have j1:∀ (z w:Rat),aF bC (ag 1) (fC (.int 1)) [some (.sh (bF z)),some (.sh (bF w))]=some (.int (w.den:Nat),[some (.sh (bF z)),some (.sh (bF w))]):=fun z w=>bg rfl rfl rfl
 refine cL rfl ?_
 show hU zE [some (.sh (bF x)),some (.sh (bF y))]=_
 unfold hU
 exact dX (aH _ (dy (bg (g:=bJ) (bg (g:=bq) (i0 x y) (j1 x y) (oU b1 b4)) (bg (g:=bq) (j0 x y) (i1 x y) (oU b2 b3)) iJ) (bg (g:=bq) (i1 x y) (j1 x y) (oU b3 b4))) hf)
def D9:FS:=bK 2 (ak FJ (aa (ag 2) (aa (ak zE (aa (aF bq (aF bC (ag 3) (fC (.int 0))) (aF bC (ag 4) (fC (.int 0)))) (aa (aF bq (aF bC (ag 3) (fC (.int 1))) (aF bC (ag 4) (fC (.int 1)))) ai))) ai)))
theorem J9 {x y t:Rat} (hx:Sm x) (hy:Sm y) (ht:Sm t) (hxy:Sm (x * y)) (s0 s1:Option Sl):D9 [s0,s1,some (.sh (bF t)),some (.sh (bF x)),some (.sh (bF y))]=some (.nx [s0,s1,some (.sh (bF (t + x * y))),some (.sh (bF x)),some (.sh (bF y))]):=by
 have cb:=CB
 have ccb:=LD
 have b1:x.num.natAbs < B:=ltB hx.n
 have b2:y.num.natAbs < B:=ltB hy.n
 have b3:((x.den:Nat):Int).natAbs < B:=by have:=hx.d; omega
 have b4:((y.den:Nat):Int).natAbs < B:=by have:=hy.d; omega
 have e1:=Jp hx.n hy.n
 have e3:=Jp hx.d hy.d
 have n1:(x.num * y.num).natAbs=x.num.natAbs * y.num.natAbs:=Int.natAbs_mul _ _
 have n3:(((x.den:Nat):Int) * ((y.den:Nat):Int)).natAbs=x.den * y.den:=by rw [Int.natAbs_mul,Int.natAbs_natCast,Int.natAbs_natCast]
 have hf:=tm (a:=x.num * y.num) (b:=((x.den:Nat):Int) * ((y.den:Nat):Int)) (by omega) (by omega) (Int.mul_pos (den_pos x) (den_pos y))
 have hd:Rat.divInt (x.num * y.num) (((x.den:Nat):Int) * ((y.den:Nat):Int))=x * y:=by
  rw [<- Rat.divInt_mul_divInt,dB,dB]
 rw [hd] at hf
 have hp:=FV ht hxy
 have m1:aF bq (aF bC (ag 3) (fC (.int 0))) (aF bC (ag 4) (fC (.int 0))) [s0,s1,some (.sh (bF t)),some (.sh (bF x)),some (.sh (bF y))]=some (.int (x.num * y.num),[s0,s1,some (.sh (bF t)),some (.sh (bF x)),some (.sh (bF y))]):=bg (g:=bq) (a:=.int x.num) (b:=.int y.num) (bg rfl rfl rfl) (bg rfl rfl rfl) (oU b1 b2)
 have m2:aF bq (aF bC (ag 3) (fC (.int 1))) (aF bC (ag 4) (fC (.int 1))) [s0,s1,some (.sh (bF t)),some (.sh (bF x)),some (.sh (bF y))]=some (.int (((x.den:Nat):Int) * ((y.den:Nat):Int)),[s0,s1,some (.sh (bF t)),some (.sh (bF x)),some (.sh (bF y))]):=bg (g:=bq) (a:=.int (x.den:Nat)) (b:=.int (y.den:Nat)) (bg rfl rfl rfl) (bg rfl rfl rfl) (oU b3 b4)
 unfold D9
 exact fj (aH [bF t,bF (x * y)] (dy rfl (aH _ (dy m1 m2) hf)) hp) rfl
@[irreducible] def KB:Nat:=2 ^ 90
theorem Jt:1000 * KB < C:=by decide +kernel
theorem GF:DD 4 < C:=by decide +kernel
def U2 (x:Rat):Prop:=Ov (DD 2) (2 ^ 50) x
theorem K2 {x:Rat} (h:U2 x):Sm x:=h.sm (dZ 2) Jr (by decide +kernel)
theorem EE {x y:Rat} (hx:Q2 x) (hy:U2 y):Ov (DD 4) KB (x * y):=by
 have h:=Ov.mul hx hy
 rw [<- oq] at h
 exact h.mono (by unfold KB; decide +kernel)
theorem uB (s0 s1:Option Sl):∀ (r s:List Rat) (t:Rat) (M:Nat) (u v:Option Sl),(∀ x ∈ r,Q2 x) -> (∀ y ∈ s,U2 y) -> Ov (DD 4) (M * KB) t -> M + r.length ≤ 100 ->
  Ov (DD 4) ((M + r.length) * KB) (t + wsum r s) /\ ∃ u' v',ee (cm (aB (aq 3) (aB (aq 4) bO))) D9 ((List.zip r s).map fun p=>T.tup [bF p.1,bF p.2]) [s0,s1,some (.sh (bF t)),u,v]=some (.nx [s0,s1,some (.sh (bF (t + wsum r s))),u',v'])
 | [],s,t,M,u,v,_,_,h,_=>by
  rw [dv,Rat.add_zero]
  exact ⟨h,u,v,rfl⟩
 | x :: r,[],t,M,u,v,_,_,h,_=>by
  rw [eH,Rat.add_zero]
  exact ⟨h.mono (Nat.mul_le_mul_right _ (by omega)),u,v,rfl⟩
 | x :: r,y :: s,t,M,u,v,h1,h2,h3,h4=>by
  rw [List.length_cons] at h4
  have hx:=h1 x List.mem_cons_self
  have hy:=h2 y List.mem_cons_self
  have kb:=Jt
  have hM:M * KB ≤ 500 * KB:=Nat.mul_le_mul_right _ (by omega)
  have hp:=EE hx hy
  have ht1:=h3.add (dZ 4) hp
  rw [show M * KB + KB=(M + 1) * KB by rw [Nat.add_mul,Nat.one_mul]] at ht1
  obtain ⟨g1,u',v',g2⟩:=uB s0 s1 r s (t + x * y) (M + 1) (some (.sh (bF x))) (some (.sh (bF y))) (fun z hz=>h1 z (List.mem_cons_of_mem _ hz)) (fun z hz=>h2 z (List.mem_cons_of_mem _ hz)) ht1 (by omega)
  have hb':=J9 (Gr hx) (K2 hy) (h3.sm (dZ 4) GF (by omega)) (hp.sm (dZ 4) GF (by omega)) s0 s1
  rw [bS,<- Rat.add_assoc,List.length_cons,show M + (r.length + 1)=M + 1 + r.length by omega]
  refine ⟨g1,u',v',?_⟩
  rw [List.zip_cons_cons,List.map_cons,ff (τ1:=[s0,s1,some (.sh (bF t)),some (.sh (bF x)),some (.sh (bF y))]) rfl hb']
  exact g2
abbrev JK:List T -> Option T:=cz 5 2 (fy zE FJ)
theorem Dg (r s:List Rat) (z:List (Option Sl)):gq (aa (ag 0) (aa (ag 1) ai)) (some (.sh (ay r)) :: some (.sh (ay s)) :: z)=some ((List.zip r s).map fun p=>T.tup [bF p.1,bF p.2],some (.sh (ay r)) :: some (.sh (ay s)) :: z):=by
 have e:=dy (f:=ag 0) (g:=ag 1) (τ:=some (.sh (ay r)) :: some (.sh (ay s)) :: z) rfl rfl
 unfold gq
 rw [e]
 show some (ji (r.map bF) (s.map bF),_)=_
 rw [kf]
theorem K6 {r s:List Rat} (hr:∀ x ∈ r,Q2 x) (hl:r.length ≤ 100) (hs:∀ y ∈ s,U2 y):Ov (DD 4) (100 * KB) (wsum r s):=by
 have z:=(uB none none r s 0 0 none none hr hs ((Ov.zero _).mono (Nat.zero_le _)) (by omega)).1
 rw [Rat.zero_add,Nat.zero_add] at z
 exact z.mono (Nat.mul_le_mul_right _ hl)
theorem JP {r s:List Rat} (hr:∀ x ∈ r,Q2 x) (hl:r.length ≤ 100) (hs:∀ y ∈ s,U2 y):JK [ay r,ay s]=some (bF (wsum r s)):=by
 obtain ⟨_,u,v,e⟩:=uB (some (.sh (ay r))) (some (.sh (ay s))) r s 0 0 none none hr hs ((Ov.zero _).mono (Nat.zero_le _)) (by omega)
 rw [Rat.zero_add] at e
 have s1:bK 2 (dR (aa (fC (.int 0)) (aa (fC (.int 1)) ai))) [some (.sh (ay r)),some (.sh (ay s)),none,none,none]=some (.nx [some (.sh (ay r)),some (.sh (ay s)),some (.sh (bF 0)),none,none]):=fj (K1 0 1 _) rfl
 refine cL rfl ?_
 show fy zE FJ [some (.sh (ay r)),some (.sh (ay s)),none,none,none]=_
 unfold fy
 rw [aW s1]
 show aO (iU (gq (aa (ag 0) (aa (ag 1) ai))) (cm (aB (aq 3) (aB (aq 4) bO))) D9) _ _=_
 rw [aW (qR (Dg r s _) e)]
 rfl
abbrev Jf:List T -> Option T:=cz 2 2 (iP JK)
theorem sk {m w:Nat} {A:List (List Rat)} {s:List Rat} (hA:Tq m w A) (hm:m ≤ 100) (hw:w ≤ 100) (hs:∀ y ∈ s,U2 y):Jf [ao A,ay s]=some (ay (aX A s)):=by
 have hc:=cn (φ:=ay) (fe:=ak JK (aa (ag 0) (aa (ag 1) ai))) (g:=fun r=>bF (wsum r s)) (ρ:=[some (.sh (ay s))]) rfl A none [] (fun r hr=>aH [ay r,ay s] rfl (JP (hA.q r hr) (by rw [hA.wd r hr]; exact hw) hs)) (dQ (by rw [hA.len]; exact hm))
 have e:=cv (no:=1) (cap:=[1]) (fi:=bI (ag 0)) (fg:=aq 0) (ft:=aL) (τ:=[some (.sh (ao A)),some (.sh (ay s))]) (h1:=rfl) rfl rfl hc
 refine cL rfl ?_
 show iP JK [some (.sh (ao A)),some (.sh (ay s))]=_
 unfold iP
 rw [dX e,List.nil_append]
 unfold ay aX
 rw [List.map_map]
 rfl
theorem Aj:∀ (x y:List Rat),(List.zip x y).map (fun p=>bF (p.1 + p.2))=(List.zipWith (· + ·) x y).map bF
 | [],_=>rfl
 | _ :: _,[]=>rfl
 | a :: x,b :: y=>by
  rw [List.zip_cons_cons,List.map_cons,List.zipWith_cons_cons,List.map_cons,Aj x y]
abbrev Je:List T -> Option T:=cz 2 2 (gz FJ)
theorem JM {x y:List Rat} (hl:x.length ≤ 100) (hx:∀ z ∈ x,Sm z) (hy:∀ z ∈ y,Sm z):Je [ay x,ay y]=some (ay (bZ x y)):=by
 have hc:=iH (φ:=fun p:Rat × Rat=>bF p.1) (ψ:=fun p=>bF p.2) (fe:=ak FJ (aa (ag 0) (aa (ag 1) ai))) (g:=fun p=>bF (p.1 + p.2)) (ρ:=[]) rfl (List.zip x y) none none [] (fun p hp=>aH [bF p.1,bF p.2] rfl (FV (hx _ (dm hp).1) (hy _ (dm hp).2))) (dQ (by rw [List.length_zip]; omega))
 rw [List.nil_append] at hc
 have e:=cv (no:=2) (cap:=[]) (fg:=vj) (ft:=aL) (Dg x y []) rfl rfl hc
 refine cL rfl ?_
 show gz FJ [some (.sh (ay x)),some (.sh (ay y))]=_
 unfold gz
 rw [dX e]
 unfold ay bZ
 rw [Aj]
theorem Bo {m w:Nat} {A:List (List Rat)} {s:List Rat} (hA:Tq m w A) (hw:w ≤ 100) (hs:∀ y ∈ s,U2 y):∀ z ∈ aX A s,Sm z:=by
 intro z hz
 unfold aX at hz
 obtain ⟨r,hr,rfl⟩:=List.mem_map.mp hz
 have kb:=Jt
 exact (K6 (hA.q r hr) (by rw [hA.wd r hr]; exact hw) hs).sm (dZ 4) GF (by omega)
abbrev Az:List T -> Option T:=cz 8 3 (hW Jf Je)
abbrev kI (A B C D:List (List Rat)) (x g:List Rat):T:=.lst [ay (bZ (aX C x) (aX D g)),ay (bZ (aX A x) (aX B g))]
theorem oP {a b:T}:[a,b].length ≤ 1000:=by rw [List.length_cons,List.length_cons,List.length_nil]; omega
theorem uX {n a b:Nat} {X Y:List (List Rat)} {x g:List Rat} (hX:Tq n a X) (hY:Tq n b Y) (hn:n ≤ 100) (ha:a ≤ 100) (hb:b ≤ 100) (hx:∀ y ∈ x,U2 y) (hg:∀ y ∈ g,U2 y):Je [ay (aX X x),ay (aX Y g)]=some (ay (bZ (aX X x) (aX Y g))):=
 JM (by rw [bE,hX.len]; exact hn) (Bo hX ha hx) (Bo hY hb hg)
theorem va {m i o:Nat} {A B C D:List (List Rat)} (h:Sq m i o A B C D) (hm:m ≤ 8) (hi:i ≤ 2) (ho:o ≤ 2) {x g:List Rat} (hx:∀ y ∈ x,U2 y) (hg:∀ y ∈ g,U2 y) (t:T) (ht:t=aM A B C D \/ t=.tup [ao A,ao B,ao C,ao D]):Az [t,ay x,ay g]=some (kI A B C D x g):=by
 have l1:=sk h.a (by omega) (by omega) hx
 have l2:=sk h.b (by omega) (by omega) hg
 have l3:=sk h.c (by omega) (by omega) hx
 have l4:=sk h.d (by omega) (by omega) hg
 have a1:=uX h.c h.d (by omega) (by omega) (by omega) hx hg
 have a2:=uX h.a h.b (by omega) (by omega) (by omega) hx hg
 have s1:dY (ag 0) (kE (aB (aq 3) (aB (aq 4) (aB (aq 5) (aB (aq 6) bO))))) [some (.sh t),some (.sh (ay x)),some (.sh (ay g)),none,none,none,none,none]=some (.nx [some (.sh t),some (.sh (ay x)),some (.sh (ay g)),some (.sh (ao A)),some (.sh (ao B)),some (.sh (ao C)),some (.sh (ao D)),none]):=by
  rcases ht with rfl | rfl
  ·exact jj (t:=aM A B C D) rfl rfl
  ·exact jj (t:=.tup [ao A,ao B,ao C,ao D]) rfl rfl
 have s2:bK 7 (ak Je (aa (ak Jf (aa (ag 5) (aa (ag 1) ai))) (aa (ak Jf (aa (ag 6) (aa (ag 2) ai))) ai))) [some (.sh t),some (.sh (ay x)),some (.sh (ay g)),some (.sh (ao A)),some (.sh (ao B)),some (.sh (ao C)),some (.sh (ao D)),none]=some (.nx [some (.sh t),some (.sh (ay x)),some (.sh (ay g)),some (.sh (ao A)),some (.sh (ao B)),some (.sh (ao C)),some (.sh (ao D)),some (.sh (ay (bZ (aX C x) (aX D g))))]):=
  fj (aH [ay (aX C x),ay (aX D g)] (dy (aH [ao C,ay x] rfl l3) (aH [ao D,ay g] rfl l4)) a1) rfl
 refine cL rfl ?_
 show hW Jf Je [some (.sh t),some (.sh (ay x)),some (.sh (ay g)),none,none,none,none,none]=_
 unfold hW
 rw [aW s1,aW s2]
 exact dX (gO (dy rfl (aH [ay (aX A x),ay (aX B g)] (dy (aH [ao A,ay x] rfl l1) (aH [ao B,ay g] rfl l2)) a2)) oP)
open PySem PySem.Spec PyProof.Rows L2 TM Qm Rq
theorem jZ {i:Nat} {g:FA} {τ τ':aJ} {ts:List T} (h:g τ=some (ts,τ')) (hl:ts.length ≤ 1000):cH i g τ=some (.nx (τ'.set i (some (.own ts)))):=by
 unfold cH
 rw [h,Option.bind_some]
 exact if_pos (cg hl)
theorem Cn {g:T -> T -> Option T} {fa fb:FE} {τ τ1 τ2:aJ} {a b t:T} (h1:fa τ=some (a,τ1)) (h2:fb τ1=some (b,τ2)) (h:g a b=some t):aF g fa fb τ=some (t,τ2):=by
 unfold aF
 rw [h1,Option.bind_some]
 dsimp only
 rw [h2,Option.bind_some]
 dsimp only
 rw [h]
 rfl
def un (j k:Nat):Rat:=if j=k then 1 else 0
def Ds (m k:Nat):List Rat:=(List.range m).map fun j=>un j k
def ek (m:Nat):List (List Rat):=List.replicate m 0 :: (List.range m).map (Ds m)
def C8:FE:=dg 1 [2] (cS (aa (ag 0) ai)) (aq 0) aL (dR (aa (ak nu (aa (aF fX (ag 0) (ag 1)) ai)) (aa (fC (.int 1)) ai)))
theorem MB (j k:Nat):dR (aa (ak nu (aa (aF fX (ag 0) (ag 1)) ai)) (aa (fC (.int 1)) ai)) [some (.sh (.int (j:Nat))),some (.sh (.int (k:Nat)))]=some (bF (un j k),[some (.sh (.int (j:Nat))),some (.sh (.int (k:Nat)))]):=by
 have h1:ak nu (aa (aF fX (ag 0) (ag 1)) ai) [some (.sh (.int (j:Nat))),some (.sh (.int (k:Nat)))]=some (.int (if decide (j=k) then 1 else 0),[some (.sh (.int (j:Nat))),some (.sh (.int (k:Nat)))]):=aH [.bl (decide (j=k))] (eL (bg (g:=fX) rfl rfl (xa j k))) rfl
 unfold dR
 rw [dy h1 (g:=fC (.int 1)) rfl,Option.bind_some]
 refine (if_pos J6).trans ?_
 unfold un
 by_cases h:j=k
 ·rw [if_pos h,if_pos (decide_eq_true h)]
  rfl
 ·rw [if_neg h,decide_eq_false h,if_neg Bool.false_ne_true]
  rfl
theorem K3 {m k:Nat} (hm:m ≤ 100) (s1:Option Sl):C8 [some (.sh (.int (m:Nat))),s1,some (.sh (.int (k:Nat)))]=some (ay (Ds m k),[some (.sh (.int (m:Nat))),s1,some (.sh (.int (k:Nat)))]):=by
 have hc:=cn (φ:=fun j:Nat=>T.int (j:Nat)) (fe:=dR (aa (ak nu (aa (aF fX (ag 0) (ag 1)) ai)) (aa (fC (.int 1)) ai))) (g:=fun j=>bF (un j k)) (ρ:=[some (.sh (.int (k:Nat)))]) rfl (List.range m) none [] (fun j _=>MB j k) (dQ (by rw [List.length_range]; exact hm))
 have e:=cv (no:=1) (cap:=[2]) (fi:=cS (aa (ag 0) ai)) (fg:=aq 0) (ft:=aL) (τ:=[some (.sh (.int (m:Nat))),s1,some (.sh (.int (k:Nat)))]) (kn (f:=ag 0) (n:=m) rfl (by omega)) rfl rfl hc
 unfold C8
 rw [e,List.nil_append]
 unfold ay Ds
 rw [List.map_map]
 rfl
theorem Ac {m:Nat} (hm:m ≤ 100):∀ (n lo:Nat) (acc:List T) (s:Option Sl),acc.length + n ≤ 1000 -> ∃ s',ee (aq 2) (lL 1 C8) ((List.range' lo n).map fun (k:Nat)=>T.int (k:Nat)) [some (.sh (.int (m:Nat))),some (.own acc),s]=some (.nx [some (.sh (.int (m:Nat))),some (.own (acc ++ (List.range' lo n).map fun k=>ay (Ds m k))),s'])
 | 0,lo,acc,s,_=>⟨s,by rw [show List.range' lo 0=[] from rfl,List.map_nil,List.map_nil,List.append_nil]; rfl⟩
 | n + 1,lo,acc,s,h=>by
  have hb:lL 1 C8 [some (.sh (.int (m:Nat))),some (.own acc),some (.sh (.int (lo:Nat)))]=some (.nx [some (.sh (.int (m:Nat))),some (.own (acc ++ [ay (Ds m lo)])),some (.sh (.int (lo:Nat)))]):=Ft (ts:=acc) rfl (K3 hm _) (Nat.lt_of_lt_of_le (by omega:acc.length < 1000) (cg (Nat.le_refl _)))
  obtain ⟨s',ih⟩:=Ac hm n (lo + 1) (acc ++ [ay (Ds m lo)]) (some (.sh (.int (lo:Nat)))) (by rw [List.length_append,List.length_singleton]; omega)
  refine ⟨s',?_⟩
  rw [List.range'_succ,List.map_cons,ff (τ1:=[some (.sh (.int (m:Nat))),some (.own acc),some (.sh (.int (lo:Nat)))]) rfl hb,ih,List.map_cons,List.append_assoc]
  rfl
abbrev FR:List T -> Option T:=cz 3 1 gC
theorem yX {m:Nat} (hm:m ≤ 8):FR [.int (m:Nat)]=some (ao (ek m)):=by
 obtain ⟨s',e⟩:=Ac (m:=m) (by omega) m 0 [ay (List.replicate m 0)] none (by rw [List.length_singleton]; omega)
 have hr:=kn (f:=ag 0) (τ:=[some (.sh (.int (m:Nat))),some (.own [ay (List.replicate m 0)]),none]) (n:=m) rfl (by omega)
 rw [List.range_eq_range'] at hr
 have h0:aF vi (cR (aa (dR (aa (fC (.int 0)) (aa (fC (.int 1)) ai))) ai)) (ag 0) [some (.sh (.int (m:Nat))),none,none]=some (ay (List.replicate m 0),[some (.sh (.int (m:Nat))),none,none]):=bg (g:=vi) (HB (K1 0 1 _)) rfl (Hg hm)
 have s1:cH 1 (aa (aF vi (cR (aa (dR (aa (fC (.int 0)) (aa (fC (.int 1)) ai))) ai)) (ag 0)) ai) [some (.sh (.int (m:Nat))),none,none]=some (.nx [some (.sh (.int (m:Nat))),some (.own [ay (List.replicate m 0)]),none]):=jZ (eL h0) (by rw [List.length_singleton]; omega)
 refine cL rfl ?_
 show gC [some (.sh (.int (m:Nat))),none,none]=_
 unfold gC
 rw [aW s1]
 show aO (iU (cS (aa (ag 0) ai)) (aq 2) (lL 1 C8)) _ _=_
 rw [aW (qR hr e)]
 show some (R.rt (T.lst ([ay (List.replicate m 0)] ++ (List.range' 0 m).map fun k=>ay (Ds m k))))=some (R.rt (T.lst ((ek m).map ay)))
 unfold ek
 rw [List.map_cons,List.map_map,List.range_eq_range']
 rfl
def Z1 (x:Rat):Prop:=x=0 \/ x=1
theorem yq (n:Nat):∀ x ∈ List.replicate n (0:Rat),Z1 x:=fun x hx=>.inl (List.mem_replicate.mp hx).2
theorem K8 (m k:Nat):∀ x ∈ Ds m k,Z1 x:=fun x hx=>by
 unfold Ds at hx
 obtain ⟨j,_,rfl⟩:=List.mem_map.mp hx
 show un j k=0 \/ un j k=1
 unfold un
 by_cases h:j=k
 ·rw [if_pos h]; exact .inr rfl
 ·rw [if_neg h]; exact .inl rfl
theorem Ad {m:Nat}:∀ r ∈ ek m,r.length=m /\ ∀ x ∈ r,Z1 x:=fun r hr=>by
 unfold ek at hr
 rcases List.mem_cons.mp hr with rfl | hr
 ·exact ⟨List.length_replicate,yq m⟩
 ·obtain ⟨k,_,rfl⟩:=List.mem_map.mp hr
  exact ⟨by unfold Ds; rw [List.length_map,List.length_range],K8 m k⟩
theorem mf {x:Rat} (h:Z1 x):U2 x:=by
 rcases h with rfl | rfl
 ·exact (Ov.zero _).mono (Nat.zero_le _)
 ·exact (Ov.lq (k:=2) (m:=1) ⟨DD 2,by rw [Rat.divInt_self' (qO 2)],by rw [Int.natAbs_natCast,Nat.one_mul]; exact Nat.le_refl _⟩).mono (by decide +kernel)
def kN (m i:Nat):List (List Rat × List Rat):=(ek m).map (fun s=>(s,List.replicate i 0)) ++ (ek i).map fun g=>(List.replicate m 0,g)
theorem fT {m i:Nat}:∀ p ∈ kN m i,(p.1.length=m /\ ∀ x ∈ p.1,Z1 x) /\ (p.2.length=i /\ ∀ x ∈ p.2,Z1 x):=fun p hp=>by
 unfold kN at hp
 rcases List.mem_append.mp hp with hp | hp
 ·obtain ⟨s,hs,rfl⟩:=List.mem_map.mp hp
  exact ⟨Ad s hs,List.length_replicate,yq i⟩
 ·obtain ⟨g,hg,rfl⟩:=List.mem_map.mp hp
  exact ⟨⟨List.length_replicate,yq m⟩,Ad g hg⟩
def Fy (p:List Rat × List Rat):T:=.tup [ay p.1,ay p.2]
theorem C5 {f g:FE} {τ:aJ} {t u:T} (h:f τ=some (t,τ)) (h':g τ=some (u,τ)):dR (aa f (aa g ai)) τ=some (.tup [t,u],τ):=by
 unfold dR
 rw [dy h h',Option.bind_some]
 exact if_pos J6
theorem CP {f:FE} {τ:aJ} {A:List (List Rat)} (h:f τ=some (ao A,τ)):bI f τ=some (A.map ay,τ):=by
 unfold bI
 rw [h]
 rfl
abbrev FC:List T -> Option T:=cz 3 2 (gA FR)
theorem pQ (m:Nat):(ek m).length=m + 1:=by unfold ek; rw [List.length_cons,List.length_map,List.length_range]
theorem vG (m:Nat):bC (ao (ek m)) (.int 0)=some (ay (List.replicate m 0)):=xG (A:=ek m) (i:=0) (by rw [pQ]; omega)
theorem JN {m i:Nat} (hm:m ≤ 8) (hi:i ≤ 8):FC [.int (m:Nat),.int (i:Nat)]=some (.lst ((kN m i).map Fy)):=by
 have c1:=cn (φ:=ay) (fe:=dR (aa (ag 0) (aa (aF bC (ak FR (aa (ag 1) ai)) (fC (.int 0))) ai))) (g:=fun s=>Fy (s,List.replicate i 0)) (ρ:=[some (.sh (.int (i:Nat)))]) rfl (ek m) none [] (fun s _=>C5 (t:=ay s) rfl (bg (aH [.int (i:Nat)] rfl (yX hi)) rfl (vG i))) (dQ (by rw [pQ]; omega))
 have e1:=ve (i:=2) (no:=1) (cap:=[1]) (fi:=bI (ak FR (aa (ag 0) ai))) (fg:=aq 0) (ft:=aL) (τ:=[some (.sh (.int (m:Nat))),some (.sh (.int (i:Nat))),none]) (ts:=(ek m).map ay) (CP (aH [.int (m:Nat)] rfl (yX hm))) rfl rfl c1
 have c2:=cn (φ:=ay) (fe:=dR (aa (aF bC (ak FR (aa (ag 1) ai)) (fC (.int 0))) (aa (ag 0) ai))) (g:=fun s=>Fy (List.replicate m 0,s)) (ρ:=[some (.sh (.int (m:Nat)))]) rfl (ek i) none [] (fun s _=>C5 (bg (aH [.int (m:Nat)] rfl (yX hm)) rfl (vG m)) (u:=ay s) rfl) (dQ (by rw [pQ]; omega))
 have e2:=cv (no:=1) (cap:=[0]) (fi:=bI (ak FR (aa (ag 1) ai))) (fg:=aq 0) (ft:=aL) (τ:=[some (.sh (.int (m:Nat))),some (.sh (.int (i:Nat))),some (.sh (.lst ((ek m).map fun s=>Fy (s,List.replicate i 0))))]) (ts:=(ek i).map ay) (CP (aH [.int (i:Nat)] rfl (yX hi))) rfl rfl c2
 rw [List.nil_append] at e1 e2
 refine cL rfl ?_
 show gA FR [some (.sh (.int (m:Nat))),some (.sh (.int (i:Nat))),none]=_
 unfold gA
 rw [aW e1]
 rw [dX (Cn (g:=bJ) (a:=.lst ((ek m).map fun s=>Fy (s,List.replicate i 0))) rfl e2 (jH (by rw [List.length_map,List.length_map,pQ,pQ]; exact cg (by omega))))]
 unfold kN
 rw [List.map_append,List.map_map,List.map_map]
 rfl
open PySem PySem.Spec PyProof.Rows L2 TM Qm Rq
theorem yB {P Q R:Rat -> Prop}:∀ {x y:List Rat},(∀ a ∈ x,P a) -> (∀ b ∈ y,Q b) -> (∀ a b,P a -> Q b -> R (a + b)) -> ∀ z ∈ bZ x y,R z
 | [],y,_,_,_,z,hz=>by
  unfold bZ at hz
  rw [List.zipWith_nil_left] at hz
  cases hz
 | a :: x,[],_,_,_,z,hz=>by
  unfold bZ at hz
  rw [List.zipWith_nil_right] at hz
  cases hz
 | a :: x,b :: y,h1,h2,h3,z,hz=>by
  have hz':z ∈ (a + b) :: bZ x y:=hz
  rcases List.mem_cons.mp hz' with rfl | hz'
  ·exact h3 a b (h1 a List.mem_cons_self) (h2 b List.mem_cons_self)
  ·exact yB (fun z hz=>h1 z (List.mem_cons_of_mem _ hz)) (fun z hz=>h2 z (List.mem_cons_of_mem _ hz)) h3 z hz'
theorem K7 {x:Rat} (h:Z1 x):Ov 1 1 x:=by
 rcases h with rfl | rfl
 ·exact (Ov.zero _).mono (Nat.zero_le _)
 ·exact ⟨1,rfl,by decide⟩
theorem Bn {m w:Nat} {A:List (List Rat)} {s:List Rat} (hA:Tq m w A) (hw:w ≤ 8) (hs:∀ y ∈ s,Z1 y):∀ z ∈ aX A s,Ov (DD 2) (2 ^ 44) z:=by
 intro z hz
 unfold aX at hz
 obtain ⟨r,hr,rfl⟩:=List.mem_map.mp hz
 have h:=uC (dZ 2) Nat.one_pos (hA.q r hr) fun y hy=>K7 (hs y hy)
 rw [Nat.mul_one,hA.wd r hr] at h
 exact h.mono (Nat.le_trans (Nat.mul_le_mul_right _ hw) (by decide +kernel))
theorem HM {n a b:Nat} {X Y:List (List Rat)} {x g:List Rat} (hX:Tq n a X) (hY:Tq n b Y) (ha:a ≤ 8) (hb:b ≤ 8) (hx:∀ y ∈ x,Z1 y) (hg:∀ y ∈ g,Z1 y):∀ z ∈ bZ (aX X x) (aX Y g),U2 z:=
 yB (Bn hX ha hx) (Bn hY hb hg) fun _ _ p q=>(p.add (dZ 2) q).mono (by decide +kernel)
theorem rV (xs:List Rat) (a:Nat) (h:a ≤ xs.length):Bj (ay xs) none (some (a:Nat))=some (ay (xs.take a)):=by
 show some (T.lst (oG (xs.map bF) none (some (a:Nat))))=_
 unfold oG
 rw [HT.n9,HT.wg,List.length_map,Nat.min_eq_left h,List.drop_zero,Nat.sub_zero,<- List.map_take]
 rfl
abbrev Fz:List T -> Option T:=cz 10 5 (fV Az)
def JE:FS:=bK 5 (ak cM (aa (aF bC (ag 1) (fC (.int 0))) ai))
abbrev IJ (a b:Nat):FG:=kE (aB (aq a) (aB (aq b) bO))
def JA:FS:=dY (ak Az (aa (ag 1) (aa (ly (ag 3) bY (cQ (ag 5))) (aa (ag 4) ai)))) (IJ 6 7)
def JB:FS:=dY (ak Az (aa (ag 2) (aa (ly (ag 3) (cQ (ag 5)) bY) (aa (ag 6) ai)))) (IJ 8 9)
def JC:FS:=dY (ak Az (aa (ag 1) (aa (ly (ag 3) bY (cQ (ag 5))) (aa (ly (ag 4) bY (cQ (fC (.int 1)))) ai)))) (IJ 6 7)
def JD:FS:=dY (ak Az (aa (ag 2) (aa (ly (ag 3) (cQ (ag 5)) bY) (aa (ly (ag 4) (cQ (fC (.int 1))) bY) ai)))) (IJ 8 9)
def LP:FT:=dJ (aF fX (ag 0) (fC (.int 0)))
theorem yG:fV Az=aO JE (aO (bG LP (aO JA (aO JB (bz (cR (aa (ag 8) (aa (aF bJ (ag 7) (ag 9)) ai)))))) bp) (aO JC (aO JD (bz (cR (aa (aF bJ (ag 6) (ag 8)) (aa (aF bJ (ag 7) (ag 9)) ai)))))) ):=rfl
theorem kP {c:FT} {s u:FS} {τ τ':aJ} (h:c τ=some (true,τ')):bG c s u τ=s τ':=by
 unfold bG
 rw [h]
 rfl
theorem IB {t u:FS} {τ:aJ} {x:T} (h:t τ=some (.rt x)):aO t u τ=some (.rt x):=by
 unfold aO
 rw [h]
 rfl
section
variable {m1 i1 o1 m2 o2:Nat} {A1 B1 C1 D1 A2 B2 C2 D2:List (List Rat)}
abbrev Au (w:Int) (O1 O2:T) (s g:List Rat) (m:Nat) (r:List (Option Sl)):aJ:=some (.sh (.int w)) :: some (.sh O1) :: some (.sh O2) :: some (.sh (ay s)) :: some (.sh (ay g)) :: some (.sh (.int (m:Nat))) :: r
theorem Fv (w:Int) (O2:T) (s g:List Rat):JE [some (.sh (.int w)),some (.sh (aM A1 B1 C1 D1)),some (.sh O2),some (.sh (ay s)),some (.sh (ay g)),none,none,none,none,none]=some (.nx (Au w (aM A1 B1 C1 D1) O2 s g A1.length [none,none,none,none])):=
 fj (aH [ao A1] (eL (bg (a:=aM A1 B1 C1 D1) rfl rfl rfl)) (len_tab A1)) rfl
theorem G2 (h1:cE m1 i1 o1 A1 B1 C1 D1) (h2:cE m2 o1 o2 A2 B2 C2 D2) (hm1:m1 ≤ 8) (hm2:m2 ≤ 8) (hi:i1 ≤ 2) (ho:o1 ≤ 2) (ho2:o2 ≤ 2) {s g:List Rat} (hs:s.length=m1 + m2) (hz:∀ x ∈ s,Z1 x) (hg:∀ x ∈ g,Z1 x) (hgl:g.length=i1) :
  Fz [.int 0,aM A1 B1 C1 D1,aM A2 B2 C2 D2,ay s,ay g]=some (kI (Hl A1 C1 A2 B2 m1 m2) (Hm B1 D1 B2 i1) (Gg C1 C2 D2 m1) (Hn D1 D2 i1) s g):=by
 have e:s.take m1 ++ s.drop m1=s:=List.take_append_drop m1 s
 have l1:(s.take m1).length=m1:=by rw [List.length_take]; omega
 have l2:(s.drop m1).length=m2:=by rw [List.length_drop]; omega
 have z1:∀ x ∈ s.take m1,Z1 x:=fun x hx=>hz x (List.mem_of_mem_take hx)
 have z2:∀ x ∈ s.drop m1,Z1 x:=fun x hx=>hz x (List.mem_of_mem_drop hx)
 have q1:=ER h1 h2 l1 l2 hgl
 have q2:=EO h1 h2 l1 l2 hgl
 rw [e] at q1 q2
 unfold kI
 rw [q1,q2]
 have c1:Bj (ay s) none (some (m1:Nat))=some (ay (s.take m1)):=rV s m1 (by omega)
 have c2:Bj (ay s) (some (m1:Nat)) none=some (ay (s.drop m1)):=km s m1 (by omega)
 generalize s.take m1=x at *
 generalize s.drop m1=y at *
 have t1:=va h1.sq hm1 hi ho (x:=x) (g:=g) (fun v hv=>mf (z1 v hv)) (fun v hv=>mf (hg v hv)) (aM A1 B1 C1 D1) (.inl rfl)
 have u:=HM h1.c.tq h1.d.tq (by omega) (by omega) z1 hg
 have t2:=va h2.sq hm2 ho ho2 (x:=y) (g:=bZ (aX C1 x) (aX D1 g)) (fun v hv=>mf (z2 v hv)) u (aM A2 B2 C2 D2) (.inl rfl)
 have n1:(bZ (aX A1 x) (aX B1 g)).length=m1:=by rw [ki (by rw [bE,bE,h1.a.len,h1.b.len]),bE,h1.a.len]
 have n2:(bZ (aX A2 y) (aX B2 (bZ (aX C1 x) (aX D1 g)))).length=m2:=by rw [ki (by rw [bE,bE,h2.a.len,h2.b.len]),bE,h2.a.len]
 unfold kI at t1 t2
 generalize bZ (aX C1 x) (aX D1 g)=out at *
 generalize bZ (aX A1 x) (aX B1 g)=en at *
 generalize bZ (aX A2 y) (aX B2 out)=be at *
 generalize bZ (aX C2 y) (aX D2 out)=la at *
 have s1:=Fv (A1:=A1) (B1:=B1) (C1:=C1) (D1:=D1) 0 (aM A2 B2 C2 D2) s g
 rw [h1.a.len] at s1
 have s2:JA (Au 0 (aM A1 B1 C1 D1) (aM A2 B2 C2 D2) s g m1 [none,none,none,none])=some (.nx (Au 0 (aM A1 B1 C1 D1) (aM A2 B2 C2 D2) s g m1 [some (.sh (ay out)),some (.sh (ay en)),none,none])):=jj (aH _ (gy (t:=aM A1 B1 C1 D1) rfl (nL (a:=ay s) rfl rfl (fO rfl) c1) (v:=ay g) rfl) t1) rfl
 have s3:JB (Au 0 (aM A1 B1 C1 D1) (aM A2 B2 C2 D2) s g m1 [some (.sh (ay out)),some (.sh (ay en)),none,none])=some (.nx (Au 0 (aM A1 B1 C1 D1) (aM A2 B2 C2 D2) s g m1 [some (.sh (ay out)),some (.sh (ay en)),some (.sh (ay la)),some (.sh (ay be))])):=jj (aH _ (gy (t:=aM A2 B2 C2 D2) rfl (nL (a:=ay s) rfl (fO rfl) rfl c2) (v:=ay out) rfl) t2) rfl
 have s4:LP (Au 0 (aM A1 B1 C1 D1) (aM A2 B2 C2 D2) s g m1 [none,none,none,none])=some (true,Au 0 (aM A1 B1 C1 D1) (aM A2 B2 C2 D2) s g m1 [none,none,none,none]):=rfl
 refine cL rfl ?_
 show fV Az [some (.sh (.int 0)),some (.sh (aM A1 B1 C1 D1)),some (.sh (aM A2 B2 C2 D2)),some (.sh (ay s)),some (.sh (ay g)),none,none,none,none,none]=_
 rw [yG,aW s1]
 refine IB ?_
 rw [kP s4,aW s2,aW s3]
 exact dX (gO (dy (t:=ay la) rfl (bg (g:=bJ) (a:=ay en) (b:=ay be) rfl rfl (nM (by omega)))) oP)
theorem G3 (h1:cE m1 1 1 A1 B1 C1 D1) (h2:cE m2 1 1 A2 B2 C2 D2) (hm1:m1 ≤ 8) (hm2:m2 ≤ 8) {s g:List Rat} (hs:s.length=m1 + m2) (hz:∀ x ∈ s,Z1 x) (hg:∀ x ∈ g,Z1 x) (hgl:g.length=2) :
  Fz [.int 1,aM A1 B1 C1 D1,aM A2 B2 C2 D2,ay s,ay g]=some (kI (gJ A1 A2 m1 m2) (gJ B1 B2 1 1) (gJ C1 C2 m1 m2) (gJ D1 D2 1 1) s g):=by
 have e:s.take m1 ++ s.drop m1=s:=List.take_append_drop m1 s
 have l1:(s.take m1).length=m1:=by rw [List.length_take]; omega
 have l2:(s.drop m1).length=m2:=by rw [List.length_drop]; omega
 have z1:∀ x ∈ s.take m1,Z1 x:=fun x hx=>hz x (List.mem_of_mem_take hx)
 have z2:∀ x ∈ s.drop m1,Z1 x:=fun x hx=>hz x (List.mem_of_mem_drop hx)
 have e':g.take 1 ++ g.drop 1=g:=List.take_append_drop 1 g
 have k1:(g.take 1).length=1:=by rw [List.length_take]; omega
 have k2:(g.drop 1).length=1:=by rw [List.length_drop]; omega
 have y1:∀ x ∈ g.take 1,Z1 x:=fun x hx=>hg x (List.mem_of_mem_take hx)
 have y2:∀ x ∈ g.drop 1,Z1 x:=fun x hx=>hg x (List.mem_of_mem_drop hx)
 have q1:=rD h1.a.tq h2.a.tq l1 l2
 have q2:=rD h1.b.tq h2.b.tq k1 k2
 have q3:=rD h1.c.tq h2.c.tq l1 l2
 have q4:=rD h1.d.tq h2.d.tq k1 k2
 rw [e] at q1 q3
 rw [e'] at q2 q4
 unfold kI
 rw [q1,q2,q3,q4,lG _ _ _ _ (by rw [bE,bE,h1.c.len,h1.d.len]),lG _ _ _ _ (by rw [bE,bE,h1.a.len,h1.b.len])]
 have c1:Bj (ay s) none (some (m1:Nat))=some (ay (s.take m1)):=rV s m1 (by omega)
 have c2:Bj (ay s) (some (m1:Nat)) none=some (ay (s.drop m1)):=km s m1 (by omega)
 have c3:Bj (ay g) none (some 1)=some (ay (g.take 1)):=rV g 1 (by omega)
 have c4:Bj (ay g) (some 1) none=some (ay (g.drop 1)):=km g 1 (by omega)
 generalize s.take m1=x at *
 generalize s.drop m1=y at *
 generalize g.take 1=p at *
 generalize g.drop 1=q at *
 have t1:=va h1.sq hm1 (by decide) (by decide) (x:=x) (g:=p) (fun v hv=>mf (z1 v hv)) (fun v hv=>mf (y1 v hv)) (aM A1 B1 C1 D1) (.inl rfl)
 have t2:=va h2.sq hm2 (by decide) (by decide) (x:=y) (g:=q) (fun v hv=>mf (z2 v hv)) (fun v hv=>mf (y2 v hv)) (aM A2 B2 C2 D2) (.inl rfl)
 have n1:(bZ (aX A1 x) (aX B1 p)).length=m1:=by rw [ki (by rw [bE,bE,h1.a.len,h1.b.len]),bE,h1.a.len]
 have n2:(bZ (aX A2 y) (aX B2 q)).length=m2:=by rw [ki (by rw [bE,bE,h2.a.len,h2.b.len]),bE,h2.a.len]
 have n3:(bZ (aX C1 x) (aX D1 p)).length=1:=by rw [ki (by rw [bE,bE,h1.c.len,h1.d.len]),bE,h1.c.len]
 have n4:(bZ (aX C2 y) (aX D2 q)).length=1:=by rw [ki (by rw [bE,bE,h2.c.len,h2.d.len]),bE,h2.c.len]
 unfold kI at t1 t2
 generalize bZ (aX C1 x) (aX D1 p)=out at *
 generalize bZ (aX A1 x) (aX B1 p)=en at *
 generalize bZ (aX A2 y) (aX B2 q)=be at *
 generalize bZ (aX C2 y) (aX D2 q)=la at *
 have s1:=Fv (A1:=A1) (B1:=B1) (C1:=C1) (D1:=D1) 1 (aM A2 B2 C2 D2) s g
 rw [h1.a.len] at s1
 have s2:JC (Au 1 (aM A1 B1 C1 D1) (aM A2 B2 C2 D2) s g m1 [none,none,none,none])=some (.nx (Au 1 (aM A1 B1 C1 D1) (aM A2 B2 C2 D2) s g m1 [some (.sh (ay out)),some (.sh (ay en)),none,none])):=jj (aH _ (gy (t:=aM A1 B1 C1 D1) rfl (nL (a:=ay s) rfl rfl (fO rfl) c1) (nL (a:=ay g) rfl rfl (fO (k:=1) rfl) c3)) t1) rfl
 have s3:JD (Au 1 (aM A1 B1 C1 D1) (aM A2 B2 C2 D2) s g m1 [some (.sh (ay out)),some (.sh (ay en)),none,none])=some (.nx (Au 1 (aM A1 B1 C1 D1) (aM A2 B2 C2 D2) s g m1 [some (.sh (ay out)),some (.sh (ay en)),some (.sh (ay la)),some (.sh (ay be))])):=jj (aH _ (gy (t:=aM A2 B2 C2 D2) rfl (nL (a:=ay s) rfl (fO rfl) rfl c2) (nL (a:=ay g) rfl (fO (k:=1) rfl) rfl c4)) t2) rfl
 have s4:LP (Au 1 (aM A1 B1 C1 D1) (aM A2 B2 C2 D2) s g m1 [none,none,none,none])=some (false,Au 1 (aM A1 B1 C1 D1) (aM A2 B2 C2 D2) s g m1 [none,none,none,none]):=rfl
 refine cL rfl ?_
 show fV Az [some (.sh (.int 1)),some (.sh (aM A1 B1 C1 D1)),some (.sh (aM A2 B2 C2 D2)),some (.sh (ay s)),some (.sh (ay g)),none,none,none,none,none]=_
 rw [yG,aW s1,aW (eZ s4),aW s2,aW s3]
 exact dX (gO (dy (bg (g:=bJ) (a:=ay out) (b:=ay la) rfl rfl (nM (by omega))) (bg (g:=bJ) (a:=ay en) (b:=ay be) rfl rfl (nM (by omega)))) oP)
end
open PySem PySem.Spec PyProof.Rows L2 TM Qm Rq
abbrev By:List T -> Option T:=cz 7 4 (jx cU FC Az Fz uS uT wG oJ)
def DS:FS:=(cH 4 (aa (aF bJ (ak cM (aa (aF bC (ag 2) (fC (.int 0))) ai)) (ak cM (aa (aF bC (ag 3) (fC (.int 0))) ai))) (aa (ak cM (aa (aF bC (aF bC (ag 2) (fC (.int 3))) (fC (.int 0))) ai)) (aa (ak cM (aa (aF bC (ag 3) (fC (.int 3))) ai)) ai))))
def DT:FT:=dJ (aF fX (ag 0) (fC (.int 1)))
def JV:FS:=(cH 4 (aa (aF bC (ag 4) (fC (.int 0))) (aa (fC (.int 2)) (aa (fC (.int 2)) ai))))
def MJ:FE:=(cR (aa (bo [(cU,uS)] "cells" (ag 1) ai) (aa (bo [(cU,uT)] "ins" (ag 1) ai) (aa (bo [(cU,wG)] "outs" (ag 1) ai) ai))))
def Hi:FT:=dJ (aF jI MJ (ag 4))
def DU:FT:=(dJ (aF jI (ak Az (aa (bo [(cU,oJ)] "tables" (ag 1) ai) (aa (ag 5) (aa (ag 6) ai)))) (ak Fz (aa (ag 0) (aa (ag 2) (aa (ag 3) (aa (ag 5) (aa (ag 6) ai))))))))
theorem yH:jx cU FC Az Fz uS uT wG oJ=aO DS (aO (bG DT JV bp) (aO (bG Hi (bz (fC (.bl false))) bp) (aO (iU (bI (ak FC (aa (aF bC (ag 4) (fC (.int 0))) (aa (aF bC (ag 4) (fC (.int 1))) ai)))) (cm (aB (aq 5) (aB (aq 6) bO))) (bG DU (bz (fC (.bl false))) bp)) (bz (fC (.bl true)))))):=rfl
theorem yl {f:FE} {τ τ':aJ} {b:Bool} (h:f τ=some (.bl b,τ')):dJ f τ=some (b,τ'):=by
 unfold dJ
 rw [h]
 rfl
theorem CQ (A B C D:List (List Rat)) (x g:List Rat):Dp 3 (kI A B C D x g):=oh fun t ht=>by
 rcases List.mem_cons.mp ht with rfl | ht
 ·exact uu _
 ·rcases List.mem_cons.mp ht with rfl | ht
  ·exact uu _
  ·cases ht
abbrev pV (w:Int) (F O1 O2:T) (s4 s5 s6:Option Sl):aJ:=[some (.sh (.int w)),some (.sh F),some (.sh O1),some (.sh O2),s4,s5,s6]
section
variable {M I O:Nat} {A B C D:List (List Rat)}
theorem zk (h:Sq M I O A B C D) (hM:M ≤ 8) (hI:I ≤ 2) (hO:O ≤ 2) (w:Int) (O1 O2:T) (s4:Option Sl):∀ (l:List (List Rat × List Rat)) (s5 s6:Option Sl),(∀ p ∈ l,(∀ x ∈ p.1,Z1 x) /\ (∀ x ∈ p.2,Z1 x) /\ Fz [.int w,O1,O2,ay p.1,ay p.2]=some (kI A B C D p.1 p.2)) -> ∃ s5' s6',ee (cm (aB (aq 5) (aB (aq 6) bO))) (bG DU (bz (fC (.bl false))) bp) (l.map Fy) (pV w (aR A B C D) O1 O2 s4 s5 s6)=some (.nx (pV w (aR A B C D) O1 O2 s4 s5' s6'))
 | [],s5,s6,_=>⟨s5,s6,rfl⟩
 | (s,g) :: l,s5,s6,hp=>by
  obtain ⟨s5',s6',ih⟩:=zk h hM hI hO w O1 O2 s4 l (some (.sh (ay s))) (some (.sh (ay g))) fun p hq=>hp p (List.mem_cons_of_mem _ hq)
  obtain ⟨z1,z2,hb⟩:=hp (s,g) List.mem_cons_self
  refine ⟨s5',s6',?_⟩
  have k:=oK h.sy hM (by omega)
  have t:=va h hM hI hO (x:=s) (g:=g) (fun v hv=>mf (z1 v hv)) (fun v hv=>mf (z2 v hv)) (.tup [ao A,ao B,ao C,ao D]) (.inr rfl)
  have e:DU (pV w (aR A B C D) O1 O2 s4 (some (.sh (ay s))) (some (.sh (ay g))))=some (false,pV w (aR A B C D) O1 O2 s4 (some (.sh (ay s))) (some (.sh (ay g)))):=
   yl (bg (g:=jI) (aH _ (gy (iq (mn := "tables") (f:=ag 1) rfl (by decide) k) rfl rfl) t) (aH [.int w,O1,O2,ay s,ay g] rfl hb) (cmp_self (neg:=true) (CQ A B C D s g) (by decide)))
  rw [List.map_cons,show Fy (s,g)=T.tup [ay s,ay g] from rfl,ff (τ1:=pV w (aR A B C D) O1 O2 s4 (some (.sh (ay s))) (some (.sh (ay g)))) rfl (eZ e)]
  exact ih
theorem zl (h:Sq M I O A B C D) (hM:M ≤ 8) (hI:I ≤ 2) (hO:1 ≤ O /\ O ≤ 2) (w:Int) (O1 O2:T) (hb:∀ p ∈ kN M I,Fz [.int w,O1,O2,ay p.1,ay p.2]=some (kI A B C D p.1 p.2)):aO (bG Hi (bz (fC (.bl false))) bp) (aO (iU (bI (ak FC (aa (aF bC (ag 4) (fC (.int 0))) (aa (aF bC (ag 4) (fC (.int 1))) ai)))) (cm (aB (aq 5) (aB (aq 6) bO))) (bG DU (bz (fC (.bl false))) bp)) (bz (fC (.bl true)))) (pV w (aR A B C D) O1 O2 (some (.own [.int (M:Nat),.int (I:Nat),.int (O:Nat)])) none none)=some (.rt (.bl true)):=by
 have k1:=uY (A:=A) (B:=B) (C:=C) (D:=D)
 rw [h.a.len] at k1
 have k2:=uZ h.sy (by omega)
 have k3:=yW (A:=A) (B:=B) (C:=C) (D:=D)
 rw [h.d.len] at k3
 have l:MJ (pV w (aR A B C D) O1 O2 (some (.own [.int (M:Nat),.int (I:Nat),.int (O:Nat)])) none none)=some (.lst [.int (M:Nat),.int (I:Nat),.int (O:Nat)],pV w (aR A B C D) O1 O2 (some (.own [.int (M:Nat),.int (I:Nat),.int (O:Nat)])) none none):=gO (gy (iq (mn := "cells") (f:=ag 1) rfl (by decide) k1) (iq (mn := "ins") (f:=ag 1) rfl (by decide) k2) (iq (mn := "outs") (f:=ag 1) rfl (by decide) k3)) (by rw [List.length_cons,List.length_cons,List.length_cons,List.length_nil]; omega)
 have sh:Dp 1 (.lst [.int (M:Nat),.int (I:Nat),.int (O:Nat)]):=⟨.list [.int (M:Nat),.int (I:Nat),.int (O:Nat)],rfl,rfl,Nat.le_of_ble_eq_true rfl⟩
 have t:Hi (pV w (aR A B C D) O1 O2 (some (.own [.int (M:Nat),.int (I:Nat),.int (O:Nat)])) none none)=some (false,pV w (aR A B C D) O1 O2 (some (.sh (.lst [.int (M:Nat),.int (I:Nat),.int (O:Nat)]))) none none):=yl (Cn (g:=jI) l rfl (cmp_self (neg:=true) sh (by decide)))
 obtain ⟨s5,s6,lp⟩:=zk h hM hI hO.2 w O1 O2 (some (.sh (.lst [.int (M:Nat),.int (I:Nat),.int (O:Nat)]))) (kN M I) none none fun p hp=>⟨(fT p hp).1.2,(fT p hp).2.2,hb p hp⟩
 have sq:bI (ak FC (aa (aF bC (ag 4) (fC (.int 0))) (aa (aF bC (ag 4) (fC (.int 1))) ai))) (pV w (aR A B C D) O1 O2 (some (.sh (.lst [.int (M:Nat),.int (I:Nat),.int (O:Nat)]))) none none)=some ((kN M I).map Fy,pV w (aR A B C D) O1 O2 (some (.sh (.lst [.int (M:Nat),.int (I:Nat),.int (O:Nat)]))) none none):=by
  have c:=aH (g:=FC) (f:=aa (aF bC (ag 4) (fC (.int 0))) (aa (aF bC (ag 4) (fC (.int 1))) ai)) (ρ:=pV w (aR A B C D) O1 O2 (some (.sh (.lst [.int (M:Nat),.int (I:Nat),.int (O:Nat)]))) none none) [.int (M:Nat),.int (I:Nat)] (dy (bg (g:=bC) rfl rfl rfl) (bg (g:=bC) rfl rfl rfl)) (JN hM (by omega))
  unfold bI
  rw [c]
  rfl
 rw [aW (eZ t),aW (qR sq lp)]
 rfl
end
section
variable {m1 i1 o1 m2 i2 o2:Nat} {A1 B1 C1 D1 A2 B2 C2 D2:List (List Rat)}
theorem Ge (h1:cE m1 i1 o1 A1 B1 C1 D1) (h2:cE m2 i2 o2 A2 B2 C2 D2) (ho:1 ≤ o1) (w:Int) (F:T):DS (pV w F (aM A1 B1 C1 D1) (aM A2 B2 C2 D2) none none none)=some (.nx (pV w F (aM A1 B1 C1 D1) (aM A2 B2 C2 D2) (some (.own [.int ((m1 + m2:Nat):Nat),.int (i1:Nat),.int (o2:Nat)])) none none)):=by
 have l1:=len_tab A1
 have l2:=len_tab A2
 have l3:=len_tab D2
 have l4:=zA (D1.getD 0 [])
 rw [h1.a.len] at l1
 rw [h2.a.len] at l2
 rw [h2.d.len] at l3
 rw [h1.sy.row0 ho] at l4
 have ix:bC (ao D1) (.int 0)=some (ay (D1.getD 0 [])):=xG (A:=D1) (i:=0) (by rw [h1.d.len]; omega)
 exact jZ (gy (bg (g:=bJ) (aH [ao A1] (eL (bg (a:=aM A1 B1 C1 D1) rfl rfl rfl)) l1) (aH [ao A2] (eL (bg (a:=aM A2 B2 C2 D2) rfl rfl rfl)) l2) ml) (aH [ay (D1.getD 0 [])] (eL (bg (bg (a:=aM A1 B1 C1 D1) (t:=ao D1) rfl rfl rfl) rfl ix)) l4) (aH [ao D2] (eL (bg (a:=aM A2 B2 C2 D2) rfl rfl rfl)) l3)) (by rw [List.length_cons,List.length_cons,List.length_cons,List.length_nil]; omega)
theorem G4 (h1:cE m1 i1 o1 A1 B1 C1 D1) (h2:cE m2 o1 o2 A2 B2 C2 D2) (h8:m1 + m2 ≤ 8) (hi:i1 ≤ 2) (ho:1 ≤ o1 /\ o1 ≤ 2) (ho2:1 ≤ o2 /\ o2 ≤ 2):By [.int 0,aR (Hl A1 C1 A2 B2 m1 m2) (Hm B1 D1 B2 i1) (Gg C1 C2 D2 m1) (Hn D1 D2 i1),aM A1 B1 C1 D1,aM A2 B2 C2 D2]=some (.bl true):=by
 have s1:=Ge h1 h2 ho.1 0 (aR (Hl A1 C1 A2 B2 m1 m2) (Hm B1 D1 B2 i1) (Gg C1 C2 D2 m1) (Hn D1 D2 i1))
 have e:=zl (uf h1 h2 (by omega)) h8 hi ho2 0 (aM A1 B1 C1 D1) (aM A2 B2 C2 D2) fun p hp=>G2 h1 h2 (by omega) (by omega) hi ho.2 ho2.2 (fT p hp).1.1 (fT p hp).1.2 (fT p hp).2.2 (fT p hp).2.1
 refine cL rfl ?_
 rw [yH]
 show aO DS _ (pV 0 _ (aM A1 B1 C1 D1) (aM A2 B2 C2 D2) none none none)=_
 rw [aW s1,aW (eZ (c:=DT) rfl)]
 exact e
theorem G5 (h1:cE m1 1 1 A1 B1 C1 D1) (h2:cE m2 1 1 A2 B2 C2 D2) (h8:m1 + m2 ≤ 8):By [.int 1,aR (gJ A1 A2 m1 m2) (gJ B1 B2 1 1) (gJ C1 C2 m1 m2) (gJ D1 D2 1 1),aM A1 B1 C1 D1,aM A2 B2 C2 D2]=some (.bl true):=by
 have s1:=Ge h1 h2 (by omega) 1 (aR (gJ A1 A2 m1 m2) (gJ B1 B2 1 1) (gJ C1 C2 m1 m2) (gJ D1 D2 1 1))
 have e:=zl (yK h1 h2) h8 (by omega) (by omega) 1 (aM A1 B1 C1 D1) (aM A2 B2 C2 D2) fun p hp=>G3 h1 h2 (by omega) (by omega) (fT p hp).1.1 (fT p hp).1.2 (fT p hp).2.2 (fT p hp).2.1
 have s2:bG DT JV bp (pV 1 (aR (gJ A1 A2 m1 m2) (gJ B1 B2 1 1) (gJ C1 C2 m1 m2) (gJ D1 D2 1 1)) (aM A1 B1 C1 D1) (aM A2 B2 C2 D2) (some (.own [.int ((m1 + m2:Nat):Nat),.int ((1:Nat):Nat),.int ((1:Nat):Nat)])) none none)=some (.nx (pV 1 (aR (gJ A1 A2 m1 m2) (gJ B1 B2 1 1) (gJ C1 C2 m1 m2) (gJ D1 D2 1 1)) (aM A1 B1 C1 D1) (aM A2 B2 C2 D2) (some (.own [.int ((m1 + m2:Nat):Nat),.int ((2:Nat):Nat),.int ((2:Nat):Nat)])) none none)):=by
  rw [kP (c:=DT) rfl]
  have z:∀ τ:aJ,aa (fC (.int 2)) (aa (fC (.int 2)) ai) τ=some ([.int 2,.int 2],τ):=fun τ=>dy rfl rfl
  have q:aa (aF bC (ag 4) (fC (.int 0))) (aa (fC (.int 2)) (aa (fC (.int 2)) ai)) (pV 1 (aR (gJ A1 A2 m1 m2) (gJ B1 B2 1 1) (gJ C1 C2 m1 m2) (gJ D1 D2 1 1)) (aM A1 B1 C1 D1) (aM A2 B2 C2 D2) (some (.own [.int ((m1 + m2:Nat):Nat),.int ((1:Nat):Nat),.int ((1:Nat):Nat)])) none none)=some ([.int ((m1 + m2:Nat):Nat),.int 2,.int 2],pV 1 (aR (gJ A1 A2 m1 m2) (gJ B1 B2 1 1) (gJ C1 C2 m1 m2) (gJ D1 D2 1 1)) (aM A1 B1 C1 D1) (aM A2 B2 C2 D2) (some (.sh (.lst [.int ((m1 + m2:Nat):Nat),.int ((1:Nat):Nat),.int ((1:Nat):Nat)]))) none none):=by
   have o:=Cn (g:=bC) (fa:=ag 4) (fb:=fC (.int 0)) (τ:=pV 1 (aR (gJ A1 A2 m1 m2) (gJ B1 B2 1 1) (gJ C1 C2 m1 m2) (gJ D1 D2 1 1)) (aM A1 B1 C1 D1) (aM A2 B2 C2 D2) (some (.own [.int ((m1 + m2:Nat):Nat),.int ((1:Nat):Nat),.int ((1:Nat):Nat)])) none none) (t:=.int ((m1 + m2:Nat):Nat)) rfl rfl rfl
   show (aF bC (ag 4) (fC (.int 0)) _).bind _=_
   rw [o]
   rfl
  exact jZ q (by rw [List.length_cons,List.length_cons,List.length_cons,List.length_nil]; omega)
 refine cL rfl ?_
 rw [yH]
 show aO DS _ (pV 1 _ (aM A1 B1 C1 D1) (aM A2 B2 C2 D2) none none none)=_
 rw [aW s1,aW s2]
 exact e
end
open PySem PySem.Spec PyProof.Rows L2 TM Qm Rq
abbrev cP (m i o:Nat):T:=.lst [.int (m:Nat),.int (i:Nat),.int (o:Nat)]
theorem Eb (x:Int) {b:Int} (h:0 < b):∃ n:Nat,x.fmod b=(n:Nat) /\ (n:Int) < b:=by
 refine ⟨(x.fmod b).toNat,?_,?_⟩
 ·rw [Int.toNat_of_nonneg (Int.fmod_nonneg_of_pos x h)]
 ·rw [Int.toNat_of_nonneg (Int.fmod_nonneg_of_pos x h)]
  exact Int.fmod_lt_of_pos x h
theorem L7 {a b c:T}:[a,b,c].length ≤ 1000:=by rw [List.length_cons,List.length_cons,List.length_cons,List.length_nil]; omega
abbrev FP:List T -> Option T:=cz 3 2 gB
theorem FZ (c:Int) (L:Bool):∃ m i o:Nat,FP [.int c,.bl L]=some (cP m i o) /\ m ≤ 5 /\ (1 ≤ i /\ i ≤ 2) /\ (1 ≤ o /\ o ≤ 2):=by
 obtain ⟨m,em,hm⟩:=Eb c (b:=4) (by decide)
 obtain ⟨m',em',hm'⟩:=Eb (c.fdiv 16) (b:=2) (by decide)
 obtain ⟨i',ei,hi'⟩:=Eb (c.fdiv 4) (b:=2) (by decide)
 obtain ⟨o',eo,ho'⟩:=Eb (c.fdiv 8) (b:=2) (by decide)
 have a0:bK 2 (aF df (ag 0) (fC (.int 4))) [some (.sh (.int c)),some (.sh (.bl L)),none]=some (.nx [some (.sh (.int c)),some (.sh (.bl L)),some (.sh (.int (m:Nat)))]):=by
  have a:=bg (g:=df) (fa:=ag 0) (fb:=fC (.int 4)) (τ:=[some (.sh (.int c)),some (.sh (.bl L)),none]) rfl rfl (oR (N:=c) (d:=4) (by decide))
  rw [em] at a
  exact fj a rfl
 have a1:bG (eR (ag 1)) (bK 2 (aF bJ (fC (.int 4)) (aF df (aF dc (ag 0) (fC (.int 16))) (fC (.int 2))))) bp [some (.sh (.int c)),some (.sh (.bl L)),some (.sh (.int (m:Nat)))]=some (.nx [some (.sh (.int c)),some (.sh (.bl L)),some (.sh (.int ((if L then 4 + m' else m:Nat):Nat)))]):=by
  cases L
  ·rfl
  ·have a:=bg (g:=bJ) (fa:=fC (.int 4)) (τ:=[some (.sh (.int c)),some (.sh (.bl true)),some (.sh (.int (m:Nat)))]) rfl (bg (g:=df) (fb:=fC (.int 2)) (bg (g:=dc) (fa:=ag 0) (fb:=fC (.int 16)) rfl rfl (uW (N:=c) (d:=16) (by decide) (cY (by decide) (by decide)))) rfl (oR (d:=2) (by decide))) iJ
   rw [em',show (4:Int) + ((m':Nat):Int)=((4 + m':Nat):Int) by omega] at a
   rw [kP (c:=eR (ag 1)) rfl]
   exact fj a rfl
 refine ⟨if L then 4 + m' else m,1 + i',1 + o',?_,by split <;> omega,by omega,by omega⟩
 generalize (if L then 4 + m' else m:Nat)=n at *
 have b2:=bg (g:=bJ) (fa:=fC (.int 1)) (τ:=[some (.sh (.int c)),some (.sh (.bl L)),some (.sh (.int (n:Nat)))]) rfl (bg (g:=df) (fb:=fC (.int 2)) (bg (g:=dc) (fa:=ag 0) (fb:=fC (.int 4)) rfl rfl (uW (N:=c) (d:=4) (by decide) (cY (by decide) (by decide)))) rfl (oR (d:=2) (by decide))) iJ
 have b3:=bg (g:=bJ) (fa:=fC (.int 1)) (τ:=[some (.sh (.int c)),some (.sh (.bl L)),some (.sh (.int (n:Nat)))]) rfl (bg (g:=df) (fb:=fC (.int 2)) (bg (g:=dc) (fa:=ag 0) (fb:=fC (.int 8)) rfl rfl (uW (N:=c) (d:=8) (by decide) (cY (by decide) (by decide)))) rfl (oR (d:=2) (by decide))) iJ
 rw [ei,show (1:Int) + ((i':Nat):Int)=((1 + i':Nat):Int) by omega] at b2
 rw [eo,show (1:Int) + ((o':Nat):Int)=((1 + o':Nat):Int) by omega] at b3
 refine cL rfl ?_
 show gB [some (.sh (.int c)),some (.sh (.bl L)),none]=_
 unfold gB
 rw [aW a0,aW a1]
 exact dX (gO (gy (t:=.int (n:Nat)) rfl b2 b3) L7)
abbrev FK:List T -> Option T:=cz 1 1 (hJ cU BA)
theorem FW {m i o:Nat} {A B C D:List (List Rat)} (h:cE m i o A B C D) (hm:m ≤ 8) (hi:1 ≤ i /\ i ≤ 2) (ho:1 ≤ o /\ o ≤ 2):FK [aM A B C D]=some (aR A B C D):=by
 have e:=BF h.sy hm hi ho
 refine cL rfl ?_
 show hJ cU BA [some (.sh (aM A B C D))]=_
 unfold hJ
 exact dX (xQ (ju (bg (g:=bC) (a:=aM A B C D) (b:=.int 0) (t:=ao A) rfl rfl rfl) (bg (g:=bC) (a:=aM A B C D) (b:=.int 1) (t:=ao B) rfl rfl rfl) (bg (g:=bC) (a:=aM A B C D) (b:=.int 2) (t:=ao C) rfl rfl rfl) (bg (g:=bC) (a:=aM A B C D) (b:=.int 3) (t:=ao D) rfl rfl rfl)) e)
abbrev wZ:List T -> Option T:=cz 5 3 (jz JF eP fH DG DF wY wX)
def GA:FT:=dJ (aF fX (ag 0) (fC (.int 0)))
def Fg:FS:=(bG GA (eQ 3 (ak DG (aa (ag 1) (aa (ag 2) ai))) (fC (.int 0))) (eQ 3 (ak DF (aa (ag 1) (aa (ag 2) ai))) (fC (.int 0))))
def Jl:FX:=(mD GA (gh wY (aa (ag 1) (aa (ag 2) ai))) (gh wX (aa (ag 1) (aa (ag 2) ai))))
def Fh:FS:=(eQ 3 (aF bJ (aF bC (cR (aa (fC (.str "")) (aa (fC (.str "fit")) ai))) (ak nu (aa (kB [(eP,true),(fH,false)] (ag 4)) ai))) (aF bC (cR (aa (fC (.str "")) (aa (fC (.str "many")) ai))) (ak nu (aa (kB [(eP,false),(fH,true)] (ag 4)) ai)))) (fC (.int 1)))
theorem yI:jz JF eP fH DG DF wY wX=aO (cH 3 (aa (fC .non) (aa (fC (.str "")) ai))) (aO (vf 4 [eP,fH] Fg Jl Fh) (bz (ag 3))):=rfl
abbrev qz (w:Int) (S1 S2:T) (us:List T) (e:Option Sl):aJ:=[some (.sh (.int w)),some (.sh S1),some (.sh S2),some (.own us),e]
theorem GC (w:Int) (S1 S2:T):cH 3 (aa (fC .non) (aa (fC (.str "")) ai)) [some (.sh (.int w)),some (.sh S1),some (.sh S2),none,none]=some (.nx (qz w S1 S2 [.non,.str ""] none)):=jZ (dy (f:=fC .non) (g:=fC (.str "")) rfl rfl) oP
theorem zO {i:Nat} {f g:FE} {τ:aJ} (h:f τ=none):eQ i f g τ=none:=by
 unfold eQ
 rw [h]
 rfl
theorem Bs {g:List T -> Option T} {f:FA} {ρ:aJ} (ts:List T) (h1:f ρ=some (ts,ρ)) (h2:g ts=none):ak g f ρ=none:=by
 unfold ak
 rw [h1,Option.bind_some,h2]
 rfl
theorem Gf {c:FT} {s u:FS} {τ τ':aJ} (h:c τ=some (false,τ')):bG c s u τ=u τ':=by
 unfold bG
 rw [h]
 rfl
theorem GB {w:Int} {S1 S2 F:T} (h:Fg (qz w S1 S2 [.non,.str ""] none)=some (.nx (qz w S1 S2 [F,.str ""] none))):wZ [.int w,S1,S2]=some (.lst [F,.str ""]):=by
 refine cL rfl ?_
 rw [yI]
 show aO (cH 3 (aa (fC .non) (aa (fC (.str "")) ai))) _ [some (.sh (.int w)),some (.sh S1),some (.sh S2),none,none]=_
 rw [aW (GC w S1 S2)]
 have t:vf 4 [eP,fH] Fg Jl Fh (qz w S1 S2 [.non,.str ""] none)=some (.nx (qz w S1 S2 [F,.str ""] none)):=by
  unfold vf
  rw [h]
 rw [aW t]
 rfl
theorem Dd {w:Int} {S1 S2:T} {C:Addr} {x:Str} (h:Fg (qz w S1 S2 [.non,.str ""] none)=none) (hx:Jl (qz w S1 S2 [.non,.str ""] none)=some (C,qz w S1 S2 [.non,.str ""] none)) (hC:C ∈ [eP,fH]) (hh:Fh (qz w S1 S2 [.non,.str ""] (some (.sh (.exc C))))=some (.nx (qz w S1 S2 [.non,.str x] (some (.sh (.exc C)))))):wZ [.int w,S1,S2]=some (.lst [.non,.str x]):=by
 refine cL rfl ?_
 rw [yI]
 show aO (cH 3 (aa (fC .non) (aa (fC (.str "")) ai))) _ [some (.sh (.int w)),some (.sh S1),some (.sh S2),none,none]=_
 rw [aW (GC w S1 S2)]
 have t:vf 4 [eP,fH] Fg Jl Fh (qz w S1 S2 [.non,.str ""] none)=some (.nx (qz w S1 S2 [.non,.str x] none)):=by
  unfold vf
  rw [h]
  dsimp only
  rw [hx,Option.bind_some]
  dsimp only
  rw [if_pos hC]
  show (Fh (qz w S1 S2 [.non,.str ""] (some (.sh (.exc C))))).bind _=_
  rw [hh]
  rfl
 rw [aW t]
 rfl
theorem om (a b:Str) (x y:Bool) (Cx:Addr) {τ:aJ} (hv:ag 4 τ=some (.exc Cx,τ)) (hb:findB Cx [(eP,x),(fH,y)]=some true \/ findB Cx [(eP,x),(fH,y)]=some false):aF bC (cR (aa (fC (.str a)) (aa (fC (.str b)) ai))) (ak nu (aa (kB [(eP,x),(fH,y)] (ag 4)) ai)) τ=some (.str (if findB Cx [(eP,x),(fH,y)]=some true then b else a),τ):=by
 have l:cR (aa (fC (.str a)) (aa (fC (.str b)) ai)) τ=some (.lst [.str a,.str b],τ):=gO (dy rfl rfl) oP
 rcases hb with hb | hb
 ·have i:kB [(eP,x),(fH,y)] (ag 4) τ=some (.bl true,τ):=by
   unfold kB
   rw [hv,Option.bind_some]
   dsimp only
   rw [hb]
   rfl
  rw [if_pos hb]
  exact bg l (aH [.bl true] (eL i) rfl) rfl
 ·have i:kB [(eP,x),(fH,y)] (ag 4) τ=some (.bl false,τ):=by
   unfold kB
   rw [hv,Option.bind_some]
   dsimp only
   rw [hb]
   rfl
  rw [hb,if_neg (by decide)]
  exact bg l (aH [.bl false] (eL i) rfl) rfl
theorem De (w:Int) (S1 S2:T):Fh (qz w S1 S2 [.non,.str ""] (some (.sh (.exc eP))))=some (.nx (qz w S1 S2 [.non,.str "fit"] (some (.sh (.exc eP))))):=
 og (us:=[.non,.str ""]) (k:=1) (t:=.str "fit") rfl (bg (g:=bJ) (om "" "fit" true false eP rfl (.inl (by decide))) (om "" "many" false true eP rfl (.inr (by decide))) (vh (cg (by decide)))) rfl (by decide)
theorem Ah (w:Int) (S1 S2:T):Fh (qz w S1 S2 [.non,.str ""] (some (.sh (.exc fH))))=some (.nx (qz w S1 S2 [.non,.str "many"] (some (.sh (.exc fH))))):=
 og (us:=[.non,.str ""]) (k:=1) (t:=.str "many") rfl (bg (g:=bJ) (om "" "fit" true false fH rfl (.inr (by decide))) (om "" "many" false true fH rfl (.inl (by decide))) (vh (cg (by decide)))) rfl (by decide)
theorem IU {S1 S2 F:T} (h:DG [S1,S2]=some F):wZ [.int 0,S1,S2]=some (.lst [F,.str ""]):=GB (by
 unfold Fg
 rw [kP (c:=GA) rfl]
 exact og (us:=[.non,.str ""]) (k:=0) rfl (aH [S1,S2] rfl h) rfl (by decide +revert))
theorem IV {S1 S2 F:T} (h:DF [S1,S2]=some F):wZ [.int 1,S1,S2]=some (.lst [F,.str ""]):=GB (by
 unfold Fg
 rw [Gf (c:=GA) rfl]
 exact og (us:=[.non,.str ""]) (k:=0) rfl (aH [S1,S2] rfl h) rfl (by decide +revert))
theorem Af {S1 S2:T} {C:Addr} {x:Str} (h:DG [S1,S2]=none /\ wY [S1,S2]=some C) (hC:C ∈ [eP,fH]) (hh:Fh (qz 0 S1 S2 [.non,.str ""] (some (.sh (.exc C))))=some (.nx (qz 0 S1 S2 [.non,.str x] (some (.sh (.exc C)))))):wZ [.int 0,S1,S2]=some (.lst [.non,.str x]):=Dd (by
 unfold Fg
 rw [kP (c:=GA) rfl]
 exact zO (Bs [S1,S2] rfl h.1)) (by
 unfold Jl
 rw [zo (c:=GA) rfl]
 exact nP (ts:=[S1,S2]) rfl h.2) hC hh
theorem Ag {S1 S2:T} {C:Addr} {x:Str} (h:DF [S1,S2]=none /\ wX [S1,S2]=some C) (hC:C ∈ [eP,fH]) (hh:Fh (qz 1 S1 S2 [.non,.str ""] (some (.sh (.exc C))))=some (.nx (qz 1 S1 S2 [.non,.str x] (some (.sh (.exc C)))))):wZ [.int 1,S1,S2]=some (.lst [.non,.str x]):=Dd (by
 unfold Fg
 rw [Gf (c:=GA) rfl]
 exact zO (Bs [S1,S2] rfl h.1)) (by
 unfold Jl
 rw [zm (c:=GA) rfl]
 exact nP (ts:=[S1,S2]) rfl h.2) hC hh
open PySem PySem.Spec PyProof.Rows L2 TM Qm Rq
abbrev DJ:List T -> Option T:=cz 9 3 (jy wZ By)
def HN:FT:=dJ (aF qT (aF bJ (aF bC (ag 3) (fC (.int 0))) (aF bC (ag 4) (fC (.int 0)))) (fC (.int 8)))
def ub:FT:=(qd (nv (dJ (aF fX (ag 5) (fC (.int 0)))) (dJ (aF jI (aF bC (ag 3) (fC (.int 2))) (aF bC (ag 4) (fC (.int 1)))))) (nv (dJ (aF fX (ag 5) (fC (.int 1)))) (dJ (aF jI (aF bJ (ly (ag 3) (cQ (fC (.int 1))) bY) (ly (ag 4) (cQ (fC (.int 1))) bY)) (cR (aa (fC (.int 1)) (aa (fC (.int 1)) (aa (fC (.int 1)) (aa (fC (.int 1)) ai)))))))))
def MN:FS:=(dY (ak wZ (aa (ag 5) (aa (aF bC (ag 0) (fC (.int 0))) (aa (aF bC (ag 0) (fC (.int 1))) ai)))) (IJ 7 8))
def HP:FT:=(qd (dJ (aF jI (ag 8) (ag 6))) (nv (dJ (aF fX (ag 6) (fC (.str "")))) (eu (eR (ak By (aa (ag 5) (aa (ag 7) (aa (aF bC (ag 2) (fC (.int 0))) (aa (aF bC (ag 2) (fC (.int 1))) ai)))))))))
def ua:FS:=aO (bK 6 (fC (.str ""))) (aO (bG HN (bK 6 (fC (.str "many"))) bp) (aO (bG ub (bK 6 (fC (.str "fit"))) bp) (aO MN (bG HP (bz (fC (.bl false))) bp))))
theorem Dy:jy wZ By=aO (dY (ag 1) (IJ 3 4)) (aO (iU (cS (aa (fC (.int 2)) ai)) (aq 5) ua) (bz (fC (.bl true)))):=rfl
abbrev iN (S1 S2 F1 F2:T) (m1 i1 o1 m2 i2 o2:Nat) (r:List (Option Sl)):aJ:=some (.sh (.lst [S1,S2])) :: some (.sh (.lst [cP m1 i1 o1,cP m2 i2 o2])) :: some (.sh (.lst [F1,F2])) :: some (.sh (cP m1 i1 o1)) :: some (.sh (cP m2 i2 o2)) :: r
def fI (fit many:Bool):Str:=if fit then "fit" else if many then "many" else ""
theorem yC {c1 c2:FT} {τ τ':aJ} (h1:c1 τ=some (false,τ')):nv c1 c2 τ=some (false,τ'):=by
 unfold nv
 rw [h1]
 rfl
theorem yE {c1 c2:FT} {τ τ':aJ} (h1:c1 τ=some (true,τ')):nv c1 c2 τ=c2 τ':=by
 unfold nv
 rw [h1]
 rfl
theorem HK {c1 c2:FT} {τ τ':aJ} (h1:c1 τ=some (false,τ')):qd c1 c2 τ=c2 τ':=by
 unfold qd
 rw [h1]
 rfl
theorem Mb {c1 c2:FT} {τ τ':aJ} (h1:c1 τ=some (true,τ')):qd c1 c2 τ=some (true,τ'):=by
 unfold qd
 rw [h1]
 rfl
section
variable {S1 S2 F1 F2:T} {m1 i1 o1 m2 i2 o2:Nat}
theorem Kq (r:List (Option Sl)):HN (iN S1 S2 F1 F2 m1 i1 o1 m2 i2 o2 r)=some (decide (8 < m1 + m2),iN S1 S2 F1 F2 m1 i1 o1 m2 i2 o2 r):=by
 have e:=bg (g:=qT) (fb:=fC (.int 8)) (τ:=iN S1 S2 F1 F2 m1 i1 o1 m2 i2 o2 r) (bg (g:=bJ) (fa:=aF bC (ag 3) (fC (.int 0))) (fb:=aF bC (ag 4) (fC (.int 0))) (a:=.int (m1:Nat)) (b:=.int (m2:Nat)) (bg (a:=cP m1 i1 o1) (b:=.int 0) rfl rfl rfl) (bg (a:=cP m2 i2 o2) (b:=.int 0) rfl rfl rfl) ml) rfl (show qT (.int ((m1 + m2:Nat):Nat)) (.int 8)=some (.bl (decide ((((m1 + m2:Nat):Nat):Int) > 8))) from rfl)
 rw [show decide ((((m1 + m2:Nat):Nat):Int) > 8)=decide (8 < m1 + m2) from decide_eq_decide.mpr (by omega)] at e
 exact yl e
theorem HR (s6 s7 s8:Option Sl):ub (iN S1 S2 F1 F2 m1 i1 o1 m2 i2 o2 [some (.sh (.int 0)),s6,s7,s8])=some (!decide (o1=i2),iN S1 S2 F1 F2 m1 i1 o1 m2 i2 o2 [some (.sh (.int 0)),s6,s7,s8]):=by
 have e:=yl (bg (g:=jI) (fa:=aF bC (ag 3) (fC (.int 2))) (fb:=aF bC (ag 4) (fC (.int 1))) (τ:=iN S1 S2 F1 F2 m1 i1 o1 m2 i2 o2 [some (.sh (.int 0)),s6,s7,s8]) (bg (a:=cP m1 i1 o1) (b:=.int 2) rfl rfl rfl) (bg (a:=cP m2 i2 o2) (b:=.int 1) rfl rfl rfl) (Cg o1 i2))
 unfold ub
 by_cases h:o1=i2
 ·rw [decide_eq_true h] at e ⊢
  rw [HK ((yE (τ':=iN S1 S2 F1 F2 m1 i1 o1 m2 i2 o2 [some (.sh (.int 0)),s6,s7,s8]) rfl).trans e)]
  exact yC rfl
 ·rw [decide_eq_false h] at e ⊢
  exact Mb ((yE (τ':=iN S1 S2 F1 F2 m1 i1 o1 m2 i2 o2 [some (.sh (.int 0)),s6,s7,s8]) rfl).trans e)
theorem HS (s6 s7 s8:Option Sl):ub (iN S1 S2 F1 F2 m1 i1 o1 m2 i2 o2 [some (.sh (.int 1)),s6,s7,s8])=some (!qw i1 o1 i2 o2,iN S1 S2 F1 F2 m1 i1 o1 m2 i2 o2 [some (.sh (.int 1)),s6,s7,s8]):=by
 have l:cR (aa (fC (.int 1)) (aa (fC (.int 1)) (aa (fC (.int 1)) (aa (fC (.int 1)) ai)))) (iN S1 S2 F1 F2 m1 i1 o1 m2 i2 o2 [some (.sh (.int 1)),s6,s7,s8])=some (.lst [.int 1,.int 1,.int 1,.int 1],iN S1 S2 F1 F2 m1 i1 o1 m2 i2 o2 [some (.sh (.int 1)),s6,s7,s8]):=gO (ju rfl rfl rfl rfl) (by decide)
 have e:=yl (bg (g:=jI) (fa:=aF bJ (ly (ag 3) (cQ (fC (.int 1))) bY) (ly (ag 4) (cQ (fC (.int 1))) bY)) (bg (g:=bJ) (a:=.lst [.int (i1:Nat),.int (o1:Nat)]) (b:=.lst [.int (i2:Nat),.int (o2:Nat)]) (nL (a:=cP m1 i1 o1) rfl (fO rfl) rfl rfl) (nL (a:=cP m2 i2 o2) rfl (fO rfl) rfl rfl) (jH (cg (by rw [List.length_cons,List.length_cons,List.length_nil]; simp)))) l (ne4 i1 o1 i2 o2))
 unfold ub
 rw [HK (yC (τ':=iN S1 S2 F1 F2 m1 i1 o1 m2 i2 o2 [some (.sh (.int 1)),s6,s7,s8]) rfl)]
 exact (yE (τ':=iN S1 S2 F1 F2 m1 i1 o1 m2 i2 o2 [some (.sh (.int 1)),s6,s7,s8]) rfl).trans e
theorem zK (w:Int) (fit:Bool) (F:T) (hT:∀ s6 s7 s8,ub (iN S1 S2 F1 F2 m1 i1 o1 m2 i2 o2 [some (.sh (.int w)),s6,s7,s8])=some (fit,iN S1 S2 F1 F2 m1 i1 o1 m2 i2 o2 [some (.sh (.int w)),s6,s7,s8])) (hw:wZ [.int w,S1,S2]=some (.lst [F,.str (fI fit (decide (8 < m1 + m2)))])) (hg:fit=false -> decide (8 < m1 + m2)=false -> By [.int w,F,F1,F2]=some (.bl true)) (s6 s7 s8:Option Sl):∃ s6' s7' s8',ua (iN S1 S2 F1 F2 m1 i1 o1 m2 i2 o2 [some (.sh (.int w)),s6,s7,s8])=some (.nx (iN S1 S2 F1 F2 m1 i1 o1 m2 i2 o2 [some (.sh (.int w)),s6',s7',s8'])):=by
 generalize hM:decide (8 < m1 + m2)=many at *
 refine ⟨some (.sh (.str (fI fit many))),some (.sh F),some (.sh (.str (fI fit many))),?_⟩
 have t1:=Kq (S1:=S1) (S2:=S2) (F1:=F1) (F2:=F2) (m1:=m1) (i1:=i1) (o1:=o1) (m2:=m2) (i2:=i2) (o2:=o2)
 rw [hM] at t1
 have b1:bG HN (bK 6 (fC (.str "many"))) bp (iN S1 S2 F1 F2 m1 i1 o1 m2 i2 o2 [some (.sh (.int w)),some (.sh (.str "")),s7,s8])=some (.nx (iN S1 S2 F1 F2 m1 i1 o1 m2 i2 o2 [some (.sh (.int w)),some (.sh (.str (fI false many))),s7,s8])):=by
  have t:=t1 [some (.sh (.int w)),some (.sh (.str "")),s7,s8]
  cases many
  ·exact eZ t
  ·rw [kP t]
   rfl
 have b2:bG ub (bK 6 (fC (.str "fit"))) bp (iN S1 S2 F1 F2 m1 i1 o1 m2 i2 o2 [some (.sh (.int w)),some (.sh (.str (fI false many))),s7,s8])=some (.nx (iN S1 S2 F1 F2 m1 i1 o1 m2 i2 o2 [some (.sh (.int w)),some (.sh (.str (fI fit many))),s7,s8])):=by
  have t:=hT (some (.sh (.str (fI false many)))) s7 s8
  cases fit
  ·exact eZ t
  ·rw [kP t]
   rfl
 have b3:MN (iN S1 S2 F1 F2 m1 i1 o1 m2 i2 o2 [some (.sh (.int w)),some (.sh (.str (fI fit many))),s7,s8])=some (.nx (iN S1 S2 F1 F2 m1 i1 o1 m2 i2 o2 [some (.sh (.int w)),some (.sh (.str (fI fit many))),some (.sh F),some (.sh (.str (fI fit many)))])):=jj (aH [.int w,S1,S2] (gy rfl (bg (a:=.lst [S1,S2]) (b:=.int 0) rfl rfl rfl) (bg (a:=.lst [S1,S2]) (b:=.int 1) rfl rfl rfl)) hw) rfl
 have b4:HP (iN S1 S2 F1 F2 m1 i1 o1 m2 i2 o2 [some (.sh (.int w)),some (.sh (.str (fI fit many))),some (.sh F),some (.sh (.str (fI fit many)))])=some (false,iN S1 S2 F1 F2 m1 i1 o1 m2 i2 o2 [some (.sh (.int w)),some (.sh (.str (fI fit many))),some (.sh F),some (.sh (.str (fI fit many)))]):=by
  unfold HP
  have n:jI (.str (fI fit many)) (.str (fI fit many))=some (.bl false):=by
   cases fit
   ·cases many
    ·exact cmp_self (neg:=true) (n:=0) (t:=.str "") ⟨.str "", rfl,by decide +kernel,by decide +kernel⟩ (by decide)
    ·exact cmp_self (neg:=true) (n:=0) (t:=.str "many") ⟨.str "many", rfl,by decide +kernel,by decide +kernel⟩ (by decide)
   ·exact cmp_self (neg:=true) (n:=0) (t:=.str "fit") ⟨.str "fit", rfl,by decide +kernel,by decide +kernel⟩ (by decide)
  rw [HK (yl (bg (g:=jI) (fa:=ag 8) (fb:=ag 6) (a:=.str (fI fit many)) (b:=.str (fI fit many)) rfl rfl n))]
  have q:∀ {x:Str} {b:Bool},fX (.str x) (.str "")=some (.bl b) -> x=fI fit many -> dJ (aF fX (ag 6) (fC (.str ""))) (iN S1 S2 F1 F2 m1 i1 o1 m2 i2 o2 [some (.sh (.int w)),some (.sh (.str (fI fit many))),some (.sh F),some (.sh (.str (fI fit many)))])=some (b,iN S1 S2 F1 F2 m1 i1 o1 m2 i2 o2 [some (.sh (.int w)),some (.sh (.str (fI fit many))),some (.sh F),some (.sh (.str (fI fit many)))]):=fun he hx=>by
   rw [hx] at he
   exact yl (bg (g:=fX) (a:=.str (fI fit many)) (b:=.str "") rfl rfl he)
  cases fit
  ·cases many
   ·rw [yE (q (x := "") (b:=true) (cmp_self (neg:=false) (n:=0) ⟨.str "", rfl,by decide +kernel,by decide +kernel⟩ (by decide)) rfl)]
    exact zH (aH [.int w,F,F1,F2] (ju rfl rfl (bg (a:=.lst [F1,F2]) (b:=.int 0) rfl rfl rfl) (bg (a:=.lst [F1,F2]) (b:=.int 1) rfl rfl rfl)) (hg rfl rfl))
   ·exact yC (q (x := "many") (b:=false) (by kernel_rfl) rfl)
  ·exact yC (q (x := "fit") (b:=false) (by kernel_rfl) rfl)
 unfold ua
 rw [aW (τ':=iN S1 S2 F1 F2 m1 i1 o1 m2 i2 o2 [some (.sh (.int w)),some (.sh (.str "")),s7,s8]) rfl,aW b1,aW b2,aW b3]
 exact eZ b4
theorem HQ {f0 f1:Bool} {G0 G1:T} (hT0:∀ s6 s7 s8,ub (iN S1 S2 F1 F2 m1 i1 o1 m2 i2 o2 [some (.sh (.int 0)),s6,s7,s8])=some (f0,iN S1 S2 F1 F2 m1 i1 o1 m2 i2 o2 [some (.sh (.int 0)),s6,s7,s8])) (hw0:wZ [.int 0,S1,S2]=some (.lst [G0,.str (fI f0 (decide (8 < m1 + m2)))])) (hg0:f0=false -> decide (8 < m1 + m2)=false -> By [.int 0,G0,F1,F2]=some (.bl true))
  (hT1:∀ s6 s7 s8,ub (iN S1 S2 F1 F2 m1 i1 o1 m2 i2 o2 [some (.sh (.int 1)),s6,s7,s8])=some (f1,iN S1 S2 F1 F2 m1 i1 o1 m2 i2 o2 [some (.sh (.int 1)),s6,s7,s8])) (hw1:wZ [.int 1,S1,S2]=some (.lst [G1,.str (fI f1 (decide (8 < m1 + m2)))])) (hg1:f1=false -> decide (8 < m1 + m2)=false -> By [.int 1,G1,F1,F2]=some (.bl true)) :
  DJ [.lst [S1,S2],.lst [cP m1 i1 o1,cP m2 i2 o2],.lst [F1,F2]]=some (.bl true):=by
 obtain ⟨a6,a7,a8,e0⟩:=zK 0 f0 G0 hT0 hw0 hg0 none none none
 obtain ⟨b6,b7,b8,e1⟩:=zK 1 f1 G1 hT1 hw1 hg1 a6 a7 a8
 refine cL rfl ?_
 rw [Dy]
 show aO (dY (ag 1) (IJ 3 4)) _ [some (.sh (.lst [S1,S2])),some (.sh (.lst [cP m1 i1 o1,cP m2 i2 o2])),some (.sh (.lst [F1,F2])),none,none,none,none,none,none]=_
 rw [aW (τ':=iN S1 S2 F1 F2 m1 i1 o1 m2 i2 o2 [none,none,none,none]) (jj (t:=.lst [cP m1 i1 o1,cP m2 i2 o2]) rfl rfl)]
 have hr:cS (aa (fC (.int 2)) ai) (iN S1 S2 F1 F2 m1 i1 o1 m2 i2 o2 [none,none,none,none])=some ([.int 0,.int 1],iN S1 S2 F1 F2 m1 i1 o1 m2 i2 o2 [none,none,none,none]):=pj (f:=fC (.int 2)) (n:=2) rfl (by decide) (by decide)
 have lp:ee (aq 5) ua [.int 0,.int 1] (iN S1 S2 F1 F2 m1 i1 o1 m2 i2 o2 [none,none,none,none])=some (.nx (iN S1 S2 F1 F2 m1 i1 o1 m2 i2 o2 [some (.sh (.int 1)),b6,b7,b8])):=by
  rw [ff (τ1:=iN S1 S2 F1 F2 m1 i1 o1 m2 i2 o2 [some (.sh (.int 0)),none,none,none]) rfl e0,ff (τ1:=iN S1 S2 F1 F2 m1 i1 o1 m2 i2 o2 [some (.sh (.int 1)),a6,a7,a8]) rfl e1]
  rfl
 rw [aW (qR hr lp)]
 rfl
end
section
variable {m1 i1 o1 m2 i2 o2:Nat} {A1 B1 C1 D1 A2 B2 C2 D2:List (List Rat)}
theorem Cc:eP ∈ [eP,fH]:=List.mem_cons_self
theorem Cd:fH ∈ [eP,fH]:=List.mem_cons_of_mem _ List.mem_cons_self
theorem Kr (h1:cE m1 i1 o1 A1 B1 C1 D1) (h2:cE m2 i2 o2 A2 B2 C2 D2) (hm1:m1 ≤ 5) (hm2:m2 ≤ 5) (hi1:1 ≤ i1 /\ i1 ≤ 2) (ho1:1 ≤ o1 /\ o1 ≤ 2) (ho2:1 ≤ o2 /\ o2 ≤ 2):∃ G,wZ [.int 0,aR A1 B1 C1 D1,aR A2 B2 C2 D2]=some (.lst [G,.str (fI (!decide (o1=i2)) (decide (8 < m1 + m2)))]) /\ ((!decide (o1=i2))=false -> decide (8 < m1 + m2)=false -> By [.int 0,G,aM A1 B1 C1 D1,aM A2 B2 C2 D2]=some (.bl true)):=by
 by_cases hf:o1=i2
 ·subst hf
  by_cases h8:8 < m1 + m2
  ·refine ⟨.non,?_,fun _ h=>?_⟩
   ·rw [decide_eq_true rfl,decide_eq_true h8]
    exact Af (D4 h1 h2 hm1 hm2 hi1 ho1 ho2 h8) Cd (Ah _ _ _)
   ·rw [decide_eq_true h8] at h
    cases h
  ·refine ⟨_,?_,fun _ _=>G4 h1 h2 (by omega) hi1.2 ho1 ho2⟩
   rw [decide_eq_true rfl,decide_eq_false h8]
   exact IU (J2 h1 h2 hm1 hm2 hi1 ho1 ho2 (by omega))
 ·refine ⟨.non,?_,fun h _=>?_⟩
  ·rw [decide_eq_false hf]
   exact Af (AK h1 h2 (by omega) hf) Cc (De _ _ _)
  ·rw [decide_eq_false hf] at h
   cases h
theorem En {a b c d:Nat} (h:qw a b c d=true):a=1 /\ b=1 /\ c=1 /\ d=1:=by
 unfold qw at h
 rw [Bool.and_eq_true,Bool.and_eq_true,Bool.and_eq_true,decide_eq_true_iff,decide_eq_true_iff,decide_eq_true_iff,decide_eq_true_iff] at h
 exact h
theorem Ks (h1:cE m1 i1 o1 A1 B1 C1 D1) (h2:cE m2 i2 o2 A2 B2 C2 D2) (hm1:m1 ≤ 5) (hm2:m2 ≤ 5) (ho1:1 ≤ o1) (ho2:1 ≤ o2):∃ G,wZ [.int 1,aR A1 B1 C1 D1,aR A2 B2 C2 D2]=some (.lst [G,.str (fI (!qw i1 o1 i2 o2) (decide (8 < m1 + m2)))]) /\ ((!qw i1 o1 i2 o2)=false -> decide (8 < m1 + m2)=false -> By [.int 1,G,aM A1 B1 C1 D1,aM A2 B2 C2 D2]=some (.bl true)):=by
 cases hf:qw i1 o1 i2 o2
 ·exact ⟨.non,Ag (Aq h1 h2 (by omega) (by omega) hf) Cc (De _ _ _),fun h=>by cases h⟩
 ·obtain ⟨rfl,rfl,rfl,rfl⟩:=En hf
  by_cases h8:8 < m1 + m2
  ·refine ⟨.non,?_,fun _ h=>?_⟩
   ·rw [decide_eq_true h8]
    exact Ag (DA h1 h2 hm1 hm2 h8) Cd (Ah _ _ _)
   ·rw [decide_eq_true h8] at h
    cases h
  ·refine ⟨_,?_,fun _ _=>G5 h1 h2 (by omega)⟩
   rw [decide_eq_false h8]
   exact IV (Jy h1 h2 hm1 hm2 (by omega))
theorem FY (h1:cE m1 i1 o1 A1 B1 C1 D1) (h2:cE m2 i2 o2 A2 B2 C2 D2) (hm1:m1 ≤ 5) (hm2:m2 ≤ 5) (hi1:1 ≤ i1 /\ i1 ≤ 2) (ho1:1 ≤ o1 /\ o1 ≤ 2) (ho2:1 ≤ o2 /\ o2 ≤ 2):DJ [.lst [aR A1 B1 C1 D1,aR A2 B2 C2 D2],.lst [cP m1 i1 o1,cP m2 i2 o2],.lst [aM A1 B1 C1 D1,aM A2 B2 C2 D2]]=some (.bl true):=by
 obtain ⟨G0,a,b⟩:=Kr h1 h2 hm1 hm2 hi1 ho1 ho2
 obtain ⟨G1,c,d⟩:=Ks h1 h2 hm1 hm2 ho1.1 ho2.1
 exact HQ HR a b HS c d
end
open PySem PySem.Spec PyProof.Rows L2 TM Qm Rq
theorem wq (A B C D:List (List Rat)):Dp 4 (aM A B C D):=oh fun t ht=>by
 rcases List.mem_cons.mp ht with rfl | ht
 ·exact oi A
 ·rcases List.mem_cons.mp ht with rfl | ht
  ·exact oi B
  ·rcases List.mem_cons.mp ht with rfl | ht
   ·exact oi C
   ·rcases List.mem_cons.mp ht with rfl | ht
    ·exact oi D
    ·cases ht
abbrev zD (ns:List Int) (L:Bool) (r:List (Option Sl)):aJ:=some (.sh (.scr (ns.map T.int))) :: some (.sh (.bl L)) :: r
theorem B7 (ns:List Int):cz 7 1 (qC cU Ax FP FF FK DJ oJ) [.scr (ns.map T.int)]=some (.bl true):=by
 have c0:=nR ns 0
 have c1:=nR ns 1
 have c2:=nR ns 2
 have c3:=nR ns 3
 generalize ns.getD 0 0=x0 at *
 generalize ns.getD 1 0=x1 at *
 generalize ns.getD 2 0=x2 at *
 generalize ns.getD 3 0=x3 at *
 obtain ⟨L,hL⟩:∃ L:Bool,L=decide ((x0.fdiv 32).fmod 8=1):=⟨_,rfl⟩
 obtain ⟨m1,i1,o1,s1,hm1,hi1,ho1⟩:=FZ x0 L
 obtain ⟨m2,i2,o2,s2,hm2,hi2,ho2⟩:=FZ x1 L
 obtain ⟨A1,B1,C1,D1,f1,h1⟩:=yU x2 (m:=m1) (i:=i1) (o:=o1) hm1 hi1.2 ho1.2
 obtain ⟨A2,B2,C2,D2,f2,h2⟩:=yU x3 (m:=m2) (i:=i2) (o:=o2) hm2 hi2.2 ho2.2
 have a1:=FW h1 (by omega) hi1 ho1
 have a2:=FW h2 (by omega) hi2 ho2
 have p1:=FY h1 h2 hm1 hm2 hi1 ho1 ho2
 have p2:=FY h1 h1 hm1 hm1 hi1 ho1 ho1
 have t1:=oK h1.sy (by omega) (by omega)
 have t2:=oK h2.sy (by omega) (by omega)
 have ce:∀ {k:Nat} {x:Int} (r:List (Option Sl)),Ax [.scr (ns.map T.int),.int (k:Nat)]=some (.int x) -> ak Ax (aa (ag 0) (aa (fC (.int (k:Nat))) ai)) (some (.sh (.scr (ns.map T.int))) :: r)=some (.int x,some (.sh (.scr (ns.map T.int))) :: r):=fun r h=>aH _ (dy rfl rfl) h
 have e1:bK 1 (aF fX (aF df (aF dc (ak Ax (aa (ag 0) (aa (fC (.int 0)) ai))) (fC (.int 32))) (fC (.int 8))) (fC (.int 1))) [some (.sh (.scr (ns.map T.int))),none,none,none,none,none,none]=some (.nx (zD ns L [none,none,none,none,none])):=by
  have a:=bg (g:=fX) (fb:=fC (.int 1)) (bg (g:=df) (fb:=fC (.int 8)) (bg (g:=dc) (fb:=fC (.int 32)) (ce [none,none,none,none,none,none] c0) rfl (uW (by decide) (cY (by decide) (by decide)))) rfl (oR (by decide))) rfl (lN _ _)
  rw [<- hL] at a
  exact fj a rfl
 have e2:bK 2 (ak FP (aa (ak Ax (aa (ag 0) (aa (fC (.int 0)) ai))) (aa (ag 1) ai))) (zD ns L [none,none,none,none,none])=some (.nx (zD ns L [some (.sh (cP m1 i1 o1)),none,none,none,none])):=fj (aH [.int x0,.bl L] (dy (ce _ c0) rfl) s1) rfl
 have e3:bK 3 (ak FP (aa (ak Ax (aa (ag 0) (aa (fC (.int 1)) ai))) (aa (ag 1) ai))) (zD ns L [some (.sh (cP m1 i1 o1)),none,none,none,none])=some (.nx (zD ns L [some (.sh (cP m1 i1 o1)),some (.sh (cP m2 i2 o2)),none,none,none])):=fj (aH [.int x1,.bl L] (dy (ce _ c1) rfl) s2) rfl
 have e4:bK 4 (ak FF (aa (ak Ax (aa (ag 0) (aa (fC (.int 2)) ai))) (aa (aF bC (ag 2) (fC (.int 0))) (aa (aF bC (ag 2) (fC (.int 1))) (aa (aF bC (ag 2) (fC (.int 2))) ai))))) (zD ns L [some (.sh (cP m1 i1 o1)),some (.sh (cP m2 i2 o2)),none,none,none])=some (.nx (zD ns L [some (.sh (cP m1 i1 o1)),some (.sh (cP m2 i2 o2)),some (.sh (aM A1 B1 C1 D1)),none,none])):=fj (aH _ (ju (ce _ c2) (bg (a:=cP m1 i1 o1) (b:=.int 0) rfl rfl rfl) (bg (a:=cP m1 i1 o1) (b:=.int 1) rfl rfl rfl) (bg (a:=cP m1 i1 o1) (b:=.int 2) rfl rfl rfl)) f1) rfl
 have e5:bK 5 (ak FF (aa (ak Ax (aa (ag 0) (aa (fC (.int 3)) ai))) (aa (aF bC (ag 3) (fC (.int 0))) (aa (aF bC (ag 3) (fC (.int 1))) (aa (aF bC (ag 3) (fC (.int 2))) ai))))) (zD ns L [some (.sh (cP m1 i1 o1)),some (.sh (cP m2 i2 o2)),some (.sh (aM A1 B1 C1 D1)),none,none])=some (.nx (zD ns L [some (.sh (cP m1 i1 o1)),some (.sh (cP m2 i2 o2)),some (.sh (aM A1 B1 C1 D1)),some (.sh (aM A2 B2 C2 D2)),none])):=fj (aH _ (ju (ce _ c3) (bg (a:=cP m2 i2 o2) (b:=.int 0) rfl rfl rfl) (bg (a:=cP m2 i2 o2) (b:=.int 1) rfl rfl rfl) (bg (a:=cP m2 i2 o2) (b:=.int 2) rfl rfl rfl)) f2) rfl
 have e6:cH 6 (aa (ak FK (aa (ag 4) ai)) (aa (ak FK (aa (ag 5) ai)) ai)) (zD ns L [some (.sh (cP m1 i1 o1)),some (.sh (cP m2 i2 o2)),some (.sh (aM A1 B1 C1 D1)),some (.sh (aM A2 B2 C2 D2)),none])=some (.nx (zD ns L [some (.sh (cP m1 i1 o1)),some (.sh (cP m2 i2 o2)),some (.sh (aM A1 B1 C1 D1)),some (.sh (aM A2 B2 C2 D2)),some (.own [aR A1 B1 C1 D1,aR A2 B2 C2 D2])])):=jZ (dy (aH [aM A1 B1 C1 D1] (eL rfl) a1) (aH [aM A2 B2 C2 D2] (eL rfl) a2)) oP
 obtain ⟨Z,hZ⟩:∃ Z,Z=zD ns L [some (.sh (cP m1 i1 o1)),some (.sh (cP m2 i2 o2)),some (.sh (aM A1 B1 C1 D1)),some (.sh (aM A2 B2 C2 D2)),some (.sh (.lst [aR A1 B1 C1 D1,aR A2 B2 C2 D2]))]:=⟨_,rfl⟩
 have v2:ag 2 Z=some (cP m1 i1 o1,Z):=by rw [hZ]; rfl
 have v3:ag 3 Z=some (cP m2 i2 o2,Z):=by rw [hZ]; rfl
 have v4:ag 4 Z=some (aM A1 B1 C1 D1,Z):=by rw [hZ]; rfl
 have v5:ag 5 Z=some (aM A2 B2 C2 D2,Z):=by rw [hZ]; rfl
 have v6:ag 6 Z=some (.lst [aR A1 B1 C1 D1,aR A2 B2 C2 D2],Z):=by rw [hZ]; rfl
 have y0:aF bC (ag 6) (fC (.int 0)) Z=some (aR A1 B1 C1 D1,Z):=bg v6 rfl rfl
 have y1:aF bC (ag 6) (fC (.int 1)) Z=some (aR A2 B2 C2 D2,Z):=bg v6 rfl rfl
 have e7:bG (eu (eR (ak DJ (aa (ag 6) (aa (cR (aa (ag 2) (aa (ag 3) ai))) (aa (cR (aa (ag 4) (aa (ag 5) ai))) ai)))))) (bz (fC (.bl false))) bp (zD ns L [some (.sh (cP m1 i1 o1)),some (.sh (cP m2 i2 o2)),some (.sh (aM A1 B1 C1 D1)),some (.sh (aM A2 B2 C2 D2)),some (.own [aR A1 B1 C1 D1,aR A2 B2 C2 D2])])=some (.nx Z):=by
  have w6:ag 6 (zD ns L [some (.sh (cP m1 i1 o1)),some (.sh (cP m2 i2 o2)),some (.sh (aM A1 B1 C1 D1)),some (.sh (aM A2 B2 C2 D2)),some (.own [aR A1 B1 C1 D1,aR A2 B2 C2 D2])])=some (.lst [aR A1 B1 C1 D1,aR A2 B2 C2 D2],Z):=by rw [hZ]; rfl
  have c:=DB _ (Bu w6 (dy (gO (dy v2 v3) oP) (gO (dy v4 v5) oP))) p1
  refine eZ (τ':=Z) ?_
  unfold eu eR
  rw [c]
  rfl
 have e8:bG (eu (eR (ak DJ (aa (cR (aa (aF bC (ag 6) (fC (.int 0))) (aa (aF bC (ag 6) (fC (.int 0))) ai))) (aa (cR (aa (ag 2) (aa (ag 2) ai))) (aa (cR (aa (ag 4) (aa (ag 4) ai))) ai)))))) (bz (fC (.bl false))) bp Z=some (.nx Z):=eZ (zH (aH _ (gy (gO (dy y0 y0) oP) (gO (dy v2 v2) oP) (gO (dy v4 v4) oP)) p2))
 have q1:aF fX (ak dList (aa (bo [(cU,oJ)] "tables" (aF bC (ag 6) (fC (.int 0))) ai) ai)) (ag 4) Z=some (.bl true,Z):=bg (aH [.tup [ao A1,ao B1,ao C1,ao D1]] (eL (iq (mn := "tables") y0 (by decide) t1)) rfl) v4 (cmp_self (neg:=false) (wq A1 B1 C1 D1) (by decide))
 have q2:aF fX (ak dList (aa (bo [(cU,oJ)] "tables" (aF bC (ag 6) (fC (.int 1))) ai) ai)) (ag 5) Z=some (.bl true,Z):=bg (aH [.tup [ao A2,ao B2,ao C2,ao D2]] (eL (iq (mn := "tables") y1 (by decide) t2)) rfl) v5 (cmp_self (neg:=false) (wq A2 B2 C2 D2) (by decide))
 refine cL rfl ?_
 show qC cU Ax FP FF FK DJ oJ [some (.sh (.scr (ns.map T.int))),none,none,none,none,none,none]=_
 unfold qC
 rw [aW e1,aW e2,aW e3,aW e4,aW e5,aW e6,aW e7,aW e8]
 exact dX ((jr q1).trans q2)
theorem xH (ns:List Int) (_:ns.length ≤ 63):cz 7 1 (qC cU Ax FP FF FK DJ oJ) [.scr (ns.map T.int)]=some (.bl true):=B7 ns
open PySem PySem.Spec PyProof.Rows L2 TM
theorem nA {α:Type} {us:List α} (h:us.length=1):∃ a,us=[a]:=List.length_eq_one_iff.mp h
theorem fZ {α:Type} {us:List α} (h:us.length=2):∃ a b,us=[a,b]:=by
 rcases us with _ | ⟨a,us⟩
 ·cases h
 ·obtain ⟨b,rfl⟩:=nA (us:=us) (by simpa using h)
  exact ⟨a,b,rfl⟩
theorem xM {α:Type} {us:List α} (h:us.length=3):∃ a b c,us=[a,b,c]:=by
 rcases us with _ | ⟨a,us⟩
 ·cases h
 ·obtain ⟨b,c,rfl⟩:=fZ (us:=us) (by simpa using h)
  exact ⟨a,b,c,rfl⟩
theorem B9 {α:Type} {us:List α} (h:us.length=4):∃ a b c d,us=[a,b,c,d]:=by
 rcases us with _ | ⟨a,us⟩
 ·cases h
 ·obtain ⟨b,c,d,rfl⟩:=xM (us:=us) (by simpa using h)
  exact ⟨a,b,c,d,rfl⟩
theorem J8 {α:Type} {us:List α} (h:us.length=5):∃ a b c d e,us=[a,b,c,d,e]:=by
 rcases us with _ | ⟨a,us⟩
 ·cases h
 ·obtain ⟨b,c,d,e,rfl⟩:=B9 (us:=us) (by simpa using h)
  exact ⟨a,b,c,d,e,rfl⟩
def fo (s:Stmt) (nm qn:Str) (pm:Value) (c:Addr):Obj:=⟨.type "function", none,.func (PySem.W.fnOf nm qn (iT s) (dk s) (aA s) .none .none .none pm none (.ref c) .none),#[]⟩
theorem fk {K:PySem.W.Frag} (st:Stmt) (f c:Addr) (nm qn:Str) (pm:Value) (l:K.lookup f=some (fo st nm qn pm c)) (h:PySem.W.codeIn K (.ref c) qn=true):eJ K nm qn st f (PySem.W.fnOf nm qn (iT st) (dk st) (aA st) .none .none .none pm none (.ref c) .none):=Ha l h (by unfold PySem.W.keepIn; dsimp only; rw [l]; rfl)
abbrev JJ:List T -> Option T:=(cz 7 1 (qC 295 (Ax) (FP) (FF) (FK) (DJ) (oJ)))
set_option maxHeartbeats 0 in
theorem all_mk {w:World} {h:Heap} {mg:Str -> Option Value} {fa:Addr} (X:(kk w.params).In h) (G:h.Ns mainGlobals mg) (hfa:mg "law" = some (.ref fa)) :
  ∃ fd:FuncData,(∀ (s:Shared) (v:Value),BindsTo s fd ⟨[v],[]⟩ [("_law_script", v)]) /\ ∀ base:Heap,(kk w.params).In base -> base.Ns mainGlobals mg -> fJ pg w (kk w.params) mg base pX 11 fa fd ["_law_script"] (spT (kk w.params) 1 JJ):=by
 have mq:∀ (x:Str) (v:Value),PySem.W.nsIn (kk w.params) mainGlobals x=some (some v) -> mg x=some v:=fun x v e=>PySem.W.mg_of X G e
 have mn:∀ x:Str,PySem.W.nsIn (kk w.params) mainGlobals x=some none -> mg x=none:=fun x e=>PySem.W.mg_none_of X G e
 have e:=hfa.symm.trans (mq "law" (.ref 464) (by kernel_rfl))
 cases e
 have a0:=fk (K:=kk w.params) jN 334 333 "_law_cell" "_law_cell" ip (by kernel_rfl) (by kernel_rfl)
 have b0:=a0.binds (ps:=["_law_script", "_law_k"]) fun _ _ _ _ _ _ us hl=>by obtain ⟨a,b,rfl⟩:=fZ hl; rfl
 have c0:=mq "_law_cell" (.ref 334) (by kernel_rfl)
 have d0:=fk (K:=kk w.params) jc 422 421 "_law_shape" "_law_shape" ip (by kernel_rfl) (by kernel_rfl)
 have e0:=d0.binds (ps:=["_law_cell_here", "_law_large"]) fun _ _ _ _ _ _ us hl=>by obtain ⟨a,b,rfl⟩:=fZ hl; rfl
 have f0:=mq "_law_shape" (.ref 422) (by kernel_rfl)
 have g0:=fk (K:=kk w.params) gQ 348 347 "_law_divisor" "_law_divisor" ip (by kernel_rfl) (by kernel_rfl)
 have i0:=g0.binds (ps:=["_law_one", "_law_other"]) fun _ _ _ _ _ _ us hl=>by obtain ⟨a,b,rfl⟩:=fZ hl; rfl
 have j0:=mq "_law_divisor" (.ref 348) (by kernel_rfl)
 have k0:=fk (K:=kk w.params) jP 355 354 "_law_frac" "_law_frac" ip (by kernel_rfl) (by kernel_rfl)
 have l0:=k0.binds (ps:=["_law_top", "_law_bottom"]) fun _ _ _ _ _ _ us hl=>by obtain ⟨a,b,rfl⟩:=fZ hl; rfl
 have o0:=mq "_law_frac" (.ref 355) (by kernel_rfl)
 have q0:=fk (K:=kk w.params) jb 341 340 "_law_mixed" "_law_mixed" ip (by kernel_rfl) (by kernel_rfl)
 have r0:=q0.binds (ps:=["_law_cell_here", "_law_k"]) fun _ _ _ _ _ _ us hl=>by obtain ⟨a,b,rfl⟩:=fZ hl; rfl
 have s0:=mq "_law_mixed" (.ref 341) (by kernel_rfl)
 have t0:=fk (K:=kk w.params) gR 362 361 "_law_numbers" "_law_numbers" ip (by kernel_rfl) (by kernel_rfl)
 have u0:=t0.binds (ps:=["_law_cell_here", "_law_many"]) fun _ _ _ _ _ _ us hl=>by obtain ⟨a,b,rfl⟩:=fZ hl; rfl
 have v0:=mq "_law_numbers" (.ref 362) (by kernel_rfl)
 have y0:=fk (K:=kk w.params) jU 367 366 "_law_rows" "_law_rows" ip (by kernel_rfl) (by kernel_rfl)
 have z0:=y0.binds (ps:=["_law_numbers_here", "_law_many", "_law_wide"]) fun _ _ _ _ _ _ us hl=>by obtain ⟨a,b,c,rfl⟩:=xM hl; rfl
 have a1:=mq "_law_rows" (.ref 367) (by kernel_rfl)
 have b1:=fk (K:=kk w.params) jO 374 373 "_law_four" "_law_four" ip (by kernel_rfl) (by kernel_rfl)
 have c1:=b1.binds (ps:=["_law_cell_here", "_law_many", "_law_ins", "_law_outs"]) fun _ _ _ _ _ _ us hl=>by obtain ⟨a,b,c,d,rfl⟩:=B9 hl; rfl
 have d1:=mq "_law_four" (.ref 374) (by kernel_rfl)
 have e1:=fk (K:=kk w.params) kZ 160 159 "is_whole" "is_whole" Dm (by kernel_rfl) (by kernel_rfl)
 have f1:=e1.binds (ps:=["thing"]) fun _ _ _ _ _ _ us hl=>by obtain ⟨a,rfl⟩:=nA hl; rfl
 have g1:=mq "is_whole" (.ref 160) (by kernel_rfl)
 have i1:=fk (K:=kk w.params) Iy 112 111 "half" "half" Lv (by kernel_rfl) (by kernel_rfl)
 have j1:=i1.binds (ps:=["one", "other"]) fun _ _ _ _ _ _ us hl=>by obtain ⟨a,b,rfl⟩:=fZ hl; rfl
 have k1:=mq "half" (.ref 112) (by kernel_rfl)
 have l1:=fk (K:=kk w.params) pw 105 104 "common" "common" Lv (by kernel_rfl) (by kernel_rfl)
 have o1:=l1.binds (ps:=["one", "other"]) fun _ _ _ _ _ _ us hl=>by obtain ⟨a,b,rfl⟩:=fZ hl; rfl
 have q1:=mq "common" (.ref 105) (by kernel_rfl)
 have r1:=fk (K:=kk w.params) iu 167 166 "is_fraction" "is_fraction" Dm (by kernel_rfl) (by kernel_rfl)
 have s1:=r1.binds (ps:=["thing"]) fun _ _ _ _ _ _ us hl=>by obtain ⟨a,rfl⟩:=nA hl; rfl
 have t1:=mq "is_fraction" (.ref 167) (by kernel_rfl)
 have u1:=fk (K:=kk w.params) pA 193 192 "is_row" "is_row" pW (by kernel_rfl) (by kernel_rfl)
 have v1:=u1.binds (ps:=["thing", "many"]) fun _ _ _ _ _ _ us hl=>by obtain ⟨a,b,rfl⟩:=fZ hl; rfl
 have y1:=mq "is_row" (.ref 193) (by kernel_rfl)
 have z1:=fk (K:=kk w.params) kY 198 197 "is_table" "is_table" pW (by kernel_rfl) (by kernel_rfl)
 have a2:=z1.binds (ps:=["thing", "many", "wide"]) fun _ _ _ _ _ _ us hl=>by obtain ⟨a,b,c,rfl⟩:=xM hl; rfl
 have b2:=mq "is_table" (.ref 198) (by kernel_rfl)
 have c2:=fk (K:=kk w.params) jX 306 305 "is_system" "is_system" Bk (by kernel_rfl) (by kernel_rfl)
 have d2:=c2.binds (ps:=["move", "push", "look", "through"]) fun _ _ _ _ _ _ us hl=>by obtain ⟨a,b,c,d,rfl⟩:=B9 hl; rfl
 have e2:=mq "is_system" (.ref 306) (by kernel_rfl)
 have f2:=fk (K:=kk w.params) dC 259 258 "__init__" "System.__init__" Bk (by kernel_rfl) (by kernel_rfl)
 have g2:=f2.binds (ps:=["self", "move", "push", "look", "through"]) fun _ _ _ _ _ _ us hl=>by obtain ⟨a,b,c,d,e,rfl⟩:=J8 hl; rfl
 have i2:=fk (K:=kk w.params) jR 429 428 "_law_made" "_law_made" ip (by kernel_rfl) (by kernel_rfl)
 have j2:=i2.binds (ps:=["_law_four_here"]) fun _ _ _ _ _ _ us hl=>by obtain ⟨a,rfl⟩:=nA hl; rfl
 have k2:=mq "_law_made" (.ref 429) (by kernel_rfl)
 have l2:=fk (K:=kk w.params) mO 237 236 "noughts" "noughts" pW (by kernel_rfl) (by kernel_rfl)
 have o2:=l2.binds (ps:=["many", "wide"]) fun _ _ _ _ _ _ us hl=>by obtain ⟨a,b,rfl⟩:=fZ hl; rfl
 have q2:=mq "noughts" (.ref 237) (by kernel_rfl)
 have r2:=fk (K:=kk w.params) mR 247 246 "widened" "widened" pW (by kernel_rfl) (by kernel_rfl)
 have s2:=r2.binds (ps:=["one", "other"]) fun _ _ _ _ _ _ us hl=>by obtain ⟨a,b,rfl⟩:=fZ hl; rfl
 have t2:=mq "widened" (.ref 247) (by kernel_rfl)
 have u2:=fk (K:=kk w.params) gj 227 226 "shared_bottom" "shared_bottom" pW (by kernel_rfl) (by kernel_rfl)
 have v2:=u2.binds (ps:=["row"]) fun _ _ _ _ _ _ us hl=>by obtain ⟨a,rfl⟩:=nA hl; rfl
 have y2:=mq "shared_bottom" (.ref 227) (by kernel_rfl)
 have z2:=fk (K:=kk w.params) pC 232 231 "raised" "raised" pW (by kernel_rfl) (by kernel_rfl)
 have a3:=z2.binds (ps:=["row", "low"]) fun _ _ _ _ _ _ us hl=>by obtain ⟨a,b,rfl⟩:=fZ hl; rfl
 have b3:=mq "raised" (.ref 232) (by kernel_rfl)
 have c3:=fk (K:=kk w.params) pB 215 214 "lifted" "lifted" pW (by kernel_rfl) (by kernel_rfl)
 have d3:=c3.binds (ps:=["row"]) fun _ _ _ _ _ _ us hl=>by obtain ⟨a,rfl⟩:=nA hl; rfl
 have e3:=mq "lifted" (.ref 215) (by kernel_rfl)
 have f3:=fk (K:=kk w.params) pD 242 241 "turned" "turned" pW (by kernel_rfl) (by kernel_rfl)
 have g3:=f3.binds (ps:=["table", "wide"]) fun _ _ _ _ _ _ us hl=>by obtain ⟨a,b,rfl⟩:=fZ hl; rfl
 have i3:=mq "turned" (.ref 242) (by kernel_rfl)
 have j3:=fk (K:=kk w.params) uh 188 187 "times" "times" Dm (by kernel_rfl) (by kernel_rfl)
 have k3:=j3.binds (ps:=["one", "other"]) fun _ _ _ _ _ _ us hl=>by obtain ⟨a,b,rfl⟩:=fZ hl; rfl
 have l3:=mq "times" (.ref 188) (by kernel_rfl)
 have o3:=fk (K:=kk w.params) yf 181 180 "plus" "plus" Dm (by kernel_rfl) (by kernel_rfl)
 have q3:=o3.binds (ps:=["one", "other"]) fun _ _ _ _ _ _ us hl=>by obtain ⟨a,b,rfl⟩:=fZ hl; rfl
 have r3:=mq "plus" (.ref 181) (by kernel_rfl)
 have s3:=fk (K:=kk w.params) mQ 205 204 "weighed" "weighed" pW (by kernel_rfl) (by kernel_rfl)
 have t3:=s3.binds (ps:=["one", "other"]) fun _ _ _ _ _ _ us hl=>by obtain ⟨a,b,rfl⟩:=fZ hl; rfl
 have u3:=mq "weighed" (.ref 205) (by kernel_rfl)
 have v3:=fk (K:=kk w.params) ye 174 173 "frac" "frac" Dm (by kernel_rfl) (by kernel_rfl)
 have y3:=v3.binds (ps:=["top", "bottom"]) fun _ _ _ _ _ _ us hl=>by obtain ⟨a,b,rfl⟩:=fZ hl; rfl
 have z3:=mq "frac" (.ref 174) (by kernel_rfl)
 have a4:=fk (K:=kk w.params) fQ 220 219 "weighed_lifted" "weighed_lifted" pW (by kernel_rfl) (by kernel_rfl)
 have b4:=a4.binds (ps:=["one", "other"]) fun _ _ _ _ _ _ us hl=>by obtain ⟨a,b,rfl⟩:=fZ hl; rfl
 have c4:=mq "weighed_lifted" (.ref 220) (by kernel_rfl)
 have d4:=fk (K:=kk w.params) mP 210 209 "product" "product" pW (by kernel_rfl) (by kernel_rfl)
 have e4:=d4.binds (ps:=["one", "other", "wide"]) fun _ _ _ _ _ _ us hl=>by obtain ⟨a,b,c,rfl⟩:=xM hl; rfl
 have f4:=mq "product" (.ref 210) (by kernel_rfl)
 have g4:=fk (K:=kk w.params) gP 280 279 "outs" "System.outs" Bk (by kernel_rfl) (by kernel_rfl)
 have i4:=g4.binds (ps:=["self"]) fun _ _ _ _ _ _ us hl=>by obtain ⟨a,rfl⟩:=nA hl; rfl
 have j4:=fk (K:=kk w.params) ir 273 272 "ins" "System.ins" Bk (by kernel_rfl) (by kernel_rfl)
 have k4:=j4.binds (ps:=["self"]) fun _ _ _ _ _ _ us hl=>by obtain ⟨a,rfl⟩:=nA hl; rfl
 have l4:=fk (K:=kk w.params) fP 285 284 "tables" "System.tables" Bk (by kernel_rfl) (by kernel_rfl)
 have o4:=l4.binds (ps:=["self"]) fun _ _ _ _ _ _ us hl=>by obtain ⟨a,rfl⟩:=nA hl; rfl
 have q4:=fk (K:=kk w.params) gi 266 265 "cells" "System.cells" Bk (by kernel_rfl) (by kernel_rfl)
 have r4:=q4.binds (ps:=["self"]) fun _ _ _ _ _ _ us hl=>by obtain ⟨a,rfl⟩:=nA hl; rfl
 have s4:=fk (K:=kk w.params) lV 313 312 "in_row" "in_row" md5 (by kernel_rfl) (by kernel_rfl)
 have t4:=s4.binds (ps:=["one", "other"]) fun _ _ _ _ _ _ us hl=>by obtain ⟨a,b,rfl⟩:=fZ hl; rfl
 have u4:=mq "in_row" (.ref 313) (by kernel_rfl)
 have v4:=fk (K:=kk w.params) ug 327 326 "apart" "apart" md5 (by kernel_rfl) (by kernel_rfl)
 have y4:=v4.binds (ps:=["one", "wide", "other", "other_wide"]) fun _ _ _ _ _ _ us hl=>by obtain ⟨a,b,c,d,rfl⟩:=B9 hl; rfl
 have z4:=mq "apart" (.ref 327) (by kernel_rfl)
 have a5:=fk (K:=kk w.params) lU 320 319 "beside" "beside" md5 (by kernel_rfl) (by kernel_rfl)
 have b5:=a5.binds (ps:=["one", "other"]) fun _ _ _ _ _ _ us hl=>by obtain ⟨a,b,rfl⟩:=fZ hl; rfl
 have c5:=mq "beside" (.ref 320) (by kernel_rfl)
 have d5:=fk (K:=kk w.params) jW 436 435 "_law_word" "_law_word" ip (by kernel_rfl) (by kernel_rfl)
 have e5:=d5.binds (ps:=["_law_way", "_law_one", "_law_other"]) fun _ _ _ _ _ _ us hl=>by obtain ⟨a,b,c,rfl⟩:=xM hl; rfl
 have f5:=mq "_law_word" (.ref 436) (by kernel_rfl)
 have g5:=fk (K:=kk w.params) jd 410 409 "_law_units" "_law_units" ip (by kernel_rfl) (by kernel_rfl)
 have i5:=g5.binds (ps:=["_law_many"]) fun _ _ _ _ _ _ us hl=>by obtain ⟨a,rfl⟩:=nA hl; rfl
 have j5:=mq "_law_units" (.ref 410) (by kernel_rfl)
 have k5:=fk (K:=kk w.params) ja 415 414 "_law_cases" "_law_cases" ip (by kernel_rfl) (by kernel_rfl)
 have l5:=k5.binds (ps:=["_law_many", "_law_ins"]) fun _ _ _ _ _ _ us hl=>by obtain ⟨a,b,rfl⟩:=fZ hl; rfl
 have o5:=mq "_law_cases" (.ref 415) (by kernel_rfl)
 have q5:=fk (K:=kk w.params) jT 381 380 "_law_plus" "_law_plus" ip (by kernel_rfl) (by kernel_rfl)
 have r5:=q5.binds (ps:=["_law_one", "_law_other"]) fun _ _ _ _ _ _ us hl=>by obtain ⟨a,b,rfl⟩:=fZ hl; rfl
 have s5:=mq "_law_plus" (.ref 381) (by kernel_rfl)
 have t5:=fk (K:=kk w.params) gS 388 387 "_law_weighed" "_law_weighed" ip (by kernel_rfl) (by kernel_rfl)
 have u5:=t5.binds (ps:=["_law_row", "_law_other"]) fun _ _ _ _ _ _ us hl=>by obtain ⟨a,b,rfl⟩:=fZ hl; rfl
 have v5:=mq "_law_weighed" (.ref 388) (by kernel_rfl)
 have y5:=fk (K:=kk w.params) kX 393 392 "_law_led" "_law_led" ip (by kernel_rfl) (by kernel_rfl)
 have z5:=y5.binds (ps:=["_law_table", "_law_row"]) fun _ _ _ _ _ _ us hl=>by obtain ⟨a,b,rfl⟩:=fZ hl; rfl
 have a6:=mq "_law_led" (.ref 393) (by kernel_rfl)
 have b6:=fk (K:=kk w.params) iZ 398 397 "_law_added" "_law_added" ip (by kernel_rfl) (by kernel_rfl)
 have c6:=b6.binds (ps:=["_law_one", "_law_other"]) fun _ _ _ _ _ _ us hl=>by obtain ⟨a,b,rfl⟩:=fZ hl; rfl
 have d6:=mq "_law_added" (.ref 398) (by kernel_rfl)
 have e6:=fk (K:=kk w.params) jV 405 404 "_law_turn" "_law_turn" ip (by kernel_rfl) (by kernel_rfl)
 have f6:=e6.binds (ps:=["_law_four_here", "_law_state", "_law_given"]) fun _ _ _ _ _ _ us hl=>by obtain ⟨a,b,c,rfl⟩:=xM hl; rfl
 have g6:=mq "_law_turn" (.ref 405) (by kernel_rfl)
 have i6:=fk (K:=kk w.params) jM 443 442 "_law_both" "_law_both" ip (by kernel_rfl) (by kernel_rfl)
 have j6:=i6.binds (ps:=["_law_way", "_law_one", "_law_other", "_law_state", "_law_given"]) fun _ _ _ _ _ _ us hl=>by obtain ⟨a,b,c,d,e,rfl⟩:=J8 hl; rfl
 have k6:=mq "_law_both" (.ref 443) (by kernel_rfl)
 have l6:=fk (K:=kk w.params) jQ 450 449 "_law_good" "_law_good" ip (by kernel_rfl) (by kernel_rfl)
 have o6:=l6.binds (ps:=["_law_way", "_law_found", "_law_one", "_law_other"]) fun _ _ _ _ _ _ us hl=>by obtain ⟨a,b,c,d,rfl⟩:=B9 hl; rfl
 have q6:=mq "_law_good" (.ref 450) (by kernel_rfl)
 have r6:=fk (K:=kk w.params) jS 457 456 "_law_pair" "_law_pair" ip (by kernel_rfl) (by kernel_rfl)
 have s6:=r6.binds (ps:=["_law_systems", "_law_shapes", "_law_fours"]) fun _ _ _ _ _ _ us hl=>by obtain ⟨a,b,c,rfl⟩:=xM hl; rfl
 have t6:=mq "_law_pair" (.ref 457) (by kernel_rfl)
 have u6:=fk (K:=kk w.params) qX 464 463 "law" "law" ip (by kernel_rfl) (by kernel_rfl)
 have v6:=u6.binds (ps:=["_law_script"]) fun _ _ _ _ _ _ us hl=>by obtain ⟨a,rfl⟩:=nA hl; rfl
 have y6:=mq "law" (.ref 464) (by kernel_rfl)
 have z6:mZ (kk w.params) 295:=⟨by kernel_rfl,by kernel_rfl,by kernel_rfl,by kernel_rfl⟩
 have a7:=mq "System" (.ref 295) (by kernel_rfl)
 have b7:=mq "TooMany" (.ref 96) (by kernel_rfl)
 have c7:=mq "EchoError" (.ref 38) (by kernel_rfl)
 have d7:=mq "NoTable" (.ref 58) (by kernel_rfl)
 have e7:=mq "NoFit" (.ref 77) (by kernel_rfl)
 have f7:lB (kk w.params) 96 [38]:=⟨iB.of (by kernel_rfl),(List.forall_mem_cons.mpr ⟨⟨(vE),iB.of (by kernel_rfl)⟩,(fun _ h=>absurd h List.not_mem_nil)⟩)⟩
 have g7:lB (kk w.params) 58 [38]:=⟨iB.of (by kernel_rfl),(List.forall_mem_cons.mpr ⟨⟨(vE),iB.of (by kernel_rfl)⟩,(fun _ h=>absurd h List.not_mem_nil)⟩)⟩
 have i7:lB (kk w.params) 77 [38]:=⟨iB.of (by kernel_rfl),(List.forall_mem_cons.mpr ⟨⟨(vE),iB.of (by kernel_rfl)⟩,(fun _ h=>absurd h List.not_mem_nil)⟩)⟩
 have j7:iB (kk w.params) 38 vE:=iB.of (by kernel_rfl)
 have k7:∀ C ∈ ([77,96]:List Addr),∃ up,lB (kk w.params) C up /\ (38=C \/ 38 ∈ up):=(List.forall_mem_cons.mpr ⟨⟨_,i7,Or.inr (by decide)⟩,(List.forall_mem_cons.mpr ⟨⟨_,f7,Or.inr (by decide)⟩,(fun _ h=>absurd h List.not_mem_nil)⟩)⟩)
 have l7:∀ a ∈ ([(77,true),(96,false)]:List (Addr × Bool)),An (kk w.params) 77 a.1 a.2:=(List.forall_mem_cons.mpr ⟨⟨⟨_,⟨i7.cls,by kernel_rfl,by kernel_rfl,by kernel_rfl,by kernel_rfl,by kernel_rfl⟩⟩,by kernel_rfl⟩,(List.forall_mem_cons.mpr ⟨⟨⟨_,⟨f7.cls,by kernel_rfl,by kernel_rfl,by kernel_rfl,by kernel_rfl,by kernel_rfl⟩⟩,by kernel_rfl⟩,(fun _ h=>absurd h List.not_mem_nil)⟩)⟩)
 have o7:∀ a ∈ ([(77,false),(96,true)]:List (Addr × Bool)),An (kk w.params) 96 a.1 a.2:=(List.forall_mem_cons.mpr ⟨⟨⟨_,⟨i7.cls,by kernel_rfl,by kernel_rfl,by kernel_rfl,by kernel_rfl,by kernel_rfl⟩⟩,by kernel_rfl⟩,(List.forall_mem_cons.mpr ⟨⟨⟨_,⟨f7.cls,by kernel_rfl,by kernel_rfl,by kernel_rfl,by kernel_rfl,by kernel_rfl⟩⟩,by kernel_rfl⟩,(fun _ h=>absurd h List.not_mem_nil)⟩)⟩)
 have q7:∀ C ∈ ([295]:List Addr),mZ (kk w.params) C /\ fq (kk w.params) C "four" := (List.forall_mem_cons.mpr ⟨⟨z6,(by kernel_rfl:PySem.W.findIn (kk w.params) (.ref 295) "four" = some none)⟩,(fun _ h=>absurd h List.not_mem_nil)⟩)
 have r7:=mn "len" (by kernel_rfl)
 have s7:=mn "abs" (by kernel_rfl)
 have t7:=mn "range" (by kernel_rfl)
 have u7:=mn "int" (by kernel_rfl)
 have v7:=mn "isinstance" (by kernel_rfl)
 have y7:=mn "bool" (by kernel_rfl)
 have z7:=mn "tuple" (by kernel_rfl)
 have a8:=mn "list" (by kernel_rfl)
 have b8:=mn "all" (by kernel_rfl)
 have c8:=mn "zip" (by kernel_rfl)
 have d8:=mn "max" (by kernel_rfl)
 have e8:=mn "sum" (by kernel_rfl)
 have f8:=mq "SHORT" (.int (4000) 292) (by kernel_rfl)
 have g8:=mq "MOST_LINES" (.int (2) 526) (by kernel_rfl)
 have i8:=mq "MOST_CELLS" (.int (8) 524) (by kernel_rfl)
 have j8:=mq "NOUGHT" (.ref 153) (by kernel_rfl)
 have k8:(kk w.params).lookup 153=some ⟨.type "tuple", none,.seq #[.int (0) 396,.int (1) 397] 0,#[]⟩:=by kernel_rfl
 have l8:=mq "SHORT_QUOTIENT" (.int (8000) 296) (by kernel_rfl)
 refine ⟨PySem.W.fnOf "law" "law" (iT qX) (dk qX) (aA qX) .none .none .none ip none (.ref 463) .none,fun s v=>.of_eq rfl,fun base _ _=>?_⟩
 have o8:Def pg w (kk w.params) mg base 1 "_law_cell" 2 (Ax):=tM a0 b0 c0  r7
 have q8:Def pg w (kk w.params) mg base 1 "_law_shape" 2 (FP):=qt d0 e0 f0  
 have r8:Def pg w (kk w.params) mg base 1 "_law_divisor" 2 (dA):=(nG (P:=pg) (w:=w) (base:=base) (k:=0) B g0 i0 j0  s7).imp pK
 have s8:Def pg w (kk w.params) mg base 2 "_law_frac" 2 (zE):=(tP (P:=pg) (w:=w) (base:=base) (k:=1) k0 l0 o0 (r8.mono (by decide)) ).imp wt
 have t8:Def pg w (kk w.params) mg base 1 "_law_mixed" 2 (FL):=qr q0 r0 s0  
 have u8:Def pg w (kk w.params) mg base 3 "_law_numbers" 2 (JL):=nI t0 u0 v0 (s8.mono (by decide)) (t8.mono (by decide)) t7
 have v8:Def pg w (kk w.params) mg base 1 "_law_rows" 3 (FN):=tW y0 z0 a1  t7
 have y8:Def pg w (kk w.params) mg base 4 "_law_four" 4 (FF):=tN b1 c1 d1 (u8.mono (by decide)) (v8.mono (by decide)) 
 have z8:Def pg w (kk w.params) mg base 1 "is_whole" 1 (JI):=vW e1 f1 g1  u7 v7 y7
 have a9:Def pg w (kk w.params) mg base 0 "half" 2 (fun _=>none):=Def.zero i1 j1 k1
 have b9:Def pg w (kk w.params) mg base 1 "common" 2 (dA):=(AR (P:=pg) (w:=w) (base:=base) (k:=0) B l1 o1 q1 (a9.mono (by decide)) s7 f8).imp A8
 have c9:Def pg w (kk w.params) mg base 2 "is_fraction" 1 (FH):=pe r1 s1 t1 (z8.mono (by decide)) (b9.mono (by decide)) z7 v7 r7
 have d9:Def pg w (kk w.params) mg base 3 "is_row" 2 (GZ):=AU u1 v1 y1 (c9.mono (by decide)) a8 v7 r7 b8
 have e9:Def pg w (kk w.params) mg base 4 "is_table" 3 (Li):=vV z1 a2 b2 (d9.mono (by decide)) a8 v7 r7 b8
 have f9:Def pg w (kk w.params) mg base 5 "is_system" 4 (oI):=tZ c2 d2 e2 (e9.mono (by decide)) a8 v7 r7 g8
 have g9:mj pg w (kk w.params) mg base 7 "System" 295 4 (BA):=xV f2 g2 z6 ⟨by kernel_rfl,by kernel_rfl,by kernel_rfl,by kernel_rfl⟩ a7 (by kernel_rfl:PySem.W.findIn (kk w.params) (.ref 295) "four" = some none) (f9.mono (by decide)) r7 z7 i8
 have i9:lE pg w (kk w.params) mg base 7 "System" 295 4 (FQ):=vS f2 g2 ⟨by kernel_rfl,by kernel_rfl,by kernel_rfl,by kernel_rfl⟩ a7 (f9.mono (by decide)) f7 g7 d7 b7 r7 i8
 have j9:Def pg w (kk w.params) mg base 8 "_law_made" 1 (FK):=tR i2 j2 k2 (g9.mono (by decide)) 
 have k9:Def pg w (kk w.params) mg base 1 "noughts" 2 (DH):=xZ l2 o2 q2  t7 j8 k8
 have l9:Def pg w (kk w.params) mg base 1 "widened" 2 (BB):=x9 r2 s2 t2  c8
 have o9:Def pg w (kk w.params) mg base 2 "shared_bottom" 1 (Lu):=(mK (P:=pg) (w:=w) (base:=base) (k:=1) u2 v2 y2 (b9.mono (by decide)) ).imp mV
 have q9:Def pg w (kk w.params) mg base 1 "raised" 2 (Ls):=(AW (P:=pg) (w:=w) (base:=base) (k:=0) z2 a3 b3  ).imp A9
 have r9:Def pg w (kk w.params) mg base 3 "lifted" 1 (Bz):=AV c3 d3 e3 (o9.mono (by decide)) (q9.mono (by decide)) d8
 have s9:mi pg w (kk w.params) mg base 1 "turned" 2 (Kf):=(xW (P:=pg) (w:=w) (base:=base) (k:=0) f3 g3 i3  t7).imp Ba
 have t9:Def pg w (kk w.params) mg base 2 "times" 2 (Kd):=(Cm (P:=pg) (w:=w) (base:=base) (k:=1) j3 k3 l3 (b9.mono (by decide)) ).imp CT
 have u9:Def pg w (kk w.params) mg base 2 "plus" 2 (Ji):=(Em (P:=pg) (w:=w) (base:=base) (k:=1) o3 q3 r3 (b9.mono (by decide)) ).imp EZ
 have v9:Def pg w (kk w.params) mg base 3 "weighed" 2 (Ll):=x8 s3 t3 u3 (t9.mono (by decide)) (u9.mono (by decide)) c8 j8 k8
 have y9:Def pg w (kk w.params) mg base 2 "frac" 2 (vK):=(El (P:=pg) (w:=w) (base:=base) (k:=1) v3 y3 z3 (b9.mono (by decide)) l8).imp EY
 have z9:Def pg w (kk w.params) mg base 4 "weighed_lifted" 2 (Dl):=lS a4 b4 c4 (v9.mono (by decide)) (y9.mono (by decide)) c8 e8
 have a10:mi pg w (kk w.params) mg base 5 "product" 3 (Lj):=vT (P:=pg) (w:=w) (base:=base) (k:=4) d4 e4 f4 (r9.mono (by decide)) (s9.plain.mono (by decide)) (z9.mono (by decide)) 
 have b10:dG pg w (kk w.params) mg base 1 295 "outs" 1 (wG):=mJ g4 i4 z6 ⟨by kernel_rfl,by kernel_rfl,by kernel_rfl⟩ q7 r7
 have c10:dG pg w (kk w.params) mg base 1 295 "ins" 1 (uT):=nE j4 k4 z6 ⟨by kernel_rfl,by kernel_rfl,by kernel_rfl⟩ q7 r7
 have d10:dG pg w (kk w.params) mg base 1 295 "tables" 1 (oJ):=kU l4 o4 z6 ⟨by kernel_rfl,by kernel_rfl,by kernel_rfl⟩ q7 a8 z7
 have e10:dG pg w (kk w.params) mg base 1 295 "cells" 1 (uS):=lQ q4 r4 z6 ⟨by kernel_rfl,by kernel_rfl,by kernel_rfl⟩ q7 r7
 have f10:Def pg w (kk w.params) mg base 8 "in_row" 2 (DG):=AS s4 t4 u4 (k9.mono (by decide)) (l9.mono (by decide)) (a10.plain.mono (by decide)) (List.forall_mem_cons.mpr ⟨b10.mono (by decide),(fun _ h=>absurd h List.not_mem_nil)⟩) (List.forall_mem_cons.mpr ⟨c10.mono (by decide),(fun _ h=>absurd h List.not_mem_nil)⟩) (List.forall_mem_cons.mpr ⟨d10.mono (by decide),(fun _ h=>absurd h List.not_mem_nil)⟩) (List.forall_mem_cons.mpr ⟨e10.mono (by decide),(fun _ h=>absurd h List.not_mem_nil)⟩) (g9.mono (by decide)) 
 have g10:ot pg w (kk w.params) mg base 8 "in_row" 2 (wY):=xY s4 t4 u4 (k9.mono (by decide)) (l9.mono (by decide)) (a10.plain.mono (by decide)) (List.forall_mem_cons.mpr ⟨b10.mono (by decide),(fun _ h=>absurd h List.not_mem_nil)⟩) (List.forall_mem_cons.mpr ⟨c10.mono (by decide),(fun _ h=>absurd h List.not_mem_nil)⟩) (List.forall_mem_cons.mpr ⟨d10.mono (by decide),(fun _ h=>absurd h List.not_mem_nil)⟩) (List.forall_mem_cons.mpr ⟨e10.mono (by decide),(fun _ h=>absurd h List.not_mem_nil)⟩) (i9.mono (by decide)) i7 e7 
 have i10:Def pg w (kk w.params) mg base 2 "apart" 4 (qc):=Ck v4 y4 z4 (k9.mono (by decide)) (l9.mono (by decide)) r7
 have j10:Def pg w (kk w.params) mg base 8 "beside" 2 (DF):=AQ a5 b5 c5 (i10.mono (by decide)) (List.forall_mem_cons.mpr ⟨c10.mono (by decide),(fun _ h=>absurd h List.not_mem_nil)⟩) (List.forall_mem_cons.mpr ⟨b10.mono (by decide),(fun _ h=>absurd h List.not_mem_nil)⟩) (List.forall_mem_cons.mpr ⟨e10.mono (by decide),(fun _ h=>absurd h List.not_mem_nil)⟩) (List.forall_mem_cons.mpr ⟨d10.mono (by decide),(fun _ h=>absurd h List.not_mem_nil)⟩) (g9.mono (by decide)) 
 have k10:ot pg w (kk w.params) mg base 8 "beside" 2 (wX):=xX a5 b5 c5 (i10.mono (by decide)) (List.forall_mem_cons.mpr ⟨c10.mono (by decide),(fun _ h=>absurd h List.not_mem_nil)⟩) (List.forall_mem_cons.mpr ⟨b10.mono (by decide),(fun _ h=>absurd h List.not_mem_nil)⟩) (List.forall_mem_cons.mpr ⟨e10.mono (by decide),(fun _ h=>absurd h List.not_mem_nil)⟩) (List.forall_mem_cons.mpr ⟨d10.mono (by decide),(fun _ h=>absurd h List.not_mem_nil)⟩) (i9.mono (by decide)) i7 e7 
 have l10:Def pg w (kk w.params) mg base 9 "_law_word" 3 (wZ):=tY d5 e5 f5 (f10.mono (by decide)) (j10.mono (by decide)) (g10.mono (by decide)) (k10.mono (by decide)) j7 k7 l7 o7 c7 e7 b7 v7 u7
 have o10:Def pg w (kk w.params) mg base 1 "_law_units" 1 (FR):=qu g5 i5 j5  t7 u7
 have q10:Def pg w (kk w.params) mg base 2 "_law_cases" 2 (FC):=qq k5 l5 o5 (o10.mono (by decide)) 
 have r10:Def pg w (kk w.params) mg base 3 "_law_plus" 2 (FJ):=tV q5 r5 s5 (s8.mono (by decide)) 
 have s10:Def pg w (kk w.params) mg base 4 "_law_weighed" 2 (JK):=nJ t5 u5 v5 (s8.mono (by decide)) (r10.mono (by decide)) c8
 have t10:Def pg w (kk w.params) mg base 5 "_law_led" 2 (Jf):=vU y5 z5 a6 (s10.mono (by decide)) 
 have u10:Def pg w (kk w.params) mg base 4 "_law_added" 2 (Je):=qo b6 c6 d6 (r10.mono (by decide)) c8
 have v10:Def pg w (kk w.params) mg base 6 "_law_turn" 3 (Az):=tX e6 f6 g6 (t10.mono (by decide)) (u10.mono (by decide)) 
 have y10:Def pg w (kk w.params) mg base 7 "_law_both" 5 (Fz):=tL i6 j6 k6 (v10.mono (by decide)) r7
 have z10:Def pg w (kk w.params) mg base 8 "_law_good" 4 (By):=tQ l6 o6 q6 (q10.mono (by decide)) (v10.mono (by decide)) (y10.mono (by decide)) (List.forall_mem_cons.mpr ⟨e10.mono (by decide),(fun _ h=>absurd h List.not_mem_nil)⟩) (List.forall_mem_cons.mpr ⟨c10.mono (by decide),(fun _ h=>absurd h List.not_mem_nil)⟩) (List.forall_mem_cons.mpr ⟨b10.mono (by decide),(fun _ h=>absurd h List.not_mem_nil)⟩) (List.forall_mem_cons.mpr ⟨d10.mono (by decide),(fun _ h=>absurd h List.not_mem_nil)⟩) r7
 have a11:Def pg w (kk w.params) mg base 10 "_law_pair" 3 (DJ):=tU r6 s6 t6 (l10.mono (by decide)) (z10.mono (by decide)) t7
 exact G8 (P:=pg) (w:=w) (base:=base) (k:=10) u6 (o8.mono (by decide)) (q8.mono (by decide)) (y8.mono (by decide)) (j9.mono (by decide)) (a11.mono (by decide)) (List.forall_mem_cons.mpr ⟨d10.mono (by decide),(fun _ h=>absurd h List.not_mem_nil)⟩) a8
theorem walk {q:Program} {loose:List Str} {XP:(Str -> Option Value) -> Heap -> Prop} {d:DefRec} (hn:d.name = "law") (hdf:d.params.defaults=[]):PySem.W.WalkO q loose XP hk.says lw.row.toRowW d [] (fun f vs=>PySem.call f vs):=
 L2.Ae (n:=63) (k:=11) (x := "_law_script") (CX:=fun _=>pX) (K:=kk) (sp:=fun w=>spT (kk w.params) 1 JJ) rfl (by decide) hdf ⟨rfl,by decide,by decide⟩ (fun _ _ Y=>PySem.W.kIn_of Y) (fun w mg fa h KX G e=>all_mk KX G (by rw [hn] at e; exact e))
  (fun w H a ns hl _ hS=>⟨rfl,H,[.scr (ns.map T.int)],.bl true,aQ.refl H,⟨_,[],rfl,⟨a,ns.map V.int,rfl,hS,qW ns⟩,rfl⟩,xH ns hl,fun _ _ v _ r=>r⟩) fun _ _ _ _ _ z=>z
end My
open PySem PySem.W PyProof.Rows
set_option maxHeartbeats 0 in
theorem PySem.Challenge.cw_echohouse_k41_in_a_row_and_beside_holds : PySem.Challenge.rw_echohouse_k41_in_a_row_and_beside.Holds := by
 refine holds_law My.ws fun said=>?_
 refine holds_open (q:=My.qv) (loose:=[]) (Xt:=My.xt) (XP:=XL My.qv []) My.hl (Hook.of My.hk) (Hook.keeps My.hk)
  (fun s e=>xl_of s (Bool.and_eq_true_iff.mp e).1) XL.keeps (by rfl) (by rfl) (by rfl)
  (fun s e=>recFacts_of (Bool.and_eq_true_iff.mp e).2) (by rfl) said (by decide +kernel) ⟨rfl,rfl,rfl,rfl,rfl,by decide +kernel⟩ ?hw ?hc
 case hw=>w_witness2
 case hc=>exact My.walk rfl rfl
