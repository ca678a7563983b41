import PyProof.Rows.All
import Wide.All
import OpenK.AllK
import PySem.Challenge.RW_echohouse_k54_findings_of_anything
noncomputable section
local macro_rules | `(tactic| walk_at "sc")=>`(tactic| exact ⟨rfl,rfl,rfl,by decide +kernel,rfl,by decide +kernel,by decide +kernel⟩)
set_option Elab.async false
set_option linter.all false
set_option maxRecDepth 100000
set_option maxHeartbeats 4000000
local macro_rules | `(tactic| walk_at "ev")=>do
  let ns:List Lean.Name:=[`Bool.false_eq_true,`Bool.not_false,`Bool.not_true,`uz,`uA,`xY,`List.cons_append,`List.getElem?_cons_succ,`List.getElem?_cons_zero,`List.length_cons,`List.length_nil,`List.map_cons,`List.map_nil,`List.nil_append,`List.replicate_succ,`List.replicate_zero,`List.set_cons_succ,`List.set_cons_zero,`Nat.reduceAdd,`Nat.reduceLeDiff,`Nat.reduceSub,`Nat.sub_self,`Nat.zero_add,`Option.bind_none,`Option.bind_some,`and_self,`and_true,`beq_self_eq_true,`boolsOf,`vP,`om,`dz,`Eb,`Ed,`ff,`decide_false,`decide_true,`bF,`Ee,`bY,`oA,`uN,`fC,`aq,`Aq,`Ar,`af,`yo,`qb,`vU,`jq,`Fy,`bz,`bG,`gJ,`aX,`az,`yp,`bU,`aJ,`lS,`Ef,`rM,`Co,`aZ,`Cp,`aL,`Cq,`bJ,`dg,`Fz,`fL,`cm,`ek,`rN,`rO,`ai,`cT,`Cr,`dB,`wj,`wk,`kA,`AD,`uQ,`kZ,`wm,`AE,`FC,`wo,`wq,`wt,`wu,`wx,`yu,`yw,`qe,`di,`aI,`kB,`kC,`if_false,`if_true,`tX,`qg,`qh,`rV,`qi,`uW,`rW,`oG,`oH,`oI,`qj,`oJ,`rX,`qk,`mV,`oK,`oM,`ql,`oN,`rY,`qm,`mW,`oO,`oP,`qo,`oQ,`rZ,`qp,`mX,`oR,`oS,`qq,`oU,`sd,`qr,`mY,`oW,`oX,`qt,`oY,`sf,`qu,`mZ,`oZ,`pb,`qw,`pd,`si,`qx,`m3,`pe,`pf,`qy,`pj,`sj,`qz,`m5,`ite_false,`ite_true,`Fg,`Fh,`Ep,`Es,`FY,`Fi,`fM,`FZ,`ne_eq,`not_false_eq_true,`not_true_eq_false,`reduceCtorEq,`reduceIte,`EG,`D1,`true_and,`BF]
  let mut ls:Array (Lean.TSyntax `Lean.Parser.Tactic.simpLemma):=#[]
  for n in ns do
   unless (<- Lean.Macro.resolveGlobalName n).isEmpty do
    ls:=ls.push (<- `(Lean.Parser.Tactic.simpLemma| $(Lean.mkIdent n):ident))
  `(tactic| simp only [$[$ls],*, *])
namespace My
open PySem PySem.Spec PyProof.Rows
def tp (i:Nat):Stmt:=PySem.Challenge.pw_echohouse_k54_findings_of_anything.main.body.getD i (.Pass ⟨0,0,0,0⟩)
def hA (s:Stmt):Arguments:=match s with
 | .FunctionDef _ a _ _ _ _ _ _ _ _=>a
 |_=>⟨[],[],none,[],[],none,[]⟩
def hB (s:Stmt):List Stmt:=match s with
 | .FunctionDef _ _ b _ _ _ _ _ _ _=>b
 |_=>[]
def hS (s:Stmt):Scope:=match s with
 | .FunctionDef _ _ _ _ _ _ sc _ _ _=>sc
 |_=>{ kind:=.function,names:=[],isGenerator:=false,isCoroutine:=false }
def tc (i j:Nat):Stmt:=match tp i with
 | .ClassDef _ _ _ body _ _ _ _ _ _ _=>body.getD j (.Pass ⟨0,0,0,0⟩)
 |_=>.Pass ⟨0,0,0,0⟩
abbrev pg:Program:=PySem.Challenge.pw_echohouse_k54_findings_of_anything
abbrev lw:PySem.W.OpenLaw:=PySem.Challenge.rw_echohouse_k54_findings_of_anything
def qv:Program:={ pg with main:={ pg.main with body:=([1,2,3,4,5,7,8,9,10,11,12,13,14,15,16,17,19,20,21,22,23,24,26,27,28,29,30,31,32,33,34,35,36,37,38,40,41,42,43,44,45,46,47,48,49,50,51,52,53,55,56,58,59,60,61,62,64,65,66,67,68,69,70,72,73,74,75,76,78,79,80,81,82,83,84,85,86,87]:List Nat).map tp } }
def cf:Str := "/claim/cut.py"
def EY (nm qn:Str)(t l n k:Nat)(a b c d e:Value):Obj:=⟨.type "code", none,.fields #[.str nm t,.str qn (t+1),.str cf (t+2),.int l 0,.int n 0,.int 0 0,.int 0 0,.int 3 0,a,.bool true,.int 181 0,b,.none,c,d,e,.int k 0,.int l 0,.str cf (k+1)],#[]⟩
def mS (c:Nat)(nm qn:Str)(t l n k:Nat):Obj:=EY nm qn t l n k (.ref (c-5)) (.ref (c-4)) (.ref (c-3)) (.ref (c-2)) (.ref (c-1))
def DN (c:Nat)(nm qn:Str)(t l n k:Nat):Obj:=EY nm qn t l n k (.ref (c-3)) (.ref (c-2)) .none .none (.ref (c-1))
def cA (c:Nat)(nm:Str)(t l n k:Nat):Obj:=mS c nm nm t l n k
def cB (c:Nat)(nm:Str)(t l n k:Nat):Obj:=DN c nm nm t l n k
def kK (s:Stmt)(nm qn:Str)(pm:Value)(c:Addr):Obj:=⟨.type "function", none,.func (PySem.W.fnOf nm qn (hA s) (hB s) (hS s) .none .none .none pm none (.ref c) .none),#[]⟩
def fh (s:Stmt)(nm:Str)(pm:Value)(c:Addr):Obj:=kK s nm nm pm c
def de (P:Params)(x:Str)(t:Tok)(v:Value):DictEntry:=⟨PyData.keyHash P x,.str x t,v⟩
def m6:Value:=.str "law_echohouse_k54_findings_of_anything" 1114
def DW:Value:=.str "echohouse.divisors" 306
def BR:Value:=.str "echohouse.fracs" 410
def vv:Value:=.str "echohouse.tables" 461
def vw:Value:=.str "echohouse.systems" 755
def md5:Value:=.str "echohouse.steering" 853
def CQ:Value:=.str "echohouse.errors" 187
def ud:Value:=.str "echohouse.telling" 1013
def d3 (P:Params):List DictEntry:=[de P "__name__" 165 (.str "law_echohouse_k54_findings_of_anything" 1114),de P "__doc__" 166 (.none),de P "__package__" 167 (.none),de P "__loader__" 168 (.builtin "__main__.__loader__#opaque"),de P "__spec__" 169 (.none),de P "__annotations__" 170 (.ref 6),de P "__builtins__" 171 (.ref 4),de P "__file__" 173 (.str "/claim/cut.py" 172),de P "__cached__" 174 (.none),de P "EchoError" 213 (.ref 31),de P "NoTable" 236 (.ref 51),de P "NoFit" 259 (.ref 70),de P "NoTurns" 282 (.ref 89),de P "TooMany" 305 (.ref 108),de P "SHORT" 309 (.int (4000) 308),de P "SHORT_HALF" 311 (.int (256) 310),de P "SHORT_QUOTIENT" 313 (.int (8000) 312),de P "common" 322 (.ref 117),de P "half" 334 (.ref 124),de P "stepped" 344 (.ref 131),de P "step" 359 (.ref 138),de P "upper_half" 376 (.ref 145),de P "factors_joined" 392 (.ref 152),de P "divided" 398 (.ref 157),de P "low_inverse" 409 (.ref 164),de P "NOUGHT" 414 (.ref 165),de P "is_whole" 421 (.ref 172),de P "is_fraction" 430 (.ref 179),de P "frac" 439 (.ref 186),de P "plus" 450 (.ref 193),de P "times" 460 (.ref 200),de P "is_row" 468 (.ref 205),de P "is_table" 474 (.ref 210),de P "weighed" 485 (.ref 217),de P "applied" 491 (.ref 222),de P "is_nought" 497 (.ref 227),de P "product" 503 (.ref 232),de P "lifted" 509 (.ref 237),de P "weighed_lifted" 515 (.ref 242),de P "shared_bottom" 525 (.ref 249),de P "raised" 531 (.ref 254),de P "noughts" 537 (.ref 259),de P "turned" 543 (.ref 264),de P "widened" 549 (.ref 269),de P "Answer" 588 (.ref 293),de P "Solution" 630 (.ref 328),de P "Never" 665 (.ref 354),de P "solved" 671 (.ref 361),de P "left_over" 677 (.ref 366),de P "whole_rows" 683 (.ref 371),de P "tracked" 689 (.ref 376),de P "cleared_rows" 702 (.ref 383),de P "cleared" 708 (.ref 388),de P "first_place" 717 (.ref 395),de P "kept_steps" 723 (.ref 400),de P "last_step" 732 (.ref 407),de P "brought" 738 (.ref 412),de P "shortened" 744 (.ref 417),de P "MOST_TURNS" 748 (.int (60) 747),de P "refuse_run" 754 (.ref 422),de P "MOST_CELLS" 758 (.int (8) 757),de P "MOST_LINES" 760 (.int (2) 759),de P "System" 821 (.ref 470),de P "is_system" 834 (.ref 481),de P "run" 852 (.ref 488),de P "Finding" 899 (.ref 519),de P "Inputs" 942 (.ref 554),de P "Unmoved" 978 (.ref 580),de P "refuse_aim" 986 (.ref 589),de P "rest" 993 (.ref 596),de P "reach_table" 1006 (.ref 603),de P "steered" 1012 (.ref 608),de P "Sums" 1052 (.ref 637),de P "Unseen" 1086 (.ref 663),de P "tell_table" 1093 (.ref 672),de P "tell_rows" 1107 (.ref 679),de P "told_by" 1113 (.ref 684),de P "_law_cell" 1123 (.ref 691),de P "_law_mix" 1132 (.ref 698),de P "_law_number" 1139 (.ref 705),de P "_law_row" 1151 (.ref 712),de P "_law_tables" 1157 (.ref 717),de P "_law_things" 1163 (.ref 722),de P "_law_odd" 1172 (.ref 729),de P "_law_refused" 1183 (.ref 736),de P "_law_asked" 1196 (.ref 743),de P "law" 1211 (.ref 750)]
def kk (P:Params):PySem.W.Frag:=[
(3,⟨.type "dict", none,.dict (d3 P).toArray 87,#[]⟩),
(30,⟨.type "dict", none,.dict #[de P "__module__" 196 (.str "echohouse.errors" 187),de P "__firstlineno__" 200 (.int (2) 199),de P "word" 207 (.ref 28),de P "__static_attributes__" 208 (.ref 29),de P "__weakref__" 210 (.ref 32),de P "__doc__" 211 (.none)] 3,#[]⟩),
(31,⟨.type "type", none,.cls ⟨"EchoError", [.type "ValueError"],[.ref 31,.type "ValueError", .type "Exception", .type "BaseException", .type "object"],30,"EchoError", true,[],[.ref 51,.ref 70,.ref 89,.ref 108],false,none,false⟩,#[some (.ref 15),none,some (.str "EchoError" 189),some (.str "EchoError" 197),some (.builtin "ValueError.__new__"),some (.bool true)]⟩),
(47,mS 47 "word" "NoTable.word" 226 8 1 230),
(48,kK (tc 2 0) "word" "NoTable.word" CQ 47),
(50,⟨.type "dict", none,.dict #[de P "__module__" 221 (.str "echohouse.errors" 187),de P "__firstlineno__" 225 (.int (6) 224),de P "word" 232 (.ref 48),de P "__static_attributes__" 233 (.ref 49),de P "__doc__" 234 (.none)] 2,#[]⟩),
(51,⟨.type "type", none,.cls ⟨"NoTable", [.ref 31],[.ref 51,.ref 31,.type "ValueError", .type "Exception", .type "BaseException", .type "object"],50,"NoTable", true,[],[],false,none,false⟩,#[some (.ref 35),none,some (.str "NoTable" 214),some (.str "NoTable" 222),some (.builtin "ValueError.__new__"),some (.bool true)]⟩),
(66,mS 66 "word" "NoFit.word" 249 12 1 253),
(67,kK (tc 3 0) "word" "NoFit.word" CQ 66),
(69,⟨.type "dict", none,.dict #[de P "__module__" 244 (.str "echohouse.errors" 187),de P "__firstlineno__" 248 (.int (10) 247),de P "word" 255 (.ref 67),de P "__static_attributes__" 256 (.ref 68),de P "__doc__" 257 (.none)] 2,#[]⟩),
(70,⟨.type "type", none,.cls ⟨"NoFit", [.ref 31],[.ref 70,.ref 31,.type "ValueError", .type "Exception", .type "BaseException", .type "object"],69,"NoFit", true,[],[],false,none,false⟩,#[some (.ref 54),none,some (.str "NoFit" 237),some (.str "NoFit" 245),some (.builtin "ValueError.__new__"),some (.bool true)]⟩),
(85,mS 85 "word" "NoTurns.word" 272 16 1 276),
(86,kK (tc 4 0) "word" "NoTurns.word" CQ 85),
(88,⟨.type "dict", none,.dict #[de P "__module__" 267 (.str "echohouse.errors" 187),de P "__firstlineno__" 271 (.int (14) 270),de P "word" 278 (.ref 86),de P "__static_attributes__" 279 (.ref 87),de P "__doc__" 280 (.none)] 2,#[]⟩),
(89,⟨.type "type", none,.cls ⟨"NoTurns", [.ref 31],[.ref 89,.ref 31,.type "ValueError", .type "Exception", .type "BaseException", .type "object"],88,"NoTurns", true,[],[],false,none,false⟩,#[some (.ref 73),none,some (.str "NoTurns" 260),some (.str "NoTurns" 268),some (.builtin "ValueError.__new__"),some (.bool true)]⟩),
(104,mS 104 "word" "TooMany.word" 295 20 1 299),
(105,kK (tc 5 0) "word" "TooMany.word" CQ 104),
(107,⟨.type "dict", none,.dict #[de P "__module__" 290 (.str "echohouse.errors" 187),de P "__firstlineno__" 294 (.int (18) 293),de P "word" 301 (.ref 105),de P "__static_attributes__" 302 (.ref 106),de P "__doc__" 303 (.none)] 2,#[]⟩),
(108,⟨.type "type", none,.cls ⟨"TooMany", [.ref 31],[.ref 108,.ref 31,.type "ValueError", .type "Exception", .type "BaseException", .type "object"],107,"TooMany", true,[],[],false,none,false⟩,#[some (.ref 92),none,some (.str "TooMany" 283),some (.str "TooMany" 291),some (.builtin "ValueError.__new__"),some (.bool true)]⟩),
(116,cA 116 "common" 314 26 2 320),
(117,fh (tp 10) "common" DW 116),
(123,cA 123 "half" 323 35 2 332),
(124,fh (tp 11) "half" DW 123),
(165,⟨.type "tuple", none,.seq #[.int (0) 412,.int (1) 413] 0,#[]⟩),
(171,cA 171 "is_whole" 415 89 1 419),
(172,fh (tp 20) "is_whole" BR 171),
(178,cA 178 "is_fraction" 422 91 1 428),
(179,fh (tp 21) "is_fraction" BR 178),
(185,cA 185 "frac" 431 96 2 437),
(186,fh (tp 22) "frac" BR 185),
(204,cB 204 "is_row" 463 115 2 466),
(205,fh (tp 26) "is_row" vv 204),
(209,cB 209 "is_table" 469 117 3 472),
(210,fh (tp 27) "is_table" vv 209),
(216,cA 216 "weighed" 475 119 2 483),
(217,fh (tp 28) "weighed" vv 216),
(221,cB 221 "applied" 486 124 2 489),
(222,fh (tp 29) "applied" vv 221),
(226,cB 226 "is_nought" 492 126 1 495),
(227,fh (tp 30) "is_nought" vv 226),
(231,cB 231 "product" 498 128 3 501),
(232,fh (tp 31) "product" vv 231),
(292,⟨.type "dict", none,.dict #[de P "__module__" 559 (.str "echohouse.solving" 550),de P "__firstlineno__" 563 (.int (155) 562),de P "found" 570 (.ref 283),de P "shows" 580 (.ref 290),de P "__static_attributes__" 581 (.ref 291),de P "__dict__" 583 (.ref 294),de P "__weakref__" 585 (.ref 295),de P "__doc__" 586 (.none)] 4,#[]⟩),
(293,⟨.type "type", none,.cls ⟨"Answer", [.type "object"],[.ref 293,.type "object"],292,"Answer", true,[],[.ref 328,.ref 354],false,none,false⟩,#[none,none,some (.str "Answer" 552),some (.str "Answer" 560),some (.builtin "object.__new__"),some (.bool true)]⟩),
(327,⟨.type "dict", none,.dict #[de P "__module__" 596 (.str "echohouse.solving" 550),de P "__firstlineno__" 600 (.int (162) 599),de P "__init__" 608 (.ref 311),de P "found" 615 (.ref 318),de P "shows" 625 (.ref 325),de P "__static_attributes__" 627 (.ref 326),de P "__doc__" 628 (.none)] 2,#[]⟩),
(328,⟨.type "type", none,.cls ⟨"Solution", [.ref 293],[.ref 328,.ref 293,.type "object"],327,"Solution", true,[],[],false,none,false⟩,#[some (.ref 298),none,some (.str "Solution" 589),some (.str "Solution" 597),some (.builtin "object.__new__"),some (.bool true)]⟩),
(353,⟨.type "dict", none,.dict #[de P "__module__" 638 (.str "echohouse.solving" 550),de P "__firstlineno__" 642 (.int (172) 641),de P "__init__" 650 (.ref 344),de P "shows" 660 (.ref 351),de P "__static_attributes__" 662 (.ref 352),de P "__doc__" 663 (.none)] 2,#[]⟩),
(354,⟨.type "type", none,.cls ⟨"Never", [.ref 293],[.ref 354,.ref 293,.type "object"],353,"Never", true,[],[],false,none,false⟩,#[some (.ref 331),none,some (.str "Never" 631),some (.str "Never" 639),some (.builtin "object.__new__"),some (.bool true)]⟩),
(433,DN 433 "__init__" "System.__init__" 773 252 5 776),
(434,kK (tc 60 0) "__init__" "System.__init__" vw 433),
(440,mS 440 "cells" "System.cells" 779 259 1 783),
(441,kK (tc 60 1) "cells" "System.cells" vw 440),
(447,mS 447 "ins" "System.ins" 786 262 1 790),
(448,kK (tc 60 2) "ins" "System.ins" vw 447),
(454,mS 454 "outs" "System.outs" 793 265 1 797),
(455,kK (tc 60 3) "outs" "System.outs" vw 454),
(469,⟨.type "dict", none,.dict #[de P "__module__" 768 (.str "echohouse.systems" 755),de P "__firstlineno__" 772 (.int (250) 771),de P "__init__" 778 (.ref 434),de P "cells" 785 (.ref 441),de P "ins" 792 (.ref 448),de P "outs" 799 (.ref 455),de P "tables" 805 (.ref 460),de P "told" 812 (.ref 467),de P "__static_attributes__" 814 (.ref 468),de P "__dict__" 816 (.ref 471),de P "__weakref__" 818 (.ref 472),de P "__doc__" 819 (.none)] 4,#[]⟩),
(470,⟨.type "type", none,.cls ⟨"System", [.type "object"],[.ref 470,.type "object"],469,"System", true,[],[],false,none,false⟩,#[none,none,some (.str "System" 761),some (.str "System" 769),some (.builtin "object.__new__"),some (.bool true)]⟩),
(480,cA 480 "is_system" 822 273 4 832),
(481,fh (tp 61) "is_system" vw 480),
(487,cA 487 "run" 835 280 3 850),
(488,fh (tp 62) "run" vw 487),
(501,mS 501 "found" "Finding.found" 867 293 1 871),
(502,kK (tc 64 0) "found" "Finding.found" md5 501),
(508,mS 508 "shows" "Finding.shows" 874 296 3 880),
(509,kK (tc 64 1) "shows" "Finding.shows" md5 508),
(515,mS 515 "holds" "Finding.holds" 883 300 3 889),
(516,kK (tc 64 2) "holds" "Finding.holds" md5 515),
(518,⟨.type "dict", none,.dict #[de P "__module__" 862 (.str "echohouse.steering" 853),de P "__firstlineno__" 866 (.int (291) 865),de P "found" 873 (.ref 502),de P "shows" 882 (.ref 509),de P "holds" 891 (.ref 516),de P "__static_attributes__" 892 (.ref 517),de P "__dict__" 894 (.ref 520),de P "__weakref__" 896 (.ref 521),de P "__doc__" 897 (.none)] 4,#[]⟩),
(519,⟨.type "type", none,.cls ⟨"Finding", [.type "object"],[.ref 519,.type "object"],518,"Finding", true,[],[.ref 554,.ref 580,.ref 637,.ref 663],false,none,false⟩,#[none,none,some (.str "Finding" 855),some (.str "Finding" 863),some (.builtin "object.__new__"),some (.bool true)]⟩),
(536,mS 536 "__init__" "Inputs.__init__" 912 304 2 917),
(537,kK (tc 65 0) "__init__" "Inputs.__init__" md5 536),
(543,mS 543 "found" "Inputs.found" 920 307 1 924),
(544,kK (tc 65 1) "found" "Inputs.found" md5 543),
(550,mS 550 "holds" "Inputs.holds" 927 310 3 935),
(551,kK (tc 65 2) "holds" "Inputs.holds" md5 550),
(553,⟨.type "dict", none,.dict #[de P "__module__" 907 (.str "echohouse.steering" 853),de P "__firstlineno__" 911 (.int (302) 910),de P "__init__" 919 (.ref 537),de P "found" 926 (.ref 544),de P "holds" 937 (.ref 551),de P "__static_attributes__" 939 (.ref 552),de P "__doc__" 940 (.none)] 2,#[]⟩),
(554,⟨.type "type", none,.cls ⟨"Inputs", [.ref 519],[.ref 554,.ref 519,.type "object"],553,"Inputs", true,[],[],false,none,false⟩,#[some (.ref 524),none,some (.str "Inputs" 900),some (.str "Inputs" 908),some (.builtin "object.__new__"),some (.bool true)]⟩),
(569,mS 569 "__init__" "Unmoved.__init__" 955 317 2 960),
(570,kK (tc 66 0) "__init__" "Unmoved.__init__" md5 569),
(576,mS 576 "holds" "Unmoved.holds" 963 320 3 971),
(577,kK (tc 66 1) "holds" "Unmoved.holds" md5 576),
(579,⟨.type "dict", none,.dict #[de P "__module__" 950 (.str "echohouse.steering" 853),de P "__firstlineno__" 954 (.int (315) 953),de P "__init__" 962 (.ref 570),de P "holds" 973 (.ref 577),de P "__static_attributes__" 975 (.ref 578),de P "__doc__" 976 (.none)] 2,#[]⟩),
(580,⟨.type "type", none,.cls ⟨"Unmoved", [.ref 519],[.ref 580,.ref 519,.type "object"],579,"Unmoved", true,[],[],false,none,false⟩,#[some (.ref 557),none,some (.str "Unmoved" 943),some (.str "Unmoved" 951),some (.builtin "object.__new__"),some (.bool true)]⟩),
(588,cA 588 "refuse_aim" 979 326 2 984),
(589,fh (tp 67) "refuse_aim" md5 588),
(595,cA 595 "rest" 987 329 1 991),
(596,fh (tp 68) "rest" md5 595),
(602,cA 602 "reach_table" 994 331 1 1004),
(603,fh (tp 69) "reach_table" md5 602),
(607,cB 607 "steered" 1007 338 2 1010),
(608,fh (tp 70) "steered" md5 607),
(621,mS 621 "__init__" "Sums.__init__" 1027 348 2 1032),
(622,kK (tc 72 0) "__init__" "Sums.__init__" ud 621),
(628,mS 628 "found" "Sums.found" 1035 351 1 1039),
(629,kK (tc 72 1) "found" "Sums.found" ud 628),
(633,DN 633 "holds" "Sums.holds" 1042 354 3 1045),
(634,kK (tc 72 2) "holds" "Sums.holds" ud 633),
(636,⟨.type "dict", none,.dict #[de P "__module__" 1022 (.str "echohouse.telling" 1013),de P "__firstlineno__" 1026 (.int (346) 1025),de P "__init__" 1034 (.ref 622),de P "found" 1041 (.ref 629),de P "holds" 1047 (.ref 634),de P "__static_attributes__" 1049 (.ref 635),de P "__doc__" 1050 (.none)] 2,#[]⟩),
(637,⟨.type "type", none,.cls ⟨"Sums", [.ref 519],[.ref 637,.ref 519,.type "object"],636,"Sums", true,[],[],false,none,false⟩,#[some (.ref 609),none,some (.str "Sums" 1015),some (.str "Sums" 1023),some (.builtin "object.__new__"),some (.bool true)]⟩),
(652,mS 652 "__init__" "Unseen.__init__" 1065 362 2 1070),
(653,kK (tc 73 0) "__init__" "Unseen.__init__" ud 652),
(659,mS 659 "holds" "Unseen.holds" 1073 365 3 1079),
(660,kK (tc 73 1) "holds" "Unseen.holds" ud 659),
(662,⟨.type "dict", none,.dict #[de P "__module__" 1060 (.str "echohouse.telling" 1013),de P "__firstlineno__" 1064 (.int (360) 1063),de P "__init__" 1072 (.ref 653),de P "holds" 1081 (.ref 660),de P "__static_attributes__" 1083 (.ref 661),de P "__doc__" 1084 (.none)] 2,#[]⟩),
(663,⟨.type "type", none,.cls ⟨"Unseen", [.ref 519],[.ref 663,.ref 519,.type "object"],662,"Unseen", true,[],[],false,none,false⟩,#[some (.ref 640),none,some (.str "Unseen" 1053),some (.str "Unseen" 1061),some (.builtin "object.__new__"),some (.bool true)]⟩),
(671,cA 671 "tell_table" 1087 367 1 1091),
(672,fh (tp 74) "tell_table" ud 671),
(683,cB 683 "told_by" 1108 376 2 1111),
(684,fh (tp 76) "told_by" ud 683),
(690,cA 690 "_law_cell" 1116 384 2 1121),
(691,fh (tp 78) "_law_cell" m6 690),
(697,cA 697 "_law_mix" 1124 388 2 1130),
(698,fh (tp 79) "_law_mix" m6 697),
(704,cA 704 "_law_number" 1133 392 1 1137),
(705,fh (tp 80) "_law_number" m6 704),
(711,cA 711 "_law_row" 1140 396 2 1149),
(712,fh (tp 81) "_law_row" m6 711),
(716,cB 716 "_law_tables" 1152 406 2 1155),
(717,fh (tp 82) "_law_tables" m6 716),
(721,cB 721 "_law_things" 1158 417 3 1161),
(722,fh (tp 83) "_law_things" m6 721),
(728,cA 728 "_law_odd" 1164 426 1 1170),
(729,fh (tp 84) "_law_odd" m6 728),
(735,cA 735 "_law_refused" 1173 432 3 1181),
(736,fh (tp 85) "_law_refused" m6 735),
(742,cA 742 "_law_asked" 1184 441 5 1194),
(743,fh (tp 86) "_law_asked" m6 742),
(749,cA 749 "law" 1197 451 1 1209),
(750,fh (tp 87) "law" m6 749)]
def ka:List Addr:=[3,30,31,47,48,50,51,66,67,69,70,85,86,88,89,104,105,107,108,116,117,123,124,165,171,172,178,179,185,186,204,205,209,210,216,217,221,222,226,227,231,232,292,293,327,328,353,354,433,434,440,441,447,448,454,455,469,470,480,481,487,488,501,502,508,509,515,516,518,519,536,537,543,544,550,551,553,554,569,570,576,577,579,580,588,589,595,596,602,603,607,608,621,622,628,629,633,634,636,637,652,653,659,660,662,663,671,672,683,684,690,691,697,698,704,705,711,712,716,717,721,722,728,729,735,736,742,743,749,750]
def kq (P:Params):PySem.W.Frag:=(738,⟨.none,none,.fields #[],#[]⟩)::kk P
def Ff:List Addr:=738::ka
theorem FW (P:Params):Ff=(kq P).map (·.1):=by kernel_rfl
abbrev hk:PySem.W.Hook:=PySem.W.kHook kq Ff FW
abbrev xt (s:Shared):Bool:=PySem.W.xlAt qv [] s&&PySem.W.recOk (PySem.W.RowW.records lw.row.toRowW) s
open PySem.W PySem.Calls in
def jI (tb:String->Option Builtin)(p:Program)(w:World)(Y7:Nat)(ann:Option Value):Nat->SharedT->Thread->Option SharedT
 |0,_,_=>none
 |n+1,s,t=>match through t with
  |true=>some s
  |false=>match stepOk Y7 ann t with
   |false=>none
   |true=>match stepT (denote tb) p w s t with
    |some (s',t')=>jI tb p w Y7 ann n s' t'
    |none=>none
open PySem.W PySem.Calls in
theorem nW {tb:String->Option Builtin}{p:Program}{w:World}{Y7:Nat}{ann:Option Value}:∀{n:Nat} {s:SharedT} {t:Thread} {r:SharedT},jI tb p w Y7 ann n s t=some r->topRun tb p w Y7 ann n s.abs t=some r.abs
 |0,_,_,_,e=>by simp [jI] at e
 |n+1,s,t,r,e=>by
  rw [jI] at e
  rw [topRun]
  cases h1:through t with
  |true=>rw [h1] at e;cases e;rfl
  |false =>
   rw [h1] at e
   dsimp only at e ⊢
   cases h2:stepOk Y7 ann t with
   |false=>rw [h2] at e;cases e
   |true =>
    rw [h2] at e
    dsimp only at e ⊢
    cases h3:stepT (denote tb) p w s t with
    |none=>rw [h3] at e;cases e
    |some x =>
     obtain⟨s',t'⟩:=x
     rw [h3] at e
     rw [stepT_spec h3]
     exact nW e
open PySem.W PySem.Calls in
def DR (tb:String->Option Builtin)(p:Program)(w:World)(Y7:Nat)(ann:Option Value):Nat->SharedT->Thread->Option (SharedT×Thread)
 |0,s,t=>some (s,t)
 |n+1,s,t=>match through t with
  |true=>none
  |false=>match stepOk Y7 ann t with
   |false=>none
   |true=>match stepT (denote tb) p w s t with
    |some (s',t')=>DR tb p w Y7 ann n s' t'
    |none=>none
open PySem.W PySem.Calls in
theorem wz {tb:String->Option Builtin}{p:Program}{w:World}{Y7:Nat}{ann:Option Value}:∀{n:Nat} {s s':SharedT} {t t':Thread},DR tb p w Y7 ann n s t=some (s',t')->topGo tb p w Y7 ann n s.abs t=some (s'.abs,t')
 |0,_,_,_,_,e=>by cases e;rfl
 |n+1,s,s',t,t',e=>by
  rw [DR] at e
  rw [topGo]
  cases h1:through t with
  |true=>rw [h1] at e;cases e
  |false =>
   rw [h1] at e
   dsimp only at e ⊢
   cases h2:stepOk Y7 ann t with
   |false=>rw [h2] at e;cases e
   |true =>
    rw [h2] at e
    dsimp only at e ⊢
    cases h3:stepT (denote tb) p w s t with
    |none=>rw [h3] at e;cases e
    |some x =>
     obtain⟨s2,t2⟩:=x
     rw [h3] at e
     rw [stepT_spec h3]
     exact wz e
def alts {α:Type}:Bool->List α->List α
 |_,[]=>[]
 |true,a::l=>a::alts false l
 |false,_::l=>alts true l
def sM:Nat->List Obj->PySem.W.BT
 |0,_=>.nil
 |_+1,[]=>.nil
 |n+1,o::l=>.node o (sM n (alts true l)) (sM n (alts false l))
def bol (P:Params):List Obj:=(PySem.W.boot_heap P).objs.toList
open PySem.W PySem.Calls in
theorem CN {p q:Program}{loose:List Str}{Xt:Shared->Bool}{α:Type}{Yf:Shared->α}{Ya:World->α}{N n k M:Nat}{g0:Bool}{T:Params->BT}(he:opening p=plainProg p.main.scope.names)(hN:Nat.ble 600 N=true)(hf:∀s,fenceModules? p s=some s)
  (hz:∀w:World,((boot_heap w.params).isNs mainGlobals&&(Array.mk []:Array GenState).size == 0,(boot_heap w.params).objs.size,(boot_heap w.params).nsMap mainGlobals "__annotations__")=(true,11,some (.ref 6)))
  (hr:∀(w:World) (os:OsState),topRun treeTable p w 11 (some (.ref 6)) M ⟨boot_heap w.params,Array.mk [],boot_drawn,boot_toks,os⟩ (topStub p)=some ⟨absHeap (T w.params) n {},Array.mk [],boot_drawn,k,os⟩) (le:Nat.ble M N=true)
  (g1:∀w:World,(fun os:OsState=>staticsOk (importedModules p.main.body) (boot_heap w.params) (absHeap (T w.params) n {})&&namesBound p (absHeap (T w.params) n {})&&gensDone ⟨absHeap (T w.params) n {},Array.mk [],boot_drawn,k,os⟩&&laidKept (boot_heap w.params) (absHeap (T w.params) n {}))=fun _=>true)
  (g2:∀w:World,(fun os:OsState=>(openSeen q loose (importedModules p.main.body) Xt g0 ⟨absHeap (T w.params) n {},Array.mk [],boot_drawn,k,os⟩).1)=fun _=>(openGood q loose).1)
  (g4:∀w:World,(fun os:OsState=>(openSeen q loose (importedModules p.main.body) Xt g0 ⟨absHeap (T w.params) n {},Array.mk [],boot_drawn,k,os⟩).2)=fun _=>(openGood q loose).2)
  (g3:∀w:World,(fun os:OsState=>Yf ⟨absHeap (T w.params) n {},Array.mk [],boot_drawn,k,os⟩)=fun _=>Ya w):
  LeftO p q loose Xt Yf Ya N g0:=
 LeftO.of_pieces (H₀:=fun P=>boot_heap P) (H₁:=fun P=>absHeap (T P) n {}) (gs₀:=Array.mk []) (gs₁:=Array.mk []) (fun w=>boot_open he hN hf w) hz hr le fun w=>by
  funext os
  exact Prod.ext (congrFun (g1 w) os) (Prod.ext (Prod.ext (congrFun (g2 w) os) (congrFun (g4 w) os)) (congrFun (g3 w) os))
def Eg (s:Stmt)(nm qn:Str):Obj:=⟨.none,none,.func ⟨nm,qn,hA s,.stmts (hB s),hS s,0,[],.none,.none,.none,.none,none,.none,.none,0⟩,#[]⟩
def oT (vs:List Value):Obj:=⟨.type "tuple", none,.seq vs.toArray 0,#[]⟩
def oF:Obj:=⟨.none,none,.fields #[],#[]⟩
def DY:Nat->List Str->List Value
 |_,[]=>[]
 |t,x::l=>.str x t::DY (t+1) l
def gA (a:Nat)(s:Stmt)(nm qn:Str)(t l n:Nat)(vs:List Str)(pm:Value):List Obj:=[oT [],oF,oT (DY (t+3) vs),oT [],Eg s nm qn,mS (a+5) nm qn t l n (t+3+vs.length),kK s nm qn pm (a+5)]
def gB (a:Nat)(s:Stmt)(nm qn:Str)(t l n:Nat)(pm:Value):List Obj:=[oT [],oF,Eg s nm qn,DN (a+3) nm qn t l n (t+3),kK s nm qn pm (a+3)]
def Gg:List (Nat×Nat×Nat):=[(2,0,20),(6,0,40),(10,0,59),(14,0,78),(18,0,97),(26,0,116),(35,0,123),(46,0,130),(51,0,137),(55,0,144),(65,0,151),(69,0,156),(80,0,163),(89,0,171),(91,0,178),(96,0,185),(105,0,192),(110,0,199),(115,0,204),(117,0,209),(119,0,216),(124,0,221),(126,0,226),(128,0,231),(132,0,236),(135,0,241),(141,0,248),(146,0,253),(148,0,258),(150,0,263),(152,0,268),(155,0,275),(162,0,303),(172,0,336),(181,0,360),(187,0,365),(189,0,370),(191,0,375),(198,0,382),(207,0,387),(214,0,394),(219,0,399),(221,0,406),(226,0,411),(233,0,416),(240,0,421),(250,0,428),(273,0,480),(280,0,487),(291,0,494),(302,0,529),(315,0,562),(326,0,588),(329,0,595),(331,0,602),(338,0,607),(346,0,614),(360,0,645),(367,0,671),(369,0,678),(376,0,683),(384,0,690),(388,0,697),(392,0,704),(396,0,711),(406,0,716),(417,0,721),(426,0,728),(432,0,735),(441,0,742),(451,0,749)]
def wZ (k:Nat):Obj:=⟨.none,none,.fields ((Gg.take k).flatMap fun z=>[.int z.1 0,.int z.2.1 0,.ref z.2.2]).toArray,#[]⟩
def o3 (P:Params)(e n:Nat)(v:Value):Obj:=⟨.type "dict", none,.dict (match d3 P with | []=>[] | z::l=>((⟨z.hash,z.key,v⟩:DictEntry)::l).take e).toArray n,#[]⟩
def ob (P:Params):List Obj:=bol P++([⟨.type "tuple", none,.seq #[] 0,#[]⟩,
⟨.none,none,.fields #[.int (2) 0,.int (0) 0,.ref 20,.int (6) 0,.int (0) 0,.ref 40,.int (10) 0,.int (0) 0,.ref 59,.int (14) 0,.int (0) 0,.ref 78,.int (18) 0,.int (0) 0,.ref 97,.int (26) 0,.int (0) 0,.ref 116,.int (35) 0,.int (0) 0,.ref 123,.int (46) 0,.int (0) 0,.ref 130,.int (51) 0,.int (0) 0,.ref 137,.int (55) 0,.int (0) 0,.ref 144,.int (65) 0,.int (0) 0,.ref 151,.int (69) 0,.int (0) 0,.ref 156,.int (80) 0,.int (0) 0,.ref 163,.int (89) 0,.int (0) 0,.ref 171,.int (91) 0,.int (0) 0,.ref 178,.int (96) 0,.int (0) 0,.ref 185,.int (105) 0,.int (0) 0,.ref 192,.int (110) 0,.int (0) 0,.ref 199,.int (115) 0,.int (0) 0,.ref 204,.int (117) 0,.int (0) 0,.ref 209,.int (119) 0,.int (0) 0,.ref 216,.int (124) 0,.int (0) 0,.ref 221,.int (126) 0,.int (0) 0,.ref 226,.int (128) 0,.int (0) 0,.ref 231,.int (132) 0,.int (0) 0,.ref 236,.int (135) 0,.int (0) 0,.ref 241,.int (141) 0,.int (0) 0,.ref 248,.int (146) 0,.int (0) 0,.ref 253,.int (148) 0,.int (0) 0,.ref 258,.int (150) 0,.int (0) 0,.ref 263,.int (152) 0,.int (0) 0,.ref 268,.int (155) 0,.int (0) 0,.ref 275,.int (162) 0,.int (0) 0,.ref 303,.int (172) 0,.int (0) 0,.ref 336,.int (181) 0,.int (0) 0,.ref 360,.int (187) 0,.int (0) 0,.ref 365,.int (189) 0,.int (0) 0,.ref 370,.int (191) 0,.int (0) 0,.ref 375,.int (198) 0,.int (0) 0,.ref 382,.int (207) 0,.int (0) 0,.ref 387,.int (214) 0,.int (0) 0,.ref 394,.int (219) 0,.int (0) 0,.ref 399,.int (221) 0,.int (0) 0,.ref 406,.int (226) 0,.int (0) 0,.ref 411,.int (233) 0,.int (0) 0,.ref 416,.int (240) 0,.int (0) 0,.ref 421,.int (250) 0,.int (0) 0,.ref 428,.int (273) 0,.int (0) 0,.ref 480,.int (280) 0,.int (0) 0,.ref 487,.int (291) 0,.int (0) 0,.ref 494,.int (302) 0,.int (0) 0,.ref 529,.int (315) 0,.int (0) 0,.ref 562,.int (326) 0,.int (0) 0,.ref 588,.int (329) 0,.int (0) 0,.ref 595,.int (331) 0,.int (0) 0,.ref 602,.int (338) 0,.int (0) 0,.ref 607,.int (346) 0,.int (0) 0,.ref 614,.int (360) 0,.int (0) 0,.ref 645,.int (367) 0,.int (0) 0,.ref 671,.int (369) 0,.int (0) 0,.ref 678,.int (376) 0,.int (0) 0,.ref 683,.int (384) 0,.int (0) 0,.ref 690,.int (388) 0,.int (0) 0,.ref 697,.int (392) 0,.int (0) 0,.ref 704,.int (396) 0,.int (0) 0,.ref 711,.int (406) 0,.int (0) 0,.ref 716,.int (417) 0,.int (0) 0,.ref 721,.int (426) 0,.int (0) 0,.ref 728,.int (432) 0,.int (0) 0,.ref 735,.int (441) 0,.int (0) 0,.ref 742,.int (451) 0,.int (0) 0,.ref 749],#[]⟩,
⟨.type "code", none,.fields #[.str "<module>" 182,.str "<module>" 183,.str "/claim/cut.py" 184,.int (1) 0,.int (0) 0,.int (0) 0,.int (0) 0,.int (0) 0,.ref 11,.bool false,.int (181) 0,.ref 12,.none,.none,.none,.none,.int (185) 0,.int (1) 0,.str "/claim/cut.py" 186],#[]⟩,
⟨.type "frame", none,.plain,#[some (.ref 13),some (.ref 3),some (.ref 3),none,some (.str "__main__" 164),none,some (.ref 0)]⟩,
⟨.type "tuple", none,.seq #[.type "ValueError"] 0,#[]⟩,
⟨.type "builtin_function_or_method", none,.fields #[.builtin "type.__prepare__", .type "type"],#[]⟩,
⟨.type "dict", none,.dict #[de P "__module__" 196 (.str "echohouse.errors" 187),de P "__qualname__" 198 (.str "EchoError" 197),de P "__firstlineno__" 200 (.int (2) 199),de P "word" 207 (.ref 28),de P "__static_attributes__" 208 (.ref 29)] 5,#[]⟩,
⟨.type "tuple", none,.seq #[] 0,#[]⟩,
⟨.none,none,.fields #[.int (4) 0,.int (4) 0,.ref 27],#[]⟩,
⟨.type "code", none,.fields #[.str "EchoError" 191,.str "EchoError" 192,.str "/claim/cut.py" 193,.int (2) 0,.int (0) 0,.int (0) 0,.int (0) 0,.int (0) 0,.ref 18,.bool false,.int (181) 0,.ref 19,.none,.none,.none,.none,.int (194) 0,.int (2) 0,.str "/claim/cut.py" 195],#[]⟩,
⟨.type "frame", none,.plain,#[some (.ref 20),some (.ref 3),some (.ref 17),none,some (.str "echohouse.errors" 187),none,some (.ref 0)]⟩] ++
 (gA 22 (tc 1 0) "word" "EchoError.word" 201 4 1 ["self"] (.str "echohouse.errors" 187) ++
 ([⟨.type "tuple", none,.seq #[] 0,#[]⟩,
⟨.type "dict", none,.dict #[de P "__module__" 196 (.str "echohouse.errors" 187),de P "__firstlineno__" 200 (.int (2) 199),de P "word" 207 (.ref 28),de P "__static_attributes__" 208 (.ref 29),de P "__weakref__" 210 (.ref 32),de P "__doc__" 211 (.none)] 3,#[]⟩,
⟨.type "type", none,.cls ⟨"EchoError", [.type "ValueError"],[.ref 31,.type "ValueError", .type "Exception", .type "BaseException", .type "object"],30,"EchoError", true,[],[.ref 51,.ref 70,.ref 89,.ref 108],false,none,false⟩,#[some (.ref 15),none,some (.str "EchoError" 189),some (.str "EchoError" 197),some (.builtin "ValueError.__new__"),some (.bool true)]⟩,
⟨.type "getset_descriptor", none,.fields #[.str "__weakref__" 209,.ref 31,.builtin "ExceptionGroup.__weakref__", .none],#[]⟩,
⟨.type "super", none,.fields #[.ref 31,.ref 31,.ref 31],#[]⟩,
⟨.type "builtin_function_or_method", none,.fields #[.builtin "object.__init_subclass__", .ref 31],#[]⟩,
⟨.type "tuple", none,.seq #[.ref 31] 0,#[]⟩,
⟨.type "builtin_function_or_method", none,.fields #[.builtin "type.__prepare__", .type "type"],#[]⟩,
⟨.type "dict", none,.dict #[de P "__module__" 221 (.str "echohouse.errors" 187),de P "__qualname__" 223 (.str "NoTable" 222),de P "__firstlineno__" 225 (.int (6) 224),de P "word" 232 (.ref 48),de P "__static_attributes__" 233 (.ref 49)] 5,#[]⟩,
⟨.type "tuple", none,.seq #[] 0,#[]⟩,
⟨.none,none,.fields #[.int (8) 0,.int (4) 0,.ref 47],#[]⟩,
⟨.type "code", none,.fields #[.str "NoTable" 216,.str "NoTable" 217,.str "/claim/cut.py" 218,.int (6) 0,.int (0) 0,.int (0) 0,.int (0) 0,.int (0) 0,.ref 38,.bool false,.int (181) 0,.ref 39,.none,.none,.none,.none,.int (219) 0,.int (6) 0,.str "/claim/cut.py" 220],#[]⟩,
⟨.type "frame", none,.plain,#[some (.ref 40),some (.ref 3),some (.ref 37),none,some (.str "echohouse.errors" 187),none,some (.ref 0)]⟩] ++
 (gA 42 (tc 2 0) "word" "NoTable.word" 226 8 1 ["self"] (.str "echohouse.errors" 187) ++
 ([⟨.type "tuple", none,.seq #[] 0,#[]⟩,
⟨.type "dict", none,.dict #[de P "__module__" 221 (.str "echohouse.errors" 187),de P "__firstlineno__" 225 (.int (6) 224),de P "word" 232 (.ref 48),de P "__static_attributes__" 233 (.ref 49),de P "__doc__" 234 (.none)] 2,#[]⟩,
⟨.type "type", none,.cls ⟨"NoTable", [.ref 31],[.ref 51,.ref 31,.type "ValueError", .type "Exception", .type "BaseException", .type "object"],50,"NoTable", true,[],[],false,none,false⟩,#[some (.ref 35),none,some (.str "NoTable" 214),some (.str "NoTable" 222),some (.builtin "ValueError.__new__"),some (.bool true)]⟩,
⟨.type "super", none,.fields #[.ref 51,.ref 51,.ref 51],#[]⟩,
⟨.type "builtin_function_or_method", none,.fields #[.builtin "object.__init_subclass__", .ref 51],#[]⟩,
⟨.type "tuple", none,.seq #[.ref 31] 0,#[]⟩,
⟨.type "builtin_function_or_method", none,.fields #[.builtin "type.__prepare__", .type "type"],#[]⟩,
⟨.type "dict", none,.dict #[de P "__module__" 244 (.str "echohouse.errors" 187),de P "__qualname__" 246 (.str "NoFit" 245),de P "__firstlineno__" 248 (.int (10) 247),de P "word" 255 (.ref 67),de P "__static_attributes__" 256 (.ref 68)] 5,#[]⟩,
⟨.type "tuple", none,.seq #[] 0,#[]⟩,
⟨.none,none,.fields #[.int (12) 0,.int (4) 0,.ref 66],#[]⟩,
⟨.type "code", none,.fields #[.str "NoFit" 239,.str "NoFit" 240,.str "/claim/cut.py" 241,.int (10) 0,.int (0) 0,.int (0) 0,.int (0) 0,.int (0) 0,.ref 57,.bool false,.int (181) 0,.ref 58,.none,.none,.none,.none,.int (242) 0,.int (10) 0,.str "/claim/cut.py" 243],#[]⟩,
⟨.type "frame", none,.plain,#[some (.ref 59),some (.ref 3),some (.ref 56),none,some (.str "echohouse.errors" 187),none,some (.ref 0)]⟩] ++
 (gA 61 (tc 3 0) "word" "NoFit.word" 249 12 1 ["self"] (.str "echohouse.errors" 187) ++
 ([⟨.type "tuple", none,.seq #[] 0,#[]⟩,
⟨.type "dict", none,.dict #[de P "__module__" 244 (.str "echohouse.errors" 187),de P "__firstlineno__" 248 (.int (10) 247),de P "word" 255 (.ref 67),de P "__static_attributes__" 256 (.ref 68),de P "__doc__" 257 (.none)] 2,#[]⟩,
⟨.type "type", none,.cls ⟨"NoFit", [.ref 31],[.ref 70,.ref 31,.type "ValueError", .type "Exception", .type "BaseException", .type "object"],69,"NoFit", true,[],[],false,none,false⟩,#[some (.ref 54),none,some (.str "NoFit" 237),some (.str "NoFit" 245),some (.builtin "ValueError.__new__"),some (.bool true)]⟩,
⟨.type "super", none,.fields #[.ref 70,.ref 70,.ref 70],#[]⟩,
⟨.type "builtin_function_or_method", none,.fields #[.builtin "object.__init_subclass__", .ref 70],#[]⟩,
⟨.type "tuple", none,.seq #[.ref 31] 0,#[]⟩,
⟨.type "builtin_function_or_method", none,.fields #[.builtin "type.__prepare__", .type "type"],#[]⟩,
⟨.type "dict", none,.dict #[de P "__module__" 267 (.str "echohouse.errors" 187),de P "__qualname__" 269 (.str "NoTurns" 268),de P "__firstlineno__" 271 (.int (14) 270),de P "word" 278 (.ref 86),de P "__static_attributes__" 279 (.ref 87)] 5,#[]⟩,
⟨.type "tuple", none,.seq #[] 0,#[]⟩,
⟨.none,none,.fields #[.int (16) 0,.int (4) 0,.ref 85],#[]⟩,
⟨.type "code", none,.fields #[.str "NoTurns" 262,.str "NoTurns" 263,.str "/claim/cut.py" 264,.int (14) 0,.int (0) 0,.int (0) 0,.int (0) 0,.int (0) 0,.ref 76,.bool false,.int (181) 0,.ref 77,.none,.none,.none,.none,.int (265) 0,.int (14) 0,.str "/claim/cut.py" 266],#[]⟩,
⟨.type "frame", none,.plain,#[some (.ref 78),some (.ref 3),some (.ref 75),none,some (.str "echohouse.errors" 187),none,some (.ref 0)]⟩] ++
 (gA 80 (tc 4 0) "word" "NoTurns.word" 272 16 1 ["self"] (.str "echohouse.errors" 187) ++
 ([⟨.type "tuple", none,.seq #[] 0,#[]⟩,
⟨.type "dict", none,.dict #[de P "__module__" 267 (.str "echohouse.errors" 187),de P "__firstlineno__" 271 (.int (14) 270),de P "word" 278 (.ref 86),de P "__static_attributes__" 279 (.ref 87),de P "__doc__" 280 (.none)] 2,#[]⟩,
⟨.type "type", none,.cls ⟨"NoTurns", [.ref 31],[.ref 89,.ref 31,.type "ValueError", .type "Exception", .type "BaseException", .type "object"],88,"NoTurns", true,[],[],false,none,false⟩,#[some (.ref 73),none,some (.str "NoTurns" 260),some (.str "NoTurns" 268),some (.builtin "ValueError.__new__"),some (.bool true)]⟩,
⟨.type "super", none,.fields #[.ref 89,.ref 89,.ref 89],#[]⟩,
⟨.type "builtin_function_or_method", none,.fields #[.builtin "object.__init_subclass__", .ref 89],#[]⟩,
⟨.type "tuple", none,.seq #[.ref 31] 0,#[]⟩,
⟨.type "builtin_function_or_method", none,.fields #[.builtin "type.__prepare__", .type "type"],#[]⟩,
⟨.type "dict", none,.dict #[de P "__module__" 290 (.str "echohouse.errors" 187),de P "__qualname__" 292 (.str "TooMany" 291),de P "__firstlineno__" 294 (.int (18) 293),de P "word" 301 (.ref 105),de P "__static_attributes__" 302 (.ref 106)] 5,#[]⟩,
⟨.type "tuple", none,.seq #[] 0,#[]⟩,
⟨.none,none,.fields #[.int (20) 0,.int (4) 0,.ref 104],#[]⟩,
⟨.type "code", none,.fields #[.str "TooMany" 285,.str "TooMany" 286,.str "/claim/cut.py" 287,.int (18) 0,.int (0) 0,.int (0) 0,.int (0) 0,.int (0) 0,.ref 95,.bool false,.int (181) 0,.ref 96,.none,.none,.none,.none,.int (288) 0,.int (18) 0,.str "/claim/cut.py" 289],#[]⟩,
⟨.type "frame", none,.plain,#[some (.ref 97),some (.ref 3),some (.ref 94),none,some (.str "echohouse.errors" 187),none,some (.ref 0)]⟩] ++
 (gA 99 (tc 5 0) "word" "TooMany.word" 295 20 1 ["self"] (.str "echohouse.errors" 187) ++
 ([⟨.type "tuple", none,.seq #[] 0,#[]⟩,
⟨.type "dict", none,.dict #[de P "__module__" 290 (.str "echohouse.errors" 187),de P "__firstlineno__" 294 (.int (18) 293),de P "word" 301 (.ref 105),de P "__static_attributes__" 302 (.ref 106),de P "__doc__" 303 (.none)] 2,#[]⟩,
⟨.type "type", none,.cls ⟨"TooMany", [.ref 31],[.ref 108,.ref 31,.type "ValueError", .type "Exception", .type "BaseException", .type "object"],107,"TooMany", true,[],[],false,none,false⟩,#[some (.ref 92),none,some (.str "TooMany" 283),some (.str "TooMany" 291),some (.builtin "ValueError.__new__"),some (.bool true)]⟩,
⟨.type "super", none,.fields #[.ref 108,.ref 108,.ref 108],#[]⟩,
⟨.type "builtin_function_or_method", none,.fields #[.builtin "object.__init_subclass__", .ref 108],#[]⟩] ++
 (gA 111 (tp 10) "common" "common" 314 26 2 ["one","other","factors"] (.str "echohouse.divisors" 306) ++
 (gA 118 (tp 11) "half" "half" 323 35 2 ["one","other","goal","factors","shift","further"] (.str "echohouse.divisors" 306) ++
 (gA 125 (tp 12) "stepped" "stepped" 335 46 3 ["one","other","goal","factors"] (.str "echohouse.divisors" 306) ++
 (gA 132 (tp 13) "step" "step" 345 51 3 ["one","other","factors","by","rest","a","b","c","d"] (.str "echohouse.divisors" 306) ++
 (gA 139 (tp 14) "upper_half" "upper_half" 360 55 3 ["one","other","shift","top","other_top","a","b","c","d","low","other_low"] (.str "echohouse.divisors" 306) ++
 (gA 146 (tp 15) "factors_joined" "factors_joined" 377 65 2 ["further","factors","a","b","c","d","e","f","g","h"] (.str "echohouse.divisors" 306) ++
 (gB 153 (tp 16) "divided" "divided" 393 69 2 (.str "echohouse.divisors" 306) ++
 (gA 158 (tp 17) "low_inverse" "low_inverse" 399 80 2 ["odd","bits","inverse","right","mask"] (.str "echohouse.divisors" 306) ++
 ([⟨.type "tuple", none,.seq #[.int (0) 412,.int (1) 413] 0,#[]⟩] ++
 (gA 166 (tp 20) "is_whole" "is_whole" 415 89 1 ["thing"] (.str "echohouse.fracs" 410) ++
 (gA 173 (tp 21) "is_fraction" "is_fraction" 422 91 1 ["thing","top","bottom"] (.str "echohouse.fracs" 410) ++
 (gA 180 (tp 22) "frac" "frac" 431 96 2 ["top","bottom","shared"] (.str "echohouse.fracs" 410) ++
 (gA 187 (tp 23) "plus" "plus" 440 105 2 ["one","other","shared","top","low"] (.str "echohouse.fracs" 410) ++
 (gA 194 (tp 24) "times" "times" 451 110 2 ["one","other","left","right"] (.str "echohouse.fracs" 410) ++
 (gB 201 (tp 26) "is_row" "is_row" 463 115 2 (.str "echohouse.tables" 461) ++
 (gB 206 (tp 27) "is_table" "is_table" 469 117 3 (.str "echohouse.tables" 461) ++
 (gA 211 (tp 28) "weighed" "weighed" 475 119 2 ["one","other","total","left","right"] (.str "echohouse.tables" 461) ++
 (gB 218 (tp 29) "applied" "applied" 486 124 2 (.str "echohouse.tables" 461) ++
 (gB 223 (tp 30) "is_nought" "is_nought" 492 126 1 (.str "echohouse.tables" 461) ++
 (gB 228 (tp 31) "product" "product" 498 128 3 (.str "echohouse.tables" 461) ++
 (gB 233 (tp 32) "lifted" "lifted" 504 132 1 (.str "echohouse.tables" 461) ++
 (gB 238 (tp 33) "weighed_lifted" "weighed_lifted" 510 135 2 (.str "echohouse.tables" 461) ++
 (gA 243 (tp 34) "shared_bottom" "shared_bottom" 516 141 1 ["row","low","top","bottom"] (.str "echohouse.tables" 461) ++
 (gB 250 (tp 35) "raised" "raised" 526 146 2 (.str "echohouse.tables" 461) ++
 (gB 255 (tp 36) "noughts" "noughts" 532 148 2 (.str "echohouse.tables" 461) ++
 (gB 260 (tp 37) "turned" "turned" 538 150 2 (.str "echohouse.tables" 461) ++
 (gB 265 (tp 38) "widened" "widened" 544 152 2 (.str "echohouse.tables" 461) ++
 ([⟨.type "tuple", none,.seq #[] 0,#[]⟩,
⟨.type "builtin_function_or_method", none,.fields #[.builtin "type.__prepare__", .type "type"],#[]⟩,
⟨.type "dict", none,.dict #[de P "__module__" 559 (.str "echohouse.solving" 550),de P "__qualname__" 561 (.str "Answer" 560),de P "__firstlineno__" 563 (.int (155) 562),de P "found" 570 (.ref 283),de P "shows" 580 (.ref 290),de P "__static_attributes__" 581 (.ref 291)] 6,#[]⟩,
⟨.type "tuple", none,.seq #[] 0,#[]⟩,
⟨.none,none,.fields #[.int (157) 0,.int (4) 0,.ref 282,.int (160) 0,.int (4) 0,.ref 289],#[]⟩,
⟨.type "code", none,.fields #[.str "Answer" 554,.str "Answer" 555,.str "/claim/cut.py" 556,.int (155) 0,.int (0) 0,.int (0) 0,.int (0) 0,.int (0) 0,.ref 273,.bool false,.int (181) 0,.ref 274,.none,.none,.none,.none,.int (557) 0,.int (155) 0,.str "/claim/cut.py" 558],#[]⟩,
⟨.type "frame", none,.plain,#[some (.ref 275),some (.ref 3),some (.ref 272),none,some (.str "echohouse.solving" 550),none,some (.ref 0)]⟩] ++
 (gA 277 (tc 40 0) "found" "Answer.found" 564 157 1 ["self"] (.str "echohouse.solving" 550) ++
 (gA 284 (tc 40 1) "shows" "Answer.shows" 571 160 4 ["self","table","wide","aim"] (.str "echohouse.solving" 550) ++
 ([⟨.type "tuple", none,.seq #[] 0,#[]⟩,
⟨.type "dict", none,.dict #[de P "__module__" 559 (.str "echohouse.solving" 550),de P "__firstlineno__" 563 (.int (155) 562),de P "found" 570 (.ref 283),de P "shows" 580 (.ref 290),de P "__static_attributes__" 581 (.ref 291),de P "__dict__" 583 (.ref 294),de P "__weakref__" 585 (.ref 295),de P "__doc__" 586 (.none)] 4,#[]⟩,
⟨.type "type", none,.cls ⟨"Answer", [.type "object"],[.ref 293,.type "object"],292,"Answer", true,[],[.ref 328,.ref 354],false,none,false⟩,#[none,none,some (.str "Answer" 552),some (.str "Answer" 560),some (.builtin "object.__new__"),some (.bool true)]⟩,
⟨.type "getset_descriptor", none,.fields #[.str "__dict__" 582,.ref 293,.builtin "function.__dict__", .builtin "function.__dict__#set"],#[]⟩,
⟨.type "getset_descriptor", none,.fields #[.str "__weakref__" 584,.ref 293,.builtin "ExceptionGroup.__weakref__", .none],#[]⟩,
⟨.type "super", none,.fields #[.ref 293,.ref 293,.ref 293],#[]⟩,
⟨.type "builtin_function_or_method", none,.fields #[.builtin "object.__init_subclass__", .ref 293],#[]⟩,
⟨.type "tuple", none,.seq #[.ref 293] 0,#[]⟩,
⟨.type "builtin_function_or_method", none,.fields #[.builtin "type.__prepare__", .type "type"],#[]⟩,
⟨.type "dict", none,.dict #[de P "__module__" 596 (.str "echohouse.solving" 550),de P "__qualname__" 598 (.str "Solution" 597),de P "__firstlineno__" 600 (.int (162) 599),de P "__init__" 608 (.ref 311),de P "found" 615 (.ref 318),de P "shows" 625 (.ref 325),de P "__static_attributes__" 627 (.ref 326)] 7,#[]⟩,
⟨.type "tuple", none,.seq #[] 0,#[]⟩,
⟨.none,none,.fields #[.int (164) 0,.int (4) 0,.ref 310,.int (167) 0,.int (4) 0,.ref 317,.int (170) 0,.int (4) 0,.ref 324],#[]⟩,
⟨.type "code", none,.fields #[.str "Solution" 591,.str "Solution" 592,.str "/claim/cut.py" 593,.int (162) 0,.int (0) 0,.int (0) 0,.int (0) 0,.int (0) 0,.ref 301,.bool false,.int (181) 0,.ref 302,.none,.none,.none,.none,.int (594) 0,.int (162) 0,.str "/claim/cut.py" 595],#[]⟩,
⟨.type "frame", none,.plain,#[some (.ref 303),some (.ref 3),some (.ref 300),none,some (.str "echohouse.solving" 550),none,some (.ref 0)]⟩] ++
 (gA 305 (tc 41 0) "__init__" "Solution.__init__" 601 164 2 ["self","numbers"] (.str "echohouse.solving" 550) ++
 (gA 312 (tc 41 1) "found" "Solution.found" 609 167 1 ["self"] (.str "echohouse.solving" 550) ++
 (gA 319 (tc 41 2) "shows" "Solution.shows" 616 170 4 ["self","table","wide","aim"] (.str "echohouse.solving" 550) ++
 ([⟨.type "tuple", none,.seq #[.str "numbers" 626] 0,#[]⟩,
⟨.type "dict", none,.dict #[de P "__module__" 596 (.str "echohouse.solving" 550),de P "__firstlineno__" 600 (.int (162) 599),de P "__init__" 608 (.ref 311),de P "found" 615 (.ref 318),de P "shows" 625 (.ref 325),de P "__static_attributes__" 627 (.ref 326),de P "__doc__" 628 (.none)] 2,#[]⟩,
⟨.type "type", none,.cls ⟨"Solution", [.ref 293],[.ref 328,.ref 293,.type "object"],327,"Solution", true,[],[],false,none,false⟩,#[some (.ref 298),none,some (.str "Solution" 589),some (.str "Solution" 597),some (.builtin "object.__new__"),some (.bool true)]⟩,
⟨.type "super", none,.fields #[.ref 328,.ref 328,.ref 328],#[]⟩,
⟨.type "builtin_function_or_method", none,.fields #[.builtin "object.__init_subclass__", .ref 328],#[]⟩,
⟨.type "tuple", none,.seq #[.ref 293] 0,#[]⟩,
⟨.type "builtin_function_or_method", none,.fields #[.builtin "type.__prepare__", .type "type"],#[]⟩,
⟨.type "dict", none,.dict #[de P "__module__" 638 (.str "echohouse.solving" 550),de P "__qualname__" 640 (.str "Never" 639),de P "__firstlineno__" 642 (.int (172) 641),de P "__init__" 650 (.ref 344),de P "shows" 660 (.ref 351),de P "__static_attributes__" 662 (.ref 352)] 6,#[]⟩,
⟨.type "tuple", none,.seq #[] 0,#[]⟩,
⟨.none,none,.fields #[.int (174) 0,.int (4) 0,.ref 343,.int (177) 0,.int (4) 0,.ref 350],#[]⟩,
⟨.type "code", none,.fields #[.str "Never" 633,.str "Never" 634,.str "/claim/cut.py" 635,.int (172) 0,.int (0) 0,.int (0) 0,.int (0) 0,.int (0) 0,.ref 334,.bool false,.int (181) 0,.ref 335,.none,.none,.none,.none,.int (636) 0,.int (172) 0,.str "/claim/cut.py" 637],#[]⟩,
⟨.type "frame", none,.plain,#[some (.ref 336),some (.ref 3),some (.ref 333),none,some (.str "echohouse.solving" 550),none,some (.ref 0)]⟩] ++
 (gA 338 (tc 42 0) "__init__" "Never.__init__" 643 174 2 ["self","weights"] (.str "echohouse.solving" 550) ++
 (gA 345 (tc 42 1) "shows" "Never.shows" 651 177 4 ["self","table","wide","aim"] (.str "echohouse.solving" 550) ++
 ([⟨.type "tuple", none,.seq #[.str "weights" 661] 0,#[]⟩,
⟨.type "dict", none,.dict #[de P "__module__" 638 (.str "echohouse.solving" 550),de P "__firstlineno__" 642 (.int (172) 641),de P "__init__" 650 (.ref 344),de P "shows" 660 (.ref 351),de P "__static_attributes__" 662 (.ref 352),de P "__doc__" 663 (.none)] 2,#[]⟩,
⟨.type "type", none,.cls ⟨"Never", [.ref 293],[.ref 354,.ref 293,.type "object"],353,"Never", true,[],[],false,none,false⟩,#[some (.ref 331),none,some (.str "Never" 631),some (.str "Never" 639),some (.builtin "object.__new__"),some (.bool true)]⟩,
⟨.type "super", none,.fields #[.ref 354,.ref 354,.ref 354],#[]⟩,
⟨.type "builtin_function_or_method", none,.fields #[.builtin "object.__init_subclass__", .ref 354],#[]⟩] ++
 (gB 357 (tp 43) "solved" "solved" 666 181 3 (.str "echohouse.solving" 550) ++
 (gB 362 (tp 44) "left_over" "left_over" 672 187 2 (.str "echohouse.solving" 550) ++
 (gB 367 (tp 45) "whole_rows" "whole_rows" 678 189 1 (.str "echohouse.solving" 550) ++
 (gB 372 (tp 46) "tracked" "tracked" 684 191 1 (.str "echohouse.solving" 550) ++
 (gA 377 (tp 47) "cleared_rows" "cleared_rows" 690 198 2 ["rows","wide","steps","kept","row","left","place"] (.str "echohouse.solving" 550) ++
 (gB 384 (tp 48) "cleared" "cleared" 703 207 2 (.str "echohouse.solving" 550) ++
 (gA 389 (tp 49) "first_place" "first_place" 709 214 2 ["row","wide","place"] (.str "echohouse.solving" 550) ++
 (gB 396 (tp 50) "kept_steps" "kept_steps" 718 219 1 (.str "echohouse.solving" 550) ++
 (gA 401 (tp 51) "last_step" "last_step" 724 221 1 ["kept","place","row"] (.str "echohouse.solving" 550) ++
 (gB 408 (tp 52) "brought" "brought" 733 226 3 (.str "echohouse.solving" 550) ++
 (gB 413 (tp 53) "shortened" "shortened" 739 233 1 (.str "echohouse.solving" 550) ++
 (gB 418 (tp 56) "refuse_run" "refuse_run" 749 240 4 (.str "echohouse.turns" 745) ++
 ([⟨.type "tuple", none,.seq #[] 0,#[]⟩,
⟨.type "builtin_function_or_method", none,.fields #[.builtin "type.__prepare__", .type "type"],#[]⟩,
⟨.type "dict", none,.dict #[de P "__module__" 768 (.str "echohouse.systems" 755),de P "__qualname__" 770 (.str "System" 769),de P "__firstlineno__" 772 (.int (250) 771),de P "__init__" 778 (.ref 434),de P "cells" 785 (.ref 441),de P "ins" 792 (.ref 448),de P "outs" 799 (.ref 455),de P "tables" 805 (.ref 460),de P "told" 812 (.ref 467),de P "__static_attributes__" 814 (.ref 468)] 10,#[]⟩,
⟨.type "tuple", none,.seq #[] 0,#[]⟩,
⟨.none,none,.fields #[.int (252) 0,.int (4) 0,.ref 433,.int (259) 0,.int (4) 0,.ref 440,.int (262) 0,.int (4) 0,.ref 447,.int (265) 0,.int (4) 0,.ref 454,.int (268) 0,.int (4) 0,.ref 459,.int (271) 0,.int (4) 0,.ref 466],#[]⟩,
⟨.type "code", none,.fields #[.str "System" 763,.str "System" 764,.str "/claim/cut.py" 765,.int (250) 0,.int (0) 0,.int (0) 0,.int (0) 0,.int (0) 0,.ref 426,.bool false,.int (181) 0,.ref 427,.none,.none,.none,.none,.int (766) 0,.int (250) 0,.str "/claim/cut.py" 767],#[]⟩,
⟨.type "frame", none,.plain,#[some (.ref 428),some (.ref 3),some (.ref 425),none,some (.str "echohouse.systems" 755),none,some (.ref 0)]⟩] ++
 (gB 430 (tc 60 0) "__init__" "System.__init__" 773 252 5 (.str "echohouse.systems" 755) ++
 (gA 435 (tc 60 1) "cells" "System.cells" 779 259 1 ["self"] (.str "echohouse.systems" 755) ++
 (gA 442 (tc 60 2) "ins" "System.ins" 786 262 1 ["self"] (.str "echohouse.systems" 755) ++
 (gA 449 (tc 60 3) "outs" "System.outs" 793 265 1 ["self"] (.str "echohouse.systems" 755) ++
 (gB 456 (tc 60 4) "tables" "System.tables" 800 268 1 (.str "echohouse.systems" 755) ++
 (gA 461 (tc 60 5) "told" "System.told" 806 271 1 ["self"] (.str "echohouse.systems" 755) ++
 ([⟨.type "tuple", none,.seq #[.str "four" 813] 0,#[]⟩,
⟨.type "dict", none,.dict #[de P "__module__" 768 (.str "echohouse.systems" 755),de P "__firstlineno__" 772 (.int (250) 771),de P "__init__" 778 (.ref 434),de P "cells" 785 (.ref 441),de P "ins" 792 (.ref 448),de P "outs" 799 (.ref 455),de P "tables" 805 (.ref 460),de P "told" 812 (.ref 467),de P "__static_attributes__" 814 (.ref 468),de P "__dict__" 816 (.ref 471),de P "__weakref__" 818 (.ref 472),de P "__doc__" 819 (.none)] 4,#[]⟩,
⟨.type "type", none,.cls ⟨"System", [.type "object"],[.ref 470,.type "object"],469,"System", true,[],[],false,none,false⟩,#[none,none,some (.str "System" 761),some (.str "System" 769),some (.builtin "object.__new__"),some (.bool true)]⟩,
⟨.type "getset_descriptor", none,.fields #[.str "__dict__" 815,.ref 470,.builtin "function.__dict__", .builtin "function.__dict__#set"],#[]⟩,
⟨.type "getset_descriptor", none,.fields #[.str "__weakref__" 817,.ref 470,.builtin "ExceptionGroup.__weakref__", .none],#[]⟩,
⟨.type "super", none,.fields #[.ref 470,.ref 470,.ref 470],#[]⟩,
⟨.type "builtin_function_or_method", none,.fields #[.builtin "object.__init_subclass__", .ref 470],#[]⟩] ++
 (gA 475 (tp 61) "is_system" "is_system" 822 273 4 ["move","push","look","through","cells","ins","outs"] (.str "echohouse.systems" 755) ++
 (gA 482 (tp 62) "run" "run" 835 280 3 ["system","start","inputs","move","push","look","through","onward","outward","state","outputs","given"] (.str "echohouse.systems" 755) ++
 ([⟨.type "tuple", none,.seq #[] 0,#[]⟩,
⟨.type "builtin_function_or_method", none,.fields #[.builtin "type.__prepare__", .type "type"],#[]⟩,
⟨.type "dict", none,.dict #[de P "__module__" 862 (.str "echohouse.steering" 853),de P "__qualname__" 864 (.str "Finding" 863),de P "__firstlineno__" 866 (.int (291) 865),de P "found" 873 (.ref 502),de P "shows" 882 (.ref 509),de P "holds" 891 (.ref 516),de P "__static_attributes__" 892 (.ref 517)] 7,#[]⟩,
⟨.type "tuple", none,.seq #[] 0,#[]⟩,
⟨.none,none,.fields #[.int (293) 0,.int (4) 0,.ref 501,.int (296) 0,.int (4) 0,.ref 508,.int (300) 0,.int (4) 0,.ref 515],#[]⟩,
⟨.type "code", none,.fields #[.str "Finding" 857,.str "Finding" 858,.str "/claim/cut.py" 859,.int (291) 0,.int (0) 0,.int (0) 0,.int (0) 0,.int (0) 0,.ref 492,.bool false,.int (181) 0,.ref 493,.none,.none,.none,.none,.int (860) 0,.int (291) 0,.str "/claim/cut.py" 861],#[]⟩,
⟨.type "frame", none,.plain,#[some (.ref 494),some (.ref 3),some (.ref 491),none,some (.str "echohouse.steering" 853),none,some (.ref 0)]⟩] ++
 (gA 496 (tc 64 0) "found" "Finding.found" 867 293 1 ["self"] (.str "echohouse.steering" 853) ++
 (gA 503 (tc 64 1) "shows" "Finding.shows" 874 296 3 ["self","system","aim"] (.str "echohouse.steering" 853) ++
 (gA 510 (tc 64 2) "holds" "Finding.holds" 883 300 3 ["self","system","aim"] (.str "echohouse.steering" 853) ++
 ([⟨.type "tuple", none,.seq #[] 0,#[]⟩,
⟨.type "dict", none,.dict #[de P "__module__" 862 (.str "echohouse.steering" 853),de P "__firstlineno__" 866 (.int (291) 865),de P "found" 873 (.ref 502),de P "shows" 882 (.ref 509),de P "holds" 891 (.ref 516),de P "__static_attributes__" 892 (.ref 517),de P "__dict__" 894 (.ref 520),de P "__weakref__" 896 (.ref 521),de P "__doc__" 897 (.none)] 4,#[]⟩,
⟨.type "type", none,.cls ⟨"Finding", [.type "object"],[.ref 519,.type "object"],518,"Finding", true,[],[.ref 554,.ref 580,.ref 637,.ref 663],false,none,false⟩,#[none,none,some (.str "Finding" 855),some (.str "Finding" 863),some (.builtin "object.__new__"),some (.bool true)]⟩,
⟨.type "getset_descriptor", none,.fields #[.str "__dict__" 893,.ref 519,.builtin "function.__dict__", .builtin "function.__dict__#set"],#[]⟩,
⟨.type "getset_descriptor", none,.fields #[.str "__weakref__" 895,.ref 519,.builtin "ExceptionGroup.__weakref__", .none],#[]⟩,
⟨.type "super", none,.fields #[.ref 519,.ref 519,.ref 519],#[]⟩,
⟨.type "builtin_function_or_method", none,.fields #[.builtin "object.__init_subclass__", .ref 519],#[]⟩,
⟨.type "tuple", none,.seq #[.ref 519] 0,#[]⟩,
⟨.type "builtin_function_or_method", none,.fields #[.builtin "type.__prepare__", .type "type"],#[]⟩,
⟨.type "dict", none,.dict #[de P "__module__" 907 (.str "echohouse.steering" 853),de P "__qualname__" 909 (.str "Inputs" 908),de P "__firstlineno__" 911 (.int (302) 910),de P "__init__" 919 (.ref 537),de P "found" 926 (.ref 544),de P "holds" 937 (.ref 551),de P "__static_attributes__" 939 (.ref 552)] 7,#[]⟩,
⟨.type "tuple", none,.seq #[] 0,#[]⟩,
⟨.none,none,.fields #[.int (304) 0,.int (4) 0,.ref 536,.int (307) 0,.int (4) 0,.ref 543,.int (310) 0,.int (4) 0,.ref 550],#[]⟩,
⟨.type "code", none,.fields #[.str "Inputs" 902,.str "Inputs" 903,.str "/claim/cut.py" 904,.int (302) 0,.int (0) 0,.int (0) 0,.int (0) 0,.int (0) 0,.ref 527,.bool false,.int (181) 0,.ref 528,.none,.none,.none,.none,.int (905) 0,.int (302) 0,.str "/claim/cut.py" 906],#[]⟩,
⟨.type "frame", none,.plain,#[some (.ref 529),some (.ref 3),some (.ref 526),none,some (.str "echohouse.steering" 853),none,some (.ref 0)]⟩] ++
 (gA 531 (tc 65 0) "__init__" "Inputs.__init__" 912 304 2 ["self","sent"] (.str "echohouse.steering" 853) ++
 (gA 538 (tc 65 1) "found" "Inputs.found" 920 307 1 ["self"] (.str "echohouse.steering" 853) ++
 (gA 545 (tc 65 2) "holds" "Inputs.holds" 927 310 3 ["self","system","aim","outputs","end"] (.str "echohouse.steering" 853) ++
 ([⟨.type "tuple", none,.seq #[.str "sent" 938] 0,#[]⟩,
⟨.type "dict", none,.dict #[de P "__module__" 907 (.str "echohouse.steering" 853),de P "__firstlineno__" 911 (.int (302) 910),de P "__init__" 919 (.ref 537),de P "found" 926 (.ref 544),de P "holds" 937 (.ref 551),de P "__static_attributes__" 939 (.ref 552),de P "__doc__" 940 (.none)] 2,#[]⟩,
⟨.type "type", none,.cls ⟨"Inputs", [.ref 519],[.ref 554,.ref 519,.type "object"],553,"Inputs", true,[],[],false,none,false⟩,#[some (.ref 524),none,some (.str "Inputs" 900),some (.str "Inputs" 908),some (.builtin "object.__new__"),some (.bool true)]⟩,
⟨.type "super", none,.fields #[.ref 554,.ref 554,.ref 554],#[]⟩,
⟨.type "builtin_function_or_method", none,.fields #[.builtin "object.__init_subclass__", .ref 554],#[]⟩,
⟨.type "tuple", none,.seq #[.ref 519] 0,#[]⟩,
⟨.type "builtin_function_or_method", none,.fields #[.builtin "type.__prepare__", .type "type"],#[]⟩,
⟨.type "dict", none,.dict #[de P "__module__" 950 (.str "echohouse.steering" 853),de P "__qualname__" 952 (.str "Unmoved" 951),de P "__firstlineno__" 954 (.int (315) 953),de P "__init__" 962 (.ref 570),de P "holds" 973 (.ref 577),de P "__static_attributes__" 975 (.ref 578)] 6,#[]⟩,
⟨.type "tuple", none,.seq #[] 0,#[]⟩,
⟨.none,none,.fields #[.int (317) 0,.int (4) 0,.ref 569,.int (320) 0,.int (4) 0,.ref 576],#[]⟩,
⟨.type "code", none,.fields #[.str "Unmoved" 945,.str "Unmoved" 946,.str "/claim/cut.py" 947,.int (315) 0,.int (0) 0,.int (0) 0,.int (0) 0,.int (0) 0,.ref 560,.bool false,.int (181) 0,.ref 561,.none,.none,.none,.none,.int (948) 0,.int (315) 0,.str "/claim/cut.py" 949],#[]⟩,
⟨.type "frame", none,.plain,#[some (.ref 562),some (.ref 3),some (.ref 559),none,some (.str "echohouse.steering" 853),none,some (.ref 0)]⟩] ++
 (gA 564 (tc 66 0) "__init__" "Unmoved.__init__" 955 317 2 ["self","weights"] (.str "echohouse.steering" 853) ++
 (gA 571 (tc 66 1) "holds" "Unmoved.holds" 963 320 3 ["self","system","aim","cells","moved"] (.str "echohouse.steering" 853) ++
 ([⟨.type "tuple", none,.seq #[.str "weights" 974] 0,#[]⟩,
⟨.type "dict", none,.dict #[de P "__module__" 950 (.str "echohouse.steering" 853),de P "__firstlineno__" 954 (.int (315) 953),de P "__init__" 962 (.ref 570),de P "holds" 973 (.ref 577),de P "__static_attributes__" 975 (.ref 578),de P "__doc__" 976 (.none)] 2,#[]⟩,
⟨.type "type", none,.cls ⟨"Unmoved", [.ref 519],[.ref 580,.ref 519,.type "object"],579,"Unmoved", true,[],[],false,none,false⟩,#[some (.ref 557),none,some (.str "Unmoved" 943),some (.str "Unmoved" 951),some (.builtin "object.__new__"),some (.bool true)]⟩,
⟨.type "super", none,.fields #[.ref 580,.ref 580,.ref 580],#[]⟩,
⟨.type "builtin_function_or_method", none,.fields #[.builtin "object.__init_subclass__", .ref 580],#[]⟩] ++
 (gA 583 (tp 67) "refuse_aim" "refuse_aim" 979 326 2 ["system","aim"] (.str "echohouse.steering" 853) ++
 (gA 590 (tp 68) "rest" "rest" 987 329 1 ["system"] (.str "echohouse.steering" 853) ++
 (gA 597 (tp 69) "reach_table" "reach_table" 994 331 1 ["system","move","push","look","through","table","turn"] (.str "echohouse.steering" 853) ++
 (gB 604 (tp 70) "steered" "steered" 1007 338 2 (.str "echohouse.steering" 853) ++
 ([⟨.type "tuple", none,.seq #[.ref 519] 0,#[]⟩,
⟨.type "builtin_function_or_method", none,.fields #[.builtin "type.__prepare__", .type "type"],#[]⟩,
⟨.type "dict", none,.dict #[de P "__module__" 1022 (.str "echohouse.telling" 1013),de P "__qualname__" 1024 (.str "Sums" 1023),de P "__firstlineno__" 1026 (.int (346) 1025),de P "__init__" 1034 (.ref 622),de P "found" 1041 (.ref 629),de P "holds" 1047 (.ref 634),de P "__static_attributes__" 1049 (.ref 635)] 7,#[]⟩,
⟨.type "tuple", none,.seq #[] 0,#[]⟩,
⟨.none,none,.fields #[.int (348) 0,.int (4) 0,.ref 621,.int (351) 0,.int (4) 0,.ref 628,.int (354) 0,.int (4) 0,.ref 633],#[]⟩,
⟨.type "code", none,.fields #[.str "Sums" 1017,.str "Sums" 1018,.str "/claim/cut.py" 1019,.int (346) 0,.int (0) 0,.int (0) 0,.int (0) 0,.int (0) 0,.ref 612,.bool false,.int (181) 0,.ref 613,.none,.none,.none,.none,.int (1020) 0,.int (346) 0,.str "/claim/cut.py" 1021],#[]⟩,
⟨.type "frame", none,.plain,#[some (.ref 614),some (.ref 3),some (.ref 611),none,some (.str "echohouse.telling" 1013),none,some (.ref 0)]⟩] ++
 (gA 616 (tc 72 0) "__init__" "Sums.__init__" 1027 348 2 ["self","sums"] (.str "echohouse.telling" 1013) ++
 (gA 623 (tc 72 1) "found" "Sums.found" 1035 351 1 ["self"] (.str "echohouse.telling" 1013) ++
 (gB 630 (tc 72 2) "holds" "Sums.holds" 1042 354 3 (.str "echohouse.telling" 1013) ++
 ([⟨.type "tuple", none,.seq #[.str "sums" 1048] 0,#[]⟩,
⟨.type "dict", none,.dict #[de P "__module__" 1022 (.str "echohouse.telling" 1013),de P "__firstlineno__" 1026 (.int (346) 1025),de P "__init__" 1034 (.ref 622),de P "found" 1041 (.ref 629),de P "holds" 1047 (.ref 634),de P "__static_attributes__" 1049 (.ref 635),de P "__doc__" 1050 (.none)] 2,#[]⟩,
⟨.type "type", none,.cls ⟨"Sums", [.ref 519],[.ref 637,.ref 519,.type "object"],636,"Sums", true,[],[],false,none,false⟩,#[some (.ref 609),none,some (.str "Sums" 1015),some (.str "Sums" 1023),some (.builtin "object.__new__"),some (.bool true)]⟩,
⟨.type "super", none,.fields #[.ref 637,.ref 637,.ref 637],#[]⟩,
⟨.type "builtin_function_or_method", none,.fields #[.builtin "object.__init_subclass__", .ref 637],#[]⟩,
⟨.type "tuple", none,.seq #[.ref 519] 0,#[]⟩,
⟨.type "builtin_function_or_method", none,.fields #[.builtin "type.__prepare__", .type "type"],#[]⟩,
⟨.type "dict", none,.dict #[de P "__module__" 1060 (.str "echohouse.telling" 1013),de P "__qualname__" 1062 (.str "Unseen" 1061),de P "__firstlineno__" 1064 (.int (360) 1063),de P "__init__" 1072 (.ref 653),de P "holds" 1081 (.ref 660),de P "__static_attributes__" 1083 (.ref 661)] 6,#[]⟩,
⟨.type "tuple", none,.seq #[] 0,#[]⟩,
⟨.none,none,.fields #[.int (362) 0,.int (4) 0,.ref 652,.int (365) 0,.int (4) 0,.ref 659],#[]⟩,
⟨.type "code", none,.fields #[.str "Unseen" 1055,.str "Unseen" 1056,.str "/claim/cut.py" 1057,.int (360) 0,.int (0) 0,.int (0) 0,.int (0) 0,.int (0) 0,.ref 643,.bool false,.int (181) 0,.ref 644,.none,.none,.none,.none,.int (1058) 0,.int (360) 0,.str "/claim/cut.py" 1059],#[]⟩,
⟨.type "frame", none,.plain,#[some (.ref 645),some (.ref 3),some (.ref 642),none,some (.str "echohouse.telling" 1013),none,some (.ref 0)]⟩] ++
 (gA 647 (tc 73 0) "__init__" "Unseen.__init__" 1065 362 2 ["self","state"] (.str "echohouse.telling" 1013) ++
 (gA 654 (tc 73 1) "holds" "Unseen.holds" 1073 365 3 ["self","system","aim"] (.str "echohouse.telling" 1013) ++
 ([⟨.type "tuple", none,.seq #[.str "state" 1082] 0,#[]⟩,
⟨.type "dict", none,.dict #[de P "__module__" 1060 (.str "echohouse.telling" 1013),de P "__firstlineno__" 1064 (.int (360) 1063),de P "__init__" 1072 (.ref 653),de P "holds" 1081 (.ref 660),de P "__static_attributes__" 1083 (.ref 661),de P "__doc__" 1084 (.none)] 2,#[]⟩,
⟨.type "type", none,.cls ⟨"Unseen", [.ref 519],[.ref 663,.ref 519,.type "object"],662,"Unseen", true,[],[],false,none,false⟩,#[some (.ref 640),none,some (.str "Unseen" 1053),some (.str "Unseen" 1061),some (.builtin "object.__new__"),some (.bool true)]⟩,
⟨.type "super", none,.fields #[.ref 663,.ref 663,.ref 663],#[]⟩,
⟨.type "builtin_function_or_method", none,.fields #[.builtin "object.__init_subclass__", .ref 663],#[]⟩] ++
 (gA 666 (tp 74) "tell_table" "tell_table" 1087 367 1 ["system"] (.str "echohouse.telling" 1013) ++
 (gA 673 (tp 75) "tell_rows" "tell_rows" 1094 369 2 ["system","many","move","push","look","through","rows","turn"] (.str "echohouse.telling" 1013) ++
 (gB 680 (tp 76) "told_by" "told_by" 1108 376 2 (.str "echohouse.telling" 1013) ++
 (gA 685 (tp 78) "_law_cell" "_law_cell" 1116 384 2 ["_law_script","_law_k"] (.str "law_echohouse_k54_findings_of_anything" 1114) ++
 (gA 692 (tp 79) "_law_mix" "_law_mix" 1124 388 2 ["_law_cell_here","_law_k","_law_number_here"] (.str "law_echohouse_k54_findings_of_anything" 1114) ++
 (gA 699 (tp 80) "_law_number" "_law_number" 1133 392 1 ["_law_number_here"] (.str "law_echohouse_k54_findings_of_anything" 1114) ++
 (gA 706 (tp 81) "_law_row" "_law_row" 1140 396 2 ["_law_cell_here","_law_many","_law_row_here","_law_left","_law_k","_law_number_here"] (.str "law_echohouse_k54_findings_of_anything" 1114) ++
 (gB 713 (tp 82) "_law_tables" "_law_tables" 1152 406 2 (.str "law_echohouse_k54_findings_of_anything" 1114) ++
 (gB 718 (tp 83) "_law_things" "_law_things" 1158 417 3 (.str "law_echohouse_k54_findings_of_anything" 1114) ++
 (gA 723 (tp 84) "_law_odd" "_law_odd" 1164 426 1 ["_law_many","_law_zero","_law_some"] (.str "law_echohouse_k54_findings_of_anything" 1114) ++
 (gA 730 (tp 85) "_law_refused" "_law_refused" 1173 432 3 ["_law_call","_law_system","_law_aim","_law_error","e"] (.str "law_echohouse_k54_findings_of_anything" 1114) ++
 ([⟨.type "tuple", none,.seq #[] 0,#[]⟩,
⟨.none,none,.fields #[],#[]⟩,
⟨.type "tuple", none,.seq #[.str "_law_found" 1187,.str "_law_kind" 1188,.str "_law_system" 1189,.str "_law_aims" 1190,.str "_law_many" 1191,.str "_law_aim" 1192] 0,#[]⟩,
⟨.type "tuple", none,.seq #[.str "_law_found" 1193] 0,#[]⟩,
Eg (tp 86) "_law_asked" "_law_asked",
⟨.type "code", none,.fields #[.str "_law_asked" 1184,.str "_law_asked" 1185,.str "/claim/cut.py" 1186,.int (441) 0,.int (5) 0,.int (0) 0,.int (0) 0,.int (3) 0,.ref 737,.bool true,.int (181) 0,.ref 738,.none,.ref 739,.ref 740,.ref 741,.int (1194) 0,.int (441) 0,.str "/claim/cut.py" 1195],#[]⟩,
kK (tp 86) "_law_asked" "_law_asked" (.str "law_echohouse_k54_findings_of_anything" 1114) 742] ++
 (gA 744 (tp 87) "law" "law" 1197 451 1 ["_law_script","_law_tables_here","_law_system","_law_many","_law_aims","_law_aim","_law_thing","_law_one","_law_other"] (.str "law_echohouse_k54_findings_of_anything" 1114)))))))))))))))))))))))))))))))))))))))))))))))))))))))))))))))))))))))))))))))))))))))))))))))))))))))))))))
def DZ (P:Params):PySem.W.BT:=sM 12 ((((ob P).take 15).set 3 (o3 P 9 9 (.str "__main__" 164))).set 12 (wZ 0))
def Fn (P:Params):PySem.W.BT:=sM 12 (((((ob P).take 73).set 3 (o3 P 12 12 (.str "echohouse.errors" 187))).set 12 (wZ 3)).set 31 (⟨.type "type", none,.cls ⟨"EchoError", [.type "ValueError"],[.ref 31,.type "ValueError", .type "Exception", .type "BaseException", .type "object"],30,"EchoError", true,[],[.ref 51,.ref 70],false,none,false⟩,#[some (.ref 15),none,some (.str "EchoError" 189),some (.str "EchoError" 197),some (.builtin "ValueError.__new__"),some (.bool true)]⟩))
def Fo (P:Params):PySem.W.BT:=sM 12 ((((ob P).take 111).set 3 (o3 P 15 15 (.str "echohouse.divisors" 306))).set 12 (wZ 5))
def Fp (P:Params):PySem.W.BT:=sM 12 ((((ob P).take 206).set 3 (o3 P 32 32 (.str "echohouse.tables" 461))).set 12 (wZ 19))
def Fq (P:Params):PySem.W.BT:=sM 12 (((((ob P).take 298).set 3 (o3 P 45 45 (.str "echohouse.solving" 550))).set 12 (wZ 32)).set 293 (⟨.type "type", none,.cls ⟨"Answer", [.type "object"],[.ref 293,.type "object"],292,"Answer", true,[],[],false,none,false⟩,#[none,none,some (.str "Answer" 552),some (.str "Answer" 560),some (.builtin "object.__new__"),some (.bool true)]⟩))
def Fs (P:Params):PySem.W.BT:=sM 12 ((((ob P).take 357).set 3 (o3 P 47 47 (.str "echohouse.solving" 550))).set 12 (wZ 34))
def Ft (P:Params):PySem.W.BT:=sM 12 ((((ob P).take 475).set 3 (o3 P 63 63 (.str "echohouse.systems" 755))).set 12 (wZ 47))
def Fu (P:Params):PySem.W.BT:=sM 12 (((((ob P).take 557).set 3 (o3 P 67 67 (.str "echohouse.steering" 853))).set 12 (wZ 51)).set 519 (⟨.type "type", none,.cls ⟨"Finding", [.type "object"],[.ref 519,.type "object"],518,"Finding", true,[],[.ref 554],false,none,false⟩,#[none,none,some (.str "Finding" 855),some (.str "Finding" 863),some (.builtin "object.__new__"),some (.bool true)]⟩))
def Fv (P:Params):PySem.W.BT:=sM 12 (((((ob P).take 640).set 3 (o3 P 73 73 (.str "echohouse.telling" 1013))).set 12 (wZ 57)).set 519 (⟨.type "type", none,.cls ⟨"Finding", [.type "object"],[.ref 519,.type "object"],518,"Finding", true,[],[.ref 554,.ref 580,.ref 637],false,none,false⟩,#[none,none,some (.str "Finding" 855),some (.str "Finding" 863),some (.builtin "object.__new__"),some (.bool true)]⟩))
def Fw (P:Params):PySem.W.BT:=sM 12 ((((ob P).take 713).set 3 (o3 P 81 81 (.str "law_echohouse_k54_findings_of_anything" 1114))).set 12 (wZ 65))
def mI (P:Params):PySem.W.BT:=sM 12 (((ob P).set 3 (o3 P 87 87 (.str "law_echohouse_k54_findings_of_anything" 1114))).set 12 (wZ 71))
abbrev bd:List Stmt:=pg.main.body
def en:Env:={ scope:=pg.main.scope,locals:=mainNs,globals:=mainNs,cells:=[],code:=.ref 13,frame:=some 14 }
def cE:Code:=.body bd en
theorem h0 (P:Params):PySem.W.absHeap (sM 12 (bol P)) 11 {}=PySem.W.boot_heap P:=by kernel_rfl
set_option maxHeartbeats 0 in
open PySem.W PySem.Calls in
theorem hp (w:World):(fun os:OsState=>DR treeTable pg w 11 (some (.ref 6)) 12 ⟨sM 12 (bol w.params),11,{},#[],boot_drawn,boot_toks,os⟩ (topStub pg))=fun os=>some ((⟨DZ w.params,15,{},#[],PySem.W.boot_drawn,187,os⟩:PySem.W.SharedT),⟨denote treeTable (.body bd en),cE,⟨0,0,0,0⟩,[topFrame ⟨0,0,0,0⟩]⟩):=by kernel_rfl
set_option maxHeartbeats 0 in
open PySem.W PySem.Calls in
theorem hq (w:World):(fun os:OsState=>segRunT treeTable pg w 11 (some (.ref 6)) 1 1 (⟨DZ w.params,15,{},#[],PySem.W.boot_drawn,187,os⟩:PySem.W.SharedT) (blockOf bd en cE ⟨0,0,0,0⟩ [topFrame ⟨0,0,0,0⟩]))=fun os=>some (.next,(⟨DZ w.params,15,{},#[],PySem.W.boot_drawn,187,os⟩:PySem.W.SharedT),cE,⟨0,0,0,0⟩):=by kernel_rfl
set_option maxHeartbeats 0 in
open PySem.W PySem.Calls in
theorem FF (w:World):(fun os:OsState=>segRunT treeTable pg w 11 (some (.ref 6)) 1 712 (⟨DZ w.params,15,{},#[],PySem.W.boot_drawn,187,os⟩:PySem.W.SharedT) (piecesOf ((bd.drop 0).take 4) en cE ⟨0,0,0,0⟩ [topFrame ⟨0,0,0,0⟩]))=fun os=>some (.next,(⟨Fn w.params,73,{},#[],PySem.W.boot_drawn,260,os⟩:PySem.W.SharedT),cE,⟨10,0,13,23⟩):=by kernel_rfl
set_option maxHeartbeats 0 in
open PySem.W PySem.Calls in
theorem Cy (w:World):(fun os:OsState=>segRunT treeTable pg w 11 (some (.ref 6)) 1 505 (⟨Fn w.params,73,{},#[],PySem.W.boot_drawn,260,os⟩:PySem.W.SharedT) (piecesOf ((bd.drop 4).take 4) en cE ⟨10,0,13,23⟩ [topFrame ⟨0,0,0,0⟩]))=fun os=>some (.next,(⟨Fo w.params,111,{},#[],PySem.W.boot_drawn,310,os⟩:PySem.W.SharedT),cE,⟨23,0,23,5⟩):=by kernel_rfl
set_option maxHeartbeats 0 in
open PySem.W PySem.Calls in
theorem FH (w:World):(fun os:OsState=>segRunT treeTable pg w 11 (some (.ref 6)) 1 501 (⟨Fo w.params,111,{},#[],PySem.W.boot_drawn,310,os⟩:PySem.W.SharedT) (piecesOf ((bd.drop 8).take 19) en cE ⟨23,0,23,5⟩ [topFrame ⟨0,0,0,0⟩]))=fun os=>some (.next,(⟨Fp w.params,206,{},#[],PySem.W.boot_drawn,469,os⟩:PySem.W.SharedT),cE,⟨115,0,116,108⟩):=by kernel_rfl
set_option maxHeartbeats 0 in
open PySem.W PySem.Calls in
theorem FJ (w:World):(fun os:OsState=>segRunT treeTable pg w 11 (some (.ref 6)) 1 589 (⟨Fp w.params,206,{},#[],PySem.W.boot_drawn,469,os⟩:PySem.W.SharedT) (piecesOf ((bd.drop 27).take 14) en cE ⟨115,0,116,108⟩ [topFrame ⟨0,0,0,0⟩]))=fun os=>some (.next,(⟨Fq w.params,298,{},#[],PySem.W.boot_drawn,589,os⟩:PySem.W.SharedT),cE,⟨155,0,161,20⟩):=by kernel_rfl
set_option maxHeartbeats 0 in
open PySem.W PySem.Calls in
theorem FK (w:World):(fun os:OsState=>segRunT treeTable pg w 11 (some (.ref 6)) 1 590 (⟨Fq w.params,298,{},#[],PySem.W.boot_drawn,589,os⟩:PySem.W.SharedT) (piecesOf ((bd.drop 41).take 2) en cE ⟨155,0,161,20⟩ [topFrame ⟨0,0,0,0⟩]))=fun os=>some (.next,(⟨Fs w.params,357,{},#[],PySem.W.boot_drawn,666,os⟩:PySem.W.SharedT),cE,⟨172,0,180,106⟩):=by kernel_rfl
set_option maxHeartbeats 0 in
open PySem.W PySem.Calls in
theorem FL (w:World):(fun os:OsState=>segRunT treeTable pg w 11 (some (.ref 6)) 1 747 (⟨Fs w.params,357,{},#[],PySem.W.boot_drawn,666,os⟩:PySem.W.SharedT) (piecesOf ((bd.drop 43).take 18) en cE ⟨172,0,180,106⟩ [topFrame ⟨0,0,0,0⟩]))=fun os=>some (.next,(⟨Ft w.params,475,{},#[],PySem.W.boot_drawn,822,os⟩:PySem.W.SharedT),cE,⟨250,0,272,24⟩):=by kernel_rfl
set_option maxHeartbeats 0 in
open PySem.W PySem.Calls in
theorem FN (w:World):(fun os:OsState=>segRunT treeTable pg w 11 (some (.ref 6)) 1 682 (⟨Ft w.params,475,{},#[],PySem.W.boot_drawn,822,os⟩:PySem.W.SharedT) (piecesOf ((bd.drop 61).take 5) en cE ⟨250,0,272,24⟩ [topFrame ⟨0,0,0,0⟩]))=fun os=>some (.next,(⟨Fu w.params,557,{},#[],PySem.W.boot_drawn,943,os⟩:PySem.W.SharedT),cE,⟨302,0,314,25⟩):=by kernel_rfl
set_option maxHeartbeats 0 in
open PySem.W PySem.Calls in
theorem FP (w:World):(fun os:OsState=>segRunT treeTable pg w 11 (some (.ref 6)) 1 714 (⟨Fu w.params,557,{},#[],PySem.W.boot_drawn,943,os⟩:PySem.W.SharedT) (piecesOf ((bd.drop 66).take 7) en cE ⟨302,0,314,25⟩ [topFrame ⟨0,0,0,0⟩]))=fun os=>some (.next,(⟨Fv w.params,640,{},#[],PySem.W.boot_drawn,1053,os⟩:PySem.W.SharedT),cE,⟨346,0,359,68⟩):=by kernel_rfl
set_option maxHeartbeats 0 in
open PySem.W PySem.Calls in
theorem FQ (w:World):(fun os:OsState=>segRunT treeTable pg w 11 (some (.ref 6)) 1 503 (⟨Fv w.params,640,{},#[],PySem.W.boot_drawn,1053,os⟩:PySem.W.SharedT) (piecesOf ((bd.drop 73).take 9) en cE ⟨346,0,359,68⟩ [topFrame ⟨0,0,0,0⟩]))=fun os=>some (.next,(⟨Fw w.params,713,{},#[],PySem.W.boot_drawn,1152,os⟩:PySem.W.SharedT),cE,⟨396,0,405,24⟩):=by kernel_rfl
set_option maxHeartbeats 0 in
open PySem.W PySem.Calls in
theorem El (w:World):(fun os:OsState=>segRunT treeTable pg w 11 (some (.ref 6)) 1 189 (⟨Fw w.params,713,{},#[],PySem.W.boot_drawn,1152,os⟩:PySem.W.SharedT) (piecesOf ((bd.drop 82).take 6) en cE ⟨396,0,405,24⟩ [topFrame ⟨0,0,0,0⟩]))=fun os=>some (.next,(⟨mI w.params,751,{},#[],PySem.W.boot_drawn,1212,os⟩:PySem.W.SharedT),cE,⟨451,0,473,15⟩):=by kernel_rfl
set_option maxHeartbeats 0 in
open PySem.W PySem.Calls in
theorem hf (w:World):(fun os:OsState=>jI treeTable pg w 11 (some (.ref 6)) 2 (⟨mI w.params,751,{},#[],PySem.W.boot_drawn,1212,os⟩:PySem.W.SharedT) ⟨doneF .next,cE,⟨451,0,473,15⟩,[topFrame ⟨0,0,0,0⟩]⟩)=fun os=>some (⟨mI w.params,751,{},#[],PySem.W.boot_drawn,1212,os⟩:PySem.W.SharedT):=by kernel_rfl
theorem hb:bd=((bd.drop 0).take 4)++(((bd.drop 4).take 4)++(((bd.drop 8).take 19)++(((bd.drop 27).take 14)++(((bd.drop 41).take 2)++(((bd.drop 43).take 18)++(((bd.drop 61).take 5)++(((bd.drop 66).take 7)++(((bd.drop 73).take 9)++(((bd.drop 82).take 6)++[]))))))))):=by kernel_rfl
open PySem.W PySem.Calls in
theorem hr (w:World)(os:OsState):topRun treeTable pg w 11 (some (.ref 6)) (12+(1+(712+(505+(501+(589+(590+(747+(682+(714+(503+(189+2)))))))))))) ⟨boot_heap w.params,Array.mk [],boot_drawn,boot_toks,os⟩ (topStub pg)=some ⟨absHeap (mI w.params) 751 {},Array.mk [],boot_drawn,1212,os⟩:=by
 have e0:=wz (congrFun (hp w) os)
 unfold SharedT.abs at e0
 dsimp only at e0
 rw [h0] at e0
 refine go_top e0 (piece_block (segRun_of (congrFun (hq w) os)) ?_)
 have ef:=nW (congrFun (hf w) os)
 unfold SharedT.abs at ef
 rw [hb]
 refine piece_app (segRun_of (congrFun (FF w) os)) ?_
 refine piece_app (segRun_of (congrFun (Cy w) os)) ?_
 refine piece_app (segRun_of (congrFun (FH w) os)) ?_
 refine piece_app (segRun_of (congrFun (FJ w) os)) ?_
 refine piece_app (segRun_of (congrFun (FK w) os)) ?_
 refine piece_app (segRun_of (congrFun (FL w) os)) ?_
 refine piece_app (segRun_of (congrFun (FN w) os)) ?_
 refine piece_app (segRun_of (congrFun (FP w) os)) ?_
 refine piece_app (segRun_of (congrFun (FQ w) os)) ?_
 refine piece_app (segRun_of (congrFun (El w) os)) ?_
 exact piece_nil ef
set_option maxHeartbeats 0 in
open PySem.W PySem.Calls in
theorem FR (w:World):(fun os:OsState=>staticsOk (importedModules pg.main.body) (boot_heap w.params) (absHeap (mI w.params) 751 {})&&namesBound pg (absHeap (mI w.params) 751 {})&&gensDone ⟨absHeap (mI w.params) 751 {},Array.mk [],boot_drawn,1212,os⟩&&laidKept (boot_heap w.params) (absHeap (mI w.params) 751 {}))=fun _=>true:=by kernel_rfl
set_option maxHeartbeats 0 in
open PySem.W PySem.Calls in
theorem Fe (w:World):(fun os:OsState=>(openSeen qv [] (importedModules pg.main.body) xt true ⟨absHeap (mI w.params) 751 {},Array.mk [],boot_drawn,1212,os⟩).1)=fun _=>(openGood qv []).1:=by kernel_rfl
set_option maxHeartbeats 0 in
open PySem.W PySem.Calls in
theorem FU (w:World):(fun os:OsState=>(openSeen qv [] (importedModules pg.main.body) xt true ⟨absHeap (mI w.params) 751 {},Array.mk [],boot_drawn,1212,os⟩).2)=fun _=>(openGood qv []).2:=by kernel_rfl
set_option maxHeartbeats 0 in
open PySem.W PySem.Calls in
theorem FV (w:World):(fun os:OsState=>hk.obs ⟨absHeap (mI w.params) 751 {},Array.mk [],boot_drawn,1212,os⟩)=fun _=>hk.val w:=by kernel_rfl
theorem hl:PySem.W.LeftO lw.row.prog qv [] xt hk.obs hk.val 11570:=CN (p:=pg) (by kernel_rfl) (by kernel_rfl) (fun _=>by kernel_rfl) (fun _=>by kernel_rfl) hr (by kernel_rfl) FR Fe FU FV
theorem ws:lw.wellSaid=true:=by kernel_rfl
end My
namespace L2
open PySem PySem.Spec PyProof.Rows
abbrev Key:=Sum Int Str
def zI:Key->Value->Bool
 | .inl k,v=>Value.isInt k v
 | .inr x,v=>Value.isStrOf x v
def Eo (w:World):Key->Int
 | .inl k=>hashInt k
 | .inr x=>hashStr w x
theorem bS:∀{k:Key} {v:Value},zI k v=true->(∃i t,k=Sum.inl i/\v=Value.int i t)\/(∃x t,k=Sum.inr x/\v=Value.str x t)
 | .inl i,v,h=>by
  obtain⟨t,e⟩:=Value.isInt_shape (k:=i) (v:=v) h
  exact .inl ⟨i,t,rfl,e⟩
 | .inr x,v,h=>by
  obtain⟨t,e⟩:=Value.isStrOf_shape (x:=x) (v:=v) h
  exact .inr ⟨x,t,rfl,e⟩
theorem AO (a b:Int):decide ((Sum.inl a:Key)=Sum.inl b)=(a == b):=by
 by_cases e:a=b
 ·subst e;simp
 ·have h:¬ (Sum.inl a:Key)=Sum.inl b:=fun q=>e (Sum.inl.inj q)
  rw [decide_eq_false h]
  exact (beq_eq_false_iff_ne.mpr e).symm
theorem AS (a b:Str):decide ((Sum.inr a:Key)=Sum.inr b)=decide (a=b):=by
 by_cases e:a=b
 ·subst e;simp
 ·have h:¬ (Sum.inr a:Key)=Sum.inr b:=fun q=>e (Sum.inr.inj q)
  rw [decide_eq_false h,decide_eq_false e]
theorem AQ (a:Int)(b:Str):decide ((Sum.inl a:Key)=Sum.inr b)=false:=decide_eq_false (fun q=>nomatch q)
theorem AR (a:Str)(b:Int):decide ((Sum.inr a:Key)=Sum.inl b)=false:=decide_eq_false (fun q=>nomatch q)
def pw (prog:Program)(w:World):PySem.KeyKind prog w Key where
 is:=zI
 hash:=Eo w
 inj:=fun v a b ha hb=>by
  rcases bS ha with ⟨i,t,rfl,rfl⟩ | ⟨x,t,rfl,rfl⟩
  ·rcases bS hb with ⟨j,u,rfl,e⟩ | ⟨y,u,rfl,e⟩
   ·injection e with e1 _;rw [e1]
   ·exact nomatch e
  ·rcases bS hb with ⟨j,u,rfl,e⟩ | ⟨y,u,rfl,e⟩
   ·exact nomatch e
   ·injection e with e1 _;rw [e1]
 byValue:=fun k v h=>by
  rcases bS h with ⟨i,t,rfl,rfl⟩ | ⟨x,t,rfl,rfl⟩<;>rfl
 pyHash:=fun hv h=>by
  rcases bS hv with ⟨i,t,rfl,rfl⟩ | ⟨x,t,rfl,rfl⟩
  ·exact wpAny_pyHash_int h
  ·exact wpAny_pyHash_str h
 eqBool:=fun hu hv h=>by
  rcases bS hu with ⟨i,t,rfl,rfl⟩ | ⟨x,t,rfl,rfl⟩
  ·rcases bS hv with ⟨j,u,rfl,rfl⟩ | ⟨y,u,rfl,rfl⟩
   ·rw [AO] at h;exact wpAny_eqBool_int h
   ·rw [AQ] at h;exact SeqAt.EqAt.int_str i t y u _ _ _ _ h
  ·rcases bS hv with ⟨j,u,rfl,rfl⟩ | ⟨y,u,rfl,rfl⟩
   ·rw [AR] at h;exact SeqAt.EqAt.str_int x t j u _ _ _ _ h
   ·rw [AS] at h;exact wpAny_eqBool_str h
 «strs»:=fun k x t v h=>by
  rcases bS h with ⟨i,u,rfl,e⟩ | ⟨y,u,rfl,e⟩
  ·exact nomatch e
  ·injection e with e1 _
   subst e1
   cases v<;>rfl
inductive V where
 |non | bl (b:Bool) | int (i:Int) | str (x:Str) | byt (b:Array UInt8) | flt (b:UInt64) | ref (a:Addr) | ty (n:String)
 deriving DecidableEq
def RelV:V->Value->Prop
 | .non,u=>u=Value.none
 | .bl b,u=>u=Value.bool b
 | .int i,u=>∃t,u=Value.int i t
 | .str x,u=>∃t,u=Value.str x t
 | .byt b,u=>∃t,u=Value.bytes b t
 | .flt b,u=>∃t,u=Value.float b t
 | .ref a,u=>u=Value.ref a
 | .ty n,u=>u=Value.type n
abbrev Vals:List V->List Value->Prop:=Paired RelV
theorem Vals.length {xs:List V}{us:List Value}(r:Vals xs us):xs.length=us.length:=Paired.length r
theorem Vals.get:∀{xs:List V} {us:List Value} {i:Nat} {x:V},Vals xs us->xs[i]? = some x->∃u,us[i]? = some u/\RelV x u
 |_,_,_,_,.nil,e=>by simp at e
 |_,_,0,_,.cons r _,e=>by simp at e;subst e;exact⟨_,rfl,r⟩
 |_,_,i+1,x,.cons _ t,e=>by
  obtain⟨u,h1,h2⟩:=Vals.get (i:=i) (x:=x) t (by simpa using e)
  exact⟨u,by simpa using h1,h2⟩
theorem Vals.append:∀{xs ys:List V} {us ws:List Value},Vals xs us->Vals ys ws->Vals (xs++ys) (us++ws)
 |_,_,_,_,.nil,s=>s
 |_,_,_,_,.cons r t,s=>.cons r (Vals.append t s)
def mQ:Option V->Option Value->Prop
 |some v,some u=>RelV v u
 |none,none=>True
 |_,_=>False
def KV {κ:Type}:List (κ×V)->List (κ×Value)->Prop:=Paired fun (p:κ×V) (q:κ×Value)=>p.1=q.1/\RelV p.2 q.2
def kV:Key->V
 | .inl i=>.int i
 | .inr x=>.str x
inductive HO where
  |lst (xs:List V)
  |tup (xs:List V)
  |dK (kvs:List (Key×V)) | dT (kvs:List (List Key×V))
  |set (S:Int->Bool) (n:Nat)
  |ins (C dx:Addr) (fs:List (Str×V))
  |own (x:Addr)
  |xd (fs:List (Str×V))
  |met (f x:Addr)
  |rng (lo hi:Int)
  |frz (o:Obj) (u:HO)
  |tbl (ps:Array Value)
  |ext (φ:Heap->Prop)
abbrev Hp:=Addr->Option HO
def upd (H:Hp)(a:Addr)(o:HO):Hp:=fun b=>if b=a then some o else H b
theorem aM {H:Hp}{a:Addr}{o:HO}:upd H a o a=some o:=by unfold upd;rw [if_pos rfl]
theorem aB {H:Hp}{a b:Addr}{o:HO}(h:b≠a):upd H a o b=H b:=by unfold upd;rw [if_neg h]
theorem aO {H:Hp}{a b:Addr}{o:HO}(h:H a=some o)(h':H b=none):a≠b:=by
 intro e;subst e;rw [h] at h';cases h'
section
variable (P:Program)(w:World)
def bO (H:Hp)(h:Heap)(a:Addr):HO->Prop
 | .lst xs=>xs.length≤sizeLine/\∃(its:List Value) (n:Nat),Vals xs its/\h.get? a=some { cls:=.type "list", data:=.seq its.toArray n }
 | .tup xs=>xs.length≤sizeLine/\∃its:List Value,Vals xs its/\IsTup h a its.toArray
 | .dK kvs=>kvs.length≤sizeLine/\(a == sysModules)=false/\∃vs,KV kvs vs/\h.DictOf (pw P w) a vs
 | .dT kvs=>kvs.length≤sizeLine/\(a == sysModules)=false/\∃xs:List (List Key×Addr×Value),
   Paired (fun (p:List Key×V) (q:List Key×Addr×Value)=>p.1=q.1/\H q.2.1=some (.tup (p.1.map kV))/\RelV p.2 q.2.2) kvs xs /\
   ∃o es ep,h.get? a=some o/\o.ExactDict/\o.data=.dict es ep/\es.toList=xs.map (entryOfKey (tupleKind (pw P w)))/\(xs.map (·.1)).Nodup
 | .set S n=>h.SetOf (intKind P w) a S n
 | .ins C dx fs=>H dx=some (.own a)/\fs.length≤1000/\dx≠a/\h.get? a=some (PySem.W.instObj C dx) /\
   ∃mA,h.Ns1 dx mA/\(∀f,mQ (fs.lookup f) (mA f))/\PySem.Within mA (fs.map (·.1))
 | .own _=>∃o,h.get? a=some o
 | .xd fs=>∃mA,h.Ns1 a mA/\∀f,mQ (fs.lookup f) (mA f)
 | .rng lo hi=>∃t u v,h.get? a=some { cls:=.type "range", data:=.fields #[.int lo t,.int hi u,.int 1 v] }
 | .frz o u=>h.get? a=some o/\bO H h a u
 | .tbl ks=>∃ps:Array Value,h.get? a=some { cls:=.none,data:=.fields ps }/\TriplesOk ps.toList/\∀(pos:Pos) (q:Str),ks[0]? = some (rawInt pos.line)->ks[1]? = some (rawInt pos.col)->ks[2]? = some (.str q 0)->codeAmong pos ps.toList=none\/∃c,codeAmong pos ps.toList=some (.ref c)/\H c=some (.own a)/\h.CodeRec (.ref c) q
 | .met f x=>h.get? a=some (PySem.W.methodObj (.ref f) (.ref x))
 | .ext φ=>φ h/\(∃o,h.get? a=some o)/\∀h1 h2:Heap,φ h1->(∀o,h1.get? a=some o->h2.get? a=some o)->φ h2
def kG (H:Hp)(h:Heap):Prop:=∀a o,H a=some o->bO P w H h a o
end
section
variable {P:Program}{w:World}{H H':Hp}{h h':Heap}{a:Addr}{o:HO}
theorem bO.lt (x:bO P w H h a o):a<h.objs.size:=by
 cases o with
 |lst xs=>obtain⟨_,_,_,_,e⟩:=x;exact Heap.lt_size e
 |tup xs=>obtain⟨_,_,_,p⟩:=x;exact p.lt
 |dK kvs=>obtain⟨_,_,_,_,o,_,_,e,_⟩:=x;exact Heap.lt_size e
 |dT kvs=>obtain⟨_,_,_,_,o,_,_,e,_⟩:=x;exact Heap.lt_size e
 |set S n=>obtain⟨o,_,_,_,e,_⟩:=x;exact Heap.lt_size e
 |ins C dx fs=>obtain⟨_,_,_,e,_⟩:=x;exact Heap.lt_size e
 |own y=>obtain⟨_,e⟩:=x;exact Heap.lt_size e
 |xd fs=>obtain⟨_,⟨_,_,_,e,_⟩,_⟩:=x;exact Heap.lt_size e
 |rng lo hi=>obtain⟨_,_,_,e⟩:=x;exact Heap.lt_size e
 |frz ob u=>obtain⟨e,_⟩:=x;exact Heap.lt_size e
 |tbl ks=>obtain⟨ps,e,_⟩:=x;exact Heap.lt_size e
 |met f y=>exact Heap.lt_size (show h.get? a=some _ from x)
 |ext φ=>obtain⟨_,⟨_,e⟩,_⟩:=x;exact Heap.lt_size e
theorem Paired.mapP {α β:Type}{F G:α->β->Prop}:∀{l₁:List α} {l₂:List β},Paired F l₁ l₂->(∀a b,F a b->G a b)->Paired G l₁ l₂
 |_,_,.nil,_=>.nil
 |_,_,.cons r t,f=>.cons (f _ _ r) (Paired.mapP t f)
theorem bO.stay (x:bO P w H h a o)(k:∀b u,(b=a\/H b=some (.own a))->h.get? b=some u->h'.get? b=some u)
  (ho:∀b,H b=some (.own a)->H' b=some (.own a)) (ht:∀b xs,H b=some (.tup xs)->H' b=some (.tup xs)):bO P w H' h' a o:=by
 induction o with
 |lst xs=>obtain⟨z,its,n,r,e⟩:=x;exact⟨z,its,n,r,k _ _ (.inl rfl) e⟩
 |tup xs=>obtain⟨z,its,r,ob,e,c⟩:=x;exact⟨z,its,r,ob,k _ _ (.inl rfl) e,c⟩
 |dK kvs=>obtain⟨z,y,vs,r,ob,es,ep,e,c⟩:=x;exact⟨z,y,vs,r,ob,es,ep,k _ _ (.inl rfl) e,c⟩
 |dT kvs =>
  obtain⟨z,y,xs,r,ob,es,ep,e,c⟩:=x
  exact⟨z,y,xs,Paired.mapP r fun p q z=>⟨z.1,ht _ _ z.2.1,z.2.2⟩,ob,es,ep,k _ _ (.inl rfl) e,c⟩
 |set S n=>obtain⟨ob,es,ep,t,e,c⟩:=x;exact⟨ob,es,ep,t,k _ _ (.inl rfl) e,c⟩
 |ins C dx fs =>
  obtain⟨d,z,ne,e,mA,⟨od,es,ep,e2,c⟩,r⟩:=x
  exact⟨ho _ d,z,ne,k _ _ (.inl rfl) e,mA,⟨od,es,ep,k _ _ (.inr d) e2,c⟩,r⟩
 |own y=>obtain⟨ob,e⟩:=x;exact⟨ob,k _ _ (.inl rfl) e⟩
 |xd fs=>obtain⟨mA,⟨od,es,ep,e,c⟩,r⟩:=x;exact⟨mA,⟨od,es,ep,k _ _ (.inl rfl) e,c⟩,r⟩
 |rng lo hi=>obtain⟨t,u,v,e⟩:=x;exact⟨t,u,v,k _ _ (.inl rfl) e⟩
 |frz ob u ih=>obtain⟨e,q⟩:=x;exact⟨k _ _ (.inl rfl) e,ih q⟩
 |tbl ks =>
  obtain⟨ps,e,t,z⟩:=x
  exact⟨ps,k _ _ (.inl rfl) e,t,fun pos q a1 a2 a3=>(z pos q a1 a2 a3).imp id fun⟨c,e1,e2,c2,oc,vs,tq,e3,e4,e5⟩=>⟨c,e1,ho _ e2,c2,oc,vs,tq,e3,by cases e3;exact k _ _ (.inr e2) e4,e5⟩⟩
 |met f y =>
  have e:h.get? a=some (PySem.W.methodObj (.ref f) (.ref y)):=x
  show h'.get? a=some (PySem.W.methodObj (.ref f) (.ref y))
  exact k a _ (.inl rfl) e
 |ext φ=>obtain⟨p,⟨o,e⟩,st⟩:=x;exact⟨st _ _ p fun o q=>k _ _ (.inl rfl) q,⟨o,k _ _ (.inl rfl) e⟩,st⟩
theorem kG.lt (x:kG P w H h)(e:H a=some o):a<h.objs.size:=(x a o e).lt
theorem kG.fresh (x:kG P w H h)(e:h.objs.size≤a):H a=none:=by
 cases q:H a with
 |none=>rfl
 |some u=>exact absurd (Nat.lt_of_lt_of_le (x.lt q) e) (Nat.lt_irrefl _)
theorem kG.kept (x:kG P w H h)(k:∀b u,h.get? b=some u->h'.get? b=some u):kG P w H h':=fun a o e =>
 (x a o e).stay (fun b u _ q=>k b u q) (fun _ q=>q) fun _ _ q=>q
theorem kG.laid (x:kG P w H h)(k:∀b u,h.get? b=some u->h'.get? b=some u)(hp:h.objs.size≤a)(new:bO P w (upd H a o) h' a o):kG P w (upd H a o) h':=fun b u e=>by
 have hn:=x.fresh hp
 by_cases hb:b=a
 ·subst hb;rw [aM] at e;cases e;exact new
 ·rw [aB hb] at e
  exact (x b u e).stay (fun c v _ q=>k c v q) (fun c q=>by rw [aB (aO q hn)];exact q) fun c xs q=>by rw [aB (aO q hn)];exact q
end
def Rd (H:Hp)(a:Addr)(u:HO):Prop:=H a=some u\/∃o,H a=some (.frz o u)
theorem Rd.ok {P:Program}{w:World}{H:Hp}{h:Heap}{a:Addr}{u:HO}(r:Rd H a u)(x:kG P w H h):bO P w H h a u:=by
 rcases r with r | ⟨o,r⟩
 ·exact x a u r
 ·obtain⟨_,q⟩:=x a _ r
  exact q
def DJ:Option HO->Prop
 |some (.lst _)=>True
 |some (.dK _)=>True
 |some (.dT _)=>True
 |some (.set _ _)=>True
 |some (.ins _ _ _)=>True
 |some (.ext _)=>True
 |_=>False
section
variable {P:Program}{w:World}{H:Hp}{h h':Heap}{x e:Addr}{o':HO}
theorem kG.write (ok:kG P w H h)(mu:DJ (H x))(he:e=x\/H e=some (.own x))(k:∀b u,b≠e->h.get? b=some u->h'.get? b=some u)(heo:∃u,h'.get? e=some u)
  (new:bO P w (upd H x o') h' x o'):kG P w (upd H x o') h':=fun b u q=>by
 have nown:∀c y,H c=some (.own y)->c≠x:=fun c y r z=>by subst z;rw [r] at mu;exact mu
 have ntup:∀c xs,H c=some (.tup xs)->c≠x:=fun c xs r z=>by subst z;rw [r] at mu;exact mu
 by_cases hb:b=x
 ·subst hb;rw [aM] at q;cases q;exact new
 ·rw [aB hb] at q
  by_cases hbe:b=e
  ·have q':H b=some (.own x):=by
    rcases he with z | z
    ·exact absurd (hbe.trans z) hb
    ·rw [hbe];exact z
   rw [q] at q';cases q'
   obtain⟨v,hv⟩:=heo
   exact⟨v,by rw [hbe];exact hv⟩
  ·refine (ok b u q).stay (fun c v hc r=>k c v ?_ r) (fun c r=>by rw [aB (nown c b r)];exact r) fun c xs r=>by rw [aB (ntup c xs r)];exact r
   rcases hc with rfl | hc
   ·exact hbe
   ·rintro rfl
    rcases he with z | z
    ·exact nown c b hc z
    ·rw [hc] at z;cases z;exact hb rfl
end
structure Un (fs ex:List Addr)(H H':Hp)(h h':Heap):Prop where
 keep:∀b o,h.get? b=some o->H b=none->b∉fs->b∉ex->h'.get? b=some o
 slot:∀b o,h.get? b=some o->H b=none->b∈fs->b∉ex->∃sl,h'.get? b=some { o with slots:=sl }
 free:∀b o,h.get? b=some o->H b=none->b∉ex->H' b=none
 there:∀b o,h.get? b=some o->b∉ex->∃o',h'.get? b=some o'
 tups:∀b xs,H b=some (.tup xs)->H' b=some (.tup xs)
 frzs:∀b o u,H b=some (.frz o u)->H' b=some (.frz o u)
 tbls:∀b ps,H b=some (.tbl ps)->∃more,H' b=some (.tbl (ps++more))
section
variable {fs fs' ex ex':List Addr}{H H1 H2:Hp}{h h1 h2 h':Heap}{a x e:Addr}{o:HO}
theorem Un.any (u:Un fs ex H H1 h h1){b:Addr}{ob:Obj}(q:h.get? b=some ob)(n:H b=none)(hx:b∉ex):∃sl,h1.get? b=some { ob with slots:=sl }:=by
 by_cases hb:b∈fs
 ·exact u.slot b ob q n hb hx
 ·exact⟨ob.slots,u.keep b ob q n hb hx⟩
theorem Un.kept (k:∀b u,h.get? b=some u->h'.get? b=some u):Un fs ex H H h h':=
 ⟨fun b ob q _ _ _=>k b ob q,fun b ob q _ _ _=>⟨ob.slots,k b ob q⟩,fun _ _ _ n _=>n,fun b ob q _=>⟨ob,k b ob q⟩,fun _ _ q=>q,fun _ _ _ q=>q,fun _ ps q=>⟨#[],by rw [q];simp⟩⟩
theorem Un.refl:Un fs ex H H h h:=Un.kept fun _ _ q=>q
theorem Un.laid (k:∀b u,h.get? b=some u->h'.get? b=some u)(hp:h.objs.size≤a)(hn:H a=none):Un fs ex H (upd H a o) h h' where
 keep:=fun b u q _ _ _=>k b u q
 slot:=fun b u q _ _ _=>⟨u.slots,k b u q⟩
 free:=fun b u q n _=>by rw [aB (Nat.ne_of_lt (Nat.lt_of_lt_of_le (Heap.lt_size q) hp))];exact n
 there:=fun b u q _=>⟨u,k b u q⟩
 tups:=fun b xs q=>by rw [aB (aO q hn)];exact q
 frzs:=fun b u xs q=>by rw [aB (aO q hn)];exact q
 tbls:=fun b ps q=>⟨#[],by rw [aB (aO q hn),q];simp⟩
theorem Un.write (mu:DJ (H x))(he:e=x\/H e=some (.own x))(k:∀b u,b≠e->h.get? b=some u->h'.get? b=some u)(heo:∃u,h'.get? e=some u):Un fs ex H (upd H x o) h h':=by
 have hx:∀b,H b=none->b≠x:=fun b n z=>by subst z;rw [n] at mu;exact mu
 have hb:∀b,H b=none->b≠e:=fun b n z=>by
  subst z
  rcases he with r | r
  ·exact hx b n r
  ·rw [n] at r;cases r
 have hm:∀b u,H b=some u->¬ DJ (some u)->b≠x:=fun b u q nm z=>by subst z;rw [q] at mu;exact nm mu
 refine⟨fun b u q n _ _=>k b u (hb b n) q,fun b u q n _ _=>⟨u.slots,k b u (hb b n) q⟩,fun b u q n _=>by rw [aB (hx b n)];exact n,fun b u q _=>?_,
  fun b xs q=>by rw [aB (hm b _ q fun z=>z)];exact q,fun b u xs q=>by rw [aB (hm b _ q fun z=>z)];exact q,fun b ps q=>⟨#[],by rw [aB (hm b _ q fun z=>z),q];simp⟩⟩
 by_cases hbe:b=e
 ·subst hbe;exact heo
 ·exact⟨u,k b u hbe q⟩
end
def xO (h:Heap)(H:Hp):List Addr:=(List.range h.objs.size).filter fun a=>(H a).isSome
def oC (h:Heap)(H:Hp):Heap:=PySem.W.hideAll h (xO h H)
theorem uT (h:Heap)(H:Hp):(oC h H).objs.size=h.objs.size:=PySem.W.hideAll_size _ _
theorem wC {h:Heap}{H:Hp}{b:Addr}{o:Obj}(e:h.get? b=some o)(n:H b=none):(oC h H).get? b=some o:=
 PySem.W.hideAll_get _ e fun hm=>by
  have q:(H b).isSome=true:=(List.mem_filter.mp hm).2
  rw [n] at q;simp at q
theorem yI {h:Heap}{H:Hp}{b:Addr}{o:Obj}(e:(oC h H).get? b=some o):h.get? b=some o/\H b=none:=by
 have e':h.get? b=some o:=PySem.W.of_hideAll (xO h H) e
 refine⟨e',?_⟩
 cases q:H b with
 |none=>rfl
 |some x =>
  have hm:b∈xO h H:=List.mem_filter.mpr ⟨List.mem_range.mpr (Heap.lt_size e'),by simp [q]⟩
  have z:(oC h H).get? b=none:=PySem.W.hideAll_none (xO h H) hm
  rw [z] at e;cases e
structure Mod (K:PySem.W.Frag)(mg:Str->Option Value)(base:Heap):Prop where
 kin:K.In base
 glob:base.Ns mainGlobals mg
 blt:∃mb,base.Ns builtinsNs mb/\∀x:Str,x≠"__name__"->mb x=bootBuiltins x
 nolimit:base.NoLimit
structure Cx where
 prog:Program
 w:World
 K:PySem.W.Frag
 mg:Str->Option Value
 base:Heap
 A:Around
 N:List Str
 Y8:Shared
 Y9:Hp
 env:Env
 outer:List Env
 stack:List Env
 ex:List Addr
 fn:Str->Bool
 calm:Bool
 pn:List (Addr×Obj)
 xe:Value->Shared->Prop
def jL (l:List Env):List Addr:=l.filterMap (·.frame)
abbrev Cx.fs (X:Cx):List Addr:=jL X.outer
def uB (sc:Scope)(x:Str):Prop:=sc.names.lookup x=some .local\/sc.names.lookup x=some .cell\/sc.names.lookup x=some .free
def Loc (sc:Scope)(x:Str):Prop:=sc.names.lookup x=some .local\/sc.names.lookup x=some .cell
def Look (env:Env)(h:Heap)(m:Str->Option Value)(x:Str)(u:Value):Prop:=
 (env.kindOf x=some .local/\m x=some u)\/((env.kindOf x=some .cell\/env.kindOf x=some .free)/\∃c,env.cells.lookup x=some c/\h.IsCell c (some u))
structure Cx.Ok (X:Cx):Prop where
 mod:Mod X.K X.mg X.base
 kind:X.env.scope.kind=.function
 glob:X.env.globals=mainGlobals
 blt:X.env.builtins=builtinsNs
 above:X.Y8.heap.objs.size≤X.env.locals
 inj:∀x y c,X.env.cells.lookup x=some c->X.env.cells.lookup y=some c->x=y
 has:∀x,(X.env.kindOf x=some .cell\/X.env.kindOf x=some .free)->∃c,X.env.cells.lookup x=some c
 cab:∀x c,X.fn x=true->X.env.cells.lookup x=some c->X.Y8.heap.objs.size≤c
 hd:X.calm=true->X.A.handled=none
 frames:X.A.frames=some X.stack
 stk:X.stack=X.outer\/(X.stack=X.env::X.outer/\X.env.frame=some X.env.locals)
 exf:∀b∈X.ex,b≠X.env.locals/\∀x c,X.env.cells.lookup x=some c->c≠b
 bs:∀b o,X.base.get? b=some o->X.Y8.heap.get? b=some o/\X.Y9 b=none
 bsz:X.base.objs.size≤X.Y8.heap.objs.size
 noex:∀b o,X.base.get? b=some o->b∉X.ex
 exfs:∀b∈X.ex,b∉X.fs
 funs:X.Y8.heap.FunFrames X.base X.outer
 frf:∀b∈X.fs,X.Y9 b=none
structure Inv (X:Cx)(pins:List (Addr×Obj))(σ:List (Option V))(H:Hp)(s:Shared):Prop where
 ok:X.Ok
 os:s.os=X.Y8.os
 bare:AllBare s.gens
 base:Un X.fs X.ex X.Y9 H X.Y8.heap s.heap
 loc:∃m,s.heap.Ns X.env.locals m/\∀(i:Nat) (x:Str) (v:V),X.N[i]? = some x->σ[i]? = some (some v)->uB X.env.scope x->∃u,RelV v u/\Look X.env s.heap m x u
 cell:∀x c,X.env.cells.lookup x=some c->∃v,s.heap.IsCell c v
 free:H X.env.locals=none
 freeC:∀x c,X.env.cells.lookup x=some c->H c=none
 pin:∀p∈X.pn++pins,s.heap.get? p.1=some p.2/\H p.1=none/\p.1≠X.env.locals/\p.1∉X.fs/\∀v,p.2.data≠.cell v
 hok:kG X.prog X.w H s.heap
 len:σ.length=X.N.length
section
variable {X:Cx}{pins:List (Addr×Obj)}{σ:List (Option V)}{H H':Hp}{s:Shared}{h':Heap}
theorem Cx.Ok.nofr (ok:X.Ok){b:Addr}{o:Obj}(e:X.base.get? b=some o):b∉X.fs:=fun hb=>by
 have:=(ok.funs.mem hb).1
 rw [e] at this;cases this
theorem Inv.bs (I:Inv X pins σ H s):∀b o,X.base.get? b=some o->s.heap.get? b=some o/\H b=none:=fun b o e =>
 ⟨I.base.keep b o (I.ok.bs b o e).1 (I.ok.bs b o e).2 (I.ok.nofr e) (I.ok.noex b o e),I.base.free b o (I.ok.bs b o e).1 (I.ok.bs b o e).2 (I.ok.noex b o e)⟩
theorem Inv.bk (I:Inv X pins σ H s):∀b o,X.base.get? b=some o->s.heap.get? b=some o:=fun b o e=>(I.bs b o e).1
theorem Inv.mod (I:Inv X pins σ H s):Mod X.K X.mg X.base:=I.ok.mod
theorem Inv.kIn (I:Inv X pins σ H s):X.K.In s.heap:=I.ok.mod.kin.keeps I.bk
theorem Inv.lt (I:Inv X pins σ H s):X.env.locals<s.heap.objs.size:=let ⟨_,hn,_⟩:=I.loc;hn.lt
theorem Inv.sz (I:Inv X pins σ H s):X.Y8.heap.objs.size≤s.heap.objs.size:=Nat.le_trans I.ok.above (Nat.le_of_lt I.lt)
theorem Inv.nofs (I:Inv X pins σ H s){a:Addr}(h:s.heap.objs.size≤a):a∉X.fs:=fun hb=>by
 obtain⟨_,o,ho,_⟩:=I.ok.funs.mem hb
 exact absurd (Nat.lt_of_lt_of_le (Heap.lt_size ho) (Nat.le_trans I.sz h)) (Nat.lt_irrefl _)
theorem Inv.cne (I:Inv X pins σ H s):∀x c,X.env.cells.lookup x=some c->c≠X.env.locals:=fun x c e z=>by
 obtain⟨v,o,ho,hd⟩:=I.cell x c e
 obtain⟨m,⟨o',es,ep,ho',hd',_⟩,_⟩:=I.loc
 rw [z,ho'] at ho;cases ho;rw [hd'] at hd;cases hd
theorem Inv.funs (I:Inv X pins σ H s):s.heap.FunFrames X.base X.outer:=by
 have all:∀(l:List Env),(∀b∈jL l,b∈X.fs)->X.Y8.heap.FunFrames X.base l->s.heap.FunFrames X.base l:=by
  intro l
  induction l with
  |nil=>intro _ _;trivial
  |cons env r ih =>
   intro hs hl
   obtain⟨hk,⟨L,o,hf,hn,ho,hd⟩,hr⟩:=hl
   have hL:L∈X.fs:=hs L (by unfold jL;rw [List.filterMap_cons,hf];exact List.mem_cons_self)
   obtain⟨sl,e⟩:=I.base.slot L o ho (I.ok.frf L hL) hL fun z=>I.ok.exfs L z hL
   exact⟨hk,⟨L,_,hf,hn,e,hd⟩,ih (fun b hb=>hs b (by unfold jL;rw [List.filterMap_cons,hf];exact List.mem_cons_of_mem _ hb)) hr⟩
 exact all X.outer (fun _ hb=>hb) I.ok.funs
theorem Inv.stack (I:Inv X pins σ H s):s.heap.FunFrames X.base X.stack:=by
 rcases I.ok.stk with e | ⟨e,hf⟩
 ·rw [e];exact I.funs
 ·rw [e]
  obtain⟨m,hn,_⟩:=I.loc
  refine .cons (by rw [I.ok.kind];decide) hf hn ?_ I.funs
  exact Heap.get?_none_of_le (Nat.le_trans I.ok.bsz I.ok.above)
theorem Inv.stkSub (I:Inv X pins σ H s):∀b∈jL X.stack,b∈X.env.locals::X.fs:=fun b hb=>by
 rcases I.ok.stk with e | ⟨e,hf⟩
 ·rw [e] at hb;exact List.mem_cons_of_mem _ hb
 ·rw [e] at hb
  unfold jL at hb
  rw [List.filterMap_cons,hf] at hb
  exact hb
theorem Inv.stkFree (I:Inv X pins σ H s):∀b∈jL X.stack,H b=none:=fun b hb=>by
 rcases List.mem_cons.mp (I.stkSub b hb) with e | hb
 ·rw [e];exact I.free
 ·obtain⟨_,o,ho,_⟩:=I.ok.funs.mem hb
  exact I.base.free b o ho (I.ok.frf b hb) fun z=>I.ok.exfs b z hb
theorem Inv.step {g':Array GenState}{t':Nat}{d':Drawn}{ch:List Addr}(I:Inv X pins σ H s)
  (hch:∀b∈ch,(b∈X.ex\/X.Y8.heap.objs.size≤b)/\b≠X.env.locals/\(∀x c,X.env.cells.lookup x=some c->c≠b)/\∀p∈X.pn++pins,p.1≠b)
  (keep:∀b o,b≠X.env.locals->b∉X.fs->b∉ch->s.heap.get? b=some o->H b=none->h'.get? b=some o)
  (slot:∀b o,b≠X.env.locals->b∈X.fs->b∉ch->s.heap.get? b=some o->H b=none->∃sl,h'.get? b=some { o with slots:=sl }) (free:∀b o,b∉ch->s.heap.get? b=some o->H b=none->H' b=none)
  (there:∀b o,b∉ch->s.heap.get? b=some o->∃o',h'.get? b=some o')
  (tups:∀b xs,H b=some (.tup xs)->H' b=some (.tup xs)) (frzs:∀b o u,H b=some (.frz o u)->H' b=some (.frz o u)) (tbls:∀b ps,H b=some (.tbl ps)->∃more,H' b=some (.tbl (ps++more)))
  (ns:∀m,s.heap.Ns X.env.locals m->h'.Ns X.env.locals m) (hok:kG X.prog X.w H' h') (hg:AllBare g'):
  Inv X pins σ H' { s with heap:=h',gens:=g',drawn:=d',toks:=t' }:=by
 have neL:∀b o,X.Y8.heap.get? b=some o->b≠X.env.locals:=fun b o e=>Nat.ne_of_lt (Nat.lt_of_lt_of_le (Heap.lt_size e) I.ok.above)
 have neC:∀b o,X.Y8.heap.get? b=some o->b∉X.ex->b∉ch:=fun b o e hx hb=>by
  rcases (hch b hb).1 with z | z
  ·exact hx z
  ·exact absurd (Nat.lt_of_lt_of_le (Heap.lt_size e) z) (Nat.lt_irrefl _)
 have cellK:∀x c,X.env.cells.lookup x=some c->∀v,s.heap.IsCell c v->h'.IsCell c v:=fun x c e v hq__=>by
  obtain⟨o,ho,hd⟩:=hq__
  have nch:c∉ch:=fun z=>(hch c z).2.2.1 x c e rfl
  by_cases hc:c∈X.fs
  ·obtain⟨sl,q⟩:=slot c o (I.cne x c e) hc nch ho (I.freeC x c e)
   exact⟨_,q,hd⟩
  ·exact⟨o,keep c o (I.cne x c e) hc nch ho (I.freeC x c e),hd⟩
 refine⟨I.ok,I.os,hg,⟨fun b o e n hb hx=>?_,fun b o e n hb hx=>?_,fun b o e n hx=>?_,fun b o e hx=>?_,fun b xs e=>tups b xs (I.base.tups b xs e),fun b o xs e=>frzs b o xs (I.base.frzs b o xs e),fun b ps e=>?_⟩,?_,fun x c e=>?_,?_,fun x c e=>?_,fun p hp=>?_,hok,I.len⟩
 ·exact keep b o (neL b o e) hb (neC b o e hx) (I.base.keep b o e n hb hx) (I.base.free b o e n hx)
 ·obtain⟨sl,e1⟩:=I.base.slot b o e n hb hx
  obtain⟨sl',e2⟩:=slot b _ (neL b o e) hb (neC b o e hx) e1 (I.base.free b o e n hx)
  exact⟨sl',e2⟩
 ·obtain⟨o',e1⟩:=I.base.there b o e hx
  exact free b o' (neC b o e hx) e1 (I.base.free b o e n hx)
 ·obtain⟨o',e1⟩:=I.base.there b o e hx
  exact there b o' (neC b o e hx) e1
 ·obtain⟨m1,e1⟩:=I.base.tbls b ps e
  obtain⟨m2,e2⟩:=tbls b _ e1
  exact⟨m1++m2,by rw [e2,Array.append_assoc]⟩
 ·obtain⟨m,hn,hl⟩:=I.loc
  refine⟨m,ns m hn,fun i x v e1 e2 e3=>?_⟩
  obtain⟨u,r,l⟩:=hl i x v e1 e2 e3
  refine⟨u,r,?_⟩
  rcases l with l | ⟨k,c,e,z⟩
  ·exact .inl l
  ·exact .inr ⟨k,c,e,cellK x c e _ z⟩
 ·obtain⟨v,z⟩:=I.cell x c e
  exact⟨v,cellK x c e v z⟩
 ·obtain⟨m,⟨o,_,_,ho,_⟩,_⟩:=I.loc
  exact free _ o (fun z=>(hch _ z).2.1 rfl) ho I.free
 ·obtain⟨v,o,ho,hd⟩:=I.cell x c e
  exact free c o (fun z=>(hch c z).2.2.1 x c e rfl) ho (I.freeC x c e)
 ·obtain⟨e,n,ne,nf,d⟩:=I.pin p hp
  have nch:p.1∉ch:=fun z=>(hch p.1 z).2.2.2 p hp rfl
  exact⟨keep p.1 p.2 ne nf nch e n,free p.1 p.2 nch e n,ne,nf,d⟩
theorem Inv.un {t':Nat}(I:Inv X pins σ H s)(u:Un X.fs [] H H' s.heap h')(hok:kG X.prog X.w H' h'):Inv X pins σ H' { s with heap:=h',toks:=t' }:=by
 obtain⟨m,⟨o,es,ep,ho,r⟩,_⟩:=id I.loc
 obtain⟨sl,hL⟩:=u.any ho I.free (by simp)
 exact I.step (g':=s.gens) (d':=s.drawn) (ch:=[]) (fun _ z=>nomatch z) (fun b o _ hb _ e n=>u.keep b o e n hb (by simp)) (fun b o _ hb _ e n=>u.slot b o e n hb (by simp)) (fun b o _ e n=>u.free b o e n (by simp)) (fun b o _ e=>u.there b o e (by simp)) u.tups u.frzs u.tbls (fun m' hm=>by
  obtain⟨o',es',ep',ho',r'⟩:=hm
  rw [ho] at ho';cases ho'
  exact⟨_,es',ep',hL,r'⟩) hok I.bare
theorem Inv.call {g':Array GenState}{t':Nat}{d':Drawn}{ch:List Addr}(I:Inv X pins σ H s)(u:Un (jL X.stack) ch H H' s.heap h')(hok:kG X.prog X.w H' h')(hg:AllBare g')
  (hch:∀b∈ch,(b∈X.ex\/X.Y8.heap.objs.size≤b)/\b≠X.env.locals/\(∀x c,X.env.cells.lookup x=some c->c≠b)/\∀p∈X.pn++pins,p.1≠b):
  Inv X pins σ H' { s with heap:=h',gens:=g',drawn:=d',toks:=t' }:=by
 obtain⟨m,⟨o,es,ep,ho,r⟩,_⟩:=id I.loc
 obtain⟨sl,hL⟩:=u.any ho I.free fun z=>(hch _ z).2.1 rfl
 exact I.step (ch:=ch) hch (fun b o hL hb hc e n=>u.keep b o e n (fun z=>(List.mem_cons.mp (I.stkSub b z)).elim hL hb) hc) (fun b o _ _ hc e n=>u.any e n hc) (fun b o hc e n=>u.free b o e n hc) (fun b o hc e=>u.there b o e hc) u.tups u.frzs u.tbls (fun m' hm=>by
  obtain⟨o',es',ep',ho',r'⟩:=hm
  rw [ho] at ho';cases ho'
  exact⟨_,es',ep',hL,r'⟩) hok hg
theorem Inv.turned {t':Nat}{it:Addr}(I:Inv X pins σ H s)(k:∀b o,b≠it->s.heap.get? b=some o->h'.get? b=some o)(hn:H it=none)(hL:it≠X.env.locals)
  (h1:it∈X.ex\/X.Y8.heap.objs.size≤it) (h2:∀x c,X.env.cells.lookup x=some c->c≠it) (h3:∀p∈X.pn++pins,p.1≠it):Inv X pins σ H { s with heap:=h',toks:=t' }:=by
 have nit:∀b u,H b=some u->b≠it:=fun b u e z=>by rw [z,hn] at e;cases e
 refine I.step (g':=s.gens) (d':=s.drawn) (ch:=[it]) (fun b hb=>?_) (fun b o _ _ hc e _=>k b o (fun z=>hc (by simp [z])) e) (fun b o _ _ hc e _=>⟨o.slots,k b o (fun z=>hc (by simp [z])) e⟩) (fun _ _ _ _ n=>n)
  (fun b o hc e=>⟨o,k b o (fun z=>hc (by simp [z])) e⟩) (fun _ _ e=>e) (fun _ _ _ e=>e) (fun b ps e=>⟨#[],by rw [e];simp⟩) (fun m hm=>?_) (fun b u e=>?_) I.bare
 ·have e:b=it:=by simpa using hb
  subst e
  exact⟨h1,hL,h2,h3⟩
 ·obtain⟨o,es,ep,ho,r⟩:=hm
  exact⟨o,es,ep,k _ o (Ne.symm hL) ho,r⟩
 ·refine (I.hok b u e).stay (fun c v hc q=>k c v ?_ q) (fun _ q=>q) fun _ _ q=>q
  rcases hc with z | z
  ·rw [z];exact nit b u e
  ·exact nit c _ z
theorem Inv.tok (I:Inv X pins σ H s)(t:Nat):Inv X pins σ H { s with toks:=t }:=I.un (h':=s.heap) (t':=t) Un.refl I.hok
theorem Inv.kept {t':Nat}(I:Inv X pins σ H s)(k:∀b u,s.heap.get? b=some u->h'.get? b=some u):Inv X pins σ H { s with heap:=h',toks:=t' }:=I.un (Un.kept k) (I.hok.kept k)
theorem Inv.laid {a:Addr}{o:HO}{t':Nat}(I:Inv X pins σ H s)(k:∀b u,s.heap.get? b=some u->h'.get? b=some u)(hp:s.heap.objs.size≤a)(new:bO X.prog X.w (upd H a o) h' a o):
  Inv X pins σ (upd H a o) { s with heap:=h',toks:=t' }:=I.un (Un.laid k hp (I.hok.fresh hp)) (I.hok.laid k hp new)
theorem Inv.write {x e:Addr}{o:HO}{t':Nat}(I:Inv X pins σ H s)(mu:DJ (H x))(he:e=x\/H e=some (.own x))(k:∀b u,b≠e->s.heap.get? b=some u->h'.get? b=some u)(heo:∃u,h'.get? e=some u)
  (new:bO X.prog X.w (upd H x o) h' x o):Inv X pins σ (upd H x o) { s with heap:=h',toks:=t' }:=I.un (Un.write mu he k heo) (I.hok.write mu he k heo new)
theorem Inv.pins_of {pins':List (Addr×Obj)}(I:Inv X pins σ H s)(h:∀p∈pins',s.heap.get? p.1=some p.2/\H p.1=none/\p.1≠X.env.locals/\p.1∉X.fs/\∀v,p.2.data≠.cell v):Inv X pins' σ H s:=
 ⟨I.ok,I.os,I.bare,I.base,I.loc,I.cell,I.free,I.freeC,fun p hp=>(List.mem_append.mp hp).elim (fun z=>I.pin p (List.mem_append_left _ z)) (h p),I.hok,I.len⟩
theorem qD {N:List Str}(hN:N.Nodup){i j:Nat}{x:Str}(a:N[i]? = some x)(b:N[j]? = some x):i=j:=by
 obtain⟨h1,e1⟩:=List.getElem?_eq_some_iff.mp a
 obtain⟨h2,e2⟩:=List.getElem?_eq_some_iff.mp b
 exact (List.getElem_inj hN).mp (e1.trans e2.symm)
theorem kr {M:Model}{A:Around}{E:Value->Shared->Prop}{i:Nat}{x:Str}{v:V}{u:Value}{Q:Unit->Shared->Prop}(I:Inv X pins σ H s)(hN:X.N.Nodup)(hi:X.N[i]? = some x)(hx:Loc X.env.scope x)(r:RelV v u)
  (h:∀s',Inv X pins (σ.set i (some v)) H s'->(∃a,Heap.SameBut a s.heap s'.heap/\(a=X.env.locals\/X.env.cells.lookup x=some a))->Q () s') (hf:X.fn x=true\/X.env.scope.names.lookup x=some .local:=by first | exact .inl rfl | exact .inr rfl | assumption):wpAny M A (storeName X.env x u) Q E s:=by
 obtain⟨m,hn,hl⟩:=id I.loc
 have hcls:(X.env.scope.kind == .class||(X.env.scope.kind == .module&&X.env.locals != X.env.globals))=false:=by rw [I.ok.kind];rfl
 have hiσ:i<σ.length:=by rw [I.len];exact (List.getElem?_eq_some_iff.mp hi).1
 have cne:=I.cne
 have tracked:∀{a:Addr} {h':Heap},(∃o,s.heap.get? a=some o/\H a=none)->Heap.SameBut a s.heap h'->kG X.prog X.w H h':=fun {a h'} ha hs b ob e=>by
  obtain⟨_,_,hfree⟩:=ha
  refine (I.hok b ob e).stay (fun c w' hc q=>(hs.2 c ?_).trans q) (fun _ q=>q) fun _ _ q=>q
  rintro rfl
  rcases hc with rfl | hc
  ·rw [hfree] at e;cases e
  ·rw [hfree] at hc;cases hc
 rcases hx with hk | hk
 ·refine wpAny_storeName_local hk hn (fun h' hn' hs=>?_) hcls
  obtain⟨oL,_,_,hoL,_⟩:=id hn
  refine h _ ⟨I.ok,I.os,I.bare,⟨fun b o e n hb hx=>?_,fun b o e n hb hx=>?_,I.base.free,fun b o e hx=>?_,I.base.tups,I.base.frzs,I.base.tbls⟩,⟨_,hn',fun j y v' e1 e2 e3=>?_⟩,fun y c e=>?_,I.free,I.freeC,fun p hp=>?_,tracked ⟨oL,hoL,I.free⟩ hs,by simpa using I.len⟩ ⟨_,hs,.inl rfl⟩
  ·exact (hs.2 b (Nat.ne_of_lt (Nat.lt_of_lt_of_le (Heap.lt_size e) I.ok.above))).trans (I.base.keep b o e n hb hx)
  ·obtain⟨sl,e1⟩:=I.base.slot b o e n hb hx
   exact⟨sl,(hs.2 b (Nat.ne_of_lt (Nat.lt_of_lt_of_le (Heap.lt_size e) I.ok.above))).trans e1⟩
  ·obtain⟨o',e1⟩:=I.base.there b o e hx
   exact⟨o',(hs.2 b (Nat.ne_of_lt (Nat.lt_of_lt_of_le (Heap.lt_size e) I.ok.above))).trans e1⟩
  ·by_cases hj:j=i
   ·subst hj
    rw [hi] at e1;cases e1
    rw [List.getElem?_set_self hiσ] at e2
    cases e2
    exact⟨u,r,.inl ⟨hk,by simp⟩⟩
   ·rw [List.getElem?_set_ne (Ne.symm hj)] at e2
    obtain⟨u',r',q⟩:=hl j y v' e1 e2 e3
    refine⟨u',r',?_⟩
    rcases q with ⟨k,e⟩ | ⟨k,c,e,z⟩
    ·refine .inl ⟨k,?_⟩
     have:y≠x:=fun e=>hj (qD hN e1 (e ▸ hi))
     simp [this,e]
    ·exact .inr ⟨k,c,e,z.sameBut hs (cne y c e)⟩
  ·obtain⟨w',z⟩:=I.cell y c e
   exact⟨w',z.sameBut hs (cne y c e)⟩
  ·obtain⟨e,n,ne,nf,d⟩:=I.pin p hp
   exact⟨(hs.2 p.1 ne).trans e,n,ne,nf,d⟩
 ·have hfn:X.fn x=true:=by
   rcases hf with z | z
   ·exact z
   ·rw [z] at hk;cases hk
  obtain⟨c,hc⟩:=I.ok.has x (.inl hk)
  obtain⟨w',z⟩:=I.cell x c hc
  refine wpAny_storeName_cell I.ok.kind hk hc z (fun h' hc' hs=>?_)
  obtain⟨oc,hoc,hocd⟩:=id z
  refine h { s with heap:=h' } ⟨I.ok,I.os,I.bare,⟨fun b o e n hb hx=>?_,fun b o e n hb hx=>?_,I.base.free,fun b o e hx=>?_,I.base.tups,I.base.frzs,I.base.tbls⟩,⟨m,hn.sameBut hs (Ne.symm (cne x c hc)),fun j y v' e1 e2 e3=>?_⟩,fun y c' e=>?_,I.free,I.freeC,fun p hp=>?_,tracked ⟨oc,hoc,I.freeC x c hc⟩ hs,by simpa using I.len⟩ ⟨c,hs,.inr hc⟩
  ·exact (hs.2 b (Nat.ne_of_lt (Nat.lt_of_lt_of_le (Heap.lt_size e) (I.ok.cab x c hfn hc)))).trans (I.base.keep b o e n hb hx)
  ·obtain⟨sl,e1⟩:=I.base.slot b o e n hb hx
   exact⟨sl,(hs.2 b (Nat.ne_of_lt (Nat.lt_of_lt_of_le (Heap.lt_size e) (I.ok.cab x c hfn hc)))).trans e1⟩
  ·obtain⟨o',e1⟩:=I.base.there b o e hx
   exact⟨o',(hs.2 b (Nat.ne_of_lt (Nat.lt_of_lt_of_le (Heap.lt_size e) (I.ok.cab x c hfn hc)))).trans e1⟩
  ·by_cases hj:j=i
   ·subst hj
    rw [hi] at e1;cases e1
    rw [List.getElem?_set_self hiσ] at e2
    cases e2
    exact⟨u,r,.inr ⟨.inl hk,c,hc,hc'⟩⟩
   ·rw [List.getElem?_set_ne (Ne.symm hj)] at e2
    obtain⟨u',r',q⟩:=hl j y v' e1 e2 e3
    refine⟨u',r',?_⟩
    rcases q with q | ⟨k,c',e,z'⟩
    ·exact .inl q
    ·refine .inr ⟨k,c',e,z'.sameBut hs ?_⟩
     rintro rfl
     exact hj (qD hN e1 (I.ok.inj _ _ _ e hc ▸ hi))
  ·by_cases hcc:c'=c
   ·subst hcc;exact⟨_,hc'⟩
   ·obtain⟨w2,z2⟩:=I.cell y c' e
    exact⟨w2,z2.sameBut hs hcc⟩
  ·obtain⟨e,n,ne,nf,d⟩:=I.pin p hp
   refine⟨(hs.2 p.1 ?_).trans e,n,ne,nf,d⟩
   intro q
   rw [q,hoc] at e
   have q':oc=p.2:=Option.some.inj e
   exact d w' (by rw [<- q'];exact hocd)
theorem et {M:Model}{A:Around}{E:Value->Shared->Prop}{i:Nat}{x:Str}{v:V}{u:Value}{Q:Unit->Shared->Prop}(I:Inv X pins σ H s)(hN:X.N.Nodup)(hi:X.N[i]? = some x)(hx:Loc X.env.scope x)(r:RelV v u)
  (h:∀s',Inv X pins (σ.set i (some v)) H s'->Q () s') (hf:X.fn x=true\/X.env.scope.names.lookup x=some .local:=by first | exact .inl rfl | exact .inr rfl | assumption):wpAny M A (storeName X.env x u) Q E s:=
 kr I hN hi hx r (fun s' I' _=>h s' I') hf
theorem Inv.call' {s':Shared}{ch:List Addr}(I:Inv X pins σ H s)(ho:s'.os=s.os)(u:Un (jL X.stack) ch H H' s.heap s'.heap)(hok:kG X.prog X.w H' s'.heap)(hg:AllBare s'.gens)
  (hch:∀b∈ch,(b∈X.ex\/X.Y8.heap.objs.size≤b)/\b≠X.env.locals/\(∀x c,X.env.cells.lookup x=some c->c≠b)/\∀p∈X.pn++pins,p.1≠b):Inv X pins σ H' s':=by
 obtain⟨h',g',d',t',o'⟩:=s'
 have e:o'=s.os:=ho
 subst e
 exact I.call (g':=g') (t':=t') (d':=d') u hok hg hch
end
abbrev XK:=Value->Option Addr->Hp->Prop
abbrev St:=List (Option V)
abbrev VK:=V->Hp->Prop
abbrev TE:=St->Hp->VK->Prop
abbrev TT:=St->Hp->(Bool->Hp->Prop)->Prop
abbrev TA:=St->Hp->(List V->Hp->Prop)->Prop
structure Ends where
 nx:St->Hp->Prop
 rt:VK
 bk:St->Hp->Prop:=fun _ _=>False
 ct:St->Hp->Prop:=fun _ _=>False
abbrev TS:=Ends->St->Hp->Prop
def EP (X:Cx)(pins:List (Addr×Obj))(σ:St)(Q:VK)(u:Value)(s':Shared):Prop:=∃v H',Inv X pins σ H' s'/\RelV v u/\Q v H'
def TP (X:Cx)(pins:List (Addr×Obj))(σ:St)(Q:Bool->Hp->Prop)(b:Bool)(s':Shared):Prop:=∃H',Inv X pins σ H' s'/\Q b H'
def AP (X:Cx)(pins:List (Addr×Obj))(σ:St)(Q:List V->Hp->Prop)(us:List Value)(s':Shared):Prop:=∃vs H',Inv X pins σ H' s'/\Vals vs us/\Q vs H'
def SP (X:Cx)(pins:List (Addr×Obj))(D:Ends)(f:Flow)(s':Shared):Prop:=
 match f with
 | .next=>∃σ' H',Inv X pins σ' H' s'/\D.nx σ' H'
 | .brk=>∃σ' H',Inv X pins σ' H' s'/\D.bk σ' H'
 | .cont=>∃σ' H',Inv X pins σ' H' s'/\D.ct σ' H'
 | .ret u=>∃v σ' H',Inv X pins σ' H' s'/\RelV v u/\D.rt v H'
def PE (X:Cx)(e:Expr)(t:TE):Prop:=
 ∀(pins:List (Addr×Obj)) (s:Shared) (σ:St) (H:Hp) (Q:VK),Inv X pins σ H s->t σ H Q->wpAny (model X.prog X.w) X.A (eval e X.env) (EP X pins σ Q) X.xe s
def PT (X:Cx)(e:Expr)(t:TT):Prop:=
 ∀(pins:List (Addr×Obj)) (s:Shared) (σ:St) (H:Hp) (Q:Bool->Hp->Prop),Inv X pins σ H s->t σ H Q->wpAny (model X.prog X.w) X.A (isTrue e X.env (eval e X.env)) (TP X pins σ Q) X.xe s
def PW (X:Cx)(e:Expr)(t:TT):Prop:=
 ∀(whole:Sem Value) (pins:List (Addr×Obj)) (s:Shared) (σ:St) (H:Hp) (Q:Bool->Hp->Prop),Inv X pins σ H s->t σ H Q->wpAny (model X.prog X.w) X.A (isTrue e X.env whole) (TP X pins σ Q) X.xe s
theorem PW.pt {X:Cx}{e:Expr}{t:TT}(h:PW X e t):PT X e t:=h _
def PA (X:Cx)(es:List Expr)(t:TA):Prop:=
 ∀(pos:Pos) (pins:List (Addr×Obj)) (s:Shared) (σ:St) (H:Hp) (Q:List V->Hp->Prop),Inv X pins σ H s->t σ H Q->wpAny (model X.prog X.w) X.A (spliced (backTo pos (starEach es X.env))) (AP X pins σ Q) X.xe s
def PS (X:Cx)(st:Stmt)(t:TS):Prop:=
 ∀(pins:List (Addr×Obj)) (s:Shared) (σ:St) (H:Hp) (D:Ends),Inv X pins σ H s->t D σ H->wpAny (model X.prog X.w) X.A (exec st X.env) (SP X pins D) X.xe s
def kH (X:Cx)(st:List Stmt)(t:TS):Prop:=
 ∀(pins:List (Addr×Obj)) (s:Shared) (σ:St) (H:Hp) (D:Ends),Inv X pins σ H s->t D σ H->wpAny (model X.prog X.w) X.A (execs st X.env) (SP X pins D) X.xe s
theorem bM {α:Type}{t:Sem α}{Q Q':α->Shared->Prop}{M:Model}{A:Around}{E:Value->Shared->Prop}{s:Shared}(h:wpAny M A t Q E s)(hQ:∀a s,Q a s->Q' a s):wpAny M A t Q' E s:=wpAny_mono h hQ fun _ _ x=>x
section
variable {X:Cx}
def xI (i:Nat):TE:=fun σ H Q=>∃v,σ[i]? = some (some v)/\Q v H
def tC (v:V):TE:=fun _ H Q=>Q v H
theorem Bf {i:Nat}{x:Str}{pos:Pos}(hN:X.N[i]? = some x)(hv:uB X.env.scope x)(hd:(x == ("__debug__" : Str))=false:=by decide)(hcd:(x == ("__classdict__" : Str))=false:=by decide):PE X (.Name x pos) (xI i):=by
 intro pins s σ H Q I h
 obtain⟨v,e,h⟩:=h
 obtain⟨m,hn,hl⟩:=I.loc
 obtain⟨u,r,l⟩:=hl i x v hN e hv
 have fin:EP X pins σ Q u s:=⟨v,H,I,r,h⟩
 rcases l with ⟨hk,hm⟩ | ⟨hk,c,hc,hcell⟩
 ·exact wpAny_Name (wpAny_loadName_local I.ok.kind hk hn hm fin) hd
 ·rcases hk with hk | hk
  ·exact wpAny_Name (wpAny_loadName_cell I.ok.kind hk hc hcell fin) hd
  ·exact wpAny_Name (wpAny_loadName_free I.ok.kind hk hc hcell fin hcd) hd
theorem A9 {i j pos}:PE X (.Constant (.int i) j pos) (tC (.int i)):=fun _ _ _ H _ I h=>wpAny_Constant_int ⟨.int i,H,I.tok _,⟨_,rfl⟩,h⟩
theorem C3 {b j pos}:PE X (.Constant (.bool b) j pos) (tC (.bl b)):=fun _ _ _ H _ I h=>Constant_bool ⟨.bl b,H,I,rfl,h⟩
theorem Ba {j pos}:PE X (.Constant .none j pos) (tC .non):=fun _ _ _ H _ I h=>Constant_none ⟨.non,H,I,rfl,h⟩
theorem Bd {x j pos}:PE X (.Constant (.str x) j pos) (tC (.str x)):=fun _ _ _ H _ I h=>Calls.Constant_str ⟨.str x,H,I.tok _,⟨_,rfl⟩,h⟩
def Gl (X:Cx)(x:Str):Prop:=X.env.kindOf x=some .globalImplicit
theorem eU {E:Value->Shared->Prop}{pins:List (Addr×Obj)}{s:Shared}{σ:St}{H:Hp}{x:Str}{u:Value}{pos:Pos}{Q:Value->Shared->Prop}(I:Inv X pins σ H s)(hg:Gl X x)(hm:X.mg x=some u)(h:Q u s)
  (hd:(x == ("__debug__" : Str))=false:=by decide):wpAny (model X.prog X.w) X.A (eval (.Name x pos) X.env) Q E s:=
 Calls.Name_function_global I.ok.kind hg (Calls.loadGlobal_global (by rw [I.ok.glob];exact I.mod.glob.keeps I.bk) hm h) hd
theorem pq {E:Value->Shared->Prop}{pins:List (Addr×Obj)}{s:Shared}{σ:St}{H:Hp}{x:Str}{u:Value}{pos:Pos}{Q:Value->Shared->Prop}(I:Inv X pins σ H s)(hg:Gl X x)(hm:X.mg x=none)(hv:bootBuiltins x=some u)(h:Q u s)
  (hn:x≠"__name__" := by decide) (hd:(x == ("__debug__" : Str))=false:=by decide):wpAny (model X.prog X.w) X.A (eval (.Name x pos) X.env) Q E s:=by
 obtain⟨mb,h1,h2⟩:=I.mod.blt
 exact Calls.Name_function_global I.ok.kind hg (Calls.loadGlobal_builtin (by rw [I.ok.glob];exact I.mod.glob.keeps I.bk) hm (by rw [I.ok.blt];exact h1.keeps I.bk) ((h2 x hn).trans hv) h) hd
theorem jy {x:Str}{v:V}{u:Value}{pos:Pos}(hg:Gl X x)(hm:X.mg x=some u)(r:RelV v u)(hd:(x == ("__debug__" : Str))=false:=by decide):PE X (.Name x pos) (tC v):=
 fun _ _ _ H _ I h=>eU I hg hm ⟨v,H,I,r,h⟩ hd
theorem yS {x:Str}{v:V}{u:Value}{pos:Pos}(hg:Gl X x)(hm:X.mg x=none)(hv:bootBuiltins x=some u)(r:RelV v u)(hn:x≠"__name__" := by decide)(hd:(x == ("__debug__" : Str))=false:=by decide):PE X (.Name x pos) (tC v):=
 fun _ _ _ H _ I h=>pq I hg hm hv ⟨v,H,I,r,h⟩ hn hd
variable {a b:Expr}{ta tb:TE}{pos:Pos}
variable {tA tB':TT}{rest:List Expr}
def Gm (t u:TT):TT:=fun σ H Q=>t σ H fun c H1=>if c=true then Q true H1 else u σ H1 Q
def EN (t:TT):TT:=fun σ H Q=>t σ H fun c H1=>Q (!c) H1
theorem Bq (ha:PT X a tA):PW X (.BoolOp .Or [a] pos) tA:=by
 intro wh pins s σ H Q I h
 refine isTrue_or (bM (ha pins s σ H Q I h) fun c s1 e=>?_)
 cases c with
 |false=>exact isTrue_or_nil e
 |true=>exact e
theorem C9 (ha:PT X a tA)(hb:PW X (.BoolOp .Or (b::rest) pos) tB'):PW X (.BoolOp .Or (a::b::rest) pos) (Gm tA tB'):=by
 intro wh pins s σ H Q I h
 refine isTrue_or (bM (ha pins s σ H _ I h) fun c s1 ⟨H1,I1,q1⟩=>?_)
 cases c with
 |true=>exact⟨H1,I1,q1⟩
 |false=>exact hb wh pins s1 σ H1 Q I1 q1
theorem Bp (ha:PT X a tA):PT X (.UnaryOp .Not a pos) (EN tA):=by
 intro pins s σ H Q I h
 exact isTrue_not (ha pins s σ H (fun c H1=>Q (!c) H1) I h)
def Dp (ta tb:TE):TE:=fun σ H Q=>ta σ H fun x H1=>∃c,x=.bl c/\if c=true then tb σ H1 Q else Q (.bl false) H1
def Dz (ta:TE):TE:=fun σ H Q=>ta σ H fun x H1=>∃c,x=.bl c/\Q (.bl (!c)) H1
theorem Bc {op}{t:TE}(h:PE X a t):PE X (.BoolOp op [a] pos) t:=fun pins s σ H Q I hw=>BoolOp_one (h pins s σ H Q I hw)
theorem A5 (ha:PE X a ta)(hb:PE X (.BoolOp .And (b::rest) pos) tb):PE X (.BoolOp .And (a::b::rest) pos) (Dp ta tb):=by
 intro pins s σ H Q I h
 refine BoolOp_and (bM (ha pins s σ H _ I h) fun v s1 ⟨x,H1,I1,r1,q1⟩=>?_)
 obtain⟨c,rfl,q1⟩:=q1
 cases r1
 refine wpAny_truthy_bool ?_
 cases c with
 |true=>exact hb pins s1 σ H1 Q I1 q1
 |false=>exact⟨.bl false,H1,I1,rfl,q1⟩
theorem Bb (ha:PE X a ta):PE X (.UnaryOp .Not a pos) (Dz ta):=by
 intro pins s σ H Q I h
 refine UnaryOp_ (bM (ha pins s σ H _ I h) fun v s1 ⟨x,H1,I1,r1,q1⟩=>?_)
 obtain⟨c,rfl,q1⟩:=q1
 cases r1
 exact not_of (wpAny_truthy_bool ⟨.bl (!c),H1,I1,rfl,q1⟩)
end
def iK (K:PySem.W.Frag)(H:Hp)(a:Addr)(xs:List V):Prop:=
 Rd H a (.lst xs) \/
  ∃(o:Obj) (its:Array Value) (n:Nat),K.lookup a=some o/\o.cls=.type "list"/\o.dict=none/\o.data=.seq its n/\its.size≤sizeLine/\Vals xs its.toList
def kW (K:PySem.W.Frag)(H:Hp)(a:Addr)(xs:List V):Prop:=
 Rd H a (.tup xs) \/
  ∃(o:Obj) (its:Array Value) (n:Nat),K.lookup a=some o/\o.cls=.type "tuple"/\o.data=.seq its n/\its.size≤sizeLine/\Vals xs its.toList
def D9:Value->Option V
 | .none=>some .non
 | .bool b=>some (.bl b)
 | .int i _=>some (.int i)
 | .str x _=>some (.str x)
 | .bytes b _=>some (.byt b)
 | .float b _=>some (.flt b)
 | .ref a=>some (.ref a)
 | .type n=>some (.ty n)
 |_=>none
theorem RelV.abs {x:V}{u:Value}(r:RelV x u):D9 u=some x:=by
 cases x with
 |non=>cases r;rfl
 |bl _=>cases r;rfl
 |int _=>obtain⟨t,rfl⟩:=r;rfl
 |str _=>obtain⟨t,rfl⟩:=r;rfl
 |byt _=>obtain⟨t,rfl⟩:=r;rfl
 |flt _=>obtain⟨t,rfl⟩:=r;rfl
 |ref _=>cases r;rfl
 |ty _=>cases r;rfl
theorem RelV.inj {x y:V}{u:Value}(r:RelV x u)(q:RelV y u):x=y:=Option.some.inj (r.abs.symm.trans q.abs)
theorem Vals.inj:∀{xs ys:List V} {us:List Value},Vals xs us->Vals ys us->xs=ys
 |_,_,_,.nil,.nil=>rfl
 |_,_,_,.cons r t,.cons r' t'=>by rw [r.inj r',Vals.inj t t']
section
variable {X:Cx}{pins:List (Addr×Obj)}{σ:St}{H:Hp}{s:Shared}{a:Addr}{xs ys:List V}
theorem iK.of {K:PySem.W.Frag}(h:H a=some (.lst xs)):iK K H a xs:=.inl (.inl h)
theorem kW.of {K:PySem.W.Frag}(h:H a=some (.tup xs)):kW K H a xs:=.inl (.inl h)
theorem Inv.list (I:Inv X pins σ H s)(h:iK X.K H a xs):∃its:List Value,Vals xs its/\PlainL s.heap a its.toArray/\xs.length≤sizeLine:=by
 rcases h with h | ⟨o,its,n,hk,hc,hd,hs,hz,r⟩
 ·obtain⟨z,its,n,r,e⟩:=h.ok I.hok
  exact⟨its,r,⟨_,n,e,rfl,rfl,rfl⟩,z⟩
 ·refine⟨its.toList,r,⟨o,n,I.kIn a o hk,hc,hd,by simpa using hs⟩,?_⟩
  have e:=r.length
  simp only [Array.length_toList] at e
  omega
theorem Inv.tuple (I:Inv X pins σ H s)(h:kW X.K H a xs):∃its:List Value,Vals xs its/\IsTup s.heap a its.toArray/\xs.length≤sizeLine:=by
 rcases h with h | ⟨o,its,n,hk,hc,hs,hz,r⟩
 ·obtain⟨z,its,r,p⟩:=h.ok I.hok
  exact⟨its,r,p,z⟩
 ·refine⟨its.toList,r,⟨o,I.kIn a o hk,hc,n,by simpa using hs⟩,?_⟩
  have e:=r.length
  simp only [Array.length_toList] at e
  omega
theorem Inv.list_inj (I:Inv X pins σ H s)(h:iK X.K H a xs)(h':iK X.K H a ys):xs=ys:=by
 obtain⟨its,r,⟨o,n,e,_,_,d⟩,_⟩:=I.list h
 obtain⟨its',r',⟨o',n',e',_,_,d'⟩,_⟩:=I.list h'
 rw [e] at e';cases e'
 rw [d] at d'
 injection d' with d1 _
 have:its=its':=by simpa using congrArg Array.toList d1
 subst this
 exact r.inj r'
theorem Inv.tuple_inj (I:Inv X pins σ H s)(h:kW X.K H a xs)(h':kW X.K H a ys):xs=ys:=by
 obtain⟨its,r,⟨o,e,_,n,d⟩,_⟩:=I.tuple h
 obtain⟨its',r',⟨o',e',_,n',d'⟩,_⟩:=I.tuple h'
 rw [e] at e';cases e'
 rw [d] at d'
 injection d' with d1 _
 have:its=its':=by simpa using congrArg Array.toList d1
 subst this
 exact r.inj r'
end
abbrev Cx.wish (X:Cx)(E:Value->Shared->Prop):Cx:={ X with xe:=E }
abbrev Cx.nox (X:Cx):Cx:=X.wish fun _ _=>False
theorem Cx.Ok.wish {X:Cx}(ok:X.Ok)(E:Value->Shared->Prop):(X.wish E).Ok:=
 ⟨ok.mod,ok.kind,ok.glob,ok.blt,ok.above,ok.inj,ok.has,ok.cab,ok.hd,ok.frames,ok.stk,ok.exf,ok.bs,ok.bsz,ok.noex,ok.exfs,ok.funs,ok.frf⟩
theorem Cx.Ok.unwish {X:Cx}{E:Value->Shared->Prop}(ok:(X.wish E).Ok):X.Ok:=
 ⟨ok.mod,ok.kind,ok.glob,ok.blt,ok.above,ok.inj,ok.has,ok.cab,ok.hd,ok.frames,ok.stk,ok.exf,ok.bs,ok.bsz,ok.noex,ok.exfs,ok.funs,ok.frf⟩
section
variable {X:Cx}{pins:List (Addr×Obj)}{σ:St}{H:Hp}{s:Shared}{E:Value->Shared->Prop}
theorem Inv.wish (I:Inv X pins σ H s)(E:Value->Shared->Prop):Inv (X.wish E) pins σ H s:=⟨I.ok.wish E,I.os,I.bare,I.base,I.loc,I.cell,I.free,I.freeC,I.pin,I.hok,I.len⟩
theorem Inv.unwish (I:Inv (X.wish E) pins σ H s):Inv X pins σ H s:=⟨I.ok.unwish,I.os,I.bare,I.base,I.loc,I.cell,I.free,I.freeC,I.pin,I.hok,I.len⟩
theorem SP.unwish {D:Ends}{f:Flow}{s':Shared}(h:SP (X.wish E) pins D f s'):SP X pins D f s':=by
 cases f with
 |next=>obtain⟨σ',H',I,q⟩:=h;exact⟨σ',H',I.unwish,q⟩
 |brk=>obtain⟨σ',H',I,q⟩:=h;exact⟨σ',H',I.unwish,q⟩
 |cont=>obtain⟨σ',H',I,q⟩:=h;exact⟨σ',H',I.unwish,q⟩
 |ret u=>obtain⟨v,σ',H',I,r,q⟩:=h;exact⟨v,σ',H',I.unwish,r,q⟩
theorem kH.nox {st:List Stmt}{t:TS}(h:kH X.nox st t):kH X st t:=fun pins s σ H D I hw =>
 wpAny_mono (h pins s σ H D (I.wish _) hw) (fun _ _ q=>q.unwish) fun _ _ z=>False.elim z
end
section
variable {X:Cx}{st:Stmt}{rest:List Stmt}{t u:TS}{e:Expr}{te:TE}{pos:Pos}
def Dx:TS:=fun D σ H=>D.nx σ H
def ES (t u:TS):TS:=fun D σ H=>t { D with nx:=u D } σ H
theorem pG:kH X [] Dx:=fun _ _ σ H _ I h=>wpAny_execs_nil ⟨σ,H,I,h⟩
theorem mx (h1:PS X st t)(h2:kH X rest u):kH X (st::rest) (ES t u):=by
 intro pins s σ H D I h
 refine wpAny_execs_cons (bM (h1 pins s σ H { D with nx:=u D } I h) fun f s1 q=>?_)
 cases f with
 |next =>
  obtain⟨σ',H',I',q⟩:=q
  exact h2 pins s1 σ' H' D I' q
 |ret v=>exact q
 |brk=>exact q
 |cont=>exact q
theorem zb (h1:PS X st t):kH X [st] t:=by
 intro pins s σ H D I h
 refine wpAny_execs_cons (bM (h1 pins s σ H D I h) fun f s1 q=>?_)
 cases f with
 |next=>exact wpAny_execs_nil q
 |ret v=>exact q
 |brk=>exact q
 |cont=>exact q
theorem Inv.quiet {pins:List (Addr×Obj)}{σ:St}{H:Hp}{s:Shared}(I:Inv X pins σ H s):interactive X.env=false:=by simp [interactive,I.ok.kind]
def Dv (te:TE):TS:=fun D σ H=>te σ H fun _ H1=>D.nx σ H1
theorem uj (he:PE X e te)(hs:swapsWith e none pos.line X.env=pure false:=by rfl):PS X (.Expr e pos) (Dv te):=by
 intro pins s σ H D I h
 exact wpAny_Expr_any (bM (he pins s σ H _ I h) fun v s1 ⟨x,H1,I1,r1,q1⟩=>⟨σ,H1,I1,q1⟩) I.quiet hs
def ER (te:TE):TS:=fun D σ H=>te σ H D.rt
theorem Bo (he:PE X e te):PS X (.Return (some e) pos) (ER te):=by
 intro pins s σ H D I h
 exact wpAny_Return_some (bM (he pins s σ H _ I h) fun v s1 ⟨x,H1,I1,r1,q1⟩=>⟨x,σ,H1,I1,r1,q1⟩)
def EL (c:TT)(t u:TS):TS:=fun D σ H=>c σ H fun b H1=>if b=true then t D σ H1 else u D σ H1
theorem C8 {c:Expr}{a b:List Stmt}{tc:TT}(hc:PT X c tc)(ha:kH X a t)(hb:kH X b u):PS X (.If c a b pos) (EL tc t u):=by
 intro pins s σ H D I h
 refine wpAny_If (bM (hc pins s σ H _ I h) fun d s1 ⟨H1,I1,q1⟩=>?_)
 cases d with
 |true=>exact ha pins s1 σ H1 D I1 q1
 |false=>exact hb pins s1 σ H1 D I1 q1
def xH:TS:=fun _ _ _=>False
theorem xf:PS X st xH:=fun _ _ _ _ _ _ h=>h.elim
theorem vi {DY:List Stmt}:kH X DY xH:=fun _ _ _ _ _ _ h=>h.elim
end
abbrev TG:=V->St->Hp->(St->Hp->Prop)->Prop
abbrev zu:=List V->St->Hp->(St->Hp->Prop)->Prop
def PG (X:Cx)(target:Expr)(t:TG):Prop:=
 ∀(pins:List (Addr×Obj)) (s:Shared) (σ:St) (H:Hp) (v:V) (u:Value) (Q:St->Hp->Prop),Inv X pins σ H s->RelV v u->t v σ H Q ->
  wpAny (model X.prog X.w) X.A (assign target X.env u) (fun _ s'=>∃σ' H',Inv X pins σ' H' s'/\Q σ' H') X.xe s
def BX (X:Cx)(ts:List Expr)(t:zu):Prop:=
 ∀(pins:List (Addr×Obj)) (s:Shared) (σ:St) (H:Hp) (vs:List V) (us:List Value) (Q:St->Hp->Prop),Inv X pins σ H s->Vals vs us->t vs σ H Q ->
  wpAny (model X.prog X.w) X.A (assignInOrder ((assignEach ts X.env).map (·.2)) us) (fun _ s'=>∃σ' H',Inv X pins σ' H' s'/\Q σ' H') X.xe s
section
variable {X:Cx}{pos:Pos}
def zH (i:Nat):TG:=fun v σ H Q=>Q (σ.set i (some v)) H
theorem yX {i:Nat}{x:Str}(hN:X.N.Nodup)(hi:X.N[i]? = some x)(hx:Loc X.env.scope x)(hf:X.fn x=true\/X.env.scope.names.lookup x=some .local:=by first | exact .inl rfl | exact .inr rfl | assumption):PG X (.Name x pos) (zH i):=by
 intro pins s σ H v u Q I r h
 exact wpAny_assign_Name (et I hN hi hx r (fun s' I'=>⟨_,H,I',h⟩) hf)
def Ei:zu:=fun vs σ H Q=>vs=[]/\Q σ H
def Cu (t:TG)(u:zu):zu:=fun vs σ H Q=>∃v r,vs=v::r/\t v σ H fun σ' H'=>u r σ' H' Q
theorem yY:BX X [] Ei:=by
 intro pins s σ H vs us Q I r h
 obtain⟨e,h⟩:=h
 subst e
 cases r
 exact assignInOrder_nil ⟨σ,H,I,h⟩
theorem xb {e:Expr}{es:List Expr}{t:TG}{u:zu}(h1:PG X e t)(h2:BX X es u)
  (hs:(assignEach (e::es) X.env).map (·.2)=assign e X.env::(assignEach es X.env).map (·.2):=by rfl):BX X (e::es) (Cu t u):=by
 intro pins s σ H vs us Q I r h
 obtain⟨v,vr,e1,h⟩:=h
 subst e1
 cases r with
 |cons r rr =>
  rw [hs]
  refine assignInOrder_cons (bM (h1 pins s σ H _ _ _ I r h) fun _ s1 ⟨σ1,H1,I1,q1⟩=>?_)
  exact h2 pins s1 σ1 H1 _ _ Q I1 rr q1
def Ek (K:PySem.W.Frag)(n:Nat)(t:zu):TG:=fun v σ H Q=>∃a xs,v=.ref a/\kW K H a xs/\xs.length=n/\t xs σ H Q
theorem Bg {es:List Expr}{k:Nat}{t:zu}{n:Nat}(hc:X.calm=true)(h:BX X es t)
  (hn:(assignEach es X.env).length=n:=by rfl) (hst:(assignEach es X.env).findIdx? (·.1)=none:=by rfl):PG X (.Tuple es k pos) (Ek X.K n t):=by
 intro pins s σ H v u Q I r hw
 obtain⟨a,xs,e1,hq,hl,hw⟩:=hw
 subst e1
 cases r
 obtain⟨its,rv,ht,hz⟩:=I.tuple hq
 refine assign_Tuple_tuple (I.ok.hd hc) ht (by simp [hn,<- hl,rv.length]) hst fun h' hx=>?_
 have I1:Inv X pins σ H { s with heap:=h' }:=I.kept (t':=s.toks) fun b o e=>hx b o (Nat.ne_of_lt (Heap.lt_size e)) e
 exact h pins _ σ H xs _ Q I1 (by simpa using rv) hw
def Dr (te:TE)(g:TG):TS:=fun D σ H=>te σ H fun x H1=>g x σ H1 D.nx
theorem Bj {tg e:Expr}{te:TE}{g:TG}(he:PE X e te)(hg:PG X tg g)(hs:swapsWithSole [tg] e pos.line X.env=pure false:=by rfl)(hw:swappedStores [tg] e X.env=pure none:=by rfl)
  (h1:(assignEach [tg] X.env).map (·.2)=[assign tg X.env]:=by rfl):PS X (.Assign [tg] e pos) (Dr te g):=by
 intro pins s σ H D I h
 refine wpAny_Assign_stores (bM (he pins s σ H _ I h) fun v s1 ⟨x,H1,I1,r1,q1⟩=>?_) hs hw
 rw [h1]
 exact bM (hg pins s1 σ H1 x v _ I1 r1 q1) fun _ s2 q=>q
theorem xg {i:Nat}{x:Str}{e:Expr}{te:TE}{pos':Pos}(hN:X.N.Nodup)(hi:X.N[i]? = some x)(hx:Loc X.env.scope x)(he:PE X e te)(hs:swapsWith e (some (.Name x pos')) pos.line X.env=pure false:=by rfl)(hf:X.fn x=true\/X.env.scope.names.lookup x=some .local:=by first | exact .inl rfl | exact .inr rfl | assumption):
  PS X (.Assign [.Name x pos'] e pos) (Dr te (zH i)):=by
 intro pins s σ H D I h
 refine wpAny_Assign_Name (bM (he pins s σ H _ I h) fun v s1 ⟨y,H1,I1,r1,q1⟩=>?_) hs
 exact et I1 hN hi hx r1 (fun s2 I2=>⟨_,H1,I2,q1⟩) hf
def EO (i j:Nat)(ta:TA):TS:=fun D σ H=>ta σ H fun vs H1=>∃v w,vs=[v,w]/\D.nx ((σ.set i (some v)).set j (some w)) H1
theorem Bn {i j:Nat}{x y:Str}{a b:Expr}{ta:TA}{px py pt:Pos}{kt k2 pt2}(hc:X.calm=true)(hN:X.N.Nodup)(hi:X.N[i]? = some x)(hj:X.N[j]? = some y)(hij:i≠j)
  (hx:X.env.scope.names.lookup x=some .local) (hy:X.env.scope.names.lookup y=some .local) (ha:PA X [a,b] ta)
  (hw:swappedStores [.Tuple [.Name x px,.Name y py] kt pt] (.Tuple [a,b] k2 pt2) X.env=pure (some [x,y]))
  (hs:swapsWithSole [.Tuple [.Name x px,.Name y py] kt pt] (.Tuple [a,b] k2 pt2) pos.line X.env=pure false:=by rfl):
  PS X (.Assign [.Tuple [.Name x px,.Name y py] kt pt] (.Tuple [a,b] k2 pt2) pos) (EO i j ta):=by
 intro pins s σ H D I h
 rw [exec_Assign_arm]
 refine wpAny_bind (wpAny_standAt ?_)
 rw [hs]
 refine wpAny_bind (wpAny_pure ?_)
 rw [if_neg (by decide)]
 refine wpAny_bind (Tuple_ (bM (ha _ pins s σ H _ I h) fun us s1 ⟨vs,H1,I1,r1,q1⟩=>?_))
 obtain⟨v,w,e1,q1⟩:=q1
 subst e1
 obtain⟨u1,u2,rfl,rv,rw'⟩:∃u1 u2,us=[u1,u2]/\RelV v u1/\RelV w u2:=by
  cases r1 with
  |cons p q =>
   cases q with
   |cons p' q' =>
    cases q'
    exact⟨_,_,rfl,p,p'⟩
 refine wpAny_newObj_type ?_ (by show 2≤sizeLine;decide)
 have I2:Inv X pins σ H1 { s1 with heap:=s1.heap.push { cls:=.type "tuple", data:=.seq [u1,u2].toArray } }:=I1.kept (t':=s1.toks) fun b o e=>Heap.get?_push_of_some _ e
 rw [hw]
 refine wpAny_bind (wpAny_pure ?_)
 show wpAny (model X.prog X.w) X.A (do rule "assign.swapped-stores";let items <- unpackItems (.ref s1.heap.objs.size) 2 none;assignInOrder [fun v=>bindName X.env y v,fun v=>bindName X.env x v] items.reverse;pure Flow.next) _ _ _
 refine wpAny_bind (wpAny_rule (wpAny_bind (unpackItems_tuple (items:=#[u1,u2]) (I.ok.hd hc) (IsTup.new s1.heap _) fun h' hx'=>?_)))
 have I3:=I2.kept (h':=h') (t':=s1.toks) fun b o e=>hx' b o (Nat.ne_of_lt (Heap.lt_size e)) e
 show wpAny _ _ (assignInOrder [fun v=>bindName X.env y v,fun v=>bindName X.env x v] [u2,u1] >>= fun _=>pure Flow.next) _ _ _
 refine wpAny_bind (assignInOrder_cons (wpAny_bindName (et I3 hN hj (.inl hy) rw' (fun s2 I4=>?_) (.inr hy))))
 refine assignInOrder_cons (wpAny_bindName (et I4 hN hi (.inl hx) rv (fun s3 I5=>assignInOrder_nil (wpAny_pure ?_)) (.inr hx)))
 rw [List.set_comm _ _ (Ne.symm hij)] at I5
 exact⟨_,H1,I5,q1⟩
end
section
variable {X:Cx}{pos:Pos}
def Bz (c:TT)(tb:TS):TS:=fun D σ H=>∃W:Nat->St->Hp->Prop,(∃m,W m σ H)/\∀m σ H,W m σ H ->
 c σ H fun b H1=>if b=true then ∃N:St->Hp->Prop,(∀σ' H',N σ' H'->∃m',m'<m/\W m' σ' H')/\tb { D with nx:=N,ct:=N,bk:=D.nx } σ H1 else D.nx σ H1
theorem xh {c:Expr}{body:List Stmt}{tc:TT}{tb:TS}(hp:PassesOwn (model X.prog X.w) X.A X.env X.xe)(hc:PT X c tc)(hb:kH X body tb):PS X (.While c body [] pos) (Bz tc tb):=by
 intro pins s σ H D I h
 obtain⟨W,⟨m0,w0⟩,turn⟩:=h
 refine wpAny_While (codeAny_whileLoop (fun n s'=>∃σ' H',Inv X pins σ' H' s'/\W n σ' H') ?_ m0 ⟨σ,H,I,w0⟩)
 rintro n s1 ⟨σ1,H1,I1,w1⟩
 refine wpAny_passesOwn hp (bM (hc pins s1 σ1 H1 _ I1 (turn n σ1 H1 w1)) fun b s2 ⟨H2,I2,q2⟩=>?_)
 cases b with
 |true =>
  obtain⟨N,hN,q2⟩:=q2
  rw [if_pos rfl]
  refine wpAny_passesOwn hp (bM (hb pins s2 σ1 H2 _ I2 q2) fun f s3 q3=>?_)
  cases f with
  |next =>
   obtain⟨σ3,H3,I3,n3⟩:=q3
   obtain⟨m',hm,w3⟩:=hN σ3 H3 n3
   exact⟨m',hm,σ3,H3,I3,w3⟩
  |cont =>
   obtain⟨σ3,H3,I3,n3⟩:=q3
   obtain⟨m',hm,w3⟩:=hN σ3 H3 n3
   exact⟨m',hm,σ3,H3,I3,w3⟩
  |brk=>exact q3
  |ret v=>exact q3
 |false =>
  rw [if_neg Bool.false_ne_true]
  exact wpAny_execs_nil ⟨σ1,H2,I2,q2⟩
end
structure It where
 go:Nat->Hp->Prop
 yld:Nat->Hp->V->Hp->Prop
 stop:Nat->Hp->Prop
def mP (X:Cx)(pins:List (Addr×Obj))(H:Hp)(b:Addr):Prop:=
 H b=none/\b≠X.env.locals/\b∉X.fs/\(b∈X.ex\/X.Y8.heap.objs.size≤b)/\(∀x c,X.env.cells.lookup x=some c->c≠b)/\∀p∈X.pn++pins,p.1≠b
theorem Inv.fpOk {X:Cx}{pins:List (Addr×Obj)}{σ:St}{H H':Hp}{s:Shared}{b:Addr}(I:Inv X pins σ H s)(hb:s.heap.objs.size≤b)(hn:H' b=none):mP X pins H' b:=by
 refine⟨hn,Nat.ne_of_gt (Nat.lt_of_lt_of_le I.lt hb),I.nofs hb,.inr (Nat.le_trans I.sz hb),fun x c e z=>?_,fun p hp z=>?_⟩
 ·obtain⟨v,q⟩:=I.cell x c e
  exact absurd (Nat.lt_of_lt_of_le q.lt (by rw [z];exact hb)) (Nat.lt_irrefl _)
 ·exact absurd (Nat.lt_of_lt_of_le (Heap.lt_size (I.pin p hp).1) (by rw [z];exact hb)) (Nat.lt_irrefl _)
structure Turn (P:Program)(w:World)(K:PySem.W.Frag)(tg:Expr)(J:It)(fp:List Addr)(it:Addr)(tn:Nat->Heap->Prop):Prop where
 mem:it∈fp
 obj:∀i h,tn i h->∀b∈fp,∃o,h.get? b=some o/\∀v,o.data≠.cell v
 keep:∀i h h',tn i h->(∀b∈fp,∀o,h.get? b=some o->h'.get? b=some o)->tn i h'
 item:∀(X:Cx),X.prog=P->X.w=w->X.K=K->X.calm=true->∀(i:Nat) (pins:List (Addr×Obj)) (s:Shared) (σ:St) (H:Hp) (E:Value->Shared->Prop),Inv X pins σ H s->(∀b∈fp,mP X pins H b)->tn i s.heap->J.go i H ->
  wpAny (model P w) X.A (pyNext (.ref it)) (fun r s1=>∃u,r=some u /\
   wpAny (model P w) X.A (letOwnedTupleGo tg (.ref it) u) (fun _ s2=>∃x H',Inv X pins σ H' s2/\RelV x u/\J.yld i H x H'/\tn (i+1) s2.heap/\∀b∈fp,H' b=none) E s1) E s
 done:∀(X:Cx),X.prog=P->X.w=w->X.K=K->X.calm=true->∀(i:Nat) (pins:List (Addr×Obj)) (s:Shared) (σ:St) (H:Hp) (E:Value->Shared->Prop),Inv X pins σ H s->(∀b∈fp,mP X pins H b)->tn i s.heap->J.stop i H ->
  wpAny (model P w) X.A (pyNext (.ref it)) (fun r s1=>r=none/\Inv X pins σ H s1) E s
 self:∀(A:Around) (i:Nat) (s:Shared) (Q:Value->Shared->Prop) (E:Value->Shared->Prop),tn i s.heap->Q (.ref it) s->wpAny (model P w) A (pyIter (.ref it)) Q E s
abbrev TI:=St->Hp->(It->Hp->Prop)->Prop
def EW (X:Cx)(pins:List (Addr×Obj))(σ:St)(tg:Expr)(R:It->Hp->Prop)(itv:Value)(s2:Shared):Prop:=
 ∃(it:Addr) (fp:List Addr) (tn:Nat->Heap->Prop) (J:It) (H':Hp),itv=.ref it/\Inv X pins σ H' s2/\Turn X.prog X.w X.K tg J fp it tn/\tn 0 s2.heap/\(∀b∈fp,mP X pins H' b)/\R J H'
def PI (X:Cx)(tg iter:Expr)(wi:TI):Prop:=
 ∀(pins:List (Addr×Obj)) (s:Shared) (σ:St) (H:Hp) (R:It->Hp->Prop),Inv X pins σ H s->wi σ H R ->
  wpAny (model X.prog X.w) X.A (eval iter X.env) (fun v s1=>wpAny (model X.prog X.w) X.A (pyIter v) (EW X pins σ tg R) X.xe s1) X.xe s
theorem wA {M:Model}{A:Around}{E:Value->Shared->Prop}{s:Shared}{tg:Expr}{it:Addr}{u:Value}{o:Obj}{n:String}{vs:Array Value}{Q:Unit->Shared->Prop}(ho:s.heap.get? it=some o)(hc:o.cls=.type n)(hd:o.data=.fields vs)
    (hn:["enumerate","zip","dict_itemiterator","dict_reverseitemiterator","odict_iterator","itertools.zip_longest","itertools.pairwise"].contains n=false) (hQ:Q () s):wpAny M A (letOwnedTupleGo tg (.ref it) u) Q E s:=by
  unfold letOwnedTupleGo
  cases tg<;>first
    |exact wpAny_pure hQ
    | (cases u<;>first
        |exact wpAny_pure hQ
        | (refine wpAny_bind (wpAny_load ho ?_)
           rw [hc,hd]
           show wpAny M A (if (["enumerate","zip","dict_itemiterator","dict_reverseitemiterator","odict_iterator","itertools.zip_longest","itertools.pairwise"].contains n&&vs[0]? == some (rawInt _))=true then _ else _) Q E s
           rw [if_neg (by intro h;rw [hn,Bool.false_and] at h;cases h)]
           exact wpAny_pure hQ))
def D5 (K:PySem.W.Frag)(a:Addr):It:=
 ⟨fun i H=>∃xs x,iK K H a xs/\xs[i]? = some x,fun i H x H'=>H'=H/\∀xs,iK K H a xs->xs[i]? = some x,fun i H=>∃xs,iK K H a xs/\xs.length≤i⟩
def D6 (K:PySem.W.Frag)(a:Addr):It:=
 ⟨fun i H=>∃xs x,kW K H a xs/\xs[i]? = some x,fun i H x H'=>H'=H/\∀xs,kW K H a xs->xs[i]? = some x,fun i H=>∃xs,kW K H a xs/\xs.length≤i⟩
def DH (lo:Int)(n:Nat):It:=⟨fun i _=>i<n,fun i H x H'=>H'=H/\x=.int (lo+i),fun i _=>n≤i⟩
theorem vq {P:Program}{w:World}{K:PySem.W.Frag}{tg:Expr}(a it:Addr):Turn P w K tg (D5 K a) [it] it (fun i h=>h.IsListIter it a i) where
 mem:=by simp
 obj:=fun i h st b hb=>by
  have e:b=it:=by simpa using hb
  subst e
  obtain⟨o,e,c,d⟩:=st
  exact⟨o,e,fun v z=>by rw [d] at z;cases z⟩
 keep:=fun i h h' st k=>st.at fun o e=>k it (by simp) o e
 item:=by
  intro X hP hw hK hc i pins s σ H E I hf st hg
  subst hP hw hK
  obtain⟨xs,x,hq,hx⟩:=hg
  obtain⟨its,rv,p,hz⟩:=I.list hq
  obtain⟨u,hu,ru⟩:=rv.get hx
  obtain⟨f0,f1,f2,f3,f4,f5⟩:=hf it (by simp)
  refine wpAny_pyNext_list_item st p.isList (x:=u) (by simpa using hu) fun h' st' sb=>?_
  have I1:Inv X pins σ H { s with heap:=h' }:=I.turned (t':=s.toks) (fun b o hb e=>(sb.2 b hb).trans e) f0 f1 f3 f4 f5
  obtain⟨o,e,c,d⟩:=id st'
  exact⟨u,rfl,wA (s:={ s with heap:=h' }) e c d (by decide) ⟨x,H,I1,ru,⟨rfl,fun ys hy=>by rw [I.list_inj hy hq];exact hx⟩,st',fun b hb=>(hf b hb).1⟩⟩
 done:=by
  intro X hP hw hK hc i pins s σ H E I hf st hg
  subst hP hw hK
  obtain⟨xs,hq,hx⟩:=hg
  obtain⟨its,rv,p,hz⟩:=I.list hq
  obtain⟨f0,f1,f2,f3,f4,f5⟩:=hf it (by simp)
  have hl:=rv.length
  exact wpAny_pyNext_list_end (I.ok.hd hc) st p.isList (by simp;omega) fun h' eb=>⟨rfl,I.turned (t':=s.toks) (fun b o hb e=>eb b o hb e) f0 f1 f3 f4 f5⟩
 self:=fun _ _ _ _ _ st h=>wpAny_pyIter_listiter st h
theorem sU {P:Program}{w:World}{K:PySem.W.Frag}{tg:Expr}(a it:Addr):Turn P w K tg (D6 K a) [it] it (fun i h=>h.IsTupleIter it a i) where
 mem:=by simp
 obj:=fun i h st b hb=>by
  have e:b=it:=by simpa using hb
  subst e
  obtain⟨o,e,c,d⟩:=st
  exact⟨o,e,fun v z=>by rw [d] at z;cases z⟩
 keep:=fun i h h' st k=>st.at fun o e=>k it (by simp) o e
 item:=by
  intro X hP hw hK hc i pins s σ H E I hf st hg
  subst hP hw hK
  obtain⟨xs,x,hq,hx⟩:=hg
  obtain⟨its,rv,p,hz⟩:=I.tuple hq
  obtain⟨u,hu,ru⟩:=rv.get hx
  obtain⟨f0,f1,f2,f3,f4,f5⟩:=hf it (by simp)
  refine wpAny_pyNext_tuple_item st (show s.heap.IsTuple a its.toArray from p) (x:=u) (by simpa using hu) fun h' st' sb=>?_
  have I1:Inv X pins σ H { s with heap:=h' }:=I.turned (t':=s.toks) (fun b o hb e=>(sb.2 b hb).trans e) f0 f1 f3 f4 f5
  obtain⟨o,e,c,d⟩:=id st'
  exact⟨u,rfl,wA (s:={ s with heap:=h' }) e c d (by decide) ⟨x,H,I1,ru,⟨rfl,fun ys hy=>by rw [I.tuple_inj hy hq];exact hx⟩,st',fun b hb=>(hf b hb).1⟩⟩
 done:=by
  intro X hP hw hK hc i pins s σ H E I hf st hg
  subst hP hw hK
  obtain⟨xs,hq,hx⟩:=hg
  obtain⟨its,rv,p,hz⟩:=I.tuple hq
  obtain⟨f0,f1,f2,f3,f4,f5⟩:=hf it (by simp)
  have hl:=rv.length
  exact wpAny_pyNext_tuple_end (I.ok.hd hc) st (show s.heap.IsTuple a its.toArray from p) (by simp;omega) fun h' eb=>⟨rfl,I.turned (t':=s.toks) (fun b o hb e=>eb b o hb e) f0 f1 f3 f4 f5⟩
 self:=fun _ _ _ _ _ st h=>wpAny_pyIter_tupleiter st h
theorem sT {P:Program}{w:World}{K:PySem.W.Frag}{tg:Expr}(it:Addr)(lo:Int)(n:Nat):Turn P w K tg (DH lo n) [it] it (fun i h=>IsRangeIter h it (lo+(i:Nat)*1) ((n:Int)-(i:Nat)) 1) where
 mem:=by simp
 obj:=fun i h st b hb=>by
  have e:b=it:=by simpa using hb
  subst e
  exact⟨_,st,fun v z=>by
   have z':Data.fields _=Data.cell v:=z
   cases z'⟩
 keep:=fun i h h' st k=>k it (by simp) _ st
 item:=by
  intro X hP hw hK hc i pins s σ H E I hf st hg
  subst hP hw hK
  obtain⟨f0,f1,f2,f3,f4,f5⟩:=hf it (by simp)
  have W:=Walks.range (prog:=X.prog) (w:=X.w) (I.ok.hd hc) it lo 1 n
  refine W.item i s _ _ hg st fun v h' tk hv st' kk=>?_
  obtain⟨t,rfl⟩:=hv
  have I1:Inv X pins σ H { s with heap:=h',toks:=tk }:=I.turned (fun b o hb e=>kk b o (by simpa using hb) e) f0 f1 f3 f4 f5
  refine⟨_,rfl,wA (s:={ s with heap:=h',toks:=tk }) (n := "range_iterator") st' rfl rfl (by decide) ⟨.int (lo+i),H,I1,⟨t,?_⟩,⟨rfl,rfl⟩,st',fun b hb=>(hf b hb).1⟩⟩
  rw [Int.mul_one]
 done:=by
  intro X hP hw hK hc i pins s σ H E I hf st hg
  subst hP hw hK
  obtain⟨f0,f1,f2,f3,f4,f5⟩:=hf it (by simp)
  exact wpAny_pyNext_range_end (I.ok.hd hc) st (by have:n≤i:=hg;omega) fun h' eb=>⟨rfl,I.turned (t':=s.toks) (fun b o hb e=>eb b o hb e) f0 f1 f3 f4 f5⟩
 self:=fun _ _ _ _ _ st h=>wpAny_pyIter_rangeiter st h
section
variable {X:Cx}{tg:Expr}
def CF (K:PySem.W.Frag)(tl:TE):TI:=fun σ H R=>tl σ H fun x H1=>∃a,x=.ref a/\(∃xs,iK K H1 a xs)/\R (D5 K a) H1
def Em (K:PySem.W.Frag)(tl:TE):TI:=fun σ H R=>tl σ H fun x H1=>∃a,x=.ref a/\(∃xs,kW K H1 a xs)/\R (D6 K a) H1
theorem yZ {l:Expr}{tl:TE}(hl:PE X l tl):PI X tg l (CF X.K tl):=by
 intro pins s σ H R I h
 refine bM (hl pins s σ H _ I h) fun v s1 ⟨x,H1,I1,r1,q1⟩=>?_
 obtain⟨a,e,⟨xs,hq⟩,q⟩:=q1
 subst e
 cases r1
 obtain⟨its,rv,p,hz⟩:=I1.list hq
 refine wpAny_pyIter_list p.isList ?_
 refine⟨s1.heap.objs.size,[s1.heap.objs.size],_,_,H1,rfl,I1.kept (t':=s1.toks) fun b o e=>Heap.get?_push_of_some _ e,vq a _,⟨_,Heap.get?_push_size _ rfl,rfl,rfl⟩,fun b hb=>?_,q⟩
 have e:b=s1.heap.objs.size:=by simpa using hb
 subst e
 exact I1.fpOk (Nat.le_refl _) (I1.hok.fresh (Nat.le_refl _))
theorem Bh {l:Expr}{tl:TE}(hl:PE X l tl):PI X tg l (Em X.K tl):=by
 intro pins s σ H R I h
 refine bM (hl pins s σ H _ I h) fun v s1 ⟨x,H1,I1,r1,q1⟩=>?_
 obtain⟨a,e,⟨xs,hq⟩,q⟩:=q1
 subst e
 cases r1
 obtain⟨its,rv,p,hz⟩:=I1.tuple hq
 refine wpAny_pyIter_tuple (show s1.heap.IsTuple a its.toArray from p) ?_
 refine⟨s1.heap.objs.size,[s1.heap.objs.size],_,_,H1,rfl,I1.kept (t':=s1.toks) fun b o e=>Heap.get?_push_of_some _ e,sU a _,⟨_,Heap.get?_push_size _ rfl,rfl,rfl⟩,fun b hb=>?_,q⟩
 have e:b=s1.heap.objs.size:=by simpa using hb
 subst e
 exact I1.fpOk (Nat.le_refl _) (I1.hok.fresh (Nat.le_refl _))
theorem xo {pins:List (Addr×Obj)}{σ:St}{H:Hp}{s:Shared}{R:It->Hp->Prop}{E:Value->Shared->Prop}{lo hi:Int}{t u v:Tok}{tk:Nat}(I:Inv X pins σ H s)(h1 : -(2^62)≤lo)(h2:lo<2^62)(h3 : -(2^62)≤hi)(h4:hi<2^62)
  (q:R (DH lo (hi-lo).toNat) H):wpAny (model X.prog X.w) X.A (pyIter (.ref s.heap.objs.size)) (EW X pins σ tg R) E { s with heap:=s.heap.push { cls:=.type "range", data:=.fields #[.int lo t,.int hi u,.int 1 v] },toks:=tk }:=by
 refine wpAny_pyIter_range (IsRange.new ..) (small_one h1 h2 h3 h4) ?_
 have I1:Inv X pins σ H { s with heap:=s.heap.push { cls:=.type "range", data:=.fields #[.int lo t,.int hi u,.int 1 v] },toks:=tk }:=I.kept fun b o e=>Heap.get?_push_of_some _ e
 refine⟨(s.heap.push { cls:=.type "range", data:=.fields #[.int lo t,.int hi u,.int 1 v] }).objs.size,[(s.heap.push { cls:=.type "range", data:=.fields #[.int lo t,.int hi u,.int 1 v] }).objs.size],_,_,H,rfl,
  I1.kept (t':=tk) fun b o e=>Heap.get?_push_of_some _ e,sT _ lo (hi-lo).toNat,?_,fun b hb=>?_,q⟩
 ·have e1:lo+((0:Nat):Int)*1=lo:=by simp
  have e2:(((hi-lo).toNat:Nat):Int)-((0:Nat):Int)=Builtin.Range.rangeSize lo hi 1:=by rw [rangeSize_one];split<;>omega
  show IsRangeIter _ _ (lo+((0:Nat):Int)*1) ((((hi-lo).toNat:Nat):Int)-((0:Nat):Int)) 1
  rw [e1,e2]
  exact Heap.get?_push_size _ rfl
 ·have e:b=(s.heap.push { cls:=.type "range", data:=.fields #[.int lo t,.int hi u,.int 1 v] }).objs.size:=by simpa using hb
  subst e
  exact I1.fpOk (Nat.le_refl _) (I1.hok.fresh (Nat.le_refl _))
def CG (ta:TA):TI:=fun σ H R=>ta σ H fun vs H1=>∃j:Int,vs=[.int j] /\ -(2^62)≤j/\j<2^62/\R (DH 0 j.toNat) H1
theorem vg {a:Expr}{ta:TA}{p pos:Pos}(hg:Gl X "range")(hm:X.mg "range" = none)(ha:PA X [a] ta)(hs:starEach [a] X.env=[(false,eval a X.env)]:=by rfl):PI X tg (.Call (.Name "range" p) [a] [] pos) (CG ta):=by
 intro pins s σ H R I h
 refine Call_ (pq I hg hm boot_range (PyProof.Rows.callWith_type1 (bM (ha pos pins s σ H _ I h) fun us s1 ⟨vs,H1,I1,r1,q1⟩=>?_) hs rfl))
 obtain⟨j,e,q1,q2,q⟩:=q1
 subst e
 cases r1 with
 |cons r rr =>
  cases rr
  obtain⟨t,rfl⟩:=r
  exact call_range_1 (xo I1 (by omega) (by omega) q1 q2 (by simpa using q))
def EK (wi:TI)(g:TG)(tb:TS):TS:=fun D σ H=>wi σ H fun J H1=>∃W:Nat->Nat->St->Hp->Prop,(∃m,W 0 m σ H1)/\∀i m σ H,W i m σ H ->
 (J.stop i H/\D.nx σ H)\/(J.go i H/\∃N:St->Hp->Prop,(∀σ' H',N σ' H'->∃m',m'<m/\W (i+1) m' σ' H')/\∀x H',J.yld i H x H'->g x σ H' fun σ2 H2=>tb { D with nx:=N,ct:=N,bk:=D.nx } σ2 H2)
def mw (fp:List Addr)(h:Heap):List (Addr×Obj):=fp.filterMap fun b=>(h.get? b).map fun o=>(b,o)
theorem cI {fp:List Addr}{h:Heap}{b:Addr}{o:Obj}(hb:b∈fp)(e:h.get? b=some o):(b,o)∈mw fp h:=List.mem_filterMap.mpr ⟨b,hb,by rw [e];rfl⟩
theorem vc {fp:List Addr}{h:Heap}{p:Addr×Obj}(hp:p∈mw fp h):p.1∈fp/\h.get? p.1=some p.2:=by
 obtain⟨b,hb,e⟩:=List.mem_filterMap.mp hp
 cases q:h.get? b with
 |none=>rw [q] at e;cases e
 |some o =>
  rw [q] at e
  have e':(b,o)=p:=Option.some.inj e
  subst e'
  exact⟨hb,q⟩
theorem Inv.pinned {pins:List (Addr×Obj)}{σ:St}{H:Hp}{s:Shared}{fp:List Addr}(I:Inv X pins σ H s)(hf:∀b∈fp,mP X pins H b)(ho:∀b∈fp,∃o,s.heap.get? b=some o/\∀v,o.data≠.cell v):Inv X (pins++mw fp s.heap) σ H s:=
 I.pins_of fun p hp=>(List.mem_append.mp hp).elim (fun z=>I.pin p (List.mem_append_right _ z)) fun z=>by
  obtain⟨hb,e⟩:=vc z
  obtain⟨f0,f1,f2,_⟩:=hf p.1 hb
  obtain⟨o,e',d⟩:=ho p.1 hb
  rw [e] at e';cases e'
  exact⟨e,f0,f1,f2,d⟩
theorem Inv.unpinned {pins pl:List (Addr×Obj)}{σ:St}{H:Hp}{s:Shared}(I:Inv X (pins++pl) σ H s):Inv X pins σ H s:=I.pins_of fun p hp=>I.pin p (List.mem_append_right _ (List.mem_append_left _ hp))
theorem Bl {iter:Expr}{body:List Stmt}{wi:TI}{g:TG}{tb:TS}{pos:Pos}(hp:PassesOwn (model X.prog X.w) X.A X.env X.xe)(hc:X.calm=true)(hi:PI X tg iter wi)(hg:PG X tg g)(hb:kH X body tb)
  (hs:∀x,foldedSetIterable iter X.env x=pure x:=by intro _;rfl):PS X (.For tg iter body [] pos) (EK wi g tb):=by
 intro pins s σ H D I h
 refine wpAny_For (bM (hi pins s σ H _ I h) fun v s1 h1=>bM h1 fun itv s2 h2=>?_) hs
 obtain⟨it,fp,tn,J,H2,e,I2,T,st2,f2,W,⟨m0,w0⟩,turn⟩:=h2
 subst e
 -- what stays true of the iterator's objects through the loop
 have stat:∀{H':Hp},(∀b∈fp,H' b=none)->∀b∈fp,mP X pins H' b:=fun hn b hb=>⟨hn b hb,(f2 b hb).2⟩
 refine codeAny_forLoop_any (fun n s'=>∃i σ' H',Inv X pins σ' H' s'/\tn i s'.heap/\(∀b∈fp,H' b=none)/\W i n σ' H') ?_ m0 ⟨0,σ,H2,I2,st2,fun b hb=>(f2 b hb).1,w0⟩
 rintro n s3 ⟨i,σ3,H3,I3,st3,fr3,w3⟩
 rcases turn i n σ3 H3 w3 with ⟨stop,qn⟩ | ⟨go,N,hN,step⟩
 ·refine wpAny_passesOwn hp (bM (T.done X rfl rfl rfl hc i pins s3 σ3 H3 X.xe I3 (stat fr3) st3 stop) fun r s4 ⟨hr,I4⟩=>?_)
  subst hr
  exact wpAny_execs_nil ⟨σ3,H3,I4,qn⟩
 ·refine wpAny_passesOwn hp (bM (T.item X rfl rfl rfl hc i pins s3 σ3 H3 X.xe I3 (stat fr3) st3 go) fun r s4 ⟨u,hr,h4⟩=>?_)
  subst hr
  refine wpAny_passesOwn hp (bM h4 fun _ s5 ⟨x,H5,I5,r5,y5,st5,fr5⟩=>?_)
  have I5':=I5.pinned (stat fr5) (T.obj _ _ st5)
  refine wpAny_passesOwn hp (bM (hg _ s5 σ3 H5 x u _ I5' r5 (step x H5 y5)) fun _ s6 ⟨σ6,H6,I6,q6⟩=>?_)
  refine wpAny_passesOwn hp (bM (hb _ s6 σ6 H6 _ I6 q6) fun f s7 q7=>?_)
  have again:∀{σ7:St} {H7:Hp},Inv X (pins++mw fp s5.heap) σ7 H7 s7->N σ7 H7->∃m,m<n/\∃i σ' H',Inv X pins σ' H' s7/\tn i s7.heap/\(∀b∈fp,H' b=none)/\W i m σ' H':=fun {σ7 H7} I7 n7=>by
   obtain⟨m',hm,w7⟩:=hN σ7 H7 n7
   refine⟨m',hm,i+1,σ7,H7,I7.unpinned,T.keep _ _ _ st5 fun b hb o e=>(I7.pin (b,o) (List.mem_append_right _ (List.mem_append_right _ (cI hb e)))).1,fun b hb=>?_,w7⟩
   obtain⟨o,e,d⟩:=T.obj _ _ st5 b hb
   exact (I7.pin (b,o) (List.mem_append_right _ (List.mem_append_right _ (cI hb e)))).2.1
  cases f with
  |next=>obtain⟨σ7,H7,I7,n7⟩:=q7;exact again I7 n7
  |cont=>obtain⟨σ7,H7,I7,n7⟩:=q7;exact again I7 n7
  |brk=>obtain⟨σ7,H7,I7,q7⟩:=q7;exact⟨σ7,H7,I7.unpinned,q7⟩
  |ret v=>obtain⟨x7,σ7,H7,I7,r7,q7⟩:=q7;exact⟨x7,σ7,H7,I7.unpinned,r7,q7⟩
end
abbrev R2:=V->V->Hp->VK->Prop
def lE (X:Cx)(f:Value->Value->Sem Value)(r:R2):Prop:=
 ∀(pins:List (Addr×Obj)) (s:Shared) (σ:St) (H:Hp) (x y:V) (v u:Value) (Q:VK),Inv X pins σ H s->RelV x v->RelV y u->r x y H Q ->
  wpAny (model X.prog X.w) X.A (f v u) (EP X pins σ Q) X.xe s
def DM (X:Cx)(f:Value->Sem Value)(r:V->Hp->VK->Prop):Prop:=
 ∀(pins:List (Addr×Obj)) (s:Shared) (σ:St) (H:Hp) (x:V) (v:Value) (Q:VK),Inv X pins σ H s->RelV x v->r x H Q ->
  wpAny (model X.prog X.w) X.A (f v) (EP X pins σ Q) X.xe s
def eM (X:Cx)(f:Value)(r:List V->Hp->VK->Prop):Prop:=
 ∀(pins:List (Addr×Obj)) (s:Shared) (σ:St) (H:Hp) (xs:List V) (us:List Value) (Q:VK),Inv X pins σ H s->Vals xs us->r xs H Q ->
  wpAny (model X.prog X.w) X.A (call f us) (EP X pins σ Q) X.xe s
def D7 (X:Cx)(r:V->Hp->(Bool->Hp->Prop)->Prop):Prop:=
 ∀(pins:List (Addr×Obj)) (s:Shared) (σ:St) (H:Hp) (x:V) (v:Value) (Q:Bool->Hp->Prop),Inv X pins σ H s->RelV x v->r x H Q ->
  wpAny (model X.prog X.w) X.A (truthy v) (TP X pins σ Q) X.xe s
def DA (r:R2)(ta tb:TE):TE:=fun σ H Q=>ta σ H fun x H1=>tb σ H1 fun y H2=>r x y H2 Q
def Gn (r:V->Hp->VK->Prop)(ta:TE):TE:=fun σ H Q=>ta σ H fun x H1=>r x H1 Q
def rI (C:Int->Int->Prop)(g:Int->Int->V):R2:=fun x y H Q=>∃i j,x=.int i/\y=.int j/\C i j/\Q (g i j) H
def ze (g:Int->Int->V):R2:=fun x y H Q=>∃i j,x=.int i/\y=.int j/\Q (g i j) H
def rU (g:Int->V):V->Hp->VK->Prop:=fun x H Q=>∃i,x=.int i/\Q (g i) H
section
variable {X:Cx}{a b c:Expr}{ta tb tc:TE}{pos:Pos}
theorem zW (ha:PE X a ta)(hb:PE X b tb){pins:List (Addr×Obj)}{s:Shared}{σ:St}{H:Hp}{R:V->V->Hp->Prop}(I:Inv X pins σ H s)
  (h:ta σ H fun x H1=>tb σ H1 fun y H2=>R x y H2) {Q:Value->Shared->Prop} {f:Value->Value->Sem Value}
  (hf:∀v u s2 x y H2,Inv X pins σ H2 s2->RelV x v->RelV y u->R x y H2->wpAny (model X.prog X.w) X.A (f v u) Q X.xe s2):
  wpAny (model X.prog X.w) X.A (eval a X.env) (fun v s₁=>wpAny (model X.prog X.w) X.A (eval b X.env) (fun u s₂=>wpAny (model X.prog X.w) X.A (f v u) Q X.xe s₂) X.xe s₁) X.xe s:=by
 refine bM (ha pins s σ H _ I h) fun v s1 ⟨x,H1,I1,r1,q1⟩=>?_
 refine bM (hb pins s1 σ H1 _ I1 q1) fun u s2 ⟨y,H2,I2,r2,q2⟩=>?_
 exact hf v u s2 x y H2 I2 r1 r2 q2
theorem C6 {op:Operator}{r:R2}(ho:lE X (binaryOp op) r)(ha:PE X a ta)(hb:PE X b tb):PE X (.BinOp a op b pos) (DA r ta tb):=by
 intro pins s σ H Q I h
 exact wpAny_BinOp (zW ha hb I h fun v u s2 x y H2 I2 rx ry q=>ho pins s2 σ H2 x y v u Q I2 rx ry q)
theorem C7 {op:UnaryOp}{r:V->Hp->VK->Prop}(ho:DM X (unaryOp op) r)(ha:PE X a ta):PE X (.UnaryOp op a pos) (Gn r ta):=by
 intro pins s σ H Q I h
 exact UnaryOp_ (bM (ha pins s σ H _ I h) fun v s1 ⟨x,H1,I1,r1,q1⟩=>ho pins s1 σ H1 x v Q I1 r1 q1)
theorem Ey {f:Value->Value->Sem Value}{C:Int->Int->Prop}{g:Int->Int->Int}
  (rule:∀(i j:Int) (t u:Tok) (s:Shared) (Q:Value->Shared->Prop) (E:Value->Shared->Prop),C i j->Q (.int (g i j) s.toks) { s with toks:=s.toks+1 }->wpAny (model X.prog X.w) X.A (f (.int i t) (.int j u)) Q E s):
  lE X f (rI C fun i j=>.int (g i j)):=by
 intro pins s σ H x y v u Q I rx ry h
 obtain⟨i,j,rfl,rfl,hc,q⟩:=h
 obtain⟨t,rfl⟩:=rx
 obtain⟨t',rfl⟩:=ry
 exact rule i j t t' s _ _ hc ⟨.int (g i j),H,I.tok _,⟨_,rfl⟩,q⟩
theorem CU {f:Value->Value->Sem Value}{g:Int->Int->Int}
  (rule:∀(i j:Int) (t u:Tok) (s:Shared) (Q:Value->Shared->Prop) (E:Value->Shared->Prop),Q (.int (g i j) s.toks) { s with toks:=s.toks+1 }->wpAny (model X.prog X.w) X.A (f (.int i t) (.int j u)) Q E s):
  lE X f (ze fun i j=>.int (g i j)):=by
 intro pins s σ H x y v u Q I rx ry h
 obtain⟨i,j,rfl,rfl,q⟩:=h
 obtain⟨t,rfl⟩:=rx
 obtain⟨t',rfl⟩:=ry
 exact rule i j t t' s _ _ ⟨.int (g i j),H,I.tok _,⟨_,rfl⟩,q⟩
theorem yM {f:Value->Value->Sem Value}{g:Int->Int->Bool}
  (rule:∀(i j:Int) (t u:Tok) (s:Shared) (Q:Value->Shared->Prop) (E:Value->Shared->Prop),Q (.bool (g i j)) s->wpAny (model X.prog X.w) X.A (f (.int i t) (.int j u)) Q E s):
  lE X f (ze fun i j=>.bl (g i j)):=by
 intro pins s σ H x y v u Q I rx ry h
 obtain⟨i,j,rfl,rfl,q⟩:=h
 obtain⟨t,rfl⟩:=rx
 obtain⟨t',rfl⟩:=ry
 exact rule i j t t' s _ _ ⟨.bl (g i j),H,I,rfl,q⟩
def D3 (i j:Int):Prop:=0≤j/\j≤1000000/\i.natAbs<2^64
theorem AZ:lE X (binaryOp .Add) (ze fun i j=>.int (i+j)):=CU fun _ _ _ _ _ _ _ q=>add_int q
theorem A2:lE X (binaryOp .Sub) (ze fun i j=>.int (i-j)):=CU fun _ _ _ _ _ _ _ q=>sub_int q
theorem yO:lE X (binaryOp .Mod) (rI (fun _ j=>j≠0) fun i j=>.int (i.fmod j)):=Ey fun _ _ _ _ _ _ _ hc q=>mod_int' hc q
theorem Gp {f:Value->Sem Value}{g:Int->Int}
  (rule:∀(i:Int) (t:Tok) (s:Shared) (Q:Value->Shared->Prop) (E:Value->Shared->Prop),Q (.int (g i) s.toks) { s with toks:=s.toks+1 }->wpAny (model X.prog X.w) X.A (f (.int i t)) Q E s):
  DM X f (rU fun i=>.int (g i)):=by
 intro pins s σ H x v Q I rx h
 obtain⟨i,rfl,q⟩:=h
 obtain⟨t,rfl⟩:=rx
 exact rule i t s _ _ ⟨.int (g i),H,I.tok _,⟨_,rfl⟩,q⟩
theorem BD:DM X (unaryOp .USub) (rU fun i=>.int (-i)):=Gp fun _ _ _ _ _ q=>neg_int q
end
section
variable {X:Cx}{a b c:Expr}{ta tb tc:TE}{pos:Pos}
theorem Ax {pins:List (Addr×Obj)}{σ:St}{H:Hp}{s:Shared}{Q:VK}{k k':Bool}(I:Inv X pins σ H s)(q:Q (.bl k) H)(e:k=k'):EP X pins σ Q (.bool k') s:=by
 subst e
 exact⟨.bl k,H,I,rfl,q⟩
theorem CZ:lE X (compareOp .Lt) (ze fun i j=>.bl (decide (i<j))):=yM fun _ _ _ _ _ _ _ q=>lt_int q
theorem CY:lE X (compareOp .LtE) (ze fun i j=>.bl (decide (i≤j))):=yM fun _ _ _ _ _ _ _ q=>le_int q
theorem CW:lE X (compareOp .Gt) (ze fun i j=>.bl (decide (j<i))):=yM fun _ _ _ _ _ _ _ q=>gt_int q
theorem CV:lE X (compareOp .GtE) (ze fun i j=>.bl (decide (j≤i))):=yM fun _ _ _ _ _ _ _ q=>ge_int q
theorem yP:lE X (compareOp .IsNot) (fun x y H Q=>y=.non/\Q (.bl (!decide (x=.non))) H):=by
 intro pins s σ H x y v u Q I rx ry h
 obtain⟨rfl,q⟩:=h
 cases ry
 refine isnot_none_gen (Ax I q ?_)
 cases x<;>first
  |(cases rx;rfl)
  |(obtain⟨t,rfl⟩:=rx;rfl)
theorem bf (b:Expr){op:CmpOp}(h:op≠.In:=by decide)(h2:op≠.NotIn:=by decide):behindInMarks op b=false:=by
 have e1:(op == CmpOp.In)=false:=by cases op<;>first | rfl | exact absurd rfl h
 have e2:(op == CmpOp.NotIn)=false:=by cases op<;>first | rfl | exact absurd rfl h2
 cases b<;>simp [behindInMarks,e1,e2]
theorem yU {op:CmpOp}{r:R2}(ho:lE X (compareOp op) r)(ha:PE X a ta)(hb:PE X b tb)(hm:behindInMarks op b=false):PE X (.Compare a [op] [b] pos) (DA r ta tb):=by
 intro pins s σ H Q I h
 exact wpAny_Compare1 (zW ha hb I h fun v u s2 x y H2 I2 rx ry q=>ho pins s2 σ H2 x y v u Q I2 rx ry q) hm
def zN (t:TE):TT:=fun σ H Q=>t σ H fun x H'=>∃k,x=.bl k/\Q k H'
theorem zc {op:CmpOp}{r:R2}(ho:lE X (compareOp op) r)(ha:PE X a ta)(hb:PE X b tb)(hm:behindInMarks op b=false):PT X (.Compare a [op] [b] pos) (zN (DA r ta tb)):=by
 intro pins s σ H Q I h
 refine wpAny_isTrue_Compare1 (bM (ha pins s σ H _ I h) fun v s1 ⟨x,H1,I1,r1,q1⟩=>bM (hb pins s1 σ H1 _ I1 q1) fun u s2 ⟨y,H2,I2,r2,q2⟩ =>
  bM (ho pins s2 σ H2 x y v u _ I2 r1 r2 q2) fun c s3 ⟨z,H3,I3,r3,k,e,q3⟩=>?_) hm
 subst e
 cases r3
 exact wpAny_truthy_bool ⟨H3,I3,q3⟩
def xF (r r':R2)(ta tb tc:TE):TE:=fun σ H Q=>ta σ H fun x H1=>tb σ H1 fun y H2=>r x y H2 fun z H3=>∃k,z=.bl k /\
 (if k=true then tc σ H3 fun w' H4=>r' y w' H4 Q else Q (.bl false) H3)
theorem xi {op op':CmpOp}{r r':R2}(ho:lE X (compareOp op) r)(ho':lE X (compareOp op') r')(ha:PE X a ta)(hb:PE X b tb)(hc:PE X c tc)
  (hm:lastMarks [op,op'] [b,c]=false:=by with_unfolding_all rfl):PT X (.Compare a [op,op'] [b,c] pos) (zN (xF r r' ta tb tc)):=by
 intro pins s σ H Q I h
 refine isTrue_chain (bM (ha pins s σ H _ I h) fun v s1 ⟨x,H1,I1,r1,q1⟩=>test_link (bM (hb pins s1 σ H1 _ I1 q1) fun u s2 ⟨y,H2,I2,r2,q2⟩ =>
  bM (ho pins s2 σ H2 x y v u _ I2 r1 r2 q2) fun d s3 ⟨z,H3,I3,r3,k,e,q3⟩=>?_)) hm
 subst e
 cases r3
 refine wpAny_truthy_bool ?_
 cases k with
 |false =>
  obtain⟨k',e',q'⟩:=q3
  cases e'
  exact ite_ff ⟨H3,I3,q'⟩
 |true =>
  refine ite_tt (test_last (bM (hc pins s3 σ H3 _ I3 q3) fun w' s4 ⟨z',H4,I4,r4,q4⟩=>bM (ho' pins s4 σ H4 y z' u w' _ I4 r2 r4 q4) fun d' s5 ⟨z2,H5,I5,r5,k2,e2,q5⟩=>?_))
  subst e2
  cases r5
  exact wpAny_truthy_bool ⟨H5,I5,q5⟩
def zU (K:PySem.W.Frag)(x:V)(H:Hp)(k:Bool):Prop:=
 match x with
 | .non=>k=false
 | .bl b=>k=b
 | .int i=>k=(i != 0)
 | .str y=>y.length≤sizeLine/\k=((y.length:Int) != 0)
 | .byt y=>y.size≤sizeLine/\k=((y.size:Int) != 0)
 | .ref p=>(∃xs,iK K H p xs/\k = !xs.isEmpty)\/(∃xs,kW K H p xs/\k = !xs.isEmpty)\/∃kvs,H p=some (.dK kvs)/\k = !kvs.isEmpty
 |_=>False
theorem rT {κ:Type}{kvs:List (κ×V)}{vs:List (κ×Value)}(r:KV kvs vs):(!vs.isEmpty) = !kvs.isEmpty:=by
 cases r<;>rfl
theorem lY {xs:List V}{its:List Value}(r:Vals xs its):(!its.toArray.isEmpty) = !xs.isEmpty:=by
 cases r<;>simp
theorem jV:(sizeLine:Nat)<2^63:=by rw [sizeLine_eq];decide
theorem BB:D7 X (fun x H Q=>∃k,zU X.K x H k/\Q k H):=by
 intro pins s σ H x v Q I rx h
 obtain⟨k,e,q⟩:=h
 have hl:=jV
 have hs:sizeLine=16777216:=sizeLine_eq
 cases x with
 |non =>
  cases rx
  have e':k=false:=e
  subst e'
  exact truthy_none ⟨H,I,q⟩
 |bl b =>
  cases rx
  have e':k=b:=e
  subst e'
  exact wpAny_truthy_bool ⟨H,I,q⟩
 |int i =>
  obtain⟨t,rfl⟩:=rx
  have e':k=(i != 0):=e
  subst e'
  exact PySem.P.truthy_int ⟨H,I,q⟩
 |str y =>
  obtain⟨t,rfl⟩:=rx
  obtain⟨hy,e'⟩:y.length≤sizeLine/\k=((y.length:Int) != 0):=e
  subst e'
  exact PySem.P.truthy_str (by omega) ⟨H,I.tok _,q⟩
 |byt y =>
  obtain⟨t,rfl⟩:=rx
  obtain⟨hy,e'⟩:y.size≤sizeLine/\k=((y.size:Int) != 0):=e
  subst e'
  exact PySem.W.truthy_bytes (by omega) ⟨H,I.tok _,q⟩
 |ref p =>
  cases rx
  have e':(∃xs,iK X.K H p xs/\k = !xs.isEmpty)\/(∃xs,kW X.K H p xs/\k = !xs.isEmpty)\/∃kvs,H p=some (.dK kvs)/\k = !kvs.isEmpty:=e
  rcases e' with ⟨xs,hx,e'⟩ | ⟨xs,hx,e'⟩ | ⟨kvs,hx,e'⟩
  ·subst e'
   obtain⟨its,r,pl,hz⟩:=I.list hx
   have hlen:=r.length
   exact wpAny_truthy_list pl.isList (by simp only [List.size_toArray];omega) ⟨H,I.tok _,by rw [lY r];exact q⟩
  ·subst e'
   obtain⟨its,r,pl,hz⟩:=I.tuple hx
   have hlen:=r.length
   exact truthy_tuple pl (by simp only [List.size_toArray];omega) ⟨H,I.tok _,by rw [lY r];exact q⟩
  ·subst e'
   obtain⟨hz,hS,vs,r,m⟩:kvs.length≤sizeLine/\(p == sysModules)=false/\∃vs,KV kvs vs/\s.heap.DictOf (pw X.prog X.w) p vs:=I.hok p _ hx
   have hlen:kvs.length=vs.length:=Paired.length r
   exact wpAny_truthy_dict hS m (by omega) ⟨H,I.tok _,by rw [rT r];exact q⟩
 |_=>exact (show False from e).elim
theorem xj (ha:PE X a ta)(he:∀whole,isTrue a X.env whole=(do let v <- whole;standAt a.pos;holding [v] (truthy v))):
  PT X a (fun σ H Q=>ta σ H fun x H'=>∃k,zU X.K x H' k/\Q k H'):=by
 intro pins s σ H Q I h
 exact isTrue_plain (bM (ha pins s σ H _ I h) fun v s1 ⟨x,H1,I1,r1,q1⟩=>BB pins s1 σ H1 x v Q I1 r1 q1) (he _)
theorem sC:lE X (binaryOp .Add) (fun x y H Q=>∃i j,x=.str i/\y=.str j/\i.length+j.length≤sizeLine/\Q (.str (i++j)) H):=by
 intro pins s σ H x y v u Q I rx ry h
 obtain⟨i,j,rfl,rfl,hz,q⟩:=h
 obtain⟨t,rfl⟩:=rx
 obtain⟨t',rfl⟩:=ry
 exact add_str (fun t' tk=>⟨.str (i++j),H,I.tok _,⟨_,rfl⟩,q⟩) hz
theorem vals1 {x:V}{us:List Value}(r:Vals [x] us):∃u,us=[u]/\RelV x u:=by
 cases r with
 |cons r1 r2=>cases r2;exact⟨_,rfl,r1⟩
theorem vH:eM X (.builtin "abs") (fun xs H Q=>∃i,xs=[.int i]/\Q (.int (if i<0 then -i else i)) H):=by
 intro pins s σ H xs us Q I r h
 obtain⟨i,rfl,q⟩:=h
 obtain⟨u,rfl,t,rfl⟩:=vals1 r
 exact call_abs_int fun u tk=>⟨.int (if i<0 then -i else i),H,I.tok _,⟨_,rfl⟩,q⟩
end
structure rg (h:Heap)(x dx C:Addr)(mA:Str->Option Value):Prop where
 obj:h.get? x=some (PySem.W.instObj C dx)
 ns:h.Ns1 dx mA
 ne:dx≠x
theorem nM {h:Heap}{dx:Addr}{mA:Str->Option Value}(n:h.Ns1 dx mA):∃od,h.get? dx=some od/\∀name,PySem.W.lookIn name od=some (mA name):=by
 obtain⟨o,es,ep,ho,hd,hk,_,hm⟩:=n
 refine⟨o,ho,fun name=>?_⟩
 have e:=hm name
 unfold nsFind findBy at e
 rw [<- Array.find?_toList] at e
 unfold PySem.W.lookIn
 rw [hd]
 dsimp only
 split
 ·rename_i y q
  rw [q] at e
  exact congrArg some e
 ·rename_i q
  rw [q] at e
  have a:es.toList.any (·.refKey)=false:=by
   rw [List.any_eq_false]
   intro y hy
   obtain⟨z,t,hkey⟩:=hk y (Array.mem_toList_iff.mp hy)
   simp [DictEntry.refKey,hkey]
  have a':¬ es.toList.any (·.refKey)=true:=by rw [a];exact Bool.false_ne_true
  rw [if_neg a']
  exact congrArg some e
theorem rg.look {h:Heap}{x dx C:Addr}{mA:Str->Option Value}(I:rg h x dx C mA):∃od,PySem.W.InstAt h x (PySem.W.instObj C dx) C (some od)/\∀name,PySem.W.lookIn name od=some (mA name):=
 let ⟨od,ho,hl⟩:=nM I.ns
 ⟨od,⟨I.obj,rfl,rfl,ho⟩,hl⟩
section
variable {prog:Program}{w:World}{A:Around}{E:Value->Shared->Prop}{s:Shared}{K:PySem.W.Frag}{x dx C f:Addr}{mA:Str->Option Value}{name:Str}{v:Value}
theorem get_map {expr:Bool}{Q:Value->Shared->Prop}(X:K.In s.heap)(I:rg s.heap x dx C mA)(hg:PySem.W.plainGet K C name=true)(hh:PySem.W.hasDictIn K C=true)
  (ha:PySem.W.findIn K (.ref C) name=some none) (hv:mA name=some v) (hv':PySem.W.handedIn v=true) (h:Q v { s with toks:=s.toks+1 }):
  wpAny (model prog w) A (getAttr (.ref x) name expr) Q E s:=by
 obtain⟨od,J,hl⟩:=I.look
 exact PySem.W.get_value X J (PySem.W.plainGet_of hg).1 (PySem.W.findObj_own hh ha rfl (by rw [hl,hv])) hv' h
theorem wy {pl:Sem Bool}{Q:Value×List Value->Shared->Prop}(X:K.In s.heap)(I:rg s.heap x dx C mA)(hg:PySem.W.plainGet K C name=true)
  (hf:PySem.W.findIn K (.ref C) name=some (some (.ref f))) (ht:PySem.W.isFn K (.ref f)=true) (hv:mA name=none) (h:Q (.ref f,[.ref x]) s):
  wpAny (model prog w) A (getMethod (.ref x) name pl) Q E s:=by
 obtain⟨od,J,hl⟩:=I.look
 exact PySem.W.method_fn X J (PySem.W.plainGet_of hg).1 (PySem.W.plainGet_of hg).2 hf (beq_iff_eq.mp ht) (by show (PySem.W.lookIn name od).map (·.isSome)=some false;rw [hl,hv];rfl) h
theorem zj {ns:List Str}{Q:Unit->Shared->Prop}(X:K.In s.heap)(I:rg s.heap x dx C mA)
  (hs:PySem.W.findIn K (.ref C) "__setattr__" = some (some (.builtin "object.__setattr__"))) (hp:PySem.W.plainOver K C=true) (ht:PySem.W.takerIn K C name=some none) (hh:PySem.W.hasDictIn K C=true)
  (hw:PySem.Within mA ns) (hsz:ns.length≤sizeLine)
  (h:∀h',rg h' x dx C (fun y=>if y=name then some v else mA y)->Heap.SameBut dx s.heap h'->Q () { s with heap:=h',toks:=s.toks+2 }):
  wpAny (model prog w) A (setAttr (.ref x) name v) Q E s:=by
 obtain⟨od,J,hl⟩:=I.look
 refine PySem.W.set_plain X J hs (PySem.W.osa_open (s:={ s with toks:=s.toks+1 }) (r:=none) X J hp ht fun b=>?_)
 obtain⟨cd,hc,hd'⟩:=PySem.W.any_some hh
 have hx:s.heap.get? x=some ⟨.ref C,some dx,.plain,#[]⟩:=I.obj
 refine wpAny_bind (wpAny_pure (wpAny_bind (wpAny_bind (wpAny_loadPart hx (wpAny_bind (PySem.W.Looks.here (s:={ s with toks:=s.toks+1 }) (PySem.W.looks_clsIn X hc) ?_))))))
 rw [hd']
 refine wpAny_pure (a:=some dx) (wpAny_bind (wpAny_pure (wpAny_bind ?_)))
 refine wpAny_nsSet1 (s:={ s with toks:=s.toks+1 }) I.ns fun h' hn2 hs2=>?_
 obtain⟨oD,esD,epD,hoD,hdD,hcD⟩:=hn2.count (PySem.Within.cons name v hw)
 refine wpAny_bind (wpAny_lookBehind hoD (by rw [hdD];exact pastItsLine_dict (Nat.le_trans hcD (by rw [List.length_cons];omega))) ?_)
 exact wpAny_pure (h _ ⟨(hs2.2 _ (Ne.symm I.ne)).trans I.obj,hn2,I.ne⟩ hs2)
theorem wU {R:Result->Shared->Prop}{vs:List Value}{kw:List (Str×Value)}(X:K.In s.heap)(hm:PySem.W.makesIn K C=true)
  (hi:PySem.W.findIn K (.ref C) "__init__" = some (some (.ref f))) (hf:PySem.W.typeIn K (.ref f)=some (.type "function"))
  (h:codeAny (model prog w) (A.under (.builtin "type.__call__" ⟨.ref C::vs,kw⟩)) (.call (.ref f) ⟨.ref (s.heap.objs.size+1)::vs,kw⟩) (PySem.W.InitBack (s.heap.objs.size+1) R)
   { s with heap:=(s.heap.push PySem.W.emptyDict).push (PySem.W.instObj C s.heap.objs.size) }):
  codeAny (model prog w) A (.call (.ref C) ⟨vs,kw⟩) R s:=by
 obtain⟨hh,g,d,t,os⟩:=s
 exact PySem.W.make_core (PySem.W.makes_of X hm) (PySem.W.looks_findIn X hi) (fun self=>PySem.W.bind_fn X self hf) (.inl rfl) h
end
def gO (f:Str)(v:V):List (Str×V)->List (Str×V)
 |[]=>[(f,v)]
 |(g,x)::r=>if g=f then (g,v)::r else (g,x)::gO f v r
theorem kF (f g:Str)(v:V):∀fs:List (Str×V),(gO f v fs).lookup g=if g=f then some v else fs.lookup g
 |[]=>by
  show List.lookup g [(f,v)]=_
  by_cases h:g=f
  ·have hb:(g == f)=true:=beq_iff_eq.mpr h
   simp only [List.lookup,hb,if_pos h]
  ·have hb:(g == f)=false:=beq_eq_false_iff_ne.mpr h
   simp only [List.lookup,hb,if_neg h]
 |(k,x)::r=>by
  have ih:=kF f g v r
  rw [show gO f v ((k,x)::r)=(if k=f then (k,v)::r else (k,x)::gO f v r) from rfl]
  by_cases hk:k=f
  ·rw [if_pos hk]
   by_cases h:g=k
   ·have hb:(g == k)=true:=beq_iff_eq.mpr h
    simp only [List.lookup,hb,if_pos (h.trans hk)]
   ·have hb:(g == k)=false:=beq_eq_false_iff_ne.mpr h
    simp only [List.lookup,hb,if_neg (fun e:g=f=>h (e.trans hk.symm))]
  ·rw [if_neg hk]
   by_cases h:g=k
   ·have hb:(g == k)=true:=beq_iff_eq.mpr h
    simp only [List.lookup,hb,if_neg (fun e:g=f=>hk (h.symm.trans e))]
   ·have hb:(g == k)=false:=beq_eq_false_iff_ne.mpr h
    simp only [List.lookup,hb]
    exact ih
theorem jU (f:Str)(v:V):∀fs:List (Str×V),f∈(gO f v fs).map (·.1)/\∀g,g∈fs.map (·.1)->g∈(gO f v fs).map (·.1)
 |[]=>⟨by simp [gO],fun g h=>by simp at h⟩
 |(k,x)::r=>by
  obtain⟨i1,i2⟩:=jU f v r
  rw [show gO f v ((k,x)::r)=(if k=f then (k,v)::r else (k,x)::gO f v r) from rfl]
  by_cases hk:k=f
  ·rw [if_pos hk]
   subst hk
   exact⟨by simp,fun g h=>by simpa using h⟩
  ·rw [if_neg hk]
   refine⟨?_,fun g h=>?_⟩
   ·rw [List.map_cons]
    exact List.mem_cons_of_mem _ i1
   ·rw [List.map_cons] at h ⊢
    rcases List.mem_cons.mp h with e | e
    ·exact List.mem_cons.mpr (.inl e)
    ·exact List.mem_cons_of_mem _ (i2 g e)
theorem kE (f:Str)(v:V):∀fs:List (Str×V),(gO f v fs).length≤fs.length+1
 |[]=>by simp [gO]
 |(k,x)::r=>by
  have ih:=kE f v r
  rw [show gO f v ((k,x)::r)=(if k=f then (k,v)::r else (k,x)::gO f v r) from rfl]
  by_cases hk:k=f
  ·rw [if_pos hk,List.length_cons,List.length_cons];omega
  ·rw [if_neg hk,List.length_cons,List.length_cons];omega
theorem mQ.some_of {v:V}{o:Option Value}(r:mQ (some v) o):∃u,o=some u/\RelV v u:=by
 cases o with
 |none=>exact (show False from r).elim
 |some u=>exact⟨u,rfl,r⟩
theorem mQ.none_of {o:Option Value}(r:mQ none o):o=none:=by
 cases o with
 |none=>rfl
 |some u=>exact (show False from r).elim
theorem uS {v:V}{u:Value}(r:RelV v u):PySem.W.handedIn u=true:=by
 cases v with
 |non=>cases (show u=Value.none from r);rfl
 |bl b=>cases (show u=Value.bool b from r);rfl
 |int i=>obtain⟨t,e⟩:=(show ∃t,u=Value.int i t from r);cases e;rfl
 |str x=>obtain⟨t,e⟩:=(show ∃t,u=Value.str x t from r);cases e;rfl
 |byt b=>obtain⟨t,e⟩:=(show ∃t,u=Value.bytes b t from r);cases e;rfl
 |flt b=>obtain⟨t,e⟩:=(show ∃t,u=Value.float b t from r);cases e;rfl
 |ref a=>cases (show u=Value.ref a from r);rfl
 |ty n=>cases (show u=Value.type n from r);rfl
section
variable {P:Program}{w:World}{H H':Hp}{h h':Heap}{a C dx:Addr}{fs fs':List (Str×V)}
theorem lb (hok:kG P w H h)(e:H a=some (.ins C dx fs)):∃mA,rg h a dx C mA/\(∀f,mQ (fs.lookup f) (mA f))/\PySem.Within mA (fs.map (·.1))/\fs.length≤1000/\H dx=some (.own a):=by
 obtain⟨d,z,ne,ob,mA,n,r,q⟩:=(show bO P w H h a (.ins C dx fs) from hok a _ e)
 exact⟨mA,⟨ob,n,ne⟩,r,q,z,d⟩
end
structure dA (K:PySem.W.Frag)(C:Addr):Prop where
 pg:PySem.W.plainGet K C Str.empty=true
 hd:PySem.W.hasDictIn K C=true
 po:PySem.W.plainOver K C=true
 sa:PySem.W.findIn K (.ref C) "__setattr__" = some (some (.builtin "object.__setattr__"))
theorem dA.get {K:PySem.W.Frag}{C:Addr}(c:dA K C)(f:Str):PySem.W.plainGet K C f=true:=c.pg
def bg (K:PySem.W.Frag)(C:Addr)(f:Str):Prop:=PySem.W.findIn K (.ref C) f=some none
theorem bg.taker {K:PySem.W.Frag}{C:Addr}{f:Str}(n:bg K C f):PySem.W.takerIn K C f=some none:=by
 unfold PySem.W.takerIn
 rw [show PySem.W.findIn K (.ref C) f=some none from n]
 rfl
structure Meth (K:PySem.W.Frag)(C:Addr)(m:Str)(f:Addr):Prop where
 at_:PySem.W.findIn K (.ref C) m=some (some (.ref f))
 fn:PySem.W.isFn K (.ref f)=true
 kp:PySem.W.keepIn K (.ref f)=true
section
variable {X:Cx}{pins:List (Addr×Obj)}{σ:St}{H:Hp}{s:Shared}{a C dx:Addr}{fs:List (Str×V)}{f:Str}{v:V}{A:Around}{E:Value->Shared->Prop}
theorem rS {b:Bool}{Q:Value->Shared->Prop}(I:Inv X pins σ H s)(e:H a=some (.ins C dx fs))(c:dA X.K C)(n:bg X.K C f)(l:fs.lookup f=some v)
  (h:∀u s',Inv X pins σ H s'->RelV v u->Q u s'):wpAny (model X.prog X.w) A (getAttr (.ref a) f b) Q E s:=by
 obtain⟨mA,O,r,_,_,_⟩:=lb I.hok e
 obtain⟨u,hu,ru⟩:=mQ.some_of (v:=v) (o:=mA f) (by rw [<- l];exact r f)
 exact get_map I.kIn O (c.get f) c.hd n hu (uS ru) (h u _ (I.tok _) ru)
theorem iX {m:Str}{g:Addr}{pl:Sem Bool}{Q:Value×List Value->Shared->Prop}(I:Inv X pins σ H s)(e:H a=some (.ins C dx fs))(c:dA X.K C)(k:Meth X.K C m g)(l:fs.lookup m=none)
  (h:Q (.ref g,[.ref a]) s):wpAny (model X.prog X.w) A (getMethod (.ref a) m pl) Q E s:=by
 obtain⟨mA,O,r,_,_,_⟩:=lb I.hok e
 have hn:mA m=none:=mQ.none_of (by rw [<- l];exact r m)
 exact wy I.kIn O (c.get m) k.at_ k.fn hn h
theorem sI {y:V}{u:Value}{Q:Unit->Shared->Prop}(I:Inv X pins σ H s)(e:H a=some (.ins C dx fs))(c:dA X.K C)(n:bg X.K C f)(hl:fs.length<1000)(ry:RelV y u)
  (h:∀s',Inv X pins σ (upd H a (.ins C dx (gO f y fs))) s'->Q () s'):wpAny (model X.prog X.w) A (setAttr (.ref a) f u) Q E s:=by
 obtain⟨mA,O,r,wi,_,ho⟩:=lb I.hok e
 have hz:(fs.map (·.1)).length≤sizeLine:=by rw [List.length_map,sizeLine_eq];omega
 refine zj I.kIn O c.sa c.po n.taker c.hd wi hz fun h' O' sb=>h _ ?_
 have hd:∃o,h'.get? dx=some o:=let ⟨o,_,_,e',_⟩:=O'.ns;⟨o,e'⟩
 refine I.write (x:=a) (e:=dx) (by rw [e];exact True.intro) (.inr ho) (fun b q hb z=>(sb.2 b hb).trans z) hd ?_
 refine⟨by rw [aB O.ne];exact ho,?_,O.ne,O'.obj,_,O'.ns,fun g=>?_,fun g hg=>?_⟩
 ·have:=kE f y fs;omega
 ·show mQ ((gO f y fs).lookup g) (if g=f then some u else mA g)
  rw [kF]
  by_cases q:g=f
  ·rw [if_pos q,if_pos q];exact ry
  ·rw [if_neg q,if_neg q];exact r g
 ·by_cases q:g=f
  ·rw [q];exact (jU f y fs).1
  ·refine (jU f y fs).2 g (wi g fun z=>hg ?_)
   show (if g=f then some u else mA g)=none
   rw [if_neg q];exact z
theorem Inv.made (I:Inv X pins σ H s):Inv X pins σ (upd (upd H s.heap.objs.size (.own (s.heap.objs.size+1))) (s.heap.objs.size+1) (.ins C s.heap.objs.size []))
  { s with heap:=(s.heap.push PySem.W.emptyDict).push (PySem.W.instObj C s.heap.objs.size) }:=by
 have e1:(s.heap.push PySem.W.emptyDict).get? s.heap.objs.size=some PySem.W.emptyDict:=Heap.get?_push_size s.heap rfl
 have e2:((s.heap.push PySem.W.emptyDict).push (PySem.W.instObj C s.heap.objs.size)).get? (s.heap.objs.size+1)=some (PySem.W.instObj C s.heap.objs.size):=by
  have:=Heap.get?_push_size (s.heap.push PySem.W.emptyDict) (o:=PySem.W.instObj C s.heap.objs.size) rfl
  rwa [Heap.size_push] at this
 have e3:(s.heap.push PySem.W.emptyDict).Ns s.heap.objs.size (fun _=>none):=⟨PySem.W.emptyDict,#[],_,e1,rfl,(fun e he=>absurd he (by simp)),fun _=>rfl⟩
 have I1:=I.laid (a:=s.heap.objs.size) (o:=.own (s.heap.objs.size+1)) (h':=s.heap.push PySem.W.emptyDict) (t':=s.toks) (fun b u q=>Heap.get?_push_of_some _ q) (Nat.le_refl _) ⟨_,e1⟩
 refine I1.laid (a:=s.heap.objs.size+1) (o:=.ins C s.heap.objs.size []) (t':=s.toks) (fun b u q=>Heap.get?_push_of_some _ q) (Nat.le_of_eq (Heap.size_push _ _)) ?_
 have ne:s.heap.objs.size≠s.heap.objs.size+1:=Nat.ne_of_lt (Nat.lt_succ_self _)
 refine⟨by rw [aB ne,aM],Nat.zero_le _,ne,e2,fun _=>none,(Heap.Ns1.of_empty e3).at fun o q=>Heap.get?_push_of_some _ q,fun _=>True.intro,fun y hy=>absurd rfl hy⟩
theorem yb {prog:Program}{w:World}{env:Env}{e:Expr}{f:Str}{pos:Pos}{s:Shared}{Q:Value->Shared->Prop}(hb:attributeBase e f env (eval e env)=eval e env)
  (h:wpAny (model prog w) A (eval e env) (fun o s₁=>wpAny (model prog w) A (getAttr o f true) Q E s₁) E s):wpAny (model prog w) A (eval (.Attribute e f pos) env) Q E s:=
 Attribute_any_ h (by rw [arm_eval_Attribute,hb])
end
def EJ (K:PySem.W.Frag)(ta:TE)(f:Str):TE:=fun σ H Q=>ta σ H fun x H1=>∃a C dx fs v,x=.ref a/\H1 a=some (.ins C dx fs)/\dA K C/\bg K C f/\fs.lookup f=some v/\Q v H1
def EE (K:PySem.W.Frag)(ta tv:TE)(f:Str):TS:=fun D σ H=>tv σ H fun y H1=>ta σ H1 fun x H2=>∃a C dx fs,x=.ref a/\H2 a=some (.ins C dx fs)/\dA K C/\bg K C f/\fs.length<1000 /\
 D.nx σ (upd H2 a (.ins C dx (gO f y fs)))
section
variable {X:Cx}{o e value:Expr}{f:Str}{pos pos' tpos:Pos}{ta tv:TE}
theorem A8 (he:PE X e ta)(hb:attributeBase e f X.env (eval e X.env)=eval e X.env):PE X (.Attribute e f pos) (EJ X.K ta f):=by
 intro pins s σ H Q I h
 refine yb hb (bM (he pins s σ H _ I h) fun u s1 ⟨x,H1,I1,rx,a,C,dx,fs,v,ex,ea,c,n,l,q⟩=>?_)
 subst ex
 obtain rfl:u=Value.ref a:=rx
 exact rS I1 ea c n l fun u' s2 I2 ru=>⟨v,H1,I2,ru,q⟩
theorem Bk (ha:PE X o ta)(hv:PE X value tv)(hs:swapsWith value (some (.Attribute o f pos')) pos.line X.env=pure false):PS X (.Assign [.Attribute o f pos'] value pos) (EE X.K ta tv f):=by
 intro pins s σ H D I h
 refine plainObj_wpAny_Assign_Attribute (bM (hv pins s σ H _ I h) fun u s1 ⟨y,H1,I1,ry,q⟩=>bM (ha pins s1 σ H1 _ I1 q) fun ov s2 ⟨x,H2,I2,rx,a,C,dx,fs,ex,ea,c,n,l,q2⟩=>?_) hs
 subst ex
 obtain rfl:ov=Value.ref a:=rx
 exact sI I2 ea c n l ry fun s3 I3=>⟨σ,_,I3,q2⟩
end
section
variable {X:Cx}{pins:List (Addr×Obj)}{σ:St}{H:Hp}{s:Shared}{A:Around}{E:Value->Shared->Prop}{Q:Value->Shared->Prop}{c:Value}{b:Bool}
inductive kI (K:PySem.W.Frag) (H:Hp):V->Value->Prop where
 |non:kI K H .non (.type "NoneType")
 |bl (x:Bool):kI K H (.bl x) (.type "bool")
 |int (i:Int):kI K H (.int i) (.type "int")
 |str (x:Str):kI K H (.str x) (.type "str")
 |flt (x:UInt64):kI K H (.flt x) (.type "float")
 |lst {a:Addr} {xs:List V} (e:H a=some (.lst xs)):kI K H (.ref a) (.type "list")
 |frz {a:Addr} {o:Obj} {xs:List V} (e:H a=some (.frz o (.lst xs))):kI K H (.ref a) (.type "list")
 |tup {a:Addr} {xs:List V} (e:H a=some (.tup xs)):kI K H (.ref a) (.type "tuple")
 |dK {a:Addr} {kvs:List (Key×V)} (e:H a=some (.dK kvs)):kI K H (.ref a) (.type "dict")
 |dT {a:Addr} {kvs:List (List Key×V)} (e:H a=some (.dT kvs)):kI K H (.ref a) (.type "dict")
 |ins {a C dx:Addr} {fs:List (Str×V)} (e:H a=some (.ins C dx fs)) (cl:dA K C) (ha:PySem.W.findIn K (.ref C) "__class__" = some (some (.builtin "object.__class__")))
   (hn:PySem.W.specialIn K (.builtin "object.__class__") "__get__" = some (some (.builtin "getset_descriptor.__get__"))) (htk:PySem.W.takesIn K (.builtin "object.__class__")=some true)
   (hm:PySem.W.mroIn K C (.type "object")=some true):kI K H (.ref a) (.ref C)
theorem uX {x:V}{u t:Value}(I:Inv X pins σ H s)(rx:RelV x u)(ty:kI X.K H x t)(e:PySem.W.kitOne X.K t c=some b)(h:∀tk,Q (.bool b) { s with toks:=tk }):
  wpAny (model X.prog X.w) A (call (.builtin "isinstance") [u,c]) Q E s:=by
 cases ty with
 |non=>cases (show u=Value.none from rx);exact PySem.W.kia_one PySem.W.kitx_none I.kIn True.intro e (fun z=>nomatch z) h
 |bl y=>cases (show u=Value.bool y from rx);exact PySem.W.kia_one PySem.W.kitx_bool I.kIn True.intro e (fun z=>nomatch z) h
 |int i=>obtain⟨t,q⟩:=(show ∃t,u=Value.int i t from rx);cases q;exact PySem.W.kia_one PySem.W.kitx_int I.kIn True.intro e (fun z=>nomatch z) h
 |str y=>obtain⟨t,q⟩:=(show ∃t,u=Value.str y t from rx);cases q;exact PySem.W.kia_one PySem.W.kitx_str I.kIn True.intro e (fun z=>nomatch z) h
 |flt y=>obtain⟨t,q⟩:=(show ∃t,u=Value.float y t from rx);cases q;exact PySem.W.kia_one PySem.W.kitx_float I.kIn True.intro e (fun z=>nomatch z) h
 |@lst a xs ea =>
  cases (show u=Value.ref a from rx)
  obtain⟨_,_,n,_,h1⟩:=(show bO X.prog X.w H s.heap a (.lst xs) from I.hok a _ ea)
  exact PySem.W.kia_one PySem.W.kitx_list I.kIn ⟨_,h1,rfl⟩ e (fun z=>nomatch z) h
 |@frz a ob xs ea =>
  cases (show u=Value.ref a from rx)
  obtain⟨_,_,_,n,_,h1⟩:=(show bO X.prog X.w H s.heap a (.frz ob (.lst xs)) from I.hok a _ ea)
  exact PySem.W.kia_one PySem.W.kitx_list I.kIn ⟨_,h1,rfl⟩ e (fun z=>nomatch z) h
 |@tup a xs ea =>
  cases (show u=Value.ref a from rx)
  obtain⟨_,_,_,p⟩:=(show bO X.prog X.w H s.heap a (.tup xs) from I.hok a _ ea)
  obtain⟨o,h1,h2,_⟩:=p
  exact PySem.W.kia_one PySem.W.kitx_tuple I.kIn ⟨o,h1,h2⟩ e (fun z=>nomatch z) h
 |@dK a kvs ea =>
  cases (show u=Value.ref a from rx)
  obtain⟨_,_,vs,_,p⟩:=(show bO X.prog X.w H s.heap a (.dK kvs) from I.hok a _ ea)
  obtain⟨o,es,ep,h1,h2,_⟩:=p
  exact PySem.W.kia_one PySem.W.kitx_dict I.kIn ⟨o,h1,h2.1⟩ e (fun z=>nomatch z) h
 |@dT a kvs ea =>
  cases (show u=Value.ref a from rx)
  obtain⟨_,_,xs,_,o,es,ep,h1,h2,_⟩:=(show bO X.prog X.w H s.heap a (.dT kvs) from I.hok a _ ea)
  exact PySem.W.kia_one PySem.W.kitx_dict I.kIn ⟨o,h1,h2.1⟩ e (fun z=>nomatch z) h
 |@ins a C dx fs ea cl ha hn htk hm =>
  cases (show u=Value.ref a from rx)
  obtain⟨mA,O,_⟩:=lb I.hok ea
  obtain⟨od,J,_⟩:=O.look
  exact PySem.W.kia_one (PySem.W.kitx_own (cl.get _) cl.hd ha hn htk hm) I.kIn J e (fun z=>nomatch z) h
end
structure br (k:Nat)(A:Around):Prop where
 hd:A.handled=none
 dp:A.depth+3*k+5<recursionLimit
 un:A.units+16*k+200<cLine
theorem br.mono {j k:Nat}{A:Around}(r:br k A)(h:j≤k):br j A:=⟨r.hd,by have:=r.dp;omega,by have:=r.un;omega⟩
theorem br.deeper {k:Nat}{A:Around}(r:br (k+1) A)(env:Env):br k (A.deeper env):=
 ⟨r.hd,by have:=r.dp;show A.depth+1+3*k+5<_;omega,by have:=r.un;show A.units+3+16*k+200<_;omega⟩
theorem sq {A:Around}{C:Addr}{us:List Value}{kw:List (Str×Value)}:(A.under (.builtin "type.__call__" ⟨.ref C::us,kw⟩)).depth=A.depth+1:=by
 first | rfl | simp [Around.under,Code.weight,Code.isCreation,Code.isGuard,Code.isCaller,Code.frames,Code.isFrame,guardIds]
theorem su {A:Around}{C:Addr}{us:List Value}{kw:List (Str×Value)}:(A.under (.builtin "type.__call__" ⟨.ref C::us,kw⟩)).units=A.units+1:=by
 first | rfl | simp [Around.under,Code.cUnits,Code.frames,Code.isFrame]
theorem br.make {k:Nat}{A:Around}(r:br (k+1) A)(C:Addr)(us:List Value)(kw:List (Str×Value)):br k (A.under (.builtin "type.__call__" ⟨.ref C::us,kw⟩)):=
 ⟨r.hd,by have:=r.dp;rw [sq];omega,by have:=r.un;rw [su];omega⟩
theorem br.depth {k:Nat}{A:Around}(r:br k A):A.depth<recursionLimit:=by have:=r.dp;omega
theorem br.units {k:Nat}{A:Around}(r:br k A):A.units+64<cLine:=by have:=r.un;omega
def Dy:TA:=fun _ H Q=>Q [] H
def Du (ta:TE)(tr:TA):TA:=fun σ H Q=>ta σ H fun x H1=>tr σ H1 fun xs H2=>Q (x::xs) H2
section
variable {X:Cx}{e:Expr}{es:List Expr}{te:TE}{t:TA}{pos:Pos}
theorem pF:PA X [] Dy:=fun _ _ _ _ H Q I h=>Calls.spliced_nil ⟨[],H,I,.nil,h⟩
theorem iA (ha:PE X e te)(hr:PA X es t)(hs:starEach (e::es) X.env=(false,eval e X.env)::starEach es X.env:=by rfl):PA X (e::es) (Du te t):=by
 intro pos pins s σ H Q I h
 rw [hs]
 show wpAny _ _ (spliced ((false,eval e X.env)::backTo pos (starEach es X.env))) _ _ s
 refine Calls.spliced_cons (bM (ha pins s σ H _ I h) fun u s1 ⟨x,H1,I1,r1,q1⟩=>?_)
 exact bM (hr pos pins s1 σ H1 _ I1 q1) fun us s2 ⟨xs,H2,I2,r2,q2⟩=>⟨x::xs,H2,I2,.cons r1 r2,q2⟩
def ET (t:TA):TE:=fun σ H Q=>t σ H fun xs H1=>xs.length≤sizeLine/\∀p,H1 p=none->Q (.ref p) (upd H1 p (.tup xs))
def EM (t:TA):TE:=fun σ H Q=>t σ H fun xs H1=>xs.length≤sizeLine/\∀p,H1 p=none->Q (.ref p) (upd H1 p (.lst xs))
theorem Be {x1}(h:PA X es t):PE X (.Tuple es x1 pos) (ET t):=by
 intro pins s σ H Q I hq
 refine wpAny_Tuple_spliced (bM (h pos pins s σ H _ I hq) fun us s1 ⟨xs,H1,I1,r,z,q⟩=>⟨by rw [<- r.length];exact z,?_⟩)
 have hf:H1 s1.heap.objs.size=none:=I1.hok.fresh (Nat.le_refl _)
 refine⟨.ref s1.heap.objs.size,upd H1 s1.heap.objs.size (.tup xs),I1.laid (t':=s1.toks) (fun b u e=>Heap.get?_push_of_some _ e) (Nat.le_refl _) ?_,rfl,q _ hf⟩
 exact⟨z,us,r,⟨_,Heap.get?_push_size _ rfl,rfl,_,rfl⟩⟩
theorem w9 (h:PA X es t):PE X (.List es pos) (EM t):=by
 intro pins s σ H Q I hq
 refine wpAny_List_spliced (bM (h pos pins s σ H _ I hq) fun us s1 ⟨xs,H1,I1,r,z,q⟩=>⟨by rw [<- r.length];exact z,?_⟩)
 have hf:H1 s1.heap.objs.size=none:=I1.hok.fresh (Nat.le_refl _)
 refine⟨.ref s1.heap.objs.size,upd H1 s1.heap.objs.size (.lst xs),I1.laid (t':=s1.toks) (fun b u e=>Heap.get?_push_of_some _ e) (Nat.le_refl _) ?_,rfl,q _ hf⟩
 exact⟨z,us,0,r,Heap.get?_push_size _ rfl⟩
end
abbrev Sp:=List V->Hp->VK->XK->Prop
abbrev sY:=List Env->Hp->Shared->XK->Value->Shared->Prop
structure ly (P:Program)(w:World)(K:PySem.W.Frag)(mg:Str->Option Value)(base:Heap)(A:Around)(outer:List Env)(s:Shared)(H:Hp):Prop where
 frames:A.frames=some outer
 mod:Mod K mg base
 bs:∀b o,base.get? b=some o->s.heap.get? b=some o/\H b=none
 bsz:base.objs.size≤s.heap.objs.size
 funs:s.heap.FunFrames base outer
 frf:∀b∈jL outer,H b=none
 hok:kG P w H s.heap
 bare:AllBare s.gens
def CE (outer:List Env)(P:Program)(w:World)(H:Hp)(s:Shared)(Q:VK)(u:Value)(s':Shared):Prop:=
 ∃v H',s'.os=s.os/\AllBare s'.gens/\Un (jL outer) [] H H' s.heap s'.heap/\kG P w H' s'.heap/\RelV v u/\Q v H'
def CR (CX:sY)(outer:List Env)(P:Program)(w:World)(H:Hp)(s:Shared)(Q:VK)(E:XK)(r:Result)(s':Shared):Prop:=
 match r with
 | .ok (.ret u)=>CE outer P w H s Q u s'
 | .ok _=>False
 | .error e=>CX outer H s E e s'
structure dN (P:Program)(w:World)(K:PySem.W.Frag)(mg:Str->Option Value)(base:Heap)(CX:sY)(k:Nat)(f:Addr)(fd:FuncData)(ps:List Str)(sp:Sp):Prop where
 len:∀vs H Q E,sp vs H Q E->vs.length=ps.length
 run:∀(A:Around) (outer:List Env) (s:Shared) (H:Hp) (args:Args) (us:List Value) (vs:List V) (Q:VK) (E:XK),br k A->ly P w K mg base A outer s H->BindsTo s fd args (ps.zip us)->Vals vs us->sp vs H Q E ->
  codeAny (model P w) A (.call (.ref f) args) (CR CX outer P w H s Q E) s
theorem dN.mono {P:Program}{w:World}{K:PySem.W.Frag}{mg:Str->Option Value}{base:Heap}{CX:sY}{j k:Nat}{f:Addr}{fd:FuncData}{ps:List Str}{sp:Sp}(F:dN P w K mg base CX j f fd ps sp)(h:j≤k):
  dN P w K mg base CX k f fd ps sp:=⟨F.len,fun A outer s H args us vs Q E hr=>F.run A outer s H args us vs Q E (hr.mono h)⟩
theorem dN.imp {P:Program}{w:World}{K:PySem.W.Frag}{mg:Str->Option Value}{base:Heap}{CX:sY}{k:Nat}{f:Addr}{fd:FuncData}{ps:List Str}{sp sp':Sp}(F:dN P w K mg base CX k f fd ps sp)
  (h:∀vs H Q E,sp' vs H Q E->sp vs H Q E):dN P w K mg base CX k f fd ps sp':=
 ⟨fun vs H Q E q=>F.len vs H Q E (h _ _ _ _ q),fun A outer s H args us vs Q E hr he hb hv hs=>F.run A outer s H args us vs Q E hr he hb hv (h _ _ _ _ hs)⟩
theorem ly.make {P:Program}{w:World}{K:PySem.W.Frag}{mg:Str->Option Value}{base:Heap}{A:Around}{outer:List Env}{s:Shared}{H:Hp}(e:ly P w K mg base A outer s H)(C:Addr)(us:List Value)(kw:List (Str×Value)):
  ly P w K mg base (A.under (.builtin "type.__call__" ⟨.ref C::us,kw⟩)) outer s H:=⟨by first | exact e.frames | (simpa [Around.under,Code.envs,Code.isFrame,pushEnvs] using e.frames),e.mod,e.bs,e.bsz,e.funs,e.frf,e.hok,e.bare⟩
section
variable {X:Cx}{pins:List (Addr×Obj)}{σ:St}{H:Hp}{s s':Shared}
theorem Inv.env0 (I:Inv X pins σ H s):ly X.prog X.w X.K X.mg X.base X.A X.stack s H:=
 ⟨I.ok.frames,I.ok.mod,I.bs,Nat.le_trans I.ok.bsz I.sz,I.stack,I.stkFree,I.hok,I.bare⟩
theorem Inv.after {Q:VK}{u:Value}(I:Inv X pins σ H s)(h:CE X.stack X.prog X.w H s Q u s'):EP X pins σ Q u s':=by
 obtain⟨v,H',os,bare,un,hok,r,q⟩:=h
 obtain⟨hh,g,d,t,os'⟩:=s'
 obtain rfl:os'=s.os:=os
 exact⟨v,H',I.call (h':=hh) (g':=g) (d':=d) (t':=t) (ch:=[]) un hok bare (fun b z=>absurd z (by simp)),r,q⟩
end
def Ds (sp:Sp)(dvs:List V)(E:XK)(t:TA):TE:=fun σ H Q=>t σ H fun vs H1=>sp (vs++dvs) H1 Q E
def xG (C:Addr)(m:Str)(sp:Sp)(dvs:List V)(E:XK)(ta:TE)(t:TA):TE:=fun σ H Q=>ta σ H fun x H1=>∃a dx fs,x=.ref a/\H1 a=some (.ins C dx fs)/\fs.lookup m=none /\
 t σ H1 fun vs H2=>sp (x::(vs++dvs)) H2 Q E
def Dw (C:Addr)(sp:Sp)(dvs:List V)(E:XK)(t:TA):TE:=fun σ H Q=>t σ H fun vs H1=>∀x dx,H1 x=none->H1 dx=none->dx≠x ->
 sp (.ref x::(vs++dvs)) (upd (upd H1 dx (.own x)) x (.ins C dx [])) (fun v H2=>v=.non/\Q (.ref x) H2) E
def Binds (K:PySem.W.Frag)(fd:FuncData)(ps:List Str)(ds:List Value):Prop:=
 ∀(s:Shared) (us:List Value),K.In s.heap->(us++ds).length=ps.length->BindsTo s fd ⟨us,[]⟩ (ps.zip (us++ds))
theorem Binds.all {K:PySem.W.Frag}{fd:FuncData}{ps:List Str}(h:∀us:List Value,us.length=ps.length->bindArgs fd ⟨us,[]⟩=pure (ps.zip us)):Binds K fd ps []:=fun s us _ hl=>by
 rw [List.append_nil] at hl ⊢
 exact .of_eq (h us hl)
def Passes (CX:sY)(X:Cx)(E:XK):Prop:=∀(pins:List (Addr×Obj)) (σ:St) (H:Hp) (s:Shared) (e:Value) (s':Shared),Inv X pins σ H s->CX X.stack H s E e s'->X.xe e s'
section
variable {X:Cx}{CX:sY}{k:Nat}{f C:Addr}{fd:FuncData}{ps:List Str}{sp:Sp}{dvs:List V}{ds:List Value}{E:XK}{x m:Str}{p pos apos:Pos}{e o:Expr}{es:List Expr}{ta:TE}{t:TA}
theorem my {pins:List (Addr×Obj)}{σ:St}{H:Hp}{s:Shared}{Q:VK}{us:List Value}{vs:List V}(F:dN X.prog X.w X.K X.mg X.base CX k f fd ps sp)(hr:br k X.A)(hb:Binds X.K fd ps ds)(hd:Vals dvs ds)(hx:Passes CX X E)
  (I:Inv X pins σ H s) (r:Vals vs us) (h:sp (vs++dvs) H Q E):wpAny (model X.prog X.w) X.A (call (.ref f) us) (EP X pins σ Q) X.xe s:=by
 have r2:Vals (vs++dvs) (us++ds):=r.append hd
 have hl:(us++ds).length=ps.length:=by rw [<- r2.length];exact F.len _ _ _ _ h
 refine wpAny_call (codeAny_mono (F.run X.A X.stack s H ⟨us,[]⟩ (us++ds) (vs++dvs) Q E hr I.env0 (hb s us I.kIn hl) r2 h) fun r s' hq=>?_)
 cases r with
 |error e=>exact hx pins σ H s e s' I hq
 |ok fl =>
  cases fl with
  |ret u=>exact I.after hq
  |next=>exact False.elim hq
  |brk=>exact False.elim hq
  |cont=>exact False.elim hq
theorem yT (F:dN X.prog X.w X.K X.mg X.base CX k f fd ps sp)(hr:br k X.A)(hg:Gl X x)(hm:X.mg x=some (.ref f))(hk:PySem.W.keepIn X.K (.ref f)=true)(hb:Binds X.K fd ps ds)(hd:Vals dvs ds)(hx:Passes CX X E)
  (ha:PA X (e::es) t) (hdb:(x == ("__debug__" : Str))=false:=by decide) (he:starEach (e::es) X.env=(false,eval e X.env)::starEach es X.env:=by rfl) (hpl:(backTo pos (starEach es X.env)).any (·.1)=false:=by rfl):
  PE X (.Call (.Name x p) (e::es) [] pos) (Ds sp dvs E t):=by
 intro pins s σ H Q I h
 refine wpAny_Call_Name_kw (eU I hg hm ?_ hdb)
 refine PySem.W.callWith_K (h₀:=X.base) I.ok.mod.kin hk (bM (ha pos pins s σ H _ I h) fun us s1 ⟨vs,H1,I1,r,q⟩=>⟨I1.kIn,?_⟩) he hpl
 exact my F hr hb hd hx I1 r q
theorem yW {pl:Sem Bool}(he:PE X o ta)(c:dA X.K C)(hm:Meth X.K C m f)(F:dN X.prog X.w X.K X.mg X.base CX k f fd ps sp)(hr:br k X.A)(hb:Binds X.K fd ps ds)(hd:Vals dvs ds)(hx:Passes CX X E)(ha:PA X (e::es) t)
  (hst:starEach (e::es) X.env=(false,eval e X.env)::starEach es X.env:=by rfl) (hpl:(backTo pos (starEach es X.env)).any (·.1)=false:=by rfl)
  (ht:eval (.Call (.Attribute o m apos) (e::es) [] pos) X.env=(do
   let ov <- eval o X.env
   standAt apos.atName
   let (f,first) <- holding [ov] (getMethod ov m pl)
   callWith pos f first (backTo pos (starEach (e::es) X.env)) (backToKw pos (keywordEach [] X.env))):=by rfl):
  PE X (.Call (.Attribute o m apos) (e::es) [] pos) (xG C m sp dvs E ta t):=by
 intro pins s σ H Q I h
 refine PySem.W.methodCall_KW (pl:=pl) (bM (he pins s σ H _ I h) fun u s1 ⟨x,H1,I1,rx,a,dx,fs,ex,ea,l,q⟩=>?_) ht
 subst ex
 obtain rfl:u=Value.ref a:=rx
 refine iX I1 ea c hm l ?_
 refine PySem.W.callWith_K (first:=[.ref a]) (h₀:=X.base) I.ok.mod.kin hm.kp (bM (ha pos pins s1 σ H1 _ I1 q) fun us s2 ⟨vs,H2,I2,r,q2⟩=>⟨I2.kIn,?_⟩) hst hpl
 exact my (us:=.ref a::us) (vs:=.ref a::vs) F hr hb hd hx I2 (.cons rfl r) q2
theorem xa {pl:Sem Bool}(he:PE X o ta)(c:dA X.K C)(hm:Meth X.K C m f)(F:dN X.prog X.w X.K X.mg X.base CX k f fd ps sp)(hr:br k X.A)(hb:Binds X.K fd ps ds)(hd:Vals dvs ds)(hx:Passes CX X E)
  (ht:eval (.Call (.Attribute o m apos) [] [] pos) X.env=(do
   let ov <- eval o X.env
   standAt apos.atName
   let (f,first) <- holding [ov] (getMethod ov m pl)
   callWith pos f first (backTo pos (starEach [] X.env)) (backToKw pos (keywordEach [] X.env))):=by rfl):
  PE X (.Call (.Attribute o m apos) [] [] pos) (xG C m sp dvs E ta Dy):=by
 intro pins s σ H Q I h
 refine PySem.W.methodCall_KW (pl:=pl) (bM (he pins s σ H _ I h) fun u s1 ⟨x,H1,I1,rx,a,dx,fs,ex,ea,l,q⟩=>?_) ht
 subst ex
 obtain rfl:u=Value.ref a:=rx
 refine iX I1 ea c hm l ?_
 exact PySem.W.callWith_K0 (first:=[.ref a]) I1.kIn hm.kp (my (us:=[.ref a]) (vs:=[.ref a]) F hr hb hd hx I1 (.cons rfl .nil) q)
structure Mk (K:PySem.W.Frag)(C f:Addr):Prop where
 makes:PySem.W.makesIn K C=true
 init:PySem.W.findIn K (.ref C) "__init__" = some (some (.ref f))
 fn:PySem.W.isFn K (.ref f)=true
 kp:PySem.W.keepIn K (.ref C)=true
theorem xp {pins:List (Addr×Obj)}{σ:St}{H:Hp}{s:Shared}{Q:VK}{us:List Value}{vs:List V}(M:Mk X.K C f)(F:dN X.prog X.w X.K X.mg X.base CX k f fd ps sp)(hr:br (k+1) X.A)(hb:Binds X.K fd ps ds)(hd:Vals dvs ds)
  (hx:Passes CX X E) (I:Inv X pins σ H s) (r:Vals vs us)
  (h:∀x dx,H x=none->H dx=none->dx≠x->sp (.ref x::(vs++dvs)) (upd (upd H dx (.own x)) x (.ins C dx [])) (fun v H2=>v=.non/\Q (.ref x) H2) E):
  wpAny (model X.prog X.w) X.A (call (.ref C) us) (EP X pins σ Q) X.xe s:=by
 have hq:=h (s.heap.objs.size+1) s.heap.objs.size (I.hok.fresh (Nat.le_succ _)) (I.hok.fresh (Nat.le_refl _)) (Nat.ne_of_lt (Nat.lt_succ_self _))
 have I2:=Inv.made (C:=C) I
 have r2:Vals (V.ref (s.heap.objs.size+1)::(vs++dvs)) (Value.ref (s.heap.objs.size+1)::(us++ds)):=.cons rfl (r.append hd)
 have hl:(Value.ref (s.heap.objs.size+1)::us++ds).length=ps.length:=by
  have e:=r2.length
  rw [F.len _ _ _ _ hq] at e
  exact e.symm
 refine wpAny_call (wU (f:=f) I.kIn M.makes M.init (beq_iff_eq.mp M.fn) (codeAny_mono (F.run _ X.stack _ _ ⟨Value.ref (s.heap.objs.size+1)::us,[]⟩ (Value.ref (s.heap.objs.size+1)::(us++ds)) _ _ E (hr.make C us [])
  (I2.env0.make C us []) (hb _ (Value.ref (s.heap.objs.size+1)::us) I2.kIn hl) r2 hq) fun r s' hq'=>?_))
 cases r with
 |error e=>exact hx pins σ _ _ e s' I2 hq'
 |ok fl =>
  cases fl with
  |ret u =>
   obtain⟨v,H',I3,rv,ev,q3⟩:=I2.after hq'
   subst ev
   exact⟨rv,⟨V.ref (s.heap.objs.size+1),H',I3,rfl,q3⟩⟩
  |next=>exact False.elim hq'
  |brk=>exact False.elim hq'
  |cont=>exact False.elim hq'
theorem yV (M:Mk X.K C f)(F:dN X.prog X.w X.K X.mg X.base CX k f fd ps sp)(hr:br (k+1) X.A)(hg:Gl X x)(hm:X.mg x=some (.ref C))(hb:Binds X.K fd ps ds)(hd:Vals dvs ds)(hx:Passes CX X E)
  (ha:PA X (e::es) t) (hdb:(x == ("__debug__" : Str))=false:=by decide) (he:starEach (e::es) X.env=(false,eval e X.env)::starEach es X.env:=by rfl) (hpl:(backTo pos (starEach es X.env)).any (·.1)=false:=by rfl):
  PE X (.Call (.Name x p) (e::es) [] pos) (Dw C sp dvs E t):=by
 intro pins s σ H Q I h
 refine wpAny_Call_Name_kw (eU I hg hm ?_ hdb)
 refine PySem.W.callWith_K (h₀:=X.base) I.ok.mod.kin M.kp (bM (ha pos pins s σ H _ I h) fun us s1 ⟨vs,H1,I1,r,q⟩=>⟨I1.kIn,?_⟩) he hpl
 exact xp M F hr hb hd hx I1 r q
end
section
variable {X:Cx}{CX:sY}{k:Nat}{f C:Addr}{fd:FuncData}{ps ks:List Str}{sp:Sp}{E:XK}{x m:Str}{p pos apos kpos:Pos}{e o:Expr}{es:List Expr}{kws:List Keyword}{te ta:TE}{t tk:TA}{nm:Option Str}
variable {g:List Value->List Value->List Value}{gV:List V->List V->List V}
end
structure aA (N P:List Str)(sc:Scope):Prop where
 kind:sc.kind=.function
 co:sc.isCoroutine=false
 gen:sc.isGenerator=false
 nd:N.Nodup
 pre:N.take P.length=P
 par:∀x∈P,sc.names.lookup x=some .local\/sc.names.lookup x=some .cell
 nofree:∀y∈sc.names,y.2≠.free
theorem ny {kindOf:Str->Option NameKind}{x:Str}:∀{binds:List (Str×Value)} {m:Str->Option Value},(∀v,(x,v)∉binds)->bindL kindOf binds m x=m x
 |[],_,_=>rfl
 |(n,v)::r,m,h=>by
  unfold bindL
  rw [ny fun w hw=>h w (List.mem_cons_of_mem _ hw)]
  split
  ·have:x≠n:=by rintro rfl;exact h v List.mem_cons_self
   simp [this]
  ·rfl
theorem nt {kindOf:Str->Option NameKind}{x:Str}:∀{binds:List (Str×Value)} {m:Str->Option Value},(∀v,(x,v)∉binds)->bindC kindOf binds m x=m x
 |[],_,_=>rfl
 |(n,v)::r,m,h=>by
  unfold bindC
  rw [nt fun w hw=>h w (List.mem_cons_of_mem _ hw)]
  split
  ·rfl
  ·have:x≠n:=by rintro rfl;exact h v List.mem_cons_self
   simp [this]
theorem nv {kindOf:Str->Option NameKind}{x:Str}{v:Value}:∀{P:List Str} {vs:List Value} {i:Nat} {m:Str->Option Value},P.Nodup->P[i]? = some x->vs[i]? = some v->kindOf x=some .local ->
  bindL kindOf (P.zip vs) m x=some v
 |[],_,_,_,_,h,_,_=>by simp at h
 |_::_,[],_,_,_,_,h,_=>by simp at h
 |p::P,w::vs,0,m,nd,h1,h2,hk=>by
  simp at h1 h2;subst h1;subst h2
  show bindL kindOf ((p,w)::P.zip vs) m p=_
  unfold bindL
  rw [ny fun v hv=>(List.nodup_cons.mp nd).1 (List.of_mem_zip hv).1,if_pos hk]
  simp
 |p::P,w::vs,i+1,m,nd,h1,h2,hk=>by
  show bindL kindOf ((p,w)::P.zip vs) m x=_
  unfold bindL
  exact nv (i:=i) (List.nodup_cons.mp nd).2 (by simpa using h1) (by simpa using h2) hk
theorem nq {kindOf:Str->Option NameKind}{x:Str}{v:Value}:∀{P:List Str} {vs:List Value} {i:Nat} {m:Str->Option Value},P.Nodup->P[i]? = some x->vs[i]? = some v->kindOf x≠some .local ->
  bindC kindOf (P.zip vs) m x=some v
 |[],_,_,_,_,h,_,_=>by simp at h
 |_::_,[],_,_,_,_,h,_=>by simp at h
 |p::P,w::vs,0,m,nd,h1,h2,hk=>by
  simp at h1 h2;subst h1;subst h2
  show bindC kindOf ((p,w)::P.zip vs) m p=_
  unfold bindC
  rw [nt fun v hv=>(List.nodup_cons.mp nd).1 (List.of_mem_zip hv).1,if_neg hk]
  simp
 |p::P,w::vs,i+1,m,nd,h1,h2,hk=>by
  show bindC kindOf ((p,w)::P.zip vs) m x=_
  unfold bindC
  exact nq (i:=i) (List.nodup_cons.mp nd).2 (by simpa using h1) (by simpa using h2) hk
def start (N:List Str)(vs:List V):St:=vs.map some++List.replicate (N.length-vs.length) none
def fF (CX:sY)(P:Program)(w:World)(K:PySem.W.Frag)(mg:Str->Option Value)(base:Heap)(N:List Str)(qual:Str)(scope:Scope)(f:Addr)(cd:Value)(A:Around)(outer:List Env)(s:Shared)(H:Hp)(E:XK):Cx where
 prog:=P
 w:=w
 K:=K
 mg:=mg
 base:=base
 A:=A.deeper (envOfC qual scope s.heap.objs.size f cd)
 N:=N
 Y8:=s
 Y9:=H
 env:=envOfC qual scope s.heap.objs.size f cd
 outer:=outer
 stack:=envOfC qual scope s.heap.objs.size f cd::outer
 ex:=[]
 calm:=true
 fn:=fun _=>true
 pn:=[]
 xe:=fun e s'=>wpAny (model P w) (A.deeper (envOfC qual scope s.heap.objs.size f cd)) (leaving (envOfC qual scope s.heap.objs.size f cd) e) (fun _ s''=>CX outer H s E e s'') (fun e' s''=>CX outer H s E e' s'') s'
theorem p7 {sc:Scope}{n:Nat}{x:Str}(h:sc.names.lookup x=some .cell):∃c,(cellsFrom n sc.names []).lookup x=some c:=by
 have q:=PySem.W.cellsFrom_some sc.names n [] (.inl h)
 exact Option.isSome_iff_exists.mp q
theorem nL {CX:sY}{P:Program}{w:World}{K:PySem.W.Frag}{mg:Str->Option Value}{base:Heap}{N ps:List Str}{qual:Str}{scope:Scope}{f:Addr}{cd:Value}{A:Around}{outer:List Env}{s s1:Shared}{H:Hp}{E:XK}{us:List Value}{vs:List V}
  (S:aA N ps scope) (hd:A.handled=none) (e0:ly P w K mg base A outer s H) (hl:vs.length=ps.length) (r:Vals vs us)
  (x:InCallC s s.heap.objs.size (bindL (envOfC qual scope s.heap.objs.size f cd).kindOf (ps.zip us) fun _=>none) (cellsFrom (s.heap.objs.size+1) scope.names []) (bindC (envOfC qual scope s.heap.objs.size f cd).kindOf (ps.zip us) fun _=>none) s1):
  Inv (fF CX P w K mg base N qual scope f cd A outer s H E) [] (start N vs) H s1:=by
 have hpl:ps.length≤N.length:=by have:=congrArg List.length S.pre;rw [List.length_take] at this;omega
 obtain⟨h1,tk,rfl,hk⟩:=x.done
 have noA:∀b:Addr,b∉(fF CX P w K mg base N qual scope f cd A outer s H E).ex:=fun b z=>absurd (show b∈([]:List Addr) from z) (by simp)
 refine⟨⟨e0.mod,S.kind,rfl,rfl,Nat.le_refl _,fun y z c h1 h2=>?_,fun y hy=>?_,fun y c _ h=>?_,fun _=>hd,Around.frames_deeper e0.frames,.inr ⟨rfl,rfl⟩,fun b z=>absurd z (noA b),e0.bs,e0.bsz,fun b _ _=>noA b,fun b z=>absurd z (noA b),e0.funs,e0.frf⟩,
  rfl,e0.bare,Un.kept hk,⟨_,x.toInCall.ns,fun i y v h1 h2 h3=>?_⟩,fun y c h=>⟨_,x.cell y c h⟩,e0.hok.fresh (Nat.le_refl _),fun y c h=>?_,fun p hp=>absurd (show p∈([]:List (Addr×Obj)) from hp) (by simp),e0.hok.kept hk,?_⟩
 ·exact name_of_addr x.apart (PySem.mem_of_lookup h1) (PySem.mem_of_lookup h2)
 ·have hy:scope.names.lookup y=some .cell\/scope.names.lookup y=some .free:=hy
  rcases hy with hy | hy
  ·exact p7 hy
  ·exact absurd rfl (S.nofree _ (PySem.mem_of_lookup hy))
 ·exact Nat.le_of_lt (x.above y c (PySem.mem_of_lookup h))
 ·have hi:i<vs.length:=by
   unfold start at h2
   by_cases hi:i<vs.length
   ·exact hi
   ·rw [List.getElem?_append_right (by simpa using hi)] at h2
    rw [List.getElem?_replicate] at h2
    split at h2<;>cases h2
  have ha:vs[i]? = some v:=by
   unfold start at h2
   rw [List.getElem?_append_left (by simpa using hi),List.getElem?_map] at h2
   cases e:vs[i]? with
   |none=>rw [e] at h2;cases h2
   |some a=>rw [e] at h2;cases h2;rfl
  obtain⟨u,hu,rv⟩:=r.get ha
  have hp:ps[i]? = some y:=by
   rw [<- S.pre,List.getElem?_take_of_lt (by omega)];exact h1
  have ndP:ps.Nodup:=by rw [<- S.pre];exact S.nd.sublist (List.take_sublist _ _)
  refine⟨u,rv,?_⟩
  rcases S.par y (List.mem_of_getElem? hp) with k | k
  ·exact .inl ⟨k,nv ndP hp hu k⟩
  ·obtain⟨c,e⟩:=p7 (n:=s.heap.objs.size+1) k
   refine .inr ⟨.inl k,c,e,?_⟩
   have q:=x.cell y c e
   rw [nq ndP hp hu (by show scope.names.lookup y≠_;rw [k];decide)] at q
   exact q
 ·exact e0.hok.fresh (Nat.le_of_lt (x.above y c (PySem.mem_of_lookup h)))
 ·unfold start
  show _=N.length
  rw [List.length_append,List.length_map,List.length_replicate]
  omega
theorem we {CX:sY}{P:Program}{w:World}{K:PySem.W.Frag}{mg:Str->Option Value}{base:Heap}{k:Nat}{f:Addr}{name qual:Str}{params:Arguments}{body:List Stmt}{scope:Scope}{dV kV doc pm cdv ct oc:Value}{an od:Option Addr}
  {osl:Array (Option Value)} {N ps:List Str} {sp:Sp} (lk:K.lookup f=some ⟨oc,od,.func (PySem.W.fnOf name qual params body scope dV kV doc pm an cdv ct),osl⟩) (hcd:PySem.W.codeIn K cdv qual=true) (S:aA N ps scope)
  (len:∀vs H Q E,sp vs H Q E->vs.length=ps.length)
  (hbody:∀(A:Around) (outer:List Env) (s:Shared) (H:Hp) (vs:List V) (Q:VK) (E:XK),br k (A.deeper (envOfC qual scope s.heap.objs.size f cdv))->sp vs H Q E ->
   ∃t,kH (fF CX P w K mg base N qual scope f cdv A outer s H E) body t/\t { nx:=fun _ H'=>Q .non H',rt:=Q } (start N vs) H):
  dN P w K mg base CX (k+1) f (PySem.W.fnOf name qual params body scope dV kV doc pm an cdv ct) ps sp:=by
 refine⟨len,fun A outer s H args us vs Q E hr e0 hb r hsp=>?_⟩
 have hl:=len _ _ _ _ hsp
 have KX:K.In s.heap:=e0.mod.kin.keeps fun b o e=>(e0.bs b o e).1
 have lim:s.heap.NoLimit:=e0.mod.nolimit.keeps fun b o e=>(e0.bs b o e).1
 have hkind:∀y∈ps.zip us,scope.names.lookup y.1=some .local\/(scope.names.lookup y.1=some .cell/\((cellsFrom (s.heap.objs.size+1) scope.names []).lookup y.1).isSome=true):=fun⟨n,v⟩ hy=>by
  rcases S.par n (List.of_mem_zip hy).1 with q | q
  ·exact .inl q
  ·exact .inr ⟨q,PySem.W.cellsFrom_some _ _ _ (.inl q)⟩
 refine codeAny_call_function hr.depth (KX _ _ lk) rfl S.co S.gen rfl (PySem.W.codeRec_of KX hcd) (hb _ _ _ _ ?_)
 refine wpAny_newFunctionEnv_cells S.kind hkind fun env he s1 x=>?_
 subst he
 refine⟨lim.keeps x.toInCall.keep,codeAny_func ?_⟩
 obtain⟨t,ht,hq⟩:=hbody A outer s H vs Q E (hr.deeper _) hsp
 have I:Inv (fF CX P w K mg base N qual scope f cdv A outer s H E) [] (start N vs) H s1:=nL S hr.hd e0 hl r x
 refine wpAny_mono (ht [] s1 (start N vs) H _ I hq) (fun fl s' hs=>?_) fun e s' hs=>hs
 have fin:∀{σ':St} {H':Hp} {v:V} {u:Value},Inv (fF CX P w K mg base N qual scope f cdv A outer s H E) [] σ' H' s'->RelV v u->Q v H'->CE outer P w H s Q u s':=
  fun {σ' H' v u} J rv q=>⟨v,H',J.os,J.bare,J.base,J.hok,rv,q⟩
 cases fl with
 |ret u =>
  obtain⟨v,σ',H',J,rv,q⟩:=hs
  exact fin J rv q
 |next =>
  obtain⟨σ',H',J,q⟩:=hs
  exact fin (v:=V.non) (u:=Value.none) J rfl q
 |brk =>
  obtain⟨_,_,_,q⟩:=hs
  exact False.elim q
 |cont =>
  obtain⟨_,_,_,q⟩:=hs
  exact False.elim q
section
variable {X:Cx}{x:Str}{p pos:Pos}{e:Expr}{es:List Expr}{t:TA}{id T:String}{r:List V->Hp->VK->Prop}
def Fm (r:List V->Hp->VK->Prop)(t:TA):TE:=fun σ H Q=>t σ H fun vs H1=>r vs H1 Q
theorem mr (hc:eM X (.builtin id) r)(hg:Gl X x)(hm:X.mg x=none)(hv:bootBuiltins x=some (.builtin id))(ha:PA X (e::es) t)(hn:x≠"__name__" := by decide)(hdb:(x == ("__debug__" : Str))=false:=by decide)
  (he:starEach (e::es) X.env=(false,eval e X.env)::starEach es X.env:=by rfl) (hpl:(backTo pos (starEach es X.env)).any (·.1)=false:=by rfl):PE X (.Call (.Name x p) (e::es) [] pos) (Fm r t):=by
 intro pins s σ H Q I h
 refine wpAny_Call_Name_kw (pq I hg hm hv ?_ hn hdb)
 exact PyProof.Rows.callWith_builtin1 (bM (ha pos pins s σ H _ I h) fun us s1 ⟨vs,H1,I1,r1,q1⟩=>hc pins s1 σ H1 vs us Q I1 r1 q1) he hpl
theorem vf (hc:eM X (.type T) r)(hg:Gl X x)(hm:X.mg x=none)(hv:bootBuiltins x=some (.type T))(ha:PA X (e::es) t)(hn:x≠"__name__" := by decide)(hdb:(x == ("__debug__" : Str))=false:=by decide)
  (he:starEach (e::es) X.env=(false,eval e X.env)::starEach es X.env:=by rfl) (hpl:(backTo pos (starEach es X.env)).any (·.1)=false:=by rfl):PE X (.Call (.Name x p) (e::es) [] pos) (Fm r t):=by
 intro pins s σ H Q I h
 refine wpAny_Call_Name_kw (pq I hg hm hv ?_ hn hdb)
 exact PyProof.Rows.callWith_type1 (bM (ha pos pins s σ H _ I h) fun us s1 ⟨vs,H1,I1,r1,q1⟩=>hc pins s1 σ H1 vs us Q I1 r1 q1) he hpl
end
end L2
namespace HT
open PySem PyProof.Rows
section
open PySem.SeqAt
open PySem.AutoSeq1 (wpAny_loadPart')
open PySem.MeetsSeq PySem.MeetsSeq2 PySem.MeetsSeq3
end
section
variable {prog:Program}{w:World}{A:Around}{E:Value->Shared->Prop}{s:Shared}
theorem ye {t b:Addr}{vs ws:List Value}{Q:Value->Shared->Prop}(ht:IsTup s.heap t vs.toArray)(hb:IsTup s.heap b ws.toArray)(hv:vs≠[])
  (h1:ws=[]->Q (.ref t) s) (h2:ws≠[]->Q (.ref s.heap.objs.size) { s with heap:=s.heap.push { cls:=.type "tuple", data:=.seq (vs++ws).toArray } })
  (hsz:vs.length+ws.length≤sizeLine):wpAny (model prog w) A (binaryOp .Add (.ref t) (.ref b)) Q E s:=by
 obtain⟨⟨cls,dd,data,sl⟩,ho,hc,n,hd⟩:=id ht
 obtain⟨⟨cls2,dd2,data2,sl2⟩,ho2,hc2,n2,hd2⟩:=id hb
 simp only at hc hd hc2 hd2
 subst hc hd hc2 hd2
 have e:vs.toArray++ws.toArray=(vs++ws).toArray:=by simp
 by_cases hw:ws=[]
 ·exact concat_meets ⟨_,ho,rfl⟩ ⟨_,ho2,rfl⟩ noFill_tuple_add seq_tuple_add PySem.F.slot_tuple_add PySem.F.entry_tuple_add (PySem.F.args_tuple_add_2 _ _)
   (tuple_addW1 t b vs.toArray ws.toArray n n2 dd dd2 sl sl2 (by simpa using hv) (by simp [hw])) ⟨ho,ho2,h1 hw⟩
 ·refine concat_meets ⟨_,ho,rfl⟩ ⟨_,ho2,rfl⟩ noFill_tuple_add seq_tuple_add PySem.F.slot_tuple_add PySem.F.entry_tuple_add (PySem.F.args_tuple_add_2 _ _)
   (tuple_addW2 t b vs.toArray ws.toArray n n2 dd dd2 sl sl2 (by simpa using hv) (by simpa using hw) (by rw [List.size_toArray,List.size_toArray];exact hsz)) ⟨ho,ho2,?_⟩
  rw [e]
  exact h2 hw
def Dg (n d:Nat):Option Int->Nat
 |none=>d
 |some v=>if v<0 then (v+(n:Int)).toNat else min v.toNat n
end
end HT
namespace L2
open PySem PySem.Spec PyProof.Rows
section
variable {X:Cx}{e:Expr}{te:TE}{lo hi:Option Expr}{tl th:TO}{pos p2:Pos}
def Dc (K:PySem.W.Frag):R2:=fun x y H Q=>∃a b xs ys,x=.ref a/\y=.ref b/\kW K H a xs/\kW K H b ys/\xs≠[]/\xs.length+ys.length≤sizeLine /\
 (ys=[]->Q (.ref a) H)/\(ys≠[]->∀p,H p=none->Q (.ref p) (upd H p (.tup (xs++ys))))
theorem Vals.nil_iff {xs:List V}{us:List Value}(r:Vals xs us):us=[] ↔ xs=[]:=by
 cases r with
 |nil=>simp
 |cons _ _=>simp
theorem yN:lE X (binaryOp .Add) (Dc X.K):=by
 intro pins s σ H x y v u Q I rx ry h
 obtain⟨a,b,xs,ys,rfl,rfl,ha,hb,hx,hz,q1,q2⟩:=h
 cases rx
 cases ry
 obtain⟨its,r1,p1,_⟩:=I.tuple ha
 obtain⟨its2,r2,p2,_⟩:=I.tuple hb
 refine HT.ye p1 p2 (fun z=>hx (r1.nil_iff.mp z)) (fun z=>⟨.ref a,H,I,rfl,q1 (r2.nil_iff.mp z)⟩) (fun z=>?_) (by rw [<- r1.length,<- r2.length];exact hz)
 refine⟨.ref s.heap.objs.size,_,I.laid (t':=s.toks) (o:=.tup (xs++ys)) (fun b ob q=>Heap.get?_push_of_some _ q) (Nat.le_refl _) ?_,rfl,q2 (fun w=>z (r2.nil_iff.mpr w)) _ (I.hok.fresh (Nat.le_refl _))⟩
 exact⟨by rw [List.length_append];exact hz,_,r1.append r2,IsTup.new _ _⟩
end
def wI (n:Nat)(i:Int):Option Nat:=if 0≤i then (if i<n then some i.toNat else none) else if -(n:Int)≤i then some (i+n).toNat else none
def mO {α:Type}(xs:List α)(i:Int):Option α:=(wI xs.length i).bind fun j=>xs[j]?
theorem yz {n:Nat}{i:Int}{j:Nat}(h:wI n i=some j):seqIndex? i n=some j/\j<n /\ -(n:Int)≤i/\i<n:=by
 unfold wI at h
 by_cases h0:0≤i
 ·rw [if_pos h0] at h
  by_cases h1:i<n
  ·rw [if_pos h1] at h
   have e:i.toNat=j:=Option.some.inj h
   exact⟨by rw [seqIndex_of h0 h1,e],by omega,by omega,h1⟩
  ·rw [if_neg h1] at h;cases h
 ·rw [if_neg h0] at h
  by_cases h1 : -(n:Int)≤i
  ·rw [if_pos h1] at h
   have e:(i+n).toNat=j:=Option.some.inj h
   exact⟨by rw [seqIndex_neg (by omega) h1,e],by omega,h1,by omega⟩
  ·rw [if_neg h1] at h;cases h
theorem n5 {α:Type}{xs:List α}{i:Int}{v:α}(h:mO xs i=some v):∃j,seqIndex? i xs.length=some j/\xs[j]? = some v/\j<xs.length /\ -(xs.length:Int)≤i/\i<xs.length:=by
 unfold mO at h
 cases e:wI xs.length i with
 |none=>rw [e] at h;cases h
 |some j =>
  rw [e] at h
  obtain⟨h1,h2,h3,h4⟩:=yz e
  exact⟨j,h1,h,h2,h3,h4⟩
theorem ya {α:Type}{xs:List α}{j:Nat}{v:α}(h:xs[j]? = some v):mO xs (j:Int)=some v:=by
 have hj:j<xs.length:=(List.getElem?_eq_some_iff.mp h).1
 have e:wI xs.length (j:Int)=some j:=by
  unfold wI
  rw [if_pos (by omega),if_pos (by omega)];simp
 unfold mO;rw [e];exact h
def tf (b:Expr):Prop:=∀o i,subscripted b false o i=operate [o,i] (getItem o i)
def BG (X:Cx)(r:R2):Prop:=
 ∀(value slice:Expr) (pins:List (Addr×Obj)) (s:Shared) (σ:St) (H:Hp) (x y:V) (v u:Value) (Q:VK),Inv X pins σ H s->RelV x v->RelV y u->r x y H Q ->
  subscripted slice false v u=operate [v,u] (getItem v u)->wpAny (model X.prog X.w) X.A (subscriptTail value slice v u) (EP X pins σ Q) X.xe s
def DI (X:Cx)(id:String)(r:V->List V->Hp->VK->Prop):Prop:=
 ∀(pins:List (Addr×Obj)) (s:Shared) (σ:St) (H:Hp) (x:V) (xs:List V) (v:Value) (us:List Value) (Q:VK),Inv X pins σ H s->RelV x v->Vals xs us->r x xs H Q ->
  wpAny (model X.prog X.w) X.A (call (.builtin id) (v::us)) (EP X pins σ Q) X.xe s
section
variable {X:Cx}{a b:Expr}{ta tb:TE}{pos:Pos}
theorem C5 {r:R2}(hr:BG X r)(ha:PE X a ta)(hb:PE X b tb)(hs:tf b):PE X (.Subscript a b pos) (DA r ta tb):=by
 intro pins s σ H Q I h
 exact Subscript_ (zW ha hb I h fun v u s2 x y H2 I2 rx ry q=>hr a b pins s2 σ H2 x y v u Q I2 rx ry q (hs _ _))
def EA (K:PySem.W.Frag):R2:=fun x y H Q=>∃p xs i v,x=.ref p/\y=.int i/\iK K H p xs/\mO xs i=some v/\Q v H
def EC (K:PySem.W.Frag):R2:=fun x y H Q=>∃p xs i v,x=.ref p/\y=.int i/\kW K H p xs/\mO xs i=some v/\Q v H
def EB:R2:=fun x y H Q=>∃z i c,x=.str z/\y=.int i/\z.length≤sizeLine/\mO z.cps.toList i=some c/\Q (.str ⟨#[c]⟩) H
theorem tY:BG X (EA X.K):=by
 intro value slice pins s σ H x y v u Q I rx ry h hs
 obtain⟨p,xs,i,z,rfl,rfl,hq,he,q⟩:=h
 cases rx
 obtain⟨t,rfl⟩:=ry
 obtain⟨its,r,pl,hz⟩:=I.list hq
 obtain⟨j,h1,h2,h3,h4,h5⟩:=n5 he
 obtain⟨w,ew,rw'⟩:=r.get h2
 have hl:=r.length
 have hn:=jV
 have fin:EP X pins σ Q w s:=⟨z,H,I,rw',q⟩
 by_cases h0:0≤i
 ·have hj:i.toNat=j:=by
   rw [seqIndex_of h0 h5] at h1
   exact Option.some.inj h1
  exact item_listR pl.isList h0 (by omega) (by rw [hj];simpa using ew) fin hs
 ·have hj:(i+(its.toArray.size:Int)).toNat=j:=by
   rw [seqIndex_neg (by omega) h4] at h1
   rw [List.size_toArray,<- hl]
   exact Option.some.inj h1
  exact subscriptTail_builtinR (x:=w) pl.isList.typeIs slot_list_getitem.lookup
   (wpAny_getItem_list_neg (Q:=fun r s'=>r=w/\EP X pins σ Q r s') pl.isList (by omega) (by rw [List.size_toArray]<;>omega) (by omega) (by rw [hj];simpa using ew) ⟨rfl,fin⟩) hs
theorem AN:BG X (EC X.K):=by
 intro value slice pins s σ H x y v u Q I rx ry h hs
 obtain⟨p,xs,i,z,rfl,rfl,hq,he,q⟩:=h
 cases rx
 obtain⟨t,rfl⟩:=ry
 obtain⟨its,r,pl,hz⟩:=I.tuple hq
 obtain⟨j,h1,h2,h3,h4,h5⟩:=n5 he
 obtain⟨w,ew,rw'⟩:=r.get h2
 have hl:=r.length
 have hn:=jV
 have fin:EP X pins σ Q w s:=⟨z,H,I,rw',q⟩
 exact subscriptTail_builtinR (x:=w) pl.typeIs slot_tuple_getitem.lookup
  (getItem_tuple (j:=j) (Q:=fun r s'=>r=w/\EP X pins σ Q r s') pl (by omega) (by omega) (by rw [List.size_toArray,<- hl];exact h1) (by simpa using ew) ⟨rfl,fin⟩) hs
theorem AL:BG X EB:=by
 intro value slice pins s σ H x y v u Q I rx ry h hs
 obtain⟨z,i,c,rfl,rfl,hz,he,q⟩:=h
 obtain⟨t,rfl⟩:=rx
 obtain⟨t',rfl⟩:=ry
 obtain⟨j,h1,h2,h3,h4,h5⟩:=n5 he
 have hl:z.cps.toList.length=z.length:=by simp [Str.length]
 rw [hl] at h1 h4 h5
 have hn:=jV
 exact tail_any (typeIs_str s z t) slot_str_getitem.lookup (getItem_str (c:=c) (by
  have e1:decide (i < -(2^63:Int))=false:=decide_eq_false (by omega)
  have e2:decide (i≥2^63)=false:=decide_eq_false (by omega)
  rw [e1,e2,Bool.or_false]) (by rw [h1];simpa using h2) ⟨.str ⟨#[c]⟩,H,I.tok _,⟨_,rfl⟩,q⟩) hs
theorem n9:eM X (.builtin "len") (fun xs H Q=>∃p ys,xs=[.ref p]/\(iK X.K H p ys\/kW X.K H p ys)/\Q (.int ys.length) H):=by
 intro pins s σ H xs us Q I r h
 obtain⟨p,ys,rfl,hq,q⟩:=h
 obtain⟨u,rfl,rx⟩:=vals1 r
 cases rx
 have hn:=jV
 rcases hq with hq | hq
 ·obtain⟨its,r',pl,hz⟩:=I.list hq
  have hlen:=r'.length
  exact Calls.call_len_list pl.isList (by simp only [List.size_toArray]<;>omega) ⟨.int ys.length,H,I.tok _,⟨s.toks+1,by rw [List.size_toArray,hlen]⟩,q⟩
 ·obtain⟨its,r',pl,hz⟩:=I.tuple hq
  have hlen:=r'.length
  exact len_tuple pl (by simp only [List.size_toArray]<;>omega) ⟨.int ys.length,H,I.tok _,⟨s.toks+1,by rw [List.size_toArray,hlen]⟩,q⟩
theorem oa:eM X (.builtin "len") (fun xs H Q=>∃z,xs=[.str z]/\z.length≤sizeLine/\Q (.int z.length) H):=by
 intro pins s σ H xs us Q I r h
 obtain⟨z,rfl,hz,q⟩:=h
 obtain⟨u,rfl,t,rfl⟩:=vals1 r
 have hn:=jV
 exact len_str (by omega) ⟨.int z.length,H,I.tok _,⟨_,rfl⟩,q⟩
theorem eM.or {f:Value}{r r':List V->Hp->VK->Prop}(h:eM X f r)(h':eM X f r'):eM X f (fun xs H Q=>r xs H Q\/r' xs H Q):=by
 intro pins s σ H xs us Q I rs q
 rcases q with q | q
 ·exact h pins s σ H xs us Q I rs q
 ·exact h' pins s σ H xs us Q I rs q
theorem mT:eM X (.type "tuple") (fun xs H Q=>∃p ys,xs=[.ref p]/\((iK X.K H p ys/\∀l,H l=none->Q (.ref l) (upd H l (.tup ys)))\/(kW X.K H p ys/\Q (.ref p) H))):=by
 intro pins s σ H xs us Q I r h
 obtain⟨p,ys,rfl,h⟩:=h
 obtain⟨u,rfl,rx⟩:=vals1 r
 cases rx
 rcases h with ⟨hq,q⟩ | ⟨hq,q⟩
 ·obtain⟨its,r',pl,hz⟩:=I.list hq
  have hlen:=r'.length
  refine call_tuple_list pl.isList (fun h' kp=>?_) (by simp only [List.size_toArray]<;>omega)
  have I1:Inv X pins σ H { s with heap:=h' }:=I.kept (t':=s.toks) kp
  have I2:Inv X pins σ (upd H h'.objs.size (.tup ys)) { s with heap:=h'.push { cls:=.type "tuple", data:=.seq its.toArray } }:=
   I1.laid (t':=s.toks) (fun b o e=>Heap.get?_push_of_some _ e) (Nat.le_refl _) (show bO X.prog X.w _ _ _ (.tup ys) from ⟨hz,its,r',IsTup.new _ _⟩)
  exact⟨.ref h'.objs.size,_,I2,rfl,q _ (I1.hok.fresh (Nat.le_refl _))⟩
 ·obtain⟨its,r',pl,hz⟩:=I.tuple hq
  exact call_tuple_same pl ⟨.ref p,H,I,rfl,q⟩
def EU (K:PySem.W.Frag)(T:String)(x:V)(H:Hp):Prop:=match x with
 | .str _=>T = "str"
 | .int _=>T = "int"
 | .ref p=>(T = "list"/\∃xs,iK K H p xs)\/(T = "tuple"/\∃o,K.lookup p=some o/\o.cls=.type "tuple"/\o.dict=none) \/
   (T = "dict"/\((∃kvs,H p=some (.dK kvs))\/∃kvs,H p=some (.dT kvs)))\/(T = "set"/\∃S n,H p=some (.set S n))
 |_=>False
theorem xQ {pins:List (Addr×Obj)}{σ:St}{H:Hp}{s:Shared}{T:String}{x:V}{v:Value}(I:Inv X pins σ H s)(r:RelV x v)(ty:EU X.K T x H):
  s.TypeIs v T/\∀a,v=.ref a->∃ob,s.heap.get? a=some ob/\ob.dict=none:=by
 cases x with
 |str z =>
  obtain⟨t,rfl⟩:=r
  cases (show T = "str" from ty)
  exact⟨typeIs_str s z t,fun _ e=>nomatch e⟩
 |int i =>
  obtain⟨t,rfl⟩:=r
  cases (show T = "int" from ty)
  exact⟨typeIs_int s i t,fun _ e=>nomatch e⟩
 |ref p =>
  cases r
  rcases ty with ⟨rfl,xs,hq⟩ | ⟨rfl,o,hk,hc,hd⟩ | ⟨rfl,hk⟩ | ⟨rfl,S,n,hk⟩
  ·obtain⟨its,_,pl,_⟩:=I.list hq
   refine⟨pl.isList.typeIs,fun a e=>?_⟩
   cases e
   obtain⟨o,n,e,c,hd,_⟩:=pl
   exact⟨o,e,hd⟩
  ·refine⟨⟨o,I.kIn p o hk,hc⟩,fun a e=>?_⟩
   cases e
   exact⟨o,I.kIn _ o hk,hd⟩
  ·have z:∃o,s.heap.get? p=some o/\o.ExactDict:=by
    rcases hk with ⟨kvs,hk⟩ | ⟨kvs,hk⟩
    ·obtain⟨_,_,_,_,o,_,_,e,ex,_⟩:=I.hok p _ hk
     exact⟨o,e,ex⟩
    ·obtain⟨_,_,_,_,o,_,_,e,ex,_⟩:=I.hok p _ hk
     exact⟨o,e,ex⟩
   obtain⟨o,e,ex⟩:=z
   refine⟨⟨o,e,ex.1⟩,fun a e2=>?_⟩
   cases e2
   exact⟨o,e,ex.2.1⟩
  ·obtain⟨o,_,_,_,e,ex,_⟩:=I.hok p _ hk
   refine⟨⟨o,e,ex.1⟩,fun a e2=>?_⟩
   cases e2
   exact⟨o,e,ex.2.1⟩
 |_=>exact False.elim ty
def EH (K:PySem.W.Frag)(T:String)(r:V->List V->Hp->VK->Prop)(to:TE):TE:=fun σ H Q=>to σ H fun x H1=>EU K T x H1/\r x [] H1 Q
def Gh (K:PySem.W.Frag)(T:String)(r:V->List V->Hp->VK->Prop)(to:TE)(t:TA):TE:=fun σ H Q=>to σ H fun x H1=>EU K T x H1/\t σ H1 fun xs H2=>r x xs H2 Q
variable {o e:Expr}{es:List Expr}{to:TE}{t:TA}{name:Str}{apos cpos:Pos}{T id:String}{r:V->List V->Hp->VK->Prop}
theorem A6 (pa:PlainAttrs T)(slot:Slot T name id)(hty:typeOf (.builtin id)=pure (.type "method_descriptor"))(hm:DI X id r)(ho:PE X o to)
  (hbase:attributeBase o name X.env (eval o X.env)=eval o X.env:=by rfl) (hline:(apos.endLine == cpos.line)=true:=by rfl):PE X (.Call (.Attribute o name apos) [] [] cpos) (EH X.K T r to):=by
 intro pins s σ H Q I h
 refine wpAny_Call_method0_late hbase hline (bM (ho pins s σ H _ I h) fun v s1 ⟨x,H1,I1,r1,ty,q1⟩=>?_)
 obtain⟨h1,h2⟩:=xQ I1 r1 ty
 exact⟨T,id,pa,slot,hty,h1,h2,Calls.callWith_builtin rfl (PySem.evalArgs_none (hm pins s1 σ H1 x [] v [] Q I1 r1 .nil q1))⟩
theorem C4 (pa:PlainAttrs T)(slot:Slot T name id)(hty:typeOf (.builtin id)=pure (.type "method_descriptor"))(hm:DI X id r)(ho:PE X o to)(ha:PA X (e::es) t)
  (hbase:attributeBase o name X.env (eval o X.env)=eval o X.env:=by rfl)
  (hfew:((backTo cpos (starEach (e::es) X.env)).all (fun x=>!x.1)&&(backToKw cpos (keywordEach [] X.env)).all (fun x=>x.1.isSome)
   && decide ((e::es).length+([]:List Keyword).length+(if ([]:List Keyword).isEmpty then 0 else 1)<30))=true:=by rfl)
  (hline:(apos.endLine == cpos.line)=true:=by rfl) (hs:starEach (e::es) X.env=(false,eval e X.env)::starEach es X.env:=by rfl) (hplain:(backTo cpos (starEach es X.env)).any (·.1)=false:=by rfl):
  PE X (.Call (.Attribute o name apos) (e::es) [] cpos) (Gh X.K T r to t):=by
 intro pins s σ H Q I h
 refine wpAny_Call_method_late hbase hfew hline rfl (bM (ho pins s σ H _ I h) fun v s1 ⟨x,H1,I1,r1,ty,q1⟩=>?_)
 obtain⟨h1,h2⟩:=xQ I1 r1 ty
 refine⟨T,id,pa,slot,hty,h1,h2,?_⟩
 have hA:=ha cpos pins s1 σ H1 _ I1 q1
 rw [hs] at hA ⊢
 refine Calls.callWith_builtin (by show (false||(backTo cpos (starEach es X.env)).any (·.1))=false;rw [hplain]<;>rfl) (Calls.evalArgs_plain ?_)
 exact bM hA fun us s2 ⟨vs,H2,I2,r2,q2⟩=>hm pins s2 σ H2 x vs v us Q I2 r1 r2 q2
/- xs.append(e),list.index on a module's tuple .. are DI facts of 06m -/
end
def Fx (X:Cx)(id:String)(r:V->List V->Hp->VK->Prop):Prop:=
 ∀(pins:List (Addr×Obj)) (s:Shared) (σ:St) (H:Hp) (x:V) (xs:List V) (v:Value) (us:List Value) (Q:VK),Inv X pins σ H s->RelV x v->Vals xs us->r x xs H Q ->
  wpAny (model X.prog X.w) X.A (call (.builtin id) (v::us)) (EP X pins σ Q) X.xe s
theorem Vals.one:∀{x:V} {us:List Value},Vals [x] us->∃u,us=[u]/\RelV x u
 |_,_,.cons r .nil=>⟨_,rfl,r⟩
theorem Vals.two:∀{x y:V} {us:List Value},Vals [x,y] us->∃u v,us=[u,v]/\RelV x u/\RelV y v
 |_,_,_,.cons r (.cons q .nil)=>⟨_,_,rfl,r,q⟩
theorem Vals.zero:∀{us:List Value},Vals [] us->us=[]
 |_,.nil=>rfl
theorem Vals.rep {xs:List V}{us:List Value}(h:Vals xs us):∀k:Nat,Vals (List.replicate k xs).flatten (List.replicate k us).flatten
 |0=>.nil
 |k+1=>by
  rw [List.replicate_succ,List.replicate_succ,List.flatten_cons,List.flatten_cons]
  exact Vals.append h (Vals.rep h k)
theorem foldl_rep (its:List Value):∀(k:Nat) (acc:List Value),
  List.foldl (fun x1 x2=>x1++x2) acc.toArray (List.replicate k its.toArray)=(acc++(List.replicate k its).flatten).toArray
 |0,acc=>by simp
 |k+1,acc=>by
  have e:acc.toArray++its.toArray=(acc++its).toArray:=by simp
  have e2:(acc++its)++(List.replicate k its).flatten=acc++(List.replicate (k+1) its).flatten:=by
   rw [List.replicate_succ,List.flatten_cons,List.append_assoc]
  rw [<- e2,<- foldl_rep its k (acc++its),<- e,List.replicate_succ,List.foldl_cons]
section
variable {X:Cx}{pins:List (Addr×Obj)}{σ:St}{H:Hp}{s:Shared}{l b:Addr}{xs ys zs:List V}
theorem Inv.lset {its its':List Value}{n:Nat}{f:Array Value->Array Value}{t':Nat}(I:Inv X pins σ H s)(hH:H l=some (.lst xs))
  (e:s.heap.get? l=some { cls:=.type "list", data:=.seq its.toArray n }) (hf:f its.toArray=its'.toArray) (hv:Vals ys its') (hz:ys.length≤sizeLine):
  Inv X pins σ (upd H l (.lst ys)) { s with heap:=s.heap.update l (Obj.mapSeq f),toks:=t' }:=by
 have q:=PySem.IsL.update e f
 rw [hf] at q
 refine I.write (x:=l) (e:=l) (by rw [hH];exact trivial) (.inl rfl) (fun b' u hb hu=>(Heap.get?_update_other s.heap (Obj.mapSeq f) (Ne.symm hb)).trans hu) ⟨_,q⟩ ?_
 exact⟨hz,its',_,hv,q⟩
theorem Inv.lnew {its:List Value}{t':Nat}(I:Inv X pins σ H s)(hv:Vals ys its)(hz:ys.length≤sizeLine):
  Inv X pins σ (upd H s.heap.objs.size (.lst ys)) { s with heap:=s.heap.push { cls:=.type "list", data:=.seq its.toArray },toks:=t' }:=
 I.laid (fun _ _ q=>Heap.get?_push_of_some _ q) (Nat.le_refl _) ⟨hz,its,0,hv,Heap.get?_push_size _ rfl⟩
theorem Inv.fresh (I:Inv X pins σ H s):H s.heap.objs.size=none:=I.hok.fresh (Nat.le_refl _)
theorem Inv.lstM (I:Inv X pins σ H s)(hH:H l=some (.lst xs)):xs.length≤sizeLine/\∃(its:List Value) (n:Nat),Vals xs its/\xs.length=its.length/\s.heap.get? l=some { cls:=.type "list", data:=.seq its.toArray n }:=by
 obtain⟨z,its,n,r,e⟩:=I.hok l _ hH
 exact⟨z,its,n,r,r.length,e⟩
theorem wX {n:Nat}(h:n≤sizeLine):Builtin.List.listTooLong n=false:=by
 unfold Builtin.List.listTooLong
 exact decide_eq_false (by omega)
end
section
variable {X:Cx}
def zd:V->List V->Hp->VK->Prop:=fun x vs H Q=>∃l xs y,x=.ref l/\vs=[y]/\H l=some (.lst xs)/\xs.length<sizeLine/\Q .non (upd H l (.lst (xs++[y])))
theorem jX:Fx X "list.append" zd:=by
 intro pins s σ H x vs v us Q I rx rv h
 obtain⟨l,xs,y,rfl,rfl,hH,hz,q⟩:=h
 cases rx
 obtain⟨u,rfl,ru⟩:=rv.one
 obtain⟨z,its,n,r,hl,e⟩:=I.lstM hH
 refine call_meets F.slot_list_append ⟨_,e,rfl⟩ F.entry_list_append (F.args_list_append_2 _ _) (PySem.list_append l its.toArray n u (by rw [List.size_toArray];omega)) ⟨e,?_⟩
 refine⟨.non,_,I.lset (its':=its++[u]) hH e (by simp) (r.append (.cons ru .nil)) ?_,rfl,q⟩
 rw [List.length_append,List.length_singleton]
 omega
def Ez:R2:=fun x y H Q=>∃l b xs zs,x=.ref l/\y=.ref b/\H l=some (.lst xs)/\H b=some (.lst zs)/\xs.length+zs.length≤sizeLine/\∀p,H p=none->Q (.ref p) (upd H p (.lst (xs++zs)))
theorem A0:lE X (binaryOp .Add) Ez:=by
 intro pins s σ H x y v u Q I rx ry h
 obtain⟨l,b,xs,zs,rfl,rfl,hH,hB,hz,q⟩:=h
 cases rx
 cases ry
 obtain⟨z,its,n,r,hl,e⟩:=I.lstM hH
 obtain⟨z2,its2,n2,r2,Fe,e2⟩:=I.lstM hB
 refine PySem.P.add_list e e2 ?_ (by rw [List.size_toArray,List.size_toArray];omega)
 have ea:its.toArray++its2.toArray=(its++its2).toArray:=by simp
 rw [ea]
 exact⟨.ref _,_,I.lnew (t':=s.toks) (r.append r2) (by rw [List.length_append];omega),rfl,q _ I.fresh⟩
def ED:R2:=fun x y H Q=>∃l k xs,x=.ref l/\y=.int k/\H l=some (.lst xs) /\ -(2^63)≤k/\k<2^63/\xs.length*k.toNat≤sizeLine /\
 ∀p,H p=none->Q (.ref p) (upd H p (.lst (List.replicate k.toNat xs).flatten))
theorem len_rep {α:Type}(xs:List α)(k:Nat):(List.replicate k xs).flatten.length=k*xs.length:=by
 induction k with
 |zero=>simp
 |succ k ih=>rw [List.replicate_succ,List.flatten_cons,List.length_append,ih,Nat.succ_mul,Nat.add_comm]
theorem A1:lE X (binaryOp .Mult) ED:=by
 intro pins s σ H x y v u Q I rx ry h
 obtain⟨l,k,xs,rfl,rfl,hH,h1,h2,hz,q⟩:=h
 cases rx
 obtain⟨t,rfl⟩:=ry
 obtain⟨z,its,n,r,hl,e⟩:=I.lstM hH
 have hlen:its.toArray.size*k.toNat≤sizeLine:=by rw [List.size_toArray,<- hl];exact hz
 have hcap:¬ its.toArray.size*k.toNat>(2^63-1)/8:=by
  have:(sizeLine:Nat)≤(2^63-1)/8:=by decide
  omega
 have hfit:¬ (!Builtin.List.listFitsIndex k)=true:=by
  rw [fitsIndex_both h1 h2]
  exact Bool.false_ne_true
 have hlong:¬ Builtin.List.listTooLong (its.toArray.size*k.toNat)=true:=by
  rw [wX hlen]
  exact Bool.false_ne_true
 have hnew:List.foldl (fun x1 x2=>x1++x2) #[] (List.replicate (if its.toArray.isEmpty=true then 0 else k.toNat) its.toArray)=(List.replicate k.toNat its).flatten.toArray:=by
  have f0:∀m:Nat,List.foldl (fun x1 x2=>x1++x2) #[] (List.replicate m its.toArray)=(List.replicate m its).flatten.toArray:=fun m=>by
   have:=foldl_rep its m []
   rw [List.nil_append] at this
   exact this
  rw [f0]
  cases its with
  |nil=>simp
  |cons a r'=>rw [if_neg (by simp)]
 refine wpAny_binaryOp_repeat_ref (T := "list") (U := "int") (by decide) ⟨_,e,rfl⟩ (fun s'=>typeIs_int s' k t) noFill_list_mul F.fills_int_mul F.slot_int_rmul repeat_list F.slot_int_index.lookup
  (call_meets F.slot_int_rmul (typeIs_int s k t) F.entry_int_rmul (F.args_int_rmul_2 _ _) (int___rmul___int_list k t l its.toArray n)
   ⟨e,rfl,⟨_,e,rfl⟩,call_meets F.slot_list_mul ⟨_,e,rfl⟩ F.entry_list_mul (F.args_list_mul_2 _ _) (AutoListH.list___mul___list_int_3 l its.toArray n k t hfit hcap hlong) ⟨e,?_⟩⟩)
 rw [hnew]
 exact⟨.ref _,_,I.lnew (t':=s.toks) (r.rep k.toNat) (by rw [len_rep,Nat.mul_comm];exact hz),rfl,q _ I.fresh⟩
end
section
variable {prog:Program}{w:World}{A:Around}{E:Value->Shared->Prop}{s:Shared}
end
section
variable {X:Cx}
end
end L2
namespace Att
open PySem PySem.W PySem.Calls PyProof.Rows
theorem kM {P:Params}{h:Heap}:∀(ns:List Int) (vs:List Value),WellAll P h vs (ns.map WData.int)->IntsAre vs ns:=by
 intro ns
 induction ns with
 |nil =>
  intro vs w
  rw [List.map_nil] at w
  cases w
  exact .nil
 |cons n ns ih =>
  intro vs w
  rw [List.map_cons] at w
  cases w with
  |cons a b =>
   cases a
   exact .cons _ _ (ih _ b)
theorem vn {l:OpenLaw}{n:Nat}(hn:l.most=some n){P:Params}{h:Heap}{args:List WData}{vals:List Value}
  (hpre:l.row.toRowW.claim.pre args=true) (hwl:WellAll P h vals args):
  ∃a vs ns,vals=[Value.ref a]/\args=[WData.list (ns.map WData.int)]/\h.get? a=some { cls:=.type "list", data:=.seq vs.toArray }/\IntsAre vs ns/\ns.length≤n:=by
 have hsh:WShape.hasAll [] args [.list .int]=true:=(pre_splitW hpre).1
 have hc:l.pre.holds [] { args:=args }=true:=(pre_splitW hpre).2
 obtain⟨d,r,rfl,h1,h2⟩:=hasAllW_cons hsh
 obtain rfl:=hasAllW_nil h2
 obtain⟨xs,rfl,h3⟩:=hasW_list h1
 obtain⟨ns,rfl⟩:=items_int h3
 have hlen:ns.length≤n:=by
  unfold OpenLaw.pre at hc
  have h4:(WTm.not (.lt (.lit (.int (n:Int))) (.len (.arg 0)))).holds [] { args:=[.list (ns.map .int)] }=true:=by
   have h4:=(holds_andW hc).1
   rw [hn] at h4
   exact h4
  have h5:=condW_of h4 (w_not (w_lt w_lit (w_len_list (w_arg rfl))))
  rw [List.length_map] at h5
  refine Nat.le_of_not_lt fun q=>?_
  have q':(n:Int)<((ns.length:Nat):Int):=by omega
  first
   |(rw [decide_eq_true q'] at h5;exact absurd h5 (by decide))
   |(simp at h5;omega)
 cases hwl with
 |cons w1 w2 =>
  cases w2
  cases w1 with
  |list ho hall=>exact⟨_,_,ns,rfl,rfl,ho,kM ns _ hall,hlen⟩
theorem vh (l:OpenLaw)(args:List WData):l.row.toRowW.claim.post args (.bool true) args=true:=
 postW_of (r:=l.row.toRowW) (X:=(true == true))
  (show WShape.has [] (.bool true) .bool=true by first | rfl | decide | simp [WShape.has,WShape.arms,WShape.armsAll])
  (show (WTm.eq .res (.lit (.bool true))).value [] { args:=args,res:=some (.bool true),after:=args }=some (.bool (true == true)) from w_eq_bool (w_res rfl) w_lit) rfl
theorem pW {l:OpenLaw}{n:Nat}{q:Program}{loose:List Str}{XP:(Str->Option Value)->Heap->Prop}{YP:World->Heap->Prop}{d:DefRec}
  (hn:l.most=some n) (hdf:d.params.defaults=[])
  (call:∀(w:World) (Y8 s₁:Shared) (mg mb:Str->Option Value) (fa:Addr) (o:Obj) (pm cd doc:Value) (a:Addr) (vs:List Value) (ns:List Int),
   Ground q loose [] XP w Y8 mg mb s₁.heap->YP w s₁.heap ->
   s₁.heap.get? fa=some o->o.data=.func (docDef d.name d.params d.body d.scope pm cd doc)->s₁.heap.CodeRec cd d.name->mg d.name=some (.ref fa) ->
   s₁.heap.get? a=some { cls:=.type "list", data:=.seq vs.toArray }->IntsAre vs ns->ns.length≤n->s₁.gens = #[] ->
   codeAny (model l.prog w) callerA (.call (.ref fa) ⟨[.ref a],[]⟩) (fun r s'=>r=.ok (.ret (.bool true))/\OldK s₁.heap s'.heap/\s'.os=s₁.os/\AllBare s'.gens) s₁):
  WalkO q loose XP YP l.row.toRowW d [] (fun f vs=>PySem.call f vs):=by
 intro w Y8 s₁ mg mb G Y fa o pm cd doc dV kV ho hd hcd hD hmg hg args vals as hpre hlay hrd hwl hlo
 obtain rfl:dV=.none:=Dflts.none hD hdf
 obtain rfl:kV=.none:=Dflts.noKw hD
 obtain⟨a,vs,ns,rfl,rfl,hobj,hints,hlen⟩:=vn hn hpre hwl
 refine enter_call (codeAny_mono (call w Y8 s₁ mg mb fa o pm cd doc a vs ns G Y ho (fd_plain hd) hcd hmg hobj hints hlen hg) fun r s' hq=>?_)
 obtain⟨rfl,h2,h3,h4⟩:=hq
 exact⟨.inl ⟨.bool true,.bool true,[],rfl,fun _=>rfl,.bool true,vh l _,fun _=>⟨List.Pairwise.nil,fun _ hm=>(nomatch hm)⟩⟩,h2,h3,h4⟩
section
variable {prog:Program}{w:World}{A:Around}{E:Value->Shared->Prop}{s:Shared}{K:Frag}
end
end Att
namespace L2
open PySem PySem.Spec PyProof.Rows
theorem nX:∀{vs:List Value} {ns:List Int},IntsAre vs ns->Vals (ns.map V.int) vs
 |_,_,.nil=>.nil
 |_,_,.cons n t h=>.cons ⟨t,rfl⟩ (nX h)
end L2
/- THE LAST THEOREM (shape;LID,My.* are yours):
   My.Adr: a structure of the addresses that your layer names (classes,functions);My.Txt K t: a structure (Prop) of the equations over K;
   My.txt_mk:{K} {implicit addresses ..} (e1:nsIn K mainGlobals "law" = some (some (.ref f))) (e2:K.lookup f=some ⟨oc,od,.func (fnOf "law" "law" params body scope dV kV doc pm an cdv ct),sl⟩) (e3:codeIn K cdv "law" = true) .. : ∃t,My.Txt K t
set_option maxRecDepth 100000 in
set_option maxHeartbeats 0 in
theorem PySem.Challenge.cw_LID_holds : PySem.Challenge.rw_LID.Holds := by
 w_on;o_law;k_head;(case hw=>w_witness2)
 k_fill
 refine L2.walk_of (l:=PySem.Challenge.rw_LID) (n:=63) (k:=40) (x := "script") (CX:=fun w=>..) (sp:=fun _=>My.sp_law) rfl (by decide) rfl ⟨rfl,by decide,by decide⟩ (fun w h Y=>PySem.W.kIn_of Y) ?F ?S ?C
 case F =>
  intro w mg fa h KX G hmg
  have T:∃t,My.Txt (L2.KOf KX) t:=by
   dsimp only [L2.KOf] -- K must stand as «<heap const> w.params» for k_is
   refine' My.txt_mk ?e1 ?e2 ?e3 ..
   (case e1=>PySem.W.k_is) -- in the order: a name->its address->its object->its parts
   (case e2=>PySem.W.k_is)
   ..
  obtain⟨t,T⟩:=T
  have e0:=hmg.symm.trans (PySem.W.mg_of KX G T.law)
  cases e0 -- fa is the law's own address
  exact⟨_,fun s u=>.of_eq rfl,fun base kb nb=>My.law_fn T kb nb⟩ -- if «.of_eq rfl» comes too early: refine' ⟨_,?b,fun base kb nb=>My.law_fn T kb nb⟩;exact fun s u=>.of_eq rfl
 case S=>exact fun w H a ns hl hO hS=>..
 case C=>exact ..
(the tactic k_is has no namespace: write k_is) -/
namespace L2
open PySem PySem.Spec PyProof.Rows
def inClass (s:Stmt)(j:Nat):Stmt:=match s with
 | .ClassDef _ _ _ body _ _ _ _ _ _ _=>body.getD j (.Pass ⟨0,0,0,0⟩)
 |_=>.Pass ⟨0,0,0,0⟩
def gG (s:Stmt):Arguments:=match s with
 | .FunctionDef _ a _ _ _ _ _ _ _ _=>a
 |_=>{ posonlyargs:=[],args:=[],vararg:=none,kwonlyargs:=[],kw_defaults:=[],kwarg:=none,defaults:=[] }
def bE (s:Stmt):List Stmt:=match s with
 | .FunctionDef _ _ b _ _ _ _ _ _ _=>b
 |_=>[]
def aj (s:Stmt):Scope:=match s with
 | .FunctionDef _ _ _ _ _ _ sc _ _ _=>sc
 |_=>{ kind:=.function,names:=[],isGenerator:=false,isCoroutine:=false }
abbrev iv:sY:=fun _ _ _ _ _ _=>False
abbrev E0:XK:=fun _ _ _=>False
theorem nQ {X:Cx}:Passes iv X E0:=fun _ _ _ _ _ _ _ h=>h.elim
structure dM (K:PySem.W.Frag)(x qual:Str)(st:Stmt)(f:Addr)(fd:FuncData):Prop where
 ex:∃(oc:Value) (od:Option Addr) (kV doc pm:Value) (an:Option Addr) (cdv ct:Value) (osl:Array (Option Value)),
  fd=PySem.W.fnOf x qual (gG st) (bE st) (aj st) .none kV doc pm an cdv ct/\K.lookup f=some ⟨oc,od,.func fd,osl⟩/\PySem.W.codeIn K cdv qual=true
 kp:PySem.W.keepIn K (.ref f)=true
section
variable {P:Program}{w:World}{K:PySem.W.Frag}{mg:Str->Option Value}{base:Heap}
theorem dM.ok {x qual:Str}{st:Stmt}{f:Addr}{fd:FuncData}{N ps:List Str}{k:Nat}{sp:Sp}(F:dM K x qual st f fd)(S:aA N ps (aj st))(len:∀vs H Q E,sp vs H Q E->vs.length=ps.length)
  (hbody:∀(cdv:Value) (A:Around) (outer:List Env) (s:Shared) (H:Hp) (vs:List V) (Q:VK) (E:XK),br k (A.deeper (envOfC qual (aj st) s.heap.objs.size f cdv))->sp vs H Q E ->
   ∃t,kH (fF iv P w K mg base N qual (aj st) f cdv A outer s H E).nox (bE st) t/\t { nx:=fun _ H'=>Q .non H',rt:=Q } (start N vs) H):dN P w K mg base iv (k+1) f fd ps sp:=by
 obtain⟨oc,od,kV,doc,pm,an,cdv,ct,osl,rfl,lk,hcd⟩:=F.ex
 refine we lk hcd S len fun A outer s H vs Q E hr hsp=>?_
 obtain⟨t,h,q⟩:=hbody cdv A outer s H vs Q E hr hsp
 exact⟨t,h.nox,q⟩
theorem dM.binds {x qual:Str}{st:Stmt}{f:Addr}{fd:FuncData}{ps:List Str}(F:dM K x qual st f fd)
  (h:∀(kV doc pm:Value) (an:Option Addr) (cdv ct:Value) (us:List Value),us.length=ps.length->bindArgs (PySem.W.fnOf x qual (gG st) (bE st) (aj st) .none kV doc pm an cdv ct) ⟨us,[]⟩=pure (ps.zip us)):Binds K fd ps []:=by
 obtain⟨oc,od,kV,doc,pm,an,cdv,ct,osl,rfl,lk,hcd⟩:=F.ex
 exact .all (h kV doc pm an cdv ct)
theorem AB {x qual:Str}{st:Stmt}{f:Addr}{oc:Value}{od an:Option Addr}{osl:Array (Option Value)}{kV doc pm cdv ct:Value}(l:K.lookup f=some ⟨oc,od,.func (PySem.W.fnOf x qual (gG st) (bE st) (aj st) .none kV doc pm an cdv ct),osl⟩)
  (c:PySem.W.codeIn K cdv qual=true) (k:PySem.W.keepIn K (.ref f)=true):dM K x qual st f (PySem.W.fnOf x qual (gG st) (bE st) (aj st) .none kV doc pm an cdv ct):=⟨⟨oc,od,kV,doc,pm,an,cdv,ct,osl,rfl,l,c⟩,k⟩
end
theorem gy {n:Nat}(h:n≤1000):n<sizeLine:=Nat.lt_of_le_of_lt h (by decide)
section
variable {X:Cx}
theorem pv (i:Nat){x:Str}{pos:Pos}(hN:X.N[i]? = some x:=by rfl)(hv:uB X.env.scope x:=by first | exact Or.inl rfl | exact Or.inr (Or.inl rfl) | exact Or.inr (Or.inr rfl))(hd:(x == ("__debug__" : Str))=false:=by decide)
  (hcd:(x == ("__classdict__" : Str))=false:=by decide):PE X (.Name x pos) (xI i):=Bf hN hv hd hcd
end
def aD (H H':Hp):Prop:=∀b o,H b=some o->H' b=some o
theorem aD.refl (H:Hp):aD H H:=fun _ _ h=>h
theorem aD.trans {H H1 H2:Hp}(a:aD H H1)(b:aD H1 H2):aD H H2:=fun c o h=>b c o (a c o h)
theorem aD.free {H H':Hp}(e:aD H H'){l:Addr}(h:H' l=Option.none):H l=Option.none:=by
 cases q:H l with
 |none=>rfl
 |some o =>
  rw [e l o q] at h
  cases h
theorem aD.seq {K:PySem.W.Frag}{H H':Hp}{a:Addr}{xs:List V}(e:aD H H')(h:iK K H a xs):iK K H' a xs:=by
 rcases h with (h | ⟨o,h⟩) | h
 ·exact .inl (.inl (e _ _ h))
 ·exact .inl (.inr ⟨o,e _ _ h⟩)
 ·exact .inr h
theorem u9 (o:Obj)(f:Array Value->Array Value):(o.mapFields f).dict=o.dict:=by
 obtain⟨c,d,t,l⟩:=o
 cases t<;>rfl
def KD (g g':Heap)(e:Addr):Prop:=∀o,g.get? e=some o->∃o',g'.get? e=some o'/\o'.dict=o.dict
theorem KD.trans (x:KD g1 g2 e)(y:KD g2 g3 e):KD g1 g3 e:=fun o q=>by
 obtain⟨o1,q1,d1⟩:=x o q
 obtain⟨o2,q2,d2⟩:=y o1 q1
 exact⟨o2,q2,d2.trans d1⟩
section
variable {M:Model}{A:Around}{E:Value->Shared->Prop}{s:Shared}{bs:Heap}{env:Env}{out:List Env}{L e:Addr}{a0 fl:Value}{oe:Obj}{vs:Array Value}{Q:Unit->Shared->Prop}
theorem vS {nx:Bool}(hfr:A.frames=some (env::out))(hl:s.heap.FunFrames bs (env::out))(hf:env.frame=some L)(he:s.heap.get? e=some oe)(hk:bs.StaysIn s.heap)(hn:bs.get? e=none)
  (hd:oe.data=.fields vs) (hz:1<vs.size) (h0:vs[0]? = some a0)
  (hq:∀g',Heap.NotedW bs (env::out) e oe.cls a0 (rawInt L) s.heap g'->KD s.heap g' e->Q () { s with heap:=g' }):
  wpAny M A (do let a <- frameOf env;let pl <- entryPlaceOf L nx;let b <- EntryCells.newEntry hd0 a .none (rawInt L) .none pl;setField (.ref e) 1 b) Q E s:=by
 have hin:e∉(env::out).filterMap (·.frame):=fun m=>by
  obtain⟨_,o,q,nf⟩:=hl.mem m
  rw [he] at q
  cases q
  exact nf vs hd
 refine wpAny_bind (wpAny_frameOf_fun hfr hl hf fun g1 t1=>wpAny_bind (wpAny_entryPlaceOf fun pl hpl=>?_))
 unfold EntryCells.newEntry newFields
 refine wpAny_bind (wpAny_newObj_type ?_ (hpl.sizeOk5 _ _ _ _ _))
 have e1:g1.get? e=some oe:=(t1.2.1 e hin).trans he
 have k1:bs.StaysIn g1:=fun b o q=>(t1.2.1 b fun m=>by rw [(hl.mem m).1] at q;cases q).trans (hk b o q)
 obtain⟨ob,hob⟩:∃ob:Obj,ob={ cls:=.type "traceback", dict:=none,data:=.fields ([hd0,.ref L,.none,rawInt L,.none]++(if pl.isEmpty then List.replicate 6 Value.none else pl)).toArray }:=⟨_,rfl⟩
 have hobd:ob.data=.fields ([hd0,.ref L,.none,rawInt L,.none]++(if pl.isEmpty then List.replicate 6 Value.none else pl)).toArray:=by rw [hob]
 rw [<- hob]
 have e2:=Heap.get?_push_of_some (h:=g1) ob e1
 have nT:g1.objs.size≠e:=Nat.ne_of_gt (Heap.lt_size e1)
 obtain⟨fn,hfn⟩:∃fn:Array Value->Array Value,fn=(·.setIfInBounds 1 (Value.ref g1.objs.size)):=⟨_,rfl⟩
 have d3:=Obj.data_mapFields hd fn
 have e3:=Heap.get?_update_self (Obj.mapFields fn) e2 (Obj.isFreed_of_fields d3)
 have T3:=(Heap.get?_update_other (g1.push ob) (Obj.mapFields fn) (Ne.symm nT)).trans (Heap.get?_push_size g1 (by rw [hob];rfl))
 have kp:∀b o,b≠e->g1.get? b=some o->((g1.push ob).update e (Obj.mapFields fn)).get? b=some o:=fun b o nb q=>by
  rw [Heap.get?_update_other _ _ (Ne.symm nb)]
  exact Heap.get?_push_of_some _ q
 have nr:∀b o,s.heap.get? b=some o->(∀ws,o.data≠.fields ws)->b≠e:=fun b o q nf z=>by
  rw [z,he] at q
  cases q
  exact nf vs hd
 have dd:KD s.heap ((g1.push ob).update e (Obj.mapFields fn)) e:=fun o q=>by
  rw [he] at q
  cases q
  exact⟨_,e3,u9 _ _⟩
 refine wpAny_setField e2 hd hz (hfn ▸ hq _ ⟨fun b o q=>kp b o (fun z=>by rw [z,hn] at q;cases q) (k1 b o q),hl.of_keeps fun b o q nf=>?_,?_,fun b o q nf=>?_⟩ dd)
 ·obtain⟨sl,z⟩:=t1.2.2 b o q
  exact⟨_,kp b _ (nr b o q nf) z,rfl⟩
 ·refine⟨_,_,g1.objs.size,_,_,e3,⟨Obj.cls_mapFields _ _,?_⟩,d3,?_,k1.fresh,nT,T3,hobd,?_⟩
  ·rw [hfn,Array.getElem?_setIfInBounds_ne (by decide)];exact h0
  ·rw [hfn];simp [hz]
  ·first | (simp;done) | (rcases hpl with rfl | ⟨_,_,_,_,_,_,_,rfl⟩<;>simp)
 ·obtain⟨sl,z⟩:=t1.2.2 b o q
  exact⟨sl,kp b _ (nr b o q nf) z⟩
theorem AY (hfr:A.frames=some (env::out))(hl:s.heap.FunFrames bs (env::out))(hf:env.frame=some L)(he:s.heap.get? e=some oe)(hk:bs.StaysIn s.heap)(hn:bs.get? e=none)
  (hd:oe.data=.fields vs) (h1:vs[1]? = some .none) (h0:vs[0]? = some a0)
  (hq:∀g',Heap.NotedW bs (env::out) e oe.cls a0 (rawInt L) s.heap g'->KD s.heap g' e->Q () { s with heap:=g' }):wpAny M A (noteFrame (.ref e) env) Q E s:=by
 unfold noteFrame
 simp only [hf]
 refine wpAny_bind (wpAny_field he hd h1 ?_)
 rw [if_neg (by decide)]
 exact vS hfr hl hf he hk hn hd (Array.getElem?_eq_some_iff.mp h1).1 h0 hq
theorem wY (hfr:A.frames=some (env::out))(hl:s.heap.FunFrames bs (env::out))(hf:env.frame=some L)(ht:s.heap.TracedW bs e cls a0)(hk:bs.StaysIn s.heap)(hn:bs.get? e=none)
  (hq:∀g',Heap.NotedW bs (env::out) e cls a0 (rawInt L) s.heap g'->KD s.heap g' e->Q () { s with heap:=g' }):wpAny M A (noteFrame (.ref e) env) Q E s:=by
 obtain⟨ox,ws,T,oT,ts,x1,⟨rfl,x2⟩,x3,x4,x5,x6,x7,x8,x9⟩:=ht
 unfold noteFrame
 simp only [hf]
 refine wpAny_bind (wpAny_field x1 x3 x4 ?_)
 rw [if_pos (show (Value.ref T != Value.none)=true from by simp)]
 refine wpAny_bind (wpAny_field x7 x8 x9 ?_)
 rw [if_neg (show ¬ ((Value.none == rawInt L)=true) from by simp [rawInt])]
 refine wpAny_bind (wpAny_setField x7 x8 (Array.getElem?_eq_some_iff.mp x9).1 ?_)
 have ot:∀b,b≠T->(s.heap.update T (Obj.mapFields (·.setIfInBounds 3 Value.none))).get? b=s.heap.get? b:=fun b nb=>Heap.get?_update_other _ _ (Ne.symm nb)
 have nr:∀b o,s.heap.get? b=some o->(∀us,o.data≠.fields us)->b≠T:=fun b o q nf z=>by
  rw [z,x7] at q
  cases q
  exact nf ts x8
 refine vS hfr (hl.of_keeps fun b o q nf=>⟨o,(ot b (nr b o q nf)).trans q,rfl⟩) hf ((ot e (Ne.symm x6)).trans x1) (fun b o q=>(ot b fun z=>by rw [z,x5] at q;cases q).trans (hk b o q)) hn x3 (Array.getElem?_eq_some_iff.mp x4).1 x2 fun g' y k=>?_
 obtain⟨y1,y2,y3,y4⟩:=y
 refine hq g' ⟨y1,y2,y3,fun b o q nf=>y4 b o ((ot b (nr b o q nf)).trans q) nf⟩ fun o q=>k o ((ot e (Ne.symm x6)).trans q)
theorem kY (hk:bs.StaysIn s.heap)(hl:s.heap.FunFrames bs l)(ht:s.heap.TracedAtW bs e cls a0 fl)(hn:bs.get? e=none)
  (hq:∀g',Heap.FlyingW bs l e cls a0 g'->s.heap.UpToSlots g'->KD s.heap g' e->Q () { s with heap:=g' }):wpAny M A (setFlight (.ref e) none) Q E s:=by
 obtain⟨ox,ws,T,oT,ts,x1,x2,x3,x4,x5,x6,x7,x8,x9⟩:=ht
 have z3:3<ts.size:=(Array.getElem?_eq_some_iff.mp x9).1
 obtain⟨fn,hfn⟩:∃fn:Array Value->Array Value,fn=(·.setIfInBounds 3 ((none:Option Addr).elim Value.none fun f=>rawInt f)):=⟨_,rfl⟩
 have ot:∀b,b≠T->(s.heap.update T (Obj.mapFields fn)).get? b=s.heap.get? b:=fun b nb=>Heap.get?_update_other _ _ (Ne.symm nb)
 have nr:∀b o,s.heap.get? b=some o->(∀us,o.data≠.fields us)->b≠T:=fun b o q nf z=>by
  rw [z,x7] at q
  cases q
  exact nf ts x8
 unfold setFlight
 refine wpAny_bind (wpAny_field x1 x3 x4 ?_)
 rw [if_pos (show (Value.ref T != Value.none)=true from by simp)]
 refine wpAny_setField x7 x8 z3 (hfn ▸ hq _ ⟨fun b o q=>(ot b fun z=>by rw [z,x5] at q;cases q).trans (hk b o q),hn,hl.of_keeps fun b o q nf=>⟨o,(ot b (nr b o q nf)).trans q,rfl⟩,?_⟩ (fun b o q nf=>⟨o.slots,(ot b (nr b o q nf)).trans q⟩) fun o q=>⟨o,(ot e (Ne.symm x6)).trans q,rfl⟩)
 exact⟨ox,ws,T,_,_,(ot e (Ne.symm x6)).trans x1,x2,x3,x4,x5,x6,Heap.get?_update_self _ x7 (Obj.isFreed_of_fields (Obj.data_mapFields x8 _)),Obj.data_mapFields x8 _,by rw [hfn];simp [z3]⟩
theorem wM (hfr:A.frames=some (env::out))(hf:env.frame=some L)(hl:s.heap.FunFrames bs (env::out))(he:s.heap.get? e=some oe)(hk:bs.StaysIn s.heap)(hn:bs.get? e=none)
  (hd:oe.data=.fields vs) (h1:vs[1]? = some .none) (h0:vs[0]? = some a0)
  (hq:∀g',Heap.FlyingW bs out e oe.cls a0 g'->s.heap.UpToSlots g'->KD s.heap g' e->Q () { s with heap:=g' }):wpAny M A (leaving env (.ref e)) Q E s:=by
 unfold leaving
 refine wpAny_bind (AY hfr hl hf he hk hn hd h1 h0 fun g1 y k1=>?_)
 obtain⟨y1,y2,y3,y4⟩:=y
 refine kY (s:={ s with heap:=g1 }) y1 y2 y3 hn fun g2 f u k2=>hq g2 ?_ (Heap.UpToSlots.trans (fun b o q nf=>y4 b o q nf) u) (k1.trans k2)
 obtain⟨f1,f2,⟨_,_,f3⟩,f4⟩:=f
 exact⟨f1,f2,f3,f4⟩
theorem wN (hfr:A.frames=some (env::out))(hf:env.frame=some L)(hy:Heap.FlyingW bs (env::out) e cls a0 s.heap)
  (hq:∀g',Heap.FlyingW bs out e cls a0 g'->s.heap.UpToSlots g'->KD s.heap g' e->Q () { s with heap:=g' }):wpAny M A (leaving env (.ref e)) Q E s:=by
 obtain⟨w1,w2,w3,w4⟩:=hy
 unfold leaving
 refine wpAny_bind (wY hfr w3 hf w4 w1 w2 fun g1 y k1=>?_)
 obtain⟨y1,y2,y3,y4⟩:=y
 refine kY (s:={ s with heap:=g1 }) y1 y2 y3 w2 fun g2 f u k2=>hq g2 ?_ (Heap.UpToSlots.trans (fun b o q nf=>y4 b o q nf) u) (k1.trans k2)
 obtain⟨f1,f2,⟨_,_,f3⟩,f4⟩:=f
 exact⟨f1,f2,f3,f4⟩
end
abbrev vE:List Value:=[.type "ValueError", .type "Exception", .type "BaseException", .type "object"]
structure eu (K:PySem.W.Frag)(C:Addr)(bm:List Value)(ini:Option Value):Prop where
 ex:∃N nm q bs hdct sn sub ab col dd k0 k1 k2 k3 k5 od es ep,K.lookup C=some (excClassObj nm q C N bs bm hdct sn sub ab col dd k0 k1 k2 k3 k5 "ValueError.__new__")/\K.lookup N=some od/\od.data=.dict es ep/\es.all (fun e=>match e.key with | .str _ _=>true | _=>false)=true/\nsFind es "__init__" = ini
theorem eu.at {K:PySem.W.Frag}{C:Addr}{bm:List Value}{ini:Option Value}(x:eu K C bm ini):∃N nm q bs hdct sn sub ab col dd k0 k1 k2 k3 k5 mN,(∀h,K.In h->h.get? C=some (excClassObj nm q C N bs bm hdct sn sub ab col dd k0 k1 k2 k3 k5 "ValueError.__new__")/\h.Ns N mN)/\mN "__init__" = ini:=by
 obtain⟨N,nm,q,bs,hdct,sn,sub,ab,col,dd,k0,k1,k2,k3,k5,od,es,ep,e1,e2,e3,e4,e5⟩:=x.ex
 refine⟨N,nm,q,bs,hdct,sn,sub,ab,col,dd,k0,k1,k2,k3,k5,nsFind es,fun h k=>⟨k _ _ e1,?_⟩,e5⟩
 have hN:h.isNs N=true:=by
  unfold Heap.isNs
  rw [k _ _ e2]
  dsimp only
  rw [e3]
  exact e4
 obtain⟨o,es',ep',f1,f2,f3,f4⟩:=Heap.Ns.of_isNs hN
 rw [k _ _ e2] at f1
 cases f1
 rw [e3] at f2
 cases f2
 exact⟨_,es,ep,k _ _ e2,e3,f3,fun _=>rfl⟩
structure rd (K:PySem.W.Frag)(C:Addr)(up:List Addr)(ini:Option Value):Prop where
 cls:eu K C (up.map Value.ref++vE) ini
 ups:∀A∈up,∃bm,eu K A bm none
theorem pR {K:PySem.W.Frag}(k:K.In h):∀up:List Addr,(∀A∈up,∃bm,eu K A bm none)->OwnTail h vE (up.map Value.ref++vE)
 |[],_=>.base
 |A::up,x=>by
  obtain⟨bm,z⟩:=x A List.mem_cons_self
  obtain⟨N,nm,q,bs,hdct,sn,sub,ab,col,dd,k0,k1,k2,k3,k5,mN,e1,e3⟩:=z.at
  exact .own (e1 h k).1 (e1 h k).2 e3 (pR k up fun B hB=>x B (List.mem_cons_of_mem _ hB))
section
variable {X:Cx}{pins:List (Addr×Obj)}{σ:St}{H:Hp}{s:Shared}{C:Addr}{up:List Addr}{x:Str}{np cpos pos:Pos}{e:Expr}{t:TA}
theorem xk (hc:X.calm=true)(hx:∀e s,X.xe e s->False)(E:rd X.K C up none)(hg:Gl X x)(hm:X.mg x=some (.ref C))(ha:PA X [e] t){P:Value->Shared->Prop}(I:Inv X pins σ H s)
  (ht:t σ H fun vs H1=>vs.length≤sizeLine/\∀h' a s1 args,Inv X pins σ H1 s1->Heap.MadeExcOf s1.heap h' a (.ref C) args->P (.ref a) { s1 with heap:=h' })
  (hdb:(x == ("__debug__" : Str))=false:=by decide) (he:starEach [e] X.env=(false,eval e X.env)::starEach [] X.env:=by rfl):
  wpAny (model X.prog X.w) X.A (exec (.Raise (some (.Call (.Name x np) [e] [] cpos)) none pos) X.env) (fun _ _=>False) P s:=by
 obtain⟨N,nm,q,bs,hdct,sn,sub,ab,col,dd,k0,k1,k2,k3,k5,mN,e1,e3⟩:=E.cls.at
 refine wpAny_Raise_call_subU (C:=C) (N:=N) (nm:=nm) (q:=q) (bs:=bs) (bm:=up.map Value.ref++vE) (hdct:=hdct) (sn:=sn) (sub:=sub) (ab:=ab) (col:=col) (dd:=dd) (k0:=k0) (k1:=k1) (k2:=k2) (k3:=k3) (k5:=k5) (mN:=mN) (bmB:=vE) PySem.F.excBase_ValueError (by decide +kernel) PySem.F.excBase_ValueError ((pR I.kIn up E.ups).hasType (by decide +kernel)) (I.ok.hd hc) (by rw [he];rfl) e3 ?_
 refine eU I hg hm ⟨rfl,?_⟩ hdb
 have hs:=ha cpos pins s σ H _ I ht
 rw [he] at hs ⊢
 refine Calls.evalArgs_plain (wpAny_mono hs (fun us s1 z=>?_) fun e s z=>False.elim (hx e s z))
 obtain⟨vs,H1,I1,r,hl,q1⟩:=z
 exact⟨rfl,by rw [<- r.length];exact hl,(e1 _ I1.kIn).1,(e1 _ I1.kIn).2,pR I1.kIn up E.ups,fun h' a hm=>q1 h' a s1 us I1 hm⟩
end
theorem bO.has (x:bO P w H h a o):∃ob,h.get? a=some ob:=by
 cases o with
 |lst xs=>obtain⟨_,_,_,_,e⟩:=x;exact⟨_,e⟩
 |tup xs=>obtain⟨_,_,_,o,e,_⟩:=x;exact⟨_,e⟩
 |dK kvs=>obtain⟨_,_,_,_,o,_,_,e,_⟩:=x;exact⟨_,e⟩
 |dT kvs=>obtain⟨_,_,_,_,o,_,_,e,_⟩:=x;exact⟨_,e⟩
 |set S n=>obtain⟨o,_,_,_,e,_⟩:=x;exact⟨_,e⟩
 |ins C dx fs=>obtain⟨_,_,_,e,_⟩:=x;exact⟨_,e⟩
 |own y=>exact x
 |xd fs=>obtain⟨_,⟨_,_,_,e,_⟩,_⟩:=x;exact⟨_,e⟩
 |rng lo hi=>obtain⟨_,_,_,e⟩:=x;exact⟨_,e⟩
 |frz ob u=>obtain⟨e,_⟩:=x;exact⟨_,e⟩
 |tbl ks=>obtain⟨ps,e,_⟩:=x;exact⟨_,e⟩
 |met f y=>exact⟨_,x⟩
 |ext φ=>exact x.2.1
def zR (od:Option Addr)(a:Addr)(h:Heap):Prop:=∃oe,h.get? a=some oe/\oe.dict=od
theorem zR.kd (x:zR od a h)(k:KD h h' a):zR od a h':=by
 obtain⟨oe,q,e1⟩:=x
 obtain⟨o',q',e2⟩:=k oe q
 exact⟨o',q',e2.trans e1⟩
structure zS (P:Program)(w:World)(outer:List Env)(H:Hp)(s:Shared)(C a:Addr)(od:Option Addr)(H':Hp)(s':Shared):Prop where
 os:s'.os=s.os
 bare:AllBare s'.gens
 un:Un (jL outer) [] H H' s.heap s'.heap
 hok:kG P w H' s'.heap
 new:s.heap.get? a=none
 nH:H' a=none
 fl:∃B a0,Heap.FlyingW B outer a (.ref C) a0 s'.heap/\∀b o,s'.heap.get? b=some o->(H' b≠none\/((∃o',s.heap.get? b=some o')/\b∉jL outer))->B.get? b=some o
 dc:zR od a s'.heap
def oV (od:Option Addr):Value:=match od with
 |none=>.none
 |some d=>.ref d
theorem pA:∀{a b:Option Addr},oV a=oV b->a=b
 |none,none,_=>rfl
 |some _,some _,h=>by injection h with h;rw [h]
 |none,some _,h=>by cases h
 |some _,none,h=>by cases h
def zP (P:Program)(w:World):sY:=fun outer H s E e s'=>∃a C od H',e=.ref a/\zS P w outer H s C a od H' s'/\E (oV od) (some C) H'
def Made (X:Cx)(pins:List (Addr×Obj))(σ:St)(H:Hp)(C:Addr)(od:Option Addr)(e:Value)(s':Shared):Prop:=
 ∃a oe vs a0,e=.ref a/\Inv X pins σ H s'/\H a=none/\X.Y8.heap.get? a=none/\s'.heap.get? a=some oe/\oe.cls=.ref C/\oe.data=.fields vs/\vs[0]? = some a0/\vs[1]? = some .none/\oe.dict=od
def zQ (X:Cx)(pins:List (Addr×Obj))(σ:St)(H:Hp)(C:Addr)(od:Option Addr)(e:Value)(s':Shared):Prop:=∃a s H0,e=.ref a/\Inv X pins σ H0 s/\zS X.prog X.w X.stack H0 s C a od H s'
section
variable {X:Cx}{pins:List (Addr×Obj)}{σ:St}{H H0:Hp}{s s':Shared}{C a:Addr}{od:Option Addr}{h1 h' B:Heap}
theorem Inv.offStack (I:Inv X pins σ H s){b:Addr}(e:X.Y8.heap.get? b=some o)(hb:b∉X.fs):b∉jL X.stack:=fun z=>by
 rcases List.mem_cons.mp (I.stkSub b z) with z | z
 ·exact absurd (Nat.lt_of_lt_of_le (Heap.lt_size e) I.ok.above) (by rw [z];exact Nat.lt_irrefl _)
 ·exact hb z
theorem tQ (hex:X.ex=[])(I:Inv X pins σ H { s' with heap:=h1 })(hB:B.StaysIn h')(cov:∀b o,h1.get? b=some o->(H b≠none\/((∃o',X.Y8.heap.get? b=some o')/\b∉jL X.stack))->B.get? b=some o)
  (up:h1.UpToSlots h') (na:h1.get? a=none\/(X.Y8.heap.get? a=none/\H a=none)) (fl:Heap.FlyingW B X.outer a (.ref C) a0 h') (dc:zR od a h'):
  zS X.prog X.w X.outer X.Y9 X.Y8 C a od H { s' with heap:=h' }:=by
 have un0:=I.base
 rw [hex] at un0
 have kept:∀b o,X.Y8.heap.get? b=some o->b∉X.fs->∀o1,h1.get? b=some o1->h'.get? b=some o1:=fun b o e hb o1 e1=>hB _ _ (cov b o1 e1 (.inr ⟨⟨o,e⟩,I.offStack e hb⟩))
 have xO:∀b u o,H b=some u->h1.get? b=some o->h'.get? b=some o:=fun b u o e e1=>hB _ _ (cov b o e1 (.inl (by rw [e];simp)))
 refine⟨I.os,I.bare,⟨fun b o e n hb hx=>?_,fun b o e n hb hx=>?_,fun b o e n hx=>un0.free b o e n hx,fun b o e hx=>?_,un0.tups,un0.frzs,un0.tbls⟩,fun b u e=>?_,?_,?_,⟨B,a0,fl,fun b o e z=>?_⟩,dc⟩
 ·exact kept b o e hb o (un0.keep b o e n hb hx)
 ·obtain⟨sl,e1⟩:=un0.slot b o e n hb hx
  obtain⟨_,o2,e2,d2⟩:=I.ok.funs.mem hb
  rw [e] at e2
  cases e2
  obtain⟨sl2,e3⟩:=up b _ e1 d2
  exact⟨sl2,e3⟩
 ·obtain⟨o1,e1⟩:=un0.there b o e hx
  by_cases hb:b∈X.fs
  ·cases q:X.Y9 b with
   |none =>
    obtain⟨sl,e1⟩:=un0.slot b o e q hb hx
    obtain⟨_,o2,e2,d2⟩:=I.ok.funs.mem hb
    rw [e] at e2
    cases e2
    obtain⟨sl2,e3⟩:=up b _ e1 d2
    exact⟨_,e3⟩
   |some u=>rw [I.ok.frf b hb] at q;cases q
  ·exact⟨o1,kept b o e hb o1 e1⟩
 ·exact (I.hok b u e).stay (fun c v hc q=>by
   rcases hc with rfl | hc
   ·exact xO _ u v e q
   ·exact xO _ _ v hc q) (fun _ q=>q) fun _ _ q=>q
 ·rcases na with na | na
  ·cases q:X.Y8.heap.get? a with
   |none=>rfl
   |some o =>
    obtain⟨o1,e1⟩:=un0.there a o q (by simp)
    have e2:h1.get? a=some o1:=e1
    rw [na] at e2;cases e2
  ·exact na.1
 ·rcases na with na | na
  ·cases q:H a with
   |none=>rfl
   |some u =>
    obtain⟨ob,e1⟩:=(I.hok a u q).has
    have e2:h1.get? a=some ob:=e1
    rw [na] at e2;cases e2
  ·exact na.2
 ·rcases z with z | ⟨⟨o',e'⟩,hb⟩
  ·cases q:H b with
   |none=>exact absurd q z
   |some u =>
    obtain⟨ob,e1⟩:=(I.hok b u q).has
    have e2:=xO b u ob q e1
    have e3:h'.get? b=some o:=e
    rw [e2] at e3;cases e3
    exact cov b _ e1 (.inl z)
  ·obtain⟨o1,e1⟩:=un0.there b o' e' (by simp)
   have e2:=kept b o' e' hb o1 e1
   have e3:h'.get? b=some o:=e
   rw [e2] at e3;cases e3
   exact cov b _ e1 (.inr ⟨⟨o',e'⟩,I.offStack e' hb⟩)
theorem AA {l:List Env}:∀env∈l,∀b,env.frame=some b->b∈jL l:=fun env he b hb=>List.mem_filterMap.mpr ⟨env,he,hb⟩
theorem so (hex:X.ex=[])(hst:X.stack=X.env::X.outer)(hf:X.env.frame=some X.env.locals)(z:Made X pins σ H C od e s'):
  wpAny (model X.prog X.w) X.A (leaving X.env e) (fun _ s''=>∃a,e=.ref a/\zS X.prog X.w X.outer X.Y9 X.Y8 C a od H s'') E s':=by
 obtain⟨a,oe,vs,a0,rfl,I,nH,n0,he,hc,hd,h0,h1,hdc⟩:=z
 have hfr:=I.ok.frames
 have fun1:s'.heap.FunFrames X.base X.stack:=I.stack
 have fr0:=I.stkFree
 have fsub:=AA (l:=X.stack)
 rw [hst] at hfr
 have hB:(PySem.W.hideAll s'.heap (a::jL X.stack)).StaysIn s'.heap:=fun b o q=>PySem.W.of_hideAll _ q
 have hBn:(PySem.W.hideAll s'.heap (a::jL X.stack)).get? a=none:=PySem.W.hideAll_none _ List.mem_cons_self
 have hl:s'.heap.FunFrames (PySem.W.hideAll s'.heap (a::jL X.stack)) (X.env::X.outer):=by
  rw [<- hst]
  exact PySem.W.funFrames_hide fun1 fun env he b hb=>List.mem_cons_of_mem _ (fsub env he b hb)
 refine wM (bs:=PySem.W.hideAll s'.heap (a::jL X.stack)) hfr hf hl he hB hBn hd h1 h0 fun g' f u k=>⟨a,rfl,?_⟩
 rw [hc] at f
 refine tQ (h1:=s'.heap) (B:=PySem.W.hideAll s'.heap (a::jL X.stack)) hex I f.1 (fun b o e1 z=>PySem.W.hideAll_get _ e1 fun hb=>?_) u (.inr ⟨n0,nH⟩) f (zR.kd ⟨oe,he,hdc⟩ k)
 rcases List.mem_cons.mp hb with rfl | hb
 ·rcases z with z | ⟨⟨o',z⟩,_⟩
  ·exact z nH
  ·rw [n0] at z;cases z
 ·rcases z with z | z
  ·exact z (fr0 b hb)
  ·exact z.2 hb
theorem lZ (hex:X.ex=[])(hst:X.stack=X.env::X.outer)(hf:X.env.frame=some X.env.locals)(z:zQ X pins σ H C od e s'):
  wpAny (model X.prog X.w) X.A (leaving X.env e) (fun _ s''=>∃a,e=.ref a/\zS X.prog X.w X.outer X.Y9 X.Y8 C a od H s'') E s':=by
 obtain⟨a,s,H0,rfl,I0,F⟩:=z
 obtain⟨B,a0,fl,cov⟩:=F.fl
 have hfr:=I0.ok.frames
 rw [hst] at hfr fl
 have I:=I0.call' F.os F.un F.hok F.bare (fun b hb=>absurd hb (by simp))
 refine wN hfr hf fl fun h' x1 x2 kd=>⟨a,rfl,?_⟩
 refine tQ (h1:=s'.heap) (B:=B) hex I x1.1 (fun b o e1 z=>cov b o e1 ?_) x2 (.inr ⟨?_,F.nH⟩) x1 (F.dc.kd kd)
 ·rcases z with z | ⟨⟨o',e'⟩,hb⟩
  ·exact .inl z
  ·obtain⟨o2,e2⟩:=I0.base.there b o' e' (by rw [hex];simp)
   exact .inr ⟨⟨o2,e2⟩,hb⟩
 ·cases q:X.Y8.heap.get? a with
  |none=>rfl
  |some o =>
   obtain⟨o2,e2⟩:=I0.base.there a o q (by rw [hex];simp)
   rw [F.new] at e2;cases e2
end
abbrev Cx.inS (X:Cx)(e:Value):Cx:={ X with A:=X.A.mark (some e),calm:=false,xe:=fun _ _=>False }
section
variable {X:Cx}{pins:List (Addr×Obj)}{σ:St}{H H0:Hp}{s s':Shared}{C D a:Addr}{od:Option Addr}{h1 h' B:Heap}
theorem Inv.inS (I:Inv X pins σ H s)(e:Value):Inv (X.inS e) pins σ H s:=
 ⟨⟨I.ok.mod,I.ok.kind,I.ok.glob,I.ok.blt,I.ok.above,I.ok.inj,I.ok.has,I.ok.cab,(fun z=>nomatch z),I.ok.frames,I.ok.stk,I.ok.exf,I.ok.bs,I.ok.bsz,I.ok.noex,I.ok.exfs,I.ok.funs,I.ok.frf⟩,I.os,I.bare,I.base,I.loc,I.cell,I.free,I.freeC,I.pin,I.hok,I.len⟩
theorem Inv.outS (ok:X.Ok)(I:Inv (X.inS e) pins σ H s):Inv X pins σ H s:=⟨ok,I.os,I.bare,I.base,I.loc,I.cell,I.free,I.freeC,I.pin,I.hok,I.len⟩
theorem lh {i:Nat}{tk:Nat}(I:Inv X pins σ H s)(hN:X.N.Nodup)(hi:X.N[i]? = some n)
  (hl:∀(j:Nat) (x:Str) (w:V),X.N[j]? = some x->σ[j]? = some (some w)->uB X.env.scope x->∃u,RelV w u/\Look X.env s.heap m x u)
  (hn:h'.Ns X.env.locals (fun x=>if x=n then v else m x)) (sb:Heap.SameBut X.env.locals s.heap h'):Inv X pins (σ.set i none) H { s with heap:=h',toks:=tk }:=by
 have neL:∀b o,X.Y8.heap.get? b=some o->b≠X.env.locals:=fun b o e=>Nat.ne_of_lt (Nat.lt_of_lt_of_le (Heap.lt_size e) I.ok.above)
 have oth:∀b,b≠X.env.locals->h'.get? b=s.heap.get? b:=fun b hb=>sb.2 b hb
 refine⟨I.ok,I.os,I.bare,⟨fun b o e n' hb hx=>?_,fun b o e n' hb hx=>?_,fun b o e n' hx=>I.base.free b o e n' hx,fun b o e hx=>?_,I.base.tups,I.base.frzs,I.base.tbls⟩,⟨_,hn,fun j x w e1 e2 e3=>?_⟩,fun x c e=>?_,I.free,I.freeC,fun p hp=>?_,fun b u e=>?_,by rw [List.length_set];exact I.len⟩
 ·rw [oth b (neL b o e)];exact I.base.keep b o e n' hb hx
 ·rw [oth b (neL b o e)];exact I.base.slot b o e n' hb hx
 ·rw [oth b (neL b o e)];exact I.base.there b o e hx
 ·have hj:j≠i:=fun z=>by
   rw [z] at e2
   by_cases hil:i<σ.length
   ·rw [List.getElem?_set_self hil] at e2;cases e2
   ·rw [List.getElem?_eq_none (by rw [List.length_set];omega)] at e2;cases e2
  rw [List.getElem?_set_ne (Ne.symm hj)] at e2
  obtain⟨u,r,l⟩:=hl j x w e1 e2 e3
  refine⟨u,r,?_⟩
  have hxn:x≠n:=fun z=>by
   rw [z,<- hi] at e1
   exact hj (((List.getElem?_inj (List.getElem?_eq_some_iff.mp hi).1 hN).mp e1.symm).symm)
  rcases l with ⟨k,l⟩ | ⟨k,c,e,ob,z⟩
  ·exact .inl ⟨k,by dsimp only;rw [if_neg hxn];exact l⟩
  ·exact .inr ⟨k,c,e,ob,by rw [oth c (I.cne x c e)];exact z.1,z.2⟩
 ·obtain⟨w,ob,z⟩:=I.cell x c e
  exact⟨w,ob,by rw [oth c (I.cne x c e)];exact z.1,z.2⟩
 ·obtain⟨e,n',ne,nf,d⟩:=I.pin p hp
  exact⟨by rw [oth p.1 ne];exact e,n',ne,nf,d⟩
 ·refine (I.hok b u e).stay (fun c w hc q=>?_) (fun _ q=>q) fun _ _ q=>q
  have hcl:c≠X.env.locals:=fun z=>by
   have f:=I.free
   rw [<- z] at f
   rcases hc with rfl | hc
   ·rw [e] at f;cases f
   ·rw [hc] at f;cases f
  rw [oth c hcl];exact q
def eg (a C:Addr)(od:Option Addr):Heap->Prop:=fun h=>∃oe vs,h.get? a=some oe/\oe.cls=.ref C/\oe.data=.fields vs/\oe.dict=od
theorem lX (I0:Inv X pins σ H0 s)(F:zS X.prog X.w X.stack H0 s C a od H s')(hB:B.StaysIn h')(cov:∀b o,s'.heap.get? b=some o->(H b≠none\/((∃o',s.heap.get? b=some o')/\b∉jL X.stack))->B.get? b=some o)
  (up:s'.heap.UpToSlots h') (he:eg a C od h') {tk:Nat}:Inv X pins σ (upd H a (.ext (eg a C od))) { s' with heap:=h',toks:=tk }:=by
 have un0:=F.un
 have ne:∀b u,H b=some u->b≠a:=fun b u e z=>by rw [z,F.nH] at e;cases e
 have ne':∀b o,s.heap.get? b=some o->b≠a:=fun b o e z=>by rw [z,F.new] at e;cases e
 have xO:∀b u o,H b=some u->s'.heap.get? b=some o->h'.get? b=some o:=fun b u o e e1=>hB _ _ (cov b o e1 (.inl (by rw [e];simp)))
 have kept:∀b o,s.heap.get? b=some o->b∉jL X.stack->∀o1,s'.heap.get? b=some o1->h'.get? b=some o1:=fun b o e hb o1 e1=>hB _ _ (cov b o1 e1 (.inr ⟨⟨o,e⟩,hb⟩))
 have slot:∀b o,s.heap.get? b=some o->H0 b=none->b∈jL X.stack->∃sl,h'.get? b=some { o with slots:=sl }:=fun b o e n hb=>by
  obtain⟨sl,e1⟩:=un0.slot b o e n hb (by simp)
  obtain⟨_,o2,e2,d2⟩:=I0.stack.mem hb
  rw [e] at e2
  cases e2
  obtain⟨sl2,e3⟩:=up b _ e1 d2
  exact⟨sl2,e3⟩
 refine I0.call' (s':={ s' with heap:=h',toks:=tk }) (ch:=[]) F.os ⟨fun b o e n hb hx=>?_,fun b o e n hb hx=>slot b o e n hb,fun b o e n hx=>?_,fun b o e hx=>?_,fun b xs e=>?_,fun b o u e=>?_,fun b ps e=>?_⟩ (fun b u e=>?_) F.bare fun b hb=>absurd hb (by simp)
 ·exact kept b o e hb o (un0.keep b o e n hb hx)
 ·rw [aB (ne' b o e)];exact un0.free b o e n hx
 ·obtain⟨o1,e1⟩:=un0.there b o e hx
  by_cases hb:b∈jL X.stack
  ·obtain⟨sl,q⟩:=slot b o e (I0.stkFree b hb) hb
   exact⟨_,q⟩
  ·exact⟨o1,kept b o e hb o1 e1⟩
 ·have:=un0.tups b xs e
  rw [aB (ne b _ this)];exact this
 ·have:=un0.frzs b o u e
  rw [aB (ne b _ this)];exact this
 ·obtain⟨more,this⟩:=un0.tbls b ps e
  exact⟨more,by rw [aB (ne b _ this)];exact this⟩
 ·by_cases hb:b=a
  ·subst hb
   rw [aM] at e
   cases e
   obtain⟨oe,vs,q⟩:=id he
   exact⟨he,⟨oe,q.1⟩,fun g1 g2 ⟨o1,v1,q1⟩ k=>⟨o1,v1,k _ q1.1,q1.2⟩⟩
  ·rw [aB hb] at e
   refine (F.hok b u e).stay (fun c w hc q=>?_) (fun c q=>?_) fun c xs q=>?_
   ·rcases hc with rfl | hc
    ·exact xO _ u w e q
    ·exact xO _ _ w hc q
   ·rw [aB (ne c _ q)];exact q
   ·rw [aB (ne c _ q)];exact q
theorem nD {K:PySem.W.Frag}{b:Bool}(k:K.In s.heap)(cC:eu K C bC iC)(cD:eu K D bD iD)(hbD:bD.contains (.type "BaseException")=true)(hb:(Value.ref C::bC).contains (.ref D)=b)(he:eg a C od s.heap)
  {Q:Bool->Shared->Prop} (hq:Q b s):wpAny M A (excMatches (.ref a) (.ref D)) Q E s:=by
 obtain⟨N,nm,q,bs,hdct,sn,sub,ab,col,dd,k0,k1,k2,k3,k5,mN,e1,_⟩:=cC.at
 obtain⟨N',nm',q',bs',hdct',sn',sub',ab',col',dd',j0,j1,j2,j3,j5,mN',e1',_⟩:=cD.at
 have hC:=(e1 _ k).1
 have hDc:=(e1' _ k).1
 obtain⟨oe,vs,g1,g2,g3,g4⟩:=he
 have hcB:(Value.ref D::bD).contains (.type "BaseException")=true:=by rw [List.contains_cons,hbD,Bool.or_true]
 have f:=PySem.tc_notTuple
 obtain⟨hp,g,d,tk,os⟩:=s
 unfold excMatches
 cases b with
 |true =>
  repeat (first
   |(with_reducible refine wpAny_loadPart_at g1 ?_;rw [g2])
   |(with_reducible refine wpAny_loadPart_at hDc ?_)
   |(with_reducible refine PySem.wpAny_isSubtype_exc hDc ?_;rw [hcB])
   |(with_reducible refine PySem.wpAny_isSubtype_exc hC ?_;rw [hb])
   | wp_step)
  exact hq
 |false =>
  repeat (first
   |(with_reducible refine wpAny_loadPart_at g1 ?_;rw [g2])
   |(with_reducible refine wpAny_loadPart_at hDc ?_)
   |(with_reducible refine PySem.wpAny_isSubtype_exc hDc ?_;rw [hcB])
   |(with_reducible refine PySem.wpAny_isSubtype_exc hC ?_;rw [hb])
   | wp_step)
  exact hq
end
theorem nJ (x:Heap.FlyingW B l a (.ref C) a0 h)(dc:zR od a h):eg a C od h:=by
 obtain⟨_,_,_,oe,vs,T,oT,ts,e1,e2,e3,_⟩:=x
 obtain⟨o',q,e'⟩:=dc
 rw [e1] at q
 cases q
 exact⟨oe,vs,e1,e2.1,e3,e'⟩
def Ends.gone (D:Ends)(i:Nat):Ends:={ nx:=fun σ H=>D.nx (σ.set i none) H,bk:=fun σ H=>D.bk (σ.set i none) H,ct:=fun σ H=>D.ct (σ.set i none) H,rt:=D.rt }
def jM (X:Cx)(pins:List (Addr×Obj))(σ:St)(H:Hp)(C:Addr)(od:Option Addr)(a:Addr)(s5:Shared):Prop:=
 ∃s s' H0 B a0,Inv X pins σ H0 s/\zS X.prog X.w X.stack H0 s C a od H s'/\Heap.FlyingW B X.stack a (.ref C) a0 s5.heap/\(∀b o,s'.heap.get? b=some o->(H b≠none\/((∃o',s.heap.get? b=some o')/\b∉jL X.stack))->B.get? b=some o) /\
  s'.heap.UpToSlots s5.heap/\KD s'.heap s5.heap a/\s5={ s' with heap:=s5.heap }
section
variable {X:Cx}{pins:List (Addr×Obj)}{σ:St}{H:Hp}{s' s5:Shared}{C D a:Addr}{od:Option Addr}{bC bD:List Value}{iC iD:Option Value}{e:Value}{i:Nat}{n x:Str}{Y6:Stmt}{suite:List Stmt}{np pos:Pos}{Dn:Ends}{E:Value->Shared->Prop}{hs:List ExceptHandler}
theorem jM.inv (z:jM X pins σ H C od a s5):H a=none/\Inv X pins σ (upd H a (.ext (eg a C od))) s5/\eg a C od s5.heap:=by
 obtain⟨s,s',H0,B,a0,I0,F,x5,cov,u,kd,e5⟩:=z
 have he:=nJ x5 (F.dc.kd kd)
 have I5:=lX (tk:=s'.toks) I0 F x5.1 cov u he
 exact⟨F.nH,by rw [e5];exact I5,he⟩
theorem lL (hst:X.stack=X.env::X.outer)(hf:X.env.frame=some X.env.locals)(z:zQ X pins σ H C od e s')
  (hh:∀a s5,e=.ref a->jM X pins σ H C od a s5->wpAny (model X.prog X.w) X.A (handleBy (.ref a) X.env hs) (SP X pins Dn) E s5):
  wpAny (model X.prog X.w) X.A (noteFrame e X.env) (fun _ s₂=>wpAny (model X.prog X.w) X.A (setFlight e none) (fun _ s₃=>wpAny (model X.prog X.w) X.A (handleBy e X.env hs) (SP X pins Dn) E s₃) E s₂) E s':=by
 obtain⟨a,s,H0,rfl,I0,F⟩:=z
 obtain⟨B,a0,fl,cov⟩:=F.fl
 have hfr:=I0.ok.frames
 have fl0:=fl
 rw [hst] at fl hfr
 obtain⟨f1,f2,f3,f4⟩:=fl
 refine wY hfr f3 hf f4 f1 f2 fun g1 y k1=>?_
 obtain⟨y1,y2,y3,y4⟩:=y
 refine kY (s:={ s' with heap:=g1 }) y1 y2 y3 f2 fun g2 f u k2=>?_
 refine hh a _ rfl ⟨s,s',H0,B,a0,I0,F,?_,cov,Heap.UpToSlots.trans (fun b o q nf=>y4 b o q nf) u,k1.trans k2,rfl⟩
 rw [hst]
 exact f
theorem uR (z:jM X pins σ H C od a s5)(cC:eu X.K C bC iC)(cD:eu X.K D bD iD)(hbD:bD.contains (.type "BaseException")=true)(hD:(Value.ref C::bC).contains (.ref D)=false)
  (hg:Gl X x) (hm:X.mg x=some (.ref D)) (hr:wpAny (model X.prog X.w) X.A (handleBy (.ref a) X.env hs) (SP X pins Dn) E s5) (hdb:(x == ("__debug__" : Str))=false:=by decide):
  wpAny (model X.prog X.w) X.A (handleBy (.ref a) X.env (.ExceptHandler (some (.Name x np)) nm bdy pos::hs)) (SP X pins Dn) E s5:=by
 obtain⟨nH,I5,he⟩:=z.inv
 refine wpAny_handleBy_cons (codeAny_handlers_test ?_) (by intro q;cases q)
 refine eU (I5.inS (.ref a)) hg hm ?_ hdb
 exact nD I5.kIn cC cD hbD hD he hr
theorem yy (z:jM X pins σ H C od a s5)(cC:eu X.K C bC iC)(cD:eu X.K D bD iD)(hbD:bD.contains (.type "BaseException")=true)(hD:(Value.ref C::bC).contains (.ref D)=true)
  (hg:Gl X x) (hm:X.mg x=some (.ref D)) (hN:X.N.Nodup) (hi:X.N[i]? = some n) (hl:X.env.scope.names.lookup n=some .local) (hlo:X.env.kindOf n=some .local)
  (hs':∀s2,H a=none->Inv (X.inS (.ref a)) pins (σ.set i (some (.ref a))) (upd H a (.ext (eg a C od))) s2->wpAny (model X.prog X.w) (X.A.mark (some (.ref a))) (execs (Y6::suite) X.env) (SP (X.inS (.ref a)) pins (Dn.gone i)) (fun _ _=>False) s2)
  (hdb:(x == ("__debug__" : Str))=false:=by decide):
  wpAny (model X.prog X.w) X.A (handleBy (.ref a) X.env (.ExceptHandler (some (.Name x np)) (some n) (Y6::suite) pos::hs)) (SP X pins Dn) E s5:=by
 obtain⟨nH,I5,he⟩:=z.inv
 obtain⟨s,s',H0,B,a0,I0,F,x5,cov,u,kd,e5⟩:=z
 have hp:(X.env.scope.kind == .class||(X.env.scope.kind == .module&&X.env.locals != X.env.globals))=false:=by rw [I0.ok.kind];rfl
 refine wpAny_handleBy_cons (codeAny_handlers_test ?_) (by intro q;cases q)
 refine eU (I5.inS (.ref a)) hg hm ?_ hdb
 refine nD I5.kIn cC cD hbD hD he ?_
 show codeAny _ _ _ _ _
 refine codeAny_handlers_suite_as ?_
 obtain⟨f1,f2,f3,f4⟩:=x5
 refine kY f1 f3 f4.at f2 fun h₆ x6 u6 k6=>?_
 have I6:=lX (tk:=s'.toks) I0 F x6.1 cov (u.trans u6) (nJ x6 (F.dc.kd (kd.trans k6)))
 rw [e5]
 refine et (i:=i) (v:=.ref a) I6 hN hi (.inl hl) rfl (fun s7 I7=>?_) (.inr hl)
 refine wpAny_mono (hs' s7 F.nH (I7.inS (.ref a))) (fun f s8 h8=>?_) fun _ _ q=>False.elim q
 cases f with
 |next =>
  obtain⟨σ',H',I8,q⟩:=h8
  have I9:=I8.outS I0.ok
  obtain⟨m,hn,hll⟩:=id I9.loc
  exact wpAny_nameGoes_keeps hlo hn hp fun h' v hn' sb=>⟨σ'.set i none,H',lh I9 hN hi hll hn' sb,q⟩
 |brk =>
  obtain⟨σ',H',I8,q⟩:=h8
  have I9:=I8.outS I0.ok
  obtain⟨m,hn,hll⟩:=id I9.loc
  exact wpAny_nameGoes_keeps hlo hn hp fun h' v hn' sb=>⟨σ'.set i none,H',lh I9 hN hi hll hn' sb,q⟩
 |cont =>
  obtain⟨σ',H',I8,q⟩:=h8
  have I9:=I8.outS I0.ok
  obtain⟨m,hn,hll⟩:=id I9.loc
  exact wpAny_nameGoes_keeps hlo hn hp fun h' v hn' sb=>⟨σ'.set i none,H',lh I9 hN hi hll hn' sb,q⟩
 |ret u =>
  obtain⟨w,σ',H',I8,r,q⟩:=h8
  have I9:=I8.outS I0.ok
  obtain⟨m,hn,hll⟩:=id I9.loc
  exact wpAny_nameGoes_keeps hlo hn hp fun h' v hn' sb=>⟨w,σ'.set i none,H',lh I9 hN hi hll hn' sb,r,q⟩
end
structure lu (K:PySem.W.Frag)(C:Addr)(bm:List Value):Prop where
 cls:∃ini,eu K C bm ini
 fc:PySem.W.findIn K (.ref C) "__class__" = some (some (.builtin "object.__class__"))
 fg:PySem.W.findIn K (.ref C) "__getattribute__" = some (some (.builtin "BaseException.__getattribute__"))
 fn:PySem.W.findIn K (.ref C) "__getattr__" = some none
 ob:bm.contains (.type "object")=true
 be:bm.contains (.type "BaseException")=true
section
variable {prog:Program}{w:World}{A:Around}{E:Value->Shared->Prop}{h:Heap}{g:Array GenState}{d:Drawn}{t:Nat}{os:OsState}{a C:Addr}{o:Obj}{K:PySem.W.Frag}{bm:List Value}
theorem Ab {R:Result->Shared->Prop}(X:lu K C bm)(k:K.In h)(hx:h.get? a=some o)(hc:o.cls=.ref C)(hq:R (.ok (.ret (.ref C))) ⟨h,g,d,t,os⟩):
  codeAny (model prog w) A (.call (.builtin "getset_descriptor.__get__") ⟨[.builtin "object.__class__", .ref a,.ref C],[]⟩) R ⟨h,g,d,t,os⟩:=by
 obtain⟨ini,cls⟩:=X.cls
 obtain⟨N,nm,q,bs,hdct,sn,sub,ab,col,dd,k0,k1,k2,k3,k5,mN,e1,_⟩:=cls.at
 have hC:=(e1 _ k).1
 have tD:(⟨h,g,d,t,os⟩:Shared).TypeIs (.builtin "object.__class__") "getset_descriptor" := F.typeOf_object_class
 have hcO:(Value.ref C::bm).contains (.type (".".intercalate ("object.__class__".cutAt '.').dropLast))=true:=by
  rw [F.owner_object_class,List.contains_cons,X.ob,Bool.or_true]
 refine codeAny_call_builtin F.slot_gs_get.plain F.entry_gs_get (F.slot_gs_get.check _ _ _ _ _ _ _ _ tD (F.args_gs_get _ _ _) ?_)
 repeat (any_goals (first
  |assumption
  |(with_reducible refine wpAny_loadPart_at hx ?_;rw [hc])
  |(with_reducible refine PySem.wpAny_isSubtype_exc hC ?_;rw [hcO])
  | wp_step))
 refine⟨Code.quiet_builtin _ (by decide +kernel),codeAny_builtin F.entry_object_class ?_⟩
 repeat (any_goals (first
  |assumption
  |(with_reducible refine wpAny_loadPart_at hx ?_;rw [hc])
  | wp_step))
theorem Aa {Q:Fin->Shared->Prop}(X:lu K C bm)(k:K.In h)(hx:h.get? a=some o)(hc:o.cls=.ref C)(hq:Q (.done (.ret (.ref C))) ⟨h,g,d,t,os⟩):
  wpAny (model prog w) A (Builtin.«object.__getattribute__» ⟨[.ref a,.str "__class__" tk],[]⟩) Q E ⟨h,g,d,t,os⟩:=by
 have tD:(⟨h,g,d,t,os⟩:Shared).TypeIs (.builtin "object.__class__") "getset_descriptor" := F.typeOf_object_class
 have g5:=F.typeOf_object_class
 have g6:=F.slot_gs_get.lookup
 have g7:=F.slot_gs_set.lookup
 have lk:=fun M=>PySem.W.looks_findIn (M:=M) k X.fc
 repeat (any_goals (first
  |assumption
  |(with_reducible refine wpAny_loadPart_at hx ?_;rw [hc])
  |(with_reducible refine (lk _).here ?_)
  | wp_step))
 refine Ab X k hx hc ?_
 repeat (any_goals (first
  |assumption
  | wp_step))
theorem zZ {nameV:Value}{Q:Unit->Shared->Prop}(X:lu K C bm)(k:K.In h)(hx:h.get? a=some o)(hc:o.cls=.ref C)(hq:Q () ⟨h,g,d,t,os⟩):
  wpAny M A (checkBuiltinCall "BaseException.__getattribute__" ⟨[.ref a,nameV],[]⟩) Q E ⟨h,g,d,t,os⟩:=by
 obtain⟨ini,cls⟩:=X.cls
 obtain⟨N,nm,q,bs,hdct,sn,sub,ab,col,dd,k0,k1,k2,k3,k5,mN,e1,_⟩:=cls.at
 have hC:=(e1 _ k).1
 have y1:builtinKind "BaseException.__getattribute__" = some .slot:=by decide +kernel
 have y2:splitId "BaseException.__getattribute__" = some ("BaseException","__getattribute__"):=by decide +kernel
 have hcE:(Value.ref C::bm).contains (.type "BaseException")=true:=by rw [List.contains_cons,X.be,Bool.or_true]
 have y3:=F.args_bexc_ga (.ref a) nameV
 simp only [checkBuiltinCall,y1,y2]
 refine wpAny_bind ?_
 unfold isInstance
 repeat (first
  |(with_reducible refine wpAny_loadPart_at hx ?_;rw [hc])
  |(with_reducible refine PySem.wpAny_isSubtype_exc hC ?_;rw [hcE])
  | wp_step)
 exact hq
theorem zY {Q:Value->Shared->Prop}(X:lu K C bm)(k:K.In h)(hx:h.get? a=some o)(hc:o.cls=.ref C)(hq:Q (.ref C) ⟨h,g,d,t,os⟩):
  wpAny (model prog w) A (getAttrBy (.ref a) (.str "__class__" tk) false) Q E ⟨h,g,d,t,os⟩:=by
 have lg:=fun M=>PySem.W.looks_findIn (M:=M) k X.fg
 have ln:=fun M=>PySem.W.looks_findIn (M:=M) k X.fn
 have z1:=F.attr_ValueError.ga.bind (.ref a)
 have z2:(Value.builtin "BaseException.__getattribute__" == Value.builtin "object.__getattribute__")=false:=by decide +kernel
 have z3:(onTheHeap (Value.ref C)&&Value.builtin "BaseException.__getattribute__" == Value.builtin "object.__getattribute__")=false:=by rw [z2];rfl
 repeat (any_goals (first
  |assumption
  |(with_reducible refine wpAny_loadPart_at hx ?_;rw [hc])
  |(with_reducible refine (lg _).here ?_)
  |(with_reducible refine (ln _).here ?_)
  | wp_step))
 refine codeAny_call_builtin F.attr_ValueError.ga.plain F.entry_bexc_ga (zZ X k hx hc (Aa X k hx hc ?_))
 repeat (any_goals (first
  |assumption
  | wp_step))
theorem zX {Q:Option Value->Shared->Prop}(X:lu K C bm)(k:K.In h)(hx:h.get? a=some o)(hc:o.cls=.ref C)(hq:Q (some (.ref C)) ⟨h,g,d,t+1,os⟩):
  wpAny (model prog w) A (getAttr? (.ref a) "__class__") Q E ⟨h,g,d,t,os⟩:=by
 unfold getAttr? getAttrBy?
 repeat (any_goals (first
  |assumption
  |(with_reducible apply zY X k hx hc)
  | wp_step))
theorem qA (X:lu K C bm):PySem.W.KitX K (.ref a) (.ref C) (eg a C od):=by
 obtain⟨ini,cls⟩:=X.cls
 obtain⟨N,nm,q,bs,hdct,sn,sub,ab,col,dd,k0,k1,k2,k3,k5,mN,e1,_⟩:=cls.at
 refine⟨fun M h k he=>?_,fun M h k he=>?_,fun h tp dd' its n sl k htp=>?_,fun {prog w A E Q s} k he hq=>?_⟩
 ·obtain⟨oe,vs,g1,g2,g3,_⟩:=he
  intro A' Q' E' s' kk hq
  obtain⟨hp,gg,dd,tk,os⟩:=s'
  have g1':=kk _ _ g1
  repeat (first
   |(with_reducible refine wpAny_loadPart_at g1' ?_;rw [g2])
   | wp_step)
  exact hq
 ·intro A' Q' E' s' kk hq
  unfold isType loadHead
  exact wpAny_bind (wpAny_loadPart (kk _ _ (e1 _ k).1) (wpAny_pure hq))
 ·refine Bool.eq_false_iff.mpr fun z=>?_
  have e:C=tp:=Value.ref.inj (beq_iff_eq.mp z)
  subst e
  have z2:=(e1 _ k).1.symm.trans htp
  injection z2 with z2
  have z3:=congrArg Obj.cls z2
  injection z3 with z3
  exact absurd z3 (by decide)
 ·obtain⟨oe,vs,g1,g2,g3,_⟩:=he
  obtain⟨hp,gg,dd,tk,os⟩:=s
  exact zX X k g1 g2 hq
end
open Builtin Builtin.ObjectAttr
section
variable {prog:Program}{w:World}{A:Around}{E:Value->Shared->Prop}{s:Shared}{K:PySem.W.Frag}{x C:Addr}{ox:Obj}{od:Option Obj}{name:Str}{tk:Tok}{v:Value}{R:Result->Shared->Prop}
end
section
variable {X:Cx}{pins:List (Addr×Obj)}{σ:St}{H:Hp}{s:Shared}{a C:Addr}{f:Str}
end
end L2
namespace TM
open PySem PySem.Spec PyProof.Rows L2
inductive T where
 |non | bl (b:Bool) | int (i:Int) | str (x:Str) | ty (n:String) | tup (ts:List T) | lst (ts:List T) | scr (ts:List T) | dic | obj (C:Addr) (ns:List Str) (ts:List T) | ptr (a:Addr) | exc (C:Addr) (ns:List Str) (ts:List T)
mutual
def Rep (K:PySem.W.Frag)(F:Hp):T->V->Prop
 | .non,v=>v=.non
 | .bl b,v=>v=.bl b
 | .int i,v=>v=.int i
 | .str x,v=>v=.str x
 | .ty n,v=>v=.ty n
 | .tup ts,v=>∃a xs,v=.ref a/\kW K F a xs/\aP K F ts xs
 | .lst ts,v=>∃a xs,v=.ref a/\F a=some (.lst xs)/\aP K F ts xs
 | .scr ts,v=>∃a xs,v=.ref a/\iK K F a xs/\aP K F ts xs
 | .dic,v=>∃a,v=.ref a/\F a=some (.dK [])
 | .obj C ns ts,v=>∃a dx vs,v=.ref a/\F a=some (.ins C dx (ns.zip vs))/\vs.length=ns.length/\aP K F ts vs
 | .ptr a,v=>v=.ref a
 | .exc C ns ts,v=>∃a od,v=.ref a/\F a=some (.ext (eg a C od))/\((ns=[]/\ts=[]/\od=none)\/∃d us,od=some d/\F d=some (.xd (ns.zip us))/\us.length=ns.length/\aP K F ts us)
def aP (K:PySem.W.Frag)(F:Hp):List T->List V->Prop
 |[],xs=>xs=[]
 |t::ts,xs=>∃v r,xs=v::r/\Rep K F t v/\aP K F ts r
end
theorem bB {K:PySem.W.Frag}{H H':Hp}{a:Addr}{xs:List V}(e:aD H H')(h:kW K H a xs):kW K H' a xs:=by
 rcases h with (h | ⟨o,h⟩) | h
 ·exact .inl (.inl (e _ _ h))
 ·exact .inl (.inr ⟨o,e _ _ h⟩)
 ·exact .inr h
mutual
theorem Rep.mono {K:PySem.W.Frag}{F F':Hp}(e:aD F F'):∀{t:T} {v:V},Rep K F t v->Rep K F' t v
 | .non,_,h=>h
 | .bl _,_,h=>h
 | .int _,_,h=>h
 | .str _,_,h=>h
 | .ty _,_,h=>h
 | .tup ts,_,h=>by
  obtain⟨a,xs,h1,h2,h3⟩:=h
  exact⟨a,xs,h1,bB e h2,aP.mono e h3⟩
 | .lst ts,_,h=>by
  obtain⟨a,xs,h1,h2,h3⟩:=h
  exact⟨a,xs,h1,e _ _ h2,aP.mono e h3⟩
 | .scr ts,_,h=>by
  obtain⟨a,xs,h1,h2,h3⟩:=h
  exact⟨a,xs,h1,e.seq h2,aP.mono e h3⟩
 | .dic,_,h=>by
  obtain⟨a,h1,h2⟩:=h
  exact⟨a,h1,e _ _ h2⟩
 | .obj C ns ts,_,h=>by
  obtain⟨a,dx,vs,h1,h2,h3,h4⟩:=h
  exact⟨a,dx,vs,h1,e _ _ h2,h3,aP.mono e h4⟩
 | .ptr _,_,h=>h
 | .exc _ _ ts,_,h=>by
  obtain⟨a,od,h1,h2,h3⟩:=h
  refine⟨a,od,h1,e _ _ h2,h3.imp id fun⟨d,us,k1,k2,k3,k4⟩=>⟨d,us,k1,e _ _ k2,k3,aP.mono e k4⟩⟩
theorem aP.mono {K:PySem.W.Frag}{F F':Hp}(e:aD F F'):∀{ts:List T} {vs:List V},aP K F ts vs->aP K F' ts vs
 |[],_,h=>h
 |t::ts,_,h=>by
  obtain⟨v,r,h1,h2,h3⟩:=h
  exact⟨v,r,h1,Rep.mono e h2,aP.mono e h3⟩
end
section
variable {K:PySem.W.Frag}{F:Hp}
theorem aP.length:∀{ts:List T} {vs:List V},aP K F ts vs->vs.length=ts.length
 |[],_,h=>by cases h;rfl
 |t::ts,_,h=>by
  obtain⟨v,r,rfl,h2,h3⟩:=h
  simp [aP.length h3]
theorem aP.get:∀{ts:List T} {vs:List V} {i:Nat} {t:T},aP K F ts vs->ts[i]? = some t->∃v,vs[i]? = some v/\Rep K F t v
 |[],_,_,_,h,e=>by simp at e
 |t::ts,_,0,_,h,e=>by
  obtain⟨v,r,rfl,h2,h3⟩:=h
  simp at e;subst e
  exact⟨v,rfl,h2⟩
 |t::ts,_,i+1,u,h,e=>by
  obtain⟨v,r,rfl,h2,h3⟩:=h
  obtain⟨w,h4,h5⟩:=aP.get (i:=i) (t:=u) h3 (by simpa using e)
  exact⟨w,by simpa using h4,h5⟩
theorem aP.append:∀{ts us:List T} {vs ws:List V},aP K F ts vs->aP K F us ws->aP K F (ts++us) (vs++ws)
 |[],_,_,_,h,h'=>by cases h;exact h'
 |t::ts,_,_,_,h,h'=>by
  obtain⟨v,r,rfl,h2,h3⟩:=h
  exact⟨v,r++_,rfl,h2,aP.append h3 h'⟩
theorem aP.one (h:Rep K F t v):aP K F [t] [v]:=⟨v,[],rfl,h,rfl⟩
theorem nR:∀ns:List Int,aP K F (ns.map T.int) (ns.map V.int)
 |[]=>rfl
 |n::ns=>⟨.int n,ns.map V.int,rfl,rfl,nR ns⟩
end
structure aS (F H F' H':Hp):Prop where
 sF:aD F F'
 sH:aD H H'
 fh:aD F' H'
 nw:∀a o,F' a=some o->F a=some o\/H a=none
theorem aS.refl (h:aD F H):aS F H F H:=⟨aD.refl _,aD.refl _,h,fun _ _ e=>.inl e⟩
theorem aS.trans (a:aS F H F1 H1)(b:aS F1 H1 F2 H2):aS F H F2 H2:=
 ⟨a.sF.trans b.sF,a.sH.trans b.sH,b.fh,fun x o e=>by
  rcases b.nw x o e with e | e
  ·exact a.nw x o e
  ·exact .inr (a.sH.free e)⟩
theorem cy {H:Hp}(h:H p=none):aD H (upd H p o):=fun b u q=>by rw [aB (aO q h)];exact q
theorem aS.new (o:HO)(h:aD F H)(n:H p=none):aS F H (upd F p o) (upd H p o):=by
 refine⟨cy (h.free n),cy n,fun b u q=>?_,fun a u q=>?_⟩
 ·by_cases e:b=p
  ·subst e;rw [aM] at q ⊢;exact q
  ·rw [aB e] at q ⊢;exact h _ _ q
 ·by_cases e:a=p
  ·subst e;exact .inr n
  ·rw [aB e] at q;exact .inl q
inductive Sl where
 |sh (t:T) | own (ts:List T)
abbrev aw:=List (Option Sl)
def vB (K:PySem.W.Frag)(Y9 F H:Hp):Sl->V->Prop
 | .sh t,v=>Rep K F t v
 | .own ts,v=>∃p vs,v=.ref p/\H p=some (.lst vs)/\F p=none/\Y9 p=none/\aP K F ts vs
structure au (K:PySem.W.Frag)(Y0 Y9 F H:Hp)(σ:L2.St)(τ:aw):Prop where
 g:aS Y0 Y9 F H
 len:σ.length=τ.length
 sl:∀(i:Nat) (s:Sl),τ[i]? = some (some s)->∃v,σ[i]? = some (some v)/\vB K Y9 F H s v
 dj:∀(i j:Nat) (ts us:List T) (p:Addr),i≠j->τ[i]? = some (some (.own ts))->τ[j]? = some (some (.own us))->σ[i]? = some (some (.ref p))->σ[j]?≠some (some (.ref p))
section
variable {K:PySem.W.Frag}{Y0 Y9 F H F' H':Hp}{σ:L2.St}{τ:aw}
theorem vB.grow (g:aS F H F' H')(h:vB K Y9 F H s v):vB K Y9 F' H' s v:=by
 cases s with
 |sh t=>exact Rep.mono g.sF h
 |own ts =>
  obtain⟨p,vs,h1,h2,h3,h4,h5⟩:=h
  refine⟨p,vs,h1,g.sH _ _ h2,?_,h4,aP.mono g.sF h5⟩
  cases e:F' p with
  |none=>rfl
  |some o =>
   rcases g.nw p o e with q | q
   ·rw [q] at h3;cases h3
   ·rw [q] at h2;cases h2
theorem au.grow (E:au K Y0 Y9 F H σ τ)(g:aS F H F' H'):au K Y0 Y9 F' H' σ τ:=by
 refine⟨E.g.trans g,E.len,fun i s e=>?_,E.dj⟩
 obtain⟨v,h1,h2⟩:=E.sl i s e
 exact⟨v,h1,h2.grow g⟩
theorem au.set {i:Nat}(E:au K Y0 Y9 F H σ τ)(r:Rep K F t v):au K Y0 Y9 F H (σ.set i (some v)) (τ.set i (some (.sh t))):=by
 refine⟨E.g,by simp [E.len],fun j s e=>?_,fun j k ts us p hjk e1 e2 e3=>?_⟩
 ·by_cases hj:i=j
  ·subst hj
   by_cases hl:i<τ.length
   ·rw [List.getElem?_set_self hl] at e
    cases e
    exact⟨v,List.getElem?_set_self (by rw [E.len];exact hl),r⟩
   ·rw [List.getElem?_eq_none (by simp;omega)] at e;cases e
  ·rw [List.getElem?_set_ne hj] at e
   rw [List.getElem?_set_ne hj]
   exact E.sl j s e
 ·have n1:i≠j:=fun z=>by
   subst z
   by_cases hl:i<τ.length
   ·rw [List.getElem?_set_self hl] at e1;cases e1
   ·rw [List.getElem?_eq_none (by simp;omega)] at e1;cases e1
  have n2:i≠k:=fun z=>by
   subst z
   by_cases hl:i<τ.length
   ·rw [List.getElem?_set_self hl] at e2;cases e2
   ·rw [List.getElem?_eq_none (by simp;omega)] at e2;cases e2
  rw [List.getElem?_set_ne n1] at e1 e3
  rw [List.getElem?_set_ne n2] at e2 ⊢
  exact E.dj j k ts us p hjk e1 e2 e3
theorem au.freeze {i:Nat}(E:au K Y0 Y9 F H σ τ)(e:τ[i]? = some (some (.own ts))):
  ∃F' v,σ[i]? = some (some v)/\au K Y0 Y9 F' H σ (τ.set i (some (.sh (.lst ts))))/\aD F F'/\Rep K F' (.lst ts) v:=by
 obtain⟨v,h1,p,vs,rfl,h2,h3,h4,h5⟩:=E.sl i _ e
 have sF:aD F (upd F p (.lst vs)):=cy h3
 have rp:Rep K (upd F p (.lst vs)) (.lst ts) (.ref p):=⟨p,vs,rfl,aM,aP.mono sF h5⟩
 refine⟨upd F p (.lst vs),.ref p,h1,⟨⟨E.g.sF.trans sF,E.g.sH,fun b o q=>?_,fun b o q=>?_⟩,by simp [E.len],fun j s q=>?_,fun j k us ws r hjk e1 e2 e3=>?_⟩,sF,rp⟩
 ·by_cases z:b=p
  ·subst z;rw [aM] at q;cases q;exact h2
  ·rw [aB z] at q;exact E.g.fh _ _ q
 ·by_cases z:b=p
  ·subst z;exact .inr h4
  ·rw [aB z] at q;exact E.g.nw _ _ q
 ·by_cases hj:i=j
  ·subst hj
   have hl:i<τ.length:=by
    have:=(List.getElem?_eq_some_iff.mp e).1
    exact this
   rw [List.getElem?_set_self hl] at q
   cases q
   exact⟨_,h1,rp⟩
  ·rw [List.getElem?_set_ne hj] at q
   obtain⟨v,g1,g2⟩:=E.sl j s q
   refine⟨v,g1,?_⟩
   cases s with
   |sh t=>exact Rep.mono sF g2
   |own us =>
    obtain⟨r,ws,rfl,k2,k3,k4,k5⟩:=g2
    have hne:r≠p:=fun z=>by
     subst z
     exact E.dj i j ts us r hj e q h1 g1
    exact⟨r,ws,rfl,k2,by rw [aB hne];exact k3,k4,aP.mono sF k5⟩
 ·have hl:i<τ.length:=(List.getElem?_eq_some_iff.mp e).1
  have n1:i≠j:=fun z=>by subst z;rw [List.getElem?_set_self hl] at e1;cases e1
  have n2:i≠k:=fun z=>by subst z;rw [List.getElem?_set_self hl] at e2;cases e2
  rw [List.getElem?_set_ne n1] at e1
  rw [List.getElem?_set_ne n2] at e2
  exact E.dj j k us ws r hjk e1 e2 e3
theorem au.setOwn {i:Nat}(E:au K Y0 Y9 F H σ τ)(n:H p=none)(r:aP K F ts vs):au K Y0 Y9 F (upd H p (.lst vs)) (σ.set i (some (.ref p))) (τ.set i (some (.own ts))):=by
 have sH:aD H (upd H p (.lst vs)):=cy n
 have fp:F p=none:=E.g.fh.free n
 have old:∀{j:Nat} {s:Sl},i≠j->τ[j]? = some (some s)->∃v,σ[j]? = some (some v)/\vB K Y9 F (upd H p (.lst vs)) s v:=fun {j s} hj q=>by
  obtain⟨v,g1,g2⟩:=E.sl j s q
  refine⟨v,g1,?_⟩
  cases s with
  |sh t=>exact g2
  |own us =>
   obtain⟨r,ws,rfl,k2,k3,k4,k5⟩:=g2
   exact⟨r,ws,rfl,sH _ _ k2,k3,k4,k5⟩
 refine⟨⟨E.g.sF,E.g.sH.trans sH,E.g.fh.trans sH,E.g.nw⟩,by simp [E.len],fun j s e=>?_,fun j k ts' us q hjk e1 e2 e3 e4=>?_⟩
 ·by_cases hj:i=j
  ·subst hj
   by_cases hl:i<τ.length
   ·rw [List.getElem?_set_self hl] at e
    cases e
    exact⟨.ref p,List.getElem?_set_self (by rw [E.len];exact hl),p,vs,rfl,aM,fp,E.g.sH.free n,r⟩
   ·rw [List.getElem?_eq_none (by simp;omega)] at e;cases e
  ·rw [List.getElem?_set_ne hj] at e
   rw [List.getElem?_set_ne hj]
   exact old hj e
 ·by_cases hj:i=j
  ·subst hj
   have n2:i≠k:=hjk
   rw [List.getElem?_set_ne n2] at e2 e4
   by_cases hl:i<τ.length
   ·rw [List.getElem?_set_self (by rw [E.len];exact hl)] at e3
    cases e3
    obtain⟨v,g1,r',ws,rfl,k2,_⟩:=E.sl k _ e2
    rw [g1] at e4;cases e4
    rw [n] at k2;cases k2
   ·rw [List.getElem?_eq_none (by simp;omega)] at e1;cases e1
  ·rw [List.getElem?_set_ne hj] at e1 e3
   by_cases hk:i=k
   ·subst hk
    by_cases hl:i<τ.length
    ·rw [List.getElem?_set_self (by rw [E.len];exact hl)] at e4
     cases e4
     obtain⟨v,g1,r',ws,rfl,k2,_⟩:=E.sl j _ e1
     rw [g1] at e3;cases e3
     rw [n] at k2;cases k2
    ·rw [List.getElem?_eq_none (by simp;omega)] at e2;cases e2
   ·rw [List.getElem?_set_ne hk] at e2 e4
    exact E.dj j k ts' us q hjk e1 e2 e3 e4
theorem au.turnOwn {i:Nat}(E:au K Y0 Y9 F H σ τ)(e:τ[i]? = some (some (.own ts)))(hp:σ[i]? = some (some (.ref p)))(r:aP K F us vs):
  au K Y0 Y9 F (upd H p (.lst vs)) σ (τ.set i (some (.own us))):=by
 obtain⟨v,h1,p',vs',rfl,h2,h3,h4,h5⟩:=E.sl i _ e
 rw [hp] at h1;cases h1
 have hl:i<τ.length:=(List.getElem?_eq_some_iff.mp e).1
 refine⟨⟨E.g.sF,fun b o q=>?_,fun b o q=>?_,E.g.nw⟩,by simp [E.len],fun j s q=>?_,fun j k ts' us' q hjk e1 e2 e3=>?_⟩
 ·rw [aB (fun z=>by subst z;rw [h4] at q;cases q)];exact E.g.sH _ _ q
 ·rw [aB (fun z=>by subst z;rw [h3] at q;cases q)];exact E.g.fh _ _ q
 ·by_cases hj:i=j
  ·subst hj
   rw [List.getElem?_set_self hl] at q;cases q
   exact⟨_,hp,p,vs,rfl,aM,h3,h4,r⟩
  ·rw [List.getElem?_set_ne hj] at q
   obtain⟨v,g1,g2⟩:=E.sl j s q
   refine⟨v,g1,?_⟩
   cases s with
   |sh t=>exact g2
   |own us' =>
    obtain⟨r',ws,rfl,k2,k3,k4,k5⟩:=g2
    have hne:r'≠p:=fun z=>by subst z;exact E.dj i j ts us' r' hj e q hp g1
    exact⟨r',ws,rfl,by rw [aB hne];exact k2,k3,k4,k5⟩
 ·have q1:∃zs,τ[j]? = some (some (.own zs)):=by
   by_cases hj:i=j
   ·subst hj;exact⟨_,e⟩
   ·rw [List.getElem?_set_ne hj] at e1;exact⟨_,e1⟩
  have q2:∃zs,τ[k]? = some (some (.own zs)):=by
   by_cases hj:i=k
   ·subst hj;exact⟨_,e⟩
   ·rw [List.getElem?_set_ne hj] at e2;exact⟨_,e2⟩
  obtain⟨z1,q1⟩:=q1
  obtain⟨z2,q2⟩:=q2
  exact E.dj j k z1 z2 q hjk q1 q2 e3
end
abbrev FE:=aw->Option (T×aw)
abbrev FA:=aw->Option (List T×aw)
abbrev FT:=aw->Option (Bool×aw)
inductive R where
 |nx (τ:aw) | rt (t:T) | bk (τ:aw) | ct (τ:aw)
abbrev FS:=aw->Option R
abbrev FG:=T->aw->Option aw
section
variable (K:PySem.W.Frag)(Y0 Y9:Hp)
def tE (f:FE):TE:=fun σ H Q=>∃F τ t τ',au K Y0 Y9 F H σ τ/\f τ=some (t,τ')/\∀F' H' v,au K Y0 Y9 F' H' σ τ'->aD F F'->Rep K F' t v->Q v H'
def tA (f:FA):TA:=fun σ H Q=>∃F τ ts τ',au K Y0 Y9 F H σ τ/\f τ=some (ts,τ')/\∀F' H' vs,au K Y0 Y9 F' H' σ τ'->aD F F'->aP K F' ts vs->Q vs H'
def tT (f:FT):TT:=fun σ H Q=>∃F τ b τ',au K Y0 Y9 F H σ τ/\f τ=some (b,τ')/\∀F' H',au K Y0 Y9 F' H' σ τ'->aD F F'->Q b H'
def lz (F:Hp)(D:Ends):R->Prop
 | .nx τ'=>∀F' H' σ',au K Y0 Y9 F' H' σ' τ'->aD F F'->D.nx σ' H'
 | .rt t=>∀F' H' v,aS Y0 Y9 F' H'->Rep K F' t v->D.rt v H'
 | .bk τ'=>∀F' H' σ',au K Y0 Y9 F' H' σ' τ'->aD F F'->D.bk σ' H'
 | .ct τ'=>∀F' H' σ',au K Y0 Y9 F' H' σ' τ'->aD F F'->D.ct σ' H'
def tS (f:FS):TS:=fun D σ H=>∃F τ r,au K Y0 Y9 F H σ τ/\f τ=some r/\lz K Y0 Y9 F D r
end
def SE (X:Cx)(e:Expr)(f:FE):Prop:=∀Y0 Y9,PE X e (tE X.K Y0 Y9 f)
def SA (X:Cx)(es:List Expr)(f:FA):Prop:=∀Y0 Y9,PA X es (tA X.K Y0 Y9 f)
def ST (X:Cx)(e:Expr)(f:FT):Prop:=∀Y0 Y9,PT X e (tT X.K Y0 Y9 f)
def SW (X:Cx)(e:Expr)(f:FT):Prop:=∀Y0 Y9,PW X e (tT X.K Y0 Y9 f)
def SS (X:Cx)(st:Stmt)(f:FS):Prop:=∀Y0 Y9,PS X st (tS X.K Y0 Y9 f)
def pV (X:Cx)(st:List Stmt)(f:FS):Prop:=∀Y0 Y9,kH X st (tS X.K Y0 Y9 f)
section
variable {X:Cx}{e a b:Expr}{pos:Pos}{f fa fb:FE}
theorem PE.weak {t t':TE}(h:PE X e t)(i:∀σ H Q,t' σ H Q->t σ H Q):PE X e t':=fun pins s σ H Q I q=>h pins s σ H Q I (i σ H Q q)
theorem PT.weak {t t':TT}(h:PT X e t)(i:∀σ H Q,t' σ H Q->t σ H Q):PT X e t':=fun pins s σ H Q I q=>h pins s σ H Q I (i σ H Q q)
theorem PW.weak {t t':TT}(h:PW X e t)(i:∀σ H Q,t' σ H Q->t σ H Q):PW X e t':=fun wh pins s σ H Q I q=>h wh pins s σ H Q I (i σ H Q q)
theorem PA.weak {t t':TA}(h:PA X es t)(i:∀σ H Q,t' σ H Q->t σ H Q):PA X es t':=fun p pins s σ H Q I q=>h p pins s σ H Q I (i σ H Q q)
theorem PS.weak {st:Stmt}{t t':TS}(h:PS X st t)(i:∀D σ H,t' D σ H->t D σ H):PS X st t':=fun pins s σ H D I q=>h pins s σ H D I (i D σ H q)
theorem kH.weak {st:List Stmt}{t t':TS}(h:kH X st t)(i:∀D σ H,t' D σ H->t D σ H):kH X st t':=fun pins s σ H D I q=>h pins s σ H D I (i D σ H q)
def fC (t:T):FE:=fun τ=>some (t,τ)
def ai (i:Nat):FE:=fun τ=>match τ[i]? with
 |some (some (.sh t))=>some (t,τ)
 |some (some (.own ts))=>some (.lst ts,τ.set i (some (.sh (.lst ts))))
 |_=>none
theorem el (h:PE X e (tC v))(r:∀F,Rep X.K F t v):SE X e (fC t):=fun Y0 Y9=>PE.weak h fun σ H Q hq__=>by
 obtain⟨F,τ,t',τ',E,e1,q⟩:=hq__
 cases e1
 exact q F H v E (aD.refl _) (r F)
theorem ak {i:Int}{j}:SE X (.Constant (.int i) j pos) (fC (.int i)):=el A9 fun _=>rfl
theorem cG {c:Bool}{j}:SE X (.Constant (.bool c) j pos) (fC (.bl c)):=el C3 fun _=>rfl
theorem mG {j}:SE X (.Constant .none j pos) (fC .non):=el Ba fun _=>rfl
theorem kn {j}:SE X (.Constant (.str x) j pos) (fC (.str x)):=el Bd fun _=>rfl
theorem ae (i:Nat)(h:PE X (.Name x pos) (xI i)):SE X (.Name x pos) (ai i):=fun Y0 Y9=>PE.weak h fun σ H Q hq__=>by
 obtain⟨F,τ,t,τ',E,e1,q⟩:=hq__
 unfold ai at e1
 split at e1
 ·next t' e2 =>
  cases e1
  obtain⟨v,h1,h2⟩:=E.sl i _ e2
  exact⟨v,h1,q F H v E (aD.refl _) h2⟩
 ·next ts e2 =>
  cases e1
  obtain⟨F',v,h1,E',sF,r⟩:=E.freeze e2
  exact⟨v,h1,q F' H v E' sF r⟩
 ·cases e1
theorem iS (hg:Gl X x)(hm:X.mg x=none)(hv:bootBuiltins x=some (.type n))(hn:x≠"__name__" := by decide)(hd:(x == ("__debug__" : Str))=false:=by decide):SE X (.Name x pos) (fC (.ty n)):=
 el (yS (v:=.ty n) hg hm hv rfl hn hd) fun _=>rfl
def BS (K:PySem.W.Frag)(g:T->T->Option T):R2:=fun x y H Q=>∃F a b t,aD F H/\Rep K F a x/\Rep K F b y/\g a b=some t/\∀F' H' v,aS F H F' H'->Rep K F' t v->Q v H'
def Ge (K:PySem.W.Frag)(g:T->Option T):V->Hp->VK->Prop:=fun x H Q=>∃F a t,aD F H/\Rep K F a x/\g a=some t/\∀F' H' v,aS F H F' H'->Rep K F' t v->Q v H'
def DX (K:PySem.W.Frag)(g:List T->Option T):List V->Hp->VK->Prop:=fun xs H Q=>∃F ts t,aD F H/\aP K F ts xs/\g ts=some t/\∀F' H' v,aS F H F' H'->Rep K F' t v->Q v H'
abbrev jK (X:Cx)(f:Value->Value->Sem Value)(g:T->T->Option T):Prop:=lE X f (BS X.K g)
abbrev EX (X:Cx)(f:Value->Sem Value)(g:T->Option T):Prop:=DM X f (Ge X.K g)
abbrev jh (X:Cx)(f:Value)(g:List T->Option T):Prop:=eM X f (DX X.K g)
def aJ (g:T->T->Option T)(fa fb:FE):FE:=fun τ=>(fa τ).bind fun p=>(fb p.2).bind fun q=>(g p.1 q.1).bind fun t=>some (t,q.2)
def rN (g:T->Option T)(fa:FE):FE:=fun τ=>(fa τ).bind fun p=>(g p.1).bind fun t=>some (t,p.2)
theorem bind_some {α β:Type}{o:Option α}{f:α->Option β}{z:β}(h:o.bind f=some z):∃x,o=some x/\f x=some z:=by
 cases o with
 |none=>cases h
 |some x=>exact⟨x,rfl,h⟩
theorem lj {g:T->T->Option T}{Y0 Y9:Hp}{σ:L2.St}{H:Hp}{Q:VK}(h:tE X.K Y0 Y9 (aJ g fa fb) σ H Q):DA (BS X.K g) (tE X.K Y0 Y9 fa) (tE X.K Y0 Y9 fb) σ H Q:=by
 obtain⟨F,τ,t,τ',E,e1,q⟩:=h
 obtain⟨⟨x,τ1⟩,e2,e1⟩:=bind_some e1
 obtain⟨⟨y,τ2⟩,e3,e1⟩:=bind_some e1
 obtain⟨z,e4,e1⟩:=bind_some e1
 cases e1
 refine⟨F,τ,x,τ1,E,e2,fun F1 H1 v1 E1 s1 r1=>⟨F1,τ1,y,_,E1,e3,fun F2 H2 v2 E2 s2 r2=>?_⟩⟩
 exact⟨F2,x,y,t,E2.g.fh,Rep.mono s2 r1,r2,e4,fun F3 H3 v3 g3 r3=>q F3 H3 v3 (E2.grow g3) ((s1.trans s2).trans g3.sF) r3⟩
theorem ay (ho:jK X (binaryOp op) g)(ha:SE X a fa)(hb:SE X b fb):SE X (.BinOp a op b pos) (aJ g fa fb):=
 fun Y0 Y9=>PE.weak (C6 ho (ha Y0 Y9) (hb Y0 Y9)) fun _ _ _=>lj
theorem Di {op:UnaryOp}{g:T->Option T}(ho:EX X (unaryOp op) g)(ha:SE X a fa):SE X (.UnaryOp op a pos) (rN g fa):=
 fun Y0 Y9=>PE.weak (C7 ho (ha Y0 Y9)) fun σ H Q hq__=>by
  obtain⟨F,τ,t,τ',E,e1,q⟩:=hq__
  obtain⟨⟨x,τ1⟩,e2,e1⟩:=bind_some e1
  obtain⟨z,e4,e1⟩:=bind_some e1
  cases e1
  exact⟨F,τ,x,_,E,e2,fun F1 H1 v1 E1 s1 r1=>⟨F1,x,t,E1.g.fh,r1,e4,fun F3 H3 v3 g3 r3=>q F3 H3 v3 (E1.grow g3) (s1.trans g3.sF) r3⟩⟩
theorem fA (ho:jK X (compareOp op) g)(ha:SE X a fa)(hb:SE X b fb)(hm:behindInMarks op b=false):SE X (.Compare a [op] [b] pos) (aJ g fa fb):=
 fun Y0 Y9=>PE.weak (yU ho (ha Y0 Y9) (hb Y0 Y9) hm) fun _ _ _=>lj
theorem dF (ho:BG X (BS X.K g))(ha:SE X a fa)(hb:SE X b fb)(hs:tf b):SE X (.Subscript a b pos) (aJ g fa fb):=
 fun Y0 Y9=>PE.weak (C5 ho (ha Y0 Y9) (hb Y0 Y9) hs) fun _ _ _=>lj
def fL (f:FE):FT:=fun τ=>(f τ).bind fun p=>match p.1 with | .bl c=>some (c,p.2) | _=>none
def D1:T->Option Bool
 | .non=>some false
 | .bl c=>some c
 | .int i=>some (i != 0)
 | .str x=>if x.length≤sizeLine then some ((x.length:Int) != 0) else none
 | .tup ts=>some (!ts.isEmpty)
 | .lst ts=>some (!ts.isEmpty)
 | .scr ts=>some (!ts.isEmpty)
 | .dic=>some false
 | .obj _ _ _=>none
 | .ptr _=>none
 | .exc _ _ _=>none
 | .ty _=>none
def cm (f:FE):FT:=fun τ=>(f τ).bind fun p=>(D1 p.1).bind fun c=>some (c,p.2)
theorem ck {op:CmpOp}{g:T->T->Option T}(ho:jK X (compareOp op) g)(ha:SE X a fa)(hb:SE X b fb)(hm:behindInMarks op b=false):ST X (.Compare a [op] [b] pos) (fL (aJ g fa fb)):=
 fun Y0 Y9=>PT.weak (zc ho (ha Y0 Y9) (hb Y0 Y9) hm) fun σ H Q hq__=>by
  obtain⟨F,τ,c,τ',E,e1,q⟩:=hq__
  obtain⟨⟨x,τ1⟩,e2,e1⟩:=bind_some e1
  dsimp only at e1
  split at e1
  ·cases e1
   refine lj (Q:=fun x H'=>∃k,x=V.bl k/\Q k H') ⟨F,τ,_,_,E,e2,fun F' H' v E' s' r'=>?_⟩
   exact⟨c,r',q F' H' E' s'⟩
  ·cases e1
theorem gK {K:PySem.W.Frag}{F:Hp}{ts:List T}{vs:List V}(h:aP K F ts vs):vs.isEmpty=ts.isEmpty:=by
 cases ts with
 |nil=>cases h;rfl
 |cons t ts=>obtain⟨v,r,rfl,_⟩:=h;rfl
theorem zp {K:PySem.W.Frag}{F H:Hp}{t:T}{v:V}{c:Bool}(s:aD F H)(r:Rep K F t v)(e:D1 t=some c):zU K v H c:=by
 cases t with
 |non=>cases r;cases e;exact rfl
 |bl _=>cases r;cases e;exact rfl
 |int _=>cases r;cases e;exact rfl
 |str x =>
  cases r
  simp only [D1] at e
  split at e
  ·next h=>cases e;exact⟨h,rfl⟩
  ·cases e
 |ty _=>cases e
 |tup ts =>
  obtain⟨p,xs,rfl,h1,h2⟩:=r
  cases e
  exact .inr (.inl ⟨xs,bB s h1,by rw [gK h2]⟩)
 |lst ts =>
  obtain⟨p,xs,rfl,h1,h2⟩:=r
  cases e
  exact .inl ⟨xs,iK.of (s _ _ h1),by rw [gK h2]⟩
 |scr ts =>
  obtain⟨p,xs,rfl,h1,h2⟩:=r
  cases e
  exact .inl ⟨xs,s.seq h1,by rw [gK h2]⟩
 |dic =>
  obtain⟨p,rfl,h1⟩:=r
  cases e
  exact .inr (.inr ⟨[],s _ _ h1,rfl⟩)
 |obj _ _ _=>cases e
 |ptr _=>cases e
 |exc _ _ _=>cases e
theorem bN (h:SE X e f)(he:∀whole,isTrue e X.env whole=(do let v <- whole;standAt e.pos;holding [v] (truthy v)):=by intro _;rfl):ST X e (cm f):=
 fun Y0 Y9=>PT.weak (xj (h Y0 Y9) he) fun σ H Q hq__=>by
  obtain⟨F,τ,c,τ',E,e1,q⟩:=hq__
  obtain⟨⟨x,τ1⟩,e2,e1⟩:=bind_some e1
  obtain⟨z,e4,e1⟩:=bind_some e1
  cases e1
  exact⟨F,τ,x,_,E,e2,fun F1 H1 v1 E1 s1 r1=>⟨c,zp E1.g.fh r1 e4,q F1 H1 E1 s1⟩⟩
variable {ta tb:FT}{rest:List Expr}
def Ee (ta tb:FT):FT:=fun τ=>(ta τ).bind fun p=>if p.1=true then tb p.2 else some (false,p.2)
def lS (ta tb:FT):FT:=fun τ=>(ta τ).bind fun p=>if p.1=true then some (true,p.2) else tb p.2
def bU (ta:FT):FT:=fun τ=>(ta τ).bind fun p=>some (!p.1,p.2)
theorem bH (h:ST X a ta):ST X (.UnaryOp .Not a pos) (bU ta):=fun Y0 Y9=>PT.weak (Bp (h Y0 Y9)) fun σ H Q hq__=>by
 obtain⟨F,τ,c,τ',E,e1,q⟩:=hq__
 obtain⟨⟨x,τ1⟩,e2,e1⟩:=bind_some e1
 cases e1
 exact⟨F,τ,x,_,E,e2,fun F1 H1 E1 s1=>q F1 H1 E1 s1⟩
theorem fB (h:ST X a ta):SW X (.BoolOp .Or [a] pos) ta:=fun Y0 Y9=>Bq (h Y0 Y9)
theorem gU (ha:ST X a ta)(hb:SW X (.BoolOp .Or (b::rest) pos) tb):SW X (.BoolOp .Or (a::b::rest) pos) (lS ta tb):=fun Y0 Y9=>PW.weak (C9 (ha Y0 Y9) (hb Y0 Y9)) fun σ H Q hq__=>by
 obtain⟨F,τ,c,τ',E,e1,q⟩:=hq__
 obtain⟨⟨x,τ1⟩,e2,e1⟩:=bind_some e1
 refine⟨F,τ,x,τ1,E,e2,fun F1 H1 E1 s1=>?_⟩
 dsimp only at e1
 split at e1
 ·next h=>rw [if_pos h];cases e1;exact q F1 H1 E1 s1
 ·next h=>rw [if_neg h];exact⟨F1,τ1,c,τ',E1,e1,fun F2 H2 E2 s2=>q F2 H2 E2 (s1.trans s2)⟩
theorem SW.st (h:SW X e ta):ST X e ta:=fun Y0 Y9=>(h Y0 Y9).pt
def bY (fa fb:FE):FE:=fun τ=>(fa τ).bind fun p=>match p.1 with | .bl true=>fb p.2 | .bl false=>some (.bl false,p.2) | _=>none
def Ef (fa fb:FE):FE:=fun τ=>(fa τ).bind fun p=>match p.1 with | .bl true=>some (.bl true,p.2) | .bl false=>fb p.2 | _=>none
def qe:T->Option T
 | .bl c=>some (.bl (!c))
 |_=>none
theorem gP {op}(h:SE X a fa):SE X (.BoolOp op [a] pos) fa:=fun Y0 Y9=>Bc (h Y0 Y9)
theorem cz (ha:SE X a fa)(hb:SE X (.BoolOp .And (b::rest) pos) fb):SE X (.BoolOp .And (a::b::rest) pos) (bY fa fb):=fun Y0 Y9=>PE.weak (A5 (ha Y0 Y9) (hb Y0 Y9)) fun σ H Q hq__=>by
 obtain⟨F,τ,c,τ',E,e1,q⟩:=hq__
 obtain⟨⟨x,τ1⟩,e2,e1⟩:=bind_some e1
 dsimp only at e1
 refine⟨F,τ,x,τ1,E,e2,fun F1 H1 v E1 s1 r1=>?_⟩
 split at e1
 ·cases r1;exact⟨true,rfl,by rw [if_pos rfl];exact⟨F1,τ1,c,τ',E1,e1,fun F2 H2 v2 E2 s2=>q F2 H2 v2 E2 (s1.trans s2)⟩⟩
 ·cases r1;cases e1;exact⟨false,rfl,by rw [if_neg (by decide)];exact q F1 H1 _ E1 s1 rfl⟩
 ·cases e1
theorem mH (ha:SE X a fa):SE X (.UnaryOp .Not a pos) (rN qe fa):=fun Y0 Y9=>PE.weak (Bb (ha Y0 Y9)) fun σ H Q hq__=>by
 obtain⟨F,τ,c,τ',E,e1,q⟩:=hq__
 obtain⟨⟨x,τ1⟩,e2,e1⟩:=bind_some e1
 obtain⟨z,e4,e1⟩:=bind_some e1
 cases e1
 refine⟨F,τ,x,_,E,e2,fun F1 H1 v E1 s1 r1=>?_⟩
 dsimp only at e4
 unfold qe at e4
 split at e4
 ·cases r1;cases e4;exact⟨_,rfl,q F1 H1 _ E1 s1 rfl⟩
 ·cases e4
def Fy (t:FT)(fa fb:FE):FE:=fun τ=>(t τ).bind fun p=>if p.1=true then fa p.2 else fb p.2
variable {es:List Expr}{g:FA}
def az:FA:=fun τ=>some ([],τ)
def af (f:FE)(g:FA):FA:=fun τ=>(f τ).bind fun p=>(g p.2).bind fun q=>some (p.1::q.1,q.2)
theorem ah:SA X [] az:=fun Y0 Y9=>PA.weak pF fun σ H Q hq__=>by
 obtain⟨F,τ,c,τ',E,e1,q⟩:=hq__
 cases e1
 exact q F H [] E (aD.refl _) rfl
theorem aa (ha:SE X e f)(hr:SA X es g)(hs:starEach (e::es) X.env=(false,eval e X.env)::starEach es X.env:=by rfl):SA X (e::es) (af f g):=fun Y0 Y9=>PA.weak (iA (ha Y0 Y9) (hr Y0 Y9) hs) fun σ H Q hq__=>by
 obtain⟨F,τ,c,τ',E,e1,q⟩:=hq__
 obtain⟨⟨x,τ1⟩,e2,e1⟩:=bind_some e1
 obtain⟨⟨y,τ2⟩,e3,e1⟩:=bind_some e1
 cases e1
 exact⟨F,τ,x,τ1,E,e2,fun F1 H1 v E1 s1 r1=>⟨F1,τ1,y,_,E1,e3,fun F2 H2 vs E2 s2 r2=>q F2 H2 _ E2 (s1.trans s2) ⟨v,vs,rfl,Rep.mono s2 r1,r2⟩⟩⟩
def ek (g:FA):FE:=fun τ=>(g τ).bind fun p=>if p.1.length≤sizeLine then some (.tup p.1,p.2) else none
def bG (g:FA):FE:=fun τ=>(g τ).bind fun p=>if p.1.length≤sizeLine then some (.lst p.1,p.2) else none
theorem cF {k}(h:SA X es g):SE X (.Tuple es k pos) (ek g):=fun Y0 Y9=>PE.weak (Be (h Y0 Y9)) fun σ H Q hq__=>by
 obtain⟨F,τ,c,τ',E,e1,q⟩:=hq__
 obtain⟨⟨x,τ1⟩,e2,e1⟩:=bind_some e1
 dsimp only at e1
 split at e1
 ·next hl =>
  cases e1
  refine⟨F,τ,x,_,E,e2,fun F1 H1 vs E1 s1 r1=>⟨by rw [r1.length];exact hl,fun p hp=>?_⟩⟩
  have gr:=aS.new (.tup vs) E1.g.fh hp
  exact q _ _ _ (E1.grow gr) (s1.trans gr.sF) ⟨p,vs,rfl,kW.of aM,aP.mono gr.sF r1⟩
 ·cases e1
theorem aN (h:SA X es g):SE X (.List es pos) (bG g):=fun Y0 Y9=>PE.weak (w9 (h Y0 Y9)) fun σ H Q hq__=>by
 obtain⟨F,τ,c,τ',E,e1,q⟩:=hq__
 obtain⟨⟨x,τ1⟩,e2,e1⟩:=bind_some e1
 dsimp only at e1
 split at e1
 ·next hl =>
  cases e1
  refine⟨F,τ,x,_,E,e2,fun F1 H1 vs E1 s1 r1=>⟨by rw [r1.length];exact hl,fun p hp=>?_⟩⟩
  have gr:=aS.new (.lst vs) E1.g.fh hp
  exact q _ _ _ (E1.grow gr) (s1.trans gr.sF) ⟨p,vs,rfl,aM,aP.mono gr.sF r1⟩
 ·cases e1
def aq (d:List T->Option T)(g:FA):FE:=fun τ=>(g τ).bind fun p=>(d p.1).bind fun t=>some (t,p.2)
theorem nC {d:List T->Option T}{Y0 Y9:Hp}{σ:L2.St}{H:Hp}{Q:VK}(h:tE X.K Y0 Y9 (aq d g) σ H Q):tA X.K Y0 Y9 g σ H fun vs H1=>DX X.K d vs H1 Q:=by
 obtain⟨F,τ,c,τ',E,e1,q⟩:=h
 obtain⟨⟨x,τ1⟩,e2,e1⟩:=bind_some e1
 obtain⟨z,e4,e1⟩:=bind_some e1
 cases e1
 exact⟨F,τ,x,_,E,e2,fun F1 H1 vs E1 s1 r1=>⟨F1,x,c,E1.g.fh,r1,e4,fun F3 H3 v3 g3 r3=>q F3 H3 v3 (E1.grow g3) (s1.trans g3.sF) r3⟩⟩
theorem aK {d:List T->Option T}{id:String}{x:Str}{p:Pos}(hc:jh X (.builtin id) d)(hg:Gl X x)(hm:X.mg x=none)(hv:bootBuiltins x=some (.builtin id))(ha:SA X (e::es) g)(hn:x≠"__name__" := by decide)(hdb:(x == ("__debug__" : Str))=false:=by decide)
  (he:starEach (e::es) X.env=(false,eval e X.env)::starEach es X.env:=by rfl) (hpl:(backTo pos (starEach es X.env)).any (·.1)=false:=by rfl):SE X (.Call (.Name x p) (e::es) [] pos) (aq d g):=
 fun Y0 Y9=>PE.weak (mr hc hg hm hv (ha Y0 Y9) hn hdb he hpl) fun _ _ _=>nC
theorem gu {d:List T->Option T}{id:String}{x:Str}{p:Pos}(hc:jh X (.type id) d)(hg:Gl X x)(hm:X.mg x=none)(hv:bootBuiltins x=some (.type id))(ha:SA X (e::es) g)(hn:x≠"__name__" := by decide)(hdb:(x == ("__debug__" : Str))=false:=by decide)
  (he:starEach (e::es) X.env=(false,eval e X.env)::starEach es X.env:=by rfl) (hpl:(backTo pos (starEach es X.env)).any (·.1)=false:=by rfl):SE X (.Call (.Name x p) (e::es) [] pos) (aq d g):=
 fun Y0 Y9=>PE.weak (vf hc hg hm hv (ha Y0 Y9) hn hdb he hpl) fun _ _ _=>nC
end
def spT (K:PySem.W.Frag)(n:Nat)(d:List T->Option T):Sp:=fun vs H Q _=>vs.length=n/\DX K d vs H Q
structure Def (P:Program)(w:World)(K:PySem.W.Frag)(mg:Str->Option Value)(base:Heap)(k:Nat)(x:Str)(n:Nat)(d:List T->Option T):Prop where
 ex:∃f fd ps,dN P w K mg base iv k f fd ps (spT K n d)/\Binds K fd ps []/\PySem.W.keepIn K (.ref f)=true/\mg x=some (.ref f)/\ps.length=n
theorem Def.imp {P:Program}{w:World}{K:PySem.W.Frag}{mg:Str->Option Value}{base:Heap}{k n:Nat}{x:Str}{d d':List T->Option T}(D:Def P w K mg base k x n d)(h:∀ts t,d' ts=some t->d ts=some t):Def P w K mg base k x n d':=by
 obtain⟨f,fd,ps,F,r⟩:=D.ex
 exact⟨f,fd,ps,F.imp fun vs H Q E ⟨l,F,ts,t,a,b,c,q⟩=>⟨l,F,ts,t,a,b,h _ _ c,q⟩,r⟩
theorem Def.mono {P:Program}{w:World}{K:PySem.W.Frag}{mg:Str->Option Value}{base:Heap}{j k n:Nat}{x:Str}{d:List T->Option T}(D:Def P w K mg base j x n d)(h:j≤k):Def P w K mg base k x n d:=by
 obtain⟨f,fd,ps,F,r⟩:=D.ex
 exact⟨f,fd,ps,F.mono h,r⟩
theorem Def.zero {P:Program}{w:World}{K:PySem.W.Frag}{mg:Str->Option Value}{base:Heap}{x qual:Str}{st:Stmt}{f:Addr}{fd:FuncData}{ps:List Str}(F:dM K x qual st f fd)(hb:Binds K fd ps [])(hm:mg x=some (.ref f)):Def P w K mg base 0 x ps.length (fun _=>none):=
 ⟨f,fd,ps,⟨fun vs H Q E h=>h.1,fun A outer s H args us vs Q E _ _ _ _ h=>by obtain⟨_,F,ts,t,_,_,e,_⟩:=h;cases e⟩,hb,F.kp,hm,rfl⟩
section
variable {X:Cx}{e:Expr}{es:List Expr}{pos:Pos}{g:FA}
theorem aE {k n:Nat}{x:Str}{p:Pos}{d:List T->Option T}(D:Def X.prog X.w X.K X.mg X.base k x n d)(hr:br k X.A)(hg:Gl X x)(ha:SA X (e::es) g)(hl:∀τ ts τ',g τ=some (ts,τ')->ts.length=n)(hdb:(x == ("__debug__" : Str))=false:=by decide)
  (he:starEach (e::es) X.env=(false,eval e X.env)::starEach es X.env:=by rfl) (hpl:(backTo pos (starEach es X.env)).any (·.1)=false:=by rfl):SE X (.Call (.Name x p) (e::es) [] pos) (aq d g):=by
 obtain⟨f,fd,ps,F,hb,hk,hm,hn⟩:=D.ex
 intro Y0 Y9
 refine PE.weak (yT (E:=E0) (CX:=iv) F hr hg hm hk hb .nil nQ (ha Y0 Y9) hdb he hpl) fun σ H Q h=>?_
 obtain⟨F,τ,c,τ',E,e1,q⟩:=h
 obtain⟨⟨z,τ1⟩,e2,e1⟩:=bind_some e1
 have hz:=hl _ _ _ e2
 obtain⟨u,e4,e1⟩:=bind_some e1
 cases e1
 refine⟨F,τ,z,_,E,e2,fun F1 H1 vs E1 s1 r1=>⟨by rw [List.append_nil,r1.length];exact hz,F1,z,c,E1.g.fh,by rw [List.append_nil];exact r1,e4,fun F3 H3 v3 g3 r3=>q F3 H3 v3 (E1.grow g3) (s1.trans g3.sF) r3⟩⟩
theorem av:∀τ ts τ',az τ=some (ts,τ')->ts.length=0:=fun _ _ _ h=>by cases h;rfl
theorem ag {f:FE}{g:FA}{n:Nat}(h:∀τ ts τ',g τ=some (ts,τ')->ts.length=n):∀τ ts τ',af f g τ=some (ts,τ')->ts.length=n+1:=fun τ ts τ' e=>by
 obtain⟨⟨x,τ1⟩,e2,e1⟩:=bind_some e
 obtain⟨⟨y,τ2⟩,e3,e1⟩:=bind_some e1
 cases e1
 simp [h _ _ _ e3]
end
section
variable {X:Cx}{e a b:Expr}{pos:Pos}{f fa fb:FE}{ga:FA}{es:List Expr}
def gJ:FS:=fun _=>none
def aX:FS:=fun τ=>some (.nx τ)
def aZ (f:FE):FS:=fun τ=>(f τ).bind fun p=>some (.rt p.1)
def qb (f:FE):FS:=fun τ=>(f τ).bind fun p=>some (.nx p.2)
def bz (c:FT)(t u:FS):FS:=fun τ=>(c τ).bind fun p=>if p.1=true then t p.2 else u p.2
def aL (t u:FS):FS:=fun τ=>(t τ).bind fun r=>match r with | .nx τ'=>u τ' | r=>some r
theorem lz.mono {K:PySem.W.Frag}{Y0 Y9 F F':Hp}{D:Ends}{r:R}(s:aD F F')(h:lz K Y0 Y9 F D r):lz K Y0 Y9 F' D r:=by
 cases r with
 |nx τ=>exact fun F1 H1 σ1 E1 s1=>h F1 H1 σ1 E1 (s.trans s1)
 |rt t=>exact h
 |bk τ=>exact fun F1 H1 σ1 E1 s1=>h F1 H1 σ1 E1 (s.trans s1)
 |ct τ=>exact fun F1 H1 σ1 E1 s1=>h F1 H1 σ1 E1 (s.trans s1)
theorem jH {st:Stmt}:SS X st gJ:=fun Y0 Y9=>PS.weak xf fun D σ H ⟨F,τ,r,E,e1,q⟩=>by cases e1
theorem aH (h:SE X e f):SS X (.Return (some e) pos) (aZ f):=fun Y0 Y9=>PS.weak (Bo (h Y0 Y9)) fun D σ H hq__=>by
 obtain⟨F,τ,r,E,e1,q⟩:=hq__
 obtain⟨⟨x,τ1⟩,e2,e1⟩:=bind_some e1
 cases e1
 exact⟨F,τ,x,τ1,E,e2,fun F' H' v E' s' r'=>q F' H' v E'.g r'⟩
theorem zm (h:SE X e f)(hs:swapsWith e none pos.line X.env=pure false:=by rfl):SS X (.Expr e pos) (qb f):=fun Y0 Y9=>PS.weak (uj (h Y0 Y9) hs) fun D σ H hq__=>by
 obtain⟨F,τ,r,E,e1,q⟩:=hq__
 obtain⟨⟨x,τ1⟩,e2,e1⟩:=bind_some e1
 cases e1
 exact⟨F,τ,x,τ1,E,e2,fun F' H' v E' s' r'=>q F' H' σ E' s'⟩
theorem bT (hc:ST X c tc)(ha:pV X ss t)(hb:pV X us u):SS X (.If c ss us pos) (bz tc t u):=fun Y0 Y9=>PS.weak (C8 (hc Y0 Y9) (ha Y0 Y9) (hb Y0 Y9)) fun D σ H hq__=>by
 obtain⟨F,τ,r,E,e1,q⟩:=hq__
 obtain⟨⟨x,τ1⟩,e2,e1⟩:=bind_some e1
 refine⟨F,τ,x,τ1,E,e2,fun F' H' E' s'=>?_⟩
 dsimp only at e1
 split at e1
 ·next h=>rw [if_pos h];exact⟨F',τ1,r,E',e1,q.mono s'⟩
 ·next h=>rw [if_neg h];exact⟨F',τ1,r,E',e1,q.mono s'⟩
theorem aR:pV X [] aX:=fun Y0 Y9=>kH.weak pG fun D σ H hq__=>by
 obtain⟨F,τ,r,E,e1,q⟩:=hq__
 cases e1
 exact q F H σ E (aD.refl _)
theorem ao {st:Stmt}{rest:List Stmt}{t u:FS}(h1:SS X st t)(h2:pV X rest u):pV X (st::rest) (aL t u):=fun Y0 Y9=>kH.weak (mx (h1 Y0 Y9) (h2 Y0 Y9)) fun D σ H hq__=>by
 obtain⟨F,τ,r,E,e1,q⟩:=hq__
 obtain⟨x,e2,e1⟩:=bind_some e1
 refine⟨F,τ,x,E,e2,?_⟩
 cases x with
 |nx τ1=>exact fun F1 H1 σ1 E1 s1=>⟨F1,τ1,r,E1,e1,q.mono s1⟩
 |rt t=>cases e1;exact q
 |bk t=>cases e1;exact q
 |ct t=>cases e1;exact q
theorem ar {st:Stmt}{t:FS}(h1:SS X st t):pV X [st] t:=fun Y0 Y9=>zb (h1 Y0 Y9)
theorem nV {st:List Stmt}:pV X st gJ:=fun Y0 Y9=>kH.weak vi fun D σ H ⟨F,τ,r,E,e1,q⟩=>by cases e1
def bJ (i:Nat)(f:FE):FS:=fun τ=>(f τ).bind fun p=>some (.nx (p.2.set i (some (.sh p.1))))
def dg (i:Nat)(g:FA):FS:=fun τ=>(g τ).bind fun p=>if p.1.length≤sizeLine then some (.nx (p.2.set i (some (.own p.1)))) else none
theorem aT (i:Nat)(hN:X.N.Nodup)(hi:X.N[i]? = some x)(hx:Loc X.env.scope x)(he:SE X e f)(hs:swapsWith e (some (.Name x pos')) pos.line X.env=pure false:=by rfl)
  (hf:X.fn x=true\/X.env.scope.names.lookup x=some .local:=by first | exact .inl rfl | exact .inr rfl | assumption):SS X (.Assign [.Name x pos'] e pos) (bJ i f):=fun Y0 Y9=>PS.weak (xg hN hi hx (he Y0 Y9) hs hf) fun D σ H hq__=>by
 obtain⟨F,τ,r,E,e1,q⟩:=hq__
 obtain⟨⟨y,τ1⟩,e2,e1⟩:=bind_some e1
 cases e1
 exact⟨F,τ,y,τ1,E,e2,fun F' H' v E' s' r'=>q F' H' _ (E'.set r') s'⟩
theorem gz (i:Nat)(hN:X.N.Nodup)(hi:X.N[i]? = some x)(hx:Loc X.env.scope x)(he:SA X es ga)(hs:swapsWith (.List es p2) (some (.Name x pos')) pos.line X.env=pure false:=by rfl)
  (hf:X.fn x=true\/X.env.scope.names.lookup x=some .local:=by first | exact .inl rfl | exact .inr rfl | assumption):SS X (.Assign [.Name x pos'] (.List es p2) pos) (dg i ga):=fun Y0 Y9=>PS.weak (xg hN hi hx (w9 (he Y0 Y9)) hs hf) fun D σ H hq__=>by
 obtain⟨F,τ,r,E,e1,q⟩:=hq__
 obtain⟨⟨y,τ1⟩,e2,e1⟩:=bind_some e1
 dsimp only at e1
 split at e1
 ·next hl =>
  cases e1
  exact⟨F,τ,y,τ1,E,e2,fun F' H' vs E' s' r'=>⟨by rw [r'.length];exact hl,fun p hp=>q F' _ _ (E'.setOwn hp r') s'⟩⟩
 ·cases e1
def tG (K:PySem.W.Frag)(Y0 Y9:Hp)(fg:FG):TG:=fun v σ H Q=>∃F τ t τ',au K Y0 Y9 F H σ τ/\Rep K F t v/\fg t τ=some τ'/\∀F' H' σ',au K Y0 Y9 F' H' σ' τ'->aD F F'->Q σ' H'
def Gj (K:PySem.W.Frag)(Y0 Y9:Hp)(fg:List T->aw->Option aw):zu:=fun vs σ H Q=>∃F τ ts τ',au K Y0 Y9 F H σ τ/\aP K F ts vs/\fg ts τ=some τ'/\∀F' H' σ',au K Y0 Y9 F' H' σ' τ'->aD F F'->Q σ' H'
def SG (X:Cx)(tg:Expr)(fg:FG):Prop:=∀Y0 Y9,PG X tg (tG X.K Y0 Y9 fg)
def DK (X:Cx)(tg:List Expr)(fg:List T->aw->Option aw):Prop:=∀Y0 Y9,BX X tg (Gj X.K Y0 Y9 fg)
def aI (i:Nat):FG:=fun t τ=>some (τ.set i (some (.sh t)))
def kB:List T->aw->Option aw
 |[],τ=>some τ
 |_::_,_=>none
def di (g:FG)(gs:List T->aw->Option aw):List T->aw->Option aw
 |[],_=>none
 |t::ts,τ=>(g t τ).bind fun τ1=>gs ts τ1
def kC (gs:List T->aw->Option aw):FG:=fun t τ=>match t with
 | .tup ts=>gs ts τ
 |_=>none
theorem bh (i:Nat)(hN:X.N.Nodup)(hi:X.N[i]? = some x)(hx:Loc X.env.scope x)(hf:X.fn x=true\/X.env.scope.names.lookup x=some .local:=by first | exact .inl rfl | exact .inr rfl | assumption):SG X (.Name x pos) (aI i):=
 fun Y0 Y9 pins s σ H v u Q I r h=>yX hN hi hx hf pins s σ H v u Q I r (by
  obtain⟨F,τ,t,τ',E,rt,e1,q⟩:=h
  cases e1
  exact q F H _ (E.set rt) (aD.refl _))
theorem ll:DK X [] kB:=fun Y0 Y9 pins s σ H vs us Q I r h=>yY pins s σ H vs us Q I r (by
 obtain⟨F,τ,ts,τ',E,rt,e1,q⟩:=h
 cases ts with
 |nil=>cases e1;cases rt;exact⟨rfl,q F H σ E (aD.refl _)⟩
 | cons t ts=>cases e1)
theorem dG (h1:SG X e g)(h2:DK X es gs)(hs:(assignEach (e::es) X.env).map (·.2)=assign e X.env::(assignEach es X.env).map (·.2):=by rfl):DK X (e::es) (di g gs):=
 fun Y0 Y9 pins s σ H vs us Q I r h=>xb (h1 Y0 Y9) (h2 Y0 Y9) hs pins s σ H vs us Q I r (by
  obtain⟨F,τ,ts,τ',E,rt,e1,q⟩:=h
  cases ts with
  |nil=>cases e1
  |cons t ts =>
   obtain⟨v,rr,rfl,r1,r2⟩:=rt
   obtain⟨τ1,e2,e1⟩:=bind_some e1
   exact⟨v,rr,rfl,F,τ,t,τ1,E,r1,e2,fun F' H' σ' E' s'=>⟨F',τ1,ts,τ',E',aP.mono s' r2,e1,fun F2 H2 σ2 E2 s2=>q F2 H2 σ2 E2 (s'.trans s2)⟩⟩)
theorem oB:∀ts τ τ',kB ts τ=some τ'->ts.length=0:=fun ts τ τ' h=>by cases ts<;>first | rfl | cases h
theorem eR {gs:List T->aw->Option aw}{n:Nat}(h:∀ts τ τ',gs ts τ=some τ'->ts.length=n):∀ts τ τ',di g gs ts τ=some τ'->ts.length=n+1:=fun ts τ τ' e=>by
 cases ts with
 |nil=>cases e
 |cons t ts =>
  obtain⟨τ1,e2,e1⟩:=bind_some e
  simp [h _ _ _ e1]
theorem pO {k:Nat}{n:Nat}(hc:X.calm=true)(h:DK X es gs)(hl:∀ts τ τ',gs ts τ=some τ'->ts.length=n)
  (hn:(assignEach es X.env).length=n:=by rfl) (hst:(assignEach es X.env).findIdx? (·.1)=none:=by rfl):SG X (.Tuple es k pos) (kC gs):=
 fun Y0 Y9 pins s σ H v u Q I r h'=>Bg hc (h Y0 Y9) hn hst pins s σ H v u Q I r (by
  obtain⟨F,τ,t,τ',E,rt,e1,q⟩:=h'
  unfold kC at e1
  split at e1
  ·next ts =>
   obtain⟨p,xs,rfl,h1,h2⟩:=rt
   exact⟨p,xs,rfl,bB E.g.fh h1,by rw [h2.length];exact hl _ _ _ e1,F,τ,ts,τ',E,h2,e1,q⟩
  ·cases e1)
def uN (f:FE)(g:FG):FS:=fun τ=>(f τ).bind fun p=>(g p.1 p.2).bind fun τ'=>some (.nx τ')
theorem sJ (he:SE X e f)(hg:SG X tg g)(hs:swapsWithSole [tg] e pos.line X.env=pure false:=by rfl)(hw:swappedStores [tg] e X.env=pure none:=by rfl)
  (h1:(assignEach [tg] X.env).map (·.2)=[assign tg X.env]:=by rfl):SS X (.Assign [tg] e pos) (uN f g):=fun Y0 Y9=>PS.weak (Bj (he Y0 Y9) (hg Y0 Y9) hs hw h1) fun D σ H hq__=>by
 obtain⟨F,τ,r,E,e1,q⟩:=hq__
 obtain⟨⟨y,τ1⟩,e2,e1⟩:=bind_some e1
 obtain⟨τ2,e3,e1⟩:=bind_some e1
 cases e1
 exact⟨F,τ,y,τ1,E,e2,fun F' H' v E' s' r'=>⟨F',τ1,y,τ2,E',r',e3,fun F2 H2 σ2 E2 s2=>q F2 H2 σ2 E2 (s'.trans s2)⟩⟩
def rM (i j:Nat)(g:FA):FS:=fun τ=>(g τ).bind fun p=>match p.1 with
 |[v,w]=>some (.nx ((p.2.set i (some (.sh v))).set j (some (.sh w))))
 |_=>none
theorem sL {i j:Nat}{kt k2 pt2}(hc:X.calm=true)(hN:X.N.Nodup)(hi:X.N[i]? = some x)(hj:X.N[j]? = some y)(hij:i≠j)
  (hx:X.env.scope.names.lookup x=some .local) (hy:X.env.scope.names.lookup y=some .local) (ha:SA X [a,b] ga)
  (hw:swappedStores [.Tuple [.Name x px,.Name y py] kt pt] (.Tuple [a,b] k2 pt2) X.env=pure (some [x,y]))
  (hs:swapsWithSole [.Tuple [.Name x px,.Name y py] kt pt] (.Tuple [a,b] k2 pt2) pos.line X.env=pure false:=by rfl):
  SS X (.Assign [.Tuple [.Name x px,.Name y py] kt pt] (.Tuple [a,b] k2 pt2) pos) (rM i j ga):=fun Y0 Y9=>PS.weak (Bn hc hN hi hj hij hx hy (ha Y0 Y9) hw hs) fun D σ H hq__=>by
 obtain⟨F,τ,r,E,e1,q⟩:=hq__
 obtain⟨⟨ts,τ1⟩,e2,e1⟩:=bind_some e1
 dsimp only at e1
 split at e1
 ·next v w =>
  cases e1
  refine⟨F,τ,_,τ1,E,e2,fun F' H' vs E' s' r'=>?_⟩
  obtain⟨v1,r1,rfl,q1,v2,r2,rfl,q2,rfl⟩:=r'
  exact⟨v1,v2,rfl,q F' H' _ ((E'.set q1).set q2) s'⟩
 ·cases e1
structure Walks (K:PySem.W.Frag)(F:Hp)(ts:List T)(J:It):Prop where
 go:∀(i:Nat) t F1 H1,ts[i]? = some t->aD F F1->aD F1 H1->J.go i H1
 yld:∀(i:Nat) t F1 H1 x H2,ts[i]? = some t->aD F F1->aD F1 H1->J.yld i H1 x H2->∃F2,aS F1 H1 F2 H2/\Rep K F2 t x
 stop:∀F1 H1,aD F F1->aD F1 H1->J.stop ts.length H1
def tI (K:PySem.W.Frag)(Y0 Y9:Hp)(fi:FA):TI:=fun σ H R=>∃F τ ts τ',au K Y0 Y9 F H σ τ/\fi τ=some (ts,τ')/\∀F' H' J,au K Y0 Y9 F' H' σ τ'->aD F F'->Walks K F' ts J->R J H'
def SI (X:Cx)(tg iter:Expr)(fi:FA):Prop:=∀Y0 Y9,PI X tg iter (tI X.K Y0 Y9 fi)
def fM (fg:FG)(fb:FS):List T->FS
 |[],τ=>some (.nx τ)
 |t::ts,τ=>(fg t τ).bind fun τ1=>(fb τ1).bind fun r=>match r with
  | .nx τ2=>fM fg fb ts τ2
  | .ct τ2=>fM fg fb ts τ2
  | .bk τ2=>some (.nx τ2)
  | .rt v=>some (.rt v)
def jq (fi:FA)(fg:FG)(fb:FS):FS:=fun τ=>(fi τ).bind fun p=>fM fg fb p.1 p.2
theorem jf {tg iter:Expr}{body:List Stmt}{fi:FA}{fg:FG}{fb:FS}(hp:PassesOwn (model X.prog X.w) X.A X.env X.xe)(hc:X.calm=true)(hi:SI X tg iter fi)(hg:SG X tg fg)(hb:pV X body fb)
  (hs:∀x,foldedSetIterable iter X.env x=pure x:=by intro _;rfl):SS X (.For tg iter body [] pos) (jq fi fg fb):=fun Y0 Y9=>PS.weak (Bl hp hc (hi Y0 Y9) (hg Y0 Y9) (hb Y0 Y9) hs) fun D σ H hq__=>by
 obtain⟨F,τ,r,E,e1,q⟩:=hq__
 obtain⟨⟨ts,τ1⟩,e2,e1⟩:=bind_some e1
 refine⟨F,τ,ts,τ1,E,e2,fun F' H' J E' s' W=>?_⟩
 refine⟨fun i m σ H=>m=ts.length-i/\i≤ts.length/\∃F1 τ1,au X.K Y0 Y9 F1 H σ τ1/\aD F' F1/\fM fg fb (ts.drop i) τ1=some r,⟨_,rfl,Nat.zero_le _,F',τ1,E',aD.refl _,e1⟩,?_⟩
 rintro i m σ1 H1 ⟨rfl,hi,F1,τ2,E1,s1,e3⟩
 by_cases hlt:i<ts.length
 ·have hd:ts.drop i=ts[i]::ts.drop (i+1):=List.drop_eq_getElem_cons hlt
  have hg:ts[i]? = some ts[i]:=List.getElem?_eq_getElem hlt
  rw [hd] at e3
  obtain⟨τ3,e4,e3⟩:=bind_some e3
  obtain⟨r',e5,e3⟩:=bind_some e3
  refine .inr ⟨W.go i _ F1 H1 hg s1 E1.g.fh,fun σ H=>∃F1 τ1,au X.K Y0 Y9 F1 H σ τ1/\aD F' F1/\fM fg fb (ts.drop (i+1)) τ1=some r,fun σ' H' n=>⟨_,by omega,rfl,hlt,n⟩,fun x H2 y=>?_⟩
  obtain⟨F2,gr,rx⟩:=W.yld i _ F1 H1 x H2 hg s1 E1.g.fh y
  refine⟨F2,τ2,ts[i],τ3,E1.grow gr,rx,e4,fun F3 H3 σ3 E3 s3=>⟨F3,τ3,r',E3,e5,?_⟩⟩
  have s03:aD F' F3:=s1.trans (gr.sF.trans s3)
  cases r' with
  |nx τ4=>exact fun F4 H4 σ4 E4 s4=>⟨F4,τ4,E4,s03.trans s4,e3⟩
  |ct τ4=>exact fun F4 H4 σ4 E4 s4=>⟨F4,τ4,E4,s03.trans s4,e3⟩
  |bk τ4=>cases e3;exact fun F4 H4 σ4 E4 s4=>q F4 H4 σ4 E4 (s'.trans (s03.trans s4))
  |rt v=>cases e3;exact q
 ·have he:i=ts.length:=by omega
  subst he
  rw [List.drop_length] at e3
  cases e3
  exact .inl ⟨W.stop F1 H1 s1 E1.g.fh,q F1 H1 σ1 E1 (s'.trans s1)⟩
def rP (f:FE):FA:=fun τ=>(f τ).bind fun p=>match p.1 with | .lst ts=>some (ts,p.2) | .scr ts=>some (ts,p.2) | _=>none
def vZ (f:FE):FA:=fun τ=>(f τ).bind fun p=>match p.1 with | .tup ts=>some (ts,p.2) | _=>none
theorem mM {K:PySem.W.Frag}{F:Hp}{p:Addr}{xs:List V}{ts:List T}(h1:iK K F p xs)(h2:aP K F ts xs):Walks K F ts (D5 K p):=by
 refine⟨fun i t F1 H1 e s1 s2=>?_,fun i t F1 H1 x H2 e s1 s2 y=>?_,fun F1 H1 s1 s2=>⟨xs,(s1.trans s2).seq h1,by rw [h2.length];exact Nat.le_refl _⟩⟩
 ·obtain⟨v,g1,_⟩:=h2.get e
  exact⟨xs,v,(s1.trans s2).seq h1,g1⟩
 ·obtain⟨rfl,y⟩:=y
  obtain⟨v,g1,g2⟩:=h2.get e
  have:=y xs ((s1.trans s2).seq h1)
  rw [g1] at this;cases this
  exact⟨F1,aS.refl s2,Rep.mono s1 g2⟩
theorem vu {K:PySem.W.Frag}{F:Hp}{p:Addr}{xs:List V}{ts:List T}(h1:kW K F p xs)(h2:aP K F ts xs):Walks K F ts (D6 K p):=by
 refine⟨fun i t F1 H1 e s1 s2=>?_,fun i t F1 H1 x H2 e s1 s2 y=>?_,fun F1 H1 s1 s2=>⟨xs,bB (s1.trans s2) h1,by rw [h2.length];exact Nat.le_refl _⟩⟩
 ·obtain⟨v,g1,_⟩:=h2.get e
  exact⟨xs,v,bB (s1.trans s2) h1,g1⟩
 ·obtain⟨rfl,y⟩:=y
  obtain⟨v,g1,g2⟩:=h2.get e
  have:=y xs (bB (s1.trans s2) h1)
  rw [g1] at this;cases this
  exact⟨F1,aS.refl s2,Rep.mono s1 g2⟩
theorem PI.weak {t t':TI}(h:PI X tg it t)(i:∀σ H R,t' σ H R->t σ H R):PI X tg it t':=fun pins s σ H R I q=>h pins s σ H R I (i σ H R q)
theorem uu (h:SE X l f):SI X tg l (rP f):=fun Y0 Y9=>PI.weak (yZ (h Y0 Y9)) fun σ H R hq__=>by
 obtain⟨F,τ,ts,τ',E,e1,q⟩:=hq__
 obtain⟨⟨x,τ1⟩,e2,e1⟩:=bind_some e1
 dsimp only at e1
 split at e1
 ·cases e1
  refine⟨F,τ,_,τ',E,e2,fun F' H' v E' s' r'=>?_⟩
  obtain⟨p,xs,rfl,h1,h2⟩:=r'
  exact⟨p,rfl,⟨xs,iK.of (E'.g.fh _ _ h1)⟩,q F' H' _ E' s' (mM (iK.of h1) h2)⟩
 ·cases e1
  refine⟨F,τ,_,τ',E,e2,fun F' H' v E' s' r'=>?_⟩
  obtain⟨p,xs,rfl,h1,h2⟩:=r'
  exact⟨p,rfl,⟨xs,E'.g.fh.seq h1⟩,q F' H' _ E' s' (mM h1 h2)⟩
 ·cases e1
theorem Bu (h:SE X l f):SI X tg l (vZ f):=fun Y0 Y9=>PI.weak (Bh (h Y0 Y9)) fun σ H R hq__=>by
 obtain⟨F,τ,ts,τ',E,e1,q⟩:=hq__
 obtain⟨⟨x,τ1⟩,e2,e1⟩:=bind_some e1
 dsimp only at e1
 split at e1
 ·cases e1
  refine⟨F,τ,_,τ',E,e2,fun F' H' v E' s' r'=>?_⟩
  obtain⟨p,xs,rfl,h1,h2⟩:=r'
  exact⟨p,rfl,⟨xs,bB E'.g.fh h1⟩,q F' H' _ E' s' (vu h1 h2)⟩
 ·cases e1
def upTo (lo:Int):Nat->List T
 |0=>[]
 |n+1=>.int lo::upTo (lo+1) n
theorem fR:∀(n:Nat) (lo:Int),(upTo lo n).length=n
 |0,_=>rfl
 |n+1,lo=>by simp [upTo,fR n]
theorem mL:∀(n:Nat) (lo:Int) (i:Nat),i<n->(upTo lo n)[i]? = some (.int (lo+i))
 |0,_,_,h=>by omega
 |n+1,lo,0,_=>by simp [upTo]
 |n+1,lo,i+1,h=>by
  simp only [upTo,List.getElem?_cons_succ]
  rw [mL n (lo+1) i (by omega)]
  congr 2
  push_cast
  omega
def fm (g:FA):FA:=fun τ=>(g τ).bind fun p=>match p.1 with
 |[.int j]=>if -(2^62)≤j/\j<2^62 then some (upTo 0 j.toNat,p.2) else none
 |_=>none
theorem vt {K:PySem.W.Frag}{F:Hp}(lo:Int)(n:Nat):Walks K F (upTo lo n) (DH lo n):=by
 have hl:∀{i:Nat} {t:T},(upTo lo n)[i]? = some t->i<n:=fun {i t} e=>by
  have:=(List.getElem?_eq_some_iff.mp e).1
  rwa [fR] at this
 refine⟨fun i t F1 H1 e s1 s2=>hl e,fun i t F1 H1 x H2 e s1 s2 y=>?_,fun F1 H1 s1 s2=>by show n≤_;rw [fR];exact Nat.le_refl _⟩
 obtain⟨rfl,rfl⟩:=y
 rw [mL n lo i (hl e)] at e
 cases e
 exact⟨F1,aS.refl s2,rfl⟩
theorem pP (hg:Gl X "range")(hm:X.mg "range" = none)(ha:SA X [a] ga)(hs:starEach [a] X.env=[(false,eval a X.env)]:=by rfl):SI X tg (.Call (.Name "range" p) [a] [] pos) (fm ga):=
 fun Y0 Y9=>PI.weak (vg hg hm (ha Y0 Y9) hs) fun σ H R hq__=>by
  obtain⟨F,τ,ts,τ',E,e1,q⟩:=hq__
  obtain⟨⟨x,τ1⟩,e2,e1⟩:=bind_some e1
  dsimp only at e1
  split at e1
  ·split at e1
   ·next hb =>
    cases e1
    refine⟨F,τ,_,τ',E,e2,fun F' H' vs E' s' r'=>?_⟩
    obtain⟨v,r,rfl,q1,rfl⟩:=r'
    cases q1
    exact⟨_,rfl,hb.1,hb.2,q F' H' _ E' s' (vt 0 _)⟩
   ·cases e1
  ·cases e1
def eL (ft:FT)(fb:FS):Nat->FS
 |0,_=>none
 |n+1,τ=>(ft τ).bind fun p=>if p.1=true then (fb p.2).bind fun r=>match r with
  | .nx τ2=>eL ft fb n τ2
  | .ct τ2=>eL ft fb n τ2
  | .bk τ2=>some (.nx τ2)
  | .rt v=>some (.rt v) else some (.nx p.2)
theorem qX (n:Nat){c:Expr}{body:List Stmt}{ft:FT}{fb:FS}(hp:PassesOwn (model X.prog X.w) X.A X.env X.xe)(hc:ST X c ft)(hb:pV X body fb):SS X (.While c body [] pos) (eL ft fb n):=fun Y0 Y9=>PS.weak (xh hp (hc Y0 Y9) (hb Y0 Y9)) fun D σ H hq__=>by
 obtain⟨F,τ,r,E,e1,q⟩:=hq__
 refine⟨fun m σ H=>∃F1 τ1,au X.K Y0 Y9 F1 H σ τ1/\aD F F1/\eL ft fb m τ1=some r,⟨n,F,τ,E,aD.refl _,e1⟩,?_⟩
 rintro m σ1 H1 ⟨F1,τ1,E1,s1,e2⟩
 cases m with
 |zero=>cases e2
 |succ m =>
  obtain⟨⟨x,τ2⟩,e3,e2⟩:=bind_some e2
  refine⟨F1,τ1,x,τ2,E1,e3,fun F2 H2 E2 s2=>?_⟩
  dsimp only at e2
  split at e2
  ·next h =>
   rw [if_pos h]
   obtain⟨r',e4,e2⟩:=bind_some e2
   refine⟨fun σ H=>∃F1 τ1,au X.K Y0 Y9 F1 H σ τ1/\aD F F1/\eL ft fb m τ1=some r,fun σ' H' n=>⟨m,Nat.lt_succ_self m,n⟩,F2,τ2,r',E2,e4,?_⟩
   cases r' with
   |nx τ4=>exact fun F4 H4 σ4 E4 s4=>⟨F4,τ4,E4,(s1.trans s2).trans s4,e2⟩
   |ct τ4=>exact fun F4 H4 σ4 E4 s4=>⟨F4,τ4,E4,(s1.trans s2).trans s4,e2⟩
   |bk τ4=>cases e2;exact fun F4 H4 σ4 E4 s4=>q F4 H4 σ4 E4 ((s1.trans s2).trans s4)
   |rt v=>cases e2;exact q
  ·next h =>
   rw [if_neg h]
   cases e2
   exact q F2 H2 σ1 E2 (s1.trans s2)
def oA (i:Nat)(f:FE):FS:=fun τ=>match τ[i]? with
 |some (some (.own _))=>(f τ).bind fun p=>match p.2[i]? with
  |some (some (.own ts))=>if ts.length<sizeLine then some (.nx (p.2.set i (some (.own (ts++[p.1]))))) else none
  |_=>none
 |_=>none
end
def bX (m n:Nat)(fb:FS):List T->Option T:=fun ts=>if ts.length=n then (fb (ts.map (fun t=>some (Sl.sh t))++List.replicate (m-n) none)).bind fun r=>match r with
 | .rt t=>some t
 | .nx _=>some .non
 |_=>none else none
theorem dy {K:PySem.W.Frag}{F H:Hp}{N:List Str}{vs:List V}{ts:List T}(s:aD F H)(r:aP K F ts vs):au K F H F H (start N vs) (ts.map (fun t=>some (Sl.sh t))++List.replicate (N.length-ts.length) none):=by
 have hl:=r.length
 have key:∀(i:Nat) (sl:Sl),(ts.map (fun t=>some (Sl.sh t))++List.replicate (N.length-ts.length) none)[i]? = some (some sl)->∃t,ts[i]? = some t/\sl=.sh t:=fun i sl e=>by
  by_cases h:i<ts.length
  ·rw [List.getElem?_append_left (by simpa using h),List.getElem?_map,List.getElem?_eq_getElem h] at e
   simp at e
   exact⟨ts[i],List.getElem?_eq_getElem h,e.symm⟩
  ·rw [List.getElem?_append_right (by simp;omega),List.getElem?_replicate] at e
   split at e<;>cases e
 refine⟨aS.refl s,by simp [L2.start,hl],fun i sl e=>?_,fun i j us ws p _ e1 _ _=>?_⟩
 ·obtain⟨t,e1,rfl⟩:=key i sl e
  obtain⟨v,g1,g2⟩:=r.get e1
  refine⟨v,?_,g2⟩
  have hi:i<vs.length:=(List.getElem?_eq_some_iff.mp g1).1
  unfold L2.start
  rw [List.getElem?_append_left (by simpa using hi),List.getElem?_map,g1]
  rfl
 ·obtain⟨t,_,e⟩:=key i _ e1
  cases e
section
variable {P:Program}{w:World}{K:PySem.W.Frag}{mg:Str->Option Value}{base:Heap}
theorem cV {x qual:Str}{st:Stmt}{f:Addr}{fd:FuncData}{N ps:List Str}{k:Nat}{fb:FS}(F:dM K x qual st f fd)(S:aA N ps (aj st))(hb:Binds K fd ps [])(hm:mg x=some (.ref f))
  (h:∀(cdv:Value) (A:Around) (outer:List Env) (s:Shared) (H:Hp) (E:XK),br k (A.deeper (envOfC qual (aj st) s.heap.objs.size f cdv))->pV (fF iv P w K mg base N qual (aj st) f cdv A outer s H E).nox (bE st) fb):
  Def P w K mg base (k+1) x ps.length (bX N.length ps.length fb):=by
 refine⟨f,fd,ps,F.ok S (fun vs H Q E z=>z.1) (fun cdv A outer s H vs Q E hr z=>?_),hb,F.kp,hm,rfl⟩
 obtain⟨hl,F1,ts,t,sm,r,e,q⟩:=z
 unfold bX at e
 split at e
 ·next hn =>
  obtain⟨r',e1,e⟩:=bind_some e
  refine⟨_,h cdv A outer s H E hr F1 H,F1,_,r',?_,e1,?_⟩
  ·have:=dy (N:=N) sm r
   rw [hn] at this
   exact this
  ·cases r' with
   |rt u=>cases e;exact fun F' H' v g r'=>q F' H' v g r'
   |nx τ=>cases e;exact fun F' H' σ' E' s'=>q F' H' .non E'.g rfl
   |bk τ=>cases e
   |ct τ=>cases e
 ·cases e
end
def B:Nat:=2^4000
theorem zq {n:Nat}(h:n<B):n.log2<4000:=by
 rcases Nat.eq_zero_or_pos n with h0 | hp
 ·rw [h0];decide
 ·exact (Nat.log2_lt (Nat.ne_of_gt hp)).mpr h
theorem vG {i:Int}(h:i.natAbs<B):Builtin.Int.intBits i≤4000:=by
 unfold Builtin.Int.intBits
 split
 ·omega
 ·have:=zq h
  omega
theorem CS {i j:Int}(hi:i.natAbs<B)(hj:j.natAbs<B):IntMulOk i j:=by
 have h1:=vG hi
 have h2:=vG hj
 unfold IntMulOk
 have h3:Builtin.Int.intTooBig (Builtin.Int.intBits i+Builtin.Int.intBits j)=false:=by
  unfold Builtin.Int.intTooBig
  have hb:((bitsLine:Nat):Int)=134217728:=by decide
  rw [decide_eq_false]
  show ¬ ((Builtin.Int.intBits i:Int)+(Builtin.Int.intBits j:Int)>((bitsLine:Nat):Int))
  rw [hb]
  omega
 rw [h3]
 simp
section
variable {X:Cx}
def gI (C:Int->Int->Prop)[∀i j,Decidable (C i j)](g:Int->Int->T):T->T->Option T:=fun a b=>match a,b with
 | .int i,.int j=>if C i j then some (g i j) else none
 |_,_=>none
theorem AE {C:Int->Int->Prop}[∀i j,Decidable (C i j)]{i j:Int}:gI C g (.int i) (.int j)=if C i j then some (g i j) else none:=rfl
theorem ue {C:Int->Int->Prop}[∀i j,Decidable (C i j)]{g:Int->Int->T}(h:lE X f (rI C gv))(hg:∀K F i j,Rep K F (g i j) (gv i j)):jK X f (gI C g):=by
 intro pins s σ H x y v u Q I rx ry ⟨F,a,b,t,sm,ra,rb,e,q⟩
 unfold gI at e
 split at e
 ·cases ra
  cases rb
  split at e
  ·next hc =>
   cases e
   exact h pins s σ H _ _ v u Q I rx ry ⟨_,_,rfl,rfl,hc,q F H _ (aS.refl sm) (hg _ _ _ _)⟩
  ·cases e
 ·cases e
theorem kg {g:Int->Int->T}(h:lE X f (ze gv))(hg:∀K F i j,Rep K F (g i j) (gv i j)):jK X f (gI (fun _ _=>True) g):=
 ue (fun pins s σ H x y v u Q I rx ry ⟨i,j,e1,e2,_,q⟩=>h pins s σ H x y v u Q I rx ry ⟨i,j,e1,e2,q⟩) hg
def Ej (g g':T->T->Option T):T->T->Option T:=fun a b=>match g a b with
 |some t=>some t
 |none=>g' a b
theorem jK.or (h:jK X f g)(h':jK X f g'):jK X f (Ej g g'):=by
 intro pins s σ H x y v u Q I rx ry ⟨F,a,b,t,sm,ra,rb,e,q⟩
 unfold Ej at e
 split at e
 ·next t' e'=>cases e;exact h pins s σ H x y v u Q I rx ry ⟨F,a,b,_,sm,ra,rb,e',q⟩
 ·exact h' pins s σ H x y v u Q I rx ry ⟨F,a,b,t,sm,ra,rb,e,q⟩
def sX (i j:Int):Prop:=i.natAbs<B/\j.natAbs<B
instance (i j:Int):Decidable (sX i j):=inferInstanceAs (Decidable (_/\_))
def sW (i j:Int):Prop:=j≠0/\j.natAbs<B
instance (i j:Int):Decidable (sW i j):=inferInstanceAs (Decidable (_/\_))
def DG (i j:Int):Prop:=j≠0
instance (i j:Int):Decidable (DG i j):=inferInstanceAs (Decidable (_≠_))
instance (i j:Int):Decidable (D3 i j):=inferInstanceAs (Decidable (_/\_/\_))
abbrev rR:=gI (fun _ _=>True) fun i j=>.int (i-j)
abbrev fu:=gI sX fun i j=>.int (i*j)
abbrev fq:=gI sW fun i j=>.int (i.fdiv j)
abbrev bR:=gI DG fun i j=>.int (i.fmod j)
abbrev BM:=gI (fun _ _=>True) fun i j=>.bl (decide (i<j))
abbrev yt:=gI (fun _ _=>True) fun i j=>.bl (decide (i≤j))
abbrev xU:=gI (fun _ _=>True) fun i j=>.bl (decide (j<i))
abbrev Eh:=gI (fun _ _=>True) fun i j=>.bl (decide (j≤i))
theorem pE:jK X (binaryOp .Sub) rR:=kg A2 fun _ _ _ _=>rfl
theorem gN:jK X (binaryOp .Mult) fu:=ue (C:=sX) (gv:=fun i j=>.int (i*j)) (Ey fun _ _ _ _ _ _ _ hc q=>mul_int q (CS hc.1 hc.2)) fun _ _ _ _=>rfl
theorem gM:jK X (binaryOp .FloorDiv) fq:=ue (C:=sW) (gv:=fun i j=>.int (i.fdiv j)) (Ey fun _ _ _ _ _ _ _ hc q=>floordiv_int hc.1 q (.inl (PyProof.noPylong_of_log2 (Nat.lt_trans (zq hc.2) (by decide:4000<9000))))) fun _ _ _ _=>rfl
theorem cJ:jK X (binaryOp .Mod) bR:=ue (C:=DG) (gv:=fun i j=>.int (i.fmod j)) yO fun _ _ _ _=>rfl
theorem w8:jK X (compareOp .Lt) BM:=kg CZ fun _ _ _ _=>rfl
theorem ug:jK X (compareOp .LtE) yt:=kg CY fun _ _ _ _=>rfl
theorem qM:jK X (compareOp .Gt) xU:=kg CW fun _ _ _ _=>rfl
theorem C1:jK X (compareOp .GtE) Eh:=kg CV fun _ _ _ _=>rfl
def lU:T->T->Option T
 | .str x,.str y=>if x.length+y.length≤sizeLine then some (.str (x++y)) else none
 | .lst xs,.lst ys=>if xs.length+ys.length≤sizeLine then some (.lst (xs++ys)) else none
 | .tup (x::xs),.tup (y::ys)=>if (x::xs).length+(y::ys).length≤sizeLine then some (.tup (x::xs++y::ys)) else none
 |_,_=>none
theorem yQ:jK X (binaryOp .Add) lU:=by
 intro pins s σ H x y v u Q I rx ry ⟨F,a,b,t,sm,ra,rb,e,q⟩
 unfold lU at e
 split at e
 ·split at e
  ·next hl =>
   cases e;cases ra;cases rb
   exact sC pins s σ H _ _ v u Q I rx ry ⟨_,_,rfl,rfl,hl,q F H _ (aS.refl sm) rfl⟩
  ·cases e
 ·split at e
  ·next hl =>
   cases e
   obtain⟨p1,x1,rfl,h1,h2⟩:=ra
   obtain⟨p2,x2,rfl,h3,h4⟩:=rb
   refine A0 pins s σ H _ _ v u Q I rx ry ⟨p1,p2,x1,x2,rfl,rfl,sm _ _ h1,sm _ _ h3,by rw [h2.length,h4.length];exact hl,fun p hp=>?_⟩
   have gr:=aS.new (.lst (x1++x2)) sm hp
   exact q _ _ _ gr ⟨p,_,rfl,aM,aP.mono gr.sF (h2.append h4)⟩
  ·cases e
 ·split at e
  ·next hl =>
   cases e
   obtain⟨p1,x1,rfl,h1,h2⟩:=ra
   obtain⟨p2,x2,rfl,h3,h4⟩:=rb
   refine yN pins s σ H _ _ v u Q I rx ry ⟨p1,p2,x1,x2,rfl,rfl,bB sm h1,bB sm h3,fun z=>?_,by rw [h2.length,h4.length];exact hl,fun z=>?_,fun _ p hp=>?_⟩
   ·subst z;have:=h2.length;simp at this
   ·subst z;have:=h4.length;simp at this
   ·have gr:=aS.new (.tup (x1++x2)) sm hp
    exact q _ _ _ gr ⟨p,_,rfl,kW.of aM,aP.mono gr.sF (h2.append h4)⟩
  ·cases e
 ·cases e
def bQ:T->T->Option T:=Ej (gI (fun _ _=>True) fun i j=>.int (i+j)) lU
theorem bu:jK X (binaryOp .Add) bQ:=jK.or (kg AZ fun _ _ _ _=>rfl) yQ
theorem dB {i j:Int}:bQ (.int i) (.int j)=some (.int (i+j)):=rfl
theorem wj {xs ys:List T}(h:xs.length+ys.length≤sizeLine):bQ (.lst xs) (.lst ys)=some (.lst (xs++ys)):=by
 show lU (.lst xs) (.lst ys)=_
 simp only [lU,if_pos h]
theorem wk {x y:T}{xs ys:List T}(h:(x::xs).length+(y::ys).length≤sizeLine):bQ (.tup (x::xs)) (.tup (y::ys))=some (.tup (x::xs++y::ys)):=by
 show lU (.tup (x::xs)) (.tup (y::ys))=_
 simp only [lU,if_pos h]
def yw:T->Option T
 | .int i=>some (.int (-i))
 |_=>none
theorem BE:EX X (unaryOp .USub) yw:=by
 intro pins s σ H x v Q I rx ⟨F,a,t,sm,ra,e,q⟩
 unfold yw at e
 split at e
 ·cases e;cases ra
  exact BD pins s σ H _ v Q I rx ⟨_,rfl,q F H _ (aS.refl sm) rfl⟩
 ·cases e
mutual
def BA:T->Option PyData
 | .non=>some .none
 | .bl b=>some (.bool b)
 | .int i=>some (.int i)
 | .str x=>some (.str x)
 | .tup ts=>(pS ts).map .tuple
 | .lst ts=>(pS ts).map .list
 | .scr ts=>(pS ts).map .list
 | .ty _=>none
 | .dic=>none
 | .obj _ _ _=>none
 | .ptr _=>none
 | .exc _ _ _=>none
def pS:List T->Option (List PyData)
 |[]=>some []
 |t::ts=>(BA t).bind fun d=>(pS ts).bind fun ds=>some (d::ds)
end
mutual
theorem il (I:Inv X pins σ H s)(sm:aD F H):∀{t:T} {d:PyData} {v:V} {u:Value},BA t=some d->Rep X.K F t v->RelV v u->∃as,Reads s.heap u d as
 | .non,d,v,u,e,r,ru=>by cases r;cases e;cases ru;exact⟨_,.none⟩
 | .bl b,d,v,u,e,r,ru=>by cases r;cases e;cases ru;exact⟨_,.bool _⟩
 | .int i,d,v,u,e,r,ru=>by cases r;cases e;obtain⟨t,rfl⟩:=ru;exact⟨_,.int _ _⟩
 | .str x,d,v,u,e,r,ru=>by cases r;cases e;obtain⟨t,rfl⟩:=ru;exact⟨_,.str _ _⟩
 | .ty _,d,v,u,e,r,ru=>by cases e
 | .dic,d,v,u,e,r,ru=>by cases e
 | .obj _ _ _,d,v,u,e,r,ru=>by cases e
 | .ptr _,d,v,u,e,r,ru=>by cases e
 | .exc _ _ _,d,v,u,e,r,ru=>by cases e
 | .tup ts,d,v,u,e,r,ru=>by
  obtain⟨p,xs,rfl,h1,h2⟩:=r
  cases ru
  simp only [BA] at e
  cases e1:pS ts with
  |none=>rw [e1] at e;cases e
  |some ds =>
   rw [e1] at e;cases e
   obtain⟨its,rv,⟨o,g1,g2,n,g3⟩,_⟩:=I.tuple (bB sm h1)
   obtain⟨as,q⟩:=fO I sm e1 h2 rv
   exact⟨_,.tuple g1 g2 g3 q⟩
 | .lst ts,d,v,u,e,r,ru=>by
  obtain⟨p,xs,rfl,h1,h2⟩:=r
  cases ru
  simp only [BA] at e
  cases e1:pS ts with
  |none=>rw [e1] at e;cases e
  |some ds =>
   rw [e1] at e;cases e
   obtain⟨its,rv,⟨o,n,g1,g2,_,g3⟩,_⟩:=I.list (iK.of (sm _ _ h1))
   obtain⟨as,q⟩:=fO I sm e1 h2 rv
   exact⟨_,.list g1 g2 g3 q⟩
 | .scr ts,d,v,u,e,r,ru=>by
  obtain⟨p,xs,rfl,h1,h2⟩:=r
  cases ru
  simp only [BA] at e
  cases e1:pS ts with
  |none=>rw [e1] at e;cases e
  |some ds =>
   rw [e1] at e;cases e
   obtain⟨its,rv,⟨o,n,g1,g2,_,g3⟩,_⟩:=I.list (sm.seq h1)
   obtain⟨as,q⟩:=fO I sm e1 h2 rv
   exact⟨_,.list g1 g2 g3 q⟩
theorem fO (I:Inv X pins σ H s)(sm:aD F H):∀{ts:List T} {ds:List PyData} {vs:List V} {us:List Value},pS ts=some ds->aP X.K F ts vs->Vals vs us->∃as,ReadsAll s.heap us ds as
 |[],ds,vs,us,e,r,ru=>by cases r;cases ru;cases e;exact⟨_,.nil⟩
 |t::ts,ds,vs,us,e,r,ru=>by
  obtain⟨v,rr,rfl,h1,h2⟩:=r
  cases ru with
  |cons r1 r2 =>
   simp only [pS] at e
   obtain⟨d,e1,e⟩:=bind_some e
   obtain⟨ds',e2,e⟩:=bind_some e
   cases e
   obtain⟨as,q1⟩:=il I sm e1 h1 r1
   obtain⟨bs,q2⟩:=fO I sm e2 h2 r2
   exact⟨_,.cons q1 q2⟩
end
def Cv (neg:Bool)(a b:T):Option T:=(BA a).bind fun p=>(BA b).bind fun q=>if SeqAt.shaped p=true/\SeqAt.shaped q=true then some (.bl (if neg then !PyData.eqv p q else PyData.eqv p q)) else none
abbrev jg:=Cv false
abbrev xV:=Cv true
theorem ik (hu:X.A.units+64<cLine):jK X (compareOp .Eq) jg:=by
 intro pins s σ H x y v u Q I rx ry ⟨F,a,b,t,sm,ra,rb,e,q⟩
 obtain⟨d1,e1,e⟩:=bind_some e
 obtain⟨d2,e2,e⟩:=bind_some e
 split at e
 ·next hs =>
  cases e
  obtain⟨as,q1⟩:=il I sm e1 ra rx
  obtain⟨bs,q2⟩:=il I sm e2 rb ry
  exact SeqAt.compareEq_shaped q1 q2 hs.1 hs.2 hu ⟨.bl _,H,I,rfl,q F H _ (aS.refl sm) rfl⟩
 ·cases e
theorem nP (hu:X.A.units+64<cLine):jK X (compareOp .NotEq) xV:=by
 intro pins s σ H x y v u Q I rx ry ⟨F,a,b,t,sm,ra,rb,e,q⟩
 obtain⟨d1,e1,e⟩:=bind_some e
 obtain⟨d2,e2,e⟩:=bind_some e
 split at e
 ·next hs =>
  cases e
  obtain⟨as,q1⟩:=il I sm e1 ra rx
  obtain⟨bs,q2⟩:=il I sm e2 rb ry
  exact SeqAt.compareNe_shaped q1 q2 hs.1 hs.2 hu ⟨.bl _,H,I,rfl,q F H _ (aS.refl sm) rfl⟩
 ·cases e
def tX:T->Bool
 | .non=>true
 |_=>false
def FC:T->T->Option T
 |a,.non=>some (.bl (tX a))
 | .bl c,.bl d=>some (.bl (c == d))
 |_,_=>none
theorem uV {K:PySem.W.Frag}{F:Hp}{t:T}{v:V}(r:Rep K F t v):decide (v=.non)=tX t:=by
 cases t with
 |non=>cases r;rfl
 |bl _=>cases r;rfl
 |int _=>cases r;rfl
 |str _=>cases r;rfl
 |ty _=>cases r;rfl
 |tup _=>obtain⟨p,xs,rfl,_⟩:=r;rfl
 |lst _=>obtain⟨p,xs,rfl,_⟩:=r;rfl
 |scr _=>obtain⟨p,xs,rfl,_⟩:=r;rfl
 |dic=>obtain⟨p,rfl,_⟩:=r;rfl
 |obj _ _ _=>obtain⟨p,_,_,rfl,_⟩:=r;rfl
 |ptr _=>rw [show v=_ from r];rfl
 |exc _ _ _=>obtain⟨p,_,rfl,_⟩:=r;rfl
def fH:T->T->Option T
 | .lst ts,.int i=>mO ts i
 | .scr ts,.int i=>mO ts i
 | .tup ts,.int i=>mO ts i
 | .str x,.int i=>if x.length≤sizeLine then (mO x.cps.toList i).map fun c=>.str ⟨#[c]⟩ else none
 |_,_=>none
theorem n6 {K:PySem.W.Frag}{F:Hp}{ts:List T}{vs:List V}{i:Int}{t:T}(r:aP K F ts vs)(e:mO ts i=some t):∃v,mO vs i=some v/\Rep K F t v:=by
 unfold mO at e ⊢
 rw [r.length]
 obtain⟨j,e1,e2⟩:=bind_some e
 obtain⟨v,g1,g2⟩:=r.get e2
 exact⟨v,by rw [e1];exact g1,g2⟩
theorem dJ:BG X (BS X.K fH):=by
 intro value slice pins s σ H x y v u Q I rx ry ⟨F,a,b,t,sm,ra,rb,e,q⟩ hs
 unfold fH at e
 split at e
 ·obtain⟨p,xs,rfl,h1,h2⟩:=ra
  cases rb
  obtain⟨w,g1,g2⟩:=n6 h2 e
  exact tY value slice pins s σ H _ _ v u Q I rx ry ⟨p,xs,_,w,rfl,rfl,iK.of (sm _ _ h1),g1,q F H _ (aS.refl sm) g2⟩ hs
 ·obtain⟨p,xs,rfl,h1,h2⟩:=ra
  cases rb
  obtain⟨w,g1,g2⟩:=n6 h2 e
  exact tY value slice pins s σ H _ _ v u Q I rx ry ⟨p,xs,_,w,rfl,rfl,sm.seq h1,g1,q F H _ (aS.refl sm) g2⟩ hs
 ·obtain⟨p,xs,rfl,h1,h2⟩:=ra
  cases rb
  obtain⟨w,g1,g2⟩:=n6 h2 e
  exact AN value slice pins s σ H _ _ v u Q I rx ry ⟨p,xs,_,w,rfl,rfl,bB sm h1,g1,q F H _ (aS.refl sm) g2⟩ hs
 ·split at e
  ·next hl =>
   cases ra;cases rb
   cases e1:mO (Str.cps _).toList _ with
   |none=>rw [e1] at e;cases e
   |some c =>
    rw [e1] at e;cases e
    exact AL value slice pins s σ H _ _ v u Q I rx ry ⟨_,_,c,rfl,rfl,hl,e1,q F H _ (aS.refl sm) rfl⟩ hs
  ·cases e
 ·cases e
theorem jj (h:eM X f r)(i:∀vs H Q,DX X.K g vs H Q->r vs H Q):jh X f g:=fun pins s σ H xs us Q I rx q=>h pins s σ H xs us Q I rx (i _ _ _ q)
def dz:List T->Option T
 |[.lst ts]=>some (.int ts.length)
 |[.scr ts]=>some (.int ts.length)
 |[.tup ts]=>some (.int ts.length)
 |[.str x]=>if x.length≤sizeLine then some (.int x.length) else none
 |_=>none
theorem cU:jh X (.builtin "len") dz:=jj (eM.or n9 oa) fun vs H Q hq__=>by
 obtain⟨F,ts,t,sm,r,e,q⟩:=hq__
 unfold dz at e
 split at e
 ·obtain⟨v,rr,rfl,⟨p,xs,rfl,h1,h2⟩,rfl⟩:=r
  cases e
  exact .inl ⟨p,xs,rfl,.inl (iK.of (sm _ _ h1)),by rw [h2.length];exact q F H _ (aS.refl sm) rfl⟩
 ·obtain⟨v,rr,rfl,⟨p,xs,rfl,h1,h2⟩,rfl⟩:=r
  cases e
  exact .inl ⟨p,xs,rfl,.inl (sm.seq h1),by rw [h2.length];exact q F H _ (aS.refl sm) rfl⟩
 ·obtain⟨v,rr,rfl,⟨p,xs,rfl,h1,h2⟩,rfl⟩:=r
  cases e
  exact .inl ⟨p,xs,rfl,.inr (bB sm h1),by rw [h2.length];exact q F H _ (aS.refl sm) rfl⟩
 ·split at e
  ·next hl =>
   obtain⟨v,rr,rfl,h1,rfl⟩:=r
   cases h1;cases e
   exact .inr ⟨_,rfl,hl,q F H _ (aS.refl sm) rfl⟩
  ·cases e
 ·cases e
def uI:List T->Option T
 |[.int i]=>some (.int (if i<0 then -i else i))
 |_=>none
theorem vN:jh X (.builtin "abs") uI:=jj vH fun vs H Q hq__=>by
 obtain⟨F,ts,t,sm,r,e,q⟩:=hq__
 unfold uI at e
 split at e
 ·obtain⟨v,rr,rfl,h1,rfl⟩:=r
  cases h1;cases e
  exact⟨_,rfl,q F H _ (aS.refl sm) rfl⟩
 ·cases e
def Eb:List T->Option T
 |[.int i,.int j]=>some (.int (if j>i then j else i))
 |_=>none
def Ed:List T->Option T
 |[.int i,.int j]=>some (.int (if j<i then j else i))
 |_=>none
def BU:T->Option String
 | .non=>some "NoneType"
 | .bl _=>some "bool"
 | .int _=>some "int"
 | .str _=>some "str"
 | .tup _=>some "tuple"
 | .lst _=>some "list"
 | .scr _=>some "list"
 | .dic=>some "dict"
 | .obj _ _ _=>none
 | .ptr _=>none
 | .exc _ _ _=>none
 | .ty _=>none
def kinds:List String:=["int","bool","str","list","tuple","dict"]
def DT (a c:String):Option Bool:=if c∈kinds then some (a == c||(a == "bool"&&c == "int")) else none
def AI (a:String):List T->Option Bool
 |[]=>some false
 | .ty c::r=>(DT a c).bind fun b=>if b=true then some true else AI a r
 |_::_=>none
theorem wJ {K:PySem.W.Frag}{t:T}{a c:String}{b:Bool}(ha:BU t=some a)(h:DT a c=some b):PySem.W.kitOne K (.type a) (.type c)=some b:=by
 have ha:a∈["NoneType","bool","int","str","tuple","list","dict"]:=by
  cases t<;>simp only [BU] at ha<;>cases ha<;>simp
 unfold DT at h
 split at h
 ·next hc =>
  cases h
  simp only [kinds,List.mem_cons,List.not_mem_nil,or_false] at hc ha
  rcases ha with rfl | rfl | rfl | rfl | rfl | rfl | rfl<;>rcases hc with rfl | rfl | rfl | rfl | rfl | rfl<;>rfl
 ·cases h
theorem tZ {K:PySem.W.Frag}{F:Hp}{t:T}{a:String}(ha:BU t=some a):∀{cs:List T} {vs:List V} {us:List Value} {b:Bool},AI a cs=some b->aP K F cs vs->Vals vs us->PySem.W.kitAny K (.type a) us=some b
 |[],vs,us,b,h,r,ru=>by cases r;cases ru;cases h;rfl
 | .ty c::cs,vs,us,b,h,r,ru=>by
  obtain⟨v,rr,rfl,h1,h2⟩:=r
  cases h1
  cases ru with
  |cons r1 r2 =>
   cases r1
   obtain⟨b',e1,h⟩:=bind_some h
   unfold PySem.W.kitAny
   rw [wJ ha e1]
   cases b' with
   |true=>rw [if_pos rfl] at h;exact h
   |false=>rw [if_neg (by decide)] at h;exact tZ ha h h2 r2
 | .non::cs,vs,us,b,h,r,ru=>by cases h
 | .bl _::cs,vs,us,b,h,r,ru=>by cases h
 | .int _::cs,vs,us,b,h,r,ru=>by cases h
 | .str _::cs,vs,us,b,h,r,ru=>by cases h
 | .tup _::cs,vs,us,b,h,r,ru=>by cases h
 | .lst _::cs,vs,us,b,h,r,ru=>by cases h
 | .scr _::cs,vs,us,b,h,r,ru=>by cases h
 | .dic::cs,vs,us,b,h,r,ru=>by cases h
 | .obj _ _ _::cs,vs,us,b,h,r,ru=>by cases h
 | .ptr _::cs,vs,us,b,h,r,ru=>by cases h
 | .exc _ _ _::cs,vs,us,b,h,r,ru=>by cases h
theorem qB (I:Inv X pins σ H s)(sm:aD F H)(r:Rep X.K F t v)(ru:RelV v u)(ha:BU t=some a):
  ∃Hh:Heap->Prop,PySem.W.KitX X.K u (.type a) Hh/\Hh s.heap/\u≠.builtin "__main__.__loader__#opaque" := by
 cases t with
 |non=>cases r;cases ru;cases ha;exact⟨_,PySem.W.kitx_none,True.intro,fun z=>nomatch z⟩
 |bl _=>cases r;cases ru;cases ha;exact⟨_,PySem.W.kitx_bool,True.intro,fun z=>nomatch z⟩
 |int _=>cases r;obtain⟨t,rfl⟩:=ru;cases ha;exact⟨_,PySem.W.kitx_int,True.intro,fun z=>nomatch z⟩
 |str _=>cases r;obtain⟨t,rfl⟩:=ru;cases ha;exact⟨_,PySem.W.kitx_str,True.intro,fun z=>nomatch z⟩
 |ty _=>cases ha
 |tup _ =>
  obtain⟨p,xs,rfl,h1,h2⟩:=r
  cases ru;cases ha
  obtain⟨its,rv,⟨o,g1,g2,n,g3⟩,_⟩:=I.tuple (bB sm h1)
  exact⟨_,PySem.W.kitx_tuple,⟨o,g1,g2⟩,fun z=>nomatch z⟩
 |lst _ =>
  obtain⟨p,xs,rfl,h1,h2⟩:=r
  cases ru;cases ha
  obtain⟨its,rv,⟨o,n,g1,g2,_,g3⟩,_⟩:=I.list (iK.of (sm _ _ h1))
  exact⟨_,PySem.W.kitx_list,⟨o,g1,g2⟩,fun z=>nomatch z⟩
 |scr _ =>
  obtain⟨p,xs,rfl,h1,h2⟩:=r
  cases ru;cases ha
  obtain⟨its,rv,⟨o,n,g1,g2,_,g3⟩,_⟩:=I.list (sm.seq h1)
  exact⟨_,PySem.W.kitx_list,⟨o,g1,g2⟩,fun z=>nomatch z⟩
 |dic =>
  obtain⟨p,rfl,h1⟩:=r
  cases ru;cases ha
  obtain⟨_,_,vs,_,o,es,ep,h1,h2,_⟩:=(show bO X.prog X.w H s.heap p (.dK []) from I.hok p _ (sm _ _ h1))
  exact⟨_,PySem.W.kitx_dict,⟨o,h1,h2.1⟩,fun z=>nomatch z⟩
 |obj _ _ _=>cases ha
 |ptr _=>cases ha
 |exc _ _ _=>cases ha
def aU:List T->Option T
 |[t,.ty c]=>(BU t).bind fun a=>(DT a c).bind fun b=>some (.bl b)
 |[t,.tup cs]=>(BU t).bind fun a=>(AI a cs).bind fun b=>some (.bl b)
 |_=>none
theorem h9:jh X (.builtin "isinstance") aU:=by
 intro pins s σ H xs us Q I rx ⟨F,ts,t,sm,r,e,q⟩
 unfold aU at e
 split at e
 ·obtain⟨a,e1,e⟩:=bind_some e
  obtain⟨b,e2,e⟩:=bind_some e
  cases e
  obtain⟨v,rr,rfl,h1,v2,r2,rfl,h2,rfl⟩:=r
  cases h2
  obtain⟨u1,u2,rfl,ra,rb⟩:=Vals.two rx
  cases rb
  obtain⟨Hh,Z,hh,hn⟩:=qB I sm h1 ra e1
  exact PySem.W.kia_one Z I.kIn hh (wJ e1 e2) hn fun tk=>⟨.bl b,H,I.tok tk,rfl,q F H _ (aS.refl sm) rfl⟩
 ·obtain⟨a,e1,e⟩:=bind_some e
  obtain⟨b,e2,e⟩:=bind_some e
  cases e
  obtain⟨v,rr,rfl,h1,v2,r2,rfl,⟨p,xs,rfl,h3,h4⟩,rfl⟩:=r
  obtain⟨u1,u2,rfl,ra,rb⟩:=Vals.two rx
  cases rb
  obtain⟨Hh,Z,hh,hn⟩:=qB I sm h1 ra e1
  obtain⟨its,rv,⟨o,g1,g2,n,g3⟩,_⟩:=I.tuple (bB sm h3)
  obtain⟨oc,od,odt,osl⟩:=o
  dsimp only at g2 g3
  subst g2 g3
  exact PySem.W.kia_tup Z I.kIn hh g1 (tZ e1 e2 h4 rv) hn fun tk=>⟨.bl b,H,I.tok tk,rfl,q F H _ (aS.refl sm) rfl⟩
 ·cases e
end
section
variable {X:Cx}{pos:Pos}
def EI:TE:=fun _ H Q=>∀p,H p=none->Q (.ref p) (upd H p (.dK []))
theorem A7 (hb:∀pins σ H s,Inv X pins σ H s->sysModules<s.heap.objs.size):PE X (.Dict [] [] pos) EI:=fun pins s σ H Q I h =>
 wpAny_Dict_empty ⟨.ref s.heap.objs.size,_,I.laid (a:=s.heap.objs.size) (o:=.dK []) (t':=s.toks) (fun _ _ z=>Heap.get?_push_of_some _ z) (Nat.le_refl _)
  ⟨Nat.zero_le _,beq_eq_false_iff_ne.mpr (Nat.ne_of_gt (hb _ _ _ _ I)),[],.nil,Heap.DictOf.new s.heap⟩,rfl,h _ I.fresh⟩
theorem zV (I:Inv X pins σ H s):sysModules<s.heap.objs.size:=by
 obtain⟨mb,h1,_⟩:=I.mod.blt
 have h2:=(h1.keeps I.bk).lt
 have h3:(sysModules:Nat)<builtinsNs\/¬ (sysModules:Nat)<builtinsNs:=Nat.lt_or_ge _ _ |>.imp id (fun h=>Nat.not_lt.mpr h)
 have h4:=(I.mod.glob.keeps I.bk).lt
 first
  |exact Nat.lt_of_le_of_lt (by decide) h2
  |exact Nat.lt_of_le_of_lt (by decide) h4
def yo:FE:=fun τ=>some (.dic,τ)
theorem xq:SE X (.Dict [] [] pos) yo:=fun Y0 Y9=>PE.weak (A7 fun _ _ _ _ I=>zV I) fun σ H Q hq__=>by
 obtain⟨F,τ,t,τ',E,e1,q⟩:=hq__
 cases e1
 intro p hp
 have gr:=aS.new (.dK []) E.g.fh hp
 exact q _ _ _ (E.grow gr) gr.sF ⟨p,rfl,aM⟩
abbrev FO:=aw->Option (Option Int×aw)
def yp:FO:=fun τ=>some (none,τ)
def Co (f:FE):FO:=fun τ=>(f τ).bind fun p=>match p.1 with | .int i=>some (some i,p.2) | _=>none
def Ae (xs:List T)(lo hi:Option Int):List T:=(xs.drop (HT.Dg xs.length 0 lo)).take (HT.Dg xs.length xs.length hi-HT.Dg xs.length 0 lo)
def FD (t:T)(lo hi:Option Int):Option T:=match t with
 | .lst xs=>some (.lst (Ae xs lo hi))
 | .scr xs=>some (.lst (Ae xs lo hi))
 | .tup xs=>if HT.Dg xs.length 0 lo=0/\HT.Dg xs.length xs.length hi=xs.length then none else some (.tup (Ae xs lo hi))
 |_=>none
def Fz (f:FE)(fl fh:FO):FE:=fun τ=>(f τ).bind fun p=>(fl p.2).bind fun q=>(fh q.2).bind fun r=>(FD p.1 q.1 r.1).bind fun t=>some (t,r.2)
theorem nU (i:Nat){p1 p2 p3:Pos}(hv:PE X (.Name x p1) (xI i))(he:SE X e f)
  (hbase:attributeBase (.Name x p1) "append" X.env (eval (.Name x p1) X.env)=eval (.Name x p1) X.env:=by rfl)
  (hfew:((backTo p3 (starEach [e] X.env)).all (fun x=>!x.1)&&(backToKw p3 (keywordEach [] X.env)).all (fun x=>x.1.isSome)&&decide ([e].length+([]:List Keyword).length+(if ([]:List Keyword).isEmpty then 0 else 1)<30))=true:=by rfl)
  (hline:(p2.endLine == p3.line)=true:=by rfl) (hs:starEach [e] X.env=(false,eval e X.env)::starEach [] X.env:=by rfl) (hpl:(backTo p3 (starEach [] X.env)).any (·.1)=false:=by rfl)
  (hsw:swapsWith (.Call (.Attribute (.Name x p1) "append" p2) [e] [] p3) none pos.line X.env=pure false:=by rfl):
  SS X (.Expr (.Call (.Attribute (.Name x p1) "append" p2) [e] [] p3) pos) (oA i f):=fun Y0 Y9 =>
 PS.weak (uj (C4 PySem.F.plainAttrs_list PySem.F.slot_list_append PySem.F.type_list_append jX hv (iA (he Y0 Y9) pF hs) hbase hfew hline hs hpl) hsw) fun D σ H hq__=>by
  obtain⟨F,τ,r,E,e1,q⟩:=hq__
  unfold oA at e1
  split at e1
  ·next ts0 h0 =>
   obtain⟨⟨t,τ1⟩,e2,e1⟩:=bind_some e1
   dsimp only at e1
   split at e1
   ·next ts h1 =>
    split at e1
    ·next hz =>
     cases e1
     obtain⟨v,g1,p,vs,rfl,g2,g3,g4,g5⟩:=E.sl i _ h0
     refine⟨_,g1,.inl ⟨rfl,vs,iK.of g2⟩,F,τ,t,τ1,E,e2,fun F' H' w E' s' r'=>?_⟩
     obtain⟨v',k1,p',vs',rfl,k2,k3,k4,k5⟩:=E'.sl i _ h1
     rw [g1] at k1;cases k1
     exact⟨p,vs',w,rfl,rfl,k2,by rw [k5.length];exact hz,q F' _ σ (E'.turnOwn h1 g1 (k5.append (.one r'))) s'⟩
    ·cases e1
   ·cases e1
  ·cases e1
def Bv (a b c:Int):Prop:=(0≤a/\a<2^62)/\(0≤b/\b<2^62)/\(1≤c/\c<2^29)
instance (a b c:Int):Decidable (Bv a b c):=inferInstanceAs (Decidable ((_/\_)/\(_/\_)/\_/\_))
end
section
variable {prog:Program}{w:World}{A:Around}{E:Value->Shared->Prop}{s:Shared}
variable {z TI TO i1 i2 l1 l2:Addr}{k:Nat}{xs ys:Array Value}{x y a b:Value}{c1 c2:Bool}
end
section
variable {prog:Program}{w:World}{A:Around}{E:Value->Shared->Prop}{s:Shared}
end
section
variable {X:Cx}{pins:List (Addr×Obj)}{σ:L2.St}{H:Hp}{s:Shared}
end
def EG:T->Option (Bool×List T)
 | .lst ts=>some (true,ts)
 | .scr ts=>some (true,ts)
 | .tup ts=>some (false,ts)
 |_=>none
def BF:List T->List T->List T
 |x::xs,y::ys=>.tup [x,y]::BF xs ys
 |_,_=>[]
def Cr (g:FA):FA:=fun τ=>(g τ).bind fun p=>match p.1 with
 |[a,b]=>(EG a).bind fun x=>(EG b).bind fun y=>some (BF x.2 y.2,p.2)
 |_=>none
theorem qq:aU [.non,.ty "int"]=some (.bl false):=rfl
theorem oR:aU [.non,.ty "bool"]=some (.bl false):=rfl
theorem qr:aU [.non,.ty "str"]=some (.bl false):=rfl
theorem oU:aU [.non,.ty "list"]=some (.bl false):=rfl
theorem mY:aU [.non,.ty "tuple"]=some (.bl false):=rfl
theorem oS:aU [.non,.ty "dict"]=some (.bl false):=rfl
theorem sd:aU [.non,.tup [.ty "list", .ty "tuple"]]=some (.bl false):=rfl
theorem rV {b:Bool}:aU [(.bl b),.ty "int"]=some (.bl true):=rfl
theorem qg {b:Bool}:aU [(.bl b),.ty "bool"]=some (.bl true):=rfl
theorem rW {b:Bool}:aU [(.bl b),.ty "str"]=some (.bl false):=rfl
theorem qi {b:Bool}:aU [(.bl b),.ty "list"]=some (.bl false):=rfl
theorem oG {b:Bool}:aU [(.bl b),.ty "tuple"]=some (.bl false):=rfl
theorem qh {b:Bool}:aU [(.bl b),.ty "dict"]=some (.bl false):=rfl
theorem uW {b:Bool}:aU [(.bl b),.tup [.ty "list", .ty "tuple"]]=some (.bl false):=rfl
theorem ql {i:Int}:aU [(.int i),.ty "int"]=some (.bl true):=rfl
theorem oK {i:Int}:aU [(.int i),.ty "bool"]=some (.bl false):=rfl
theorem qm {i:Int}:aU [(.int i),.ty "str"]=some (.bl false):=rfl
theorem oN {i:Int}:aU [(.int i),.ty "list"]=some (.bl false):=rfl
theorem mW {i:Int}:aU [(.int i),.ty "tuple"]=some (.bl false):=rfl
theorem oM {i:Int}:aU [(.int i),.ty "dict"]=some (.bl false):=rfl
theorem rY {i:Int}:aU [(.int i),.tup [.ty "list", .ty "tuple"]]=some (.bl false):=rfl
theorem qw:aU [(.str x),.ty "int"]=some (.bl false):=rfl
theorem oZ:aU [(.str x),.ty "bool"]=some (.bl false):=rfl
theorem qx:aU [(.str x),.ty "str"]=some (.bl true):=rfl
theorem pd:aU [(.str x),.ty "list"]=some (.bl false):=rfl
theorem m3:aU [(.str x),.ty "tuple"]=some (.bl false):=rfl
theorem pb:aU [(.str x),.ty "dict"]=some (.bl false):=rfl
theorem si:aU [(.str x),.tup [.ty "list", .ty "tuple"]]=some (.bl false):=rfl
theorem qy:aU [(.tup ts),.ty "int"]=some (.bl false):=rfl
theorem pe:aU [(.tup ts),.ty "bool"]=some (.bl false):=rfl
theorem qz:aU [(.tup ts),.ty "str"]=some (.bl false):=rfl
theorem pj:aU [(.tup ts),.ty "list"]=some (.bl false):=rfl
theorem m5:aU [(.tup ts),.ty "tuple"]=some (.bl true):=rfl
theorem pf:aU [(.tup ts),.ty "dict"]=some (.bl false):=rfl
theorem sj:aU [(.tup ts),.tup [.ty "list", .ty "tuple"]]=some (.bl true):=rfl
theorem qo:aU [(.lst ts),.ty "int"]=some (.bl false):=rfl
theorem oO:aU [(.lst ts),.ty "bool"]=some (.bl false):=rfl
theorem qp:aU [(.lst ts),.ty "str"]=some (.bl false):=rfl
theorem oQ:aU [(.lst ts),.ty "list"]=some (.bl true):=rfl
theorem mX:aU [(.lst ts),.ty "tuple"]=some (.bl false):=rfl
theorem oP:aU [(.lst ts),.ty "dict"]=some (.bl false):=rfl
theorem rZ:aU [(.lst ts),.tup [.ty "list", .ty "tuple"]]=some (.bl true):=rfl
theorem qt:aU [(.scr ts),.ty "int"]=some (.bl false):=rfl
theorem oW:aU [(.scr ts),.ty "bool"]=some (.bl false):=rfl
theorem qu:aU [(.scr ts),.ty "str"]=some (.bl false):=rfl
theorem oY:aU [(.scr ts),.ty "list"]=some (.bl true):=rfl
theorem mZ:aU [(.scr ts),.ty "tuple"]=some (.bl false):=rfl
theorem oX:aU [(.scr ts),.ty "dict"]=some (.bl false):=rfl
theorem sf:aU [(.scr ts),.tup [.ty "list", .ty "tuple"]]=some (.bl true):=rfl
theorem qj:aU [.dic,.ty "int"]=some (.bl false):=rfl
theorem oH:aU [.dic,.ty "bool"]=some (.bl false):=rfl
theorem qk:aU [.dic,.ty "str"]=some (.bl false):=rfl
theorem oJ:aU [.dic,.ty "list"]=some (.bl false):=rfl
theorem mV:aU [.dic,.ty "tuple"]=some (.bl false):=rfl
theorem oI:aU [.dic,.ty "dict"]=some (.bl true):=rfl
theorem rX:aU [.dic,.tup [.ty "list", .ty "tuple"]]=some (.bl false):=rfl
theorem kZ (i j:Int):jg (.int i) (.int j)=some (.bl (decide (i=j))):=by
 show some (T.bl (i == j))=_
 rw [Bool.beq_eq_decide_eq]
theorem yu (i j:Int):xV (.int i) (.int j)=some (.bl (!decide (i=j))):=by
 show some (T.bl (!(i == j)))=_
 rw [Bool.beq_eq_decide_eq]
theorem AD (i j:Bool):jg (.bl i) (.bl j)=some (.bl (i == j)):=rfl
theorem wx (i j:Bool):xV (.bl i) (.bl j)=some (.bl (!(i == j))):=rfl
theorem uz (i j:Int):sW i j ↔ (¬ j=0/\j.natAbs<B):=Iff.rfl
theorem uA (i j:Int):sX i j ↔ (i.natAbs<B/\j.natAbs<B):=Iff.rfl
theorem xY (i j:Int):DG i j ↔ ¬ j=0:=Iff.rfl
theorem cq {n:Nat}(h:n≤1000):n≤sizeLine:=Nat.le_of_lt (gy h)
theorem Fg:(0:Nat)≤sizeLine:=cq (by decide)
theorem Fh:(1:Nat)≤sizeLine:=cq (by decide)
theorem Es:(2:Nat)≤sizeLine:=cq (by decide)
theorem FY:(3:Nat)≤sizeLine:=cq (by decide)
theorem Fi:(4:Nat)≤sizeLine:=cq (by decide)
theorem wt {x y:T}:fH (.tup [x,y]) (.int 0)=some x:=rfl
theorem wu {x y:T}:fH (.tup [x,y]) (.int 1)=some y:=rfl
theorem wo {x y:T}:fH (.lst [x,y]) (.int 0)=some x:=rfl
theorem wq {x y:T}:fH (.lst [x,y]) (.int 1)=some y:=rfl
theorem vP (a:Int):uI [.int a]=some (.int (a.natAbs:Int)):=by
 have e:(if a<0 then -a else a)=(a.natAbs:Int):=by split<;>omega
 simp only [uI,e]
theorem Ea:(2^64:Nat)<B:=by decide +kernel
theorem yA {ns:List Int}{k:Int}(h0:0≤k)(h1:k<(ns.length:Int)):fH (.scr (ns.map T.int)) (.int k)=some (.int (ns.getD k.toNat 0)):=by
 show mO (ns.map T.int) k=_
 obtain⟨j,rfl⟩:=Int.eq_ofNat_of_zero_le h0
 have hk:j<ns.length:=by omega
 refine ya ?_
 rw [List.getElem?_map,List.getElem?_eq_getElem hk]
 simp [List.getD,List.getElem?_eq_getElem hk]
def jP (env:Env):List (Str×NameKind)->List (Str×Addr)->List (Str×Addr)
 |[],acc=>acc
 |(x,k)::r,acc=>if k == .free then jP env r ((x,(env.cells.lookup x).getD 0)::acc) else jP env r acc
theorem kv (f:Str×NameKind->List (Str×Addr)->Sem (ForInStep (List (Str×Addr))))(hf:∀x k cs,f (x,k) cs=if k == .free then (do let a <- cellOf env x;pure (.yield ((x,a)::cs))) else pure (.yield cs)):
  ∀(names:List (Str×NameKind)) (acc:List (Str×Addr)),(∀y∈names,y.2=.free->∃c,env.cells.lookup y.1=some c)->forIn names acc f=pure (jP env names acc)
 |[],acc,_=>by rw [List.forIn_nil];rfl
 |(x,k)::r,acc,hy=>by
  rw [List.forIn_cons,hf]
  have ih:=kv f hf r
  have hr:∀y∈r,y.2=.free->∃c,env.cells.lookup y.1=some c:=fun z hz=>hy z (List.mem_cons_of_mem _ hz)
  cases hk:(k == NameKind.free) with
  |true =>
   obtain⟨c,hc⟩:=hy (x,k) List.mem_cons_self (beq_iff_eq.mp hk)
   dsimp only at hc
   simp only [if_true,jP,hc,cellOf,pure_bind,Option.getD_some,hk]
   exact ih _ hr
  |false =>
   simp only [Bool.false_eq_true,if_false,jP,pure_bind,hk]
   exact ih _ hr
theorem lN {env:Env}{scope:Scope}(h:∀y∈scope.names,y.2=.free->∃c,env.cells.lookup y.1=some c):closureFor scope env=pure (jP env scope.names []):=by
 simp only [closureFor]
 rw [kv (env:=env) _ (fun x k cs=>by cases hk:k == NameKind.free<;>simp [hk]) scope.names [] h]
 rfl
theorem oh {env:Env}:∀(names:List (Str×NameKind)) (acc:List (Str×Addr)) (x:Str) (c:Addr),(∀y∈names,y.2=.free->∃c,env.cells.lookup y.1=some c)->(x,c)∈jP env names acc->(x,c)∈acc\/(env.cells.lookup x=some c/\(x,NameKind.free)∈names)
 |[],acc,x,c,_,h=>.inl h
 |(y,k)::r,acc,x,c,hy,h=>by
  unfold jP at h
  have hr:∀z∈r,z.2=.free->∃c,env.cells.lookup z.1=some c:=fun z hz=>hy z (List.mem_cons_of_mem _ hz)
  cases hk:(k == NameKind.free) with
  |true =>
   rw [if_pos hk] at h
   rcases oh r _ x c hr h with h | h
   ·rcases List.mem_cons.mp h with h | h
    ·cases h
     obtain⟨c,hc⟩:=hy (y,k) List.mem_cons_self (beq_iff_eq.mp hk)
     dsimp only at hc
     refine .inr ⟨by rw [hc];rfl,?_⟩
     rw [beq_iff_eq.mp hk]
     exact List.mem_cons_self
    ·exact .inl h
   ·exact .inr ⟨h.1,List.mem_cons_of_mem _ h.2⟩
  |false =>
   rw [if_neg (by rw [hk];decide)] at h
   rcases oh r _ x c hr h with h | h
   ·exact .inl h
   ·exact .inr ⟨h.1,List.mem_cons_of_mem _ h.2⟩
theorem dk:∀{l:List (Str×Addr)} {x:Str} {c:Addr},(x,c)∈l->∃d,l.lookup x=some d
 |(y,d)::r,x,c,h=>by
  rw [List.lookup_cons]
  cases hb:x == y with
  |true=>exact⟨d,rfl⟩
  |false =>
   rcases List.mem_cons.mp h with h | h
   ·cases h;simp at hb
   ·exact dk h
theorem kX:∀(names:List (Str×NameKind)) (acc:List (Str×Addr)) (x:Str),((x,NameKind.free)∈names\/∃c,(x,c)∈acc)->∃c,(x,c)∈jP env names acc
 |[],acc,x,h=>by
  rcases h with h | h
  ·cases h
  ·exact h
 |(y,k)::r,acc,x,h=>by
  unfold jP
  cases hk:(k == NameKind.free) with
  |true =>
   rw [if_pos rfl]
   refine kX r _ x ?_
   rcases h with h | ⟨c,h⟩
   ·rcases List.mem_cons.mp h with h | h
    ·cases h;exact .inr ⟨_,List.mem_cons_self⟩
    ·exact .inl h
   ·exact .inr ⟨c,List.mem_cons_of_mem _ h⟩
  |false =>
   rw [if_neg (by decide)]
   refine kX r _ x ?_
   rcases h with h | h
   ·rcases List.mem_cons.mp h with h | h
    ·cases h;cases hk
    ·exact .inl h
   ·exact .inr h
theorem rl:∀(names:List (Str×NameKind)) (n:Nat) (acc:List (Str×Addr)) (x:Str) (c:Addr),(x,c)∈cellsFrom n names acc->(x,c)∈acc\/(n≤c/\(x,NameKind.cell)∈names)
 |[],n,acc,x,c,h=>.inl h
 |(y,k)::r,n,acc,x,c,h=>by
  unfold cellsFrom at h
  cases hk:(k == NameKind.cell) with
  |true =>
   rw [if_pos hk] at h
   rcases rl r _ _ x c h with h | ⟨h1,h2⟩
   ·rcases List.mem_cons.mp h with h | h
    ·cases h
     refine .inr ⟨Nat.le_refl _,?_⟩
     rw [beq_iff_eq.mp hk]
     exact List.mem_cons_self
    ·exact .inl h
   ·exact .inr ⟨Nat.le_of_succ_le h1,List.mem_cons_of_mem _ h2⟩
  |false =>
   rw [if_neg (by rw [hk];decide)] at h
   rcases rl r _ _ x c h with h | ⟨h1,h2⟩
   ·exact .inl h
   ·exact .inr ⟨h1,List.mem_cons_of_mem _ h2⟩
theorem rk:∀(names:List (Str×NameKind)) (n:Nat) (acc:List (Str×Addr)),(∀x y c,(x,c)∈acc->(y,c)∈acc->x=y)->(∀x c,(x,c)∈acc->@LT.lt Nat _ c n)->∀x y c,(x,c)∈cellsFrom n names acc->(y,c)∈cellsFrom n names acc->x=y
 |[],n,acc,h1,_,x,y,c,h,h'=>h1 x y c h h'
 |(z,k)::r,n,acc,h1,h2,x,y,c,h,h'=>by
  unfold cellsFrom at h h'
  cases hk:(k == NameKind.cell) with
  |true =>
   rw [if_pos hk] at h h'
   refine rk r (n+1) _ (fun a b d ha hb=>?_) (fun a d ha=>?_) x y c h h'
   ·rcases List.mem_cons.mp ha with ha | ha<;>rcases List.mem_cons.mp hb with hb | hb
    ·cases ha;cases hb;rfl
    ·cases ha;exact absurd (h2 _ _ hb) (Nat.lt_irrefl _)
    ·cases hb;exact absurd (h2 _ _ ha) (Nat.lt_irrefl _)
    ·exact h1 a b d ha hb
   ·rcases List.mem_cons.mp ha with ha | ha
    ·cases ha;exact Nat.lt_succ_self _
    ·exact Nat.lt_succ_of_lt (h2 _ _ ha)
  |false =>
   rw [if_neg (by rw [hk];decide)] at h h'
   exact rk r n acc h1 h2 x y c h h'
theorem lM:∀(names:List (Str×NameKind)) (n:Nat) (acc:List (Str×Addr)) (x:Str),((x,NameKind.cell)∈names\/∃c,(x,c)∈acc)->∃c,(x,c)∈cellsFrom n names acc
 |[],n,acc,x,h=>by
  rcases h with h | h
  ·cases h
  ·exact h
 |(y,k)::r,n,acc,x,h=>by
  unfold cellsFrom
  cases hk:(k == NameKind.cell) with
  |true =>
   rw [if_pos rfl]
   refine lM r _ _ x ?_
   rcases h with h | ⟨c,h⟩
   ·rcases List.mem_cons.mp h with h | h
    ·cases h;exact .inr ⟨_,List.mem_cons_self⟩
    ·exact .inl h
   ·exact .inr ⟨c,List.mem_cons_of_mem _ h⟩
  |false =>
   rw [if_neg (by decide)]
   refine lM r _ _ x ?_
   rcases h with h | h
   ·rcases List.mem_cons.mp h with h | h
    ·cases h;cases hk
    ·exact .inl h
   ·exact .inr h
theorem og:∀(names:List (Str×NameKind)) (h:Heap) (acc:List (Str×Addr)) (x:Str) (c:Addr),(x,c)∈cellsFrom h.objs.size names acc->(x,c)∈acc\/(pushCells h names).IsCell c none
 |[],h,acc,x,c,m=>.inl m
 |(y,k)::r,h,acc,x,c,m=>by
  unfold cellsFrom at m
  unfold pushCells
  cases hk:(k == NameKind.cell) with
  |true =>
   rw [if_pos hk] at m
   rw [if_pos rfl]
   have m':(x,c)∈cellsFrom (h.push { cls:=.type "cell", data:=.cell none }).objs.size r ((y,h.objs.size)::acc):=by rw [Heap.size_push];exact m
   rcases og r _ _ x c m' with m | m
   ·rcases List.mem_cons.mp m with m | m
    ·cases m
     refine .inr ?_
     have q:(h.push { cls:=.type "cell", data:=.cell none }).IsCell h.objs.size none:=⟨_,Heap.get?_push_size _ rfl,rfl⟩
     exact q.keeps fun b o e=>pushCells_keeps r _ b o e
    ·exact .inl m
   ·exact .inr m
  |false =>
   rw [if_neg (by rw [hk];decide)] at m
   rw [if_neg (by decide)]
   exact og r h acc x c m
def eC (X:Cx)(scope:Scope)(C:Addr)(cs:List (Str×Addr)):Env:=
 { newEnv scope C X.env.globals cs X.env.qual none .none (some X.env) builtinsNs with scope:=relabel scope X.env }
def mR (X:Cx)(scope:Scope)(N':List Str)(C:Addr)(cs:List (Str×Addr))(Y8:Shared)(Y9:Hp)(fp:List Addr)(pins:List (Addr×Obj)):Cx:=
 { X with N:=N',Y8:=Y8,Y9:=Y9,env:=eC X scope C cs,outer:=X.stack,stack:=X.stack,ex:=fp,fn:=fun x=>scope.names.lookup x == some .cell,pn:=X.pn++pins,xe:=fun _ _=>False }
structure eZ (X:Cx)(scope:Scope):Prop where
 kind:scope.kind=.function
 names:∀y∈scope.names,y.2=.local->scope.names.lookup y.1=some .local
 free:∀y∈scope.names,y.2=.free->(X.env.kindOf y.1=some .cell\/X.env.kindOf y.1=some .free)/\(y.1,NameKind.cell)∉scope.names/\scope.names.lookup y.1=some .free
theorem mem_of_lookupK:∀{l:List (Str×NameKind)} {x:Str} {k:NameKind},l.lookup x=some k->(x,k)∈l
 |(y,d)::r,x,k,h=>by
  rw [List.lookup_cons] at h
  cases hb:x == y with
  |true=>rw [hb] at h;cases h;rw [beq_iff_eq.mp hb];exact List.mem_cons_self
  |false=>rw [hb] at h;exact List.mem_cons_of_mem _ (mem_of_lookupK h)
theorem eN {env:Env}:∀{names:List (Str×NameKind)} {x:Str},names.lookup x=some .free ->
    ((names.map fun (n,k)=>if (k == NameKind.free&&env.scope.kind == .function&&env.kindOf n == some .cell) then (n,NameKind.cell) else (n,k)).lookup x=some .cell \/
     (names.map fun (n,k)=>if (k == NameKind.free&&env.scope.kind == .function&&env.kindOf n == some .cell) then (n,NameKind.cell) else (n,k)).lookup x=some .free)
  |(n,k)::r,x,h=>by
    rw [List.lookup_cons] at h
    have en:∀y:Str×NameKind,y=(if (k == NameKind.free&&env.scope.kind == .function&&env.kindOf n == some .cell)=true then (n,NameKind.cell) else (n,k))->y.1=n/\(y.2=.cell\/y.2=k):=fun y e=>by
      subst e
      split
      · exact⟨rfl,.inl rfl⟩
      · exact⟨rfl,.inr rfl⟩
    rw [List.map_cons]
    dsimp only
    generalize hy:(if (k == NameKind.free&&env.scope.kind == .function&&env.kindOf n == some .cell)=true then (n,NameKind.cell) else (n,k))=y
    obtain⟨e1,e2⟩:=en y hy.symm
    obtain⟨a,b⟩:=y
    dsimp only at e1 e2
    subst e1
    rw [List.lookup_cons]
    cases hb:x == a with
    |true =>
      rw [hb] at h
      cases h
      rcases e2 with rfl | rfl
      · exact .inl rfl
      · exact .inr rfl
    |false =>
      rw [hb] at h
      exact eN h
theorem qO {X:Cx}{scope:Scope}{x:Str}(h:(eC X scope C cs).kindOf x=some .cell\/(eC X scope C cs).kindOf x=some .free):(x,NameKind.cell)∈scope.names\/(x,NameKind.free)∈scope.names:=by
 have key:∀k,(eC X scope C cs).kindOf x=some k->(k=.cell\/k=.free)->(x,NameKind.cell)∈scope.names\/(x,NameKind.free)∈scope.names:=fun k h hk=>by
  have m:=mem_of_lookupK (show (relabel scope X.env).names.lookup x=some k from h)
  unfold relabel at m
  obtain⟨⟨y,j⟩,m1,m2⟩:=List.mem_map.mp m
  dsimp only at m2
  split at m2
  ·next hc =>
   cases m2
   simp only [Bool.and_eq_true,beq_iff_eq] at hc
   rw [hc.1.1] at m1
   exact .inr m1
  ·cases m2
   rcases hk with rfl | rfl
   ·exact .inl m1
   ·exact .inr m1
 rcases h with h | h
 ·exact key _ h (.inl rfl)
 ·exact key _ h (.inr rfl)
section
variable {X:Cx}{pins:List (Addr×Obj)}{σ:L2.St}{H:Hp}{s:Shared}{scope:Scope}{fp:List Addr}{N':List Str}{σ':L2.St}
abbrev iL:Obj:={ cls:=.type "list", dict:=none,data:=.seq ([]:List Value).toArray }
abbrev qa:Obj:={ cls:=.type "dict", data:=.dict #[] }
def h0 (h:Heap)(scope:Scope):Heap:=pushCells ((h.push iL).push qa) scope.names
theorem eS {h:Heap}{b:Addr}{o:Obj}(e:h.get? b=some o):(h0 h scope).get? b=some o:=pushCells_keeps _ _ _ _ (Heap.get?_push_of_some _ (Heap.get?_push_of_some _ e))
theorem AG (h:Heap):(h0 h scope).get? h.objs.size=some iL:=pushCells_keeps _ _ _ _ (Heap.get?_push_of_some _ (Heap.get?_push_size _ rfl))
theorem nz (I:Inv X pins σ H s)(B:eZ X scope)(hf:∀b∈fp,mP X pins H b)(ho:∀b∈fp,∃o,s.heap.get? b=some o)(hl:σ'.length=N'.length)
  (cap:∀(i:Nat) (x:Str) (v:V),N'[i]? = some x->σ'[i]? = some (some v)->((x,NameKind.free)∈scope.names/\∃j:Nat,X.N[j]? = some x/\σ[j]? = some (some v))\/¬ uB (relabel scope X.env) x) {tk:Nat} :
  Inv (mR X scope N' (s.heap.objs.size+1) (cellsFrom (s.heap.objs.size+2) scope.names (jP X.env scope.names [])) s H fp pins) [] σ' (upd H s.heap.objs.size (.lst [])) { s with heap:=h0 s.heap scope,toks:=tk }:=by
 have hz1:(s.heap.push iL).objs.size=s.heap.objs.size+1:=Heap.size_push ..
 have hz2:((s.heap.push iL).push qa).objs.size=s.heap.objs.size+2:=by rw [Heap.size_push,hz1]
 have hfree:∀y∈scope.names,y.2=.free->∃c,X.env.cells.lookup y.1=some c:=fun y hy hk=>I.ok.has y.1 (B.free y hy hk).1
 have clm:∀x c,(x,c)∈jP X.env scope.names []->X.env.cells.lookup x=some c/\(x,NameKind.free)∈scope.names:=fun x c h=>by
  rcases oh _ _ x c hfree h with h | h
  ·cases h
  ·exact h
 have cl_lt:∀x c,(x,c)∈jP X.env scope.names []->@LT.lt Nat _ c s.heap.objs.size:=fun x c h=>by
  obtain⟨v,q⟩:=I.cell x c (clm x c h).1
  exact q.lt
 have csm:∀x c,(x,c)∈cellsFrom (s.heap.objs.size+2) scope.names (jP X.env scope.names [])->(X.env.cells.lookup x=some c/\(x,NameKind.free)∈scope.names/\@LT.lt Nat _ c s.heap.objs.size)\/(@LE.le Nat _ (s.heap.objs.size+2) c/\(x,NameKind.cell)∈scope.names):=fun x c h=>by
  rcases rl _ _ _ x c h with h | h
  ·exact .inl ⟨(clm x c h).1,(clm x c h).2,cl_lt x c h⟩
  ·exact .inr h
 have hD:H s.heap.objs.size=none:=I.fresh
 have up:∀b:Addr,@LT.lt Nat _ b s.heap.objs.size->upd H s.heap.objs.size (.lst []) b=H b:=fun b hb=>aB (Nat.ne_of_lt hb)
 have upF:∀b:Addr,@LT.lt Nat _ s.heap.objs.size b->upd H s.heap.objs.size (.lst []) b=none:=fun b hb=>by rw [aB (Nat.ne_of_gt hb)];exact I.hok.fresh (Nat.le_of_lt hb)
 have flt:∀b∈fp,@LT.lt Nat _ b s.heap.objs.size:=fun b hb=>by obtain⟨o,e⟩:=ho b hb;exact Heap.lt_size e
 refine⟨⟨I.ok.mod,B.kind,I.ok.glob,I.ok.blt,Nat.le_succ _,fun x y c h1 h2=>?_,fun x hx=>?_,fun x c hx h=>?_,I.ok.hd,I.ok.frames,.inl rfl,fun b hb=>⟨?_,fun x c h=>?_⟩,I.bs,Nat.le_trans I.ok.bsz I.sz,fun b o e hb=>?_,fun b hb z=>?_,I.stack,I.stkFree⟩,
  rfl,I.bare,?_,⟨fun _=>none,?_,fun i x v e1 e2 e3=>?_⟩,fun x c h=>?_,upF _ (Nat.lt_succ_self _),fun x c h=>?_,fun p hp=>?_,?_,hl⟩
 ·exact rk _ _ _ (fun a b d ha hb=>I.ok.inj a b d (clm a d ha).1 (clm b d hb).1) (fun a d ha=>Nat.lt_of_lt_of_le (cl_lt a d ha) (Nat.le_add_right _ 2)) x y c (PySem.mem_of_lookup h1) (PySem.mem_of_lookup h2)
 ·have hm:∃c,(x,c)∈cellsFrom (s.heap.objs.size+2) scope.names (jP X.env scope.names []):=by
   rcases qO hx with h | h
   ·exact lM _ _ _ x (.inl h)
   ·exact lM _ _ _ x (.inr (kX _ _ x (.inl h)))
  obtain⟨c,hm⟩:=hm
  exact dk hm
 ·have hx':scope.names.lookup x=some .cell:=beq_iff_eq.mp hx
  rcases csm x c (PySem.mem_of_lookup h) with ⟨_,h2,_⟩ | ⟨h1,_⟩
  ·exact absurd (mem_of_lookupK hx') (B.free _ h2 rfl).2.1
  ·exact Nat.le_trans (Nat.le_add_right _ 2) h1
 ·exact Nat.ne_of_lt (Nat.lt_succ_of_lt (flt b hb))
 ·rcases csm x c (PySem.mem_of_lookup h) with ⟨h1,_,_⟩ | ⟨h1,_⟩
  ·exact (hf b hb).2.2.2.2.1 x c h1
  ·exact Nat.ne_of_gt (Nat.lt_of_lt_of_le (flt b hb) (Nat.le_trans (Nat.le_add_right _ 2) h1))
 ·rcases (hf b hb).2.2.2.1 with z | z
  ·exact I.ok.noex b o e z
  ·exact absurd (Nat.lt_of_lt_of_le (Heap.lt_size e) (Nat.le_trans I.ok.bsz z)) (Nat.lt_irrefl _)
 ·rcases List.mem_cons.mp (I.stkSub b z) with z | z
  ·exact (hf b hb).2.1 z
  ·exact (hf b hb).2.2.1 z
 ·exact Un.laid (fun b o e=>eS e) (Nat.le_refl _) hD
 ·have q:=Heap.Ns.new (s.heap.push iL) (.type "dict")
  rw [hz1] at q
  exact q.keeps fun b o e=>pushCells_keeps _ _ b o e
 ·rcases cap i x v e1 e2 with ⟨hx,j,hj,hv⟩ | hn
  ·obtain⟨m,hm,hlk⟩:=I.loc
   have hk:=(B.free _ hx rfl).1
   have vis:uB X.env.scope x:=by
    rcases hk with hk | hk
    ·exact .inr (.inl hk)
    ·exact .inr (.inr hk)
   obtain⟨u,r,l⟩:=hlk j x v hj hv vis
   refine⟨u,r,.inr ?_⟩
   rcases l with ⟨z,_⟩ | ⟨_,c,hc,hcell⟩
   ·rcases hk with hk | hk<;>(rw [show X.env.kindOf x=X.env.scope.names.lookup x from rfl] at hk z;rw [hk] at z;cases z)
   ·obtain⟨c',hc'⟩:=dk (Classical.choose_spec (lM scope.names (s.heap.objs.size+2) (jP X.env scope.names []) x (.inr (kX _ _ x (.inl hx)))))
    have ec:c'=c:=by
     rcases csm x c' (PySem.mem_of_lookup hc') with ⟨h1,_,_⟩ | ⟨_,h2⟩
     ·rw [hc] at h1;exact (Option.some.inj h1).symm
     ·exact absurd h2 (B.free _ hx rfl).2.1
    subst ec
    refine⟨?_,c',hc',hcell.keeps fun b o e=>eS e⟩
    rcases e3 with e3 | e3 | e3
    ·rcases eN (env:=X.env) (B.free _ hx rfl).2.2 with q | q
     ·exact .inl q
     ·exact .inr q
    ·exact .inl e3
    ·exact .inr e3
  ·exact absurd e3 hn
 ·rcases og scope.names ((s.heap.push iL).push qa) (jP X.env scope.names []) x c (by rw [hz2];exact PySem.mem_of_lookup h) with m | m
  ·obtain⟨v,q⟩:=I.cell x c (clm x c m).1
   exact⟨v,q.keeps fun b o e=>eS e⟩
  ·exact⟨none,m⟩
 ·rcases csm x c (PySem.mem_of_lookup h) with ⟨h1,_,h3⟩ | ⟨h1,_⟩
  ·rw [up c h3];exact I.freeC x c h1
  ·exact upF c (Nat.lt_of_lt_of_le (Nat.lt_add_of_pos_right (by decide)) h1)
 ·have hp':p∈X.pn++pins:=by simpa [mR] using hp
  obtain⟨e,n,ne,nf,d⟩:=I.pin p hp'
  have lt:@LT.lt Nat _ p.1 s.heap.objs.size:=Heap.lt_size e
  refine⟨eS e,by rw [up _ lt];exact n,Nat.ne_of_lt (Nat.lt_succ_of_lt lt),fun z=>?_,d⟩
  rcases List.mem_cons.mp (I.stkSub _ z) with z | z
  ·exact ne z
  ·exact nf z
 ·exact I.hok.laid (fun b o e=>eS e) (Nat.le_refl _) ⟨Nat.zero_le _,[],0,.nil,AG s.heap⟩
end
abbrev uy (ifs:List Expr)(env:Env):Sem Bool:=forIn ifs true fun c r=>if r=true then do let ok <- isTrue c env (eval c env);pure (ForInStep.yield ok) else pure (ForInStep.yield r)
theorem uG {prog:Program}{w:World}{A:Around}{R:Result->Shared->Prop}{s:Shared}{elt target iter:Expr}{ifs:List Expr}{scope:Scope}{pos:Pos}{it acc:Value}{env:Env}(I:Nat->Shared->Prop)
  (turn:∀n s,I n s->wpAny (model prog w) A (pyNext it) (fun r s₁=>match r with
   |none=>R (.ok .next) s₁
   | some v=>wpAny (model prog w) A (letOwnedTupleGo target it v) (fun _ s₂=>wpAny (model prog w) A (assign target env v) (fun _ s₃=>wpAny (model prog w) A (uy ifs env) (fun ok s₄ =>
     if ok=true then wpAny (model prog w) A (eval elt env) (fun x s₅=>wpAny (model prog w) A (call (.builtin "list.append") [acc,x]) (fun _ s₆=>∃m,m<n/\I m s₆) (fun _ _=>False) s₅) (fun _ _=>False) s₄
     else ∃m,m<n/\I m s₄) (fun _ _=>False) s₃) (fun _ _=>False) s₂) (fun _ _=>False) s₁) (fun _ _=>False) s)
  (n:Nat) (h:I n s):codeAny (model prog w) A (.compLoop (.ListComp elt [⟨target,iter,ifs,0⟩] scope pos) 0 it acc env) R s:=by
 have no:∀{α:Type} {m:Sem α} {Q:α->Shared->Prop} {E:Value->Shared->Prop} {s:Shared},wpAny (model prog w) A m Q (fun _ _=>False) s->wpAny (model prog w) A m Q E s:=fun h=>wpAny_mono h (fun _ _ q=>q) fun _ _ z=>z.elim
 refine codeAny_loop rfl I (fun n s hI=>?_) n h
 refine (wpAny_noted ?_:wpAny _ A ((compTurn (.ListComp elt [⟨target,iter,ifs,0⟩] scope pos) 0 it acc env).onRaise (fun x=>do noteFrame x env;theTreesLotGoes x)) _ _ s)
 rw [compTurn_list]
 refine wpAny_bind (wpAny_standAt (wpAny_bind (wpAny_mono (no (turn n s hI)) (fun r s₁ h₁=>?_) fun _ _ z=>z)))
 cases r with
 |none=>exact wpAny_pure h₁
 |some v =>
  refine wpAny_bind (wpAny_mono (no h₁) (fun _ s₂ h₂=>wpAny_bind (wpAny_mono (no h₂) (fun _ s₃ h₃=>wpAny_bind (wpAny_mono (no h₃) (fun ok s₄ h₄=>?_) fun _ _ z=>z)) fun _ _ z=>z)) fun _ _ z=>z)
  cases ok with
  |false=>exact wpAny_pure ⟨rfl,h₄⟩
  |true=>exact wpAny_bind (wpAny_bind (wpAny_mono (no h₄) (fun x s₅ h₅=>wpAny_bind (wpAny_mono (no h₅) (fun _ s₆ h₆=>wpAny_pure (wpAny_pure ⟨rfl,h₆⟩)) fun _ _ z=>z)) fun _ _ z=>z))
def bt:aw->Bool
 |[]=>true
 |some (.own _)::_=>false
 |_::r=>bt r
theorem cu:∀{τ:aw} {i:Nat} {ts:List T},bt τ=true->τ[i]?≠some (some (.own ts))
 |[],i,ts,_=>by simp
 |some (.own _)::_,i,ts,h=>by cases h
 |some (.sh t)::r,0,ts,h=>by simp
 |none::r,0,ts,h=>by simp
 |some (.sh t)::r,i+1,ts,h=>by rw [List.getElem?_cons_succ];exact cu (τ:=r) h
 |none::r,i+1,ts,h=>by rw [List.getElem?_cons_succ];exact cu (τ:=r) h
def jl (fg:FG)(ft:FT)(fe:FE):List T->aw->List T->Option (List T)
 |[],_,acc=>some acc
 |t::ts,τ,acc=>(fg t τ).bind fun τ1=>(ft τ1).bind fun p=>if p.1=true then (fe p.2).bind fun q=>if bt q.2=true/\acc.length<sizeLine then jl fg ft fe ts q.2 (acc++[q.1]) else none
  else if bt p.2=true then jl fg ft fe ts p.2 acc else none
def frz1 (j:Nat)(τ:aw):aw:=match τ[j]? with
 |some (some (.own ts))=>τ.set j (some (.sh (.lst ts)))
 |_=>τ
def frzAll:List Nat->aw->aw
 |[],τ=>τ
 |j::r,τ=>frzAll r (frz1 j τ)
def p0 {α:Type}(l:List (Option α))(j:Nat):Option α:=match l[j]? with
 |some x=>x
 |none=>none
def bP {α:Type}(no:Nat)(cap:List Nat)(l:List (Option α)):List (Option α):=List.replicate no none++cap.map (p0 l)
def fj (no:Nat)(cap:List Nat)(fi:FA)(fg:FG)(ft:FT)(fe:FE):FE:=fun τ=>(fi τ).bind fun p =>
 if bt (bP no cap (frzAll cap p.2))=true then (jl fg ft fe p.1 (bP no cap (frzAll cap p.2)) []).bind fun us=>some (.lst us,frzAll cap p.2) else none
def bF:FT:=fun τ=>some (true,τ)
def BZ (X:Cx)(ifs:List Expr)(ft:FT):Prop:=∀Y0 Y9 pins s σ H Q,Inv X pins σ H s->tT X.K Y0 Y9 ft σ H Q->wpAny (model X.prog X.w) X.A (uy ifs X.env) (TP X pins σ Q) X.xe s
theorem iF {X:Cx}:BZ X [] bF:=fun Y0 Y9 pins s σ H Q I hq__=>by
 obtain⟨F,τ,b,τ',E,e,q⟩:=hq__
 cases e
 exact wpAny_tests_nil ⟨H,I,q F H E (aD.refl _)⟩
section
variable {K:PySem.W.Frag}{Y0 Y9 F H:Hp}{σ:L2.St}{τ:aw}
theorem au.frz1 (E:au K Y0 Y9 F H σ τ)(j:Nat):∃F',au K Y0 Y9 F' H σ (TM.frz1 j τ)/\aD F F':=by
 unfold TM.frz1
 split
 ·next ts e =>
  obtain⟨F',v,_,E',s',_⟩:=E.freeze e
  exact⟨F',E',s'⟩
 ·exact⟨F,E,aD.refl _⟩
theorem au.frzAll:∀(cap:List Nat) {F:Hp} {τ:aw},au K Y0 Y9 F H σ τ->∃F',au K Y0 Y9 F' H σ (TM.frzAll cap τ)/\aD F F'
 |[],F,τ,E=>⟨F,E,aD.refl _⟩
 |j::r,F,τ,E=>by
  obtain⟨F1,E1,s1⟩:=E.frz1 j
  obtain⟨F2,E2,s2⟩:=au.frzAll r E1
  exact⟨F2,E2,s1.trans s2⟩
theorem au.rebase {H':Hp}(E:au K Y0 Y9 F H σ τ)(ha:bt τ=true)(s:aD F H'):au K F H' F H' σ τ:=by
 refine⟨aS.refl s,E.len,fun i sl e=>?_,fun i j ts us p _ e1=>absurd e1 (cu ha)⟩
 obtain⟨v,h1,h2⟩:=E.sl i sl e
 cases sl with
 |sh t=>exact⟨v,h1,h2⟩
 |own ts=>exact absurd e (cu ha)
theorem jO {α:Type}{no:Nat}{cap:List Nat}{l:List (Option α)}{i:Nat}{x:α}(h:(bP no cap l)[i]? = some (some x)):∃k j:Nat,i=no+k/\cap[k]? = some j/\l[j]? = some (some x):=by
 unfold bP at h
 by_cases hi:i<no
 ·rw [List.getElem?_append_left (by simpa using hi),List.getElem?_replicate] at h
  split at h<;>cases h
 ·rw [List.getElem?_append_right (by simpa using hi),List.length_replicate,List.getElem?_map] at h
  cases e:cap[i-no]? with
  |none=>rw [e] at h;cases h
  |some j =>
   rw [e] at h
   have h':p0 l j=some x:=Option.some.inj h
   unfold p0 at h'
   split at h'
   ·next y ey=>exact⟨i-no,j,by omega,e,by rw [ey,h']⟩
   ·cases h'
theorem uC {α:Type}{no:Nat}{cap:List Nat}{l:List (Option α)}{k j:Nat}{x:α}(h1:cap[k]? = some j)(h2:l[j]? = some (some x)):(bP no cap l)[no+k]? = some (some x):=by
 unfold bP
 rw [List.getElem?_append_right (by simp),List.length_replicate,Nat.add_sub_cancel_left,List.getElem?_map,h1]
 show some (p0 l j)=_
 unfold p0
 rw [h2]
theorem au.block {H':Hp}{no:Nat}{cap:List Nat}(E:au K Y0 Y9 F H σ τ)(ha:bt (bP no cap τ)=true)(s:aD F H'):au K F H' F H' (bP no cap σ) (bP no cap τ):=by
 refine⟨aS.refl s,by simp [bP],fun i sl e=>?_,fun i j ts us p _ e1=>absurd e1 (cu ha)⟩
 obtain⟨k,j,rfl,hk,hj⟩:=jO e
 obtain⟨v,h1,h2⟩:=E.sl j sl hj
 refine⟨v,uC hk h1,?_⟩
 cases sl with
 |sh t=>exact h2
 |own ts=>exact absurd e (cu ha)
end
section
variable {X:Cx}
end
def pZ (sc scope:Scope):Bool:=scope.kind == .function&&scope.names.all fun y=>(y.2 != .local||scope.names.lookup y.1 == some .local) &&
 (y.2 != .free||((sc.names.lookup y.1 == some .cell||sc.names.lookup y.1 == some .free)&&scope.names.all (fun z=>!(z.1 == y.1&&z.2 == .cell))&&scope.names.lookup y.1 == some .free))
theorem cH {X:Cx}{scope:Scope}(h:pZ X.env.scope scope=true):eZ X scope:=by
 unfold pZ at h
 simp only [Bool.and_eq_true,List.all_eq_true,Bool.or_eq_true,bne_iff_ne,beq_iff_eq,Bool.not_eq_true',Bool.and_eq_false_iff,ne_eq] at h
 refine⟨h.1,fun y hy hk=>?_,fun y hy hk=>?_⟩
 ·rcases (h.2 y hy).1 with z | z
  ·exact absurd hk z
  ·exact z
 ·rcases (h.2 y hy).2 with z | ⟨⟨z1,z2⟩,z3⟩
  ·exact absurd hk z
  ·refine⟨z1,fun m=>?_,z3⟩
   rcases z2 _ m with w | w
   ·simp at w
   ·simp at w
def lK (N N':List Str)(scope:Scope)(no:Nat):List Nat->Bool
 |[]=>true
 |j::r=>(match N'[no]?,N[j]? with | some x,some y=>x == y&&scope.names.any (fun z=>z.1 == x&&z.2 == .free) | _,_=>false)&&lK N N' scope (no+1) r
theorem hW {N N':List Str}{scope:Scope}:∀{no:Nat} {cap:List Nat},lK N N' scope no cap=true->∀(k j:Nat),cap[k]? = some j->∃x,N'[no+k]? = some x/\N[j]? = some x/\(x,NameKind.free)∈scope.names
 |no,[],_,k,j,e=>by simp at e
 |no,c::r,h,k,j,e=>by
  simp only [lK,Bool.and_eq_true] at h
  cases k with
  |zero =>
   simp at e
   subst e
   have h1:=h.1
   split at h1
   ·next x y ex ey =>
    simp only [Bool.and_eq_true,beq_iff_eq,List.any_eq_true] at h1
    obtain⟨rfl,z,hz,z1,z2⟩:=h1
    refine⟨x,ex,ey,?_⟩
    obtain⟨a,b⟩:=z
    dsimp only at z1 z2
    subst z1 z2
    exact hz
   ·cases h1
  |succ k =>
   obtain⟨x,h1,h2,h3⟩:=hW h.2 k j (by simpa using e)
   exact⟨x,by rw [show no+(k+1)=no+1+k by omega];exact h1,h2,h3⟩
inductive O where
 |val (t:T) | lst (os:List O)
mutual
def gi (K:PySem.W.Frag)(F H:Hp):O->V->List Addr->Prop
 | .val t,v,A=>A=[]/\Rep K F t v
 | .lst os,v,A=>∃p vs B,v=.ref p/\A=p::B/\H p=some (.lst vs)/\F p=none/\bj K F H os vs B
def bj (K:PySem.W.Frag)(F H:Hp):List O->List V->List Addr->Prop
 |[],vs,A=>vs=[]/\A=[]
 |o::os,vs,A=>∃v r B C,vs=v::r/\A=B++C/\gi K F H o v B/\bj K F H os r C
end
mutual
def O.tr:O->T
 | .val t=>t
 | .lst os=>.lst (O.trs os)
def O.trs:List O->List T
 |[]=>[]
 |o::os=>o.tr::O.trs os
end
section
variable {K:PySem.W.Frag}{F H F' H':Hp}
mutual
theorem gi.move (sF:aD F F'):∀{o:O} {v:V} {A:List Addr},(∀a∈A,H' a=H a/\F' a=none)->gi K F H o v A->gi K F' H' o v A
 | .val t,v,A,_,h=>⟨h.1,Rep.mono sF h.2⟩
 | .lst os,v,A,hA,h=>by
  obtain⟨p,vs,B,rfl,rfl,h1,h2,h3⟩:=h
  have hp:=hA p List.mem_cons_self
  exact⟨p,vs,B,rfl,rfl,hp.1.trans h1,hp.2,bj.move sF (fun a ha=>hA a (List.mem_cons_of_mem _ ha)) h3⟩
theorem bj.move (sF:aD F F'):∀{os:List O} {vs:List V} {A:List Addr},(∀a∈A,H' a=H a/\F' a=none)->bj K F H os vs A->bj K F' H' os vs A
 |[],vs,A,_,h=>h
 |o::os,vs,A,hA,h=>by
  obtain⟨v,r,B,C,rfl,rfl,h1,h2⟩:=h
  exact⟨v,r,B,C,rfl,rfl,gi.move sF (fun a ha=>hA a (List.mem_append_left _ ha)) h1,bj.move sF (fun a ha=>hA a (List.mem_append_right _ ha)) h2⟩
end
mutual
theorem gi.at:∀{o:O} {v:V} {A:List Addr},gi K F H o v A->∀a∈A,F a=none/\∃vs,H a=some (.lst vs)
 | .val t,v,A,h,a,ha=>by rw [h.1] at ha;cases ha
 | .lst os,v,A,h,a,ha=>by
  obtain⟨p,vs,B,rfl,rfl,h1,h2,h3⟩:=h
  rcases List.mem_cons.mp ha with rfl | ha
  ·exact⟨h2,vs,h1⟩
  ·exact bj.at h3 a ha
theorem bj.at:∀{os:List O} {vs:List V} {A:List Addr},bj K F H os vs A->∀a∈A,F a=none/\∃vs,H a=some (.lst vs)
 |[],vs,A,h,a,ha=>by rw [h.2] at ha;cases ha
 |o::os,vs,A,h,a,ha=>by
  obtain⟨v,r,B,C,rfl,rfl,h1,h2⟩:=h
  rcases List.mem_append.mp ha with ha | ha
  ·exact gi.at h1 a ha
  ·exact bj.at h2 a ha
end
mutual
theorem gi.rep (sF:aD F F'):∀{o:O} {v:V} {A:List Addr},(∀a∈A,F' a=H a)->gi K F H o v A->Rep K F' o.tr v
 | .val t,v,A,_,h=>Rep.mono sF h.2
 | .lst os,v,A,hA,h=>by
  obtain⟨p,vs,B,rfl,rfl,h1,h2,h3⟩:=h
  exact⟨p,vs,rfl,(hA p List.mem_cons_self).trans h1,bj.rep sF (fun a ha=>hA a (List.mem_cons_of_mem _ ha)) h3⟩
theorem bj.rep (sF:aD F F'):∀{os:List O} {vs:List V} {A:List Addr},(∀a∈A,F' a=H a)->bj K F H os vs A->aP K F' (O.trs os) vs
 |[],vs,A,_,h=>h.1
 |o::os,vs,A,hA,h=>by
  obtain⟨v,r,B,C,rfl,rfl,h1,h2⟩:=h
  exact⟨v,r,rfl,gi.rep sF (fun a ha=>hA a (List.mem_append_left _ ha)) h1,bj.rep sF (fun a ha=>hA a (List.mem_append_right _ ha)) h2⟩
end
theorem bj.app:∀{os us:List O} {vs ws:List V} {A B:List Addr},bj K F H os vs A->bj K F H us ws B->bj K F H (os++us) (vs++ws) (A++B)
 |[],_,_,_,_,_,h,h'=>by obtain⟨rfl,rfl⟩:=h;exact h'
 |o::os,_,_,_,_,_,h,h'=>by
  obtain⟨v,r,B,C,rfl,rfl,h1,h2⟩:=h
  exact⟨v,r++_,B,C++_,rfl,by rw [List.append_assoc],h1,bj.app h2 h'⟩
theorem bj.one {o:O}{v:V}{A:List Addr}(h:gi K F H o v A):bj K F H [o] [v] A:=⟨v,[],A,[],rfl,by simp,h,rfl,rfl⟩
theorem bj.length:∀{os:List O} {vs:List V} {A:List Addr},bj K F H os vs A->vs.length=os.length
 |[],_,_,h=>by rw [h.1];rfl
 |o::os,_,_,h=>by
  obtain⟨v,r,B,C,rfl,rfl,h1,h2⟩:=h
  simp [bj.length h2]
def frzO (F H:Hp)(A:List Addr):Hp:=fun a=>if a∈A then H a else F a
theorem tV {A:List Addr}{a:Addr}(h:a∈A):frzO F H A a=H a:=if_pos h
theorem js {A:List Addr}{a:Addr}(h:a∉A):frzO F H A a=F a:=if_neg h
theorem gn {A:List Addr}(h:∀a∈A,F a=none):aD F (frzO F H A):=fun a o e=>by
 rw [js (fun m=>by rw [h a m] at e;cases e)];exact e
theorem gi.frz {o:O}{v:V}{A:List Addr}(h:gi K F H o v A):Rep K (frzO F H A) o.tr v:=gi.rep (gn fun a ha=>(h.at a ha).1) (fun a ha=>tV ha) h
theorem aS.frzO {Y0 Y9:Hp}{A:List Addr}(g:aS Y0 Y9 F H)(h:∀a∈A,F a=none)(h0:∀a∈A,Y9 a=none):aS Y0 Y9 (frzO F H A) H:=by
 refine⟨g.sF.trans (gn h),g.sH,fun a o e=>?_,fun a o e=>?_⟩
 ·by_cases m:a∈A
  ·rw [tV m] at e;exact e
  ·rw [js m] at e;exact g.fh _ _ e
 ·by_cases m:a∈A
  ·exact .inr (h0 a m)
  ·rw [js m] at e;exact g.nw _ _ e
end
section
variable {K:PySem.W.Frag}{Y0 Y9 F H F' H':Hp}{σ:L2.St}{τ:aw}{A:List Addr}
def Apart (σ:L2.St)(τ:aw)(A:List Addr):Prop:=∀(j:Nat) us p,τ[j]? = some (some (.own us))->σ[j]? = some (some (.ref p))->p∉A
theorem au.frzO (E:au K Y0 Y9 F H σ τ)(h:∀a∈A,F a=none)(h0:∀a∈A,Y9 a=none)(ow:Apart σ τ A):au K Y0 Y9 (TM.frzO F H A) H σ τ:=by
 refine⟨E.g.frzO h h0,E.len,fun i s e=>?_,E.dj⟩
 obtain⟨v,h1,h2⟩:=E.sl i s e
 refine⟨v,h1,?_⟩
 cases s with
 |sh t=>exact Rep.mono (gn h) h2
 |own ts =>
  obtain⟨p,vs,rfl,k2,k3,k4,k5⟩:=h2
  exact⟨p,vs,rfl,k2,by rw [js (ow i ts p e h1)];exact k3,k4,aP.mono (gn h) k5⟩
end
abbrev rf:=aw->Option (O×aw)
def Gi (K:PySem.W.Frag)(Y0 Y9:Hp)(f:rf):TE:=fun σ H Q=>∃F τ o τ',au K Y0 Y9 F H σ τ/\f τ=some (o,τ') /\
 ∀F' H' v A,au K Y0 Y9 F' H' σ τ'->aD F F'->gi K F' H' o v A->A.Nodup->(∀a∈A,Y9 a=none)->Apart σ τ' A->Q v H'
def zr (X:Cx)(e:Expr)(f:rf):Prop:=∀Y0 Y9,PE X e (Gi X.K Y0 Y9 f)
section
variable {X:Cx}{e:Expr}{pos:Pos}
def EZ (f:rf):FE:=fun τ=>(f τ).bind fun p=>some (p.1.tr,p.2)
theorem zr.se {f:rf}(h:zr X e f):SE X e (EZ f):=fun Y0 Y9=>PE.weak (h Y0 Y9) fun σ H Q hq__=>by
 obtain⟨F,τ,t,τ',E,e1,q⟩:=hq__
 obtain⟨⟨o,τ1⟩,e2,e1⟩:=bind_some e1
 cases e1
 refine⟨F,τ,o,τ1,E,e2,fun F' H' v A E' s' r nd h0 ow=>?_⟩
 have hF:∀a∈A,F' a=none:=fun a ha=>(r.at a ha).1
 exact q _ H' v (E'.frzO hF h0 ow) (s'.trans (gn hF)) r.frz
def rO (f:FE):rf:=fun τ=>(f τ).bind fun p=>some (.val p.1,p.2)
theorem SE.seo {f:FE}(h:SE X e f):zr X e (rO f):=fun Y0 Y9=>PE.weak (h Y0 Y9) fun σ H Q hq__=>by
 obtain⟨F,τ,t,τ',E,e1,q⟩:=hq__
 obtain⟨⟨o,τ1⟩,e2,e1⟩:=bind_some e1
 cases e1
 exact⟨F,τ,o,τ1,E,e2,fun F' H' v E' s' r=>q F' H' v [] E' s' ⟨rfl,r⟩ List.nodup_nil (fun a ha=>by cases ha) (fun j us p _ _ m=>by cases m)⟩
theorem bj.vals {K:PySem.W.Frag}{F H:Hp}:∀{ts:List T} {vs:List V},aP K F ts vs->bj K F H (ts.map O.val) vs []
 |[],_,h=>⟨h,rfl⟩
 |t::ts,_,h=>by
  obtain⟨v,r,rfl,h2,h3⟩:=h
  exact⟨v,r,[],[],rfl,rfl,⟨rfl,h2⟩,bj.vals h3⟩
end
def hZ (fg:FG)(ft:FT)(fe:rf):List T->aw->List O->Option (List O)
 |[],_,acc=>some acc
 |t::ts,τ,acc=>(fg t τ).bind fun τ1=>(ft τ1).bind fun p=>if p.1=true then (fe p.2).bind fun q=>if bt q.2=true/\acc.length<sizeLine then hZ fg ft fe ts q.2 (acc++[q.1]) else none
  else if bt p.2=true then hZ fg ft fe ts p.2 acc else none
section
variable {X:Cx}
structure ji (X:Cx)(pins:List (Addr×Obj))(σ:L2.St)(Y0 Y9 F:Hp)(τ:aw)(rs:List O)(D C:Addr)(s:Shared):Prop where
 ex:∃(H F3:Hp) (vs:List V) (As:List Addr),Inv X pins σ H s/\au X.K Y0 Y9 F3 H σ τ/\aD F F3/\F3 D=none/\H D=some (.lst vs)/\Y9 D=none/\bj X.K F3 H rs vs As/\As.Nodup/\(∀a∈As,Y9 a=none/\a≠D)/\Apart σ τ As/\H C=none
 ns:∃m,s.heap.Ns C m
 cl:C≠X.env.locals
 c0:X.Y8.heap.objs.size≤C
 cc:∀x c,X.env.cells.lookup x=some c->c≠C
 cp:∀p∈X.pn++pins,p.1≠C
 ow:∀(j:Nat) us p,τ[j]? = some (some (.own us))->σ[j]? = some (some (.ref p))->p≠D
theorem rC {elt tg iter:Expr}{ifs:List Expr}{scope:Scope}{pos:Pos}{N':List Str}{no:Nat}{cap:List Nat}{fi:FA}{fg:FG}{ft:FT}{fe:rf}(hx:X.xe=fun _ _=>False)(hc:X.calm=true)(B:eZ X scope)(hN:N'.length=no+cap.length)
  (hcap:∀(k j:Nat),cap[k]? = some j->∃x,N'[no+k]? = some x/\X.N[j]? = some x/\(x,NameKind.free)∈scope.names) (hi:SI X tg iter fi)
  (hg:∀C cs Y8 Y9 fp pins,SG (mR X scope N' C cs Y8 Y9 fp pins) tg fg) (ht:∀C cs Y8 Y9 fp pins,BZ (mR X scope N' C cs Y8 Y9 fp pins) ifs ft) (he:∀C cs Y8 Y9 fp pins,zr (mR X scope N' C cs Y8 Y9 fp pins) elt fe)
  {Y0 Y9 F H:Hp} {pins:List (Addr×Obj)} {s:Shared} {σ:L2.St} {τ τ1:aw} {ts:List T} {rs:List O} (I:Inv X pins σ H s) (E:au X.K Y0 Y9 F H σ τ) (e2:fi τ=some (ts,τ1)) (ha:bt (bP no cap (frzAll cap τ1))=true) (e3:hZ fg ft fe ts (bP no cap (frzAll cap τ1)) []=some rs)
  {post:Value->Addr->Result->Shared->Prop} (hpost:∀D C s',ji X pins σ Y0 Y9 F (frzAll cap τ1) rs D C s'->post (.ref D) C (.ok .next) s'):
  wpAny (model X.prog X.w) X.A (eval iter X.env) (fun x s₁=>wpAny (model X.prog X.w) X.A (pyIter x) (fun it s₂=>wpAny (model X.prog X.w) X.A (newList []) (fun acc s₃ =>
   wpAny (model X.prog X.w) X.A (newFunctionEnv scope X.env.globals (jP X.env scope.names []) [] X.env.qual none .none (some X.env)) (fun cenv s₄ =>
    codeAny (model X.prog X.w) X.A (.compStart (.ListComp elt [⟨tg,iter,ifs,0⟩] scope pos) 0 it acc { cenv with scope:=relabel scope X.env }) (post acc cenv.locals) s₄) X.xe s₃) X.xe s₂) X.xe s₁) X.xe s:=by
 refine bM (hi Y0 Y9 pins s σ H (fun J H1=>∃F1,au X.K Y0 Y9 F1 H1 σ τ1/\aD F F1/\Walks X.K F1 ts J) I ⟨F,τ,ts,τ1,E,e2,fun F1 H1 J E1 s1 W=>⟨F1,E1,s1,W⟩⟩) fun v s1 h1=>bM h1 fun itv s2 h2=>?_
 obtain⟨it,fp,tn,J,H1,rfl,I2,Tn,st2,f2,F1,E1,sF1,W⟩:=h2
 obtain⟨F2,E2,sF2⟩:=E1.frzAll cap
 have W2:Walks X.K F2 ts J:=⟨fun i t F3 H3 e a b=>W.go i t F3 H3 e (sF2.trans a) b,fun i t F3 H3 x H4 e a b y=>W.yld i t F3 H3 x H4 e (sF2.trans a) b y,fun F3 H3 a b=>W.stop F3 H3 (sF2.trans a) b⟩
 refine wpAny_newObj_type ?_
 have hz:(s2.heap.push iL).objs.size=s2.heap.objs.size+1:=Heap.size_push ..
 have hz2:((s2.heap.push iL).push qa).objs.size=s2.heap.objs.size+2:=by rw [Heap.size_push,hz]
 simp only [newFunctionEnv,Option.isSome_some,if_true]
 refine wpAny_bind (wpAny_alloc ?_)
 refine wpAny_bind (wpAny_layCells _ (fun name kind cells=>by cases hkc:kind == NameKind.cell<;>simp [hkc]) _ _ _ _ ?_)
 simp only [List.forIn_nil]
 refine wpAny_bind (wpAny_pure (wpAny_pure ?_))
 have loop:codeAny (model X.prog X.w) X.A (.compLoop (.ListComp elt [⟨tg,iter,ifs,0⟩] scope pos) 0 (.ref it) (.ref s2.heap.objs.size) (eC X scope (s2.heap.objs.size+1) (cellsFrom (s2.heap.objs.size+2) scope.names (jP X.env scope.names []))))
   (post (.ref s2.heap.objs.size) (s2.heap.objs.size+1)) { s2 with heap:=h0 s2.heap scope }:=by
  have Ib:=nz (N':=N') (σ':=bP no cap σ) (tk:=s2.toks) I2 B f2 (fun b hb=>by obtain⟨o,e,_⟩:=Tn.obj 0 _ st2 b hb;exact⟨o,e⟩) (by simp [bP,hN]) (fun i x v a1 a2=>by
   obtain⟨k,j,rfl,hk,hj⟩:=jO a2
   obtain⟨x',b1,b2,b3⟩:=hcap k j hk
   rw [a1] at b1;cases b1
   exact .inl ⟨b3,j,b2,hj⟩)
  generalize hX':mR X scope N' (s2.heap.objs.size+1) (cellsFrom (s2.heap.objs.size+2) scope.names (jP X.env scope.names [])) s2 H1 fp pins=X' at Ib
  have hg':SG X' tg fg:=by rw [<- hX'];exact hg _ _ _ _ _ _
  have ht':BZ X' ifs ft:=by rw [<- hX'];exact ht _ _ _ _ _ _
  have he':zr X' elt fe:=by rw [<- hX'];exact he _ _ _ _ _ _
  have xP:X'.prog=X.prog:=by rw [<- hX'];rfl
  have xw:X'.w=X.w:=by rw [<- hX'];rfl
  have xK:X'.K=X.K:=by rw [<- hX'];rfl
  have xA:X'.A=X.A:=by rw [<- hX'];rfl
  have xc:X'.calm=true:=by rw [<- hX'];exact hc
  have xx:X'.xe=fun _ _=>False:=by rw [<- hX'];rfl
  have xe':X'.env=eC X scope (s2.heap.objs.size+1) (cellsFrom (s2.heap.objs.size+2) scope.names (jP X.env scope.names [])):=by rw [<- hX'];rfl
  have xex:X'.ex=fp:=by rw [<- hX'];rfl
  have xfs:X'.fs=jL X.stack:=by rw [<- hX'];rfl
  have xpn:X'.pn=X.pn++pins:=by rw [<- hX'];rfl
  have xs0:X'.Y8=s2:=by rw [<- hX'];rfl
  have xH0:X'.Y9=H1:=by rw [<- hX'];rfl
  have xl:X'.env.locals=s2.heap.objs.size+1:=by rw [<- hX'];rfl
  rw [<- xe',<- xP,<- xw,<- xA]
  have hD1:H1 s2.heap.objs.size=none:=I2.fresh
  have fpk:∀{Hc:Hp} {σc:L2.St} {pc:List (Addr×Obj)} {sc:Shared},Inv X' pc σc Hc sc->(∀b∈fp,Hc b=none)->∀b∈fp,mP X' [] Hc b:=fun {Hc σc pc sc} Ic hn b hb=>by
   have q1:=Ic.ok.exf b (by rw [xex];exact hb)
   have q2:=Ic.ok.exfs b (by rw [xex];exact hb)
   refine⟨hn b hb,q1.1,q2,.inl (by rw [xex];exact hb),q1.2,fun p hp=>?_⟩
   rw [xpn,List.append_nil] at hp
   exact (f2 b hb).2.2.2.2.2 p hp
  refine uG (fun n s3=>∃i σ3 H3 F3 τ3 us vs As,Inv X' [] σ3 H3 s3/\tn i s3.heap/\(∀b∈fp,H3 b=none)/\au X.K F3 H3 F3 H3 σ3 τ3/\bt τ3=true/\F3 s2.heap.objs.size=none/\H3 s2.heap.objs.size=some (.lst vs)/\(bj X.K F3 H3 us vs As/\As.Nodup/\∀a∈As,H1 a=none/\a≠s2.heap.objs.size)/\aD F2 F3/\aD H1 H3 /\
   (∀a o,F3 a=some o->F2 a=some o\/H1 a=none)/\i≤ts.length/\n=ts.length-i/\hZ fg ft fe (ts.drop i) τ3 us=some rs) ?_ ts.length ?_
  ·rintro n s3 ⟨i,σ3,H3,F3,τ3,us,vs,As,I3,st3,fr3,E3,ha3,fD,hD,⟨rv,nd,fr⟩,sF,sH,nw,hi',rfl,ec⟩
   by_cases hlt:i<ts.length
   ·have hgi:ts[i]? = some ts[i]:=List.getElem?_eq_getElem hlt
    rw [List.drop_eq_getElem_cons hlt] at ec
    obtain⟨τ4,e4,ec⟩:=bind_some ec
    obtain⟨⟨b,τ5⟩,e5,ec⟩:=bind_some ec
    have go:=W2.go i _ F3 H3 hgi sF E3.g.fh
    have itm:=(xP ▸ xw ▸ xK ▸ Tn:Turn X'.prog X'.w X'.K tg J fp it tn).item X' rfl rfl rfl xc i [] s3 σ3 H3 (fun _ _=>False) I3 (fpk I3 fr3) st3 go
    refine bM itm fun r s4 ⟨u,hr,h4⟩=>?_
    subst hr
    refine bM h4 fun _ s5 ⟨x,H5,I5,r5,y5,st5,fr5⟩=>?_
    have I5':=I5.pinned (fpk I5 fr5) (Tn.obj _ _ st5)
    obtain⟨F5,gr,rx⟩:=W2.yld i _ F3 H3 x H5 hgi sF E3.g.fh y5
    have a1:=hg' F3 H3 _ s5 σ3 H5 x u (fun σ6 H6=>∃F6,au X.K F3 H3 F6 H6 σ6 τ4/\aD F5 F6) I5' r5 (by rw [xK];exact⟨F5,τ3,ts[i],τ4,E3.grow gr,rx,e4,fun F6 H6 σ6 E6 s6=>⟨F6,E6,s6⟩⟩)
    rw [xx] at a1
    refine bM a1 fun _ s6 ⟨σ6,H6,I6,F6,E6,sF6⟩=>?_
    have a2:=ht' F3 H3 _ s6 σ6 H6 (fun b' H7=>b'=b/\∃F7,au X.K F3 H3 F7 H7 σ6 τ5/\aD F6 F7) I6 (by rw [xK];exact⟨F6,τ4,b,τ5,E6,e5,fun F7 H7 E7 s7=>⟨rfl,F7,E7,s7⟩⟩)
    rw [xx] at a2
    refine bM a2 fun ok s7 ⟨H7,I7,hok,F7,E7,sF7⟩=>?_
    subst hok
    have tail:∀{σc:L2.St} {Hc:Hp} {sc:Shared},Inv X' ([]++mw fp s5.heap) σc Hc sc->tn (i+1) sc.heap/\∀b∈fp,Hc b=none:=fun {σc Hc sc} Ic=>by
     refine⟨Tn.keep _ _ _ st5 fun b hb o e=>(Ic.pin (b,o) (List.mem_append_right _ (List.mem_append_right _ (cI hb e)))).1,fun b hb=>?_⟩
     obtain⟨o,e,d⟩:=Tn.obj _ _ st5 b hb
     exact (Ic.pin (b,o) (List.mem_append_right _ (List.mem_append_right _ (cI hb e)))).2.1
    have keepD:∀{Fc Hc:Hp} {σc:L2.St} {τc:aw},au X.K F3 H3 Fc Hc σc τc->Fc s2.heap.objs.size=none:=fun {Fc Hc σc τc} Ec=>by
     cases eF:Fc s2.heap.objs.size with
     |none=>rfl
     |some o =>
      rcases Ec.g.nw _ o eF with z | z
      ·rw [fD] at z;cases z
      ·rw [hD] at z;cases z
    have newF:∀{Fc Hc:Hp} {σc:L2.St} {τc:aw},au X.K F3 H3 Fc Hc σc τc->∀a o,Fc a=some o->F2 a=some o\/H1 a=none:=fun {Fc Hc σc τc} Ec a o eF=>by
     rcases Ec.g.nw a o eF with z | z
     ·exact nw a o z
     ·exact .inr (sH.free z)
    have mv:∀{Fc Hc Hd:Hp} {σc:L2.St} {τc:aw},au X.K F3 H3 Fc Hc σc τc->(∀a,a≠s2.heap.objs.size->Hd a=Hc a)->bj X.K Fc Hd us vs As:=fun {Fc Hc Hd σc τc} Ec hd=>by
     refine bj.move Ec.g.sF (fun a ha=>?_) rv
     obtain⟨f1,ws,f2⟩:=rv.at a ha
     refine⟨by rw [hd a (fr a ha).2,Ec.g.sH _ _ f2,f2],?_⟩
     cases eF:Fc a with
     |none=>rfl
     |some o =>
      rcases Ec.g.nw _ o eF with z | z
      ·rw [f1] at z;cases z
      ·rw [f2] at z;cases z
    cases b':ok with
    |false =>
     subst b'
     dsimp only at ec
     rw [if_neg (by decide)] at ec
     split at ec
     ·next ha =>
      rw [if_neg (by decide)]
      obtain⟨t1,t2⟩:=tail I7
      exact⟨ts.length-(i+1),by omega,i+1,σ6,H7,F7,τ5,us,vs,As,I7.unpinned,t1,t2,E7.rebase ha E7.g.fh,ha,keepD E7,E7.g.sH _ _ hD,⟨mv E7 (fun _ _=>rfl),nd,fr⟩,sF.trans E7.g.sF,sH.trans E7.g.sH,newF E7,hlt,rfl,ec⟩
     ·cases ec
    |true =>
     subst b'
     dsimp only at ec
     rw [if_pos rfl] at ec
     rw [if_pos rfl]
     obtain⟨⟨y0,τ6⟩,e6,ec⟩:=bind_some ec
     dsimp only at ec
     split at ec
     ·next ha =>
      have a3:=he' F3 H3 _ s7 σ6 H7 (fun y H8=>∃F8 Ay,au X.K F3 H3 F8 H8 σ6 τ6/\gi X.K F8 H8 y0 y Ay/\Ay.Nodup/\∀a∈Ay,H3 a=none) I7 (by rw [xK];exact⟨F7,τ5,y0,τ6,E7,e6,fun F8 H8 y Ay E8 s8 r8 n8 h8 _=>⟨F8,Ay,E8,r8,n8,h8⟩⟩)
      rw [xx] at a3
      refine bM a3 fun yv s8 ⟨y,H8,I8,ry,F8,Ay,E8,rp,ndy,hy8⟩=>?_
      have dD:H8 s2.heap.objs.size=some (.lst vs):=E8.g.sH _ _ hD
      have a4:=jX (X:=X') _ s8 σ6 H8 (.ref s2.heap.objs.size) [y] (.ref s2.heap.objs.size) [yv] (fun _ H9=>H9=upd H8 s2.heap.objs.size (.lst (vs++[y]))) I8 rfl (.cons ry .nil) ⟨s2.heap.objs.size,vs,y,rfl,rfl,dD,by rw [rv.length];exact ha.2,rfl⟩
      rw [xx] at a4
      refine bM a4 fun _ s9 ⟨_,H9,I9,_,e9⟩=>?_
      subst e9
      obtain⟨t1,t2⟩:=tail I9
      have kD:=keepD E8
      have sm:aD F8 (upd H8 s2.heap.objs.size (.lst (vs++[y]))):=fun c o z=>by rw [aB (fun w=>by subst w;rw [kD] at z;cases z)];exact E8.g.fh _ _ z
      have sm1:aD H1 (upd H8 s2.heap.objs.size (.lst (vs++[y]))):=fun c o z=>by rw [aB (fun w=>by subst w;rw [hD1] at z;cases z)];exact E8.g.sH _ _ (sH _ _ z)
      have yD:∀a∈Ay,a≠s2.heap.objs.size:=fun a ha z=>by have:=hy8 a ha;rw [z,hD] at this;cases this
      have rp9:gi X.K F8 (upd H8 s2.heap.objs.size (.lst (vs++[y]))) y0 y Ay:=gi.move (aD.refl _) (fun a ha=>⟨aB (yD a ha),(rp.at a ha).1⟩) rp
      have all9:bj X.K F8 (upd H8 s2.heap.objs.size (.lst (vs++[y]))) (us++[y0]) (vs++[y]) (As++Ay):=(mv E8 (fun a ha=>aB ha)).app (.one rp9)
      have nd9:(As++Ay).Nodup:=List.nodup_append.mpr ⟨nd,ndy,fun a ha b hb z=>by subst z;obtain⟨_,ws,f2⟩:=rv.at a ha;rw [hy8 a hb] at f2;cases f2⟩
      have fr9:∀a∈As++Ay,H1 a=none/\a≠s2.heap.objs.size:=fun a ha=>by
       rcases List.mem_append.mp ha with ha | ha
       ·exact fr a ha
       ·exact⟨sH.free (hy8 a ha),yD a ha⟩
      exact⟨ts.length-(i+1),by omega,i+1,σ6,_,F8,τ6,us++[y0],vs++[y],As++Ay,I9.unpinned,t1,t2,E8.rebase ha.1 sm,ha.1,kD,aM,⟨all9,nd9,fr9⟩,sF.trans E8.g.sF,sm1,newF E8,hlt,rfl,ec⟩
     ·cases ec
   ·have hie:i=ts.length:=by omega
    subst hie
    rw [List.drop_length] at ec
    cases ec
    have dn:=(xP ▸ xw ▸ xK ▸ Tn:Turn X'.prog X'.w X'.K tg J fp it tn).done X' rfl rfl rfl xc ts.length [] s3 σ3 H3 (fun _ _=>False) I3 (fpk I3 fr3) st3 (W2.stop F3 H3 sF E3.g.fh)
    refine bM dn fun r s4 ⟨hr,I4⟩=>?_
    subst hr
    obtain⟨m4,hm4,_⟩:=I4.loc
    rw [xl] at hm4
    have un:=I4.base
    rw [xfs,xex,xH0,xs0] at un
    have ox:=I4.os
    rw [xs0] at ox
    have hok4:=I4.hok
    rw [xP,xw] at hok4
    have IX:Inv X pins σ H3 s4:=I2.call' ox un hok4 I4.bare fun b hb=>⟨(f2 b hb).2.2.2.1,(f2 b hb).2.1,(f2 b hb).2.2.2.2.1,(f2 b hb).2.2.2.2.2⟩
    have hC:H3 (s2.heap.objs.size+1)=none:=by have:=I4.free;rw [xl] at this;exact this
    have lC:@LT.lt Nat _ X.env.locals s2.heap.objs.size:=I2.lt
    have gr:aS F2 H1 F3 H3:=⟨sF,sH,E3.g.fh,nw⟩
    have ap3:Apart σ (frzAll cap τ1) As:=fun j us p j1 j2 m=>by
     obtain⟨v,k1,p',vs',rfl,k2,_⟩:=E2.sl j _ j1
     rw [j2] at k1;cases k1
     rw [(fr _ m).1] at k2;cases k2
    refine hpost _ _ _ ⟨⟨H3,F3,vs,As,IX,E2.grow gr,(sF1.trans sF2).trans sF,fD,hD,E2.g.sH.free hD1,rv,nd,fun a ha=>⟨E2.g.sH.free (fr a ha).1,(fr a ha).2⟩,ap3,hC⟩,⟨m4,hm4⟩,Nat.ne_of_gt (Nat.lt_succ_of_lt lC),Nat.le_trans I2.sz (Nat.le_succ _),
     fun x c hxc=>by obtain⟨v,z⟩:=I2.cell x c hxc;exact Nat.ne_of_lt (Nat.lt_succ_of_lt z.lt),fun p hp=>Nat.ne_of_lt (Nat.lt_succ_of_lt (Heap.lt_size (I2.pin p hp).1)),fun j us p j1 j2=>?_⟩
    obtain⟨v,k1,p',vs',rfl,k2,_⟩:=E2.sl j _ j1
    rw [j2] at k1;cases k1
    exact aO k2 hD1
  ·refine⟨0,bP no cap σ,upd H1 s2.heap.objs.size (.lst []),F2,bP no cap (frzAll cap τ1),[],[],[],Ib,Tn.keep _ _ _ st2 fun b hb o e=>eS e,fun b hb=>?_,E2.block ha (E2.g.fh.trans (cy hD1)),ha,E2.g.fh.free hD1,aM,⟨⟨rfl,rfl⟩,List.nodup_nil,fun a ha=>by cases ha⟩,aD.refl _,cy hD1,fun a o z=>.inl z,Nat.zero_le _,rfl,e3⟩
   obtain⟨o,e,_⟩:=Tn.obj 0 _ st2 b hb
   rw [aB (Nat.ne_of_lt (Heap.lt_size e))]
   exact (f2 b hb).1
 have fin:∀{C:Addr} {cs:List (Str×Addr)},C=s2.heap.objs.size+1->cs=cellsFrom (s2.heap.objs.size+2) scope.names (jP X.env scope.names []) ->
   codeAny (model X.prog X.w) X.A (.compStart (.ListComp elt [⟨tg,iter,ifs,0⟩] scope pos) 0 (.ref it) (.ref s2.heap.objs.size) (eC X scope C cs)) (post (.ref s2.heap.objs.size) C) { s2 with heap:=h0 s2.heap scope }:=fun {C cs} h1 h2=>by
  subst h1 h2
  exact codeAny_compStart_list loop (Tn.self _ 0 _ _ _ (Tn.keep _ _ _ st2 fun b hb o e=>eS e) loop)
 exact fin hz (by rw [<- hz2])
def rJ (no:Nat)(cap:List Nat)(fi:FA)(fg:FG)(ft:FT)(fe:rf):rf:=fun τ=>(fi τ).bind fun p =>
 if bt (bP no cap (frzAll cap p.2))=true then (hZ fg ft fe p.1 (bP no cap (frzAll cap p.2)) []).bind fun us=>some (.lst us,frzAll cap p.2) else none
theorem ji.fin {pins:List (Addr×Obj)}{σ:L2.St}{Y0 Y9 F:Hp}{τ:aw}{rs:List O}{D C:Addr}{s:Shared}(Z:ji X pins σ Y0 Y9 F τ rs D C s):
  ∃(H F3:Hp) (As:List Addr),Inv X pins σ H s/\au X.K Y0 Y9 F3 H σ τ/\aD F F3/\gi X.K F3 H (.lst rs) (.ref D) As/\As.Nodup/\(∀a∈As,Y9 a=none)/\Apart σ τ As/\H C=none:=by
 obtain⟨H,F3,vs,As,IX,E3,sF,fD,hD,h0D,rv,nd,h0,ap,hC⟩:=Z.ex
 refine⟨H,F3,D::As,IX,E3,sF,⟨D,vs,As,rfl,rfl,hD,fD,rv⟩,List.nodup_cons.mpr ⟨fun m=>(h0 D m).2 rfl,nd⟩,fun a ha=>?_,fun j us p e1 e2 m=>?_,hC⟩
 ·rcases List.mem_cons.mp ha with rfl | ha
  ·exact h0D
  ·exact (h0 a ha).1
 ·rcases List.mem_cons.mp m with rfl | m
  ·exact Z.ow j us _ e1 e2 rfl
  ·exact ap j us p e1 e2 m
theorem xu {elt tg iter:Expr}{ifs:List Expr}{scope:Scope}{pos:Pos}{N':List Str}{no:Nat}{cap:List Nat}{fi:FA}{fg:FG}{ft:FT}{fe:rf}(hx:X.xe=fun _ _=>False)(hc:X.calm=true)(B:eZ X scope)(hN:N'.length=no+cap.length)
  (hcap:∀(k j:Nat),cap[k]? = some j->∃x,N'[no+k]? = some x/\X.N[j]? = some x/\(x,NameKind.free)∈scope.names) (hi:SI X tg iter fi)
  (hg:∀C cs Y8 Y9 fp pins,SG (mR X scope N' C cs Y8 Y9 fp pins) tg fg) (ht:∀C cs Y8 Y9 fp pins,BZ (mR X scope N' C cs Y8 Y9 fp pins) ifs ft) (he:∀C cs Y8 Y9 fp pins,zr (mR X scope N' C cs Y8 Y9 fp pins) elt fe)
  (hs:∀x,foldedSetIterable iter X.env x=pure x:=by intro _;rfl):zr X (.ListComp elt [⟨tg,iter,ifs,0⟩] scope pos) (rJ no cap fi fg ft fe):=by
 intro Y0 Y9 pins s σ H Q I ⟨F,τ,t,τ',E,e1,q⟩
 obtain⟨⟨ts,τ1⟩,e2,e1⟩:=bind_some e1
 dsimp only at e1
 split at e1
 ·next ha =>
  obtain⟨rs,e3,e1⟩:=bind_some e1
  cases e1
  have hfree:∀y∈scope.names,y.2=.free->∃c,X.env.cells.lookup y.1=some c:=fun y hy hk=>I.ok.has y.1 (B.free y hy hk).1
  rw [eval_ListComp]
  refine wpAny_comprehension_free (use:=none) rfl hs (lN hfree) B.kind B.names (rC hx hc B hN hcap hi hg ht he I E e2 ha e3 fun D C s' Z=>?_)
  obtain⟨H3,F3,As,IX,E3,sF,ro,nd,h0,ap,hC⟩:=Z.fin
  obtain⟨m,hm⟩:=Z.ns
  refine⟨m,hm,fun h' sb=>⟨.ref D,H3,IX.turned (t':=s'.toks) (it:=C) (fun b o hb e=>(sb.2 b hb).trans e) hC Z.cl (.inr Z.c0) Z.cc Z.cp,rfl,?_⟩⟩
  exact q F3 H3 (.ref D) As E3 sF ro nd h0 ap
 ·cases e1
end
def uL (H:Hp)(A:List Addr):Hp:=fun a=>if a∈A then none else H a
theorem tJ {H:Hp}{A:List Addr}{a:Addr}(h:a∈A):uL H A a=none:=if_pos h
theorem lO {H:Hp}{A:List Addr}{a:Addr}(h:a∉A):uL H A a=H a:=if_neg h
theorem uM {H:Hp}{A:List Addr}:aD (uL H A) H:=fun a o e=>by
 by_cases m:a∈A
 ·rw [tJ m] at e;cases e
 ·rw [lO m] at e;exact e
section
variable {K:PySem.W.Frag}{Y0 Y9 F₁ H₁ F H F' H':Hp}{σ:L2.St}{τ:aw}
theorem au.back (E:au K F₁ H₁ F H σ τ)(ha:bt τ=true)(g:aS Y0 Y9 F₁ H₁):au K Y0 Y9 F H σ τ:=by
 refine⟨g.trans E.g,E.len,fun i sl e=>?_,fun i j ts us p _ e1=>absurd e1 (cu ha)⟩
 obtain⟨v,h1,h2⟩:=E.sl i sl e
 cases sl with
 |sh t=>exact⟨v,h1,h2⟩
 |own ts=>exact absurd e (cu ha)
theorem au.to (E:au K F₁ H₁ F H σ τ)(ha:bt τ=true)(sF:aD F F')(g:aS Y0 Y9 F' H'):au K Y0 Y9 F' H' σ τ:=by
 refine⟨g,E.len,fun i sl e=>?_,fun i j ts us p _ e1=>absurd e1 (cu ha)⟩
 obtain⟨v,h1,h2⟩:=E.sl i sl e
 cases sl with
 |sh t=>exact⟨v,h1,Rep.mono sF h2⟩
 |own ts=>exact absurd e (cu ha)
end
section
variable {X:Cx}{e:Expr}{f:FE}{ft:FT}{es:List Expr}{g:FA}
theorem SE.any (h:SE X e f):PE X e (fun σ H Q=>∃Y0 Y9,tE X.K Y0 Y9 f σ H Q):=fun pins s σ H Q I ⟨Y0,Y9,q⟩=>h Y0 Y9 pins s σ H Q I q
end
section
variable {X:Cx}
def boolsOf:List T->Option (List Bool)
 |[]=>some []
 | .bl b::r=>(boolsOf r).bind fun bs=>some (b::bs)
 |_=>none
def om:List T->Option T
 |[.lst ts]=>(boolsOf ts).bind fun bs=>some (.bl (bs.all id))
 |_=>none
theorem nA {K:PySem.W.Frag}{F:Hp}:∀{ts:List T} {bs:List Bool} {vs:List V} {its:List Value},boolsOf ts=some bs->aP K F ts vs->Vals vs its->its=bs.map Value.bool
 |[],bs,vs,its,e,r,z=>by
  cases e;cases r;cases z;rfl
 |t::ts,bs,vs,its,e,r,z=>by
  obtain⟨v,rr,rfl,h1,h2⟩:=r
  unfold boolsOf at e
  split at e
  ·next he=>cases he
  ·next b r0 he =>
   cases he
   obtain⟨bs',e1,e2⟩:=bind_some e
   cases e2
   cases h1
   cases z with
   |cons rz zz =>
    cases rz
    rw [nA e1 h2 zz]
    rfl
  ·cases e
theorem yC {s:Shared}{h':Heap}{o:Obj}(hk:∀b x,b∉[s.heap.objs.size]->(s.heap.push o).get? b=some x->h'.get? b=some x):∀b x,s.heap.get? b=some x->h'.get? b=some x:=
 fun b x e=>hk b x (fun hm=>by rw [List.mem_singleton.mp hm] at e;exact Nat.lt_irrefl _ (Heap.lt_size e)) (Heap.get?_push_of_some _ e)
theorem range_all (bs:List Bool):((List.range bs.length).all fun i=>(bs[i]?).getD true)=bs.all id:=by
 induction bs with
 |nil=>rfl
 |cons b bs ih =>
  rw [List.length_cons,List.range_succ_eq_map,List.all_cons,List.all_map]
  simp only [List.all_cons,List.getElem?_cons_zero,Option.getD_some,id]
  rw [<- ih]
  congr 1
theorem vO (hc:X.calm=true):jh X (.builtin "all") om:=by
 intro pins s σ H xs us Q I rx ⟨F,ts,t,sm,r,e,q⟩
 unfold om at e
 split at e
 ·next ts =>
  obtain⟨bs,e1,e2⟩:=bind_some e
  cases e2
  obtain⟨v,rr,rfl,⟨p,vs,rfl,h1,h2⟩,rfl⟩:=r
  obtain⟨u,rfl,ru⟩:=Vals.one rx
  cases ru
  obtain⟨its,rv,pl,hz⟩:=I.list (iK.of (sm _ _ h1))
  have hb:=nA e1 h2 rv
  subst hb
  have hl:=pl.isList
  have hlt:@LT.lt Nat _ p s.heap.objs.size:=by obtain⟨_,e,_⟩:=hl;exact Heap.lt_size e
  refine call_all_walk (wpAny_pyIter_list hl ?_)
  refine⟨s.heap.objs.size,[s.heap.objs.size,p],[s.heap.objs.size],(bs.map Value.bool).toArray.size,_,_,fun i=>(bs[i]?).getD true,rfl,PySem.Walks.list (A:=X.A.in1) (I.ok.hd hc) _ p (Nat.ne_of_lt hlt) (bs.map Value.bool).toArray,
   ⟨⟨_,Heap.get?_push_size _ rfl,rfl,rfl⟩,hl.push _⟩,fun i v s' Q' E' hP hQ=>?_,fun h' tk hk=>?_⟩
  ·have hP':(bs.map Value.bool)[i]? = some v:=by simpa using hP
   rw [List.getElem?_map] at hP'
   cases eb:bs[i]? with
   |none=>rw [eb] at hP';cases hP'
   |some b =>
    rw [eb] at hP'
    have:v=.bool b:=(Option.some.inj hP').symm
    subst this
    simp only [eb,Option.getD_some] at hQ
    exact wpAny_truthy_bool hQ
  ·have e:((List.range (bs.map Value.bool).toArray.size).all fun i=>(bs[i]?).getD true)=bs.all id:=by
    rw [List.size_toArray,List.length_map]
    exact range_all bs
   rw [e]
   exact⟨.bl _,H,I.kept (t':=tk) (yC hk),rfl,q F H _ (aS.refl sm) rfl⟩
 ·cases e
def ff:List T->Option T
 |[.lst ts]=>some (.tup ts)
 |[.tup ts]=>some (.tup ts)
 |_=>none
theorem ie:jh X (.type "tuple") ff:=jj mT fun vs H Q hq__=>by
 obtain⟨F,ts,t,sm,r,e,q⟩:=hq__
 unfold ff at e
 split at e
 ·obtain⟨v,rr,rfl,⟨p,xs,rfl,h1,h2⟩,rfl⟩:=r
  cases e
  refine⟨p,xs,rfl,.inl ⟨iK.of (sm _ _ h1),fun l hl=>?_⟩⟩
  have gr:=aS.new (.tup xs) sm hl
  exact q _ _ _ gr ⟨l,xs,rfl,kW.of aM,aP.mono gr.sF h2⟩
 ·obtain⟨v,rr,rfl,⟨p,xs,rfl,h1,h2⟩,rfl⟩:=r
  cases e
  exact⟨p,xs,rfl,.inr ⟨bB sm h1,q F H _ (aS.refl sm) ⟨p,xs,rfl,h1,h2⟩⟩⟩
 ·cases e
theorem yH:DI X "int.bit_length" (fun x vs H Q=>∃i,x=.int i/\vs=[]/\Q (.int (Builtin.Int.intBits i)) H):=by
 intro pins s σ H x vs v us Q I rx rv ⟨i,hx,hvs,q⟩
 subst hx;subst hvs
 obtain⟨t,rfl⟩:=rx
 have:=rv.zero
 subst this
 exact PyProof.Rows.call_int_bit_length ⟨.int _,H,I.tok _,⟨_,rfl⟩,q⟩
def kA:T->Option T
 | .int i=>some (.int (Builtin.Int.intBits i))
 |_=>none
theorem pN {e:Expr}{f:FE}{p2 p3:Pos}(he:SE X e f)(hbase:attributeBase e "bit_length" X.env (eval e X.env)=eval e X.env:=by rfl)(hline:(p2.endLine == p3.line)=true:=by rfl):
  SE X (.Call (.Attribute e "bit_length" p2) [] [] p3) (rN kA f):=fun Y0 Y9 =>
 PE.weak (A6 PySem.F.plainAttrs_int PySem.F.slot_int_bit_length PySem.F.type_int_bit_length yH (he Y0 Y9) hbase hline) fun σ H Q hq__=>by
  obtain⟨F,τ,t,τ',E,e1,q⟩:=hq__
  obtain⟨⟨x,τ1⟩,e2,e1⟩:=bind_some e1
  obtain⟨z,e4,e1⟩:=bind_some e1
  cases e1
  refine⟨F,τ,x,_,E,e2,fun F1 H1 v1 E1 s1 r1=>?_⟩
  dsimp only at e4
  unfold kA at e4
  split at e4
  ·cases e4;cases r1
   exact⟨rfl,_,rfl,rfl,q F1 H1 _ E1 s1 rfl⟩
  ·cases e4
theorem gw {x:Str}{i:Int}{t:Tok}{pos:Pos}(hg:Gl X x)(hm:X.mg x=some (.int i t))(hd:(x == ("__debug__" : Str))=false:=by decide):SE X (.Name x pos) (fC (.int i)):=el (jy (v:=.int i) hg hm ⟨_,rfl⟩ hd) fun _=>rfl
def cT (f:FE):FA:=fun τ=>(f τ).bind fun p=>match p.1 with | .lst ts=>some (ts,p.2) | .scr ts=>some (ts,p.2) | .tup ts=>some (ts,p.2) | _=>none
theorem eK {tg l:Expr}{f:FE}(h:SE X l f):SI X tg l (cT f):=by
 intro Y0 Y9 pins s σ H R I ⟨F,τ,ts,τ',E,e1,q⟩
 obtain⟨⟨x,τ1⟩,e2,e1⟩:=bind_some e1
 dsimp only at e1
 split at e1
 ·exact uu h Y0 Y9 pins s σ H R I ⟨F,τ,ts,τ',E,by unfold rP;rw [e2];exact e1,q⟩
 ·exact uu h Y0 Y9 pins s σ H R I ⟨F,τ,ts,τ',E,by unfold rP;rw [e2];exact e1,q⟩
 ·exact Bu h Y0 Y9 pins s σ H R I ⟨F,τ,ts,τ',E,by unfold vZ;rw [e2];exact e1,q⟩
 ·cases e1
end
theorem yq {P:Program}{w:World}{K:PySem.W.Frag}{mg:Str->Option Value}{base:Heap}{x qual:Str}{st:Stmt}{f:Addr}{fd:FuncData}{N ps:List Str}{k:Nat}{fb:FS}(F:dM K x qual st f fd)(S:aA N ps (aj st))
  (h:∀(cdv:Value) (A:Around) (outer:List Env) (s:Shared) (H:Hp) (E:XK),br k (A.deeper (envOfC qual (aj st) s.heap.objs.size f cdv))->pV (fF iv P w K mg base N qual (aj st) f cdv A outer s H E).nox (bE st) fb):
  dN P w K mg base iv (k+1) f fd ps (spT K ps.length (bX N.length ps.length fb)):=by
 refine F.ok S (fun vs H Q E z=>z.1) (fun cdv A outer s H vs Q E hr z=>?_)
 obtain⟨hl,F1,ts,t,sm,r,e,q⟩:=z
 unfold bX at e
 split at e
 ·next hn =>
  obtain⟨r',e1,e⟩:=bind_some e
  refine⟨_,h cdv A outer s H E hr F1 H,F1,_,r',?_,e1,?_⟩
  ·have:=dy (N:=N) sm r
   rw [hn] at this
   exact this
  ·cases r' with
   |rt u=>cases e;exact fun F' H' v g r'=>q F' H' v g r'
   |nx τ=>cases e;exact fun F' H' σ' E' s'=>q F' H' .non E'.g rfl
   |bk τ=>cases e
   |ct τ=>cases e
 ·cases e
theorem SS.any {X:Cx}{st:Stmt}{fs:FS}(h:SS X st fs):PS X st (fun D σ H=>∃Y0 Y9,tS X.K Y0 Y9 fs D σ H):=fun pins s σ H D I ⟨Y0,Y9,q⟩=>h Y0 Y9 pins s σ H D I q
section
variable {K:PySem.W.Frag}{F0 H0 F H F1 H1:Hp}{p:Addr}{os:List O}{A:List Addr}
def ri:List O->Bool
 |[]=>true
 | .val _::r=>ri r
 |_::_=>false
theorem bj.plain:∀{ro:List O} {ws:List V} {C:List Addr},ri ro=true->bj K F H ro ws C->C=[]/\aP K F (O.trs ro) ws
 |[],ws,C,_,h=>⟨h.2,h.1⟩
 | .val t::r,ws,C,ha,h=>by
  obtain⟨v,q,B,D,rfl,rfl,⟨rfl,h1⟩,h2⟩:=h
  obtain⟨rfl,h3⟩:=bj.plain (ro:=r) ha h2
  exact⟨rfl,v,q,rfl,h1,h3⟩
 | .lst _::r,ws,C,ha,h=>by cases ha
theorem mJ:∀(ts:List T),O.trs (ts.map O.val)=ts
 |[]=>rfl
 |t::ts=>by rw [List.map_cons,O.trs,mJ ts];rfl
end
section
variable {P:Program}{w:World}{K:PySem.W.Frag}{mg:Str->Option Value}{base:Heap}{j k n:Nat}{x:Str}
end
section
variable {X:Cx}{e:Expr}{es:List Expr}{pos:Pos}{g:FA}
def Ar (d:List T->Option O)(g:FA):rf:=fun τ=>(g τ).bind fun p=>(d p.1).bind fun o=>some (o,p.2)
abbrev D4:=aw->Option O
def Cp (f:rf):D4:=fun τ=>(f τ).bind fun p=>some p.1
def Cq (t:FS)(u:D4):D4:=fun τ=>(t τ).bind fun r=>match r with | .nx τ'=>u τ' | _=>none
end
section
variable {P:Program}{w:World}{K:PySem.W.Frag}{mg:Str->Option Value}{base:Heap}
end
section
variable {X:Cx}{e:Expr}{es:List Expr}{pos:Pos}{g:FA}
def Aq (fo:rf)(g:FA)(d:O->List T->Option T):FE:=fun τ=>(fo τ).bind fun p=>if bt p.2=true then (g p.2).bind fun r=>if bt r.2=true then (d p.1 r.1).bind fun t=>some (t,r.2) else none else none
def vU (fo:rf)(f:FE):FS:=fun τ=>(fo τ).bind fun p=>match p.1 with
 | .lst os=>if bt p.2=true/\os.length<sizeLine then (f p.2).bind fun r=>if bt r.2=true then some (.nx r.2) else none else none
 |_=>none
theorem qU {x:Str}{a:Addr}{i j:Int}{t t':Tok}{od:Option Addr}{n:Nat}{sl:Array (Option Value)}{pos:Pos}(hg:Gl X x)(hm:X.mg x=some (.ref a))(hK:X.K.lookup a=some ⟨.type "tuple", od,.seq #[.int i t,.int j t'] n,sl⟩)(hd:(x == ("__debug__" : Str))=false:=by decide):
  SE X (.Name x pos) (fC (.tup [.int i,.int j])):=
 el (jy (v:=.ref a) hg hm rfl hd) fun F=>⟨a,[.int i,.int j],rfl,.inr ⟨_,_,n,hK,rfl,rfl,cq (n:=2) (by decide),.cons ⟨_,rfl⟩ (.cons ⟨_,rfl⟩ .nil)⟩,⟨_,_,rfl,rfl,_,_,rfl,rfl,rfl⟩⟩
def cP:T->T->Option T
 | .lst ts,.int k=>if (-(2^63)≤k/\k<2^63)/\ts.length*k.toNat≤sizeLine then some (.lst (List.replicate k.toNat ts).flatten) else none
 |_,_=>none
theorem qP {K:PySem.W.Frag}{F:Hp}{ts:List T}{vs:List V}(h:aP K F ts vs):∀k:Nat,aP K F (List.replicate k ts).flatten (List.replicate k vs).flatten
 |0=>rfl
 |k+1=>by
  rw [List.replicate_succ,List.replicate_succ,List.flatten_cons,List.flatten_cons]
  exact h.append (qP h k)
theorem aY:jK X (binaryOp .Mult) cP:=by
 intro pins s σ H x y v u Q I rx ry ⟨F,a,b,t,sm,ra,rb,e,q⟩
 unfold cP at e
 split at e
 ·next ts k =>
  split at e
  ·next hc =>
   cases e
   obtain⟨p,xs,rfl,h1,h2⟩:=ra
   cases rb
   refine A1 pins s σ H _ _ v u Q I rx ry ⟨p,k,xs,rfl,rfl,sm _ _ h1,hc.1.1,hc.1.2,by rw [h2.length];exact hc.2,fun l hl=>?_⟩
   have gr:=aS.new (.lst (List.replicate k.toNat xs).flatten) sm hl
   exact q _ _ _ gr ⟨l,_,rfl,aM,aP.mono gr.sF (qP h2 _)⟩
  ·cases e
 ·cases e
end
section
variable {X:Cx}
end
section
variable {prog:Program}{w:World}{A:Around}{E:Value->Shared->Prop}{s:Shared}
end
section
variable {X:Cx}
end
section
variable {prog:Program}{w:World}{A:Around}{R:Result->Shared->Prop}{I:Addr}{fp wr:List Addr}{n:Nat}{P:Nat->Value->Prop}{St:Nat->Heap->Prop}{kw:List (Str×Value)}
end
section
variable {prog:Program}{w:World}{A:Around}{E:Value->Shared->Prop}{s:Shared}
end
section
variable {X:Cx}
end
section
variable {X:Cx}
end
theorem lF:∀ts:List T,ri (ts.map O.val)=true
 |[]=>rfl
 |_::ts=>lF ts
section
variable {X:Cx}{e:Expr}{pos:Pos}
end
section
variable {K:PySem.W.Frag}{Y0 Y9 F H F' H':Hp}{σ:L2.St}{τ:aw}
theorem au.putOwn2 {i:Nat}{ts:List T}{vs:List V}{p:Addr}(E:au K Y0 Y9 F H σ τ)(hp:H p=some (.lst vs))(fp:F p=none)(h0:Y9 p=none)(ap:Apart σ τ [p])(r:aP K F ts vs):
  au K Y0 Y9 F H (σ.set i (some (.ref p))) (τ.set i (some (.own ts))):=by
 refine⟨E.g,by simp [E.len],fun j s e=>?_,fun j k ts' us q hjk e1 e2 e3 e4=>?_⟩
 ·by_cases hj:i=j
  ·subst hj
   by_cases hl:i<τ.length
   ·rw [List.getElem?_set_self hl] at e
    cases e
    exact⟨.ref p,List.getElem?_set_self (by rw [E.len];exact hl),p,vs,rfl,hp,fp,h0,r⟩
   ·rw [List.getElem?_eq_none (by simp;omega)] at e;cases e
  ·rw [List.getElem?_set_ne hj] at e
   rw [List.getElem?_set_ne hj]
   exact E.sl j s e
 ·by_cases hj:i=j
  ·subst hj
   rw [List.getElem?_set_ne hjk] at e2 e4
   by_cases hl:i<τ.length
   ·rw [List.getElem?_set_self (by rw [E.len];exact hl)] at e3
    cases e3
    exact ap k us p e2 e4 (List.mem_singleton.mpr rfl)
   ·rw [List.getElem?_eq_none (by simp;omega)] at e1;cases e1
  ·rw [List.getElem?_set_ne hj] at e1 e3
   by_cases hk:i=k
   ·subst hk
    by_cases hl:i<τ.length
    ·rw [List.getElem?_set_self (by rw [E.len];exact hl)] at e4
     cases e4
     exact ap j ts' p e1 e3 (List.mem_singleton.mpr rfl)
    ·rw [List.getElem?_eq_none (by simp;omega)] at e2;cases e2
   ·rw [List.getElem?_set_ne hk] at e2 e4
    exact E.dj j k ts' us q hjk e1 e2 e3 e4
end
section
variable {X:Cx}{e:Expr}{pos:Pos}
end
section
variable {P:Program}{w:World}{K:PySem.W.Frag}{mg:Str->Option Value}{base:Heap}
end
theorem iV (fg:FG)(ft:FT)(fe:FE):∀(ts:List T) (τ:aw) (acc us:List T),jl fg ft fe ts τ acc=some us->hZ fg ft (rO fe) ts τ (acc.map O.val)=some (us.map O.val)
 |[],_,acc,us,h=>by cases h;rfl
 |t::ts,τ,acc,us,h=>by
  unfold jl at h
  obtain⟨τ1,e1,h⟩:=bind_some h
  obtain⟨p,e2,h⟩:=bind_some h
  unfold hZ
  rw [e1,Option.bind_some,e2,Option.bind_some]
  split at h
  ·next hp =>
   obtain⟨q,e3,h⟩:=bind_some h
   rw [if_pos hp,show rO fe p.2=some (.val q.1,q.2) from by unfold rO;rw [e3];rfl,Option.bind_some]
   split at h
   ·next hq =>
    rw [if_pos ⟨hq.1,by rw [List.length_map];exact hq.2⟩]
    have:=iV fg ft fe ts q.2 (acc++[q.1]) us h
    rw [List.map_append] at this
    exact this
   ·cases h
  ·next hp =>
   rw [if_neg hp]
   split at h
   ·next hq =>
    rw [if_pos hq]
    exact iV fg ft fe ts p.2 acc us h
   ·cases h
theorem ym {no:Nat}{cap:List Nat}{fi:FA}{fg:FG}{ft:FT}{fe:FE}{τ τ':aw}{us:List T}(h:fj no cap fi fg ft fe τ=some (.lst us,τ')):rJ no cap fi fg ft (rO fe) τ=some (.lst (us.map O.val),τ'):=by
 obtain⟨p,e1,h⟩:=bind_some h
 unfold rJ
 rw [e1,Option.bind_some]
 split at h
 ·next ha =>
  obtain⟨vs,e2,h⟩:=bind_some h
  cases h
  rw [if_pos ha,show hZ fg ft (rO fe) p.1 (bP no cap (frzAll cap p.2)) []=some (us.map O.val) from iV fg ft fe _ _ [] us e2]
  rfl
 ·cases h
theorem uO {no:Nat}{cap:List Nat}{fi:FA}{fg:FG}{ft:FT}{fe:FE}{τ τ':aw}{t:T}(h:fj no cap fi fg ft fe τ=some (t,τ')):∃us,t=.lst us:=by
 obtain⟨p,e1,h⟩:=bind_some h
 split at h
 ·obtain⟨vs,e2,h⟩:=bind_some h
  cases h
  exact⟨_,rfl⟩
 ·cases h
section
variable {X:Cx}
theorem iB {elt tg iter:Expr}{ifs:List Expr}{scope:Scope}{pos:Pos}{N':List Str}{no:Nat}{cap:List Nat}{fi:FA}{fg:FG}{ft:FT}{fe:FE}(hx:X.xe=fun _ _=>False)(hc:X.calm=true)(B:eZ X scope)(hN:N'.length=no+cap.length)
  (hcap:∀(k j:Nat),cap[k]? = some j->∃x,N'[no+k]? = some x/\X.N[j]? = some x/\(x,NameKind.free)∈scope.names) (hi:SI X tg iter fi)
  (hg:∀C cs Y8 Y9 fp pins,SG (mR X scope N' C cs Y8 Y9 fp pins) tg fg) (ht:∀C cs Y8 Y9 fp pins,BZ (mR X scope N' C cs Y8 Y9 fp pins) ifs ft) (he:∀C cs Y8 Y9 fp pins,SE (mR X scope N' C cs Y8 Y9 fp pins) elt fe)
  (hs:∀x,foldedSetIterable iter X.env x=pure x:=by intro _;rfl):SE X (.ListComp elt [⟨tg,iter,ifs,0⟩] scope pos) (fj no cap fi fg ft fe):=fun Y0 Y9=>PE.weak (zr.se (xu hx hc B hN hcap hi hg ht (fun C cs Y8 Y9 fp pins=>SE.seo (he C cs Y8 Y9 fp pins)) hs) Y0 Y9) fun σ H Q hq__=>by
 obtain⟨F,τ,t,τ',E,e1,q⟩:=hq__
 obtain⟨us,rfl⟩:=uO e1
 refine⟨F,τ,_,τ',E,?_,q⟩
 unfold EZ
 rw [ym e1,Option.bind_some]
 show some (T.lst (O.trs (us.map O.val)),τ')=_
 rw [mJ]
end
section
variable {prog:Program}{w:World}{A:Around}{E:Value->Shared->Prop}{s:Shared}
end
section
variable {X:Cx}
end
section
variable {X:Cx}
end
def rQ (f:Str):List Str->List T->Option T
 |n::ns,t::ts=>if f=n then some t else rQ f ns ts
 |_,_=>none
theorem tP {K:PySem.W.Frag}{F:Hp}{f:Str}:∀{ns:List Str} {ts:List T} {vs:List V} {t:T},aP K F ts vs->rQ f ns ts=some t->∃v,(ns.zip vs).lookup f=some v/\Rep K F t v
 |[],_,_,_,_,e=>by cases e
 |n::ns,[],_,_,_,e=>by cases e
 |n::ns,t::ts,_,u,r,e=>by
  obtain⟨v,rr,rfl,h1,h2⟩:=r
  unfold rQ at e
  rw [List.zip_cons_cons,List.lookup_cons]
  by_cases h:f=n
  ·rw [if_pos h] at e
   cases e
   rw [beq_iff_eq.mpr h]
   exact⟨v,rfl,h1⟩
  ·rw [if_neg h] at e
   rw [beq_eq_false_iff_ne.mpr h]
   exact tP h2 e
theorem gL {f:Str}:∀{ns:List Str} {vs:List V},f∉ns->(ns.zip vs).lookup f=none
 |[],_,_=>by simp
 |n::ns,[],_=>by simp
 |n::ns,v::vs,h=>by
  rw [List.zip_cons_cons,List.lookup_cons,beq_eq_false_iff_ne.mpr (show f≠n from fun z=>h (by rw [z];exact List.mem_cons_self))]
  exact gL fun m=>h (List.mem_cons_of_mem _ m)
theorem qN {f:Str}{y:V}:∀{ns:List Str} {vs:List V},f∉ns->vs.length=ns.length->gO f y (ns.zip vs)=(ns++[f]).zip (vs++[y])
 |[],[],_,_=>rfl
 |[],_::_,_,h=>by cases h
 |_::_,[],_,h=>by cases h
 |n::ns,v::vs,h,hl=>by
  rw [List.zip_cons_cons,show gO f y ((n,v)::ns.zip vs)=(if n=f then (n,y)::ns.zip vs else (n,v)::gO f y (ns.zip vs)) from rfl,if_neg (show ¬ n=f from fun z=>h (by rw [z];exact List.mem_cons_self)),qN (fun m=>h (List.mem_cons_of_mem _ m)) (by simpa using hl)]
  rfl
section
variable {X:Cx}{e:Expr}{es:List Expr}{pos:Pos}
def fG (Cs:List Addr)(f:Str)(fe:FE):FE:=fun τ=>(fe τ).bind fun p=>match p.1 with
 | .obj C ns ts=>if C∈Cs then (rQ f ns ts).bind fun t=>some (t,p.2) else none
 |_=>none
theorem cL {Cs:List Addr}{f:Str}{fe:FE}(hC:∀C∈Cs,dA X.K C/\bg X.K C f)(he:SE X e fe)(hb:attributeBase e f X.env (eval e X.env)=eval e X.env:=by rfl):SE X (.Attribute e f pos) (fG Cs f fe):=
 fun Y0 Y9=>PE.weak (A8 (he Y0 Y9) hb) fun σ H Q h=>by
  obtain⟨F,τ,t,τ',E,e1,q⟩:=h
  obtain⟨⟨x,τ1⟩,e2,e1⟩:=bind_some e1
  dsimp only at e1
  split at e1
  ·next C ns ts =>
   split at e1
   ·next hm =>
    obtain⟨u,e3,e1⟩:=bind_some e1
    cases e1
    refine⟨F,τ,_,_,E,e2,fun F1 H1 v E1 s1 r1=>?_⟩
    obtain⟨a,dx,vs,rfl,h1,h2,h3⟩:=r1
    obtain⟨w,l1,l2⟩:=tP h3 e3
    exact⟨a,C,dx,_,w,rfl,E1.g.fh _ _ h1,(hC C hm).1,(hC C hm).2,l1,q F1 H1 w E1 s1 l2⟩
   ·cases e1
  ·cases e1
end
structure bI (P:Program)(w:World)(K:PySem.W.Frag)(mg:Str->Option Value)(base:Heap)(k:Nat)(C:Addr)(m:Str)(n:Nat)(d:List T->Option T):Prop where
 cl:dA K C
 ex:∃f fd ps,dN P w K mg base iv k f fd ps (spT K n d)/\Binds K fd ps []/\Meth K C m f/\ps.length=n
section
variable {P:Program}{w:World}{K:PySem.W.Frag}{mg:Str->Option Value}{base:Heap}{j k n:Nat}{C:Addr}{m:Str}
theorem bI.mono {d:List T->Option T}(D:bI P w K mg base j C m n d)(h:j≤k):bI P w K mg base k C m n d:=by
 obtain⟨f,fd,ps,F,r⟩:=D.ex
 exact⟨D.cl,f,fd,ps,F.mono h,r⟩
theorem dh {x qual:Str}{st:Stmt}{f:Addr}{fd:FuncData}{N ps:List Str}{fb:FS}(F:dM K x qual st f fd)(S:aA N ps (aj st))(hb:Binds K fd ps [])(cl:dA K C)(hm:Meth K C m f)
  (h:∀(cdv:Value) (A:Around) (outer:List Env) (s:Shared) (H:Hp) (E:XK),br k (A.deeper (envOfC qual (aj st) s.heap.objs.size f cdv))->pV (fF iv P w K mg base N qual (aj st) f cdv A outer s H E).nox (bE st) fb):
  bI P w K mg base (k+1) C m ps.length (bX N.length ps.length fb):=by
 refine⟨cl,f,fd,ps,F.ok S (fun vs H Q E z=>z.1) (fun cdv A outer s H vs Q E hr z=>?_),hb,hm,rfl⟩
 obtain⟨hl,F1,ts,t,sm,r,e,q⟩:=z
 unfold bX at e
 split at e
 ·next hn =>
  obtain⟨r',e1,e⟩:=bind_some e
  refine⟨_,h cdv A outer s H E hr F1 H,F1,_,r',?_,e1,?_⟩
  ·have:=dy (N:=N) sm r
   rw [hn] at this
   exact this
  ·cases r' with
   |rt u=>cases e;exact fun F' H' v g r'=>q F' H' v g r'
   |nx τ=>cases e;exact fun F' H' σ' E' s'=>q F' H' .non E'.g rfl
   |bk τ=>cases e
   |ct τ=>cases e
 ·cases e
end
section
variable {X:Cx}{o e:Expr}{es:List Expr}{pos apos:Pos}{g:FA}{fo:FE}{k n:Nat}{m:Str}
def ky (C:Addr):List (Addr×(List T->Option T))->Option (List T->Option T)
 |[]=>none
 |a::r=>if C=a.1 then some a.2 else ky C r
theorem jS {C:Addr}{d:List T->Option T}:∀{l:List (Addr×(List T->Option T))},ky C l=some d->(C,d)∈l
 |[],h=>by cases h
 |a::r,h=>by
  unfold ky at h
  split at h
  ·next e=>cases h;subst e;exact List.mem_cons_self
  ·exact List.mem_cons_of_mem _ (jS h)
def cS (alts:List (Addr×(List T->Option T)))(m:Str)(fo:FE)(g:FA):FE:=fun τ=>(fo τ).bind fun p=>match p.1 with
 | .obj C ns ts=>if m∈ns then none else (ky C alts).bind fun d=>(g p.2).bind fun q=>(d (.obj C ns ts::q.1)).bind fun t=>some (t,q.2)
 |_=>none
theorem nN {alts:List (Addr×(List T->Option T))}{Y0 Y9:Hp}{σ:L2.St}{H:Hp}{Q:VK}(h:tE X.K Y0 Y9 (cS alts m fo g) σ H Q)(hl:∀τ ts τ',g τ=some (ts,τ')->ts.length+1=n):
  ∃C d,(C,d)∈alts/\xG C m (spT X.K n d) [] E0 (tE X.K Y0 Y9 fo) (tA X.K Y0 Y9 g) σ H Q:=by
 obtain⟨F,τ,t,τ',E,e1,q⟩:=h
 obtain⟨⟨x,τ1⟩,e2,e1⟩:=bind_some e1
 dsimp only at e1
 split at e1
 ·next C ns ts =>
  split at e1
  ·cases e1
  ·next hm =>
   obtain⟨d,e3,e1⟩:=bind_some e1
   obtain⟨⟨us,τ2⟩,e4,e1⟩:=bind_some e1
   obtain⟨u,e5,e1⟩:=bind_some e1
   cases e1
   refine⟨C,d,jS e3,F,τ,_,τ1,E,e2,fun F1 H1 v E1 s1 r1=>?_⟩
   obtain⟨a,dx,vs,rfl,h1,h2,h3⟩:=id r1
   refine⟨a,dx,_,rfl,E1.g.fh _ _ h1,gL hm,F1,τ1,us,_,E1,e4,fun F2 H2 ws E2 s2 r2=>?_⟩
   refine⟨by rw [List.append_nil,List.length_cons,r2.length];exact hl _ _ _ e4,F2,.obj C ns ts::us,_,E2.g.fh,⟨_,_,rfl,Rep.mono s2 r1,by rw [List.append_nil];exact r2⟩,e5,fun F3 H3 v3 g3 r3=>?_⟩
   exact q F3 H3 v3 (E2.grow g3) ((s1.trans s2).trans g3.sF) r3
 ·cases e1
theorem uo {pl:Sem Bool}{alts:List (Addr×(List T->Option T))}(hD:∀a∈alts,bI X.prog X.w X.K X.mg X.base k a.1 m n a.2)(hr:br k X.A)(he:SE X o fo)(ha:SA X (e::es) g)(hl:∀τ ts τ',g τ=some (ts,τ')->ts.length+1=n)
  (hst:starEach (e::es) X.env=(false,eval e X.env)::starEach es X.env:=by rfl) (hpl:(backTo pos (starEach es X.env)).any (·.1)=false:=by rfl)
  (ht:eval (.Call (.Attribute o m apos) (e::es) [] pos) X.env=(do
   let ov <- eval o X.env
   standAt apos.atName
   let (f,first) <- holding [ov] (getMethod ov m pl)
   callWith pos f first (backTo pos (starEach (e::es) X.env)) (backToKw pos (keywordEach [] X.env))):=by rfl):
  SE X (.Call (.Attribute o m apos) (e::es) [] pos) (cS alts m fo g):=by
 intro Y0 Y9 pins s σ H Q I h
 obtain⟨C,d,hm,h'⟩:=nN h hl
 have D:=hD _ hm
 obtain⟨f,fd,ps,Fk,hb,hme,hn⟩:=D.ex
 exact yW (E:=E0) (CX:=iv) (he Y0 Y9) D.cl hme Fk hr hb .nil nQ (ha Y0 Y9) hst hpl ht pins s σ H Q I h'
theorem cX {pl:Sem Bool}{alts:List (Addr×(List T->Option T))}(hD:∀a∈alts,bI X.prog X.w X.K X.mg X.base k a.1 m 1 a.2)(hr:br k X.A)(he:SE X o fo)
  (ht:eval (.Call (.Attribute o m apos) [] [] pos) X.env=(do
   let ov <- eval o X.env
   standAt apos.atName
   let (f,first) <- holding [ov] (getMethod ov m pl)
   callWith pos f first (backTo pos (starEach [] X.env)) (backToKw pos (keywordEach [] X.env))):=by rfl):
  SE X (.Call (.Attribute o m apos) [] [] pos) (cS alts m fo az):=by
 intro Y0 Y9 pins s σ H Q I h
 obtain⟨C,d,hm,h'⟩:=nN (n:=1) h (fun τ ts τ' e=>by cases e;rfl)
 have D:=hD _ hm
 obtain⟨f,fd,ps,Fk,hb,hme,hn⟩:=D.ex
 refine xa (E:=E0) (CX:=iv) (he Y0 Y9) D.cl hme Fk hr hb .nil nQ ht pins s σ H Q I ?_
 obtain⟨F,τ,t,τ',E,e1,q⟩:=h'
 refine⟨F,τ,t,τ',E,e1,fun F1 H1 v E1 s1 r1=>?_⟩
 obtain⟨a,dx,fs,h1,h2,h3,F2,τ2,us,τ3,E2,e2,q2⟩:=q F1 H1 v E1 s1 r1
 cases e2
 exact⟨a,dx,fs,h1,h2,h3,q2 F2 H1 [] E2 (aD.refl _) rfl⟩
end
abbrev nk:=List Str×List T
def Gf (K:PySem.W.Frag)(C:Addr)(n:Nat)(d:List T->Option nk):Sp:=fun vs H Q _=>vs.length=n+1/\∃F x dx ws ts r,vs=.ref x::ws/\H x=some (.ins C dx [])/\F x=none/\aD F H/\aP K F ts ws/\d ts=some r /\
 ∀F' H' us,aS F (uL H [x]) F' H'->H' x=some (.ins C dx (r.1.zip us))->F' x=none->us.length=r.1.length->aP K F' r.2 us->Q .non H'
structure gh (P:Program)(w:World)(K:PySem.W.Frag)(mg:Str->Option Value)(base:Heap)(k:Nat)(x:Str)(C:Addr)(n:Nat)(d:List T->Option nk):Prop where
 ex:∃j f fd ps,k=j+1/\Mk K C f/\dN P w K mg base iv j f fd ps (Gf K C n d)/\Binds K fd ps []/\mg x=some (.ref C)/\ps.length=n+1
theorem gh.mono {P:Program}{w:World}{K:PySem.W.Frag}{mg:Str->Option Value}{base:Heap}{j k n:Nat}{x:Str}{C:Addr}{d:List T->Option nk}(D:gh P w K mg base j x C n d)(h:j≤k):gh P w K mg base k x C n d:=by
 obtain⟨i,f,fd,ps,hj,M,F,r⟩:=D.ex
 exact⟨k-1,f,fd,ps,by omega,M,F.mono (by omega),r⟩
section
variable {X:Cx}{e:Expr}{es:List Expr}{pos:Pos}{g:FA}
def iP (C:Addr)(d:List T->Option nk)(g:FA):FE:=fun τ=>(g τ).bind fun p=>(d p.1).bind fun r=>some (.obj C r.1 r.2,p.2)
theorem jE {k n:Nat}{x:Str}{p:Pos}{C:Addr}{d:List T->Option nk}(D:gh X.prog X.w X.K X.mg X.base k x C n d)(hr:br k X.A)(hg:Gl X x)(ha:SA X (e::es) g)(hl:∀τ ts τ',g τ=some (ts,τ')->ts.length=n)(hdb:(x == ("__debug__" : Str))=false:=by decide)
  (he:starEach (e::es) X.env=(false,eval e X.env)::starEach es X.env:=by rfl) (hpl:(backTo pos (starEach es X.env)).any (·.1)=false:=by rfl):SE X (.Call (.Name x p) (e::es) [] pos) (iP C d g):=by
 obtain⟨j,f,fd,ps,hj,M,Fk,hb,hm,hn⟩:=D.ex
 subst hj
 intro Y0 Y9
 refine PE.weak (yV (E:=E0) (CX:=iv) M Fk hr hg hm hb .nil nQ (ha Y0 Y9) hdb he hpl) fun σ H Q h=>?_
 obtain⟨F,τ,t,τ',E,e1,q⟩:=h
 obtain⟨⟨ts,τ1⟩,e2,e1⟩:=bind_some e1
 obtain⟨r,e3,e1⟩:=bind_some e1
 cases e1
 refine⟨F,τ,ts,_,E,e2,fun F1 H1 vs E1 s1 r1=>fun a dx na ndx ne=>?_⟩
 have fa:F1 a=none:=E1.g.fh.free na
 have fd':F1 dx=none:=E1.g.fh.free ndx
 have sm:aD F1 (upd (upd H1 dx (.own a)) a (.ins C dx [])):=fun b o z=>by
  rw [aB (aO z fa),aB (aO z fd')]
  exact E1.g.fh b o z
 have sm1:aD H1 (upd (upd H1 dx (.own a)) a (.ins C dx [])):=fun b o z=>by
  rw [aB (aO z na),aB (aO z ndx)]
  exact z
 refine⟨by rw [List.append_nil,List.length_cons,r1.length,hl _ _ _ e2],F1,a,dx,vs,ts,r,by rw [List.append_nil],aM,fa,sm,r1,e3,fun F' H' us gr hx fx hlu ru=>⟨rfl,?_⟩⟩
 have sF:aD F' (upd F' a (.ins C dx (r.1.zip us))):=cy fx
 have g2:aS F1 H1 (upd F' a (.ins C dx (r.1.zip us))) H':=by
  refine⟨gr.sF.trans sF,fun b o z=>gr.sH b o ?_,fun b o z=>?_,fun b o z=>?_⟩
  ·rw [lO (fun m=>by rw [List.mem_singleton.mp m,na] at z;cases z)]
   exact sm1 b o z
  ·by_cases hb:b=a
   ·rw [hb,aM] at z;cases z;rw [hb];exact hx
   ·rw [aB hb] at z;exact gr.fh b o z
  ·by_cases hb:b=a
   ·exact .inr (by rw [hb];exact na)
   ·rw [aB hb] at z
    rcases gr.nw b o z with y | y
    ·exact .inl y
    ·rw [lO (fun m=>hb (List.mem_singleton.mp m))] at y
     exact .inr (sm1.free y)
 exact q _ H' (.ref a) (E1.grow g2) (s1.trans g2.sF) ⟨a,dx,us,rfl,aM,hlu,aP.mono sF ru⟩
end
abbrev FI:=aw->List Str->List T->Option nk
def Gk (K:PySem.W.Frag)(C x:Addr)(Y0 Y9:Hp)(f:FI):TS:=fun D σ H=>∃F τ ns us vs dx r,au K Y0 Y9 F H σ τ/\bt τ=true/\τ[0]? = some (some (.sh (.ptr x)))/\H x=some (.ins C dx (ns.zip vs))/\F x=none/\Y9 x=none/\vs.length=ns.length/\ns.length<1000/\aP K F us vs/\f τ ns us=some r /\
 ∀F' H' σ' us',aS Y0 Y9 F' H'->H' x=some (.ins C dx (r.1.zip us'))->F' x=none->us'.length=r.1.length->aP K F' r.2 us'->D.nx σ' H'
def BH (X:Cx)(C:Addr)(ss:List Stmt)(f:Addr->FI):Prop:=∀x Y0 Y9,kH X ss (Gk X.K C x Y0 Y9 (f x))
section
variable {X:Cx}{C:Addr}{e:Expr}{rest:List Stmt}{pos:Pos}
def uU:Addr->FI:=fun _ _ ns us=>some (ns,us)
theorem jG:BH X C [] uU:=fun x Y0 Y9=>kH.weak pG fun D σ H h=>by
 obtain⟨F,τ,ns,us,vs,dx,r,E,ha,h0,hx,fx,h0x,hl,hk,ru,e1,q⟩:=h
 cases e1
 exact q F H σ vs E.g hx fx hl ru
def qf (f:Str)(fe:FE)(fr:Addr->FI):Addr->FI:=fun x τ ns us=>(fe τ).bind fun p=>if bt p.2=true/\¬ f∈ns/\ns.length<999 then match (p.2[0]? : Option (Option Sl)) with
 |some (some (.sh (.ptr y)))=>if y=x then fr x p.2 (ns++[f]) (us++[p.1]) else none
 |_=>none else none
theorem jF {f:Str}{fe:FE}{fr:Addr->FI}{y:Str}{p1 p2:Pos}(hc:dA X.K C)(hn:bg X.K C f)(hy:PE X (.Name y p1) (xI 0))(he:SE X e fe)(hr:BH X C rest fr)
  (hs:swapsWith e (some (.Attribute (.Name y p1) f p2)) pos.line X.env=pure false:=by rfl):BH X C (.Assign [.Attribute (.Name y p1) f p2] e pos::rest) (qf f fe fr):=fun x Y0 Y9=>kH.weak (mx (Bk hy he.any hs) (hr x Y0 Y9)) fun D σ H h=>by
 obtain⟨F,τ,ns,us,vs,dx,r,E,ha,h0,hx,fx,h0x,hl,hk,ru,e1,q⟩:=h
 obtain⟨⟨t,τ1⟩,e2,e1⟩:=bind_some e1
 dsimp only at e1
 split at e1
 ·next hc1 =>
  split at e1
  ·next y1 hp1 =>
   split at e1
   ·next hyx =>
    subst hyx
    refine⟨F,H,F,τ,t,τ1,E.rebase ha E.g.fh,e2,fun F1 H1 w E1 s1 r1=>?_⟩
    have hx1:=E1.g.sH _ _ hx
    have fx1:F1 y1=none:=by
     cases eF:F1 y1 with
     |none=>rfl
     |some o =>
      rcases E1.g.nw _ o eF with z | z
      ·rw [fx] at z;cases z
      ·rw [hx] at z;cases z
    obtain⟨v0,k1,k2⟩:=E.sl 0 _ h0
    cases (show v0=.ref y1 from k2)
    refine⟨_,k1,y1,C,dx,_,rfl,hx1,hc,hn,by rw [List.length_zip];omega,?_⟩
    rw [qN hc1.2.1 hl]
    have E2:au X.K Y0 Y9 F1 (upd H1 y1 (.ins C dx ((ns++[f]).zip (vs++[w])))) σ τ1:=by
     refine E1.to hc1.1 (aD.refl _) ⟨E.g.sF.trans E1.g.sF,fun b o z=>?_,fun b o z=>?_,fun b o z=>?_⟩
     ·rw [aB (fun y=>by rw [y,h0x] at z;cases z)]
      exact E1.g.sH _ _ (E.g.sH _ _ z)
     ·rw [aB (fun y=>by rw [y,fx1] at z;cases z)]
      exact E1.g.fh _ _ z
     ·rcases E1.g.nw b o z with y | y
      ·exact E.g.nw b o y
      ·exact .inr (E.g.sH.free y)
    refine⟨F1,τ1,ns++[f],us++[t],vs++[w],dx,r,E2,hc1.1,hp1,aM,fx1,h0x,by simp [hl],by rw [List.length_append];simp only [List.length_cons,List.length_nil];omega,(aP.mono E1.g.sF ru).append (.one r1),e1,q⟩
   ·cases e1
  ·cases e1
 ·cases e1
def wD (t:FS)(fr:Addr->FI):Addr->FI:=fun x τ ns us=>(t τ).bind fun r=>match r with
 | .nx τ1=>if bt τ1=true then match (τ1[0]? : Option (Option Sl)) with
  |some (some (.sh (.ptr y)))=>if y=x then fr x τ1 ns us else none
  |_=>none else none
 |_=>none
theorem uv {st:Stmt}{t:FS}{fr:Addr->FI}(hst:SS X st t)(hr:BH X C rest fr):BH X C (st::rest) (wD t fr):=fun x Y0 Y9=>kH.weak (mx hst.any (hr x Y0 Y9)) fun D σ H h=>by
 obtain⟨F,τ,ns,us,vs,dx,r,E,ha,h0,hx,fx,h0x,hl,hk,ru,e1,q⟩:=h
 obtain⟨r1,e2,e1⟩:=bind_some e1
 refine⟨F,H,F,τ,r1,E.rebase ha E.g.fh,e2,?_⟩
 cases r1 with
 |nx τ1 =>
  dsimp only at e1
  split at e1
  ·next hs =>
   split at e1
   ·next y1 hp1 =>
    split at e1
    ·next hyx =>
     subst hyx
     refine fun F1 H1 σ1 E1 s1=>?_
     have hx1:=E1.g.sH _ _ hx
     have fx1:F1 y1=none:=by
      cases eF:F1 y1 with
      |none=>rfl
      |some o =>
       rcases E1.g.nw _ o eF with z | z
       ·rw [fx] at z;cases z
       ·rw [hx] at z;cases z
     exact⟨F1,τ1,ns,us,vs,dx,r,E1.back hs E.g,hs,hp1,hx1,fx1,h0x,hl,hk,aP.mono E1.g.sF ru,e1,q⟩
    ·cases e1
   ·cases e1
  ·cases e1
 |rt t=>cases e1
 |bk t=>cases e1
 |ct t=>cases e1
end
def yj (m n:Nat)(fb:Addr->FI)(ts:List T)(r:nk):Prop:=ts.length=n/\∀x:Addr,fb x (some (.sh (.ptr x))::(ts.map (fun t=>some (Sl.sh t))++List.replicate (m-(n+1)) none)) [] []=some r
open Classical in
def dI (m n:Nat)(fb:Addr->FI):List T->Option nk:=fun ts=>if h:∃r,yj m n fb ts r then some h.choose else none
theorem p9 {m n:Nat}{fb:Addr->FI}{ts:List T}{r:nk}(h:yj m n fb ts r):dI m n fb ts=some r:=by
 unfold dI
 have hh:∃r,yj m n fb ts r:=⟨r,h⟩
 rw [dif_pos hh]
 have h1:=hh.choose_spec.2 0
 rw [h.2 0] at h1
 exact h1.symm
theorem Af {m n:Nat}{fb:Addr->FI}{ts:List T}{r:nk}(h:dI m n fb ts=some r):yj m n fb ts r:=by
 unfold dI at h
 split at h
 ·next hh=>cases h;exact hh.choose_spec
 ·cases h
theorem jN:∀(ts:List T) (j:Nat),bt (ts.map (fun t=>some (Sl.sh t))++List.replicate j none)=true
 |[],0=>rfl
 |[],j+1=>by rw [List.replicate_succ];exact jN [] j
 |t::ts,j=>jN ts j
theorem jt {P:Program}{w:World}{K:PySem.W.Frag}{mg:Str->Option Value}{base:Heap}{k n:Nat}{x cx:Str}{C:Addr}{qual:Str}{st:Stmt}{f:Addr}{fd:FuncData}{N ps:List Str}{fb:Addr->FI}(F:dM K x qual st f fd)(S:aA N ps (aj st))(hb:Binds K fd ps [])(M:Mk K C f)(hm:mg cx=some (.ref C))(hn:ps.length=n+1)
  (h:∀(cdv:Value) (A:Around) (outer:List Env) (s:Shared) (H:Hp) (E:XK),br k (A.deeper (envOfC qual (aj st) s.heap.objs.size f cdv))->BH (fF iv P w K mg base N qual (aj st) f cdv A outer s H E).nox C (bE st) fb):
  gh P w K mg base (k+2) cx C n (dI N.length n fb):=by
 refine⟨k+1,f,fd,ps,rfl,M,F.ok S (fun vs H Q E z=>by rw [hn];exact z.1) (fun cdv A outer s H vs Q E hr z=>?_),hb,hm,hn⟩
 obtain⟨hl,F1,a,dx,ws,ts,r,rfl,hx,fx,sm,rw1,e,q⟩:=z
 obtain⟨hlen,hf⟩:=Af e
 refine⟨_,h cdv A outer s H E hr a F1 (uL H [a]),?_⟩
 have r1:aP K F1 (.ptr a::ts) (.ref a::ws):=⟨_,_,rfl,rfl,rw1⟩
 have E0:=dy (N:=N) sm r1
 have hsh:bt ((T.ptr a::ts).map (fun t=>some (Sl.sh t))++List.replicate (N.length-(T.ptr a::ts).length) none)=true:=jN _ _
 have g0:aS F1 (uL H [a]) F1 H:=⟨aD.refl _,uM,sm,fun _ _ z=>.inl z⟩
 have E1:=E0.to hsh (aD.refl _) g0
 refine⟨F1,_,[],[],[],dx,r,E1,hsh,rfl,hx,fx,tJ List.mem_cons_self,rfl,by decide,rfl,?_,fun F' H' σ' us' g' h1 h2 h3 h4=>q F' H' us' g' h1 h2 h3 h4⟩
 have:=hf a
 rw [<- hlen] at this
 exact this
structure td (K:PySem.W.Frag)(Ct C:Addr)(b:Bool):Prop where
 cl:dA K C
 ha:PySem.W.findIn K (.ref C) "__class__" = some (some (.builtin "object.__class__"))
 hn:PySem.W.specialIn K (.builtin "object.__class__") "__get__" = some (some (.builtin "getset_descriptor.__get__"))
 htk:PySem.W.takesIn K (.builtin "object.__class__")=some true
 hm:PySem.W.mroIn K C (.type "object")=some true
 kit:PySem.W.kitOne K (.ref C) (.ref Ct)=some b
def findB (C:Addr):List (Addr×Bool)->Option Bool
 |[]=>none
 |a::r=>if C=a.1 then some a.2 else findB C r
theorem gm {C:Addr}{d:Bool}:∀{l:List (Addr×Bool)},findB C l=some d->(C,d)∈l
 |[],h=>by cases h
 |a::r,h=>by
  unfold findB at h
  split at h
  ·next e=>cases h;subst e;exact List.mem_cons_self
  ·exact List.mem_cons_of_mem _ (gm h)
section
variable {X:Cx}{e:Expr}{pos:Pos}
theorem uD {Ct:Addr}:eM X (.builtin "isinstance") (fun xs H Q=>∃a C dx fs b,xs=[.ref a,.ref Ct]/\H a=some (.ins C dx fs)/\td X.K Ct C b/\Q (.bl b) H):=by
 intro pins s σ H xs us Q I r h
 obtain⟨a,C,dx,fs,b,rfl,ea,ok,q⟩:=h
 obtain⟨u1,u2,rfl,ra,rb⟩:=Vals.two r
 cases (show u2=Value.ref Ct from rb)
 exact uX I ra (.ins ea ok.cl ok.ha ok.hn ok.htk ok.hm) ok.kit fun tk=>⟨.bl b,H,I.tok tk,rfl,q⟩
def tN (tbl:List (Addr×Bool))(fe:FE):FE:=fun τ=>(fe τ).bind fun p=>match p.1 with
 | .obj C _ _=>(findB C tbl).bind fun b=>some (.bl b,p.2)
 |_=>none
theorem zi {Ct:Addr}{x:Str}{p p':Pos}{fe:FE}{tbl:List (Addr×Bool)}(ht:∀a∈tbl,td X.K Ct a.1 a.2)(hg:Gl X "isinstance")(hm:X.mg "isinstance" = none)(hgx:Gl X x)(hmx:X.mg x=some (.ref Ct))(he:SE X e fe)
  (hs:starEach [e,.Name x p] X.env=(false,eval e X.env)::starEach [.Name x p] X.env:=by rfl) (hs2:starEach [.Name x p] X.env=(false,eval (.Name x p) X.env)::starEach [] X.env:=by rfl) (hpl:(backTo pos (starEach [.Name x p] X.env)).any (·.1)=false:=by rfl) (hdx:(x == ("__debug__" : Str))=false:=by decide):
  SE X (.Call (.Name "isinstance" p') [e,.Name x p] [] pos) (tN tbl fe):=fun Y0 Y9 =>
 PE.weak (mr uD hg hm (show bootBuiltins "isinstance" = some (.builtin "isinstance") from rfl) (iA (he Y0 Y9) (iA (jy (v:=.ref Ct) hgx hmx rfl hdx) pF hs2) hs) (by decide) (by decide) hs hpl) fun σ H Q h=>by
  obtain⟨F,τ,t,τ',E,e1,q⟩:=h
  obtain⟨⟨y,τ1⟩,e2,e1⟩:=bind_some e1
  dsimp only at e1
  split at e1
  ·next C ns ts =>
   obtain⟨b,e3,e1⟩:=bind_some e1
   cases e1
   refine⟨F,τ,_,_,E,e2,fun F1 H1 v E1 s1 r1=>?_⟩
   obtain⟨a,dx,vs,rfl,h1,h2,h3⟩:=r1
   exact⟨a,C,dx,_,b,rfl,E1.g.fh _ _ h1,ht _ (gm e3),q F1 H1 _ E1 s1 rfl⟩
  ·cases e1
end
section
variable {X:Cx}{e:Expr}{pos:Pos}{f:FE}
end
section
variable {K:PySem.W.Frag}{Y0 Y9 F H F' H':Hp}{σ σ':L2.St}{τ τ':aw}{x:Nat}{p:Addr}{tss:List (List T)}{A:List Addr}
end
section
variable {X:Cx}{e:Expr}{pos:Pos}{x:Nat}
end
section
variable {K:PySem.W.Frag}{Y0 Y9 F H F' H':Hp}{σ σ':L2.St}{τ τ':aw}{x:Nat}{p:Addr}{tss:List (List T)}{A:List Addr}
end
section
variable {X:Cx}{e:Expr}{pos:Pos}{x:Nat}
end
section
variable {X:Cx}{e:Expr}{pos:Pos}
end
section
variable {X:Cx}{e:Expr}{pos:Pos}
end
section
variable {X:Cx}{e:Expr}{pos:Pos}{x:Nat}
end
section
variable {X:Cx}{i j:Nat}
end
section
variable {X:Cx}
def qc:T->T->Option T
 |a,.non=>some (.bl (!tX a))
 | .bl c,.bl d=>some (.bl (c != d))
 |_,_=>none
theorem yR:jK X (compareOp .IsNot) qc:=by
 intro pins s σ H x y v u Q I rx ry ⟨F,a,b,t,sm,ra,rb,e,q⟩
 unfold qc at e
 split at e
 ·cases e;cases rb
  exact yP pins s σ H _ _ v u Q I rx ry ⟨rfl,by rw [uV ra];exact q F H _ (aS.refl sm) rfl⟩
 ·cases e;cases ra;cases rb;cases rx;cases ry
  exact isnot_bool ⟨.bl _,H,I,rfl,q F H _ (aS.refl sm) rfl⟩
 ·cases e
end
section
variable {X:Cx}{a b c:Expr}{fa fb fc:FE}{pos:Pos}
def jR (g g':T->T->Option T)(fa fb fc:FE):FE:=fun τ=>(fa τ).bind fun p=>(fb p.2).bind fun q=>(g p.1 q.1).bind fun z=>match z with
 | .bl true=>(fc q.2).bind fun r=>(g' q.1 r.1).bind fun t=>some (t,r.2)
 | .bl false=>some (.bl false,q.2)
 |_=>none
theorem rm {g g':T->T->Option T}{K:PySem.W.Frag}{Y0 Y9:Hp}{σ:L2.St}{H:Hp}{Q:VK}(h:tE K Y0 Y9 (jR g g' fa fb fc) σ H Q):xF (BS K g) (BS K g') (tE K Y0 Y9 fa) (tE K Y0 Y9 fb) (tE K Y0 Y9 fc) σ H Q:=by
 obtain⟨F,τ,t,τ',E,e1,q⟩:=h
 obtain⟨⟨x,τ1⟩,e2,e1⟩:=bind_some e1
 obtain⟨⟨y,τ2⟩,e3,e1⟩:=bind_some e1
 obtain⟨z,e4,e1⟩:=bind_some e1
 refine⟨F,τ,x,τ1,E,e2,fun F1 H1 v1 E1 s1 r1=>⟨F1,τ1,y,τ2,E1,e3,fun F2 H2 v2 E2 s2 r2=>⟨F2,x,y,z,E2.g.fh,r1.mono s2,r2,e4,fun F3 H3 v3 g3 r3=>?_⟩⟩⟩
 dsimp only at e1
 split at e1
 ·obtain⟨⟨w,τ3⟩,e5,e1⟩:=bind_some e1
  obtain⟨t',e6,e1⟩:=bind_some e1
  cases e1
  refine⟨true,r3,?_⟩
  rw [if_pos rfl]
  exact⟨F3,τ2,w,_,E2.grow g3,e5,fun F4 H4 v4 E4 s4 r4=>⟨F4,y,w,_,E4.g.fh,(r2.mono g3.sF).mono s4,r4,e6,fun F5 H5 v5 g5 r5=>q F5 H5 v5 (E4.grow g5) (((s1.trans s2).trans g3.sF).trans (s4.trans g5.sF)) r5⟩⟩
 ·cases e1
  refine⟨false,r3,?_⟩
  rw [if_neg (by decide)]
  exact q F3 H3 _ (E2.grow g3) ((s1.trans s2).trans g3.sF) rfl
 ·cases e1
theorem qY {op op':CmpOp}{g g':T->T->Option T}(ho:jK X (compareOp op) g)(ho':jK X (compareOp op') g')(ha:SE X a fa)(hb:SE X b fb)(hc:SE X c fc)(hm:lastMarks [op,op'] [b,c]=false:=by with_unfolding_all rfl):ST X (.Compare a [op,op'] [b,c] pos) (fL (jR g g' fa fb fc)):=
 fun Y0 Y9=>PT.weak (xi ho ho' (ha Y0 Y9) (hb Y0 Y9) (hc Y0 Y9) hm) fun σ H Q hq__=>by
  obtain⟨F,τ,k,τ',E,e1,q⟩:=hq__
  obtain⟨⟨x,τ1⟩,e2,e1⟩:=bind_some e1
  dsimp only at e1
  split at e1
  ·cases e1
   refine rm (Q:=fun x H'=>∃k,x=V.bl k/\Q k H') ⟨F,τ,_,_,E,e2,fun F' H' v E' s' r'=>?_⟩
   exact⟨k,r',q F' H' E' s'⟩
  ·cases e1
end
section
variable {K:PySem.W.Frag}{Y0 Y9 F H F' H':Hp}{σ σ':L2.St}{τ τ':aw}{A:List Addr}
end
section
variable {X:Cx}{r t x:Nat}{rn tn xn:Str}{p1 p2 p3 p4 p5 p6 pos:Pos}
end
section
variable {K:PySem.W.Frag}{Y0 Y9 F H F' H':Hp}{σ σ':L2.St}{τ τ':aw}{A:List Addr}{x:Nat}{o:O}{v:V}
end
section
variable {X:Cx}{r t x:Nat}{rn tn xn:Str}{p1 p2 p3 p4 p5 p6 pos q1 q2 q3 q4 q5 q6 pos':Pos}
end
section
variable {K:PySem.W.Frag}{Y0 Y9 F H F' H':Hp}{σ σ':L2.St}{τ τ':aw}{x:Nat}{p:Addr}{os:List O}{A:List Addr}
end
section
variable {X:Cx}{e:Expr}{pos:Pos}{x:Nat}
end
section
variable {X:Cx}{e:Expr}{pos:Pos}
end
section
variable {X:Cx}{e:Expr}{pos:Pos}
end
section
variable {P:Program}{w:World}{K:PySem.W.Frag}{mg:Str->Option Value}{base:Heap}{j k n:Nat}{C:Addr}{m:Str}
end
section
variable {X:Cx}{o e:Expr}{pos apos:Pos}{fo:FE}{k n:Nat}{m:Str}
end
section
variable {X:Cx}{x y:Nat}{e:Expr}{pos:Pos}
end
section
variable {K:PySem.W.Frag}{Y0 Y9 F H F' H':Hp}{σ σ':L2.St}{τ τ':aw}{A:List Addr}{o:O}{v:V}
end
section
variable {X:Cx}{x y:Nat}{e:Expr}{pos:Pos}
end
section
variable {X:Cx}{es:List Expr}{pos:Pos}
def DB (i j k:Nat)(ta:TA):TS:=fun D σ H=>ta σ H fun vs H1=>∃v w z,vs=[v,w,z]/\D.nx (((σ.set i (some v)).set j (some w)).set k (some z)) H1
theorem za {i j k:Nat}{x y z:Str}{a b c:Expr}{ta:TA}{px py pz pt:Pos}{kt k2 pt2}(hc:X.calm=true)(hN:X.N.Nodup)(hi:X.N[i]? = some x)(hj:X.N[j]? = some y)(hk:X.N[k]? = some z)(hij:i≠j)(hik:i≠k)(hjk:j≠k)
  (hx:X.env.scope.names.lookup x=some .local) (hy:X.env.scope.names.lookup y=some .local) (hz:X.env.scope.names.lookup z=some .local) (ha:PA X [a,b,c] ta)
  (hw:swappedStores [.Tuple [.Name x px,.Name y py,.Name z pz] kt pt] (.Tuple [a,b,c] k2 pt2) X.env=pure (some [x,y,z]))
  (hs:swapsWithSole [.Tuple [.Name x px,.Name y py,.Name z pz] kt pt] (.Tuple [a,b,c] k2 pt2) pos.line X.env=pure false:=by rfl):
  PS X (.Assign [.Tuple [.Name x px,.Name y py,.Name z pz] kt pt] (.Tuple [a,b,c] k2 pt2) pos) (DB i j k ta):=by
 intro pins s σ H D I h
 rw [exec_Assign_arm]
 refine wpAny_bind (wpAny_standAt ?_)
 rw [hs]
 refine wpAny_bind (wpAny_pure ?_)
 rw [if_neg (by decide)]
 refine wpAny_bind (Tuple_ (bM (ha _ pins s σ H _ I h) fun us s1 ⟨vs,H1,I1,r1,q1⟩=>?_))
 obtain⟨v,w,q,e1,q1⟩:=q1
 subst e1
 obtain⟨u1,u2,u3,rfl,rv,rw',rq⟩:∃u1 u2 u3,us=[u1,u2,u3]/\RelV v u1/\RelV w u2/\RelV q u3:=by
  cases r1 with
  |cons p q =>
   cases q with
   |cons p' q' =>
    cases q' with
    |cons p'' q'' =>
     cases q''
     exact⟨_,_,_,rfl,p,p',p''⟩
 refine wpAny_newObj_type ?_ (by show 3≤sizeLine;decide)
 have I2:Inv X pins σ H1 { s1 with heap:=s1.heap.push { cls:=.type "tuple", data:=.seq [u1,u2,u3].toArray } }:=I1.kept (t':=s1.toks) fun b o e=>Heap.get?_push_of_some _ e
 rw [hw]
 refine wpAny_bind (wpAny_pure ?_)
 show wpAny (model X.prog X.w) X.A (do rule "assign.swapped-stores";let items <- unpackItems (.ref s1.heap.objs.size) 3 none;assignInOrder [fun v=>bindName X.env z v,fun v=>bindName X.env y v,fun v=>bindName X.env x v] items.reverse;pure Flow.next) _ _ _
 refine wpAny_bind (wpAny_rule (wpAny_bind (unpackItems_tuple (items:=#[u1,u2,u3]) (I.ok.hd hc) (IsTup.new s1.heap _) fun h' hx'=>?_)))
 have I3:=I2.kept (h':=h') (t':=s1.toks) fun b o e=>hx' b o (Nat.ne_of_lt (Heap.lt_size e)) e
 show wpAny _ _ (assignInOrder [fun v=>bindName X.env z v,fun v=>bindName X.env y v,fun v=>bindName X.env x v] [u3,u2,u1] >>= fun _=>pure Flow.next) _ _ _
 refine wpAny_bind (assignInOrder_cons (wpAny_bindName (et I3 hN hk (.inl hz) rq (fun s2 I4=>?_) (.inr hz))))
 refine assignInOrder_cons (wpAny_bindName (et I4 hN hj (.inl hy) rw' (fun s3 I5=>?_) (.inr hy)))
 refine assignInOrder_cons (wpAny_bindName (et I5 hN hi (.inl hx) rv (fun s4 I6=>assignInOrder_nil (wpAny_pure ?_)) (.inr hx)))
 rw [List.set_comm _ _ (Ne.symm hjk),List.set_comm _ _ (Ne.symm hik),List.set_comm _ _ (Ne.symm hij)] at I6
 exact⟨_,H1,I6,q1⟩
def tO (i j k:Nat)(g:FA):FS:=fun τ=>(g τ).bind fun p=>match p.1 with
 |[t,u,v]=>some (.nx (((p.2.set i (some (.sh t))).set j (some (.sh u))).set k (some (.sh v))))
 |_=>none
theorem zo {i j k:Nat}{x y z:Str}{a b c:Expr}{ga:FA}{px py pz pt:Pos}{kt k2 pt2}(hc:X.calm=true)(hN:X.N.Nodup)(hi:X.N[i]? = some x)(hj:X.N[j]? = some y)(hk:X.N[k]? = some z)(hij:i≠j)(hik:i≠k)(hjk:j≠k)
  (hx:X.env.scope.names.lookup x=some .local) (hy:X.env.scope.names.lookup y=some .local) (hz:X.env.scope.names.lookup z=some .local) (ha:SA X [a,b,c] ga)
  (hw:swappedStores [.Tuple [.Name x px,.Name y py,.Name z pz] kt pt] (.Tuple [a,b,c] k2 pt2) X.env=pure (some [x,y,z]))
  (hs:swapsWithSole [.Tuple [.Name x px,.Name y py,.Name z pz] kt pt] (.Tuple [a,b,c] k2 pt2) pos.line X.env=pure false:=by rfl):
  SS X (.Assign [.Tuple [.Name x px,.Name y py,.Name z pz] kt pt] (.Tuple [a,b,c] k2 pt2) pos) (tO i j k ga):=fun Y0 Y9=>PS.weak (za hc hN hi hj hk hij hik hjk hx hy hz (ha Y0 Y9) hw hs) fun D σ H hq__=>by
 obtain⟨F,τ,r,E,e1,q⟩:=hq__
 obtain⟨⟨ts,τ1⟩,e2,e1⟩:=bind_some e1
 dsimp only at e1
 split at e1
 ·next t u v =>
  cases e1
  refine⟨F,τ,_,_,E,e2,fun F1 H1 vs E1 s1 r1=>?_⟩
  obtain⟨v1,_,rfl,k1,v2,_,rfl,k2,v3,_,rfl,k3,rfl⟩:=r1
  exact⟨v1,v2,v3,rfl,q F1 H1 _ (((E1.set k1).set k2).set k3) s1⟩
 ·cases e1
end
structure XI where
 C:Addr
 ns:List Str
 ts:List T
abbrev FX:=aw->Option (XI×aw)
def hU (K:PySem.W.Frag)(Y0 Y9 F:Hp)(od:Option Addr)(c:XI):Prop:=(c.ns=[]/\c.ts=[]/\od=none)\/∃d us,od=some d/\F d=some (.xd (c.ns.zip us))/\us.length=c.ns.length/\aP K F c.ts us/\∀p,V.ref p∈us->Y0 p=none/\Y9 p=none
theorem hU.up {K:PySem.W.Frag}{Y0 Y9 F1 H1 F:Hp}{od:Option Addr}{c:XI}(y:hU K F1 H1 F od c)(sF:aD Y0 F1)(sH:aD Y9 H1):hU K Y0 Y9 F od c:=y.imp id fun⟨d,us,a,b,l,r,n⟩=>⟨d,us,a,b,l,r,fun p m=>⟨sF.free (n p m).1,sH.free (n p m).2⟩⟩
def rh (b:Bool)(X:Cx)(pins:List (Addr×Obj))(Y0 Y9 F:Hp)(c:XI)(τ':aw)(e:Value)(s':Shared):Prop:=
 ∃σ' F' H' od,((b=true/\Made X pins σ' H' c.C od e s')\/zQ X pins σ' H' c.C od e s')/\au X.K Y0 Y9 F' H' σ' τ'/\aD F F'/\hU X.K Y0 Y9 F' od c
def zT (b:Bool)(X:Cx)(e:Expr)(fx:FX):Prop:=∀Y0 Y9 pins s σ H F τ C τ',Inv X pins σ H s->au X.K Y0 Y9 F H σ τ->fx τ=some (C,τ')->wpAny (model X.prog X.w) X.A (eval e X.env) (fun _ _=>False) (rh b X pins Y0 Y9 F C τ') s
def SX (b:Bool)(X:Cx)(st:Stmt)(fx:FX):Prop:=∀Y0 Y9 pins s σ H F τ C τ',Inv X pins σ H s->au X.K Y0 Y9 F H σ τ->fx τ=some (C,τ')->wpAny (model X.prog X.w) X.A (exec st X.env) (fun _ _=>False) (rh b X pins Y0 Y9 F C τ') s
def zt (b:Bool)(X:Cx)(ss:List Stmt)(fx:FX):Prop:=∀Y0 Y9 pins s σ H F τ C τ',Inv X pins σ H s->au X.K Y0 Y9 F H σ τ->fx τ=some (C,τ')->wpAny (model X.prog X.w) X.A (execs ss X.env) (fun _ _=>False) (rh b X pins Y0 Y9 F C τ') s
theorem rh.of {b:Bool}{X:Cx}{pins:List (Addr×Obj)}{Y0 Y9 F F1:Hp}{c:XI}{τ':aw}{e:Value}{s':Shared}(s:aD F F1)(p:rh b X pins Y0 Y9 F1 c τ' e s'):rh b X pins Y0 Y9 F c τ' e s':=by
 obtain⟨σ',F',H',od,z,E,s2,y⟩:=p
 exact⟨σ',F',H',od,z,E,s.trans s2,y⟩
def EF (K:PySem.W.Frag)(n:Nat)(dx:List T->Option XI):Sp:=fun vs H _ E=>vs.length=n/\∃F ts c,aD F H/\aP K F ts vs/\dx ts=some c/\∀od F' H',aS F H F' H'->hU K F H F' od c->E (oV od) (some c.C) H'
structure iG (P:Program)(w:World)(K:PySem.W.Frag)(mg:Str->Option Value)(base:Heap)(k:Nat)(x:Str)(n:Nat)(dx:List T->Option XI):Prop where
 ex:∃f fd ps,dN P w K mg base (zP P w) k f fd ps (EF K n dx)/\Binds K fd ps []/\PySem.W.keepIn K (.ref f)=true/\mg x=some (.ref f)/\ps.length=n
section
variable {P:Program}{w:World}{K:PySem.W.Frag}{mg:Str->Option Value}{base:Heap}{j k n:Nat}{x:Str}{C:Addr}{dx:List T->Option XI}
theorem iG.mono (D:iG P w K mg base j x n dx)(h:j≤k):iG P w K mg base k x n dx:=by
 obtain⟨f,fd,ps,F,r⟩:=D.ex
 exact⟨f,fd,ps,F.mono h,r⟩
end
section
variable {X:Cx}{e:Expr}{es:List Expr}{pos:Pos}{g:FA}{b:Bool}
def gH (dx:List T->Option XI)(g:FA):FX:=fun τ=>(g τ).bind fun p=>(dx p.1).bind fun C=>some (C,p.2)
theorem pQ {k n:Nat}{x:Str}{p:Pos}{dx:List T->Option XI}(hx:∀e s,X.xe e s->False)(D:iG X.prog X.w X.K X.mg X.base k x n dx)(hr:br k X.A)(hg:Gl X x)(ha:SA X (e::es) g)(hl:∀τ ts τ',g τ=some (ts,τ')->ts.length=n)(hdb:(x == ("__debug__" : Str))=false:=by decide)
  (he:starEach (e::es) X.env=(false,eval e X.env)::starEach es X.env:=by rfl) (hpl:(backTo pos (starEach es X.env)).any (·.1)=false:=by rfl):zT b X (.Call (.Name x p) (e::es) [] pos) (gH dx g):=by
 obtain⟨f,fd,ps,Fk,hb,hk,hm,hn⟩:=D.ex
 intro Y0 Y9 pins s σ H F τ C τ' I E e1
 obtain⟨⟨ts,τ1⟩,e2,e1⟩:=bind_some e1
 obtain⟨C',e3,e1⟩:=bind_some e1
 cases e1
 have hlen:=hl _ _ _ e2
 refine wpAny_Call_Name_kw (eU I hg hm ?_ hdb)
 refine PySem.W.callWith_K (h₀:=X.base) I.ok.mod.kin hk (wpAny_mono (ha Y0 Y9 pos pins s σ H (fun vs H1=>∃F1,au X.K Y0 Y9 F1 H1 σ τ1/\aD F F1/\aP X.K F1 ts vs) I ⟨F,τ,ts,τ1,E,e2,fun F1 H1 vs E1 s1 r1=>⟨F1,E1,s1,r1⟩⟩) (fun us s1 z=>?_) fun e s z=>False.elim (hx e s z)) he hpl
 obtain⟨vs,H1,I1,r,F1,E1,sF,r1⟩:=z
 refine⟨I1.kIn,?_⟩
 have hvl:vs.length=n:=by rw [r1.length];exact hlen
 have hul:(us++[]).length=ps.length:=by rw [List.append_nil,<- r.length,hvl,hn]
 refine wpAny_call (codeAny_mono (Fk.run X.A X.stack s1 H1 ⟨[]++us,[]⟩ (us++[]) (vs++[]) (fun _ _=>False) (fun dv oc H'=>oc=some C.C/\∃od F',dv=oV od/\au X.K Y0 Y9 F' H' σ τ1/\aD F F'/\hU X.K Y0 Y9 F' od C) hr I1.env0 (hb s1 us I1.kIn hul) (r.append .nil) ⟨by rw [List.append_nil];exact hvl,F1,ts,C,E1.g.fh,by rw [List.append_nil];exact r1,e3,fun od F' H' gr y=>⟨rfl,od,F',rfl,E1.grow gr,sF.trans gr.sF,y.up E1.g.sF E1.g.sH⟩⟩) fun rr s' hq=>?_)
 cases rr with
 |error ev =>
  obtain⟨a,C2,od2,H',rfl,fl,ec,od,F',eo,E2,s2,y⟩:=hq
  cases ec
  obtain rfl:=pA eo
  exact⟨σ,F',H',_,.inr ⟨a,s1,H1,rfl,I1,fl⟩,E2,s2,y⟩
 |ok fl =>
  cases fl with
  |ret u=>obtain⟨v,H',_,_,_,_,_,q⟩:=hq;exact q.elim
  |next=>exact False.elim hq
  |brk=>exact False.elim hq
  |cont=>exact False.elim hq
def Au (c:FT)(f1 f2:FX):FX:=fun τ=>(c τ).bind fun p=>if p.1=true then f1 p.2 else f2 p.2
def Cn:FX:=fun _=>none
theorem By {ss:List Stmt}:zt b X ss Cn:=fun Y0 Y9 pins s σ H F τ C τ' I E e1=>by cases e1
theorem Dm {c:Expr}{tc:FT}{as bs:List Stmt}{f1 f2:FX}(hx:∀e s,X.xe e s->False)(hc:ST X c tc)(h1:zt b X as f1)(h2:zt b X bs f2):SX b X (.If c as bs pos) (Au tc f1 f2):=fun Y0 Y9 pins s σ H F τ C τ' I E e1=>by
 obtain⟨⟨c0,τ1⟩,e2,e1⟩:=bind_some e1
 refine wpAny_If (wpAny_mono (hc Y0 Y9 pins s σ H (fun d H1=>d=c0/\∃F1,au X.K Y0 Y9 F1 H1 σ τ1/\aD F F1) I ⟨F,τ,c0,τ1,E,e2,fun F1 H1 E1 s1=>⟨rfl,F1,E1,s1⟩⟩) (fun d s1 z=>?_) fun e s z=>False.elim (hx e s z))
 obtain⟨H1,I1,rfl,F1,E1,sF⟩:=z
 dsimp only at e1
 cases d with
 |true =>
  rw [if_pos rfl] at e1
  exact wpAny_mono (h1 Y0 Y9 pins s1 σ H1 F1 τ1 C τ' I1 E1 e1) (fun _ _ z=>z.elim) fun _ _ z=>z.of sF
 |false =>
  rw [if_neg Bool.false_ne_true] at e1
  exact wpAny_mono (h2 Y0 Y9 pins s1 σ H1 F1 τ1 C τ' I1 E1 e1) (fun _ _ z=>z.elim) fun _ _ z=>z.of sF
theorem gC {st:Stmt}{rest:List Stmt}{fx:FX}(h:SX b X st fx):zt b X (st::rest) fx:=fun Y0 Y9 pins s σ H F τ C τ' I E e1 =>
 wpAny_execs_cons (wpAny_mono (h Y0 Y9 pins s σ H F τ C τ' I E e1) (fun _ _ z=>z.elim) fun _ _ z=>z)
theorem yG {X:Cx}{pins:List (Addr×Obj)}{σ:L2.St}{H:Hp}{s:Shared}{C a:Addr}{h':Heap}{args:List Value}(hex:X.ex=[])(I:Inv X pins σ H s)(m:Heap.MadeExcOf s.heap h' a (.ref C) args):Made X pins σ H C none (.ref a) { s with heap:=h' }:=by
 obtain⟨kp,na,t,h1,_⟩:=m
 refine⟨a,_,_,_,rfl,I.kept (t':=s.toks) kp,?_,?_,h1,rfl,rfl,rfl,rfl,rfl⟩
 ·cases q:H a with
  |none=>rfl
  |some o =>
   obtain⟨ob,e⟩:=(I.hok a o q).has
   rw [na] at e;cases e
 ·cases q:X.Y8.heap.get? a with
  |none=>rfl
  |some o =>
   obtain⟨o2,e2⟩:=I.base.there a o q (by rw [hex];simp)
   rw [na] at e2;cases e2
def vW (C:Addr)(g:FA):FX:=fun τ=>(g τ).bind fun p=>if p.1.length≤1000 then some (⟨C,[],[]⟩,p.2) else none
theorem xE {C0:Addr}{up:List Addr}{x:Str}{np cpos:Pos}(hc:X.calm=true)(hx:∀e s,X.xe e s->False)(Er:rd X.K C0 up none)(hg:Gl X x)(hm:X.mg x=some (.ref C0))(ha:SA X [e] g)(hdb:(x == ("__debug__" : Str))=false:=by decide)
  (he:starEach [e] X.env=(false,eval e X.env)::starEach [] X.env:=by rfl) (hex:X.ex=[]:=by rfl):SX true X (.Raise (some (.Call (.Name x np) [e] [] cpos)) none pos) (vW C0 g):=fun Y0 Y9 pins s σ H F τ C τ' I E e1=>by
 obtain⟨⟨ts,τ1⟩,e2,e1⟩:=bind_some e1
 dsimp only at e1
 split at e1
 ·next hl =>
  cases e1
  exact xk hc hx Er hg hm (ha Y0 Y9) I ⟨F,τ,ts,_,E,e2,fun F1 H1 vs E1 s1 r1=>⟨by rw [r1.length];exact Nat.le_of_lt (L2.gy hl),fun h' a s2 args I2 hm'=>⟨σ,F1,H1,none,.inl ⟨rfl,yG hex I2 hm'⟩,E1,s1,.inl ⟨rfl,rfl,rfl⟩⟩⟩⟩ hdb he
 ·cases e1
end
section
variable {X:Cx}{e:Expr}{pos:Pos}{g:FA}
end
def jn (m n:Nat)(fx:FX):List T->Option XI:=fun ts=>if ts.length=n then (fx (ts.map (fun t=>some (Sl.sh t))++List.replicate (m-n) none)).bind fun p=>some p.1 else none
section
variable {P:Program}{w:World}{K:PySem.W.Frag}{mg:Str->Option Value}{base:Heap}
theorem wb {x qual:Str}{st:Stmt}{f:Addr}{fd:FuncData}{N ps:List Str}{k:Nat}{fx:FX}{dx:List T->Option XI}(F:dM K x qual st f fd)(S:aA N ps (aj st))
  (hd:∀ts C,dx ts=some C->ts.length=ps.length->∃τ',fx (ts.map (fun t=>some (Sl.sh t))++List.replicate (N.length-ps.length) none)=some (C,τ'))
  (h:∀(cdv:Value) (A:Around) (outer:List Env) (s:Shared) (H:Hp) (E:XK),br k (A.deeper (envOfC qual (aj st) s.heap.objs.size f cdv))->zt true (fF (zP P w) P w K mg base N qual (aj st) f cdv A outer s H E).nox (bE st) fx):
  dN P w K mg base (zP P w) (k+1) f fd ps (EF K ps.length dx):=by
 obtain⟨oc,od,kV,doc,pm,an,cdv,ct,osl,rfl,lk,hcd⟩:=F.ex
 refine we lk hcd S (fun vs H Q E z=>z.1) fun A outer s H vs Q E hr z=>?_
 obtain⟨hl,F1,ts,C,sm,r,e,q⟩:=z
 obtain⟨τ',e1⟩:=hd ts C e (by rw [<- r.length];exact hl)
 refine⟨fun _ σ1 H1=>∃τ,au K F1 H F1 H1 σ1 τ/\fx τ=some (C,τ'),?_,?_⟩
 ·intro pins s1 σ1 H1 D I z
  obtain⟨τ,E1,e2⟩:=z
  refine wpAny_mono (h cdv A outer s H E hr F1 H pins s1 σ1 H1 F1 τ C τ' (I.wish _) E1 e2) (fun _ _ z=>z.elim) fun ev s2 z=>?_
  obtain⟨σ2,F2,H2,od,z,E2,_,y⟩:=z
  rcases z with ⟨_,z⟩ | z
  ·refine wpAny_mono (so (E:=fun _ _=>False) rfl rfl rfl z) (fun _ s3 z=>?_) fun _ _ z=>z.elim
   obtain⟨a,rfl,fl⟩:=z
   exact⟨a,C.C,od,H2,rfl,fl,q od F2 H2 E2.g y⟩
  ·refine wpAny_mono (lZ (E:=fun _ _=>False) rfl rfl rfl z) (fun _ s3 z=>?_) fun _ _ z=>z.elim
   obtain⟨a,rfl,fl⟩:=z
   exact⟨a,C.C,od,H2,rfl,fl,q od F2 H2 E2.g y⟩
 ·refine⟨_,?_,e1⟩
  have:=dy (N:=N) sm r
  rw [show ts.length=ps.length by rw [<- r.length];exact hl] at this
  exact this
theorem ou {x qual:Str}{st:Stmt}{f:Addr}{fd:FuncData}{N ps:List Str}{k:Nat}{fx:FX}(F:dM K x qual st f fd)(S:aA N ps (aj st))(hb:Binds K fd ps [])(hm:mg x=some (.ref f))
  (h:∀(cdv:Value) (A:Around) (outer:List Env) (s:Shared) (H:Hp) (E:XK),br k (A.deeper (envOfC qual (aj st) s.heap.objs.size f cdv))->zt true (fF (zP P w) P w K mg base N qual (aj st) f cdv A outer s H E).nox (bE st) fx):
  iG P w K mg base (k+1) x ps.length (jn N.length ps.length fx):=by
 refine⟨f,fd,ps,wb F S (fun ts C e hl=>?_) h,hb,F.kp,hm,rfl⟩
 unfold jn at e
 rw [if_pos hl] at e
 obtain⟨⟨C',τ'⟩,e1,e⟩:=bind_some e
 cases e
 exact⟨τ',e1⟩
end
theorem au.del {K:PySem.W.Frag}{Y0 Y9 F H:Hp}{σ:L2.St}{τ:aw}{i:Nat}(E:au K Y0 Y9 F H σ τ):au K Y0 Y9 F H (σ.set i none) (τ.set i none):=by
 have key:∀(j:Nat) (s:Sl),(τ.set i none)[j]? = some (some s)->j≠i/\τ[j]? = some (some s):=fun j s e=>by
  have hj:j≠i:=fun z=>by
   rw [z] at e
   by_cases hi:i<τ.length
   ·rw [List.getElem?_set_self hi] at e;cases e
   ·rw [List.getElem?_eq_none (by rw [List.length_set];omega)] at e;cases e
  rw [List.getElem?_set_ne (Ne.symm hj)] at e
  exact⟨hj,e⟩
 refine⟨E.g,by rw [List.length_set,List.length_set];exact E.len,fun j s e=>?_,fun j l ts us p hjl e1 e2 e3=>?_⟩
 ·obtain⟨hj,e⟩:=key j s e
  obtain⟨v,h1,h2⟩:=E.sl j s e
  exact⟨v,by rw [List.getElem?_set_ne (Ne.symm hj)];exact h1,h2⟩
 ·obtain⟨hj,e1⟩:=key j _ e1
  obtain⟨hl,e2⟩:=key l _ e2
  rw [List.getElem?_set_ne (Ne.symm hj)] at e3
  rw [List.getElem?_set_ne (Ne.symm hl)]
  exact E.dj j l ts us p hjl e1 e2 e3
abbrev vz:=XI->aw->Option R
def BY (X:Cx)(hs:List ExceptHandler)(fh:vz):Prop:=∀Y0 Y9 pins s5 σ H F τ c od a r Dn E,jM X pins σ H c.C od a s5->au X.K Y0 Y9 F H σ τ->hU X.K Y0 Y9 F od c->fh c τ=some r->lz X.K Y0 Y9 F Dn r ->
 wpAny (model X.prog X.w) X.A (handleBy (.ref a) X.env hs) (SP X pins Dn) E s5
structure nZ (K:PySem.W.Frag)(D:Addr)(tbl:List (Addr×Bool)):Prop where
 cls:∃bD iD,eu K D bD iD/\bD.contains (.type "BaseException")=true
 all:∀a∈tbl,∃bC iC,eu K a.1 bC iC/\(Value.ref a.1::bC).contains (.ref D)=a.2
def vX (fb:FS)(fx:FX)(fh:vz):FS:=fun τ=>match fb τ with
 |some r=>some r
 |none=>(fx τ).bind fun p=>fh p.1 p.2
def vY:vz:=fun _ _=>none
def Aw (i:Nat)(tbl:List (Addr×Bool))(fh:FS)(more:vz):vz:=fun c τ=>(findB c.C tbl).bind fun b=>if b=true then
  (fh (τ.set i (some (.sh (.exc c.C c.ns c.ts))))).bind fun r=>match r with
  | .nx τ2=>some (.nx (τ2.set i none))
  | .rt t=>some (.rt t)
  |_=>none
 else more c τ
section
variable {X:Cx}{pos:Pos}
theorem xB:BY X [] vY:=fun Y0 Y9 pins s5 σ H F τ c od a r Dn E z E1 y e q=>by cases e
theorem wB {K:PySem.W.Frag}{Y0 Y9 F H:Hp}{σ:L2.St}{τ:aw}{a:Addr}{φ:Heap->Prop}(E2:au K Y0 Y9 F H σ τ)(na:H a=none):aS F H (upd F a (.ext φ)) (upd H a (.ext φ)):=by
 have nF:F a=none:=E2.g.fh.free na
 exact⟨fun c o e=>by rw [aB (aO e nF)];exact e,fun c o e=>by rw [aB (aO e na)];exact e,fun c o e=>by
  by_cases hc:c=a
  ·rw [hc] at e ⊢
   rw [aM] at e ⊢
   exact e
  ·rw [aB hc] at e ⊢
   exact E2.g.fh _ _ e,fun c o e=>by
  by_cases hc:c=a
  ·exact .inr (by rw [hc];exact na)
  ·rw [aB hc] at e
   exact .inl e⟩
theorem zM {suite:List Stmt}{Y6:Stmt}{x n:Str}{np hpos:Pos}{D:Addr}{i:Nat}{tbl:List (Addr×Bool)}{fh:FS}{more:vz}{hs:List ExceptHandler}(hN:X.N.Nodup)(hi:X.N[i]? = some n)
  (hl:X.env.scope.names.lookup n=some .local) (hlo:X.env.kindOf n=some .local) (hg:Gl X x) (hm:X.mg x=some (.ref D)) (tk:nZ X.K D tbl)
  (hh:∀a,pV (X.inS (.ref a)) (Y6::suite) fh) (hr:BY X hs more) (hdb:(x == ("__debug__" : Str))=false:=by decide):
  BY X (.ExceptHandler (some (.Name x np)) (some n) (Y6::suite) hpos::hs) (Aw i tbl fh more):=by
 intro Y0 Y9 pins s5 σ H F τ c od a r Dn E z E1 y e q
 obtain⟨bD,iD,cD,hbD⟩:=tk.cls
 obtain⟨b,e1,e⟩:=bind_some e
 obtain⟨bC,iC,cC,hCD⟩:=tk.all _ (gm e1)
 cases b with
 |false =>
  rw [if_neg Bool.false_ne_true] at e
  exact uR z cC cD hbD hCD hg hm (hr Y0 Y9 pins s5 σ H F τ c od a r Dn E z E1 y e q) hdb
 |true =>
  rw [if_pos rfl] at e
  obtain⟨r',eh,e⟩:=bind_some e
  refine yy z cC cD hbD hCD hg hm hN hi hl hlo (fun s2 na I2=>?_) hdb
  have gr:=wB (φ:=eg a c.C od) E1 na
  have E3:au X.K Y0 Y9 (upd F a (.ext (eg a c.C od))) (upd H a (.ext (eg a c.C od))) (σ.set i (some (.ref a))) (τ.set i (some (.sh (.exc c.C c.ns c.ts)))):=(E1.grow gr).set (t:=.exc c.C c.ns c.ts) ⟨a,od,rfl,aM,by
   rcases y with y | ⟨d,us,y1,y2,y3,y4⟩
   ·exact .inl y
   ·exact .inr ⟨d,us,y1,gr.sF _ _ y2,y3,y4.1.mono gr.sF⟩⟩
  refine hh a Y0 Y9 pins s2 _ _ (Dn.gone i) I2 ⟨_,_,r',E3,eh,?_⟩
  cases r' with
  |nx τ2 =>
   cases e
   exact fun F3 H3 σ3 E4 s4=>q F3 H3 (σ3.set i none) E4.del (gr.sF.trans s4)
  |rt t =>
   cases e
   exact q
  |bk τ2=>cases e
  |ct τ2=>cases e
theorem Bx {body:List Stmt}{h0:ExceptHandler}{hs:List ExceptHandler}{fb:FS}{fx:FX}{fh:vz}(hx:∀e s,X.xe e s->False)(hst:X.stack=X.env::X.outer)(hf:X.env.frame=some X.env.locals)
  (hb:pV X body fb) (hxb:zt false X body fx) (hh:BY X (h0::hs) fh):SS X (.Try body (h0::hs) [] [] pos) (vX fb fx fh):=by
 intro Y0 Y9 pins s σ H Dn I z
 obtain⟨F,τ,r,E,e1,q⟩:=z
 unfold vX at e1
 split at e1
 ·next r' eb =>
  cases e1
  refine wpAny_Try_except (wpAny_mono (hb Y0 Y9 pins s σ H Dn I ⟨F,τ,_,E,eb,q⟩) (fun f s1 z=>?_) fun e s z=>False.elim (hx e s z))
  cases f with
  |next =>
   obtain⟨σ',H',I',z⟩:=z
   exact pG pins s1 σ' H' Dn I' z
  |ret v=>exact z
  |brk=>exact z
  |cont=>exact z
 ·obtain⟨⟨c,τ1⟩,ex,e1⟩:=bind_some e1
  refine wpAny_Try_except (wpAny_mono (hxb Y0 Y9 pins s σ H F τ c τ1 I E ex) (fun _ _ z=>z.elim) fun ev s1 z=>?_)
  obtain⟨σ',F',H',od,z,E2,sF,y⟩:=z
  rcases z with ⟨z,_⟩ | z
  ·cases z
  exact lL hst hf z fun a s5 ea zl=>hh Y0 Y9 pins s5 σ' H' F' τ1 c od a r Dn _ zl E2 y e1 (q.mono sF)
end
structure lB (K:PySem.W.Frag)(Ct C:Addr)(b:Bool):Prop where
 ex:∃bm,lu K C bm
 kit:PySem.W.kitOne K (.ref C) (.ref Ct)=some b
section
variable {X:Cx}{e:Expr}{pos:Pos}
theorem uF {Ct:Addr}:eM X (.builtin "isinstance") (fun xs H Q=>∃a C od b,xs=[.ref a,.ref Ct]/\H a=some (.ext (eg a C od))/\lB X.K Ct C b/\Q (.bl b) H):=by
 intro pins s σ H xs us Q I r h
 obtain⟨a,C,od,b,rfl,ea,ok,q⟩:=h
 obtain⟨u1,u2,rfl,ra,rb⟩:=Vals.two r
 cases (show u2=Value.ref Ct from rb)
 cases (show u1=Value.ref a from ra)
 obtain⟨bm,ax⟩:=ok.ex
 obtain⟨ph,_⟩:=(show bO X.prog X.w H s.heap a (.ext (eg a C od)) from I.hok a _ ea)
 exact PySem.W.kia_one (qA ax) I.kIn ph ok.kit (fun z=>nomatch z) fun tk=>⟨.bl b,H,I.tok tk,rfl,q⟩
def lQ (tbl:List (Addr×Bool))(fe:FE):FE:=fun τ=>(fe τ).bind fun p=>match p.1 with
 | .exc C _ _=>(findB C tbl).bind fun b=>some (.bl b,p.2)
 |_=>none
theorem iE {Ct:Addr}{x:Str}{p p':Pos}{fe:FE}{tbl:List (Addr×Bool)}(ht:∀a∈tbl,lB X.K Ct a.1 a.2)(hg:Gl X "isinstance")(hm:X.mg "isinstance" = none)(hgx:Gl X x)(hmx:X.mg x=some (.ref Ct))(he:SE X e fe)
  (hs:starEach [e,.Name x p] X.env=(false,eval e X.env)::starEach [.Name x p] X.env:=by rfl) (hs2:starEach [.Name x p] X.env=(false,eval (.Name x p) X.env)::starEach [] X.env:=by rfl) (hpl:(backTo pos (starEach [.Name x p] X.env)).any (·.1)=false:=by rfl) (hdx:(x == ("__debug__" : Str))=false:=by decide):
  SE X (.Call (.Name "isinstance" p') [e,.Name x p] [] pos) (lQ tbl fe):=fun Y0 Y9 =>
 PE.weak (mr uF hg hm (show bootBuiltins "isinstance" = some (.builtin "isinstance") from rfl) (iA (he Y0 Y9) (iA (jy (v:=.ref Ct) hgx hmx rfl hdx) pF hs2) hs) (by decide) (by decide) hs hpl) fun σ H Q h=>by
  obtain⟨F,τ,t,τ',E,e1,q⟩:=h
  obtain⟨⟨y,τ1⟩,e2,e1⟩:=bind_some e1
  dsimp only at e1
  split at e1
  ·next C _ _ =>
   obtain⟨b,e3,e1⟩:=bind_some e1
   cases e1
   refine⟨F,τ,_,_,E,e2,fun F1 H1 v E1 s1 r1=>?_⟩
   obtain⟨a,od,rfl,h1,_⟩:=r1
   exact⟨a,C,od,b,rfl,E1.g.fh _ _ h1,ht _ (gm e3),q F1 H1 _ E1 s1 rfl⟩
  ·cases e1
end
section
variable {X:Cx}{e:Expr}{pos:Pos}
end
section
variable {X:Cx}{es:List Expr}{pos:Pos}
end
def zw (K:PySem.W.Frag)(C:Addr)(bm:List Value)(ini:Option Value):Bool:=match K.lookup C with
 | some ⟨.type t,_,.cls ⟨_,_,mro,N,_,_,_,_,_,_,hd⟩,⟨[_,_,_,_,some (.builtin nid),_]⟩⟩=>t == "type"&&decide (mro=.ref C::bm)&&!hd&&nid == "ValueError.__new__"&&(match K.lookup N with
  |some ⟨_,_,.dict es _,_⟩=>es.all (fun e=>match e.key with | .str _ _=>true | _=>false)&&decide (nsFind es "__init__" = ini)
  | _=>false)
 |_=>false
theorem eu.of {K:PySem.W.Frag}{C:Addr}{bm:List Value}{ini:Option Value}(h:zw K C bm ini=true):eu K C bm ini:=by
 unfold zw at h
 split at h
 ·next t dd nm bs mro N q hdct sn sub ab col hd k0 k1 k2 k3 nid k5 e1 =>
  simp only [Bool.and_eq_true,beq_iff_eq,decide_eq_true_eq,Bool.not_eq_true'] at h
  obtain⟨⟨⟨⟨rfl,rfl⟩,rfl⟩,rfl⟩,h⟩:=h
  split at h
  ·next c d es ep sl e2 =>
   simp only [Bool.and_eq_true,decide_eq_true_eq] at h
   exact⟨N,nm,q,bs,hdct,sn,sub,ab,col,_,k0,k1,k2,k3,k5,_,es,ep,e1,e2,rfl,h.1,h.2⟩
  ·cases h
 ·cases h
section
variable {X:Cx}{r t:Nat}{rn tn:Str}{p1 p2 p3 p4 p5 p6 pos q1 q3 q4 q5 q6 pos':Pos}
end
section
variable {K:PySem.W.Frag}{Y0 Y9 F H:Hp}{σ:L2.St}{τ:aw}{A:List Addr}
end
section
variable {X:Cx}{t x:Nat}{tn xn:Str}{q1 q2 p1 p2 p3 p4 p5 r1 r2 r3 r4 r5 r6 r7 r8 r9 pos':Pos}
end
section
variable {X:Cx}{t x y:Nat}{tn xn yn:Str}{q1 q2 p1 p2 p3 p4 p5 r1 r2 r3 r4 r5 r6 r7 r8 r9 pos' a1 a2 c1 c2:Pos}
end
section
variable {P:Program}{w:World}{K:PySem.W.Frag}{mg:Str->Option Value}{base:Heap}{j k n:Nat}{x:Str}
end
section
variable {X:Cx}{e a b:Expr}{es:List Expr}{pos:Pos}{g:FA}{k n:Nat}
end
section
variable {X:Cx}{x:Nat}{xn:Str}{r1 r2 r3 r4 r5 r6 r7 r8 r9 a1 a2 a3:Pos}
end
section
variable {K:PySem.W.Frag}{Y0 Y9 F H F' H':Hp}{σ σ':L2.St}{τ τ':aw}{A:List Addr}
end
section
variable {X:Cx}{x:Nat}{e:Expr}{pos:Pos}{hs:List Nat}
end
section
variable {X:Cx}{r pl nu:Nat}{rn pn nn:Str}{t1 t2 px e1 e2 e3 e4 e5 b1 b2 b3 b4 pos:Pos}{E:Expr}{fE:FE}{φ:T->T}
end
section
variable {X:Cx}{r t x pl nu:Nat}{rn tn xn pn nn:Str}{t1 t2 px e1 e2 e3 e4 e5 b1 b2 b3 b4 pos c1 c2 cpos:Pos}{E:Expr}{φ:T->T}{kx:Nat}
end
section
variable {K:PySem.W.Frag}{F H:Hp}
end
section
variable {X:Cx}{r t x pl nu:Nat}{xn:Str}{a1 a2 a3 f1 f2:Pos}
end
section
variable {K:PySem.W.Frag}{F H:Hp}{A:List Addr}
end
section
variable {X:Cx}{e:Expr}{pos:Pos}{x:Nat}
end
section
variable {X:Cx}{x:Nat}{xn:Str}{r1 r2 r3 r4 r5 r6 r7 r8 r9 a1 a2 a3:Pos}
end
section
variable {X:Cx}{e:Expr}{pos:Pos}{b:Bool}
theorem lp {fx:FX}(h:zT b X e fx)(hsw:swapsWith e none pos.line X.env=pure false:=by rfl):SX b X (.Expr e pos) fx:=fun Y0 Y9 pins s σ H F τ C τ' I E e1 =>
 wpAny_Expr_any (wpAny_mono (h Y0 Y9 pins s σ H F τ C τ' I E e1) (fun _ _ z=>z.elim) fun _ _ z=>z) I.quiet hsw
end
section
variable {K:PySem.W.Frag}{Y0 Y9 F H F' H':Hp}{σ σ':L2.St}{τ τ':aw}{x:Nat}{p:Addr}{tss:List (List T)}{A:List Addr}
end
section
variable {X:Cx}{pos p2:Pos}
end
section
variable {X:Cx}{e:Expr}{pos:Pos}{x:Nat}
end
section
variable {K:PySem.W.Frag}{Y0 Y9 F H F' H':Hp}{σ σ':L2.St}{τ τ':aw}
end
section
variable {X:Cx}{e v:Expr}{pos pos2:Pos}{x i j:Nat}{nx ni nj:Str}{q1 q2 q3 q4 q5 p1 p2 p3:Pos}{fo:rf}{fv:FE}{t:T}
end
section
variable {X:Cx}{e:Expr}{pos:Pos}{x:Nat}
end
section
variable {X:Cx}{e:Expr}{pos:Pos}{x:Str}{f:FE}
end
abbrev cR (elt tg iter tg2 iter2:Expr)(scope:Scope)(pos:Pos):Expr:=.ListComp elt [⟨tg,iter,[],0⟩,⟨tg2,iter2,[],0⟩] scope pos
theorem oj (elt tg iter tg2 iter2:Expr)(scope:Scope)(pos:Pos)(it acc:Value)(env:Env):compTurn (cR elt tg iter tg2 iter2 scope pos) 0 it acc env=(do
  standAt iter.pos
  match <- pyNext it with
  |none=>pure (.done .next)
  |some v=>do
   letOwnedTupleGo tg it v
   assign tg env v
   let x <- eval iter2 env
   standAt iter2.pos
   let x <- foldedSetIterable iter2 env x
   let i <- holding [x] (pyIter x)
   let _ <- runOwn (.compStart (cR elt tg iter tg2 iter2 scope pos) 1 i acc env) env
   again (.compLoop (cR elt tg iter tg2 iter2 scope pos) 0 it acc env)):=by rfl
theorem p8 (elt tg iter tg2 iter2:Expr)(scope:Scope)(pos:Pos)(it acc:Value)(env:Env):compTurn (cR elt tg iter tg2 iter2 scope pos) 1 it acc env=(do
  standAt iter2.pos
  match <- pyNext it with
  |none=>pure (.done .next)
  |some v=>do
   letOwnedTupleGo tg2 it v
   assign tg2 env v
   let r <- (do
    let x <- eval elt env
    let _ <- call (.builtin "list.append") [acc,x]
    pure ())
   again (.compLoop (cR elt tg iter tg2 iter2 scope pos) 1 it acc env)):=by rfl
section
variable {prog:Program}{w:World}{A:Around}{R:Result->Shared->Prop}{s:Shared}{elt tg iter tg2 iter2:Expr}{scope:Scope}{pos:Pos}{it acc:Value}{env:Env}
theorem kO {α:Type}{m:Sem α}{Q:α->Shared->Prop}{E:Value->Shared->Prop}{s:Shared}(h:wpAny (model prog w) A m Q (fun _ _=>False) s):wpAny (model prog w) A m Q E s:=wpAny_mono h (fun _ _ q=>q) fun _ _ z=>z.elim
theorem yf (I:Nat->Shared->Prop)
  (turn:∀n s,I n s->wpAny (model prog w) A (pyNext it) (fun r s₁=>match r with
   |none=>R (.ok .next) s₁
   | some v=>wpAny (model prog w) A (letOwnedTupleGo tg2 it v) (fun _ s₂=>wpAny (model prog w) A (assign tg2 env v) (fun _ s₃ =>
     wpAny (model prog w) A (eval elt env) (fun x s₅=>wpAny (model prog w) A (call (.builtin "list.append") [acc,x]) (fun _ s₆=>∃m,m<n/\I m s₆) (fun _ _=>False) s₅) (fun _ _=>False) s₃) (fun _ _=>False) s₂) (fun _ _=>False) s₁) (fun _ _=>False) s)
  (n:Nat) (h:I n s):codeAny (model prog w) A (.compLoop (cR elt tg iter tg2 iter2 scope pos) 1 it acc env) R s:=by
 refine codeAny_loop rfl I (fun n s hI=>?_) n h
 refine (wpAny_noted ?_:wpAny _ A ((compTurn (cR elt tg iter tg2 iter2 scope pos) 1 it acc env).onRaise (fun x=>do noteFrame x env;theTreesLotGoes x)) _ _ s)
 rw [p8]
 refine wpAny_bind (wpAny_standAt (wpAny_bind (wpAny_mono (kO (turn n s hI)) (fun r s₁ h₁=>?_) fun _ _ z=>z)))
 cases r with
 |none=>exact wpAny_pure h₁
 |some v =>
  refine wpAny_bind (bM (kO h₁) fun _ s₂ h₂=>wpAny_bind (bM (kO h₂) fun _ s₃ h₃=>?_))
  exact wpAny_bind (wpAny_bind (bM (kO h₃) fun x s₅ h₅=>wpAny_bind (bM (kO h₅) fun _ s₆ h₆=>wpAny_pure (wpAny_pure ⟨rfl,h₆⟩))))
theorem rD (h:codeAny (model prog w) A (.compLoop (cR elt tg iter tg2 iter2 scope pos) 1 it acc env) R s)
  (h2:wpAny (model prog w) A (pyIter it) (fun it' s'=>codeAny (model prog w) A (.compLoop (cR elt tg iter tg2 iter2 scope pos) 1 it' acc env) R s') (fun _ _=>False) s):
  codeAny (model prog w) A (.compStart (cR elt tg iter tg2 iter2 scope pos) 1 it acc env) R s:=by
 refine codeAny_loop' rfl (fun _ s'=>s'=s) (fun n s' hI=>?_) 0 rfl
 subst hI
 refine (wpAny_onRaise (kO ?_):wpAny _ A ((compStart (cR elt tg iter tg2 iter2 scope pos) 1 it acc env).onRaise (fun x=>do noteFrame x env;standAt theWindowsPlace)) _ _ _)
 unfold compStart
 rw [if_neg (by simp [clausesOf])]
 refine wpAny_bind (wpAny_askSetting ?_)
 split
 ·exact wpAny_pure (.inr ⟨rfl,h⟩)
 ·refine wpAny_bind (wpAny_rule ?_)
  exact wpAny_bind (wpAny_standAt (wpAny_bind (bM (kO h2) fun it' s2 h3=>wpAny_pure (.inr ⟨rfl,h3⟩))))
theorem vM (hs:∀x,foldedSetIterable iter2 env x=pure x)(I:Nat->Shared->Prop)
  (turn:∀n s,I n s->wpAny (model prog w) A (pyNext it) (fun r s₁=>match r with
   |none=>R (.ok .next) s₁
   | some v=>wpAny (model prog w) A (letOwnedTupleGo tg it v) (fun _ s₂=>wpAny (model prog w) A (assign tg env v) (fun _ s₃ =>
     wpAny (model prog w) A (eval iter2 env) (fun x s₅=>wpAny (model prog w) A (pyIter x) (fun i s₆=>codeAny (model prog w) A (.compStart (cR elt tg iter tg2 iter2 scope pos) 1 i acc env) (fun r s₇=>r=.ok .next/\∃m,m<n/\I m s₇) s₆) (fun _ _=>False) s₅) (fun _ _=>False) s₃) (fun _ _=>False) s₂) (fun _ _=>False) s₁) (fun _ _=>False) s)
  (n:Nat) (h:I n s):codeAny (model prog w) A (.compLoop (cR elt tg iter tg2 iter2 scope pos) 0 it acc env) R s:=by
 refine codeAny_loop rfl I (fun n s hI=>?_) n h
 refine (wpAny_noted ?_:wpAny _ A ((compTurn (cR elt tg iter tg2 iter2 scope pos) 0 it acc env).onRaise (fun x=>do noteFrame x env;theTreesLotGoes x)) _ _ s)
 rw [oj]
 refine wpAny_bind (wpAny_standAt (wpAny_bind (wpAny_mono (kO (turn n s hI)) (fun r s₁ h₁=>?_) fun _ _ z=>z)))
 cases r with
 |none=>exact wpAny_pure h₁
 |some v =>
  refine wpAny_bind (bM (kO h₁) fun _ s₂ h₂=>wpAny_bind (bM (kO h₂) fun _ s₃ h₃=>wpAny_bind (bM (kO h₃) fun x s₅ h₅=>wpAny_bind (wpAny_standAt ?_))))
  rw [hs,pure_bind]
  refine wpAny_bind (wpAny_holding (bM (kO h₅) fun i s₆ h₆=>wpAny_bind (wpAny_runOwn (codeAny_mono h₆ fun r s₇ h₇=>?_))))
  obtain⟨rfl,h₇⟩:=h₇
  exact wpAny_pure ⟨rfl,h₇⟩
end
def tw (fg:FG)(fe:FE):List T->aw->List T->Option (List T×aw)
 |[],τ,acc=>some (acc,τ)
 |t::ts,τ,acc=>(fg t τ).bind fun τ1=>(fe τ1).bind fun q=>if bt q.2=true/\acc.length<sizeLine then tw fg fe ts q.2 (acc++[q.1]) else none
def tu (fg:FG)(fi2:FA)(fg2:FG)(fe:FE):List T->aw->List T->Option (List T)
 |[],_,acc=>some acc
 |t::ts,τ,acc=>(fg t τ).bind fun τ1=>if bt τ1=true then (fi2 τ1).bind fun p=>if bt p.2=true then (tw fg2 fe p.1 p.2 acc).bind fun q=>tu fg fi2 fg2 fe ts q.2 q.1 else none else none
structure AccAt (X:Cx)(K:PySem.W.Frag)(D:Addr)(F₂ H₁:Hp)(pins:List (Addr×Obj))(σ:L2.St)(H F:Hp)(τ:aw)(us:List T)(s:Shared):Prop where
 inv:Inv X pins σ H s
 env:au K F H F H σ τ
 all:bt τ=true
 fD:F D=none
 hD:∃vs,H D=some (.lst vs)/\aP K F us vs
 sF:aD F₂ F
 sH:aD H₁ H
 nw:∀a o,F a=some o->F₂ a=some o\/H₁ a=none
section
variable {X:Cx}{K:PySem.W.Frag}{D:Addr}{F₂ H₁:Hp}{pins:List (Addr×Obj)}{σ:L2.St}{H F:Hp}{τ:aw}{us:List T}{s:Shared}
theorem AccAt.go {pl:List (Addr×Obj)}{σ':L2.St}{H' F':Hp}{τ':aw}{s':Shared}(Z:AccAt X K D F₂ H₁ pins σ H F τ us s)(I:Inv X pl σ' H' s')(E:au K F H F' H' σ' τ')(ha:bt τ'=true):AccAt X K D F₂ H₁ pl σ' H' F' τ' us s':=by
 obtain⟨vs,h1,h2⟩:=Z.hD
 refine⟨I,E.rebase ha E.g.fh,ha,?_,⟨vs,E.g.sH _ _ h1,aP.mono E.g.sF h2⟩,Z.sF.trans E.g.sF,Z.sH.trans E.g.sH,fun a o e=>?_⟩
 ·cases eF:F' D with
  |none=>rfl
  |some o =>
   rcases E.g.nw _ o eF with z | z
   ·rw [Z.fD] at z;cases z
   ·rw [h1] at z;cases z
 ·rcases E.g.nw a o e with z | z
  ·exact Z.nw a o z
  ·exact .inr (Z.sH.free z)
end
section
variable {X':Cx}{tg iter tg2 iter2 elt:Expr}{scope:Scope}{pos:Pos}{fg2:FG}{fi2:FA}{fe:FE}{D:Addr}{F₂ H₁:Hp}
theorem uH (hx:X'.xe=fun _ _=>False)(hc:X'.calm=true)(hi:SI X' tg2 iter2 fi2)(hg:SG X' tg2 fg2)(he:SE X' elt fe)(hD1:H₁ D=none)
  {pins:List (Addr×Obj)} {σ:L2.St} {H F:Hp} {τ τ1 τ':aw} {us us' ts:List T} {s:Shared} (Z:AccAt X' X'.K D F₂ H₁ pins σ H F τ us s) (e1:fi2 τ=some (ts,τ1)) (ha:bt τ1=true) (e2:tw fg2 fe ts τ1 us=some (us',τ')):
  wpAny (model X'.prog X'.w) X'.A (eval iter2 X'.env) (fun x s₁=>wpAny (model X'.prog X'.w) X'.A (pyIter x) (fun it s₂ =>
   codeAny (model X'.prog X'.w) X'.A (.compStart (cR elt tg iter tg2 iter2 scope pos) 1 it (.ref D) X'.env) (fun r s'=>r=.ok .next/\∃σ' H' F',AccAt X' X'.K D F₂ H₁ pins σ' H' F' τ' us' s') s₂) (fun _ _=>False) s₁) (fun _ _=>False) s:=by
 have a0:=hi F H pins s σ H (fun J H1=>∃F1,au X'.K F H F1 H1 σ τ1/\aD F F1/\Walks X'.K F1 ts J) Z.inv ⟨F,τ,ts,τ1,Z.env,e1,fun F1 H1 J E1 s1 W=>⟨F1,E1,s1,W⟩⟩
 rw [hx] at a0
 refine bM a0 fun v s1 h1=>bM h1 fun itv s2 h2=>?_
 obtain⟨it,fp,tn,J,H1,rfl,I2,Tn,st2,f2,F1,E1,sF1,W⟩:=h2
 have stat:∀{H':Hp},(∀b∈fp,H' b=none)->∀b∈fp,mP X' pins H' b:=fun hn b hb=>⟨hn b hb,(f2 b hb).2⟩
 have loop:codeAny (model X'.prog X'.w) X'.A (.compLoop (cR elt tg iter tg2 iter2 scope pos) 1 (.ref it) (.ref D) X'.env) (fun r s'=>r=.ok .next/\∃σ' H' F',AccAt X' X'.K D F₂ H₁ pins σ' H' F' τ' us' s') s2:=by
  refine yf (fun n s3=>∃i σ3 H3 F3 τ3 vs,AccAt X' X'.K D F₂ H₁ pins σ3 H3 F3 τ3 vs s3/\tn i s3.heap/\(∀b∈fp,H3 b=none)/\aD F1 F3/\i≤ts.length/\n=ts.length-i/\tw fg2 fe (ts.drop i) τ3 vs=some (us',τ')) ?_ ts.length ⟨0,σ,H1,F1,τ1,us,Z.go I2 E1 ha,st2,fun b hb=>(f2 b hb).1,aD.refl _,Nat.zero_le _,rfl,e2⟩
  rintro n s3 ⟨i,σ3,H3,F3,τ3,vs,Z3,st3,fr3,sF,hi',rfl,ec⟩
  by_cases hlt:i<ts.length
  ·have hgi:ts[i]? = some ts[i]:=List.getElem?_eq_getElem hlt
   rw [List.drop_eq_getElem_cons hlt] at ec
   obtain⟨τ4,e4,ec⟩:=bind_some ec
   obtain⟨⟨y0,τ5⟩,e5,ec⟩:=bind_some ec
   refine bM (Tn.item X' rfl rfl rfl hc i pins s3 σ3 H3 (fun _ _=>False) Z3.inv (stat fr3) st3 (W.go i _ F3 H3 hgi sF Z3.env.g.fh)) fun r s4 ⟨u,hr,h4⟩=>?_
   subst hr
   refine bM h4 fun _ s5 ⟨x,H5,I5,r5,y5,st5,fr5⟩=>?_
   have I5':=I5.pinned (stat fr5) (Tn.obj _ _ st5)
   obtain⟨F5,gr,rx⟩:=W.yld i _ F3 H3 x H5 hgi sF Z3.env.g.fh y5
   have a1:=hg F3 H3 _ s5 σ3 H5 x u (fun σ6 H6=>∃F6,au X'.K F3 H3 F6 H6 σ6 τ4/\aD F5 F6) I5' r5 ⟨F5,τ3,ts[i],τ4,Z3.env.grow gr,rx,e4,fun F6 H6 σ6 E6 s6=>⟨F6,E6,s6⟩⟩
   rw [hx] at a1
   refine bM a1 fun _ s6 ⟨σ6,H6,I6,F6,E6,sF6⟩=>?_
   dsimp only at ec
   split at ec
   ·next hal =>
    have a3:=he F3 H3 _ s6 σ6 H6 (fun y H8=>∃F8,au X'.K F3 H3 F8 H8 σ6 τ5/\Rep X'.K F8 y0 y) I6 ⟨F6,τ4,y0,τ5,E6,e5,fun F8 H8 y E8 s8 r8=>⟨F8,E8,r8⟩⟩
    rw [hx] at a3
    refine bM a3 fun yv s8 ⟨y,H8,I8,ry,F8,E8,rp⟩=>?_
    have Z8:=Z3.go I8 E8 hal.1
    obtain⟨ws,dD,rv⟩:=Z8.hD
    have a4:=jX (X:=X') _ s8 σ6 H8 (.ref D) [y] (.ref D) [yv] (fun _ H9=>H9=upd H8 D (.lst (ws++[y]))) I8 rfl (.cons ry .nil) ⟨D,ws,y,rfl,rfl,dD,by rw [rv.length];exact hal.2,rfl⟩
    rw [hx] at a4
    refine bM a4 fun _ s9 ⟨_,H9,I9,_,e9⟩=>?_
    subst e9
    have sm:aD F8 (upd H8 D (.lst (ws++[y]))):=fun c o z=>by rw [aB (fun w=>by subst w;rw [Z8.fD] at z;cases z)];exact Z8.env.g.fh _ _ z
    have sm1:aD H₁ (upd H8 D (.lst (ws++[y]))):=fun c o z=>by rw [aB (fun w=>by subst w;rw [hD1] at z;cases z)];exact Z8.sH _ _ z
    refine⟨ts.length-(i+1),by omega,i+1,σ6,_,F8,τ5,vs++[y0],⟨I9.unpinned,Z8.env.rebase hal.1 sm,hal.1,Z8.fD,⟨ws++[y],aM,rv.append (.one rp)⟩,Z8.sF,sm1,Z8.nw⟩,Tn.keep _ _ _ st5 fun b hb o e=>(I9.pin (b,o) (List.mem_append_right _ (List.mem_append_right _ (cI hb e)))).1,fun b hb=>?_,sF.trans E8.g.sF,hlt,rfl,ec⟩
    obtain⟨o,e,d⟩:=Tn.obj _ _ st5 b hb
    exact (I9.pin (b,o) (List.mem_append_right _ (List.mem_append_right _ (cI hb e)))).2.1
   ·cases ec
  ·have hie:i=ts.length:=by omega
   subst hie
   rw [List.drop_length] at ec
   cases ec
   refine bM (Tn.done X' rfl rfl rfl hc ts.length pins s3 σ3 H3 (fun _ _=>False) Z3.inv (stat fr3) st3 (W.stop F3 H3 sF Z3.env.g.fh)) fun r s4 ⟨hr,I4⟩=>?_
   subst hr
   exact⟨rfl,σ3,H3,F3,{ Z3 with inv:=I4 }⟩
 exact rD loop (Tn.self _ 0 _ _ _ st2 loop)
end
section
variable {X:Cx}
theorem rB {elt tg iter tg2 iter2:Expr}{scope:Scope}{pos:Pos}{N':List Str}{no:Nat}{cap:List Nat}{fi:FA}{fg:FG}{fi2:FA}{fg2:FG}{fe:FE}(hc:X.calm=true)(B:eZ X scope)(hN:N'.length=no+cap.length)
  (hcap:∀(k j:Nat),cap[k]? = some j->∃x,N'[no+k]? = some x/\X.N[j]? = some x/\(x,NameKind.free)∈scope.names) (hi:SI X tg iter fi)
  (hg:∀C cs Y8 Y9 fp pins,SG (mR X scope N' C cs Y8 Y9 fp pins) tg fg) (hi2:∀C cs Y8 Y9 fp pins,SI (mR X scope N' C cs Y8 Y9 fp pins) tg2 iter2 fi2) (Cy:∀C cs Y8 Y9 fp pins,SG (mR X scope N' C cs Y8 Y9 fp pins) tg2 fg2) (he:∀C cs Y8 Y9 fp pins,SE (mR X scope N' C cs Y8 Y9 fp pins) elt fe)
  (hs2:∀C cs x,foldedSetIterable iter2 (eC X scope C cs) x=pure x)
  {Y0 Y9 F H:Hp} {pins:List (Addr×Obj)} {s:Shared} {σ:L2.St} {τ τ1:aw} {ts:List T} {rs:List T} (I:Inv X pins σ H s) (E:au X.K Y0 Y9 F H σ τ) (e2:fi τ=some (ts,τ1)) (ha:bt (bP no cap (frzAll cap τ1))=true) (e3:tu fg fi2 fg2 fe ts (bP no cap (frzAll cap τ1)) []=some rs)
  {post:Value->Addr->Result->Shared->Prop} (hpost:∀D C s',ji X pins σ Y0 Y9 F (frzAll cap τ1) (rs.map O.val) D C s'->post (.ref D) C (.ok .next) s'):
  wpAny (model X.prog X.w) X.A (eval iter X.env) (fun x s₁=>wpAny (model X.prog X.w) X.A (pyIter x) (fun it s₂=>wpAny (model X.prog X.w) X.A (newList []) (fun acc s₃ =>
   wpAny (model X.prog X.w) X.A (newFunctionEnv scope X.env.globals (jP X.env scope.names []) [] X.env.qual none .none (some X.env)) (fun cenv s₄ =>
    codeAny (model X.prog X.w) X.A (.compStart (cR elt tg iter tg2 iter2 scope pos) 0 it acc { cenv with scope:=relabel scope X.env }) (post acc cenv.locals) s₄) X.xe s₃) X.xe s₂) X.xe s₁) X.xe s:=by
 refine bM (hi Y0 Y9 pins s σ H (fun J H1=>∃F1,au X.K Y0 Y9 F1 H1 σ τ1/\aD F F1/\Walks X.K F1 ts J) I ⟨F,τ,ts,τ1,E,e2,fun F1 H1 J E1 s1 W=>⟨F1,E1,s1,W⟩⟩) fun v s1 h1=>bM h1 fun itv s2 h2=>?_
 obtain⟨it,fp,tn,J,H1,rfl,I2,Tn,st2,f2,F1,E1,sF1,W⟩:=h2
 obtain⟨F2,E2,sF2⟩:=E1.frzAll cap
 have W2:Walks X.K F2 ts J:=⟨fun i t F3 H3 e a b=>W.go i t F3 H3 e (sF2.trans a) b,fun i t F3 H3 x H4 e a b y=>W.yld i t F3 H3 x H4 e (sF2.trans a) b y,fun F3 H3 a b=>W.stop F3 H3 (sF2.trans a) b⟩
 refine wpAny_newObj_type ?_
 have hz:(s2.heap.push iL).objs.size=s2.heap.objs.size+1:=Heap.size_push ..
 have hz2:((s2.heap.push iL).push qa).objs.size=s2.heap.objs.size+2:=by rw [Heap.size_push,hz]
 simp only [newFunctionEnv,Option.isSome_some,if_true]
 refine wpAny_bind (wpAny_alloc ?_)
 refine wpAny_bind (wpAny_layCells _ (fun name kind cells=>by cases hkc:kind == NameKind.cell<;>simp [hkc]) _ _ _ _ ?_)
 simp only [List.forIn_nil]
 refine wpAny_bind (wpAny_pure (wpAny_pure ?_))
 have loop:codeAny (model X.prog X.w) X.A (.compLoop (cR elt tg iter tg2 iter2 scope pos) 0 (.ref it) (.ref s2.heap.objs.size) (eC X scope (s2.heap.objs.size+1) (cellsFrom (s2.heap.objs.size+2) scope.names (jP X.env scope.names []))))
   (post (.ref s2.heap.objs.size) (s2.heap.objs.size+1)) { s2 with heap:=h0 s2.heap scope }:=by
  have Ib:=nz (N':=N') (σ':=bP no cap σ) (tk:=s2.toks) I2 B f2 (fun b hb=>by obtain⟨o,e,_⟩:=Tn.obj 0 _ st2 b hb;exact⟨o,e⟩) (by simp [bP,hN]) (fun i x v a1 a2=>by
   obtain⟨k,j,rfl,hk,hj⟩:=jO a2
   obtain⟨x',b1,b2,b3⟩:=hcap k j hk
   rw [a1] at b1;cases b1
   exact .inl ⟨b3,j,b2,hj⟩)
  generalize hX':mR X scope N' (s2.heap.objs.size+1) (cellsFrom (s2.heap.objs.size+2) scope.names (jP X.env scope.names [])) s2 H1 fp pins=X' at Ib
  have hg':SG X' tg fg:=by rw [<- hX'];exact hg _ _ _ _ _ _
  have hi':SI X' tg2 iter2 fi2:=by rw [<- hX'];exact hi2 _ _ _ _ _ _
  have hg2':SG X' tg2 fg2:=by rw [<- hX'];exact Cy _ _ _ _ _ _
  have he':SE X' elt fe:=by rw [<- hX'];exact he _ _ _ _ _ _
  have hs2':∀x,foldedSetIterable iter2 X'.env x=pure x:=by rw [<- hX'];exact hs2 _ _
  have xP:X'.prog=X.prog:=by rw [<- hX'];rfl
  have xw:X'.w=X.w:=by rw [<- hX'];rfl
  have xK:X'.K=X.K:=by rw [<- hX'];rfl
  have xA:X'.A=X.A:=by rw [<- hX'];rfl
  have xc:X'.calm=true:=by rw [<- hX'];exact hc
  have xx:X'.xe=fun _ _=>False:=by rw [<- hX'];rfl
  have xe':X'.env=eC X scope (s2.heap.objs.size+1) (cellsFrom (s2.heap.objs.size+2) scope.names (jP X.env scope.names [])):=by rw [<- hX'];rfl
  have xex:X'.ex=fp:=by rw [<- hX'];rfl
  have xfs:X'.fs=jL X.stack:=by rw [<- hX'];rfl
  have xpn:X'.pn=X.pn++pins:=by rw [<- hX'];rfl
  have xs0:X'.Y8=s2:=by rw [<- hX'];rfl
  have xH0:X'.Y9=H1:=by rw [<- hX'];rfl
  have xl:X'.env.locals=s2.heap.objs.size+1:=by rw [<- hX'];rfl
  rw [<- xe',<- xP,<- xw,<- xA]
  have hD1:H1 s2.heap.objs.size=none:=I2.fresh
  have fpk:∀{Hc:Hp} {σc:L2.St} {pc:List (Addr×Obj)} {sc:Shared},Inv X' pc σc Hc sc->(∀b∈fp,Hc b=none)->∀b∈fp,mP X' [] Hc b:=fun {Hc σc pc sc} Ic hn b hb=>by
   have q1:=Ic.ok.exf b (by rw [xex];exact hb)
   have q2:=Ic.ok.exfs b (by rw [xex];exact hb)
   refine⟨hn b hb,q1.1,q2,.inl (by rw [xex];exact hb),q1.2,fun p hp=>?_⟩
   rw [xpn,List.append_nil] at hp
   exact (f2 b hb).2.2.2.2.2 p hp
  refine vM hs2' (fun n s3=>∃i σ3 H3 F3 τ3 us,AccAt X' X'.K s2.heap.objs.size F2 H1 [] σ3 H3 F3 τ3 us s3/\tn i s3.heap/\(∀b∈fp,H3 b=none)/\i≤ts.length/\n=ts.length-i/\tu fg fi2 fg2 fe (ts.drop i) τ3 us=some rs) ?_ ts.length ?_
  ·rintro n s3 ⟨i,σ3,H3,F3,τ3,us,Z,st3,fr3,hil,rfl,ec⟩
   by_cases hlt:i<ts.length
   ·have hgi:ts[i]? = some ts[i]:=List.getElem?_eq_getElem hlt
    rw [List.drop_eq_getElem_cons hlt] at ec
    obtain⟨τ4,e4,ec⟩:=bind_some ec
    split at ec
    ·next ha4 =>
     obtain⟨⟨ys,τ5⟩,e5,ec⟩:=bind_some ec
     dsimp only at ec
     split at ec
     ·next ha5 =>
      obtain⟨⟨us',τ6⟩,e6,ec⟩:=bind_some ec
      refine bM ((xP ▸ xw ▸ xK ▸ Tn:Turn X'.prog X'.w X'.K tg J fp it tn).item X' rfl rfl rfl xc i [] s3 σ3 H3 (fun _ _=>False) Z.inv (fpk Z.inv fr3) st3 (W2.go i _ F3 H3 hgi Z.sF Z.env.g.fh)) fun r s4 ⟨u,hr,h4⟩=>?_
      subst hr
      refine bM h4 fun _ s5 ⟨x,H5,I5,r5,y5,st5,fr5⟩=>?_
      have I5':=I5.pinned (fpk I5 fr5) (Tn.obj _ _ st5)
      obtain⟨F5,gr,rx⟩:=W2.yld i _ F3 H3 x H5 hgi Z.sF Z.env.g.fh y5
      have a1:=hg' F3 H3 _ s5 σ3 H5 x u (fun σ6 H6=>∃F6,au X'.K F3 H3 F6 H6 σ6 τ4) I5' r5 ⟨F5,τ3,ts[i],τ4,Z.env.grow gr,by rw [xK];exact rx,e4,fun F6 H6 σ6 E6 s6=>⟨F6,E6⟩⟩
      rw [xx] at a1
      refine bM a1 fun _ s6 ⟨σ6,H6,I6,F6,E6⟩=>?_
      refine bM (uH xx xc hi' hg2' he' hD1 (Z.go I6 E6 ha4) e5 ha5 e6) fun v7 s7 h7=>bM h7 fun it7 s8 h8=>codeAny_mono h8 fun r s9 ⟨hr,σ9,H9,F9,Z9⟩=>⟨hr,ts.length-(i+1),by omega,i+1,σ9,H9,F9,τ6,us',{ Z9 with inv:=Z9.inv.unpinned },?_,fun b hb=>?_,hlt,rfl,ec⟩
      ·exact Tn.keep _ _ _ st5 fun b hb o e=>(Z9.inv.pin (b,o) (List.mem_append_right _ (List.mem_append_right _ (cI hb e)))).1
      ·obtain⟨o,e,d⟩:=Tn.obj _ _ st5 b hb
       exact (Z9.inv.pin (b,o) (List.mem_append_right _ (List.mem_append_right _ (cI hb e)))).2.1
     ·cases ec
    ·cases ec
   ·have hie:i=ts.length:=by omega
    subst hie
    rw [List.drop_length] at ec
    cases ec
    refine bM ((xP ▸ xw ▸ xK ▸ Tn:Turn X'.prog X'.w X'.K tg J fp it tn).done X' rfl rfl rfl xc ts.length [] s3 σ3 H3 (fun _ _=>False) Z.inv (fpk Z.inv fr3) st3 (W2.stop F3 H3 Z.sF Z.env.g.fh)) fun r s4 ⟨hr,I4⟩=>?_
    subst hr
    obtain⟨m4,hm4,_⟩:=I4.loc
    rw [xl] at hm4
    have un:=I4.base
    rw [xfs,xex,xH0,xs0] at un
    have ox:=I4.os
    rw [xs0] at ox
    have hok4:=I4.hok
    rw [xP,xw] at hok4
    have IX:Inv X pins σ H3 s4:=I2.call' ox un hok4 I4.bare fun b hb=>⟨(f2 b hb).2.2.2.1,(f2 b hb).2.1,(f2 b hb).2.2.2.2.1,(f2 b hb).2.2.2.2.2⟩
    have hC:H3 (s2.heap.objs.size+1)=none:=by have:=I4.free;rw [xl] at this;exact this
    have lC:@LT.lt Nat _ X.env.locals s2.heap.objs.size:=I2.lt
    have gr:aS F2 H1 F3 H3:=⟨Z.sF,Z.sH,Z.env.g.fh,Z.nw⟩
    obtain⟨vs,hD,rv⟩:=Z.hD
    rw [xK] at rv
    refine hpost _ _ _ ⟨⟨H3,F3,vs,[],IX,E2.grow gr,(sF1.trans sF2).trans Z.sF,Z.fD,hD,E2.g.sH.free hD1,.vals rv,List.nodup_nil,fun a ha=>(by cases ha),fun j us p j1 j2 m=>(by cases m),hC⟩,⟨m4,hm4⟩,Nat.ne_of_gt (Nat.lt_succ_of_lt lC),Nat.le_trans I2.sz (Nat.le_succ _),
     fun x c hxc=>by obtain⟨v,z⟩:=I2.cell x c hxc;exact Nat.ne_of_lt (Nat.lt_succ_of_lt z.lt),fun p hp=>Nat.ne_of_lt (Nat.lt_succ_of_lt (Heap.lt_size (I2.pin p hp).1)),fun j us p j1 j2=>?_⟩
    obtain⟨v,k1,p',vs',rfl,k2,_⟩:=E2.sl j _ j1
    rw [j2] at k1;cases k1
    exact aO k2 hD1
  ·refine⟨0,bP no cap σ,upd H1 s2.heap.objs.size (.lst []),F2,bP no cap (frzAll cap τ1),[],⟨Ib,by rw [xK];exact E2.block ha (E2.g.fh.trans (cy hD1)),ha,E2.g.fh.free hD1,⟨[],aM,rfl⟩,aD.refl _,cy hD1,fun a o z=>.inl z⟩,Tn.keep _ _ _ st2 fun b hb o e=>eS e,fun b hb=>?_,Nat.zero_le _,rfl,e3⟩
   obtain⟨o,e,_⟩:=Tn.obj 0 _ st2 b hb
   rw [aB (Nat.ne_of_lt (Heap.lt_size e))]
   exact (f2 b hb).1
 have fin:∀{C:Addr} {cs:List (Str×Addr)},C=s2.heap.objs.size+1->cs=cellsFrom (s2.heap.objs.size+2) scope.names (jP X.env scope.names []) ->
   codeAny (model X.prog X.w) X.A (.compStart (cR elt tg iter tg2 iter2 scope pos) 0 (.ref it) (.ref s2.heap.objs.size) (eC X scope C cs)) (post (.ref s2.heap.objs.size) C) { s2 with heap:=h0 s2.heap scope }:=fun {C cs} h1 h2=>by
  subst h1 h2
  exact codeAny_compStart_list loop (Tn.self _ 0 _ _ _ (Tn.keep _ _ _ st2 fun b hb o e=>eS e) loop)
 exact fin hz (by rw [<- hz2])
def nE (i no:Nat)(cap:List Nat)(fi:FA)(fg:FG)(fi2:FA)(fg2:FG)(fe:FE):FS:=fun τ=>(fi τ).bind fun p =>
 if bt (bP no cap (frzAll cap p.2))=true then (tu fg fi2 fg2 fe p.1 (bP no cap (frzAll cap p.2)) []).bind fun us=>some (.nx ((frzAll cap p.2).set i (some (.own us)))) else none
theorem qW (i:Nat){y:Str}{py spos:Pos}{elt tg iter tg2 iter2:Expr}{scope:Scope}{pos:Pos}{N':List Str}{no:Nat}{cap:List Nat}{fi:FA}{fg:FG}{fi2:FA}{fg2:FG}{fe:FE}(hNd:X.N.Nodup)(hiy:X.N[i]? = some y)(hy:X.env.scope.names.lookup y=some .local)
  (hc:X.calm=true) (B:eZ X scope) (hN:N'.length=no+cap.length)
  (hcap:∀(k j:Nat),cap[k]? = some j->∃x,N'[no+k]? = some x/\X.N[j]? = some x/\(x,NameKind.free)∈scope.names) (hi:SI X tg iter fi)
  (hg:∀C cs Y8 Y9 fp pins,SG (mR X scope N' C cs Y8 Y9 fp pins) tg fg) (hi2:∀C cs Y8 Y9 fp pins,SI (mR X scope N' C cs Y8 Y9 fp pins) tg2 iter2 fi2) (Cy:∀C cs Y8 Y9 fp pins,SG (mR X scope N' C cs Y8 Y9 fp pins) tg2 fg2) (he:∀C cs Y8 Y9 fp pins,SE (mR X scope N' C cs Y8 Y9 fp pins) elt fe)
  (hsw:swapsWith (cR elt tg iter tg2 iter2 scope pos) (some (.Name y py)) spos.line X.env=pure true:=by rfl) (hs:∀x,foldedSetIterable iter X.env x=pure x:=by intro _;rfl) (hs2:∀C cs x,foldedSetIterable iter2 (eC X scope C cs) x=pure x:=by intro _ _ _;rfl):
  SS X (.Assign [.Name y py] (cR elt tg iter tg2 iter2 scope pos) spos) (nE i no cap fi fg fi2 fg2 fe):=by
 intro Y0 Y9 pins s σ H Dn I ⟨F,τ,r,E,e1,q⟩
 obtain⟨⟨ts,τ1⟩,e2,e1⟩:=bind_some e1
 dsimp only at e1
 split at e1
 ·next ha =>
  obtain⟨rs,e3,e1⟩:=bind_some e1
  cases e1
  have hfree:∀y∈scope.names,y.2=.free->∃c,X.env.cells.lookup y.1=some c:=fun y hy hk=>I.ok.has y.1 (B.free y hy hk).1
  rw [exec_Assign_Name_used _ _ _ _ hsw]
  refine wpAny_bind (wpAny_standAt (wpAny_bind (?_:wpAny _ X.A (do let _ <- comprehension (cR elt tg iter tg2 iter2 scope pos) scope X.env _ (newList []) false (eval iter X.env) (some (assign (.Name y py) X.env))) _ _ s)))
  refine wpAny_bind (bM (wpAny_comprehension_free (use:=some (assign (.Name y py) X.env)) (Q:=fun _ s'=>SP X pins Dn .next s') rfl hs (lN hfree) B.kind B.names (rB hc B hN hcap hi hg hi2 Cy he hs2 I E e2 ha e3 fun D C s' Z=>?_)) fun _ s' hq=>wpAny_pure (wpAny_pure hq))
  obtain⟨H3,F3,As,IX,E3,sF,ro,nd,h0,ap,hC⟩:=Z.fin
  obtain⟨m,hm⟩:=Z.ns
  refine (wpAny_assign_Name (kr IX hNd hiy (.inl hy) (v:=.ref D) rfl (fun s'' I'' w=>?_) (.inr hy)):wpAny _ X.A (assign (.Name y py) X.env (.ref D)) _ _ _)
  obtain⟨a,sb,hab⟩:=w
  have aC:C≠a:=fun z=>by
   subst z
   rcases hab with z | z
   ·exact Z.cl z
   ·exact Z.cc _ _ z rfl
  refine⟨m,hm.sameBut sb aC,fun h' sb'=>⟨_,H3,I''.turned (t':=s''.toks) (it:=C) (fun b o hb e=>(sb'.2 b hb).trans e) hC Z.cl (.inr Z.c0) Z.cc Z.cp,?_⟩⟩
  obtain⟨pa,vs,B',e4,rfl,k1,k2,k3⟩:=ro
  obtain⟨rfl,k4⟩:=bj.plain (lF rs) k3
  rw [mJ] at k4
  cases e4
  exact q F3 H3 _ (au.putOwn2 E3 k1 k2 (h0 _ List.mem_cons_self) ap k4) sF
 ·cases e1
end
variable {X:Cx}
variable {X:Cx}{e:Expr}{pos:Pos}
theorem xr {x:Str}{a:Addr}(hg:Gl X x)(hm:X.mg x=some (.ref a))(hd:(x == ("__debug__" : Str))=false:=by decide):SE X (.Name x pos) (fC (.ptr a)):=
 el (jy (v:=.ref a) hg hm rfl hd) fun F=>rfl
section
variable {X:Cx}{pins:List (Addr×Obj)}{σ:L2.St}{H:Hp}{s:Shared}{h':Heap}{a:Addr}{o:HO}
end
section
variable {X:Cx}{e:Expr}{pos:Pos}{g:FA}
end
section
variable {X:Cx}{pins:List (Addr×Obj)}{σ:L2.St}{H:Hp}{s:Shared}{a:Addr}{φ ψ:Heap->Prop}
end
section
variable {X:Cx}{e:Expr}{pos:Pos}{g:FA}
end
section
variable {prog:Program}{w:World}{A:Around}{E:Value->Shared->Prop}{s:Shared}{K:PySem.W.Frag}{x C f:Addr}{ox:Obj}{od:Option Obj}{name:Str}{bm:List Value}
theorem me {pl:Sem Bool}{Q:Value×List Value->Shared->Prop}(k:K.In s.heap)(I:PySem.W.InstAt s.heap x ox C od)(ax:lu K C bm)(hf:PySem.W.findIn K (.ref C) name=some (some (.ref f)))(ht:PySem.W.typeIn K (.ref f)=some (.type "function"))
  (hs:PySem.W.shadowIn od name=some false) (h:Q (.ref f,[.ref x]) s):wpAny (model prog w) A (getMethod (.ref x) name pl) Q E s:=by
 have hcan:Manifest.canonical "BaseException.__getattribute__" = "object.__getattribute__" := by decide +kernel
 unfold getMethod specialOf
 refine wpAny_bind (wpAny_bind (I.type.here ((PySem.W.looks_findIn k ax.fg).here ?_)))
 dsimp only
 rw [hcan,if_neg (by decide)]
 refine wpAny_bind (wpAny_bind (I.type.here ((PySem.W.looks_findIn k ax.fn).here ?_)))
 refine wpAny_bind (wpAny_bind (I.type.here ((PySem.W.looks_findIn k hf).here (wpAny_bind ((PySem.W.looks_typeIn k ht).here ?_)))))
 rw [if_neg (by decide +kernel)]
 refine wpAny_bind (wpAny_loadPart I.at_ ?_)
 have hd:=I.dict
 cases e:ox.dict with
 |none=>exact wpAny_bind (wpAny_rule (wpAny_pure h))
 |some dx =>
  cases od with
  |none=>rw [e] at hd;exact hd.elim
  |some o =>
   rw [e] at hd
   obtain⟨r,a,b⟩:=Option.map_eq_some_iff.mp hs
   refine wpAny_bind (wpAny_bind (wpAny_loadPart hd ?_))
   rw [PySem.W.nsLook_of a]
   refine wpAny_pure ?_
   rw [if_neg (by rw [b];decide)]
   exact wpAny_bind (wpAny_rule (wpAny_pure h))
end
structure ku (P:Program)(w:World)(K:PySem.W.Frag)(mg:Str->Option Value)(base:Heap)(k:Nat)(C:Addr)(m:Str)(d:List T->Option T):Prop where
 ask:∃bm,lu K C bm
 ex:∃f fd ps,dN P w K mg base iv k f fd ps (spT K 1 d)/\Binds K fd ps []/\PySem.W.findIn K (.ref C) m=some (some (.ref f))/\PySem.W.typeIn K (.ref f)=some (.type "function")/\PySem.W.keepIn K (.ref f)=true/\ps.length=1
section
variable {X:Cx}{o:Expr}{m:Str}{pos apos:Pos}{fo:FE}{k:Nat}
def rL (alts:List (Addr×(List T->Option T)))(m:Str)(fo:FE):FE:=fun τ=>(fo τ).bind fun p=>match p.1 with
 | .exc C ns ts=>if m∈ns then none else (ky C alts).bind fun d=>(d [.exc C ns ts]).bind fun t=>some (t,p.2)
 |_=>none
theorem qV {pl:Sem Bool}{alts:List (Addr×(List T->Option T))}(hD:∀a∈alts,ku X.prog X.w X.K X.mg X.base k a.1 m a.2)(hr:br k X.A)(he:SE X o fo)
  (ht:eval (.Call (.Attribute o m apos) [] [] pos) X.env=(do
   let ov <- eval o X.env
   standAt apos.atName
   let (f,first) <- holding [ov] (getMethod ov m pl)
   callWith pos f first (backTo pos (starEach [] X.env)) (backToKw pos (keywordEach [] X.env))):=by rfl):
  SE X (.Call (.Attribute o m apos) [] [] pos) (rL alts m fo):=by
 intro Y0 Y9 pins s σ H Q I h
 obtain⟨F,τ,t,τ',E,e1,q⟩:=h
 obtain⟨⟨y,τ1⟩,e2,e1⟩:=bind_some e1
 dsimp only at e1
 split at e1
 case h_2=>cases e1
 next C ns ts =>
 split at e1
 ·cases e1
 next hm =>
 obtain⟨d,e3,e1⟩:=bind_some e1
 obtain⟨u,e4,e1⟩:=bind_some e1
 cases e1
 have D:=hD _ (jS e3)
 obtain⟨f,fd,ps,Fk,hb,hf,hft,hkp,hn⟩:=D.ex
 obtain⟨bm,ax⟩:=D.ask
 refine PySem.W.methodCall_KW (pl:=pl) (bM (he Y0 Y9 pins s σ H (fun v H1=>∃F1,au X.K Y0 Y9 F1 H1 σ τ'/\aD F F1/\Rep X.K F1 (.exc C ns ts) v) I ⟨F,τ,_,_,E,e2,fun F1 H1 v E1 s1 r1=>⟨F1,E1,s1,r1⟩⟩) fun u' s1 ⟨v,H1,I1,rx,F1,E1,sF,r1⟩=>?_) ht
 obtain⟨a,od,rfl,h1,h2⟩:=id r1
 obtain rfl:u'=Value.ref a:=rx
 obtain⟨⟨oe,vs,g1,g2,g3,g4⟩,_,_⟩:=(show bO X.prog X.w H1 s1.heap a (.ext (eg a C od)) from I1.hok a _ (E1.g.fh _ _ h1))
 have fin:wpAny (model X.prog X.w) X.A (callWith pos (.ref f) [.ref a] (backTo pos (starEach [] X.env)) (backToKw pos (keywordEach [] X.env))) (EP X pins σ Q) X.xe s1:=
  PySem.W.callWith_K0 (first:=[.ref a]) I1.kIn hkp (my (E:=E0) (CX:=iv) (us:=[.ref a]) (vs:=[.ref a]) Fk hr hb .nil nQ I1 (.cons rfl .nil) ⟨rfl,F1,[.exc C ns ts],_,E1.g.fh,⟨_,_,rfl,r1,rfl⟩,e4,fun F2 H2 v2 g r2=>q F2 H2 v2 (E1.grow g) (sF.trans g.sF) r2⟩)
 rcases h2 with ⟨rfl,rfl,rfl⟩ | ⟨dx,us,rfl,h3,h4,h5⟩
 ·exact me (od:=none) I1.kIn ⟨g1,g2,by unfold PySem.W.notCls;rw [g3],by rw [g4];exact True.intro⟩ ax hf hft rfl fin
 ·obtain⟨mp,n1,n2⟩:=(show bO X.prog X.w H1 s1.heap dx (.xd (ns.zip us)) from I1.hok dx _ (E1.g.fh _ _ h3))
  obtain⟨ob,ho,hl⟩:=nM n1
  have n3:=n2 m
  rw [gL hm] at n3
  refine me (od:=some ob) I1.kIn ⟨g1,g2,by unfold PySem.W.notCls;rw [g3],by rw [g4];exact ho⟩ ax hf hft ?_ fin
  show (PySem.W.lookIn m ob).map (·.isSome)=some false
  rw [hl]
  cases hmm:mp m with
  |none=>rfl
  |some z=>rw [hmm] at n3;exact n3.elim
end
structure vA (K:PySem.W.Frag)(c:String)(C:Addr)(b:Bool):Prop where
 ex:∃bm,lu K C bm
 kit:PySem.W.kitOne K (.ref C) (.type c)=some b
section
variable {X:Cx}
theorem uE {c:String}:eM X (.builtin "isinstance") (fun xs H Q=>∃a C od b,xs=[.ref a,.ty c]/\H a=some (.ext (eg a C od))/\vA X.K c C b/\Q (.bl b) H):=by
 intro pins s σ H xs us Q I r h
 obtain⟨a,C,od,b,rfl,ea,ok,q⟩:=h
 obtain⟨u1,u2,rfl,ra,rb⟩:=Vals.two r
 cases (show u2=Value.type c from rb)
 cases (show u1=Value.ref a from ra)
 obtain⟨bm,ax⟩:=ok.ex
 obtain⟨ph,_⟩:=(show bO X.prog X.w H s.heap a (.ext (eg a C od)) from I.hok a _ ea)
 exact PySem.W.kia_one (qA ax) I.kIn ph ok.kit (fun z=>nomatch z) fun tk=>⟨.bl b,H,I.tok tk,rfl,q⟩
def tF (c:String)(tbl:List (Addr×Bool)):List T->Option T
 |[.exc C _ _,.ty c']=>if c'=c then (findB C tbl).bind fun b=>some (.bl b) else none
 |_=>none
theorem tB {c:String}{tbl:List (Addr×Bool)}(ht:∀a∈tbl,vA X.K c a.1 a.2):jh X (.builtin "isinstance") (tF c tbl):=jj (uE (c:=c)) fun vs H Q hq__=>by
 obtain⟨F,ts,t,sm,r,e,q⟩:=hq__
 unfold tF at e
 split at e
 ·next C _ _ c' =>
  split at e
  ·next hc =>
   subst hc
   obtain⟨b,e3,e⟩:=bind_some e
   cases e
   obtain⟨v1,r1,rfl,h1,v2,r2,rfl,h2,h3⟩:=r
   cases h3
   obtain⟨a,od,rfl,k1,_⟩:=h1
   cases (show v2=V.ty c' from h2)
   exact⟨a,C,od,b,rfl,sm _ _ k1,ht _ (gm e3),q F H _ (aS.refl sm) rfl⟩
  ·cases e
 ·cases e
end
theorem ku.mono {P:Program}{w:World}{K:PySem.W.Frag}{mg:Str->Option Value}{base:Heap}{j k:Nat}{C:Addr}{m:Str}{d:List T->Option T}(D:ku P w K mg base j C m d)(h:j≤k):ku P w K mg base k C m d:=by
 obtain⟨f,fd,ps,F,r⟩:=D.ex
 exact⟨D.ask,f,fd,ps,F.mono h,r⟩
section
variable {X:Cx}{e:Expr}{pos:Pos}{f:FE}
end
section
variable {X:Cx}{tg l:Expr}{f:FE}
end
section
variable {X:Cx}{o e:Expr}{fo fe:FE}{name:Str}{id:String}{apos cpos:Pos}{g:T->T->Option T}
end
section
variable {X:Cx}{e:Expr}{pos:Pos}
end
section
variable {env:Env}{es:List Expr}
end
section
variable {X:Cx}{e:Expr}{es:List Expr}{pos:Pos}{x:Nat}{g:FA}
end
section
variable {P:Program}{w:World}{K:PySem.W.Frag}{mg:Str->Option Value}{base:Heap}
end
section
variable {K:PySem.W.Frag}{Y0 Y9 F H F' H':Hp}{σ σ':L2.St}{τ τ':aw}{x t w:Nat}{p q:Addr}{tss:List (List T)}{A:List Addr}
end
section
variable {X:Cx}{e:Expr}{pos:Pos}{x t:Nat}
end
section
variable {prog:Program}{w:World}{A:Around}{E:Value->Shared->Prop}{s:Shared}
variable {z TI TO i1 i2 l2:Addr}{k c:Nat}{u:Str}{t1:Tok}{ys:Array Value}{x y a b:Value}
end
section
variable {prog:Program}{w:World}{A:Around}{E:Value->Shared->Prop}{s:Shared}
end
section
variable {X:Cx}{e:Expr}{pos:Pos}{x:Nat}
end
section
variable {X:Cx}{e:Expr}{pos:Pos}
end
section
variable {K:PySem.W.Frag}{Y0 Y9 F H F' H':Hp}{σ:L2.St}{τ τ':aw}{A:List Addr}
end
section
variable {X:Cx}{e:Expr}{es:List Expr}{pos:Pos}{g:FA}
end
section
variable {X:Cx}{e:Expr}{pos:Pos}
end
section
variable {X:Cx}{e:Expr}{pos:Pos}
variable {k n i:Nat}{x:Str}{p:Pos}{es:List Expr}{g:FA}{tbl:List (Addr×(List T->Option T))}
end
section
variable {K:PySem.W.Frag}{Y0 Y9 F H:Hp}{σ:L2.St}{τ:aw}{A:List Addr}{x:Nat}{t:T}{v:V}
end
section
variable {X:Cx}{e:Expr}{pos:Pos}
end
section
variable {X:Cx}{e:Expr}{pos:Pos}
end
structure gQ (P:Program)(w:World)(K:PySem.W.Frag)(mg:Str->Option Value)(base:Heap)(k:Nat)(C:Addr)(m:Str)(n:Nat)(dx:List T->Option XI):Prop where
 cl:dA K C
 ex:∃f fd ps,dN P w K mg base (zP P w) k f fd ps (EF K n dx)/\Binds K fd ps []/\Meth K C m f/\ps.length=n
theorem gQ.mono {P:Program}{w:World}{K:PySem.W.Frag}{mg:Str->Option Value}{base:Heap}{j k:Nat}{C:Addr}{m:Str}{n:Nat}{dx:List T->Option XI}(D:gQ P w K mg base j C m n dx)(h:j≤k):gQ P w K mg base k C m n dx:=by
 obtain⟨f,fd,ps,F,r⟩:=D.ex
 exact⟨D.cl,f,fd,ps,F.mono h,r⟩
theorem wV {P:Program}{w:World}{K:PySem.W.Frag}{mg:Str->Option Value}{base:Heap}{C:Addr}{m x qual:Str}{st:Stmt}{f:Addr}{fd:FuncData}{N ps:List Str}{k:Nat}{fx:FX}(F:dM K x qual st f fd)(S:aA N ps (aj st))(hb:Binds K fd ps [])(cl:dA K C)(hm:Meth K C m f)
  (h:∀(cdv:Value) (A:Around) (outer:List Env) (s:Shared) (H:Hp) (E:XK),br k (A.deeper (envOfC qual (aj st) s.heap.objs.size f cdv))->zt true (fF (zP P w) P w K mg base N qual (aj st) f cdv A outer s H E).nox (bE st) fx):
  gQ P w K mg base (k+1) C m ps.length (jn N.length ps.length fx):=by
 refine⟨cl,f,fd,ps,wb F S (fun ts C e hl=>?_) h,hb,hm,rfl⟩
 unfold jn at e
 rw [if_pos hl] at e
 obtain⟨⟨C',τ'⟩,e1,e⟩:=bind_some e
 cases e
 exact⟨τ',e1⟩
section
variable {X:Cx}{o e:Expr}{es:List Expr}{pos apos:Pos}{g:FA}{fo:FE}{k n:Nat}{m:Str}{b:Bool}
def nG (C:Addr):List (Addr×(List T->Option XI))->Option (List T->Option XI)
 |[]=>none
 |a::r=>if C=a.1 then some a.2 else nG C r
theorem jT {C:Addr}{d:List T->Option XI}:∀{l:List (Addr×(List T->Option XI))},nG C l=some d->(C,d)∈l
 |[],h=>by cases h
 |a::r,h=>by
  unfold nG at h
  split at h
  ·next e=>cases h;subst e;exact List.mem_cons_self
  ·exact List.mem_cons_of_mem _ (jT h)
def rK (alts:List (Addr×(List T->Option XI)))(m:Str)(fo:FE)(g:FA):FX:=fun τ=>(fo τ).bind fun p=>match p.1 with
 | .obj C ns ts=>if m∈ns then none else (nG C alts).bind fun d=>(g p.2).bind fun q=>(d (.obj C ns ts::q.1)).bind fun c=>some (c,q.2)
 |_=>none
theorem xD {pl:Sem Bool}{alts:List (Addr×(List T->Option XI))}(hx:∀e s,X.xe e s->False)(hD:∀a∈alts,gQ X.prog X.w X.K X.mg X.base k a.1 m n a.2)(hr:br k X.A)(he:SE X o fo)(ha:SA X (e::es) g)(hl:∀τ ts τ',g τ=some (ts,τ')->ts.length+1=n)
  (hst:starEach (e::es) X.env=(false,eval e X.env)::starEach es X.env:=by rfl) (hpl:(backTo pos (starEach es X.env)).any (·.1)=false:=by rfl)
  (ht:eval (.Call (.Attribute o m apos) (e::es) [] pos) X.env=(do
   let ov <- eval o X.env
   standAt apos.atName
   let (f,first) <- holding [ov] (getMethod ov m pl)
   callWith pos f first (backTo pos (starEach (e::es) X.env)) (backToKw pos (keywordEach [] X.env))):=by rfl):
  zT b X (.Call (.Attribute o m apos) (e::es) [] pos) (rK alts m fo g):=by
 intro Y0 Y9 pins s σ H F τ c τ' I E e1
 obtain⟨⟨y,τ1⟩,e2,e1⟩:=bind_some e1
 dsimp only at e1
 split at e1
 ·next C0 ns ts =>
  split at e1
  ·cases e1
  ·next hmn =>
   obtain⟨d,e3,e1⟩:=bind_some e1
   obtain⟨⟨us0,τ2⟩,e4,e1⟩:=bind_some e1
   obtain⟨c',e5,e1⟩:=bind_some e1
   cases e1
   have D:=hD _ (jT e3)
   obtain⟨f,fd,ps,Fk,hb,hme,hn⟩:=D.ex
   have hlen:=hl _ _ _ e4
   refine PySem.W.methodCall_KW (pl:=pl) (wpAny_mono (he Y0 Y9 pins s σ H (fun v H1=>∃F1,au X.K Y0 Y9 F1 H1 σ τ1/\aD F F1/\Rep X.K F1 (.obj C0 ns ts) v) I ⟨F,τ,_,τ1,E,e2,fun F1 H1 v E1 s1 r1=>⟨F1,E1,s1,r1⟩⟩) (fun u s1 z=>?_) fun e s z=>False.elim (hx e s z)) ht
   obtain⟨y,H1,I1,rx,F1,E1,sF1,r1⟩:=z
   obtain⟨a,dx,vs,rfl,h1,h2,h3⟩:=id r1
   obtain rfl:u=Value.ref a:=rx
   refine iX I1 (E1.g.fh _ _ h1) D.cl hme (gL hmn) ?_
   refine PySem.W.callWith_K (first:=[.ref a]) (h₀:=X.base) I1.ok.mod.kin hme.kp (wpAny_mono (ha Y0 Y9 pos pins s1 σ H1 (fun ws H2=>∃F2,au X.K Y0 Y9 F2 H2 σ τ2/\aD F1 F2/\aP X.K F2 us0 ws) I1 ⟨F1,τ1,us0,τ2,E1,e4,fun F2 H2 ws E2 s2 r2=>⟨F2,E2,s2,r2⟩⟩) (fun us s2 z=>?_) fun e s z=>False.elim (hx e s z)) hst hpl
   obtain⟨ws,H2,I2,r,F2,E2,sF2,r2⟩:=z
   refine⟨I2.kIn,?_⟩
   have hvl:ws.length+1=n:=by rw [r2.length];exact hlen
   have hul:(Value.ref a::us++[]).length=ps.length:=by
    rw [List.append_nil,List.length_cons,<- r.length,hvl,hn]
   have hbb:=hb s2 (Value.ref a::us) I2.kIn hul
   have rr0:Vals (V.ref a::ws++[]) (Value.ref a::us++[]):=Vals.append (.cons rfl r) .nil
   refine wpAny_call (codeAny_mono (Fk.run X.A X.stack s2 H2 ⟨Value.ref a::us,[]⟩ (Value.ref a::us++[]) (V.ref a::ws++[]) (fun _ _=>False) (fun dv oc H'=>oc=some c.C/\∃od F',dv=oV od/\au X.K Y0 Y9 F' H' σ τ2/\aD F F'/\hU X.K Y0 Y9 F' od c) hr I2.env0 hbb rr0 ⟨by rw [List.append_nil,List.length_cons];exact hvl,F2,.obj C0 ns ts::us0,c,E2.g.fh,by rw [List.append_nil];exact⟨_,_,rfl,Rep.mono sF2 r1,r2⟩,e5,fun od F' H' gr y=>⟨rfl,od,F',rfl,E2.grow gr,(sF1.trans sF2).trans gr.sF,y.up E2.g.sF E2.g.sH⟩⟩) fun rr s' hq=>?_)
   cases rr with
   |error ev =>
    obtain⟨a',C2,od2,H',rfl,fl,ec,od,F',eo,E3,s3,y⟩:=hq
    cases ec
    obtain rfl:=pA eo
    exact⟨σ,F',H',_,.inr ⟨a',s2,H2,rfl,I2,fl⟩,E3,s3,y⟩
   |ok fl =>
    cases fl with
    |ret u=>obtain⟨v,H',_,_,_,_,_,q⟩:=hq;exact q.elim
    |next=>exact False.elim hq
    |brk=>exact False.elim hq
    |cont=>exact False.elim hq
 ·cases e1
end
section
variable {K:PySem.W.Frag}{Y0 Y9 F H F' H':Hp}{σ σ':L2.St}{τ τ':aw}{x t w:Nat}{p q:Addr}{tss:List (List T)}{A:List Addr}
end
section
variable {X:Cx}{e:Expr}{pos:Pos}{x t:Nat}
end
section
variable {X:Cx}{e:Expr}{pos:Pos}
end
open PySem.W (kla_obj kla_fn envX CodeHd tabObj)
theorem mU {p q:Pos}(h1:p.line=q.line)(h2:p.col=q.col)(l:List Value):codeAmong p l=codeAmong q l:=by
 fun_induction codeAmong p l with
 |case1 a b c d e r hh=>rw [codeAmong,if_pos (by rw [<- h1,<- h2];exact hh)]
 |case2 a b c d e r hh ih=>rw [codeAmong,if_neg (by rw [<- h1,<- h2];exact hh)];exact ih
 |case3 l hl =>
  unfold codeAmong
  split
  ·next a b c d e r=>exact (hl _ _ _ _ _ _ rfl).elim
  ·rfl
def Bm (mg:Str->Option Value)(base:Heap):Prop:=∃bm o,mg "__builtins__" = some (.ref bm)/\bm≠builtinsNs/\bm≠mainGlobals/\base.get? bm=some o/\o.cls=.type "module"/\o.dict=some builtinsNs/\o.data=.plain
section
variable {X:Cx}{pins:List (Addr×Obj)}{σ:L2.St}{H:Hp}{s:Shared}{M:Model}{A:Around}{E:Value->Shared->Prop}
theorem wL {params:Arguments}{body:Expr}{scope:Scope}{pos:Pos}{c P:Addr}{ks:Array Value}{clos:List (Str×Addr)}{Q:Value->Shared->Prop}
  (I:Inv X pins σ H s) (hcode:X.env.code=.ref c) (hC:CodeHd X.base c P) (hB:Bm X.mg X.base) (hT:H P=some (.tbl ks))
  (k0:ks[0]? = some (rawInt pos.line)) (k1:ks[1]? = some (rawInt pos.col)) (k2:ks[2]? = some (.str (X.env.qual++"<lambda>") 0))
  (hcl:closureFor scope X.env=pure clos) (hd:defaultsOf params X.env=([],[]))
  (h:∀a c' ctv H' s',Inv X pins σ H' s'->s'.os=s.os->(H'=H\/(H c'=none/\H'=upd H c' (.own P)))->H' a=none->s'.heap.get? a=some (kla_obj "<lambda>" (X.env.qual++"<lambda>") params body scope clos ((X.mg "__name__").getD .none) c' ctv)->s'.heap.CodeRec (.ref c') (X.env.qual++"<lambda>") ->
   (∀b o,b≠P->s.heap.get? b=some o->s'.heap.get? b=some o)->s.heap.objs.size≤a->Q (.ref a) s'):
  wpAny M A (eval (.Lambda params body scope pos) X.env) Q E s:=by
 have hok:=I.hok P _ hT
 obtain⟨ps,hP,ht,hz⟩:=id hok
 have hg:s.heap.Ns mainGlobals X.mg:=I.mod.glob.keeps I.bk
 have hP0:∀b o,X.base.get? b=some o->b≠P:=fun b o e z=>by
  have:=(I.bs b o e).2
  rw [z,hT] at this
  cases this
 have hgP:mainGlobals≠P:=by
  obtain⟨o,es,ep,e,_⟩:=I.mod.glob
  exact hP0 _ _ e
 have hb:s.heap.BuiltinsAt X.mg P:=by
  obtain⟨bm,o,b1,b2,b3,b4,b5⟩:=hB
  exact⟨bm,o,b1,b2,b3,hP0 _ _ b4,I.bk _ _ b4,b5⟩
 refine PySem.W.kla_eval hd ?_
 rcases hz pos _ k0 k1 k2 with hn | ⟨c',hf,ho,hr⟩
 ·refine PySem.W.kla_makeFunction (c:=c) (P:=P) (ps:=ps) hcl I.ok.glob hg hcode (hC.keeps I.bk) hP ht hn hgP hb fun c' ctv h' tk hx hge hlt hrec htb=>?_
  have hc0:H c'=none:=I.hok.fresh hge
  have hPl:P<s.heap.objs.size:=Heap.lt_size hP
  have hcP:c'≠P:=Nat.ne_of_gt (Nat.lt_of_lt_of_le hPl hge)
  have pk:∀{b o},h'.get? b=some o->∀{oo:Obj},(h'.push oo).get? b=some o:=fun e=>Heap.get?_push_of_some _ e
  have hH':∀b,s.heap.get? b≠none->upd H c' (.own P) b=H b:=fun b hb=>aB fun z=>hb (Heap.get?_none_of_le (by rw [z];exact hge))
  have kp:∀b o,b≠P->s.heap.get? b=some o->(h'.push (kla_obj "<lambda>" (X.env.qual++"<lambda>") params body scope clos ((X.mg "__name__").getD .none) c' ctv)).get? b=some o:=fun b o hb e=>pk (hx b o hb e)
  refine h _ c' ctv (upd H c' (.own P)) _ (I.un (t':=tk) (h':=h'.push _) ⟨fun b o e n _ _=>kp b o (fun z=>by rw [z,hT] at n;cases n) e,fun b o e n _ _=>⟨o.slots,kp b o (fun z=>by rw [z,hT] at n;cases n) e⟩,
   fun b o e n _=>(hH' b (by rw [e];simp)).trans n,fun b o e _=>?_,fun b xs q=>by rw [aB (aO q hc0)];exact q,fun b u xs q=>by rw [aB (aO q hc0)];exact q,fun b ps q=>⟨#[],by rw [aB (aO q hc0),q];simp⟩⟩ fun b u e=>?_) rfl (.inr ⟨hc0,rfl⟩) ?_ (Heap.get?_push_size _ rfl) (hrec.push _) kp ?_
  ·by_cases hb:b=P
   ·exact⟨_,by rw [hb];exact pk htb⟩
   ·exact⟨_,kp b o hb e⟩
  ·by_cases hbc:b=c'
   ·subst hbc
    rw [aM] at e
    cases e
    obtain⟨c2,oc,vs,tq,e2,e3,_⟩:=hrec
    cases e2
    exact⟨oc,pk e3⟩
   ·rw [aB hbc] at e
    by_cases hbP:b=P
    ·subst hbP
     rw [hT] at e
     cases e
     refine⟨_,pk htb,by rw [Array.toList_append];exact TriplesOk_snoc _ _ _ _ ht,fun p q a0 a1 a2=>.inr ⟨c',?_,aM,?_⟩⟩
     ·rw [k0] at a0;rw [k1] at a1
      have e0:rawInt pos.line=rawInt p.line:=Option.some.inj a0
      have e1:rawInt pos.col=rawInt p.col:=Option.some.inj a1
      rw [e0,e1,Array.toList_append]
      refine codeAmong_snoc _ ht ?_
      rw [<- hn]
      refine mU ?_ ?_ _
      ·unfold rawInt at e0
       injection e0 with e0
       first | exact e0.symm | (have:=Int.ofNat.inj e0;exact this.symm) | omega
      ·unfold rawInt at e1
       injection e1 with e1
       first | exact e1.symm | (have:=Int.ofNat.inj e1;exact this.symm) | omega
     ·rw [k2] at a2
      have:=Option.some.inj a2
      injection this with e0 _
      rw [<- e0]
      exact hrec.push _
    ·refine (I.hok b u e).stay (fun d v hc q=>kp d v ?_ q) (fun d q=>by rw [aB (aO q hc0)];exact q) fun d xs q=>by rw [aB (aO q hc0)];exact q
     rcases hc with z | z
     ·rw [z];exact hbP
     ·intro y
      rw [y,hT] at z
      cases z
  ·rw [aB (Nat.ne_of_gt hlt)]
   exact I.hok.fresh (Nat.le_of_lt (Nat.lt_of_le_of_lt hge hlt))
  ·exact Nat.le_of_lt (Nat.lt_of_le_of_lt hge hlt)
 ·refine PySem.W.kla_makeFunctionHit (c:=c) (P:=P) (ps:=ps) hcl I.ok.glob hg hcode (hC.keeps I.bk) hP ht hf hb fun ctv h' tk hk hsz=>?_
  have kp:∀{oo:Obj} b o,s.heap.get? b=some o->(h'.push oo).get? b=some o:=fun b o e=>Heap.get?_push_of_some _ (hk b o e)
  exact h _ c' ctv H _ (I.kept (t':=tk) fun b o e=>kp b o e) rfl (.inl rfl) (I.hok.fresh hsz) (Heap.get?_push_size _ rfl) (hr.keeps fun b o e=>kp b o e) (fun b o _ e=>kp b o e) hsz
end
def ua (P:Program)(w:World)(K:PySem.W.Frag)(mg:Str->Option Value)(base:Heap)(N:List Str)(qual:Str)(scope:Scope)(a:Addr)(cd:Value)(cl:List (Str×Addr))(A:Around)(outer:List Env)(s:Shared)(H:Hp):Cx where
 prog:=P
 w:=w
 K:=K
 mg:=mg
 base:=base
 A:=A.deeper (envX qual scope s.heap.objs.size a cd cl)
 N:=N
 Y8:=s
 Y9:=H
 env:=envX qual scope s.heap.objs.size a cd cl
 outer:=outer
 stack:=envX qual scope s.heap.objs.size a cd cl::outer
 ex:=[]
 fn:=fun y=>(cl.lookup y).isNone
 calm:=true
 pn:=[]
 xe:=fun _ _=>False
structure hR (p1 p2 x:Str)(sc:Scope):Prop where
 kind:sc.kind=.function
 co:sc.isCoroutine=false
 gen:sc.isGenerator=false
 n1:sc.names.lookup p1=some .local
 n2:sc.names.lookup p2=some .local
 nx:sc.names.lookup x=some .free
 nc:∀y∈sc.names,y.2≠.cell
 nf:∀y∈sc.names,y.2=.free->y.1=x
 d12:(p1 == p2)=false
section
variable {P:Program}{w:World}{K:PySem.W.Frag}{mg:Str->Option Value}{base:Heap}{k:Nat}{A:Around}{outer:List Env}{s:Shared}{F H:Hp}{a cc:Addr}{cd pm ctv u1 u2 ux:Value}{c':Addr}{v1 v2 vx:V}{t1 t2 tx:T}{p1 p2 x qual:Str}{scope:Scope}{params:Arguments}{body:Expr}{fx:FX}{C:XI}{τ':aw}{E:XK}
theorem uY {h1:Heap}{tk:Nat}(S:hR p1 p2 x scope)(hd:A.handled=none)(e0:ly P w K mg base A outer s H)(hcell:s.heap.IsCell cc (some ux))(hH:H cc=none)(rx:RelV vx ux)(r1:RelV v1 u1)(r2:RelV v2 u2)
  (hns:h1.Ns s.heap.objs.size (fun y=>[(p1,u1),(p2,u2)].reverse.lookup y)) (hk:∀b o,s.heap.get? b=some o->h1.get? b=some o):
  Inv (ua P w K mg base [p1,p2,x] qual scope a cd [(x,cc)] A outer s H) [] [some v1,some v2,some vx] H { s with heap:=h1,toks:=tk }:=by
 have hl:∀{y:Str} {c:Addr},[(x,cc)].lookup y=some c->y=x/\c=cc:=fun {y c} h=>by
  rw [List.lookup_cons] at h
  split at h
  ·next e=>cases h;exact⟨by simpa using e,rfl⟩
  ·cases h
 have hlt:cc<s.heap.objs.size:=by obtain⟨o,e,_⟩:=hcell;exact Heap.lt_size e
 have hc1:h1.IsCell cc (some ux):=by obtain⟨o,e,r⟩:=hcell;exact⟨o,hk _ _ e,r⟩
 refine⟨⟨e0.mod,S.kind,rfl,rfl,Nat.le_refl _,fun y z c e1 e2=>(hl e1).1.trans (hl e2).1.symm,fun y hy=>?_,fun y c e1 e2=>?_,fun _=>hd,Around.frames_deeper e0.frames,.inr ⟨rfl,rfl⟩,fun b z=>absurd (show b∈([]:List Addr) from z) (by simp),e0.bs,e0.bsz,fun b _ _ z=>absurd (show b∈([]:List Addr) from z) (by simp),fun b z=>absurd (show b∈([]:List Addr) from z) (by simp),e0.funs,e0.frf⟩,
  rfl,e0.bare,Un.kept hk,⟨_,hns,fun i y v e1 e2 e3=>?_⟩,fun y c e=>?_,e0.hok.fresh (Nat.le_refl _),fun y c e=>?_,fun p hp=>absurd (show p∈([]:List (Addr×Obj)) from hp) (by simp),e0.hok.kept hk,rfl⟩
 ·have hy':scope.names.lookup y=some .cell\/scope.names.lookup y=some .free:=hy
  rcases hy' with hy' | hy'
  ·exact absurd rfl (S.nc _ (PySem.mem_of_lookup hy'))
  ·have:y=x:=S.nf _ (PySem.mem_of_lookup hy') rfl
   subst this
   exact⟨cc,by show [(y,cc)].lookup y=some cc;rw [List.lookup_cons];simp⟩
 ·have e2':[(x,cc)].lookup y=some c:=e2
  have e1':([(x,cc)].lookup y).isNone=true:=e1
  rw [e2'] at e1'
  cases e1'
 ·match i,e1,e2 with
  |0,e1,e2 =>
   cases e1;cases e2
   refine⟨u1,r1,.inl ⟨S.n1,?_⟩⟩
   show [(p1,u1),(p2,u2)].reverse.lookup p1=some u1
   simp [List.lookup_cons,S.d12]
  |1,e1,e2 =>
   cases e1;cases e2
   refine⟨u2,r2,.inl ⟨S.n2,?_⟩⟩
   show [(p1,u1),(p2,u2)].reverse.lookup p2=some u2
   simp [List.lookup_cons]
  |2,e1,e2 =>
   cases e1;cases e2
   exact⟨ux,rx,.inr ⟨.inr S.nx,cc,by show [(x,cc)].lookup x=some cc;rw [List.lookup_cons];simp,hc1⟩⟩
  |n+3,e1,e2=>cases e1
 ·obtain⟨_,rfl⟩:=hl e
  exact⟨_,hc1⟩
 ·obtain⟨_,rfl⟩:=hl e
  exact hH
theorem wK (S:hR p1 p2 x scope)(hr:br (k+1) A)(e0:ly P w K mg base A outer s H)(ho:s.heap.get? a=some (kla_obj "<lambda>" qual params body scope [(x,cc)] pm c' ctv))(hcd:s.heap.CodeRec (.ref c') qual)
  (hcell:s.heap.IsCell cc (some ux)) (hH:H cc=none) (rx:RelV vx ux) (r1:RelV v1 u1) (r2:RelV v2 u2)
  (hbind:bindArgs (kla_fn "<lambda>" qual params body scope [(x,cc)] pm (.ref c') ctv) ⟨[u1,u2],[]⟩=pure [(p1,u1),(p2,u2)])
  (hb:br k (A.deeper (envX qual scope s.heap.objs.size a (.ref c') [(x,cc)]))->zT false (ua P w K mg base [p1,p2,x] qual scope a (.ref c') [(x,cc)] A outer s H) body fx)
  (sm:aD F H) (rr:aP K F [t1,t2,tx] [v1,v2,vx]) (ef:fx [some (.sh t1),some (.sh t2),some (.sh tx)]=some (C,τ'))
  (q:∀od F' H',aS F H F' H'->hU K F H F' od C->E (oV od) (some C.C) H'):
  codeAny (model P w) A (.call (.ref a) ⟨[u1,u2],[]⟩) (CR (zP P w) outer P w H s (fun _ _=>False) E) s:=by
 refine PySem.W.kla_callFunE hr.depth ho rfl S.co S.gen rfl hcd ?_
 rw [hbind]
 refine wpAny_pure (wpAny_newFunctionEnv S.nc (fun y hy=>?_) (fun h1 hns hsb=>⟨((e0.mod.nolimit).keeps fun b o e=>(e0.bs b o e).1).fresh _ hsb,?_⟩) S.kind)
 ·rcases List.mem_cons.mp hy with rfl | hy
  ·exact S.n1
  ·rw [List.mem_singleton.mp hy];exact S.n2
 have hk:∀b o,s.heap.get? b=some o->h1.get? b=some o:=fun b o e=>hsb.extBut b o (Nat.ne_of_lt (Heap.lt_size e)) (Heap.get?_push_of_some _ e)
 have I:=uY (tk:=s.toks+[(p1,u1),(p2,u2)].length) (a:=a) (cd:=.ref c') (qual:=qual) S hr.hd e0 hcell hH rx r1 r2 hns hk
 have E1:au K F H F H [some v1,some v2,some vx] [some (.sh t1),some (.sh t2),some (.sh tx)]:=dy (N:=[p1,p2,x]) sm rr
 refine PySem.W.kla_codeExpr (wpAny_mono (hb (hr.deeper _) F H [] _ _ H F _ C τ' I E1 ef) (fun _ _ z=>z.elim) fun ev s2 z=>?_)
 obtain⟨σ2,F2,H2,od,z,E2,_,y⟩:=z
 rcases z with ⟨z,_⟩ | z
 ·cases z
 refine wpAny_mono (lZ (E:=fun _ _=>False) rfl rfl rfl z) (fun _ s3 z=>?_) fun _ _ z=>z.elim
 obtain⟨a3,rfl,fl⟩:=z
 exact⟨a3,C.C,od,H2,rfl,fl,q od F2 H2 E2.g y⟩
end
theorem callWith_F {M:Model}{A:Around}{E:Value->Shared->Prop}{s:Shared}{env:Env}{pos:Pos}{first:List Value}{Q:Value->Shared->Prop}{e:Expr}{rest:List Expr}{a:Addr}{fd:FuncData}{cv:Value}{od:Option Addr}{sl:Array (Option Value)}
  (h:wpAny M A (spliced (backTo pos (starEach (e::rest) env))) (fun vs s₁=>s₁.heap.get? a=some ⟨cv,od,.func fd,sl⟩/\wpAny M A (PySem.call (.ref a) (first++vs)) Q E s₁) E s)
  (he:starEach (e::rest) env=(false,eval e env)::starEach rest env:=by rfl) (hplain:(backTo pos (starEach rest env)).any (·.1)=false:=by rfl):
  wpAny M A (callWith pos (.ref a) first (backTo pos (starEach (e::rest) env)) []) Q E s:=by
 rw [he] at h ⊢
 exact PySem.W.callWith_of (P:=fun h=>h.get? a=some ⟨cv,od,.func fd,sl⟩) (by show ((false||(backTo pos (starEach rest env)).any (·.1))||false)=false;rw [hplain];rfl) (fun h X=>⟨.frame,.inl rfl,(PySem.W.Looks.ld (part:=none) X).andThen .now⟩) (Calls.evalArgs_plain h)
theorem au.forget {K:PySem.W.Frag}{Y0 Y9 F H:Hp}{σ:L2.St}{τ:aw}{i:Nat}(E:au K Y0 Y9 F H σ τ):au K Y0 Y9 F H σ (τ.set i none):=by
 have key:∀(j:Nat) (s:Sl),(τ.set i none)[j]? = some (some s)->τ[j]? = some (some s):=fun j s e=>by
  have hj:j≠i:=fun z=>by
   rw [z] at e
   by_cases hi:i<τ.length
   ·rw [List.getElem?_set_self hi] at e;cases e
   ·rw [List.getElem?_eq_none (by rw [List.length_set];omega)] at e;cases e
  rw [List.getElem?_set_ne (Ne.symm hj)] at e
  exact e
 exact⟨E.g,by rw [List.length_set];exact E.len,fun j s e=>E.sl j s (key j s e),fun j l ts us p hjl e1 e2=>E.dj j l ts us p hjl (key j _ e1) (key l _ e2)⟩
section
variable {X:Cx}{pins:List (Addr×Obj)}{σ:L2.St}{Y0 Y9 F H:Hp}{τ:aw}{s:Shared}{k:Nat}
theorem iz {A:Around}{M:Model}{E:Value->Shared->Prop}{Q:Value->Shared->Prop}{i:Nat}{x:Str}{v:V}{pos:Pos}(I:Inv X pins σ H s)(hN:X.N[i]? = some x)(hv:uB X.env.scope x)(e:σ[i]? = some (some v))(h:∀u,RelV v u->Q u s)
  (hd:(x == ("__debug__" : Str))=false:=by decide) (hcd:(x == ("__classdict__" : Str))=false:=by decide):wpAny M A (eval (.Name x pos) X.env) Q E s:=by
 obtain⟨m,hn,hl⟩:=I.loc
 obtain⟨u,r,l⟩:=hl i x v hN e hv
 rcases l with ⟨hk,hm⟩ | ⟨hk,c,hc,hcell⟩
 ·exact wpAny_Name (wpAny_loadName_local I.ok.kind hk hn hm (h u r)) hd
 ·rcases hk with hk | hk
  ·exact wpAny_Name (wpAny_loadName_cell I.ok.kind hk hc hcell (h u r)) hd
  ·exact wpAny_Name (wpAny_loadName_free I.ok.kind hk hc hcell (h u r) hcd) hd
variable {a cc:Addr}{pm ctv ux:Value}{c':Addr}{vx:V}{t1 t2 tx:T}{p1 p2 x qual cn sn an:Str}{scope:Scope}{params:Arguments}{body:Expr}{fx:FX}{C:XI}{τ1:aw}{ic is ia:Nat}{q1 q2 q3 q4 q5:Pos}
theorem Ac (S:hR p1 p2 x scope)(hr:br (k+1) X.A)(I:Inv X pins σ H s)(E:au X.K Y0 Y9 F H σ τ)(hNc:X.N[ic]? = some cn)(hNs:X.N[is]? = some sn)(hNa:X.N[ia]? = some an)(wc:uB X.env.scope cn)(ws:uB X.env.scope sn)(wa:uB X.env.scope an)
  (σc:σ[ic]? = some (some (.ref a))) (τs:τ[is]? = some (some (.sh t1))) (τa:τ[ia]? = some (some (.sh t2)))
  (ho:s.heap.get? a=some (kla_obj "<lambda>" qual params body scope [(x,cc)] pm c' ctv)) (hcd:s.heap.CodeRec (.ref c') qual) (hcell:s.heap.IsCell cc (some ux)) (hH:H cc=none) (rx:RelV vx ux) (rt:Rep X.K F tx vx)
  (hbind:∀u1 u2,bindArgs (kla_fn "<lambda>" qual params body scope [(x,cc)] pm (.ref c') ctv) ⟨[u1,u2],[]⟩=pure [(p1,u1),(p2,u2)])
  (hb:∀s H,br k (X.A.deeper (envX qual scope s.heap.objs.size a (.ref c') [(x,cc)]))->zT false (ua X.prog X.w X.K X.mg X.base [p1,p2,x] qual scope a (.ref c') [(x,cc)] X.A X.stack s H) body fx)
  (ef:fx [some (.sh t1),some (.sh t2),some (.sh tx)]=some (C,τ1))
  (dc:(cn == ("__debug__" : Str))=false:=by decide) (dc2:(cn == ("__classdict__" : Str))=false:=by decide) (ds:(sn == ("__debug__" : Str))=false:=by decide) (ds2:(sn == ("__classdict__" : Str))=false:=by decide) (da:(an == ("__debug__" : Str))=false:=by decide) (da2:(an == ("__classdict__" : Str))=false:=by decide)
  (hsw:swapsWith (.Call (.Name cn q1) [.Name sn q2,.Name an q3] [] q4) none q5.line X.env=pure false:=by rfl)
  (he:starEach [.Name sn q2,.Name an q3] X.env=(false,eval (.Name sn q2) X.env)::starEach [.Name an q3] X.env:=by rfl) (he2:starEach [.Name an q3] X.env=(false,eval (.Name an q3) X.env)::starEach [] X.env:=by rfl) (hpl:(backTo q4 (starEach [.Name an q3] X.env)).any (·.1)=false:=by rfl):
  wpAny (model X.prog X.w) X.A (execs [.Expr (.Call (.Name cn q1) [.Name sn q2,.Name an q3] [] q4) q5] X.env) (fun _ _=>False) (rh false X pins Y0 Y9 F C τ) s:=by
 obtain⟨v1,g1,r1⟩:=E.sl is _ τs
 obtain⟨v2,g2,r2⟩:=E.sl ia _ τa
 refine wpAny_execs_cons (wpAny_mono (Q:=fun _ _=>False) ?_ (fun _ _ z=>z.elim) fun _ _ z=>z)
 refine wpAny_Expr_any ?_ I.quiet hsw
 refine wpAny_Call_Name_kw (iz I hNc wc σc (fun u ru=>?_) dc dc2)
 obtain rfl:u=Value.ref a:=ru
 refine callWith_F (cv:=.type "function") (od:=none) (sl:=#[]) (fd:=kla_fn "<lambda>" qual params body scope [(x,cc)] pm (.ref c') ctv) ?_ he hpl
 rw [he]
 show wpAny _ _ (spliced ((false,eval (.Name sn q2) X.env)::backTo q4 (starEach [.Name an q3] X.env))) _ _ s
 refine Calls.spliced_cons (iz I hNs ws g1 (fun u1 ru1=>?_) ds ds2)
 rw [he2]
 show wpAny _ _ (spliced ((false,eval (.Name an q3) X.env)::backTo q4 (starEach [] X.env))) _ _ s
 refine Calls.spliced_cons (iz I hNa wa g2 (fun u2 ru2=>?_) da da2)
 refine Calls.spliced_nil ⟨ho,?_⟩
 refine wpAny_call (codeAny_mono (wK S hr I.env0 ho hcd hcell hH rx ru1 ru2 (hbind u1 u2) (hb s H) E.g.fh ⟨v1,[v2,vx],rfl,r1,v2,[vx],rfl,r2,vx,[],rfl,rt,rfl⟩ ef (E:=fun dv oc H'=>oc=some C.C/\∃od F',dv=oV od/\au X.K Y0 Y9 F' H' σ τ/\aD F F'/\hU X.K Y0 Y9 F' od C)
  fun od F' H' gr y=>⟨rfl,od,F',rfl,E.grow gr,gr.sF,y.up E.g.sF E.g.sH⟩) fun rr s' hq=>?_)
 cases rr with
 |error ev =>
  obtain⟨a3,C2,od2,H',rfl,fl,ec,od,F',eo,E2,s2,y⟩:=hq
  cases ec
  obtain rfl:=pA eo
  exact⟨σ,F',H',_,.inr ⟨a3,s,H,rfl,I,fl⟩,E2,s2,y⟩
 |ok fl =>
  cases fl with
  |ret u=>obtain⟨v,H',_,_,_,_,_,q⟩:=hq;exact q.elim
  |next=>exact False.elim hq
  |brk=>exact False.elim hq
  |cont=>exact False.elim hq
end
def tH (n:Nat)(fx:FX)(fh:vz)(fr:FS)(tx t1 t2:T):Option T:=(fx [some (.sh t1),some (.sh t2),some (.sh tx)]).bind fun p=>(fh p.1 (none::some (.sh t1)::some (.sh t2)::some (.sh .non)::List.replicate n none)).bind fun r=>match r with
 | .nx τ=>(fr τ).bind fun r=>match r with
  | .rt t=>some t
  |_=>none
 |_=>none
structure D8 (st:Stmt)(cn sn an en:Str)(h0:ExceptHandler)(hs:List ExceptHandler)(rest:List Stmt):Prop where
 ex:∃j q0 q1 q2 q3 q4 q5 q6 q7 q8,bE st=.Assign [.Name en q0] (.Constant .none j q1) q2::.Try [.Expr (.Call (.Name cn q3) [.Name sn q4,.Name an q5] [] q6) q7] (h0::hs) [] [] q8::rest
section
variable {P:Program}{w:World}{K:PySem.W.Frag}{mg:Str->Option Value}{base:Heap}{k:Nat}{A:Around}{outer:List Env}{s:Shared}{F H:Hp}{a cc f:Addr}{pm ctv u1 u2 ux:Value}{c':Addr}{v1 v2 vx:V}{t1 t2 tx t:T}{p1 p2 x qual nm qd cn sn an en:Str}{scope:Scope}{params:Arguments}{body:Expr}{fx:FX}{fh:vz}{fr:FS}{st:Stmt}{fd:FuncData}{Nr:List Str}{h0:ExceptHandler}{hs:List ExceptHandler}{rest:List Stmt}{Q:VK}
theorem zf (Fd:dM K nm qd st f fd)(Sd:aA (cn::sn::an::en::Nr) [cn,sn,an] (aj st))(B:D8 st cn sn an en h0 hs rest)(hen:(aj st).names.lookup en=some .local)
  (lc:(aj st).names.lookup cn=some .local) (ls:(aj st).names.lookup sn=some .local) (la:(aj st).names.lookup an=some .local)
  (hbd:Binds K fd [cn,sn,an] [])
  (hh:∀(cdv:Value) (A:Around) (outer:List Env) (s:Shared) (H:Hp),br (k+1) (A.deeper (envOfC qd (aj st) s.heap.objs.size f cdv))->BY (fF iv P w K mg base (cn::sn::an::en::Nr) qd (aj st) f cdv A outer s H E0).nox (h0::hs) fh)
  (hrs:∀(cdv:Value) (A:Around) (outer:List Env) (s:Shared) (H:Hp),br (k+1) (A.deeper (envOfC qd (aj st) s.heap.objs.size f cdv))->pV (fF iv P w K mg base (cn::sn::an::en::Nr) qd (aj st) f cdv A outer s H E0).nox rest fr)
  (S:hR p1 p2 x scope) (hr:br (k+2) A) (e0:ly P w K mg base A outer s H) (ho:s.heap.get? a=some (kla_obj "<lambda>" qual params body scope [(x,cc)] pm c' ctv)) (hcd:s.heap.CodeRec (.ref c') qual)
  (hcell:s.heap.IsCell cc (some ux)) (hH:H cc=none) (rx:RelV vx ux) (r1:RelV v1 u1) (r2:RelV v2 u2)
  (hbind:∀u1 u2,bindArgs (kla_fn "<lambda>" qual params body scope [(x,cc)] pm (.ref c') ctv) ⟨[u1,u2],[]⟩=pure [(p1,u1),(p2,u2)])
  (hb:∀A outer s H,br k (A.deeper (envX qual scope s.heap.objs.size a (.ref c') [(x,cc)]))->zT false (ua P w K mg base [p1,p2,x] qual scope a (.ref c') [(x,cc)] A outer s H) body fx)
  (sm:aD F H) (rr:aP K F [tx,t1,t2] [vx,v1,v2]) (ef:tH (Nr.length) fx fh fr tx t1 t2=some t) (q:∀F' H' v,aS F H F' H'->Rep K F' t v->Q v H')
  (dc:(cn == ("__debug__" : Str))=false:=by decide) (dc2:(cn == ("__classdict__" : Str))=false:=by decide) (ds:(sn == ("__debug__" : Str))=false:=by decide) (ds2:(sn == ("__classdict__" : Str))=false:=by decide) (da:(an == ("__debug__" : Str))=false:=by decide) (da2:(an == ("__classdict__" : Str))=false:=by decide):
  codeAny (model P w) A (.call (.ref f) ⟨[.ref a,u1,u2],[]⟩) (CR iv outer P w H s Q E0) s:=by
 obtain⟨oc,od,kV,doc,pm',an',cdv,ct,osl,rfl,lk,hcdv⟩:=Fd.ex
 obtain⟨j,q0,q1,q2,q3,q4,q5,q6,q7,q8,hbody⟩:=B.ex
 have KX:K.In s.heap:=e0.mod.kin.keeps fun b o e=>(e0.bs b o e).1
 have lim:s.heap.NoLimit:=e0.mod.nolimit.keeps fun b o e=>(e0.bs b o e).1
 have hkind:∀y∈[cn,sn,an].zip [Value.ref a,u1,u2],(aj st).names.lookup y.1=some .local\/((aj st).names.lookup y.1=some .cell/\((cellsFrom (s.heap.objs.size+1) (aj st).names []).lookup y.1).isSome=true):=fun y hy=>by
  rcases List.mem_cons.mp hy with rfl | hy
  ·exact .inl lc
  rcases List.mem_cons.mp hy with rfl | hy
  ·exact .inl ls
  rcases List.mem_cons.mp hy with rfl | hy
  ·exact .inl la
  ·cases hy
 obtain⟨⟨cx,τ1⟩,ef1,ef⟩:=bind_some ef
 obtain⟨r,ef2,ef⟩:=bind_some ef
 cases r with
 |rt _=>cases ef
 |bk _=>cases ef
 |ct _=>cases ef
 |nx τb =>
 obtain⟨r,ef3,ef⟩:=bind_some ef
 cases r with
 |nx _=>cases ef
 |bk _=>cases ef
 |ct _=>cases ef
 |rt t' =>
 cases ef
 refine codeAny_call_function hr.depth (KX _ _ lk) rfl Sd.co Sd.gen rfl (PySem.W.codeRec_of KX hcdv) (hbd s [.ref a,u1,u2] KX rfl _ _ _ _ ?_)
 refine wpAny_newFunctionEnv_cells Sd.kind hkind fun env he s1 x1=>?_
 subst he
 refine⟨lim.keeps x1.toInCall.keep,codeAny_func ?_⟩
 have hr1:br (k+1) (A.deeper (envOfC qd (aj st) s.heap.objs.size f cdv)):=hr.deeper _
 have I:=nL (CX:=iv) (E:=E0) (vs:=[.ref a,v1,v2]) Sd hr.hd e0 rfl (.cons rfl (.cons r1 (.cons r2 .nil))) x1
 obtain⟨vx',_,e1,rx1,va,_,e2,ra1,vb,_,e3,rb1,e4⟩:=rr
 cases e1;cases e2;cases e3;cases e4
 have E1:au K F H F H (start (cn::sn::an::en::Nr) [.ref a,v1,v2]) (some (.sh (.ptr a))::some (.sh t1)::some (.sh t2)::none::List.replicate Nr.length none):=dy (N:=cn::sn::an::en::Nr) (ts:=[.ptr a,t1,t2]) sm ⟨_,_,rfl,rfl,_,_,rfl,ra1,_,_,rfl,rb1,rfl⟩
 rw [hbody]
 have key:wpAny (model P w) (A.deeper (envOfC qd (aj st) s.heap.objs.size f cdv)) (execs (.Assign [.Name en q0] (.Constant .none j q1) q2::.Try [.Expr (.Call (.Name cn q3) [.Name sn q4,.Name an q5] [] q6) q7] (h0::hs) [] [] q8::rest) (envOfC qd (aj st) s.heap.objs.size f cdv))
   (SP (fF iv P w K mg base (cn::sn::an::en::Nr) qd (aj st) f cdv A outer s H E0).nox [] { nx:=fun _ H'=>Q .non H',rt:=Q }) (fun _ _=>False) s1:=by
  refine wpAny_execs_cons (wpAny_Assign_Name (Constant_none (kr (X:=(fF iv P w K mg base (cn::sn::an::en::Nr) qd (aj st) f cdv A outer s H E0).nox) (i:=3) (v:=.non) (I.wish fun _ _=>False) Sd.nd rfl (.inl hen) rfl (fun s2 I2 sb=>?_) (.inl rfl))) rfl)
  have old:∀b o,s.heap.get? b=some o->s2.heap.get? b=some o:=fun b o e=>by
   obtain⟨d,sb,hd⟩:=sb
   refine (sb.2 b fun z=>?_).trans (x1.toInCall.keep b o e)
   have hlt:=Heap.lt_size e
   rcases hd with hd | hd
   ·rw [z,hd] at hlt
    exact Nat.lt_irrefl _ hlt
   ·have:=x1.above en d (PySem.mem_of_lookup hd)
    rw [z] at hlt
    exact absurd (Nat.lt_trans this hlt) (Nat.lt_irrefl _)
  have E2:au K F H F H ((start (cn::sn::an::en::Nr) [.ref a,v1,v2]).set 3 (some .non)) (none::some (.sh t1)::some (.sh t2)::some (.sh .non)::List.replicate Nr.length none):=(E1.set (i:=3) (t:=.non) rfl).forget (i:=0)
  refine wpAny_execs_cons (wpAny_mono (Q:=SP (fF iv P w K mg base (cn::sn::an::en::Nr) qd (aj st) f cdv A outer s H E0).nox [] { nx:=fun σ' H'=>∃F',au K F H F' H' σ' τb,rt:=fun _ _=>False }) (E:=fun _ _=>False) (wpAny_Try_except (wpAny_mono (Ac (X:=(fF iv P w K mg base (cn::sn::an::en::Nr) qd (aj st) f cdv A outer s H E0).nox) S hr1 I2 E2 (ic:=0) (is:=1) (ia:=2) rfl rfl rfl (.inl lc) (.inl ls) (.inl la) rfl rfl rfl (old _ _ ho) (hcd.keeps old) (let ⟨o,e,z⟩:=hcell;⟨o,old _ _ e,z⟩) hH rx rx1 hbind (fun s H=>hb _ _ s H) ef1 dc dc2 ds ds2 da da2) (fun _ _ z=>z.elim) fun ev s3 z=>?_)) (fun fl s5 z=>?_) fun _ _ z=>z)
  ·obtain⟨σ',F',H',od,z,E3,sF,y⟩:=z
   rcases z with ⟨z,_⟩ | z
   ·cases z
   exact lL rfl rfl z fun a5 s5 ea zl=>hh cdv A outer s H hr1 F H [] s5 σ' H' F' _ cx od a5 _ _ _ zl E3 y ef2 fun F6 H6 σ6 E6 _=>⟨F6,E6⟩
  ·cases fl with
   |next =>
    obtain⟨σ',H',I5,F5,E5⟩:=z
    exact hrs cdv A outer s H hr1 F H [] s5 σ' H' _ I5 ⟨F5,τb,.rt t,E5,ef3,fun F6 H6 v g6 r6=>q F6 H6 v g6 r6⟩
   |ret u=>obtain⟨v,σ',H',_,_,z⟩:=z;exact z.elim
   |brk=>obtain⟨_,_,_,z⟩:=z;exact z.elim
   |cont=>obtain⟨_,_,_,z⟩:=z;exact z.elim
 refine wpAny_mono key (fun fl s' hs=>?_) fun _ _ z=>z.elim
 have fin:∀{σ':L2.St} {H':Hp} {v:V} {u:Value},Inv (fF iv P w K mg base (cn::sn::an::en::Nr) qd (aj st) f cdv A outer s H E0).nox [] σ' H' s'->RelV v u->Q v H'->CE outer P w H s Q u s':=
  fun {σ' H' v u} J rv q=>⟨v,H',J.os,J.bare,J.base,J.hok,rv,q⟩
 cases fl with
 |ret u =>
  obtain⟨v,σ',H',J,rv,q⟩:=hs
  exact fin J rv q
 |next =>
  obtain⟨σ',H',J,q⟩:=hs
  exact fin (v:=V.non) (u:=Value.none) J rfl q
 |brk =>
  obtain⟨_,_,_,q⟩:=hs
  exact False.elim q
 |cont =>
  obtain⟨_,_,_,q⟩:=hs
  exact False.elim q
end
def vV (ix is ia:Nat)(d:T->T->T->Option T):FE:=fun τ=>match τ[ix]?,τ[is]?,τ[ia]? with
 |some (some (.sh tx)),some (some (.sh t1)),some (some (.sh t2))=>(d tx t1 t2).map fun t=>(t,τ)
 |_,_,_=>none
structure sZ (P:Program)(w:World)(K:PySem.W.Frag)(mg:Str->Option Value)(base:Heap)(k:Nat)(y:Str)(p1 p2 x:Str)(params:Arguments)(body:Expr)(scope:Scope)(d:T->T->T->Option T):Prop where
 ex:∃f,PySem.W.keepIn K (.ref f)=true/\mg y=some (.ref f)/\∀(qual:Str) (A:Around) (outer:List Env) (s:Shared) (F H:Hp) (a cc c':Addr) (pm ctv u1 u2 ux:Value) (v1 v2 vx:V) (t1 t2 tx t:T) (Q:VK),br k A->ly P w K mg base A outer s H ->
  s.heap.get? a=some (kla_obj "<lambda>" qual params body scope [(x,cc)] pm c' ctv)->s.heap.CodeRec (.ref c') qual->s.heap.IsCell cc (some ux)->H cc=none->RelV vx ux->RelV v1 u1->RelV v2 u2->aD F H->aP K F [tx,t1,t2] [vx,v1,v2]->d tx t1 t2=some t->(∀F' H' v,aS F H F' H'->Rep K F' t v->Q v H') ->
  codeAny (model P w) A (.call (.ref f) ⟨[.ref a,u1,u2],[]⟩) (CR iv outer P w H s Q E0) s
theorem three {a b c:Value}{m:Array Value}:(#[a,b,c]++m)[0]? = some a/\(#[a,b,c]++m)[1]? = some b/\(#[a,b,c]++m)[2]? = some c:=by
 refine⟨?_,?_,?_⟩<;>(rw [Array.getElem?_append_left (by simp)];rfl)
section
variable {X:Cx}{k:Nat}{rn sn an x p1 p2 qual:Str}{params:Arguments}{body:Expr}{scope:Scope}{d:T->T->T->Option T}{ix is ia:Nat}{c P:Addr}{more:Array Value}{q0 q1 q2 q3 q4:Pos}
theorem Bt (D:sZ X.prog X.w X.K X.mg X.base k rn p1 p2 x params body scope d)(hr:br k X.A)(hg:Gl X rn)
  (hcode:X.env.code=.ref c) (hC:CodeHd X.base c P) (hB:Bm X.mg X.base) (hT:X.Y9 P=some (.tbl (#[rawInt q1.line,rawInt q1.col,.str (X.env.qual++"<lambda>") 0]++more)))
  (hx:X.env.scope.names.lookup x=some .cell) (hcl:∀cc,X.env.cells.lookup x=some cc->closureFor scope X.env=pure [(x,cc)]) (hdp:defaultsOf params X.env=([],[]))
  (hNx:X.N[ix]? = some x) (hNs:X.N[is]? = some sn) (hNa:X.N[ia]? = some an) (ws:uB X.env.scope sn) (wa:uB X.env.scope an)
  (dr:(rn == ("__debug__" : Str))=false:=by decide) (ds:(sn == ("__debug__" : Str))=false:=by decide) (ds2:(sn == ("__classdict__" : Str))=false:=by decide) (da:(an == ("__debug__" : Str))=false:=by decide) (da2:(an == ("__classdict__" : Str))=false:=by decide)
  (he0:starEach [.Lambda params body scope q1,.Name sn q2,.Name an q3] X.env=(false,eval (.Lambda params body scope q1) X.env)::starEach [.Name sn q2,.Name an q3] X.env:=by rfl)
  (he:starEach [.Name sn q2,.Name an q3] X.env=(false,eval (.Name sn q2) X.env)::starEach [.Name an q3] X.env:=by rfl) (he2:starEach [.Name an q3] X.env=(false,eval (.Name an q3) X.env)::starEach [] X.env:=by rfl)
  (hpl:(backTo q4 (starEach [.Name sn q2,.Name an q3] X.env)).any (·.1)=false:=by rfl):
  SE X (.Call (.Name rn q0) [.Lambda params body scope q1,.Name sn q2,.Name an q3] [] q4) (vV ix is ia d):=by
 obtain⟨f,hk,hm,hrun⟩:=D.ex
 intro Y0 Y9 pins s σ H Q I ⟨F,τ,t,τ',E,e1,q⟩
 unfold vV at e1
 split at e1
 ·next tx t1 t2 ex1 ex2 ex3 =>
  obtain⟨t',ed,e1⟩:=Option.map_eq_some_iff.mp e1
  cases e1
  obtain⟨more2,hT2⟩:=I.base.tbls P _ hT
  rw [Array.append_assoc] at hT2
  obtain⟨vx,gx,rx⟩:=E.sl ix _ ex1
  obtain⟨v1,g1,r1⟩:=E.sl is _ ex2
  obtain⟨v2,g2,r2⟩:=E.sl ia _ ex3
  obtain⟨cc,ux,hcc,rux,hcell⟩:∃cc ux,X.env.cells.lookup x=some cc/\RelV vx ux/\s.heap.IsCell cc (some ux):=by
   obtain⟨m,hn,hl⟩:=I.loc
   obtain⟨u,r,l⟩:=hl ix x vx hNx gx (.inr (.inl hx))
   rcases l with ⟨hk',_⟩ | ⟨_,cc,h1,h2⟩
   ·have:X.env.scope.names.lookup x=some .local:=hk'
    rw [hx] at this
    cases this
   ·exact⟨cc,u,h1,r,h2⟩
  have hHc:=I.freeC x cc hcc
  refine wpAny_Call_Name_kw (eU I hg hm ?_ dr)
  refine PySem.W.callWith_K (h₀:=X.base) I.ok.mod.kin hk ?_ he0 hpl
  rw [he0]
  show wpAny _ _ (spliced ((false,eval (.Lambda params body scope q1) X.env)::backTo q4 (starEach [.Name sn q2,.Name an q3] X.env))) _ _ s
  refine Calls.spliced_cons (wL I hcode hC hB hT2 three.1 three.2.1 three.2.2 (hcl cc hcc) hdp fun a c' ctv H' s1 I1 hos hH hna ho hcd kp ha=>?_)
  have E1:au X.K Y0 Y9 F H' σ τ:=by
   rcases hH with rfl | ⟨n,rfl⟩
   ·exact E
   ·exact E.grow ⟨aD.refl _,cy n,fun b o e=>by rw [aB (aO (E.g.fh _ _ e) n)];exact E.g.fh _ _ e,fun _ _ e=>.inl e⟩
  have hPc:cc≠P:=fun z=>by
   rw [z,hT2] at hHc
   cases hHc
  have hcell1:s1.heap.IsCell cc (some ux):=by
   obtain⟨o,e,z⟩:=hcell
   exact⟨o,kp _ _ hPc e,z⟩
  rw [he]
  show wpAny _ _ (spliced ((false,eval (.Name sn q2) X.env)::backTo q4 (starEach [.Name an q3] X.env))) _ _ s1
  refine Calls.spliced_cons (iz I1 hNs ws g1 (fun u1 ru1=>?_) ds ds2)
  rw [he2]
  show wpAny _ _ (spliced ((false,eval (.Name an q3) X.env)::backTo q4 (starEach [] X.env))) _ _ s1
  refine Calls.spliced_cons (iz I1 hNa wa g2 (fun u2 ru2=>?_) da da2)
  refine Calls.spliced_nil ⟨I1.kIn,?_⟩
  refine wpAny_call (codeAny_mono (hrun _ X.A X.stack s1 F H' a cc c' _ ctv u1 u2 ux v1 v2 vx t1 t2 tx t Q hr I1.env0 ho hcd hcell1 (I1.freeC x cc hcc) rux ru1 ru2 E1.g.fh ⟨_,_,rfl,rx,_,_,rfl,r1,_,_,rfl,r2,rfl⟩ ed fun F' H2 v gr rv=>q F' H2 v (E1.grow gr) gr.sF rv) fun rr s' hq=>?_)
  cases rr with
  |error e=>exact False.elim hq
  |ok fl =>
   cases fl with
   |ret u=>exact I1.after hq
   |next=>exact False.elim hq
   |brk=>exact False.elim hq
   |cont=>exact False.elim hq
 ·cases e1
end
section
variable {X:Cx}{e:Expr}{es:List Expr}{pos:Pos}{g:FA}{b:Bool}{k n i:Nat}{x:Str}{p:Pos}{tbl:List (Addr×(List T->Option XI))}
def BW (X:Cx)(k n:Nat)(tbl:List (Addr×(List T->Option XI))):Prop:=∀z∈tbl,∃y,iG X.prog X.w X.K X.mg X.base k y n z.2/\X.mg y=some (.ref z.1)
def jo (i:Nat)(tbl:List (Addr×(List T->Option XI)))(g:FA):FX:=fun τ=>match τ[i]? with
 |some (some (.sh (.ptr f)))=>(nG f tbl).bind fun d=>gH d g τ
 |_=>none
theorem xC (hx:∀e s,X.xe e s->False)(hD:BW X k n tbl)(hr:br k X.A)(hN:X.N[i]? = some x)(hv:uB X.env.scope x)(ha:SA X (e::es) g)(hl:∀τ ts τ',g τ=some (ts,τ')->ts.length=n)(hdb:(x == ("__debug__" : Str))=false:=by decide)(hdc:(x == ("__classdict__" : Str))=false:=by decide)
  (he:starEach (e::es) X.env=(false,eval e X.env)::starEach es X.env:=by rfl) (hpl:(backTo pos (starEach es X.env)).any (·.1)=false:=by rfl):zT b X (.Call (.Name x p) (e::es) [] pos) (jo i tbl g):=by
 intro Y0 Y9 pins s σ H F τ C τ' I E e1
 unfold jo at e1
 split at e1
 ·next f e0 =>
  obtain⟨d,ed,e5⟩:=bind_some e1
  obtain⟨y,D,hy⟩:=hD _ (jT ed)
  obtain⟨f',fd,ps,Fk,hb,hk,hm,hn⟩:=D.ex
  have:f'=f:=by
   rw [hy] at hm
   injection hm with hm
   injection hm with hm
   exact hm.symm
  subst this
  obtain⟨v0,g1,g2⟩:=E.sl i _ e0
  obtain rfl:v0=.ref f':=g2
  obtain⟨⟨ts,τ1⟩,e2,e6⟩:=bind_some e5
  obtain⟨C',e3,e7⟩:=bind_some e6
  cases e7
  have hlen:=hl _ _ _ e2
  refine wpAny_Call_Name_kw (iz I hN hv g1 (fun u ru=>?_) hdb hdc)
  obtain rfl:u=Value.ref f':=ru
  refine PySem.W.callWith_K (h₀:=X.base) I.ok.mod.kin hk (wpAny_mono (ha Y0 Y9 pos pins s σ H (fun vs H1=>∃F1,au X.K Y0 Y9 F1 H1 σ τ1/\aD F F1/\aP X.K F1 ts vs) I ⟨F,τ,ts,τ1,E,e2,fun F1 H1 vs E1 s1 r1=>⟨F1,E1,s1,r1⟩⟩) (fun us s1 z=>?_) fun e s z=>False.elim (hx e s z)) he hpl
  obtain⟨vs,H1,I1,r,F1,E1,sF,r1⟩:=z
  refine⟨I1.kIn,?_⟩
  have hvl:vs.length=n:=by rw [r1.length];exact hlen
  have hul:(us++[]).length=ps.length:=by rw [List.append_nil,<- r.length,hvl,hn]
  refine wpAny_call (codeAny_mono (Fk.run X.A X.stack s1 H1 ⟨[]++us,[]⟩ (us++[]) (vs++[]) (fun _ _=>False) (fun dv oc H'=>oc=some C.C/\∃od F',dv=oV od/\au X.K Y0 Y9 F' H' σ τ1/\aD F F'/\hU X.K Y0 Y9 F' od C) hr I1.env0 (hb s1 us I1.kIn hul) (r.append .nil) ⟨by rw [List.append_nil];exact hvl,F1,ts,C,E1.g.fh,by rw [List.append_nil];exact r1,e3,fun od F' H' gr y=>⟨rfl,od,F',rfl,E1.grow gr,sF.trans gr.sF,y.up E1.g.sF E1.g.sH⟩⟩) fun rr s' hq=>?_)
  cases rr with
  |error ev =>
   obtain⟨a,C2,od2,H',rfl,fl,ec,od,F',eo,E2,s2,y⟩:=hq
   cases ec
   obtain rfl:=pA eo
   exact⟨σ,F',H',_,.inr ⟨a,s1,H1,rfl,I1,fl⟩,E2,s2,y⟩
  |ok fl =>
   cases fl with
   |ret u=>obtain⟨v,H',_,_,_,_,_,q⟩:=hq;exact q.elim
   |next=>exact False.elim hq
   |brk=>exact False.elim hq
   |cont=>exact False.elim hq
 ·cases e1
end
def Dj (K:PySem.W.Frag)(n:Nat)(d:List T->Option T)(Pa:Addr)(ks:Array Value):Sp:=fun vs H Q E=>(∃more,H Pa=some (.tbl (ks++more)))/\spT K n d vs H Q E
structure pU (P:Program)(w:World)(K:PySem.W.Frag)(mg:Str->Option Value)(base:Heap)(k:Nat)(x:Str)(n:Nat)(Pa:Addr)(ks:Array Value)(d:List T->Option T):Prop where
 ex:∃f fd ps,dN P w K mg base iv k f fd ps (Dj K n d Pa ks)/\Binds K fd ps []/\PySem.W.keepIn K (.ref f)=true/\mg x=some (.ref f)/\ps.length=n
section
variable {P:Program}{w:World}{K:PySem.W.Frag}{mg:Str->Option Value}{base:Heap}{Pa:Addr}{ks:Array Value}
theorem pU.mono {j k n:Nat}{x:Str}{d:List T->Option T}(D:pU P w K mg base j x n Pa ks d)(h:j≤k):pU P w K mg base k x n Pa ks d:=by
 obtain⟨f,fd,ps,F,r⟩:=D.ex
 exact⟨f,fd,ps,F.mono h,r⟩
theorem v9 {x qual:Str}{st:Stmt}{f c:Addr}{fd:FuncData}{N ps:List Str}{k:Nat}{fb:FS}(F:dM K x qual st f fd)(hc:fd.code=.ref c)(S:aA N ps (aj st))
  (h:∀(A:Around) (outer:List Env) (s:Shared) (H:Hp) (E:XK),br k (A.deeper (envOfC qual (aj st) s.heap.objs.size f (.ref c)))->(∃more,H Pa=some (.tbl (ks++more)))->pV (fF iv P w K mg base N qual (aj st) f (.ref c) A outer s H E).nox (bE st) fb):
  dN P w K mg base iv (k+1) f fd ps (Dj K ps.length (bX N.length ps.length fb) Pa ks):=by
 obtain⟨oc,od,kV,doc,pm,an,cdv,ct,osl,rfl,lk,hcd⟩:=F.ex
 have:cdv=.ref c:=hc
 subst this
 refine we lk hcd S (fun vs H Q E z=>z.2.1) fun A outer s H vs Q E hr z=>?_
 obtain⟨hT,hl,F1,ts,t,sm,r,e,q⟩:=z
 unfold bX at e
 split at e
 ·next hn =>
  obtain⟨r',e1,e⟩:=bind_some e
  refine⟨_,(h A outer s H E hr hT F1 H).nox,F1,_,r',?_,e1,?_⟩
  ·have:=dy (N:=N) sm r
   rw [hn] at this
   exact this
  ·cases r' with
   |rt u=>cases e;exact fun F' H' v g r'=>q F' H' v g r'
   |nx τ=>cases e;exact fun F' H' σ' E' s'=>q F' H' _ E'.g rfl
   |bk τ=>cases e
   |ct τ=>cases e
 ·cases e
theorem yk {x qual:Str}{st:Stmt}{f c:Addr}{fd:FuncData}{N ps:List Str}{k:Nat}{fb:FS}(F:dM K x qual st f fd)(hc:fd.code=.ref c)(S:aA N ps (aj st))(hb:Binds K fd ps [])(hm:mg x=some (.ref f))
  (h:∀(A:Around) (outer:List Env) (s:Shared) (H:Hp) (E:XK),br k (A.deeper (envOfC qual (aj st) s.heap.objs.size f (.ref c)))->(∃more,H Pa=some (.tbl (ks++more)))->pV (fF iv P w K mg base N qual (aj st) f (.ref c) A outer s H E).nox (bE st) fb):
  pU P w K mg base (k+1) x ps.length Pa ks (bX N.length ps.length fb):=⟨f,fd,ps,v9 F hc S h,hb,F.kp,hm,rfl⟩
end
section
variable {X:Cx}{e:Expr}{es:List Expr}{pos:Pos}{g:FA}
theorem jD {k n:Nat}{x:Str}{p:Pos}{d:List T->Option T}{Pa:Addr}{ks:Array Value}(D:pU X.prog X.w X.K X.mg X.base k x n Pa ks d)(hT:∃more,X.Y9 Pa=some (.tbl (ks++more)))(hr:br k X.A)(hg:Gl X x)(ha:SA X (e::es) g)(hl:∀τ ts τ',g τ=some (ts,τ')->ts.length=n)(hdb:(x == ("__debug__" : Str))=false:=by decide)
  (he:starEach (e::es) X.env=(false,eval e X.env)::starEach es X.env:=by rfl) (hpl:(backTo pos (starEach es X.env)).any (·.1)=false:=by rfl):SE X (.Call (.Name x p) (e::es) [] pos) (aq d g):=by
 obtain⟨f,fd,ps,Fk,hb,hk,hm,hn⟩:=D.ex
 obtain⟨more,hT⟩:=hT
 intro Y0 Y9 pins s σ H Q I ⟨F,τ,t,τ',E,e1,q⟩
 obtain⟨⟨ts,τ1⟩,e2,e1⟩:=bind_some e1
 have hz:=hl _ _ _ e2
 obtain⟨u,e4,e1⟩:=bind_some e1
 cases e1
 refine wpAny_Call_Name_kw (eU I hg hm ?_ hdb)
 refine PySem.W.callWith_K (h₀:=X.base) I.ok.mod.kin hk (bM (ha Y0 Y9 pos pins s σ H (fun vs H1=>∃F1,au X.K Y0 Y9 F1 H1 σ τ1/\aD F F1/\aP X.K F1 ts vs) I ⟨F,τ,ts,τ1,E,e2,fun F1 H1 vs E1 s1 r1=>⟨F1,E1,s1,r1⟩⟩) fun us s1 z=>?_) he hpl
 obtain⟨vs,H1,I1,r,F1,E1,sF,r1⟩:=z
 obtain⟨m1,hT1⟩:=I1.base.tbls _ _ hT
 exact⟨I1.kIn,my (E:=E0) Fk hr hb .nil nQ I1 r ⟨⟨_,by rw [hT1,Array.append_assoc]⟩,by rw [List.append_nil,r1.length];exact hz,F1,ts,t,E1.g.fh,by rw [List.append_nil];exact r1,e4,fun F3 H3 v3 g3 r3=>q F3 H3 v3 (E1.grow g3) (sF.trans g3.sF) r3⟩⟩
end
open PySem PySem.Spec PyProof.Rows L2
def kL:T->T->Option T
 | .dic,.dic=>some (.bl false)
 |a,b=>xV a b
theorem pD {X:Cx}(hu:X.A.units+64<cLine):jK X (compareOp .NotEq) kL:=by
 intro pins s σ H x y v u Q I rx ry ⟨F,a,b,t,sm,ra,rb,e,q⟩
 unfold kL at e
 split at e
 ·cases e
  obtain⟨p1,rfl,h1⟩:=ra
  obtain⟨p2,rfl,h2⟩:=rb
  cases rx
  cases ry
  obtain⟨_,n1,vs1,k1,d1⟩:=(show bO X.prog X.w H s.heap p1 (.dK []) from I.hok p1 _ (sm _ _ h1))
  obtain⟨_,n2,vs2,k2,d2⟩:=(show bO X.prog X.w H s.heap p2 (.dK []) from I.hok p2 _ (sm _ _ h2))
  cases k1
  cases k2
  exact PySem.W.keq_ne (r:=true) n1 n2 d1 d2 (by omega) (fun _=>by first | exact .nil | exact PySem.W.KeqHits.nil | constructor) ⟨.bl false,H,I,rfl,q F H _ (aS.refl sm) rfl⟩
 ·exact nP hu pins s σ H x y v u Q I rx ry ⟨F,_,_,t,sm,ra,rb,e,q⟩
theorem kc:fillsNumberSlot (.type "tuple") "mul" = pure false:=
 PySem.fillsNumberSlot_seq (id := "tuple.__mul__") (r:=some (.builtin "tuple.__rmul__")) PySem.F.slot_tuple_mul.lookup (by decide +kernel) PySem.F.slot_tuple_rmul.lookup (by decide +kernel)
theorem pH:seqRepeat? (.type "tuple")=pure (some (.builtin "tuple.__mul__")):=by
 unfold seqRepeat?
 rw [PySem.seqSlot_of (T := "tuple") (name := "__mul__") (id := "tuple.__mul__") PySem.F.slot_tuple_mul.lookup (by decide +kernel),PySem.seqSlot_of (T := "tuple") (name := "__rmul__") (id := "tuple.__rmul__") PySem.F.slot_tuple_rmul.lookup (by decide +kernel)]
 rfl
theorem lW (a:Int)(t:Tok)(l:Addr)(items:Array Value)(n:Nat)(dd:Option Addr)(sl:Array (Option Value)):
  Meets (Builtin.«int.__rmul__» ⟨[.int a t,.ref l],[]⟩) (fun _ R s=>s.heap.get? l=some { cls:=.type "tuple", dict:=dd,data:=.seq items n,slots:=sl }/\R (.ok (.ret Value.notImplemented)) s):=
 .of_wp fun prog w A R s h=>by
  obtain⟨hp,g,d,tk,os⟩:=s;obtain⟨hl,h⟩:=h
  wp_walk using wpAny_loadPart' hl
  exact⟨_,rfl,h⟩
theorem sO (l:Addr)(v:Value)(n:Nat)(dd:Option Addr)(sl:Array (Option Value))(u:Tok):
  Meets (Builtin.«tuple.__mul__» ⟨[.ref l,.int 1 u],[]⟩) (fun _ R s=>s.heap.get? l=some { cls:=.type "tuple", dict:=dd,data:=.seq #[v] n,slots:=sl }/\R (.ok (.ret (Value.ref l))) s):=
 .of_wp fun prog w A R s h=>by
  obtain⟨hp,g,d,tk,os⟩:=s;obtain⟨hl,h⟩:=h;have f1:=AutoSeq1.idx_int;have f2:=AutoSeq1.sub_tuple_tuple
  wp_walk using wpAny_loadPart' hl
  exact⟨_,rfl,h⟩
theorem sN (l:Addr)(v:Value)(n:Nat)(dd:Option Addr)(sl:Array (Option Value))(u:Tok):
  Meets (Builtin.«tuple.__mul__» ⟨[.ref l,.int 0 u],[]⟩) (fun _ R s=>s.heap.get? l=some { cls:=.type "tuple", dict:=dd,data:=.seq #[v] n,slots:=sl }/\R (.ok (.ret (Value.ref s.heap.objs.size))) { s with heap:=s.heap.push { cls:=Value.type "tuple", data:=Data.seq #[] },toks:=s.toks }):=
 .of_wp fun prog w A R s h=>by
  obtain⟨hp,g,d,tk,os⟩:=s;obtain⟨hl,h⟩:=h;have f1:=AutoSeq1.idx_int;have f2:=AutoSeq1.sub_tuple_tuple
  wp_walk using wpAny_loadPart' hl
  exact⟨_,rfl,h⟩
theorem sP (l:Addr)(v:Value)(n:Nat)(dd:Option Addr)(sl:Array (Option Value))(u:Tok):
  Meets (Builtin.«tuple.__mul__» ⟨[.ref l,.int 2 u],[]⟩) (fun _ R s=>s.heap.get? l=some { cls:=.type "tuple", dict:=dd,data:=.seq #[v] n,slots:=sl }/\R (.ok (.ret (Value.ref s.heap.objs.size))) { s with heap:=s.heap.push { cls:=Value.type "tuple", data:=Data.seq #[v,v] },toks:=s.toks }):=
 .of_wp fun prog w A R s h=>by
  obtain⟨hp,g,d,tk,os⟩:=s;obtain⟨hl,h⟩:=h;have f1:=AutoSeq1.idx_int;have f2:=AutoSeq1.sub_tuple_tuple
  wp_walk using wpAny_loadPart' hl
  exact⟨_,rfl,h⟩
theorem sQ (l:Addr)(v:Value)(n:Nat)(dd:Option Addr)(sl:Array (Option Value))(u:Tok):
  Meets (Builtin.«tuple.__mul__» ⟨[.ref l,.int 3 u],[]⟩) (fun _ R s=>s.heap.get? l=some { cls:=.type "tuple", dict:=dd,data:=.seq #[v] n,slots:=sl }/\R (.ok (.ret (Value.ref s.heap.objs.size))) { s with heap:=s.heap.push { cls:=Value.type "tuple", data:=Data.seq #[v,v,v] },toks:=s.toks }):=
 .of_wp fun prog w A R s h=>by
  obtain⟨hp,g,d,tk,os⟩:=s;obtain⟨hl,h⟩:=h;have f1:=AutoSeq1.idx_int;have f2:=AutoSeq1.sub_tuple_tuple
  wp_walk using wpAny_loadPart' hl
  exact⟨_,rfl,h⟩
theorem sR (l:Addr)(v:Value)(n:Nat)(dd:Option Addr)(sl:Array (Option Value))(u:Tok):
  Meets (Builtin.«tuple.__mul__» ⟨[.ref l,.int 4 u],[]⟩) (fun _ R s=>s.heap.get? l=some { cls:=.type "tuple", dict:=dd,data:=.seq #[v] n,slots:=sl }/\R (.ok (.ret (Value.ref s.heap.objs.size))) { s with heap:=s.heap.push { cls:=Value.type "tuple", data:=Data.seq #[v,v,v,v] },toks:=s.toks }):=
 .of_wp fun prog w A R s h=>by
  obtain⟨hp,g,d,tk,os⟩:=s;obtain⟨hl,h⟩:=h;have f1:=AutoSeq1.idx_int;have f2:=AutoSeq1.sub_tuple_tuple
  wp_walk using wpAny_loadPart' hl
  exact⟨_,rfl,h⟩
theorem sS (l:Addr)(v:Value)(n:Nat)(dd:Option Addr)(sl:Array (Option Value))(u:Tok):
  Meets (Builtin.«tuple.__mul__» ⟨[.ref l,.int 5 u],[]⟩) (fun _ R s=>s.heap.get? l=some { cls:=.type "tuple", dict:=dd,data:=.seq #[v] n,slots:=sl }/\R (.ok (.ret (Value.ref s.heap.objs.size))) { s with heap:=s.heap.push { cls:=Value.type "tuple", data:=Data.seq #[v,v,v,v,v] },toks:=s.toks }):=
 .of_wp fun prog w A R s h=>by
  obtain⟨hp,g,d,tk,os⟩:=s;obtain⟨hl,h⟩:=h;have f1:=AutoSeq1.idx_int;have f2:=AutoSeq1.sub_tuple_tuple
  wp_walk using wpAny_loadPart' hl
  exact⟨_,rfl,h⟩
section
variable {X:Cx}
def tW:T->T->Option T
 | .tup [t],.int k=>if 0≤k/\k≤5 then some (.tup (List.replicate k.toNat t)) else none
 |_,_=>none
theorem uh:jK X (binaryOp .Mult) tW:=by
 intro pins s σ H x y v u Q I rx ry ⟨F,a,b,t,sm,ra,rb,e,q⟩
 unfold tW at e
 split at e
 ·next t0 k =>
  split at e
  ·next hc =>
   cases e
   obtain⟨p,xs,rfl,h1,h2⟩:=ra
   obtain⟨v0,_,rfl,h3,rfl⟩:=h2
   cases rb
   cases rx
   obtain⟨tk,rfl⟩:=ry
   obtain⟨its,rv,⟨⟨cls,dd,data,sl⟩,e1,c1,n,d1⟩,hz⟩:=I.tuple (bB sm h1)
   simp only at c1 d1
   subst c1 d1
   cases rv with
   |cons r0 rn =>
   cases rn
   rename_i u0
   have hl:H s.heap.objs.size=none:=I.hok.fresh (Nat.le_refl _)
   have newT:∀(m:Nat) (arr:Array Value),m≤5->m=k.toNat->arr=(List.replicate m u0).toArray->EP X pins σ Q (.ref s.heap.objs.size) { s with heap:=s.heap.push { cls:=Value.type "tuple", data:=Data.seq arr },toks:=s.toks }:=fun m arr hm hk ha=>by
    subst hk ha
    have gr:=aS.new (.tup (List.replicate k.toNat v0)) sm hl
    have hrep:∀n:Nat,aP X.K F (List.replicate n t0) (List.replicate n v0):=fun n=>by
     induction n with
     |zero=>rfl
     |succ n ih=>exact⟨v0,_,rfl,h3,ih⟩
    have hvs:∀n:Nat,Vals (List.replicate n v0) (List.replicate n u0):=fun n=>by
     induction n with
     |zero=>exact .nil
     |succ n ih=>exact .cons r0 ih
    refine⟨.ref s.heap.objs.size,upd H s.heap.objs.size (.tup (List.replicate k.toNat v0)),I.laid (t':=s.toks) (fun b u e=>Heap.get?_push_of_some _ e) (Nat.le_refl _) ⟨by rw [List.length_replicate];exact cq (by omega),List.replicate k.toNat u0,hvs _,⟨_,Heap.get?_push_size _ rfl,rfl,_,rfl⟩⟩,rfl,q _ _ _ gr ⟨_,_,rfl,.inl (.inl aM),aP.mono gr.sF (hrep _)⟩⟩
   have go:∀{P:Value->Shared->Prop},wpAny (model X.prog X.w) X.A (PySem.call (.builtin "tuple.__mul__") [.ref p,.int k tk]) P X.xe s->wpAny (model X.prog X.w) X.A (binaryOp .Mult (.ref p) (.int k tk)) P X.xe s:=fun {P} h =>
    wpAny_binaryOp_repeat_ref (T := "tuple") (U := "int") (by decide) ⟨_,e1,rfl⟩ (fun s'=>typeIs_int s' k tk) kc PySem.F.fills_int_mul PySem.F.slot_int_rmul pH PySem.F.slot_int_index.lookup
     (call_meets PySem.F.slot_int_rmul (typeIs_int s k tk) PySem.F.entry_int_rmul (PySem.F.args_int_rmul_2 _ _) (lW k tk p #[u0] n dd sl) ⟨e1,rfl,⟨_,e1,rfl⟩,h⟩)
   refine go ?_
   have hk:k=0\/k=1\/k=2\/k=3\/k=4\/k=5:=by omega
   rcases hk with rfl | rfl | rfl | rfl | rfl | rfl
   ·exact call_meets PySem.F.slot_tuple_mul ⟨_,e1,rfl⟩ PySem.F.entry_tuple_mul (PySem.F.args_tuple_mul_2 _ _) (sN p u0 n dd sl tk) ⟨e1,newT 0 _ (by decide) rfl rfl⟩
   ·exact call_meets PySem.F.slot_tuple_mul ⟨_,e1,rfl⟩ PySem.F.entry_tuple_mul (PySem.F.args_tuple_mul_2 _ _) (sO p u0 n dd sl tk) ⟨e1,.ref p,H,I,rfl,q F H _ (aS.refl sm) ⟨p,[v0],rfl,h1,v0,[],rfl,h3,rfl⟩⟩
   ·exact call_meets PySem.F.slot_tuple_mul ⟨_,e1,rfl⟩ PySem.F.entry_tuple_mul (PySem.F.args_tuple_mul_2 _ _) (sP p u0 n dd sl tk) ⟨e1,newT 2 _ (by decide) rfl rfl⟩
   ·exact call_meets PySem.F.slot_tuple_mul ⟨_,e1,rfl⟩ PySem.F.entry_tuple_mul (PySem.F.args_tuple_mul_2 _ _) (sQ p u0 n dd sl tk) ⟨e1,newT 3 _ (by decide) rfl rfl⟩
   ·exact call_meets PySem.F.slot_tuple_mul ⟨_,e1,rfl⟩ PySem.F.entry_tuple_mul (PySem.F.args_tuple_mul_2 _ _) (sR p u0 n dd sl tk) ⟨e1,newT 4 _ (by decide) rfl rfl⟩
   ·exact call_meets PySem.F.slot_tuple_mul ⟨_,e1,rfl⟩ PySem.F.entry_tuple_mul (PySem.F.args_tuple_mul_2 _ _) (sS p u0 n dd sl tk) ⟨e1,newT 5 _ (by decide) rfl rfl⟩
  ·cases e
 ·cases e
end
theorem uZ {P:Program}{w:World}{K:PySem.W.Frag}{mg mb:Str->Option Value}{CX:sY}{k:Nat}{fa a Pa:Addr}{ks:Array Value}{fd:FuncData}{x:Str}{sp:Sp}{s₁:Shared}{vs:List Value}{ns:List Int}
  (KX:K.In s₁.heap) (hns:s₁.heap.Ns mainGlobals mg) (hb:s₁.heap.Ns builtinsNs mb) (hbb:∀x:Str,x≠"__name__"->mb x=bootBuiltins x) (hlim:s₁.heap.NoLimit) (hg:s₁.gens = #[])
  (ha:s₁.heap.get? a=some { cls:=.type "list", data:=.seq vs.toArray }) (hi:IntsAre vs ns) (hl:ns.length≤sizeLine) (hr:br k callerA)
  (hP:s₁.heap.get? Pa=some { cls:=.none,data:=.fields #[] }) (hPt:isCodeTable s₁.heap Pa) (hKP:K.lookup Pa=none)
  (F:∀base:Heap,K.In base->base.Ns mainGlobals mg->(∀b o,s₁.heap.get? b=some o->b≠Pa->o.cls≠.type "list"->base.get? b=some o)->dN P w K mg base CX k fa fd [x] sp) (hbind:∀(s:Shared) (u:Value),BindsTo s fd ⟨[u],[]⟩ [(x,u)])
  (hsp:∀H:Hp,iK K H a (ns.map V.int)->H Pa=some (.tbl ks)->sp [.ref a] H (fun v _=>v=.bl true) fun _ _ _=>False)
  (hCX:∀H e s',CX [] H s₁ (fun _ _ _=>False) e s'->False):
  codeAny (model P w) callerA (.call (.ref fa) ⟨[.ref a],[]⟩) (fun r s'=>r=.ok (.ret (.bool true))/\OldK s₁.heap s'.heap/\s'.os=s₁.os/\AllBare s'.gens) s₁:=by
 have rv:=nX hi
 have lenV:=hi.length
 have haP:a≠Pa:=fun z=>by
  rw [z,hP] at ha
  cases ha
 have core:∀H:Hp,(∀b,b≠Pa->H b=none\/∃o xs,H b=some (.frz o (.lst xs)))->H Pa=some (.tbl ks)->iK K H a (ns.map V.int)->kG P w H s₁.heap->(∀b,H b≠none->b=a\/b=Pa)->(H a≠none->K.lookup a=none) ->
   codeAny (model P w) callerA (.call (.ref fa) ⟨[.ref a],[]⟩) (fun r s'=>r=.ok (.ret (.bool true))/\OldK s₁.heap s'.heap/\s'.os=s₁.os/\AllBare s'.gens) s₁:=by
  intro H hO hT hS hok hA hK
  have base_of:∀{b:Addr} {o:Obj},s₁.heap.get? b=some o->H b=none->(oC s₁.heap H).get? b=some o:=fun e n=>wC e n
  have noA:∀{b:Addr} {o:Obj} {es:Array DictEntry} {ep:Nat},s₁.heap.get? b=some o->o.data=.dict es ep->H b=none:=fun {b o es ep} e d=>by
   cases q:H b with
   |none=>rfl
   |some u =>
    rcases hA b (by rw [q];simp) with e' | e'
    ·subst e'
     rw [ha] at e;cases e
     have d':Data.seq vs.toArray _=Data.dict es ep:=d
     cases d'
    ·subst e'
     rw [hP] at e;cases e
     have d':Data.fields #[]=Data.dict es ep:=d
     cases d'
  have nsK:∀{b:Addr} {m:Str->Option Value},s₁.heap.Ns b m->(oC s₁.heap H).Ns b m:=fun {b m} ⟨o,es,ep,e,d,r⟩=>⟨o,es,ep,base_of e (noA e d),d,r⟩
  have hKb:K.In (oC s₁.heap H):=fun b o e=>base_of (KX b o e) (by
   cases q:H b with
   |none=>rfl
   |some u =>
    rcases hA b (by rw [q];simp) with e' | e'
    ·subst e'
     rw [hK (by rw [q];simp)] at e;cases e
    ·subst e'
     rw [hKP] at e;cases e)
  have hM:Mod K mg (oC s₁.heap H):=⟨hKb,nsK hns,⟨mb,nsK hb,hbb⟩,let ⟨mc,h1,h2⟩:=hlim;⟨mc,nsK h1,h2⟩⟩
  have e0:ly P w K mg (oC s₁.heap H) callerA [] s₁ H:=⟨rfl,hM,fun b o e=>yI e,Nat.le_of_eq (uT _ _),trivial,fun b hb=>absurd (show b∈([]:List Addr) from hb) (by simp),hok,.of_eq hg⟩
  refine codeAny_mono ((F _ hKb (nsK hns) fun b o e h1 h2=>base_of e (by
   cases q:H b with
   |none=>rfl
   |some u =>
    rcases hA b (by rw [q];simp) with e' | e'
    ·subst e'
     rw [ha] at e;cases e
     exact absurd rfl h2
    ·exact absurd e' h1)).run callerA [] s₁ H ⟨[.ref a],[]⟩ [.ref a] [.ref a] _ _ hr e0 (hbind s₁ (.ref a)) (.cons rfl .nil) (hsp H hS hT)) fun r s' h=>?_
  cases r with
  |error e=>exact (hCX H e s' h).elim
  |ok fl =>
   cases fl with
   |next=>exact False.elim h
   |brk=>exact False.elim h
   |cont=>exact False.elim h
   |ret u =>
    obtain⟨v,H',os,bare,un,hok',r',q⟩:=h
    have q':v=.bl true:=q
    subst q'
    obtain rfl:u=Value.bool true:=r'
    refine⟨rfl,⟨fun b o e=>?_,fun b o e=>un.there b o e (by simp)⟩,os,bare⟩
    by_cases hbP:b=Pa
    ·subst hbP
     obtain⟨more,e2⟩:=un.tbls b _ hT
     obtain⟨qs,e3,_⟩:=hok' b _ e2
     rw [hP] at e
     cases e
     exact .inr (.inl ⟨hPt,rfl,#[],qs,rfl,by rw [e3];simp⟩)
    ·left
     cases q:H b with
     |none=>exact un.keep b o e q (by intro z;exact absurd (show b∈([]:List Addr) from z) (by simp)) (by simp)
     |some u =>
      rcases hO b hbP with z | ⟨ob,xs,z⟩
      ·rw [q] at z;cases z
      ·have z2:=un.frzs b ob _ z
       obtain⟨e1,_⟩:=hok b _ z
       obtain⟨e2,_⟩:=hok' b _ z2
       rw [e] at e1;cases e1
       exact e2
 have tok:∀{H:Hp},bO P w H s₁.heap Pa (.tbl ks):=⟨#[],hP,trivial,fun _ _ _ _ _=>.inl rfl⟩
 cases hk:K.lookup a with
 |some o =>
  have e:=KX a o hk
  rw [ha] at e
  cases e
  refine core (fun b=>if b=Pa then some (.tbl ks) else none) (fun b hb=>.inl (if_neg hb)) (if_pos rfl) (.inr ⟨_,vs.toArray,_,hk,rfl,rfl,rfl,by rw [List.size_toArray,lenV];exact hl,by simpa using rv⟩) (fun b u z=>?_) (fun b z=>?_) fun z=>absurd (if_neg haP) z
  ·by_cases hb:b=Pa
   ·have z':=(if_pos hb).symm.trans z
    cases z'
    subst hb
    exact tok
   ·have z':=(if_neg hb).symm.trans z
    cases z'
  ·by_cases hb:b=Pa
   ·exact .inr hb
   ·exact absurd (if_neg hb) z
 |none =>
  refine core (fun b=>if b=Pa then some (.tbl ks) else if b=a then some (.frz { cls:=.type "list", data:=.seq vs.toArray } (.lst (ns.map V.int))) else none) (fun b hbP=>?_) (if_pos rfl) (.inl (.inr ⟨{ cls:=.type "list", data:=.seq vs.toArray },(if_neg haP).trans (if_pos rfl)⟩)) (fun b u z=>?_) (fun b z=>?_) fun _=>hk
  ·by_cases hb:b=a
   ·exact .inr ⟨_,_,(if_neg hbP).trans (if_pos hb)⟩
   ·exact .inl ((if_neg hbP).trans (if_neg hb))
  ·by_cases hbP:b=Pa
   ·have z':=(if_pos hbP).symm.trans z
    cases z'
    subst hbP
    exact tok
   ·by_cases hb:b=a
    ·have z':=((if_neg hbP).trans (if_pos hb)).symm.trans z
     cases z'
     subst hb
     exact⟨ha,by rw [List.length_map];exact hl,vs,_,rv,ha⟩
    ·have z':=((if_neg hbP).trans (if_neg hb)).symm.trans z
     cases z'
  ·by_cases hbP:b=Pa
   ·exact .inr hbP
   ·by_cases hb:b=a
    ·exact .inl hb
    ·exact absurd ((if_neg hbP).trans (if_neg hb)) z
theorem xS {l:PySem.W.OpenLaw}{n k:Nat}{q:Program}{loose:List Str}{XP:(Str->Option Value)->Heap->Prop}{YP:World->Heap->Prop}{d:DefRec}{K:Params->PySem.W.Frag}{CX:World->sY}{sp:World->Sp}{x:Str}{Pa:Addr}{ks:Array Value}
  (hn:l.most=some n) (hn2:n≤sizeLine) (hdf:d.params.defaults=[]) (hr:br k callerA)
  (hY:∀(w:World) (h:Heap),YP w h->(K w.params).In h/\h.get? Pa=some { cls:=.none,data:=.fields #[] }) (hPt:∀(w:World) (h:Heap),(K w.params).In h->isCodeTable h Pa) (hKP:∀w:World,(K w.params).lookup Pa=none)
  (F:∀(w:World) (mg:Str->Option Value) (fa:Addr) (h:Heap),(K w.params).In h->h.Ns mainGlobals mg->mg d.name=some (.ref fa) ->
   ∃fd:FuncData,(∀(s:Shared) (u:Value),BindsTo s fd ⟨[u],[]⟩ [(x,u)]) /\
    ∀base:Heap,(K w.params).In base->base.Ns mainGlobals mg->Bm mg base->dN l.prog w (K w.params) mg base (CX w) k fa fd [x] (sp w))
  (hsp:∀(w:World) (H:Hp) (a:Addr) (ns:List Int),ns.length≤n->iK (K w.params) H a (ns.map V.int)->H Pa=some (.tbl ks)->sp w [.ref a] H (fun v _=>v=.bl true) fun _ _ _=>False)
  (hCX:∀(w:World) (H:Hp) (s:Shared) (e:Value) (s':Shared),CX w [] H s (fun _ _ _=>False) e s'->False):
  PySem.W.WalkO q loose XP YP l.row.toRowW d [] (fun f vs=>PySem.call f vs):=by
 refine Att.pW hn hdf fun w Y8 s₁ mg mb fa o pm cd doc a vs ns G Y ho hd hcd hmg hobj hints hlen hg=>?_
 obtain⟨KX,hP⟩:=hY w _ Y
 obtain⟨fd,hb,hF⟩:=F w mg fa _ KX G.T.g hmg
 refine uZ (ks:=ks) KX G.T.g G.T.b G.T.builtins G.T.nolimit hg hobj hints (Nat.le_trans hlen hn2) hr hP (hPt w _ KX) (hKP w) (fun base kb nb up=>hF base kb nb ?_) hb (fun H hS hT=>hsp w H a ns hlen hS hT) fun H e s'=>hCX w H s₁ e s'
 obtain⟨bm,ob,b1,b2,b4,b5,b6,b7⟩:=G.T.bmain
 refine⟨bm,ob,b1,b2,fun z=>?_,up bm ob b4 (fun z=>?_) (by rw [b5];decide),b5,b6,b7⟩
 ·obtain⟨o2,es,ep,g1,g2,_⟩:=G.T.g
  rw [z,g1] at b4
  cases b4
  rw [g2] at b7
  cases b7
 ·rw [z,hP] at b4
  cases b4
  cases b5
end TM
set_option maxHeartbeats 4000000
namespace My
open PySem PySem.Spec PyProof.Rows L2 TM
variable {K:PySem.W.Frag}
abbrev aF (t:T):Option Sl:=some (.sh t)
abbrev bo (n:Nat):T:=.int n
abbrev bp (i:Nat):FA:=af (ai i) az
abbrev aQ (i:Int):FE:=fC (.int i)
def top (i:Nat):Stmt:=PySem.Challenge.pw_echohouse_k54_findings_of_anything.main.body.getD i (.Pass ⟨0,0,0,0⟩)
section
variable {P:Program}{w:World}{K:PySem.W.Frag}{mg:Str->Option Value}{base:Heap}{k:Nat}{f:Addr}{fd:FuncData}
abbrev fU:Stmt:=inClass (top 3) 0
def fS:FS:=
  (aZ (fC (.str "no fit")))
theorem mC:aA ["self"] ["self"] (aj fU):=by walk_at "sc"
theorem kS {P:Program}{w:World}{K:PySem.W.Frag}{mg:Str->Option Value}{base:Heap}{k:Nat}{f C:Addr}{fd:FuncData}(F:dM K "word" "NoFit.word" fU f fd)(hb:Binds K fd ["self"] [])(ask:∃bm,lu K C bm)(fi:PySem.W.findIn K (.ref C) "word" = some (some (.ref f)))(ft:PySem.W.typeIn K (.ref f)=some (.type "function")):ku P w K mg base (k+1) C "word" (bX 1 1 fS):=
 ⟨ask,f,fd,_,yq F mC fun cdv A outer s H E hr=>(ar (aH kn)),hb,fi,ft,F.kp,rfl⟩
abbrev mz:Stmt:=top 10
def lH (n:Nat)(q0:List T->Option T):FS:=
  (aL (rM 0 1 (af (aq uI (bp 0)) (af (aq uI (bp 1)) az)))
  (aL (eL (fL (aJ xU (rN kA (ai 1)) (aQ 4000))) (aL (rM 0 1 (af (ai 1) (af (aJ bR (ai 0) (ai 1)) az)))
  (bz (fL (aJ xU (rN kA (ai 1)) (aQ 4000))) (uN (aq q0 (af (ai 0) (bp 1))) (kC (di (aI 0) (di (aI 1) (di (aI 2) kB))))) aX)) n)
  (aL (eL (fL (aJ xV (ai 1) (aQ 0))) (rM 0 1 (af (ai 1) (af (aJ bR (ai 0) (ai 1)) az))) n)
  (aZ (ai 0)))))
theorem dW:aA ["one","other","factors"] ["one","other"] (aj mz):=by walk_at "sc"
theorem vd (n:Nat)(F:dM K "common" "common" mz f fd)(hb:Binds K fd ["one","other"] [])(hm:mg "common" = some (.ref f))(q1:Def P w K mg base k "half" 2 q0)(q2:mg "abs" = none)(q3:mg "SHORT" = some (.int 4000 q4)):
  Def P w K mg base (k+1) "common" 2 (bX 3 2 (lH n q0)):=
 cV F dW hb hm fun cdv A outer s H E hr=>(ao (sL rfl dW.nd rfl rfl (by decide) rfl rfl (aa (aK vN rfl q2 rfl (aa (ae 0 (pv 0)) ah)) (aa (aK vN rfl q2 rfl (aa (ae 1 (pv 1)) ah)) ah)) rfl)
  (ao (qX n PassesOwn.never (ck qM (pN (ae 1 (pv 1))) (gw rfl q3) (bf _)) (ao (sL rfl dW.nd rfl rfl (by decide) rfl rfl (aa (ae 1 (pv 1)) (aa (ay cJ (ae 0 (pv 0)) (ae 1 (pv 1))) ah)) rfl)
  (ar (bT (ck qM (pN (ae 1 (pv 1))) (gw rfl q3) (bf _)) (ar (sJ (aE q1 hr rfl (aa (ae 0 (pv 0)) (aa (ae 1 (pv 1)) ah)) (ag (ag av))) (pO rfl (dG (bh 0 dW.nd rfl (Or.inl rfl)) (dG (bh 1 dW.nd rfl (Or.inl rfl)) (dG (bh 2 dW.nd rfl (Or.inl rfl)) ll))) (eR (eR (eR oB)))))) aR))))
  (ao (qX n PassesOwn.never (ck (nP hr.units) (ae 1 (pv 1)) ak (bf _)) (ar (sL rfl dW.nd rfl rfl (by decide) rfl rfl (aa (ae 1 (pv 1)) (aa (ay cJ (ae 0 (pv 0)) (ae 1 (pv 1))) ah)) rfl)))
  (ar (aH (ae 0 (pv 0)))))))
abbrev Br:Stmt:=top 11
abbrev je:Stmt:=top 20
def iU:FS:=
  (aZ (bY (aq aU (af (ai 0) (af (fC (.ty "int")) az))) (rN qe (aq aU (af (ai 0) (af (fC (.ty "bool")) az))))))
theorem qT:aA ["thing"] ["thing"] (aj je):=by walk_at "sc"
theorem qL (F:dM K "is_whole" "is_whole" je f fd)(hb:Binds K fd ["thing"] [])(hm:mg "is_whole" = some (.ref f))(q5:mg "int" = none)(q6:mg "isinstance" = none)(q7:mg "bool" = none):
  Def P w K mg base (k+1) "is_whole" 1 (bX 1 1 (iU)):=
 cV F qT hb hm fun cdv A outer s H E hr=>(ar (aH (cz (aK h9 rfl q6 rfl (aa (ae 0 (pv 0)) (aa (iS rfl q5 rfl) ah))) (gP (mH (aK h9 rfl q6 rfl (aa (ae 0 (pv 0)) (aa (iS rfl q7 rfl) ah))))))))
abbrev gd:Stmt:=top 21
def fT (q8 q9:List T->Option T):FS:=
  (aL (bz (lS (bU (cm (aq aU (af (ai 0) (af (fC (.ty "tuple")) az))))) (fL (aJ xV (aq dz (bp 0)) (aQ 2)))) (aZ (fC (.bl false))) aX)
  (aL (uN (ai 0) (kC (di (aI 1) (di (aI 2) kB))))
  (aZ (bY (aq q8 (bp 1)) (bY (aq q8 (bp 2)) (bY (aJ Eh (ai 2) (aQ 1)) (aJ jg (aq q9 (af (ai 1) (bp 2))) (aQ 1))))))))
theorem fz:aA ["thing","top","bottom"] ["thing"] (aj gd):=by walk_at "sc"
theorem mm (F:dM K "is_fraction" "is_fraction" gd f fd)(hb:Binds K fd ["thing"] [])(hm:mg "is_fraction" = some (.ref f))(q10:Def P w K mg base k "is_whole" 1 q8)(q11:Def P w K mg base k "common" 2 q9)(q12:mg "tuple" = none)(q6:mg "isinstance" = none)(q13:mg "len" = none):
  Def P w K mg base (k+1) "is_fraction" 1 (bX 3 1 (fT q8 q9)):=
 cV F fz hb hm fun cdv A outer s H E hr=>(ao (bT (SW.st (gU (bH (bN (aK h9 rfl q6 rfl (aa (ae 0 (pv 0)) (aa (iS rfl q12 rfl) ah))))) (fB (ck (nP hr.units) (aK cU rfl q13 PySem.boot_len (aa (ae 0 (pv 0)) ah)) ak (bf _))))) (ar (aH cG)) aR)
  (ao (sJ (ae 0 (pv 0)) (pO rfl (dG (bh 1 fz.nd rfl (Or.inl rfl)) (dG (bh 2 fz.nd rfl (Or.inl rfl)) ll)) (eR (eR oB))))
  (ar (aH (cz (aE q10 hr rfl (aa (ae 1 (pv 1)) ah) (ag av)) (cz (aE q10 hr rfl (aa (ae 2 (pv 2)) ah) (ag av)) (cz (fA C1 (ae 2 (pv 2)) ak (bf _)) (gP (fA (ik hr.units) (aE q11 hr rfl (aa (ae 1 (pv 1)) (aa (ae 2 (pv 2)) ah)) (ag (ag av))) ak (bf _))))))))))
abbrev sD:Stmt:=top 22
def rj (q9:List T->Option T):FS:=
  (aL (bz (fL (aJ jg (ai 1) (aQ 0))) gJ aX)
  (aL (bJ 2 (aq q9 (af (ai 0) (bp 1))))
  (aL (bz (fL (aJ BM (ai 1) (aQ 0))) (bJ 2 (rN yw (ai 2))) aX)
  (aL (bz (fL (aJ BM (rN kA (ai 2)) (aQ 8000))) (aZ (ek (af (aJ fq (ai 0) (ai 2)) (af (aJ fq (ai 1) (ai 2)) az)))) aX)
  gJ))))
theorem pM:aA ["top","bottom","shared"] ["top","bottom"] (aj sD):=by walk_at "sc"
theorem yL (F:dM K "frac" "frac" sD f fd)(hb:Binds K fd ["top","bottom"] [])(hm:mg "frac" = some (.ref f))(q11:Def P w K mg base k "common" 2 q9)(q14:mg "SHORT_QUOTIENT" = some (.int 8000 q15)):
  Def P w K mg base (k+1) "frac" 2 (bX 3 2 (rj q9)):=
 cV F pM hb hm fun cdv A outer s H E hr=>(ao (bT (ck (ik hr.units) (ae 1 (pv 1)) ak (bf _)) (ar jH) aR)
  (ao (aT 2 pM.nd rfl (Or.inl rfl) (aE q11 hr rfl (aa (ae 0 (pv 0)) (aa (ae 1 (pv 1)) ah)) (ag (ag av))))
  (ao (bT (ck w8 (ae 1 (pv 1)) ak (bf _)) (ar (aT 2 pM.nd rfl (Or.inl rfl) (Di BE (ae 2 (pv 2))))) aR)
  (ao (bT (ck w8 (pN (ae 2 (pv 2))) (gw rfl q14) (bf _)) (ar (aH (cF (aa (ay gM (ae 0 (pv 0)) (ae 2 (pv 2))) (aa (ay gM (ae 1 (pv 1)) (ae 2 (pv 2))) ah))))) aR)
  nV))))
theorem qC:(["number"]:List Str).Nodup:=by decide +kernel
abbrev mB:Stmt:=top 26
def pX (q16:List T->Option T):FS:=
  (aZ (bY (aq aU (af (ai 0) (af (fC (.ty "list")) az))) (bY (aJ jg (aq dz (bp 0)) (ai 1)) (aq om (af (fj 1 [] (cT (ai 0)) (aI 0) bF (aq q16 (bp 0))) az)))))
theorem vm:aA ["thing","many"] ["thing","many"] (aj mB):=by walk_at "sc"
theorem ve (F:dM K "is_row" "is_row" mB f fd)(hb:Binds K fd ["thing","many"] [])(hm:mg "is_row" = some (.ref f))(q17:Def P w K mg base k "is_fraction" 1 q16)(q18:mg "list" = none)(q6:mg "isinstance" = none)(q13:mg "len" = none)(q19:mg "all" = none):
  Def P w K mg base (k+1) "is_row" 2 (bX 2 2 (pX q16)):=
 cV F vm hb hm fun cdv A outer s H E hr=>(ar (aH (cz (aK h9 rfl q6 rfl (aa (ae 0 (pv 0)) (aa (iS rfl q18 rfl) ah))) (cz (fA (ik hr.units) (aK cU rfl q13 PySem.boot_len (aa (ae 0 (pv 0)) ah)) (ae 1 (pv 1)) (bf _)) (gP (aK (vO rfl) rfl q19 rfl (aa (iB (N':=["number"]) (no:=1) (cap:=[]) rfl rfl (cH rfl) rfl (hW rfl) (eK (ae 0 (pv 0))) (fun _ _ _ _ _ _=>(bh 0 qC rfl (Or.inl rfl))) (fun _ _ _ _ _ _=>iF) (fun _ _ _ _ _ _=>(aE q17 hr rfl (aa (ae 0 (pv 0)) ah) (ag av)))) ah)))))))
theorem m7:(["row","wide"]:List Str).Nodup:=by decide +kernel
abbrev jd:Stmt:=top 27
def gF (q20:List T->Option T):FS:=
  (aZ (bY (aq aU (af (ai 0) (af (fC (.ty "list")) az))) (bY (aJ jg (aq dz (bp 0)) (ai 1)) (aq om (af (fj 1 [2] (cT (ai 0)) (aI 0) bF (aq q20 (af (ai 0) (bp 1)))) az)))))
theorem qS:aA ["thing","many","wide"] ["thing","many","wide"] (aj jd):=by walk_at "sc"
theorem qK (F:dM K "is_table" "is_table" jd f fd)(hb:Binds K fd ["thing","many","wide"] [])(hm:mg "is_table" = some (.ref f))(q21:Def P w K mg base k "is_row" 2 q20)(q18:mg "list" = none)(q6:mg "isinstance" = none)(q13:mg "len" = none)(q19:mg "all" = none):
  Def P w K mg base (k+1) "is_table" 3 (bX 3 3 (gF q20)):=
 cV F qS hb hm fun cdv A outer s H E hr=>(ar (aH (cz (aK h9 rfl q6 rfl (aa (ae 0 (pv 0)) (aa (iS rfl q18 rfl) ah))) (cz (fA (ik hr.units) (aK cU rfl q13 PySem.boot_len (aa (ae 0 (pv 0)) ah)) (ae 1 (pv 1)) (bf _)) (gP (aK (vO rfl) rfl q19 rfl (aa (iB (N':=["row","wide"]) (no:=1) (cap:=[2]) rfl rfl (cH rfl) rfl (hW rfl) (eK (ae 0 (pv 0))) (fun _ _ _ _ _ _=>(bh 0 m7 rfl (Or.inl rfl))) (fun _ _ _ _ _ _=>iF) (fun _ _ _ _ _ _=>(aE q21 hr rfl (aa (ae 0 (pv 0)) (aa (ae 1 (pv 1)) ah)) (ag (ag av))))) ah)))))))
abbrev vl:Stmt:=top 28
abbrev vj:Stmt:=top 29
abbrev qR:Stmt:=top 30
abbrev vk:Stmt:=top 31
theorem hG:(["table"]:List Str).Nodup:=by decide +kernel
theorem hJ:(["row"]:List Str).Nodup:=by decide +kernel
abbrev dt:Stmt:=inClass (top 60) 0
def cg (q22:List T->Option T):Addr->FI:=
  (wD (bz (bU (cm (aq q22 (af (ai 1) (af (ai 2) (af (ai 3) (bp 4))))))) gJ aX)
  (wD (bz (fL (aJ xU (aq dz (bp 1)) (aQ 8))) gJ aX)
  (qf "four" (aq ff (af (fj 1 [] (cT (ek (af (ai 1) (af (ai 2) (af (ai 3) (bp 4)))))) (aI 0) bF (aq ff (af (fj 1 [] (cT (ai 0)) (aI 0) bF (aq ff (bp 0))) az))) az))
  uU)))
theorem iI:aA ["self","move","push","look","through"] ["self","move","push","look","through"] (aj dt):=by walk_at "sc"
theorem sx {C:Addr}{cx:Str}(F:dM K "__init__" "System.__init__" dt f fd)(hb:Binds K fd ["self","move","push","look","through"] [])(cl:dA K C)(M:Mk K C f)(hm:mg cx=some (.ref C))(q23:bg K C "four")(q24:Def P w K mg base k "is_system" 4 q22)(q13:mg "len" = none)(q12:mg "tuple" = none)(q25:mg "MOST_CELLS" = some (.int 8 q26)):
  gh P w K mg base (k+2) cx C 4 (dI 5 4 (cg q22)):=
 jt F iI hb M hm rfl fun cdv A outer s H E hr=>(uv (bT (bH (bN (aE q24 hr rfl (aa (ae 1 (pv 1)) (aa (ae 2 (pv 2)) (aa (ae 3 (pv 3)) (aa (ae 4 (pv 4)) ah)))) (ag (ag (ag (ag av))))))) (ar jH) aR)
  (uv (bT (ck qM (aK cU rfl q13 PySem.boot_len (aa (ae 1 (pv 1)) ah)) (gw rfl q25) (bf _)) (ar jH) aR)
  (jF cl q23 (pv 0) (gu ie rfl q12 rfl (aa (iB (N':=["table"]) (no:=1) (cap:=[]) rfl rfl (cH rfl) rfl (hW rfl) (eK (cF (aa (ae 1 (pv 1)) (aa (ae 2 (pv 2)) (aa (ae 3 (pv 3)) (aa (ae 4 (pv 4)) ah)))))) (fun _ _ _ _ _ _=>(bh 0 hG rfl (Or.inl rfl))) (fun _ _ _ _ _ _=>iF) (fun _ _ _ _ _ _=>(gu ie rfl q12 rfl (aa (iB (N':=["row"]) (no:=1) (cap:=[]) rfl rfl (cH rfl) rfl (hW rfl) (eK (ae 0 (pv 0))) (fun _ _ _ _ _ _=>(bh 0 hJ rfl (Or.inl rfl))) (fun _ _ _ _ _ _=>iF) (fun _ _ _ _ _ _=>(gu ie rfl q12 rfl (aa (ae 0 (pv 0)) ah)))) ah)))) ah))
  jG)))
abbrev eH:Stmt:=inClass (top 60) 1
def gS (q27:Addr):FS:=
  (aZ (aq dz (af (aJ fH (fG [q27] "four" (ai 0)) (aQ 0)) az)))
theorem kl:aA ["self"] ["self"] (aj eH):=by walk_at "sc"
theorem jw {C:Addr}(F:dM K "cells" "System.cells" eH f fd)(hb:Binds K fd ["self"] [])(cl:dA K C)(hm:Meth K C "cells" f)(hf_four:∀C∈[q27],dA K C/\bg K C "four")(q13:mg "len" = none):
  bI P w K mg base (k+1) C "cells" 1 (bX 1 1 (gS q27)):=
 dh F kl hb cl hm fun cdv A outer s H E hr=>(ar (aH (aK cU rfl q13 PySem.boot_len (aa (dF dJ (cL hf_four (ae 0 (pv 0))) ak (fun _ _=>rfl)) ah))))
abbrev fX:Stmt:=inClass (top 60) 2
def iN (q27:Addr):FS:=
  (aZ (aq dz (af (aJ fH (aJ fH (fG [q27] "four" (ai 0)) (aQ 3)) (aQ 0)) az)))
theorem mE:aA ["self"] ["self"] (aj fX):=by walk_at "sc"
theorem kR {C:Addr}(F:dM K "ins" "System.ins" fX f fd)(hb:Binds K fd ["self"] [])(cl:dA K C)(hm:Meth K C "ins" f)(hf_four:∀C∈[q27],dA K C/\bg K C "four")(q13:mg "len" = none):
  bI P w K mg base (k+1) C "ins" 1 (bX 1 1 (iN q27)):=
 dh F mE hb cl hm fun cdv A outer s H E hr=>(ar (aH (aK cU rfl q13 PySem.boot_len (aa (dF dJ (dF dJ (cL hf_four (ae 0 (pv 0))) ak (fun _ _=>rfl)) ak (fun _ _=>rfl)) ah))))
abbrev fw:Stmt:=inClass (top 60) 3
def hV (q27:Addr):FS:=
  (aZ (aq dz (af (aJ fH (fG [q27] "four" (ai 0)) (aQ 3)) az)))
theorem kU:aA ["self"] ["self"] (aj fw):=by walk_at "sc"
theorem kf {C:Addr}(F:dM K "outs" "System.outs" fw f fd)(hb:Binds K fd ["self"] [])(cl:dA K C)(hm:Meth K C "outs" f)(hf_four:∀C∈[q27],dA K C/\bg K C "four")(q13:mg "len" = none):
  bI P w K mg base (k+1) C "outs" 1 (bX 1 1 (hV q27)):=
 dh F kU hb cl hm fun cdv A outer s H E hr=>(ar (aH (aK cU rfl q13 PySem.boot_len (aa (dF dJ (cL hf_four (ae 0 (pv 0))) ak (fun _ _=>rfl)) ah))))
abbrev iq:Stmt:=top 61
def fJ (q28:List T->Option T):FS:=
  (aL (bz (lS (bU (cm (aq aU (af (ai 0) (af (fC (.ty "list")) az))))) (lS (bU (cm (aq aU (af (ai 3) (af (fC (.ty "list")) az))))) (bU (fL (jR yt yt (aQ 1) (aq dz (bp 3)) (aQ 2)))))) (aZ (fC (.bl false))) aX)
  (aL (bz (lS (bU (cm (aq aU (af (aJ fH (ai 3) (aQ 0)) (af (fC (.ty "list")) az))))) (bU (fL (jR yt yt (aQ 1) (aq dz (af (aJ fH (ai 3) (aQ 0)) az)) (aQ 2))))) (aZ (fC (.bl false))) aX)
  (aL (tO 4 5 6 (af (aq dz (bp 0)) (af (aq dz (af (aJ fH (ai 3) (aQ 0)) az)) (af (aq dz (bp 3)) az))))
  (aZ (bY (aq q28 (af (ai 0) (af (ai 4) (bp 4)))) (bY (aq q28 (af (ai 1) (af (ai 4) (bp 5)))) (bY (aq q28 (af (ai 2) (af (ai 6) (bp 4)))) (aq q28 (af (ai 3) (af (ai 6) (bp 5)))))))))))
theorem jC:aA ["move","push","look","through","cells","ins","outs"] ["move","push","look","through"] (aj iq):=by walk_at "sc"
theorem pC (F:dM K "is_system" "is_system" iq f fd)(hb:Binds K fd ["move","push","look","through"] [])(hm:mg "is_system" = some (.ref f))(q29:Def P w K mg base k "is_table" 3 q28)(q18:mg "list" = none)(q6:mg "isinstance" = none)(q13:mg "len" = none)(q30:mg "MOST_LINES" = some (.int 2 q31)):
  Def P w K mg base (k+1) "is_system" 4 (bX 7 4 (fJ q28)):=
 cV F jC hb hm fun cdv A outer s H E hr=>(ao (bT (SW.st (gU (bH (bN (aK h9 rfl q6 rfl (aa (ae 0 (pv 0)) (aa (iS rfl q18 rfl) ah))))) (gU (bH (bN (aK h9 rfl q6 rfl (aa (ae 3 (pv 3)) (aa (iS rfl q18 rfl) ah))))) (fB (bH (qY ug ug ak (aK cU rfl q13 PySem.boot_len (aa (ae 3 (pv 3)) ah)) (gw rfl q30))))))) (ar (aH cG)) aR)
  (ao (bT (SW.st (gU (bH (bN (aK h9 rfl q6 rfl (aa (dF dJ (ae 3 (pv 3)) ak (fun _ _=>rfl)) (aa (iS rfl q18 rfl) ah))))) (fB (bH (qY ug ug ak (aK cU rfl q13 PySem.boot_len (aa (dF dJ (ae 3 (pv 3)) ak (fun _ _=>rfl)) ah)) (gw rfl q30)))))) (ar (aH cG)) aR)
  (ao (zo rfl jC.nd rfl rfl rfl (by decide) (by decide) (by decide) rfl rfl rfl (aa (aK cU rfl q13 PySem.boot_len (aa (ae 0 (pv 0)) ah)) (aa (aK cU rfl q13 PySem.boot_len (aa (dF dJ (ae 3 (pv 3)) ak (fun _ _=>rfl)) ah)) (aa (aK cU rfl q13 PySem.boot_len (aa (ae 3 (pv 3)) ah)) ah))) rfl)
  (ar (aH (cz (aE q29 hr rfl (aa (ae 0 (pv 0)) (aa (ae 4 (pv 4)) (aa (ae 4 (pv 4)) ah))) (ag (ag (ag av)))) (cz (aE q29 hr rfl (aa (ae 1 (pv 1)) (aa (ae 4 (pv 4)) (aa (ae 5 (pv 5)) ah))) (ag (ag (ag av)))) (cz (aE q29 hr rfl (aa (ae 2 (pv 2)) (aa (ae 6 (pv 6)) (aa (ae 4 (pv 4)) ah))) (ag (ag (ag av)))) (gP (aE q29 hr rfl (aa (ae 3 (pv 3)) (aa (ae 6 (pv 6)) (aa (ae 5 (pv 5)) ah))) (ag (ag (ag av)))))))))))))
abbrev Dh:Stmt:=top 62
abbrev dP:Stmt:=inClass (top 64) 0
def gj:FS:=
  (aZ (fC (.bl false)))
theorem jz:aA ["self"] ["self"] (aj dP):=by walk_at "sc"
theorem dm {C:Addr}(F:dM K "found" "Finding.found" dP f fd)(hb:Binds K fd ["self"] [])(cl:dA K C)(hm:Meth K C "found" f):
  bI P w K mg base (k+1) C "found" 1 (bX 1 1 (gj)):=
 dh F jz hb cl hm fun cdv A outer s H E hr=>(ar (aH cG))
abbrev cQ:Stmt:=inClass (top 64) 1
def cM (q32 q33 q34 q35 q36:Addr)(q37:List T->Option T)(dM_Finding__holds dM_Inputs__holds dM_Unmoved__holds dM_Sums__holds dM_Unseen__holds:List T->Option T):FS:=
  (aL (qb (aq q37 (af (ai 1) (bp 2))))
  (aZ (cS [(q32,dM_Finding__holds),(q33,dM_Inputs__holds),(q34,dM_Unmoved__holds),(q35,dM_Sums__holds),(q36,dM_Unseen__holds)] "holds" (ai 0) (af (ai 1) (bp 2)))))
theorem fP:aA ["self","system","aim"] ["self","system","aim"] (aj cQ):=by walk_at "sc"
theorem bK {C:Addr}(F:dM K "shows" "Finding.shows" cQ f fd)(hb:Binds K fd ["self","system","aim"] [])(cl:dA K C)(hm:Meth K C "shows" f)(q38:Def P w K mg base k "refuse_aim" 2 q37)(DM_holds:∀a∈[(q32,dM_Finding__holds),(q33,dM_Inputs__holds),(q34,dM_Unmoved__holds),(q35,dM_Sums__holds),(q36,dM_Unseen__holds)],bI P w K mg base k a.1 "holds" 3 a.2):
  bI P w K mg base (k+1) C "shows" 3 (bX 3 3 (cM q32 q33 q34 q35 q36 q37 dM_Finding__holds dM_Inputs__holds dM_Unmoved__holds dM_Sums__holds dM_Unseen__holds)):=
 dh F fP hb cl hm fun cdv A outer s H E hr=>(ao (zm (aE q38 hr rfl (aa (ae 1 (pv 1)) (aa (ae 2 (pv 2)) ah)) (ag (ag av))))
  (ar (aH (uo DM_holds hr (ae 0 (pv 0)) (aa (ae 1 (pv 1)) (aa (ae 2 (pv 2)) ah)) (fun τ ts τ' e=>congrArg (· + 1) ((ag (ag av)) τ ts τ' e))))))
def fK (q39:List T->Option XI):FX:=
  (gH q39 (af (ai 1) (bp 2)))
theorem bA {C:Addr}(F:dM K "shows" "Finding.shows" cQ f fd)(hb:Binds K fd ["self","system","aim"] [])(cl:dA K C)(hm:Meth K C "shows" f)(q40:iG P w K mg base k "refuse_aim" 2 q39):
  gQ P w K mg base (k+1) C "shows" 3 (jn 3 3 (fK q39)):=
 wV F fP hb cl hm fun cdv A outer s H E hr=>(gC (lp (pQ (fun _ _ z=>z) q40 hr rfl (aa (ae 1 (pv 1)) (aa (ae 2 (pv 2)) ah)) (ag (ag av)))))
abbrev dQ:Stmt:=inClass (top 64) 2
def gk:FS:=
  (aZ (fC (.bl false)))
theorem jA:aA ["self","system","aim"] ["self","system","aim"] (aj dQ):=by walk_at "sc"
theorem iY {C:Addr}(F:dM K "holds" "Finding.holds" dQ f fd)(hb:Binds K fd ["self","system","aim"] [])(cl:dA K C)(hm:Meth K C "holds" f):
  bI P w K mg base (k+1) C "holds" 3 (bX 3 3 (gk)):=
 dh F jA hb cl hm fun cdv A outer s H E hr=>(ar (aH cG))
abbrev dq:Stmt:=inClass (top 65) 0
def bZ:Addr->FI:=
  (qf "sent" (ai 1)
  uU)
theorem iH:aA ["self","sent"] ["self","sent"] (aj dq):=by walk_at "sc"
theorem sv {C:Addr}{cx:Str}(F:dM K "__init__" "Inputs.__init__" dq f fd)(hb:Binds K fd ["self","sent"] [])(cl:dA K C)(M:Mk K C f)(hm:mg cx=some (.ref C))(q41:bg K C "sent"):
  gh P w K mg base (k+2) cx C 1 (dI 2 1 (bZ)):=
 jt F iH hb M hm rfl fun cdv A outer s H E hr=>(jF cl q41 (pv 0) (ae 1 (pv 1))
  jG)
abbrev eE:Stmt:=inClass (top 65) 1
def gR:FS:=
  (aZ (fC (.bl true)))
theorem kj:aA ["self"] ["self"] (aj eE):=by walk_at "sc"
theorem ju {C:Addr}(F:dM K "found" "Inputs.found" eE f fd)(hb:Binds K fd ["self"] [])(cl:dA K C)(hm:Meth K C "found" f):
  bI P w K mg base (k+1) C "found" 1 (bX 1 1 (gR)):=
 dh F kj hb cl hm fun cdv A outer s H E hr=>(ar (aH cG))
abbrev eG:Stmt:=inClass (top 65) 2
def cZ (q27 q33:Addr)(q28 q42 q43:List T->Option T)(dM_System__cells dM_System__ins:List T->Option T):FS:=
  (aL (bz (bU (cm (aq q28 (af (fG [q33] "sent" (ai 0)) (af (cS [(q27,dM_System__cells)] "cells" (ai 1) az) (af (cS [(q27,dM_System__ins)] "ins" (ai 1) az) az)))))) (aZ (fC (.bl false))) aX)
  (aL (uN (aq q43 (af (ai 1) (af (aq q42 (bp 1)) (af (fG [q33] "sent" (ai 0)) az)))) (kC (di (aI 3) (di (aI 4) kB))))
  (aZ (aJ jg (ai 4) (ai 2)))))
theorem dU:aA ["self","system","aim","outputs","end"] ["self","system","aim"] (aj eG):=by walk_at "sc"
theorem jv {C:Addr}(F:dM K "holds" "Inputs.holds" eG f fd)(hb:Binds K fd ["self","system","aim"] [])(cl:dA K C)(hm:Meth K C "holds" f)(q29:Def P w K mg base k "is_table" 3 q28)(q44:Def P w K mg base k "rest" 1 q42)(q45:Def P w K mg base k "run" 3 q43)(DM_cells:∀a∈[(q27,dM_System__cells)],bI P w K mg base k a.1 "cells" 1 a.2)(DM_ins:∀a∈[(q27,dM_System__ins)],bI P w K mg base k a.1 "ins" 1 a.2)(hf_sent:∀C∈[q33],dA K C/\bg K C "sent"):
  bI P w K mg base (k+1) C "holds" 3 (bX 5 3 (cZ q27 q33 q28 q42 q43 dM_System__cells dM_System__ins)):=
 dh F dU hb cl hm fun cdv A outer s H E hr=>(ao (bT (bH (bN (aE q29 hr rfl (aa (cL hf_sent (ae 0 (pv 0))) (aa (cX DM_cells hr (ae 1 (pv 1))) (aa (cX DM_ins hr (ae 1 (pv 1))) ah))) (ag (ag (ag av)))))) (ar (aH cG)) aR)
  (ao (sJ (aE q45 hr rfl (aa (ae 1 (pv 1)) (aa (aE q44 hr rfl (aa (ae 1 (pv 1)) ah) (ag av)) (aa (cL hf_sent (ae 0 (pv 0))) ah))) (ag (ag (ag av)))) (pO rfl (dG (bh 3 dU.nd rfl (Or.inl rfl)) (dG (bh 4 dU.nd rfl (Or.inl rfl)) ll)) (eR (eR oB))))
  (ar (aH (fA (ik hr.units) (ae 4 (pv 4)) (ae 2 (pv 2)) (bf _))))))
abbrev cW:Stmt:=inClass (top 66) 0
def bV:Addr->FI:=
  (qf "weights" (ai 1)
  uU)
theorem ir:aA ["self","weights"] ["self","weights"] (aj cW):=by walk_at "sc"
theorem qE {C:Addr}{cx:Str}(F:dM K "__init__" "Unmoved.__init__" cW f fd)(hb:Binds K fd ["self","weights"] [])(cl:dA K C)(M:Mk K C f)(hm:mg cx=some (.ref C))(q46:bg K C "weights"):
  gh P w K mg base (k+2) cx C 1 (dI 2 1 (bV)):=
 jt F ir hb M hm rfl fun cdv A outer s H E hr=>(jF cl q46 (pv 0) (ae 1 (pv 1))
  jG)
abbrev dS:Stmt:=inClass (top 66) 1
def cO (q27 q47 q34:Addr)(q20 q48 q49 q50 q51:List T->Option T)(dM_System__cells dM_System__ins:List T->Option T):FS:=
  (aL (bJ 3 (cS [(q27,dM_System__cells)] "cells" (ai 1) az))
  (aL (bz (bU (cm (aq q20 (af (fG [q47,q34] "weights" (ai 0)) (bp 3))))) (aZ (fC (.bl false))) aX)
  (aL (bJ 4 (aJ fH (aq q49 (af (bG (af (fG [q47,q34] "weights" (ai 0)) az)) (af (aq q48 (bp 1)) (af (aJ fu (ai 3) (cS [(q27,dM_System__ins)] "ins" (ai 1) az)) az)))) (aQ 0)))
  (aZ (bY (aq q50 (bp 4)) (aJ xV (aq q51 (af (fG [q47,q34] "weights" (ai 0)) (bp 2))) (fC (.tup [.int (0),.int (1)]))))))))
theorem dE:aA ["self","system","aim","cells","moved"] ["self","system","aim"] (aj dS):=by walk_at "sc"
theorem iZ {C:Addr}(F:dM K "holds" "Unmoved.holds" dS f fd)(hb:Binds K fd ["self","system","aim"] [])(cl:dA K C)(hm:Meth K C "holds" f)(q21:Def P w K mg base k "is_row" 2 q20)(q52:Def P w K mg base k "reach_table" 1 q48)(q53:Def P w K mg base k "product" 3 q49)(q54:Def P w K mg base k "is_nought" 1 q50)(q55:Def P w K mg base k "weighed" 2 q51)(DM_cells:∀a∈[(q27,dM_System__cells)],bI P w K mg base k a.1 "cells" 1 a.2)(DM_ins:∀a∈[(q27,dM_System__ins)],bI P w K mg base k a.1 "ins" 1 a.2)(hf_weights:∀C∈[q47,q34],dA K C/\bg K C "weights")(q56:mg "NOUGHT" = some (.ref q57))(q58:K.lookup q57=some ⟨.type "tuple", q59,.seq #[.int (0) q60,.int (1) q61] q62,q63⟩):
  bI P w K mg base (k+1) C "holds" 3 (bX 5 3 (cO q27 q47 q34 q20 q48 q49 q50 q51 dM_System__cells dM_System__ins)):=
 dh F dE hb cl hm fun cdv A outer s H E hr=>(ao (aT 3 dE.nd rfl (Or.inl rfl) (cX DM_cells hr (ae 1 (pv 1))))
  (ao (bT (bH (bN (aE q21 hr rfl (aa (cL hf_weights (ae 0 (pv 0))) (aa (ae 3 (pv 3)) ah)) (ag (ag av))))) (ar (aH cG)) aR)
  (ao (aT 4 dE.nd rfl (Or.inl rfl) (dF dJ (aE q53 hr rfl (aa (aN (aa (cL hf_weights (ae 0 (pv 0))) ah)) (aa (aE q52 hr rfl (aa (ae 1 (pv 1)) ah) (ag av)) (aa (ay gN (ae 3 (pv 3)) (cX DM_ins hr (ae 1 (pv 1)))) ah))) (ag (ag (ag av)))) ak (fun _ _=>rfl)))
  (ar (aH (cz (aE q54 hr rfl (aa (ae 4 (pv 4)) ah) (ag av)) (gP (fA (nP hr.units) (aE q55 hr rfl (aa (cL hf_weights (ae 0 (pv 0))) (aa (ae 2 (pv 2)) ah)) (ag (ag av))) (qU rfl q56 q58) (bf _)))))))))
abbrev eW:Stmt:=top 67
def eP (q27:Addr)(q20:List T->Option T)(dM_System__cells:List T->Option T):FS:=
  (bz (bU (cm (aq q20 (af (ai 1) (af (cS [(q27,dM_System__cells)] "cells" (ai 0) az) az))))) gJ aX)
theorem iR:aA ["system","aim"] ["system","aim"] (aj eW):=by walk_at "sc"
theorem m9 (F:dM K "refuse_aim" "refuse_aim" eW f fd)(hb:Binds K fd ["system","aim"] [])(hm:mg "refuse_aim" = some (.ref f))(q21:Def P w K mg base k "is_row" 2 q20)(DM_cells:∀a∈[(q27,dM_System__cells)],bI P w K mg base k a.1 "cells" 1 a.2):
  Def P w K mg base (k+1) "refuse_aim" 2 (bX 2 2 (eP q27 q20 dM_System__cells)):=
 cV F iR hb hm fun cdv A outer s H E hr=>(ar (bT (bH (bN (aE q21 hr rfl (aa (ae 1 (pv 1)) (aa (cX DM_cells hr (ae 0 (pv 0))) ah)) (ag (ag av))))) (ar jH) aR))
def ee (q27 q64:Addr)(q20:List T->Option T)(dM_System__cells:List T->Option T):FX:=
  (Au (bU (cm (aq q20 (af (ai 1) (af (cS [(q27,dM_System__cells)] "cells" (ai 0) az) az))))) (vW q64 (af (fC (.str "there is not a fraction for each cell")) az)) Cn)
theorem mh (F:dM K "refuse_aim" "refuse_aim" eW f fd)(hb:Binds K fd ["system","aim"] [])(hm:mg "refuse_aim" = some (.ref f))(q21:Def P w K mg base k "is_row" 2 q20)(DM_cells:∀a∈[(q27,dM_System__cells)],bI P w K mg base k a.1 "cells" 1 a.2)(er_NoFit:rd K q64 q65 none)(q66:mg "NoFit" = some (.ref q64)):
  iG P w K mg base (k+1) "refuse_aim" 2 (jn 2 2 (ee q27 q64 q20 dM_System__cells)):=
 ou F iR hb hm fun cdv A outer s H E hr=>(gC (Dm (fun _ _ z=>z) (bH (bN (aE q21 hr rfl (aa (ae 1 (pv 1)) (aa (cX DM_cells hr (ae 0 (pv 0))) ah)) (ag (ag av))))) (gC (xE rfl (fun _ _ z=>z) er_NoFit rfl q66 (aa kn ah))) By))
abbrev Bs:Stmt:=top 68
abbrev ng:Stmt:=top 69
abbrev kh:Stmt:=top 70
theorem sE:aA ["system","aim","cells","ins","answer"] ["system","aim"] (aj kh):=by walk_at "sc"
def lI (q39:List T->Option XI):FX:=
  (gH q39 (af (ai 0) (bp 1)))
theorem qF (F:dM K "steered" "steered" kh f fd)(hb:Binds K fd ["system","aim"] [])(hm:mg "steered" = some (.ref f))(q40:iG P w K mg base k "refuse_aim" 2 q39):
  iG P w K mg base (k+1) "steered" 2 (jn 5 2 (lI q39)):=
 ou F sE hb hm fun cdv A outer s H E hr=>(gC (lp (pQ (fun _ _ z=>z) q40 hr rfl (aa (ae 0 (pv 0)) (aa (ae 1 (pv 1)) ah)) (ag (ag av)))))
abbrev dR:Stmt:=inClass (top 72) 0
def cN:Addr->FI:=
  (qf "sums" (ai 1)
  uU)
theorem jB:aA ["self","sums"] ["self","sums"] (aj dR):=by walk_at "sc"
theorem w5 {C:Addr}{cx:Str}(F:dM K "__init__" "Sums.__init__" dR f fd)(hb:Binds K fd ["self","sums"] [])(cl:dA K C)(M:Mk K C f)(hm:mg cx=some (.ref C))(q67:bg K C "sums"):
  gh P w K mg base (k+2) cx C 1 (dI 2 1 (cN)):=
 jt F jB hb M hm rfl fun cdv A outer s H E hr=>(jF cl q67 (pv 0) (ae 1 (pv 1))
  jG)
abbrev fV:Stmt:=inClass (top 72) 1
def iM:FS:=
  (aZ (fC (.bl true)))
theorem mD:aA ["self"] ["self"] (aj fV):=by walk_at "sc"
theorem kP {C:Addr}(F:dM K "found" "Sums.found" fV f fd)(hb:Binds K fd ["self"] [])(cl:dA K C)(hm:Meth K C "found" f):
  bI P w K mg base (k+1) C "found" 1 (bX 1 1 (iM)):=
 dh F mD hb cl hm fun cdv A outer s H E hr=>(ar (aH cG))
theorem gq:(["row","number"]:List Str).Nodup:=by decide +kernel
abbrev fW:Stmt:=inClass (top 72) 2
def dY (q27 q35:Addr)(q28 q68 q49:List T->Option T)(dM_System__cells dM_System__outs:List T->Option T):FS:=
  (aL (bJ 3 (cS [(q27,dM_System__cells)] "cells" (ai 1) az))
  (aL (bz (bU (cm (aq q28 (af (fG [q35] "sums" (ai 0)) (af (ai 3) (af (cS [(q27,dM_System__outs)] "outs" (ai 1) az) az)))))) (aZ (fC (.bl false))) aX)
  (aL (nE 4 2 [] (cT (fG [q35] "sums" (ai 0))) (aI 0) (cT (ai 0)) (aI 1) (ai 1))
  (aZ (aJ jg (aJ fH (aq q49 (af (bG (bp 4)) (af (aq q68 (bp 1)) (bp 3)))) (aQ 0)) (ai 2))))))
theorem fy:aA ["self","system","aim","cells","joint"] ["self","system","aim"] (aj fW):=by walk_at "sc"
theorem kQ {C:Addr}(F:dM K "holds" "Sums.holds" fW f fd)(hb:Binds K fd ["self","system","aim"] [])(cl:dA K C)(hm:Meth K C "holds" f)(q29:Def P w K mg base k "is_table" 3 q28)(q69:Def P w K mg base k "tell_table" 1 q68)(q53:Def P w K mg base k "product" 3 q49)(DM_cells:∀a∈[(q27,dM_System__cells)],bI P w K mg base k a.1 "cells" 1 a.2)(DM_outs:∀a∈[(q27,dM_System__outs)],bI P w K mg base k a.1 "outs" 1 a.2)(hf_sums:∀C∈[q35],dA K C/\bg K C "sums"):
  bI P w K mg base (k+1) C "holds" 3 (bX 5 3 (dY q27 q35 q28 q68 q49 dM_System__cells dM_System__outs)):=
 dh F fy hb cl hm fun cdv A outer s H E hr=>(ao (aT 3 fy.nd rfl (Or.inl rfl) (cX DM_cells hr (ae 1 (pv 1))))
  (ao (bT (bH (bN (aE q29 hr rfl (aa (cL hf_sums (ae 0 (pv 0))) (aa (ae 3 (pv 3)) (aa (cX DM_outs hr (ae 1 (pv 1))) ah))) (ag (ag (ag av)))))) (ar (aH cG)) aR)
  (ao (qW 4 fy.nd rfl rfl (N':=["row","number"]) (no:=2) (cap:=[]) rfl (cH rfl) rfl (hW rfl) (eK (cL hf_sums (ae 0 (pv 0)))) (fun _ _ _ _ _ _=>(bh 0 gq rfl (Or.inl rfl))) (fun _ _ _ _ _ _=>(eK (ae 0 (pv 0)))) (fun _ _ _ _ _ _=>(bh 1 gq rfl (Or.inl rfl))) (fun _ _ _ _ _ _=>(ae 1 (pv 1))))
  (ar (aH (fA (ik hr.units) (dF dJ (aE q53 hr rfl (aa (aN (aa (ae 4 (pv 4)) ah)) (aa (aE q69 hr rfl (aa (ae 1 (pv 1)) ah) (ag av)) (aa (ae 3 (pv 3)) ah))) (ag (ag (ag av)))) ak (fun _ _=>rfl)) (ae 2 (pv 2)) (bf _)))))))
abbrev du:Stmt:=inClass (top 73) 0
def cj:Addr->FI:=
  (qf "state" (ai 1)
  uU)
theorem iJ:aA ["self","state"] ["self","state"] (aj du):=by walk_at "sc"
theorem sA {C:Addr}{cx:Str}(F:dM K "__init__" "Unseen.__init__" du f fd)(hb:Binds K fd ["self","state"] [])(cl:dA K C)(M:Mk K C f)(hm:mg cx=some (.ref C))(q70:bg K C "state"):
  gh P w K mg base (k+2) cx C 1 (dI 2 1 (cj)):=
 jt F iJ hb M hm rfl fun cdv A outer s H E hr=>(jF cl q70 (pv 0) (ae 1 (pv 1))
  jG)
abbrev eI:Stmt:=inClass (top 73) 1
def df (q27 q36:Addr)(q20 q68 q71 q50 q51:List T->Option T)(dM_System__cells:List T->Option T):FS:=
  (aZ (bY (aq q20 (af (fG [q36] "state" (ai 0)) (af (cS [(q27,dM_System__cells)] "cells" (ai 1) az) az))) (bY (aq q50 (af (aq q71 (af (aq q68 (bp 1)) (af (fG [q36] "state" (ai 0)) az))) az)) (aJ xV (aq q51 (af (ai 2) (af (fG [q36] "state" (ai 0)) az))) (fC (.tup [.int (0),.int (1)]))))))
theorem km:aA ["self","system","aim"] ["self","system","aim"] (aj eI):=by walk_at "sc"
theorem jx {C:Addr}(F:dM K "holds" "Unseen.holds" eI f fd)(hb:Binds K fd ["self","system","aim"] [])(cl:dA K C)(hm:Meth K C "holds" f)(q21:Def P w K mg base k "is_row" 2 q20)(q69:Def P w K mg base k "tell_table" 1 q68)(q72:Def P w K mg base k "applied" 2 q71)(q54:Def P w K mg base k "is_nought" 1 q50)(q55:Def P w K mg base k "weighed" 2 q51)(DM_cells:∀a∈[(q27,dM_System__cells)],bI P w K mg base k a.1 "cells" 1 a.2)(hf_state:∀C∈[q36],dA K C/\bg K C "state")(q56:mg "NOUGHT" = some (.ref q57))(q58:K.lookup q57=some ⟨.type "tuple", q59,.seq #[.int (0) q60,.int (1) q61] q62,q63⟩):
  bI P w K mg base (k+1) C "holds" 3 (bX 3 3 (df q27 q36 q20 q68 q71 q50 q51 dM_System__cells)):=
 dh F km hb cl hm fun cdv A outer s H E hr=>(ar (aH (cz (aE q21 hr rfl (aa (cL hf_state (ae 0 (pv 0))) (aa (cX DM_cells hr (ae 1 (pv 1))) ah)) (ag (ag av))) (cz (aE q54 hr rfl (aa (aE q72 hr rfl (aa (aE q69 hr rfl (aa (ae 1 (pv 1)) ah) (ag av)) (aa (cL hf_state (ae 0 (pv 0))) ah)) (ag (ag av))) ah) (ag av)) (gP (fA (nP hr.units) (aE q55 hr rfl (aa (ae 2 (pv 2)) (aa (cL hf_state (ae 0 (pv 0))) ah)) (ag (ag av))) (qU rfl q56 q58) (bf _)))))))
abbrev pK:Stmt:=top 74
abbrev ki:Stmt:=top 76
theorem sG:aA ["system","weights","cells","outs","answer"] ["system","weights"] (aj ki):=by walk_at "sc"
def lJ (q39:List T->Option XI):FX:=
  (gH q39 (af (ai 0) (bp 1)))
theorem qG (F:dM K "told_by" "told_by" ki f fd)(hb:Binds K fd ["system","weights"] [])(hm:mg "told_by" = some (.ref f))(q40:iG P w K mg base k "refuse_aim" 2 q39):
  iG P w K mg base (k+1) "told_by" 2 (jn 5 2 (lJ q39)):=
 ou F sG hb hm fun cdv A outer s H E hr=>(gC (lp (pQ (fun _ _ z=>z) q40 hr rfl (aa (ae 0 (pv 0)) (aa (ae 1 (pv 1)) ah)) (ag (ag av)))))
abbrev ip:Stmt:=top 78
def fI:FS:=
  (aL (bz (fL (aJ BM (ai 1) (aq dz (bp 0)))) (aZ (aJ fH (ai 0) (ai 1))) aX)
  (aZ (aJ bR (aJ fu (aJ bQ (ai 1) (aQ 2)) (aQ 104729)) (aQ 65537))))
theorem pL:aA ["_law_script","_law_k"] ["_law_script","_law_k"] (aj ip):=by walk_at "sc"
theorem pB (F:dM K "_law_cell" "_law_cell" ip f fd)(hb:Binds K fd ["_law_script","_law_k"] [])(hm:mg "_law_cell" = some (.ref f))(q13:mg "len" = none):
  Def P w K mg base (k+1) "_law_cell" 2 (bX 2 2 (fI)):=
 cV F pL hb hm fun cdv A outer s H E hr=>(ao (bT (ck w8 (ae 1 (pv 1)) (aK cU rfl q13 PySem.boot_len (aa (ae 0 (pv 0)) ah)) (bf _)) (ar (aH (dF dJ (ae 0 (pv 0)) (ae 1 (pv 1)) (fun _ _=>rfl)))) aR)
  (ar (aH (ay cJ (ay gN (ay bu (ae 1 (pv 1)) ak) ak) ak))))
abbrev ja:Stmt:=top 79
def gD:FS:=
  (aL (bJ 2 (aJ bR (aJ bQ (aJ bQ (aJ fu (aJ bR (ai 0) (aQ 2147483647)) (aQ 48271)) (aJ fu (aQ 7919) (ai 1))) (aQ 13)) (aQ 2147483629)))
  (aL (bJ 2 (aJ bR (aJ bQ (aJ bQ (aJ fu (ai 2) (ai 2)) (aJ fu (aQ 104729) (ai 1))) (aQ 7)) (aQ 2147483587)))
  (aZ (aJ bR (aJ fu (ai 2) (ai 2)) (aQ 2147483579)))))
theorem iu:aA ["_law_cell_here","_law_k","_law_number_here"] ["_law_cell_here","_law_k"] (aj ja):=by walk_at "sc"
theorem qH (F:dM K "_law_mix" "_law_mix" ja f fd)(hb:Binds K fd ["_law_cell_here","_law_k"] [])(hm:mg "_law_mix" = some (.ref f)):
  Def P w K mg base (k+1) "_law_mix" 2 (bX 3 2 (gD)):=
 cV F iu hb hm fun cdv A outer s H E hr=>(ao (aT 2 iu.nd rfl (Or.inl rfl) (ay cJ (ay bu (ay bu (ay gN (ay cJ (ae 0 (pv 0)) ak) ak) (ay gN ak (ae 1 (pv 1)))) ak) ak))
  (ao (aT 2 iu.nd rfl (Or.inl rfl) (ay cJ (ay bu (ay bu (ay gN (ae 2 (pv 2)) (ae 2 (pv 2))) (ay gN ak (ae 1 (pv 1)))) ak) ak))
  (ar (aH (ay cJ (ay gN (ae 2 (pv 2)) (ae 2 (pv 2))) ak)))))
abbrev fY:Stmt:=top 80
def cw (q73:List T->Option T):FS:=
  (aL (bz (fL (aJ jg (aJ bR (aJ fq (ai 0) (aQ 228)) (aQ 2)) (aQ 1))) (aZ (ek (af (aQ 0) (af (aQ 1) az)))) aX)
  (aZ (aq q73 (af (aJ rR (aJ bR (ai 0) (aQ 19)) (aQ 9)) (af (aJ bQ (aQ 1) (aJ bR (aJ fq (ai 0) (aQ 19)) (aQ 12))) az)))))
theorem mF:aA ["_law_number_here"] ["_law_number_here"] (aj fY):=by walk_at "sc"
theorem mi (F:dM K "_law_number" "_law_number" fY f fd)(hb:Binds K fd ["_law_number_here"] [])(hm:mg "_law_number" = some (.ref f))(q74:Def P w K mg base k "frac" 2 q73):
  Def P w K mg base (k+1) "_law_number" 1 (bX 1 1 (cw q73)):=
 cV F mF hb hm fun cdv A outer s H E hr=>(ao (bT (ck (ik hr.units) (ay cJ (ay gM (ae 0 (pv 0)) ak) ak) ak (bf _)) (ar (aH (cF (aa ak (aa ak ah))))) aR)
  (ar (aH (aE q74 hr rfl (aa (ay pE (ay cJ (ae 0 (pv 0)) ak) ak) (aa (ay bu ak (ay cJ (ay gM (ae 0 (pv 0)) ak) ak)) ah)) (ag (ag av))))))
abbrev jc:Stmt:=top 81
def gE (q75 q76:List T->Option T):FS:=
  (aL (dg 2 az)
  (aL (bJ 3 (aJ fq (ai 0) (aQ 2)))
  (aL (jq (fm (bp 1)) (aI 4) (aL (bJ 5 (aJ bR (ai 3) (aQ 456)))
  (aL (bJ 3 (aJ fq (ai 3) (aQ 456)))
  (aL (bz (fL (aJ jg (aJ bR (ai 0) (aQ 2)) (aQ 0))) (bJ 5 (aJ bR (aq q75 (af (aJ fq (ai 0) (aQ 2)) (bp 4))) (aQ 456))) aX)
  (oA 2 (aq q76 (bp 5)))))))
  (aZ (ai 2)))))
theorem cK:aA ["_law_cell_here","_law_many","_law_row_here","_law_left","_law_k","_law_number_here"] ["_law_cell_here","_law_many"] (aj jc):=by walk_at "sc"
theorem qJ (F:dM K "_law_row" "_law_row" jc f fd)(hb:Binds K fd ["_law_cell_here","_law_many"] [])(hm:mg "_law_row" = some (.ref f))(q77:Def P w K mg base k "_law_mix" 2 q75)(q78:Def P w K mg base k "_law_number" 1 q76)(q79:mg "range" = none):
  Def P w K mg base (k+1) "_law_row" 2 (bX 6 2 (gE q75 q76)):=
 cV F cK hb hm fun cdv A outer s H E hr=>(ao (gz 2 cK.nd rfl (Or.inl rfl) ah)
  (ao (aT 3 cK.nd rfl (Or.inl rfl) (ay gM (ae 0 (pv 0)) ak))
  (ao (jf PassesOwn.never rfl (pP rfl q79 (aa (ae 1 (pv 1)) ah)) (bh 4 cK.nd rfl (Or.inl rfl)) (ao (aT 5 cK.nd rfl (Or.inl rfl) (ay cJ (ae 3 (pv 3)) ak))
  (ao (aT 3 cK.nd rfl (Or.inl rfl) (ay gM (ae 3 (pv 3)) ak))
  (ao (bT (ck (ik hr.units) (ay cJ (ae 0 (pv 0)) ak) ak (bf _)) (ar (aT 5 cK.nd rfl (Or.inl rfl) (ay cJ (aE q77 hr rfl (aa (ay gM (ae 0 (pv 0)) ak) (aa (ae 4 (pv 4)) ah)) (ag (ag av))) ak))) aR)
  (ar (nU 2 (pv 2) (aE q78 hr rfl (aa (ae 5 (pv 5)) ah) (ag av))))))))
  (ar (aH (ae 2 (pv 2)))))))
theorem jY:(["_law_k","_law_script","_law_at","_law_wide"]:List Str).Nodup:=by decide +kernel
abbrev fZ:Stmt:=top 82
def dZ (q80 q81:List T->Option T):FS:=
  (aL (bJ 2 (aq q80 (af (ai 0) (bp 1))))
  (aL (bJ 3 (aJ fH (bG (af (aQ 2) (af (aQ 1) (af (aQ 3) (af (aQ 2) (af (aQ 0) (af (aQ 3) (af (aQ 1) (af (aQ 4) az))))))))) (aJ bR (ai 2) (aQ 8))))
  (aL (bJ 4 (aJ bQ (aQ 1) (aJ bR (aJ fq (ai 2) (aQ 8)) (aQ 2))))
  (aL (bJ 5 (aJ bQ (aQ 1) (aJ bR (aJ fq (ai 2) (aQ 16)) (aQ 2))))
  (aL (dg 6 az)
  (aL (bJ 7 (aJ bQ (ai 1) (aQ 1)))
  (aL (jq (cT (bG (af (ek (af (ai 3) (bp 3))) (af (ek (af (ai 3) (bp 4))) (af (ek (af (ai 5) (bp 3))) (af (ek (af (ai 5) (bp 4))) az)))))) (kC (di (aI 8) (di (aI 9) kB))) (aL (oA 6 (fj 1 [0,7,9] (fm (bp 8)) (aI 0) bF (aq q81 (af (aq q80 (af (ai 1) (af (aJ bQ (ai 2) (ai 0)) az))) (bp 3)))))
  (bJ 7 (aJ bQ (ai 7) (ai 8)))))
  (aZ (ai 6)))))))))
theorem aW:aA ["_law_script","_law_start","_law_first","_law_many","_law_ins","_law_outs","_law_found","_law_at","_law_rows","_law_wide"] ["_law_script","_law_start"] (aj fZ):=by walk_at "sc"
theorem mj (F:dM K "_law_tables" "_law_tables" fZ f fd)(hb:Binds K fd ["_law_script","_law_start"] [])(hm:mg "_law_tables" = some (.ref f))(q82:Def P w K mg base k "_law_cell" 2 q80)(q83:Def P w K mg base k "_law_row" 2 q81)(q79:mg "range" = none):
  Def P w K mg base (k+1) "_law_tables" 2 (bX 10 2 (dZ q80 q81)):=
 cV F aW hb hm fun cdv A outer s H E hr=>(ao (aT 2 aW.nd rfl (Or.inl rfl) (aE q82 hr rfl (aa (ae 0 (pv 0)) (aa (ae 1 (pv 1)) ah)) (ag (ag av))))
  (ao (aT 3 aW.nd rfl (Or.inl rfl) (dF dJ (aN (aa ak (aa ak (aa ak (aa ak (aa ak (aa ak (aa ak (aa ak ah))))))))) (ay cJ (ae 2 (pv 2)) ak) (fun _ _=>rfl)))
  (ao (aT 4 aW.nd rfl (Or.inl rfl) (ay bu ak (ay cJ (ay gM (ae 2 (pv 2)) ak) ak)))
  (ao (aT 5 aW.nd rfl (Or.inl rfl) (ay bu ak (ay cJ (ay gM (ae 2 (pv 2)) ak) ak)))
  (ao (gz 6 aW.nd rfl (Or.inl rfl) ah)
  (ao (aT 7 aW.nd rfl (Or.inr rfl) (ay bu (ae 1 (pv 1)) ak))
  (ao (jf PassesOwn.never rfl (eK (aN (aa (cF (aa (ae 3 (pv 3)) (aa (ae 3 (pv 3)) ah))) (aa (cF (aa (ae 3 (pv 3)) (aa (ae 4 (pv 4)) ah))) (aa (cF (aa (ae 5 (pv 5)) (aa (ae 3 (pv 3)) ah))) (aa (cF (aa (ae 5 (pv 5)) (aa (ae 4 (pv 4)) ah))) ah)))))) (pO rfl (dG (bh 8 aW.nd rfl (Or.inl rfl)) (dG (bh 9 aW.nd rfl (Or.inr rfl)) ll)) (eR (eR oB))) (ao (nU 6 (pv 6) (iB (N':=["_law_k","_law_script","_law_at","_law_wide"]) (no:=1) (cap:=[0,7,9]) rfl rfl (cH rfl) rfl (hW rfl) (pP rfl q79 (aa (ae 8 (pv 8)) ah)) (fun _ _ _ _ _ _=>(bh 0 jY rfl (Or.inl rfl))) (fun _ _ _ _ _ _=>iF) (fun _ _ _ _ _ _=>(aE q83 hr rfl (aa (aE q82 hr rfl (aa (ae 1 (pv 1)) (aa (ay bu (ae 2 (pv 2)) (ae 0 (pv 0))) ah)) (ag (ag av))) (aa (ae 3 (pv 3)) ah)) (ag (ag av))))))
  (ar (aT 7 aW.nd rfl (Or.inr rfl) (ay bu (ae 7 (pv 7)) (ae 8 (pv 8)))))))
  (ar (aH (ae 6 (pv 6)))))))))))
theorem jZ:(["_law_row_here","_law_zero","_law_wide"]:List Str).Nodup:=by decide +kernel
abbrev gc:Stmt:=top 83
def iO:FS:=
  (aL (bJ 3 (ek (af (aQ 0) (af (aQ 1) az))))
  (aL (dg 4 (af (fC .non) (af (aQ 7) (af (fC (.str "rows")) (af yo (af (aq ff (af (fj 1 [3,1] (fm (bp 0)) (aI 0) bF (aq ff (af (aJ cP (bG (bp 1)) (ai 2)) az))) az)) (af (aJ cP (bG (af (aJ cP (bG (bp 3)) (ai 1)) az)) (aJ bQ (ai 0) (aQ 1))) az)))))))
  (aL (bJ 4 (aJ bQ (ai 4) (bG (af (aJ cP (bG (af (aJ cP (bG (bp 3)) (aJ bQ (ai 1) (aQ 1))) az)) (aJ bQ (ai 0) (aQ 1))) (af (aJ cP (bG (af (aJ cP (bG (af (aQ 0) az)) (ai 1)) az)) (aJ bQ (ai 0) (aQ 1))) (af (aJ cP (bG (af (aJ cP (bG (af (ek (af (aQ 0) (af (aQ 2) az))) az)) (ai 1)) az)) (aJ bQ (ai 0) (aQ 1))) az))))))
  (aL (bJ 4 (aJ bQ (ai 4) (bG (af (aJ cP (bG (bp 3)) (aJ bQ (ai 2) (aQ 1))) (af (aJ tW (ek (bp 3)) (aJ bQ (ai 2) (aQ 1))) (af (bG (af (aJ cP (bG (bp 3)) (aJ bQ (ai 2) (aQ 3))) az)) (af (aJ cP (bG (af (fC (.bl true)) az)) (aJ bQ (ai 2) (aQ 1))) az)))))))
  (aL (bz (fL (aJ xU (ai 0) (aQ 0))) (aL (bJ 4 (aJ bQ (ai 4) (bG (af (aJ cP (bG (af (aJ cP (bG (bp 3)) (ai 1)) az)) (aJ rR (ai 0) (aQ 1))) (af (aJ cP (bG (af (aJ cP (bG (af (aQ 0) az)) (ai 1)) az)) (ai 0)) (af (aJ cP (bG (af (aJ cP (bG (af (ek (af (aQ 0) (af (aQ 2) az))) az)) (ai 1)) az)) (ai 0)) (af (aJ cP (bG (af (fC .non) az)) (ai 0)) az)))))))
  (bJ 4 (aJ bQ (ai 4) (bG (af (aJ cP (bG (af (aQ 0) az)) (ai 2)) (af (aJ cP (bG (af (ek (af (aQ 2) (af (aQ 4) az))) az)) (ai 2)) (af (aJ cP (bG (bp 3)) (aJ rR (ai 2) (aQ 1))) (af (aJ cP (bG (af (ek (af (ai 3) (bp 3))) az)) (ai 2)) az)))))))) aX)
  (aZ (ai 4)))))))
theorem bL:aA ["_law_rows","_law_wide","_law_many","_law_zero","_law_some"] ["_law_rows","_law_wide","_law_many"] (aj gc):=by walk_at "sc"
theorem ml (F:dM K "_law_things" "_law_things" gc f fd)(hb:Binds K fd ["_law_rows","_law_wide","_law_many"] [])(hm:mg "_law_things" = some (.ref f))(q79:mg "range" = none)(q12:mg "tuple" = none):
  Def P w K mg base (k+1) "_law_things" 3 (bX 5 3 (iO)):=
 cV F bL hb hm fun cdv A outer s H E hr=>(ao (aT 3 bL.nd rfl (Or.inr rfl) (cF (aa ak (aa ak ah))))
  (ao (gz 4 bL.nd rfl (Or.inl rfl) (aa mG (aa ak (aa kn (aa xq (aa (gu ie rfl q12 rfl (aa (iB (N':=["_law_row_here","_law_zero","_law_wide"]) (no:=1) (cap:=[3,1]) rfl rfl (cH rfl) rfl (hW rfl) (pP rfl q79 (aa (ae 0 (pv 0)) ah)) (fun _ _ _ _ _ _=>(bh 0 jZ rfl (Or.inl rfl))) (fun _ _ _ _ _ _=>iF) (fun _ _ _ _ _ _=>(gu ie rfl q12 rfl (aa (ay aY (aN (aa (ae 1 (pv 1)) ah)) (ae 2 (pv 2))) ah)))) ah)) (aa (ay aY (aN (aa (ay aY (aN (aa (ae 3 (pv 3)) ah)) (ae 1 (pv 1))) ah)) (ay bu (ae 0 (pv 0)) ak)) ah)))))))
  (ao (aT 4 bL.nd rfl (Or.inl rfl) (ay bu (ae 4 (pv 4)) (aN (aa (ay aY (aN (aa (ay aY (aN (aa (ae 3 (pv 3)) ah)) (ay bu (ae 1 (pv 1)) ak)) ah)) (ay bu (ae 0 (pv 0)) ak)) (aa (ay aY (aN (aa (ay aY (aN (aa ak ah)) (ae 1 (pv 1))) ah)) (ay bu (ae 0 (pv 0)) ak)) (aa (ay aY (aN (aa (ay aY (aN (aa (cF (aa ak (aa ak ah))) ah)) (ae 1 (pv 1))) ah)) (ay bu (ae 0 (pv 0)) ak)) ah))))))
  (ao (aT 4 bL.nd rfl (Or.inl rfl) (ay bu (ae 4 (pv 4)) (aN (aa (ay aY (aN (aa (ae 3 (pv 3)) ah)) (ay bu (ae 2 (pv 2)) ak)) (aa (ay uh (cF (aa (ae 3 (pv 3)) ah)) (ay bu (ae 2 (pv 2)) ak)) (aa (aN (aa (ay aY (aN (aa (ae 3 (pv 3)) ah)) (ay bu (ae 2 (pv 2)) ak)) ah)) (aa (ay aY (aN (aa cG ah)) (ay bu (ae 2 (pv 2)) ak)) ah)))))))
  (ao (bT (ck qM (ae 0 (pv 0)) ak (bf _)) (ao (aT 4 bL.nd rfl (Or.inl rfl) (ay bu (ae 4 (pv 4)) (aN (aa (ay aY (aN (aa (ay aY (aN (aa (ae 3 (pv 3)) ah)) (ae 1 (pv 1))) ah)) (ay pE (ae 0 (pv 0)) ak)) (aa (ay aY (aN (aa (ay aY (aN (aa ak ah)) (ae 1 (pv 1))) ah)) (ae 0 (pv 0))) (aa (ay aY (aN (aa (ay aY (aN (aa (cF (aa ak (aa ak ah))) ah)) (ae 1 (pv 1))) ah)) (ae 0 (pv 0))) (aa (ay aY (aN (aa mG ah)) (ae 0 (pv 0))) ah)))))))
  (ar (aT 4 bL.nd rfl (Or.inl rfl) (ay bu (ae 4 (pv 4)) (aN (aa (ay aY (aN (aa ak ah)) (ae 2 (pv 2))) (aa (ay aY (aN (aa (cF (aa ak (aa ak ah))) ah)) (ae 2 (pv 2))) (aa (ay aY (aN (aa (ae 3 (pv 3)) ah)) (ay pE (ae 2 (pv 2)) ak)) (aa (ay aY (aN (aa (cF (aa (ae 3 (pv 3)) (aa (ae 3 (pv 3)) ah))) ah)) (ae 2 (pv 2))) ah))))))))) aR)
  (ar (aH (ae 4 (pv 4)))))))))
abbrev jb:Stmt:=top 84
def lG:FS:=
  (aL (bJ 1 (ek (af (aQ 0) (af (aQ 1) az))))
  (aL (dg 2 (af (fC .non) (af (fC (.str "aim")) (af (aJ cP (bG (bp 1)) (aJ bQ (ai 0) (aQ 1))) (af (aJ tW (ek (bp 1)) (ai 0)) (af yo (af (aQ 5) (af (bG (af (aJ cP (bG (bp 1)) (ai 0)) az)) az))))))))
  (aL (bz (fL (aJ xU (ai 0) (aQ 0))) (bJ 2 (aJ bQ (ai 2) (bG (af (aJ cP (bG (bp 1)) (aJ rR (ai 0) (aQ 1))) (af (aJ cP (bG (af (aQ 0) az)) (ai 0)) (af (aJ cP (bG (af (ek (af (aQ 0) (af (aQ 3) az))) az)) (ai 0)) (af (aJ cP (bG (af (fC .non) az)) (ai 0)) (af (aJ cP (bG (af (ek (af (aQ 1) (af (aQ 0) az))) az)) (ai 0)) az)))))))) aX)
  (aZ (ai 2)))))
theorem fQ:aA ["_law_many","_law_zero","_law_some"] ["_law_many"] (aj jb):=by walk_at "sc"
theorem qI (F:dM K "_law_odd" "_law_odd" jb f fd)(hb:Binds K fd ["_law_many"] [])(hm:mg "_law_odd" = some (.ref f)):
  Def P w K mg base (k+1) "_law_odd" 1 (bX 3 1 (lG)):=
 cV F fQ hb hm fun cdv A outer s H E hr=>(ao (aT 1 fQ.nd rfl (Or.inl rfl) (cF (aa ak (aa ak ah))))
  (ao (gz 2 fQ.nd rfl (Or.inl rfl) (aa mG (aa kn (aa (ay aY (aN (aa (ae 1 (pv 1)) ah)) (ay bu (ae 0 (pv 0)) ak)) (aa (ay uh (cF (aa (ae 1 (pv 1)) ah)) (ae 0 (pv 0))) (aa xq (aa ak (aa (aN (aa (ay aY (aN (aa (ae 1 (pv 1)) ah)) (ae 0 (pv 0))) ah)) ah))))))))
  (ao (bT (ck qM (ae 0 (pv 0)) ak (bf _)) (ar (aT 2 fQ.nd rfl (Or.inl rfl) (ay bu (ae 2 (pv 2)) (aN (aa (ay aY (aN (aa (ae 1 (pv 1)) ah)) (ay pE (ae 0 (pv 0)) ak)) (aa (ay aY (aN (aa ak ah)) (ae 0 (pv 0))) (aa (ay aY (aN (aa (cF (aa ak (aa ak ah))) ah)) (ae 0 (pv 0))) (aa (ay aY (aN (aa mG ah)) (ae 0 (pv 0))) (aa (ay aY (aN (aa (cF (aa ak (aa ak ah))) ah)) (ae 0 (pv 0))) ah))))))))) aR)
  (ar (aH (ae 2 (pv 2)))))))
abbrev dC:Stmt:=top 85
def bW (q84 q64 q85 q86 q87:Addr)(lx:List (Addr×(List T->Option XI)))(xw_word:List (Addr×(List T->Option T))):FS:=
  (aL (bJ 3 (fC .non))
  (aL (vX gJ
  (jo 0 lx (af (ai 1) (bp 2)))
  (Aw 4 [(q85,true),(q64,true),(q86,true),(q87,true)] (bJ 3 (ai 4)) vY))
  (aL (bz (lS (bU (cm (lQ [(q85,false),(q64,true),(q86,false),(q87,false)] (ai 3)))) (bU (cm (aq (tF "ValueError" [(q85,true),(q64,true),(q86,true),(q87,true)]) (af (ai 3) (af (fC (.ty "ValueError")) az)))))) (aZ (fC (.bl false))) aX)
  (aZ (bY (rN qe (lQ [(q85,true),(q64,false),(q86,false),(q87,false)] (ai 3))) (bY (rN qe (lQ [(q85,false),(q64,false),(q86,true),(q87,false)] (ai 3))) (aJ jg (rL xw_word "word" (ai 3)) (fC (.str "no fit")))))))))
theorem bx:aA ["_law_call","_law_system","_law_aim","_law_error","e"] ["_law_call","_law_system","_law_aim"] (aj dC):=by walk_at "sc"
theorem kT (F:dM K "_law_refused" "_law_refused" dC f fd)(hb:Binds K fd ["_law_call","_law_system","_law_aim"] [])(hm:mg "_law_refused" = some (.ref f))(DLX:∀z∈lx,∃y,iG P w K mg base k y 2 z.2/\mg y=some (.ref z.1))(q88:nZ K q84 [(q85,true),(q64,true),(q86,true),(q87,true)])(q89:∀a∈[(q85,false),(q64,true),(q86,false),(q87,false)],lB K q64 a.1 a.2)(q90:∀a∈[(q85,true),(q64,false),(q86,false),(q87,false)],lB K q85 a.1 a.2)(q91:∀a∈[(q85,false),(q64,false),(q86,true),(q87,false)],lB K q86 a.1 a.2)(DMX_word:∀a∈xw_word,ku P w K mg base k a.1 "word" a.2)(hv_ValueError:∀a∈[(q85,true),(q64,true),(q86,true),(q87,true)],vA K "ValueError" a.1 a.2)(q92:mg "EchoError" = some (.ref q84))(q66:mg "NoFit" = some (.ref q64))(q93:mg "NoTable" = some (.ref q85))(q94:mg "NoTurns" = some (.ref q86))(q6:mg "isinstance" = none)(q95:mg "ValueError" = none):
  Def P w K mg base (k+1) "_law_refused" 3 (bX 5 3 (bW q84 q64 q85 q86 q87 lx xw_word)):=
 cV F bx hb hm fun cdv A outer s H E hr=>(ao (aT 3 bx.nd rfl (Or.inl rfl) mG)
  (ao (Bx (fun _ _ z=>z) rfl rfl
  nV
  (gC (lp (xC (fun _ _ z=>z) DLX hr rfl (.inl rfl) (aa (ae 1 (pv 1)) (aa (ae 2 (pv 2)) ah)) (ag (ag av)))))
  (zM (i:=4) bx.nd rfl rfl rfl rfl q92 q88 (fun _=>(ar (aT 3 bx.nd rfl (Or.inl rfl) (ae 4 (pv 4))))) xB))
  (ao (bT (SW.st (gU (bH (bN (iE q89 rfl q6 rfl q66 (ae 3 (pv 3))))) (fB (bH (bN (aK (tB hv_ValueError) rfl q6 rfl (aa (ae 3 (pv 3)) (aa (iS rfl q95 rfl) ah)))))))) (ar (aH cG)) aR)
  (ar (aH (cz (mH (iE q90 rfl q6 rfl q93 (ae 3 (pv 3)))) (cz (mH (iE q91 rfl q6 rfl q94 (ae 3 (pv 3)))) (gP (fA (ik hr.units) (qV DMX_word hr (ae 3 (pv 3))) kn (bf _))))))))))
def CM:List Stmt->Expr
 |_::_::.For _ _ [.If (.UnaryOp _ (.Call _ (l::_) _ _) _) _ _ _] _ _::_=>l
 |_=>.Constant .none 0 ⟨0,0,0,0⟩
abbrev DU:Expr:=CM (bE (top 86))
def Et:Arguments:=match DU with
 | .Lambda p _ _ _=>p
 |_=>⟨[],[],none,[],[],none,[]⟩
def Eu:Expr:=match DU with
 | .Lambda _ b _ _=>b
 |e=>e
def DV:Scope:=match DU with
 | .Lambda _ _ s _=>s
 |_=>aj (top 86)
def Fj:Pos:=match DU with
 | .Lambda _ _ _ p=>p
 |_=>⟨0,0,0,0⟩
def AU:Array Value:=#[rawInt Fj.line,rawInt Fj.col,.str (("_law_asked" : Str)++".<locals>."++"<lambda>") 0]
theorem wO:hR "_law_one" "_law_other" "_law_found" DV:=⟨rfl,rfl,rfl,rfl,rfl,rfl,by decide +kernel,by decide +kernel,by decide +kernel⟩
def DQ (altX:List (Addr×(List T->Option XI))):FX:=rK altX "shows" (ai 2) (af (ai 0) (bp 1))
def E9 (q84 q64 q85 q86 q87:Addr):vz:=(Aw 4 [(q85,true),(q64,true),(q86,true),(q87,true)] (bJ 3 (ai 4)) vY)
def Fb (q84 q64 q85 q86 q87:Addr)(xw_word:List (Addr×(List T->Option T))):FS:=(aL (bz (lS (bU (cm (lQ [(q85,false),(q64,true),(q86,false),(q87,false)] (ai 3)))) (bU (cm (aq (tF "ValueError" [(q85,true),(q64,true),(q86,true),(q87,true)]) (af (ai 3) (af (fC (.ty "ValueError")) az)))))) (aZ (fC (.bl false))) aX)
  (aZ (bY (rN qe (lQ [(q85,true),(q64,false),(q86,false),(q87,false)] (ai 3))) (bY (rN qe (lQ [(q85,false),(q64,false),(q86,true),(q87,false)] (ai 3))) (aJ jg (rL xw_word "word" (ai 3)) (fC (.str "no fit")))))))
theorem ke (F:dM K "_law_refused" "_law_refused" dC f fd)(hb:Binds K fd ["_law_call","_law_system","_law_aim"] [])(hm:mg "_law_refused" = some (.ref f))(DMR_shows:∀a∈altX,gQ P w K mg base k a.1 "shows" 3 a.2)(q88:nZ K q84 [(q85,true),(q64,true),(q86,true),(q87,true)])(q89:∀a∈[(q85,false),(q64,true),(q86,false),(q87,false)],lB K q64 a.1 a.2)(q90:∀a∈[(q85,true),(q64,false),(q86,false),(q87,false)],lB K q85 a.1 a.2)(q91:∀a∈[(q85,false),(q64,false),(q86,true),(q87,false)],lB K q86 a.1 a.2)(DMX_word:∀a∈xw_word,ku P w K mg base (k+1) a.1 "word" a.2)(hv_ValueError:∀a∈[(q85,true),(q64,true),(q86,true),(q87,true)],vA K "ValueError" a.1 a.2)(q92:mg "EchoError" = some (.ref q84))(q66:mg "NoFit" = some (.ref q64))(q93:mg "NoTable" = some (.ref q85))(q94:mg "NoTurns" = some (.ref q86))(q6:mg "isinstance" = none)(q95:mg "ValueError" = none):
  sZ P w K mg base (k+2) "_law_refused" "_law_one" "_law_other" "_law_found" Et Eu DV (tH 1 (DQ altX) (E9 q84 q64 q85 q86 q87) (Fb q84 q64 q85 q86 q87 xw_word)):=
 ⟨f,F.kp,hm,fun qual A outer s F1 H a cc c' pm ctv u1 u2 ux v1 v2 vx t1 t2 tx t Q hr e0 ho hcd hcell hH rx r1 r2 sm rr ed q =>
  zf (Nr:=["e"]) (en := "_law_error") F bx ⟨_,_,_,_,_,_,_,_,_,_,rfl⟩ rfl rfl rfl rfl hb
   (fun cdv A outer s H hr=>(zM (i:=4) bx.nd rfl rfl rfl rfl q92 q88 (fun _=>(ar (aT 3 bx.nd rfl (Or.inl rfl) (ae 4 (pv 4))))) xB))
   (fun cdv A outer s H hr=>(ao (bT (SW.st (gU (bH (bN (iE q89 rfl q6 rfl q66 (ae 3 (pv 3))))) (fB (bH (bN (aK (tB hv_ValueError) rfl q6 rfl (aa (ae 3 (pv 3)) (aa (iS rfl q95 rfl) ah)))))))) (ar (aH cG)) aR)
  (ar (aH (cz (mH (iE q90 rfl q6 rfl q93 (ae 3 (pv 3)))) (cz (mH (iE q91 rfl q6 rfl q94 (ae 3 (pv 3)))) (gP (fA (ik hr.units) (qV DMX_word hr (ae 3 (pv 3))) kn (bf _)))))))))
   wO hr e0 ho hcd hcell hH rx r1 r2 (fun _ _=>rfl)
   (fun A outer s H hr=>xD (fun _ _ z=>z) DMR_shows hr (ae 2 (pv 2)) (aa (ae 0 (pv 0)) (aa (ae 1 (pv 1)) ah)) (fun τ ts τ' e=>congrArg (· + 1) ((ag (ag av)) τ ts τ' e)))
   sm rr ed q⟩
abbrev eV:Stmt:=top 86
def eO (q32 q33 q34 q35 q36 q96 q97 q47 q27:Addr)(q98:List T->Option T)(dL:T->T->T->Option T)(dM_Finding__found dM_Inputs__found dM_Sums__found dM_Finding__shows:List T->Option T):FS:=
  (aL (bz (lS (bU (cm (tN [(q96,false),(q97,false),(q47,false),(q27,false),(q32,true),(q33,true),(q34,true),(q35,true),(q36,true)] (ai 0)))) (fL (aJ xV (cS [(q32,dM_Finding__found),(q33,dM_Inputs__found),(q34,dM_Finding__found),(q35,dM_Sums__found),(q36,dM_Finding__found)] "found" (ai 0) az) (aJ jg (aJ bR (ai 1) (aQ 2)) (aQ 0))))) (aZ (fC (.bl false))) aX)
  (aL (jq (cT (ai 3)) (aI 5) (bz (fL (aJ qc (cS [(q32,dM_Finding__shows),(q33,dM_Finding__shows),(q34,dM_Finding__shows),(q35,dM_Finding__shows),(q36,dM_Finding__shows)] "shows" (ai 0) (af (ai 2) (bp 5))) (fC (.bl false)))) (aZ (fC (.bl false))) aX))
  (aL (jq (cT (aq q98 (bp 4))) (aI 5) (bz (bU (cm (vV 0 2 5 dL))) (aZ (fC (.bl false))) aX))
  (aZ (fC (.bl true))))))
theorem gf:aA ["_law_found","_law_kind","_law_system","_law_aims","_law_many","_law_aim"] ["_law_found","_law_kind","_law_system","_law_aims","_law_many"] (aj eV):=by walk_at "sc"
theorem m8 (F:dM K "_law_asked" "_law_asked" eV f fd)(hb:Binds K fd ["_law_found","_law_kind","_law_system","_law_aims","_law_many"] [])(hm:mg "_law_asked" = some (.ref f))(q99:Def P w K mg base k "_law_odd" 1 q98)(DL:sZ P w K mg base k "_law_refused" "_law_one" "_law_other" "_law_found" Et Eu DV dL)(hcode:fd.code=.ref 742)(hC:PySem.W.CodeHd base 742 738)(hB:Bm mg base)(DM_found:∀a∈[(q32,dM_Finding__found),(q33,dM_Inputs__found),(q34,dM_Finding__found),(q35,dM_Sums__found),(q36,dM_Finding__found)],bI P w K mg base k a.1 "found" 1 a.2)(DM_shows:∀a∈[(q32,dM_Finding__shows),(q33,dM_Finding__shows),(q34,dM_Finding__shows),(q35,dM_Finding__shows),(q36,dM_Finding__shows)],bI P w K mg base k a.1 "shows" 3 a.2)(hi_Finding:∀a∈[(q96,false),(q97,false),(q47,false),(q27,false),(q32,true),(q33,true),(q34,true),(q35,true),(q36,true)],td K q32 a.1 a.2)(q100:mg "Finding" = some (.ref q32))(q6:mg "isinstance" = none):
  pU P w K mg base (k+1) "_law_asked" 5 738 AU (bX 6 5 (eO q32 q33 q34 q35 q36 q96 q97 q47 q27 q98 dL dM_Finding__found dM_Inputs__found dM_Sums__found dM_Finding__shows)):=
 yk F hcode gf hb hm fun A outer s H E hr hT=>(ao (bT (SW.st (gU (bH (bN (zi hi_Finding rfl q6 rfl q100 (ae 0 (pv 0))))) (fB (ck (nP hr.units) (cX DM_found hr (ae 0 (pv 0))) (fA (ik hr.units) (ay cJ (ae 1 (pv 1)) ak) ak (bf _)) (bf _))))) (ar (aH cG)) aR)
  (ao (jf PassesOwn.never rfl (eK (ae 3 (pv 3))) (bh 5 gf.nd rfl (Or.inl rfl)) (ar (bT (ck yR (uo DM_shows hr (ae 0 (pv 0)) (aa (ae 2 (pv 2)) (aa (ae 5 (pv 5)) ah)) (fun τ ts τ' e=>congrArg (· + 1) ((ag (ag av)) τ ts τ' e))) cG (bf _)) (ar (aH cG)) aR)))
  (ao (jf PassesOwn.never rfl (eK (aE q99 hr rfl (aa (ae 4 (pv 4)) ah) (ag av))) (bh 5 gf.nd rfl (Or.inl rfl)) (ar (bT (bH (bN (Bt DL hr rfl rfl hC hB hT.choose_spec rfl (fun cc h=>by
   have e:((cellsFrom (s.heap.objs.size+1) (aj eV).names []).lookup ("_law_found" : Str))=some (s.heap.objs.size+1):=rfl
   have h2:=e.symm.trans h
   cases h2
   rfl) rfl rfl rfl rfl (.inl rfl) (.inl rfl)))) (ar (aH cG)) aR)))
  (ar (aH cG)))))
end
end My
set_option maxHeartbeats 4000000
namespace My
open PySem PySem.Spec PyProof.Rows L2 TM
variable {K:PySem.W.Frag}
abbrev nS:Stmt:=top 87
def pY (q33 q47 q34 q35 q36 q27:Addr)(q101 q80 q81 q98 q102 q103 q104:List T->Option T)(dI_System dI_Inputs dI_Unmoved dI_Sums dI_Unseen:List T->Option nk):FS:=
  (aL (bJ 1 (aq q101 (af (ai 0) (af (aQ 0) az))))
  (aL (bJ 2 (iP q27 dI_System (af (aJ fH (ai 1) (aQ 0)) (af (aJ fH (ai 1) (aQ 1)) (af (aJ fH (ai 1) (aQ 2)) (af (aJ fH (ai 1) (aQ 3)) az))))))
  (aL (bJ 3 (aq dz (af (aJ fH (ai 1) (aQ 0)) az)))
  (aL (dg 4 (af (aJ cP (bG (af (ek (af (aQ 0) (af (aQ 1) az))) az)) (ai 3)) (af (aq q81 (af (aq q80 (af (ai 0) (af (aQ 13) az))) (bp 3))) az)))
  (aL (jq (cT (aq q98 (bp 3))) (aI 5) (bz (lS (bU (cm (aq q102 (af (fC (.ptr 608)) (af (ai 2) (bp 5)))))) (bU (cm (aq q102 (af (fC (.ptr 684)) (af (ai 2) (bp 5))))))) (aZ (fC (.bl false))) aX))
  (aL (jq (cT (aq q103 (af (ai 3) (af (aq dz (af (aJ fH (aJ fH (ai 1) (aQ 3)) (aQ 0)) az)) (bp 3))))) (aI 6) (aL (bJ 7 (iP q33 dI_Inputs (bp 6)))
  (aL (bJ 8 (iP q34 dI_Unmoved (bp 6)))
  (aL (bz (lS (fL (aJ kL (fG [q33] "sent" (ai 7)) (ai 6))) (fL (aJ kL (fG [q47,q34] "weights" (ai 8)) (ai 6)))) (aZ (fC (.bl false))) aX)
  (bz (lS (bU (cm (aq q104 (af (ai 7) (af (aQ 0) (af (ai 2) (af (ai 4) (bp 3)))))))) (bU (cm (aq q104 (af (ai 8) (af (aQ 1) (af (ai 2) (af (ai 4) (bp 3))))))))) (aZ (fC (.bl false))) aX)))))
  (aL (jq (cT (aq q103 (af (ai 3) (af (aq dz (af (aJ fH (ai 1) (aQ 3)) az)) (bp 3))))) (aI 6) (aL (bJ 7 (iP q35 dI_Sums (bp 6)))
  (aL (bJ 8 (iP q36 dI_Unseen (bp 6)))
  (aL (bz (lS (fL (aJ kL (fG [q35] "sums" (ai 7)) (ai 6))) (fL (aJ kL (fG [q36] "state" (ai 8)) (ai 6)))) (aZ (fC (.bl false))) aX)
  (bz (lS (bU (cm (aq q104 (af (ai 7) (af (aQ 2) (af (ai 2) (af (ai 4) (bp 3)))))))) (bU (cm (aq q104 (af (ai 8) (af (aQ 3) (af (ai 2) (af (ai 4) (bp 3))))))))) (aZ (fC (.bl false))) aX)))))
  (aZ (fC (.bl true))))))))))
theorem eJ:aA ["_law_script","_law_tables_here","_law_system","_law_many","_law_aims","_law_aim","_law_thing","_law_one","_law_other"] ["_law_script"] (aj nS):=by walk_at "sc"
theorem Az (F:dM K "law" "law" nS f fd)(q105:Def P w K mg base k "_law_tables" 2 q101)(q82:Def P w K mg base k "_law_cell" 2 q80)(q83:Def P w K mg base k "_law_row" 2 q81)(q99:Def P w K mg base k "_law_odd" 1 q98)(q106:Def P w K mg base k "_law_refused" 3 q102)(q107:Def P w K mg base k "_law_things" 3 q103)(q108:pU P w K mg base k "_law_asked" 5 738 AU q104)(hcode:fd.code=.ref 749)(DI_System:gh P w K mg base k "System" q27 4 dI_System)(DI_Inputs:gh P w K mg base k "Inputs" q33 1 dI_Inputs)(DI_Unmoved:gh P w K mg base k "Unmoved" q34 1 dI_Unmoved)(DI_Sums:gh P w K mg base k "Sums" q35 1 dI_Sums)(DI_Unseen:gh P w K mg base k "Unseen" q36 1 dI_Unseen)(hf_sent:∀C∈[q33],dA K C/\bg K C "sent")(hf_weights:∀C∈[q47,q34],dA K C/\bg K C "weights")(hf_sums:∀C∈[q35],dA K C/\bg K C "sums")(hf_state:∀C∈[q36],dA K C/\bg K C "state")(q13:mg "len" = none)(q109:mg "steered" = some (.ref 608))(q110:mg "told_by" = some (.ref 684)):
  dN P w K mg base iv (k+1) f fd ["_law_script"] (Dj K 1 (bX 9 1 (pY q33 q47 q34 q35 q36 q27 q101 q80 q81 q98 q102 q103 q104 dI_System dI_Inputs dI_Unmoved dI_Sums dI_Unseen)) 738 AU):=
 v9 F hcode eJ fun A outer s H E hr hT=>(ao (aT 1 eJ.nd rfl (Or.inl rfl) (aE q105 hr rfl (aa (ae 0 (pv 0)) (aa ak ah)) (ag (ag av))))
  (ao (aT 2 eJ.nd rfl (Or.inl rfl) (jE DI_System hr rfl (aa (dF dJ (ae 1 (pv 1)) ak (fun _ _=>rfl)) (aa (dF dJ (ae 1 (pv 1)) ak (fun _ _=>rfl)) (aa (dF dJ (ae 1 (pv 1)) ak (fun _ _=>rfl)) (aa (dF dJ (ae 1 (pv 1)) ak (fun _ _=>rfl)) ah)))) (ag (ag (ag (ag av))))))
  (ao (aT 3 eJ.nd rfl (Or.inl rfl) (aK cU rfl q13 PySem.boot_len (aa (dF dJ (ae 1 (pv 1)) ak (fun _ _=>rfl)) ah)))
  (ao (gz 4 eJ.nd rfl (Or.inl rfl) (aa (ay aY (aN (aa (cF (aa ak (aa ak ah))) ah)) (ae 3 (pv 3))) (aa (aE q83 hr rfl (aa (aE q82 hr rfl (aa (ae 0 (pv 0)) (aa ak ah)) (ag (ag av))) (aa (ae 3 (pv 3)) ah)) (ag (ag av))) ah)))
  (ao (jf PassesOwn.never rfl (eK (aE q99 hr rfl (aa (ae 3 (pv 3)) ah) (ag av))) (bh 5 eJ.nd rfl (Or.inl rfl)) (ar (bT (SW.st (gU (bH (bN (aE q106 hr rfl (aa (xr rfl q109) (aa (ae 2 (pv 2)) (aa (ae 5 (pv 5)) ah))) (ag (ag (ag av)))))) (fB (bH (bN (aE q106 hr rfl (aa (xr rfl q110) (aa (ae 2 (pv 2)) (aa (ae 5 (pv 5)) ah))) (ag (ag (ag av))))))))) (ar (aH cG)) aR)))
  (ao (jf PassesOwn.never rfl (eK (aE q107 hr rfl (aa (ae 3 (pv 3)) (aa (aK cU rfl q13 PySem.boot_len (aa (dF dJ (dF dJ (ae 1 (pv 1)) ak (fun _ _=>rfl)) ak (fun _ _=>rfl)) ah)) (aa (ae 3 (pv 3)) ah))) (ag (ag (ag av))))) (bh 6 eJ.nd rfl (Or.inl rfl)) (ao (aT 7 eJ.nd rfl (Or.inl rfl) (jE DI_Inputs hr rfl (aa (ae 6 (pv 6)) ah) (ag av)))
  (ao (aT 8 eJ.nd rfl (Or.inl rfl) (jE DI_Unmoved hr rfl (aa (ae 6 (pv 6)) ah) (ag av)))
  (ao (bT (SW.st (gU (ck (pD hr.units) (cL hf_sent (ae 7 (pv 7))) (ae 6 (pv 6)) (bf _)) (fB (ck (pD hr.units) (cL hf_weights (ae 8 (pv 8))) (ae 6 (pv 6)) (bf _))))) (ar (aH cG)) aR)
  (ar (bT (SW.st (gU (bH (bN (jD q108 hT hr rfl (aa (ae 7 (pv 7)) (aa ak (aa (ae 2 (pv 2)) (aa (ae 4 (pv 4)) (aa (ae 3 (pv 3)) ah))))) (ag (ag (ag (ag (ag av)))))))) (fB (bH (bN (jD q108 hT hr rfl (aa (ae 8 (pv 8)) (aa ak (aa (ae 2 (pv 2)) (aa (ae 4 (pv 4)) (aa (ae 3 (pv 3)) ah))))) (ag (ag (ag (ag (ag av))))))))))) (ar (aH cG)) aR))))))
  (ao (jf PassesOwn.never rfl (eK (aE q107 hr rfl (aa (ae 3 (pv 3)) (aa (aK cU rfl q13 PySem.boot_len (aa (dF dJ (ae 1 (pv 1)) ak (fun _ _=>rfl)) ah)) (aa (ae 3 (pv 3)) ah))) (ag (ag (ag av))))) (bh 6 eJ.nd rfl (Or.inl rfl)) (ao (aT 7 eJ.nd rfl (Or.inl rfl) (jE DI_Sums hr rfl (aa (ae 6 (pv 6)) ah) (ag av)))
  (ao (aT 8 eJ.nd rfl (Or.inl rfl) (jE DI_Unseen hr rfl (aa (ae 6 (pv 6)) ah) (ag av)))
  (ao (bT (SW.st (gU (ck (pD hr.units) (cL hf_sums (ae 7 (pv 7))) (ae 6 (pv 6)) (bf _)) (fB (ck (pD hr.units) (cL hf_state (ae 8 (pv 8))) (ae 6 (pv 6)) (bf _))))) (ar (aH cG)) aR)
  (ar (bT (SW.st (gU (bH (bN (jD q108 hT hr rfl (aa (ae 7 (pv 7)) (aa ak (aa (ae 2 (pv 2)) (aa (ae 4 (pv 4)) (aa (ae 3 (pv 3)) ah))))) (ag (ag (ag (ag (ag av)))))))) (fB (bH (bN (jD q108 hT hr rfl (aa (ae 8 (pv 8)) (aa ak (aa (ae 2 (pv 2)) (aa (ae 4 (pv 4)) (aa (ae 3 (pv 3)) ah))))) (ag (ag (ag (ag (ag av))))))))))) (ar (aH cG)) aR))))))
  (ar (aH cG)))))))))
end My
namespace Qm
end Qm
namespace Rq
def DD (k:Nat):Nat:=27720^k
theorem vy (k:Nat):0<DD k:=Nat.pow_pos (by decide)
def Lq (k m:Nat)(q:Rat):Prop:=∃n:Int,q=Rat.divInt n (DD k:Int)/\n.natAbs≤m*DD k
theorem Lq.zero (k:Nat):Lq k 0 0:=⟨0,by rw [Rat.zero_divInt],by simp⟩
theorem Ce (k:Nat):((DD k:Nat):Int)≠0:=by have:=vy k;omega
theorem Lq.mono {k m m':Nat}{x:Rat}(hx:Lq k m x)(h:m≤m'):Lq k m' x:=by
 obtain⟨a,rfl,ha⟩:=hx
 exact⟨a,rfl,Nat.le_trans ha (Nat.mul_le_mul_right _ h)⟩
theorem Lq.small {a b:Int}(ha:a.natAbs≤9)(hb:0<b)(hb':b≤12):Lq 1 9 (Rat.divInt a b):=by
 have hd:b∣((DD 1:Nat):Int):=by
  have e:((DD 1:Nat):Int)=27720:=by decide
  rw [e]
  have:b=1\/b=2\/b=3\/b=4\/b=5\/b=6\/b=7\/b=8\/b=9\/b=10\/b=11\/b=12:=by omega
  rcases this with rfl | rfl | rfl | rfl | rfl | rfl | rfl | rfl | rfl | rfl | rfl | rfl<;>decide
 obtain⟨c,hc⟩:=hd
 have hc0:c≠0:=fun z=>by rw [z,Int.mul_zero] at hc;exact Ce 1 hc
 refine⟨a*c,?_,?_⟩
 ·rw [hc,Rat.divInt_mul_right hc0]
 ·rw [Int.natAbs_mul]
  have h1:c.natAbs≤DD 1:=by
   have:((DD 1:Nat):Int).natAbs=b.natAbs*c.natAbs:=by rw [hc,Int.natAbs_mul]
   rw [Int.natAbs_natCast] at this
   rw [this]
   exact Nat.le_mul_of_pos_left _ (by omega)
  exact Nat.mul_le_mul ha h1
end Rq
namespace Dt
end Dt
namespace Dq
end Dq
namespace Dt
end Dt
namespace My
open PySem PySem.Spec PyProof.Rows L2 TM
theorem Ep:(17:Nat)≤sizeLine:=cq (by decide)
theorem FZ:(6:Nat)<sizeLine:=gy (by decide)
theorem wm {a b c d:Int}:jg (.tup [.int a,.int b]) (.tup [.int c,.int d])=some (.bl (decide (a=c)&&decide (b=d))):=by
 have e:jg (.tup [.int a,.int b]) (.tup [.int c,.int d])=some (.bl ((a == c)&&((b == d)&&true))):=rfl
 rw [e,Bool.and_true,Bool.beq_eq_decide_eq,Bool.beq_eq_decide_eq]
theorem uQ {x y:Bool}:jg (.lst [.bl x,.bl y]) (.lst [.bl x,.bl y])=some (.bl true):=by
 have e:jg (.lst [.bl x,.bl y]) (.lst [.bl x,.bl y])=some (.bl ((x == x)&&((y == y)&&true))):=rfl
 rw [e,beq_self_eq_true,beq_self_eq_true]
 rfl
theorem jJ:∀(n:Nat) (u:Option Sl) (x y:Nat),y<n->eL (fL (aJ xV (ai 1) (aQ 0))) (rM 0 1 (af (ai 1) (af (aJ bR (ai 0) (ai 1)) az))) n [aF (.int x),aF (.int y),u]
  = some (.nx [aF (.int (Nat.gcd x y)),aF (.int 0),u])
 |0,_,_,_,h=>by omega
 |n+1,u,x,y,h=>by
  unfold eL
  by_cases hy:y=0
  ·subst hy
   have h0:((0:Nat):Int)=0:=rfl
   walk_at "ev"
   simp
  ·have hy':¬ ((y:Int)=0):=by omega
   have hm:Int.fmod (x:Int) (y:Int)=((x%y:Nat):Int):=by rw [Int.fmod_eq_emod_of_nonneg _ (by omega)];rfl
   have hg:Nat.gcd x y=Nat.gcd y (x%y):=by rw [Nat.gcd_comm x y,Nat.gcd_rec y x,Nat.gcd_comm]
   have ih:=jJ n u y (x%y) (by have:=Nat.mod_lt x (Nat.pos_of_ne_zero hy);omega)
   rw [hg]
   clear hg h hy
   walk_at "ev"
theorem xT {ft:FT}{fb:FS}{τ τ':aw}{n:Nat}(h:ft τ=some (false,τ'))(hn:0<n):eL ft fb n τ=some (.nx τ'):=by
 obtain⟨m,rfl⟩:∃m,n=m+1:=⟨n-1,by omega⟩
 unfold eL
 rw [h]
 rfl
theorem BV:0<B:=by decide +kernel
theorem bits_le {x:Int}(h:x.natAbs<B):¬ ((Builtin.Int.intBits x:Int)>4000):=by
 unfold Builtin.Int.intBits
 by_cases h0:x=0
 ·subst h0;decide
 ·rw [if_neg (by simpa using h0)]
  have:x.natAbs.log2<4000:=(Nat.log2_lt (by omega)).mpr h
  omega
def iy:List T->Option T
 |[.int a,.int b]=>if a.natAbs<B/\b.natAbs<B then some (.int (Int.gcd a b)) else none
 |_=>none
theorem ma {a b:Int}(ha:a.natAbs<B)(hb:b.natAbs<B):iy [.int a,.int b]=some (.int (Int.gcd a b)):=if_pos ⟨ha,hb⟩
theorem vo (ts:List T)(t:T)(h:iy ts=some t):bX 3 2 (lH B (fun _=>none)) ts=some t:=by
 unfold iy at h
 split at h
 ·next a b =>
  split at h
  ·next hb =>
   cases h
   have hw:=jJ B none a.natAbs b.natAbs (hb.2)
   have hbits:=bits_le (x:=((b.natAbs:Nat):Int)) (by simpa using hb.2)
   have hgt:xU (.int (Builtin.Int.intBits ((b.natAbs:Nat):Int))) (.int 4000)=some (.bl false):=by
    show some (T.bl (decide _))=_
    rw [decide_eq_false hbits]
   have hno:eL (fL (aJ xU (rN kA (ai 1)) (aQ 4000))) (aL (rM 0 1 (af (ai 1) (af (aJ bR (ai 0) (ai 1)) az))) (bz (fL (aJ xU (rN kA (ai 1)) (aQ 4000))) (uN (aq (fun _=>none) (af (ai 0) (bp 1))) (kC (di (aI 0) (di (aI 1) (di (aI 2) kB))))) aX)) B [aF (.int (a.natAbs:Nat)),aF (.int (b.natAbs:Nat)),none]
     = some (.nx [aF (.int (a.natAbs:Nat)),aF (.int (b.natAbs:Nat)),none]):=xT (by
      clear hw hbits
      walk_at "ev") BV
   unfold bX lH
   clear hb hbits hgt
   walk_at "ev"
   rfl
  ·cases h
 ·cases h
def sg (a b:Int):Int:=if b<0 then -(Int.gcd a b:Int) else (Int.gcd a b:Int)
def uP (a b:Int):T:=.tup [.int (a.fdiv (sg a b)),.int (b.fdiv (sg a b))]
def md:List T->Option T
 |[.int a,.int b]=>if a.natAbs<B/\b.natAbs<B/\b≠0 then some (uP a b) else none
 |_=>none
theorem wR {a b:Int}(ha:a.natAbs<B)(hb:b.natAbs<B)(h0:b≠0):md [.int a,.int b]=some (uP a b):=if_pos ⟨ha,hb,h0⟩
theorem AF {a b:Int}(h0:b≠0):¬ ((Int.gcd a b:Nat):Int)=0:=by
 intro h
 have:Int.gcd a b=0:=by omega
 rw [Int.gcd_eq_zero_iff] at this
 exact h0 this.2
theorem Cw {a b:Int}(hb:b.natAbs<B)(h0:b≠0):Int.gcd a b<B:=by
 have h1:Int.gcd a b∣b.natAbs:=Int.gcd_dvd_natAbs_right a b
 have:=Nat.le_of_dvd (by omega) h1
 omega
theorem vF {x:Int}(h:x.natAbs<B):BM (.int (Builtin.Int.intBits x)) (.int 8000)=some (.bl true):=by
 show some (T.bl (decide _))=_
 rw [decide_eq_true (by have:=bits_le h;omega)]
theorem zk (ts:List T)(t:T)(h:md ts=some t):bX 3 2 (rj iy) ts=some t:=by
 unfold md at h
 split at h
 ·next a b =>
  split at h
  ·next hb =>
   cases h
   obtain⟨ha,hb,h0⟩:=hb
   have h1:=ma ha hb
   have h2:=AF (a:=a) h0
   have h3:=Cw (a:=a) hb h0
   have h4:((Int.gcd a b:Nat):Int).natAbs<B:=by omega
   have h5:¬ -((Int.gcd a b:Nat):Int)=0:=by omega
   have h6:(-((Int.gcd a b:Nat):Int)).natAbs<B:=by omega
   have h7:=vF h4
   have h8:=vF h6
   unfold bX rj
   by_cases hs:b<0
   ·have e:uP a b=.tup [.int (a.fdiv (-(Int.gcd a b:Int))),.int (b.fdiv (-(Int.gcd a b:Int)))]:=by unfold uP sg;rw [if_pos hs]
    walk_at "ev"
   ·have e:uP a b=.tup [.int (a.fdiv (Int.gcd a b:Int)),.int (b.fdiv (Int.gcd a b:Int))]:=by unfold uP sg;rw [if_neg hs]
    walk_at "ev"
  ·cases h
 ·cases h
open PySem PySem.Spec PyProof.Rows L2 TM Qm
def C:Nat:=2^1330
theorem CB:C<B:=by decide +kernel
theorem ltB {a:Int}(h:a.natAbs<C):a.natAbs<B:=Nat.lt_trans h CB
theorem tR {a b:Int}(h:0<b):uP a b=.tup [.int (a.fdiv (Int.gcd a b)),.int (b.fdiv (Int.gcd a b))]:=by
 unfold uP sg
 rw [if_neg (by omega)]
open Rq
def uk (q:Rat):T:=.tup [.int q.num,.int (q.den:Int)]
theorem tU {a b:Int}(hb:0<b):uP a b=uk (Rat.divInt a b):=by
 have hs:b.sign=1:=Int.sign_eq_one_of_pos hb
 have hg:(Int.gcd b a:Int)=(Int.gcd a b:Int):=by rw [Int.gcd_comm]
 rw [tR hb]
 unfold uk
 rw [Rat.num_divInt,Rat.den_divInt,if_neg (by omega),hs,Int.one_mul,hg,Int.fdiv_eq_ediv_of_nonneg _ (by omega),Int.fdiv_eq_ediv_of_nonneg _ (by omega)]
 congr 3
 rw [Int.natCast_ediv,Int.natAbs_of_nonneg (by omega),hg]
structure Sm (q:Rat):Prop where
 n:q.num.natAbs<C
 d:q.den<C
open PySem PySem.Spec PyProof.Rows L2 TM Qm Rq
def dO (r:List Rat):T:=.lst (r.map uk)
def bq (A:List (List Rat)):T:=.lst (A.map dO)
theorem eX {α:Type}{φ:α->T}{fe:FE}{g:α->T}{ρ:aw}(hr:bt ρ=true):∀(l:List α) (u:Option Sl) (acc:List T),(∀x∈l,fe (aF (φ x)::ρ)=some (g x,aF (φ x)::ρ))->acc.length+l.length≤sizeLine->jl (aI 0) bF fe (l.map φ) (u::ρ) acc=some (acc++l.map g)
 |[],u,acc,_,_=>by simp [jl]
 |x::l,u,acc,h,hl=>by
  have hl':acc.length+(l.length+1)≤sizeLine:=hl
  rw [List.map_cons,jl,show aI 0 (φ x) (u::ρ)=some (aF (φ x)::ρ) from rfl,Option.bind_some,show bF (aF (φ x)::ρ)=some (true,aF (φ x)::ρ) from rfl,Option.bind_some,if_pos rfl,h x List.mem_cons_self,Option.bind_some,if_pos ⟨hr,by omega⟩,
   eX hr l _ _ (fun z hz=>h z (List.mem_cons_of_mem _ hz)) (by rw [List.length_append];simp;omega),List.map_cons,List.append_assoc]
  rfl
theorem sV:∀(n:Nat) (lo:Int),TM.upTo lo n=(List.range n).map fun (i:Nat)=>T.int (lo+i):=by
 intro n lo
 apply List.ext_getElem?
 intro i
 by_cases h:i<n
 ·rw [mL n lo i h,List.getElem?_map,List.getElem?_range h];rfl
 ·rw [List.getElem?_eq_none (by rw [fR];omega),List.getElem?_eq_none (by simp;omega)]
theorem qZ (n:Nat):TM.upTo 0 n=(List.range n).map fun (i:Nat)=>T.int i:=by
 rw [sV]
 congr 1
 funext i
 congr 1
 omega
theorem ig {no:Nat}{cap:List Nat}{fi:FA}{fg:FG}{ft:FT}{fe:FE}{τ:aw}{ts us:List T}(h1:fi τ=some (ts,τ))(h2:frzAll cap τ=τ)(h3:bt (bP no cap τ)=true)(h4:jl fg ft fe ts (bP no cap τ) []=some us):fj no cap fi fg ft fe τ=some (.lst us,τ):=by
 unfold fj
 rw [h1,Option.bind_some]
 dsimp only
 rw [h2,if_pos h3,h4]
 rfl
theorem eY {fg:FG}{fb:FS}{t:T}{ts:List T}{τ τ1 τ2:aw}(h1:fg t τ=some τ1)(h2:fb τ1=some (.nx τ2)):fM fg fb (t::ts) τ=fM fg fb ts τ2:=by
 rw [fM,h1,Option.bind_some,h2]
 rfl
theorem qQ {f:FE}{τ:aw}{n:Int}(h:f τ=some (.int n,τ))(h0:0≤n)(h1:n≤1000):fm (af f az) τ=some (TM.upTo 0 n.toNat,τ):=by
 unfold fm af az
 rw [h]
 show (if _ then _ else _)=_
 rw [if_pos (by omega)]
theorem zg {f:FE}{τ:aw}{n:Nat}(h:f τ=some (.int n,τ))(h1:n≤1000):fm (af f az) τ=some ((List.range n).map fun (i:Nat)=>T.int i,τ):=by
 have e:=qQ h (by omega) (by omega)
 rw [Int.toNat_natCast,qZ] at e
 exact e
theorem uw {n:Nat}(h:n≤16):([]:List T).length+n≤sizeLine:=by rw [List.length_nil,Nat.zero_add];exact cq (by omega)
theorem aG {g:List T->Option T}{f:FA}{ρ:aw}{t:T}(ts:List T)(h1:f ρ=some (ts,ρ))(h2:g ts=some t):aq g f ρ=some (t,ρ):=by
 unfold aq
 rw [h1,Option.bind_some]
 dsimp only
 rw [h2]
 rfl
theorem yx {f:FE}{s:FS}{τ:aw}(h:f τ=some (.bl true,τ)):bz (bU (cm f)) s aX τ=some (.nx τ):=by
 unfold bz bU cm
 rw [h]
 rfl
theorem bc {t u:FS}{τ τ':aw}(h:t τ=some (.nx τ')):aL t u τ=u τ':=by
 unfold aL
 rw [h]
 rfl
theorem eA {f:FE}{τ:aw}{t:T}(h:f τ=some (t,τ)):af f az τ=some ([t],τ):=by
 unfold af
 rw [h]
 rfl
theorem eB {f g:FE}{τ:aw}{t u:T}(h:f τ=some (t,τ))(h':g τ=some (u,τ)):af f (af g az) τ=some ([t,u],τ):=by
 unfold af
 rw [h,Option.bind_some]
 dsimp only
 rw [h']
 rfl
theorem zG {fi:FA}{fg:FG}{fb:FS}{τ:aw}{ts:List T}{r:R}(h1:fi τ=some (ts,τ))(h2:fM fg fb ts τ=some r):jq fi fg fb τ=some r:=by
 unfold jq
 rw [h1,Option.bind_some]
 exact h2
theorem gT {f:FE}{τ τ':aw}{t:T}(h:f τ=some (t,τ')):aZ f τ=some (.rt t):=by
 unfold aZ
 rw [h]
 rfl
theorem kJ {f g i:FE}{τ:aw}{t u v:T}(h:f τ=some (t,τ))(h':g τ=some (u,τ))(h'':i τ=some (v,τ)):af f (af g (af i az)) τ=some ([t,u,v],τ):=by
 have e:=eB h' h''
 generalize hg:af g (af i az)=G at *
 unfold af
 rw [h,Option.bind_some]
 dsimp only
 rw [e]
 rfl
theorem cY {i:Nat}{f:FE}{τ τ1 τ2:aw}{t:T}(h:f τ=some (t,τ1))(h2:bJ i (fC t) τ1=some (.nx τ2)):bJ i f τ=some (.nx τ2):=by
 unfold bJ at *
 rw [h]
 exact h2
theorem dH {i:Int}(h1 : -1000000≤i)(h2:i≤1000000):i.natAbs<B:=by
 have:=Ea
 omega
theorem CT {f:FE}{τ:aw}(h:f τ=some (.bl true,τ)):bU (cm f) τ=some (false,τ):=by
 unfold bU cm
 rw [h]
 rfl
theorem dw {m n:Nat}{fb:FS}{ts:List T}{t:T}(hl:ts.length=n)(h:fb (ts.map (fun t=>some (Sl.sh t))++List.replicate (m-n) none)=some (.rt t)):bX m n fb ts=some t:=by
 unfold bX
 rw [if_pos hl,h]
 rfl
theorem xR {i:Nat}{τ:aw}{t:T}(h:τ[i]? = some (aF t)):ai i τ=some (t,τ):=by unfold ai;rw [h]
theorem zv {i:Nat}{f:FE}{τ:aw}{ts:List T}{t:T}(h:τ[i]? = some (some (.own ts)))(hf:f τ=some (t,τ))(hl:ts.length<sizeLine):oA i f τ=some (.nx (τ.set i (some (.own (ts++[t]))))):=by
 unfold oA
 rw [h]
 dsimp only
 rw [hf,Option.bind_some]
 dsimp only
 rw [h]
 dsimp only
 rw [if_pos hl]
theorem pT {i j:Nat}{τ:aw}{a b:T}(h1:τ[i]? = some (aF a))(h2:τ[j]? = some (aF b)):ek (af (ai i) (af (ai j) az)) τ=some (.tup [a,b],τ):=by
 have l2:=Es
 unfold ek af az
 rw [xR h1,Option.bind_some,xR h2,Option.bind_some,Option.bind_some]
 show (if ([a,b]:List T).length≤sizeLine then some (T.tup [a,b],τ) else none)=_
 exact if_pos l2
theorem yd {g:List T->Option T}{f:FA}{ρ ρ':aw}{t:T}(ts:List T)(h1:f ρ=some (ts,ρ'))(h2:g ts=some t):aq g f ρ=some (t,ρ'):=by
 unfold aq
 rw [h1,Option.bind_some,h2]
 rfl
theorem Ad {f:FE}{g:FA}{τ τ1 τ2:aw}{t:T}{ts:List T}(h1:f τ=some (t,τ1))(h2:g τ1=some (ts,τ2)):af f g τ=some (t::ts,τ2):=by
 unfold af
 rw [h1,Option.bind_some,h2]
 rfl
theorem aV {g:T->T->Option T}{fa fb:FE}{τ:aw}{a b t:T}(h1:fa τ=some (a,τ))(h2:fb τ=some (b,τ))(h:g a b=some t):aJ g fa fb τ=some (t,τ):=by
 unfold aJ
 rw [h1,Option.bind_some,h2,Option.bind_some]
 show (g a b).bind _=_
 rw [h]
 rfl
theorem len_tab (A:List (List Rat)):dz [bq A]=some (.int (A.length:Nat)):=by
 show some (T.int ((A.map dO).length:Nat))=_
 rw [List.length_map]
theorem Ew {f g:FE}{τ:aw}{a b:Nat}(h1:f τ=some (bo a,τ))(h2:g τ=some (bo b,τ)):fL (aJ BM f g) τ=some (decide (a<b),τ):=by
 unfold fL aJ
 rw [h1,Option.bind_some]
 dsimp only
 rw [h2,Option.bind_some]
 show some (decide ((a:Int)<(b:Int)),τ)=_
 congr 2
 simp only [Int.ofNat_lt]
theorem AM {A:List (List Rat)}{i:Nat}(h:i<A.length):fH (bq A) (bo i)=some (dO (A.getD i [])):=by
 show mO (A.map dO) (i:Int)=_
 unfold mO wI
 rw [if_pos (by omega),List.length_map,if_pos (by omega),Option.bind_some,Int.toNat_natCast,List.getElem?_map,List.getElem?_eq_getElem h,List.getD_eq_getElem?_getD,List.getElem?_eq_getElem h]
 rfl
theorem lP {N d:Int}(hd:¬ d=0)(bd:d.natAbs<B):fq (.int N) (.int d)=some (.int (N.fdiv d)):=if_pos ⟨hd,bd⟩
theorem nO {a b:Int}(h1:a.natAbs<B)(h2:b.natAbs<B):fu (.int a) (.int b)=some (.int (a*b)):=if_pos ⟨h1,h2⟩
theorem Dl {a b:Int}:rR (.int a) (.int b)=some (.int (a-b)):=rfl
theorem yr {a b:Int}(hb:b≠0):uP a b=uk (Rat.divInt a b):=by
 by_cases h:0<b
 ·exact tU h
 ·have hn:0 < -b:=by omega
  have e1:uP a b=uP (-a) (-b):=by
   rw [tR hn]
   unfold uP sg
   rw [if_pos (by omega),Int.gcd_neg,Int.neg_gcd]
   have h1:∀x g:Int,x.fdiv (-g)=(-x).fdiv g:=fun x g=>by
    rw [<- Int.neg_fdiv_neg]
    rw [Int.neg_neg]
   rw [h1,h1]
  rw [e1,tU hn,<- Rat.neg_divInt_neg,Int.neg_neg,Int.neg_neg]
theorem CJ {L:List T}{p:Nat}{t:T}(h:L[p]? = some t):fH (.lst L) (bo p)=some t:=by
 have hp:=(List.getElem?_eq_some_iff.mp h).1
 show mO L (p:Int)=_
 unfold mO wI
 rw [if_pos (by omega),if_pos (by omega),Option.bind_some,Int.toNat_natCast,h]
theorem rG {a b:Int}(hb:b≠0):(Rat.divInt a b).den∣b.natAbs:=by
 rw [Rat.den_divInt,if_neg hb]
 exact Nat.div_dvd_of_dvd (by
  have:=Int.natAbs_dvd_natAbs.mpr (Int.gcd_dvd_left b a)
  rwa [Int.natAbs_natCast] at this)
theorem rH {a b:Int}(hb:b≠0):(Rat.divInt a b).num.natAbs≤a.natAbs:=by
 rw [Rat.num_divInt]
 have h1:((Int.gcd b a:Nat):Int)∣b.sign*a:=Int.dvd_mul_of_dvd_right (Int.gcd_dvd_right _ _)
 rw [Int.natAbs_ediv_of_dvd h1,Int.natAbs_mul]
 have h2:b.sign.natAbs=1:=by
  rcases Int.lt_or_gt_of_ne hb with h | h
  ·rw [Int.sign_eq_neg_one_of_neg h];rfl
  ·rw [Int.sign_eq_one_of_pos h];rfl
 rw [h2,Nat.one_mul]
 exact Nat.div_le_self _ _
theorem fN {N d:Int}(hd:¬ d=0):bR (.int N) (.int d)=some (.int (N.fmod d)):=if_pos hd
structure Bw (w M:Nat)(A:List (List Rat)):Prop where
 wd:∀r∈A,r.length=w
 lq:∀r∈A,∀x∈r,Lq 1 M x
theorem w6 {f:FE}{c:FT}{s:FS}{τ τ' τ'':aw}(h1:f τ=some (.bl true,τ'))(h2:c τ'=some (false,τ'')):bz (lS (bU (cm f)) c) s aX τ=some (.nx τ''):=by
 have e:bU (cm f) τ=some (false,τ'):=by
  unfold bU cm
  rw [h1]
  rfl
 unfold bz lS
 rw [e,Option.bind_some]
 dsimp only
 rw [if_neg (by decide),h2]
 rfl
theorem iQ {c:FT}{s:FS}{τ τ':aw}(h:c τ=some (false,τ')):bz c s aX τ=some (.nx τ'):=by
 unfold bz
 rw [h]
 rfl
def Ov (D N:Nat)(q:Rat):Prop:=∃a:Int,q=Rat.divInt a (D:Int)/\a.natAbs≤N
theorem Ov.num {D N:Nat}(hD:0<D){q:Rat}(h:Ov D N q):q.num.natAbs≤N:=by
 obtain⟨a,rfl,ha⟩:=h
 exact Nat.le_trans (rH (by omega)) ha
theorem Ov.den {D N:Nat}(hD:0<D){q:Rat}(h:Ov D N q):q.den∣D:=by
 obtain⟨a,rfl,ha⟩:=h
 have:=rG (a:=a) (b:=(D:Int)) (by omega)
 rw [Int.natAbs_natCast] at this
 exact this
theorem Ov.sm {D N:Nat}(hD:0<D)(hd:D<C)(hn:N<C){q:Rat}(h:Ov D N q):Sm q:=⟨Nat.lt_of_le_of_lt (h.num hD) hn,Nat.lt_of_le_of_lt (Nat.le_of_dvd hD (h.den hD)) hd⟩
theorem Ov.lq {k m:Nat}{q:Rat}(h:Lq k m q):Ov (DD k) (m*DD k) q:=h
theorem xv {f:FE}{τ τ':aw}{ts:List T}(h:f τ=some (.lst ts,τ')):cT f τ=some (ts,τ'):=by
 unfold cT
 rw [h]
 rfl
theorem nB {α:Type}(f:α->Bool):∀l:List α,boolsOf (l.map fun x=>T.bl (f x))=some (l.map f)
 |[]=>rfl
 |x::l=>by rw [List.map_cons,boolsOf,nB f l];rfl
theorem all_map {α:Type}(f:α->Bool)(l:List α):om [.lst (l.map fun x=>T.bl (f x))]=some (.bl (l.all f)):=by
 show (boolsOf _).bind _=_
 rw [nB,Option.bind_some,List.all_map]
 rfl
abbrev B6:List T->Option T:=bX 1 1 iU
abbrev Ag:List T->Option T:=bX 3 1 (fT B6 iy)
theorem wH (n:Int):B6 [.int n]=some (.bl true):=by
 unfold B6 bX iU
 walk_at "ev"
theorem En {x:Rat}(h:Sm x):Ag [uk x]=some (.bl true):=by
 have k1:=ma (a:=x.num) (b:=(x.den:Int)) (ltB h.n) (ltB (by rw [Int.natAbs_natCast];exact h.d))
 have hg:Int.gcd x.num (x.den:Int)=1:=x.reduced
 rw [hg] at k1
 have k2:=wH x.num
 have k3:=wH (x.den:Int)
 have hp:Eh (.int (x.den:Int)) (.int 1)=some (.bl true):=by
  have:=x.den_nz
  show some (T.bl (decide ((x.den:Int)≥1)))=_
  rw [decide_eq_true (by omega)]
 have k4:jg (.int ((1:Nat):Int)) (.int 1)=some (.bl true):=rfl
 unfold uk
 have c2:decide (((2:Nat):Int)=2)=true:=rfl
 generalize hw:B6=w at *
 generalize x.num=a at *
 generalize (x.den:Int)=b at *
 unfold Ag bX fT
 rw [hw]
 walk_at "ev"
abbrev zx:List T->Option T:=bX 2 2 fI
theorem n4 {a b:Nat}:bQ (bo a) (bo b)=some (.int ((a+b:Nat):Nat)):=by
 rw [dB,Int.natCast_add]
structure Tw (m w:Nat)(A:List (List Rat)):Prop where
 len:A.length=m
 bw:Bw w 9 A
theorem xZ {f g i j:FE}{τ:aw}{t u v x:T}(h:f τ=some (t,τ))(h':g τ=some (u,τ))(h'':i τ=some (v,τ))(h3:j τ=some (x,τ)):af f (af g (af i (af j az))) τ=some ([t,u,v,x],τ):=Ad h (kJ h' h'' h3)
theorem zL {f:FA}{τ τ':aw}{ts:List T}(h:f τ=some (ts,τ'))(hl:ts.length≤1000):bG f τ=some (.lst ts,τ'):=by
 unfold bG
 rw [h,Option.bind_some]
 exact if_pos (cq hl)
structure nY (m i o:Nat)(A B C D:List (List Rat)):Prop where
 a:Tw m m A
 b:Tw m i B
 c:Tw o m C
 d:Tw o i D
abbrev nK (A B C D:List (List Rat)):T:=.lst [bq A,bq B,bq C,bq D]
theorem ko {n:Nat}(h:n≤100):([]:List T).length+n≤sizeLine:=by rw [List.length_nil,Nat.zero_add];exact cq (by omega)
theorem iT {fa fb:FE}{τ τ':aw}(h:fa τ=some (.bl true,τ')):bY fa fb τ=fb τ':=by
 unfold bY
 rw [h]
 rfl
theorem vD {fa fb:FE}{τ τ':aw}(h:fa τ=some (.bl false,τ')):bY fa fb τ=some (.bl false,τ'):=by
 unfold bY
 rw [h]
 rfl
theorem yE (ts:List T):dz [.lst ts]=some (.int (ts.length:Nat)):=rfl
theorem ub (r:List Rat):dz [dO r]=some (.int (r.length:Nat)):=by
 show some (T.int ((r.map uk).length:Nat))=_
 rw [List.length_map]
theorem vT (a b:Nat):jg (bo a) (bo b)=some (.bl (decide (a=b))):=by
 rw [kZ]
 exact congrArg (fun z=>some (T.bl z)) (decide_eq_decide.mpr (by omega))
abbrev jm:List T->Option T:=bX 2 2 (pX Ag)
def wG:FE:=fj 1 [] (cT (ai 0)) (aI 0) bF (aq Ag (bp 0))
theorem CI (t:T)(n:Nat):jm [t,bo n]=((aZ (bY (aq aU (af (ai 0) (af (fC (.ty "list")) az))) (bY (aJ jg (aq dz (bp 0)) (ai 1)) (aq om (af wG az)))) [aF t,aF (bo n)]).bind fun r=>match r with | .rt t=>some t | .nx _=>some .non | _=>none):=rfl
theorem AH {α:Type}{φ:α->T}{f:α->Bool}(l:List α)(hl:l.length≤100)(h:∀x∈l,Ag [φ x]=some (.bl (f x)))(n:Nat):jm [.lst (l.map φ),bo n]=some (.bl (decide (l.length=n)&&l.all f)):=by
 have c1:=eX (φ:=φ) (fe:=aq Ag (bp 0)) (g:=fun x=>T.bl (f x)) (ρ:=[]) rfl l none [] (fun x hx=>aG [φ x] rfl (h x hx)) (ko hl)
 have e1:=ig (no:=1) (cap:=[]) (fi:=cT (ai 0)) (fg:=aI 0) (ft:=bF) (τ:=[aF (.lst (l.map φ)),aF (bo n)]) (h1:=rfl) rfl rfl c1
 rw [List.nil_append] at e1
 have e2:aq aU (af (ai 0) (af (fC (.ty "list")) az)) [aF (.lst (l.map φ)),aF (bo n)]=some (.bl true,[aF (.lst (l.map φ)),aF (bo n)]):=rfl
 have e3:aJ jg (aq dz (bp 0)) (ai 1) [aF (.lst (l.map φ)),aF (bo n)]=some (.bl (decide (l.length=n)),[aF (.lst (l.map φ)),aF (bo n)]):=aV (aG _ (eA rfl) (yE _)) rfl (by rw [List.length_map];exact vT _ _)
 rw [CI]
 unfold aZ
 rw [iT e2]
 by_cases hn:l.length=n
 ·rw [decide_eq_true hn] at e3
  rw [iT e3,show aq om (af wG az) [aF (.lst (l.map φ)),aF (bo n)]=_ from aG _ (eA e1) (all_map f l),decide_eq_true hn]
  rfl
 ·rw [decide_eq_false hn] at e3
  rw [vD e3,decide_eq_false hn]
  rfl
theorem jW {alts:List (Addr×(List T->Option T))}{m:Str}{fo:FE}{g:FA}{τ τ1 τ2:aw}{C:Addr}{ns:List Str}{ts qs:List T}{d:List T->Option T}{t:T}(h:fo τ=some (.obj C ns ts,τ1))(hm:¬ m∈ns)(hf:ky C alts=some d)(hg:g τ1=some (qs,τ2))(hd:d (.obj C ns ts::qs)=some t):cS alts m fo g τ=some (t,τ2):=by
 unfold cS
 rw [h,Option.bind_some]
 dsimp only
 rw [if_neg hm,hf,Option.bind_some,hg,Option.bind_some]
 dsimp only
 rw [hd]
 rfl
theorem AV {f:FE}{τ:aw}{u:T}(h:f τ=some (u,τ)):bG (af f az) τ=some (.lst [u],τ):=by
 unfold bG
 rw [eA h,Option.bind_some]
 exact if_pos Fh
theorem DF (a b:Int)(τ:aw):ek (af (fC (.int a)) (af (fC (.int b)) az)) τ=some (.tup [.int a,.int b],τ):=by
 unfold ek
 rw [eB (f:=fC (.int a)) (g:=fC (.int b)) rfl rfl,Option.bind_some]
 exact if_pos Es
theorem uf {c1 c2:FT}{τ τ' τ'':aw}(h1:c1 τ=some (false,τ'))(h2:c2 τ'=some (false,τ'')):lS c1 c2 τ=some (false,τ''):=by
 unfold lS
 rw [h1,Option.bind_some]
 exact (if_neg Bool.false_ne_true).trans h2
theorem tm {a b c:Int}{fb fc:FE}{τ:aw}(hb:fb τ=some (.int b,τ))(hc:fc τ=some (.int c,τ))(h1:a≤b)(h2:b≤c):jR yt yt (fC (.int a)) fb fc τ=some (.bl true,τ):=by
 unfold jR
 rw [show fC (.int a) τ=some (.int a,τ) from rfl,Option.bind_some,hb,Option.bind_some]
 rw [show yt (.int a) (.int b)=some (.bl (decide (a≤b))) from rfl,decide_eq_true h1,Option.bind_some]
 dsimp only
 rw [hc,Option.bind_some,show yt (.int b) (.int c)=some (.bl (decide (b≤c))) from rfl,decide_eq_true h2]
 rfl
theorem wW {f:FE}{τ τ':aw}(h:f τ=some (.bl true,τ')):bU (fL f) τ=some (false,τ'):=by
 unfold bU fL
 rw [h]
 rfl
theorem B9 {m n:Nat}{fb:FS}{ts:List T}{τ:aw}(hl:ts.length=n)(h:fb (ts.map (fun t=>some (Sl.sh t))++List.replicate (m-n) none)=some (.nx τ)):bX m n fb ts=some .non:=by
 unfold bX
 rw [if_pos hl,h]
 rfl
theorem zK {x:Rat}(h:Lq 1 9 x):Sm x:=(Ov.lq h).sm (vy 1) (by decide +kernel) (by decide +kernel)
structure Tn (m w:Nat)(A:List (List Rat)):Prop where
 len:A.length=m
 wd:∀r∈A,r.length=w
 sm:∀r∈A,∀x∈r,Sm x
theorem Tw.tn {m w:Nat}{A:List (List Rat)}(h:Tw m w A):Tn m w A:=⟨h.len,h.bw.wd,fun r hr x hx=>zK (h.bw.lq r hr x hx)⟩
structure Sy (m i o:Nat)(A B C D:List (List Rat)):Prop where
 a:Tn m m A
 b:Tn m i B
 c:Tn o m C
 d:Tn o i D
theorem nY.sy {m i o:Nat}{A B C D:List (List Rat)}(h:nY m i o A B C D):Sy m i o A B C D:=⟨h.a.tn,h.b.tn,h.c.tn,h.d.tn⟩
theorem zB {r:List Rat}{w:Nat}(hl:r.length=w)(h8:w≤100)(h:∀x∈r,Sm x):jm [dO r,bo w]=some (.bl true):=by
 have e:=AH (φ:=uk) (f:=fun _=>true) r (by omega) (fun x hx=>En (h x hx)) w
 rw [decide_eq_true hl,show (r.all fun _=>true)=true by simp] at e
 exact e
abbrev uK:List T->Option T:=bX 3 3 (gF jm)
theorem tM {m w:Nat}{A:List (List Rat)}(h:Tn m w A)(hm:m≤100)(hw:w≤100):uK [bq A,bo m,bo w]=some (.bl true):=by
 have c1:=eX (φ:=dO) (fe:=aq jm (af (ai 0) (bp 1))) (g:=fun _=>T.bl true) (ρ:=[aF (bo w)]) rfl A none [] (fun r hr=>aG [dO r,bo w] rfl (zB (h.wd r hr) hw (h.sm r hr))) (ko (by rw [h.len];exact hm))
 have e1:=ig (no:=1) (cap:=[2]) (fi:=cT (ai 0)) (fg:=aI 0) (ft:=bF) (τ:=[aF (bq A),aF (bo m),aF (bo w)]) (ts:=A.map dO) rfl rfl rfl c1
 rw [List.nil_append] at e1
 have e4:=aG (g:=om) _ (eA e1) (all_map (fun _=>true) A)
 rw [show (A.all fun _=>true)=true by simp] at e4
 refine dw rfl ?_
 show gF jm [aF (bq A),aF (bo m),aF (bo w)]=_
 unfold gF
 exact gT ((iT rfl).trans ((iT (aV (aG _ (eA rfl) (len_tab A)) rfl (by rw [vT,decide_eq_true h.len]))).trans e4))
abbrev yh:List T->Option T:=bX 7 4 (fJ uK)
section
variable {m i o:Nat}{A B C D:List (List Rat)}
theorem Sy.row0 (h:Sy m i o A B C D)(ho:0<o):(D.getD 0 []).length=i:=by
 have hl:=h.d.len
 cases D with
 |nil=>simp at hl;omega
 |cons d D=>exact h.d.wd d List.mem_cons_self
theorem A4 {g:FA}{i j k:Nat}{τ τ':aw}{a b c:T}(h:g τ=some ([a,b,c],τ')):tO i j k g τ=some (.nx (((τ'.set i (aF a)).set j (aF b)).set k (aF c))):=by
 unfold tO
 rw [h]
 rfl
theorem Ao (h:Sy m i o A B C D)(hm:m≤100)(hi:1≤i/\i≤2)(ho:1≤o/\o≤2):yh [bq A,bq B,bq C,bq D]=some (.bl true):=by
 have lA:=len_tab A
 have lD:=len_tab D
 have lR:=ub (D.getD 0 [])
 have ix:fH (bq D) (.int 0)=some (dO (D.getD 0 [])):=AM (i:=0) (by rw [h.d.len];omega)
 rw [h.row0 (by omega)] at lR
 rw [h.a.len] at lA
 rw [h.d.len] at lD
 refine dw rfl ?_
 show fJ uK [aF (bq A),aF (bq B),aF (bq C),aF (bq D),none,none,none]=_
 unfold fJ
 refine (bc (w6 rfl (uf (CT rfl) (wW (tm (aG _ (eA rfl) lD) rfl (by omega) (by omega)))))).trans ?_
 refine (bc (w6 (aG _ (eB (aV rfl rfl ix) rfl) rfl) (wW (tm (aG _ (eA (aV rfl rfl ix)) lR) rfl (by omega) (by omega))))).trans ?_
 refine (bc (A4 (kJ (aG _ (eA rfl) lA) (aG _ (eA (aV rfl rfl ix)) lR) (aG _ (eA rfl) lD)))).trans ?_
 exact gT ((iT (aG _ (kJ rfl rfl rfl) (tM h.a hm hm))).trans ((iT (aG _ (kJ rfl rfl rfl) (tM h.b hm (by omega)))).trans ((iT (aG _ (kJ rfl rfl rfl) (tM h.c (by omega) hm))).trans (aG _ (kJ rfl rfl rfl) (tM h.d (by omega) (by omega))))))
abbrev ej:Addr:=470
abbrev vJ:Addr:=51
abbrev eQ:Addr:=70
abbrev vL:Addr:=89
abbrev vK:Addr:=108
def vp (r:List Rat):T:=.tup (r.map uk)
def nh (A:List (List Rat)):T:=.tup (A.map vp)
abbrev kz (A B C D:List (List Rat)):T:=.tup [nh A,nh B,nh C,nh D]
def dX (A B C D:List (List Rat)):T:=.obj ej ["four"] [kz A B C D]
theorem wF {t:FS}{fr:Addr->FI}{x:Addr}{τ:aw}{ns:List Str}{us:List T}(h:t τ=some (.nx τ))(ha:bt τ=true)(h0:τ[0]? = some (aF (.ptr x))):wD t fr x τ ns us=fr x τ ns us:=by
 unfold wD
 rw [h,Option.bind_some]
 dsimp only
 rw [if_pos ha,h0]
 exact if_pos rfl
theorem lV {f:Str}{fe:FE}{fr:Addr->FI}{x:Addr}{τ:aw}{ns:List Str}{us:List T}{t:T}(h:fe τ=some (t,τ))(ha:bt τ=true)(hn:¬ f∈ns/\ns.length<999)(h0:τ[0]? = some (aF (.ptr x))):qf f fe fr x τ ns us=fr x τ (ns++[f]) (us++[t]):=by
 unfold qf
 rw [h,Option.bind_some]
 dsimp only
 rw [if_pos ⟨ha,hn⟩,h0]
 exact if_pos rfl
theorem wg {P:List (List Rat)->Prop}(a:P A)(b:P B)(c:P C)(d:P D):∀X∈[A,B,C,D],P X:=by
 intro X hX
 simp only [List.mem_cons,List.not_mem_nil,or_false] at hX
 rcases hX with rfl | rfl | rfl | rfl
 ·exact a
 ·exact b
 ·exact c
 ·exact d
theorem Sy.len8 (h:Sy m i o A B C D)(hm:m≤8)(ho:o≤8):∀X∈[A,B,C,D],X.length≤8:=wg (P:=fun X=>X.length≤8) (by rw [h.a.len];exact hm) (by rw [h.b.len];exact hm) (by rw [h.c.len];exact ho) (by rw [h.d.len];exact ho)
theorem BC {f g p q:FE}{τ:aw}{t u v x:T}(h:f τ=some (t,τ))(h':g τ=some (u,τ))(h'':p τ=some (v,τ))(h3:q τ=some (x,τ)):ek (af f (af g (af p (af q az)))) τ=some (.tup [t,u,v,x],τ):=by
 unfold ek
 rw [xZ h h' h'' h3,Option.bind_some]
 exact if_pos Fi
abbrev Cc:List T->Option nk:=dI 5 4 (cg yh)
theorem Ck (h:Sy m i o A B C D)(hm:m≤8)(hi:1≤i/\i≤2)(ho:1≤o/\o≤2):Cc [bq A,bq B,bq C,bq D]=some (((["four"]:List Str),[kz A B C D]):nk):=by
 refine p9 ⟨rfl,fun x=>?_⟩
 show cg yh x [aF (.ptr x),aF (bq A),aF (bq B),aF (bq C),aF (bq D)] [] []=_
 have lA:=len_tab A
 rw [h.a.len] at lA
 have l8:=h.len8 hm (by omega)
 have hc:=eX (φ:=bq) (fe:=aq ff (af (fj 1 [] (cT (ai 0)) (aI 0) bF (aq ff (bp 0))) az)) (g:=nh) (ρ:=[]) rfl [A,B,C,D] none [] (fun X hX=>by
  have hc:=eX (φ:=dO) (fe:=aq ff (bp 0)) (g:=vp) (ρ:=[]) rfl X none [] (fun r hr=>aG [dO r] rfl rfl) (uw (Nat.le_trans (l8 X hX) (by decide)))
  exact aG _ (eA (ig (no:=1) (cap:=[]) (fi:=cT (ai 0)) (fg:=aI 0) (ft:=bF) (τ:=[aF (bq X)]) (ts:=X.map dO) rfl rfl rfl hc)) rfl) (uw (by simp))
 unfold cg
 rw [wF (yx (aG _ (xZ rfl rfl rfl rfl) (Ao h (by omega) hi ho))) rfl rfl]
 refine (wF (iQ ?_) rfl rfl).trans ?_
 ·unfold fL
  rw [aV (g:=xU) (t:=.bl (decide (((m:Nat):Int)>8))) (aG (g:=dz) [bq A] (eA rfl) lA) rfl rfl,decide_eq_false (by omega)]
  rfl
 ·refine (lV (aG _ (eA (ig (no:=1) (cap:=[]) (fg:=aI 0) (ft:=bF) (ts:=[A,B,C,D].map bq) ?_ rfl rfl hc)) rfl) rfl ⟨by decide,by decide⟩ rfl).trans rfl
  unfold cT
  rw [BC (t:=bq A) (u:=bq B) (v:=bq C) (x:=bq D) rfl rfl rfl rfl]
  rfl
abbrev rF:List T->Option T:=bX 1 1 (gS ej)
abbrev Ah:List T->Option T:=bX 1 1 (iN ej)
theorem Cf:rF [dX A B C D]=some (.int (A.length:Nat)):=by
 refine dw rfl (gT (aG (t:=.int (A.length:Nat)) [nh A] (eA (aV (g:=fH) (t:=nh A) (a:=kz A B C D) (b:=.int 0) rfl rfl rfl)) ?_))
 show some (T.int ((A.map vp).length:Nat))=_
 rw [List.length_map]
theorem yB {t:T}{ts:List T}:fH (.tup (t::ts)) (.int 0)=some t:=by
 show mO (t::ts) 0=_
 unfold mO wI
 rw [if_pos (by decide),if_pos (by rw [List.length_cons];omega)]
 rfl
theorem Cg (h:Sy m i o A B C D)(ho:0<o):Ah [dX A B C D]=some (bo i):=by
 have hr:=h.row0 ho
 have hl:=h.d.len
 cases D with
 |nil=>simp at hl;omega
 |cons d D =>
  refine dw rfl (gT (aG (t:=bo i) [vp d] (eA (aV (g:=fH) (t:=vp d) (a:=nh (d::D)) (b:=.int 0) (aV (g:=fH) (a:=kz A B C (d::D)) (b:=.int 3) rfl rfl rfl) rfl yB)) ?_))
  show some (T.int ((d.map uk).length:Nat))=_
  rw [List.length_map]
  exact congrArg (fun n:Nat=>some (bo n)) hr
abbrev B8:List T->Option T:=bX 1 1 (hV ej)
theorem Ci:B8 [dX A B C D]=some (.int (D.length:Nat)):=by
 refine dw rfl (gT (aG (t:=.int (D.length:Nat)) [nh D] (eA (aV (g:=fH) (t:=nh D) (a:=kz A B C D) (b:=.int 3) rfl rfl rfl)) ?_))
 show some (T.int ((D.map vp).length:Nat))=_
 rw [List.length_map]
end
theorem jr (x:Int){b:Int}(h:0<b):0≤x.fmod b/\x.fmod b<b:=⟨Int.fmod_nonneg_of_pos x h,Int.fmod_lt_of_pos x h⟩
def cellQ (ns:List Int)(k:Nat):Int:=if k<ns.length then ns.getD k 0 else (((k:Nat)+2:Int)*104729).fmod 65537
theorem oz (ns:List Int)(k:Nat)(hk:k≤1000):zx [.scr (ns.map T.int),bo k]=some (.int (cellQ ns k)):=by
 have hl:aq dz (bp 0) [aF (.scr (ns.map T.int)),aF (bo k)]=some (.int (ns.length:Nat),[aF (.scr (ns.map T.int)),aF (bo k)]):=aG [.scr (ns.map T.int)] (eA rfl) (by
  show some (T.int ((ns.map T.int).length:Nat))=_
  rw [List.length_map])
 have ht:=Ew (f:=ai 1) (g:=aq dz (bp 0)) (τ:=[aF (.scr (ns.map T.int)),aF (bo k)]) (a:=k) (b:=ns.length) rfl hl
 refine dw rfl ?_
 show fI [aF (.scr (ns.map T.int)),aF (bo k)]=_
 unfold fI cellQ
 by_cases h:k<ns.length
 ·have e:=yA (ns:=ns) (k:=(k:Nat)) (by omega) (by omega)
  rw [Int.toNat_natCast] at e
  rw [if_pos h]
  unfold aL bz
  rw [ht,Option.bind_some]
  dsimp only
  rw [if_pos (decide_eq_true h),gT (aV (g:=fH) (fa:=ai 0) (fb:=ai 1) rfl rfl e)]
  rfl
 ·rw [bc (iQ (by rw [ht,decide_eq_false h])),if_neg h]
  exact gT (aV (g:=bR) (aV (g:=fu) (aV (g:=bQ) rfl rfl dB) rfl (nO (dH (by omega) (by omega)) (dH (by decide) (by decide)))) rfl (fN (by decide)))
def AW (c k:Int):Int:=
 let a:=(c.fmod 2147483647*48271+7919*k+13).fmod 2147483629
 let b:=(a*a+104729*k+7).fmod 2147483587
 (b*b).fmod 2147483579
abbrev Ai:List T->Option T:=bX 3 2 gD
theorem Ap {c k:Int}(h0:0≤k)(h1:k≤1000):Ai [.int c,.int k]=some (.int (AW c k)):=by
 have r0:=jr c (b:=2147483647) (by decide)
 have r1:=jr (c.fmod 2147483647*48271+7919*k+13) (b:=2147483629) (by decide)
 have bb:2147483647<B:=by decide +kernel
 refine dw rfl ?_
 show gD [aF (.int c),aF (.int k),none]=_
 unfold gD AW
 dsimp only
 refine (bc (cY (aV (g:=bR) (aV (g:=bQ) (aV (g:=bQ) (aV (g:=fu) (aV (g:=bR) rfl rfl (fN (by decide))) rfl (nO (by omega) (by omega))) (aV (g:=fu) rfl rfl (nO (by omega) (by omega))) dB) rfl dB) rfl (fN (by decide))) rfl)).trans ?_
 generalize (c.fmod 2147483647*48271+7919*k+13).fmod 2147483629=a at *
 have r2:=jr (a*a+104729*k+7) (b:=2147483587) (by decide)
 refine (bc (cY (aV (g:=bR) (aV (g:=bQ) (aV (g:=bQ) (aV (g:=fu) rfl rfl (nO (by omega) (by omega))) (aV (g:=fu) rfl rfl (nO (by omega) (by omega))) dB) rfl dB) rfl (fN (by decide))) rfl)).trans ?_
 generalize (a*a+104729*k+7).fmod 2147483587=b at *
 exact gT (aV (g:=bR) (aV (g:=fu) rfl rfl (nO (by omega) (by omega))) rfl (fN (by decide)))
abbrev BK:List T->Option T:=bX 1 1 (cw md)
theorem Cj (c:Int):∃q:Rat,BK [.int c]=some (uk q)/\Lq 1 9 q:=by
 have r19:=jr c (b:=19) (by decide)
 have r12:=jr (c.fdiv 19) (b:=12) (by decide)
 have hf:=wR (a:=c.fmod 19-9) (b:=1+(c.fdiv 19).fmod 12) (dH (by omega) (by omega)) (dH (by omega) (by omega)) (by omega)
 rw [yr (by omega)] at hf
 have hn:=Lq.small (a:=c.fmod 19-9) (b:=1+(c.fdiv 19).fmod 12) (by omega) (by omega) (by omega)
 have ht:fL (aJ jg (aJ bR (aJ fq (ai 0) (aQ 228)) (aQ 2)) (aQ 1)) [aF (.int c)]=some (decide ((c.fdiv 228).fmod 2=1),[aF (.int c)]):=by
  unfold fL
  rw [aV (g:=jg) (fb:=aQ 1) (τ:=[aF (.int c)]) (aV (g:=bR) (fb:=aQ 2) (aV (g:=fq) (fa:=ai 0) (fb:=aQ 228) rfl rfl (lP (N:=c) (d:=228) (by decide) (dH (by decide) (by decide)))) rfl (fN (d:=2) (by decide))) rfl (kZ _ _)]
  rfl
 by_cases h:(c.fdiv 228).fmod 2=1
 ·refine⟨0,dw rfl ?_,(Lq.zero 1).mono (Nat.zero_le _)⟩
  show cw md [aF (.int c)]=_
  unfold cw aL bz
  rw [ht,Option.bind_some]
  dsimp only
  rw [if_pos (decide_eq_true h),gT (DF 0 1 _)]
  rfl
 ·refine⟨_,dw rfl ?_,hn⟩
  show cw md [aF (.int c)]=_
  unfold cw
  rw [bc (iQ (by rw [ht,decide_eq_false h]))]
  exact gT (aG [.int (c.fmod 19-9),.int (1+(c.fdiv 19).fmod 12)] (eB (aV (g:=rR) (aV (g:=bR) rfl rfl (fN (by decide))) rfl Dl) (aV (g:=bQ) rfl (aV (g:=bR) (aV (g:=fq) rfl rfl (lP (by decide) (dH (by decide) (by decide)))) rfl (fN (by decide))) dB)) hf)
def pJ:FS:=(aL (bJ 5 (aJ bR (ai 3) (aQ 456)))
  (aL (bJ 3 (aJ fq (ai 3) (aQ 456)))
  (aL (bz (fL (aJ jg (aJ bR (ai 0) (aQ 2)) (aQ 0))) (bJ 5 (aJ bR (aq Ai (af (aJ fq (ai 0) (aQ 2)) (bp 4))) (aQ 456))) aX)
  (oA 2 (aq BK (bp 5))))))
abbrev xX (c n:Int)(ts:List T)(r:Int)(x4 x5:Option Sl):aw:=[aF (.int c),aF (.int n),some (.own ts),aF (.int r),x4,x5]
theorem zh (c n r k:Int)(ts:List T)(x5:Option Sl)(hk:0≤k/\k≤1000)(hl:ts.length<1000):∃q:Rat,∃r' y5,Lq 1 9 q/\pJ (xX c n ts r (aF (.int k)) x5)=some (.nx (xX c n (ts++[uk q]) r' (aF (.int k)) y5)):=by
 have b456:(456:Int).natAbs<B:=dH (by decide) (by decide)
 have hm:=Ap (c:=c.fdiv 2) (k:=k) hk.1 hk.2
 have e3:∃d:Int,bz (fL (aJ jg (aJ bR (ai 0) (aQ 2)) (aQ 0))) (bJ 5 (aJ bR (aq Ai (af (aJ fq (ai 0) (aQ 2)) (bp 4))) (aQ 456))) aX (xX c n ts (r.fdiv 456) (aF (.int k)) (aF (.int (r.fmod 456))))=some (.nx (xX c n ts (r.fdiv 456) (aF (.int k)) (aF (.int d)))):=by
  have ht:fL (aJ jg (aJ bR (ai 0) (aQ 2)) (aQ 0)) (xX c n ts (r.fdiv 456) (aF (.int k)) (aF (.int (r.fmod 456))))=some (decide (c.fmod 2=0),xX c n ts (r.fdiv 456) (aF (.int k)) (aF (.int (r.fmod 456)))):=by
   unfold fL
   rw [aV (g:=jg) (fb:=aQ 0) (τ:=xX c n ts (r.fdiv 456) (aF (.int k)) (aF (.int (r.fmod 456)))) (aV (g:=bR) (fa:=ai 0) (fb:=aQ 2) rfl rfl (fN (N:=c) (d:=2) (by decide))) rfl (kZ _ _)]
   rfl
  by_cases h:c.fmod 2=0
  ·refine⟨(AW (c.fdiv 2) k).fmod 456,?_⟩
   unfold bz
   rw [ht,Option.bind_some]
   dsimp only
   rw [if_pos (decide_eq_true h)]
   exact cY (aV (g:=bR) (aG [.int (c.fdiv 2),.int k] (eB (aV (g:=fq) rfl rfl (lP (by decide) (dH (by decide) (by decide)))) rfl) hm) rfl (fN (by decide))) rfl
  ·exact⟨r.fmod 456,iQ (by rw [ht,decide_eq_false h])⟩
 obtain⟨d,e3⟩:=e3
 obtain⟨q,hq,hl9⟩:=Cj d
 refine⟨q,r.fdiv 456,aF (.int d),hl9,?_⟩
 unfold pJ
 refine (bc (cY (aV (g:=bR) rfl rfl (fN (by decide))) rfl)).trans ?_
 refine (bc (cY (aV (g:=fq) rfl rfl (lP (by decide) b456)) rfl)).trans ?_
 refine (bc e3).trans ?_
 exact zv (i:=2) (ts:=ts) rfl (aG [.int d] (eA rfl) hq) (gy (by omega))
theorem um (c n:Int):∀(m:Nat) (lo r:Int) (ts:List T) (x4 x5:Option Sl),0≤lo->lo+m≤1000->ts.length+m<1000->∃us:List Rat,∃r' y4 y5,(∀t∈us,Lq 1 9 t)/\us.length=m/\fM (aI 4) pJ (TM.upTo lo m) (xX c n ts r x4 x5)=some (.nx (xX c n (ts++us.map uk) r' y4 y5))
 |0,lo,r,ts,x4,x5,_,_,_=>⟨[],r,x4,x5,fun t ht=>(by cases ht),rfl,by simp [TM.upTo,fM]⟩
 |m+1,lo,r,ts,x4,x5,h0,h1,h2=>by
  obtain⟨t,r',y5,ht,hb⟩:=zh c n r lo ts x5 (by omega) (by omega)
  obtain⟨us,r2,z4,z5,g1,g2,g3⟩:=um c n m (lo+1) r' (ts++[uk t]) (aF (.int lo)) y5 (by omega) (by omega) (by simp;omega)
  refine⟨t::us,r2,z4,z5,fun x hx=>?_,by simp [g2],?_⟩
  ·rcases List.mem_cons.mp hx with rfl | hx
   ·exact ht
   ·exact g1 x hx
  ·rw [show TM.upTo lo (m+1)=T.int lo::TM.upTo (lo+1) m from rfl,eY rfl hb,g3]
   simp
abbrev zA:List T->Option T:=bX 6 2 (gE Ai BK)
theorem yc:gE Ai BK=aL (dg 2 az) (aL (bJ 3 (aJ fq (ai 0) (aQ 2))) (aL (jq (fm (bp 1)) (aI 4) pJ) (aZ (ai 2)))):=rfl
theorem ui (i:Nat)(τ:aw):dg i az τ=some (.nx (τ.set i (some (.own [])))):=by
 unfold dg
 rw [show az τ=some ([],τ) from rfl,Option.bind_some]
 exact if_pos Fg
theorem zE (c:Int)(n:Nat)(hn:n≤100):∃r:List Rat,zA [.int c,bo n]=some (dO r)/\r.length=n/\∀x∈r,Lq 1 9 x:=by
 obtain⟨us,r',y4,y5,h1,h2,h3⟩:=um c (n:Nat) n 0 (c.fdiv 2) [] none none (by decide) (by omega) (by simp;omega)
 refine⟨us,?_,h2,h1⟩
 have hr:=qQ (f:=ai 1) (τ:=xX c (n:Nat) [] (c.fdiv 2) none none) (n:=(n:Int)) rfl (by omega) (by omega)
 rw [Int.toNat_natCast] at hr
 rw [List.nil_append] at h3
 refine dw rfl ?_
 show gE Ai BK [aF (.int c),aF (bo n),none,none,none,none]=_
 rw [yc]
 refine (bc (ui 2 _)).trans ?_
 refine (bc (cY (aV (g:=fq) rfl rfl (lP (by decide) (dH (by decide) (by decide)))) rfl)).trans ?_
 refine (bc (zG hr h3)).trans ?_
 rfl
theorem AX (x:Int){b:Int}(h:0<b):∃n:Nat,x.fmod b=(n:Nat)/\(n:Int)<b:=by
 refine⟨(x.fmod b).toNat,?_,?_⟩
 ·rw [Int.toNat_of_nonneg (Int.fmod_nonneg_of_pos x h)]
 ·rw [Int.toNat_of_nonneg (Int.fmod_nonneg_of_pos x h)]
  exact Int.fmod_lt_of_pos x h
abbrev DC (S:T)(k c:Int)(m i o:Nat)(ts:List T)(p:Nat)(x8 x9:Option Sl):aw:=[aF S,aF (.int k),aF (.int c),aF (bo m),aF (bo i),aF (bo o),some (.own ts),aF (bo p),x8,x9]
def xN:FE:=aq zA (af (aq zx (af (ai 1) (af (aJ bQ (ai 2) (ai 0)) az))) (bp 3))
def xJ:FS:=aL (oA 6 (fj 1 [0,7,9] (fm (bp 8)) (aI 0) bF xN)) (bJ 7 (aJ bQ (ai 7) (ai 8)))
theorem lr (ns:List Int)(k c:Int)(m i o p h w:Nat)(ts:List T)(hp:p+h≤1000)(hh:h≤100)(hw:w≤100)(ht:ts.length<1000):
  ∃A,Tw h w A/\xJ (DC (.scr (ns.map T.int)) k c m i o ts p (aF (bo h)) (aF (bo w)))=some (.nx (DC (.scr (ns.map T.int)) k c m i o (ts++[bq A]) (p+h) (aF (bo h)) (aF (bo w)))):=by
 obtain⟨f,hf⟩:=Classical.skolem.mp (fun j:Nat=>zE (cellQ ns (p+j)) w hw)
 have hc:=eX (φ:=fun j:Nat=>bo j) (fe:=xN) (g:=fun j=>dO (f j)) (ρ:=[aF (.scr (ns.map T.int)),aF (bo p),aF (bo w)]) rfl (List.range h) none [] (fun j hj=>by
  have hj':=List.mem_range.mp hj
  have hcell:=oz ns (p+j) (by omega)
  exact aG [.int (cellQ ns (p+j)),bo w] (eB (aG [.scr (ns.map T.int),.int ((p+j:Nat):Nat)] (eB rfl (aV (g:=bQ) rfl rfl n4)) hcell) rfl) (hf j).1) (ko (by rw [List.length_range];exact hh))
 rw [List.nil_append] at hc
 have e:=ig (no:=1) (cap:=[0,7,9]) (fi:=fm (bp 8)) (fg:=aI 0) (ft:=bF) (τ:=DC (.scr (ns.map T.int)) k c m i o ts p (aF (bo h)) (aF (bo w))) (zg (f:=ai 8) (n:=h) rfl (by omega)) rfl rfl hc
 refine⟨(List.range h).map f,⟨by rw [List.length_map,List.length_range],fun r hr=>?_,fun r hr x hx=>?_⟩,?_⟩
 ·obtain⟨j,_,rfl⟩:=List.mem_map.mp hr
  exact (hf j).2.1
 ·obtain⟨j,_,rfl⟩:=List.mem_map.mp hr
  exact (hf j).2.2 x hx
 ·have e':fj 1 [0,7,9] (fm (bp 8)) (aI 0) bF xN (DC (.scr (ns.map T.int)) k c m i o ts p (aF (bo h)) (aF (bo w)))=some (bq ((List.range h).map f),DC (.scr (ns.map T.int)) k c m i o ts p (aF (bo h)) (aF (bo w))):=by
   rw [e]
   unfold bq
   rw [List.map_map]
   rfl
  have a:=zv (i:=6) (ts:=ts) rfl e' (gy (by omega))
  unfold xJ
  rw [bc a]
  exact cY (aV (g:=bQ) rfl rfl n4) rfl
abbrev Cd:List T->Option T:=bX 10 2 (dZ zx zA)
def tK:List Nat:=[2,1,3,2,0,3,1,4]
def xM:FE:=bG (af (aQ 2) (af (aQ 1) (af (aQ 3) (af (aQ 2) (af (aQ 0) (af (aQ 3) (af (aQ 1) (af (aQ 4) az))))))))
theorem Bi (τ:aw):xM τ=some (.lst (tK.map fun n:Nat=>T.int n),τ):=by
 unfold xM
 exact zL (ts:=tK.map fun n:Nat=>T.int n) rfl (by decide)
theorem Cm (ns:List Int):∃(m i o:Nat) (A B C D:List (List Rat)),Cd [.scr (ns.map T.int),.int 0]=some (nK A B C D)/\nY m i o A B C D/\m≤4/\(1≤i/\i≤2)/\(1≤o/\o≤2):=by
 have c0:=oz ns 0 (by decide)
 generalize cellQ ns 0=c at *
 obtain⟨x,ex,hx⟩:=AX c (b:=8) (by decide)
 obtain⟨i,ei,hi'⟩:=AX (c.fdiv 8) (b:=2) (by decide)
 obtain⟨o,eo,ho'⟩:=AX (c.fdiv 16) (b:=2) (by decide)
 obtain⟨m,em,hm⟩:∃m:Nat,tK[x]? = some m/\m≤4:=by
  have:∀y<8,∃m:Nat,tK[y]? = some m/\m≤4:=by decide
  exact this x (by omega)
 obtain⟨A,hA,t1⟩:=lr ns 0 c m (1+i) (1+o) 1 m m [] (by omega) (by omega) (by omega) (by simp)
 obtain⟨B,hB,t2⟩:=lr ns 0 c m (1+i) (1+o) (1+m) m (1+i) ([]++[bq A]) (by omega) (by omega) (by omega) (by simp)
 obtain⟨C,hC,t3⟩:=lr ns 0 c m (1+i) (1+o) (1+m+m) (1+o) m ([]++[bq A]++[bq B]) (by omega) (by omega) (by omega) (by simp)
 obtain⟨D,hD,t4⟩:=lr ns 0 c m (1+i) (1+o) (1+m+m+(1+o)) (1+o) (1+i) ([]++[bq A]++[bq B]++[bq C]) (by omega) (by omega) (by omega) (by simp)
 refine⟨m,1+i,1+o,A,B,C,D,dw rfl ?_,⟨hA,hB,hC,hD⟩,hm,by omega,by omega⟩
 show dZ zx zA [aF (.scr (ns.map T.int)),aF (.int 0),none,none,none,none,none,none,none,none]=_
 unfold dZ
 refine (bc (cY (aG [.scr (ns.map T.int),.int 0] (eB rfl rfl) c0) rfl)).trans ?_
 refine (bc (cY (aV (g:=fH) (Bi _) (aV (g:=bR) rfl rfl ((fN (by decide)).trans (by rw [ex]))) (CJ (by rw [List.getElem?_map,em];rfl))) rfl)).trans ?_
 refine (bc (cY (aV (g:=bQ) rfl (aV (g:=bR) (aV (g:=fq) rfl rfl (lP (by decide) (dH (by decide) (by decide)))) rfl ((fN (by decide)).trans (by rw [ei]))) (n4 (a:=1))) rfl)).trans ?_
 refine (bc (cY (aV (g:=bQ) rfl (aV (g:=bR) (aV (g:=fq) rfl rfl (lP (by decide) (dH (by decide) (by decide)))) rfl ((fN (by decide)).trans (by rw [eo]))) (n4 (a:=1))) rfl)).trans ?_
 refine (bc (ui 6 _)).trans ?_
 refine (bc (cY (aV (g:=bQ) rfl rfl dB) rfl)).trans ?_
 exact (bc (zG (xv (zL (xZ (pT rfl rfl) (pT rfl rfl) (pT rfl rfl) (pT rfl rfl)) (by simp))) ((eY rfl t1).trans ((eY rfl t2).trans ((eY rfl t3).trans ((eY rfl t4).trans rfl)))))).trans rfl
abbrev yi:List T->Option T:=bX 3 1 (lG)
abbrev Aj:List T->Option T:=bX 5 3 (iO)
def xW:Option T->Bool
 |some (.bl b)=>!b
 |_=>false
theorem oE {o:Option T}(h:xW o=true):o=some (.bl false):=by
 unfold xW at h
 split at h
 ·next b=>cases b with
  |false=>rfl
  |true=>cases h
 ·cases h
def DO (o:Option T)(p:T->Bool):Bool:=match o with
 |some (.lst l)=>l.all p
 |_=>false
abbrev Ga (m:Nat):Bool:=DO (yi [bo m]) fun t=>xW (jm [t,bo m])
abbrev Gb (m w:Nat):Bool:=DO (Aj [bo m,bo w,bo m]) fun t=>xW (jm [t,bo m])&&xW (uK [t,bo m,bo w])&&xW (kL t t)
set_option maxRecDepth 100000 in
theorem yJ:∀m,m≤4->Ga m=true
 |0,_=>by kernel_rfl
 |1,_=>by kernel_rfl
 |2,_=>by kernel_rfl
 |3,_=>by kernel_rfl
 |4,_=>by kernel_rfl
 |n+5,h=>absurd h (by omega)
set_option maxRecDepth 100000 in
theorem yK:∀m w,m≤4->1≤w/\w≤2->Gb m w=true
 |0,1,_,_=>by kernel_rfl
 |1,1,_,_=>by kernel_rfl
 |2,1,_,_=>by kernel_rfl
 |3,1,_,_=>by kernel_rfl
 |4,1,_,_=>by kernel_rfl
 |0,2,_,_=>by kernel_rfl
 |1,2,_,_=>by kernel_rfl
 |2,2,_,_=>by kernel_rfl
 |3,2,_,_=>by kernel_rfl
 |4,2,_,_=>by kernel_rfl
 |m,0,_,h=>absurd h.1 (by omega)
 |m,w+3,_,h=>absurd h.2 (by omega)
 |m+5,w,h,_=>absurd h (by omega)
theorem Fl {o:Option T}{p:T->Bool}(h:DO o p=true):∃l,o=some (.lst l)/\∀t∈l,p t=true:=by
 unfold DO at h
 split at h
 ·next l=>exact⟨l,rfl,fun t ht=>List.all_eq_true.mp h t ht⟩
 ·cases h
theorem zC {m:Nat}(h:m≤4):∃l,yi [bo m]=some (.lst l)/\∀t∈l,jm [t,bo m]=some (.bl false):=by
 obtain⟨l,e,h2⟩:=Fl (o:=yi [bo m]) (p:=fun t=>xW (jm [t,bo m])) (yJ m h)
 exact⟨l,e,fun t ht=>oE (h2 t ht)⟩
theorem zF {m w:Nat}(h:m≤4)(hw:1≤w/\w≤2):∃l,Aj [bo m,bo w,bo m]=some (.lst l)/\∀t∈l,jm [t,bo m]=some (.bl false)/\uK [t,bo m,bo w]=some (.bl false)/\kL t t=some (.bl false):=by
 obtain⟨l,e,h2⟩:=Fl (o:=Aj [bo m,bo w,bo m]) (p:=fun t=>xW (jm [t,bo m])&&xW (uK [t,bo m,bo w])&&xW (kL t t)) (yK m w h hw)
 refine⟨l,e,fun t ht=>?_⟩
 have q:=h2 t ht
 rw [Bool.and_eq_true,Bool.and_eq_true] at q
 exact⟨oE q.1.1,oE q.1.2,oE q.2⟩
abbrev vI:Addr:=31
abbrev oi:Addr:=519
abbrev gW:Addr:=554
abbrev gY:Addr:=580
abbrev gX:Addr:=637
abbrev gZ:Addr:=663
abbrev B0:Addr:=293
abbrev B1:Addr:=328
abbrev rA:Addr:=354
theorem mf {f:FT}{τ τ':aw}{x:Bool}(h:f τ=some (x,τ')):bU f τ=some (!x,τ'):=by
 unfold bU
 rw [h]
 rfl
theorem mK {f:FE}{τ τ':aw}{x:Bool}(h:f τ=some (.bl x,τ')):cm f τ=some (x,τ'):=by
 unfold cm
 rw [h]
 rfl
theorem Gd {c1 c2:FT}{τ:aw}{x y:Bool}(h1:c1 τ=some (x,τ))(h2:x=false->c2 τ=some (y,τ)):lS c1 c2 τ=some (x||y,τ):=by
 unfold lS
 rw [h1]
 cases x with
 |true=>rfl
 |false=>exact h2 rfl
theorem D0 {f:FE}{τ τ':aw}{b:Bool}(h:f τ=some (.bl b,τ')):fL f τ=some (b,τ'):=by
 unfold fL
 rw [h]
 rfl
theorem DS {c:FT}{a b:FS}{τ:aw}{x:Bool}(h:c τ=some (x,τ)):bz c a b τ=if x=true then a τ else b τ:=by
 unfold bz
 rw [h]
 cases x with
 |true=>rfl
 |false=>rfl
theorem oq {m n:Nat}{fx:FX}{ts:List T}{c:XI}{τ:aw}(hl:ts.length=n)(h:fx (ts.map (fun t=>some (Sl.sh t))++List.replicate (m-n) none)=some (c,τ)):jn m n fx ts=some c:=by
 unfold jn
 rw [if_pos hl,h]
 rfl
theorem zO {fb:FS}{fx:FX}{fh:vz}{τ τ1:aw}{c:XI}(h:fb τ=none)(h2:fx τ=some (c,τ1)):vX fb fx fh τ=fh c τ1:=by
 unfold vX
 rw [h]
 dsimp only
 rw [h2]
 rfl
theorem jk {dx:List T->Option XI}{g:FA}{τ τ':aw}{ts:List T}{c:XI}(h:g τ=some (ts,τ'))(hd:dx ts=some c):gH dx g τ=some (c,τ'):=by
 unfold gH
 rw [h,Option.bind_some]
 dsimp only
 rw [hd]
 rfl
section
variable {m i o:Nat}{A B C D:List (List Rat)}{t u:T}
theorem iw {f:FE}{τ:aw}(hA:A.length=m)(h:f τ=some (dX A B C D,τ)):cS [(ej,rF)] "cells" f az τ=some (bo m,τ):=by
 subst hA
 exact jW (C:=ej) (ns:=["four"]) (ts:=[kz A B C D]) (qs:=[]) h (by decide) rfl rfl Cf
abbrev BL:List T->Option T:=bX 2 2 (eP ej jm rF)
abbrev oy:List T->Option XI:=jn 2 2 (ee ej eQ jm rF)
theorem xm (hA:A.length=m)(h:jm [t,bo m]=some (.bl true)):BL [dX A B C D,t]=some .non:=by
 refine B9 (τ:=[aF (dX A B C D),aF t]) rfl ?_
 show eP ej jm rF [aF (dX A B C D),aF t]=_
 unfold eP
 exact (DS (mf (mK (aG _ (eB rfl (iw hA rfl)) h)))).trans rfl
theorem Dd (hA:A.length=m)(h:jm [t,bo m]=some (.bl false)):oy [dX A B C D,t]=some ⟨eQ,[],[]⟩:=by
 refine oq (τ:=[aF (dX A B C D),aF t]) rfl ?_
 show ee ej eQ jm rF [aF (dX A B C D),aF t]=_
 unfold ee Au
 rw [mf (mK (aG _ (eB rfl (iw hA rfl)) h))]
 rfl
abbrev vQ:List T->Option XI:=jn 5 2 (lI oy)
abbrev vR:List T->Option XI:=jn 5 2 (lJ oy)
abbrev jQ:List T->Option XI:=jn 3 3 (fK oy)
theorem Dk (h:oy [t,u]=some ⟨eQ,[],[]⟩):vQ [t,u]=some ⟨eQ,[],[]⟩:=oq (τ:=[aF t,aF u,none,none,none]) rfl (jk (eB rfl rfl) h)
theorem DE (h:oy [t,u]=some ⟨eQ,[],[]⟩):vR [t,u]=some ⟨eQ,[],[]⟩:=oq (τ:=[aF t,aF u,none,none,none]) rfl (jk (eB rfl rfl) h)
theorem uq {x:T}(h:oy [t,u]=some ⟨eQ,[],[]⟩):jQ [x,t,u]=some ⟨eQ,[],[]⟩:=oq (τ:=[aF x,aF t,aF u]) rfl (jk (eB rfl rfl) h)
abbrev D2:List (Addr×(List T->Option T)):=[(eQ,bX 1 1 fS)]
abbrev wQ:List (Addr×(List T->Option XI)):=[(608,vQ),(684,vR)]
abbrev zy:List T->Option T:=bX 5 3 (bW vI eQ vJ vL vK wQ D2)
theorem De (h:vQ [t,u]=some ⟨eQ,[],[]⟩):zy [.ptr 608,t,u]=some (.bl true):=by
 have x1:jo 0 wQ (af (ai 1) (bp 2)) [aF (.ptr 608),aF t,aF u,aF .non,none]=some (⟨eQ,[],[]⟩,[aF (.ptr 608),aF t,aF u,aF .non,none]):=by
  show gH vQ (af (ai 1) (bp 2)) [aF (.ptr 608),aF t,aF u,aF .non,none]=_
  exact jk (eB rfl rfl) h
 refine dw rfl ?_
 show bW vI eQ vJ vL vK wQ D2 [aF (.ptr 608),aF t,aF u,none,none]=_
 unfold bW
 refine Eq.trans (bc (cY (t:=.non) rfl rfl)) ?_
 refine Eq.trans (bc (τ':=[aF (.ptr 608),aF t,aF u,aF (.exc eQ [] []),none]) ((zO rfl x1).trans rfl)) ?_
 kernel_rfl
theorem Df (h:vR [t,u]=some ⟨eQ,[],[]⟩):zy [.ptr 684,t,u]=some (.bl true):=by
 have x1:jo 0 wQ (af (ai 1) (bp 2)) [aF (.ptr 684),aF t,aF u,aF .non,none]=some (⟨eQ,[],[]⟩,[aF (.ptr 684),aF t,aF u,aF .non,none]):=by
  show gH vR (af (ai 1) (bp 2)) [aF (.ptr 684),aF t,aF u,aF .non,none]=_
  exact jk (eB rfl rfl) h
 refine dw rfl ?_
 show bW vI eQ vJ vL vK wQ D2 [aF (.ptr 684),aF t,aF u,none,none]=_
 unfold bW
 refine Eq.trans (bc (cY (t:=.non) rfl rfl)) ?_
 refine Eq.trans (bc (τ':=[aF (.ptr 684),aF t,aF u,aF (.exc eQ [] []),none]) ((zO rfl x1).trans rfl)) ?_
 kernel_rfl
abbrev vC:List (Addr×(List T->Option XI)):=[(oi,jQ),(gW,jQ),(gY,jQ),(gX,jQ),(gZ,jQ)]
abbrev rE:T->T->T->Option T:=tH 1 (DQ vC) (E9 vI eQ vJ vL vK) (Fb vI eQ vJ vL vK D2)
theorem pI {Cl:Addr}{f:Str}{x:T}(hf:¬ ("shows" : Str)∈[f])(hC:nG Cl vC=some jQ)(h:jQ [.obj Cl [f] [x],t,u]=some ⟨eQ,[],[]⟩):rE (.obj Cl [f] [x]) t u=some (.bl true):=by
 have x1:DQ vC [aF t,aF u,aF (.obj Cl [f] [x])]=some (⟨eQ,[],[]⟩,[aF t,aF u,aF (.obj Cl [f] [x])]):=by
  unfold DQ rK
  rw [show ai 2 [aF t,aF u,aF (.obj Cl [f] [x])]=some (.obj Cl [f] [x],[aF t,aF u,aF (.obj Cl [f] [x])]) from rfl,Option.bind_some]
  dsimp only
  rw [if_neg hf,hC,Option.bind_some,eB rfl rfl,Option.bind_some]
  dsimp only
  rw [h]
  rfl
 unfold rE tH
 rw [x1]
 kernel_rfl
end
theorem nI {Cs:List Addr}{f:Str}{fe:FE}{τ:aw}{Cl:Addr}{t:T}(h:fe τ=some (.obj Cl [f] [t],τ))(hC:Cl∈Cs)(hf:rQ f [f] [t]=some t):fG Cs f fe τ=some (t,τ):=by
 unfold fG
 rw [h,Option.bind_some]
 dsimp only
 rw [if_pos hC,hf]
 rfl
theorem yl {f:FE}{τ τ':aw}{t:T}(h:f τ=some (t,τ')):qb f τ=some (.nx τ'):=by
 unfold qb
 rw [h]
 rfl
theorem AJ {tbl:List (Addr×Bool)}{fe:FE}{τ τ':aw}{C:Addr}{ns:List Str}{ts:List T}{b:Bool}(h:fe τ=some (.obj C ns ts,τ'))(hf:findB C tbl=some b):tN tbl fe τ=some (.bl b,τ'):=by
 unfold tN
 rw [h,Option.bind_some]
 dsimp only
 rw [hf]
 rfl
theorem lT {fi:FA}{fg:FG}{fb:FS}{τ τ1:aw}{ts:List T}{r:R}(h1:fi τ=some (ts,τ1))(h2:fM fg fb ts τ1=some r):jq fi fg fb τ=some r:=by
 unfold jq
 rw [h1,Option.bind_some]
 exact h2
theorem gp {Rl:aw->Prop}{fg:FG}{fb:FS}:∀(ts:List T),(∀t∈ts,∀τ,Rl τ->∃τ1 τ2,fg t τ=some τ1/\fb τ1=some (.nx τ2)/\Rl τ2)->∀τ,Rl τ->∃τ2,fM fg fb ts τ=some (.nx τ2)/\Rl τ2
 |[],_,τ,h=>⟨τ,rfl,h⟩
 |t::ts,hs,τ,h=>by
  obtain⟨τ1,τ2,e1,e2,h2⟩:=hs t List.mem_cons_self τ h
  obtain⟨τ3,e3,h3⟩:=gp ts (fun u hu=>hs u (List.mem_cons_of_mem _ hu)) τ2 h2
  exact⟨τ3,(eY e1 e2).trans e3,h3⟩
abbrev zD:List T->Option T:=fun _=>none
abbrev DP:List T->Option T:=bX 3 3 (gk)
abbrev B2:List T->Option T:=bX 5 3 (cZ ej gW uK zD zD rF Ah)
abbrev B5:List T->Option T:=bX 5 3 (cO ej rA gY jm zD zD zD zD rF Ah)
abbrev B4:List T->Option T:=bX 5 3 (dY ej gX uK zD zD rF B8)
abbrev B3:List T->Option T:=bX 3 3 (df ej gZ jm zD zD zD zD rF)
abbrev iW:List T->Option T:=bX 3 3 (cM oi gW gY gX gZ BL DP B2 B5 B4 B3)
section
variable {m i o:Nat}{A B C D:List (List Rat)}{t u x:T}
theorem CH {f:FE}{τ:aw}(h4:nY m i o A B C D)(ho:0<o)(h:f τ=some (dX A B C D,τ)):cS [(ej,Ah)] "ins" f az τ=some (bo i,τ):=
 jW (C:=ej) (ns:=["four"]) (ts:=[kz A B C D]) (qs:=[]) h (by decide) rfl rfl (Cg h4.sy ho)
theorem A3 {f:FE}{τ:aw}(h4:nY m i o A B C D)(h:f τ=some (dX A B C D,τ)):cS [(ej,B8)] "outs" f az τ=some (bo o,τ):=by
 have:=h4.d.len
 subst this
 exact jW (C:=ej) (ns:=["four"]) (ts:=[kz A B C D]) (qs:=[]) h (by decide) rfl rfl Ci
theorem Cz (h4:nY m i o A B C D)(ho:0<o)(h:uK [x,bo m,bo i]=some (.bl false)):B2 [.obj gW ["sent"] [x],dX A B C D,u]=some (.bl false):=by
 refine dw rfl ?_
 show cZ ej gW uK zD zD rF Ah [aF (.obj gW ["sent"] [x]),aF (dX A B C D),aF u,none,none]=_
 unfold cZ aL
 rw [DS (mf (mK (aG _ (kJ (nI rfl (by decide) rfl) (iw h4.a.len rfl) (CH h4 ho rfl)) h)))]
 rfl
theorem CD (h4:nY m i o A B C D)(h:jm [x,bo m]=some (.bl false)):B5 [.obj gY ["weights"] [x],dX A B C D,u]=some (.bl false):=by
 refine dw rfl ?_
 show cO ej rA gY jm zD zD zD zD rF Ah [aF (.obj gY ["weights"] [x]),aF (dX A B C D),aF u,none,none]=_
 unfold cO
 refine Eq.trans (bc (cY (iw h4.a.len rfl) rfl)) ?_
 unfold aL
 rw [DS (mf (mK (aG _ (eB (nI rfl (by decide) rfl) rfl) h)))]
 rfl
theorem CC (h4:nY m i o A B C D)(h:uK [x,bo m,bo o]=some (.bl false)):B4 [.obj gX ["sums"] [x],dX A B C D,u]=some (.bl false):=by
 refine dw rfl ?_
 show dY ej gX uK zD zD rF B8 [aF (.obj gX ["sums"] [x]),aF (dX A B C D),aF u,none,none]=_
 unfold dY
 refine Eq.trans (bc (cY (iw h4.a.len rfl) rfl)) ?_
 unfold aL
 rw [DS (mf (mK (aG _ (kJ (nI rfl (by decide) rfl) rfl (A3 h4 rfl)) h)))]
 rfl
theorem CA (h4:nY m i o A B C D)(h:jm [x,bo m]=some (.bl false)):B3 [.obj gZ ["state"] [x],dX A B C D,u]=some (.bl false):=by
 refine dw rfl ?_
 show df ej gZ jm zD zD zD zD rF [aF (.obj gZ ["state"] [x]),aF (dX A B C D),aF u]=_
 unfold df
 exact gT (vD (aG _ (eB (nI rfl (by decide) rfl) (iw h4.a.len rfl)) h))
theorem ur {Cl:Addr}{f:Str}{d:List T->Option T}(hr:BL [t,u]=some .non)(hf:¬ ("holds" : Str)∈[f])(hC:ky Cl [(oi,DP),(gW,B2),(gY,B5),(gX,B4),(gZ,B3)]=some d)(hd:d [.obj Cl [f] [x],t,u]=some (.bl false)):iW [.obj Cl [f] [x],t,u]=some (.bl false):=by
 refine dw rfl ?_
 show cM oi gW gY gX gZ BL DP B2 B5 B4 B3 [aF (.obj Cl [f] [x]),aF t,aF u]=_
 unfold cM
 refine Eq.trans (bc (yl (aG _ (eB rfl rfl) hr))) ?_
 exact gT (jW rfl hf hC (eB rfl rfl) hd)
end
abbrev uJ:List T->Option T:=bX 1 1 (gj)
abbrev BI:List T->Option T:=bX 1 1 (gR)
abbrev BJ:List T->Option T:=bX 1 1 (iM)
abbrev yg:List T->Option T:=bX 6 5 (eO oi gW gY gX gZ B0 B1 rA ej yi rE uJ BI BJ iW)
theorem AK {f:FE}{τ:aw}(h:f τ=some (.bl false,τ)):bz (fL (aJ qc f (fC (.bl false)))) (aZ (fC (.bl false))) aX τ=some (.nx τ):=iQ (D0 (aV h rfl rfl))
abbrev tj (y S:T)(k:Int)(as:List T)(m:Nat)(x5:Option Sl):aw:=[aF y,aF (.int k),aF S,aF (.lst as),aF (bo m),x5]
theorem Av {d:T->T->T->Option T}{y S a t:T}{k:Int}{as:List T}{m:Nat}(h:d y S a=some t):vV 0 2 5 d (tj y S k as m (aF a))=some (t,tj y S k as m (aF a)):=by
 show (d y S a).map (fun t=>(t,tj y S k as m (aF a)))=_
 rw [h]
 rfl
theorem tL {m:Nat}{Cl:Addr}{f:Str}{x S:T}{k r:Int}{b:Bool}{as:List T}{d:List T->Option T}(hm:m≤4)(hC:Cl=gW\/Cl=gY\/Cl=gX\/Cl=gZ)(hf:¬ ("found" : Str)∈[f]/\¬ ("shows" : Str)∈[f])
  (hd1:ky Cl [(oi,uJ),(gW,BI),(gY,uJ),(gX,BJ),(gZ,uJ)]=some d) (hd2:d [.obj Cl [f] [x]]=some (.bl b)) (hk1:bR (.int k) (.int 2)=some (.int r)) (hk2:jg (.int r) (.int 0)=some (.bl b))
  (hs:∀a∈as,iW [.obj Cl [f] [x],S,a]=some (.bl false)) (hx:∀a,jm [a,bo m]=some (.bl false)->rE (.obj Cl [f] [x]) S a=some (.bl true)):
  yg [.obj Cl [f] [x],.int k,S,.lst as,bo m]=some (.bl true):=by
 obtain⟨ol,eo,ho⟩:=zC hm
 refine dw rfl ?_
 show eO oi gW gY gX gZ B0 B1 rA ej yi rE uJ BI BJ iW (tj (.obj Cl [f] [x]) S k as m none)=_
 unfold eO
 refine Eq.trans (bc (iQ (τ:=tj (.obj Cl [f] [x]) S k as m none) ((Gd (x:=false) (y:=false) (mf (mK (AJ (b:=true) rfl ?_))) fun _=>?_).trans rfl))) ?_
 ·rcases hC with rfl | rfl | rfl | rfl<;>rfl
 ·have e1:cS [(oi,uJ),(gW,BI),(gY,uJ),(gX,BJ),(gZ,uJ)] "found" (ai 0) az (tj (.obj Cl [f] [x]) S k as m none)=some (.bl b,tj (.obj Cl [f] [x]) S k as m none):=jW rfl hf.1 hd1 rfl hd2
  have e2:aJ jg (aJ bR (ai 1) (aQ 2)) (aQ 0) (tj (.obj Cl [f] [x]) S k as m none)=some (.bl b,tj (.obj Cl [f] [x]) S k as m none):=aV (aV (a:=.int k) (b:=.int 2) rfl rfl hk1) (b:=.int 0) rfl hk2
  exact D0 (aV e1 e2 (by rw [wx];cases b<;>rfl))
 obtain⟨τ2,e2,x5,rfl⟩:=gp (Rl:=fun τ=>∃x5,τ=tj (.obj Cl [f] [x]) S k as m x5) (fg:=aI 5) (fb:=bz (fL (aJ qc (cS [(oi,iW),(gW,iW),(gY,iW),(gX,iW),(gZ,iW)] "shows" (ai 0) (af (ai 2) (bp 5))) (fC (.bl false)))) (aZ (fC (.bl false))) aX) as (fun a ha τ hq__=>by
  obtain⟨x5,e⟩:=hq__
  subst e
  refine⟨_,_,rfl,AK (τ:=tj (.obj Cl [f] [x]) S k as m (aF a)) (jW (d:=iW) rfl hf.2 ?_ (eB rfl rfl) (hs a ha)),_,rfl⟩
  rcases hC with rfl | rfl | rfl | rfl<;>rfl) _ ⟨none,rfl⟩
 refine Eq.trans (bc (lT (ts:=as) rfl e2)) ?_
 obtain⟨τ3,e3,x6,rfl⟩:=gp (Rl:=fun τ=>∃x5,τ=tj (.obj Cl [f] [x]) S k as m x5) (fg:=aI 5) (fb:=bz (bU (cm (vV 0 2 5 rE))) (aZ (fC (.bl false))) aX) ol (fun a ha τ hq__=>by
  obtain⟨x5,e⟩:=hq__
  subst e
  exact⟨_,_,rfl,iQ (τ:=tj (.obj Cl [f] [x]) S k as m (aF a)) ((mf (mK (Av (hx a (ho a ha))))).trans rfl),_,rfl⟩) (tj (.obj Cl [f] [x]) S k as m x5) ⟨x5,rfl⟩
 refine Eq.trans (bc (lT (xv (aG _ (eA rfl) eo)) e3)) ?_
 rfl
abbrev BN:List T->Option nk:=dI 2 1 bZ
abbrev BP:List T->Option nk:=dI 2 1 bV
abbrev BO:List T->Option nk:=dI 2 1 cN
abbrev BQ:List T->Option nk:=dI 2 1 cj
theorem Ak (x:T):BN [x]=some ((["sent"]:List Str),[x]):=p9 ⟨rfl,fun a=>by
 show bZ a [aF (.ptr a),aF x] [] []=_
 unfold bZ
 rw [lV rfl rfl ⟨by decide,by decide⟩ rfl]
 rfl⟩
theorem Am (x:T):BP [x]=some ((["weights"]:List Str),[x]):=p9 ⟨rfl,fun a=>by
 show bV a [aF (.ptr a),aF x] [] []=_
 unfold bV
 rw [lV rfl rfl ⟨by decide,by decide⟩ rfl]
 rfl⟩
theorem Al (x:T):BO [x]=some ((["sums"]:List Str),[x]):=p9 ⟨rfl,fun a=>by
 show cN a [aF (.ptr a),aF x] [] []=_
 unfold cN
 rw [lV rfl rfl ⟨by decide,by decide⟩ rfl]
 rfl⟩
theorem An (x:T):BQ [x]=some ((["state"]:List Str),[x]):=p9 ⟨rfl,fun a=>by
 show cj a [aF (.ptr a),aF x] [] []=_
 unfold cj
 rw [lV rfl rfl ⟨by decide,by decide⟩ rfl]
 rfl⟩
theorem sr {Cl:Addr}{d:List T->Option nk}{g:FA}{τ τ':aw}{ts:List T}{ns:List Str}{us:List T}(h:g τ=some (ts,τ'))(hd:d ts=some (ns,us)):iP Cl d g τ=some (.obj Cl ns us,τ'):=by
 unfold iP
 rw [h,Option.bind_some]
 dsimp only
 rw [hd]
 rfl
theorem xy {i:Nat}{g:FA}{τ τ':aw}{ts:List T}(h:g τ=some (ts,τ'))(hl:ts.length≤1000):dg i g τ=some (.nx (τ'.set i (some (.own ts)))):=by
 unfold dg
 rw [h,Option.bind_some]
 dsimp only
 rw [if_pos (cq hl)]
theorem CK {t:T}{ts:List T}:fH (.lst (t::ts)) (.int 0)=some t:=by
 show (wI (ts.length+1) 0).bind _=_
 unfold wI
 rw [if_pos (by decide),if_pos (by omega)]
 rfl
theorem EV:∀m,m≤4->∃t,cP (.lst [.tup [.int 0,.int 1]]) (bo m)=some t/\jm [t,bo m]=some (.bl true)
 |0,_=>⟨_,rfl,by kernel_rfl⟩
 |1,_=>⟨_,rfl,by kernel_rfl⟩
 |2,_=>⟨_,rfl,by kernel_rfl⟩
 |3,_=>⟨_,rfl,by kernel_rfl⟩
 |4,_=>⟨_,rfl,by kernel_rfl⟩
 |n+5,h=>absurd h (by omega)
abbrev yF (sc four S:T)(m:Nat)(x4 x5 x6 x7 x8:Option Sl):aw:=[aF sc,aF four,aF S,aF (bo m),x4,x5,x6,x7,x8]
abbrev Ex (Ca Cb:Addr)(ia ib:List T->Option nk)(La Lb:List Addr)(fa fb:Str)(ka kb:Int):FS:=
 (aL (bJ 7 (iP Ca ia (bp 6)))
  (aL (bJ 8 (iP Cb ib (bp 6)))
  (aL (bz (lS (fL (aJ kL (fG La fa (ai 7)) (ai 6))) (fL (aJ kL (fG Lb fb (ai 8)) (ai 6)))) (aZ (fC (.bl false))) aX)
  (bz (lS (bU (cm (aq yg (af (ai 7) (af (fC (.int ka)) (af (ai 2) (af (ai 4) (bp 3)))))))) (bU (cm (aq yg (af (ai 8) (af (fC (.int kb)) (af (ai 2) (af (ai 4) (bp 3))))))))) (aZ (fC (.bl false))) aX))))
theorem uc {sc four S t:T}{m:Nat}{as:List T}{x4 x5 x7 x8:Option Sl}{Ca Cb:Addr}{ia ib:List T->Option nk}{La Lb:List Addr}{fa fb:Str}{ka kb:Int}(h4:x4=some (.own as)\/x4=aF (.lst as))(ha:ia [t]=some ([fa],[t]))(hb:ib [t]=some ([fb],[t]))
  (ca:Ca∈La) (cb:Cb∈Lb) (ga:rQ fa [fa] [t]=some t) (gb:rQ fb [fb] [t]=some t) (hn:kL t t=some (.bl false)) (hA:yg [.obj Ca [fa] [t],.int ka,S,.lst as,bo m]=some (.bl true)) (hB:yg [.obj Cb [fb] [t],.int kb,S,.lst as,bo m]=some (.bl true)):
  Ex Ca Cb ia ib La Lb fa fb ka kb (yF sc four S m x4 x5 (aF t) x7 x8)=some (.nx (yF sc four S m (aF (.lst as)) x5 (aF t) (aF (.obj Ca [fa] [t])) (aF (.obj Cb [fb] [t])))):=by
 refine Eq.trans (bc (cY (sr (eA rfl) ha) rfl)) ?_
 refine Eq.trans (bc (cY (sr (eA rfl) hb) rfl)) ?_
 refine Eq.trans (bc (iQ (uf (D0 (aV (nI (Cl:=Ca) rfl ca ga) rfl hn)) (D0 (aV (nI (Cl:=Cb) rfl cb gb) rfl hn))))) ?_
 have e1:(af (ai 7) (af (fC (.int ka)) (af (ai 2) (af (ai 4) (bp 3))))) (yF sc four S m x4 x5 (aF t) (aF (.obj Ca [fa] [t])) (aF (.obj Cb [fb] [t])))=some ([.obj Ca [fa] [t],.int ka,S,.lst as,bo m],yF sc four S m (aF (.lst as)) x5 (aF t) (aF (.obj Ca [fa] [t])) (aF (.obj Cb [fb] [t]))):=by
  rcases h4 with rfl | rfl<;>rfl
 exact iQ (uf (mf (mK (yd _ e1 hA))) (mf (mK (aG _ rfl hB))))
theorem sk (ns:List Int)(hl:ns.length≤63):bX 9 1 (pY gW rA gY gX gZ ej Cd zx zA yi zy Aj yg Cc BN BP BO BQ) [.scr (ns.map T.int)]=some (.bl true):=by
 obtain⟨m,i,o,A,B,C,D,eT,h4,hm,hi,ho⟩:=Cm ns
 obtain⟨z,ez,hz⟩:=EV m hm
 have c13:=oz ns 13 (by decide)
 obtain⟨r,er,hrl,hrq⟩:=zE (cellQ ns 13) m (by omega)
 have hr1:jm [dO r,bo m]=some (.bl true):=zB hrl (by omega) fun x hx=>zK (hrq x hx)
 obtain⟨ol,eo,ho'⟩:=zC hm
 obtain⟨ti,eti,hti⟩:=zF hm hi
 obtain⟨tq,etq,htq⟩:=zF hm ho
 have lA:dz [bq A]=some (bo m):=by
  rw [<- h4.a.len]
  exact len_tab A
 have lD:dz [bq D]=some (bo o):=by
  rw [<- h4.d.len]
  exact len_tab D
 obtain⟨d0,D',eD⟩:∃d0 D',D=d0::D':=by
  cases e:D with
  |nil =>
   have:=h4.d.len
   rw [e] at this
   have h0:0=o:=this
   omega
  |cons d0 D'=>exact⟨d0,D',rfl⟩
 have ld0:dz [dO d0]=some (bo i):=by
  rw [ub,h4.d.tn.wd d0 (by rw [eD];exact List.mem_cons_self)]
 have ixd:fH (bq D) (.int 0)=some (dO d0):=by
  rw [eD]
  exact CK
 have rok:∀a∈[z,dO r],BL [dX A B C D,a]=some .non:=fun a ha=>by
  rcases List.mem_cons.mp ha with rfl | ha
  ·exact xm h4.a.len hz
  ·rw [List.mem_singleton.mp ha]
   exact xm h4.a.len hr1
 have rno:∀a,jm [a,bo m]=some (.bl false)->oy [dX A B C D,a]=some ⟨eQ,[],[]⟩:=fun a ha=>Dd h4.a.len ha
 refine dw rfl ?_
 show pY gW rA gY gX gZ ej Cd zx zA yi zy Aj yg Cc BN BP BO BQ [aF (.scr (ns.map T.int)),none,none,none,none,none,none,none,none]=_
 unfold pY
 refine Eq.trans (bc (cY (aG [.scr (ns.map T.int),.int 0] (eB rfl rfl) eT) rfl)) ?_
 refine Eq.trans (bc (cY (sr (xZ (aV (g:=fH) (t:=bq A) rfl rfl rfl) (aV (g:=fH) (t:=bq B) rfl rfl rfl) (aV (g:=fH) (t:=bq C) rfl rfl rfl) (aV (g:=fH) (t:=bq D) rfl rfl rfl)) (Ck h4.sy (by omega) hi ho)) rfl)) ?_
 refine Eq.trans (bc (cY (aG [bq A] (eA (aV (g:=fH) rfl rfl rfl)) lA) rfl)) ?_
 refine Eq.trans (bc (xy (ts:=[z,dO r]) (eB (aV (AV (DF 0 1 _)) rfl ez) (aG [.int (cellQ ns 13),bo m] (eB (aG [.scr (ns.map T.int),.int ((13:Nat):Int)] (eB rfl rfl) c13) rfl) er)) (by simp))) ?_
 obtain⟨τ1,e1,x5,rfl⟩:=gp (Rl:=fun τ=>∃x5,τ=yF (.scr (ns.map T.int)) (nK A B C D) (dX A B C D) m (some (.own [z,dO r])) x5 none none none) (fg:=aI 5) (fb:=bz (lS (bU (cm (aq zy (af (fC (.ptr 608)) (af (ai 2) (bp 5)))))) (bU (cm (aq zy (af (fC (.ptr 684)) (af (ai 2) (bp 5))))))) (aZ (fC (.bl false))) aX) ol (fun a ha τ hq__=>by
  obtain⟨x5,e⟩:=hq__
  subst e
  exact⟨_,_,rfl,iQ (τ:=yF (.scr (ns.map T.int)) (nK A B C D) (dX A B C D) m (some (.own [z,dO r])) (aF a) none none none) (uf (mf (mK (aG _ (kJ rfl rfl rfl) (De (Dk (rno a (ho' a ha))))))) (mf (mK (aG _ (kJ rfl rfl rfl) (Df (DE (rno a (ho' a ha)))))))),_,rfl⟩) _ ⟨none,rfl⟩
 refine Eq.trans (bc (lT (xv (aG [bo m] (eA rfl) eo)) e1)) ?_
 obtain⟨τ2,e2,y4,y5,y6,y7,y8,hy4,rfl⟩:=gp (Rl:=fun τ=>∃x4 x5 x6 x7 x8,(x4=some (.own [z,dO r])\/x4=aF (.lst [z,dO r]))/\τ=yF (.scr (ns.map T.int)) (nK A B C D) (dX A B C D) m x4 x5 x6 x7 x8) (fg:=aI 6) (fb:=Ex gW gY BN BP [gW] [rA,gY] "sent" "weights" 0 1) ti (fun t ht τ hq__=>by
  obtain⟨x4,x5,x6,x7,x8,hx4,e⟩:=hq__
  subst e
  obtain⟨k1,k2,k3⟩:=hti t ht
  exact⟨_,_,rfl,uc hx4 (Ak t) (Am t) (by decide) (by decide) rfl rfl k3
   (tL (b:=true) (r:=0) (d:=BI) hm (.inl rfl) ⟨by decide,by decide⟩ rfl rfl rfl rfl (fun a ha=>ur (rok a ha) (by decide) rfl (Cz h4 (by omega) k2)) fun a ha=>pI (by decide) rfl (uq (rno a ha)))
   (tL (b:=false) (r:=1) (d:=uJ) hm (.inr (.inl rfl)) ⟨by decide,by decide⟩ rfl rfl rfl rfl (fun a ha=>ur (rok a ha) (by decide) rfl (CD h4 k1)) fun a ha=>pI (by decide) rfl (uq (rno a ha))),_,_,_,_,_,.inr rfl,rfl⟩) _ ⟨_,_,_,_,_,.inl rfl,rfl⟩
 refine Eq.trans (bc (lT (xv (aG [bo m,bo i,bo m] (kJ rfl (aG [dO d0] (eA (aV (aV (g:=fH) (t:=bq D) rfl rfl rfl) rfl ixd)) ld0) rfl) eti)) e2)) ?_
 obtain⟨τ3,e3,z4,z5,z6,z7,z8,hz4,rfl⟩:=gp (Rl:=fun τ=>∃x4 x5 x6 x7 x8,(x4=some (.own [z,dO r])\/x4=aF (.lst [z,dO r]))/\τ=yF (.scr (ns.map T.int)) (nK A B C D) (dX A B C D) m x4 x5 x6 x7 x8) (fg:=aI 6) (fb:=Ex gX gZ BO BQ [gX] [gZ] "sums" "state" 2 3) tq (fun t ht τ hq__=>by
  obtain⟨x4,x5,x6,x7,x8,hx4,e⟩:=hq__
  subst e
  obtain⟨k1,k2,k3⟩:=htq t ht
  exact⟨_,_,rfl,uc hx4 (Al t) (An t) (by decide) (by decide) rfl rfl k3
   (tL (b:=true) (r:=0) (d:=BJ) hm (.inr (.inr (.inl rfl))) ⟨by decide,by decide⟩ rfl rfl rfl rfl (fun a ha=>ur (rok a ha) (by decide) rfl (CC h4 k2)) fun a ha=>pI (by decide) rfl (uq (rno a ha)))
   (tL (b:=false) (r:=1) (d:=uJ) hm (.inr (.inr (.inr rfl))) ⟨by decide,by decide⟩ rfl rfl rfl rfl (fun a ha=>ur (rok a ha) (by decide) rfl (CA h4 k1)) fun a ha=>pI (by decide) rfl (uq (rno a ha))),_,_,_,_,_,.inr rfl,rfl⟩) (yF (.scr (ns.map T.int)) (nK A B C D) (dX A B C D) m y4 y5 y6 y7 y8) ⟨y4,y5,y6,y7,y8,hy4,rfl⟩
 refine Eq.trans (bc (lT (xv (aG [bo m,bo o,bo m] (kJ rfl (aG [bq D] (eA (aV (g:=fH) (t:=bq D) rfl rfl rfl)) lD) rfl) etq)) e3)) ?_
 rfl
open PySem PySem.Spec PyProof.Rows L2 TM
theorem ij {α:Type}{us:List α}(h:us.length=1):∃a,us=[a]:=List.length_eq_one_iff.mp h
theorem hE {α:Type}{us:List α}(h:us.length=2):∃a b,us=[a,b]:=by
 rcases us with _ | ⟨a,us⟩
 ·cases h
 ·obtain⟨b,rfl⟩:=ij (us:=us) (by simpa using h)
  exact⟨a,b,rfl⟩
theorem kN {α:Type}{us:List α}(h:us.length=3):∃a b c,us=[a,b,c]:=by
 rcases us with _ | ⟨a,us⟩
 ·cases h
 ·obtain⟨b,c,rfl⟩:=hE (us:=us) (by simpa using h)
  exact⟨a,b,c,rfl⟩
theorem CO {α:Type}{us:List α}(h:us.length=4):∃a b c d,us=[a,b,c,d]:=by
 rcases us with _ | ⟨a,us⟩
 ·cases h
 ·obtain⟨b,c,d,rfl⟩:=kN (us:=us) (by simpa using h)
  exact⟨a,b,c,d,rfl⟩
theorem CP {α:Type}{us:List α}(h:us.length=5):∃a b c d e,us=[a,b,c,d,e]:=by
 rcases us with _ | ⟨a,us⟩
 ·cases h
 ·obtain⟨b,c,d,e,rfl⟩:=CO (us:=us) (by simpa using h)
  exact⟨a,b,c,d,e,rfl⟩
def fo (s:Stmt)(nm qn:Str)(pm:Value)(c:Addr):Obj:=⟨.type "function", none,.func (PySem.W.fnOf nm qn (gG s) (bE s) (aj s) .none .none .none pm none (.ref c) .none),#[]⟩
theorem fk {K:PySem.W.Frag}(st:Stmt)(f c:Addr)(nm qn:Str)(pm:Value)(l:K.lookup f=some (fo st nm qn pm c))(h:PySem.W.codeIn K (.ref c) qn=true):dM K nm qn st f (PySem.W.fnOf nm qn (gG st) (bE st) (aj st) .none .none .none pm none (.ref c) .none):=AB l h (by unfold PySem.W.keepIn;dsimp only;rw [l];rfl)
abbrev B7:List T->Option T:=(bX 9 1 (pY 554 354 580 637 663 470 (Cd) (zx) (zA) (yi) (zy) (Aj) (yg) (Cc) (BN) (BP) (BO) (BQ)))
set_option maxHeartbeats 0 in
theorem all_mk {w:World}{h:Heap}{mg:Str->Option Value}{fa:Addr}(X:(kk w.params).In h)(G:h.Ns mainGlobals mg)(hfa:mg "law" = some (.ref fa)):
  ∃fd:FuncData,(∀(s:Shared) (v:Value),BindsTo s fd ⟨[v],[]⟩ [("_law_script", v)])/\∀base:Heap,(kk w.params).In base->base.Ns mainGlobals mg->Bm mg base->dN pg w (kk w.params) mg base iv 10 fa fd ["_law_script"] (Dj (kk w.params) 1 B7 738 AU):=by
 have mq:∀(x:Str) (v:Value),PySem.W.nsIn (kk w.params) mainGlobals x=some (some v)->mg x=some v:=fun x v e=>PySem.W.mg_of X G e
 have mn:∀x:Str,PySem.W.nsIn (kk w.params) mainGlobals x=some none->mg x=none:=fun x e=>PySem.W.mg_none_of X G e
 have e:=hfa.symm.trans (mq "law" (.ref 750) (by kernel_rfl))
 cases e
 have a0:=fk (K:=kk w.params) ip 691 690 "_law_cell" "_law_cell" m6 (by kernel_rfl) (by kernel_rfl)
 have b0:=a0.binds (ps:=["_law_script","_law_k"]) fun _ _ _ _ _ _ us hl=>by obtain⟨a,b,rfl⟩:=hE hl;rfl
 have c0:=mq "_law_cell" (.ref 691) (by kernel_rfl)
 have d0:=fk (K:=kk w.params) ja 698 697 "_law_mix" "_law_mix" m6 (by kernel_rfl) (by kernel_rfl)
 have e0:=d0.binds (ps:=["_law_cell_here","_law_k"]) fun _ _ _ _ _ _ us hl=>by obtain⟨a,b,rfl⟩:=hE hl;rfl
 have f0:=mq "_law_mix" (.ref 698) (by kernel_rfl)
 have g0:=fk (K:=kk w.params) Br 124 123 "half" "half" DW (by kernel_rfl) (by kernel_rfl)
 have i0:=g0.binds (ps:=["one","other"]) fun _ _ _ _ _ _ us hl=>by obtain⟨a,b,rfl⟩:=hE hl;rfl
 have j0:=mq "half" (.ref 124) (by kernel_rfl)
 have k0:=fk (K:=kk w.params) mz 117 116 "common" "common" DW (by kernel_rfl) (by kernel_rfl)
 have l0:=k0.binds (ps:=["one","other"]) fun _ _ _ _ _ _ us hl=>by obtain⟨a,b,rfl⟩:=hE hl;rfl
 have o0:=mq "common" (.ref 117) (by kernel_rfl)
 have q0:=fk (K:=kk w.params) sD 186 185 "frac" "frac" BR (by kernel_rfl) (by kernel_rfl)
 have r0:=q0.binds (ps:=["top","bottom"]) fun _ _ _ _ _ _ us hl=>by obtain⟨a,b,rfl⟩:=hE hl;rfl
 have s0:=mq "frac" (.ref 186) (by kernel_rfl)
 have t0:=fk (K:=kk w.params) fY 705 704 "_law_number" "_law_number" m6 (by kernel_rfl) (by kernel_rfl)
 have u0:=t0.binds (ps:=["_law_number_here"]) fun _ _ _ _ _ _ us hl=>by obtain⟨a,rfl⟩:=ij hl;rfl
 have v0:=mq "_law_number" (.ref 705) (by kernel_rfl)
 have y0:=fk (K:=kk w.params) jc 712 711 "_law_row" "_law_row" m6 (by kernel_rfl) (by kernel_rfl)
 have z0:=y0.binds (ps:=["_law_cell_here","_law_many"]) fun _ _ _ _ _ _ us hl=>by obtain⟨a,b,rfl⟩:=hE hl;rfl
 have a1:=mq "_law_row" (.ref 712) (by kernel_rfl)
 have b1:=fk (K:=kk w.params) fZ 717 716 "_law_tables" "_law_tables" m6 (by kernel_rfl) (by kernel_rfl)
 have c1:=b1.binds (ps:=["_law_script","_law_start"]) fun _ _ _ _ _ _ us hl=>by obtain⟨a,b,rfl⟩:=hE hl;rfl
 have d1:=mq "_law_tables" (.ref 717) (by kernel_rfl)
 have e1:=fk (K:=kk w.params) jb 729 728 "_law_odd" "_law_odd" m6 (by kernel_rfl) (by kernel_rfl)
 have f1:=e1.binds (ps:=["_law_many"]) fun _ _ _ _ _ _ us hl=>by obtain⟨a,rfl⟩:=ij hl;rfl
 have g1:=mq "_law_odd" (.ref 729) (by kernel_rfl)
 have i1:=fk (K:=kk w.params) je 172 171 "is_whole" "is_whole" BR (by kernel_rfl) (by kernel_rfl)
 have j1:=i1.binds (ps:=["thing"]) fun _ _ _ _ _ _ us hl=>by obtain⟨a,rfl⟩:=ij hl;rfl
 have k1:=mq "is_whole" (.ref 172) (by kernel_rfl)
 have l1:=fk (K:=kk w.params) gd 179 178 "is_fraction" "is_fraction" BR (by kernel_rfl) (by kernel_rfl)
 have o1:=l1.binds (ps:=["thing"]) fun _ _ _ _ _ _ us hl=>by obtain⟨a,rfl⟩:=ij hl;rfl
 have q1:=mq "is_fraction" (.ref 179) (by kernel_rfl)
 have r1:=fk (K:=kk w.params) mB 205 204 "is_row" "is_row" vv (by kernel_rfl) (by kernel_rfl)
 have s1:=r1.binds (ps:=["thing","many"]) fun _ _ _ _ _ _ us hl=>by obtain⟨a,b,rfl⟩:=hE hl;rfl
 have t1:=mq "is_row" (.ref 205) (by kernel_rfl)
 have u1:=fk (K:=kk w.params) eH 441 440 "cells" "System.cells" vw (by kernel_rfl) (by kernel_rfl)
 have v1:=u1.binds (ps:=["self"]) fun _ _ _ _ _ _ us hl=>by obtain⟨a,rfl⟩:=ij hl;rfl
 have y1:=fk (K:=kk w.params) eW 589 588 "refuse_aim" "refuse_aim" md5 (by kernel_rfl) (by kernel_rfl)
 have z1:=y1.binds (ps:=["system","aim"]) fun _ _ _ _ _ _ us hl=>by obtain⟨a,b,rfl⟩:=hE hl;rfl
 have a2:=mq "refuse_aim" (.ref 589) (by kernel_rfl)
 have d2:=fk (K:=kk w.params) fU 67 66 "word" "NoFit.word" CQ (by kernel_rfl) (by kernel_rfl)
 have e2:=d2.binds (ps:=["self"]) fun _ _ _ _ _ _ us hl=>by obtain⟨a,rfl⟩:=ij hl;rfl
 have k2:=fk (K:=kk w.params) dC 736 735 "_law_refused" "_law_refused" m6 (by kernel_rfl) (by kernel_rfl)
 have l2:=k2.binds (ps:=["_law_call","_law_system","_law_aim"]) fun _ _ _ _ _ _ us hl=>by obtain⟨a,b,c,rfl⟩:=kN hl;rfl
 have o2:=mq "_law_refused" (.ref 736) (by kernel_rfl)
 have q2:=fk (K:=kk w.params) gc 722 721 "_law_things" "_law_things" m6 (by kernel_rfl) (by kernel_rfl)
 have r2:=q2.binds (ps:=["_law_rows","_law_wide","_law_many"]) fun _ _ _ _ _ _ us hl=>by obtain⟨a,b,c,rfl⟩:=kN hl;rfl
 have s2:=mq "_law_things" (.ref 722) (by kernel_rfl)
 have t2:=fk (K:=kk w.params) dP 502 501 "found" "Finding.found" md5 (by kernel_rfl) (by kernel_rfl)
 have u2:=t2.binds (ps:=["self"]) fun _ _ _ _ _ _ us hl=>by obtain⟨a,rfl⟩:=ij hl;rfl
 have v2:=fk (K:=kk w.params) eE 544 543 "found" "Inputs.found" md5 (by kernel_rfl) (by kernel_rfl)
 have y2:=v2.binds (ps:=["self"]) fun _ _ _ _ _ _ us hl=>by obtain⟨a,rfl⟩:=ij hl;rfl
 have z2:=fk (K:=kk w.params) fV 629 628 "found" "Sums.found" ud (by kernel_rfl) (by kernel_rfl)
 have a3:=z2.binds (ps:=["self"]) fun _ _ _ _ _ _ us hl=>by obtain⟨a,rfl⟩:=ij hl;rfl
 have b3:=fk (K:=kk w.params) dQ 516 515 "holds" "Finding.holds" md5 (by kernel_rfl) (by kernel_rfl)
 have c3:=b3.binds (ps:=["self","system","aim"]) fun _ _ _ _ _ _ us hl=>by obtain⟨a,b,c,rfl⟩:=kN hl;rfl
 have d3:=fk (K:=kk w.params) jd 210 209 "is_table" "is_table" vv (by kernel_rfl) (by kernel_rfl)
 have e3:=d3.binds (ps:=["thing","many","wide"]) fun _ _ _ _ _ _ us hl=>by obtain⟨a,b,c,rfl⟩:=kN hl;rfl
 have f3:=mq "is_table" (.ref 210) (by kernel_rfl)
 have g3:=fk (K:=kk w.params) Bs 596 595 "rest" "rest" md5 (by kernel_rfl) (by kernel_rfl)
 have i3:=g3.binds (ps:=["system"]) fun _ _ _ _ _ _ us hl=>by obtain⟨a,rfl⟩:=ij hl;rfl
 have j3:=mq "rest" (.ref 596) (by kernel_rfl)
 have k3:=fk (K:=kk w.params) Dh 488 487 "run" "run" vw (by kernel_rfl) (by kernel_rfl)
 have l3:=k3.binds (ps:=["system","start","inputs"]) fun _ _ _ _ _ _ us hl=>by obtain⟨a,b,c,rfl⟩:=kN hl;rfl
 have o3:=mq "run" (.ref 488) (by kernel_rfl)
 have q3:=fk (K:=kk w.params) fX 448 447 "ins" "System.ins" vw (by kernel_rfl) (by kernel_rfl)
 have r3:=q3.binds (ps:=["self"]) fun _ _ _ _ _ _ us hl=>by obtain⟨a,rfl⟩:=ij hl;rfl
 have s3:=fk (K:=kk w.params) eG 551 550 "holds" "Inputs.holds" md5 (by kernel_rfl) (by kernel_rfl)
 have t3:=s3.binds (ps:=["self","system","aim"]) fun _ _ _ _ _ _ us hl=>by obtain⟨a,b,c,rfl⟩:=kN hl;rfl
 have u3:=fk (K:=kk w.params) ng 603 602 "reach_table" "reach_table" md5 (by kernel_rfl) (by kernel_rfl)
 have v3:=u3.binds (ps:=["system"]) fun _ _ _ _ _ _ us hl=>by obtain⟨a,rfl⟩:=ij hl;rfl
 have y3:=mq "reach_table" (.ref 603) (by kernel_rfl)
 have z3:=fk (K:=kk w.params) vk 232 231 "product" "product" vv (by kernel_rfl) (by kernel_rfl)
 have a4:=z3.binds (ps:=["one","other","wide"]) fun _ _ _ _ _ _ us hl=>by obtain⟨a,b,c,rfl⟩:=kN hl;rfl
 have b4:=mq "product" (.ref 232) (by kernel_rfl)
 have c4:=fk (K:=kk w.params) qR 227 226 "is_nought" "is_nought" vv (by kernel_rfl) (by kernel_rfl)
 have d4:=c4.binds (ps:=["row"]) fun _ _ _ _ _ _ us hl=>by obtain⟨a,rfl⟩:=ij hl;rfl
 have e4:=mq "is_nought" (.ref 227) (by kernel_rfl)
 have f4:=fk (K:=kk w.params) vl 217 216 "weighed" "weighed" vv (by kernel_rfl) (by kernel_rfl)
 have g4:=f4.binds (ps:=["one","other"]) fun _ _ _ _ _ _ us hl=>by obtain⟨a,b,rfl⟩:=hE hl;rfl
 have i4:=mq "weighed" (.ref 217) (by kernel_rfl)
 have j4:=fk (K:=kk w.params) dS 577 576 "holds" "Unmoved.holds" md5 (by kernel_rfl) (by kernel_rfl)
 have k4:=j4.binds (ps:=["self","system","aim"]) fun _ _ _ _ _ _ us hl=>by obtain⟨a,b,c,rfl⟩:=kN hl;rfl
 have l4:=fk (K:=kk w.params) pK 672 671 "tell_table" "tell_table" ud (by kernel_rfl) (by kernel_rfl)
 have o4:=l4.binds (ps:=["system"]) fun _ _ _ _ _ _ us hl=>by obtain⟨a,rfl⟩:=ij hl;rfl
 have q4:=mq "tell_table" (.ref 672) (by kernel_rfl)
 have r4:=fk (K:=kk w.params) fw 455 454 "outs" "System.outs" vw (by kernel_rfl) (by kernel_rfl)
 have s4:=r4.binds (ps:=["self"]) fun _ _ _ _ _ _ us hl=>by obtain⟨a,rfl⟩:=ij hl;rfl
 have t4:=fk (K:=kk w.params) fW 634 633 "holds" "Sums.holds" ud (by kernel_rfl) (by kernel_rfl)
 have u4:=t4.binds (ps:=["self","system","aim"]) fun _ _ _ _ _ _ us hl=>by obtain⟨a,b,c,rfl⟩:=kN hl;rfl
 have v4:=fk (K:=kk w.params) vj 222 221 "applied" "applied" vv (by kernel_rfl) (by kernel_rfl)
 have y4:=v4.binds (ps:=["table","row"]) fun _ _ _ _ _ _ us hl=>by obtain⟨a,b,rfl⟩:=hE hl;rfl
 have z4:=mq "applied" (.ref 222) (by kernel_rfl)
 have a5:=fk (K:=kk w.params) eI 660 659 "holds" "Unseen.holds" ud (by kernel_rfl) (by kernel_rfl)
 have b5:=a5.binds (ps:=["self","system","aim"]) fun _ _ _ _ _ _ us hl=>by obtain⟨a,b,c,rfl⟩:=kN hl;rfl
 have c5:=fk (K:=kk w.params) cQ 509 508 "shows" "Finding.shows" md5 (by kernel_rfl) (by kernel_rfl)
 have d5:=c5.binds (ps:=["self","system","aim"]) fun _ _ _ _ _ _ us hl=>by obtain⟨a,b,c,rfl⟩:=kN hl;rfl
 have e5:=fk (K:=kk w.params) eV 743 742 "_law_asked" "_law_asked" m6 (by kernel_rfl) (by kernel_rfl)
 have f5:=e5.binds (ps:=["_law_found","_law_kind","_law_system","_law_aims","_law_many"]) fun _ _ _ _ _ _ us hl=>by obtain⟨a,b,c,d,e,rfl⟩:=CP hl;rfl
 have g5:=mq "_law_asked" (.ref 743) (by kernel_rfl)
 have i5:=fk (K:=kk w.params) iq 481 480 "is_system" "is_system" vw (by kernel_rfl) (by kernel_rfl)
 have j5:=i5.binds (ps:=["move","push","look","through"]) fun _ _ _ _ _ _ us hl=>by obtain⟨a,b,c,d,rfl⟩:=CO hl;rfl
 have k5:=mq "is_system" (.ref 481) (by kernel_rfl)
 have l5:=fk (K:=kk w.params) dt 434 433 "__init__" "System.__init__" vw (by kernel_rfl) (by kernel_rfl)
 have o5:=l5.binds (ps:=["self","move","push","look","through"]) fun _ _ _ _ _ _ us hl=>by obtain⟨a,b,c,d,e,rfl⟩:=CP hl;rfl
 have q5:=fk (K:=kk w.params) dq 537 536 "__init__" "Inputs.__init__" md5 (by kernel_rfl) (by kernel_rfl)
 have r5:=q5.binds (ps:=["self","sent"]) fun _ _ _ _ _ _ us hl=>by obtain⟨a,b,rfl⟩:=hE hl;rfl
 have s5:=fk (K:=kk w.params) cW 570 569 "__init__" "Unmoved.__init__" md5 (by kernel_rfl) (by kernel_rfl)
 have t5:=s5.binds (ps:=["self","weights"]) fun _ _ _ _ _ _ us hl=>by obtain⟨a,b,rfl⟩:=hE hl;rfl
 have u5:=fk (K:=kk w.params) dR 622 621 "__init__" "Sums.__init__" ud (by kernel_rfl) (by kernel_rfl)
 have v5:=u5.binds (ps:=["self","sums"]) fun _ _ _ _ _ _ us hl=>by obtain⟨a,b,rfl⟩:=hE hl;rfl
 have y5:=fk (K:=kk w.params) du 653 652 "__init__" "Unseen.__init__" ud (by kernel_rfl) (by kernel_rfl)
 have z5:=y5.binds (ps:=["self","state"]) fun _ _ _ _ _ _ us hl=>by obtain⟨a,b,rfl⟩:=hE hl;rfl
 have a6:=fk (K:=kk w.params) nS 750 749 "law" "law" m6 (by kernel_rfl) (by kernel_rfl)
 have b6:=a6.binds (ps:=["_law_script"]) fun _ _ _ _ _ _ us hl=>by obtain⟨a,rfl⟩:=ij hl;rfl
 have c6:=mq "law" (.ref 750) (by kernel_rfl)
 have d6:dA (kk w.params) 470:=⟨by kernel_rfl,by kernel_rfl,by kernel_rfl,by kernel_rfl⟩
 have e6:=mq "System" (.ref 470) (by kernel_rfl)
 have f6:dA (kk w.params) 554:=⟨by kernel_rfl,by kernel_rfl,by kernel_rfl,by kernel_rfl⟩
 have g6:=mq "Inputs" (.ref 554) (by kernel_rfl)
 have i6:dA (kk w.params) 519:=⟨by kernel_rfl,by kernel_rfl,by kernel_rfl,by kernel_rfl⟩
 have j6:=mq "Finding" (.ref 519) (by kernel_rfl)
 have k6:dA (kk w.params) 354:=⟨by kernel_rfl,by kernel_rfl,by kernel_rfl,by kernel_rfl⟩
 have l6:=mq "Never" (.ref 354) (by kernel_rfl)
 have o6:dA (kk w.params) 293:=⟨by kernel_rfl,by kernel_rfl,by kernel_rfl,by kernel_rfl⟩
 have q6:=mq "Answer" (.ref 293) (by kernel_rfl)
 have r6:dA (kk w.params) 580:=⟨by kernel_rfl,by kernel_rfl,by kernel_rfl,by kernel_rfl⟩
 have s6:=mq "Unmoved" (.ref 580) (by kernel_rfl)
 have t6:dA (kk w.params) 637:=⟨by kernel_rfl,by kernel_rfl,by kernel_rfl,by kernel_rfl⟩
 have u6:=mq "Sums" (.ref 637) (by kernel_rfl)
 have v6:dA (kk w.params) 663:=⟨by kernel_rfl,by kernel_rfl,by kernel_rfl,by kernel_rfl⟩
 have y6:=mq "Unseen" (.ref 663) (by kernel_rfl)
 have z6:dA (kk w.params) 328:=⟨by kernel_rfl,by kernel_rfl,by kernel_rfl,by kernel_rfl⟩
 have a7:=mq "Solution" (.ref 328) (by kernel_rfl)
 have b7:=mq "NoTable" (.ref 51) (by kernel_rfl)
 have c7:=mq "EchoError" (.ref 31) (by kernel_rfl)
 have d7:=mq "NoFit" (.ref 70) (by kernel_rfl)
 have e7:=mq "NoTurns" (.ref 89) (by kernel_rfl)
 have f7:=mq "TooMany" (.ref 108) (by kernel_rfl)
 have g7:rd (kk w.params) 70 [31] (none):=⟨eu.of (by kernel_rfl),(List.forall_mem_cons.mpr ⟨⟨(vE),eu.of (by kernel_rfl)⟩,(fun _ h=>absurd h List.not_mem_nil)⟩)⟩
 have i7:rd (kk w.params) 51 [31] (none):=⟨eu.of (by kernel_rfl),(List.forall_mem_cons.mpr ⟨⟨(vE),eu.of (by kernel_rfl)⟩,(fun _ h=>absurd h List.not_mem_nil)⟩)⟩
 have j7:rd (kk w.params) 89 [31] (none):=⟨eu.of (by kernel_rfl),(List.forall_mem_cons.mpr ⟨⟨(vE),eu.of (by kernel_rfl)⟩,(fun _ h=>absurd h List.not_mem_nil)⟩)⟩
 have k7:rd (kk w.params) 108 [31] (none):=⟨eu.of (by kernel_rfl),(List.forall_mem_cons.mpr ⟨⟨(vE),eu.of (by kernel_rfl)⟩,(fun _ h=>absurd h List.not_mem_nil)⟩)⟩
 have l7:nZ (kk w.params) 31 [(51,true),(70,true),(89,true),(108,true)]:=⟨⟨vE,none,eu.of (by kernel_rfl),by decide +kernel⟩,(List.forall_mem_cons.mpr ⟨⟨_,_,i7.cls,by decide +kernel⟩,(List.forall_mem_cons.mpr ⟨⟨_,_,g7.cls,by decide +kernel⟩,(List.forall_mem_cons.mpr ⟨⟨_,_,j7.cls,by decide +kernel⟩,(List.forall_mem_cons.mpr ⟨⟨_,_,k7.cls,by decide +kernel⟩,(fun _ h=>absurd h List.not_mem_nil)⟩)⟩)⟩)⟩)⟩
 have o7:∀a∈([(51,false),(70,true),(89,false),(108,false)]:List (Addr×Bool)),lB (kk w.params) 70 a.1 a.2:=(List.forall_mem_cons.mpr ⟨⟨⟨_,⟨⟨_,i7.cls⟩,by kernel_rfl,by kernel_rfl,by kernel_rfl,by kernel_rfl,by kernel_rfl⟩⟩,by kernel_rfl⟩,(List.forall_mem_cons.mpr ⟨⟨⟨_,⟨⟨_,g7.cls⟩,by kernel_rfl,by kernel_rfl,by kernel_rfl,by kernel_rfl,by kernel_rfl⟩⟩,by kernel_rfl⟩,(List.forall_mem_cons.mpr ⟨⟨⟨_,⟨⟨_,j7.cls⟩,by kernel_rfl,by kernel_rfl,by kernel_rfl,by kernel_rfl,by kernel_rfl⟩⟩,by kernel_rfl⟩,(List.forall_mem_cons.mpr ⟨⟨⟨_,⟨⟨_,k7.cls⟩,by kernel_rfl,by kernel_rfl,by kernel_rfl,by kernel_rfl,by kernel_rfl⟩⟩,by kernel_rfl⟩,(fun _ h=>absurd h List.not_mem_nil)⟩)⟩)⟩)⟩)
 have q7:∀a∈([(51,true),(70,false),(89,false),(108,false)]:List (Addr×Bool)),lB (kk w.params) 51 a.1 a.2:=(List.forall_mem_cons.mpr ⟨⟨⟨_,⟨⟨_,i7.cls⟩,by kernel_rfl,by kernel_rfl,by kernel_rfl,by kernel_rfl,by kernel_rfl⟩⟩,by kernel_rfl⟩,(List.forall_mem_cons.mpr ⟨⟨⟨_,⟨⟨_,g7.cls⟩,by kernel_rfl,by kernel_rfl,by kernel_rfl,by kernel_rfl,by kernel_rfl⟩⟩,by kernel_rfl⟩,(List.forall_mem_cons.mpr ⟨⟨⟨_,⟨⟨_,j7.cls⟩,by kernel_rfl,by kernel_rfl,by kernel_rfl,by kernel_rfl,by kernel_rfl⟩⟩,by kernel_rfl⟩,(List.forall_mem_cons.mpr ⟨⟨⟨_,⟨⟨_,k7.cls⟩,by kernel_rfl,by kernel_rfl,by kernel_rfl,by kernel_rfl,by kernel_rfl⟩⟩,by kernel_rfl⟩,(fun _ h=>absurd h List.not_mem_nil)⟩)⟩)⟩)⟩)
 have r7:∀a∈([(51,false),(70,false),(89,true),(108,false)]:List (Addr×Bool)),lB (kk w.params) 89 a.1 a.2:=(List.forall_mem_cons.mpr ⟨⟨⟨_,⟨⟨_,i7.cls⟩,by kernel_rfl,by kernel_rfl,by kernel_rfl,by kernel_rfl,by kernel_rfl⟩⟩,by kernel_rfl⟩,(List.forall_mem_cons.mpr ⟨⟨⟨_,⟨⟨_,g7.cls⟩,by kernel_rfl,by kernel_rfl,by kernel_rfl,by kernel_rfl,by kernel_rfl⟩⟩,by kernel_rfl⟩,(List.forall_mem_cons.mpr ⟨⟨⟨_,⟨⟨_,j7.cls⟩,by kernel_rfl,by kernel_rfl,by kernel_rfl,by kernel_rfl,by kernel_rfl⟩⟩,by kernel_rfl⟩,(List.forall_mem_cons.mpr ⟨⟨⟨_,⟨⟨_,k7.cls⟩,by kernel_rfl,by kernel_rfl,by kernel_rfl,by kernel_rfl,by kernel_rfl⟩⟩,by kernel_rfl⟩,(fun _ h=>absurd h List.not_mem_nil)⟩)⟩)⟩)⟩)
 have s7:∀a∈([(51,true),(70,true),(89,true),(108,true)]:List (Addr×Bool)),vA (kk w.params) "ValueError" a.1 a.2:=(List.forall_mem_cons.mpr ⟨⟨⟨_,⟨⟨_,i7.cls⟩,by kernel_rfl,by kernel_rfl,by kernel_rfl,by kernel_rfl,by kernel_rfl⟩⟩,by kernel_rfl⟩,(List.forall_mem_cons.mpr ⟨⟨⟨_,⟨⟨_,g7.cls⟩,by kernel_rfl,by kernel_rfl,by kernel_rfl,by kernel_rfl,by kernel_rfl⟩⟩,by kernel_rfl⟩,(List.forall_mem_cons.mpr ⟨⟨⟨_,⟨⟨_,j7.cls⟩,by kernel_rfl,by kernel_rfl,by kernel_rfl,by kernel_rfl,by kernel_rfl⟩⟩,by kernel_rfl⟩,(List.forall_mem_cons.mpr ⟨⟨⟨_,⟨⟨_,k7.cls⟩,by kernel_rfl,by kernel_rfl,by kernel_rfl,by kernel_rfl,by kernel_rfl⟩⟩,by kernel_rfl⟩,(fun _ h=>absurd h List.not_mem_nil)⟩)⟩)⟩)⟩)
 have t7:∀C∈([470]:List Addr),dA (kk w.params) C/\bg (kk w.params) C "four" := (List.forall_mem_cons.mpr ⟨⟨d6,(by kernel_rfl:PySem.W.findIn (kk w.params) (.ref 470) "four" = some none)⟩,(fun _ h=>absurd h List.not_mem_nil)⟩)
 have u7:∀C∈([554]:List Addr),dA (kk w.params) C/\bg (kk w.params) C "sent" := (List.forall_mem_cons.mpr ⟨⟨f6,(by kernel_rfl:PySem.W.findIn (kk w.params) (.ref 554) "sent" = some none)⟩,(fun _ h=>absurd h List.not_mem_nil)⟩)
 have v7:∀C∈([354,580]:List Addr),dA (kk w.params) C/\bg (kk w.params) C "weights" := (List.forall_mem_cons.mpr ⟨⟨k6,(by kernel_rfl:PySem.W.findIn (kk w.params) (.ref 354) "weights" = some none)⟩,(List.forall_mem_cons.mpr ⟨⟨r6,(by kernel_rfl:PySem.W.findIn (kk w.params) (.ref 580) "weights" = some none)⟩,(fun _ h=>absurd h List.not_mem_nil)⟩)⟩)
 have y7:∀C∈([637]:List Addr),dA (kk w.params) C/\bg (kk w.params) C "sums" := (List.forall_mem_cons.mpr ⟨⟨t6,(by kernel_rfl:PySem.W.findIn (kk w.params) (.ref 637) "sums" = some none)⟩,(fun _ h=>absurd h List.not_mem_nil)⟩)
 have z7:∀C∈([663]:List Addr),dA (kk w.params) C/\bg (kk w.params) C "state" := (List.forall_mem_cons.mpr ⟨⟨v6,(by kernel_rfl:PySem.W.findIn (kk w.params) (.ref 663) "state" = some none)⟩,(fun _ h=>absurd h List.not_mem_nil)⟩)
 have a8:∀a∈([(293,false),(328,false),(354,false),(470,false),(519,true),(554,true),(580,true),(637,true),(663,true)]:List (Addr×Bool)),td (kk w.params) 519 a.1 a.2:=(List.forall_mem_cons.mpr ⟨⟨o6,by kernel_rfl,by kernel_rfl,by kernel_rfl,by kernel_rfl,by kernel_rfl⟩,(List.forall_mem_cons.mpr ⟨⟨z6,by kernel_rfl,by kernel_rfl,by kernel_rfl,by kernel_rfl,by kernel_rfl⟩,(List.forall_mem_cons.mpr ⟨⟨k6,by kernel_rfl,by kernel_rfl,by kernel_rfl,by kernel_rfl,by kernel_rfl⟩,(List.forall_mem_cons.mpr ⟨⟨d6,by kernel_rfl,by kernel_rfl,by kernel_rfl,by kernel_rfl,by kernel_rfl⟩,(List.forall_mem_cons.mpr ⟨⟨i6,by kernel_rfl,by kernel_rfl,by kernel_rfl,by kernel_rfl,by kernel_rfl⟩,(List.forall_mem_cons.mpr ⟨⟨f6,by kernel_rfl,by kernel_rfl,by kernel_rfl,by kernel_rfl,by kernel_rfl⟩,(List.forall_mem_cons.mpr ⟨⟨r6,by kernel_rfl,by kernel_rfl,by kernel_rfl,by kernel_rfl,by kernel_rfl⟩,(List.forall_mem_cons.mpr ⟨⟨t6,by kernel_rfl,by kernel_rfl,by kernel_rfl,by kernel_rfl,by kernel_rfl⟩,(List.forall_mem_cons.mpr ⟨⟨v6,by kernel_rfl,by kernel_rfl,by kernel_rfl,by kernel_rfl,by kernel_rfl⟩,(fun _ h=>absurd h List.not_mem_nil)⟩)⟩)⟩)⟩)⟩)⟩)⟩)⟩)⟩)
 have b8:=mn "len" (by kernel_rfl)
 have c8:=mn "abs" (by kernel_rfl)
 have d8:=mn "range" (by kernel_rfl)
 have e8:=mn "int" (by kernel_rfl)
 have f8:=mn "isinstance" (by kernel_rfl)
 have g8:=mn "bool" (by kernel_rfl)
 have i8:=mn "tuple" (by kernel_rfl)
 have j8:=mn "list" (by kernel_rfl)
 have k8:=mn "all" (by kernel_rfl)
 have l8:=mn "ValueError" (by kernel_rfl)
 have o8:=mq "SHORT" (.int (4000) 308) (by kernel_rfl)
 have q8:=mq "SHORT_QUOTIENT" (.int (8000) 312) (by kernel_rfl)
 have r8:=mq "NOUGHT" (.ref 165) (by kernel_rfl)
 have s8:(kk w.params).lookup 165=some ⟨.type "tuple", none,.seq #[.int (0) 412,.int (1) 413] 0,#[]⟩:=by kernel_rfl
 have t8:=mq "MOST_LINES" (.int (2) 759) (by kernel_rfl)
 have u8:=mq "MOST_CELLS" (.int (8) 757) (by kernel_rfl)
 have v8:=mq "steered" (.ref 608) (by kernel_rfl)
 have y8:=mq "told_by" (.ref 684) (by kernel_rfl)
 refine⟨PySem.W.fnOf "law" "law" (gG nS) (bE nS) (aj nS) .none .none .none m6 none (.ref 749) .none,fun s v=>.of_eq rfl,fun base kb _ bmm=>?_⟩
 have z8:Def pg w (kk w.params) mg base 1 "_law_cell" 2 (zx):=pB a0 b0 c0 b8
 have a9:Def pg w (kk w.params) mg base 1 "_law_mix" 2 (Ai):=qH d0 e0 f0 
 have b9:Def pg w (kk w.params) mg base 0 "half" 2 (fun _=>none):=Def.zero g0 i0 j0
 have c9:Def pg w (kk w.params) mg base 1 "common" 2 (iy):=(vd (P:=pg) (w:=w) (base:=base) (k:=0) B k0 l0 o0 (b9.mono (by decide)) c8 o8).imp vo
 have d9:Def pg w (kk w.params) mg base 2 "frac" 2 (md):=(yL (P:=pg) (w:=w) (base:=base) (k:=1) q0 r0 s0 (c9.mono (by decide)) q8).imp zk
 have e9:Def pg w (kk w.params) mg base 3 "_law_number" 1 (BK):=mi t0 u0 v0 (d9.mono (by decide)) 
 have f9:Def pg w (kk w.params) mg base 4 "_law_row" 2 (zA):=qJ y0 z0 a1 (a9.mono (by decide)) (e9.mono (by decide)) d8
 have g9:Def pg w (kk w.params) mg base 5 "_law_tables" 2 (Cd):=mj b1 c1 d1 (z8.mono (by decide)) (f9.mono (by decide)) d8
 have i9:Def pg w (kk w.params) mg base 1 "_law_odd" 1 (yi):=qI e1 f1 g1 
 have j9:Def pg w (kk w.params) mg base 1 "is_whole" 1 (B6):=qL i1 j1 k1 e8 f8 g8
 have k9:Def pg w (kk w.params) mg base 2 "is_fraction" 1 (Ag):=mm l1 o1 q1 (j9.mono (by decide)) (c9.mono (by decide)) i8 f8 b8
 have l9:Def pg w (kk w.params) mg base 3 "is_row" 2 (jm):=ve r1 s1 t1 (k9.mono (by decide)) j8 f8 b8 k8
 have o9:bI pg w (kk w.params) mg base 1 470 "cells" 1 (rF):=jw u1 v1 d6 ⟨by kernel_rfl,by kernel_rfl,by kernel_rfl⟩ t7 b8
 have q9:Def pg w (kk w.params) mg base 4 "refuse_aim" 2 (BL):=m9 y1 z1 a2 (l9.mono (by decide)) (List.forall_mem_cons.mpr ⟨o9.mono (by decide),(fun _ h=>absurd h List.not_mem_nil)⟩) 
 have r9:iG pg w (kk w.params) mg base 4 "refuse_aim" 2 (oy):=mh y1 z1 a2 (l9.mono (by decide)) (List.forall_mem_cons.mpr ⟨o9.mono (by decide),(fun _ h=>absurd h List.not_mem_nil)⟩) g7 d7 
 have t9:ku pg w (kk w.params) mg base 1 70 "word" (bX 1 1 My.fS):=kS d2 e2 ⟨_,⟨⟨_,g7.cls⟩,by kernel_rfl,by kernel_rfl,by kernel_rfl,by kernel_rfl,by kernel_rfl⟩⟩ (by kernel_rfl) (by kernel_rfl)
 have zs1:=fk (K:=kk w.params) kh 608 607 "steered" "steered" md5 (by kernel_rfl) (by kernel_rfl)
 have zs2:=zs1.binds (ps:=["system","aim"]) fun _ _ _ _ _ _ us hl=>by obtain⟨a,b,rfl⟩:=hE hl;rfl
 have zt1:=fk (K:=kk w.params) ki 684 683 "told_by" "told_by" ud (by kernel_rfl) (by kernel_rfl)
 have zt2:=zt1.binds (ps:=["system","weights"]) fun _ _ _ _ _ _ us hl=>by obtain⟨a,b,rfl⟩:=hE hl;rfl
 have zs3:iG pg w (kk w.params) mg base 5 "steered" 2 (vQ):=qF zs1 zs2 v8 (r9.mono (by decide))
 have zt3:iG pg w (kk w.params) mg base 5 "told_by" 2 (vR):=qG zt1 zt2 y8 (r9.mono (by decide))
 have y9:Def pg w (kk w.params) mg base 6 "_law_refused" 3 (zy):=kT k2 l2 o2 (List.forall_mem_cons.mpr ⟨⟨"steered", zs3.mono (by decide),v8⟩,(List.forall_mem_cons.mpr ⟨⟨"told_by", zt3.mono (by decide),y8⟩,(fun _ h=>absurd h List.not_mem_nil)⟩)⟩) l7 o7 q7 r7 (List.forall_mem_cons.mpr ⟨t9.mono (by decide),(fun _ h=>absurd h List.not_mem_nil)⟩) s7 c7 d7 b7 e7 f8 l8
 have z9:Def pg w (kk w.params) mg base 1 "_law_things" 3 (Aj):=ml q2 r2 s2 d8 i8
 have a10:bI pg w (kk w.params) mg base 1 519 "found" 1 (uJ):=dm t2 u2 i6 ⟨by kernel_rfl,by kernel_rfl,by kernel_rfl⟩ 
 have b10:bI pg w (kk w.params) mg base 1 580 "found" 1 (uJ):=dm t2 u2 r6 ⟨by kernel_rfl,by kernel_rfl,by kernel_rfl⟩ 
 have c10:bI pg w (kk w.params) mg base 1 663 "found" 1 (uJ):=dm t2 u2 v6 ⟨by kernel_rfl,by kernel_rfl,by kernel_rfl⟩ 
 have d10:bI pg w (kk w.params) mg base 1 554 "found" 1 (BI):=ju v2 y2 f6 ⟨by kernel_rfl,by kernel_rfl,by kernel_rfl⟩ 
 have e10:bI pg w (kk w.params) mg base 1 637 "found" 1 (BJ):=kP z2 a3 t6 ⟨by kernel_rfl,by kernel_rfl,by kernel_rfl⟩ 
 have f10:bI pg w (kk w.params) mg base 1 519 "holds" 3 (DP):=iY b3 c3 i6 ⟨by kernel_rfl,by kernel_rfl,by kernel_rfl⟩ 
 have g10:Def pg w (kk w.params) mg base 4 "is_table" 3 (uK):=qK d3 e3 f3 (l9.mono (by decide)) j8 f8 b8 k8
 have i10:Def pg w (kk w.params) mg base 0 "rest" 1 (fun _=>none):=Def.zero g3 i3 j3
 have j10:Def pg w (kk w.params) mg base 0 "run" 3 (fun _=>none):=Def.zero k3 l3 o3
 have k10:bI pg w (kk w.params) mg base 1 470 "ins" 1 (Ah):=kR q3 r3 d6 ⟨by kernel_rfl,by kernel_rfl,by kernel_rfl⟩ t7 b8
 have l10:bI pg w (kk w.params) mg base 5 554 "holds" 3 (B2):=jv s3 t3 f6 ⟨by kernel_rfl,by kernel_rfl,by kernel_rfl⟩ (g10.mono (by decide)) (i10.mono (by decide)) (j10.mono (by decide)) (List.forall_mem_cons.mpr ⟨o9.mono (by decide),(fun _ h=>absurd h List.not_mem_nil)⟩) (List.forall_mem_cons.mpr ⟨k10.mono (by decide),(fun _ h=>absurd h List.not_mem_nil)⟩) u7 
 have o10:Def pg w (kk w.params) mg base 0 "reach_table" 1 (fun _=>none):=Def.zero u3 v3 y3
 have q10:Def pg w (kk w.params) mg base 0 "product" 3 (fun _=>none):=Def.zero z3 a4 b4
 have r10:Def pg w (kk w.params) mg base 0 "is_nought" 1 (fun _=>none):=Def.zero c4 d4 e4
 have s10:Def pg w (kk w.params) mg base 0 "weighed" 2 (fun _=>none):=Def.zero f4 g4 i4
 have t10:bI pg w (kk w.params) mg base 4 580 "holds" 3 (B5):=iZ j4 k4 r6 ⟨by kernel_rfl,by kernel_rfl,by kernel_rfl⟩ (l9.mono (by decide)) (o10.mono (by decide)) (q10.mono (by decide)) (r10.mono (by decide)) (s10.mono (by decide)) (List.forall_mem_cons.mpr ⟨o9.mono (by decide),(fun _ h=>absurd h List.not_mem_nil)⟩) (List.forall_mem_cons.mpr ⟨k10.mono (by decide),(fun _ h=>absurd h List.not_mem_nil)⟩) v7 r8 s8
 have u10:Def pg w (kk w.params) mg base 0 "tell_table" 1 (fun _=>none):=Def.zero l4 o4 q4
 have v10:bI pg w (kk w.params) mg base 1 470 "outs" 1 (B8):=kf r4 s4 d6 ⟨by kernel_rfl,by kernel_rfl,by kernel_rfl⟩ t7 b8
 have y10:bI pg w (kk w.params) mg base 5 637 "holds" 3 (B4):=kQ t4 u4 t6 ⟨by kernel_rfl,by kernel_rfl,by kernel_rfl⟩ (g10.mono (by decide)) (u10.mono (by decide)) (q10.mono (by decide)) (List.forall_mem_cons.mpr ⟨o9.mono (by decide),(fun _ h=>absurd h List.not_mem_nil)⟩) (List.forall_mem_cons.mpr ⟨v10.mono (by decide),(fun _ h=>absurd h List.not_mem_nil)⟩) y7 
 have z10:Def pg w (kk w.params) mg base 0 "applied" 2 (fun _=>none):=Def.zero v4 y4 z4
 have a11:bI pg w (kk w.params) mg base 4 663 "holds" 3 (B3):=jx a5 b5 v6 ⟨by kernel_rfl,by kernel_rfl,by kernel_rfl⟩ (l9.mono (by decide)) (u10.mono (by decide)) (z10.mono (by decide)) (r10.mono (by decide)) (s10.mono (by decide)) (List.forall_mem_cons.mpr ⟨o9.mono (by decide),(fun _ h=>absurd h List.not_mem_nil)⟩) z7 r8 s8
 have b11:bI pg w (kk w.params) mg base 6 554 "shows" 3 (iW):=bK c5 d5 f6 ⟨by kernel_rfl,by kernel_rfl,by kernel_rfl⟩ (q9.mono (by decide)) (List.forall_mem_cons.mpr ⟨f10.mono (by decide),(List.forall_mem_cons.mpr ⟨l10.mono (by decide),(List.forall_mem_cons.mpr ⟨t10.mono (by decide),(List.forall_mem_cons.mpr ⟨y10.mono (by decide),(List.forall_mem_cons.mpr ⟨a11.mono (by decide),(fun _ h=>absurd h List.not_mem_nil)⟩)⟩)⟩)⟩)⟩) 
 have c11:bI pg w (kk w.params) mg base 6 519 "shows" 3 (iW):=bK c5 d5 i6 ⟨by kernel_rfl,by kernel_rfl,by kernel_rfl⟩ (q9.mono (by decide)) (List.forall_mem_cons.mpr ⟨f10.mono (by decide),(List.forall_mem_cons.mpr ⟨l10.mono (by decide),(List.forall_mem_cons.mpr ⟨t10.mono (by decide),(List.forall_mem_cons.mpr ⟨y10.mono (by decide),(List.forall_mem_cons.mpr ⟨a11.mono (by decide),(fun _ h=>absurd h List.not_mem_nil)⟩)⟩)⟩)⟩)⟩) 
 have d11:bI pg w (kk w.params) mg base 6 580 "shows" 3 (iW):=bK c5 d5 r6 ⟨by kernel_rfl,by kernel_rfl,by kernel_rfl⟩ (q9.mono (by decide)) (List.forall_mem_cons.mpr ⟨f10.mono (by decide),(List.forall_mem_cons.mpr ⟨l10.mono (by decide),(List.forall_mem_cons.mpr ⟨t10.mono (by decide),(List.forall_mem_cons.mpr ⟨y10.mono (by decide),(List.forall_mem_cons.mpr ⟨a11.mono (by decide),(fun _ h=>absurd h List.not_mem_nil)⟩)⟩)⟩)⟩)⟩) 
 have e11:bI pg w (kk w.params) mg base 6 637 "shows" 3 (iW):=bK c5 d5 t6 ⟨by kernel_rfl,by kernel_rfl,by kernel_rfl⟩ (q9.mono (by decide)) (List.forall_mem_cons.mpr ⟨f10.mono (by decide),(List.forall_mem_cons.mpr ⟨l10.mono (by decide),(List.forall_mem_cons.mpr ⟨t10.mono (by decide),(List.forall_mem_cons.mpr ⟨y10.mono (by decide),(List.forall_mem_cons.mpr ⟨a11.mono (by decide),(fun _ h=>absurd h List.not_mem_nil)⟩)⟩)⟩)⟩)⟩) 
 have f11:bI pg w (kk w.params) mg base 6 663 "shows" 3 (iW):=bK c5 d5 v6 ⟨by kernel_rfl,by kernel_rfl,by kernel_rfl⟩ (q9.mono (by decide)) (List.forall_mem_cons.mpr ⟨f10.mono (by decide),(List.forall_mem_cons.mpr ⟨l10.mono (by decide),(List.forall_mem_cons.mpr ⟨t10.mono (by decide),(List.forall_mem_cons.mpr ⟨y10.mono (by decide),(List.forall_mem_cons.mpr ⟨a11.mono (by decide),(fun _ h=>absurd h List.not_mem_nil)⟩)⟩)⟩)⟩)⟩) 
 have g11:gQ pg w (kk w.params) mg base 6 554 "shows" 3 (jQ):=bA c5 d5 f6 ⟨by kernel_rfl,by kernel_rfl,by kernel_rfl⟩ (r9.mono (by decide)) 
 have i11:gQ pg w (kk w.params) mg base 6 519 "shows" 3 (jQ):=bA c5 d5 i6 ⟨by kernel_rfl,by kernel_rfl,by kernel_rfl⟩ (r9.mono (by decide)) 
 have j11:gQ pg w (kk w.params) mg base 6 580 "shows" 3 (jQ):=bA c5 d5 r6 ⟨by kernel_rfl,by kernel_rfl,by kernel_rfl⟩ (r9.mono (by decide)) 
 have k11:gQ pg w (kk w.params) mg base 6 637 "shows" 3 (jQ):=bA c5 d5 t6 ⟨by kernel_rfl,by kernel_rfl,by kernel_rfl⟩ (r9.mono (by decide)) 
 have l11:gQ pg w (kk w.params) mg base 6 663 "shows" 3 (jQ):=bA c5 d5 v6 ⟨by kernel_rfl,by kernel_rfl,by kernel_rfl⟩ (r9.mono (by decide)) 
 have zl1:sZ pg w (kk w.params) mg base 8 "_law_refused" "_law_one" "_law_other" "_law_found" Et Eu DV rE:=ke (k:=6) k2 l2 o2 (List.forall_mem_cons.mpr ⟨i11.mono (by decide),(List.forall_mem_cons.mpr ⟨g11.mono (by decide),(List.forall_mem_cons.mpr ⟨j11.mono (by decide),(List.forall_mem_cons.mpr ⟨k11.mono (by decide),(List.forall_mem_cons.mpr ⟨l11.mono (by decide),(fun _ h=>absurd h List.not_mem_nil)⟩)⟩)⟩)⟩)⟩) l7 o7 q7 r7 (List.forall_mem_cons.mpr ⟨t9.mono (by decide),(fun _ h=>absurd h List.not_mem_nil)⟩) s7 c7 d7 b7 e7 f8 l8
 have zc1:PySem.W.CodeHd base 742 738:=⟨cA 742 "_law_asked" 1184 441 5 1194,_,_,_,_,_,_,_,_,kb 742 _ (by kernel_rfl),rfl,rfl,rfl,rfl,rfl,rfl,rfl,rfl,by decide⟩
 have o11:pU pg w (kk w.params) mg base 9 "_law_asked" 5 738 AU (yg):=m8 e5 f5 g5 (i9.mono (by decide)) zl1 rfl zc1 bmm (List.forall_mem_cons.mpr ⟨a10.mono (by decide),(List.forall_mem_cons.mpr ⟨d10.mono (by decide),(List.forall_mem_cons.mpr ⟨b10.mono (by decide),(List.forall_mem_cons.mpr ⟨e10.mono (by decide),(List.forall_mem_cons.mpr ⟨c10.mono (by decide),(fun _ h=>absurd h List.not_mem_nil)⟩)⟩)⟩)⟩)⟩) (List.forall_mem_cons.mpr ⟨c11.mono (by decide),(List.forall_mem_cons.mpr ⟨b11.mono (by decide),(List.forall_mem_cons.mpr ⟨d11.mono (by decide),(List.forall_mem_cons.mpr ⟨e11.mono (by decide),(List.forall_mem_cons.mpr ⟨f11.mono (by decide),(fun _ h=>absurd h List.not_mem_nil)⟩)⟩)⟩)⟩)⟩) a8 j6 f8
 have q11:Def pg w (kk w.params) mg base 5 "is_system" 4 (yh):=pC i5 j5 k5 (g10.mono (by decide)) j8 f8 b8 t8
 have r11:gh pg w (kk w.params) mg base 7 "System" 470 4 (Cc):=sx l5 o5 d6 ⟨by kernel_rfl,by kernel_rfl,by kernel_rfl,by kernel_rfl⟩ e6 (by kernel_rfl:PySem.W.findIn (kk w.params) (.ref 470) "four" = some none) (q11.mono (by decide)) b8 i8 u8
 have s11:gh pg w (kk w.params) mg base 2 "Inputs" 554 1 (BN):=sv q5 r5 f6 ⟨by kernel_rfl,by kernel_rfl,by kernel_rfl,by kernel_rfl⟩ g6 (by kernel_rfl:PySem.W.findIn (kk w.params) (.ref 554) "sent" = some none) 
 have t11:gh pg w (kk w.params) mg base 2 "Unmoved" 580 1 (BP):=qE s5 t5 r6 ⟨by kernel_rfl,by kernel_rfl,by kernel_rfl,by kernel_rfl⟩ s6 (by kernel_rfl:PySem.W.findIn (kk w.params) (.ref 580) "weights" = some none) 
 have u11:gh pg w (kk w.params) mg base 2 "Sums" 637 1 (BO):=w5 u5 v5 t6 ⟨by kernel_rfl,by kernel_rfl,by kernel_rfl,by kernel_rfl⟩ u6 (by kernel_rfl:PySem.W.findIn (kk w.params) (.ref 637) "sums" = some none) 
 have v11:gh pg w (kk w.params) mg base 2 "Unseen" 663 1 (BQ):=sA y5 z5 v6 ⟨by kernel_rfl,by kernel_rfl,by kernel_rfl,by kernel_rfl⟩ y6 (by kernel_rfl:PySem.W.findIn (kk w.params) (.ref 663) "state" = some none) 
 exact Az (P:=pg) (w:=w) (base:=base) (k:=9) a6 (g9.mono (by decide)) (z8.mono (by decide)) (f9.mono (by decide)) (i9.mono (by decide)) (y9.mono (by decide)) (z9.mono (by decide)) (o11.mono (by decide)) rfl (r11.mono (by decide)) (s11.mono (by decide)) (t11.mono (by decide)) (u11.mono (by decide)) (v11.mono (by decide)) u7 v7 y7 z7 b8 v8 y8
theorem zJ (P:Params):(kk P).lookup 738=none:=by kernel_rfl
theorem CL (P:Params):(kk P).lookup 742=some (cA 742 "_law_asked" 1184 441 5 1194):=by kernel_rfl
theorem walk {q:Program}{loose:List Str}{XP:(Str->Option Value)->Heap->Prop}{d:DefRec}(hn:d.name = "law")(hdf:d.params.defaults=[]):PySem.W.WalkO q loose XP hk.says lw.row.toRowW d [] (fun f vs=>PySem.call f vs):=
 xS (n:=63) (k:=10) (x := "_law_script") (CX:=fun _=>iv) (K:=kk) (Pa:=738) (ks:=AU) (sp:=fun w=>Dj (kk w.params) 1 B7 738 AU) rfl (by decide) hdf ⟨rfl,by decide,by decide⟩
  (fun w h Y=>by
   have k:(kq w.params).In h:=PySem.W.kIn_of Y
   refine⟨fun b o e=>k b o ?_,k 738 _ rfl⟩
   unfold kq
   rw [List.lookup_cons]
   split
   ·next hb =>
    have:b=738:=by simpa using hb
    rw [this,zJ] at e
    cases e
   ·exact e)
  (fun w h k=>⟨742,cA 742 "_law_asked" 1184 441 5 1194,_,k 742 _ (CL w.params),rfl,rfl,rfl⟩) (fun w=>zJ w.params)
  (fun w mg fa h KX G e=>all_mk KX G (by rw [hn] at e;exact e))
  (fun w H a ns hl hS hT=>⟨⟨#[],hT.trans (by rw [Array.append_empty])⟩,rfl,H,[.scr (ns.map T.int)],.bl true,aD.refl H,⟨_,[],rfl,⟨a,ns.map V.int,rfl,hS,nR ns⟩,rfl⟩,sk ns hl,fun _ _ v _ r=>r⟩) fun _ _ _ _ _ z=>z
end My
open PySem PySem.W PyProof.Rows
set_option maxHeartbeats 0 in
theorem PySem.Challenge.cw_echohouse_k54_findings_of_anything_holds : PySem.Challenge.rw_echohouse_k54_findings_of_anything.Holds := by
 refine holds_law My.ws fun said=>?_
 refine holds_open (q:=My.qv) (loose:=[]) (Xt:=My.xt) (XP:=XL My.qv []) My.hl (Hook.of My.hk) (Hook.keeps My.hk)
  (fun s e=>xl_of s (Bool.and_eq_true_iff.mp e).1) XL.keeps (by rfl) (by rfl) (by rfl)
  (fun s e=>recFacts_of (Bool.and_eq_true_iff.mp e).2) (by rfl) said (by decide +kernel) ⟨rfl,rfl,rfl,rfl,rfl,by decide +kernel⟩ ?hw ?hc
 case hw=>w_witness2
 case hc=>exact My.walk rfl rfl
