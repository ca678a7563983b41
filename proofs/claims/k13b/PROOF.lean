import PyProof.Rows.All
import Wide.All
import OpenK.AllK
import PySem.Challenge.RW_echohouse_k13_inverse_or_flat
noncomputable section
local macro_rules | `(tactic| walk_at "sc")=>`(tactic| exact ⟨rfl,rfl,rfl,by decide +kernel,rfl,by decide +kernel,by decide +kernel⟩)
set_option Elab.async false
set_option linter.all false
set_option maxRecDepth 100000
set_option maxHeartbeats 4000000
local macro_rules | `(tactic| walk_at "ev")=>do
  let ns:List Lean.Name:=[`Bool.false_eq_true,`Bool.not_false,`Bool.not_true,`B6,`B7,`Gm,`List.cons_append,`List.getElem?_cons_succ,`List.getElem?_cons_zero,`List.length_cons,`List.length_nil,`List.map_cons,`List.map_nil,`List.nil_append,`List.replicate_succ,`List.replicate_zero,`List.set_cons_succ,`List.set_cons_zero,`Nat.reduceAdd,`Nat.reduceLeDiff,`Nat.reduceSub,`Nat.sub_self,`Nat.zero_add,`Option.bind_none,`Option.bind_some,`and_self,`and_true,`beq_self_eq_true,`boolsOf,`DQ,`Nz,`bG,`yL,`wD,`JQ,`decide_false,`decide_true,`aA,`D3,`iQ,`jO,`uC,`fC,`ai,`JZ,`cy,`aa,`NA,`Mc,`D4,`dz,`Ha,`cq,`my,`gS,`bS,`az,`ij,`gu,`aG,`sX,`NB,`uD,`fL,`bE,`ik,`aO,`dB,`aX,`d9,`Hb,`cJ,`eL,`ck,`wb,`mC,`af,`bo,`fm,`qr,`wN,`Ef,`k9,`J5,`Cy,`mD,`Eg,`J6,`wO,`Eh,`Ei,`Ej,`Ek,`J7,`uE,`qt,`NF,`aH,`ak,`bN,`bO,`if_false,`if_true,`oB,`wU,`wV,`y9,`wW,`CF,`zi,`uI,`uJ,`uK,`wX,`uL,`zj,`wY,`rN,`uM,`uN,`wZ,`uO,`zk,`w5,`rO,`uP,`uQ,`w6,`uR,`zm,`w8,`rQ,`uS,`uT,`w9,`uU,`zo,`xa,`rR,`uV,`uW,`xb,`uX,`zp,`xf,`rS,`uY,`uZ,`xg,`u9,`zq,`xh,`rT,`va,`vb,`xi,`vc,`zr,`xj,`rV,`ite_false,`ite_true,`OZ,`NK,`NL,`Hu,`Ox,`O0,`bV,`O1,`ne_eq,`not_false_eq_true,`not_true_eq_false,`reduceCtorEq,`reduceIte,`ML,`Ni,`true_and,`jG]
  let mut ls:Array (Lean.TSyntax `Lean.Parser.Tactic.simpLemma):=#[]
  for n in ns do
   unless (<- Lean.Macro.resolveGlobalName n).isEmpty do
    ls:=ls.push (<- `(Lean.Parser.Tactic.simpLemma| $(Lean.mkIdent n):ident))
  `(tactic| simp only [$[$ls],*, *])
namespace My
open PySem PySem.Spec PyProof.Rows
def tp (i:Nat):Stmt:=PySem.Challenge.pw_echohouse_k13_inverse_or_flat.main.body.getD i (.Pass ⟨0,0,0,0⟩)
def hA (s:Stmt):Arguments:=match s with
 | .FunctionDef _ a _ _ _ _ _ _ _ _=>a
 |_=>⟨[],[],none,[],[],none,[]⟩
def hB (s:Stmt):List Stmt:=match s with
 | .FunctionDef _ _ b _ _ _ _ _ _ _=>b
 |_=>[]
def hS (s:Stmt):Scope:=match s with
 | .FunctionDef _ _ _ _ _ _ sc _ _ _=>sc
 |_=>{ kind:=.function,names:=[],isGenerator:=false,isCoroutine:=false }
def tc (i j:Nat):Stmt:=match tp i with
 | .ClassDef _ _ _ body _ _ _ _ _ _ _=>body.getD j (.Pass ⟨0,0,0,0⟩)
 |_=>.Pass ⟨0,0,0,0⟩
abbrev pg:Program:=PySem.Challenge.pw_echohouse_k13_inverse_or_flat
abbrev lw:PySem.W.OpenLaw:=PySem.Challenge.rw_echohouse_k13_inverse_or_flat
def qv:Program:={ pg with main:={ pg.main with body:=([0,2,3,4,5,6,7,8,9,10,11,12,14,15,16,17,19,21,22,23,25,26,27,28,29,30,31,32,33,34,35,36,37,39,40,41,42,43,44,45,46,47,48,49,50,51,52,53,54,55,56,57]:List Nat).map tp } }
def cf:Str := "/claim/cut.py"
def Ol (nm qn:Str)(t l n k:Nat)(a b c d e:Value):Obj:=⟨.type "code", none,.fields #[.str nm t,.str qn (t+1),.str cf (t+2),.int l 0,.int n 0,.int 0 0,.int 0 0,.int 3 0,a,.bool true,.int 181 0,b,.none,c,d,e,.int k 0,.int l 0,.str cf (k+1)],#[]⟩
def Ny (c:Nat)(nm qn:Str)(t l n k:Nat):Obj:=Ol nm qn t l n k (.ref (c-5)) (.ref (c-4)) (.ref (c-3)) (.ref (c-2)) (.ref (c-1))
def Oj (c:Nat)(nm qn:Str)(t l n k:Nat):Obj:=Ol nm qn t l n k (.ref (c-3)) (.ref (c-2)) .none .none (.ref (c-1))
def cA (c:Nat)(nm:Str)(t l n k:Nat):Obj:=Ny c nm nm t l n k
def cB (c:Nat)(nm:Str)(t l n k:Nat):Obj:=Oj c nm nm t l n k
def M8 (s:Stmt)(nm qn:Str)(pm:Value)(c:Addr):Obj:=⟨.type "function", none,.func (PySem.W.fnOf nm qn (hA s) (hB s) (hS s) .none .none .none pm none (.ref c) .none),#[]⟩
def fh (s:Stmt)(nm:Str)(pm:Value)(c:Addr):Obj:=M8 s nm nm pm c
def de (P:Params)(x:Str)(t:Tok)(v:Value):DictEntry:=⟨PyData.keyHash P x,.str x t,v⟩
def jQ:Value:=.str "law_echohouse_k13_inverse_or_flat" 534
def LF:Value:=.str "echohouse.tables" 414
def LG:Value:=.str "echohouse.divisors" 194
def oC:Value:=.str "echohouse.solving" 438
def Oy:Value:=.str "echohouse.fracs" 403
def md5:Value:=.str "echohouse.errors" 298
def d3 (P:Params):List DictEntry:=[de P "__name__" 165 (.str "law_echohouse_k13_inverse_or_flat" 534),de P "__doc__" 166 (.none),de P "__package__" 167 (.none),de P "__loader__" 168 (.builtin "__main__.__loader__#opaque"),de P "__spec__" 169 (.none),de P "__annotations__" 170 (.ref 6),de P "__builtins__" 171 (.ref 4),de P "__file__" 173 (.str "/claim/cut.py" 172),de P "__cached__" 174 (.none),de P "_wall" 193 (.ref 21),de P "SHORT" 197 (.int (4000) 196),de P "SHORT_HALF" 199 (.int (256) 198),de P "SHORT_QUOTIENT" 201 (.int (8000) 200),de P "common" 210 (.ref 28),de P "half" 222 (.ref 35),de P "stepped" 232 (.ref 42),de P "step" 247 (.ref 49),de P "upper_half" 264 (.ref 56),de P "factors_joined" 280 (.ref 63),de P "divided" 286 (.ref 68),de P "low_inverse" 297 (.ref 75),de P "EchoError" 324 (.ref 92),de P "NoTable" 347 (.ref 112),de P "NoFit" 370 (.ref 131),de P "Flat" 402 (.ref 157),de P "frac" 413 (.ref 166),de P "shared_bottom" 425 (.ref 173),de P "raised" 431 (.ref 178),de P "turned" 437 (.ref 183),de P "first_rows" 445 (.ref 188),de P "inverse" 451 (.ref 193),de P "still" 460 (.ref 200),de P "stills" 466 (.ref 205),de P "whole_rows" 472 (.ref 210),de P "tracked" 478 (.ref 215),de P "cleared_rows" 491 (.ref 222),de P "cleared" 497 (.ref 227),de P "first_place" 506 (.ref 234),de P "kept_steps" 512 (.ref 239),de P "last_step" 521 (.ref 246),de P "brought" 527 (.ref 251),de P "shortened" 533 (.ref 256),de P "_law_cell" 544 (.ref 263),de P "_law_mix" 553 (.ref 270),de P "_law_same" 563 (.ref 277),de P "_law_digits" 574 (.ref 284),de P "_law_frac" 584 (.ref 291),de P "_law_some" 590 (.ref 296),de P "_law_add" 598 (.ref 303),de P "_law_times" 606 (.ref 310),de P "_law_weighed" 617 (.ref 317),de P "_law_table" 623 (.ref 322),de P "_law_bound" 629 (.ref 327),de P "_law_is_row" 638 (.ref 334),de P "_law_product" 644 (.ref 339),de P "_law_unit" 650 (.ref 344),de P "_law_stills" 656 (.ref 349),de P "_law_turned" 666 (.ref 356),de P "_law_inverse_right" 672 (.ref 361),de P "_law_still_right" 682 (.ref 368),de P "law" 688 (.ref 373)]
def kk (P:Params):PySem.W.Frag:=[
(3,⟨.type "dict", none,.dict (d3 P).toArray 61,#[]⟩),
(27,cA 27 "common" 202 8 2 208),
(28,fh (tp 5) "common" LG 27),
(34,cA 34 "half" 211 17 2 220),
(35,fh (tp 6) "half" LG 34),
(67,cB 67 "divided" 281 51 2 284),
(68,fh (tp 11) "divided" LG 67),
(91,⟨.type "dict", none,.dict #[de P "__module__" 307 (.str "echohouse.errors" 298),de P "__firstlineno__" 311 (.int (70) 310),de P "word" 318 (.ref 89),de P "__static_attributes__" 319 (.ref 90),de P "__weakref__" 321 (.ref 93),de P "__doc__" 322 (.none)] 3,#[]⟩),
(92,⟨.type "type", none,.cls ⟨"EchoError", [.type "ValueError"],[.ref 92,.type "ValueError", .type "Exception", .type "BaseException", .type "object"],91,"EchoError", true,[],[.ref 112,.ref 131,.ref 157],false,none,false⟩,#[some (.ref 76),none,some (.str "EchoError" 300),some (.str "EchoError" 308),some (.builtin "ValueError.__new__"),some (.bool true)]⟩),
(111,⟨.type "dict", none,.dict #[de P "__module__" 332 (.str "echohouse.errors" 298),de P "__firstlineno__" 336 (.int (74) 335),de P "word" 343 (.ref 109),de P "__static_attributes__" 344 (.ref 110),de P "__doc__" 345 (.none)] 2,#[]⟩),
(112,⟨.type "type", none,.cls ⟨"NoTable", [.ref 92],[.ref 112,.ref 92,.type "ValueError", .type "Exception", .type "BaseException", .type "object"],111,"NoTable", true,[],[],false,none,false⟩,#[some (.ref 96),none,some (.str "NoTable" 325),some (.str "NoTable" 333),some (.builtin "ValueError.__new__"),some (.bool true)]⟩),
(130,⟨.type "dict", none,.dict #[de P "__module__" 355 (.str "echohouse.errors" 298),de P "__firstlineno__" 359 (.int (78) 358),de P "word" 366 (.ref 128),de P "__static_attributes__" 367 (.ref 129),de P "__doc__" 368 (.none)] 2,#[]⟩),
(131,⟨.type "type", none,.cls ⟨"NoFit", [.ref 92],[.ref 131,.ref 92,.type "ValueError", .type "Exception", .type "BaseException", .type "object"],130,"NoFit", true,[],[],false,none,false⟩,#[some (.ref 115),none,some (.str "NoFit" 348),some (.str "NoFit" 356),some (.builtin "ValueError.__new__"),some (.bool true)]⟩),
(146,Ny 146 "__init__" "Flat.__init__" 383 84 2 388),
(147,M8 (tc 17 0) "__init__" "Flat.__init__" md5 146),
(156,⟨.type "dict", none,.dict #[de P "__module__" 378 (.str "echohouse.errors" 298),de P "__firstlineno__" 382 (.int (82) 381),de P "__init__" 390 (.ref 147),de P "word" 397 (.ref 154),de P "__static_attributes__" 399 (.ref 155),de P "__doc__" 400 (.none)] 2,#[]⟩),
(157,⟨.type "type", none,.cls ⟨"Flat", [.ref 92],[.ref 157,.ref 92,.type "ValueError", .type "Exception", .type "BaseException", .type "object"],156,"Flat", true,[],[],false,none,false⟩,#[some (.ref 134),none,some (.str "Flat" 371),some (.str "Flat" 379),some (.builtin "ValueError.__new__"),some (.bool true)]⟩),
(165,cA 165 "frac" 405 90 2 411),
(166,fh (tp 19) "frac" Oy 165),
(172,cA 172 "shared_bottom" 416 100 1 423),
(173,fh (tp 21) "shared_bottom" LF 172),
(177,cB 177 "raised" 426 105 2 429),
(178,fh (tp 22) "raised" LF 177),
(182,cB 182 "turned" 432 107 2 435),
(183,fh (tp 23) "turned" LF 182),
(187,cB 187 "first_rows" 440 110 1 443),
(188,fh (tp 25) "first_rows" oC 187),
(192,cB 192 "inverse" 446 114 1 449),
(193,fh (tp 26) "inverse" oC 192),
(199,cA 199 "still" 452 120 2 458),
(200,fh (tp 27) "still" oC 199),
(204,cB 204 "stills" 461 123 2 464),
(205,fh (tp 28) "stills" oC 204),
(209,cB 209 "whole_rows" 467 127 1 470),
(210,fh (tp 29) "whole_rows" oC 209),
(214,cB 214 "tracked" 473 129 1 476),
(215,fh (tp 30) "tracked" oC 214),
(221,cA 221 "cleared_rows" 479 136 2 489),
(222,fh (tp 31) "cleared_rows" oC 221),
(226,cB 226 "cleared" 492 145 2 495),
(227,fh (tp 32) "cleared" oC 226),
(233,cA 233 "first_place" 498 152 2 504),
(234,fh (tp 33) "first_place" oC 233),
(238,cB 238 "kept_steps" 507 157 1 510),
(239,fh (tp 34) "kept_steps" oC 238),
(245,cA 245 "last_step" 513 159 1 519),
(246,fh (tp 35) "last_step" oC 245),
(250,cB 250 "brought" 522 164 3 525),
(251,fh (tp 36) "brought" oC 250),
(255,cB 255 "shortened" 528 171 1 531),
(256,fh (tp 37) "shortened" oC 255),
(262,cA 262 "_law_cell" 536 177 2 542),
(263,fh (tp 39) "_law_cell" jQ 262),
(269,cA 269 "_law_mix" 545 184 2 551),
(270,fh (tp 40) "_law_mix" jQ 269),
(283,cA 283 "_law_digits" 564 203 3 572),
(284,fh (tp 42) "_law_digits" jQ 283),
(290,cA 290 "_law_frac" 575 209 2 582),
(291,fh (tp 43) "_law_frac" jQ 290),
(295,cB 295 "_law_some" 585 217 2 588),
(296,fh (tp 44) "_law_some" jQ 295),
(302,cA 302 "_law_add" 591 226 2 596),
(303,fh (tp 45) "_law_add" jQ 302),
(309,cA 309 "_law_times" 599 228 2 604),
(310,fh (tp 46) "_law_times" jQ 309),
(316,cA 316 "_law_weighed" 607 230 2 615),
(317,fh (tp 47) "_law_weighed" jQ 316),
(321,cB 321 "_law_table" 618 235 3 621),
(322,fh (tp 48) "_law_table" jQ 321),
(326,cB 326 "_law_bound" 624 238 2 627),
(327,fh (tp 49) "_law_bound" jQ 326),
(333,cA 333 "_law_is_row" 630 247 2 636),
(334,fh (tp 50) "_law_is_row" jQ 333),
(338,cB 338 "_law_product" 639 254 2 642),
(339,fh (tp 51) "_law_product" jQ 338),
(343,cB 343 "_law_unit" 645 256 1 648),
(344,fh (tp 52) "_law_unit" jQ 343),
(348,cB 348 "_law_stills" 651 258 3 654),
(349,fh (tp 53) "_law_stills" jQ 348),
(355,cA 355 "_law_turned" 657 262 1 664),
(356,fh (tp 54) "_law_turned" jQ 355),
(360,cB 360 "_law_inverse_right" 667 274 1 670),
(361,fh (tp 55) "_law_inverse_right" jQ 360),
(367,cA 367 "_law_still_right" 673 290 2 680),
(368,fh (tp 56) "_law_still_right" jQ 367),
(372,cB 372 "law" 683 297 1 686),
(373,fh (tp 57) "law" jQ 372)]
def ka:List Addr:=[3,27,28,34,35,67,68,91,92,111,112,130,131,146,147,156,157,165,166,172,173,177,178,182,183,187,188,192,193,199,200,204,205,209,210,214,215,221,222,226,227,233,234,238,239,245,246,250,251,255,256,262,263,269,270,283,284,290,291,295,296,302,303,309,310,316,317,321,322,326,327,333,334,338,339,343,344,348,349,355,356,360,361,367,368,372,373]
theorem OX (P:Params):ka=(kk P).map (·.1):=by kernel_rfl
abbrev hk:PySem.W.Hook:=PySem.W.kHook kk ka OX
abbrev xt (s:Shared):Bool:=PySem.W.xlAt qv [] s&&PySem.W.recOk (PySem.W.RowW.records lw.row.toRowW) s
open PySem.W PySem.Calls in
def m9 (tb:String->Option Builtin)(p:Program)(w:World)(Y7:Nat)(ann:Option Value):Nat->SharedT->Thread->Option SharedT
 |0,_,_=>none
 |n+1,s,t=>match through t with
  |true=>some s
  |false=>match stepOk Y7 ann t with
   |false=>none
   |true=>match stepT (denote tb) p w s t with
    |some (s',t')=>m9 tb p w Y7 ann n s' t'
    |none=>none
open PySem.W PySem.Calls in
theorem tP {tb:String->Option Builtin}{p:Program}{w:World}{Y7:Nat}{ann:Option Value}:∀{n:Nat} {s:SharedT} {t:Thread} {r:SharedT},m9 tb p w Y7 ann n s t=some r->topRun tb p w Y7 ann n s.abs t=some r.abs
 |0,_,_,_,e=>by simp [m9] at e
 |n+1,s,t,r,e=>by
  rw [m9] at e
  rw [topRun]
  cases h1:through t with
  |true=>rw [h1] at e;cases e;rfl
  |false =>
   rw [h1] at e
   dsimp only at e ⊢
   cases h2:stepOk Y7 ann t with
   |false=>rw [h2] at e;cases e
   |true =>
    rw [h2] at e
    dsimp only at e ⊢
    cases h3:stepT (denote tb) p w s t with
    |none=>rw [h3] at e;cases e
    |some x =>
     obtain⟨s',t'⟩:=x
     rw [h3] at e
     rw [stepT_spec h3]
     exact tP e
open PySem.W PySem.Calls in
def M9 (tb:String->Option Builtin)(p:Program)(w:World)(Y7:Nat)(ann:Option Value):Nat->SharedT->Thread->Option (SharedT×Thread)
 |0,s,t=>some (s,t)
 |n+1,s,t=>match through t with
  |true=>none
  |false=>match stepOk Y7 ann t with
   |false=>none
   |true=>match stepT (denote tb) p w s t with
    |some (s',t')=>M9 tb p w Y7 ann n s' t'
    |none=>none
open PySem.W PySem.Calls in
theorem Em {tb:String->Option Builtin}{p:Program}{w:World}{Y7:Nat}{ann:Option Value}:∀{n:Nat} {s s':SharedT} {t t':Thread},M9 tb p w Y7 ann n s t=some (s',t')->topGo tb p w Y7 ann n s.abs t=some (s'.abs,t')
 |0,_,_,_,_,e=>by cases e;rfl
 |n+1,s,s',t,t',e=>by
  rw [M9] at e
  rw [topGo]
  cases h1:through t with
  |true=>rw [h1] at e;cases e
  |false =>
   rw [h1] at e
   dsimp only at e ⊢
   cases h2:stepOk Y7 ann t with
   |false=>rw [h2] at e;cases e
   |true =>
    rw [h2] at e
    dsimp only at e ⊢
    cases h3:stepT (denote tb) p w s t with
    |none=>rw [h3] at e;cases e
    |some x =>
     obtain⟨s2,t2⟩:=x
     rw [h3] at e
     rw [stepT_spec h3]
     exact Em e
def alts {α:Type}:Bool->List α->List α
 |_,[]=>[]
 |true,a::l=>a::alts false l
 |false,_::l=>alts true l
def Gk:Nat->List Obj->PySem.W.BT
 |0,_=>.nil
 |_+1,[]=>.nil
 |n+1,o::l=>.node o (Gk n (alts true l)) (Gk n (alts false l))
def bol (P:Params):List Obj:=(PySem.W.boot_heap P).objs.toList
open PySem.W PySem.Calls in
theorem Mr {p q:Program}{loose:List Str}{Xt:Shared->Bool}{α:Type}{Yf:Shared->α}{Ya:World->α}{N n k M:Nat}{g0:Bool}{T:Params->BT}(he:opening p=plainProg p.main.scope.names)(hN:Nat.ble 600 N=true)(hf:∀s,fenceModules? p s=some s)
  (hz:∀w:World,((boot_heap w.params).isNs mainGlobals&&(Array.mk []:Array GenState).size == 0,(boot_heap w.params).objs.size,(boot_heap w.params).nsMap mainGlobals "__annotations__")=(true,11,some (.ref 6)))
  (hr:∀(w:World) (os:OsState),topRun treeTable p w 11 (some (.ref 6)) M ⟨boot_heap w.params,Array.mk [],boot_drawn,boot_toks,os⟩ (topStub p)=some ⟨absHeap (T w.params) n {},Array.mk [],boot_drawn,k,os⟩) (le:Nat.ble M N=true)
  (g1:∀w:World,(fun os:OsState=>staticsOk (importedModules p.main.body) (boot_heap w.params) (absHeap (T w.params) n {})&&namesBound p (absHeap (T w.params) n {})&&gensDone ⟨absHeap (T w.params) n {},Array.mk [],boot_drawn,k,os⟩&&laidKept (boot_heap w.params) (absHeap (T w.params) n {}))=fun _=>true)
  (g2:∀w:World,(fun os:OsState=>(openSeen q loose (importedModules p.main.body) Xt g0 ⟨absHeap (T w.params) n {},Array.mk [],boot_drawn,k,os⟩).1)=fun _=>(openGood q loose).1)
  (g4:∀w:World,(fun os:OsState=>(openSeen q loose (importedModules p.main.body) Xt g0 ⟨absHeap (T w.params) n {},Array.mk [],boot_drawn,k,os⟩).2)=fun _=>(openGood q loose).2)
  (g3:∀w:World,(fun os:OsState=>Yf ⟨absHeap (T w.params) n {},Array.mk [],boot_drawn,k,os⟩)=fun _=>Ya w):
  LeftO p q loose Xt Yf Ya N g0:=
 LeftO.of_pieces (H₀:=fun P=>boot_heap P) (H₁:=fun P=>absHeap (T P) n {}) (gs₀:=Array.mk []) (gs₁:=Array.mk []) (fun w=>boot_open he hN hf w) hz hr le fun w=>by
  funext os
  exact Prod.ext (congrFun (g1 w) os) (Prod.ext (Prod.ext (congrFun (g2 w) os) (congrFun (g4 w) os)) (congrFun (g3 w) os))
def Oo (s:Stmt)(nm qn:Str):Obj:=⟨.none,none,.func ⟨nm,qn,hA s,.stmts (hB s),hS s,0,[],.none,.none,.none,.none,none,.none,.none,0⟩,#[]⟩
def oT (vs:List Value):Obj:=⟨.type "tuple", none,.seq vs.toArray 0,#[]⟩
def oF:Obj:=⟨.none,none,.fields #[],#[]⟩
def Nf:Nat->List Str->List Value
 |_,[]=>[]
 |t,x::l=>.str x t::Nf (t+1) l
def gA (a:Nat)(s:Stmt)(nm qn:Str)(t l n:Nat)(vs:List Str)(pm:Value):List Obj:=[oT [],oF,oT (Nf (t+3) vs),oT [],Oo s nm qn,Ny (a+5) nm qn t l n (t+3+vs.length),M8 s nm qn pm (a+5)]
def gB (a:Nat)(s:Stmt)(nm qn:Str)(t l n:Nat)(pm:Value):List Obj:=[oT [],oF,Oo s nm qn,Oj (a+3) nm qn t l n (t+3),M8 s nm qn pm (a+3)]
def O5:List (Nat×Nat×Nat):=[(1,0,20),(8,0,27),(17,0,34),(28,0,41),(33,0,48),(37,0,55),(47,0,62),(51,0,67),(62,0,74),(70,0,81),(74,0,101),(78,0,120),(82,0,139),(90,0,165),(100,0,172),(105,0,177),(107,0,182),(110,0,187),(114,0,192),(120,0,199),(123,0,204),(127,0,209),(129,0,214),(136,0,221),(145,0,226),(152,0,233),(157,0,238),(159,0,245),(164,0,250),(171,0,255),(177,0,262),(184,0,269),(188,0,276),(203,0,283),(209,0,290),(217,0,295),(226,0,302),(228,0,309),(230,0,316),(235,0,321),(238,0,326),(247,0,333),(254,0,338),(256,0,343),(258,0,348),(262,0,355),(274,0,360),(290,0,367),(297,0,372)]
def LH (k:Nat):Obj:=⟨.none,none,.fields ((O5.take k).flatMap fun z=>[.int z.1 0,.int z.2.1 0,.ref z.2.2]).toArray,#[]⟩
def o3 (P:Params)(e n:Nat)(v:Value):Obj:=⟨.type "dict", none,.dict (match d3 P with | []=>[] | z::l=>((⟨z.hash,z.key,v⟩:DictEntry)::l).take e).toArray n,#[]⟩
def ob (P:Params):List Obj:=bol P++([⟨.type "tuple", none,.seq #[] 0,#[]⟩,
⟨.none,none,.fields #[.int (1) 0,.int (0) 0,.ref 20,.int (8) 0,.int (0) 0,.ref 27,.int (17) 0,.int (0) 0,.ref 34,.int (28) 0,.int (0) 0,.ref 41,.int (33) 0,.int (0) 0,.ref 48,.int (37) 0,.int (0) 0,.ref 55,.int (47) 0,.int (0) 0,.ref 62,.int (51) 0,.int (0) 0,.ref 67,.int (62) 0,.int (0) 0,.ref 74,.int (70) 0,.int (0) 0,.ref 81,.int (74) 0,.int (0) 0,.ref 101,.int (78) 0,.int (0) 0,.ref 120,.int (82) 0,.int (0) 0,.ref 139,.int (90) 0,.int (0) 0,.ref 165,.int (100) 0,.int (0) 0,.ref 172,.int (105) 0,.int (0) 0,.ref 177,.int (107) 0,.int (0) 0,.ref 182,.int (110) 0,.int (0) 0,.ref 187,.int (114) 0,.int (0) 0,.ref 192,.int (120) 0,.int (0) 0,.ref 199,.int (123) 0,.int (0) 0,.ref 204,.int (127) 0,.int (0) 0,.ref 209,.int (129) 0,.int (0) 0,.ref 214,.int (136) 0,.int (0) 0,.ref 221,.int (145) 0,.int (0) 0,.ref 226,.int (152) 0,.int (0) 0,.ref 233,.int (157) 0,.int (0) 0,.ref 238,.int (159) 0,.int (0) 0,.ref 245,.int (164) 0,.int (0) 0,.ref 250,.int (171) 0,.int (0) 0,.ref 255,.int (177) 0,.int (0) 0,.ref 262,.int (184) 0,.int (0) 0,.ref 269,.int (188) 0,.int (0) 0,.ref 276,.int (203) 0,.int (0) 0,.ref 283,.int (209) 0,.int (0) 0,.ref 290,.int (217) 0,.int (0) 0,.ref 295,.int (226) 0,.int (0) 0,.ref 302,.int (228) 0,.int (0) 0,.ref 309,.int (230) 0,.int (0) 0,.ref 316,.int (235) 0,.int (0) 0,.ref 321,.int (238) 0,.int (0) 0,.ref 326,.int (247) 0,.int (0) 0,.ref 333,.int (254) 0,.int (0) 0,.ref 338,.int (256) 0,.int (0) 0,.ref 343,.int (258) 0,.int (0) 0,.ref 348,.int (262) 0,.int (0) 0,.ref 355,.int (274) 0,.int (0) 0,.ref 360,.int (290) 0,.int (0) 0,.ref 367,.int (297) 0,.int (0) 0,.ref 372],#[]⟩,
⟨.type "code", none,.fields #[.str "<module>" 182,.str "<module>" 183,.str "/claim/cut.py" 184,.int (1) 0,.int (0) 0,.int (0) 0,.int (0) 0,.int (0) 0,.ref 11,.bool false,.int (181) 0,.ref 12,.none,.none,.none,.none,.int (185) 0,.int (1) 0,.str "/claim/cut.py" 186],#[]⟩,
⟨.type "frame", none,.plain,#[some (.ref 13),some (.ref 3),some (.ref 3),none,some (.str "__main__" 164),none,some (.ref 0)]⟩] ++
 (gA 15 (tp 0) "_wall" "_wall" 187 1 1 ["k"] (.str "__main__" 164) ++
 (gA 22 (tp 5) "common" "common" 202 8 2 ["one","other","factors"] (.str "echohouse.divisors" 194) ++
 (gA 29 (tp 6) "half" "half" 211 17 2 ["one","other","goal","factors","shift","further"] (.str "echohouse.divisors" 194) ++
 (gA 36 (tp 7) "stepped" "stepped" 223 28 3 ["one","other","goal","factors"] (.str "echohouse.divisors" 194) ++
 (gA 43 (tp 8) "step" "step" 233 33 3 ["one","other","factors","by","rest","a","b","c","d"] (.str "echohouse.divisors" 194) ++
 (gA 50 (tp 9) "upper_half" "upper_half" 248 37 3 ["one","other","shift","top","other_top","a","b","c","d","low","other_low"] (.str "echohouse.divisors" 194) ++
 (gA 57 (tp 10) "factors_joined" "factors_joined" 265 47 2 ["further","factors","a","b","c","d","e","f","g","h"] (.str "echohouse.divisors" 194) ++
 (gB 64 (tp 11) "divided" "divided" 281 51 2 (.str "echohouse.divisors" 194) ++
 (gA 69 (tp 12) "low_inverse" "low_inverse" 287 62 2 ["odd","bits","inverse","right","mask"] (.str "echohouse.divisors" 194) ++
 ([⟨.type "tuple", none,.seq #[.type "ValueError"] 0,#[]⟩,
⟨.type "builtin_function_or_method", none,.fields #[.builtin "type.__prepare__", .type "type"],#[]⟩,
⟨.type "dict", none,.dict #[de P "__module__" 307 (.str "echohouse.errors" 298),de P "__qualname__" 309 (.str "EchoError" 308),de P "__firstlineno__" 311 (.int (70) 310),de P "word" 318 (.ref 89),de P "__static_attributes__" 319 (.ref 90)] 5,#[]⟩,
⟨.type "tuple", none,.seq #[] 0,#[]⟩,
⟨.none,none,.fields #[.int (72) 0,.int (4) 0,.ref 88],#[]⟩,
⟨.type "code", none,.fields #[.str "EchoError" 302,.str "EchoError" 303,.str "/claim/cut.py" 304,.int (70) 0,.int (0) 0,.int (0) 0,.int (0) 0,.int (0) 0,.ref 79,.bool false,.int (181) 0,.ref 80,.none,.none,.none,.none,.int (305) 0,.int (70) 0,.str "/claim/cut.py" 306],#[]⟩,
⟨.type "frame", none,.plain,#[some (.ref 81),some (.ref 3),some (.ref 78),none,some (.str "echohouse.errors" 298),none,some (.ref 0)]⟩] ++
 (gA 83 (tc 14 0) "word" "EchoError.word" 312 72 1 ["self"] (.str "echohouse.errors" 298) ++
 ([⟨.type "tuple", none,.seq #[] 0,#[]⟩,
⟨.type "dict", none,.dict #[de P "__module__" 307 (.str "echohouse.errors" 298),de P "__firstlineno__" 311 (.int (70) 310),de P "word" 318 (.ref 89),de P "__static_attributes__" 319 (.ref 90),de P "__weakref__" 321 (.ref 93),de P "__doc__" 322 (.none)] 3,#[]⟩,
⟨.type "type", none,.cls ⟨"EchoError", [.type "ValueError"],[.ref 92,.type "ValueError", .type "Exception", .type "BaseException", .type "object"],91,"EchoError", true,[],[.ref 112,.ref 131,.ref 157],false,none,false⟩,#[some (.ref 76),none,some (.str "EchoError" 300),some (.str "EchoError" 308),some (.builtin "ValueError.__new__"),some (.bool true)]⟩,
⟨.type "getset_descriptor", none,.fields #[.str "__weakref__" 320,.ref 92,.builtin "ExceptionGroup.__weakref__", .none],#[]⟩,
⟨.type "super", none,.fields #[.ref 92,.ref 92,.ref 92],#[]⟩,
⟨.type "builtin_function_or_method", none,.fields #[.builtin "object.__init_subclass__", .ref 92],#[]⟩,
⟨.type "tuple", none,.seq #[.ref 92] 0,#[]⟩,
⟨.type "builtin_function_or_method", none,.fields #[.builtin "type.__prepare__", .type "type"],#[]⟩,
⟨.type "dict", none,.dict #[de P "__module__" 332 (.str "echohouse.errors" 298),de P "__qualname__" 334 (.str "NoTable" 333),de P "__firstlineno__" 336 (.int (74) 335),de P "word" 343 (.ref 109),de P "__static_attributes__" 344 (.ref 110)] 5,#[]⟩,
⟨.type "tuple", none,.seq #[] 0,#[]⟩,
⟨.none,none,.fields #[.int (76) 0,.int (4) 0,.ref 108],#[]⟩,
⟨.type "code", none,.fields #[.str "NoTable" 327,.str "NoTable" 328,.str "/claim/cut.py" 329,.int (74) 0,.int (0) 0,.int (0) 0,.int (0) 0,.int (0) 0,.ref 99,.bool false,.int (181) 0,.ref 100,.none,.none,.none,.none,.int (330) 0,.int (74) 0,.str "/claim/cut.py" 331],#[]⟩,
⟨.type "frame", none,.plain,#[some (.ref 101),some (.ref 3),some (.ref 98),none,some (.str "echohouse.errors" 298),none,some (.ref 0)]⟩] ++
 (gA 103 (tc 15 0) "word" "NoTable.word" 337 76 1 ["self"] (.str "echohouse.errors" 298) ++
 ([⟨.type "tuple", none,.seq #[] 0,#[]⟩,
⟨.type "dict", none,.dict #[de P "__module__" 332 (.str "echohouse.errors" 298),de P "__firstlineno__" 336 (.int (74) 335),de P "word" 343 (.ref 109),de P "__static_attributes__" 344 (.ref 110),de P "__doc__" 345 (.none)] 2,#[]⟩,
⟨.type "type", none,.cls ⟨"NoTable", [.ref 92],[.ref 112,.ref 92,.type "ValueError", .type "Exception", .type "BaseException", .type "object"],111,"NoTable", true,[],[],false,none,false⟩,#[some (.ref 96),none,some (.str "NoTable" 325),some (.str "NoTable" 333),some (.builtin "ValueError.__new__"),some (.bool true)]⟩,
⟨.type "super", none,.fields #[.ref 112,.ref 112,.ref 112],#[]⟩,
⟨.type "builtin_function_or_method", none,.fields #[.builtin "object.__init_subclass__", .ref 112],#[]⟩,
⟨.type "tuple", none,.seq #[.ref 92] 0,#[]⟩,
⟨.type "builtin_function_or_method", none,.fields #[.builtin "type.__prepare__", .type "type"],#[]⟩,
⟨.type "dict", none,.dict #[de P "__module__" 355 (.str "echohouse.errors" 298),de P "__qualname__" 357 (.str "NoFit" 356),de P "__firstlineno__" 359 (.int (78) 358),de P "word" 366 (.ref 128),de P "__static_attributes__" 367 (.ref 129)] 5,#[]⟩,
⟨.type "tuple", none,.seq #[] 0,#[]⟩,
⟨.none,none,.fields #[.int (80) 0,.int (4) 0,.ref 127],#[]⟩,
⟨.type "code", none,.fields #[.str "NoFit" 350,.str "NoFit" 351,.str "/claim/cut.py" 352,.int (78) 0,.int (0) 0,.int (0) 0,.int (0) 0,.int (0) 0,.ref 118,.bool false,.int (181) 0,.ref 119,.none,.none,.none,.none,.int (353) 0,.int (78) 0,.str "/claim/cut.py" 354],#[]⟩,
⟨.type "frame", none,.plain,#[some (.ref 120),some (.ref 3),some (.ref 117),none,some (.str "echohouse.errors" 298),none,some (.ref 0)]⟩] ++
 (gA 122 (tc 16 0) "word" "NoFit.word" 360 80 1 ["self"] (.str "echohouse.errors" 298) ++
 ([⟨.type "tuple", none,.seq #[] 0,#[]⟩,
⟨.type "dict", none,.dict #[de P "__module__" 355 (.str "echohouse.errors" 298),de P "__firstlineno__" 359 (.int (78) 358),de P "word" 366 (.ref 128),de P "__static_attributes__" 367 (.ref 129),de P "__doc__" 368 (.none)] 2,#[]⟩,
⟨.type "type", none,.cls ⟨"NoFit", [.ref 92],[.ref 131,.ref 92,.type "ValueError", .type "Exception", .type "BaseException", .type "object"],130,"NoFit", true,[],[],false,none,false⟩,#[some (.ref 115),none,some (.str "NoFit" 348),some (.str "NoFit" 356),some (.builtin "ValueError.__new__"),some (.bool true)]⟩,
⟨.type "super", none,.fields #[.ref 131,.ref 131,.ref 131],#[]⟩,
⟨.type "builtin_function_or_method", none,.fields #[.builtin "object.__init_subclass__", .ref 131],#[]⟩,
⟨.type "tuple", none,.seq #[.ref 92] 0,#[]⟩,
⟨.type "builtin_function_or_method", none,.fields #[.builtin "type.__prepare__", .type "type"],#[]⟩,
⟨.type "dict", none,.dict #[de P "__module__" 378 (.str "echohouse.errors" 298),de P "__qualname__" 380 (.str "Flat" 379),de P "__firstlineno__" 382 (.int (82) 381),de P "__init__" 390 (.ref 147),de P "word" 397 (.ref 154),de P "__static_attributes__" 399 (.ref 155)] 6,#[]⟩,
⟨.type "tuple", none,.seq #[] 0,#[]⟩,
⟨.none,none,.fields #[.int (84) 0,.int (4) 0,.ref 146,.int (87) 0,.int (4) 0,.ref 153],#[]⟩,
⟨.type "code", none,.fields #[.str "Flat" 373,.str "Flat" 374,.str "/claim/cut.py" 375,.int (82) 0,.int (0) 0,.int (0) 0,.int (0) 0,.int (0) 0,.ref 137,.bool false,.int (181) 0,.ref 138,.none,.none,.none,.none,.int (376) 0,.int (82) 0,.str "/claim/cut.py" 377],#[]⟩,
⟨.type "frame", none,.plain,#[some (.ref 139),some (.ref 3),some (.ref 136),none,some (.str "echohouse.errors" 298),none,some (.ref 0)]⟩] ++
 (gA 141 (tc 17 0) "__init__" "Flat.__init__" 383 84 2 ["self","numbers"] (.str "echohouse.errors" 298) ++
 (gA 148 (tc 17 1) "word" "Flat.word" 391 87 1 ["self"] (.str "echohouse.errors" 298) ++
 ([⟨.type "tuple", none,.seq #[.str "numbers" 398] 0,#[]⟩,
⟨.type "dict", none,.dict #[de P "__module__" 378 (.str "echohouse.errors" 298),de P "__firstlineno__" 382 (.int (82) 381),de P "__init__" 390 (.ref 147),de P "word" 397 (.ref 154),de P "__static_attributes__" 399 (.ref 155),de P "__doc__" 400 (.none)] 2,#[]⟩,
⟨.type "type", none,.cls ⟨"Flat", [.ref 92],[.ref 157,.ref 92,.type "ValueError", .type "Exception", .type "BaseException", .type "object"],156,"Flat", true,[],[],false,none,false⟩,#[some (.ref 134),none,some (.str "Flat" 371),some (.str "Flat" 379),some (.builtin "ValueError.__new__"),some (.bool true)]⟩,
⟨.type "super", none,.fields #[.ref 157,.ref 157,.ref 157],#[]⟩,
⟨.type "builtin_function_or_method", none,.fields #[.builtin "object.__init_subclass__", .ref 157],#[]⟩] ++
 (gA 160 (tp 19) "frac" "frac" 405 90 2 ["top","bottom","shared"] (.str "echohouse.fracs" 403) ++
 (gA 167 (tp 21) "shared_bottom" "shared_bottom" 416 100 1 ["row","low","top","bottom"] (.str "echohouse.tables" 414) ++
 (gB 174 (tp 22) "raised" "raised" 426 105 2 (.str "echohouse.tables" 414) ++
 (gB 179 (tp 23) "turned" "turned" 432 107 2 (.str "echohouse.tables" 414) ++
 (gB 184 (tp 25) "first_rows" "first_rows" 440 110 1 (.str "echohouse.solving" 438) ++
 (gB 189 (tp 26) "inverse" "inverse" 446 114 1 (.str "echohouse.solving" 438) ++
 (gA 194 (tp 27) "still" "still" 452 120 2 ["table","wide","found"] (.str "echohouse.solving" 438) ++
 (gB 201 (tp 28) "stills" "stills" 461 123 2 (.str "echohouse.solving" 438) ++
 (gB 206 (tp 29) "whole_rows" "whole_rows" 467 127 1 (.str "echohouse.solving" 438) ++
 (gB 211 (tp 30) "tracked" "tracked" 473 129 1 (.str "echohouse.solving" 438) ++
 (gA 216 (tp 31) "cleared_rows" "cleared_rows" 479 136 2 ["rows","wide","steps","kept","row","left","place"] (.str "echohouse.solving" 438) ++
 (gB 223 (tp 32) "cleared" "cleared" 492 145 2 (.str "echohouse.solving" 438) ++
 (gA 228 (tp 33) "first_place" "first_place" 498 152 2 ["row","wide","place"] (.str "echohouse.solving" 438) ++
 (gB 235 (tp 34) "kept_steps" "kept_steps" 507 157 1 (.str "echohouse.solving" 438) ++
 (gA 240 (tp 35) "last_step" "last_step" 513 159 1 ["kept","place","row"] (.str "echohouse.solving" 438) ++
 (gB 247 (tp 36) "brought" "brought" 522 164 3 (.str "echohouse.solving" 438) ++
 (gB 252 (tp 37) "shortened" "shortened" 528 171 1 (.str "echohouse.solving" 438) ++
 (gA 257 (tp 39) "_law_cell" "_law_cell" 536 177 2 ["_law_script","_law_k","_law_number"] (.str "law_echohouse_k13_inverse_or_flat" 534) ++
 (gA 264 (tp 40) "_law_mix" "_law_mix" 545 184 2 ["_law_cell_here","_law_k","_law_number"] (.str "law_echohouse_k13_inverse_or_flat" 534) ++
 (gA 271 (tp 41) "_law_same" "_law_same" 554 188 2 ["_law_found","_law_due","_law_one","_law_other"] (.str "law_echohouse_k13_inverse_or_flat" 534) ++
 (gA 278 (tp 42) "_law_digits" "_law_digits" 564 203 3 ["_law_number","_law_by","_law_many","_law_found","_law_k"] (.str "law_echohouse_k13_inverse_or_flat" 534) ++
 (gA 285 (tp 43) "_law_frac" "_law_frac" 575 209 2 ["_law_top","_law_bottom","_law_one","_law_other"] (.str "law_echohouse_k13_inverse_or_flat" 534) ++
 (gB 292 (tp 44) "_law_some" "_law_some" 585 217 2 (.str "law_echohouse_k13_inverse_or_flat" 534) ++
 (gA 297 (tp 45) "_law_add" "_law_add" 591 226 2 ["_law_one","_law_other"] (.str "law_echohouse_k13_inverse_or_flat" 534) ++
 (gA 304 (tp 46) "_law_times" "_law_times" 599 228 2 ["_law_one","_law_other"] (.str "law_echohouse_k13_inverse_or_flat" 534) ++
 (gA 311 (tp 47) "_law_weighed" "_law_weighed" 607 230 2 ["_law_one","_law_other","_law_total","_law_here","_law_there"] (.str "law_echohouse_k13_inverse_or_flat" 534) ++
 (gB 318 (tp 48) "_law_table" "_law_table" 618 235 3 (.str "law_echohouse_k13_inverse_or_flat" 534) ++
 (gB 323 (tp 49) "_law_bound" "_law_bound" 624 238 2 (.str "law_echohouse_k13_inverse_or_flat" 534) ++
 (gA 328 (tp 50) "_law_is_row" "_law_is_row" 630 247 2 ["_law_thing","_law_many","_law_number"] (.str "law_echohouse_k13_inverse_or_flat" 534) ++
 (gB 335 (tp 51) "_law_product" "_law_product" 639 254 2 (.str "law_echohouse_k13_inverse_or_flat" 534) ++
 (gB 340 (tp 52) "_law_unit" "_law_unit" 645 256 1 (.str "law_echohouse_k13_inverse_or_flat" 534) ++
 (gB 345 (tp 53) "_law_stills" "_law_stills" 651 258 3 (.str "law_echohouse_k13_inverse_or_flat" 534) ++
 (gA 350 (tp 54) "_law_turned" "_law_turned" 657 262 1 ["_law_table_here","_law_found","_law_caught","e"] (.str "law_echohouse_k13_inverse_or_flat" 534) ++
 (gB 357 (tp 55) "_law_inverse_right" "_law_inverse_right" 667 274 1 (.str "law_echohouse_k13_inverse_or_flat" 534) ++
 (gA 362 (tp 56) "_law_still_right" "_law_still_right" 673 290 2 ["_law_table_here","_law_wide","_law_numbers","_law_right"] (.str "law_echohouse_k13_inverse_or_flat" 534) ++
 (gB 369 (tp 57) "law" "law" 683 297 1 (.str "law_echohouse_k13_inverse_or_flat" 534)))))))))))))))))))))))))))))))))))))))))))))))))))))))))
def Nh (P:Params):PySem.W.BT:=Gk 12 ((((ob P).take 15).set 3 (o3 P 9 9 (.str "__main__" 164))).set 12 (LH 0))
def OA (P:Params):PySem.W.BT:=Gk 12 (((((ob P).take 96).set 3 (o3 P 22 22 (.str "echohouse.errors" 298))).set 12 (LH 10)).set 92 (⟨.type "type", none,.cls ⟨"EchoError", [.type "ValueError"],[.ref 92,.type "ValueError", .type "Exception", .type "BaseException", .type "object"],91,"EchoError", true,[],[],false,none,false⟩,#[some (.ref 76),none,some (.str "EchoError" 300),some (.str "EchoError" 308),some (.builtin "ValueError.__new__"),some (.bool true)]⟩))
def OB (P:Params):PySem.W.BT:=Gk 12 ((((ob P).take 160).set 3 (o3 P 25 25 (.str "echohouse.errors" 298))).set 12 (LH 13))
def OC (P:Params):PySem.W.BT:=Gk 12 ((((ob P).take 257).set 3 (o3 P 42 42 (.str "echohouse.solving" 438))).set 12 (LH 30))
def OD (P:Params):PySem.W.BT:=Gk 12 ((((ob P).take 362).set 3 (o3 P 59 59 (.str "law_echohouse_k13_inverse_or_flat" 534))).set 12 (LH 47))
def FP (P:Params):PySem.W.BT:=Gk 12 (((ob P).set 3 (o3 P 61 61 (.str "law_echohouse_k13_inverse_or_flat" 534))).set 12 (LH 49))
abbrev bd:List Stmt:=pg.main.body
def en:Env:={ scope:=pg.main.scope,locals:=mainNs,globals:=mainNs,cells:=[],code:=.ref 13,frame:=some 14 }
def cE:Code:=.body bd en
theorem h0 (P:Params):PySem.W.absHeap (Gk 12 (bol P)) 11 {}=PySem.W.boot_heap P:=by kernel_rfl
set_option maxHeartbeats 0 in
open PySem.W PySem.Calls in
theorem hp (w:World):(fun os:OsState=>M9 treeTable pg w 11 (some (.ref 6)) 12 ⟨Gk 12 (bol w.params),11,{},#[],boot_drawn,boot_toks,os⟩ (topStub pg))=fun os=>some ((⟨Nh w.params,15,{},#[],PySem.W.boot_drawn,187,os⟩:PySem.W.SharedT),⟨denote treeTable (.body bd en),cE,⟨0,0,0,0⟩,[topFrame ⟨0,0,0,0⟩]⟩):=by kernel_rfl
set_option maxHeartbeats 0 in
open PySem.W PySem.Calls in
theorem hq (w:World):(fun os:OsState=>segRunT treeTable pg w 11 (some (.ref 6)) 1 1 (⟨Nh w.params,15,{},#[],PySem.W.boot_drawn,187,os⟩:PySem.W.SharedT) (blockOf bd en cE ⟨0,0,0,0⟩ [topFrame ⟨0,0,0,0⟩]))=fun os=>some (.next,(⟨Nh w.params,15,{},#[],PySem.W.boot_drawn,187,os⟩:PySem.W.SharedT),cE,⟨0,0,0,0⟩):=by kernel_rfl
set_option maxHeartbeats 0 in
open PySem.W PySem.Calls in
theorem LC (w:World):(fun os:OsState=>segRunT treeTable pg w 11 (some (.ref 6)) 1 561 (⟨Nh w.params,15,{},#[],PySem.W.boot_drawn,187,os⟩:PySem.W.SharedT) (piecesOf ((bd.drop 0).take 15) en cE ⟨0,0,0,0⟩ [topFrame ⟨0,0,0,0⟩]))=fun os=>some (.next,(⟨OA w.params,96,{},#[],PySem.W.boot_drawn,325,os⟩:PySem.W.SharedT),cE,⟨70,0,73,16⟩):=by kernel_rfl
set_option maxHeartbeats 0 in
open PySem.W PySem.Calls in
theorem OQ (w:World):(fun os:OsState=>segRunT treeTable pg w 11 (some (.ref 6)) 1 763 (⟨OA w.params,96,{},#[],PySem.W.boot_drawn,325,os⟩:PySem.W.SharedT) (piecesOf ((bd.drop 15).take 3) en cE ⟨70,0,73,16⟩ [topFrame ⟨0,0,0,0⟩]))=fun os=>some (.next,(⟨OB w.params,160,{},#[],PySem.W.boot_drawn,403,os⟩:PySem.W.SharedT),cE,⟨82,0,88,16⟩):=by kernel_rfl
set_option maxHeartbeats 0 in
open PySem.W PySem.Calls in
theorem OR (w:World):(fun os:OsState=>segRunT treeTable pg w 11 (some (.ref 6)) 1 505 (⟨OB w.params,160,{},#[],PySem.W.boot_drawn,403,os⟩:PySem.W.SharedT) (piecesOf ((bd.drop 18).take 20) en cE ⟨82,0,88,16⟩ [topFrame ⟨0,0,0,0⟩]))=fun os=>some (.next,(⟨OC w.params,257,{},#[],PySem.W.boot_drawn,534,os⟩:PySem.W.SharedT),cE,⟨171,0,175,63⟩):=by kernel_rfl
set_option maxHeartbeats 0 in
open PySem.W PySem.Calls in
theorem OS (w:World):(fun os:OsState=>segRunT treeTable pg w 11 (some (.ref 6)) 1 507 (⟨OC w.params,257,{},#[],PySem.W.boot_drawn,534,os⟩:PySem.W.SharedT) (piecesOf ((bd.drop 38).take 18) en cE ⟨171,0,175,63⟩ [topFrame ⟨0,0,0,0⟩]))=fun os=>some (.next,(⟨OD w.params,362,{},#[],PySem.W.boot_drawn,673,os⟩:PySem.W.SharedT),cE,⟨274,0,289,96⟩):=by kernel_rfl
set_option maxHeartbeats 0 in
open PySem.W PySem.Calls in
theorem OT (w:World):(fun os:OsState=>segRunT treeTable pg w 11 (some (.ref 6)) 1 59 (⟨OD w.params,362,{},#[],PySem.W.boot_drawn,673,os⟩:PySem.W.SharedT) (piecesOf ((bd.drop 56).take 2) en cE ⟨274,0,289,96⟩ [topFrame ⟨0,0,0,0⟩]))=fun os=>some (.next,(⟨FP w.params,374,{},#[],PySem.W.boot_drawn,689,os⟩:PySem.W.SharedT),cE,⟨297,0,313,15⟩):=by kernel_rfl
set_option maxHeartbeats 0 in
open PySem.W PySem.Calls in
theorem hf (w:World):(fun os:OsState=>m9 treeTable pg w 11 (some (.ref 6)) 2 (⟨FP w.params,374,{},#[],PySem.W.boot_drawn,689,os⟩:PySem.W.SharedT) ⟨doneF .next,cE,⟨297,0,313,15⟩,[topFrame ⟨0,0,0,0⟩]⟩)=fun os=>some (⟨FP w.params,374,{},#[],PySem.W.boot_drawn,689,os⟩:PySem.W.SharedT):=by kernel_rfl
theorem hb:bd=((bd.drop 0).take 15)++(((bd.drop 15).take 3)++(((bd.drop 18).take 20)++(((bd.drop 38).take 18)++(((bd.drop 56).take 2)++[])))):=by kernel_rfl
open PySem.W PySem.Calls in
theorem hr (w:World)(os:OsState):topRun treeTable pg w 11 (some (.ref 6)) (12+(1+(561+(763+(505+(507+(59+2))))))) ⟨boot_heap w.params,Array.mk [],boot_drawn,boot_toks,os⟩ (topStub pg)=some ⟨absHeap (FP w.params) 374 {},Array.mk [],boot_drawn,689,os⟩:=by
 have e0:=Em (congrFun (hp w) os)
 unfold SharedT.abs at e0
 dsimp only at e0
 rw [h0] at e0
 refine go_top e0 (piece_block (segRun_of (congrFun (hq w) os)) ?_)
 have ef:=tP (congrFun (hf w) os)
 unfold SharedT.abs at ef
 rw [hb]
 refine piece_app (segRun_of (congrFun (LC w) os)) ?_
 refine piece_app (segRun_of (congrFun (OQ w) os)) ?_
 refine piece_app (segRun_of (congrFun (OR w) os)) ?_
 refine piece_app (segRun_of (congrFun (OS w) os)) ?_
 refine piece_app (segRun_of (congrFun (OT w) os)) ?_
 exact piece_nil ef
set_option maxHeartbeats 0 in
open PySem.W PySem.Calls in
theorem OU (w:World):(fun os:OsState=>staticsOk (importedModules pg.main.body) (boot_heap w.params) (absHeap (FP w.params) 374 {})&&namesBound pg (absHeap (FP w.params) 374 {})&&gensDone ⟨absHeap (FP w.params) 374 {},Array.mk [],boot_drawn,689,os⟩&&laidKept (boot_heap w.params) (absHeap (FP w.params) 374 {}))=fun _=>true:=by kernel_rfl
set_option maxHeartbeats 0 in
open PySem.W PySem.Calls in
theorem Oq (w:World):(fun os:OsState=>(openSeen qv [] (importedModules pg.main.body) xt true ⟨absHeap (FP w.params) 374 {},Array.mk [],boot_drawn,689,os⟩).1)=fun _=>(openGood qv []).1:=by kernel_rfl
set_option maxHeartbeats 0 in
open PySem.W PySem.Calls in
theorem OV (w:World):(fun os:OsState=>(openSeen qv [] (importedModules pg.main.body) xt true ⟨absHeap (FP w.params) 374 {},Array.mk [],boot_drawn,689,os⟩).2)=fun _=>(openGood qv []).2:=by kernel_rfl
set_option maxHeartbeats 0 in
open PySem.W PySem.Calls in
theorem OW (w:World):(fun os:OsState=>hk.obs ⟨absHeap (FP w.params) 374 {},Array.mk [],boot_drawn,689,os⟩)=fun _=>hk.val w:=by kernel_rfl
theorem hl:PySem.W.LeftO lw.row.prog qv [] xt hk.obs hk.val 4906:=Mr (p:=pg) (by kernel_rfl) (by kernel_rfl) (fun _=>by kernel_rfl) (fun _=>by kernel_rfl) hr (by kernel_rfl) OU Oq OV OW
theorem ws:lw.wellSaid=true:=by kernel_rfl
end My
namespace L2
open PySem PySem.Spec PyProof.Rows
abbrev Key:=Sum Int Str
def IY:Key->Value->Bool
 | .inl k,v=>Value.isInt k v
 | .inr x,v=>Value.isStrOf x v
def NJ (w:World):Key->Int
 | .inl k=>hashInt k
 | .inr x=>hashStr w x
theorem cP:∀{k:Key} {v:Value},IY k v=true->(∃i t,k=Sum.inl i/\v=Value.int i t)\/(∃x t,k=Sum.inr x/\v=Value.str x t)
 | .inl i,v,h=>by
  obtain⟨t,e⟩:=Value.isInt_shape (k:=i) (v:=v) h
  exact .inl ⟨i,t,rfl,e⟩
 | .inr x,v,h=>by
  obtain⟨t,e⟩:=Value.isStrOf_shape (x:=x) (v:=v) h
  exact .inr ⟨x,t,rfl,e⟩
theorem Kj (a b:Int):decide ((Sum.inl a:Key)=Sum.inl b)=(a == b):=by
 by_cases e:a=b
 ·subst e;simp
 ·have h:¬ (Sum.inl a:Key)=Sum.inl b:=fun q=>e (Sum.inl.inj q)
  rw [decide_eq_false h]
  exact (beq_eq_false_iff_ne.mpr e).symm
theorem Km (a b:Str):decide ((Sum.inr a:Key)=Sum.inr b)=decide (a=b):=by
 by_cases e:a=b
 ·subst e;simp
 ·have h:¬ (Sum.inr a:Key)=Sum.inr b:=fun q=>e (Sum.inr.inj q)
  rw [decide_eq_false h,decide_eq_false e]
theorem Kk (a:Int)(b:Str):decide ((Sum.inl a:Key)=Sum.inr b)=false:=decide_eq_false (fun q=>nomatch q)
theorem Kl (a:Str)(b:Int):decide ((Sum.inr a:Key)=Sum.inl b)=false:=decide_eq_false (fun q=>nomatch q)
def vg (prog:Program)(w:World):PySem.KeyKind prog w Key where
 is:=IY
 hash:=NJ w
 inj:=fun v a b ha hb=>by
  rcases cP ha with ⟨i,t,rfl,rfl⟩ | ⟨x,t,rfl,rfl⟩
  ·rcases cP hb with ⟨j,u,rfl,e⟩ | ⟨y,u,rfl,e⟩
   ·injection e with e1 _;rw [e1]
   ·exact nomatch e
  ·rcases cP hb with ⟨j,u,rfl,e⟩ | ⟨y,u,rfl,e⟩
   ·exact nomatch e
   ·injection e with e1 _;rw [e1]
 byValue:=fun k v h=>by
  rcases cP h with ⟨i,t,rfl,rfl⟩ | ⟨x,t,rfl,rfl⟩<;>rfl
 pyHash:=fun hv h=>by
  rcases cP hv with ⟨i,t,rfl,rfl⟩ | ⟨x,t,rfl,rfl⟩
  ·exact wpAny_pyHash_int h
  ·exact wpAny_pyHash_str h
 eqBool:=fun hu hv h=>by
  rcases cP hu with ⟨i,t,rfl,rfl⟩ | ⟨x,t,rfl,rfl⟩
  ·rcases cP hv with ⟨j,u,rfl,rfl⟩ | ⟨y,u,rfl,rfl⟩
   ·rw [Kj] at h;exact wpAny_eqBool_int h
   ·rw [Kk] at h;exact SeqAt.EqAt.int_str i t y u _ _ _ _ h
  ·rcases cP hv with ⟨j,u,rfl,rfl⟩ | ⟨y,u,rfl,rfl⟩
   ·rw [Kl] at h;exact SeqAt.EqAt.str_int x t j u _ _ _ _ h
   ·rw [Km] at h;exact wpAny_eqBool_str h
 «strs»:=fun k x t v h=>by
  rcases cP h with ⟨i,u,rfl,e⟩ | ⟨y,u,rfl,e⟩
  ·exact nomatch e
  ·injection e with e1 _
   subst e1
   cases v<;>rfl
inductive V where
 |non | bl (b:Bool) | int (i:Int) | str (x:Str) | byt (b:Array UInt8) | flt (b:UInt64) | ref (a:Addr) | ty (n:String)
 deriving DecidableEq
def RelV:V->Value->Prop
 | .non,u=>u=Value.none
 | .bl b,u=>u=Value.bool b
 | .int i,u=>∃t,u=Value.int i t
 | .str x,u=>∃t,u=Value.str x t
 | .byt b,u=>∃t,u=Value.bytes b t
 | .flt b,u=>∃t,u=Value.float b t
 | .ref a,u=>u=Value.ref a
 | .ty n,u=>u=Value.type n
abbrev Vals:List V->List Value->Prop:=Paired RelV
theorem Vals.length {xs:List V}{us:List Value}(r:Vals xs us):xs.length=us.length:=Paired.length r
theorem Vals.get:∀{xs:List V} {us:List Value} {i:Nat} {x:V},Vals xs us->xs[i]? = some x->∃u,us[i]? = some u/\RelV x u
 |_,_,_,_,.nil,e=>by simp at e
 |_,_,0,_,.cons r _,e=>by simp at e;subst e;exact⟨_,rfl,r⟩
 |_,_,i+1,x,.cons _ t,e=>by
  obtain⟨u,h1,h2⟩:=Vals.get (i:=i) (x:=x) t (by simpa using e)
  exact⟨u,by simpa using h1,h2⟩
theorem Vals.set {x:V}{u:Value}(r:RelV x u):∀{xs:List V} {us:List Value} (i:Nat),Vals xs us->Vals (xs.set i x) (us.set i u)
 |_,_,_,.nil=>.nil
 |_,_,0,.cons _ t=>.cons r t
 |_,_,i+1,.cons q t=>.cons q (Vals.set r i t)
theorem Vals.append:∀{xs ys:List V} {us ws:List Value},Vals xs us->Vals ys ws->Vals (xs++ys) (us++ws)
 |_,_,_,_,.nil,s=>s
 |_,_,_,_,.cons r t,s=>.cons r (Vals.append t s)
theorem Vals.take:∀{xs:List V} {us:List Value} (n:Nat),Vals xs us->Vals (xs.take n) (us.take n)
 |_,_,0,_=>.nil
 |_,_,_+1,.nil=>.nil
 |_,_,n+1,.cons r t=>.cons r (Vals.take n t)
theorem Vals.drop:∀{xs:List V} {us:List Value} (n:Nat),Vals xs us->Vals (xs.drop n) (us.drop n)
 |_,_,0,r=>r
 |_,_,_+1,.nil=>.nil
 |_,_,n+1,.cons _ t=>Vals.drop n t
def LQ:Option V->Option Value->Prop
 |some v,some u=>RelV v u
 |none,none=>True
 |_,_=>False
def KV {κ:Type}:List (κ×V)->List (κ×Value)->Prop:=Paired fun (p:κ×V) (q:κ×Value)=>p.1=q.1/\RelV p.2 q.2
def kV:Key->V
 | .inl i=>.int i
 | .inr x=>.str x
inductive HO where
  |lst (xs:List V)
  |tup (xs:List V)
  |dK (kvs:List (Key×V)) | dT (kvs:List (List Key×V))
  |set (S:Int->Bool) (n:Nat)
  |ins (C dx:Addr) (fs:List (Str×V))
  |own (x:Addr)
  |xd (fs:List (Str×V))
  |met (f x:Addr)
  |rng (lo hi:Int)
  |frz (o:Obj) (u:HO)
  |tbl (ps:Array Value)
  |ext (φ:Heap->Prop)
abbrev Hp:=Addr->Option HO
def upd (H:Hp)(a:Addr)(o:HO):Hp:=fun b=>if b=a then some o else H b
theorem aJ {H:Hp}{a:Addr}{o:HO}:upd H a o a=some o:=by unfold upd;rw [if_pos rfl]
theorem au {H:Hp}{a b:Addr}{o:HO}(h:b≠a):upd H a o b=H b:=by unfold upd;rw [if_neg h]
theorem bp {H:Hp}{a b:Addr}{o:HO}(h:H a=some o)(h':H b=none):a≠b:=by
 intro e;subst e;rw [h] at h';cases h'
section
variable (P:Program)(w:World)
def dN (H:Hp)(h:Heap)(a:Addr):HO->Prop
 | .lst xs=>xs.length≤sizeLine/\∃(its:List Value) (n:Nat),Vals xs its/\h.get? a=some { cls:=.type "list", data:=.seq its.toArray n }
 | .tup xs=>xs.length≤sizeLine/\∃its:List Value,Vals xs its/\IsTup h a its.toArray
 | .dK kvs=>kvs.length≤sizeLine/\(a == sysModules)=false/\∃vs,KV kvs vs/\h.DictOf (vg P w) a vs
 | .dT kvs=>kvs.length≤sizeLine/\(a == sysModules)=false/\∃xs:List (List Key×Addr×Value),
   Paired (fun (p:List Key×V) (q:List Key×Addr×Value)=>p.1=q.1/\H q.2.1=some (.tup (p.1.map kV))/\RelV p.2 q.2.2) kvs xs /\
   ∃o es ep,h.get? a=some o/\o.ExactDict/\o.data=.dict es ep/\es.toList=xs.map (entryOfKey (tupleKind (vg P w)))/\(xs.map (·.1)).Nodup
 | .set S n=>h.SetOf (intKind P w) a S n
 | .ins C dx fs=>H dx=some (.own a)/\fs.length≤1000/\dx≠a/\h.get? a=some (PySem.W.instObj C dx) /\
   ∃mA,h.Ns1 dx mA/\(∀f,LQ (fs.lookup f) (mA f))/\PySem.Within mA (fs.map (·.1))
 | .own _=>∃o,h.get? a=some o
 | .xd fs=>∃mA,h.Ns1 a mA/\∀f,LQ (fs.lookup f) (mA f)
 | .rng lo hi=>∃t u v,h.get? a=some { cls:=.type "range", data:=.fields #[.int lo t,.int hi u,.int 1 v] }
 | .frz o u=>h.get? a=some o/\dN H h a u
 | .tbl ps=>h.get? a=some { cls:=.none,data:=.fields ps }
 | .met f x=>h.get? a=some (PySem.W.methodObj (.ref f) (.ref x))
 | .ext φ=>φ h/\(∃o,h.get? a=some o)/\∀h1 h2:Heap,φ h1->(∀o,h1.get? a=some o->h2.get? a=some o)->φ h2
def oi (H:Hp)(h:Heap):Prop:=∀a o,H a=some o->dN P w H h a o
end
section
variable {P:Program}{w:World}{H H':Hp}{h h':Heap}{a:Addr}{o:HO}
theorem dN.lt (x:dN P w H h a o):a<h.objs.size:=by
 cases o with
 |lst xs=>obtain⟨_,_,_,_,e⟩:=x;exact Heap.lt_size e
 |tup xs=>obtain⟨_,_,_,p⟩:=x;exact p.lt
 |dK kvs=>obtain⟨_,_,_,_,o,_,_,e,_⟩:=x;exact Heap.lt_size e
 |dT kvs=>obtain⟨_,_,_,_,o,_,_,e,_⟩:=x;exact Heap.lt_size e
 |set S n=>obtain⟨o,_,_,_,e,_⟩:=x;exact Heap.lt_size e
 |ins C dx fs=>obtain⟨_,_,_,e,_⟩:=x;exact Heap.lt_size e
 |own y=>obtain⟨_,e⟩:=x;exact Heap.lt_size e
 |xd fs=>obtain⟨_,⟨_,_,_,e,_⟩,_⟩:=x;exact Heap.lt_size e
 |rng lo hi=>obtain⟨_,_,_,e⟩:=x;exact Heap.lt_size e
 |frz ob u=>obtain⟨e,_⟩:=x;exact Heap.lt_size e
 |tbl ps=>exact Heap.lt_size (show h.get? a=some _ from x)
 |met f y=>exact Heap.lt_size (show h.get? a=some _ from x)
 |ext φ=>obtain⟨_,⟨_,e⟩,_⟩:=x;exact Heap.lt_size e
theorem Paired.mapP {α β:Type}{F G:α->β->Prop}:∀{l₁:List α} {l₂:List β},Paired F l₁ l₂->(∀a b,F a b->G a b)->Paired G l₁ l₂
 |_,_,.nil,_=>.nil
 |_,_,.cons r t,f=>.cons (f _ _ r) (Paired.mapP t f)
theorem dN.stay (x:dN P w H h a o)(k:∀b u,(b=a\/H b=some (.own a))->h.get? b=some u->h'.get? b=some u)
  (ho:∀b,H b=some (.own a)->H' b=some (.own a)) (ht:∀b xs,H b=some (.tup xs)->H' b=some (.tup xs)):dN P w H' h' a o:=by
 induction o with
 |lst xs=>obtain⟨z,its,n,r,e⟩:=x;exact⟨z,its,n,r,k _ _ (.inl rfl) e⟩
 |tup xs=>obtain⟨z,its,r,ob,e,c⟩:=x;exact⟨z,its,r,ob,k _ _ (.inl rfl) e,c⟩
 |dK kvs=>obtain⟨z,y,vs,r,ob,es,ep,e,c⟩:=x;exact⟨z,y,vs,r,ob,es,ep,k _ _ (.inl rfl) e,c⟩
 |dT kvs =>
  obtain⟨z,y,xs,r,ob,es,ep,e,c⟩:=x
  exact⟨z,y,xs,Paired.mapP r fun p q z=>⟨z.1,ht _ _ z.2.1,z.2.2⟩,ob,es,ep,k _ _ (.inl rfl) e,c⟩
 |set S n=>obtain⟨ob,es,ep,t,e,c⟩:=x;exact⟨ob,es,ep,t,k _ _ (.inl rfl) e,c⟩
 |ins C dx fs =>
  obtain⟨d,z,ne,e,mA,⟨od,es,ep,e2,c⟩,r⟩:=x
  exact⟨ho _ d,z,ne,k _ _ (.inl rfl) e,mA,⟨od,es,ep,k _ _ (.inr d) e2,c⟩,r⟩
 |own y=>obtain⟨ob,e⟩:=x;exact⟨ob,k _ _ (.inl rfl) e⟩
 |xd fs=>obtain⟨mA,⟨od,es,ep,e,c⟩,r⟩:=x;exact⟨mA,⟨od,es,ep,k _ _ (.inl rfl) e,c⟩,r⟩
 |rng lo hi=>obtain⟨t,u,v,e⟩:=x;exact⟨t,u,v,k _ _ (.inl rfl) e⟩
 |frz ob u ih=>obtain⟨e,q⟩:=x;exact⟨k _ _ (.inl rfl) e,ih q⟩
 |tbl ps =>
  have e:h.get? a=some { cls:=.none,data:=.fields ps }:=x
  show h'.get? a=some { cls:=.none,data:=.fields ps }
  exact k a _ (.inl rfl) e
 |met f y =>
  have e:h.get? a=some (PySem.W.methodObj (.ref f) (.ref y)):=x
  show h'.get? a=some (PySem.W.methodObj (.ref f) (.ref y))
  exact k a _ (.inl rfl) e
 |ext φ=>obtain⟨p,⟨o,e⟩,st⟩:=x;exact⟨st _ _ p fun o q=>k _ _ (.inl rfl) q,⟨o,k _ _ (.inl rfl) e⟩,st⟩
theorem oi.lt (x:oi P w H h)(e:H a=some o):a<h.objs.size:=(x a o e).lt
theorem oi.fresh (x:oi P w H h)(e:h.objs.size≤a):H a=none:=by
 cases q:H a with
 |none=>rfl
 |some u=>exact absurd (Nat.lt_of_lt_of_le (x.lt q) e) (Nat.lt_irrefl _)
theorem oi.kept (x:oi P w H h)(k:∀b u,h.get? b=some u->h'.get? b=some u):oi P w H h':=fun a o e =>
 (x a o e).stay (fun b u _ q=>k b u q) (fun _ q=>q) fun _ _ q=>q
theorem oi.laid (x:oi P w H h)(k:∀b u,h.get? b=some u->h'.get? b=some u)(hp:h.objs.size≤a)(new:dN P w (upd H a o) h' a o):oi P w (upd H a o) h':=fun b u e=>by
 have hn:=x.fresh hp
 by_cases hb:b=a
 ·subst hb;rw [aJ] at e;cases e;exact new
 ·rw [au hb] at e
  exact (x b u e).stay (fun c v _ q=>k c v q) (fun c q=>by rw [au (bp q hn)];exact q) fun c xs q=>by rw [au (bp q hn)];exact q
end
def Rd (H:Hp)(a:Addr)(u:HO):Prop:=H a=some u\/∃o,H a=some (.frz o u)
theorem Rd.ok {P:Program}{w:World}{H:Hp}{h:Heap}{a:Addr}{u:HO}(r:Rd H a u)(x:oi P w H h):dN P w H h a u:=by
 rcases r with r | ⟨o,r⟩
 ·exact x a u r
 ·obtain⟨_,q⟩:=x a _ r
  exact q
def M5:Option HO->Prop
 |some (.lst _)=>True
 |some (.dK _)=>True
 |some (.dT _)=>True
 |some (.set _ _)=>True
 |some (.ins _ _ _)=>True
 |some (.ext _)=>True
 |_=>False
section
variable {P:Program}{w:World}{H:Hp}{h h':Heap}{x e:Addr}{o':HO}
theorem oi.write (ok:oi P w H h)(mu:M5 (H x))(he:e=x\/H e=some (.own x))(k:∀b u,b≠e->h.get? b=some u->h'.get? b=some u)(heo:∃u,h'.get? e=some u)
  (new:dN P w (upd H x o') h' x o'):oi P w (upd H x o') h':=fun b u q=>by
 have nown:∀c y,H c=some (.own y)->c≠x:=fun c y r z=>by subst z;rw [r] at mu;exact mu
 have ntup:∀c xs,H c=some (.tup xs)->c≠x:=fun c xs r z=>by subst z;rw [r] at mu;exact mu
 by_cases hb:b=x
 ·subst hb;rw [aJ] at q;cases q;exact new
 ·rw [au hb] at q
  by_cases hbe:b=e
  ·have q':H b=some (.own x):=by
    rcases he with z | z
    ·exact absurd (hbe.trans z) hb
    ·rw [hbe];exact z
   rw [q] at q';cases q'
   obtain⟨v,hv⟩:=heo
   exact⟨v,by rw [hbe];exact hv⟩
  ·refine (ok b u q).stay (fun c v hc r=>k c v ?_ r) (fun c r=>by rw [au (nown c b r)];exact r) fun c xs r=>by rw [au (ntup c xs r)];exact r
   rcases hc with rfl | hc
   ·exact hbe
   ·rintro rfl
    rcases he with z | z
    ·exact nown c b hc z
    ·rw [hc] at z;cases z;exact hb rfl
end
structure Un (fs ex:List Addr)(H H':Hp)(h h':Heap):Prop where
 keep:∀b o,h.get? b=some o->H b=none->b∉fs->b∉ex->h'.get? b=some o
 slot:∀b o,h.get? b=some o->H b=none->b∈fs->b∉ex->∃sl,h'.get? b=some { o with slots:=sl }
 free:∀b o,h.get? b=some o->H b=none->b∉ex->H' b=none
 there:∀b o,h.get? b=some o->b∉ex->∃o',h'.get? b=some o'
 tups:∀b xs,H b=some (.tup xs)->H' b=some (.tup xs)
 frzs:∀b o u,H b=some (.frz o u)->H' b=some (.frz o u)
 tbls:∀b ps,H b=some (.tbl ps)->∃more,H' b=some (.tbl (ps++more))
section
variable {fs fs' ex ex':List Addr}{H H1 H2:Hp}{h h1 h2 h':Heap}{a x e:Addr}{o:HO}
theorem Un.any (u:Un fs ex H H1 h h1){b:Addr}{ob:Obj}(q:h.get? b=some ob)(n:H b=none)(hx:b∉ex):∃sl,h1.get? b=some { ob with slots:=sl }:=by
 by_cases hb:b∈fs
 ·exact u.slot b ob q n hb hx
 ·exact⟨ob.slots,u.keep b ob q n hb hx⟩
theorem Un.kept (k:∀b u,h.get? b=some u->h'.get? b=some u):Un fs ex H H h h':=
 ⟨fun b ob q _ _ _=>k b ob q,fun b ob q _ _ _=>⟨ob.slots,k b ob q⟩,fun _ _ _ n _=>n,fun b ob q _=>⟨ob,k b ob q⟩,fun _ _ q=>q,fun _ _ _ q=>q,fun _ ps q=>⟨#[],by rw [q];simp⟩⟩
theorem Un.refl:Un fs ex H H h h:=Un.kept fun _ _ q=>q
theorem Un.laid (k:∀b u,h.get? b=some u->h'.get? b=some u)(hp:h.objs.size≤a)(hn:H a=none):Un fs ex H (upd H a o) h h' where
 keep:=fun b u q _ _ _=>k b u q
 slot:=fun b u q _ _ _=>⟨u.slots,k b u q⟩
 free:=fun b u q n _=>by rw [au (Nat.ne_of_lt (Nat.lt_of_lt_of_le (Heap.lt_size q) hp))];exact n
 there:=fun b u q _=>⟨u,k b u q⟩
 tups:=fun b xs q=>by rw [au (bp q hn)];exact q
 frzs:=fun b u xs q=>by rw [au (bp q hn)];exact q
 tbls:=fun b ps q=>⟨#[],by rw [au (bp q hn),q];simp⟩
theorem Un.write (mu:M5 (H x))(he:e=x\/H e=some (.own x))(k:∀b u,b≠e->h.get? b=some u->h'.get? b=some u)(heo:∃u,h'.get? e=some u):Un fs ex H (upd H x o) h h':=by
 have hx:∀b,H b=none->b≠x:=fun b n z=>by subst z;rw [n] at mu;exact mu
 have hb:∀b,H b=none->b≠e:=fun b n z=>by
  subst z
  rcases he with r | r
  ·exact hx b n r
  ·rw [n] at r;cases r
 have hm:∀b u,H b=some u->¬ M5 (some u)->b≠x:=fun b u q nm z=>by subst z;rw [q] at mu;exact nm mu
 refine⟨fun b u q n _ _=>k b u (hb b n) q,fun b u q n _ _=>⟨u.slots,k b u (hb b n) q⟩,fun b u q n _=>by rw [au (hx b n)];exact n,fun b u q _=>?_,
  fun b xs q=>by rw [au (hm b _ q fun z=>z)];exact q,fun b u xs q=>by rw [au (hm b _ q fun z=>z)];exact q,fun b ps q=>⟨#[],by rw [au (hm b _ q fun z=>z),q];simp⟩⟩
 by_cases hbe:b=e
 ·subst hbe;exact heo
 ·exact⟨u,k b u hbe q⟩
end
def dA (h:Heap)(H:Hp):List Addr:=(List.range h.objs.size).filter fun a=>(H a).isSome
def uG (h:Heap)(H:Hp):Heap:=PySem.W.hideAll h (dA h H)
theorem CC (h:Heap)(H:Hp):(uG h H).objs.size=h.objs.size:=PySem.W.hideAll_size _ _
theorem Eo {h:Heap}{H:Hp}{b:Addr}{o:Obj}(e:h.get? b=some o)(n:H b=none):(uG h H).get? b=some o:=
 PySem.W.hideAll_get _ e fun hm=>by
  have q:(H b).isSome=true:=(List.mem_filter.mp hm).2
  rw [n] at q;simp at q
theorem Hz {h:Heap}{H:Hp}{b:Addr}{o:Obj}(e:(uG h H).get? b=some o):h.get? b=some o/\H b=none:=by
 have e':h.get? b=some o:=PySem.W.of_hideAll (dA h H) e
 refine⟨e',?_⟩
 cases q:H b with
 |none=>rfl
 |some x =>
  have hm:b∈dA h H:=List.mem_filter.mpr ⟨List.mem_range.mpr (Heap.lt_size e'),by simp [q]⟩
  have z:(uG h H).get? b=none:=PySem.W.hideAll_none (dA h H) hm
  rw [z] at e;cases e
structure Mod (K:PySem.W.Frag)(mg:Str->Option Value)(base:Heap):Prop where
 kin:K.In base
 glob:base.Ns mainGlobals mg
 blt:∃mb,base.Ns builtinsNs mb/\∀x:Str,x≠"__name__"->mb x=bootBuiltins x
 nolimit:base.NoLimit
structure Cx where
 prog:Program
 w:World
 K:PySem.W.Frag
 mg:Str->Option Value
 base:Heap
 A:Around
 N:List Str
 Y8:Shared
 Y9:Hp
 env:Env
 outer:List Env
 stack:List Env
 ex:List Addr
 fn:Str->Bool
 calm:Bool
 pn:List (Addr×Obj)
 xe:Value->Shared->Prop
def nG (l:List Env):List Addr:=l.filterMap (·.frame)
abbrev Cx.fs (X:Cx):List Addr:=nG X.outer
def Ly (sc:Scope)(x:Str):Prop:=sc.names.lookup x=some .local\/sc.names.lookup x=some .cell\/sc.names.lookup x=some .free
def Loc (sc:Scope)(x:Str):Prop:=sc.names.lookup x=some .local\/sc.names.lookup x=some .cell
def Look (env:Env)(h:Heap)(m:Str->Option Value)(x:Str)(u:Value):Prop:=
 (env.kindOf x=some .local/\m x=some u)\/((env.kindOf x=some .cell\/env.kindOf x=some .free)/\∃c,env.cells.lookup x=some c/\h.IsCell c (some u))
structure Cx.Ok (X:Cx):Prop where
 mod:Mod X.K X.mg X.base
 kind:X.env.scope.kind=.function
 glob:X.env.globals=mainGlobals
 blt:X.env.builtins=builtinsNs
 above:X.Y8.heap.objs.size≤X.env.locals
 inj:∀x y c,X.env.cells.lookup x=some c->X.env.cells.lookup y=some c->x=y
 has:∀x,(X.env.kindOf x=some .cell\/X.env.kindOf x=some .free)->∃c,X.env.cells.lookup x=some c
 cab:∀x c,X.fn x=true->X.env.cells.lookup x=some c->X.Y8.heap.objs.size≤c
 hd:X.calm=true->X.A.handled=none
 frames:X.A.frames=some X.stack
 stk:X.stack=X.outer\/(X.stack=X.env::X.outer/\X.env.frame=some X.env.locals)
 exf:∀b∈X.ex,b≠X.env.locals/\∀x c,X.env.cells.lookup x=some c->c≠b
 bs:∀b o,X.base.get? b=some o->X.Y8.heap.get? b=some o/\X.Y9 b=none
 bsz:X.base.objs.size≤X.Y8.heap.objs.size
 noex:∀b o,X.base.get? b=some o->b∉X.ex
 exfs:∀b∈X.ex,b∉X.fs
 funs:X.Y8.heap.FunFrames X.base X.outer
 frf:∀b∈X.fs,X.Y9 b=none
structure Inv (X:Cx)(pins:List (Addr×Obj))(σ:List (Option V))(H:Hp)(s:Shared):Prop where
 ok:X.Ok
 os:s.os=X.Y8.os
 bare:AllBare s.gens
 base:Un X.fs X.ex X.Y9 H X.Y8.heap s.heap
 loc:∃m,s.heap.Ns X.env.locals m/\∀(i:Nat) (x:Str) (v:V),X.N[i]? = some x->σ[i]? = some (some v)->Ly X.env.scope x->∃u,RelV v u/\Look X.env s.heap m x u
 cell:∀x c,X.env.cells.lookup x=some c->∃v,s.heap.IsCell c v
 free:H X.env.locals=none
 freeC:∀x c,X.env.cells.lookup x=some c->H c=none
 pin:∀p∈X.pn++pins,s.heap.get? p.1=some p.2/\H p.1=none/\p.1≠X.env.locals/\p.1∉X.fs/\∀v,p.2.data≠.cell v
 hok:oi X.prog X.w H s.heap
 len:σ.length=X.N.length
section
variable {X:Cx}{pins:List (Addr×Obj)}{σ:List (Option V)}{H H':Hp}{s:Shared}{h':Heap}
theorem Cx.Ok.nofr (ok:X.Ok){b:Addr}{o:Obj}(e:X.base.get? b=some o):b∉X.fs:=fun hb=>by
 have:=(ok.funs.mem hb).1
 rw [e] at this;cases this
theorem Inv.bs (I:Inv X pins σ H s):∀b o,X.base.get? b=some o->s.heap.get? b=some o/\H b=none:=fun b o e =>
 ⟨I.base.keep b o (I.ok.bs b o e).1 (I.ok.bs b o e).2 (I.ok.nofr e) (I.ok.noex b o e),I.base.free b o (I.ok.bs b o e).1 (I.ok.bs b o e).2 (I.ok.noex b o e)⟩
theorem Inv.bk (I:Inv X pins σ H s):∀b o,X.base.get? b=some o->s.heap.get? b=some o:=fun b o e=>(I.bs b o e).1
theorem Inv.mod (I:Inv X pins σ H s):Mod X.K X.mg X.base:=I.ok.mod
theorem Inv.kIn (I:Inv X pins σ H s):X.K.In s.heap:=I.ok.mod.kin.keeps I.bk
theorem Inv.lt (I:Inv X pins σ H s):X.env.locals<s.heap.objs.size:=let ⟨_,hn,_⟩:=I.loc;hn.lt
theorem Inv.sz (I:Inv X pins σ H s):X.Y8.heap.objs.size≤s.heap.objs.size:=Nat.le_trans I.ok.above (Nat.le_of_lt I.lt)
theorem Inv.nofs (I:Inv X pins σ H s){a:Addr}(h:s.heap.objs.size≤a):a∉X.fs:=fun hb=>by
 obtain⟨_,o,ho,_⟩:=I.ok.funs.mem hb
 exact absurd (Nat.lt_of_lt_of_le (Heap.lt_size ho) (Nat.le_trans I.sz h)) (Nat.lt_irrefl _)
theorem Inv.cne (I:Inv X pins σ H s):∀x c,X.env.cells.lookup x=some c->c≠X.env.locals:=fun x c e z=>by
 obtain⟨v,o,ho,hd⟩:=I.cell x c e
 obtain⟨m,⟨o',es,ep,ho',hd',_⟩,_⟩:=I.loc
 rw [z,ho'] at ho;cases ho;rw [hd'] at hd;cases hd
theorem Inv.funs (I:Inv X pins σ H s):s.heap.FunFrames X.base X.outer:=by
 have all:∀(l:List Env),(∀b∈nG l,b∈X.fs)->X.Y8.heap.FunFrames X.base l->s.heap.FunFrames X.base l:=by
  intro l
  induction l with
  |nil=>intro _ _;trivial
  |cons env r ih =>
   intro hs hl
   obtain⟨hk,⟨L,o,hf,hn,ho,hd⟩,hr⟩:=hl
   have hL:L∈X.fs:=hs L (by unfold nG;rw [List.filterMap_cons,hf];exact List.mem_cons_self)
   obtain⟨sl,e⟩:=I.base.slot L o ho (I.ok.frf L hL) hL fun z=>I.ok.exfs L z hL
   exact⟨hk,⟨L,_,hf,hn,e,hd⟩,ih (fun b hb=>hs b (by unfold nG;rw [List.filterMap_cons,hf];exact List.mem_cons_of_mem _ hb)) hr⟩
 exact all X.outer (fun _ hb=>hb) I.ok.funs
theorem Inv.stack (I:Inv X pins σ H s):s.heap.FunFrames X.base X.stack:=by
 rcases I.ok.stk with e | ⟨e,hf⟩
 ·rw [e];exact I.funs
 ·rw [e]
  obtain⟨m,hn,_⟩:=I.loc
  refine .cons (by rw [I.ok.kind];decide) hf hn ?_ I.funs
  exact Heap.get?_none_of_le (Nat.le_trans I.ok.bsz I.ok.above)
theorem Inv.stkSub (I:Inv X pins σ H s):∀b∈nG X.stack,b∈X.env.locals::X.fs:=fun b hb=>by
 rcases I.ok.stk with e | ⟨e,hf⟩
 ·rw [e] at hb;exact List.mem_cons_of_mem _ hb
 ·rw [e] at hb
  unfold nG at hb
  rw [List.filterMap_cons,hf] at hb
  exact hb
theorem Inv.stkFree (I:Inv X pins σ H s):∀b∈nG X.stack,H b=none:=fun b hb=>by
 rcases List.mem_cons.mp (I.stkSub b hb) with e | hb
 ·rw [e];exact I.free
 ·obtain⟨_,o,ho,_⟩:=I.ok.funs.mem hb
  exact I.base.free b o ho (I.ok.frf b hb) fun z=>I.ok.exfs b z hb
theorem Inv.step {g':Array GenState}{t':Nat}{d':Drawn}{ch:List Addr}(I:Inv X pins σ H s)
  (hch:∀b∈ch,(b∈X.ex\/X.Y8.heap.objs.size≤b)/\b≠X.env.locals/\(∀x c,X.env.cells.lookup x=some c->c≠b)/\∀p∈X.pn++pins,p.1≠b)
  (keep:∀b o,b≠X.env.locals->b∉X.fs->b∉ch->s.heap.get? b=some o->H b=none->h'.get? b=some o)
  (slot:∀b o,b≠X.env.locals->b∈X.fs->b∉ch->s.heap.get? b=some o->H b=none->∃sl,h'.get? b=some { o with slots:=sl }) (free:∀b o,b∉ch->s.heap.get? b=some o->H b=none->H' b=none)
  (there:∀b o,b∉ch->s.heap.get? b=some o->∃o',h'.get? b=some o')
  (tups:∀b xs,H b=some (.tup xs)->H' b=some (.tup xs)) (frzs:∀b o u,H b=some (.frz o u)->H' b=some (.frz o u)) (tbls:∀b ps,H b=some (.tbl ps)->∃more,H' b=some (.tbl (ps++more)))
  (ns:∀m,s.heap.Ns X.env.locals m->h'.Ns X.env.locals m) (hok:oi X.prog X.w H' h') (hg:AllBare g'):
  Inv X pins σ H' { s with heap:=h',gens:=g',drawn:=d',toks:=t' }:=by
 have neL:∀b o,X.Y8.heap.get? b=some o->b≠X.env.locals:=fun b o e=>Nat.ne_of_lt (Nat.lt_of_lt_of_le (Heap.lt_size e) I.ok.above)
 have neC:∀b o,X.Y8.heap.get? b=some o->b∉X.ex->b∉ch:=fun b o e hx hb=>by
  rcases (hch b hb).1 with z | z
  ·exact hx z
  ·exact absurd (Nat.lt_of_lt_of_le (Heap.lt_size e) z) (Nat.lt_irrefl _)
 have cellK:∀x c,X.env.cells.lookup x=some c->∀v,s.heap.IsCell c v->h'.IsCell c v:=fun x c e v hq__=>by
  obtain⟨o,ho,hd⟩:=hq__
  have nch:c∉ch:=fun z=>(hch c z).2.2.1 x c e rfl
  by_cases hc:c∈X.fs
  ·obtain⟨sl,q⟩:=slot c o (I.cne x c e) hc nch ho (I.freeC x c e)
   exact⟨_,q,hd⟩
  ·exact⟨o,keep c o (I.cne x c e) hc nch ho (I.freeC x c e),hd⟩
 refine⟨I.ok,I.os,hg,⟨fun b o e n hb hx=>?_,fun b o e n hb hx=>?_,fun b o e n hx=>?_,fun b o e hx=>?_,fun b xs e=>tups b xs (I.base.tups b xs e),fun b o xs e=>frzs b o xs (I.base.frzs b o xs e),fun b ps e=>?_⟩,?_,fun x c e=>?_,?_,fun x c e=>?_,fun p hp=>?_,hok,I.len⟩
 ·exact keep b o (neL b o e) hb (neC b o e hx) (I.base.keep b o e n hb hx) (I.base.free b o e n hx)
 ·obtain⟨sl,e1⟩:=I.base.slot b o e n hb hx
  obtain⟨sl',e2⟩:=slot b _ (neL b o e) hb (neC b o e hx) e1 (I.base.free b o e n hx)
  exact⟨sl',e2⟩
 ·obtain⟨o',e1⟩:=I.base.there b o e hx
  exact free b o' (neC b o e hx) e1 (I.base.free b o e n hx)
 ·obtain⟨o',e1⟩:=I.base.there b o e hx
  exact there b o' (neC b o e hx) e1
 ·obtain⟨m1,e1⟩:=I.base.tbls b ps e
  obtain⟨m2,e2⟩:=tbls b _ e1
  exact⟨m1++m2,by rw [e2,Array.append_assoc]⟩
 ·obtain⟨m,hn,hl⟩:=I.loc
  refine⟨m,ns m hn,fun i x v e1 e2 e3=>?_⟩
  obtain⟨u,r,l⟩:=hl i x v e1 e2 e3
  refine⟨u,r,?_⟩
  rcases l with l | ⟨k,c,e,z⟩
  ·exact .inl l
  ·exact .inr ⟨k,c,e,cellK x c e _ z⟩
 ·obtain⟨v,z⟩:=I.cell x c e
  exact⟨v,cellK x c e v z⟩
 ·obtain⟨m,⟨o,_,_,ho,_⟩,_⟩:=I.loc
  exact free _ o (fun z=>(hch _ z).2.1 rfl) ho I.free
 ·obtain⟨v,o,ho,hd⟩:=I.cell x c e
  exact free c o (fun z=>(hch c z).2.2.1 x c e rfl) ho (I.freeC x c e)
 ·obtain⟨e,n,ne,nf,d⟩:=I.pin p hp
  have nch:p.1∉ch:=fun z=>(hch p.1 z).2.2.2 p hp rfl
  exact⟨keep p.1 p.2 ne nf nch e n,free p.1 p.2 nch e n,ne,nf,d⟩
theorem Inv.un {t':Nat}(I:Inv X pins σ H s)(u:Un X.fs [] H H' s.heap h')(hok:oi X.prog X.w H' h'):Inv X pins σ H' { s with heap:=h',toks:=t' }:=by
 obtain⟨m,⟨o,es,ep,ho,r⟩,_⟩:=id I.loc
 obtain⟨sl,hL⟩:=u.any ho I.free (by simp)
 exact I.step (g':=s.gens) (d':=s.drawn) (ch:=[]) (fun _ z=>nomatch z) (fun b o _ hb _ e n=>u.keep b o e n hb (by simp)) (fun b o _ hb _ e n=>u.slot b o e n hb (by simp)) (fun b o _ e n=>u.free b o e n (by simp)) (fun b o _ e=>u.there b o e (by simp)) u.tups u.frzs u.tbls (fun m' hm=>by
  obtain⟨o',es',ep',ho',r'⟩:=hm
  rw [ho] at ho';cases ho'
  exact⟨_,es',ep',hL,r'⟩) hok I.bare
theorem Inv.call {g':Array GenState}{t':Nat}{d':Drawn}{ch:List Addr}(I:Inv X pins σ H s)(u:Un (nG X.stack) ch H H' s.heap h')(hok:oi X.prog X.w H' h')(hg:AllBare g')
  (hch:∀b∈ch,(b∈X.ex\/X.Y8.heap.objs.size≤b)/\b≠X.env.locals/\(∀x c,X.env.cells.lookup x=some c->c≠b)/\∀p∈X.pn++pins,p.1≠b):
  Inv X pins σ H' { s with heap:=h',gens:=g',drawn:=d',toks:=t' }:=by
 obtain⟨m,⟨o,es,ep,ho,r⟩,_⟩:=id I.loc
 obtain⟨sl,hL⟩:=u.any ho I.free fun z=>(hch _ z).2.1 rfl
 exact I.step (ch:=ch) hch (fun b o hL hb hc e n=>u.keep b o e n (fun z=>(List.mem_cons.mp (I.stkSub b z)).elim hL hb) hc) (fun b o _ _ hc e n=>u.any e n hc) (fun b o hc e n=>u.free b o e n hc) (fun b o hc e=>u.there b o e hc) u.tups u.frzs u.tbls (fun m' hm=>by
  obtain⟨o',es',ep',ho',r'⟩:=hm
  rw [ho] at ho';cases ho'
  exact⟨_,es',ep',hL,r'⟩) hok hg
theorem Inv.turned {t':Nat}{it:Addr}(I:Inv X pins σ H s)(k:∀b o,b≠it->s.heap.get? b=some o->h'.get? b=some o)(hn:H it=none)(hL:it≠X.env.locals)
  (h1:it∈X.ex\/X.Y8.heap.objs.size≤it) (h2:∀x c,X.env.cells.lookup x=some c->c≠it) (h3:∀p∈X.pn++pins,p.1≠it):Inv X pins σ H { s with heap:=h',toks:=t' }:=by
 have nit:∀b u,H b=some u->b≠it:=fun b u e z=>by rw [z,hn] at e;cases e
 refine I.step (g':=s.gens) (d':=s.drawn) (ch:=[it]) (fun b hb=>?_) (fun b o _ _ hc e _=>k b o (fun z=>hc (by simp [z])) e) (fun b o _ _ hc e _=>⟨o.slots,k b o (fun z=>hc (by simp [z])) e⟩) (fun _ _ _ _ n=>n)
  (fun b o hc e=>⟨o,k b o (fun z=>hc (by simp [z])) e⟩) (fun _ _ e=>e) (fun _ _ _ e=>e) (fun b ps e=>⟨#[],by rw [e];simp⟩) (fun m hm=>?_) (fun b u e=>?_) I.bare
 ·have e:b=it:=by simpa using hb
  subst e
  exact⟨h1,hL,h2,h3⟩
 ·obtain⟨o,es,ep,ho,r⟩:=hm
  exact⟨o,es,ep,k _ o (Ne.symm hL) ho,r⟩
 ·refine (I.hok b u e).stay (fun c v hc q=>k c v ?_ q) (fun _ q=>q) fun _ _ q=>q
  rcases hc with z | z
  ·rw [z];exact nit b u e
  ·exact nit c _ z
theorem Inv.tok (I:Inv X pins σ H s)(t:Nat):Inv X pins σ H { s with toks:=t }:=I.un (h':=s.heap) (t':=t) Un.refl I.hok
theorem Inv.kept {t':Nat}(I:Inv X pins σ H s)(k:∀b u,s.heap.get? b=some u->h'.get? b=some u):Inv X pins σ H { s with heap:=h',toks:=t' }:=I.un (Un.kept k) (I.hok.kept k)
theorem Inv.laid {a:Addr}{o:HO}{t':Nat}(I:Inv X pins σ H s)(k:∀b u,s.heap.get? b=some u->h'.get? b=some u)(hp:s.heap.objs.size≤a)(new:dN X.prog X.w (upd H a o) h' a o):
  Inv X pins σ (upd H a o) { s with heap:=h',toks:=t' }:=I.un (Un.laid k hp (I.hok.fresh hp)) (I.hok.laid k hp new)
theorem Inv.write {x e:Addr}{o:HO}{t':Nat}(I:Inv X pins σ H s)(mu:M5 (H x))(he:e=x\/H e=some (.own x))(k:∀b u,b≠e->s.heap.get? b=some u->h'.get? b=some u)(heo:∃u,h'.get? e=some u)
  (new:dN X.prog X.w (upd H x o) h' x o):Inv X pins σ (upd H x o) { s with heap:=h',toks:=t' }:=I.un (Un.write mu he k heo) (I.hok.write mu he k heo new)
theorem Inv.pins_of {pins':List (Addr×Obj)}(I:Inv X pins σ H s)(h:∀p∈pins',s.heap.get? p.1=some p.2/\H p.1=none/\p.1≠X.env.locals/\p.1∉X.fs/\∀v,p.2.data≠.cell v):Inv X pins' σ H s:=
 ⟨I.ok,I.os,I.bare,I.base,I.loc,I.cell,I.free,I.freeC,fun p hp=>(List.mem_append.mp hp).elim (fun z=>I.pin p (List.mem_append_left _ z)) (h p),I.hok,I.len⟩
theorem xC {N:List Str}(hN:N.Nodup){i j:Nat}{x:Str}(a:N[i]? = some x)(b:N[j]? = some x):i=j:=by
 obtain⟨h1,e1⟩:=List.getElem?_eq_some_iff.mp a
 obtain⟨h2,e2⟩:=List.getElem?_eq_some_iff.mp b
 exact (List.getElem_inj hN).mp (e1.trans e2.symm)
theorem tN {M:Model}{A:Around}{E:Value->Shared->Prop}{i:Nat}{x:Str}{v:V}{u:Value}{Q:Unit->Shared->Prop}(I:Inv X pins σ H s)(hN:X.N.Nodup)(hi:X.N[i]? = some x)(hx:Loc X.env.scope x)(r:RelV v u)
  (h:∀s',Inv X pins (σ.set i (some v)) H s'->(∃a,Heap.SameBut a s.heap s'.heap/\(a=X.env.locals\/X.env.cells.lookup x=some a))->Q () s') (hf:X.fn x=true\/X.env.scope.names.lookup x=some .local:=by first | exact .inl rfl | exact .inr rfl | assumption):wpAny M A (storeName X.env x u) Q E s:=by
 obtain⟨m,hn,hl⟩:=id I.loc
 have hcls:(X.env.scope.kind == .class||(X.env.scope.kind == .module&&X.env.locals != X.env.globals))=false:=by rw [I.ok.kind];rfl
 have hiσ:i<σ.length:=by rw [I.len];exact (List.getElem?_eq_some_iff.mp hi).1
 have cne:=I.cne
 have tracked:∀{a:Addr} {h':Heap},(∃o,s.heap.get? a=some o/\H a=none)->Heap.SameBut a s.heap h'->oi X.prog X.w H h':=fun {a h'} ha hs b ob e=>by
  obtain⟨_,_,hfree⟩:=ha
  refine (I.hok b ob e).stay (fun c w' hc q=>(hs.2 c ?_).trans q) (fun _ q=>q) fun _ _ q=>q
  rintro rfl
  rcases hc with rfl | hc
  ·rw [hfree] at e;cases e
  ·rw [hfree] at hc;cases hc
 rcases hx with hk | hk
 ·refine wpAny_storeName_local hk hn (fun h' hn' hs=>?_) hcls
  obtain⟨oL,_,_,hoL,_⟩:=id hn
  refine h _ ⟨I.ok,I.os,I.bare,⟨fun b o e n hb hx=>?_,fun b o e n hb hx=>?_,I.base.free,fun b o e hx=>?_,I.base.tups,I.base.frzs,I.base.tbls⟩,⟨_,hn',fun j y v' e1 e2 e3=>?_⟩,fun y c e=>?_,I.free,I.freeC,fun p hp=>?_,tracked ⟨oL,hoL,I.free⟩ hs,by simpa using I.len⟩ ⟨_,hs,.inl rfl⟩
  ·exact (hs.2 b (Nat.ne_of_lt (Nat.lt_of_lt_of_le (Heap.lt_size e) I.ok.above))).trans (I.base.keep b o e n hb hx)
  ·obtain⟨sl,e1⟩:=I.base.slot b o e n hb hx
   exact⟨sl,(hs.2 b (Nat.ne_of_lt (Nat.lt_of_lt_of_le (Heap.lt_size e) I.ok.above))).trans e1⟩
  ·obtain⟨o',e1⟩:=I.base.there b o e hx
   exact⟨o',(hs.2 b (Nat.ne_of_lt (Nat.lt_of_lt_of_le (Heap.lt_size e) I.ok.above))).trans e1⟩
  ·by_cases hj:j=i
   ·subst hj
    rw [hi] at e1;cases e1
    rw [List.getElem?_set_self hiσ] at e2
    cases e2
    exact⟨u,r,.inl ⟨hk,by simp⟩⟩
   ·rw [List.getElem?_set_ne (Ne.symm hj)] at e2
    obtain⟨u',r',q⟩:=hl j y v' e1 e2 e3
    refine⟨u',r',?_⟩
    rcases q with ⟨k,e⟩ | ⟨k,c,e,z⟩
    ·refine .inl ⟨k,?_⟩
     have:y≠x:=fun e=>hj (xC hN e1 (e ▸ hi))
     simp [this,e]
    ·exact .inr ⟨k,c,e,z.sameBut hs (cne y c e)⟩
  ·obtain⟨w',z⟩:=I.cell y c e
   exact⟨w',z.sameBut hs (cne y c e)⟩
  ·obtain⟨e,n,ne,nf,d⟩:=I.pin p hp
   exact⟨(hs.2 p.1 ne).trans e,n,ne,nf,d⟩
 ·have hfn:X.fn x=true:=by
   rcases hf with z | z
   ·exact z
   ·rw [z] at hk;cases hk
  obtain⟨c,hc⟩:=I.ok.has x (.inl hk)
  obtain⟨w',z⟩:=I.cell x c hc
  refine wpAny_storeName_cell I.ok.kind hk hc z (fun h' hc' hs=>?_)
  obtain⟨oc,hoc,hocd⟩:=id z
  refine h { s with heap:=h' } ⟨I.ok,I.os,I.bare,⟨fun b o e n hb hx=>?_,fun b o e n hb hx=>?_,I.base.free,fun b o e hx=>?_,I.base.tups,I.base.frzs,I.base.tbls⟩,⟨m,hn.sameBut hs (Ne.symm (cne x c hc)),fun j y v' e1 e2 e3=>?_⟩,fun y c' e=>?_,I.free,I.freeC,fun p hp=>?_,tracked ⟨oc,hoc,I.freeC x c hc⟩ hs,by simpa using I.len⟩ ⟨c,hs,.inr hc⟩
  ·exact (hs.2 b (Nat.ne_of_lt (Nat.lt_of_lt_of_le (Heap.lt_size e) (I.ok.cab x c hfn hc)))).trans (I.base.keep b o e n hb hx)
  ·obtain⟨sl,e1⟩:=I.base.slot b o e n hb hx
   exact⟨sl,(hs.2 b (Nat.ne_of_lt (Nat.lt_of_lt_of_le (Heap.lt_size e) (I.ok.cab x c hfn hc)))).trans e1⟩
  ·obtain⟨o',e1⟩:=I.base.there b o e hx
   exact⟨o',(hs.2 b (Nat.ne_of_lt (Nat.lt_of_lt_of_le (Heap.lt_size e) (I.ok.cab x c hfn hc)))).trans e1⟩
  ·by_cases hj:j=i
   ·subst hj
    rw [hi] at e1;cases e1
    rw [List.getElem?_set_self hiσ] at e2
    cases e2
    exact⟨u,r,.inr ⟨.inl hk,c,hc,hc'⟩⟩
   ·rw [List.getElem?_set_ne (Ne.symm hj)] at e2
    obtain⟨u',r',q⟩:=hl j y v' e1 e2 e3
    refine⟨u',r',?_⟩
    rcases q with q | ⟨k,c',e,z'⟩
    ·exact .inl q
    ·refine .inr ⟨k,c',e,z'.sameBut hs ?_⟩
     rintro rfl
     exact hj (xC hN e1 (I.ok.inj _ _ _ e hc ▸ hi))
  ·by_cases hcc:c'=c
   ·subst hcc;exact⟨_,hc'⟩
   ·obtain⟨w2,z2⟩:=I.cell y c' e
    exact⟨w2,z2.sameBut hs hcc⟩
  ·obtain⟨e,n,ne,nf,d⟩:=I.pin p hp
   refine⟨(hs.2 p.1 ?_).trans e,n,ne,nf,d⟩
   intro q
   rw [q,hoc] at e
   have q':oc=p.2:=Option.some.inj e
   exact d w' (by rw [<- q'];exact hocd)
theorem kF {M:Model}{A:Around}{E:Value->Shared->Prop}{i:Nat}{x:Str}{v:V}{u:Value}{Q:Unit->Shared->Prop}(I:Inv X pins σ H s)(hN:X.N.Nodup)(hi:X.N[i]? = some x)(hx:Loc X.env.scope x)(r:RelV v u)
  (h:∀s',Inv X pins (σ.set i (some v)) H s'->Q () s') (hf:X.fn x=true\/X.env.scope.names.lookup x=some .local:=by first | exact .inl rfl | exact .inr rfl | assumption):wpAny M A (storeName X.env x u) Q E s:=
 tN I hN hi hx r (fun s' I' _=>h s' I') hf
theorem Inv.call' {s':Shared}{ch:List Addr}(I:Inv X pins σ H s)(ho:s'.os=s.os)(u:Un (nG X.stack) ch H H' s.heap s'.heap)(hok:oi X.prog X.w H' s'.heap)(hg:AllBare s'.gens)
  (hch:∀b∈ch,(b∈X.ex\/X.Y8.heap.objs.size≤b)/\b≠X.env.locals/\(∀x c,X.env.cells.lookup x=some c->c≠b)/\∀p∈X.pn++pins,p.1≠b):Inv X pins σ H' s':=by
 obtain⟨h',g',d',t',o'⟩:=s'
 have e:o'=s.os:=ho
 subst e
 exact I.call (g':=g') (t':=t') (d':=d') u hok hg hch
end
abbrev XK:=Value->Option Addr->Hp->Prop
abbrev St:=List (Option V)
abbrev VK:=V->Hp->Prop
abbrev TE:=St->Hp->VK->Prop
abbrev TT:=St->Hp->(Bool->Hp->Prop)->Prop
abbrev TA:=St->Hp->(List V->Hp->Prop)->Prop
structure Ends where
 nx:St->Hp->Prop
 rt:VK
 bk:St->Hp->Prop:=fun _ _=>False
 ct:St->Hp->Prop:=fun _ _=>False
abbrev TS:=Ends->St->Hp->Prop
def EP (X:Cx)(pins:List (Addr×Obj))(σ:St)(Q:VK)(u:Value)(s':Shared):Prop:=∃v H',Inv X pins σ H' s'/\RelV v u/\Q v H'
def TP (X:Cx)(pins:List (Addr×Obj))(σ:St)(Q:Bool->Hp->Prop)(b:Bool)(s':Shared):Prop:=∃H',Inv X pins σ H' s'/\Q b H'
def AP (X:Cx)(pins:List (Addr×Obj))(σ:St)(Q:List V->Hp->Prop)(us:List Value)(s':Shared):Prop:=∃vs H',Inv X pins σ H' s'/\Vals vs us/\Q vs H'
def SP (X:Cx)(pins:List (Addr×Obj))(D:Ends)(f:Flow)(s':Shared):Prop:=
 match f with
 | .next=>∃σ' H',Inv X pins σ' H' s'/\D.nx σ' H'
 | .brk=>∃σ' H',Inv X pins σ' H' s'/\D.bk σ' H'
 | .cont=>∃σ' H',Inv X pins σ' H' s'/\D.ct σ' H'
 | .ret u=>∃v σ' H',Inv X pins σ' H' s'/\RelV v u/\D.rt v H'
def PE (X:Cx)(e:Expr)(t:TE):Prop:=
 ∀(pins:List (Addr×Obj)) (s:Shared) (σ:St) (H:Hp) (Q:VK),Inv X pins σ H s->t σ H Q->wpAny (model X.prog X.w) X.A (eval e X.env) (EP X pins σ Q) X.xe s
def PT (X:Cx)(e:Expr)(t:TT):Prop:=
 ∀(pins:List (Addr×Obj)) (s:Shared) (σ:St) (H:Hp) (Q:Bool->Hp->Prop),Inv X pins σ H s->t σ H Q->wpAny (model X.prog X.w) X.A (isTrue e X.env (eval e X.env)) (TP X pins σ Q) X.xe s
def PW (X:Cx)(e:Expr)(t:TT):Prop:=
 ∀(whole:Sem Value) (pins:List (Addr×Obj)) (s:Shared) (σ:St) (H:Hp) (Q:Bool->Hp->Prop),Inv X pins σ H s->t σ H Q->wpAny (model X.prog X.w) X.A (isTrue e X.env whole) (TP X pins σ Q) X.xe s
theorem PW.pt {X:Cx}{e:Expr}{t:TT}(h:PW X e t):PT X e t:=h _
def PA (X:Cx)(es:List Expr)(t:TA):Prop:=
 ∀(pos:Pos) (pins:List (Addr×Obj)) (s:Shared) (σ:St) (H:Hp) (Q:List V->Hp->Prop),Inv X pins σ H s->t σ H Q->wpAny (model X.prog X.w) X.A (spliced (backTo pos (starEach es X.env))) (AP X pins σ Q) X.xe s
def PS (X:Cx)(st:Stmt)(t:TS):Prop:=
 ∀(pins:List (Addr×Obj)) (s:Shared) (σ:St) (H:Hp) (D:Ends),Inv X pins σ H s->t D σ H->wpAny (model X.prog X.w) X.A (exec st X.env) (SP X pins D) X.xe s
def kX (X:Cx)(st:List Stmt)(t:TS):Prop:=
 ∀(pins:List (Addr×Obj)) (s:Shared) (σ:St) (H:Hp) (D:Ends),Inv X pins σ H s->t D σ H->wpAny (model X.prog X.w) X.A (execs st X.env) (SP X pins D) X.xe s
theorem eC {α:Type}{t:Sem α}{Q Q':α->Shared->Prop}{M:Model}{A:Around}{E:Value->Shared->Prop}{s:Shared}(h:wpAny M A t Q E s)(hQ:∀a s,Q a s->Q' a s):wpAny M A t Q' E s:=wpAny_mono h hQ fun _ _ x=>x
section
variable {X:Cx}
def jS (i:Nat):TE:=fun σ H Q=>∃v,σ[i]? = some (some v)/\Q v H
def tC (v:V):TE:=fun _ H Q=>Q v H
theorem KN {i:Nat}{x:Str}{pos:Pos}(hN:X.N[i]? = some x)(hv:Ly X.env.scope x)(hd:(x == ("__debug__" : Str))=false:=by decide)(hcd:(x == ("__classdict__" : Str))=false:=by decide):PE X (.Name x pos) (jS i):=by
 intro pins s σ H Q I h
 obtain⟨v,e,h⟩:=h
 obtain⟨m,hn,hl⟩:=I.loc
 obtain⟨u,r,l⟩:=hl i x v hN e hv
 have fin:EP X pins σ Q u s:=⟨v,H,I,r,h⟩
 rcases l with ⟨hk,hm⟩ | ⟨hk,c,hc,hcell⟩
 ·exact wpAny_Name (wpAny_loadName_local I.ok.kind hk hn hm fin) hd
 ·rcases hk with hk | hk
  ·exact wpAny_Name (wpAny_loadName_cell I.ok.kind hk hc hcell fin) hd
  ·exact wpAny_Name (wpAny_loadName_free I.ok.kind hk hc hcell fin hcd) hd
theorem Ff {i j pos}:PE X (.Constant (.int i) j pos) (tC (.int i)):=fun _ _ _ H _ I h=>wpAny_Constant_int ⟨.int i,H,I.tok _,⟨_,rfl⟩,h⟩
theorem MB {b j pos}:PE X (.Constant (.bool b) j pos) (tC (.bl b)):=fun _ _ _ H _ I h=>Constant_bool ⟨.bl b,H,I,rfl,h⟩
theorem vx {j pos}:PE X (.Constant .none j pos) (tC .non):=fun _ _ _ H _ I h=>Constant_none ⟨.non,H,I,rfl,h⟩
def Gl (X:Cx)(x:Str):Prop:=X.env.kindOf x=some .globalImplicit
theorem kN {E:Value->Shared->Prop}{pins:List (Addr×Obj)}{s:Shared}{σ:St}{H:Hp}{x:Str}{u:Value}{pos:Pos}{Q:Value->Shared->Prop}(I:Inv X pins σ H s)(hg:Gl X x)(hm:X.mg x=some u)(h:Q u s)
  (hd:(x == ("__debug__" : Str))=false:=by decide):wpAny (model X.prog X.w) X.A (eval (.Name x pos) X.env) Q E s:=
 Calls.Name_function_global I.ok.kind hg (Calls.loadGlobal_global (by rw [I.ok.glob];exact I.mod.glob.keeps I.bk) hm h) hd
theorem ki {E:Value->Shared->Prop}{pins:List (Addr×Obj)}{s:Shared}{σ:St}{H:Hp}{x:Str}{u:Value}{pos:Pos}{Q:Value->Shared->Prop}(I:Inv X pins σ H s)(hg:Gl X x)(hm:X.mg x=none)(hv:bootBuiltins x=some u)(h:Q u s)
  (hn:x≠"__name__" := by decide) (hd:(x == ("__debug__" : Str))=false:=by decide):wpAny (model X.prog X.w) X.A (eval (.Name x pos) X.env) Q E s:=by
 obtain⟨mb,h1,h2⟩:=I.mod.blt
 exact Calls.Name_function_global I.ok.kind hg (Calls.loadGlobal_builtin (by rw [I.ok.glob];exact I.mod.glob.keeps I.bk) hm (by rw [I.ok.blt];exact h1.keeps I.bk) ((h2 x hn).trans hv) h) hd
theorem vw {x:Str}{v:V}{u:Value}{pos:Pos}(hg:Gl X x)(hm:X.mg x=some u)(r:RelV v u)(hd:(x == ("__debug__" : Str))=false:=by decide):PE X (.Name x pos) (tC v):=
 fun _ _ _ H _ I h=>kN I hg hm ⟨v,H,I,r,h⟩ hd
theorem HF {x:Str}{v:V}{u:Value}{pos:Pos}(hg:Gl X x)(hm:X.mg x=none)(hv:bootBuiltins x=some u)(r:RelV v u)(hn:x≠"__name__" := by decide)(hd:(x == ("__debug__" : Str))=false:=by decide):PE X (.Name x pos) (tC v):=
 fun _ _ _ H _ I h=>ki I hg hm hv ⟨v,H,I,r,h⟩ hn hd
variable {a b:Expr}{ta tb:TE}{pos:Pos}
variable {tA tB':TT}{rest:List Expr}
def NX (t u:TT):TT:=fun σ H Q=>t σ H fun c H1=>if c=true then u σ H1 Q else Q false H1
def Pa (t u:TT):TT:=fun σ H Q=>t σ H fun c H1=>if c=true then Q true H1 else u σ H1 Q
def N3 (t:TT):TT:=fun σ H Q=>t σ H fun c H1=>Q (!c) H1
theorem HN (ha:PT X a tA):PW X (.BoolOp .And [a] pos) tA:=by
 intro wh pins s σ H Q I h
 refine isTrue_and (eC (ha pins s σ H Q I h) fun c s1 e=>?_)
 cases c with
 |true=>exact isTrue_and_nil e
 |false=>exact e
theorem KW (ha:PT X a tA):PW X (.BoolOp .Or [a] pos) tA:=by
 intro wh pins s σ H Q I h
 refine isTrue_or (eC (ha pins s σ H Q I h) fun c s1 e=>?_)
 cases c with
 |false=>exact isTrue_or_nil e
 |true=>exact e
theorem KU (ha:PT X a tA)(hb:PW X (.BoolOp .And (b::rest) pos) tB'):PW X (.BoolOp .And (a::b::rest) pos) (NX tA tB'):=by
 intro wh pins s σ H Q I h
 refine isTrue_and (eC (ha pins s σ H _ I h) fun c s1 ⟨H1,I1,q1⟩=>?_)
 cases c with
 |true=>exact hb wh pins s1 σ H1 Q I1 q1
 |false=>exact⟨H1,I1,q1⟩
theorem ME (ha:PT X a tA)(hb:PW X (.BoolOp .Or (b::rest) pos) tB'):PW X (.BoolOp .Or (a::b::rest) pos) (Pa tA tB'):=by
 intro wh pins s σ H Q I h
 refine isTrue_or (eC (ha pins s σ H _ I h) fun c s1 ⟨H1,I1,q1⟩=>?_)
 cases c with
 |true=>exact⟨H1,I1,q1⟩
 |false=>exact hb wh pins s1 σ H1 Q I1 q1
theorem KS (ha:PT X a tA):PT X (.UnaryOp .Not a pos) (N3 tA):=by
 intro pins s σ H Q I h
 exact isTrue_not (ha pins s σ H (fun c H1=>Q (!c) H1) I h)
def MQ (ta tb:TE):TE:=fun σ H Q=>ta σ H fun x H1=>∃c,x=.bl c/\if c=true then tb σ H1 Q else Q (.bl false) H1
theorem KJ {op}{t:TE}(h:PE X a t):PE X (.BoolOp op [a] pos) t:=fun pins s σ H Q I hw=>BoolOp_one (h pins s σ H Q I hw)
theorem KI (ha:PE X a ta)(hb:PE X (.BoolOp .And (b::rest) pos) tb):PE X (.BoolOp .And (a::b::rest) pos) (MQ ta tb):=by
 intro pins s σ H Q I h
 refine BoolOp_and (eC (ha pins s σ H _ I h) fun v s1 ⟨x,H1,I1,r1,q1⟩=>?_)
 obtain⟨c,rfl,q1⟩:=q1
 cases r1
 refine wpAny_truthy_bool ?_
 cases c with
 |true=>exact hb pins s1 σ H1 Q I1 q1
 |false=>exact⟨.bl false,H1,I1,rfl,q1⟩
def O9 (t:TT)(ta tb:TE):TE:=fun σ H Q=>t σ H fun c H1=>if c=true then ta σ H1 Q else tb σ H1 Q
theorem xI {c:Expr}(hc:PT X c tA)(ha:PE X a ta)(hb:PE X b tb):PE X (.IfExp c a b pos) (O9 tA ta tb):=by
 intro pins s σ H Q I h
 refine wpAny_IfExp (eC (hc pins s σ H _ I h) fun d s1 ⟨H1,I1,q1⟩=>?_)
 cases d with
 |true=>exact ha pins s1 σ H1 Q I1 q1
 |false=>exact hb pins s1 σ H1 Q I1 q1
end
def dO (K:PySem.W.Frag)(H:Hp)(a:Addr)(xs:List V):Prop:=
 Rd H a (.lst xs) \/
  ∃(o:Obj) (its:Array Value) (n:Nat),K.lookup a=some o/\o.cls=.type "list"/\o.dict=none/\o.data=.seq its n/\its.size≤sizeLine/\Vals xs its.toList
def ly (K:PySem.W.Frag)(H:Hp)(a:Addr)(xs:List V):Prop:=
 Rd H a (.tup xs) \/
  ∃(o:Obj) (its:Array Value) (n:Nat),K.lookup a=some o/\o.cls=.type "tuple"/\o.data=.seq its n/\its.size≤sizeLine/\Vals xs its.toList
def Nw:Value->Option V
 | .none=>some .non
 | .bool b=>some (.bl b)
 | .int i _=>some (.int i)
 | .str x _=>some (.str x)
 | .bytes b _=>some (.byt b)
 | .float b _=>some (.flt b)
 | .ref a=>some (.ref a)
 | .type n=>some (.ty n)
 |_=>none
theorem RelV.abs {x:V}{u:Value}(r:RelV x u):Nw u=some x:=by
 cases x with
 |non=>cases r;rfl
 |bl _=>cases r;rfl
 |int _=>obtain⟨t,rfl⟩:=r;rfl
 |str _=>obtain⟨t,rfl⟩:=r;rfl
 |byt _=>obtain⟨t,rfl⟩:=r;rfl
 |flt _=>obtain⟨t,rfl⟩:=r;rfl
 |ref _=>cases r;rfl
 |ty _=>cases r;rfl
theorem RelV.inj {x y:V}{u:Value}(r:RelV x u)(q:RelV y u):x=y:=Option.some.inj (r.abs.symm.trans q.abs)
theorem Vals.inj:∀{xs ys:List V} {us:List Value},Vals xs us->Vals ys us->xs=ys
 |_,_,_,.nil,.nil=>rfl
 |_,_,_,.cons r t,.cons r' t'=>by rw [r.inj r',Vals.inj t t']
section
variable {X:Cx}{pins:List (Addr×Obj)}{σ:St}{H:Hp}{s:Shared}{a:Addr}{xs ys:List V}
theorem dO.of {K:PySem.W.Frag}(h:H a=some (.lst xs)):dO K H a xs:=.inl (.inl h)
theorem ly.of {K:PySem.W.Frag}(h:H a=some (.tup xs)):ly K H a xs:=.inl (.inl h)
theorem Inv.list (I:Inv X pins σ H s)(h:dO X.K H a xs):∃its:List Value,Vals xs its/\PlainL s.heap a its.toArray/\xs.length≤sizeLine:=by
 rcases h with h | ⟨o,its,n,hk,hc,hd,hs,hz,r⟩
 ·obtain⟨z,its,n,r,e⟩:=h.ok I.hok
  exact⟨its,r,⟨_,n,e,rfl,rfl,rfl⟩,z⟩
 ·refine⟨its.toList,r,⟨o,n,I.kIn a o hk,hc,hd,by simpa using hs⟩,?_⟩
  have e:=r.length
  simp only [Array.length_toList] at e
  omega
theorem Inv.tuple (I:Inv X pins σ H s)(h:ly X.K H a xs):∃its:List Value,Vals xs its/\IsTup s.heap a its.toArray/\xs.length≤sizeLine:=by
 rcases h with h | ⟨o,its,n,hk,hc,hs,hz,r⟩
 ·obtain⟨z,its,r,p⟩:=h.ok I.hok
  exact⟨its,r,p,z⟩
 ·refine⟨its.toList,r,⟨o,I.kIn a o hk,hc,n,by simpa using hs⟩,?_⟩
  have e:=r.length
  simp only [Array.length_toList] at e
  omega
theorem Inv.list_inj (I:Inv X pins σ H s)(h:dO X.K H a xs)(h':dO X.K H a ys):xs=ys:=by
 obtain⟨its,r,⟨o,n,e,_,_,d⟩,_⟩:=I.list h
 obtain⟨its',r',⟨o',n',e',_,_,d'⟩,_⟩:=I.list h'
 rw [e] at e';cases e'
 rw [d] at d'
 injection d' with d1 _
 have:its=its':=by simpa using congrArg Array.toList d1
 subst this
 exact r.inj r'
theorem Inv.tuple_inj (I:Inv X pins σ H s)(h:ly X.K H a xs)(h':ly X.K H a ys):xs=ys:=by
 obtain⟨its,r,⟨o,e,_,n,d⟩,_⟩:=I.tuple h
 obtain⟨its',r',⟨o',e',_,n',d'⟩,_⟩:=I.tuple h'
 rw [e] at e';cases e'
 rw [d] at d'
 injection d' with d1 _
 have:its=its':=by simpa using congrArg Array.toList d1
 subst this
 exact r.inj r'
end
abbrev Cx.wish (X:Cx)(E:Value->Shared->Prop):Cx:={ X with xe:=E }
abbrev Cx.nox (X:Cx):Cx:=X.wish fun _ _=>False
theorem Cx.Ok.wish {X:Cx}(ok:X.Ok)(E:Value->Shared->Prop):(X.wish E).Ok:=
 ⟨ok.mod,ok.kind,ok.glob,ok.blt,ok.above,ok.inj,ok.has,ok.cab,ok.hd,ok.frames,ok.stk,ok.exf,ok.bs,ok.bsz,ok.noex,ok.exfs,ok.funs,ok.frf⟩
theorem Cx.Ok.unwish {X:Cx}{E:Value->Shared->Prop}(ok:(X.wish E).Ok):X.Ok:=
 ⟨ok.mod,ok.kind,ok.glob,ok.blt,ok.above,ok.inj,ok.has,ok.cab,ok.hd,ok.frames,ok.stk,ok.exf,ok.bs,ok.bsz,ok.noex,ok.exfs,ok.funs,ok.frf⟩
section
variable {X:Cx}{pins:List (Addr×Obj)}{σ:St}{H:Hp}{s:Shared}{E:Value->Shared->Prop}
theorem Inv.wish (I:Inv X pins σ H s)(E:Value->Shared->Prop):Inv (X.wish E) pins σ H s:=⟨I.ok.wish E,I.os,I.bare,I.base,I.loc,I.cell,I.free,I.freeC,I.pin,I.hok,I.len⟩
theorem Inv.unwish (I:Inv (X.wish E) pins σ H s):Inv X pins σ H s:=⟨I.ok.unwish,I.os,I.bare,I.base,I.loc,I.cell,I.free,I.freeC,I.pin,I.hok,I.len⟩
theorem SP.unwish {D:Ends}{f:Flow}{s':Shared}(h:SP (X.wish E) pins D f s'):SP X pins D f s':=by
 cases f with
 |next=>obtain⟨σ',H',I,q⟩:=h;exact⟨σ',H',I.unwish,q⟩
 |brk=>obtain⟨σ',H',I,q⟩:=h;exact⟨σ',H',I.unwish,q⟩
 |cont=>obtain⟨σ',H',I,q⟩:=h;exact⟨σ',H',I.unwish,q⟩
 |ret u=>obtain⟨v,σ',H',I,r,q⟩:=h;exact⟨v,σ',H',I.unwish,r,q⟩
theorem kX.nox {st:List Stmt}{t:TS}(h:kX X.nox st t):kX X st t:=fun pins s σ H D I hw =>
 wpAny_mono (h pins s σ H D (I.wish _) hw) (fun _ _ q=>q.unwish) fun _ _ z=>False.elim z
end
section
variable {X:Cx}{st:Stmt}{rest:List Stmt}{t u:TS}{e:Expr}{te:TE}{pos:Pos}
def MV:TS:=fun D σ H=>D.nx σ H
def N6 (t u:TS):TS:=fun D σ H=>t { D with nx:=u D } σ H
theorem il:kX X [] MV:=fun _ _ σ H _ I h=>wpAny_execs_nil ⟨σ,H,I,h⟩
theorem dU (h1:PS X st t)(h2:kX X rest u):kX X (st::rest) (N6 t u):=by
 intro pins s σ H D I h
 refine wpAny_execs_cons (eC (h1 pins s σ H { D with nx:=u D } I h) fun f s1 q=>?_)
 cases f with
 |next =>
  obtain⟨σ',H',I',q⟩:=q
  exact h2 pins s1 σ' H' D I' q
 |ret v=>exact q
 |brk=>exact q
 |cont=>exact q
theorem f9 (h1:PS X st t):kX X [st] t:=by
 intro pins s σ H D I h
 refine wpAny_execs_cons (eC (h1 pins s σ H D I h) fun f s1 q=>?_)
 cases f with
 |next=>exact wpAny_execs_nil q
 |ret v=>exact q
 |brk=>exact q
 |cont=>exact q
theorem Inv.quiet {pins:List (Addr×Obj)}{σ:St}{H:Hp}{s:Shared}(I:Inv X pins σ H s):interactive X.env=false:=by simp [interactive,I.ok.kind]
def MT (te:TE):TS:=fun D σ H=>te σ H fun _ H1=>D.nx σ H1
theorem vz (he:PE X e te)(hs:swapsWith e none pos.line X.env=pure false:=by rfl):PS X (.Expr e pos) (MT te):=by
 intro pins s σ H D I h
 exact wpAny_Expr_any (eC (he pins s σ H _ I h) fun v s1 ⟨x,H1,I1,r1,q1⟩=>⟨σ,H1,I1,q1⟩) I.quiet hs
def N5 (te:TE):TS:=fun D σ H=>te σ H D.rt
theorem nR (he:PE X e te):PS X (.Return (some e) pos) (N5 te):=by
 intro pins s σ H D I h
 exact wpAny_Return_some (eC (he pins s σ H _ I h) fun v s1 ⟨x,H1,I1,r1,q1⟩=>⟨x,σ,H1,I1,r1,q1⟩)
def N0 (c:TT)(t u:TS):TS:=fun D σ H=>c σ H fun b H1=>if b=true then t D σ H1 else u D σ H1
theorem qT {c:Expr}{a b:List Stmt}{tc:TT}(hc:PT X c tc)(ha:kX X a t)(hb:kX X b u):PS X (.If c a b pos) (N0 tc t u):=by
 intro pins s σ H D I h
 refine wpAny_If (eC (hc pins s σ H _ I h) fun d s1 ⟨H1,I1,q1⟩=>?_)
 cases d with
 |true=>exact ha pins s1 σ H1 D I1 q1
 |false=>exact hb pins s1 σ H1 D I1 q1
def FN:TS:=fun _ _ _=>False
theorem Fi:PS X st FN:=fun _ _ _ _ _ _ h=>h.elim
theorem tw {Nf:List Stmt}:kX X Nf FN:=fun _ _ _ _ _ _ h=>h.elim
end
abbrev TG:=V->St->Hp->(St->Hp->Prop)->Prop
abbrev Gf:=List V->St->Hp->(St->Hp->Prop)->Prop
def PG (X:Cx)(target:Expr)(t:TG):Prop:=
 ∀(pins:List (Addr×Obj)) (s:Shared) (σ:St) (H:Hp) (v:V) (u:Value) (Q:St->Hp->Prop),Inv X pins σ H s->RelV v u->t v σ H Q ->
  wpAny (model X.prog X.w) X.A (assign target X.env u) (fun _ s'=>∃σ' H',Inv X pins σ' H' s'/\Q σ' H') X.xe s
def Lw (X:Cx)(ts:List Expr)(t:Gf):Prop:=
 ∀(pins:List (Addr×Obj)) (s:Shared) (σ:St) (H:Hp) (vs:List V) (us:List Value) (Q:St->Hp->Prop),Inv X pins σ H s->Vals vs us->t vs σ H Q ->
  wpAny (model X.prog X.w) X.A (assignInOrder ((assignEach ts X.env).map (·.2)) us) (fun _ s'=>∃σ' H',Inv X pins σ' H' s'/\Q σ' H') X.xe s
abbrev Jy:=V->V->V->Hp->(Hp->Prop)->Prop
def LP (X:Cx)(t:Jy):Prop:=
 ∀(pins:List (Addr×Obj)) (s:Shared) (σ:St) (H:Hp) (o i v:V) (ov iv u:Value) (Q:Hp->Prop),Inv X pins σ H s->RelV o ov->RelV i iv->RelV v u->t o i v H Q ->
  wpAny (model X.prog X.w) X.A (setItem ov iv u) (fun _ s'=>∃H',Inv X pins σ H' s'/\Q H') X.xe s
section
variable {X:Cx}{pos:Pos}
def tf (i:Nat):TG:=fun v σ H Q=>Q (σ.set i (some v)) H
theorem mQ {i:Nat}{x:Str}(hN:X.N.Nodup)(hi:X.N[i]? = some x)(hx:Loc X.env.scope x)(hf:X.fn x=true\/X.env.scope.names.lookup x=some .local:=by first | exact .inl rfl | exact .inr rfl | assumption):PG X (.Name x pos) (tf i):=by
 intro pins s σ H v u Q I r h
 exact wpAny_assign_Name (kF I hN hi hx r (fun s' I'=>⟨_,H,I',h⟩) hf)
def ND:Gf:=fun vs σ H Q=>vs=[]/\Q σ H
def Md (t:TG)(u:Gf):Gf:=fun vs σ H Q=>∃v r,vs=v::r/\t v σ H fun σ' H'=>u r σ' H' Q
theorem By:Lw X [] ND:=by
 intro pins s σ H vs us Q I r h
 obtain⟨e,h⟩:=h
 subst e
 cases r
 exact assignInOrder_nil ⟨σ,H,I,h⟩
theorem qO {e:Expr}{es:List Expr}{t:TG}{u:Gf}(h1:PG X e t)(h2:Lw X es u)
  (hs:(assignEach (e::es) X.env).map (·.2)=assign e X.env::(assignEach es X.env).map (·.2):=by rfl):Lw X (e::es) (Md t u):=by
 intro pins s σ H vs us Q I r h
 obtain⟨v,vr,e1,h⟩:=h
 subst e1
 cases r with
 |cons r rr =>
  rw [hs]
  refine assignInOrder_cons (eC (h1 pins s σ H _ _ _ I r h) fun _ s1 ⟨σ1,H1,I1,q1⟩=>?_)
  exact h2 pins s1 σ1 H1 _ _ Q I1 rr q1
def NH (K:PySem.W.Frag)(n:Nat)(t:Gf):TG:=fun v σ H Q=>∃a xs,v=.ref a/\ly K H a xs/\xs.length=n/\t xs σ H Q
theorem KQ {es:List Expr}{k:Nat}{t:Gf}{n:Nat}(hc:X.calm=true)(h:Lw X es t)
  (hn:(assignEach es X.env).length=n:=by rfl) (hst:(assignEach es X.env).findIdx? (·.1)=none:=by rfl):PG X (.Tuple es k pos) (NH X.K n t):=by
 intro pins s σ H v u Q I r hw
 obtain⟨a,xs,e1,hq,hl,hw⟩:=hw
 subst e1
 cases r
 obtain⟨its,rv,ht,hz⟩:=I.tuple hq
 refine assign_Tuple_tuple (I.ok.hd hc) ht (by simp [hn,<- hl,rv.length]) hst fun h' hx=>?_
 have I1:Inv X pins σ H { s with heap:=h' }:=I.kept (t':=s.toks) fun b o e=>hx b o (Nat.ne_of_lt (Heap.lt_size e)) e
 exact h pins _ σ H xs _ Q I1 (by simpa using rv) hw
def iy (to ti:TE)(t:Jy):TG:=fun v σ H Q=>to σ H fun o H1=>ti σ H1 fun i H2=>t o i v H2 fun H3=>Q σ H3
theorem KP {o i:Expr}{to ti:TE}{t:Jy}(ho:PE X o to)(hi:PE X i ti)(hs:LP X t)
  (ha:∀v,assign (.Subscript o i pos) X.env v=(do
   let ov <- holding [v] (eval o X.env)
   let iv <- holding [v,ov] (eval i X.env)
   standAt pos
   holding [v,ov,iv] (setItem ov iv v)
   release [v,ov,iv] []):=by intro _;rfl):PG X (.Subscript o i pos) (iy to ti t):=by
 intro pins s σ H v u Q I r h
 rw [ha]
 refine wpAny_bind (wpAny_holding (eC (ho pins s σ H _ I h) fun ov s1 ⟨x,H1,I1,r1,q1⟩=>?_))
 refine wpAny_bind (wpAny_holding (eC (hi pins s1 σ H1 _ I1 q1) fun iv s2 ⟨y,H2,I2,r2,q2⟩=>?_))
 refine wpAny_bind (wpAny_standAt (wpAny_bind (wpAny_holding (eC (hs pins s2 σ H2 x y v ov iv u _ I2 r1 r2 r q2) fun _ s3 ⟨H3,I3,q3⟩=>?_))))
 exact wpAny_release ⟨σ,H3,I3,q3⟩
def MR (te:TE)(g:TG):TS:=fun D σ H=>te σ H fun x H1=>g x σ H1 D.nx
theorem zL {tg e:Expr}{te:TE}{g:TG}(he:PE X e te)(hg:PG X tg g)(hs:swapsWithSole [tg] e pos.line X.env=pure false:=by rfl)(hw:swappedStores [tg] e X.env=pure none:=by rfl)
  (h1:(assignEach [tg] X.env).map (·.2)=[assign tg X.env]:=by rfl):PS X (.Assign [tg] e pos) (MR te g):=by
 intro pins s σ H D I h
 refine wpAny_Assign_stores (eC (he pins s σ H _ I h) fun v s1 ⟨x,H1,I1,r1,q1⟩=>?_) hs hw
 rw [h1]
 exact eC (hg pins s1 σ H1 x v _ I1 r1 q1) fun _ s2 q=>q
theorem lT {i:Nat}{x:Str}{e:Expr}{te:TE}{pos':Pos}(hN:X.N.Nodup)(hi:X.N[i]? = some x)(hx:Loc X.env.scope x)(he:PE X e te)(hs:swapsWith e (some (.Name x pos')) pos.line X.env=pure false:=by rfl)(hf:X.fn x=true\/X.env.scope.names.lookup x=some .local:=by first | exact .inl rfl | exact .inr rfl | assumption):
  PS X (.Assign [.Name x pos'] e pos) (MR te (tf i)):=by
 intro pins s σ H D I h
 refine wpAny_Assign_Name (eC (he pins s σ H _ I h) fun v s1 ⟨y,H1,I1,r1,q1⟩=>?_) hs
 exact kF I1 hN hi hx r1 (fun s2 I2=>⟨_,H1,I2,q1⟩) hf
def N4 (i j:Nat)(ta:TA):TS:=fun D σ H=>ta σ H fun vs H1=>∃v w,vs=[v,w]/\D.nx ((σ.set i (some v)).set j (some w)) H1
theorem Fj {i j:Nat}{x y:Str}{a b:Expr}{ta:TA}{px py pt:Pos}{kt k2 pt2}(hc:X.calm=true)(hN:X.N.Nodup)(hi:X.N[i]? = some x)(hj:X.N[j]? = some y)(hij:i≠j)
  (hx:X.env.scope.names.lookup x=some .local) (hy:X.env.scope.names.lookup y=some .local) (ha:PA X [a,b] ta)
  (hw:swappedStores [.Tuple [.Name x px,.Name y py] kt pt] (.Tuple [a,b] k2 pt2) X.env=pure (some [x,y]))
  (hs:swapsWithSole [.Tuple [.Name x px,.Name y py] kt pt] (.Tuple [a,b] k2 pt2) pos.line X.env=pure false:=by rfl):
  PS X (.Assign [.Tuple [.Name x px,.Name y py] kt pt] (.Tuple [a,b] k2 pt2) pos) (N4 i j ta):=by
 intro pins s σ H D I h
 rw [exec_Assign_arm]
 refine wpAny_bind (wpAny_standAt ?_)
 rw [hs]
 refine wpAny_bind (wpAny_pure ?_)
 rw [if_neg (by decide)]
 refine wpAny_bind (Tuple_ (eC (ha _ pins s σ H _ I h) fun us s1 ⟨vs,H1,I1,r1,q1⟩=>?_))
 obtain⟨v,w,e1,q1⟩:=q1
 subst e1
 obtain⟨u1,u2,rfl,rv,rw'⟩:∃u1 u2,us=[u1,u2]/\RelV v u1/\RelV w u2:=by
  cases r1 with
  |cons p q =>
   cases q with
   |cons p' q' =>
    cases q'
    exact⟨_,_,rfl,p,p'⟩
 refine wpAny_newObj_type ?_ (by show 2≤sizeLine;decide)
 have I2:Inv X pins σ H1 { s1 with heap:=s1.heap.push { cls:=.type "tuple", data:=.seq [u1,u2].toArray } }:=I1.kept (t':=s1.toks) fun b o e=>Heap.get?_push_of_some _ e
 rw [hw]
 refine wpAny_bind (wpAny_pure ?_)
 show wpAny (model X.prog X.w) X.A (do rule "assign.swapped-stores";let items <- unpackItems (.ref s1.heap.objs.size) 2 none;assignInOrder [fun v=>bindName X.env y v,fun v=>bindName X.env x v] items.reverse;pure Flow.next) _ _ _
 refine wpAny_bind (wpAny_rule (wpAny_bind (unpackItems_tuple (items:=#[u1,u2]) (I.ok.hd hc) (IsTup.new s1.heap _) fun h' hx'=>?_)))
 have I3:=I2.kept (h':=h') (t':=s1.toks) fun b o e=>hx' b o (Nat.ne_of_lt (Heap.lt_size e)) e
 show wpAny _ _ (assignInOrder [fun v=>bindName X.env y v,fun v=>bindName X.env x v] [u2,u1] >>= fun _=>pure Flow.next) _ _ _
 refine wpAny_bind (assignInOrder_cons (wpAny_bindName (kF I3 hN hj (.inl hy) rw' (fun s2 I4=>?_) (.inr hy))))
 refine assignInOrder_cons (wpAny_bindName (kF I4 hN hi (.inl hx) rv (fun s3 I5=>assignInOrder_nil (wpAny_pure ?_)) (.inr hx)))
 rw [List.set_comm _ _ (Ne.symm hij)] at I5
 exact⟨_,H1,I5,q1⟩
end
section
variable {X:Cx}{pos:Pos}
def Lj (c:TT)(tb:TS):TS:=fun D σ H=>∃W:Nat->St->Hp->Prop,(∃m,W m σ H)/\∀m σ H,W m σ H ->
 c σ H fun b H1=>if b=true then ∃N:St->Hp->Prop,(∀σ' H',N σ' H'->∃m',m'<m/\W m' σ' H')/\tb { D with nx:=N,ct:=N,bk:=D.nx } σ H1 else D.nx σ H1
theorem Fl {c:Expr}{body:List Stmt}{tc:TT}{tb:TS}(hp:PassesOwn (model X.prog X.w) X.A X.env X.xe)(hc:PT X c tc)(hb:kX X body tb):PS X (.While c body [] pos) (Lj tc tb):=by
 intro pins s σ H D I h
 obtain⟨W,⟨m0,w0⟩,turn⟩:=h
 refine wpAny_While (codeAny_whileLoop (fun n s'=>∃σ' H',Inv X pins σ' H' s'/\W n σ' H') ?_ m0 ⟨σ,H,I,w0⟩)
 rintro n s1 ⟨σ1,H1,I1,w1⟩
 refine wpAny_passesOwn hp (eC (hc pins s1 σ1 H1 _ I1 (turn n σ1 H1 w1)) fun b s2 ⟨H2,I2,q2⟩=>?_)
 cases b with
 |true =>
  obtain⟨N,hN,q2⟩:=q2
  rw [if_pos rfl]
  refine wpAny_passesOwn hp (eC (hb pins s2 σ1 H2 _ I2 q2) fun f s3 q3=>?_)
  cases f with
  |next =>
   obtain⟨σ3,H3,I3,n3⟩:=q3
   obtain⟨m',hm,w3⟩:=hN σ3 H3 n3
   exact⟨m',hm,σ3,H3,I3,w3⟩
  |cont =>
   obtain⟨σ3,H3,I3,n3⟩:=q3
   obtain⟨m',hm,w3⟩:=hN σ3 H3 n3
   exact⟨m',hm,σ3,H3,I3,w3⟩
  |brk=>exact q3
  |ret v=>exact q3
 |false =>
  rw [if_neg Bool.false_ne_true]
  exact wpAny_execs_nil ⟨σ1,H2,I2,q2⟩
end
structure It where
 go:Nat->Hp->Prop
 yld:Nat->Hp->V->Hp->Prop
 stop:Nat->Hp->Prop
def ue (X:Cx)(pins:List (Addr×Obj))(H:Hp)(b:Addr):Prop:=
 H b=none/\b≠X.env.locals/\b∉X.fs/\(b∈X.ex\/X.Y8.heap.objs.size≤b)/\(∀x c,X.env.cells.lookup x=some c->c≠b)/\∀p∈X.pn++pins,p.1≠b
theorem Inv.fpOk {X:Cx}{pins:List (Addr×Obj)}{σ:St}{H H':Hp}{s:Shared}{b:Addr}(I:Inv X pins σ H s)(hb:s.heap.objs.size≤b)(hn:H' b=none):ue X pins H' b:=by
 refine⟨hn,Nat.ne_of_gt (Nat.lt_of_lt_of_le I.lt hb),I.nofs hb,.inr (Nat.le_trans I.sz hb),fun x c e z=>?_,fun p hp z=>?_⟩
 ·obtain⟨v,q⟩:=I.cell x c e
  exact absurd (Nat.lt_of_lt_of_le q.lt (by rw [z];exact hb)) (Nat.lt_irrefl _)
 ·exact absurd (Nat.lt_of_lt_of_le (Heap.lt_size (I.pin p hp).1) (by rw [z];exact hb)) (Nat.lt_irrefl _)
structure Turn (P:Program)(w:World)(K:PySem.W.Frag)(tg:Expr)(J:It)(fp:List Addr)(it:Addr)(tn:Nat->Heap->Prop):Prop where
 mem:it∈fp
 obj:∀i h,tn i h->∀b∈fp,∃o,h.get? b=some o/\∀v,o.data≠.cell v
 keep:∀i h h',tn i h->(∀b∈fp,∀o,h.get? b=some o->h'.get? b=some o)->tn i h'
 item:∀(X:Cx),X.prog=P->X.w=w->X.K=K->X.calm=true->∀(i:Nat) (pins:List (Addr×Obj)) (s:Shared) (σ:St) (H:Hp) (E:Value->Shared->Prop),Inv X pins σ H s->(∀b∈fp,ue X pins H b)->tn i s.heap->J.go i H ->
  wpAny (model P w) X.A (pyNext (.ref it)) (fun r s1=>∃u,r=some u /\
   wpAny (model P w) X.A (letOwnedTupleGo tg (.ref it) u) (fun _ s2=>∃x H',Inv X pins σ H' s2/\RelV x u/\J.yld i H x H'/\tn (i+1) s2.heap/\∀b∈fp,H' b=none) E s1) E s
 done:∀(X:Cx),X.prog=P->X.w=w->X.K=K->X.calm=true->∀(i:Nat) (pins:List (Addr×Obj)) (s:Shared) (σ:St) (H:Hp) (E:Value->Shared->Prop),Inv X pins σ H s->(∀b∈fp,ue X pins H b)->tn i s.heap->J.stop i H ->
  wpAny (model P w) X.A (pyNext (.ref it)) (fun r s1=>r=none/\Inv X pins σ H s1) E s
 self:∀(A:Around) (i:Nat) (s:Shared) (Q:Value->Shared->Prop) (E:Value->Shared->Prop),tn i s.heap->Q (.ref it) s->wpAny (model P w) A (pyIter (.ref it)) Q E s
abbrev TI:=St->Hp->(It->Hp->Prop)->Prop
def Og (X:Cx)(pins:List (Addr×Obj))(σ:St)(tg:Expr)(R:It->Hp->Prop)(itv:Value)(s2:Shared):Prop:=
 ∃(it:Addr) (fp:List Addr) (tn:Nat->Heap->Prop) (J:It) (H':Hp),itv=.ref it/\Inv X pins σ H' s2/\Turn X.prog X.w X.K tg J fp it tn/\tn 0 s2.heap/\(∀b∈fp,ue X pins H' b)/\R J H'
def PI (X:Cx)(tg iter:Expr)(wi:TI):Prop:=
 ∀(pins:List (Addr×Obj)) (s:Shared) (σ:St) (H:Hp) (R:It->Hp->Prop),Inv X pins σ H s->wi σ H R ->
  wpAny (model X.prog X.w) X.A (eval iter X.env) (fun v s1=>wpAny (model X.prog X.w) X.A (pyIter v) (Og X pins σ tg R) X.xe s1) X.xe s
theorem Bc {M:Model}{A:Around}{E:Value->Shared->Prop}{s:Shared}{tg:Expr}{it:Addr}{u:Value}{o:Obj}{n:String}{vs:Array Value}{Q:Unit->Shared->Prop}(ho:s.heap.get? it=some o)(hc:o.cls=.type n)(hd:o.data=.fields vs)
    (hn:["enumerate","zip","dict_itemiterator","dict_reverseitemiterator","odict_iterator","itertools.zip_longest","itertools.pairwise"].contains n=false) (hQ:Q () s):wpAny M A (letOwnedTupleGo tg (.ref it) u) Q E s:=by
  unfold letOwnedTupleGo
  cases tg<;>first
    |exact wpAny_pure hQ
    | (cases u<;>first
        |exact wpAny_pure hQ
        | (refine wpAny_bind (wpAny_load ho ?_)
           rw [hc,hd]
           show wpAny M A (if (["enumerate","zip","dict_itemiterator","dict_reverseitemiterator","odict_iterator","itertools.zip_longest","itertools.pairwise"].contains n&&vs[0]? == some (rawInt _))=true then _ else _) Q E s
           rw [if_neg (by intro h;rw [hn,Bool.false_and] at h;cases h)]
           exact wpAny_pure hQ))
def Nr (K:PySem.W.Frag)(a:Addr):It:=
 ⟨fun i H=>∃xs x,dO K H a xs/\xs[i]? = some x,fun i H x H'=>H'=H/\∀xs,dO K H a xs->xs[i]? = some x,fun i H=>∃xs,dO K H a xs/\xs.length≤i⟩
def Nt (K:PySem.W.Frag)(a:Addr):It:=
 ⟨fun i H=>∃xs x,ly K H a xs/\xs[i]? = some x,fun i H x H'=>H'=H/\∀xs,ly K H a xs->xs[i]? = some x,fun i H=>∃xs,ly K H a xs/\xs.length≤i⟩
def LN (lo:Int)(n:Nat):It:=⟨fun i _=>i<n,fun i H x H'=>H'=H/\x=.int (lo+i),fun i _=>n≤i⟩
theorem Dg {P:Program}{w:World}{K:PySem.W.Frag}{tg:Expr}(a it:Addr):Turn P w K tg (Nr K a) [it] it (fun i h=>h.IsListIter it a i) where
 mem:=by simp
 obj:=fun i h st b hb=>by
  have e:b=it:=by simpa using hb
  subst e
  obtain⟨o,e,c,d⟩:=st
  exact⟨o,e,fun v z=>by rw [d] at z;cases z⟩
 keep:=fun i h h' st k=>st.at fun o e=>k it (by simp) o e
 item:=by
  intro X hP hw hK hc i pins s σ H E I hf st hg
  subst hP hw hK
  obtain⟨xs,x,hq,hx⟩:=hg
  obtain⟨its,rv,p,hz⟩:=I.list hq
  obtain⟨u,hu,ru⟩:=rv.get hx
  obtain⟨f0,f1,f2,f3,f4,f5⟩:=hf it (by simp)
  refine wpAny_pyNext_list_item st p.isList (x:=u) (by simpa using hu) fun h' st' sb=>?_
  have I1:Inv X pins σ H { s with heap:=h' }:=I.turned (t':=s.toks) (fun b o hb e=>(sb.2 b hb).trans e) f0 f1 f3 f4 f5
  obtain⟨o,e,c,d⟩:=id st'
  exact⟨u,rfl,Bc (s:={ s with heap:=h' }) e c d (by decide) ⟨x,H,I1,ru,⟨rfl,fun ys hy=>by rw [I.list_inj hy hq];exact hx⟩,st',fun b hb=>(hf b hb).1⟩⟩
 done:=by
  intro X hP hw hK hc i pins s σ H E I hf st hg
  subst hP hw hK
  obtain⟨xs,hq,hx⟩:=hg
  obtain⟨its,rv,p,hz⟩:=I.list hq
  obtain⟨f0,f1,f2,f3,f4,f5⟩:=hf it (by simp)
  have hl:=rv.length
  exact wpAny_pyNext_list_end (I.ok.hd hc) st p.isList (by simp;omega) fun h' eb=>⟨rfl,I.turned (t':=s.toks) (fun b o hb e=>eb b o hb e) f0 f1 f3 f4 f5⟩
 self:=fun _ _ _ _ _ st h=>wpAny_pyIter_listiter st h
theorem Ag {P:Program}{w:World}{K:PySem.W.Frag}{tg:Expr}(a it:Addr):Turn P w K tg (Nt K a) [it] it (fun i h=>h.IsTupleIter it a i) where
 mem:=by simp
 obj:=fun i h st b hb=>by
  have e:b=it:=by simpa using hb
  subst e
  obtain⟨o,e,c,d⟩:=st
  exact⟨o,e,fun v z=>by rw [d] at z;cases z⟩
 keep:=fun i h h' st k=>st.at fun o e=>k it (by simp) o e
 item:=by
  intro X hP hw hK hc i pins s σ H E I hf st hg
  subst hP hw hK
  obtain⟨xs,x,hq,hx⟩:=hg
  obtain⟨its,rv,p,hz⟩:=I.tuple hq
  obtain⟨u,hu,ru⟩:=rv.get hx
  obtain⟨f0,f1,f2,f3,f4,f5⟩:=hf it (by simp)
  refine wpAny_pyNext_tuple_item st (show s.heap.IsTuple a its.toArray from p) (x:=u) (by simpa using hu) fun h' st' sb=>?_
  have I1:Inv X pins σ H { s with heap:=h' }:=I.turned (t':=s.toks) (fun b o hb e=>(sb.2 b hb).trans e) f0 f1 f3 f4 f5
  obtain⟨o,e,c,d⟩:=id st'
  exact⟨u,rfl,Bc (s:={ s with heap:=h' }) e c d (by decide) ⟨x,H,I1,ru,⟨rfl,fun ys hy=>by rw [I.tuple_inj hy hq];exact hx⟩,st',fun b hb=>(hf b hb).1⟩⟩
 done:=by
  intro X hP hw hK hc i pins s σ H E I hf st hg
  subst hP hw hK
  obtain⟨xs,hq,hx⟩:=hg
  obtain⟨its,rv,p,hz⟩:=I.tuple hq
  obtain⟨f0,f1,f2,f3,f4,f5⟩:=hf it (by simp)
  have hl:=rv.length
  exact wpAny_pyNext_tuple_end (I.ok.hd hc) st (show s.heap.IsTuple a its.toArray from p) (by simp;omega) fun h' eb=>⟨rfl,I.turned (t':=s.toks) (fun b o hb e=>eb b o hb e) f0 f1 f3 f4 f5⟩
 self:=fun _ _ _ _ _ st h=>wpAny_pyIter_tupleiter st h
theorem Af {P:Program}{w:World}{K:PySem.W.Frag}{tg:Expr}(it:Addr)(lo:Int)(n:Nat):Turn P w K tg (LN lo n) [it] it (fun i h=>IsRangeIter h it (lo+(i:Nat)*1) ((n:Int)-(i:Nat)) 1) where
 mem:=by simp
 obj:=fun i h st b hb=>by
  have e:b=it:=by simpa using hb
  subst e
  exact⟨_,st,fun v z=>by
   have z':Data.fields _=Data.cell v:=z
   cases z'⟩
 keep:=fun i h h' st k=>k it (by simp) _ st
 item:=by
  intro X hP hw hK hc i pins s σ H E I hf st hg
  subst hP hw hK
  obtain⟨f0,f1,f2,f3,f4,f5⟩:=hf it (by simp)
  have W:=Walks.range (prog:=X.prog) (w:=X.w) (I.ok.hd hc) it lo 1 n
  refine W.item i s _ _ hg st fun v h' tk hv st' kk=>?_
  obtain⟨t,rfl⟩:=hv
  have I1:Inv X pins σ H { s with heap:=h',toks:=tk }:=I.turned (fun b o hb e=>kk b o (by simpa using hb) e) f0 f1 f3 f4 f5
  refine⟨_,rfl,Bc (s:={ s with heap:=h',toks:=tk }) (n := "range_iterator") st' rfl rfl (by decide) ⟨.int (lo+i),H,I1,⟨t,?_⟩,⟨rfl,rfl⟩,st',fun b hb=>(hf b hb).1⟩⟩
  rw [Int.mul_one]
 done:=by
  intro X hP hw hK hc i pins s σ H E I hf st hg
  subst hP hw hK
  obtain⟨f0,f1,f2,f3,f4,f5⟩:=hf it (by simp)
  exact wpAny_pyNext_range_end (I.ok.hd hc) st (by have:n≤i:=hg;omega) fun h' eb=>⟨rfl,I.turned (t':=s.toks) (fun b o hb e=>eb b o hb e) f0 f1 f3 f4 f5⟩
 self:=fun _ _ _ _ _ st h=>wpAny_pyIter_rangeiter st h
section
variable {X:Cx}{tg:Expr}
def Mh (K:PySem.W.Frag)(tl:TE):TI:=fun σ H R=>tl σ H fun x H1=>∃a,x=.ref a/\(∃xs,dO K H1 a xs)/\R (Nr K a) H1
def NI (K:PySem.W.Frag)(tl:TE):TI:=fun σ H R=>tl σ H fun x H1=>∃a,x=.ref a/\(∃xs,ly K H1 a xs)/\R (Nt K a) H1
theorem vy {l:Expr}{tl:TE}(hl:PE X l tl):PI X tg l (Mh X.K tl):=by
 intro pins s σ H R I h
 refine eC (hl pins s σ H _ I h) fun v s1 ⟨x,H1,I1,r1,q1⟩=>?_
 obtain⟨a,e,⟨xs,hq⟩,q⟩:=q1
 subst e
 cases r1
 obtain⟨its,rv,p,hz⟩:=I1.list hq
 refine wpAny_pyIter_list p.isList ?_
 refine⟨s1.heap.objs.size,[s1.heap.objs.size],_,_,H1,rfl,I1.kept (t':=s1.toks) fun b o e=>Heap.get?_push_of_some _ e,Dg a _,⟨_,Heap.get?_push_size _ rfl,rfl,rfl⟩,fun b hb=>?_,q⟩
 have e:b=s1.heap.objs.size:=by simpa using hb
 subst e
 exact I1.fpOk (Nat.le_refl _) (I1.hok.fresh (Nat.le_refl _))
theorem KR {l:Expr}{tl:TE}(hl:PE X l tl):PI X tg l (NI X.K tl):=by
 intro pins s σ H R I h
 refine eC (hl pins s σ H _ I h) fun v s1 ⟨x,H1,I1,r1,q1⟩=>?_
 obtain⟨a,e,⟨xs,hq⟩,q⟩:=q1
 subst e
 cases r1
 obtain⟨its,rv,p,hz⟩:=I1.tuple hq
 refine wpAny_pyIter_tuple (show s1.heap.IsTuple a its.toArray from p) ?_
 refine⟨s1.heap.objs.size,[s1.heap.objs.size],_,_,H1,rfl,I1.kept (t':=s1.toks) fun b o e=>Heap.get?_push_of_some _ e,Ag a _,⟨_,Heap.get?_push_size _ rfl,rfl,rfl⟩,fun b hb=>?_,q⟩
 have e:b=s1.heap.objs.size:=by simpa using hb
 subst e
 exact I1.fpOk (Nat.le_refl _) (I1.hok.fresh (Nat.le_refl _))
theorem xO {pins:List (Addr×Obj)}{σ:St}{H:Hp}{s:Shared}{R:It->Hp->Prop}{E:Value->Shared->Prop}{lo hi:Int}{t u v:Tok}{tk:Nat}(I:Inv X pins σ H s)(h1 : -(2^62)≤lo)(h2:lo<2^62)(h3 : -(2^62)≤hi)(h4:hi<2^62)
  (q:R (LN lo (hi-lo).toNat) H):wpAny (model X.prog X.w) X.A (pyIter (.ref s.heap.objs.size)) (Og X pins σ tg R) E { s with heap:=s.heap.push { cls:=.type "range", data:=.fields #[.int lo t,.int hi u,.int 1 v] },toks:=tk }:=by
 refine wpAny_pyIter_range (IsRange.new ..) (small_one h1 h2 h3 h4) ?_
 have I1:Inv X pins σ H { s with heap:=s.heap.push { cls:=.type "range", data:=.fields #[.int lo t,.int hi u,.int 1 v] },toks:=tk }:=I.kept fun b o e=>Heap.get?_push_of_some _ e
 refine⟨(s.heap.push { cls:=.type "range", data:=.fields #[.int lo t,.int hi u,.int 1 v] }).objs.size,[(s.heap.push { cls:=.type "range", data:=.fields #[.int lo t,.int hi u,.int 1 v] }).objs.size],_,_,H,rfl,
  I1.kept (t':=tk) fun b o e=>Heap.get?_push_of_some _ e,Af _ lo (hi-lo).toNat,?_,fun b hb=>?_,q⟩
 ·have e1:lo+((0:Nat):Int)*1=lo:=by simp
  have e2:(((hi-lo).toNat:Nat):Int)-((0:Nat):Int)=Builtin.Range.rangeSize lo hi 1:=by rw [rangeSize_one];split<;>omega
  show IsRangeIter _ _ (lo+((0:Nat):Int)*1) ((((hi-lo).toNat:Nat):Int)-((0:Nat):Int)) 1
  rw [e1,e2]
  exact Heap.get?_push_size _ rfl
 ·have e:b=(s.heap.push { cls:=.type "range", data:=.fields #[.int lo t,.int hi u,.int 1 v] }).objs.size:=by simpa using hb
  subst e
  exact I1.fpOk (Nat.le_refl _) (I1.hok.fresh (Nat.le_refl _))
def Mi (ta:TA):TI:=fun σ H R=>ta σ H fun vs H1=>∃j:Int,vs=[.int j] /\ -(2^62)≤j/\j<2^62/\R (LN 0 j.toNat) H1
def Mj (ta:TA):TI:=fun σ H R=>ta σ H fun vs H1=>∃i j:Int,vs=[.int i,.int j]/\(-(2^62)≤i/\i<2^62 /\ -(2^62)≤j/\j<2^62)/\R (LN i (j-i).toNat) H1
theorem CO {a:Expr}{ta:TA}{p pos:Pos}(hg:Gl X "range")(hm:X.mg "range" = none)(ha:PA X [a] ta)(hs:starEach [a] X.env=[(false,eval a X.env)]:=by rfl):PI X tg (.Call (.Name "range" p) [a] [] pos) (Mi ta):=by
 intro pins s σ H R I h
 refine Call_ (ki I hg hm boot_range (PyProof.Rows.callWith_type1 (eC (ha pos pins s σ H _ I h) fun us s1 ⟨vs,H1,I1,r1,q1⟩=>?_) hs rfl))
 obtain⟨j,e,q1,q2,q⟩:=q1
 subst e
 cases r1 with
 |cons r rr =>
  cases rr
  obtain⟨t,rfl⟩:=r
  exact call_range_1 (xO I1 (by omega) (by omega) q1 q2 (by simpa using q))
theorem CP {a b:Expr}{ta:TA}{p pos:Pos}(hg:Gl X "range")(hm:X.mg "range" = none)(ha:PA X [a,b] ta)(hs:starEach [a,b] X.env=[(false,eval a X.env),(false,eval b X.env)]:=by rfl)(hs2:starEach [b] X.env=[(false,eval b X.env)]:=by rfl):
  PI X tg (.Call (.Name "range" p) [a,b] [] pos) (Mj ta):=by
 intro pins s σ H R I h
 refine Call_ (ki I hg hm boot_range (PyProof.Rows.callWith_type1 (eC (ha pos pins s σ H _ I h) fun us s1 ⟨vs,H1,I1,r1,q1⟩=>?_) (by rw [hs,hs2]) (by rw [hs2];rfl)))
 obtain⟨i,j,e,⟨q1,q2,q3,q4⟩,q⟩:=q1
 subst e
 cases r1 with
 |cons r rr =>
  cases rr with
  |cons r' rr =>
   cases rr
   obtain⟨t,rfl⟩:=r
   obtain⟨t',rfl⟩:=r'
   exact call_range_2 (xO I1 q1 q2 q3 q4 q)
def NZ (wi:TI)(g:TG)(tb:TS):TS:=fun D σ H=>wi σ H fun J H1=>∃W:Nat->Nat->St->Hp->Prop,(∃m,W 0 m σ H1)/\∀i m σ H,W i m σ H ->
 (J.stop i H/\D.nx σ H)\/(J.go i H/\∃N:St->Hp->Prop,(∀σ' H',N σ' H'->∃m',m'<m/\W (i+1) m' σ' H')/\∀x H',J.yld i H x H'->g x σ H' fun σ2 H2=>tb { D with nx:=N,ct:=N,bk:=D.nx } σ2 H2)
def qS (fp:List Addr)(h:Heap):List (Addr×Obj):=fp.filterMap fun b=>(h.get? b).map fun o=>(b,o)
theorem jt {fp:List Addr}{h:Heap}{b:Addr}{o:Obj}(hb:b∈fp)(e:h.get? b=some o):(b,o)∈qS fp h:=List.mem_filterMap.mpr ⟨b,hb,by rw [e];rfl⟩
theorem CK {fp:List Addr}{h:Heap}{p:Addr×Obj}(hp:p∈qS fp h):p.1∈fp/\h.get? p.1=some p.2:=by
 obtain⟨b,hb,e⟩:=List.mem_filterMap.mp hp
 cases q:h.get? b with
 |none=>rw [q] at e;cases e
 |some o =>
  rw [q] at e
  have e':(b,o)=p:=Option.some.inj e
  subst e'
  exact⟨hb,q⟩
theorem Inv.pinned {pins:List (Addr×Obj)}{σ:St}{H:Hp}{s:Shared}{fp:List Addr}(I:Inv X pins σ H s)(hf:∀b∈fp,ue X pins H b)(ho:∀b∈fp,∃o,s.heap.get? b=some o/\∀v,o.data≠.cell v):Inv X (pins++qS fp s.heap) σ H s:=
 I.pins_of fun p hp=>(List.mem_append.mp hp).elim (fun z=>I.pin p (List.mem_append_right _ z)) fun z=>by
  obtain⟨hb,e⟩:=CK z
  obtain⟨f0,f1,f2,_⟩:=hf p.1 hb
  obtain⟨o,e',d⟩:=ho p.1 hb
  rw [e] at e';cases e'
  exact⟨e,f0,f1,f2,d⟩
theorem Inv.unpinned {pins pl:List (Addr×Obj)}{σ:St}{H:Hp}{s:Shared}(I:Inv X (pins++pl) σ H s):Inv X pins σ H s:=I.pins_of fun p hp=>I.pin p (List.mem_append_right _ (List.mem_append_left _ hp))
theorem zM {iter:Expr}{body:List Stmt}{wi:TI}{g:TG}{tb:TS}{pos:Pos}(hp:PassesOwn (model X.prog X.w) X.A X.env X.xe)(hc:X.calm=true)(hi:PI X tg iter wi)(hg:PG X tg g)(hb:kX X body tb)
  (hs:∀x,foldedSetIterable iter X.env x=pure x:=by intro _;rfl):PS X (.For tg iter body [] pos) (NZ wi g tb):=by
 intro pins s σ H D I h
 refine wpAny_For (eC (hi pins s σ H _ I h) fun v s1 h1=>eC h1 fun itv s2 h2=>?_) hs
 obtain⟨it,fp,tn,J,H2,e,I2,T,st2,f2,W,⟨m0,w0⟩,turn⟩:=h2
 subst e
 -- what stays true of the iterator's objects through the loop
 have stat:∀{H':Hp},(∀b∈fp,H' b=none)->∀b∈fp,ue X pins H' b:=fun hn b hb=>⟨hn b hb,(f2 b hb).2⟩
 refine codeAny_forLoop_any (fun n s'=>∃i σ' H',Inv X pins σ' H' s'/\tn i s'.heap/\(∀b∈fp,H' b=none)/\W i n σ' H') ?_ m0 ⟨0,σ,H2,I2,st2,fun b hb=>(f2 b hb).1,w0⟩
 rintro n s3 ⟨i,σ3,H3,I3,st3,fr3,w3⟩
 rcases turn i n σ3 H3 w3 with ⟨stop,qn⟩ | ⟨go,N,hN,step⟩
 ·refine wpAny_passesOwn hp (eC (T.done X rfl rfl rfl hc i pins s3 σ3 H3 X.xe I3 (stat fr3) st3 stop) fun r s4 ⟨hr,I4⟩=>?_)
  subst hr
  exact wpAny_execs_nil ⟨σ3,H3,I4,qn⟩
 ·refine wpAny_passesOwn hp (eC (T.item X rfl rfl rfl hc i pins s3 σ3 H3 X.xe I3 (stat fr3) st3 go) fun r s4 ⟨u,hr,h4⟩=>?_)
  subst hr
  refine wpAny_passesOwn hp (eC h4 fun _ s5 ⟨x,H5,I5,r5,y5,st5,fr5⟩=>?_)
  have I5':=I5.pinned (stat fr5) (T.obj _ _ st5)
  refine wpAny_passesOwn hp (eC (hg _ s5 σ3 H5 x u _ I5' r5 (step x H5 y5)) fun _ s6 ⟨σ6,H6,I6,q6⟩=>?_)
  refine wpAny_passesOwn hp (eC (hb _ s6 σ6 H6 _ I6 q6) fun f s7 q7=>?_)
  have again:∀{σ7:St} {H7:Hp},Inv X (pins++qS fp s5.heap) σ7 H7 s7->N σ7 H7->∃m,m<n/\∃i σ' H',Inv X pins σ' H' s7/\tn i s7.heap/\(∀b∈fp,H' b=none)/\W i m σ' H':=fun {σ7 H7} I7 n7=>by
   obtain⟨m',hm,w7⟩:=hN σ7 H7 n7
   refine⟨m',hm,i+1,σ7,H7,I7.unpinned,T.keep _ _ _ st5 fun b hb o e=>(I7.pin (b,o) (List.mem_append_right _ (List.mem_append_right _ (jt hb e)))).1,fun b hb=>?_,w7⟩
   obtain⟨o,e,d⟩:=T.obj _ _ st5 b hb
   exact (I7.pin (b,o) (List.mem_append_right _ (List.mem_append_right _ (jt hb e)))).2.1
  cases f with
  |next=>obtain⟨σ7,H7,I7,n7⟩:=q7;exact again I7 n7
  |cont=>obtain⟨σ7,H7,I7,n7⟩:=q7;exact again I7 n7
  |brk=>obtain⟨σ7,H7,I7,q7⟩:=q7;exact⟨σ7,H7,I7.unpinned,q7⟩
  |ret v=>obtain⟨x7,σ7,H7,I7,r7,q7⟩:=q7;exact⟨x7,σ7,H7,I7.unpinned,r7,q7⟩
end
abbrev R2:=V->V->Hp->VK->Prop
def rM (X:Cx)(f:Value->Value->Sem Value)(r:R2):Prop:=
 ∀(pins:List (Addr×Obj)) (s:Shared) (σ:St) (H:Hp) (x y:V) (v u:Value) (Q:VK),Inv X pins σ H s->RelV x v->RelV y u->r x y H Q ->
  wpAny (model X.prog X.w) X.A (f v u) (EP X pins σ Q) X.xe s
def M7 (X:Cx)(f:Value->Sem Value)(r:V->Hp->VK->Prop):Prop:=
 ∀(pins:List (Addr×Obj)) (s:Shared) (σ:St) (H:Hp) (x:V) (v:Value) (Q:VK),Inv X pins σ H s->RelV x v->r x H Q ->
  wpAny (model X.prog X.w) X.A (f v) (EP X pins σ Q) X.xe s
def fJ (X:Cx)(f:Value)(r:List V->Hp->VK->Prop):Prop:=
 ∀(pins:List (Addr×Obj)) (s:Shared) (σ:St) (H:Hp) (xs:List V) (us:List Value) (Q:VK),Inv X pins σ H s->Vals xs us->r xs H Q ->
  wpAny (model X.prog X.w) X.A (call f us) (EP X pins σ Q) X.xe s
def Nv (X:Cx)(r:V->Hp->(Bool->Hp->Prop)->Prop):Prop:=
 ∀(pins:List (Addr×Obj)) (s:Shared) (σ:St) (H:Hp) (x:V) (v:Value) (Q:Bool->Hp->Prop),Inv X pins σ H s->RelV x v->r x H Q ->
  wpAny (model X.prog X.w) X.A (truthy v) (TP X pins σ Q) X.xe s
def MW (r:R2)(ta tb:TE):TE:=fun σ H Q=>ta σ H fun x H1=>tb σ H1 fun y H2=>r x y H2 Q
def Pd (r:V->Hp->VK->Prop)(ta:TE):TE:=fun σ H Q=>ta σ H fun x H1=>r x H1 Q
def rI (C:Int->Int->Prop)(g:Int->Int->V):R2:=fun x y H Q=>∃i j,x=.int i/\y=.int j/\C i j/\Q (g i j) H
def Jj (g:Int->Int->V):R2:=fun x y H Q=>∃i j,x=.int i/\y=.int j/\Q (g i j) H
def rU (g:Int->V):V->Hp->VK->Prop:=fun x H Q=>∃i,x=.int i/\Q (g i) H
section
variable {X:Cx}{a b c:Expr}{ta tb tc:TE}{pos:Pos}
theorem JD (ha:PE X a ta)(hb:PE X b tb){pins:List (Addr×Obj)}{s:Shared}{σ:St}{H:Hp}{R:V->V->Hp->Prop}(I:Inv X pins σ H s)
  (h:ta σ H fun x H1=>tb σ H1 fun y H2=>R x y H2) {Q:Value->Shared->Prop} {f:Value->Value->Sem Value}
  (hf:∀v u s2 x y H2,Inv X pins σ H2 s2->RelV x v->RelV y u->R x y H2->wpAny (model X.prog X.w) X.A (f v u) Q X.xe s2):
  wpAny (model X.prog X.w) X.A (eval a X.env) (fun v s₁=>wpAny (model X.prog X.w) X.A (eval b X.env) (fun u s₂=>wpAny (model X.prog X.w) X.A (f v u) Q X.xe s₂) X.xe s₁) X.xe s:=by
 refine eC (ha pins s σ H _ I h) fun v s1 ⟨x,H1,I1,r1,q1⟩=>?_
 refine eC (hb pins s1 σ H1 _ I1 q1) fun u s2 ⟨y,H2,I2,r2,q2⟩=>?_
 exact hf v u s2 x y H2 I2 r1 r2 q2
theorem MC {op:Operator}{r:R2}(ho:rM X (binaryOp op) r)(ha:PE X a ta)(hb:PE X b tb):PE X (.BinOp a op b pos) (MW r ta tb):=by
 intro pins s σ H Q I h
 exact wpAny_BinOp (JD ha hb I h fun v u s2 x y H2 I2 rx ry q=>ho pins s2 σ H2 x y v u Q I2 rx ry q)
theorem MD {op:UnaryOp}{r:V->Hp->VK->Prop}(ho:M7 X (unaryOp op) r)(ha:PE X a ta):PE X (.UnaryOp op a pos) (Pd r ta):=by
 intro pins s σ H Q I h
 exact UnaryOp_ (eC (ha pins s σ H _ I h) fun v s1 ⟨x,H1,I1,r1,q1⟩=>ho pins s1 σ H1 x v Q I1 r1 q1)
theorem NM {f:Value->Value->Sem Value}{C:Int->Int->Prop}{g:Int->Int->Int}
  (rule:∀(i j:Int) (t u:Tok) (s:Shared) (Q:Value->Shared->Prop) (E:Value->Shared->Prop),C i j->Q (.int (g i j) s.toks) { s with toks:=s.toks+1 }->wpAny (model X.prog X.w) X.A (f (.int i t) (.int j u)) Q E s):
  rM X f (rI C fun i j=>.int (g i j)):=by
 intro pins s σ H x y v u Q I rx ry h
 obtain⟨i,j,rfl,rfl,hc,q⟩:=h
 obtain⟨t,rfl⟩:=rx
 obtain⟨t',rfl⟩:=ry
 exact rule i j t t' s _ _ hc ⟨.int (g i j),H,I.tok _,⟨_,rfl⟩,q⟩
theorem Mv {f:Value->Value->Sem Value}{g:Int->Int->Int}
  (rule:∀(i j:Int) (t u:Tok) (s:Shared) (Q:Value->Shared->Prop) (E:Value->Shared->Prop),Q (.int (g i j) s.toks) { s with toks:=s.toks+1 }->wpAny (model X.prog X.w) X.A (f (.int i t) (.int j u)) Q E s):
  rM X f (Jj fun i j=>.int (g i j)):=by
 intro pins s σ H x y v u Q I rx ry h
 obtain⟨i,j,rfl,rfl,q⟩:=h
 obtain⟨t,rfl⟩:=rx
 obtain⟨t',rfl⟩:=ry
 exact rule i j t t' s _ _ ⟨.int (g i j),H,I.tok _,⟨_,rfl⟩,q⟩
theorem Kv {f:Value->Value->Sem Value}{g:Int->Int->Bool}
  (rule:∀(i j:Int) (t u:Tok) (s:Shared) (Q:Value->Shared->Prop) (E:Value->Shared->Prop),Q (.bool (g i j)) s->wpAny (model X.prog X.w) X.A (f (.int i t) (.int j u)) Q E s):
  rM X f (Jj fun i j=>.bl (g i j)):=by
 intro pins s σ H x y v u Q I rx ry h
 obtain⟨i,j,rfl,rfl,q⟩:=h
 obtain⟨t,rfl⟩:=rx
 obtain⟨t',rfl⟩:=ry
 exact rule i j t t' s _ _ ⟨.bl (g i j),H,I,rfl,q⟩
def Nn (i j:Int):Prop:=0≤j/\j≤1000000/\i.natAbs<2^64
theorem Kw:rM X (binaryOp .Add) (Jj fun i j=>.int (i+j)):=Mv fun _ _ _ _ _ _ _ q=>add_int q
theorem KC:rM X (binaryOp .Sub) (Jj fun i j=>.int (i-j)):=Mv fun _ _ _ _ _ _ _ q=>sub_int q
theorem HC:rM X (binaryOp .Mod) (rI (fun _ j=>j≠0) fun i j=>.int (i.fmod j)):=NM fun _ _ _ _ _ _ _ hc q=>mod_int' hc q
theorem Pe {f:Value->Sem Value}{g:Int->Int}
  (rule:∀(i:Int) (t:Tok) (s:Shared) (Q:Value->Shared->Prop) (E:Value->Shared->Prop),Q (.int (g i) s.toks) { s with toks:=s.toks+1 }->wpAny (model X.prog X.w) X.A (f (.int i t)) Q E s):
  M7 X f (rU fun i=>.int (g i)):=by
 intro pins s σ H x v Q I rx h
 obtain⟨i,rfl,q⟩:=h
 obtain⟨t,rfl⟩:=rx
 exact rule i t s _ _ ⟨.int (g i),H,I.tok _,⟨_,rfl⟩,q⟩
theorem Lo:M7 X (unaryOp .USub) (rU fun i=>.int (-i)):=Pe fun _ _ _ _ _ q=>neg_int q
end
section
variable {X:Cx}{a b c:Expr}{ta tb tc:TE}{pos:Pos}
theorem Eb {pins:List (Addr×Obj)}{σ:St}{H:Hp}{s:Shared}{Q:VK}{k k':Bool}(I:Inv X pins σ H s)(q:Q (.bl k) H)(e:k=k'):EP X pins σ Q (.bool k') s:=by
 subst e
 exact⟨.bl k,H,I,rfl,q⟩
theorem Mz:rM X (compareOp .Lt) (Jj fun i j=>.bl (decide (i<j))):=Kv fun _ _ _ _ _ _ _ q=>lt_int q
theorem Mx:rM X (compareOp .LtE) (Jj fun i j=>.bl (decide (i≤j))):=Kv fun _ _ _ _ _ _ _ q=>le_int q
theorem Mw:rM X (compareOp .Gt) (Jj fun i j=>.bl (decide (j<i))):=Kv fun _ _ _ _ _ _ _ q=>gt_int q
theorem Ky:rM X (compareOp .Is) (fun x y H Q=>y=.non/\Q (.bl (decide (x=.non))) H):=by
 intro pins s σ H x y v u Q I rx ry h
 obtain⟨rfl,q⟩:=h
 cases ry
 refine is_none_gen (Eb I q ?_)
 cases x<;>first
  |(cases rx;rfl)
  |(obtain⟨t,rfl⟩:=rx;rfl)
theorem HD:rM X (compareOp .IsNot) (fun x y H Q=>y=.non/\Q (.bl (!decide (x=.non))) H):=by
 intro pins s σ H x y v u Q I rx ry h
 obtain⟨rfl,q⟩:=h
 cases ry
 refine isnot_none_gen (Eb I q ?_)
 cases x<;>first
  |(cases rx;rfl)
  |(obtain⟨t,rfl⟩:=rx;rfl)
theorem bz (b:Expr){op:CmpOp}(h:op≠.In:=by decide)(h2:op≠.NotIn:=by decide):behindInMarks op b=false:=by
 have e1:(op == CmpOp.In)=false:=by cases op<;>first | rfl | exact absurd rfl h
 have e2:(op == CmpOp.NotIn)=false:=by cases op<;>first | rfl | exact absurd rfl h2
 cases b<;>simp [behindInMarks,e1,e2]
theorem HG {op:CmpOp}{r:R2}(ho:rM X (compareOp op) r)(ha:PE X a ta)(hb:PE X b tb)(hm:behindInMarks op b=false):PE X (.Compare a [op] [b] pos) (MW r ta tb):=by
 intro pins s σ H Q I h
 exact wpAny_Compare1 (JD ha hb I h fun v u s2 x y H2 I2 rx ry q=>ho pins s2 σ H2 x y v u Q I2 rx ry q) hm
def MZ (t:TE):TT:=fun σ H Q=>t σ H fun x H'=>∃k,x=.bl k/\Q k H'
theorem HM {op:CmpOp}{r:R2}(ho:rM X (compareOp op) r)(ha:PE X a ta)(hb:PE X b tb)(hm:behindInMarks op b=false):PT X (.Compare a [op] [b] pos) (MZ (MW r ta tb)):=by
 intro pins s σ H Q I h
 refine wpAny_isTrue_Compare1 (eC (ha pins s σ H _ I h) fun v s1 ⟨x,H1,I1,r1,q1⟩=>eC (hb pins s1 σ H1 _ I1 q1) fun u s2 ⟨y,H2,I2,r2,q2⟩ =>
  eC (ho pins s2 σ H2 x y v u _ I2 r1 r2 q2) fun c s3 ⟨z,H3,I3,r3,k,e,q3⟩=>?_) hm
 subst e
 cases r3
 exact wpAny_truthy_bool ⟨H3,I3,q3⟩
def Jz (K:PySem.W.Frag)(x:V)(H:Hp)(k:Bool):Prop:=
 match x with
 | .non=>k=false
 | .bl b=>k=b
 | .int i=>k=(i != 0)
 | .str y=>y.length≤sizeLine/\k=((y.length:Int) != 0)
 | .byt y=>y.size≤sizeLine/\k=((y.size:Int) != 0)
 | .ref p=>(∃xs,dO K H p xs/\k = !xs.isEmpty)\/(∃xs,ly K H p xs/\k = !xs.isEmpty)\/∃kvs,H p=some (.dK kvs)/\k = !kvs.isEmpty
 |_=>False
theorem yY {κ:Type}{kvs:List (κ×V)}{vs:List (κ×Value)}(r:KV kvs vs):(!vs.isEmpty) = !kvs.isEmpty:=by
 cases r<;>rfl
theorem qw {xs:List V}{its:List Value}(r:Vals xs its):(!its.toArray.isEmpty) = !xs.isEmpty:=by
 cases r<;>simp
theorem lP:(sizeLine:Nat)<2^63:=by rw [sizeLine_eq];decide
theorem Lm:Nv X (fun x H Q=>∃k,Jz X.K x H k/\Q k H):=by
 intro pins s σ H x v Q I rx h
 obtain⟨k,e,q⟩:=h
 have hl:=lP
 have hs:sizeLine=16777216:=sizeLine_eq
 cases x with
 |non =>
  cases rx
  have e':k=false:=e
  subst e'
  exact truthy_none ⟨H,I,q⟩
 |bl b =>
  cases rx
  have e':k=b:=e
  subst e'
  exact wpAny_truthy_bool ⟨H,I,q⟩
 |int i =>
  obtain⟨t,rfl⟩:=rx
  have e':k=(i != 0):=e
  subst e'
  exact PySem.P.truthy_int ⟨H,I,q⟩
 |str y =>
  obtain⟨t,rfl⟩:=rx
  obtain⟨hy,e'⟩:y.length≤sizeLine/\k=((y.length:Int) != 0):=e
  subst e'
  exact PySem.P.truthy_str (by omega) ⟨H,I.tok _,q⟩
 |byt y =>
  obtain⟨t,rfl⟩:=rx
  obtain⟨hy,e'⟩:y.size≤sizeLine/\k=((y.size:Int) != 0):=e
  subst e'
  exact PySem.W.truthy_bytes (by omega) ⟨H,I.tok _,q⟩
 |ref p =>
  cases rx
  have e':(∃xs,dO X.K H p xs/\k = !xs.isEmpty)\/(∃xs,ly X.K H p xs/\k = !xs.isEmpty)\/∃kvs,H p=some (.dK kvs)/\k = !kvs.isEmpty:=e
  rcases e' with ⟨xs,hx,e'⟩ | ⟨xs,hx,e'⟩ | ⟨kvs,hx,e'⟩
  ·subst e'
   obtain⟨its,r,pl,hz⟩:=I.list hx
   have hlen:=r.length
   exact wpAny_truthy_list pl.isList (by simp only [List.size_toArray];omega) ⟨H,I.tok _,by rw [qw r];exact q⟩
  ·subst e'
   obtain⟨its,r,pl,hz⟩:=I.tuple hx
   have hlen:=r.length
   exact truthy_tuple pl (by simp only [List.size_toArray];omega) ⟨H,I.tok _,by rw [qw r];exact q⟩
  ·subst e'
   obtain⟨hz,hS,vs,r,m⟩:kvs.length≤sizeLine/\(p == sysModules)=false/\∃vs,KV kvs vs/\s.heap.DictOf (vg X.prog X.w) p vs:=I.hok p _ hx
   have hlen:kvs.length=vs.length:=Paired.length r
   exact wpAny_truthy_dict hS m (by omega) ⟨H,I.tok _,by rw [yY r];exact q⟩
 |_=>exact (show False from e).elim
theorem xN (ha:PE X a ta)(he:∀whole,isTrue a X.env whole=(do let v <- whole;standAt a.pos;holding [v] (truthy v))):
  PT X a (fun σ H Q=>ta σ H fun x H'=>∃k,Jz X.K x H' k/\Q k H'):=by
 intro pins s σ H Q I h
 exact isTrue_plain (eC (ha pins s σ H _ I h) fun v s1 ⟨x,H1,I1,r1,q1⟩=>Lm pins s1 σ H1 x v Q I1 r1 q1) (he _)
theorem zJ:rM X (binaryOp .Add) (fun x y H Q=>∃i j,x=.str i/\y=.str j/\i.length+j.length≤sizeLine/\Q (.str (i++j)) H):=by
 intro pins s σ H x y v u Q I rx ry h
 obtain⟨i,j,rfl,rfl,hz,q⟩:=h
 obtain⟨t,rfl⟩:=rx
 obtain⟨t',rfl⟩:=ry
 exact add_str (fun t' tk=>⟨.str (i++j),H,I.tok _,⟨_,rfl⟩,q⟩) hz
theorem vals1 {x:V}{us:List Value}(r:Vals [x] us):∃u,us=[u]/\RelV x u:=by
 cases r with
 |cons r1 r2=>cases r2;exact⟨_,rfl,r1⟩
theorem vals2 {x y:V}{us:List Value}(r:Vals [x,y] us):∃u w',us=[u,w']/\RelV x u/\RelV y w':=by
 cases r with
 |cons r1 r2 =>
  cases r2 with
  |cons r3 r4=>cases r4;exact⟨_,_,rfl,r1,r3⟩
theorem DG:fJ X (.builtin "abs") (fun xs H Q=>∃i,xs=[.int i]/\Q (.int (if i<0 then -i else i)) H):=by
 intro pins s σ H xs us Q I r h
 obtain⟨i,rfl,q⟩:=h
 obtain⟨u,rfl,t,rfl⟩:=vals1 r
 exact call_abs_int fun u tk=>⟨.int (if i<0 then -i else i),H,I.tok _,⟨_,rfl⟩,q⟩
theorem Ci (hc:X.calm=true):fJ X (.builtin "max") (fun xs H Q=>∃i j,xs=[.int i,.int j]/\Q (.int (if j>i then j else i)) H):=by
 intro pins s σ H xs us Q I r h
 obtain⟨i,j,rfl,q⟩:=h
 obtain⟨u,w',rfl,⟨t,rfl⟩,⟨t',rfl⟩⟩:=vals2 r
 refine max_two_ints (I.ok.hd hc) fun h' tk k=>⟨_,H,I.kept k,?_,q⟩
 by_cases hj:j>i
 ·rw [if_pos hj,if_pos hj];exact⟨_,rfl⟩
 ·rw [if_neg hj,if_neg hj];exact⟨_,rfl⟩
theorem Cj (hc:X.calm=true):fJ X (.builtin "min") (fun xs H Q=>∃i j,xs=[.int i,.int j]/\Q (.int (if j<i then j else i)) H):=by
 intro pins s σ H xs us Q I r h
 obtain⟨i,j,rfl,q⟩:=h
 obtain⟨u,w',rfl,⟨t,rfl⟩,⟨t',rfl⟩⟩:=vals2 r
 refine min_two_ints (I.ok.hd hc) fun h' tk k=>⟨_,H,I.kept k,?_,q⟩
 by_cases hj:j<i
 ·rw [if_pos hj,if_pos hj];exact⟨_,rfl⟩
 ·rw [if_neg hj,if_neg hj];exact⟨_,rfl⟩
theorem Cf:fJ X (.type "int") (fun xs H Q=>(∃i,xs=[.int i]/\Q (.int i) H)\/∃k,xs=[.bl k]/\Q (.int (if k then 1 else 0)) H):=by
 intro pins s σ H xs us Q I r h
 rcases h with ⟨i,rfl,q⟩ | ⟨k,rfl,q⟩
 ·obtain⟨u,rfl,t,rfl⟩:=vals1 r
  exact call_int_int ⟨.int i,H,I,⟨_,rfl⟩,q⟩
 ·obtain⟨u,rfl,r1⟩:=vals1 r
  cases r1
  exact call_int_bool ⟨.int (if k then 1 else 0),H,I.tok _,⟨_,rfl⟩,q⟩
end
theorem CH {h:Heap}{dx:Addr}{mA:Str->Option Value}(n:h.Ns1 dx mA):∃od,h.get? dx=some od/\∀name,PySem.W.lookIn name od=some (mA name):=by
 obtain⟨o,es,ep,ho,hd,hk,_,hm⟩:=n
 refine⟨o,ho,fun name=>?_⟩
 have e:=hm name
 unfold nsFind findBy at e
 rw [<- Array.find?_toList] at e
 unfold PySem.W.lookIn
 rw [hd]
 dsimp only
 split
 ·rename_i y q
  rw [q] at e
  exact congrArg some e
 ·rename_i q
  rw [q] at e
  have a:es.toList.any (·.refKey)=false:=by
   rw [List.any_eq_false]
   intro y hy
   obtain⟨z,t,hkey⟩:=hk y (Array.mem_toList_iff.mp hy)
   simp [DictEntry.refKey,hkey]
  have a':¬ es.toList.any (·.refKey)=true:=by rw [a];exact Bool.false_ne_true
  rw [if_neg a']
  exact congrArg some e
section
variable {prog:Program}{w:World}{A:Around}{E:Value->Shared->Prop}{s:Shared}{K:PySem.W.Frag}{x dx C f:Addr}{mA:Str->Option Value}{name:Str}{v:Value}
end
theorem CA {v:V}{u:Value}(r:RelV v u):PySem.W.handedIn u=true:=by
 cases v with
 |non=>cases (show u=Value.none from r);rfl
 |bl b=>cases (show u=Value.bool b from r);rfl
 |int i=>obtain⟨t,e⟩:=(show ∃t,u=Value.int i t from r);cases e;rfl
 |str x=>obtain⟨t,e⟩:=(show ∃t,u=Value.str x t from r);cases e;rfl
 |byt b=>obtain⟨t,e⟩:=(show ∃t,u=Value.bytes b t from r);cases e;rfl
 |flt b=>obtain⟨t,e⟩:=(show ∃t,u=Value.float b t from r);cases e;rfl
 |ref a=>cases (show u=Value.ref a from r);rfl
 |ty n=>cases (show u=Value.type n from r);rfl
section
variable {P:Program}{w:World}{H H':Hp}{h h':Heap}{a C dx:Addr}{fs fs':List (Str×V)}
end
def pQ (K:PySem.W.Frag)(C:Addr)(f:Str):Prop:=PySem.W.findIn K (.ref C) f=some none
section
variable {X:Cx}{pins:List (Addr×Obj)}{σ:St}{H:Hp}{s:Shared}{a C dx:Addr}{fs:List (Str×V)}{f:Str}{v:V}{A:Around}{E:Value->Shared->Prop}
theorem Gy {prog:Program}{w:World}{env:Env}{e:Expr}{f:Str}{pos:Pos}{s:Shared}{Q:Value->Shared->Prop}(hb:attributeBase e f env (eval e env)=eval e env)
  (h:wpAny (model prog w) A (eval e env) (fun o s₁=>wpAny (model prog w) A (getAttr o f true) Q E s₁) E s):wpAny (model prog w) A (eval (.Attribute e f pos) env) Q E s:=
 Attribute_any_ h (by rw [arm_eval_Attribute,hb])
end
section
variable {X:Cx}{o e value:Expr}{f:Str}{pos pos' tpos:Pos}{ta tv:TE}
end
section
variable {X:Cx}{pins:List (Addr×Obj)}{σ:St}{H:Hp}{s:Shared}{A:Around}{E:Value->Shared->Prop}{Q:Value->Shared->Prop}{c:Value}{b:Bool}
end
structure eK (k:Nat)(A:Around):Prop where
 hd:A.handled=none
 dp:A.depth+3*k+5<recursionLimit
 un:A.units+16*k+200<cLine
theorem eK.mono {j k:Nat}{A:Around}(r:eK k A)(h:j≤k):eK j A:=⟨r.hd,by have:=r.dp;omega,by have:=r.un;omega⟩
theorem eK.deeper {k:Nat}{A:Around}(r:eK (k+1) A)(env:Env):eK k (A.deeper env):=
 ⟨r.hd,by have:=r.dp;show A.depth+1+3*k+5<_;omega,by have:=r.un;show A.units+3+16*k+200<_;omega⟩
theorem zy {A:Around}{C:Addr}{us:List Value}{kw:List (Str×Value)}:(A.under (.builtin "type.__call__" ⟨.ref C::us,kw⟩)).depth=A.depth+1:=by
 first | rfl | simp [Around.under,Code.weight,Code.isCreation,Code.isGuard,Code.isCaller,Code.frames,Code.isFrame,guardIds]
theorem zA {A:Around}{C:Addr}{us:List Value}{kw:List (Str×Value)}:(A.under (.builtin "type.__call__" ⟨.ref C::us,kw⟩)).units=A.units+1:=by
 first | rfl | simp [Around.under,Code.cUnits,Code.frames,Code.isFrame]
theorem eK.make {k:Nat}{A:Around}(r:eK (k+1) A)(C:Addr)(us:List Value)(kw:List (Str×Value)):eK k (A.under (.builtin "type.__call__" ⟨.ref C::us,kw⟩)):=
 ⟨r.hd,by have:=r.dp;rw [zy];omega,by have:=r.un;rw [zA];omega⟩
theorem eK.depth {k:Nat}{A:Around}(r:eK k A):A.depth<recursionLimit:=by have:=r.dp;omega
theorem eK.units {k:Nat}{A:Around}(r:eK k A):A.units+64<cLine:=by have:=r.un;omega
def Li:TA:=fun _ H Q=>Q [] H
def FL (ta:TE)(tr:TA):TA:=fun σ H Q=>ta σ H fun x H1=>tr σ H1 fun xs H2=>Q (x::xs) H2
section
variable {X:Cx}{e:Expr}{es:List Expr}{te:TE}{t:TA}{pos:Pos}
theorem iz:PA X [] Li:=fun _ _ _ _ H Q I h=>Calls.spliced_nil ⟨[],H,I,.nil,h⟩
theorem eu (ha:PE X e te)(hr:PA X es t)(hs:starEach (e::es) X.env=(false,eval e X.env)::starEach es X.env:=by rfl):PA X (e::es) (FL te t):=by
 intro pos pins s σ H Q I h
 rw [hs]
 show wpAny _ _ (spliced ((false,eval e X.env)::backTo pos (starEach es X.env))) _ _ s
 refine Calls.spliced_cons (eC (ha pins s σ H _ I h) fun u s1 ⟨x,H1,I1,r1,q1⟩=>?_)
 exact eC (hr pos pins s1 σ H1 _ I1 q1) fun us s2 ⟨xs,H2,I2,r2,q2⟩=>⟨x::xs,H2,I2,.cons r1 r2,q2⟩
def N7 (t:TA):TE:=fun σ H Q=>t σ H fun xs H1=>xs.length≤sizeLine/\∀p,H1 p=none->Q (.ref p) (upd H1 p (.tup xs))
def N2 (t:TA):TE:=fun σ H Q=>t σ H fun xs H1=>xs.length≤sizeLine/\∀p,H1 p=none->Q (.ref p) (upd H1 p (.lst xs))
theorem KL {x1}(h:PA X es t):PE X (.Tuple es x1 pos) (N7 t):=by
 intro pins s σ H Q I hq
 refine wpAny_Tuple_spliced (eC (h pos pins s σ H _ I hq) fun us s1 ⟨xs,H1,I1,r,z,q⟩=>⟨by rw [<- r.length];exact z,?_⟩)
 have hf:H1 s1.heap.objs.size=none:=I1.hok.fresh (Nat.le_refl _)
 refine⟨.ref s1.heap.objs.size,upd H1 s1.heap.objs.size (.tup xs),I1.laid (t':=s1.toks) (fun b u e=>Heap.get?_push_of_some _ e) (Nat.le_refl _) ?_,rfl,q _ hf⟩
 exact⟨z,us,r,⟨_,Heap.get?_push_size _ rfl,rfl,_,rfl⟩⟩
theorem nO (h:PA X es t):PE X (.List es pos) (N2 t):=by
 intro pins s σ H Q I hq
 refine wpAny_List_spliced (eC (h pos pins s σ H _ I hq) fun us s1 ⟨xs,H1,I1,r,z,q⟩=>⟨by rw [<- r.length];exact z,?_⟩)
 have hf:H1 s1.heap.objs.size=none:=I1.hok.fresh (Nat.le_refl _)
 refine⟨.ref s1.heap.objs.size,upd H1 s1.heap.objs.size (.lst xs),I1.laid (t':=s1.toks) (fun b u e=>Heap.get?_push_of_some _ e) (Nat.le_refl _) ?_,rfl,q _ hf⟩
 exact⟨z,us,0,r,Heap.get?_push_size _ rfl⟩
end
abbrev Sp:=List V->Hp->VK->XK->Prop
abbrev Ar:=List Env->Hp->Shared->XK->Value->Shared->Prop
structure yp (P:Program)(w:World)(K:PySem.W.Frag)(mg:Str->Option Value)(base:Heap)(A:Around)(outer:List Env)(s:Shared)(H:Hp):Prop where
 frames:A.frames=some outer
 mod:Mod K mg base
 bs:∀b o,base.get? b=some o->s.heap.get? b=some o/\H b=none
 bsz:base.objs.size≤s.heap.objs.size
 funs:s.heap.FunFrames base outer
 frf:∀b∈nG outer,H b=none
 hok:oi P w H s.heap
 bare:AllBare s.gens
def CE (outer:List Env)(P:Program)(w:World)(H:Hp)(s:Shared)(Q:VK)(u:Value)(s':Shared):Prop:=
 ∃v H',s'.os=s.os/\AllBare s'.gens/\Un (nG outer) [] H H' s.heap s'.heap/\oi P w H' s'.heap/\RelV v u/\Q v H'
def CR (CX:Ar)(outer:List Env)(P:Program)(w:World)(H:Hp)(s:Shared)(Q:VK)(E:XK)(r:Result)(s':Shared):Prop:=
 match r with
 | .ok (.ret u)=>CE outer P w H s Q u s'
 | .ok _=>False
 | .error e=>CX outer H s E e s'
structure ir (P:Program)(w:World)(K:PySem.W.Frag)(mg:Str->Option Value)(base:Heap)(CX:Ar)(k:Nat)(f:Addr)(fd:FuncData)(ps:List Str)(sp:Sp):Prop where
 len:∀vs H Q E,sp vs H Q E->vs.length=ps.length
 run:∀(A:Around) (outer:List Env) (s:Shared) (H:Hp) (args:Args) (us:List Value) (vs:List V) (Q:VK) (E:XK),eK k A->yp P w K mg base A outer s H->BindsTo s fd args (ps.zip us)->Vals vs us->sp vs H Q E ->
  codeAny (model P w) A (.call (.ref f) args) (CR CX outer P w H s Q E) s
theorem ir.mono {P:Program}{w:World}{K:PySem.W.Frag}{mg:Str->Option Value}{base:Heap}{CX:Ar}{j k:Nat}{f:Addr}{fd:FuncData}{ps:List Str}{sp:Sp}(F:ir P w K mg base CX j f fd ps sp)(h:j≤k):
  ir P w K mg base CX k f fd ps sp:=⟨F.len,fun A outer s H args us vs Q E hr=>F.run A outer s H args us vs Q E (hr.mono h)⟩
theorem ir.imp {P:Program}{w:World}{K:PySem.W.Frag}{mg:Str->Option Value}{base:Heap}{CX:Ar}{k:Nat}{f:Addr}{fd:FuncData}{ps:List Str}{sp sp':Sp}(F:ir P w K mg base CX k f fd ps sp)
  (h:∀vs H Q E,sp' vs H Q E->sp vs H Q E):ir P w K mg base CX k f fd ps sp':=
 ⟨fun vs H Q E q=>F.len vs H Q E (h _ _ _ _ q),fun A outer s H args us vs Q E hr he hb hv hs=>F.run A outer s H args us vs Q E hr he hb hv (h _ _ _ _ hs)⟩
theorem yp.make {P:Program}{w:World}{K:PySem.W.Frag}{mg:Str->Option Value}{base:Heap}{A:Around}{outer:List Env}{s:Shared}{H:Hp}(e:yp P w K mg base A outer s H)(C:Addr)(us:List Value)(kw:List (Str×Value)):
  yp P w K mg base (A.under (.builtin "type.__call__" ⟨.ref C::us,kw⟩)) outer s H:=⟨by first | exact e.frames | (simpa [Around.under,Code.envs,Code.isFrame,pushEnvs] using e.frames),e.mod,e.bs,e.bsz,e.funs,e.frf,e.hok,e.bare⟩
section
variable {X:Cx}{pins:List (Addr×Obj)}{σ:St}{H:Hp}{s s':Shared}
theorem Inv.env0 (I:Inv X pins σ H s):yp X.prog X.w X.K X.mg X.base X.A X.stack s H:=
 ⟨I.ok.frames,I.ok.mod,I.bs,Nat.le_trans I.ok.bsz I.sz,I.stack,I.stkFree,I.hok,I.bare⟩
theorem Inv.after {Q:VK}{u:Value}(I:Inv X pins σ H s)(h:CE X.stack X.prog X.w H s Q u s'):EP X pins σ Q u s':=by
 obtain⟨v,H',os,bare,un,hok,r,q⟩:=h
 obtain⟨hh,g,d,t,os'⟩:=s'
 obtain rfl:os'=s.os:=os
 exact⟨v,H',I.call (h':=hh) (g':=g) (d':=d) (t':=t) (ch:=[]) un hok bare (fun b z=>absurd z (by simp)),r,q⟩
end
def MS (sp:Sp)(dvs:List V)(E:XK)(t:TA):TE:=fun σ H Q=>t σ H fun vs H1=>sp (vs++dvs) H1 Q E
def Binds (K:PySem.W.Frag)(fd:FuncData)(ps:List Str)(ds:List Value):Prop:=
 ∀(s:Shared) (us:List Value),K.In s.heap->(us++ds).length=ps.length->BindsTo s fd ⟨us,[]⟩ (ps.zip (us++ds))
theorem Binds.all {K:PySem.W.Frag}{fd:FuncData}{ps:List Str}(h:∀us:List Value,us.length=ps.length->bindArgs fd ⟨us,[]⟩=pure (ps.zip us)):Binds K fd ps []:=fun s us _ hl=>by
 rw [List.append_nil] at hl ⊢
 exact .of_eq (h us hl)
def Passes (CX:Ar)(X:Cx)(E:XK):Prop:=∀(pins:List (Addr×Obj)) (σ:St) (H:Hp) (s:Shared) (e:Value) (s':Shared),Inv X pins σ H s->CX X.stack H s E e s'->X.xe e s'
section
variable {X:Cx}{CX:Ar}{k:Nat}{f C:Addr}{fd:FuncData}{ps:List Str}{sp:Sp}{dvs:List V}{ds:List Value}{E:XK}{x m:Str}{p pos apos:Pos}{e o:Expr}{es:List Expr}{ta:TE}{t:TA}
theorem K0 {pins:List (Addr×Obj)}{σ:St}{H:Hp}{s:Shared}{Q:VK}{us:List Value}{vs:List V}(F:ir X.prog X.w X.K X.mg X.base CX k f fd ps sp)(hr:eK k X.A)(hb:Binds X.K fd ps ds)(hd:Vals dvs ds)(hx:Passes CX X E)
  (I:Inv X pins σ H s) (r:Vals vs us) (h:sp (vs++dvs) H Q E):wpAny (model X.prog X.w) X.A (call (.ref f) us) (EP X pins σ Q) X.xe s:=by
 have r2:Vals (vs++dvs) (us++ds):=r.append hd
 have hl:(us++ds).length=ps.length:=by rw [<- r2.length];exact F.len _ _ _ _ h
 refine wpAny_call (codeAny_mono (F.run X.A X.stack s H ⟨us,[]⟩ (us++ds) (vs++dvs) Q E hr I.env0 (hb s us I.kIn hl) r2 h) fun r s' hq=>?_)
 cases r with
 |error e=>exact hx pins σ H s e s' I hq
 |ok fl =>
  cases fl with
  |ret u=>exact I.after hq
  |next=>exact False.elim hq
  |brk=>exact False.elim hq
  |cont=>exact False.elim hq
theorem vv (F:ir X.prog X.w X.K X.mg X.base CX k f fd ps sp)(hr:eK k X.A)(hg:Gl X x)(hm:X.mg x=some (.ref f))(hk:PySem.W.keepIn X.K (.ref f)=true)(hb:Binds X.K fd ps ds)(hd:Vals dvs ds)(hx:Passes CX X E)
  (ha:PA X (e::es) t) (hdb:(x == ("__debug__" : Str))=false:=by decide) (he:starEach (e::es) X.env=(false,eval e X.env)::starEach es X.env:=by rfl) (hpl:(backTo pos (starEach es X.env)).any (·.1)=false:=by rfl):
  PE X (.Call (.Name x p) (e::es) [] pos) (MS sp dvs E t):=by
 intro pins s σ H Q I h
 refine wpAny_Call_Name_kw (kN I hg hm ?_ hdb)
 refine PySem.W.callWith_K (h₀:=X.base) I.ok.mod.kin hk (eC (ha pos pins s σ H _ I h) fun us s1 ⟨vs,H1,I1,r,q⟩=>⟨I1.kIn,?_⟩) he hpl
 exact K0 F hr hb hd hx I1 r q
end
section
variable {X:Cx}{CX:Ar}{k:Nat}{f C:Addr}{fd:FuncData}{ps ks:List Str}{sp:Sp}{E:XK}{x m:Str}{p pos apos kpos:Pos}{e o:Expr}{es:List Expr}{kws:List Keyword}{te ta:TE}{t tk:TA}{nm:Option Str}
variable {g:List Value->List Value->List Value}{gV:List V->List V->List V}
end
structure aV (N P:List Str)(sc:Scope):Prop where
 kind:sc.kind=.function
 co:sc.isCoroutine=false
 gen:sc.isGenerator=false
 nd:N.Nodup
 pre:N.take P.length=P
 par:∀x∈P,sc.names.lookup x=some .local\/sc.names.lookup x=some .cell
 nofree:∀y∈sc.names,y.2≠.free
theorem sO {kindOf:Str->Option NameKind}{x:Str}:∀{binds:List (Str×Value)} {m:Str->Option Value},(∀v,(x,v)∉binds)->bindL kindOf binds m x=m x
 |[],_,_=>rfl
 |(n,v)::r,m,h=>by
  unfold bindL
  rw [sO fun w hw=>h w (List.mem_cons_of_mem _ hw)]
  split
  ·have:x≠n:=by rintro rfl;exact h v List.mem_cons_self
   simp [this]
  ·rfl
theorem sL {kindOf:Str->Option NameKind}{x:Str}:∀{binds:List (Str×Value)} {m:Str->Option Value},(∀v,(x,v)∉binds)->bindC kindOf binds m x=m x
 |[],_,_=>rfl
 |(n,v)::r,m,h=>by
  unfold bindC
  rw [sL fun w hw=>h w (List.mem_cons_of_mem _ hw)]
  split
  ·rfl
  ·have:x≠n:=by rintro rfl;exact h v List.mem_cons_self
   simp [this]
theorem sM {kindOf:Str->Option NameKind}{x:Str}{v:Value}:∀{P:List Str} {vs:List Value} {i:Nat} {m:Str->Option Value},P.Nodup->P[i]? = some x->vs[i]? = some v->kindOf x=some .local ->
  bindL kindOf (P.zip vs) m x=some v
 |[],_,_,_,_,h,_,_=>by simp at h
 |_::_,[],_,_,_,_,h,_=>by simp at h
 |p::P,w::vs,0,m,nd,h1,h2,hk=>by
  simp at h1 h2;subst h1;subst h2
  show bindL kindOf ((p,w)::P.zip vs) m p=_
  unfold bindL
  rw [sO fun v hv=>(List.nodup_cons.mp nd).1 (List.of_mem_zip hv).1,if_pos hk]
  simp
 |p::P,w::vs,i+1,m,nd,h1,h2,hk=>by
  show bindL kindOf ((p,w)::P.zip vs) m x=_
  unfold bindL
  exact sM (i:=i) (List.nodup_cons.mp nd).2 (by simpa using h1) (by simpa using h2) hk
theorem sJ {kindOf:Str->Option NameKind}{x:Str}{v:Value}:∀{P:List Str} {vs:List Value} {i:Nat} {m:Str->Option Value},P.Nodup->P[i]? = some x->vs[i]? = some v->kindOf x≠some .local ->
  bindC kindOf (P.zip vs) m x=some v
 |[],_,_,_,_,h,_,_=>by simp at h
 |_::_,[],_,_,_,_,h,_=>by simp at h
 |p::P,w::vs,0,m,nd,h1,h2,hk=>by
  simp at h1 h2;subst h1;subst h2
  show bindC kindOf ((p,w)::P.zip vs) m p=_
  unfold bindC
  rw [sL fun v hv=>(List.nodup_cons.mp nd).1 (List.of_mem_zip hv).1,if_neg hk]
  simp
 |p::P,w::vs,i+1,m,nd,h1,h2,hk=>by
  show bindC kindOf ((p,w)::P.zip vs) m x=_
  unfold bindC
  exact sJ (i:=i) (List.nodup_cons.mp nd).2 (by simpa using h1) (by simpa using h2) hk
def start (N:List Str)(vs:List V):St:=vs.map some++List.replicate (N.length-vs.length) none
def nA (CX:Ar)(P:Program)(w:World)(K:PySem.W.Frag)(mg:Str->Option Value)(base:Heap)(N:List Str)(qual:Str)(scope:Scope)(f:Addr)(cd:Value)(A:Around)(outer:List Env)(s:Shared)(H:Hp)(E:XK):Cx where
 prog:=P
 w:=w
 K:=K
 mg:=mg
 base:=base
 A:=A.deeper (envOfC qual scope s.heap.objs.size f cd)
 N:=N
 Y8:=s
 Y9:=H
 env:=envOfC qual scope s.heap.objs.size f cd
 outer:=outer
 stack:=envOfC qual scope s.heap.objs.size f cd::outer
 ex:=[]
 calm:=true
 fn:=fun _=>true
 pn:=[]
 xe:=fun e s'=>wpAny (model P w) (A.deeper (envOfC qual scope s.heap.objs.size f cd)) (leaving (envOfC qual scope s.heap.objs.size f cd) e) (fun _ s''=>CX outer H s E e s'') (fun e' s''=>CX outer H s E e' s'') s'
theorem wB {sc:Scope}{n:Nat}{x:Str}(h:sc.names.lookup x=some .cell):∃c,(cellsFrom n sc.names []).lookup x=some c:=by
 have q:=PySem.W.cellsFrom_some sc.names n [] (.inl h)
 exact Option.isSome_iff_exists.mp q
theorem CD {CX:Ar}{P:Program}{w:World}{K:PySem.W.Frag}{mg:Str->Option Value}{base:Heap}{N ps:List Str}{qual:Str}{scope:Scope}{f:Addr}{cd:Value}{A:Around}{outer:List Env}{s s1:Shared}{H:Hp}{E:XK}{us:List Value}{vs:List V}
  (S:aV N ps scope) (hd:A.handled=none) (e0:yp P w K mg base A outer s H) (hl:vs.length=ps.length) (r:Vals vs us)
  (x:InCallC s s.heap.objs.size (bindL (envOfC qual scope s.heap.objs.size f cd).kindOf (ps.zip us) fun _=>none) (cellsFrom (s.heap.objs.size+1) scope.names []) (bindC (envOfC qual scope s.heap.objs.size f cd).kindOf (ps.zip us) fun _=>none) s1):
  Inv (nA CX P w K mg base N qual scope f cd A outer s H E) [] (start N vs) H s1:=by
 have hpl:ps.length≤N.length:=by have:=congrArg List.length S.pre;rw [List.length_take] at this;omega
 obtain⟨h1,tk,rfl,hk⟩:=x.done
 have noA:∀b:Addr,b∉(nA CX P w K mg base N qual scope f cd A outer s H E).ex:=fun b z=>absurd (show b∈([]:List Addr) from z) (by simp)
 refine⟨⟨e0.mod,S.kind,rfl,rfl,Nat.le_refl _,fun y z c h1 h2=>?_,fun y hy=>?_,fun y c _ h=>?_,fun _=>hd,Around.frames_deeper e0.frames,.inr ⟨rfl,rfl⟩,fun b z=>absurd z (noA b),e0.bs,e0.bsz,fun b _ _=>noA b,fun b z=>absurd z (noA b),e0.funs,e0.frf⟩,
  rfl,e0.bare,Un.kept hk,⟨_,x.toInCall.ns,fun i y v h1 h2 h3=>?_⟩,fun y c h=>⟨_,x.cell y c h⟩,e0.hok.fresh (Nat.le_refl _),fun y c h=>?_,fun p hp=>absurd (show p∈([]:List (Addr×Obj)) from hp) (by simp),e0.hok.kept hk,?_⟩
 ·exact name_of_addr x.apart (PySem.mem_of_lookup h1) (PySem.mem_of_lookup h2)
 ·have hy:scope.names.lookup y=some .cell\/scope.names.lookup y=some .free:=hy
  rcases hy with hy | hy
  ·exact wB hy
  ·exact absurd rfl (S.nofree _ (PySem.mem_of_lookup hy))
 ·exact Nat.le_of_lt (x.above y c (PySem.mem_of_lookup h))
 ·have hi:i<vs.length:=by
   unfold start at h2
   by_cases hi:i<vs.length
   ·exact hi
   ·rw [List.getElem?_append_right (by simpa using hi)] at h2
    rw [List.getElem?_replicate] at h2
    split at h2<;>cases h2
  have ha:vs[i]? = some v:=by
   unfold start at h2
   rw [List.getElem?_append_left (by simpa using hi),List.getElem?_map] at h2
   cases e:vs[i]? with
   |none=>rw [e] at h2;cases h2
   |some a=>rw [e] at h2;cases h2;rfl
  obtain⟨u,hu,rv⟩:=r.get ha
  have hp:ps[i]? = some y:=by
   rw [<- S.pre,List.getElem?_take_of_lt (by omega)];exact h1
  have ndP:ps.Nodup:=by rw [<- S.pre];exact S.nd.sublist (List.take_sublist _ _)
  refine⟨u,rv,?_⟩
  rcases S.par y (List.mem_of_getElem? hp) with k | k
  ·exact .inl ⟨k,sM ndP hp hu k⟩
  ·obtain⟨c,e⟩:=wB (n:=s.heap.objs.size+1) k
   refine .inr ⟨.inl k,c,e,?_⟩
   have q:=x.cell y c e
   rw [sJ ndP hp hu (by show scope.names.lookup y≠_;rw [k];decide)] at q
   exact q
 ·exact e0.hok.fresh (Nat.le_of_lt (x.above y c (PySem.mem_of_lookup h)))
 ·unfold start
  show _=N.length
  rw [List.length_append,List.length_map,List.length_replicate]
  omega
theorem IU {CX:Ar}{P:Program}{w:World}{K:PySem.W.Frag}{mg:Str->Option Value}{base:Heap}{k:Nat}{f:Addr}{name qual:Str}{params:Arguments}{body:List Stmt}{scope:Scope}{dV kV doc pm cdv ct oc:Value}{an od:Option Addr}
  {osl:Array (Option Value)} {N ps:List Str} {sp:Sp} (lk:K.lookup f=some ⟨oc,od,.func (PySem.W.fnOf name qual params body scope dV kV doc pm an cdv ct),osl⟩) (hcd:PySem.W.codeIn K cdv qual=true) (S:aV N ps scope)
  (len:∀vs H Q E,sp vs H Q E->vs.length=ps.length)
  (hbody:∀(A:Around) (outer:List Env) (s:Shared) (H:Hp) (vs:List V) (Q:VK) (E:XK),eK k (A.deeper (envOfC qual scope s.heap.objs.size f cdv))->sp vs H Q E ->
   ∃t,kX (nA CX P w K mg base N qual scope f cdv A outer s H E) body t/\t { nx:=fun _ H'=>Q .non H',rt:=Q } (start N vs) H):
  ir P w K mg base CX (k+1) f (PySem.W.fnOf name qual params body scope dV kV doc pm an cdv ct) ps sp:=by
 refine⟨len,fun A outer s H args us vs Q E hr e0 hb r hsp=>?_⟩
 have hl:=len _ _ _ _ hsp
 have KX:K.In s.heap:=e0.mod.kin.keeps fun b o e=>(e0.bs b o e).1
 have lim:s.heap.NoLimit:=e0.mod.nolimit.keeps fun b o e=>(e0.bs b o e).1
 have hkind:∀y∈ps.zip us,scope.names.lookup y.1=some .local\/(scope.names.lookup y.1=some .cell/\((cellsFrom (s.heap.objs.size+1) scope.names []).lookup y.1).isSome=true):=fun⟨n,v⟩ hy=>by
  rcases S.par n (List.of_mem_zip hy).1 with q | q
  ·exact .inl q
  ·exact .inr ⟨q,PySem.W.cellsFrom_some _ _ _ (.inl q)⟩
 refine codeAny_call_function hr.depth (KX _ _ lk) rfl S.co S.gen rfl (PySem.W.codeRec_of KX hcd) (hb _ _ _ _ ?_)
 refine wpAny_newFunctionEnv_cells S.kind hkind fun env he s1 x=>?_
 subst he
 refine⟨lim.keeps x.toInCall.keep,codeAny_func ?_⟩
 obtain⟨t,ht,hq⟩:=hbody A outer s H vs Q E (hr.deeper _) hsp
 have I:Inv (nA CX P w K mg base N qual scope f cdv A outer s H E) [] (start N vs) H s1:=CD S hr.hd e0 hl r x
 refine wpAny_mono (ht [] s1 (start N vs) H _ I hq) (fun fl s' hs=>?_) fun e s' hs=>hs
 have fin:∀{σ':St} {H':Hp} {v:V} {u:Value},Inv (nA CX P w K mg base N qual scope f cdv A outer s H E) [] σ' H' s'->RelV v u->Q v H'->CE outer P w H s Q u s':=
  fun {σ' H' v u} J rv q=>⟨v,H',J.os,J.bare,J.base,J.hok,rv,q⟩
 cases fl with
 |ret u =>
  obtain⟨v,σ',H',J,rv,q⟩:=hs
  exact fin J rv q
 |next =>
  obtain⟨σ',H',J,q⟩:=hs
  exact fin (v:=V.non) (u:=Value.none) J rfl q
 |brk =>
  obtain⟨_,_,_,q⟩:=hs
  exact False.elim q
 |cont =>
  obtain⟨_,_,_,q⟩:=hs
  exact False.elim q
section
variable {X:Cx}{x:Str}{p pos:Pos}{e:Expr}{es:List Expr}{t:TA}{id T:String}{r:List V->Hp->VK->Prop}
def Ng (r:List V->Hp->VK->Prop)(t:TA):TE:=fun σ H Q=>t σ H fun vs H1=>r vs H1 Q
theorem xH (hc:fJ X (.builtin id) r)(hg:Gl X x)(hm:X.mg x=none)(hv:bootBuiltins x=some (.builtin id))(ha:PA X (e::es) t)(hn:x≠"__name__" := by decide)(hdb:(x == ("__debug__" : Str))=false:=by decide)
  (he:starEach (e::es) X.env=(false,eval e X.env)::starEach es X.env:=by rfl) (hpl:(backTo pos (starEach es X.env)).any (·.1)=false:=by rfl):PE X (.Call (.Name x p) (e::es) [] pos) (Ng r t):=by
 intro pins s σ H Q I h
 refine wpAny_Call_Name_kw (ki I hg hm hv ?_ hn hdb)
 exact PyProof.Rows.callWith_builtin1 (eC (ha pos pins s σ H _ I h) fun us s1 ⟨vs,H1,I1,r1,q1⟩=>hc pins s1 σ H1 vs us Q I1 r1 q1) he hpl
theorem tu (hc:fJ X (.type T) r)(hg:Gl X x)(hm:X.mg x=none)(hv:bootBuiltins x=some (.type T))(ha:PA X (e::es) t)(hn:x≠"__name__" := by decide)(hdb:(x == ("__debug__" : Str))=false:=by decide)
  (he:starEach (e::es) X.env=(false,eval e X.env)::starEach es X.env:=by rfl) (hpl:(backTo pos (starEach es X.env)).any (·.1)=false:=by rfl):PE X (.Call (.Name x p) (e::es) [] pos) (Ng r t):=by
 intro pins s σ H Q I h
 refine wpAny_Call_Name_kw (ki I hg hm hv ?_ hn hdb)
 exact PyProof.Rows.callWith_type1 (eC (ha pos pins s σ H _ I h) fun us s1 ⟨vs,H1,I1,r1,q1⟩=>hc pins s1 σ H1 vs us Q I1 r1 q1) he hpl
end
end L2
namespace HT
open PySem PyProof.Rows
section
open PySem.SeqAt
open PySem.AutoSeq1 (wpAny_loadPart')
open PySem.MeetsSeq PySem.MeetsSeq2 PySem.MeetsSeq3
end
section
variable {prog:Program}{w:World}{A:Around}{E:Value->Shared->Prop}{s:Shared}
theorem GH {t b:Addr}{vs ws:List Value}{Q:Value->Shared->Prop}(ht:IsTup s.heap t vs.toArray)(hb:IsTup s.heap b ws.toArray)(hv:vs≠[])
  (h1:ws=[]->Q (.ref t) s) (h2:ws≠[]->Q (.ref s.heap.objs.size) { s with heap:=s.heap.push { cls:=.type "tuple", data:=.seq (vs++ws).toArray } })
  (hsz:vs.length+ws.length≤sizeLine):wpAny (model prog w) A (binaryOp .Add (.ref t) (.ref b)) Q E s:=by
 obtain⟨⟨cls,dd,data,sl⟩,ho,hc,n,hd⟩:=id ht
 obtain⟨⟨cls2,dd2,data2,sl2⟩,ho2,hc2,n2,hd2⟩:=id hb
 simp only at hc hd hc2 hd2
 subst hc hd hc2 hd2
 have e:vs.toArray++ws.toArray=(vs++ws).toArray:=by simp
 by_cases hw:ws=[]
 ·exact concat_meets ⟨_,ho,rfl⟩ ⟨_,ho2,rfl⟩ noFill_tuple_add seq_tuple_add PySem.F.slot_tuple_add PySem.F.entry_tuple_add (PySem.F.args_tuple_add_2 _ _)
   (tuple_addW1 t b vs.toArray ws.toArray n n2 dd dd2 sl sl2 (by simpa using hv) (by simp [hw])) ⟨ho,ho2,h1 hw⟩
 ·refine concat_meets ⟨_,ho,rfl⟩ ⟨_,ho2,rfl⟩ noFill_tuple_add seq_tuple_add PySem.F.slot_tuple_add PySem.F.entry_tuple_add (PySem.F.args_tuple_add_2 _ _)
   (tuple_addW2 t b vs.toArray ws.toArray n n2 dd dd2 sl sl2 (by simpa using hv) (by simpa using hw) (by rw [List.size_toArray,List.size_toArray];exact hsz)) ⟨ho,ho2,?_⟩
  rw [e]
  exact h2 hw
def fz (n d:Nat):Option Int->Nat
 |none=>d
 |some v=>if v<0 then (v+(n:Int)).toNat else min v.toNat n
theorem Fv (n d:Nat):fz n d none=d:=rfl
theorem vC (n d k:Nat):fz n d (some (k:Int))=min k n:=by
 show (if (k:Int)<0 then ((k:Int)+(n:Int)).toNat else min (k:Int).toNat n)=min k n
 rw [if_neg (by omega),Int.toNat_natCast]
theorem K1 (n d:Nat)(hd:d≤n)(o:Option Int):fz n d o≤n:=by
 cases o with
 |none=>exact hd
 |some v =>
  show (if v<0 then (v+(n:Int)).toNat else min v.toNat n)≤n
  by_cases hv:v<0
  ·rw [if_pos hv];omega
  ·rw [if_neg hv];exact Nat.min_le_right _ _
theorem AJ (v:Int)(n d:Nat):(if v<0 then max (v+(n:Int)) 0 else min v (n:Int))=((fz n d (some v):Nat):Int):=by
 show (if v<0 then max (v+(n:Int)) 0 else min v (n:Int))=(((if v<0 then (v+(n:Int)).toNat else min v.toNat n):Nat):Int)
 by_cases hv:v<0
 ·simp only [if_pos hv];omega
 ·simp only [if_neg hv];omega
theorem yw (lo hi:Option Int)(n:Nat):Builtin.Slice.sliceAdjust lo hi 1 (n:Int)=(((fz n 0 lo:Nat):Int),((fz n n hi:Nat):Int)):=by
 have h1:¬ ((1:Int)<0):=by omega
 unfold Builtin.Slice.sliceAdjust
 simp only [h1,if_false]
 refine Prod.ext ?_ ?_
 ·cases lo with
  |none=>rfl
  |some v=>exact AJ v n 0
 ·cases hi with
  |none=>rfl
  |some v=>exact AJ v n n
theorem zK (i j:Nat):Builtin.Slice.slicePlaces (i:Int) (j:Int) 1=j-i:=by
 unfold Builtin.Slice.slicePlaces
 have h1:(1:Int)>0:=by omega
 simp only [h1,if_true,Int.ediv_one]
 split<;>omega
theorem rg {v:Value}{o:Option Int}{Q:Option Int->Shared->Prop}(p:IsPart v o)(h:Q o s):wpAny (model prog w) A (Builtin.Slice.slicePartIndex v) Q E s:=by
 cases p with
 |none=>exact slicePart_none h
 |int i t=>exact slicePart_int h
theorem nZ {sl:Addr}{vl vu:Value}{lo hi:Option Int}{n:Nat}{Q:Int×Int×Nat->Shared->Prop}(hs:s.heap.IsSliceOf sl vl vu .none)(pl:IsPart vl lo)(pu:IsPart vu hi)
  (h:Q (((fz n 0 lo:Nat):Int),1,fz n n hi-fz n 0 lo) s):wpAny (model prog w) A (Builtin.Slice.sliceApplied (.ref sl) (pure (n:Int))) Q E s:=by
 obtain⟨os,hos,hcs,hds⟩:=id hs
 unfold Builtin.Slice.sliceApplied Builtin.Slice.sliceFields
 refine wpAny_bind (wpAny_bind (wpAny_field hos hds (x:=vl) rfl (wpAny_bind (wpAny_field hos hds (x:=vu) rfl (wpAny_bind (wpAny_field hos hds (x:=.none) rfl (wpAny_pure ?_)))))))
 refine wpAny_bind (slicePart_none ?_)
 show wpAny _ _ (if ((1:Int) == 0)=true then _ else _) _ _ s
 rw [if_neg (by decide)]
 refine wpAny_bind (rg pl (wpAny_bind (rg pu (wpAny_bind (wpAny_pure ?_)))))
 show wpAny _ _ (match Builtin.Slice.sliceAdjust lo hi 1 (n:Int) with | (lo,hi)=>pure (lo,(1:Int),Builtin.Slice.slicePlaces lo hi 1)) _ _ s
 rw [yw lo hi n]
 show wpAny _ _ (pure (((fz n 0 lo:Nat):Int),(1:Int),Builtin.Slice.slicePlaces ((fz n 0 lo:Nat):Int) ((fz n n hi:Nat):Int) 1)) _ _ s
 rw [zK]
 exact wpAny_pure h
theorem Fh (xs:Array Value)(i k:Nat):((List.range k).filterMap fun (m:Nat)=>xs[((i:Int)+(m:Int)*1).toNat]?).toArray=((xs.toList.drop i).take k).toArray:=by
 have e:(fun (m:Nat)=>xs[((i:Int)+(m:Int)*1).toNat]?)=fun m=>xs[i+m]?:=by
  funext m
  have:((i:Int)+(m:Int)*1).toNat=i+m:=by omega
  rw [this]
 rw [e]
 have:=pick_run xs i k
 rw [List.filterMap_map] at this
 have e2:((fun x=>xs[x]?) ∘ fun x=>i+x)=fun m=>xs[i+m]?:=rfl
 rw [e2] at this
 rw [this]
theorem mE {t sl:Addr}{items:Array Value}{vl vu:Value}{lo hi:Option Int}{Q:Value->Shared->Prop}(ht:IsTup s.heap t items)(hs:s.heap.IsSliceOf sl vl vu .none)(pl:IsPart vl lo)(pu:IsPart vu hi)
  (hw:¬ (fz items.size 0 lo=0/\fz items.size items.size hi=items.size))
  (h:Q (.ref s.heap.objs.size) { s with heap:=s.heap.push { cls:=.type "tuple", data:=.seq ((items.toList.drop (fz items.size 0 lo)).take (fz items.size items.size hi-fz items.size 0 lo)).toArray } })
  (hsz:items.size≤sizeLine):wpAny (model prog w) A (getItem (.ref t) (.ref sl)) Q E s:=by
 have htake:sizeOk (.seq ((items.toList.drop (fz items.size 0 lo)).take (fz items.size items.size hi-fz items.size 0 lo)).toArray):=by
  show ((items.toList.drop (fz items.size 0 lo)).take (fz items.size items.size hi-fz items.size 0 lo)).toArray.size≤sizeLine
  rw [List.size_toArray,List.length_take,List.length_drop,Array.length_toList]
  omega
 have hj:fz items.size items.size hi≤items.size:=K1 _ _ (Nat.le_refl _) hi
 obtain⟨os,hos,hcs,hds⟩:=id hs
 have hTs:s.TypeIs (.ref sl) "slice" := ⟨os,hos,hcs⟩
 unfold getItem
 try with_reducible refine wpAny_holding ?_
 first | refine wpAny_bind (wpAny_pure ?_) | skip
 refine wpAny_bind (wpAny_sequenceKey ht.typeIs (by decide) ?_)
 refine wpAny_bind (wpAny_callSpecial?_slot (name:=Str.ofString "__getitem__") ht.typeIs PyProof.Rows.slot_tuple_getitem
  (wpAny_call_entry PyProof.Rows.slot_tuple_getitem ht.typeIs entry_tuple_getitem ?_ (args_tuple_getitem _ _)))
 show wpAny _ _ (Builtin.Tuple.tupleItemsOf (.ref t) >>= _) _ _ s
 refine wpAny_bind (tupleItemsOf_ ht ?_)
 refine wpAny_bind (wpAny_typeOf hTs ?_)
 rw [if_pos (by decide)]
 refine wpAny_bind (nZ hs pl pu ?_)
 have hno:¬ ((((fz items.size 0 lo:Nat):Int) == 0&&(1:Int) == 1&&(fz items.size items.size hi-fz items.size 0 lo) == items.size)=true):=by
  intro q
  rw [Bool.and_eq_true,Bool.and_eq_true] at q
  have q1:((fz items.size 0 lo:Nat):Int)=0:=eq_of_beq q.1.1
  have q2:fz items.size items.size hi-fz items.size 0 lo=items.size:=eq_of_beq q.2
  exact hw ⟨by omega,by omega⟩
 show wpAny _ _ (if (((fz items.size 0 lo:Nat):Int) == 0&&(1:Int) == 1&&(fz items.size items.size hi-fz items.size 0 lo) == items.size)=true then _ else _) _ _ s
 rw [if_neg hno,Fh]
 first
  |exact wpAny_bind (m:=Builtin.Tuple.tupleExact _) (wpAny_newObj_type (wpAny_pure ⟨_,rfl,wpAny_pure h⟩) htake)
  |exact wpAny_bind (m:=Builtin.Tuple.tupleExact _) (wpAny_newObj_type (wpAny_bind (wpAny_pure (wpAny_pure ⟨_,rfl,wpAny_pure h⟩))) htake)
  |exact wpAny_bind (wpAny_bind (m:=Builtin.Tuple.tupleExact _) (wpAny_newObj_type (wpAny_pure (wpAny_pure ⟨_,rfl,wpAny_pure h⟩)) htake))
  |exact wpAny_bind (wpAny_bind (m:=Builtin.Tuple.tupleExact _) (wpAny_newObj_type (wpAny_pure ⟨_,rfl,wpAny_pure h⟩) htake))
end
end HT
namespace L2
open PySem PySem.Spec PyProof.Rows
abbrev TO:=St->Hp->(Option Int->Hp->Prop)->Prop
def PO (X:Cx)(e:Option Expr)(t:TO):Prop:=
 ∀(pins:List (Addr×Obj)) (s:Shared) (σ:St) (H:Hp) (Q:Option Int->Hp->Prop),Inv X pins σ H s->t σ H Q ->
  wpAny (model X.prog X.w) X.A (evalPart e X.env) (fun u s'=>∃o H',Inv X pins σ H' s'/\IsPart u o/\Q o H') X.xe s
def Iv:TO:=fun _ H Q=>Q none H
def MX (t:TE):TO:=fun σ H Q=>t σ H fun x H1=>∃i,x=.int i/\Q (some i) H1
section
variable {X:Cx}{e:Expr}{te:TE}{lo hi:Option Expr}{tl th:TO}{pos p2:Pos}
theorem HI:PO X none Iv:=by
 intro pins s σ H Q I h
 rw [evalPart_none]
 exact wpAny_pure ⟨none,H,I,.none,h⟩
theorem HJ (h:PE X e te):PO X (some e) (MX te):=by
 intro pins s σ H Q I hw
 rw [evalPart_some]
 refine eC (h pins s σ H _ I hw) fun u s1 ⟨x,H1,I1,r1,q1⟩=>?_
 obtain⟨i,rfl,q⟩:=q1
 obtain⟨t,rfl⟩:=r1
 exact⟨some i,H1,I1,.int i t,q⟩
def IJ (X:Cx)(r:V->Option Int->Option Int->Hp->VK->Prop):Prop:=
 ∀(pins:List (Addr×Obj)) (s:Shared) (σ:St) (H:Hp) (x:V) (v vl vu:Value) (lo hi:Option Int) (sl:Addr) (Q:VK),Inv X pins σ H s->RelV x v->s.heap.IsSliceOf sl vl vu .none->IsPart vl lo->IsPart vu hi->r x lo hi H Q ->
  ∃T id,typeLookup (.type T) "__getitem__" = pure (some (.builtin id))/\s.TypeIs v T/\wpAny (model X.prog X.w) X.A (getItem v (.ref sl)) (EP X pins σ Q) X.xe s
theorem IJ.or {r r':V->Option Int->Option Int->Hp->VK->Prop}(h:IJ X r)(h':IJ X r'):IJ X (fun x lo hi H Q=>r x lo hi H Q\/r' x lo hi H Q):=by
 intro pins s σ H x v vl vu lo hi sl Q I rx hs pl pu q
 rcases q with q | q
 ·exact h pins s σ H x v vl vu lo hi sl Q I rx hs pl pu q
 ·exact h' pins s σ H x v vl vu lo hi sl Q I rx hs pl pu q
def Pb (r:V->Option Int->Option Int->Hp->VK->Prop)(te:TE)(tl th:TO):TE:=fun σ H Q=>te σ H fun x H1=>tl σ H1 fun l H2=>th σ H2 fun u H3=>r x l u H3 Q
theorem xJ {r:V->Option Int->Option Int->Hp->VK->Prop}(hr:IJ X r)(he:PE X e te)(hl:PO X lo tl)(hu:PO X hi th):PE X (.Subscript e (.Slice lo hi none p2) pos) (Pb r te tl th):=by
 intro pins s σ H Q I h
 refine Subscript_ (eC (he pins s σ H _ I h) fun v s1 ⟨x,H1,I1,r1,q1⟩=>?_)
 refine wpAny_Slice (eC (hl pins s1 σ H1 _ I1 q1) fun vl s2 ⟨l,H2,I2,pl,q2⟩=>eC (hu pins s2 σ H2 _ I2 q2) fun vu s3 ⟨u,H3,I3,pu,q3⟩=>?_)
 rw [evalPart_none]
 refine wpAny_pure ?_
 have I4:Inv X pins σ H3 { s3 with heap:=s3.heap.push { cls:=.type "slice", data:=.fields #[vl,vu,.none] } }:=I3.kept (t':=s3.toks) fun b ob q=>Heap.get?_push_of_some _ q
 obtain⟨T,id,hT,ht,hg⟩:=hr pins { s3 with heap:=s3.heap.push { cls:=.type "slice", data:=.fields #[vl,vu,.none] } } σ H3 x v vl vu l u s3.heap.objs.size Q I4 r1 (Heap.IsSliceOf.new ..) pl pu q3
 show wpAny (model X.prog X.w) X.A (subscriptTail e (.Slice lo hi none p2) v (.ref s3.heap.objs.size)) (EP X pins σ Q) X.xe { s3 with heap:=s3.heap.push { cls:=.type "slice", data:=.fields #[vl,vu,.none] } }
 exact tail_any (ops:=[.ref s3.heap.objs.size,v]) ht hT hg (by with_unfolding_all rfl)
def p9 (xs:List V)(lo hi:Option Int):List V:=(xs.drop (HT.fz xs.length 0 lo)).take (HT.fz xs.length xs.length hi-HT.fz xs.length 0 lo)
theorem oy (xs:List V)(lo hi:Option Int):(p9 xs lo hi).length≤xs.length:=by
 unfold p9
 rw [List.length_take,List.length_drop]
 omega
def NT (K:PySem.W.Frag):V->Option Int->Option Int->Hp->VK->Prop:=fun x lo hi H Q=>∃a xs,x=.ref a/\ly K H a xs /\
 ¬ (HT.fz xs.length 0 lo=0/\HT.fz xs.length xs.length hi=xs.length)/\∀p,H p=none->Q (.ref p) (upd H p (.tup (p9 xs lo hi)))
theorem K9:IJ X (NT X.K):=by
 intro pins s σ H x v vl vu lo hi sl Q I rx hs pl pu h
 obtain⟨a,xs,rfl,hx,hw,q⟩:=h
 cases rx
 obtain⟨its,r,ht,hz⟩:=I.tuple hx
 have hlen:its.toArray.size=xs.length:=by rw [List.size_toArray];exact r.length.symm
 refine⟨"tuple", _,PyProof.Rows.slot_tuple_getitem.lookup,ht.typeIs,?_⟩
 refine HT.mE ht hs pl pu (by rw [hlen];exact hw) ?_ (by rw [hlen];exact hz)
 rw [hlen]
 refine⟨.ref s.heap.objs.size,_,I.laid (t':=s.toks) (o:=.tup (p9 xs lo hi)) (fun b ob q=>Heap.get?_push_of_some _ q) (Nat.le_refl _) ?_,rfl,q _ (I.hok.fresh (Nat.le_refl _))⟩
 exact⟨Nat.le_trans (oy xs lo hi) hz,_,(r.drop (HT.fz xs.length 0 lo)).take (HT.fz xs.length xs.length hi-HT.fz xs.length 0 lo),IsTup.new _ _⟩
def MH (K:PySem.W.Frag):R2:=fun x y H Q=>∃a b xs ys,x=.ref a/\y=.ref b/\ly K H a xs/\ly K H b ys/\xs≠[]/\xs.length+ys.length≤sizeLine /\
 (ys=[]->Q (.ref a) H)/\(ys≠[]->∀p,H p=none->Q (.ref p) (upd H p (.tup (xs++ys))))
theorem Vals.nil_iff {xs:List V}{us:List Value}(r:Vals xs us):us=[] ↔ xs=[]:=by
 cases r with
 |nil=>simp
 |cons _ _=>simp
theorem HB:rM X (binaryOp .Add) (MH X.K):=by
 intro pins s σ H x y v u Q I rx ry h
 obtain⟨a,b,xs,ys,rfl,rfl,ha,hb,hx,hz,q1,q2⟩:=h
 cases rx
 cases ry
 obtain⟨its,r1,p1,_⟩:=I.tuple ha
 obtain⟨its2,r2,p2,_⟩:=I.tuple hb
 refine HT.GH p1 p2 (fun z=>hx (r1.nil_iff.mp z)) (fun z=>⟨.ref a,H,I,rfl,q1 (r2.nil_iff.mp z)⟩) (fun z=>?_) (by rw [<- r1.length,<- r2.length];exact hz)
 refine⟨.ref s.heap.objs.size,_,I.laid (t':=s.toks) (o:=.tup (xs++ys)) (fun b ob q=>Heap.get?_push_of_some _ q) (Nat.le_refl _) ?_,rfl,q2 (fun w=>z (r2.nil_iff.mpr w)) _ (I.hok.fresh (Nat.le_refl _))⟩
 exact⟨by rw [List.length_append];exact hz,_,r1.append r2,IsTup.new _ _⟩
end
def Bi (n:Nat)(i:Int):Option Nat:=if 0≤i then (if i<n then some i.toNat else none) else if -(n:Int)≤i then some (i+n).toNat else none
def oZ {α:Type}(xs:List α)(i:Int):Option α:=(Bi xs.length i).bind fun j=>xs[j]?
theorem Bj {n:Nat}{i:Int}{j:Nat}(h:Bi n i=some j):seqIndex? i n=some j/\j<n /\ -(n:Int)≤i/\i<n:=by
 unfold Bi at h
 by_cases h0:0≤i
 ·rw [if_pos h0] at h
  by_cases h1:i<n
  ·rw [if_pos h1] at h
   have e:i.toNat=j:=Option.some.inj h
   exact⟨by rw [seqIndex_of h0 h1,e],by omega,by omega,h1⟩
  ·rw [if_neg h1] at h;cases h
 ·rw [if_neg h0] at h
  by_cases h1 : -(n:Int)≤i
  ·rw [if_pos h1] at h
   have e:(i+n).toNat=j:=Option.some.inj h
   exact⟨by rw [seqIndex_neg (by omega) h1,e],by omega,h1,by omega⟩
  ·rw [if_neg h1] at h;cases h
theorem uk {α:Type}{xs:List α}{i:Int}{v:α}(h:oZ xs i=some v):∃j,seqIndex? i xs.length=some j/\xs[j]? = some v/\j<xs.length /\ -(xs.length:Int)≤i/\i<xs.length:=by
 unfold oZ at h
 cases e:Bi xs.length i with
 |none=>rw [e] at h;cases h
 |some j =>
  rw [e] at h
  obtain⟨h1,h2,h3,h4⟩:=Bj e
  exact⟨j,h1,h,h2,h3,h4⟩
theorem um {α:Type}{xs:List α}{j:Nat}{v:α}(h:xs[j]? = some v):oZ xs (j:Int)=some v:=by
 have hj:j<xs.length:=(List.getElem?_eq_some_iff.mp h).1
 have e:Bi xs.length (j:Int)=some j:=by
  unfold Bi
  rw [if_pos (by omega),if_pos (by omega)];simp
 unfold oZ;rw [e];exact h
def oY (b:Expr):Prop:=∀o i,subscripted b false o i=operate [o,i] (getItem o i)
def Lv (X:Cx)(r:R2):Prop:=
 ∀(value slice:Expr) (pins:List (Addr×Obj)) (s:Shared) (σ:St) (H:Hp) (x y:V) (v u:Value) (Q:VK),Inv X pins σ H s->RelV x v->RelV y u->r x y H Q ->
  subscripted slice false v u=operate [v,u] (getItem v u)->wpAny (model X.prog X.w) X.A (subscriptTail value slice v u) (EP X pins σ Q) X.xe s
def M4 (X:Cx)(id:String)(r:V->List V->Hp->VK->Prop):Prop:=
 ∀(pins:List (Addr×Obj)) (s:Shared) (σ:St) (H:Hp) (x:V) (xs:List V) (v:Value) (us:List Value) (Q:VK),Inv X pins σ H s->RelV x v->Vals xs us->r x xs H Q ->
  wpAny (model X.prog X.w) X.A (call (.builtin id) (v::us)) (EP X pins σ Q) X.xe s
section
variable {X:Cx}{a b:Expr}{ta tb:TE}{pos:Pos}
theorem Fg {r:R2}(hr:Lv X r)(ha:PE X a ta)(hb:PE X b tb)(hs:oY b):PE X (.Subscript a b pos) (MW r ta tb):=by
 intro pins s σ H Q I h
 exact Subscript_ (JD ha hb I h fun v u s2 x y H2 I2 rx ry q=>hr a b pins s2 σ H2 x y v u Q I2 rx ry q (hs _ _))
def NO (K:PySem.W.Frag):R2:=fun x y H Q=>∃p xs i v,x=.ref p/\y=.int i/\dO K H p xs/\oZ xs i=some v/\Q v H
def NQ (K:PySem.W.Frag):R2:=fun x y H Q=>∃p xs i v,x=.ref p/\y=.int i/\ly K H p xs/\oZ xs i=some v/\Q v H
def NP:R2:=fun x y H Q=>∃z i c,x=.str z/\y=.int i/\z.length≤sizeLine/\oZ z.cps.toList i=some c/\Q (.str ⟨#[c]⟩) H
theorem pz:Lv X (NO X.K):=by
 intro value slice pins s σ H x y v u Q I rx ry h hs
 obtain⟨p,xs,i,z,rfl,rfl,hq,he,q⟩:=h
 cases rx
 obtain⟨t,rfl⟩:=ry
 obtain⟨its,r,pl,hz⟩:=I.list hq
 obtain⟨j,h1,h2,h3,h4,h5⟩:=uk he
 obtain⟨w,ew,rw'⟩:=r.get h2
 have hl:=r.length
 have hn:=lP
 have fin:EP X pins σ Q w s:=⟨z,H,I,rw',q⟩
 by_cases h0:0≤i
 ·have hj:i.toNat=j:=by
   rw [seqIndex_of h0 h5] at h1
   exact Option.some.inj h1
  exact item_listR pl.isList h0 (by omega) (by rw [hj];simpa using ew) fin hs
 ·have hj:(i+(its.toArray.size:Int)).toNat=j:=by
   rw [seqIndex_neg (by omega) h4] at h1
   rw [List.size_toArray,<- hl]
   exact Option.some.inj h1
  exact subscriptTail_builtinR (x:=w) pl.isList.typeIs slot_list_getitem.lookup
   (wpAny_getItem_list_neg (Q:=fun r s'=>r=w/\EP X pins σ Q r s') pl.isList (by omega) (by rw [List.size_toArray]<;>omega) (by omega) (by rw [hj];simpa using ew) ⟨rfl,fin⟩) hs
theorem Kh:Lv X (NQ X.K):=by
 intro value slice pins s σ H x y v u Q I rx ry h hs
 obtain⟨p,xs,i,z,rfl,rfl,hq,he,q⟩:=h
 cases rx
 obtain⟨t,rfl⟩:=ry
 obtain⟨its,r,pl,hz⟩:=I.tuple hq
 obtain⟨j,h1,h2,h3,h4,h5⟩:=uk he
 obtain⟨w,ew,rw'⟩:=r.get h2
 have hl:=r.length
 have hn:=lP
 have fin:EP X pins σ Q w s:=⟨z,H,I,rw',q⟩
 exact subscriptTail_builtinR (x:=w) pl.typeIs slot_tuple_getitem.lookup
  (getItem_tuple (j:=j) (Q:=fun r s'=>r=w/\EP X pins σ Q r s') pl (by omega) (by omega) (by rw [List.size_toArray,<- hl];exact h1) (by simpa using ew) ⟨rfl,fin⟩) hs
theorem Kg:Lv X NP:=by
 intro value slice pins s σ H x y v u Q I rx ry h hs
 obtain⟨z,i,c,rfl,rfl,hz,he,q⟩:=h
 obtain⟨t,rfl⟩:=rx
 obtain⟨t',rfl⟩:=ry
 obtain⟨j,h1,h2,h3,h4,h5⟩:=uk he
 have hl:z.cps.toList.length=z.length:=by simp [Str.length]
 rw [hl] at h1 h4 h5
 have hn:=lP
 exact tail_any (typeIs_str s z t) slot_str_getitem.lookup (getItem_str (c:=c) (by
  have e1:decide (i < -(2^63:Int))=false:=decide_eq_false (by omega)
  have e2:decide (i≥2^63)=false:=decide_eq_false (by omega)
  rw [e1,e2,Bool.or_false]) (by rw [h1];simpa using h2) ⟨.str ⟨#[c]⟩,H,I.tok _,⟨_,rfl⟩,q⟩) hs
theorem zB (its:List Value)(n j:Nat)(u:Value):Obj.mapSeq (·.setIfInBounds j u) { cls:=.type "list", data:=.seq its.toArray n }={ cls:=.type "list", data:=.seq (its.set j u).toArray n }:=by
 simp [Obj.mapSeq]
theorem Inv.lst {pins:List (Addr×Obj)}{σ:St}{H:Hp}{s:Shared}{p:Addr}{xs:List V}(I:Inv X pins σ H s)(h:H p=some (.lst xs)):
  ∃(its:List Value) (n:Nat),Vals xs its/\s.heap.get? p=some { cls:=.type "list", data:=.seq its.toArray n }/\xs.length≤sizeLine:=by
 obtain⟨z,its,n,r,e⟩:=I.hok p _ h
 exact⟨its,n,r,e,z⟩
theorem Inv.lstUpd {pins:List (Addr×Obj)}{σ:St}{H:Hp}{s:Shared}{p:Addr}{xs ys:List V}{its its':List Value}{n n':Nat}{f:Obj->Obj}(I:Inv X pins σ H s)(h:H p=some (.lst xs))
  (ho:s.heap.get? p=some { cls:=.type "list", data:=.seq its.toArray n }) (hf:f { cls:=.type "list", data:=.seq its.toArray n }={ cls:=.type "list", data:=.seq its'.toArray n' }) (r:Vals ys its') (hz:ys.length≤sizeLine) (t:Nat):
  Inv X pins σ (upd H p (.lst ys)) { s with heap:=s.heap.update p f,toks:=t }:=by
 have e:(s.heap.update p f).get? p=some { cls:=.type "list", data:=.seq its'.toArray n' }:=by
  rw [Heap.get?_update_self f ho (by rw [hf]<;>rfl),hf]
 refine I.write (x:=p) (e:=p) (by rw [h];trivial) (.inl rfl) (fun b u hb q=>(Heap.get?_update_other _ _ (Ne.symm hb)).trans q) ⟨_,e⟩ ?_
 exact⟨hz,its',n',r,e⟩
def MI:V->V->V->Hp->(Hp->Prop)->Prop:=fun o i v H Q=>∃p xs k j,o=.ref p/\i=.int k/\H p=some (.lst xs)/\Bi xs.length k=some j/\Q (upd H p (.lst (xs.set j v)))
theorem set_list:LP X MI:=by
 intro pins s σ H o i v ov iv u Q I ro ri rv h
 obtain⟨p,xs,k,j,rfl,rfl,hp,hj,q⟩:=h
 cases ro
 obtain⟨t,rfl⟩:=ri
 obtain⟨its,n,r,ho,hz⟩:=I.lst hp
 obtain⟨h1,h2,h3,h4⟩:=Bj hj
 have hl:=r.length
 have hn:=lP
 have I':Inv X pins σ (upd H p (.lst (xs.set j v))) { s with heap:=s.heap.update p (Obj.mapSeq (·.setIfInBounds j u)) }:=
  I.lstUpd hp ho (zB its n j u) (r.set rv j) (by rw [List.length_set];exact hz) s.toks
 by_cases h0:0≤k
 ·have hk:k.toNat=j:=by
   rw [seqIndex_of h0 h4] at h1
   exact Option.some.inj h1
  exact PySem.W.ki_setAt ho h0 (by omega) (by rw [List.size_toArray,<- hl];exact h4) (by rw [hk];exact⟨_,I',q⟩)
 ·have hk:(k+(its.toArray.size:Int)).toNat=j:=by
   rw [seqIndex_neg (by omega) h3] at h1
   rw [List.size_toArray,<- hl]
   exact Option.some.inj h1
  exact PySem.W.ki_setBack ho (by omega) (by rw [List.size_toArray,<- hl];exact h3) (by omega) (by rw [hk];exact⟨_,I',q⟩)
theorem vO (lo hi:Option Int)(n:Nat):(sliceBounds lo hi none n).1=((HT.fz n 0 lo:Nat):Int)/\(sliceBounds lo hi none n).2.1=((HT.fz n n hi:Nat):Int)/\(sliceBounds lo hi none n).2.2=1:=by
 refine⟨?_,?_,rfl⟩
 ·cases lo with
  |none=>simp [sliceBounds,HT.fz]
  |some i =>
   simp only [sliceBounds,HT.fz,Option.getD_none,show (1:Int)>0 by decide,if_true]
   by_cases h:i<0
   ·simp only [h,if_true]<;>omega
   ·simp only [h,if_false]<;>omega
 ·cases hi with
  |none=>simp [sliceBounds,HT.fz]
  |some i =>
   simp only [sliceBounds,HT.fz,Option.getD_none,show (1:Int)>0 by decide,if_true]
   by_cases h:i<0
   ·simp only [h,if_true]<;>omega
   ·simp only [h,if_false]<;>omega
theorem sv (its:List Value)(lo hi:Option Int):slicePick its.toArray lo hi none=((its.drop (HT.fz its.length 0 lo)).take (HT.fz its.length its.length hi-HT.fz its.length 0 lo)).toArray:=by
 obtain⟨h1,h2,h3⟩:=vO lo hi its.toArray.size
 unfold slicePick
 rw [h1,h2,h3]
 simp only [sliceRange_one,pick_run,List.size_toArray]<;>rfl
def NS (K:PySem.W.Frag):V->Option Int->Option Int->Hp->VK->Prop:=fun x lo hi H Q=>∃a xs,x=.ref a/\dO K H a xs/\∀p,H p=none->Q (.ref p) (upd H p (.lst (p9 xs lo hi)))
theorem BJ:IJ X (NS X.K):=by
 intro pins s σ H x v vl vu lo hi sl Q I rx hs pl pu h
 obtain⟨a,xs,rfl,hx,q⟩:=h
 cases rx
 obtain⟨its,r,ht,hz⟩:=I.list hx
 have hlen:=r.length
 refine⟨"list", _,slot_list_getitem.lookup,ht.isList.typeIs,?_⟩
 refine wpAny_getItem_list_slice ht.isList hs pl pu .none (by simp) ?_ (by rw [List.size_toArray]<;>omega)
 rw [sv,<- hlen]
 refine⟨.ref s.heap.objs.size,_,I.laid (t':=s.toks) (o:=.lst (p9 xs lo hi)) (fun b ob q=>Heap.get?_push_of_some _ q) (Nat.le_refl _) ?_,rfl,q _ (I.hok.fresh (Nat.le_refl _))⟩
 exact⟨Nat.le_trans (oy xs lo hi) hz,_,0,(r.drop (HT.fz xs.length 0 lo)).take (HT.fz xs.length xs.length hi-HT.fz xs.length 0 lo),Heap.get?_push_size _ rfl⟩
theorem ur:fJ X (.builtin "len") (fun xs H Q=>∃p ys,xs=[.ref p]/\(dO X.K H p ys\/ly X.K H p ys)/\Q (.int ys.length) H):=by
 intro pins s σ H xs us Q I r h
 obtain⟨p,ys,rfl,hq,q⟩:=h
 obtain⟨u,rfl,rx⟩:=vals1 r
 cases rx
 have hn:=lP
 rcases hq with hq | hq
 ·obtain⟨its,r',pl,hz⟩:=I.list hq
  have hlen:=r'.length
  exact Calls.call_len_list pl.isList (by simp only [List.size_toArray]<;>omega) ⟨.int ys.length,H,I.tok _,⟨s.toks+1,by rw [List.size_toArray,hlen]⟩,q⟩
 ·obtain⟨its,r',pl,hz⟩:=I.tuple hq
  have hlen:=r'.length
  exact len_tuple pl (by simp only [List.size_toArray]<;>omega) ⟨.int ys.length,H,I.tok _,⟨s.toks+1,by rw [List.size_toArray,hlen]⟩,q⟩
theorem uu:fJ X (.builtin "len") (fun xs H Q=>∃z,xs=[.str z]/\z.length≤sizeLine/\Q (.int z.length) H):=by
 intro pins s σ H xs us Q I r h
 obtain⟨z,rfl,hz,q⟩:=h
 obtain⟨u,rfl,t,rfl⟩:=vals1 r
 have hn:=lP
 exact len_str (by omega) ⟨.int z.length,H,I.tok _,⟨_,rfl⟩,q⟩
theorem fJ.or {f:Value}{r r':List V->Hp->VK->Prop}(h:fJ X f r)(h':fJ X f r'):fJ X f (fun xs H Q=>r xs H Q\/r' xs H Q):=by
 intro pins s σ H xs us Q I rs q
 rcases q with q | q
 ·exact h pins s σ H xs us Q I rs q
 ·exact h' pins s σ H xs us Q I rs q
theorem mf:fJ X (.type "list") (fun xs H Q=>∃p ys,xs=[.ref p]/\(dO X.K H p ys\/ly X.K H p ys)/\∀l,H l=none->Q (.ref l) (upd H l (.lst ys))):=by
 intro pins s σ H xs us Q I r h
 obtain⟨p,ys,rfl,hq,q⟩:=h
 obtain⟨u,rfl,rx⟩:=vals1 r
 cases rx
 have fin:∀(its:List Value),Vals ys its->ys.length≤sizeLine->∀(h':Heap) (c':Nat),(∀b o',s.heap.get? b=some o'->h'.get? b=some o') ->
   h'.get? s.heap.objs.size=some { cls:=.type "list", dict:=none,data:=.seq its.toArray c',slots:=#[] }->EP X pins σ Q (.ref s.heap.objs.size) { s with heap:=h' }:=fun its r' hz h' c' kp e =>
  ⟨.ref s.heap.objs.size,_,I.laid (t':=s.toks) kp (Nat.le_refl _) (show dN X.prog X.w _ h' _ (.lst ys) from ⟨hz,its,c',r',e⟩),rfl,q _ (I.hok.fresh (Nat.le_refl _))⟩
 rcases hq with hq | hq
 ·obtain⟨its,r',pl,hz⟩:=I.list hq
  have hlen:=r'.length
  obtain⟨o,ho,hc,n,hd⟩:=pl.isList
  exact call_list_seq p (.inl rfl) ho hc hd (fun h' c' kp e=>fin its r' hz h' c' kp e) (by simp only [List.size_toArray]<;>omega)
 ·obtain⟨its,r',pl,hz⟩:=I.tuple hq
  have hlen:=r'.length
  obtain⟨o,ho,hc,n,hd⟩:=pl
  exact call_list_seq p (.inr rfl) ho hc hd (fun h' c' kp e=>fin its r' hz h' c' kp e) (by simp only [List.size_toArray]<;>omega)
def N8 (K:PySem.W.Frag)(T:String)(x:V)(H:Hp):Prop:=match x with
 | .str _=>T = "str"
 | .int _=>T = "int"
 | .ref p=>(T = "list"/\∃xs,dO K H p xs)\/(T = "tuple"/\∃o,K.lookup p=some o/\o.cls=.type "tuple"/\o.dict=none) \/
   (T = "dict"/\((∃kvs,H p=some (.dK kvs))\/∃kvs,H p=some (.dT kvs)))\/(T = "set"/\∃S n,H p=some (.set S n))
 |_=>False
theorem FZ {pins:List (Addr×Obj)}{σ:St}{H:Hp}{s:Shared}{T:String}{x:V}{v:Value}(I:Inv X pins σ H s)(r:RelV x v)(ty:N8 X.K T x H):
  s.TypeIs v T/\∀a,v=.ref a->∃ob,s.heap.get? a=some ob/\ob.dict=none:=by
 cases x with
 |str z =>
  obtain⟨t,rfl⟩:=r
  cases (show T = "str" from ty)
  exact⟨typeIs_str s z t,fun _ e=>nomatch e⟩
 |int i =>
  obtain⟨t,rfl⟩:=r
  cases (show T = "int" from ty)
  exact⟨typeIs_int s i t,fun _ e=>nomatch e⟩
 |ref p =>
  cases r
  rcases ty with ⟨rfl,xs,hq⟩ | ⟨rfl,o,hk,hc,hd⟩ | ⟨rfl,hk⟩ | ⟨rfl,S,n,hk⟩
  ·obtain⟨its,_,pl,_⟩:=I.list hq
   refine⟨pl.isList.typeIs,fun a e=>?_⟩
   cases e
   obtain⟨o,n,e,c,hd,_⟩:=pl
   exact⟨o,e,hd⟩
  ·refine⟨⟨o,I.kIn p o hk,hc⟩,fun a e=>?_⟩
   cases e
   exact⟨o,I.kIn _ o hk,hd⟩
  ·have z:∃o,s.heap.get? p=some o/\o.ExactDict:=by
    rcases hk with ⟨kvs,hk⟩ | ⟨kvs,hk⟩
    ·obtain⟨_,_,_,_,o,_,_,e,ex,_⟩:=I.hok p _ hk
     exact⟨o,e,ex⟩
    ·obtain⟨_,_,_,_,o,_,_,e,ex,_⟩:=I.hok p _ hk
     exact⟨o,e,ex⟩
   obtain⟨o,e,ex⟩:=z
   refine⟨⟨o,e,ex.1⟩,fun a e2=>?_⟩
   cases e2
   exact⟨o,e,ex.2.1⟩
  ·obtain⟨o,_,_,_,e,ex,_⟩:=I.hok p _ hk
   refine⟨⟨o,e,ex.1⟩,fun a e2=>?_⟩
   cases e2
   exact⟨o,e,ex.2.1⟩
 |_=>exact False.elim ty
def NY (K:PySem.W.Frag)(T:String)(r:V->List V->Hp->VK->Prop)(to:TE):TE:=fun σ H Q=>to σ H fun x H1=>N8 K T x H1/\r x [] H1 Q
def O6 (K:PySem.W.Frag)(T:String)(r:V->List V->Hp->VK->Prop)(to:TE)(t:TA):TE:=fun σ H Q=>to σ H fun x H1=>N8 K T x H1/\t σ H1 fun xs H2=>r x xs H2 Q
variable {o e:Expr}{es:List Expr}{to:TE}{t:TA}{name:Str}{apos cpos:Pos}{T id:String}{r:V->List V->Hp->VK->Prop}
theorem Fe (pa:PlainAttrs T)(slot:Slot T name id)(hty:typeOf (.builtin id)=pure (.type "method_descriptor"))(hm:M4 X id r)(ho:PE X o to)
  (hbase:attributeBase o name X.env (eval o X.env)=eval o X.env:=by rfl) (hline:(apos.endLine == cpos.line)=true:=by rfl):PE X (.Call (.Attribute o name apos) [] [] cpos) (NY X.K T r to):=by
 intro pins s σ H Q I h
 refine wpAny_Call_method0_late hbase hline (eC (ho pins s σ H _ I h) fun v s1 ⟨x,H1,I1,r1,ty,q1⟩=>?_)
 obtain⟨h1,h2⟩:=FZ I1 r1 ty
 exact⟨T,id,pa,slot,hty,h1,h2,Calls.callWith_builtin rfl (PySem.evalArgs_none (hm pins s1 σ H1 x [] v [] Q I1 r1 .nil q1))⟩
theorem Ji (pa:PlainAttrs T)(slot:Slot T name id)(hty:typeOf (.builtin id)=pure (.type "method_descriptor"))(hm:M4 X id r)(ho:PE X o to)(ha:PA X (e::es) t)
  (hbase:attributeBase o name X.env (eval o X.env)=eval o X.env:=by rfl)
  (hfew:((backTo cpos (starEach (e::es) X.env)).all (fun x=>!x.1)&&(backToKw cpos (keywordEach [] X.env)).all (fun x=>x.1.isSome)
   && decide ((e::es).length+([]:List Keyword).length+(if ([]:List Keyword).isEmpty then 0 else 1)<30))=true:=by rfl)
  (hline:(apos.endLine == cpos.line)=true:=by rfl) (hs:starEach (e::es) X.env=(false,eval e X.env)::starEach es X.env:=by rfl) (hplain:(backTo cpos (starEach es X.env)).any (·.1)=false:=by rfl):
  PE X (.Call (.Attribute o name apos) (e::es) [] cpos) (O6 X.K T r to t):=by
 intro pins s σ H Q I h
 refine wpAny_Call_method_late hbase hfew hline rfl (eC (ho pins s σ H _ I h) fun v s1 ⟨x,H1,I1,r1,ty,q1⟩=>?_)
 obtain⟨h1,h2⟩:=FZ I1 r1 ty
 refine⟨T,id,pa,slot,hty,h1,h2,?_⟩
 have hA:=ha cpos pins s1 σ H1 _ I1 q1
 rw [hs] at hA ⊢
 refine Calls.callWith_builtin (by show (false||(backTo cpos (starEach es X.env)).any (·.1))=false;rw [hplain]<;>rfl) (Calls.evalArgs_plain ?_)
 exact eC hA fun us s2 ⟨vs,H2,I2,r2,q2⟩=>hm pins s2 σ H2 x vs v us Q I2 r1 r2 q2
/- xs.append(e),list.index on a module's tuple .. are M4 facts of 06m -/
end
def Of (X:Cx)(id:String)(r:V->List V->Hp->VK->Prop):Prop:=
 ∀(pins:List (Addr×Obj)) (s:Shared) (σ:St) (H:Hp) (x:V) (xs:List V) (v:Value) (us:List Value) (Q:VK),Inv X pins σ H s->RelV x v->Vals xs us->r x xs H Q ->
  wpAny (model X.prog X.w) X.A (call (.builtin id) (v::us)) (EP X pins σ Q) X.xe s
theorem Vals.one:∀{x:V} {us:List Value},Vals [x] us->∃u,us=[u]/\RelV x u
 |_,_,.cons r .nil=>⟨_,rfl,r⟩
theorem Vals.two:∀{x y:V} {us:List Value},Vals [x,y] us->∃u v,us=[u,v]/\RelV x u/\RelV y v
 |_,_,_,.cons r (.cons q .nil)=>⟨_,_,rfl,r,q⟩
theorem Vals.zero:∀{us:List Value},Vals [] us->us=[]
 |_,.nil=>rfl
theorem Vals.rep {xs:List V}{us:List Value}(h:Vals xs us):∀k:Nat,Vals (List.replicate k xs).flatten (List.replicate k us).flatten
 |0=>.nil
 |k+1=>by
  rw [List.replicate_succ,List.replicate_succ,List.flatten_cons,List.flatten_cons]
  exact Vals.append h (Vals.rep h k)
theorem foldl_rep (its:List Value):∀(k:Nat) (acc:List Value),
  List.foldl (fun x1 x2=>x1++x2) acc.toArray (List.replicate k its.toArray)=(acc++(List.replicate k its).flatten).toArray
 |0,acc=>by simp
 |k+1,acc=>by
  have e:acc.toArray++its.toArray=(acc++its).toArray:=by simp
  have e2:(acc++its)++(List.replicate k its).flatten=acc++(List.replicate (k+1) its).flatten:=by
   rw [List.replicate_succ,List.flatten_cons,List.append_assoc]
  rw [<- e2,<- foldl_rep its k (acc++its),<- e,List.replicate_succ,List.foldl_cons]
section
variable {X:Cx}{pins:List (Addr×Obj)}{σ:St}{H:Hp}{s:Shared}{l b:Addr}{xs ys zs:List V}
theorem Inv.lset {its its':List Value}{n:Nat}{f:Array Value->Array Value}{t':Nat}(I:Inv X pins σ H s)(hH:H l=some (.lst xs))
  (e:s.heap.get? l=some { cls:=.type "list", data:=.seq its.toArray n }) (hf:f its.toArray=its'.toArray) (hv:Vals ys its') (hz:ys.length≤sizeLine):
  Inv X pins σ (upd H l (.lst ys)) { s with heap:=s.heap.update l (Obj.mapSeq f),toks:=t' }:=by
 have q:=PySem.IsL.update e f
 rw [hf] at q
 refine I.write (x:=l) (e:=l) (by rw [hH];exact trivial) (.inl rfl) (fun b' u hb hu=>(Heap.get?_update_other s.heap (Obj.mapSeq f) (Ne.symm hb)).trans hu) ⟨_,q⟩ ?_
 exact⟨hz,its',_,hv,q⟩
theorem Inv.lnew {its:List Value}{t':Nat}(I:Inv X pins σ H s)(hv:Vals ys its)(hz:ys.length≤sizeLine):
  Inv X pins σ (upd H s.heap.objs.size (.lst ys)) { s with heap:=s.heap.push { cls:=.type "list", data:=.seq its.toArray },toks:=t' }:=
 I.laid (fun _ _ q=>Heap.get?_push_of_some _ q) (Nat.le_refl _) ⟨hz,its,0,hv,Heap.get?_push_size _ rfl⟩
theorem Inv.fresh (I:Inv X pins σ H s):H s.heap.objs.size=none:=I.hok.fresh (Nat.le_refl _)
theorem Inv.lstM (I:Inv X pins σ H s)(hH:H l=some (.lst xs)):xs.length≤sizeLine/\∃(its:List Value) (n:Nat),Vals xs its/\xs.length=its.length/\s.heap.get? l=some { cls:=.type "list", data:=.seq its.toArray n }:=by
 obtain⟨z,its,n,r,e⟩:=I.hok l _ hH
 exact⟨z,its,n,r,r.length,e⟩
theorem EW {n:Nat}(h:n≤sizeLine):Builtin.List.listTooLong n=false:=by
 unfold Builtin.List.listTooLong
 exact decide_eq_false (by omega)
end
section
variable {X:Cx}
def HR:V->List V->Hp->VK->Prop:=fun x vs H Q=>∃l xs y,x=.ref l/\vs=[y]/\H l=some (.lst xs)/\xs.length<sizeLine/\Q .non (upd H l (.lst (xs++[y])))
theorem nK:Of X "list.append" HR:=by
 intro pins s σ H x vs v us Q I rx rv h
 obtain⟨l,xs,y,rfl,rfl,hH,hz,q⟩:=h
 cases rx
 obtain⟨u,rfl,ru⟩:=rv.one
 obtain⟨z,its,n,r,hl,e⟩:=I.lstM hH
 refine call_meets F.slot_list_append ⟨_,e,rfl⟩ F.entry_list_append (F.args_list_append_2 _ _) (PySem.list_append l its.toArray n u (by rw [List.size_toArray];omega)) ⟨e,?_⟩
 refine⟨.non,_,I.lset (its':=its++[u]) hH e (by simp) (r.append (.cons ru .nil)) ?_,rfl,q⟩
 rw [List.length_append,List.length_singleton]
 omega
def KY:V->List V->Hp->VK->Prop:=fun x vs H Q=>∃l xs,x=.ref l/\vs=[]/\H l=some (.lst xs)/\Q .non (upd H l (.lst []))
theorem ES:Of X "list.clear" KY:=by
 intro pins s σ H x vs v us Q I rx rv h
 obtain⟨l,xs,rfl,rfl,hH,q⟩:=h
 cases rx
 have hus:=rv.zero
 subst hus
 obtain⟨z,its,n,r,hl,e⟩:=I.lstM hH
 refine call_meets F.slot_list_clear ⟨_,e,rfl⟩ F.entry_list_clear (F.args_list_clear_1 _) (AutoSeq1.list_clear_list_0 l its.toArray n (by rw [List.size_toArray];omega)) ⟨e,?_⟩
 exact⟨.non,_,I.lset (its':=[]) (ys:=[]) hH e rfl .nil (Nat.zero_le _),rfl,q⟩
def NN:R2:=fun x y H Q=>∃l b xs zs,x=.ref l/\y=.ref b/\H l=some (.lst xs)/\H b=some (.lst zs)/\xs.length+zs.length≤sizeLine/\∀p,H p=none->Q (.ref p) (upd H p (.lst (xs++zs)))
theorem Kx:rM X (binaryOp .Add) NN:=by
 intro pins s σ H x y v u Q I rx ry h
 obtain⟨l,b,xs,zs,rfl,rfl,hH,hB,hz,q⟩:=h
 cases rx
 cases ry
 obtain⟨z,its,n,r,hl,e⟩:=I.lstM hH
 obtain⟨z2,its2,n2,r2,Oq,e2⟩:=I.lstM hB
 refine PySem.P.add_list e e2 ?_ (by rw [List.size_toArray,List.size_toArray];omega)
 have ea:its.toArray++its2.toArray=(its++its2).toArray:=by simp
 rw [ea]
 exact⟨.ref _,_,I.lnew (t':=s.toks) (r.append r2) (by rw [List.length_append];omega),rfl,q _ I.fresh⟩
def NR:R2:=fun x y H Q=>∃l k xs,x=.ref l/\y=.int k/\H l=some (.lst xs) /\ -(2^63)≤k/\k<2^63/\xs.length*k.toNat≤sizeLine /\
 ∀p,H p=none->Q (.ref p) (upd H p (.lst (List.replicate k.toNat xs).flatten))
theorem len_rep {α:Type}(xs:List α)(k:Nat):(List.replicate k xs).flatten.length=k*xs.length:=by
 induction k with
 |zero=>simp
 |succ k ih=>rw [List.replicate_succ,List.flatten_cons,List.length_append,ih,Nat.succ_mul,Nat.add_comm]
theorem Kz:rM X (binaryOp .Mult) NR:=by
 intro pins s σ H x y v u Q I rx ry h
 obtain⟨l,k,xs,rfl,rfl,hH,h1,h2,hz,q⟩:=h
 cases rx
 obtain⟨t,rfl⟩:=ry
 obtain⟨z,its,n,r,hl,e⟩:=I.lstM hH
 have hlen:its.toArray.size*k.toNat≤sizeLine:=by rw [List.size_toArray,<- hl];exact hz
 have hcap:¬ its.toArray.size*k.toNat>(2^63-1)/8:=by
  have:(sizeLine:Nat)≤(2^63-1)/8:=by decide
  omega
 have hfit:¬ (!Builtin.List.listFitsIndex k)=true:=by
  rw [fitsIndex_both h1 h2]
  exact Bool.false_ne_true
 have hlong:¬ Builtin.List.listTooLong (its.toArray.size*k.toNat)=true:=by
  rw [EW hlen]
  exact Bool.false_ne_true
 have hnew:List.foldl (fun x1 x2=>x1++x2) #[] (List.replicate (if its.toArray.isEmpty=true then 0 else k.toNat) its.toArray)=(List.replicate k.toNat its).flatten.toArray:=by
  have f0:∀m:Nat,List.foldl (fun x1 x2=>x1++x2) #[] (List.replicate m its.toArray)=(List.replicate m its).flatten.toArray:=fun m=>by
   have:=foldl_rep its m []
   rw [List.nil_append] at this
   exact this
  rw [f0]
  cases its with
  |nil=>simp
  |cons a r'=>rw [if_neg (by simp)]
 refine wpAny_binaryOp_repeat_ref (T := "list") (U := "int") (by decide) ⟨_,e,rfl⟩ (fun s'=>typeIs_int s' k t) noFill_list_mul F.fills_int_mul F.slot_int_rmul repeat_list F.slot_int_index.lookup
  (call_meets F.slot_int_rmul (typeIs_int s k t) F.entry_int_rmul (F.args_int_rmul_2 _ _) (int___rmul___int_list k t l its.toArray n)
   ⟨e,rfl,⟨_,e,rfl⟩,call_meets F.slot_list_mul ⟨_,e,rfl⟩ F.entry_list_mul (F.args_list_mul_2 _ _) (AutoListH.list___mul___list_int_3 l its.toArray n k t hfit hcap hlong) ⟨e,?_⟩⟩)
 rw [hnew]
 exact⟨.ref _,_,I.lnew (t':=s.toks) (r.rep k.toNat) (by rw [len_rep,Nat.mul_comm];exact hz),rfl,q _ I.fresh⟩
end
section
variable {prog:Program}{w:World}{A:Around}{E:Value->Shared->Prop}{s:Shared}
end
section
variable {X:Cx}
end
end L2
namespace Att
open PySem PySem.W PySem.Calls PyProof.Rows
theorem oN {P:Params}{h:Heap}:∀(ns:List Int) (vs:List Value),WellAll P h vs (ns.map WData.int)->IntsAre vs ns:=by
 intro ns
 induction ns with
 |nil =>
  intro vs w
  rw [List.map_nil] at w
  cases w
  exact .nil
 |cons n ns ih =>
  intro vs w
  rw [List.map_cons] at w
  cases w with
  |cons a b =>
   cases a
   exact .cons _ _ (ih _ b)
theorem CW {l:OpenLaw}{n:Nat}(hn:l.most=some n){P:Params}{h:Heap}{args:List WData}{vals:List Value}
  (hpre:l.row.toRowW.claim.pre args=true) (hwl:WellAll P h vals args):
  ∃a vs ns,vals=[Value.ref a]/\args=[WData.list (ns.map WData.int)]/\h.get? a=some { cls:=.type "list", data:=.seq vs.toArray }/\IntsAre vs ns/\ns.length≤n:=by
 have hsh:WShape.hasAll [] args [.list .int]=true:=(pre_splitW hpre).1
 have hc:l.pre.holds [] { args:=args }=true:=(pre_splitW hpre).2
 obtain⟨d,r,rfl,h1,h2⟩:=hasAllW_cons hsh
 obtain rfl:=hasAllW_nil h2
 obtain⟨xs,rfl,h3⟩:=hasW_list h1
 obtain⟨ns,rfl⟩:=items_int h3
 have hlen:ns.length≤n:=by
  unfold OpenLaw.pre at hc
  have h4:(WTm.not (.lt (.lit (.int (n:Int))) (.len (.arg 0)))).holds [] { args:=[.list (ns.map .int)] }=true:=by
   have h4:=(holds_andW hc).1
   rw [hn] at h4
   exact h4
  have h5:=condW_of h4 (w_not (w_lt w_lit (w_len_list (w_arg rfl))))
  rw [List.length_map] at h5
  refine Nat.le_of_not_lt fun q=>?_
  have q':(n:Int)<((ns.length:Nat):Int):=by omega
  first
   |(rw [decide_eq_true q'] at h5;exact absurd h5 (by decide))
   |(simp at h5;omega)
 cases hwl with
 |cons w1 w2 =>
  cases w2
  cases w1 with
  |list ho hall=>exact⟨_,_,ns,rfl,rfl,ho,oN ns _ hall,hlen⟩
theorem CQ (l:OpenLaw)(args:List WData):l.row.toRowW.claim.post args (.bool true) args=true:=
 postW_of (r:=l.row.toRowW) (X:=(true == true))
  (show WShape.has [] (.bool true) .bool=true by first | rfl | decide | simp [WShape.has,WShape.arms,WShape.armsAll])
  (show (WTm.eq .res (.lit (.bool true))).value [] { args:=args,res:=some (.bool true),after:=args }=some (.bool (true == true)) from w_eq_bool (w_res rfl) w_lit) rfl
theorem wo {l:OpenLaw}{n:Nat}{q:Program}{loose:List Str}{XP:(Str->Option Value)->Heap->Prop}{YP:World->Heap->Prop}{d:DefRec}
  (hn:l.most=some n) (hdf:d.params.defaults=[])
  (call:∀(w:World) (Y8 s₁:Shared) (mg mb:Str->Option Value) (fa:Addr) (o:Obj) (pm cd doc:Value) (a:Addr) (vs:List Value) (ns:List Int),
   Ground q loose [] XP w Y8 mg mb s₁.heap->YP w s₁.heap ->
   s₁.heap.get? fa=some o->o.data=.func (docDef d.name d.params d.body d.scope pm cd doc)->s₁.heap.CodeRec cd d.name->mg d.name=some (.ref fa) ->
   s₁.heap.get? a=some { cls:=.type "list", data:=.seq vs.toArray }->IntsAre vs ns->ns.length≤n->s₁.gens = #[] ->
   codeAny (model l.prog w) callerA (.call (.ref fa) ⟨[.ref a],[]⟩) (fun r s'=>r=.ok (.ret (.bool true))/\OldK s₁.heap s'.heap/\s'.os=s₁.os/\AllBare s'.gens) s₁):
  WalkO q loose XP YP l.row.toRowW d [] (fun f vs=>PySem.call f vs):=by
 intro w Y8 s₁ mg mb G Y fa o pm cd doc dV kV ho hd hcd hD hmg hg args vals as hpre hlay hrd hwl hlo
 obtain rfl:dV=.none:=Dflts.none hD hdf
 obtain rfl:kV=.none:=Dflts.noKw hD
 obtain⟨a,vs,ns,rfl,rfl,hobj,hints,hlen⟩:=CW hn hpre hwl
 refine enter_call (codeAny_mono (call w Y8 s₁ mg mb fa o pm cd doc a vs ns G Y ho (fd_plain hd) hcd hmg hobj hints hlen hg) fun r s' hq=>?_)
 obtain⟨rfl,h2,h3,h4⟩:=hq
 exact⟨.inl ⟨.bool true,.bool true,[],rfl,fun _=>rfl,.bool true,CQ l _,fun _=>⟨List.Pairwise.nil,fun _ hm=>(nomatch hm)⟩⟩,h2,h3,h4⟩
section
variable {prog:Program}{w:World}{A:Around}{E:Value->Shared->Prop}{s:Shared}{K:Frag}
end
end Att
namespace L2
open PySem PySem.Spec PyProof.Rows
theorem tV:∀{vs:List Value} {ns:List Int},IntsAre vs ns->Vals (ns.map V.int) vs
 |_,_,.nil=>.nil
 |_,_,.cons n t h=>.cons ⟨t,rfl⟩ (tV h)
def Jw (H:Hp):Prop:=∀b,H b=none\/∃o xs,H b=some (.frz o (.lst xs))
theorem EB {P:Program}{w:World}{K:PySem.W.Frag}{mg mb:Str->Option Value}{CX:Ar}{k:Nat}{fa a:Addr}{fd:FuncData}{x:Str}{sp:Sp}{s₁:Shared}{vs:List Value}{ns:List Int}
  (KX:K.In s₁.heap) (hns:s₁.heap.Ns mainGlobals mg) (hb:s₁.heap.Ns builtinsNs mb) (hbb:∀x:Str,x≠"__name__"->mb x=bootBuiltins x) (hlim:s₁.heap.NoLimit) (hg:s₁.gens = #[])
  (ha:s₁.heap.get? a=some { cls:=.type "list", data:=.seq vs.toArray }) (hi:IntsAre vs ns) (hl:ns.length≤sizeLine) (hr:eK k callerA)
  (F:∀base:Heap,K.In base->base.Ns mainGlobals mg->ir P w K mg base CX k fa fd [x] sp) (hbind:∀(s:Shared) (u:Value),BindsTo s fd ⟨[u],[]⟩ [(x,u)])
  (hsp:∀H:Hp,Jw H->dO K H a (ns.map V.int)->sp [.ref a] H (fun v _=>v=.bl true) fun _ _ _=>False)
  (hCX:∀H e s',CX [] H s₁ (fun _ _ _=>False) e s'->False):
  codeAny (model P w) callerA (.call (.ref fa) ⟨[.ref a],[]⟩) (fun r s'=>r=.ok (.ret (.bool true))/\OldK s₁.heap s'.heap/\s'.os=s₁.os/\AllBare s'.gens) s₁:=by
 have rv:=tV hi
 have lenV:=hi.length
 -- from an abstract heap in which nothing but the script may be tracked
 have core:∀H:Hp,Jw H->dO K H a (ns.map V.int)->oi P w H s₁.heap->(∀b,H b≠none->b=a)->(H a≠none->K.lookup a=none) ->
   codeAny (model P w) callerA (.call (.ref fa) ⟨[.ref a],[]⟩) (fun r s'=>r=.ok (.ret (.bool true))/\OldK s₁.heap s'.heap/\s'.os=s₁.os/\AllBare s'.gens) s₁:=by
  intro H hO hS hok hA hK
  have base_of:∀{b:Addr} {o:Obj},s₁.heap.get? b=some o->H b=none->(uG s₁.heap H).get? b=some o:=fun e n=>Eo e n
  have noA:∀{b:Addr} {o:Obj} {es:Array DictEntry} {ep:Nat},s₁.heap.get? b=some o->o.data=.dict es ep->H b=none:=fun {b o es ep} e d=>by
   cases q:H b with
   |none=>rfl
   |some u =>
    have e':b=a:=hA b (by rw [q];simp)
    subst e'
    rw [ha] at e;cases e
    have d':Data.seq vs.toArray _=Data.dict es ep:=d
    cases d'
  have nsK:∀{b:Addr} {m:Str->Option Value},s₁.heap.Ns b m->(uG s₁.heap H).Ns b m:=fun {b m} ⟨o,es,ep,e,d,r⟩=>⟨o,es,ep,base_of e (noA e d),d,r⟩
  have hKb:K.In (uG s₁.heap H):=fun b o e=>base_of (KX b o e) (by
   cases q:H b with
   |none=>rfl
   |some u =>
    have e':b=a:=hA b (by rw [q];simp)
    subst e'
    rw [hK (by rw [q];simp)] at e;cases e)
  have hM:Mod K mg (uG s₁.heap H):=⟨hKb,nsK hns,⟨mb,nsK hb,hbb⟩,let ⟨mc,h1,h2⟩:=hlim;⟨mc,nsK h1,h2⟩⟩
  have e0:yp P w K mg (uG s₁.heap H) callerA [] s₁ H:=⟨rfl,hM,fun b o e=>Hz e,Nat.le_of_eq (CC _ _),trivial,fun b hb=>absurd (show b∈([]:List Addr) from hb) (by simp),hok,.of_eq hg⟩
  refine codeAny_mono ((F _ hKb (nsK hns)).run callerA [] s₁ H ⟨[.ref a],[]⟩ [.ref a] [.ref a] _ _ hr e0 (hbind s₁ (.ref a)) (.cons rfl .nil) (hsp H hO hS)) fun r s' h=>?_
  cases r with
  |error e=>exact (hCX H e s' h).elim
  |ok fl =>
   cases fl with
   |next=>exact False.elim h
   |brk=>exact False.elim h
   |cont=>exact False.elim h
   |ret u =>
    obtain⟨v,H',os,bare,un,hok',r',q⟩:=h
    have q':v=.bl true:=q
    subst q'
    obtain rfl:u=Value.bool true:=r'
    refine⟨rfl,OldK.of_keep fun b o e=>?_,os,bare⟩
    cases q:H b with
    |none=>exact un.keep b o e q (by intro z;exact absurd (show b∈([]:List Addr) from z) (by simp)) (by simp)
    |some u =>
     rcases hO b with z | ⟨ob,xs,z⟩
     ·rw [q] at z;cases z
     ·have z2:=un.frzs b ob _ z
      obtain⟨e1,_⟩:=hok b _ z
      obtain⟨e2,_⟩:=hok' b _ z2
      rw [e] at e1;cases e1
      exact e2
 cases hk:K.lookup a with
 |some o =>
  -- the script is one of the module's own objects
  have e:=KX a o hk
  rw [ha] at e
  cases e
  refine core (fun _=>none) (fun _=>.inl rfl) (.inr ⟨_,vs.toArray,_,hk,rfl,rfl,rfl,by rw [List.size_toArray,lenV];exact hl,by simpa using rv⟩) (fun b u z=>by have z':(none:Option HO)=some u:=z;cases z') (fun b z=>absurd rfl z) fun z=>absurd rfl z
 |none =>
  refine core (fun b=>if b=a then some (.frz { cls:=.type "list", data:=.seq vs.toArray } (.lst (ns.map V.int))) else none) (fun b=>?_) (.inl (.inr ⟨{ cls:=.type "list", data:=.seq vs.toArray },if_pos rfl⟩)) (fun b u z=>?_) (fun b z=>?_) fun _=>hk
  ·by_cases hb:b=a
   ·exact .inr ⟨_,_,if_pos hb⟩
   ·exact .inl (if_neg hb)
  ·by_cases hb:b=a
   ·have z':=(if_pos hb).symm.trans z
    cases z'
    subst hb
    exact⟨ha,by rw [List.length_map];exact hl,vs,_,rv,ha⟩
   ·have z':=(if_neg hb).symm.trans z
    cases z'
  ·by_cases hb:b=a
   ·exact hb
   ·exact absurd (if_neg hb) z
theorem B4 {l:PySem.W.OpenLaw}{n k:Nat}{q:Program}{loose:List Str}{XP:(Str->Option Value)->Heap->Prop}{YP:World->Heap->Prop}{d:DefRec}{K:Params->PySem.W.Frag}{CX:World->Ar}{sp:World->Sp}{x:Str}
  (hn:l.most=some n) (hn2:n≤sizeLine) (hdf:d.params.defaults=[]) (hr:eK k callerA)
  (hY:∀(w:World) (h:Heap),YP w h->(K w.params).In h)
  (F:∀(w:World) (mg:Str->Option Value) (fa:Addr) (h:Heap),(K w.params).In h->h.Ns mainGlobals mg->mg d.name=some (.ref fa) ->
   ∃fd:FuncData,(∀(s:Shared) (u:Value),BindsTo s fd ⟨[u],[]⟩ [(x,u)]) /\
    ∀base:Heap,(K w.params).In base->base.Ns mainGlobals mg->ir l.prog w (K w.params) mg base (CX w) k fa fd [x] (sp w))
  (hsp:∀(w:World) (H:Hp) (a:Addr) (ns:List Int),ns.length≤n->Jw H->dO (K w.params) H a (ns.map V.int)->sp w [.ref a] H (fun v _=>v=.bl true) fun _ _ _=>False)
  (hCX:∀(w:World) (H:Hp) (s:Shared) (e:Value) (s':Shared),CX w [] H s (fun _ _ _=>False) e s'->False):
  PySem.W.WalkO q loose XP YP l.row.toRowW d [] (fun f vs=>PySem.call f vs):=by
 refine Att.wo hn hdf fun w Y8 s₁ mg mb fa o pm cd doc a vs ns G Y ho hd hcd hmg hobj hints hlen hg=>?_
 have KX:=hY w _ Y
 obtain⟨fd,hb,hF⟩:=F w mg fa _ KX G.T.g hmg
 exact EB KX G.T.g G.T.b G.T.builtins G.T.nolimit hg hobj hints (Nat.le_trans hlen hn2) hr hF hb (fun H hO hS=>hsp w H a ns hlen hO hS) fun H e s'=>hCX w H s₁ e s'
end L2
/- THE LAST THEOREM (shape;LID,My.* are yours):
   My.Adr: a structure of the addresses that your layer names (classes,functions);My.Txt K t: a structure (Prop) of the equations over K;
   My.txt_mk:{K} {implicit addresses ..} (e1:nsIn K mainGlobals "law" = some (some (.ref f))) (e2:K.lookup f=some ⟨oc,od,.func (fnOf "law" "law" params body scope dV kV doc pm an cdv ct),sl⟩) (e3:codeIn K cdv "law" = true) .. : ∃t,My.Txt K t
set_option maxRecDepth 100000 in
set_option maxHeartbeats 0 in
theorem PySem.Challenge.cw_LID_holds : PySem.Challenge.rw_LID.Holds := by
 w_on;o_law;k_head;(case hw=>w_witness2)
 k_fill
 refine L2.B4 (l:=PySem.Challenge.rw_LID) (n:=63) (k:=40) (x := "script") (CX:=fun w=>..) (sp:=fun _=>My.sp_law) rfl (by decide) rfl ⟨rfl,by decide,by decide⟩ (fun w h Y=>PySem.W.kIn_of Y) ?F ?S ?C
 case F =>
  intro w mg fa h KX G hmg
  have T:∃t,My.Txt (L2.KOf KX) t:=by
   dsimp only [L2.KOf] -- K must stand as «<heap const> w.params» for k_is
   refine' My.txt_mk ?e1 ?e2 ?e3 ..
   (case e1=>PySem.W.k_is) -- in the order: a name->its address->its object->its parts
   (case e2=>PySem.W.k_is)
   ..
  obtain⟨t,T⟩:=T
  have e0:=hmg.symm.trans (PySem.W.mg_of KX G T.law)
  cases e0 -- fa is the law's own address
  exact⟨_,fun s u=>.of_eq rfl,fun base kb nb=>My.law_fn T kb nb⟩ -- if «.of_eq rfl» comes too early: refine' ⟨_,?b,fun base kb nb=>My.law_fn T kb nb⟩;exact fun s u=>.of_eq rfl
 case S=>exact fun w H a ns hl hO hS=>..
 case C=>exact ..
(the tactic k_is has no namespace: write k_is) -/
namespace L2
open PySem PySem.Spec PyProof.Rows
def inClass (s:Stmt)(j:Nat):Stmt:=match s with
 | .ClassDef _ _ _ body _ _ _ _ _ _ _=>body.getD j (.Pass ⟨0,0,0,0⟩)
 |_=>.Pass ⟨0,0,0,0⟩
def jj (s:Stmt):Arguments:=match s with
 | .FunctionDef _ a _ _ _ _ _ _ _ _=>a
 |_=>{ posonlyargs:=[],args:=[],vararg:=none,kwonlyargs:=[],kw_defaults:=[],kwarg:=none,defaults:=[] }
def dy (s:Stmt):List Stmt:=match s with
 | .FunctionDef _ _ b _ _ _ _ _ _ _=>b
 |_=>[]
def aw (s:Stmt):Scope:=match s with
 | .FunctionDef _ _ _ _ _ _ sc _ _ _=>sc
 |_=>{ kind:=.function,names:=[],isGenerator:=false,isCoroutine:=false }
abbrev tZ:Ar:=fun _ _ _ _ _ _=>False
abbrev E0:XK:=fun _ _ _=>False
theorem Fd {X:Cx}:Passes tZ X E0:=fun _ _ _ _ _ _ _ h=>h.elim
structure fW (K:PySem.W.Frag)(x qual:Str)(st:Stmt)(f:Addr)(fd:FuncData):Prop where
 ex:∃(oc:Value) (od:Option Addr) (kV doc pm:Value) (an:Option Addr) (cdv ct:Value) (osl:Array (Option Value)),
  fd=PySem.W.fnOf x qual (jj st) (dy st) (aw st) .none kV doc pm an cdv ct/\K.lookup f=some ⟨oc,od,.func fd,osl⟩/\PySem.W.codeIn K cdv qual=true
 kp:PySem.W.keepIn K (.ref f)=true
section
variable {P:Program}{w:World}{K:PySem.W.Frag}{mg:Str->Option Value}{base:Heap}
theorem fW.ok {x qual:Str}{st:Stmt}{f:Addr}{fd:FuncData}{N ps:List Str}{k:Nat}{sp:Sp}(F:fW K x qual st f fd)(S:aV N ps (aw st))(len:∀vs H Q E,sp vs H Q E->vs.length=ps.length)
  (hbody:∀(cdv:Value) (A:Around) (outer:List Env) (s:Shared) (H:Hp) (vs:List V) (Q:VK) (E:XK),eK k (A.deeper (envOfC qual (aw st) s.heap.objs.size f cdv))->sp vs H Q E ->
   ∃t,kX (nA tZ P w K mg base N qual (aw st) f cdv A outer s H E).nox (dy st) t/\t { nx:=fun _ H'=>Q .non H',rt:=Q } (start N vs) H):ir P w K mg base tZ (k+1) f fd ps sp:=by
 obtain⟨oc,od,kV,doc,pm,an,cdv,ct,osl,rfl,lk,hcd⟩:=F.ex
 refine IU lk hcd S len fun A outer s H vs Q E hr hsp=>?_
 obtain⟨t,h,q⟩:=hbody cdv A outer s H vs Q E hr hsp
 exact⟨t,h.nox,q⟩
theorem fW.binds {x qual:Str}{st:Stmt}{f:Addr}{fd:FuncData}{ps:List Str}(F:fW K x qual st f fd)
  (h:∀(kV doc pm:Value) (an:Option Addr) (cdv ct:Value) (us:List Value),us.length=ps.length->bindArgs (PySem.W.fnOf x qual (jj st) (dy st) (aw st) .none kV doc pm an cdv ct) ⟨us,[]⟩=pure (ps.zip us)):Binds K fd ps []:=by
 obtain⟨oc,od,kV,doc,pm,an,cdv,ct,osl,rfl,lk,hcd⟩:=F.ex
 exact .all (h kV doc pm an cdv ct)
theorem J4 {x qual:Str}{st:Stmt}{f:Addr}{oc:Value}{od an:Option Addr}{osl:Array (Option Value)}{kV doc pm cdv ct:Value}(l:K.lookup f=some ⟨oc,od,.func (PySem.W.fnOf x qual (jj st) (dy st) (aw st) .none kV doc pm an cdv ct),osl⟩)
  (c:PySem.W.codeIn K cdv qual=true) (k:PySem.W.keepIn K (.ref f)=true):fW K x qual st f (PySem.W.fnOf x qual (jj st) (dy st) (aw st) .none kV doc pm an cdv ct):=⟨⟨oc,od,kV,doc,pm,an,cdv,ct,osl,rfl,l,c⟩,k⟩
end
theorem cL {n:Nat}(h:n≤1000):n<sizeLine:=Nat.lt_of_le_of_lt h (by decide)
section
variable {X:Cx}
theorem pv (i:Nat){x:Str}{pos:Pos}(hN:X.N[i]? = some x:=by rfl)(hv:Ly X.env.scope x:=by first | exact Or.inl rfl | exact Or.inr (Or.inl rfl) | exact Or.inr (Or.inr rfl))(hd:(x == ("__debug__" : Str))=false:=by decide)
  (hcd:(x == ("__classdict__" : Str))=false:=by decide):PE X (.Name x pos) (jS i):=KN hN hv hd hcd
end
def aQ (H H':Hp):Prop:=∀b o,H b=some o->H' b=some o
theorem aQ.refl (H:Hp):aQ H H:=fun _ _ h=>h
theorem aQ.trans {H H1 H2:Hp}(a:aQ H H1)(b:aQ H1 H2):aQ H H2:=fun c o h=>b c o (a c o h)
theorem aQ.free {H H':Hp}(e:aQ H H'){l:Addr}(h:H' l=Option.none):H l=Option.none:=by
 cases q:H l with
 |none=>rfl
 |some o =>
  rw [e l o q] at h
  cases h
theorem aQ.seq {K:PySem.W.Frag}{H H':Hp}{a:Addr}{xs:List V}(e:aQ H H')(h:dO K H a xs):dO K H' a xs:=by
 rcases h with (h | ⟨o,h⟩) | h
 ·exact .inl (.inl (e _ _ h))
 ·exact .inl (.inr ⟨o,e _ _ h⟩)
 ·exact .inr h
theorem CI (o:Obj)(f:Array Value->Array Value):(o.mapFields f).dict=o.dict:=by
 obtain⟨c,d,t,l⟩:=o
 cases t<;>rfl
def KD (g g':Heap)(e:Addr):Prop:=∀o,g.get? e=some o->∃o',g'.get? e=some o'/\o'.dict=o.dict
theorem KD.trans (x:KD g1 g2 e)(y:KD g2 g3 e):KD g1 g3 e:=fun o q=>by
 obtain⟨o1,q1,d1⟩:=x o q
 obtain⟨o2,q2,d2⟩:=y o1 q1
 exact⟨o2,q2,d2.trans d1⟩
section
variable {M:Model}{A:Around}{E:Value->Shared->Prop}{s:Shared}{bs:Heap}{env:Env}{out:List Env}{L e:Addr}{a0 fl:Value}{oe:Obj}{vs:Array Value}{Q:Unit->Shared->Prop}
theorem DX {nx:Bool}(hfr:A.frames=some (env::out))(hl:s.heap.FunFrames bs (env::out))(hf:env.frame=some L)(he:s.heap.get? e=some oe)(hk:bs.StaysIn s.heap)(hn:bs.get? e=none)
  (hd:oe.data=.fields vs) (hz:1<vs.size) (h0:vs[0]? = some a0)
  (hq:∀g',Heap.NotedW bs (env::out) e oe.cls a0 (rawInt L) s.heap g'->KD s.heap g' e->Q () { s with heap:=g' }):
  wpAny M A (do let a <- frameOf env;let pl <- entryPlaceOf L nx;let b <- EntryCells.newEntry hd0 a .none (rawInt L) .none pl;setField (.ref e) 1 b) Q E s:=by
 have hin:e∉(env::out).filterMap (·.frame):=fun m=>by
  obtain⟨_,o,q,nf⟩:=hl.mem m
  rw [he] at q
  cases q
  exact nf vs hd
 refine wpAny_bind (wpAny_frameOf_fun hfr hl hf fun g1 t1=>wpAny_bind (wpAny_entryPlaceOf fun pl hpl=>?_))
 unfold EntryCells.newEntry newFields
 refine wpAny_bind (wpAny_newObj_type ?_ (hpl.sizeOk5 _ _ _ _ _))
 have e1:g1.get? e=some oe:=(t1.2.1 e hin).trans he
 have k1:bs.StaysIn g1:=fun b o q=>(t1.2.1 b fun m=>by rw [(hl.mem m).1] at q;cases q).trans (hk b o q)
 obtain⟨ob,hob⟩:∃ob:Obj,ob={ cls:=.type "traceback", dict:=none,data:=.fields ([hd0,.ref L,.none,rawInt L,.none]++(if pl.isEmpty then List.replicate 6 Value.none else pl)).toArray }:=⟨_,rfl⟩
 have hobd:ob.data=.fields ([hd0,.ref L,.none,rawInt L,.none]++(if pl.isEmpty then List.replicate 6 Value.none else pl)).toArray:=by rw [hob]
 rw [<- hob]
 have e2:=Heap.get?_push_of_some (h:=g1) ob e1
 have nT:g1.objs.size≠e:=Nat.ne_of_gt (Heap.lt_size e1)
 obtain⟨fn,hfn⟩:∃fn:Array Value->Array Value,fn=(·.setIfInBounds 1 (Value.ref g1.objs.size)):=⟨_,rfl⟩
 have d3:=Obj.data_mapFields hd fn
 have e3:=Heap.get?_update_self (Obj.mapFields fn) e2 (Obj.isFreed_of_fields d3)
 have T3:=(Heap.get?_update_other (g1.push ob) (Obj.mapFields fn) (Ne.symm nT)).trans (Heap.get?_push_size g1 (by rw [hob];rfl))
 have kp:∀b o,b≠e->g1.get? b=some o->((g1.push ob).update e (Obj.mapFields fn)).get? b=some o:=fun b o nb q=>by
  rw [Heap.get?_update_other _ _ (Ne.symm nb)]
  exact Heap.get?_push_of_some _ q
 have nr:∀b o,s.heap.get? b=some o->(∀ws,o.data≠.fields ws)->b≠e:=fun b o q nf z=>by
  rw [z,he] at q
  cases q
  exact nf vs hd
 have dd:KD s.heap ((g1.push ob).update e (Obj.mapFields fn)) e:=fun o q=>by
  rw [he] at q
  cases q
  exact⟨_,e3,CI _ _⟩
 refine wpAny_setField e2 hd hz (hfn ▸ hq _ ⟨fun b o q=>kp b o (fun z=>by rw [z,hn] at q;cases q) (k1 b o q),hl.of_keeps fun b o q nf=>?_,?_,fun b o q nf=>?_⟩ dd)
 ·obtain⟨sl,z⟩:=t1.2.2 b o q
  exact⟨_,kp b _ (nr b o q nf) z,rfl⟩
 ·refine⟨_,_,g1.objs.size,_,_,e3,⟨Obj.cls_mapFields _ _,?_⟩,d3,?_,k1.fresh,nT,T3,hobd,?_⟩
  ·rw [hfn,Array.getElem?_setIfInBounds_ne (by decide)];exact h0
  ·rw [hfn];simp [hz]
  ·first | (simp;done) | (rcases hpl with rfl | ⟨_,_,_,_,_,_,_,rfl⟩<;>simp)
 ·obtain⟨sl,z⟩:=t1.2.2 b o q
  exact⟨sl,kp b _ (nr b o q nf) z⟩
theorem Kr (hfr:A.frames=some (env::out))(hl:s.heap.FunFrames bs (env::out))(hf:env.frame=some L)(he:s.heap.get? e=some oe)(hk:bs.StaysIn s.heap)(hn:bs.get? e=none)
  (hd:oe.data=.fields vs) (h1:vs[1]? = some .none) (h0:vs[0]? = some a0)
  (hq:∀g',Heap.NotedW bs (env::out) e oe.cls a0 (rawInt L) s.heap g'->KD s.heap g' e->Q () { s with heap:=g' }):wpAny M A (noteFrame (.ref e) env) Q E s:=by
 unfold noteFrame
 simp only [hf]
 refine wpAny_bind (wpAny_field he hd h1 ?_)
 rw [if_neg (by decide)]
 exact DX hfr hl hf he hk hn hd (Array.getElem?_eq_some_iff.mp h1).1 h0 hq
theorem EX (hfr:A.frames=some (env::out))(hl:s.heap.FunFrames bs (env::out))(hf:env.frame=some L)(ht:s.heap.TracedW bs e cls a0)(hk:bs.StaysIn s.heap)(hn:bs.get? e=none)
  (hq:∀g',Heap.NotedW bs (env::out) e cls a0 (rawInt L) s.heap g'->KD s.heap g' e->Q () { s with heap:=g' }):wpAny M A (noteFrame (.ref e) env) Q E s:=by
 obtain⟨ox,ws,T,oT,ts,x1,⟨rfl,x2⟩,x3,x4,x5,x6,x7,x8,x9⟩:=ht
 unfold noteFrame
 simp only [hf]
 refine wpAny_bind (wpAny_field x1 x3 x4 ?_)
 rw [if_pos (show (Value.ref T != Value.none)=true from by simp)]
 refine wpAny_bind (wpAny_field x7 x8 x9 ?_)
 rw [if_neg (show ¬ ((Value.none == rawInt L)=true) from by simp [rawInt])]
 refine wpAny_bind (wpAny_setField x7 x8 (Array.getElem?_eq_some_iff.mp x9).1 ?_)
 have ot:∀b,b≠T->(s.heap.update T (Obj.mapFields (·.setIfInBounds 3 Value.none))).get? b=s.heap.get? b:=fun b nb=>Heap.get?_update_other _ _ (Ne.symm nb)
 have nr:∀b o,s.heap.get? b=some o->(∀us,o.data≠.fields us)->b≠T:=fun b o q nf z=>by
  rw [z,x7] at q
  cases q
  exact nf ts x8
 refine DX hfr (hl.of_keeps fun b o q nf=>⟨o,(ot b (nr b o q nf)).trans q,rfl⟩) hf ((ot e (Ne.symm x6)).trans x1) (fun b o q=>(ot b fun z=>by rw [z,x5] at q;cases q).trans (hk b o q)) hn x3 (Array.getElem?_eq_some_iff.mp x4).1 x2 fun g' y k=>?_
 obtain⟨y1,y2,y3,y4⟩:=y
 refine hq g' ⟨y1,y2,y3,fun b o q nf=>y4 b o ((ot b (nr b o q nf)).trans q) nf⟩ fun o q=>k o ((ot e (Ne.symm x6)).trans q)
theorem pf (hk:bs.StaysIn s.heap)(hl:s.heap.FunFrames bs l)(ht:s.heap.TracedAtW bs e cls a0 fl)(hn:bs.get? e=none)
  (hq:∀g',Heap.FlyingW bs l e cls a0 g'->s.heap.UpToSlots g'->KD s.heap g' e->Q () { s with heap:=g' }):wpAny M A (setFlight (.ref e) none) Q E s:=by
 obtain⟨ox,ws,T,oT,ts,x1,x2,x3,x4,x5,x6,x7,x8,x9⟩:=ht
 have z3:3<ts.size:=(Array.getElem?_eq_some_iff.mp x9).1
 obtain⟨fn,hfn⟩:∃fn:Array Value->Array Value,fn=(·.setIfInBounds 3 ((none:Option Addr).elim Value.none fun f=>rawInt f)):=⟨_,rfl⟩
 have ot:∀b,b≠T->(s.heap.update T (Obj.mapFields fn)).get? b=s.heap.get? b:=fun b nb=>Heap.get?_update_other _ _ (Ne.symm nb)
 have nr:∀b o,s.heap.get? b=some o->(∀us,o.data≠.fields us)->b≠T:=fun b o q nf z=>by
  rw [z,x7] at q
  cases q
  exact nf ts x8
 unfold setFlight
 refine wpAny_bind (wpAny_field x1 x3 x4 ?_)
 rw [if_pos (show (Value.ref T != Value.none)=true from by simp)]
 refine wpAny_setField x7 x8 z3 (hfn ▸ hq _ ⟨fun b o q=>(ot b fun z=>by rw [z,x5] at q;cases q).trans (hk b o q),hn,hl.of_keeps fun b o q nf=>⟨o,(ot b (nr b o q nf)).trans q,rfl⟩,?_⟩ (fun b o q nf=>⟨o.slots,(ot b (nr b o q nf)).trans q⟩) fun o q=>⟨o,(ot e (Ne.symm x6)).trans q,rfl⟩)
 exact⟨ox,ws,T,_,_,(ot e (Ne.symm x6)).trans x1,x2,x3,x4,x5,x6,Heap.get?_update_self _ x7 (Obj.isFreed_of_fields (Obj.data_mapFields x8 _)),Obj.data_mapFields x8 _,by rw [hfn];simp [z3]⟩
theorem EF (hfr:A.frames=some (env::out))(hf:env.frame=some L)(hl:s.heap.FunFrames bs (env::out))(he:s.heap.get? e=some oe)(hk:bs.StaysIn s.heap)(hn:bs.get? e=none)
  (hd:oe.data=.fields vs) (h1:vs[1]? = some .none) (h0:vs[0]? = some a0)
  (hq:∀g',Heap.FlyingW bs out e oe.cls a0 g'->s.heap.UpToSlots g'->KD s.heap g' e->Q () { s with heap:=g' }):wpAny M A (leaving env (.ref e)) Q E s:=by
 unfold leaving
 refine wpAny_bind (Kr hfr hl hf he hk hn hd h1 h0 fun g1 y k1=>?_)
 obtain⟨y1,y2,y3,y4⟩:=y
 refine pf (s:={ s with heap:=g1 }) y1 y2 y3 hn fun g2 f u k2=>hq g2 ?_ (Heap.UpToSlots.trans (fun b o q nf=>y4 b o q nf) u) (k1.trans k2)
 obtain⟨f1,f2,⟨_,_,f3⟩,f4⟩:=f
 exact⟨f1,f2,f3,f4⟩
theorem EG (hfr:A.frames=some (env::out))(hf:env.frame=some L)(hy:Heap.FlyingW bs (env::out) e cls a0 s.heap)
  (hq:∀g',Heap.FlyingW bs out e cls a0 g'->s.heap.UpToSlots g'->KD s.heap g' e->Q () { s with heap:=g' }):wpAny M A (leaving env (.ref e)) Q E s:=by
 obtain⟨w1,w2,w3,w4⟩:=hy
 unfold leaving
 refine wpAny_bind (EX hfr w3 hf w4 w1 w2 fun g1 y k1=>?_)
 obtain⟨y1,y2,y3,y4⟩:=y
 refine pf (s:={ s with heap:=g1 }) y1 y2 y3 w2 fun g2 f u k2=>hq g2 ?_ (Heap.UpToSlots.trans (fun b o q nf=>y4 b o q nf) u) (k1.trans k2)
 obtain⟨f1,f2,⟨_,_,f3⟩,f4⟩:=f
 exact⟨f1,f2,f3,f4⟩
end
abbrev vE:List Value:=[.type "ValueError", .type "Exception", .type "BaseException", .type "object"]
structure iL (K:PySem.W.Frag)(C:Addr)(bm:List Value)(ini:Option Value):Prop where
 ex:∃N nm q bs hdct sn sub ab col dd k0 k1 k2 k3 k5 od es ep,K.lookup C=some (excClassObj nm q C N bs bm hdct sn sub ab col dd k0 k1 k2 k3 k5 "ValueError.__new__")/\K.lookup N=some od/\od.data=.dict es ep/\es.all (fun e=>match e.key with | .str _ _=>true | _=>false)=true/\nsFind es "__init__" = ini
theorem iL.at {K:PySem.W.Frag}{C:Addr}{bm:List Value}{ini:Option Value}(x:iL K C bm ini):∃N nm q bs hdct sn sub ab col dd k0 k1 k2 k3 k5 mN,(∀h,K.In h->h.get? C=some (excClassObj nm q C N bs bm hdct sn sub ab col dd k0 k1 k2 k3 k5 "ValueError.__new__")/\h.Ns N mN)/\mN "__init__" = ini:=by
 obtain⟨N,nm,q,bs,hdct,sn,sub,ab,col,dd,k0,k1,k2,k3,k5,od,es,ep,e1,e2,e3,e4,e5⟩:=x.ex
 refine⟨N,nm,q,bs,hdct,sn,sub,ab,col,dd,k0,k1,k2,k3,k5,nsFind es,fun h k=>⟨k _ _ e1,?_⟩,e5⟩
 have hN:h.isNs N=true:=by
  unfold Heap.isNs
  rw [k _ _ e2]
  dsimp only
  rw [e3]
  exact e4
 obtain⟨o,es',ep',f1,f2,f3,f4⟩:=Heap.Ns.of_isNs hN
 rw [k _ _ e2] at f1
 cases f1
 rw [e3] at f2
 cases f2
 exact⟨_,es,ep,k _ _ e2,e3,f3,fun _=>rfl⟩
structure B8 (K:PySem.W.Frag)(C:Addr)(up:List Addr)(ini:Option Value):Prop where
 cls:iL K C (up.map Value.ref++vE) ini
 ups:∀A∈up,∃bm,iL K A bm none
theorem vV {K:PySem.W.Frag}(k:K.In h):∀up:List Addr,(∀A∈up,∃bm,iL K A bm none)->OwnTail h vE (up.map Value.ref++vE)
 |[],_=>.base
 |A::up,x=>by
  obtain⟨bm,z⟩:=x A List.mem_cons_self
  obtain⟨N,nm,q,bs,hdct,sn,sub,ab,col,dd,k0,k1,k2,k3,k5,mN,e1,e3⟩:=z.at
  exact .own (e1 h k).1 (e1 h k).2 e3 (vV k up fun B hB=>x B (List.mem_cons_of_mem _ hB))
section
variable {X:Cx}{pins:List (Addr×Obj)}{σ:St}{H:Hp}{s:Shared}{C:Addr}{up:List Addr}{x:Str}{np cpos pos:Pos}{e:Expr}{t:TA}
end
theorem dN.has (x:dN P w H h a o):∃ob,h.get? a=some ob:=by
 cases o with
 |lst xs=>obtain⟨_,_,_,_,e⟩:=x;exact⟨_,e⟩
 |tup xs=>obtain⟨_,_,_,o,e,_⟩:=x;exact⟨_,e⟩
 |dK kvs=>obtain⟨_,_,_,_,o,_,_,e,_⟩:=x;exact⟨_,e⟩
 |dT kvs=>obtain⟨_,_,_,_,o,_,_,e,_⟩:=x;exact⟨_,e⟩
 |set S n=>obtain⟨o,_,_,_,e,_⟩:=x;exact⟨_,e⟩
 |ins C dx fs=>obtain⟨_,_,_,e,_⟩:=x;exact⟨_,e⟩
 |own y=>exact x
 |xd fs=>obtain⟨_,⟨_,_,_,e,_⟩,_⟩:=x;exact⟨_,e⟩
 |rng lo hi=>obtain⟨_,_,_,e⟩:=x;exact⟨_,e⟩
 |frz ob u=>obtain⟨e,_⟩:=x;exact⟨_,e⟩
 |tbl ps=>exact⟨_,x⟩
 |met f y=>exact⟨_,x⟩
 |ext φ=>exact x.2.1
def Js (od:Option Addr)(a:Addr)(h:Heap):Prop:=∃oe,h.get? a=some oe/\oe.dict=od
theorem Js.kd (x:Js od a h)(k:KD h h' a):Js od a h':=by
 obtain⟨oe,q,e1⟩:=x
 obtain⟨o',q',e2⟩:=k oe q
 exact⟨o',q',e2.trans e1⟩
structure Ju (P:Program)(w:World)(outer:List Env)(H:Hp)(s:Shared)(C a:Addr)(od:Option Addr)(H':Hp)(s':Shared):Prop where
 os:s'.os=s.os
 bare:AllBare s'.gens
 un:Un (nG outer) [] H H' s.heap s'.heap
 hok:oi P w H' s'.heap
 new:s.heap.get? a=none
 nH:H' a=none
 fl:∃B a0,Heap.FlyingW B outer a (.ref C) a0 s'.heap/\∀b o,s'.heap.get? b=some o->(H' b≠none\/((∃o',s.heap.get? b=some o')/\b∉nG outer))->B.get? b=some o
 dc:Js od a s'.heap
def oV (od:Option Addr):Value:=match od with
 |none=>.none
 |some d=>.ref d
theorem Ks:∀{a b:Option Addr},oV a=oV b->a=b
 |none,none,_=>rfl
 |some _,some _,h=>by injection h with h;rw [h]
 |none,some _,h=>by cases h
 |some _,none,h=>by cases h
def M3 (P:Program)(w:World):Ar:=fun outer H s E e s'=>∃a C od H',e=.ref a/\Ju P w outer H s C a od H' s'/\E (oV od) (some C) H'
def Made (X:Cx)(pins:List (Addr×Obj))(σ:St)(H:Hp)(C:Addr)(od:Option Addr)(e:Value)(s':Shared):Prop:=
 ∃a oe vs a0,e=.ref a/\Inv X pins σ H s'/\H a=none/\X.Y8.heap.get? a=none/\s'.heap.get? a=some oe/\oe.cls=.ref C/\oe.data=.fields vs/\vs[0]? = some a0/\vs[1]? = some .none/\oe.dict=od
def Jr (X:Cx)(pins:List (Addr×Obj))(σ:St)(H:Hp)(C:Addr)(od:Option Addr)(e:Value)(s':Shared):Prop:=∃a s H0,e=.ref a/\Inv X pins σ H0 s/\Ju X.prog X.w X.stack H0 s C a od H s'
section
variable {X:Cx}{pins:List (Addr×Obj)}{σ:St}{H H0:Hp}{s s':Shared}{C a:Addr}{od:Option Addr}{h1 h' B:Heap}
theorem Inv.offStack (I:Inv X pins σ H s){b:Addr}(e:X.Y8.heap.get? b=some o)(hb:b∉X.fs):b∉nG X.stack:=fun z=>by
 rcases List.mem_cons.mp (I.stkSub b z) with z | z
 ·exact absurd (Nat.lt_of_lt_of_le (Heap.lt_size e) I.ok.above) (by rw [z];exact Nat.lt_irrefl _)
 ·exact hb z
theorem A6 (hex:X.ex=[])(I:Inv X pins σ H { s' with heap:=h1 })(hB:B.StaysIn h')(cov:∀b o,h1.get? b=some o->(H b≠none\/((∃o',X.Y8.heap.get? b=some o')/\b∉nG X.stack))->B.get? b=some o)
  (up:h1.UpToSlots h') (na:h1.get? a=none\/(X.Y8.heap.get? a=none/\H a=none)) (fl:Heap.FlyingW B X.outer a (.ref C) a0 h') (dc:Js od a h'):
  Ju X.prog X.w X.outer X.Y9 X.Y8 C a od H { s' with heap:=h' }:=by
 have un0:=I.base
 rw [hex] at un0
 have kept:∀b o,X.Y8.heap.get? b=some o->b∉X.fs->∀o1,h1.get? b=some o1->h'.get? b=some o1:=fun b o e hb o1 e1=>hB _ _ (cov b o1 e1 (.inr ⟨⟨o,e⟩,I.offStack e hb⟩))
 have dA:∀b u o,H b=some u->h1.get? b=some o->h'.get? b=some o:=fun b u o e e1=>hB _ _ (cov b o e1 (.inl (by rw [e];simp)))
 refine⟨I.os,I.bare,⟨fun b o e n hb hx=>?_,fun b o e n hb hx=>?_,fun b o e n hx=>un0.free b o e n hx,fun b o e hx=>?_,un0.tups,un0.frzs,un0.tbls⟩,fun b u e=>?_,?_,?_,⟨B,a0,fl,fun b o e z=>?_⟩,dc⟩
 ·exact kept b o e hb o (un0.keep b o e n hb hx)
 ·obtain⟨sl,e1⟩:=un0.slot b o e n hb hx
  obtain⟨_,o2,e2,d2⟩:=I.ok.funs.mem hb
  rw [e] at e2
  cases e2
  obtain⟨sl2,e3⟩:=up b _ e1 d2
  exact⟨sl2,e3⟩
 ·obtain⟨o1,e1⟩:=un0.there b o e hx
  by_cases hb:b∈X.fs
  ·cases q:X.Y9 b with
   |none =>
    obtain⟨sl,e1⟩:=un0.slot b o e q hb hx
    obtain⟨_,o2,e2,d2⟩:=I.ok.funs.mem hb
    rw [e] at e2
    cases e2
    obtain⟨sl2,e3⟩:=up b _ e1 d2
    exact⟨_,e3⟩
   |some u=>rw [I.ok.frf b hb] at q;cases q
  ·exact⟨o1,kept b o e hb o1 e1⟩
 ·exact (I.hok b u e).stay (fun c v hc q=>by
   rcases hc with rfl | hc
   ·exact dA _ u v e q
   ·exact dA _ _ v hc q) (fun _ q=>q) fun _ _ q=>q
 ·rcases na with na | na
  ·cases q:X.Y8.heap.get? a with
   |none=>rfl
   |some o =>
    obtain⟨o1,e1⟩:=un0.there a o q (by simp)
    have e2:h1.get? a=some o1:=e1
    rw [na] at e2;cases e2
  ·exact na.1
 ·rcases na with na | na
  ·cases q:H a with
   |none=>rfl
   |some u =>
    obtain⟨ob,e1⟩:=(I.hok a u q).has
    have e2:h1.get? a=some ob:=e1
    rw [na] at e2;cases e2
  ·exact na.2
 ·rcases z with z | ⟨⟨o',e'⟩,hb⟩
  ·cases q:H b with
   |none=>exact absurd q z
   |some u =>
    obtain⟨ob,e1⟩:=(I.hok b u q).has
    have e2:=dA b u ob q e1
    have e3:h'.get? b=some o:=e
    rw [e2] at e3;cases e3
    exact cov b _ e1 (.inl z)
  ·obtain⟨o1,e1⟩:=un0.there b o' e' (by simp)
   have e2:=kept b o' e' hb o1 e1
   have e3:h'.get? b=some o:=e
   rw [e2] at e3;cases e3
   exact cov b _ e1 (.inr ⟨⟨o',e'⟩,I.offStack e' hb⟩)
theorem J3 {l:List Env}:∀env∈l,∀b,env.frame=some b->b∈nG l:=fun env he b hb=>List.mem_filterMap.mpr ⟨env,he,hb⟩
theorem zv (hex:X.ex=[])(hst:X.stack=X.env::X.outer)(hf:X.env.frame=some X.env.locals)(z:Made X pins σ H C od e s'):
  wpAny (model X.prog X.w) X.A (leaving X.env e) (fun _ s''=>∃a,e=.ref a/\Ju X.prog X.w X.outer X.Y9 X.Y8 C a od H s'') E s':=by
 obtain⟨a,oe,vs,a0,rfl,I,nH,n0,he,hc,hd,h0,h1,hdc⟩:=z
 have hfr:=I.ok.frames
 have fun1:s'.heap.FunFrames X.base X.stack:=I.stack
 have fr0:=I.stkFree
 have fsub:=J3 (l:=X.stack)
 rw [hst] at hfr
 have hB:(PySem.W.hideAll s'.heap (a::nG X.stack)).StaysIn s'.heap:=fun b o q=>PySem.W.of_hideAll _ q
 have hBn:(PySem.W.hideAll s'.heap (a::nG X.stack)).get? a=none:=PySem.W.hideAll_none _ List.mem_cons_self
 have hl:s'.heap.FunFrames (PySem.W.hideAll s'.heap (a::nG X.stack)) (X.env::X.outer):=by
  rw [<- hst]
  exact PySem.W.funFrames_hide fun1 fun env he b hb=>List.mem_cons_of_mem _ (fsub env he b hb)
 refine EF (bs:=PySem.W.hideAll s'.heap (a::nG X.stack)) hfr hf hl he hB hBn hd h1 h0 fun g' f u k=>⟨a,rfl,?_⟩
 rw [hc] at f
 refine A6 (h1:=s'.heap) (B:=PySem.W.hideAll s'.heap (a::nG X.stack)) hex I f.1 (fun b o e1 z=>PySem.W.hideAll_get _ e1 fun hb=>?_) u (.inr ⟨n0,nH⟩) f (Js.kd ⟨oe,he,hdc⟩ k)
 rcases List.mem_cons.mp hb with rfl | hb
 ·rcases z with z | ⟨⟨o',z⟩,_⟩
  ·exact z nH
  ·rw [n0] at z;cases z
 ·rcases z with z | z
  ·exact z (fr0 b hb)
  ·exact z.2 hb
theorem zu (hex:X.ex=[])(hst:X.stack=X.env::X.outer)(hf:X.env.frame=some X.env.locals)(z:Jr X pins σ H C od e s'):
  wpAny (model X.prog X.w) X.A (leaving X.env e) (fun _ s''=>∃a,e=.ref a/\Ju X.prog X.w X.outer X.Y9 X.Y8 C a od H s'') E s':=by
 obtain⟨a,s,H0,rfl,I0,F⟩:=z
 obtain⟨B,a0,fl,cov⟩:=F.fl
 have hfr:=I0.ok.frames
 rw [hst] at hfr fl
 have I:=I0.call' F.os F.un F.hok F.bare (fun b hb=>absurd hb (by simp))
 refine EG hfr hf fl fun h' x1 x2 kd=>⟨a,rfl,?_⟩
 refine A6 (h1:=s'.heap) (B:=B) hex I x1.1 (fun b o e1 z=>cov b o e1 ?_) x2 (.inr ⟨?_,F.nH⟩) x1 (F.dc.kd kd)
 ·rcases z with z | ⟨⟨o',e'⟩,hb⟩
  ·exact .inl z
  ·obtain⟨o2,e2⟩:=I0.base.there b o' e' (by rw [hex];simp)
   exact .inr ⟨⟨o2,e2⟩,hb⟩
 ·cases q:X.Y8.heap.get? a with
  |none=>rfl
  |some o =>
   obtain⟨o2,e2⟩:=I0.base.there a o q (by rw [hex];simp)
   rw [F.new] at e2;cases e2
end
abbrev Cx.inS (X:Cx)(e:Value):Cx:={ X with A:=X.A.mark (some e),calm:=false,xe:=fun _ _=>False }
section
variable {X:Cx}{pins:List (Addr×Obj)}{σ:St}{H H0:Hp}{s s':Shared}{C D a:Addr}{od:Option Addr}{h1 h' B:Heap}
theorem Inv.inS (I:Inv X pins σ H s)(e:Value):Inv (X.inS e) pins σ H s:=
 ⟨⟨I.ok.mod,I.ok.kind,I.ok.glob,I.ok.blt,I.ok.above,I.ok.inj,I.ok.has,I.ok.cab,(fun z=>nomatch z),I.ok.frames,I.ok.stk,I.ok.exf,I.ok.bs,I.ok.bsz,I.ok.noex,I.ok.exfs,I.ok.funs,I.ok.frf⟩,I.os,I.bare,I.base,I.loc,I.cell,I.free,I.freeC,I.pin,I.hok,I.len⟩
theorem Inv.outS (ok:X.Ok)(I:Inv (X.inS e) pins σ H s):Inv X pins σ H s:=⟨ok,I.os,I.bare,I.base,I.loc,I.cell,I.free,I.freeC,I.pin,I.hok,I.len⟩
theorem pk {i:Nat}{tk:Nat}(I:Inv X pins σ H s)(hN:X.N.Nodup)(hi:X.N[i]? = some n)
  (hl:∀(j:Nat) (x:Str) (w:V),X.N[j]? = some x->σ[j]? = some (some w)->Ly X.env.scope x->∃u,RelV w u/\Look X.env s.heap m x u)
  (hn:h'.Ns X.env.locals (fun x=>if x=n then v else m x)) (sb:Heap.SameBut X.env.locals s.heap h'):Inv X pins (σ.set i none) H { s with heap:=h',toks:=tk }:=by
 have neL:∀b o,X.Y8.heap.get? b=some o->b≠X.env.locals:=fun b o e=>Nat.ne_of_lt (Nat.lt_of_lt_of_le (Heap.lt_size e) I.ok.above)
 have oth:∀b,b≠X.env.locals->h'.get? b=s.heap.get? b:=fun b hb=>sb.2 b hb
 refine⟨I.ok,I.os,I.bare,⟨fun b o e n' hb hx=>?_,fun b o e n' hb hx=>?_,fun b o e n' hx=>I.base.free b o e n' hx,fun b o e hx=>?_,I.base.tups,I.base.frzs,I.base.tbls⟩,⟨_,hn,fun j x w e1 e2 e3=>?_⟩,fun x c e=>?_,I.free,I.freeC,fun p hp=>?_,fun b u e=>?_,by rw [List.length_set];exact I.len⟩
 ·rw [oth b (neL b o e)];exact I.base.keep b o e n' hb hx
 ·rw [oth b (neL b o e)];exact I.base.slot b o e n' hb hx
 ·rw [oth b (neL b o e)];exact I.base.there b o e hx
 ·have hj:j≠i:=fun z=>by
   rw [z] at e2
   by_cases hil:i<σ.length
   ·rw [List.getElem?_set_self hil] at e2;cases e2
   ·rw [List.getElem?_eq_none (by rw [List.length_set];omega)] at e2;cases e2
  rw [List.getElem?_set_ne (Ne.symm hj)] at e2
  obtain⟨u,r,l⟩:=hl j x w e1 e2 e3
  refine⟨u,r,?_⟩
  have hxn:x≠n:=fun z=>by
   rw [z,<- hi] at e1
   exact hj (((List.getElem?_inj (List.getElem?_eq_some_iff.mp hi).1 hN).mp e1.symm).symm)
  rcases l with ⟨k,l⟩ | ⟨k,c,e,ob,z⟩
  ·exact .inl ⟨k,by dsimp only;rw [if_neg hxn];exact l⟩
  ·exact .inr ⟨k,c,e,ob,by rw [oth c (I.cne x c e)];exact z.1,z.2⟩
 ·obtain⟨w,ob,z⟩:=I.cell x c e
  exact⟨w,ob,by rw [oth c (I.cne x c e)];exact z.1,z.2⟩
 ·obtain⟨e,n',ne,nf,d⟩:=I.pin p hp
  exact⟨by rw [oth p.1 ne];exact e,n',ne,nf,d⟩
 ·refine (I.hok b u e).stay (fun c w hc q=>?_) (fun _ q=>q) fun _ _ q=>q
  have hcl:c≠X.env.locals:=fun z=>by
   have f:=I.free
   rw [<- z] at f
   rcases hc with rfl | hc
   ·rw [e] at f;cases f
   ·rw [hc] at f;cases f
  rw [oth c hcl];exact q
def fK (a C:Addr)(od:Option Addr):Heap->Prop:=fun h=>∃oe vs,h.get? a=some oe/\oe.cls=.ref C/\oe.data=.fields vs/\oe.dict=od
theorem qu (I0:Inv X pins σ H0 s)(F:Ju X.prog X.w X.stack H0 s C a od H s')(hB:B.StaysIn h')(cov:∀b o,s'.heap.get? b=some o->(H b≠none\/((∃o',s.heap.get? b=some o')/\b∉nG X.stack))->B.get? b=some o)
  (up:s'.heap.UpToSlots h') (he:fK a C od h') {tk:Nat}:Inv X pins σ (upd H a (.ext (fK a C od))) { s' with heap:=h',toks:=tk }:=by
 have un0:=F.un
 have ne:∀b u,H b=some u->b≠a:=fun b u e z=>by rw [z,F.nH] at e;cases e
 have ne':∀b o,s.heap.get? b=some o->b≠a:=fun b o e z=>by rw [z,F.new] at e;cases e
 have dA:∀b u o,H b=some u->s'.heap.get? b=some o->h'.get? b=some o:=fun b u o e e1=>hB _ _ (cov b o e1 (.inl (by rw [e];simp)))
 have kept:∀b o,s.heap.get? b=some o->b∉nG X.stack->∀o1,s'.heap.get? b=some o1->h'.get? b=some o1:=fun b o e hb o1 e1=>hB _ _ (cov b o1 e1 (.inr ⟨⟨o,e⟩,hb⟩))
 have slot:∀b o,s.heap.get? b=some o->H0 b=none->b∈nG X.stack->∃sl,h'.get? b=some { o with slots:=sl }:=fun b o e n hb=>by
  obtain⟨sl,e1⟩:=un0.slot b o e n hb (by simp)
  obtain⟨_,o2,e2,d2⟩:=I0.stack.mem hb
  rw [e] at e2
  cases e2
  obtain⟨sl2,e3⟩:=up b _ e1 d2
  exact⟨sl2,e3⟩
 refine I0.call' (s':={ s' with heap:=h',toks:=tk }) (ch:=[]) F.os ⟨fun b o e n hb hx=>?_,fun b o e n hb hx=>slot b o e n hb,fun b o e n hx=>?_,fun b o e hx=>?_,fun b xs e=>?_,fun b o u e=>?_,fun b ps e=>?_⟩ (fun b u e=>?_) F.bare fun b hb=>absurd hb (by simp)
 ·exact kept b o e hb o (un0.keep b o e n hb hx)
 ·rw [au (ne' b o e)];exact un0.free b o e n hx
 ·obtain⟨o1,e1⟩:=un0.there b o e hx
  by_cases hb:b∈nG X.stack
  ·obtain⟨sl,q⟩:=slot b o e (I0.stkFree b hb) hb
   exact⟨_,q⟩
  ·exact⟨o1,kept b o e hb o1 e1⟩
 ·have:=un0.tups b xs e
  rw [au (ne b _ this)];exact this
 ·have:=un0.frzs b o u e
  rw [au (ne b _ this)];exact this
 ·obtain⟨more,this⟩:=un0.tbls b ps e
  exact⟨more,by rw [au (ne b _ this)];exact this⟩
 ·by_cases hb:b=a
  ·subst hb
   rw [aJ] at e
   cases e
   obtain⟨oe,vs,q⟩:=id he
   exact⟨he,⟨oe,q.1⟩,fun g1 g2 ⟨o1,v1,q1⟩ k=>⟨o1,v1,k _ q1.1,q1.2⟩⟩
  ·rw [au hb] at e
   refine (F.hok b u e).stay (fun c w hc q=>?_) (fun c q=>?_) fun c xs q=>?_
   ·rcases hc with rfl | hc
    ·exact dA _ u w e q
    ·exact dA _ _ w hc q
   ·rw [au (ne c _ q)];exact q
   ·rw [au (ne c _ q)];exact q
theorem sW {K:PySem.W.Frag}{b:Bool}(k:K.In s.heap)(cC:iL K C bC iC)(cD:iL K D bD iD)(hbD:bD.contains (.type "BaseException")=true)(hb:(Value.ref C::bC).contains (.ref D)=b)(he:fK a C od s.heap)
  {Q:Bool->Shared->Prop} (hq:Q b s):wpAny M A (excMatches (.ref a) (.ref D)) Q E s:=by
 obtain⟨N,nm,q,bs,hdct,sn,sub,ab,col,dd,k0,k1,k2,k3,k5,mN,e1,_⟩:=cC.at
 obtain⟨N',nm',q',bs',hdct',sn',sub',ab',col',dd',j0,j1,j2,j3,j5,mN',e1',_⟩:=cD.at
 have hC:=(e1 _ k).1
 have hDc:=(e1' _ k).1
 obtain⟨oe,vs,g1,g2,g3,g4⟩:=he
 have hcB:(Value.ref D::bD).contains (.type "BaseException")=true:=by rw [List.contains_cons,hbD,Bool.or_true]
 have f:=PySem.tc_notTuple
 obtain⟨hp,g,d,tk,os⟩:=s
 unfold excMatches
 cases b with
 |true =>
  repeat (first
   |(with_reducible refine wpAny_loadPart_at g1 ?_;rw [g2])
   |(with_reducible refine wpAny_loadPart_at hDc ?_)
   |(with_reducible refine PySem.wpAny_isSubtype_exc hDc ?_;rw [hcB])
   |(with_reducible refine PySem.wpAny_isSubtype_exc hC ?_;rw [hb])
   | wp_step)
  exact hq
 |false =>
  repeat (first
   |(with_reducible refine wpAny_loadPart_at g1 ?_;rw [g2])
   |(with_reducible refine wpAny_loadPart_at hDc ?_)
   |(with_reducible refine PySem.wpAny_isSubtype_exc hDc ?_;rw [hcB])
   |(with_reducible refine PySem.wpAny_isSubtype_exc hC ?_;rw [hb])
   | wp_step)
  exact hq
end
theorem td (x:Heap.FlyingW B l a (.ref C) a0 h)(dc:Js od a h):fK a C od h:=by
 obtain⟨_,_,_,oe,vs,T,oT,ts,e1,e2,e3,_⟩:=x
 obtain⟨o',q,e'⟩:=dc
 rw [e1] at q
 cases q
 exact⟨oe,vs,e1,e2.1,e3,e'⟩
def Ends.gone (D:Ends)(i:Nat):Ends:={ nx:=fun σ H=>D.nx (σ.set i none) H,bk:=fun σ H=>D.bk (σ.set i none) H,ct:=fun σ H=>D.ct (σ.set i none) H,rt:=D.rt }
def nq (X:Cx)(pins:List (Addr×Obj))(σ:St)(H:Hp)(C:Addr)(od:Option Addr)(a:Addr)(s5:Shared):Prop:=
 ∃s s' H0 B a0,Inv X pins σ H0 s/\Ju X.prog X.w X.stack H0 s C a od H s'/\Heap.FlyingW B X.stack a (.ref C) a0 s5.heap/\(∀b o,s'.heap.get? b=some o->(H b≠none\/((∃o',s.heap.get? b=some o')/\b∉nG X.stack))->B.get? b=some o) /\
  s'.heap.UpToSlots s5.heap/\KD s'.heap s5.heap a/\s5={ s' with heap:=s5.heap }
section
variable {X:Cx}{pins:List (Addr×Obj)}{σ:St}{H:Hp}{s' s5:Shared}{C D a:Addr}{od:Option Addr}{bC bD:List Value}{iC iD:Option Value}{e:Value}{i:Nat}{n x:Str}{Y6:Stmt}{suite:List Stmt}{np pos:Pos}{Dn:Ends}{E:Value->Shared->Prop}{hs:List ExceptHandler}
theorem nq.inv (z:nq X pins σ H C od a s5):H a=none/\Inv X pins σ (upd H a (.ext (fK a C od))) s5/\fK a C od s5.heap:=by
 obtain⟨s,s',H0,B,a0,I0,F,x5,cov,u,kd,e5⟩:=z
 have he:=td x5 (F.dc.kd kd)
 have I5:=qu (tk:=s'.toks) I0 F x5.1 cov u he
 exact⟨F.nH,by rw [e5];exact I5,he⟩
theorem yF (hst:X.stack=X.env::X.outer)(hf:X.env.frame=some X.env.locals)(z:Jr X pins σ H C od e s')
  (hh:∀a s5,e=.ref a->nq X pins σ H C od a s5->wpAny (model X.prog X.w) X.A (handleBy (.ref a) X.env hs) (SP X pins Dn) E s5):
  wpAny (model X.prog X.w) X.A (noteFrame e X.env) (fun _ s₂=>wpAny (model X.prog X.w) X.A (setFlight e none) (fun _ s₃=>wpAny (model X.prog X.w) X.A (handleBy e X.env hs) (SP X pins Dn) E s₃) E s₂) E s':=by
 obtain⟨a,s,H0,rfl,I0,F⟩:=z
 obtain⟨B,a0,fl,cov⟩:=F.fl
 have hfr:=I0.ok.frames
 have fl0:=fl
 rw [hst] at fl hfr
 obtain⟨f1,f2,f3,f4⟩:=fl
 refine EX hfr f3 hf f4 f1 f2 fun g1 y k1=>?_
 obtain⟨y1,y2,y3,y4⟩:=y
 refine pf (s:={ s' with heap:=g1 }) y1 y2 y3 f2 fun g2 f u k2=>?_
 refine hh a _ rfl ⟨s,s',H0,B,a0,I0,F,?_,cov,Heap.UpToSlots.trans (fun b o q nf=>y4 b o q nf) u,k1.trans k2,rfl⟩
 rw [hst]
 exact f
theorem Cz (z:nq X pins σ H C od a s5)(cC:iL X.K C bC iC)(cD:iL X.K D bD iD)(hbD:bD.contains (.type "BaseException")=true)(hD:(Value.ref C::bC).contains (.ref D)=false)
  (hg:Gl X x) (hm:X.mg x=some (.ref D)) (hr:wpAny (model X.prog X.w) X.A (handleBy (.ref a) X.env hs) (SP X pins Dn) E s5) (hdb:(x == ("__debug__" : Str))=false:=by decide):
  wpAny (model X.prog X.w) X.A (handleBy (.ref a) X.env (.ExceptHandler (some (.Name x np)) nm bdy pos::hs)) (SP X pins Dn) E s5:=by
 obtain⟨nH,I5,he⟩:=z.inv
 refine wpAny_handleBy_cons (codeAny_handlers_test ?_) (by intro q;cases q)
 refine kN (I5.inS (.ref a)) hg hm ?_ hdb
 exact sW I5.kIn cC cD hbD hD he hr
theorem Hm (z:nq X pins σ H C od a s5)(cC:iL X.K C bC iC)(cD:iL X.K D bD iD)(hbD:bD.contains (.type "BaseException")=true)(hD:(Value.ref C::bC).contains (.ref D)=true)
  (hg:Gl X x) (hm:X.mg x=some (.ref D)) (hN:X.N.Nodup) (hi:X.N[i]? = some n) (hl:X.env.scope.names.lookup n=some .local) (hlo:X.env.kindOf n=some .local)
  (hs':∀s2,H a=none->Inv (X.inS (.ref a)) pins (σ.set i (some (.ref a))) (upd H a (.ext (fK a C od))) s2->wpAny (model X.prog X.w) (X.A.mark (some (.ref a))) (execs (Y6::suite) X.env) (SP (X.inS (.ref a)) pins (Dn.gone i)) (fun _ _=>False) s2)
  (hdb:(x == ("__debug__" : Str))=false:=by decide):
  wpAny (model X.prog X.w) X.A (handleBy (.ref a) X.env (.ExceptHandler (some (.Name x np)) (some n) (Y6::suite) pos::hs)) (SP X pins Dn) E s5:=by
 obtain⟨nH,I5,he⟩:=z.inv
 obtain⟨s,s',H0,B,a0,I0,F,x5,cov,u,kd,e5⟩:=z
 have hp:(X.env.scope.kind == .class||(X.env.scope.kind == .module&&X.env.locals != X.env.globals))=false:=by rw [I0.ok.kind];rfl
 refine wpAny_handleBy_cons (codeAny_handlers_test ?_) (by intro q;cases q)
 refine kN (I5.inS (.ref a)) hg hm ?_ hdb
 refine sW I5.kIn cC cD hbD hD he ?_
 show codeAny _ _ _ _ _
 refine codeAny_handlers_suite_as ?_
 obtain⟨f1,f2,f3,f4⟩:=x5
 refine pf f1 f3 f4.at f2 fun h₆ x6 u6 k6=>?_
 have I6:=qu (tk:=s'.toks) I0 F x6.1 cov (u.trans u6) (td x6 (F.dc.kd (kd.trans k6)))
 rw [e5]
 refine kF (i:=i) (v:=.ref a) I6 hN hi (.inl hl) rfl (fun s7 I7=>?_) (.inr hl)
 refine wpAny_mono (hs' s7 F.nH (I7.inS (.ref a))) (fun f s8 h8=>?_) fun _ _ q=>False.elim q
 cases f with
 |next =>
  obtain⟨σ',H',I8,q⟩:=h8
  have I9:=I8.outS I0.ok
  obtain⟨m,hn,hll⟩:=id I9.loc
  exact wpAny_nameGoes_keeps hlo hn hp fun h' v hn' sb=>⟨σ'.set i none,H',pk I9 hN hi hll hn' sb,q⟩
 |brk =>
  obtain⟨σ',H',I8,q⟩:=h8
  have I9:=I8.outS I0.ok
  obtain⟨m,hn,hll⟩:=id I9.loc
  exact wpAny_nameGoes_keeps hlo hn hp fun h' v hn' sb=>⟨σ'.set i none,H',pk I9 hN hi hll hn' sb,q⟩
 |cont =>
  obtain⟨σ',H',I8,q⟩:=h8
  have I9:=I8.outS I0.ok
  obtain⟨m,hn,hll⟩:=id I9.loc
  exact wpAny_nameGoes_keeps hlo hn hp fun h' v hn' sb=>⟨σ'.set i none,H',pk I9 hN hi hll hn' sb,q⟩
 |ret u =>
  obtain⟨w,σ',H',I8,r,q⟩:=h8
  have I9:=I8.outS I0.ok
  obtain⟨m,hn,hll⟩:=id I9.loc
  exact wpAny_nameGoes_keeps hlo hn hp fun h' v hn' sb=>⟨w,σ'.set i none,H',pk I9 hN hi hll hn' sb,r,q⟩
end
structure rL (K:PySem.W.Frag)(C:Addr)(bm:List Value):Prop where
 cls:∃ini,iL K C bm ini
 fc:PySem.W.findIn K (.ref C) "__class__" = some (some (.builtin "object.__class__"))
 fg:PySem.W.findIn K (.ref C) "__getattribute__" = some (some (.builtin "BaseException.__getattribute__"))
 fn:PySem.W.findIn K (.ref C) "__getattr__" = some none
 ob:bm.contains (.type "object")=true
 be:bm.contains (.type "BaseException")=true
section
variable {prog:Program}{w:World}{A:Around}{E:Value->Shared->Prop}{h:Heap}{g:Array GenState}{d:Drawn}{t:Nat}{os:OsState}{a C:Addr}{o:Obj}{K:PySem.W.Frag}{bm:List Value}
theorem JI {R:Result->Shared->Prop}(X:rL K C bm)(k:K.In h)(hx:h.get? a=some o)(hc:o.cls=.ref C)(hq:R (.ok (.ret (.ref C))) ⟨h,g,d,t,os⟩):
  codeAny (model prog w) A (.call (.builtin "getset_descriptor.__get__") ⟨[.builtin "object.__class__", .ref a,.ref C],[]⟩) R ⟨h,g,d,t,os⟩:=by
 obtain⟨ini,cls⟩:=X.cls
 obtain⟨N,nm,q,bs,hdct,sn,sub,ab,col,dd,k0,k1,k2,k3,k5,mN,e1,_⟩:=cls.at
 have hC:=(e1 _ k).1
 have tD:(⟨h,g,d,t,os⟩:Shared).TypeIs (.builtin "object.__class__") "getset_descriptor" := F.typeOf_object_class
 have hcO:(Value.ref C::bm).contains (.type (".".intercalate ("object.__class__".cutAt '.').dropLast))=true:=by
  rw [F.owner_object_class,List.contains_cons,X.ob,Bool.or_true]
 refine codeAny_call_builtin F.slot_gs_get.plain F.entry_gs_get (F.slot_gs_get.check _ _ _ _ _ _ _ _ tD (F.args_gs_get _ _ _) ?_)
 repeat (any_goals (first
  |assumption
  |(with_reducible refine wpAny_loadPart_at hx ?_;rw [hc])
  |(with_reducible refine PySem.wpAny_isSubtype_exc hC ?_;rw [hcO])
  | wp_step))
 refine⟨Code.quiet_builtin _ (by decide +kernel),codeAny_builtin F.entry_object_class ?_⟩
 repeat (any_goals (first
  |assumption
  |(with_reducible refine wpAny_loadPart_at hx ?_;rw [hc])
  | wp_step))
theorem JH {Q:Fin->Shared->Prop}(X:rL K C bm)(k:K.In h)(hx:h.get? a=some o)(hc:o.cls=.ref C)(hq:Q (.done (.ret (.ref C))) ⟨h,g,d,t,os⟩):
  wpAny (model prog w) A (Builtin.«object.__getattribute__» ⟨[.ref a,.str "__class__" tk],[]⟩) Q E ⟨h,g,d,t,os⟩:=by
 have tD:(⟨h,g,d,t,os⟩:Shared).TypeIs (.builtin "object.__class__") "getset_descriptor" := F.typeOf_object_class
 have g5:=F.typeOf_object_class
 have g6:=F.slot_gs_get.lookup
 have g7:=F.slot_gs_set.lookup
 have lk:=fun M=>PySem.W.looks_findIn (M:=M) k X.fc
 repeat (any_goals (first
  |assumption
  |(with_reducible refine wpAny_loadPart_at hx ?_;rw [hc])
  |(with_reducible refine (lk _).here ?_)
  | wp_step))
 refine JI X k hx hc ?_
 repeat (any_goals (first
  |assumption
  | wp_step))
theorem DI {nameV:Value}{Q:Unit->Shared->Prop}(X:rL K C bm)(k:K.In h)(hx:h.get? a=some o)(hc:o.cls=.ref C)(hq:Q () ⟨h,g,d,t,os⟩):
  wpAny M A (checkBuiltinCall "BaseException.__getattribute__" ⟨[.ref a,nameV],[]⟩) Q E ⟨h,g,d,t,os⟩:=by
 obtain⟨ini,cls⟩:=X.cls
 obtain⟨N,nm,q,bs,hdct,sn,sub,ab,col,dd,k0,k1,k2,k3,k5,mN,e1,_⟩:=cls.at
 have hC:=(e1 _ k).1
 have y1:builtinKind "BaseException.__getattribute__" = some .slot:=by decide +kernel
 have y2:splitId "BaseException.__getattribute__" = some ("BaseException","__getattribute__"):=by decide +kernel
 have hcE:(Value.ref C::bm).contains (.type "BaseException")=true:=by rw [List.contains_cons,X.be,Bool.or_true]
 have y3:=F.args_bexc_ga (.ref a) nameV
 simp only [checkBuiltinCall,y1,y2]
 refine wpAny_bind ?_
 unfold isInstance
 repeat (first
  |(with_reducible refine wpAny_loadPart_at hx ?_;rw [hc])
  |(with_reducible refine PySem.wpAny_isSubtype_exc hC ?_;rw [hcE])
  | wp_step)
 exact hq
theorem JG {Q:Value->Shared->Prop}(X:rL K C bm)(k:K.In h)(hx:h.get? a=some o)(hc:o.cls=.ref C)(hq:Q (.ref C) ⟨h,g,d,t,os⟩):
  wpAny (model prog w) A (getAttrBy (.ref a) (.str "__class__" tk) false) Q E ⟨h,g,d,t,os⟩:=by
 have lg:=fun M=>PySem.W.looks_findIn (M:=M) k X.fg
 have ln:=fun M=>PySem.W.looks_findIn (M:=M) k X.fn
 have z1:=F.attr_ValueError.ga.bind (.ref a)
 have z2:(Value.builtin "BaseException.__getattribute__" == Value.builtin "object.__getattribute__")=false:=by decide +kernel
 have z3:(onTheHeap (Value.ref C)&&Value.builtin "BaseException.__getattribute__" == Value.builtin "object.__getattribute__")=false:=by rw [z2];rfl
 repeat (any_goals (first
  |assumption
  |(with_reducible refine wpAny_loadPart_at hx ?_;rw [hc])
  |(with_reducible refine (lg _).here ?_)
  |(with_reducible refine (ln _).here ?_)
  | wp_step))
 refine codeAny_call_builtin F.attr_ValueError.ga.plain F.entry_bexc_ga (DI X k hx hc (JH X k hx hc ?_))
 repeat (any_goals (first
  |assumption
  | wp_step))
theorem JF {Q:Option Value->Shared->Prop}(X:rL K C bm)(k:K.In h)(hx:h.get? a=some o)(hc:o.cls=.ref C)(hq:Q (some (.ref C)) ⟨h,g,d,t+1,os⟩):
  wpAny (model prog w) A (getAttr? (.ref a) "__class__") Q E ⟨h,g,d,t,os⟩:=by
 unfold getAttr? getAttrBy?
 repeat (any_goals (first
  |assumption
  |(with_reducible apply JG X k hx hc)
  | wp_step))
theorem xk (X:rL K C bm):PySem.W.KitX K (.ref a) (.ref C) (fK a C od):=by
 obtain⟨ini,cls⟩:=X.cls
 obtain⟨N,nm,q,bs,hdct,sn,sub,ab,col,dd,k0,k1,k2,k3,k5,mN,e1,_⟩:=cls.at
 refine⟨fun M h k he=>?_,fun M h k he=>?_,fun h tp dd' its n sl k htp=>?_,fun {prog w A E Q s} k he hq=>?_⟩
 ·obtain⟨oe,vs,g1,g2,g3,_⟩:=he
  intro A' Q' E' s' kk hq
  obtain⟨hp,gg,dd,tk,os⟩:=s'
  have g1':=kk _ _ g1
  repeat (first
   |(with_reducible refine wpAny_loadPart_at g1' ?_;rw [g2])
   | wp_step)
  exact hq
 ·intro A' Q' E' s' kk hq
  unfold isType loadHead
  exact wpAny_bind (wpAny_loadPart (kk _ _ (e1 _ k).1) (wpAny_pure hq))
 ·refine Bool.eq_false_iff.mpr fun z=>?_
  have e:C=tp:=Value.ref.inj (beq_iff_eq.mp z)
  subst e
  have z2:=(e1 _ k).1.symm.trans htp
  injection z2 with z2
  have z3:=congrArg Obj.cls z2
  injection z3 with z3
  exact absurd z3 (by decide)
 ·obtain⟨oe,vs,g1,g2,g3,_⟩:=he
  obtain⟨hp,gg,dd,tk,os⟩:=s
  exact JF X k g1 g2 hq
end
open Builtin Builtin.ObjectAttr
structure oK (K:PySem.W.Frag)(C:Addr):Prop where
 ex:∃cd up,PySem.W.clsIn K C=some cd/\cd.mro=(C::up).map Value.ref++vE/\cd.hasDict=true
 sa:PySem.W.findIn K (.ref C) "__setattr__" = some (some (.builtin "object.__setattr__"))
theorem oI (self:Value):∀up:List Addr,refuseLoop self "__setattr__" (up.map Value.ref++vE)=pure ()
 |[]=>PySem.F.store_ValueError.passes self
 |A::up=>by
  rw [List.map_cons,List.cons_append,refuseLoop_ref]
  exact oI self up
section
variable {prog:Program}{w:World}{A:Around}{E:Value->Shared->Prop}{s:Shared}{K:PySem.W.Frag}{x C:Addr}{ox:Obj}{od:Option Obj}{name:Str}{tk:Tok}{v:Value}{R:Result->Shared->Prop}
theorem E9 (k:K.In s.heap)(I:PySem.W.InstAt s.heap x ox C od)(S:oK K C)(ha:PySem.W.findIn K (.ref C) name=some none)
  (h:wpAny (model prog w) A.in1 (storeInOwnDict (.ref x) (.ref C) (.str name tk) name v false)
   (fun fin s'=>match fin with | .done f=>R (.ok f) s' | .again c'=>c'.quiet=true/\codeAny (model prog w) A c' R s') (fun e s'=>R (.error e) s') s):
  codeAny (model prog w) A (.call (.builtin "object.__setattr__") ⟨[.ref x,.str name tk,v],[]⟩) R s:=by
 have SF:=PySem.F.store_object
 obtain⟨cd,up,hc,hm,hd⟩:=S.ex
 have hob:cd.mro.contains (.type "object")=true:=by
  rw [hm,List.contains_iff_mem]
  exact List.mem_append_right _ (by decide)
 have ne:cd.mro.isEmpty=false:=by rw [hm];rfl
 have sub:PySem.W.Looks (model prog w) s.heap (isInstance (.ref x) (.type "object")) true:=I.type.andThen (PySem.W.looks_mroIn k (by
  unfold PySem.W.mroIn
  rw [hc,Option.bind_some,if_neg (by rw [ne];decide),hob]))
 refine codeAny_call_builtin SF.slot.plain SF.entry (@PySem.W.check_slot (model prog w) _ _ s "object.__setattr__" "object" "__setattr__" (.ref x) [.str name tk,v] [] _ SF.kind SF.split sub (SF.args (.ref x) (.str name tk) v) ?_)
 have lm:PySem.W.Looks (model prog w) s.heap (mroOf (.ref C)) cd.mro:=(PySem.W.looks_clsIn k hc).andThen .now
 rw [PySem.W.osa_eq,refuse_eq]
 refine wpAny_bind (wpAny_bind (I.type.here (wpAny_bind (lm.here ?_))))
 rw [hm,oI]
 refine wpAny_pure (wpAny_bind (I.type.here (wpAny_bind ((PySem.W.looks_findIn k ha).here (wpAny_bind ?_)))))
 exact wpAny_pure h
theorem Ia {Q:Unit->Shared->Prop}(k:K.In s.heap)(hx:s.heap.get? x=some ox)(hc:ox.cls=.ref C)(hdt:ox.data=.fields vs)(hdn:ox.dict=none)(S:oK K C)(ha:PySem.W.findIn K (.ref C) name=some none)
  (h:∀h' tk',h'.get? x=some { ox with dict:=some s.heap.objs.size }->h'.Ns1 s.heap.objs.size (fun y=>if y=name then some v else none)->(∀b o,b≠x->s.heap.get? b=some o->h'.get? b=some o)->Q () { s with heap:=h',toks:=tk' }):
  wpAny (model prog w) A (setAttr (.ref x) name v) Q E s:=by
 have I:PySem.W.InstAt s.heap x ox C none:=⟨hx,hc,by unfold PySem.W.notCls;rw [hdt],by rw [hdn];exact True.intro⟩
 refine PySem.W.set_plain k I S.sa (E9 (s:={ s with toks:=s.toks+1 }) k I S ha ?_)
 obtain⟨cd,up,hcd,hm,hd⟩:=S.ex
 obtain⟨oc,odi,oda,osl⟩:=ox
 dsimp only at hc hdt hdn
 subst hc hdt hdn
 refine wpAny_bind (wpAny_pure (wpAny_bind (wpAny_bind (wpAny_loadPart hx (wpAny_bind (PySem.W.Looks.here (s:={ s with toks:=s.toks+1 }) (PySem.W.looks_clsIn k hcd) ?_))))))
 rw [hd]
 have hxs:x≠s.heap.objs.size:=Nat.ne_of_lt (Heap.lt_size hx)
 have hx1:(s.heap.push { cls:=.type "dict", data:=.dict #[] }).get? x=some ⟨.ref C,none,.fields vs,osl⟩:=Heap.get?_push_of_some _ hx
 refine wpAny_bind (wpAny_alloc' ?_)
 refine wpAny_bind (wpAny_update' hx1 ?_)
 refine wpAny_pure ?_
 obtain⟨g1,LC⟩:∃g1:Heap,g1=(s.heap.push { cls:=.type "dict", data:=.dict #[] }).update x fun o=>{ o with dict:=some s.heap.objs.size }:=⟨_,rfl⟩
 have gd:g1.get? s.heap.objs.size=some { cls:=.type "dict", data:=.dict #[] }:=by
  rw [LC]
  exact (Heap.get?_update_ne _ _ _ _ hxs.symm).trans (Heap.get?_push_at rfl rfl)
 have gx:g1.get? x=some ⟨.ref C,some s.heap.objs.size,.fields vs,osl⟩:=by
  rw [LC]
  exact Heap.get?_update_self _ hx1 rfl
 have gn:g1.Ns s.heap.objs.size (fun _=>none):=⟨_,#[],_,gd,rfl,fun e he=>absurd he (by simp),fun _=>rfl⟩
 have go:∀b o,b≠x->s.heap.get? b=some o->g1.get? b=some o:=fun b o nb q=>by
  rw [LC]
  exact (Heap.get?_update_ne _ _ _ _ nb).trans (Heap.get?_push_of_some _ q)
 show wpAny _ _ (storeInDict s.heap.objs.size (.str name (s.toks)) name v) _ _ { s with heap:=_,toks:=s.toks+1 }
 rw [<- LC]
 unfold storeInDict newKeyGuard
 refine wpAny_bind (wpAny_pure (wpAny_bind (wpAny_nsSet1 (s:={ s with heap:=g1,toks:=s.toks+1 }) (Heap.Ns1.of_empty gn) fun h' hn' hs=>?_)))
 obtain⟨oD,eD,pD,hoD,hdD,hcD⟩:=hn'.count (Within.cons name v Within.nil)
 refine wpAny_bind (wpAny_lookBehind hoD (by rw [hdD];exact pastItsLine_dict (Nat.le_trans hcD (by rw [List.length_cons,List.length_nil,sizeLine_eq];omega))) ?_)
 exact wpAny_pure (h h' _ ((hs.2 x hxs).trans gx) hn' fun b o nb q=>(hs.2 b (Nat.ne_of_lt (Heap.lt_size q))).trans (go b o nb q))
theorem Hl {Q:Value->Shared->Prop}{b:Bool}(k:K.In s.heap)(hx:s.heap.get? x=some ox)(hc:ox.cls=.ref C)(hdt:ox.data=.fields vs)(hd:ox.dict=some dx)(hn:s.heap.Ns1 dx mA)(S:oK K C)(X:rL K C bm)
  (ha:PySem.W.findIn K (.ref C) name=some none) (hv:mA name=some v) (hh:PySem.W.handedIn v=true) (hq:Q v { s with toks:=s.toks+1 }):
  wpAny (model prog w) A (getAttr (.ref x) name b) Q E s:=by
 obtain⟨hp,g,d,t,os⟩:=s
 dsimp only at k hx hn hq
 obtain⟨od,ho,hl⟩:=CH hn
 have I:PySem.W.InstAt hp x ox C (some od):=⟨hx,hc,by unfold PySem.W.notCls;rw [hdt],by rw [hd];exact ho⟩
 obtain⟨cd,up,hcd,hm,hdc⟩:=S.ex
 have hhd:PySem.W.hasDictIn K C=true:=by unfold PySem.W.hasDictIn;rw [hcd];exact hdc
 have L1:=fun M=>PySem.W.looks_find (M:=M) k I (PySem.W.findObj_own hhd ha rfl (by rw [hl,hv]))
 have lg:=fun M=>PySem.W.looks_findIn (M:=M) k X.fg
 have ln:=fun M=>PySem.W.looks_findIn (M:=M) k X.fn
 have z1:=F.attr_ValueError.ga.bind (.ref x)
 have z2:(Value.builtin "BaseException.__getattribute__" == Value.builtin "object.__getattribute__")=false:=by decide +kernel
 have z3:(onTheHeap (Value.ref C)&&Value.builtin "BaseException.__getattribute__" == Value.builtin "object.__getattribute__")=false:=by rw [z2];rfl
 unfold getAttr
 repeat (any_goals (first
  |assumption
  |(with_reducible refine wpAny_loadPart_at hx ?_;rw [hc])
  |(with_reducible refine (lg _).here ?_)
  |(with_reducible refine (ln _).here ?_)
  | wp_step))
 have z4:(b&&onTheHeap (Value.builtin "BaseException.__getattribute__"))=false:=by cases b<;>rfl
 rw [if_neg (by rw [z4];decide)]
 repeat (any_goals (first
  |assumption
  | wp_step))
 refine codeAny_call_builtin F.attr_ValueError.ga.plain F.entry_bexc_ga (DI X k hx hc ?_)
 have L0:=I.type (M:=model prog w)
 refine wpAny_bind (wpAny_pure (wpAny_bind (wpAny_pure (wpAny_bind (L0.here (wpAny_bind ((L1 _).here ?_)))))))
 refine wpAny_pure ?_
 show wpAny _ _ (handedOut v) _ _ _
 rw [PySem.W.handedOut_of hh]
 exact wpAny_pure hq
theorem Ab {rest:List Value}{Q:Fin->Shared->Prop}(k:K.In s.heap)(X:B8 K C up (some (.ref fI)))(hfi:PySem.W.findIn K (.ref C) "__init__" = some (some (.ref fI)))(hft:PySem.W.typeIn K (.ref fI)=some (.type "function"))(hr:rest.length≤sizeLine)
  (hq:∀h' e,Heap.MadeExcOf s.heap h' e (.ref C) rest->s.heap.objs.size≤e->wpAny (model prog w) A (call (.ref fI) (.ref e::rest)) (fun r s'=>r=.none/\Q (.done (.ret (.ref e))) s') E { s with heap:=h' }):
  wpAny (model prog w) A (Builtin.«type.__call__» ⟨.ref C::rest,[]⟩) Q E s:=by
 obtain⟨N,nm,q,bs,hdct,sn,sub,ab,col,dd,k0,k1,k2,k3,k5,mN,e1,e3⟩:=X.cls.at
 have Fn:=PySem.F.excBase_ValueError
 have hBn:vE.contains (.type "ValueError")=true:=by decide +kernel
 have T:=vV k up X.ups
 have hC:=(e1 _ k).1
 obtain⟨h,g,d,t,os⟩:=s
 dsimp only at k T hC hq
 repeat (first | with_reducible refine wpAny_loadPart_at hC ?_ | with_reducible refine wpAny_madeBy_exc hC ?_ | wp_step)
 refine codeAny_call_builtin_code (Code.quiet_builtin _ Fn.quiet) (wpAny_check_new_subU Fn hBn T hC ?_)
 refine codeAny_exc_new_subU Fn hBn Fn T hC ?_ hr
 show wpAny _ _ _ _ _ _
 obtain⟨ot,hot⟩:∃ot:Obj,ot={ cls:=.type "tuple", data:=.seq rest.toArray }:=⟨_,rfl⟩
 obtain⟨oe,hoe⟩:∃oe:Obj,oe={ cls:=.ref C,data:=.fields #[.ref h.objs.size,.none,.none,.none,.bool false,.none] }:=⟨_,rfl⟩
 rw [<- hot,<- hoe]
 have kp:∀b o,h.get? b=some o->((h.push ot).push oe).get? b=some o:=fun b o z=>Heap.get?_push_of_some _ (Heap.get?_push_of_some _ z)
 have hC1:=kp _ _ hC
 have ke:((h.push ot).push oe).get? (h.objs.size+1)=some oe:=by
  have:=Heap.get?_push_size (h.push ot) (o:=oe) (by rw [hoe];rfl)
  rwa [Heap.size_push] at this
 have kt:((h.push ot).push oe).get? h.objs.size=some ot:=Heap.get?_push_of_some _ (Heap.get?_push_size h (by rw [hot];rfl))
 have hcC:(Value.ref C::(up.map Value.ref++vE)).contains (.ref C)=true:=by simp
 have hce:oe.cls=.ref C:=by rw [hoe]
 have kk:K.In ((h.push ot).push oe):=fun a o z=>kp a o (k a o z)
 unfold isInstance
 repeat (first | (with_reducible refine wpAny_loadPart_at ke ?_;rw [hce]) | (with_reducible refine wpAny_isSubtype_exc hC1 ?_;rw [hcC]) | wp_step)
 show wpAny _ _ (typeLookup (.ref C) _) _ _ _
 refine (PySem.W.looks_findIn kk hfi).here ?_
 refine wpAny_holding (wpAny_bind ((PySem.W.bind_fn kk _ hft).here ?_))
 refine wpAny_bind (wpAny_mono (hq _ (h.objs.size+1) ⟨kp,Heap.get?_none_of_le (Nat.le_succ _),h.objs.size,?_,Heap.get?_none_of_le (Nat.le_refl _),?_⟩ (Nat.le_succ _)) (fun r s' z=>?_) fun _ _ z=>z)
 ·rw [ke,hoe]
 ·rw [kt,hot]
 ·obtain⟨rfl,z⟩:=z
  wp_walk
  exact z
theorem Ce {rest:List Value}{Q:Value->Shared->Prop}(k:K.In s.heap)(X:B8 K C up (some (.ref fI)))(hfi:PySem.W.findIn K (.ref C) "__init__" = some (some (.ref fI)))(hft:PySem.W.typeIn K (.ref fI)=some (.type "function"))(hr:rest.length≤sizeLine)
  (hq:∀h' e,Heap.MadeExcOf s.heap h' e (.ref C) rest->s.heap.objs.size≤e->wpAny (model prog w) (A.under (.builtin "type.__call__" ⟨.ref C::rest,[]⟩)) (call (.ref fI) (.ref e::rest)) (fun r s'=>r=.none/\Q (.ref e) s') E { s with heap:=h' }):
  wpAny (model prog w) A (call (.ref C) rest) Q E s:=by
 obtain⟨N,nm,q,bs,hdct,sn,sub,ab,col,dd,k0,k1,k2,k3,k5,mN,e1,e3⟩:=X.cls.at
 have hC:=(e1 _ k).1
 have f1:=tc_lookup
 have f2:=tc_bind (.ref C)
 obtain⟨h,g,d,t,os⟩:=s
 dsimp only at k hC hq
 have hT:(⟨h,g,d,t,os⟩:Shared).TypeIs (.ref C) "type" := ⟨_,hC,rfl⟩
 refine wpAny_call (codeAny_of_tree ?_)
 show wpAny _ _ (callAny (.ref C) _) _ _ _
 repeat (any_goals (first | assumption | with_reducible refine wpAny_loadPart_at hC ?_ | wp_step))
 refine⟨rfl,?_⟩
 exact codeAny_call_builtin_at (Code.quiet_builtin _ (by decide +kernel)) entry_typeCall (wpAny_check_type_call_sub hC (Ab (s:=⟨h,g,d,t,os⟩) k X hfi hft hr fun h' e hm hz=>hq h' e hm hz))
theorem zP {bm:List Value}(hb:bm.contains (.type "BaseException")=true)(hh:A.handled=none)
  (h:wpAny M A y (fun v s1=>∃e t od,v=.ref e/\K.In s1.heap/\iL K C bm ini/\s1.heap.get? e=some ⟨.ref C,od,.fields #[.ref t,.none,.none,.none,.bool false,.none],#[]⟩/\E (.ref e) s1) E s):
  wpAny M A (raiseStmt env (some y) none) Q E s:=by
 have hcB:(Value.ref C::bm).contains (.type "BaseException")=true:=by rw [List.contains_cons,hb,Bool.or_true]
 unfold raiseStmt
 refine wpAny_bind (wpAny_mono h (fun v s1 z=>?_) fun _ _ z=>z)
 obtain⟨e,t,od,rfl,k,cl,he,hE⟩:=z
 obtain⟨N,nm,q,bs,hdct,sn,sub,ab,col,dd,k0,k1,k2,k3,k5,mN,e1,e3⟩:=cl.at
 have hC:=(e1 _ k).1
 obtain⟨hp,g,d,tk,os⟩:=s1
 dsimp only at he hC
 repeat (first | with_reducible refine wpAny_loadPart_at he ?_ | with_reducible refine wpAny_loadPart_at hC ?_ | (with_reducible refine wpAny_isSubtype_exc hC ?_;rw [hcB]) | wp_step)
 exact wpAny_raiseNew_none hh hE
end
abbrev OE (t:Addr):Array Value:=#[.ref t,.none,.none,.none,.bool false,.none]
def pO (a C:Addr):Heap->Prop:=fun h=>∃t,h.get? a=some ⟨.ref C,none,.fields (OE t),#[]⟩
def pP (a C d:Addr):Heap->Prop:=fun h=>∃t,h.get? a=some ⟨.ref C,some d,.fields (OE t),#[]⟩
section
variable {X:Cx}{pins:List (Addr×Obj)}{σ:St}{H:Hp}{s:Shared}{a C:Addr}{f:Str}
theorem G8 (q:pO a C h):dN P w H h a (.ext (pO a C)):=by
 obtain⟨t,e⟩:=id q
 exact⟨q,⟨_,e⟩,fun g1 g2 ⟨t1,q1⟩ k=>⟨t1,k _ q1⟩⟩
theorem G9 (q:pP a C d h):dN P w H h a (.ext (pP a C d)):=by
 obtain⟨t,e⟩:=id q
 exact⟨q,⟨_,e⟩,fun g1 g2 ⟨t1,q1⟩ k=>⟨t1,k _ q1⟩⟩
theorem zx (f g:Str)(y:V):List.lookup g [(f,y)]=if g=f then some y else none:=by
 by_cases q:g=f
 ·have hb:(g == f)=true:=beq_iff_eq.mpr q
  simp only [List.lookup,hb,if_pos q]
 ·have hb:(g == f)=false:=beq_eq_false_iff_ne.mpr q
  simp only [List.lookup,hb,if_neg q]
theorem Ig {Q:Unit->Shared->Prop}(I:Inv X pins σ H s)(e:H a=some (.ext (pO a C)))(S:oK X.K C)(n:pQ X.K C f)(ry:RelV y u)
  (h:∀d s',H d=none->d≠a->Inv X pins σ (upd (upd H d (.xd [(f,y)])) a (.ext (pP a C d))) s'->Q () s'):wpAny (model X.prog X.w) A (setAttr (.ref a) f u) Q E s:=by
 obtain⟨⟨t,ea⟩,_,_⟩:=(show dN X.prog X.w H s.heap a (.ext (pO a C)) from I.hok a _ e)
 refine Ia I.kIn ea rfl rfl rfl S n fun h' tk' g1 g2 g3=>?_
 have ha:a<s.heap.objs.size:=Heap.lt_size ea
 have dn:H s.heap.objs.size=none:=I.hok.fresh (Nat.le_refl _)
 have da:s.heap.objs.size≠a:=Nat.ne_of_gt ha
 refine h s.heap.objs.size _ dn da (I.un ⟨fun b o q nb _ _=>g3 b o (fun z=>by rw [z,e] at nb;cases nb) q,fun b o q nb _ _=>⟨o.slots,g3 b o (fun z=>by rw [z,e] at nb;cases nb) q⟩,fun b o q nb _=>?_,fun b o q _=>?_,fun b xs q=>?_,fun b o v q=>?_,fun b ps q=>⟨#[],?_⟩⟩ fun b o q=>?_)
 ·rw [au (fun z=>by rw [z,e] at nb;cases nb),au (Nat.ne_of_lt (Heap.lt_size q))]
  exact nb
 ·by_cases z:b=a
  ·rw [z];exact⟨_,g1⟩
  ·exact⟨o,g3 b o z q⟩
 ·rw [au (fun z=>by rw [z,e] at q;cases q),au (fun z=>by rw [z,dn] at q;cases q)];exact q
 ·rw [au (fun z=>by rw [z,e] at q;cases q),au (fun z=>by rw [z,dn] at q;cases q)];exact q
 ·rw [au (fun z=>by rw [z,e] at q;cases q),au (fun z=>by rw [z,dn] at q;cases q),q];simp
 ·by_cases z:b=a
  ·subst z
   rw [aJ] at q
   cases q
   exact G9 ⟨t,g1⟩
  ·rw [au z] at q
   by_cases z2:b=s.heap.objs.size
   ·subst z2
    rw [aJ] at q
    cases q
    refine⟨_,g2,fun g=>?_⟩
    rw [zx]
    by_cases w:g=f
    ·rw [if_pos w,if_pos w];exact ry
    ·rw [if_neg w,if_neg w];exact True.intro
   ·rw [au z2] at q
    refine (I.hok b o q).stay (fun c w hc qc=>g3 c w (fun zc=>?_) qc) (fun c qc=>?_) fun c xs qc=>?_
    ·rw [zc] at hc
     rcases hc with hc | hc
     ·exact z hc.symm
     ·rw [e] at hc;cases hc
    ·rw [au (fun zc=>by rw [zc,e] at qc;cases qc),au (fun zc=>by rw [zc,dn] at qc;cases qc)];exact qc
    ·rw [au (fun zc=>by rw [zc,e] at qc;cases qc),au (fun zc=>by rw [zc,dn] at qc;cases qc)];exact qc
def Fu (K:PySem.W.Frag)(ta tv:TE)(f:Str):TS:=fun D σ H=>tv σ H fun y H1=>ta σ H1 fun x H2=>∃a C,x=.ref a/\H2 a=some (.ext (pO a C))/\oK K C/\pQ K C f /\
 ∀d,H2 d=none->d≠a->D.nx σ (upd (upd H2 d (.xd [(f,y)])) a (.ext (pP a C d)))
theorem HK {pos pos':Pos}(ha:PE X o ta)(hv:PE X value tv)(hs:swapsWith value (some (.Attribute o f pos')) pos.line X.env=pure false:=by rfl):PS X (.Assign [.Attribute o f pos'] value pos) (Fu X.K ta tv f):=by
 intro pins s σ H D I h
 refine plainObj_wpAny_Assign_Attribute (eC (hv pins s σ H _ I h) fun u s1 ⟨y,H1,I1,ry,q⟩=>eC (ha pins s1 σ H1 _ I1 q) fun ov s2 ⟨x,H2,I2,rx,a,C,ex,ea,c,n,q2⟩=>?_) hs
 subst ex
 obtain rfl:ov=Value.ref a:=rx
 exact Ig I2 ea c n ry fun d s3 n1 n2 I3=>⟨σ,_,I3,q2 d n1 n2⟩
theorem Inv.untrack (I:Inv X pins σ (upd H a (.ext φ)) s)(hn:H a=none):Inv X pins σ H s:=by
 have b0:=I.base
 have sub:∀b,b≠a->upd H a (.ext φ) b=H b:=fun b nb=>au nb
 refine⟨I.ok,I.os,I.bare,⟨b0.keep,b0.slot,fun b o q nb hx=>?_,b0.there,fun b xs q=>?_,fun b o u q=>?_,fun b ps q=>?_⟩,I.loc,I.cell,?_,fun x c q=>?_,fun p hp=>?_,fun b o q=>?_,I.len⟩
 ·by_cases z:b=a
  ·rw [z];exact hn
  ·rw [<- sub b z];exact b0.free b o q nb hx
 ·have y:=b0.tups b xs q
  by_cases z:b=a
  ·rw [z,aJ] at y;cases y
  ·rw [sub b z] at y;exact y
 ·have y:=b0.frzs b o u q
  by_cases z:b=a
  ·rw [z,aJ] at y;cases y
  ·rw [sub b z] at y;exact y
 ·obtain⟨p2,y⟩:=b0.tbls b ps q
  by_cases z:b=a
  ·rw [z,aJ] at y;cases y
  ·rw [sub b z] at y;exact⟨p2,y⟩
 ·by_cases z:X.env.locals=a
  ·rw [z];exact hn
  ·rw [<- sub _ z];exact I.free
 ·by_cases z:c=a
  ·rw [z];exact hn
  ·rw [<- sub _ z];exact I.freeC x c q
 ·obtain⟨p1,p2,p3⟩:=I.pin p hp
  refine⟨p1,?_,p3⟩
  by_cases z:p.1=a
  ·rw [z];exact hn
  ·rw [<- sub _ z];exact p2
 ·have z:b≠a:=fun z=>by rw [z,hn] at q;cases q
  refine (I.hok b o (by rw [sub b z];exact q)).stay (fun c w _ qc=>qc) (fun c qc=>?_) fun c xs qc=>?_
  ·rw [<- sub c (fun zc=>by rw [zc,aJ] at qc;cases qc)];exact qc
  ·rw [<- sub c (fun zc=>by rw [zc,aJ] at qc;cases qc)];exact qc
end
end L2
namespace TM
open PySem PySem.Spec PyProof.Rows L2
inductive T where
 |non | bl (b:Bool) | int (i:Int) | str (x:Str) | ty (n:String) | tup (ts:List T) | lst (ts:List T) | scr (ts:List T) | dic | obj (C:Addr) (ns:List Str) (ts:List T) | ptr (a:Addr) | exc (C:Addr) (ns:List Str) (ts:List T)
mutual
def Rep (K:PySem.W.Frag)(F:Hp):T->V->Prop
 | .non,v=>v=.non
 | .bl b,v=>v=.bl b
 | .int i,v=>v=.int i
 | .str x,v=>v=.str x
 | .ty n,v=>v=.ty n
 | .tup ts,v=>∃a xs,v=.ref a/\ly K F a xs/\aW K F ts xs
 | .lst ts,v=>∃a xs,v=.ref a/\F a=some (.lst xs)/\aW K F ts xs
 | .scr ts,v=>∃a xs,v=.ref a/\dO K F a xs/\aW K F ts xs
 | .dic,v=>∃a,v=.ref a/\F a=some (.dK [])
 | .obj C ns ts,v=>∃a dx vs,v=.ref a/\F a=some (.ins C dx (ns.zip vs))/\vs.length=ns.length/\aW K F ts vs
 | .ptr a,v=>v=.ref a
 | .exc C ns ts,v=>∃a od,v=.ref a/\F a=some (.ext (fK a C od))/\((ns=[]/\ts=[]/\od=none)\/∃d us,od=some d/\F d=some (.xd (ns.zip us))/\us.length=ns.length/\aW K F ts us)
def aW (K:PySem.W.Frag)(F:Hp):List T->List V->Prop
 |[],xs=>xs=[]
 |t::ts,xs=>∃v r,xs=v::r/\Rep K F t v/\aW K F ts r
end
theorem cm {K:PySem.W.Frag}{H H':Hp}{a:Addr}{xs:List V}(e:aQ H H')(h:ly K H a xs):ly K H' a xs:=by
 rcases h with (h | ⟨o,h⟩) | h
 ·exact .inl (.inl (e _ _ h))
 ·exact .inl (.inr ⟨o,e _ _ h⟩)
 ·exact .inr h
mutual
theorem Rep.mono {K:PySem.W.Frag}{F F':Hp}(e:aQ F F'):∀{t:T} {v:V},Rep K F t v->Rep K F' t v
 | .non,_,h=>h
 | .bl _,_,h=>h
 | .int _,_,h=>h
 | .str _,_,h=>h
 | .ty _,_,h=>h
 | .tup ts,_,h=>by
  obtain⟨a,xs,h1,h2,h3⟩:=h
  exact⟨a,xs,h1,cm e h2,aW.mono e h3⟩
 | .lst ts,_,h=>by
  obtain⟨a,xs,h1,h2,h3⟩:=h
  exact⟨a,xs,h1,e _ _ h2,aW.mono e h3⟩
 | .scr ts,_,h=>by
  obtain⟨a,xs,h1,h2,h3⟩:=h
  exact⟨a,xs,h1,e.seq h2,aW.mono e h3⟩
 | .dic,_,h=>by
  obtain⟨a,h1,h2⟩:=h
  exact⟨a,h1,e _ _ h2⟩
 | .obj C ns ts,_,h=>by
  obtain⟨a,dx,vs,h1,h2,h3,h4⟩:=h
  exact⟨a,dx,vs,h1,e _ _ h2,h3,aW.mono e h4⟩
 | .ptr _,_,h=>h
 | .exc _ _ ts,_,h=>by
  obtain⟨a,od,h1,h2,h3⟩:=h
  refine⟨a,od,h1,e _ _ h2,h3.imp id fun⟨d,us,k1,k2,k3,k4⟩=>⟨d,us,k1,e _ _ k2,k3,aW.mono e k4⟩⟩
theorem aW.mono {K:PySem.W.Frag}{F F':Hp}(e:aQ F F'):∀{ts:List T} {vs:List V},aW K F ts vs->aW K F' ts vs
 |[],_,h=>h
 |t::ts,_,h=>by
  obtain⟨v,r,h1,h2,h3⟩:=h
  exact⟨v,r,h1,Rep.mono e h2,aW.mono e h3⟩
end
section
variable {K:PySem.W.Frag}{F:Hp}
theorem aW.length:∀{ts:List T} {vs:List V},aW K F ts vs->vs.length=ts.length
 |[],_,h=>by cases h;rfl
 |t::ts,_,h=>by
  obtain⟨v,r,rfl,h2,h3⟩:=h
  simp [aW.length h3]
theorem aW.get:∀{ts:List T} {vs:List V} {i:Nat} {t:T},aW K F ts vs->ts[i]? = some t->∃v,vs[i]? = some v/\Rep K F t v
 |[],_,_,_,h,e=>by simp at e
 |t::ts,_,0,_,h,e=>by
  obtain⟨v,r,rfl,h2,h3⟩:=h
  simp at e;subst e
  exact⟨v,rfl,h2⟩
 |t::ts,_,i+1,u,h,e=>by
  obtain⟨v,r,rfl,h2,h3⟩:=h
  obtain⟨w,h4,h5⟩:=aW.get (i:=i) (t:=u) h3 (by simpa using e)
  exact⟨w,by simpa using h4,h5⟩
theorem aW.append:∀{ts us:List T} {vs ws:List V},aW K F ts vs->aW K F us ws->aW K F (ts++us) (vs++ws)
 |[],_,_,_,h,h'=>by cases h;exact h'
 |t::ts,_,_,_,h,h'=>by
  obtain⟨v,r,rfl,h2,h3⟩:=h
  exact⟨v,r++_,rfl,h2,aW.append h3 h'⟩
theorem aW.one (h:Rep K F t v):aW K F [t] [v]:=⟨v,[],rfl,h,rfl⟩
theorem aW.take:∀{ts:List T} {vs:List V} (n:Nat),aW K F ts vs->aW K F (ts.take n) (vs.take n)
 |_,_,0,_=>rfl
 |[],_,n+1,h=>by cases h;rfl
 |t::ts,_,n+1,h=>by
  obtain⟨v,r,rfl,h2,h3⟩:=h
  exact⟨v,r.take n,rfl,h2,aW.take n h3⟩
theorem aW.drop:∀{ts:List T} {vs:List V} (n:Nat),aW K F ts vs->aW K F (ts.drop n) (vs.drop n)
 |_,_,0,h=>h
 |[],_,n+1,h=>by cases h;rfl
 |t::ts,_,n+1,h=>by
  obtain⟨v,r,rfl,h2,h3⟩:=h
  exact aW.drop n h3
theorem tx:∀ns:List Int,aW K F (ns.map T.int) (ns.map V.int)
 |[]=>rfl
 |n::ns=>⟨.int n,ns.map V.int,rfl,rfl,tx ns⟩
end
structure bf (F H F' H':Hp):Prop where
 sF:aQ F F'
 sH:aQ H H'
 fh:aQ F' H'
 nw:∀a o,F' a=some o->F a=some o\/H a=none
theorem bf.refl (h:aQ F H):bf F H F H:=⟨aQ.refl _,aQ.refl _,h,fun _ _ e=>.inl e⟩
theorem bf.trans (a:bf F H F1 H1)(b:bf F1 H1 F2 H2):bf F H F2 H2:=
 ⟨a.sF.trans b.sF,a.sH.trans b.sH,b.fh,fun x o e=>by
  rcases b.nw x o e with e | e
  ·exact a.nw x o e
  ·exact .inr (a.sH.free e)⟩
theorem cG {H:Hp}(h:H p=none):aQ H (upd H p o):=fun b u q=>by rw [au (bp q h)];exact q
theorem bf.new (o:HO)(h:aQ F H)(n:H p=none):bf F H (upd F p o) (upd H p o):=by
 refine⟨cG (h.free n),cG n,fun b u q=>?_,fun a u q=>?_⟩
 ·by_cases e:b=p
  ·subst e;rw [aJ] at q ⊢;exact q
  ·rw [au e] at q ⊢;exact h _ _ q
 ·by_cases e:a=p
  ·subst e;exact .inr n
  ·rw [au e] at q;exact .inl q
inductive Sl where
 |sh (t:T) | own (ts:List T)
abbrev aK:=List (Option Sl)
def yt (K:PySem.W.Frag)(Y9 F H:Hp):Sl->V->Prop
 | .sh t,v=>Rep K F t v
 | .own ts,v=>∃p vs,v=.ref p/\H p=some (.lst vs)/\F p=none/\Y9 p=none/\aW K F ts vs
structure aF (K:PySem.W.Frag)(Y0 Y9 F H:Hp)(σ:L2.St)(τ:aK):Prop where
 g:bf Y0 Y9 F H
 len:σ.length=τ.length
 sl:∀(i:Nat) (s:Sl),τ[i]? = some (some s)->∃v,σ[i]? = some (some v)/\yt K Y9 F H s v
 dj:∀(i j:Nat) (ts us:List T) (p:Addr),i≠j->τ[i]? = some (some (.own ts))->τ[j]? = some (some (.own us))->σ[i]? = some (some (.ref p))->σ[j]?≠some (some (.ref p))
section
variable {K:PySem.W.Frag}{Y0 Y9 F H F' H':Hp}{σ:L2.St}{τ:aK}
theorem yt.grow (g:bf F H F' H')(h:yt K Y9 F H s v):yt K Y9 F' H' s v:=by
 cases s with
 |sh t=>exact Rep.mono g.sF h
 |own ts =>
  obtain⟨p,vs,h1,h2,h3,h4,h5⟩:=h
  refine⟨p,vs,h1,g.sH _ _ h2,?_,h4,aW.mono g.sF h5⟩
  cases e:F' p with
  |none=>rfl
  |some o =>
   rcases g.nw p o e with q | q
   ·rw [q] at h3;cases h3
   ·rw [q] at h2;cases h2
theorem aF.grow (E:aF K Y0 Y9 F H σ τ)(g:bf F H F' H'):aF K Y0 Y9 F' H' σ τ:=by
 refine⟨E.g.trans g,E.len,fun i s e=>?_,E.dj⟩
 obtain⟨v,h1,h2⟩:=E.sl i s e
 exact⟨v,h1,h2.grow g⟩
theorem aF.set {i:Nat}(E:aF K Y0 Y9 F H σ τ)(r:Rep K F t v):aF K Y0 Y9 F H (σ.set i (some v)) (τ.set i (some (.sh t))):=by
 refine⟨E.g,by simp [E.len],fun j s e=>?_,fun j k ts us p hjk e1 e2 e3=>?_⟩
 ·by_cases hj:i=j
  ·subst hj
   by_cases hl:i<τ.length
   ·rw [List.getElem?_set_self hl] at e
    cases e
    exact⟨v,List.getElem?_set_self (by rw [E.len];exact hl),r⟩
   ·rw [List.getElem?_eq_none (by simp;omega)] at e;cases e
  ·rw [List.getElem?_set_ne hj] at e
   rw [List.getElem?_set_ne hj]
   exact E.sl j s e
 ·have n1:i≠j:=fun z=>by
   subst z
   by_cases hl:i<τ.length
   ·rw [List.getElem?_set_self hl] at e1;cases e1
   ·rw [List.getElem?_eq_none (by simp;omega)] at e1;cases e1
  have n2:i≠k:=fun z=>by
   subst z
   by_cases hl:i<τ.length
   ·rw [List.getElem?_set_self hl] at e2;cases e2
   ·rw [List.getElem?_eq_none (by simp;omega)] at e2;cases e2
  rw [List.getElem?_set_ne n1] at e1 e3
  rw [List.getElem?_set_ne n2] at e2 ⊢
  exact E.dj j k ts us p hjk e1 e2 e3
theorem aF.freeze {i:Nat}(E:aF K Y0 Y9 F H σ τ)(e:τ[i]? = some (some (.own ts))):
  ∃F' v,σ[i]? = some (some v)/\aF K Y0 Y9 F' H σ (τ.set i (some (.sh (.lst ts))))/\aQ F F'/\Rep K F' (.lst ts) v:=by
 obtain⟨v,h1,p,vs,rfl,h2,h3,h4,h5⟩:=E.sl i _ e
 have sF:aQ F (upd F p (.lst vs)):=cG h3
 have rp:Rep K (upd F p (.lst vs)) (.lst ts) (.ref p):=⟨p,vs,rfl,aJ,aW.mono sF h5⟩
 refine⟨upd F p (.lst vs),.ref p,h1,⟨⟨E.g.sF.trans sF,E.g.sH,fun b o q=>?_,fun b o q=>?_⟩,by simp [E.len],fun j s q=>?_,fun j k us ws r hjk e1 e2 e3=>?_⟩,sF,rp⟩
 ·by_cases z:b=p
  ·subst z;rw [aJ] at q;cases q;exact h2
  ·rw [au z] at q;exact E.g.fh _ _ q
 ·by_cases z:b=p
  ·subst z;exact .inr h4
  ·rw [au z] at q;exact E.g.nw _ _ q
 ·by_cases hj:i=j
  ·subst hj
   have hl:i<τ.length:=by
    have:=(List.getElem?_eq_some_iff.mp e).1
    exact this
   rw [List.getElem?_set_self hl] at q
   cases q
   exact⟨_,h1,rp⟩
  ·rw [List.getElem?_set_ne hj] at q
   obtain⟨v,g1,g2⟩:=E.sl j s q
   refine⟨v,g1,?_⟩
   cases s with
   |sh t=>exact Rep.mono sF g2
   |own us =>
    obtain⟨r,ws,rfl,k2,k3,k4,k5⟩:=g2
    have hne:r≠p:=fun z=>by
     subst z
     exact E.dj i j ts us r hj e q h1 g1
    exact⟨r,ws,rfl,k2,by rw [au hne];exact k3,k4,aW.mono sF k5⟩
 ·have hl:i<τ.length:=(List.getElem?_eq_some_iff.mp e).1
  have n1:i≠j:=fun z=>by subst z;rw [List.getElem?_set_self hl] at e1;cases e1
  have n2:i≠k:=fun z=>by subst z;rw [List.getElem?_set_self hl] at e2;cases e2
  rw [List.getElem?_set_ne n1] at e1
  rw [List.getElem?_set_ne n2] at e2
  exact E.dj j k us ws r hjk e1 e2 e3
theorem aF.setOwn {i:Nat}(E:aF K Y0 Y9 F H σ τ)(n:H p=none)(r:aW K F ts vs):aF K Y0 Y9 F (upd H p (.lst vs)) (σ.set i (some (.ref p))) (τ.set i (some (.own ts))):=by
 have sH:aQ H (upd H p (.lst vs)):=cG n
 have fp:F p=none:=E.g.fh.free n
 have old:∀{j:Nat} {s:Sl},i≠j->τ[j]? = some (some s)->∃v,σ[j]? = some (some v)/\yt K Y9 F (upd H p (.lst vs)) s v:=fun {j s} hj q=>by
  obtain⟨v,g1,g2⟩:=E.sl j s q
  refine⟨v,g1,?_⟩
  cases s with
  |sh t=>exact g2
  |own us =>
   obtain⟨r,ws,rfl,k2,k3,k4,k5⟩:=g2
   exact⟨r,ws,rfl,sH _ _ k2,k3,k4,k5⟩
 refine⟨⟨E.g.sF,E.g.sH.trans sH,E.g.fh.trans sH,E.g.nw⟩,by simp [E.len],fun j s e=>?_,fun j k ts' us q hjk e1 e2 e3 e4=>?_⟩
 ·by_cases hj:i=j
  ·subst hj
   by_cases hl:i<τ.length
   ·rw [List.getElem?_set_self hl] at e
    cases e
    exact⟨.ref p,List.getElem?_set_self (by rw [E.len];exact hl),p,vs,rfl,aJ,fp,E.g.sH.free n,r⟩
   ·rw [List.getElem?_eq_none (by simp;omega)] at e;cases e
  ·rw [List.getElem?_set_ne hj] at e
   rw [List.getElem?_set_ne hj]
   exact old hj e
 ·by_cases hj:i=j
  ·subst hj
   have n2:i≠k:=hjk
   rw [List.getElem?_set_ne n2] at e2 e4
   by_cases hl:i<τ.length
   ·rw [List.getElem?_set_self (by rw [E.len];exact hl)] at e3
    cases e3
    obtain⟨v,g1,r',ws,rfl,k2,_⟩:=E.sl k _ e2
    rw [g1] at e4;cases e4
    rw [n] at k2;cases k2
   ·rw [List.getElem?_eq_none (by simp;omega)] at e1;cases e1
  ·rw [List.getElem?_set_ne hj] at e1 e3
   by_cases hk:i=k
   ·subst hk
    by_cases hl:i<τ.length
    ·rw [List.getElem?_set_self (by rw [E.len];exact hl)] at e4
     cases e4
     obtain⟨v,g1,r',ws,rfl,k2,_⟩:=E.sl j _ e1
     rw [g1] at e3;cases e3
     rw [n] at k2;cases k2
    ·rw [List.getElem?_eq_none (by simp;omega)] at e2;cases e2
   ·rw [List.getElem?_set_ne hk] at e2 e4
    exact E.dj j k ts' us q hjk e1 e2 e3 e4
theorem aF.turnOwn {i:Nat}(E:aF K Y0 Y9 F H σ τ)(e:τ[i]? = some (some (.own ts)))(hp:σ[i]? = some (some (.ref p)))(r:aW K F us vs):
  aF K Y0 Y9 F (upd H p (.lst vs)) σ (τ.set i (some (.own us))):=by
 obtain⟨v,h1,p',vs',rfl,h2,h3,h4,h5⟩:=E.sl i _ e
 rw [hp] at h1;cases h1
 have hl:i<τ.length:=(List.getElem?_eq_some_iff.mp e).1
 refine⟨⟨E.g.sF,fun b o q=>?_,fun b o q=>?_,E.g.nw⟩,by simp [E.len],fun j s q=>?_,fun j k ts' us' q hjk e1 e2 e3=>?_⟩
 ·rw [au (fun z=>by subst z;rw [h4] at q;cases q)];exact E.g.sH _ _ q
 ·rw [au (fun z=>by subst z;rw [h3] at q;cases q)];exact E.g.fh _ _ q
 ·by_cases hj:i=j
  ·subst hj
   rw [List.getElem?_set_self hl] at q;cases q
   exact⟨_,hp,p,vs,rfl,aJ,h3,h4,r⟩
  ·rw [List.getElem?_set_ne hj] at q
   obtain⟨v,g1,g2⟩:=E.sl j s q
   refine⟨v,g1,?_⟩
   cases s with
   |sh t=>exact g2
   |own us' =>
    obtain⟨r',ws,rfl,k2,k3,k4,k5⟩:=g2
    have hne:r'≠p:=fun z=>by subst z;exact E.dj i j ts us' r' hj e q hp g1
    exact⟨r',ws,rfl,by rw [au hne];exact k2,k3,k4,k5⟩
 ·have q1:∃zs,τ[j]? = some (some (.own zs)):=by
   by_cases hj:i=j
   ·subst hj;exact⟨_,e⟩
   ·rw [List.getElem?_set_ne hj] at e1;exact⟨_,e1⟩
  have q2:∃zs,τ[k]? = some (some (.own zs)):=by
   by_cases hj:i=k
   ·subst hj;exact⟨_,e⟩
   ·rw [List.getElem?_set_ne hj] at e2;exact⟨_,e2⟩
  obtain⟨z1,q1⟩:=q1
  obtain⟨z2,q2⟩:=q2
  exact E.dj j k z1 z2 q hjk q1 q2 e3
end
abbrev FE:=aK->Option (T×aK)
abbrev FA:=aK->Option (List T×aK)
abbrev FT:=aK->Option (Bool×aK)
inductive R where
 |nx (τ:aK) | rt (t:T) | bk (τ:aK) | ct (τ:aK)
abbrev FS:=aK->Option R
abbrev FG:=T->aK->Option aK
section
variable (K:PySem.W.Frag)(Y0 Y9:Hp)
def tE (f:FE):TE:=fun σ H Q=>∃F τ t τ',aF K Y0 Y9 F H σ τ/\f τ=some (t,τ')/\∀F' H' v,aF K Y0 Y9 F' H' σ τ'->aQ F F'->Rep K F' t v->Q v H'
def tA (f:FA):TA:=fun σ H Q=>∃F τ ts τ',aF K Y0 Y9 F H σ τ/\f τ=some (ts,τ')/\∀F' H' vs,aF K Y0 Y9 F' H' σ τ'->aQ F F'->aW K F' ts vs->Q vs H'
def tT (f:FT):TT:=fun σ H Q=>∃F τ b τ',aF K Y0 Y9 F H σ τ/\f τ=some (b,τ')/\∀F' H',aF K Y0 Y9 F' H' σ τ'->aQ F F'->Q b H'
def nh (F:Hp)(D:Ends):R->Prop
 | .nx τ'=>∀F' H' σ',aF K Y0 Y9 F' H' σ' τ'->aQ F F'->D.nx σ' H'
 | .rt t=>∀F' H' v,bf Y0 Y9 F' H'->Rep K F' t v->D.rt v H'
 | .bk τ'=>∀F' H' σ',aF K Y0 Y9 F' H' σ' τ'->aQ F F'->D.bk σ' H'
 | .ct τ'=>∀F' H' σ',aF K Y0 Y9 F' H' σ' τ'->aQ F F'->D.ct σ' H'
def tS (f:FS):TS:=fun D σ H=>∃F τ r,aF K Y0 Y9 F H σ τ/\f τ=some r/\nh K Y0 Y9 F D r
end
def SE (X:Cx)(e:Expr)(f:FE):Prop:=∀Y0 Y9,PE X e (tE X.K Y0 Y9 f)
def SA (X:Cx)(es:List Expr)(f:FA):Prop:=∀Y0 Y9,PA X es (tA X.K Y0 Y9 f)
def ST (X:Cx)(e:Expr)(f:FT):Prop:=∀Y0 Y9,PT X e (tT X.K Y0 Y9 f)
def SW (X:Cx)(e:Expr)(f:FT):Prop:=∀Y0 Y9,PW X e (tT X.K Y0 Y9 f)
def SS (X:Cx)(st:Stmt)(f:FS):Prop:=∀Y0 Y9,PS X st (tS X.K Y0 Y9 f)
def ug (X:Cx)(st:List Stmt)(f:FS):Prop:=∀Y0 Y9,kX X st (tS X.K Y0 Y9 f)
section
variable {X:Cx}{e a b:Expr}{pos:Pos}{f fa fb:FE}
theorem PE.weak {t t':TE}(h:PE X e t)(i:∀σ H Q,t' σ H Q->t σ H Q):PE X e t':=fun pins s σ H Q I q=>h pins s σ H Q I (i σ H Q q)
theorem PT.weak {t t':TT}(h:PT X e t)(i:∀σ H Q,t' σ H Q->t σ H Q):PT X e t':=fun pins s σ H Q I q=>h pins s σ H Q I (i σ H Q q)
theorem PW.weak {t t':TT}(h:PW X e t)(i:∀σ H Q,t' σ H Q->t σ H Q):PW X e t':=fun wh pins s σ H Q I q=>h wh pins s σ H Q I (i σ H Q q)
theorem PA.weak {t t':TA}(h:PA X es t)(i:∀σ H Q,t' σ H Q->t σ H Q):PA X es t':=fun p pins s σ H Q I q=>h p pins s σ H Q I (i σ H Q q)
theorem PS.weak {st:Stmt}{t t':TS}(h:PS X st t)(i:∀D σ H,t' D σ H->t D σ H):PS X st t':=fun pins s σ H D I q=>h pins s σ H D I (i D σ H q)
theorem kX.weak {st:List Stmt}{t t':TS}(h:kX X st t)(i:∀D σ H,t' D σ H->t D σ H):kX X st t':=fun pins s σ H D I q=>h pins s σ H D I (i D σ H q)
def fC (t:T):FE:=fun τ=>some (t,τ)
def af (i:Nat):FE:=fun τ=>match τ[i]? with
 |some (some (.sh t))=>some (t,τ)
 |some (some (.own ts))=>some (.lst ts,τ.set i (some (.sh (.lst ts))))
 |_=>none
theorem i9 (h:PE X e (tC v))(r:∀F,Rep X.K F t v):SE X e (fC t):=fun Y0 Y9=>PE.weak h fun σ H Q hq__=>by
 obtain⟨F,τ,t',τ',E,e1,q⟩:=hq__
 cases e1
 exact q F H v E (aQ.refl _) (r F)
theorem ay {i:Int}{j}:SE X (.Constant (.int i) j pos) (fC (.int i)):=i9 Ff fun _=>rfl
theorem mV {c:Bool}{j}:SE X (.Constant (.bool c) j pos) (fC (.bl c)):=i9 MB fun _=>rfl
theorem g9 {j}:SE X (.Constant .none j pos) (fC .non):=i9 vx fun _=>rfl
theorem ae (i:Nat)(h:PE X (.Name x pos) (jS i)):SE X (.Name x pos) (af i):=fun Y0 Y9=>PE.weak h fun σ H Q hq__=>by
 obtain⟨F,τ,t,τ',E,e1,q⟩:=hq__
 unfold af at e1
 split at e1
 ·next t' e2 =>
  cases e1
  obtain⟨v,h1,h2⟩:=E.sl i _ e2
  exact⟨v,h1,q F H v E (aQ.refl _) h2⟩
 ·next ts e2 =>
  cases e1
  obtain⟨F',v,h1,E',sF,r⟩:=E.freeze e2
  exact⟨v,h1,q F' H v E' sF r⟩
 ·cases e1
theorem Fz (hg:Gl X x)(hm:X.mg x=none)(hv:bootBuiltins x=some (.type n))(hn:x≠"__name__" := by decide)(hd:(x == ("__debug__" : Str))=false:=by decide):SE X (.Name x pos) (fC (.ty n)):=
 i9 (HF (v:=.ty n) hg hm hv rfl hn hd) fun _=>rfl
def Nc (K:PySem.W.Frag)(g:T->T->Option T):R2:=fun x y H Q=>∃F a b t,aQ F H/\Rep K F a x/\Rep K F b y/\g a b=some t/\∀F' H' v,bf F H F' H'->Rep K F' t v->Q v H'
def O2 (K:PySem.W.Frag)(g:T->Option T):V->Hp->VK->Prop:=fun x H Q=>∃F a t,aQ F H/\Rep K F a x/\g a=some t/\∀F' H' v,bf F H F' H'->Rep K F' t v->Q v H'
def Nd (K:PySem.W.Frag)(g:List T->Option T):List V->Hp->VK->Prop:=fun xs H Q=>∃F ts t,aQ F H/\aW K F ts xs/\g ts=some t/\∀F' H' v,bf F H F' H'->Rep K F' t v->Q v H'
abbrev oX (X:Cx)(f:Value->Value->Sem Value)(g:T->T->Option T):Prop:=rM X f (Nc X.K g)
abbrev Oi (X:Cx)(f:Value->Sem Value)(g:T->Option T):Prop:=M7 X f (O2 X.K g)
abbrev iK (X:Cx)(f:Value)(g:List T->Option T):Prop:=fJ X f (Nd X.K g)
def aG (g:T->T->Option T)(fa fb:FE):FE:=fun τ=>(fa τ).bind fun p=>(fb p.2).bind fun q=>(g p.1 q.1).bind fun t=>some (t,q.2)
def wb (g:T->Option T)(fa:FE):FE:=fun τ=>(fa τ).bind fun p=>(g p.1).bind fun t=>some (t,p.2)
theorem bind_some {α β:Type}{o:Option α}{f:α->Option β}{z:β}(h:o.bind f=some z):∃x,o=some x/\f x=some z:=by
 cases o with
 |none=>cases h
 |some x=>exact⟨x,rfl,h⟩
theorem pC {g:T->T->Option T}{Y0 Y9:Hp}{σ:L2.St}{H:Hp}{Q:VK}(h:tE X.K Y0 Y9 (aG g fa fb) σ H Q):MW (Nc X.K g) (tE X.K Y0 Y9 fa) (tE X.K Y0 Y9 fb) σ H Q:=by
 obtain⟨F,τ,t,τ',E,e1,q⟩:=h
 obtain⟨⟨x,τ1⟩,e2,e1⟩:=bind_some e1
 obtain⟨⟨y,τ2⟩,e3,e1⟩:=bind_some e1
 obtain⟨z,e4,e1⟩:=bind_some e1
 cases e1
 refine⟨F,τ,x,τ1,E,e2,fun F1 H1 v1 E1 s1 r1=>⟨F1,τ1,y,_,E1,e3,fun F2 H2 v2 E2 s2 r2=>?_⟩⟩
 exact⟨F2,x,y,t,E2.g.fh,Rep.mono s2 r1,r2,e4,fun F3 H3 v3 g3 r3=>q F3 H3 v3 (E2.grow g3) ((s1.trans s2).trans g3.sF) r3⟩
theorem aR (ho:oX X (binaryOp op) g)(ha:SE X a fa)(hb:SE X b fb):SE X (.BinOp a op b pos) (aG g fa fb):=
 fun Y0 Y9=>PE.weak (MC ho (ha Y0 Y9) (hb Y0 Y9)) fun _ _ _=>pC
theorem FC {op:UnaryOp}{g:T->Option T}(ho:Oi X (unaryOp op) g)(ha:SE X a fa):SE X (.UnaryOp op a pos) (wb g fa):=
 fun Y0 Y9=>PE.weak (MD ho (ha Y0 Y9)) fun σ H Q hq__=>by
  obtain⟨F,τ,t,τ',E,e1,q⟩:=hq__
  obtain⟨⟨x,τ1⟩,e2,e1⟩:=bind_some e1
  obtain⟨z,e4,e1⟩:=bind_some e1
  cases e1
  exact⟨F,τ,x,_,E,e2,fun F1 H1 v1 E1 s1 r1=>⟨F1,x,t,E1.g.fh,r1,e4,fun F3 H3 v3 g3 r3=>q F3 H3 v3 (E1.grow g3) (s1.trans g3.sF) r3⟩⟩
theorem lW (ho:oX X (compareOp op) g)(ha:SE X a fa)(hb:SE X b fb)(hm:behindInMarks op b=false):SE X (.Compare a [op] [b] pos) (aG g fa fb):=
 fun Y0 Y9=>PE.weak (HG ho (ha Y0 Y9) (hb Y0 Y9) hm) fun _ _ _=>pC
theorem dk (ho:Lv X (Nc X.K g))(ha:SE X a fa)(hb:SE X b fb)(hs:oY b):SE X (.Subscript a b pos) (aG g fa fb):=
 fun Y0 Y9=>PE.weak (Fg ho (ha Y0 Y9) (hb Y0 Y9) hs) fun _ _ _=>pC
def cJ (f:FE):FT:=fun τ=>(f τ).bind fun p=>match p.1 with | .bl c=>some (c,p.2) | _=>none
def Ni:T->Option Bool
 | .non=>some false
 | .bl c=>some c
 | .int i=>some (i != 0)
 | .str x=>if x.length≤sizeLine then some ((x.length:Int) != 0) else none
 | .tup ts=>some (!ts.isEmpty)
 | .lst ts=>some (!ts.isEmpty)
 | .scr ts=>some (!ts.isEmpty)
 | .dic=>some false
 | .obj _ _ _=>none
 | .ptr _=>none
 | .exc _ _ _=>none
 | .ty _=>none
def eL (f:FE):FT:=fun τ=>(f τ).bind fun p=>(Ni p.1).bind fun c=>some (c,p.2)
theorem bP {op:CmpOp}{g:T->T->Option T}(ho:oX X (compareOp op) g)(ha:SE X a fa)(hb:SE X b fb)(hm:behindInMarks op b=false):ST X (.Compare a [op] [b] pos) (cJ (aG g fa fb)):=
 fun Y0 Y9=>PT.weak (HM ho (ha Y0 Y9) (hb Y0 Y9) hm) fun σ H Q hq__=>by
  obtain⟨F,τ,c,τ',E,e1,q⟩:=hq__
  obtain⟨⟨x,τ1⟩,e2,e1⟩:=bind_some e1
  dsimp only at e1
  split at e1
  ·cases e1
   refine pC (Q:=fun x H'=>∃k,x=V.bl k/\Q k H') ⟨F,τ,_,_,E,e2,fun F' H' v E' s' r'=>?_⟩
   exact⟨c,r',q F' H' E' s'⟩
  ·cases e1
theorem jr {K:PySem.W.Frag}{F:Hp}{ts:List T}{vs:List V}(h:aW K F ts vs):vs.isEmpty=ts.isEmpty:=by
 cases ts with
 |nil=>cases h;rfl
 |cons t ts=>obtain⟨v,r,rfl,_⟩:=h;rfl
theorem Iz {K:PySem.W.Frag}{F H:Hp}{t:T}{v:V}{c:Bool}(s:aQ F H)(r:Rep K F t v)(e:Ni t=some c):Jz K v H c:=by
 cases t with
 |non=>cases r;cases e;exact rfl
 |bl _=>cases r;cases e;exact rfl
 |int _=>cases r;cases e;exact rfl
 |str x =>
  cases r
  simp only [Ni] at e
  split at e
  ·next h=>cases e;exact⟨h,rfl⟩
  ·cases e
 |ty _=>cases e
 |tup ts =>
  obtain⟨p,xs,rfl,h1,h2⟩:=r
  cases e
  exact .inr (.inl ⟨xs,cm s h1,by rw [jr h2]⟩)
 |lst ts =>
  obtain⟨p,xs,rfl,h1,h2⟩:=r
  cases e
  exact .inl ⟨xs,dO.of (s _ _ h1),by rw [jr h2]⟩
 |scr ts =>
  obtain⟨p,xs,rfl,h1,h2⟩:=r
  cases e
  exact .inl ⟨xs,s.seq h1,by rw [jr h2]⟩
 |dic =>
  obtain⟨p,rfl,h1⟩:=r
  cases e
  exact .inr (.inr ⟨[],s _ _ h1,rfl⟩)
 |obj _ _ _=>cases e
 |ptr _=>cases e
 |exc _ _ _=>cases e
theorem hU (h:SE X e f)(he:∀whole,isTrue e X.env whole=(do let v <- whole;standAt e.pos;holding [v] (truthy v)):=by intro _;rfl):ST X e (eL f):=
 fun Y0 Y9=>PT.weak (xN (h Y0 Y9) he) fun σ H Q hq__=>by
  obtain⟨F,τ,c,τ',E,e1,q⟩:=hq__
  obtain⟨⟨x,τ1⟩,e2,e1⟩:=bind_some e1
  obtain⟨z,e4,e1⟩:=bind_some e1
  cases e1
  exact⟨F,τ,x,_,E,e2,fun F1 H1 v1 E1 s1 r1=>⟨c,Iz E1.g.fh r1 e4,q F1 H1 E1 s1⟩⟩
variable {ta tb:FT}{rest:List Expr}
def D3 (ta tb:FT):FT:=fun τ=>(ta τ).bind fun p=>if p.1=true then tb p.2 else some (false,p.2)
def sX (ta tb:FT):FT:=fun τ=>(ta τ).bind fun p=>if p.1=true then some (true,p.2) else tb p.2
def gu (ta:FT):FT:=fun τ=>(ta τ).bind fun p=>some (!p.1,p.2)
theorem jD (h:ST X a ta):ST X (.UnaryOp .Not a pos) (gu ta):=fun Y0 Y9=>PT.weak (KS (h Y0 Y9)) fun σ H Q hq__=>by
 obtain⟨F,τ,c,τ',E,e1,q⟩:=hq__
 obtain⟨⟨x,τ1⟩,e2,e1⟩:=bind_some e1
 cases e1
 exact⟨F,τ,x,_,E,e2,fun F1 H1 E1 s1=>q F1 H1 E1 s1⟩
theorem Ir (h:ST X a ta):SW X (.BoolOp .And [a] pos) ta:=fun Y0 Y9=>HN (h Y0 Y9)
theorem rC (h:ST X a ta):SW X (.BoolOp .Or [a] pos) ta:=fun Y0 Y9=>KW (h Y0 Y9)
theorem Lf (ha:ST X a ta)(hb:SW X (.BoolOp .And (b::rest) pos) tb):SW X (.BoolOp .And (a::b::rest) pos) (D3 ta tb):=fun Y0 Y9=>PW.weak (KU (ha Y0 Y9) (hb Y0 Y9)) fun σ H Q hq__=>by
 obtain⟨F,τ,c,τ',E,e1,q⟩:=hq__
 obtain⟨⟨x,τ1⟩,e2,e1⟩:=bind_some e1
 refine⟨F,τ,x,τ1,E,e2,fun F1 H1 E1 s1=>?_⟩
 dsimp only at e1
 split at e1
 ·next h=>rw [if_pos h];exact⟨F1,τ1,c,τ',E1,e1,fun F2 H2 E2 s2=>q F2 H2 E2 (s1.trans s2)⟩
 ·next h=>rw [if_neg h];cases e1;exact q F1 H1 E1 s1
theorem rB (ha:ST X a ta)(hb:SW X (.BoolOp .Or (b::rest) pos) tb):SW X (.BoolOp .Or (a::b::rest) pos) (sX ta tb):=fun Y0 Y9=>PW.weak (ME (ha Y0 Y9) (hb Y0 Y9)) fun σ H Q hq__=>by
 obtain⟨F,τ,c,τ',E,e1,q⟩:=hq__
 obtain⟨⟨x,τ1⟩,e2,e1⟩:=bind_some e1
 refine⟨F,τ,x,τ1,E,e2,fun F1 H1 E1 s1=>?_⟩
 dsimp only at e1
 split at e1
 ·next h=>rw [if_pos h];cases e1;exact q F1 H1 E1 s1
 ·next h=>rw [if_neg h];exact⟨F1,τ1,c,τ',E1,e1,fun F2 H2 E2 s2=>q F2 H2 E2 (s1.trans s2)⟩
theorem SW.st (h:SW X e ta):ST X e ta:=fun Y0 Y9=>(h Y0 Y9).pt
def iQ (fa fb:FE):FE:=fun τ=>(fa τ).bind fun p=>match p.1 with | .bl true=>fb p.2 | .bl false=>some (.bl false,p.2) | _=>none
def NB (fa fb:FE):FE:=fun τ=>(fa τ).bind fun p=>match p.1 with | .bl true=>some (.bl true,p.2) | .bl false=>fb p.2 | _=>none
def NF:T->Option T
 | .bl c=>some (.bl (!c))
 |_=>none
theorem vJ {op}(h:SE X a fa):SE X (.BoolOp op [a] pos) fa:=fun Y0 Y9=>KJ (h Y0 Y9)
theorem vH (ha:SE X a fa)(hb:SE X (.BoolOp .And (b::rest) pos) fb):SE X (.BoolOp .And (a::b::rest) pos) (iQ fa fb):=fun Y0 Y9=>PE.weak (KI (ha Y0 Y9) (hb Y0 Y9)) fun σ H Q hq__=>by
 obtain⟨F,τ,c,τ',E,e1,q⟩:=hq__
 obtain⟨⟨x,τ1⟩,e2,e1⟩:=bind_some e1
 dsimp only at e1
 refine⟨F,τ,x,τ1,E,e2,fun F1 H1 v E1 s1 r1=>?_⟩
 split at e1
 ·cases r1;exact⟨true,rfl,by rw [if_pos rfl];exact⟨F1,τ1,c,τ',E1,e1,fun F2 H2 v2 E2 s2=>q F2 H2 v2 E2 (s1.trans s2)⟩⟩
 ·cases r1;cases e1;exact⟨false,rfl,by rw [if_neg (by decide)];exact q F1 H1 _ E1 s1 rfl⟩
 ·cases e1
def Ha (t:FT)(fa fb:FE):FE:=fun τ=>(t τ).bind fun p=>if p.1=true then fa p.2 else fb p.2
theorem Jm {c:Expr}(hc:ST X c ta)(ha:SE X a fa)(hb:SE X b fb):SE X (.IfExp c a b pos) (Ha ta fa fb):=fun Y0 Y9=>PE.weak (xI (hc Y0 Y9) (ha Y0 Y9) (hb Y0 Y9)) fun σ H Q hq__=>by
 obtain⟨F,τ,c,τ',E,e1,q⟩:=hq__
 obtain⟨⟨x,τ1⟩,e2,e1⟩:=bind_some e1
 refine⟨F,τ,x,τ1,E,e2,fun F1 H1 E1 s1=>?_⟩
 dsimp only at e1
 split at e1
 ·next h=>rw [if_pos h];exact⟨F1,τ1,c,τ',E1,e1,fun F2 H2 v2 E2 s2=>q F2 H2 v2 E2 (s1.trans s2)⟩
 ·next h=>rw [if_neg h];exact⟨F1,τ1,c,τ',E1,e1,fun F2 H2 v2 E2 s2=>q F2 H2 v2 E2 (s1.trans s2)⟩
variable {es:List Expr}{g:FA}
def az:FA:=fun τ=>some ([],τ)
def aa (f:FE)(g:FA):FA:=fun τ=>(f τ).bind fun p=>(g p.2).bind fun q=>some (p.1::q.1,q.2)
theorem ao:SA X [] az:=fun Y0 Y9=>PA.weak iz fun σ H Q hq__=>by
 obtain⟨F,τ,c,τ',E,e1,q⟩:=hq__
 cases e1
 exact q F H [] E (aQ.refl _) rfl
theorem ag (ha:SE X e f)(hr:SA X es g)(hs:starEach (e::es) X.env=(false,eval e X.env)::starEach es X.env:=by rfl):SA X (e::es) (aa f g):=fun Y0 Y9=>PA.weak (eu (ha Y0 Y9) (hr Y0 Y9) hs) fun σ H Q hq__=>by
 obtain⟨F,τ,c,τ',E,e1,q⟩:=hq__
 obtain⟨⟨x,τ1⟩,e2,e1⟩:=bind_some e1
 obtain⟨⟨y,τ2⟩,e3,e1⟩:=bind_some e1
 cases e1
 exact⟨F,τ,x,τ1,E,e2,fun F1 H1 v E1 s1 r1=>⟨F1,τ1,y,_,E1,e3,fun F2 H2 vs E2 s2 r2=>q F2 H2 _ E2 (s1.trans s2) ⟨v,vs,rfl,Rep.mono s2 r1,r2⟩⟩⟩
def ck (g:FA):FE:=fun τ=>(g τ).bind fun p=>if p.1.length≤sizeLine then some (.tup p.1,p.2) else none
def my (g:FA):FE:=fun τ=>(g τ).bind fun p=>if p.1.length≤sizeLine then some (.lst p.1,p.2) else none
theorem dM {k}(h:SA X es g):SE X (.Tuple es k pos) (ck g):=fun Y0 Y9=>PE.weak (KL (h Y0 Y9)) fun σ H Q hq__=>by
 obtain⟨F,τ,c,τ',E,e1,q⟩:=hq__
 obtain⟨⟨x,τ1⟩,e2,e1⟩:=bind_some e1
 dsimp only at e1
 split at e1
 ·next hl =>
  cases e1
  refine⟨F,τ,x,_,E,e2,fun F1 H1 vs E1 s1 r1=>⟨by rw [r1.length];exact hl,fun p hp=>?_⟩⟩
  have gr:=bf.new (.tup vs) E1.g.fh hp
  exact q _ _ _ (E1.grow gr) (s1.trans gr.sF) ⟨p,vs,rfl,ly.of aJ,aW.mono gr.sF r1⟩
 ·cases e1
theorem vI (h:SA X es g):SE X (.List es pos) (my g):=fun Y0 Y9=>PE.weak (nO (h Y0 Y9)) fun σ H Q hq__=>by
 obtain⟨F,τ,c,τ',E,e1,q⟩:=hq__
 obtain⟨⟨x,τ1⟩,e2,e1⟩:=bind_some e1
 dsimp only at e1
 split at e1
 ·next hl =>
  cases e1
  refine⟨F,τ,x,_,E,e2,fun F1 H1 vs E1 s1 r1=>⟨by rw [r1.length];exact hl,fun p hp=>?_⟩⟩
  have gr:=bf.new (.lst vs) E1.g.fh hp
  exact q _ _ _ (E1.grow gr) (s1.trans gr.sF) ⟨p,vs,rfl,aJ,aW.mono gr.sF r1⟩
 ·cases e1
def ai (d:List T->Option T)(g:FA):FE:=fun τ=>(g τ).bind fun p=>(d p.1).bind fun t=>some (t,p.2)
theorem sQ {d:List T->Option T}{Y0 Y9:Hp}{σ:L2.St}{H:Hp}{Q:VK}(h:tE X.K Y0 Y9 (ai d g) σ H Q):tA X.K Y0 Y9 g σ H fun vs H1=>Nd X.K d vs H1 Q:=by
 obtain⟨F,τ,c,τ',E,e1,q⟩:=h
 obtain⟨⟨x,τ1⟩,e2,e1⟩:=bind_some e1
 obtain⟨z,e4,e1⟩:=bind_some e1
 cases e1
 exact⟨F,τ,x,_,E,e2,fun F1 H1 vs E1 s1 r1=>⟨F1,x,c,E1.g.fh,r1,e4,fun F3 H3 v3 g3 r3=>q F3 H3 v3 (E1.grow g3) (s1.trans g3.sF) r3⟩⟩
theorem bc {d:List T->Option T}{id:String}{x:Str}{p:Pos}(hc:iK X (.builtin id) d)(hg:Gl X x)(hm:X.mg x=none)(hv:bootBuiltins x=some (.builtin id))(ha:SA X (e::es) g)(hn:x≠"__name__" := by decide)(hdb:(x == ("__debug__" : Str))=false:=by decide)
  (he:starEach (e::es) X.env=(false,eval e X.env)::starEach es X.env:=by rfl) (hpl:(backTo pos (starEach es X.env)).any (·.1)=false:=by rfl):SE X (.Call (.Name x p) (e::es) [] pos) (ai d g):=
 fun Y0 Y9=>PE.weak (xH hc hg hm hv (ha Y0 Y9) hn hdb he hpl) fun _ _ _=>sQ
theorem nY {d:List T->Option T}{id:String}{x:Str}{p:Pos}(hc:iK X (.type id) d)(hg:Gl X x)(hm:X.mg x=none)(hv:bootBuiltins x=some (.type id))(ha:SA X (e::es) g)(hn:x≠"__name__" := by decide)(hdb:(x == ("__debug__" : Str))=false:=by decide)
  (he:starEach (e::es) X.env=(false,eval e X.env)::starEach es X.env:=by rfl) (hpl:(backTo pos (starEach es X.env)).any (·.1)=false:=by rfl):SE X (.Call (.Name x p) (e::es) [] pos) (ai d g):=
 fun Y0 Y9=>PE.weak (tu hc hg hm hv (ha Y0 Y9) hn hdb he hpl) fun _ _ _=>sQ
end
def spT (K:PySem.W.Frag)(n:Nat)(d:List T->Option T):Sp:=fun vs H Q _=>vs.length=n/\Nd K d vs H Q
structure Def (P:Program)(w:World)(K:PySem.W.Frag)(mg:Str->Option Value)(base:Heap)(k:Nat)(x:Str)(n:Nat)(d:List T->Option T):Prop where
 ex:∃f fd ps,ir P w K mg base tZ k f fd ps (spT K n d)/\Binds K fd ps []/\PySem.W.keepIn K (.ref f)=true/\mg x=some (.ref f)/\ps.length=n
theorem Def.imp {P:Program}{w:World}{K:PySem.W.Frag}{mg:Str->Option Value}{base:Heap}{k n:Nat}{x:Str}{d d':List T->Option T}(D:Def P w K mg base k x n d)(h:∀ts t,d' ts=some t->d ts=some t):Def P w K mg base k x n d':=by
 obtain⟨f,fd,ps,F,r⟩:=D.ex
 exact⟨f,fd,ps,F.imp fun vs H Q E ⟨l,F,ts,t,a,b,c,q⟩=>⟨l,F,ts,t,a,b,h _ _ c,q⟩,r⟩
theorem Def.mono {P:Program}{w:World}{K:PySem.W.Frag}{mg:Str->Option Value}{base:Heap}{j k n:Nat}{x:Str}{d:List T->Option T}(D:Def P w K mg base j x n d)(h:j≤k):Def P w K mg base k x n d:=by
 obtain⟨f,fd,ps,F,r⟩:=D.ex
 exact⟨f,fd,ps,F.mono h,r⟩
theorem Def.zero {P:Program}{w:World}{K:PySem.W.Frag}{mg:Str->Option Value}{base:Heap}{x qual:Str}{st:Stmt}{f:Addr}{fd:FuncData}{ps:List Str}(F:fW K x qual st f fd)(hb:Binds K fd ps [])(hm:mg x=some (.ref f)):Def P w K mg base 0 x ps.length (fun _=>none):=
 ⟨f,fd,ps,⟨fun vs H Q E h=>h.1,fun A outer s H args us vs Q E _ _ _ _ h=>by obtain⟨_,F,ts,t,_,_,e,_⟩:=h;cases e⟩,hb,F.kp,hm,rfl⟩
section
variable {X:Cx}{e:Expr}{es:List Expr}{pos:Pos}{g:FA}
theorem aL {k n:Nat}{x:Str}{p:Pos}{d:List T->Option T}(D:Def X.prog X.w X.K X.mg X.base k x n d)(hr:eK k X.A)(hg:Gl X x)(ha:SA X (e::es) g)(hl:∀τ ts τ',g τ=some (ts,τ')->ts.length=n)(hdb:(x == ("__debug__" : Str))=false:=by decide)
  (he:starEach (e::es) X.env=(false,eval e X.env)::starEach es X.env:=by rfl) (hpl:(backTo pos (starEach es X.env)).any (·.1)=false:=by rfl):SE X (.Call (.Name x p) (e::es) [] pos) (ai d g):=by
 obtain⟨f,fd,ps,F,hb,hk,hm,hn⟩:=D.ex
 intro Y0 Y9
 refine PE.weak (vv (E:=E0) (CX:=tZ) F hr hg hm hk hb .nil Fd (ha Y0 Y9) hdb he hpl) fun σ H Q h=>?_
 obtain⟨F,τ,c,τ',E,e1,q⟩:=h
 obtain⟨⟨z,τ1⟩,e2,e1⟩:=bind_some e1
 have hz:=hl _ _ _ e2
 obtain⟨u,e4,e1⟩:=bind_some e1
 cases e1
 refine⟨F,τ,z,_,E,e2,fun F1 H1 vs E1 s1 r1=>⟨by rw [List.append_nil,r1.length];exact hz,F1,z,c,E1.g.fh,by rw [List.append_nil];exact r1,e4,fun F3 H3 v3 g3 r3=>q F3 H3 v3 (E1.grow g3) (s1.trans g3.sF) r3⟩⟩
theorem aE:∀τ ts τ',az τ=some (ts,τ')->ts.length=0:=fun _ _ _ h=>by cases h;rfl
theorem aj {f:FE}{g:FA}{n:Nat}(h:∀τ ts τ',g τ=some (ts,τ')->ts.length=n):∀τ ts τ',aa f g τ=some (ts,τ')->ts.length=n+1:=fun τ ts τ' e=>by
 obtain⟨⟨x,τ1⟩,e2,e1⟩:=bind_some e
 obtain⟨⟨y,τ2⟩,e3,e1⟩:=bind_some e1
 cases e1
 simp [h _ _ _ e3]
end
section
variable {X:Cx}{e a b:Expr}{pos:Pos}{f fa fb:FE}{ga:FA}{es:List Expr}
def gS:FS:=fun _=>none
def bS:FS:=fun τ=>some (.nx τ)
def bE (f:FE):FS:=fun τ=>(f τ).bind fun p=>some (.rt p.1)
def Mc (f:FE):FS:=fun τ=>(f τ).bind fun p=>some (.nx p.2)
def cq (c:FT)(t u:FS):FS:=fun τ=>(c τ).bind fun p=>if p.1=true then t p.2 else u p.2
def aO (t u:FS):FS:=fun τ=>(t τ).bind fun r=>match r with | .nx τ'=>u τ' | r=>some r
theorem nh.mono {K:PySem.W.Frag}{Y0 Y9 F F':Hp}{D:Ends}{r:R}(s:aQ F F')(h:nh K Y0 Y9 F D r):nh K Y0 Y9 F' D r:=by
 cases r with
 |nx τ=>exact fun F1 H1 σ1 E1 s1=>h F1 H1 σ1 E1 (s.trans s1)
 |rt t=>exact h
 |bk τ=>exact fun F1 H1 σ1 E1 s1=>h F1 H1 σ1 E1 (s.trans s1)
 |ct τ=>exact fun F1 H1 σ1 E1 s1=>h F1 H1 σ1 E1 (s.trans s1)
theorem ya {st:Stmt}:SS X st gS:=fun Y0 Y9=>PS.weak Fi fun D σ H ⟨F,τ,r,E,e1,q⟩=>by cases e1
theorem bu (h:SE X e f):SS X (.Return (some e) pos) (bE f):=fun Y0 Y9=>PS.weak (nR (h Y0 Y9)) fun D σ H hq__=>by
 obtain⟨F,τ,r,E,e1,q⟩:=hq__
 obtain⟨⟨x,τ1⟩,e2,e1⟩:=bind_some e1
 cases e1
 exact⟨F,τ,x,τ1,E,e2,fun F' H' v E' s' r'=>q F' H' v E'.g r'⟩
theorem fy (hc:ST X c tc)(ha:ug X ss t)(hb:ug X us u):SS X (.If c ss us pos) (cq tc t u):=fun Y0 Y9=>PS.weak (qT (hc Y0 Y9) (ha Y0 Y9) (hb Y0 Y9)) fun D σ H hq__=>by
 obtain⟨F,τ,r,E,e1,q⟩:=hq__
 obtain⟨⟨x,τ1⟩,e2,e1⟩:=bind_some e1
 refine⟨F,τ,x,τ1,E,e2,fun F' H' E' s'=>?_⟩
 dsimp only at e1
 split at e1
 ·next h=>rw [if_pos h];exact⟨F',τ1,r,E',e1,q.mono s'⟩
 ·next h=>rw [if_neg h];exact⟨F',τ1,r,E',e1,q.mono s'⟩
theorem cw:ug X [] bS:=fun Y0 Y9=>kX.weak il fun D σ H hq__=>by
 obtain⟨F,τ,r,E,e1,q⟩:=hq__
 cases e1
 exact q F H σ E (aQ.refl _)
theorem av {st:Stmt}{rest:List Stmt}{t u:FS}(h1:SS X st t)(h2:ug X rest u):ug X (st::rest) (aO t u):=fun Y0 Y9=>kX.weak (dU (h1 Y0 Y9) (h2 Y0 Y9)) fun D σ H hq__=>by
 obtain⟨F,τ,r,E,e1,q⟩:=hq__
 obtain⟨x,e2,e1⟩:=bind_some e1
 refine⟨F,τ,x,E,e2,?_⟩
 cases x with
 |nx τ1=>exact fun F1 H1 σ1 E1 s1=>⟨F1,τ1,r,E1,e1,q.mono s1⟩
 |rt t=>cases e1;exact q
 |bk t=>cases e1;exact q
 |ct t=>cases e1;exact q
theorem aI {st:Stmt}{t:FS}(h1:SS X st t):ug X [st] t:=fun Y0 Y9=>f9 (h1 Y0 Y9)
theorem tL {st:List Stmt}:ug X st gS:=fun Y0 Y9=>kX.weak tw fun D σ H ⟨F,τ,r,E,e1,q⟩=>by cases e1
def aX (i:Nat)(f:FE):FS:=fun τ=>(f τ).bind fun p=>some (.nx (p.2.set i (some (.sh p.1))))
def d9 (i:Nat)(g:FA):FS:=fun τ=>(g τ).bind fun p=>if p.1.length≤sizeLine then some (.nx (p.2.set i (some (.own p.1)))) else none
theorem aZ (i:Nat)(hN:X.N.Nodup)(hi:X.N[i]? = some x)(hx:Loc X.env.scope x)(he:SE X e f)(hs:swapsWith e (some (.Name x pos')) pos.line X.env=pure false:=by rfl)
  (hf:X.fn x=true\/X.env.scope.names.lookup x=some .local:=by first | exact .inl rfl | exact .inr rfl | assumption):SS X (.Assign [.Name x pos'] e pos) (aX i f):=fun Y0 Y9=>PS.weak (lT hN hi hx (he Y0 Y9) hs hf) fun D σ H hq__=>by
 obtain⟨F,τ,r,E,e1,q⟩:=hq__
 obtain⟨⟨y,τ1⟩,e2,e1⟩:=bind_some e1
 cases e1
 exact⟨F,τ,y,τ1,E,e2,fun F' H' v E' s' r'=>q F' H' _ (E'.set r') s'⟩
theorem jc (i:Nat)(hN:X.N.Nodup)(hi:X.N[i]? = some x)(hx:Loc X.env.scope x)(he:SA X es ga)(hs:swapsWith (.List es p2) (some (.Name x pos')) pos.line X.env=pure false:=by rfl)
  (hf:X.fn x=true\/X.env.scope.names.lookup x=some .local:=by first | exact .inl rfl | exact .inr rfl | assumption):SS X (.Assign [.Name x pos'] (.List es p2) pos) (d9 i ga):=fun Y0 Y9=>PS.weak (lT hN hi hx (nO (he Y0 Y9)) hs hf) fun D σ H hq__=>by
 obtain⟨F,τ,r,E,e1,q⟩:=hq__
 obtain⟨⟨y,τ1⟩,e2,e1⟩:=bind_some e1
 dsimp only at e1
 split at e1
 ·next hl =>
  cases e1
  exact⟨F,τ,y,τ1,E,e2,fun F' H' vs E' s' r'=>⟨by rw [r'.length];exact hl,fun p hp=>q F' _ _ (E'.setOwn hp r') s'⟩⟩
 ·cases e1
def tG (K:PySem.W.Frag)(Y0 Y9:Hp)(fg:FG):TG:=fun v σ H Q=>∃F τ t τ',aF K Y0 Y9 F H σ τ/\Rep K F t v/\fg t τ=some τ'/\∀F' H' σ',aF K Y0 Y9 F' H' σ' τ'->aQ F F'->Q σ' H'
def O8 (K:PySem.W.Frag)(Y0 Y9:Hp)(fg:List T->aK->Option aK):Gf:=fun vs σ H Q=>∃F τ ts τ',aF K Y0 Y9 F H σ τ/\aW K F ts vs/\fg ts τ=some τ'/\∀F' H' σ',aF K Y0 Y9 F' H' σ' τ'->aQ F F'->Q σ' H'
def SG (X:Cx)(tg:Expr)(fg:FG):Prop:=∀Y0 Y9,PG X tg (tG X.K Y0 Y9 fg)
def M6 (X:Cx)(tg:List Expr)(fg:List T->aK->Option aK):Prop:=∀Y0 Y9,Lw X tg (O8 X.K Y0 Y9 fg)
def ak (i:Nat):FG:=fun t τ=>some (τ.set i (some (.sh t)))
def bN:List T->aK->Option aK
 |[],τ=>some τ
 |_::_,_=>none
def aH (g:FG)(gs:List T->aK->Option aK):List T->aK->Option aK
 |[],_=>none
 |t::ts,τ=>(g t τ).bind fun τ1=>gs ts τ1
def bO (gs:List T->aK->Option aK):FG:=fun t τ=>match t with
 | .tup ts=>gs ts τ
 |_=>none
theorem aM (i:Nat)(hN:X.N.Nodup)(hi:X.N[i]? = some x)(hx:Loc X.env.scope x)(hf:X.fn x=true\/X.env.scope.names.lookup x=some .local:=by first | exact .inl rfl | exact .inr rfl | assumption):SG X (.Name x pos) (ak i):=
 fun Y0 Y9 pins s σ H v u Q I r h=>mQ hN hi hx hf pins s σ H v u Q I r (by
  obtain⟨F,τ,t,τ',E,rt,e1,q⟩:=h
  cases e1
  exact q F H _ (E.set rt) (aQ.refl _))
theorem cW:M6 X [] bN:=fun Y0 Y9 pins s σ H vs us Q I r h=>By pins s σ H vs us Q I r (by
 obtain⟨F,τ,ts,τ',E,rt,e1,q⟩:=h
 cases ts with
 |nil=>cases e1;cases rt;exact⟨rfl,q F H σ E (aQ.refl _)⟩
 | cons t ts=>cases e1)
theorem aY (h1:SG X e g)(h2:M6 X es gs)(hs:(assignEach (e::es) X.env).map (·.2)=assign e X.env::(assignEach es X.env).map (·.2):=by rfl):M6 X (e::es) (aH g gs):=
 fun Y0 Y9 pins s σ H vs us Q I r h=>qO (h1 Y0 Y9) (h2 Y0 Y9) hs pins s σ H vs us Q I r (by
  obtain⟨F,τ,ts,τ',E,rt,e1,q⟩:=h
  cases ts with
  |nil=>cases e1
  |cons t ts =>
   obtain⟨v,rr,rfl,r1,r2⟩:=rt
   obtain⟨τ1,e2,e1⟩:=bind_some e1
   exact⟨v,rr,rfl,F,τ,t,τ1,E,r1,e2,fun F' H' σ' E' s'=>⟨F',τ1,ts,τ',E',aW.mono s' r2,e1,fun F2 H2 σ2 E2 s2=>q F2 H2 σ2 E2 (s'.trans s2)⟩⟩)
theorem eG:∀ts τ τ',bN ts τ=some τ'->ts.length=0:=fun ts τ τ' h=>by cases ts<;>first | rfl | cases h
theorem br {gs:List T->aK->Option aK}{n:Nat}(h:∀ts τ τ',gs ts τ=some τ'->ts.length=n):∀ts τ τ',aH g gs ts τ=some τ'->ts.length=n+1:=fun ts τ τ' e=>by
 cases ts with
 |nil=>cases e
 |cons t ts =>
  obtain⟨τ1,e2,e1⟩:=bind_some e
  simp [h _ _ _ e1]
theorem eJ {k:Nat}{n:Nat}(hc:X.calm=true)(h:M6 X es gs)(hl:∀ts τ τ',gs ts τ=some τ'->ts.length=n)
  (hn:(assignEach es X.env).length=n:=by rfl) (hst:(assignEach es X.env).findIdx? (·.1)=none:=by rfl):SG X (.Tuple es k pos) (bO gs):=
 fun Y0 Y9 pins s σ H v u Q I r h'=>KQ hc (h Y0 Y9) hn hst pins s σ H v u Q I r (by
  obtain⟨F,τ,t,τ',E,rt,e1,q⟩:=h'
  unfold bO at e1
  split at e1
  ·next ts =>
   obtain⟨p,xs,rfl,h1,h2⟩:=rt
   exact⟨p,xs,rfl,cm E.g.fh h1,by rw [h2.length];exact hl _ _ _ e1,F,τ,ts,τ',E,h2,e1,q⟩
  ·cases e1)
def uC (f:FE)(g:FG):FS:=fun τ=>(f τ).bind fun p=>(g p.1 p.2).bind fun τ'=>some (.nx τ')
theorem zY (he:SE X e f)(hg:SG X tg g)(hs:swapsWithSole [tg] e pos.line X.env=pure false:=by rfl)(hw:swappedStores [tg] e X.env=pure none:=by rfl)
  (h1:(assignEach [tg] X.env).map (·.2)=[assign tg X.env]:=by rfl):SS X (.Assign [tg] e pos) (uC f g):=fun Y0 Y9=>PS.weak (zL (he Y0 Y9) (hg Y0 Y9) hs hw h1) fun D σ H hq__=>by
 obtain⟨F,τ,r,E,e1,q⟩:=hq__
 obtain⟨⟨y,τ1⟩,e2,e1⟩:=bind_some e1
 obtain⟨τ2,e3,e1⟩:=bind_some e1
 cases e1
 exact⟨F,τ,y,τ1,E,e2,fun F' H' v E' s' r'=>⟨F',τ1,y,τ2,E',r',e3,fun F2 H2 σ2 E2 s2=>q F2 H2 σ2 E2 (s'.trans s2)⟩⟩
def uD (i j:Nat)(g:FA):FS:=fun τ=>(g τ).bind fun p=>match p.1 with
 |[v,w]=>some (.nx ((p.2.set i (some (.sh v))).set j (some (.sh w))))
 |_=>none
theorem vU {i j:Nat}{kt k2 pt2}(hc:X.calm=true)(hN:X.N.Nodup)(hi:X.N[i]? = some x)(hj:X.N[j]? = some y)(hij:i≠j)
  (hx:X.env.scope.names.lookup x=some .local) (hy:X.env.scope.names.lookup y=some .local) (ha:SA X [a,b] ga)
  (hw:swappedStores [.Tuple [.Name x px,.Name y py] kt pt] (.Tuple [a,b] k2 pt2) X.env=pure (some [x,y]))
  (hs:swapsWithSole [.Tuple [.Name x px,.Name y py] kt pt] (.Tuple [a,b] k2 pt2) pos.line X.env=pure false:=by rfl):
  SS X (.Assign [.Tuple [.Name x px,.Name y py] kt pt] (.Tuple [a,b] k2 pt2) pos) (uD i j ga):=fun Y0 Y9=>PS.weak (Fj hc hN hi hj hij hx hy (ha Y0 Y9) hw hs) fun D σ H hq__=>by
 obtain⟨F,τ,r,E,e1,q⟩:=hq__
 obtain⟨⟨ts,τ1⟩,e2,e1⟩:=bind_some e1
 dsimp only at e1
 split at e1
 ·next v w =>
  cases e1
  refine⟨F,τ,_,τ1,E,e2,fun F' H' vs E' s' r'=>?_⟩
  obtain⟨v1,r1,rfl,q1,v2,r2,rfl,q2,rfl⟩:=r'
  exact⟨v1,v2,rfl,q F' H' _ ((E'.set q1).set q2) s'⟩
 ·cases e1
structure Walks (K:PySem.W.Frag)(F:Hp)(ts:List T)(J:It):Prop where
 go:∀(i:Nat) t F1 H1,ts[i]? = some t->aQ F F1->aQ F1 H1->J.go i H1
 yld:∀(i:Nat) t F1 H1 x H2,ts[i]? = some t->aQ F F1->aQ F1 H1->J.yld i H1 x H2->∃F2,bf F1 H1 F2 H2/\Rep K F2 t x
 stop:∀F1 H1,aQ F F1->aQ F1 H1->J.stop ts.length H1
def tI (K:PySem.W.Frag)(Y0 Y9:Hp)(fi:FA):TI:=fun σ H R=>∃F τ ts τ',aF K Y0 Y9 F H σ τ/\fi τ=some (ts,τ')/\∀F' H' J,aF K Y0 Y9 F' H' σ τ'->aQ F F'->Walks K F' ts J->R J H'
def SI (X:Cx)(tg iter:Expr)(fi:FA):Prop:=∀Y0 Y9,PI X tg iter (tI X.K Y0 Y9 fi)
def bV (fg:FG)(fb:FS):List T->FS
 |[],τ=>some (.nx τ)
 |t::ts,τ=>(fg t τ).bind fun τ1=>(fb τ1).bind fun r=>match r with
  | .nx τ2=>bV fg fb ts τ2
  | .ct τ2=>bV fg fb ts τ2
  | .bk τ2=>some (.nx τ2)
  | .rt v=>some (.rt v)
def dz (fi:FA)(fg:FG)(fb:FS):FS:=fun τ=>(fi τ).bind fun p=>bV fg fb p.1 p.2
theorem fH {tg iter:Expr}{body:List Stmt}{fi:FA}{fg:FG}{fb:FS}(hp:PassesOwn (model X.prog X.w) X.A X.env X.xe)(hc:X.calm=true)(hi:SI X tg iter fi)(hg:SG X tg fg)(hb:ug X body fb)
  (hs:∀x,foldedSetIterable iter X.env x=pure x:=by intro _;rfl):SS X (.For tg iter body [] pos) (dz fi fg fb):=fun Y0 Y9=>PS.weak (zM hp hc (hi Y0 Y9) (hg Y0 Y9) (hb Y0 Y9) hs) fun D σ H hq__=>by
 obtain⟨F,τ,r,E,e1,q⟩:=hq__
 obtain⟨⟨ts,τ1⟩,e2,e1⟩:=bind_some e1
 refine⟨F,τ,ts,τ1,E,e2,fun F' H' J E' s' W=>?_⟩
 refine⟨fun i m σ H=>m=ts.length-i/\i≤ts.length/\∃F1 τ1,aF X.K Y0 Y9 F1 H σ τ1/\aQ F' F1/\bV fg fb (ts.drop i) τ1=some r,⟨_,rfl,Nat.zero_le _,F',τ1,E',aQ.refl _,e1⟩,?_⟩
 rintro i m σ1 H1 ⟨rfl,hi,F1,τ2,E1,s1,e3⟩
 by_cases hlt:i<ts.length
 ·have hd:ts.drop i=ts[i]::ts.drop (i+1):=List.drop_eq_getElem_cons hlt
  have hg:ts[i]? = some ts[i]:=List.getElem?_eq_getElem hlt
  rw [hd] at e3
  obtain⟨τ3,e4,e3⟩:=bind_some e3
  obtain⟨r',e5,e3⟩:=bind_some e3
  refine .inr ⟨W.go i _ F1 H1 hg s1 E1.g.fh,fun σ H=>∃F1 τ1,aF X.K Y0 Y9 F1 H σ τ1/\aQ F' F1/\bV fg fb (ts.drop (i+1)) τ1=some r,fun σ' H' n=>⟨_,by omega,rfl,hlt,n⟩,fun x H2 y=>?_⟩
  obtain⟨F2,gr,rx⟩:=W.yld i _ F1 H1 x H2 hg s1 E1.g.fh y
  refine⟨F2,τ2,ts[i],τ3,E1.grow gr,rx,e4,fun F3 H3 σ3 E3 s3=>⟨F3,τ3,r',E3,e5,?_⟩⟩
  have s03:aQ F' F3:=s1.trans (gr.sF.trans s3)
  cases r' with
  |nx τ4=>exact fun F4 H4 σ4 E4 s4=>⟨F4,τ4,E4,s03.trans s4,e3⟩
  |ct τ4=>exact fun F4 H4 σ4 E4 s4=>⟨F4,τ4,E4,s03.trans s4,e3⟩
  |bk τ4=>cases e3;exact fun F4 H4 σ4 E4 s4=>q F4 H4 σ4 E4 (s'.trans (s03.trans s4))
  |rt v=>cases e3;exact q
 ·have he:i=ts.length:=by omega
  subst he
  rw [List.drop_length] at e3
  cases e3
  exact .inl ⟨W.stop F1 H1 s1 E1.g.fh,q F1 H1 σ1 E1 (s'.trans s1)⟩
def yU (f:FE):FA:=fun τ=>(f τ).bind fun p=>match p.1 with | .lst ts=>some (ts,p.2) | .scr ts=>some (ts,p.2) | _=>none
def Ea (f:FE):FA:=fun τ=>(f τ).bind fun p=>match p.1 with | .tup ts=>some (ts,p.2) | _=>none
theorem rH {K:PySem.W.Frag}{F:Hp}{p:Addr}{xs:List V}{ts:List T}(h1:dO K F p xs)(h2:aW K F ts xs):Walks K F ts (Nr K p):=by
 refine⟨fun i t F1 H1 e s1 s2=>?_,fun i t F1 H1 x H2 e s1 s2 y=>?_,fun F1 H1 s1 s2=>⟨xs,(s1.trans s2).seq h1,by rw [h2.length];exact Nat.le_refl _⟩⟩
 ·obtain⟨v,g1,_⟩:=h2.get e
  exact⟨xs,v,(s1.trans s2).seq h1,g1⟩
 ·obtain⟨rfl,y⟩:=y
  obtain⟨v,g1,g2⟩:=h2.get e
  have:=y xs ((s1.trans s2).seq h1)
  rw [g1] at this;cases this
  exact⟨F1,bf.refl s2,Rep.mono s1 g2⟩
theorem Di {K:PySem.W.Frag}{F:Hp}{p:Addr}{xs:List V}{ts:List T}(h1:ly K F p xs)(h2:aW K F ts xs):Walks K F ts (Nt K p):=by
 refine⟨fun i t F1 H1 e s1 s2=>?_,fun i t F1 H1 x H2 e s1 s2 y=>?_,fun F1 H1 s1 s2=>⟨xs,cm (s1.trans s2) h1,by rw [h2.length];exact Nat.le_refl _⟩⟩
 ·obtain⟨v,g1,_⟩:=h2.get e
  exact⟨xs,v,cm (s1.trans s2) h1,g1⟩
 ·obtain⟨rfl,y⟩:=y
  obtain⟨v,g1,g2⟩:=h2.get e
  have:=y xs (cm (s1.trans s2) h1)
  rw [g1] at this;cases this
  exact⟨F1,bf.refl s2,Rep.mono s1 g2⟩
theorem PI.weak {t t':TI}(h:PI X tg it t)(i:∀σ H R,t' σ H R->t σ H R):PI X tg it t':=fun pins s σ H R I q=>h pins s σ H R I (i σ H R q)
theorem BI (h:SE X l f):SI X tg l (yU f):=fun Y0 Y9=>PI.weak (vy (h Y0 Y9)) fun σ H R hq__=>by
 obtain⟨F,τ,ts,τ',E,e1,q⟩:=hq__
 obtain⟨⟨x,τ1⟩,e2,e1⟩:=bind_some e1
 dsimp only at e1
 split at e1
 ·cases e1
  refine⟨F,τ,_,τ',E,e2,fun F' H' v E' s' r'=>?_⟩
  obtain⟨p,xs,rfl,h1,h2⟩:=r'
  exact⟨p,rfl,⟨xs,dO.of (E'.g.fh _ _ h1)⟩,q F' H' _ E' s' (rH (dO.of h1) h2)⟩
 ·cases e1
  refine⟨F,τ,_,τ',E,e2,fun F' H' v E' s' r'=>?_⟩
  obtain⟨p,xs,rfl,h1,h2⟩:=r'
  exact⟨p,rfl,⟨xs,E'.g.fh.seq h1⟩,q F' H' _ E' s' (rH h1 h2)⟩
 ·cases e1
theorem K7 (h:SE X l f):SI X tg l (Ea f):=fun Y0 Y9=>PI.weak (KR (h Y0 Y9)) fun σ H R hq__=>by
 obtain⟨F,τ,ts,τ',E,e1,q⟩:=hq__
 obtain⟨⟨x,τ1⟩,e2,e1⟩:=bind_some e1
 dsimp only at e1
 split at e1
 ·cases e1
  refine⟨F,τ,_,τ',E,e2,fun F' H' v E' s' r'=>?_⟩
  obtain⟨p,xs,rfl,h1,h2⟩:=r'
  exact⟨p,rfl,⟨xs,cm E'.g.fh h1⟩,q F' H' _ E' s' (Di h1 h2)⟩
 ·cases e1
def upTo (lo:Int):Nat->List T
 |0=>[]
 |n+1=>.int lo::upTo (lo+1) n
theorem iq:∀(n:Nat) (lo:Int),(upTo lo n).length=n
 |0,_=>rfl
 |n+1,lo=>by simp [upTo,iq n]
theorem rF:∀(n:Nat) (lo:Int) (i:Nat),i<n->(upTo lo n)[i]? = some (.int (lo+i))
 |0,_,_,h=>by omega
 |n+1,lo,0,_=>by simp [upTo]
 |n+1,lo,i+1,h=>by
  simp only [upTo,List.getElem?_cons_succ]
  rw [rF n (lo+1) i (by omega)]
  congr 2
  push_cast
  omega
def bA (g:FA):FA:=fun τ=>(g τ).bind fun p=>match p.1 with
 |[.int j]=>if -(2^62)≤j/\j<2^62 then some (upTo 0 j.toNat,p.2) else none
 |_=>none
theorem tW {K:PySem.W.Frag}{F:Hp}(lo:Int)(n:Nat):Walks K F (upTo lo n) (LN lo n):=by
 have hl:∀{i:Nat} {t:T},(upTo lo n)[i]? = some t->i<n:=fun {i t} e=>by
  have:=(List.getElem?_eq_some_iff.mp e).1
  rwa [iq] at this
 refine⟨fun i t F1 H1 e s1 s2=>hl e,fun i t F1 H1 x H2 e s1 s2 y=>?_,fun F1 H1 s1 s2=>by show n≤_;rw [iq];exact Nat.le_refl _⟩
 obtain⟨rfl,rfl⟩:=y
 rw [rF n lo i (hl e)] at e
 cases e
 exact⟨F1,bf.refl s2,rfl⟩
theorem eA (hg:Gl X "range")(hm:X.mg "range" = none)(ha:SA X [a] ga)(hs:starEach [a] X.env=[(false,eval a X.env)]:=by rfl):SI X tg (.Call (.Name "range" p) [a] [] pos) (bA ga):=
 fun Y0 Y9=>PI.weak (CO hg hm (ha Y0 Y9) hs) fun σ H R hq__=>by
  obtain⟨F,τ,ts,τ',E,e1,q⟩:=hq__
  obtain⟨⟨x,τ1⟩,e2,e1⟩:=bind_some e1
  dsimp only at e1
  split at e1
  ·split at e1
   ·next hb =>
    cases e1
    refine⟨F,τ,_,τ',E,e2,fun F' H' vs E' s' r'=>?_⟩
    obtain⟨v,r,rfl,q1,rfl⟩:=r'
    cases q1
    exact⟨_,rfl,hb.1,hb.2,q F' H' _ E' s' (tW 0 _)⟩
   ·cases e1
  ·cases e1
def fj (ft:FT)(fb:FS):Nat->FS
 |0,_=>none
 |n+1,τ=>(ft τ).bind fun p=>if p.1=true then (fb p.2).bind fun r=>match r with
  | .nx τ2=>fj ft fb n τ2
  | .ct τ2=>fj ft fb n τ2
  | .bk τ2=>some (.nx τ2)
  | .rt v=>some (.rt v) else some (.nx p.2)
theorem rk (n:Nat){c:Expr}{body:List Stmt}{ft:FT}{fb:FS}(hp:PassesOwn (model X.prog X.w) X.A X.env X.xe)(hc:ST X c ft)(hb:ug X body fb):SS X (.While c body [] pos) (fj ft fb n):=fun Y0 Y9=>PS.weak (Fl hp (hc Y0 Y9) (hb Y0 Y9)) fun D σ H hq__=>by
 obtain⟨F,τ,r,E,e1,q⟩:=hq__
 refine⟨fun m σ H=>∃F1 τ1,aF X.K Y0 Y9 F1 H σ τ1/\aQ F F1/\fj ft fb m τ1=some r,⟨n,F,τ,E,aQ.refl _,e1⟩,?_⟩
 rintro m σ1 H1 ⟨F1,τ1,E1,s1,e2⟩
 cases m with
 |zero=>cases e2
 |succ m =>
  obtain⟨⟨x,τ2⟩,e3,e2⟩:=bind_some e2
  refine⟨F1,τ1,x,τ2,E1,e3,fun F2 H2 E2 s2=>?_⟩
  dsimp only at e2
  split at e2
  ·next h =>
   rw [if_pos h]
   obtain⟨r',e4,e2⟩:=bind_some e2
   refine⟨fun σ H=>∃F1 τ1,aF X.K Y0 Y9 F1 H σ τ1/\aQ F F1/\fj ft fb m τ1=some r,fun σ' H' n=>⟨m,Nat.lt_succ_self m,n⟩,F2,τ2,r',E2,e4,?_⟩
   cases r' with
   |nx τ4=>exact fun F4 H4 σ4 E4 s4=>⟨F4,τ4,E4,(s1.trans s2).trans s4,e2⟩
   |ct τ4=>exact fun F4 H4 σ4 E4 s4=>⟨F4,τ4,E4,(s1.trans s2).trans s4,e2⟩
   |bk τ4=>cases e2;exact fun F4 H4 σ4 E4 s4=>q F4 H4 σ4 E4 ((s1.trans s2).trans s4)
   |rt v=>cases e2;exact q
  ·next h =>
   rw [if_neg h]
   cases e2
   exact q F2 H2 σ1 E2 (s1.trans s2)
def jO (i:Nat)(f:FE):FS:=fun τ=>match τ[i]? with
 |some (some (.own _))=>(f τ).bind fun p=>match p.2[i]? with
  |some (some (.own ts))=>if ts.length<sizeLine then some (.nx (p.2.set i (some (.own (ts++[p.1]))))) else none
  |_=>none
 |_=>none
end
def dH (m n:Nat)(fb:FS):List T->Option T:=fun ts=>if ts.length=n then (fb (ts.map (fun t=>some (Sl.sh t))++List.replicate (m-n) none)).bind fun r=>match r with
 | .rt t=>some t
 | .nx _=>some .non
 |_=>none else none
theorem kJ {K:PySem.W.Frag}{F H:Hp}{N:List Str}{vs:List V}{ts:List T}(s:aQ F H)(r:aW K F ts vs):aF K F H F H (start N vs) (ts.map (fun t=>some (Sl.sh t))++List.replicate (N.length-ts.length) none):=by
 have hl:=r.length
 have key:∀(i:Nat) (sl:Sl),(ts.map (fun t=>some (Sl.sh t))++List.replicate (N.length-ts.length) none)[i]? = some (some sl)->∃t,ts[i]? = some t/\sl=.sh t:=fun i sl e=>by
  by_cases h:i<ts.length
  ·rw [List.getElem?_append_left (by simpa using h),List.getElem?_map,List.getElem?_eq_getElem h] at e
   simp at e
   exact⟨ts[i],List.getElem?_eq_getElem h,e.symm⟩
  ·rw [List.getElem?_append_right (by simp;omega),List.getElem?_replicate] at e
   split at e<;>cases e
 refine⟨bf.refl s,by simp [L2.start,hl],fun i sl e=>?_,fun i j us ws p _ e1 _ _=>?_⟩
 ·obtain⟨t,e1,rfl⟩:=key i sl e
  obtain⟨v,g1,g2⟩:=r.get e1
  refine⟨v,?_,g2⟩
  have hi:i<vs.length:=(List.getElem?_eq_some_iff.mp g1).1
  unfold L2.start
  rw [List.getElem?_append_left (by simpa using hi),List.getElem?_map,g1]
  rfl
 ·obtain⟨t,_,e⟩:=key i _ e1
  cases e
section
variable {P:Program}{w:World}{K:PySem.W.Frag}{mg:Str->Option Value}{base:Heap}
theorem cg {x qual:Str}{st:Stmt}{f:Addr}{fd:FuncData}{N ps:List Str}{k:Nat}{fb:FS}(F:fW K x qual st f fd)(S:aV N ps (aw st))(hb:Binds K fd ps [])(hm:mg x=some (.ref f))
  (h:∀(cdv:Value) (A:Around) (outer:List Env) (s:Shared) (H:Hp) (E:XK),eK k (A.deeper (envOfC qual (aw st) s.heap.objs.size f cdv))->ug (nA tZ P w K mg base N qual (aw st) f cdv A outer s H E).nox (dy st) fb):
  Def P w K mg base (k+1) x ps.length (dH N.length ps.length fb):=by
 refine⟨f,fd,ps,F.ok S (fun vs H Q E z=>z.1) (fun cdv A outer s H vs Q E hr z=>?_),hb,F.kp,hm,rfl⟩
 obtain⟨hl,F1,ts,t,sm,r,e,q⟩:=z
 unfold dH at e
 split at e
 ·next hn =>
  obtain⟨r',e1,e⟩:=bind_some e
  refine⟨_,h cdv A outer s H E hr F1 H,F1,_,r',?_,e1,?_⟩
  ·have:=kJ (N:=N) sm r
   rw [hn] at this
   exact this
  ·cases r' with
   |rt u=>cases e;exact fun F' H' v g r'=>q F' H' v g r'
   |nx τ=>cases e;exact fun F' H' σ' E' s'=>q F' H' .non E'.g rfl
   |bk τ=>cases e
   |ct τ=>cases e
 ·cases e
end
def B:Nat:=2^4000
theorem IC {n:Nat}(h:n<B):n.log2<4000:=by
 rcases Nat.eq_zero_or_pos n with h0 | hp
 ·rw [h0];decide
 ·exact (Nat.log2_lt (Nat.ne_of_gt hp)).mpr h
theorem DB {i:Int}(h:i.natAbs<B):Builtin.Int.intBits i≤4000:=by
 unfold Builtin.Int.intBits
 split
 ·omega
 ·have:=IC h
  omega
theorem Mu {i j:Int}(hi:i.natAbs<B)(hj:j.natAbs<B):IntMulOk i j:=by
 have h1:=DB hi
 have h2:=DB hj
 unfold IntMulOk
 have h3:Builtin.Int.intTooBig (Builtin.Int.intBits i+Builtin.Int.intBits j)=false:=by
  unfold Builtin.Int.intTooBig
  have hb:((bitsLine:Nat):Int)=134217728:=by decide
  rw [decide_eq_false]
  show ¬ ((Builtin.Int.intBits i:Int)+(Builtin.Int.intBits j:Int)>((bitsLine:Nat):Int))
  rw [hb]
  omega
 rw [h3]
 simp
section
variable {X:Cx}
def gI (C:Int->Int->Prop)[∀i j,Decidable (C i j)](g:Int->Int->T):T->T->Option T:=fun a b=>match a,b with
 | .int i,.int j=>if C i j then some (g i j) else none
 |_,_=>none
theorem J6 {C:Int->Int->Prop}[∀i j,Decidable (C i j)]{i j:Int}:gI C g (.int i) (.int j)=if C i j then some (g i j) else none:=rfl
theorem Bu {C:Int->Int->Prop}[∀i j,Decidable (C i j)]{g:Int->Int->T}(h:rM X f (rI C gv))(hg:∀K F i j,Rep K F (g i j) (gv i j)):oX X f (gI C g):=by
 intro pins s σ H x y v u Q I rx ry ⟨F,a,b,t,sm,ra,rb,e,q⟩
 unfold gI at e
 split at e
 ·cases ra
  cases rb
  split at e
  ·next hc =>
   cases e
   exact h pins s σ H _ _ v u Q I rx ry ⟨_,_,rfl,rfl,hc,q F H _ (bf.refl sm) (hg _ _ _ _)⟩
  ·cases e
 ·cases e
theorem qL {g:Int->Int->T}(h:rM X f (Jj gv))(hg:∀K F i j,Rep K F (g i j) (gv i j)):oX X f (gI (fun _ _=>True) g):=
 Bu (fun pins s σ H x y v u Q I rx ry ⟨i,j,e1,e2,_,q⟩=>h pins s σ H x y v u Q I rx ry ⟨i,j,e1,e2,q⟩) hg
def NG (g g':T->T->Option T):T->T->Option T:=fun a b=>match g a b with
 |some t=>some t
 |none=>g' a b
theorem oX.or (h:oX X f g)(h':oX X f g'):oX X f (NG g g'):=by
 intro pins s σ H x y v u Q I rx ry ⟨F,a,b,t,sm,ra,rb,e,q⟩
 unfold NG at e
 split at e
 ·next t' e'=>cases e;exact h pins s σ H x y v u Q I rx ry ⟨F,a,b,_,sm,ra,rb,e',q⟩
 ·exact h' pins s σ H x y v u Q I rx ry ⟨F,a,b,t,sm,ra,rb,e,q⟩
def Aq (i j:Int):Prop:=i.natAbs<B/\j.natAbs<B
instance (i j:Int):Decidable (Aq i j):=inferInstanceAs (Decidable (_/\_))
def Ap (i j:Int):Prop:=j≠0/\j.natAbs<B
instance (i j:Int):Decidable (Ap i j):=inferInstanceAs (Decidable (_/\_))
def M1 (i j:Int):Prop:=j≠0
instance (i j:Int):Decidable (M1 i j):=inferInstanceAs (Decidable (_≠_))
instance (i j:Int):Decidable (Nn i j):=inferInstanceAs (Decidable (_/\_/\_))
abbrev iy:=gI (fun _ _=>True) fun i j=>.int (i-j)
abbrev bI:=gI Aq fun i j=>.int (i*j)
abbrev dC:=gI Ap fun i j=>.int (i.fdiv j)
abbrev bU:=gI M1 fun i j=>.int (i.fmod j)
abbrev ym:=gI (fun _ _=>True) fun i j=>.bl (decide (i<j))
abbrev Me:=gI (fun _ _=>True) fun i j=>.bl (decide (i≤j))
abbrev Gh:=gI (fun _ _=>True) fun i j=>.bl (decide (j<i))
theorem lR:oX X (binaryOp .Sub) iy:=qL KC fun _ _ _ _=>rfl
theorem bW:oX X (binaryOp .Mult) bI:=Bu (C:=Aq) (gv:=fun i j=>.int (i*j)) (NM fun _ _ _ _ _ _ _ hc q=>mul_int q (Mu hc.1 hc.2)) fun _ _ _ _=>rfl
theorem eH:oX X (binaryOp .FloorDiv) dC:=Bu (C:=Ap) (gv:=fun i j=>.int (i.fdiv j)) (NM fun _ _ _ _ _ _ _ hc q=>floordiv_int hc.1 q (.inl (PyProof.noPylong_of_log2 (Nat.lt_trans (IC hc.2) (by decide:4000<9000))))) fun _ _ _ _=>rfl
theorem cH:oX X (binaryOp .Mod) bU:=Bu (C:=M1) (gv:=fun i j=>.int (i.fmod j)) HC fun _ _ _ _=>rfl
theorem qM:oX X (compareOp .Lt) ym:=qL Mz fun _ _ _ _=>rfl
theorem MA:oX X (compareOp .LtE) Me:=qL Mx fun _ _ _ _=>rfl
theorem Bv:oX X (compareOp .Gt) Gh:=qL Mw fun _ _ _ _=>rfl
def qq:T->T->Option T
 | .str x,.str y=>if x.length+y.length≤sizeLine then some (.str (x++y)) else none
 | .lst xs,.lst ys=>if xs.length+ys.length≤sizeLine then some (.lst (xs++ys)) else none
 | .tup (x::xs),.tup (y::ys)=>if (x::xs).length+(y::ys).length≤sizeLine then some (.tup (x::xs++y::ys)) else none
 |_,_=>none
theorem HE:oX X (binaryOp .Add) qq:=by
 intro pins s σ H x y v u Q I rx ry ⟨F,a,b,t,sm,ra,rb,e,q⟩
 unfold qq at e
 split at e
 ·split at e
  ·next hl =>
   cases e;cases ra;cases rb
   exact zJ pins s σ H _ _ v u Q I rx ry ⟨_,_,rfl,rfl,hl,q F H _ (bf.refl sm) rfl⟩
  ·cases e
 ·split at e
  ·next hl =>
   cases e
   obtain⟨p1,x1,rfl,h1,h2⟩:=ra
   obtain⟨p2,x2,rfl,h3,h4⟩:=rb
   refine Kx pins s σ H _ _ v u Q I rx ry ⟨p1,p2,x1,x2,rfl,rfl,sm _ _ h1,sm _ _ h3,by rw [h2.length,h4.length];exact hl,fun p hp=>?_⟩
   have gr:=bf.new (.lst (x1++x2)) sm hp
   exact q _ _ _ gr ⟨p,_,rfl,aJ,aW.mono gr.sF (h2.append h4)⟩
  ·cases e
 ·split at e
  ·next hl =>
   cases e
   obtain⟨p1,x1,rfl,h1,h2⟩:=ra
   obtain⟨p2,x2,rfl,h3,h4⟩:=rb
   refine HB pins s σ H _ _ v u Q I rx ry ⟨p1,p2,x1,x2,rfl,rfl,cm sm h1,cm sm h3,fun z=>?_,by rw [h2.length,h4.length];exact hl,fun z=>?_,fun _ p hp=>?_⟩
   ·subst z;have:=h2.length;simp at this
   ·subst z;have:=h4.length;simp at this
   ·have gr:=bf.new (.tup (x1++x2)) sm hp
    exact q _ _ _ gr ⟨p,_,rfl,ly.of aJ,aW.mono gr.sF (h2.append h4)⟩
  ·cases e
 ·cases e
def cV:T->T->Option T:=NG (gI (fun _ _=>True) fun i j=>.int (i+j)) qq
theorem eY:oX X (binaryOp .Add) cV:=oX.or (qL Kw fun _ _ _ _=>rfl) HE
theorem qr {i j:Int}:cV (.int i) (.int j)=some (.int (i+j)):=rfl
theorem wN {xs ys:List T}(h:xs.length+ys.length≤sizeLine):cV (.lst xs) (.lst ys)=some (.lst (xs++ys)):=by
 show qq (.lst xs) (.lst ys)=_
 simp only [qq,if_pos h]
theorem Ef {x y:T}{xs ys:List T}(h:(x::xs).length+(y::ys).length≤sizeLine):cV (.tup (x::xs)) (.tup (y::ys))=some (.tup (x::xs++y::ys)):=by
 show qq (.tup (x::xs)) (.tup (y::ys))=_
 simp only [qq,if_pos h]
def qt:T->Option T
 | .int i=>some (.int (-i))
 |_=>none
theorem Ai:Oi X (unaryOp .USub) qt:=by
 intro pins s σ H x v Q I rx ⟨F,a,t,sm,ra,e,q⟩
 unfold qt at e
 split at e
 ·cases e;cases ra
  exact Lo pins s σ H _ v Q I rx ⟨_,rfl,q F H _ (bf.refl sm) rfl⟩
 ·cases e
mutual
def Dd:T->Option PyData
 | .non=>some .none
 | .bl b=>some (.bool b)
 | .int i=>some (.int i)
 | .str x=>some (.str x)
 | .tup ts=>(og ts).map .tuple
 | .lst ts=>(og ts).map .list
 | .scr ts=>(og ts).map .list
 | .ty _=>none
 | .dic=>none
 | .obj _ _ _=>none
 | .ptr _=>none
 | .exc _ _ _=>none
def og:List T->Option (List PyData)
 |[]=>some []
 |t::ts=>(Dd t).bind fun d=>(og ts).bind fun ds=>some (d::ds)
end
mutual
theorem km (I:Inv X pins σ H s)(sm:aQ F H):∀{t:T} {d:PyData} {v:V} {u:Value},Dd t=some d->Rep X.K F t v->RelV v u->∃as,Reads s.heap u d as
 | .non,d,v,u,e,r,ru=>by cases r;cases e;cases ru;exact⟨_,.none⟩
 | .bl b,d,v,u,e,r,ru=>by cases r;cases e;cases ru;exact⟨_,.bool _⟩
 | .int i,d,v,u,e,r,ru=>by cases r;cases e;obtain⟨t,rfl⟩:=ru;exact⟨_,.int _ _⟩
 | .str x,d,v,u,e,r,ru=>by cases r;cases e;obtain⟨t,rfl⟩:=ru;exact⟨_,.str _ _⟩
 | .ty _,d,v,u,e,r,ru=>by cases e
 | .dic,d,v,u,e,r,ru=>by cases e
 | .obj _ _ _,d,v,u,e,r,ru=>by cases e
 | .ptr _,d,v,u,e,r,ru=>by cases e
 | .exc _ _ _,d,v,u,e,r,ru=>by cases e
 | .tup ts,d,v,u,e,r,ru=>by
  obtain⟨p,xs,rfl,h1,h2⟩:=r
  cases ru
  simp only [Dd] at e
  cases e1:og ts with
  |none=>rw [e1] at e;cases e
  |some ds =>
   rw [e1] at e;cases e
   obtain⟨its,rv,⟨o,g1,g2,n,g3⟩,_⟩:=I.tuple (cm sm h1)
   obtain⟨as,q⟩:=ip I sm e1 h2 rv
   exact⟨_,.tuple g1 g2 g3 q⟩
 | .lst ts,d,v,u,e,r,ru=>by
  obtain⟨p,xs,rfl,h1,h2⟩:=r
  cases ru
  simp only [Dd] at e
  cases e1:og ts with
  |none=>rw [e1] at e;cases e
  |some ds =>
   rw [e1] at e;cases e
   obtain⟨its,rv,⟨o,n,g1,g2,_,g3⟩,_⟩:=I.list (dO.of (sm _ _ h1))
   obtain⟨as,q⟩:=ip I sm e1 h2 rv
   exact⟨_,.list g1 g2 g3 q⟩
 | .scr ts,d,v,u,e,r,ru=>by
  obtain⟨p,xs,rfl,h1,h2⟩:=r
  cases ru
  simp only [Dd] at e
  cases e1:og ts with
  |none=>rw [e1] at e;cases e
  |some ds =>
   rw [e1] at e;cases e
   obtain⟨its,rv,⟨o,n,g1,g2,_,g3⟩,_⟩:=I.list (sm.seq h1)
   obtain⟨as,q⟩:=ip I sm e1 h2 rv
   exact⟨_,.list g1 g2 g3 q⟩
theorem ip (I:Inv X pins σ H s)(sm:aQ F H):∀{ts:List T} {ds:List PyData} {vs:List V} {us:List Value},og ts=some ds->aW X.K F ts vs->Vals vs us->∃as,ReadsAll s.heap us ds as
 |[],ds,vs,us,e,r,ru=>by cases r;cases ru;cases e;exact⟨_,.nil⟩
 |t::ts,ds,vs,us,e,r,ru=>by
  obtain⟨v,rr,rfl,h1,h2⟩:=r
  cases ru with
  |cons r1 r2 =>
   simp only [og] at e
   obtain⟨d,e1,e⟩:=bind_some e
   obtain⟨ds',e2,e⟩:=bind_some e
   cases e
   obtain⟨as,q1⟩:=km I sm e1 h1 r1
   obtain⟨bs,q2⟩:=ip I sm e2 h2 r2
   exact⟨_,.cons q1 q2⟩
end
def Cw (neg:Bool)(a b:T):Option T:=(Dd a).bind fun p=>(Dd b).bind fun q=>if SeqAt.shaped p=true/\SeqAt.shaped q=true then some (.bl (if neg then !PyData.eqv p q else PyData.eqv p q)) else none
abbrev gJ:=Cw false
abbrev lb:=Cw true
theorem jM (hu:X.A.units+64<cLine):oX X (compareOp .Eq) gJ:=by
 intro pins s σ H x y v u Q I rx ry ⟨F,a,b,t,sm,ra,rb,e,q⟩
 obtain⟨d1,e1,e⟩:=bind_some e
 obtain⟨d2,e2,e⟩:=bind_some e
 split at e
 ·next hs =>
  cases e
  obtain⟨as,q1⟩:=km I sm e1 ra rx
  obtain⟨bs,q2⟩:=km I sm e2 rb ry
  exact SeqAt.compareEq_shaped q1 q2 hs.1 hs.2 hu ⟨.bl _,H,I,rfl,q F H _ (bf.refl sm) rfl⟩
 ·cases e
theorem oH (hu:X.A.units+64<cLine):oX X (compareOp .NotEq) lb:=by
 intro pins s σ H x y v u Q I rx ry ⟨F,a,b,t,sm,ra,rb,e,q⟩
 obtain⟨d1,e1,e⟩:=bind_some e
 obtain⟨d2,e2,e⟩:=bind_some e
 split at e
 ·next hs =>
  cases e
  obtain⟨as,q1⟩:=km I sm e1 ra rx
  obtain⟨bs,q2⟩:=km I sm e2 rb ry
  exact SeqAt.compareNe_shaped q1 q2 hs.1 hs.2 hu ⟨.bl _,H,I,rfl,q F H _ (bf.refl sm) rfl⟩
 ·cases e
def oB:T->Bool
 | .non=>true
 |_=>false
def wO:T->T->Option T
 |a,.non=>some (.bl (oB a))
 | .bl c,.bl d=>some (.bl (c == d))
 |_,_=>none
theorem tj {K:PySem.W.Frag}{F:Hp}{t:T}{v:V}(r:Rep K F t v):decide (v=.non)=oB t:=by
 cases t with
 |non=>cases r;rfl
 |bl _=>cases r;rfl
 |int _=>cases r;rfl
 |str _=>cases r;rfl
 |ty _=>cases r;rfl
 |tup _=>obtain⟨p,xs,rfl,_⟩:=r;rfl
 |lst _=>obtain⟨p,xs,rfl,_⟩:=r;rfl
 |scr _=>obtain⟨p,xs,rfl,_⟩:=r;rfl
 |dic=>obtain⟨p,rfl,_⟩:=r;rfl
 |obj _ _ _=>obtain⟨p,_,_,rfl,_⟩:=r;rfl
 |ptr _=>rw [show v=_ from r];rfl
 |exc _ _ _=>obtain⟨p,_,rfl,_⟩:=r;rfl
theorem Bx:oX X (compareOp .Is) wO:=by
 intro pins s σ H x y v u Q I rx ry ⟨F,a,b,t,sm,ra,rb,e,q⟩
 unfold wO at e
 split at e
 ·cases e;cases rb
  exact Ky pins s σ H _ _ v u Q I rx ry ⟨rfl,by rw [tj ra];exact q F H _ (bf.refl sm) rfl⟩
 ·cases e;cases ra;cases rb;cases rx;cases ry
  exact is_bool ⟨.bl _,H,I,rfl,q F H _ (bf.refl sm) rfl⟩
 ·cases e
def cK:T->T->Option T
 | .lst ts,.int i=>oZ ts i
 | .scr ts,.int i=>oZ ts i
 | .tup ts,.int i=>oZ ts i
 | .str x,.int i=>if x.length≤sizeLine then (oZ x.cps.toList i).map fun c=>.str ⟨#[c]⟩ else none
 |_,_=>none
theorem ma {K:PySem.W.Frag}{F:Hp}{ts:List T}{vs:List V}{i:Int}{t:T}(r:aW K F ts vs)(e:oZ ts i=some t):∃v,oZ vs i=some v/\Rep K F t v:=by
 unfold oZ at e ⊢
 rw [r.length]
 obtain⟨j,e1,e2⟩:=bind_some e
 obtain⟨v,g1,g2⟩:=r.get e2
 exact⟨v,by rw [e1];exact g1,g2⟩
theorem dq:Lv X (Nc X.K cK):=by
 intro value slice pins s σ H x y v u Q I rx ry ⟨F,a,b,t,sm,ra,rb,e,q⟩ hs
 unfold cK at e
 split at e
 ·obtain⟨p,xs,rfl,h1,h2⟩:=ra
  cases rb
  obtain⟨w,g1,g2⟩:=ma h2 e
  exact pz value slice pins s σ H _ _ v u Q I rx ry ⟨p,xs,_,w,rfl,rfl,dO.of (sm _ _ h1),g1,q F H _ (bf.refl sm) g2⟩ hs
 ·obtain⟨p,xs,rfl,h1,h2⟩:=ra
  cases rb
  obtain⟨w,g1,g2⟩:=ma h2 e
  exact pz value slice pins s σ H _ _ v u Q I rx ry ⟨p,xs,_,w,rfl,rfl,sm.seq h1,g1,q F H _ (bf.refl sm) g2⟩ hs
 ·obtain⟨p,xs,rfl,h1,h2⟩:=ra
  cases rb
  obtain⟨w,g1,g2⟩:=ma h2 e
  exact Kh value slice pins s σ H _ _ v u Q I rx ry ⟨p,xs,_,w,rfl,rfl,cm sm h1,g1,q F H _ (bf.refl sm) g2⟩ hs
 ·split at e
  ·next hl =>
   cases ra;cases rb
   cases e1:oZ (Str.cps _).toList _ with
   |none=>rw [e1] at e;cases e
   |some c =>
    rw [e1] at e;cases e
    exact Kg value slice pins s σ H _ _ v u Q I rx ry ⟨_,_,c,rfl,rfl,hl,e1,q F H _ (bf.refl sm) rfl⟩ hs
  ·cases e
 ·cases e
theorem gQ (h:fJ X f r)(i:∀vs H Q,Nd X.K g vs H Q->r vs H Q):iK X f g:=fun pins s σ H xs us Q I rx q=>h pins s σ H xs us Q I rx (i _ _ _ q)
def bG:List T->Option T
 |[.lst ts]=>some (.int ts.length)
 |[.scr ts]=>some (.int ts.length)
 |[.tup ts]=>some (.int ts.length)
 |[.str x]=>if x.length≤sizeLine then some (.int x.length) else none
 |_=>none
theorem cZ:iK X (.builtin "len") bG:=gQ (fJ.or ur uu) fun vs H Q hq__=>by
 obtain⟨F,ts,t,sm,r,e,q⟩:=hq__
 unfold bG at e
 split at e
 ·obtain⟨v,rr,rfl,⟨p,xs,rfl,h1,h2⟩,rfl⟩:=r
  cases e
  exact .inl ⟨p,xs,rfl,.inl (dO.of (sm _ _ h1)),by rw [h2.length];exact q F H _ (bf.refl sm) rfl⟩
 ·obtain⟨v,rr,rfl,⟨p,xs,rfl,h1,h2⟩,rfl⟩:=r
  cases e
  exact .inl ⟨p,xs,rfl,.inl (sm.seq h1),by rw [h2.length];exact q F H _ (bf.refl sm) rfl⟩
 ·obtain⟨v,rr,rfl,⟨p,xs,rfl,h1,h2⟩,rfl⟩:=r
  cases e
  exact .inl ⟨p,xs,rfl,.inr (cm sm h1),by rw [h2.length];exact q F H _ (bf.refl sm) rfl⟩
 ·split at e
  ·next hl =>
   obtain⟨v,rr,rfl,h1,rfl⟩:=r
   cases h1;cases e
   exact .inr ⟨_,rfl,hl,q F H _ (bf.refl sm) rfl⟩
  ·cases e
 ·cases e
def wC:List T->Option T
 |[.int i]=>some (.int (if i<0 then -i else i))
 |_=>none
theorem ux:iK X (.builtin "abs") wC:=gQ DG fun vs H Q hq__=>by
 obtain⟨F,ts,t,sm,r,e,q⟩:=hq__
 unfold wC at e
 split at e
 ·obtain⟨v,rr,rfl,h1,rfl⟩:=r
  cases h1;cases e
  exact⟨_,rfl,q F H _ (bf.refl sm) rfl⟩
 ·cases e
def yL:List T->Option T
 |[.int i,.int j]=>some (.int (if j>i then j else i))
 |_=>none
def wD:List T->Option T
 |[.int i,.int j]=>some (.int (if j<i then j else i))
 |_=>none
theorem JL (hc:X.calm=true):iK X (.builtin "max") yL:=gQ (Ci hc) fun vs H Q hq__=>by
 obtain⟨F,ts,t,sm,r,e,q⟩:=hq__
 unfold yL at e
 split at e
 ·obtain⟨v,rr,rfl,h1,v2,r2,rfl,h2,rfl⟩:=r
  cases h1;cases h2;cases e
  exact⟨_,_,rfl,q F H _ (bf.refl sm) rfl⟩
 ·cases e
theorem JM (hc:X.calm=true):iK X (.builtin "min") wD:=gQ (Cj hc) fun vs H Q hq__=>by
 obtain⟨F,ts,t,sm,r,e,q⟩:=hq__
 unfold wD at e
 split at e
 ·obtain⟨v,rr,rfl,h1,v2,r2,rfl,h2,rfl⟩:=r
  cases h1;cases h2;cases e
  exact⟨_,_,rfl,q F H _ (bf.refl sm) rfl⟩
 ·cases e
def GQ:List T->Option T
 |[.int i]=>some (.int i)
 |[.bl c]=>some (.int (if c then 1 else 0))
 |_=>none
theorem JK:iK X (.type "int") GQ:=gQ Cf fun vs H Q hq__=>by
 obtain⟨F,ts,t,sm,r,e,q⟩:=hq__
 unfold GQ at e
 split at e
 ·obtain⟨v,rr,rfl,h1,rfl⟩:=r
  cases h1;cases e
  exact .inl ⟨_,rfl,q F H _ (bf.refl sm) rfl⟩
 ·obtain⟨v,rr,rfl,h1,rfl⟩:=r
  cases h1;cases e
  exact .inr ⟨_,rfl,q F H _ (bf.refl sm) rfl⟩
 ·cases e
def dList:List T->Option T
 |[.lst ts]=>some (.lst ts)
 |[.scr ts]=>some (.lst ts)
 |[.tup ts]=>some (.lst ts)
 |_=>none
theorem AL:iK X (.type "list") dList:=gQ mf fun vs H Q hq__=>by
 obtain⟨F,ts,t,sm,r,e,q⟩:=hq__
 unfold dList at e
 split at e
 ·obtain⟨v,rr,rfl,⟨p,xs,rfl,h1,h2⟩,rfl⟩:=r
  cases e
  refine⟨p,xs,rfl,.inl (dO.of (sm _ _ h1)),fun l hl=>?_⟩
  have gr:=bf.new (.lst xs) sm hl
  exact q _ _ _ gr ⟨l,xs,rfl,aJ,aW.mono gr.sF h2⟩
 ·obtain⟨v,rr,rfl,⟨p,xs,rfl,h1,h2⟩,rfl⟩:=r
  cases e
  refine⟨p,xs,rfl,.inl (sm.seq h1),fun l hl=>?_⟩
  have gr:=bf.new (.lst xs) sm hl
  exact q _ _ _ gr ⟨l,xs,rfl,aJ,aW.mono gr.sF h2⟩
 ·obtain⟨v,rr,rfl,⟨p,xs,rfl,h1,h2⟩,rfl⟩:=r
  cases e
  refine⟨p,xs,rfl,.inr (cm sm h1),fun l hl=>?_⟩
  have gr:=bf.new (.lst xs) sm hl
  exact q _ _ _ gr ⟨l,xs,rfl,aJ,aW.mono gr.sF h2⟩
 ·cases e
def LI:T->Option String
 | .non=>some "NoneType"
 | .bl _=>some "bool"
 | .int _=>some "int"
 | .str _=>some "str"
 | .tup _=>some "tuple"
 | .lst _=>some "list"
 | .scr _=>some "list"
 | .dic=>some "dict"
 | .obj _ _ _=>none
 | .ptr _=>none
 | .exc _ _ _=>none
 | .ty _=>none
def kinds:List String:=["int","bool","str","list","tuple","dict"]
def Nb (a c:String):Option Bool:=if c∈kinds then some (a == c||(a == "bool"&&c == "int")) else none
def Kf (a:String):List T->Option Bool
 |[]=>some false
 | .ty c::r=>(Nb a c).bind fun b=>if b=true then some true else Kf a r
 |_::_=>none
theorem Ey {K:PySem.W.Frag}{t:T}{a c:String}{b:Bool}(ha:LI t=some a)(h:Nb a c=some b):PySem.W.kitOne K (.type a) (.type c)=some b:=by
 have ha:a∈["NoneType","bool","int","str","tuple","list","dict"]:=by
  cases t<;>simp only [LI] at ha<;>cases ha<;>simp
 unfold Nb at h
 split at h
 ·next hc =>
  cases h
  simp only [kinds,List.mem_cons,List.not_mem_nil,or_false] at hc ha
  rcases ha with rfl | rfl | rfl | rfl | rfl | rfl | rfl<;>rcases hc with rfl | rfl | rfl | rfl | rfl | rfl<;>rfl
 ·cases h
theorem Bm {K:PySem.W.Frag}{F:Hp}{t:T}{a:String}(ha:LI t=some a):∀{cs:List T} {vs:List V} {us:List Value} {b:Bool},Kf a cs=some b->aW K F cs vs->Vals vs us->PySem.W.kitAny K (.type a) us=some b
 |[],vs,us,b,h,r,ru=>by cases r;cases ru;cases h;rfl
 | .ty c::cs,vs,us,b,h,r,ru=>by
  obtain⟨v,rr,rfl,h1,h2⟩:=r
  cases h1
  cases ru with
  |cons r1 r2 =>
   cases r1
   obtain⟨b',e1,h⟩:=bind_some h
   unfold PySem.W.kitAny
   rw [Ey ha e1]
   cases b' with
   |true=>rw [if_pos rfl] at h;exact h
   |false=>rw [if_neg (by decide)] at h;exact Bm ha h h2 r2
 | .non::cs,vs,us,b,h,r,ru=>by cases h
 | .bl _::cs,vs,us,b,h,r,ru=>by cases h
 | .int _::cs,vs,us,b,h,r,ru=>by cases h
 | .str _::cs,vs,us,b,h,r,ru=>by cases h
 | .tup _::cs,vs,us,b,h,r,ru=>by cases h
 | .lst _::cs,vs,us,b,h,r,ru=>by cases h
 | .scr _::cs,vs,us,b,h,r,ru=>by cases h
 | .dic::cs,vs,us,b,h,r,ru=>by cases h
 | .obj _ _ _::cs,vs,us,b,h,r,ru=>by cases h
 | .ptr _::cs,vs,us,b,h,r,ru=>by cases h
 | .exc _ _ _::cs,vs,us,b,h,r,ru=>by cases h
theorem xm (I:Inv X pins σ H s)(sm:aQ F H)(r:Rep X.K F t v)(ru:RelV v u)(ha:LI t=some a):
  ∃Hh:Heap->Prop,PySem.W.KitX X.K u (.type a) Hh/\Hh s.heap/\u≠.builtin "__main__.__loader__#opaque" := by
 cases t with
 |non=>cases r;cases ru;cases ha;exact⟨_,PySem.W.kitx_none,True.intro,fun z=>nomatch z⟩
 |bl _=>cases r;cases ru;cases ha;exact⟨_,PySem.W.kitx_bool,True.intro,fun z=>nomatch z⟩
 |int _=>cases r;obtain⟨t,rfl⟩:=ru;cases ha;exact⟨_,PySem.W.kitx_int,True.intro,fun z=>nomatch z⟩
 |str _=>cases r;obtain⟨t,rfl⟩:=ru;cases ha;exact⟨_,PySem.W.kitx_str,True.intro,fun z=>nomatch z⟩
 |ty _=>cases ha
 |tup _ =>
  obtain⟨p,xs,rfl,h1,h2⟩:=r
  cases ru;cases ha
  obtain⟨its,rv,⟨o,g1,g2,n,g3⟩,_⟩:=I.tuple (cm sm h1)
  exact⟨_,PySem.W.kitx_tuple,⟨o,g1,g2⟩,fun z=>nomatch z⟩
 |lst _ =>
  obtain⟨p,xs,rfl,h1,h2⟩:=r
  cases ru;cases ha
  obtain⟨its,rv,⟨o,n,g1,g2,_,g3⟩,_⟩:=I.list (dO.of (sm _ _ h1))
  exact⟨_,PySem.W.kitx_list,⟨o,g1,g2⟩,fun z=>nomatch z⟩
 |scr _ =>
  obtain⟨p,xs,rfl,h1,h2⟩:=r
  cases ru;cases ha
  obtain⟨its,rv,⟨o,n,g1,g2,_,g3⟩,_⟩:=I.list (sm.seq h1)
  exact⟨_,PySem.W.kitx_list,⟨o,g1,g2⟩,fun z=>nomatch z⟩
 |dic =>
  obtain⟨p,rfl,h1⟩:=r
  cases ru;cases ha
  obtain⟨_,_,vs,_,o,es,ep,h1,h2,_⟩:=(show dN X.prog X.w H s.heap p (.dK []) from I.hok p _ (sm _ _ h1))
  exact⟨_,PySem.W.kitx_dict,⟨o,h1,h2.1⟩,fun z=>nomatch z⟩
 |obj _ _ _=>cases ha
 |ptr _=>cases ha
 |exc _ _ _=>cases ha
def bQ:List T->Option T
 |[t,.ty c]=>(LI t).bind fun a=>(Nb a c).bind fun b=>some (.bl b)
 |[t,.tup cs]=>(LI t).bind fun a=>(Kf a cs).bind fun b=>some (.bl b)
 |_=>none
theorem yJ:iK X (.builtin "isinstance") bQ:=by
 intro pins s σ H xs us Q I rx ⟨F,ts,t,sm,r,e,q⟩
 unfold bQ at e
 split at e
 ·obtain⟨a,e1,e⟩:=bind_some e
  obtain⟨b,e2,e⟩:=bind_some e
  cases e
  obtain⟨v,rr,rfl,h1,v2,r2,rfl,h2,rfl⟩:=r
  cases h2
  obtain⟨u1,u2,rfl,ra,rb⟩:=Vals.two rx
  cases rb
  obtain⟨Hh,Z,hh,hn⟩:=xm I sm h1 ra e1
  exact PySem.W.kia_one Z I.kIn hh (Ey e1 e2) hn fun tk=>⟨.bl b,H,I.tok tk,rfl,q F H _ (bf.refl sm) rfl⟩
 ·obtain⟨a,e1,e⟩:=bind_some e
  obtain⟨b,e2,e⟩:=bind_some e
  cases e
  obtain⟨v,rr,rfl,h1,v2,r2,rfl,⟨p,xs,rfl,h3,h4⟩,rfl⟩:=r
  obtain⟨u1,u2,rfl,ra,rb⟩:=Vals.two rx
  cases rb
  obtain⟨Hh,Z,hh,hn⟩:=xm I sm h1 ra e1
  obtain⟨its,rv,⟨o,g1,g2,n,g3⟩,_⟩:=I.tuple (cm sm h3)
  obtain⟨oc,od,odt,osl⟩:=o
  dsimp only at g2 g3
  subst g2 g3
  exact PySem.W.kia_tup Z I.kIn hh g1 (Bm e1 e2 h4 rv) hn fun tk=>⟨.bl b,H,I.tok tk,rfl,q F H _ (bf.refl sm) rfl⟩
 ·cases e
end
section
variable {X:Cx}{pos:Pos}
def NA:FE:=fun τ=>some (.dic,τ)
abbrev FO:=aK->Option (Option Int×aK)
def tO (K:PySem.W.Frag)(Y0 Y9:Hp)(f:FO):TO:=fun σ H Q=>∃F τ o τ',aF K Y0 Y9 F H σ τ/\f τ=some (o,τ')/\∀F' H',aF K Y0 Y9 F' H' σ τ'->aQ F F'->Q o H'
def SO (X:Cx)(e:Option Expr)(f:FO):Prop:=∀Y0 Y9,PO X e (tO X.K Y0 Y9 f)
def ij:FO:=fun τ=>some (none,τ)
def fL (f:FE):FO:=fun τ=>(f τ).bind fun p=>match p.1 with | .int i=>some (some i,p.2) | _=>none
theorem PO.weak {t t':TO}(h:PO X e t)(i:∀σ H Q,t' σ H Q->t σ H Q):PO X e t':=fun pins s σ H Q I q=>h pins s σ H Q I (i σ H Q q)
theorem BP:SO X none ij:=fun Y0 Y9=>PO.weak HI fun σ H Q hq__=>by
 obtain⟨F,τ,t,τ',E,e1,q⟩:=hq__
 cases e1
 exact q F H E (aQ.refl _)
theorem pH (h:SE X e f):SO X (some e) (fL f):=fun Y0 Y9=>PO.weak (HJ (h Y0 Y9)) fun σ H Q hq__=>by
 obtain⟨F,τ,t,τ',E,e1,q⟩:=hq__
 obtain⟨⟨x,τ1⟩,e2,e1⟩:=bind_some e1
 dsimp only at e1
 split at e1
 ·cases e1
  exact⟨F,τ,_,_,E,e2,fun F' H' v E' s' r'=>by cases r';exact⟨_,rfl,q F' H' E' s'⟩⟩
 ·cases e1
def nz (xs:List T)(lo hi:Option Int):List T:=(xs.drop (HT.fz xs.length 0 lo)).take (HT.fz xs.length xs.length hi-HT.fz xs.length 0 lo)
def Mg (t:T)(lo hi:Option Int):Option T:=match t with
 | .lst xs=>some (.lst (nz xs lo hi))
 | .scr xs=>some (.lst (nz xs lo hi))
 | .tup xs=>if HT.fz xs.length 0 lo=0/\HT.fz xs.length xs.length hi=xs.length then none else some (.tup (nz xs lo hi))
 |_=>none
theorem pd {K:PySem.W.Frag}{F:Hp}{ts:List T}{vs:List V}(r:aW K F ts vs)(lo hi:Option Int):aW K F (nz ts lo hi) (p9 vs lo hi):=by
 unfold nz p9
 rw [r.length]
 exact (r.drop _).take _
def Hb (f:FE)(fl fh:FO):FE:=fun τ=>(f τ).bind fun p=>(fl p.2).bind fun q=>(fh q.2).bind fun r=>(Mg p.1 q.1 r.1).bind fun t=>some (t,r.2)
theorem xW {e:Expr}{lo hi:Option Expr}{f:FE}{fl fh:FO}{p2:Pos}(he:SE X e f)(hl:SO X lo fl)(hh:SO X hi fh):SE X (.Subscript e (.Slice lo hi none p2) pos) (Hb f fl fh):=
 fun Y0 Y9=>PE.weak (xJ (IJ.or BJ K9) (he Y0 Y9) (hl Y0 Y9) (hh Y0 Y9)) fun σ H Q hq__=>by
  obtain⟨F,τ,t,τ',E,e1,q⟩:=hq__
  obtain⟨⟨x,τ1⟩,e2,e1⟩:=bind_some e1
  obtain⟨⟨l,τ2⟩,e3,e1⟩:=bind_some e1
  obtain⟨⟨h,τ3⟩,e4,e1⟩:=bind_some e1
  obtain⟨y,e5,e1⟩:=bind_some e1
  cases e1
  refine⟨F,τ,x,τ1,E,e2,fun F1 H1 v E1 s1 r1=>⟨F1,τ1,l,τ2,E1,e3,fun F2 H2 E2 s2=>⟨F2,τ2,h,_,E2,e4,fun F3 H3 E3 s3=>?_⟩⟩⟩
  have r3:=Rep.mono (s2.trans s3) r1
  have sm:=E3.g.fh
  dsimp only at e5
  unfold Mg at e5
  split at e5
  ·cases e5
   obtain⟨p,xs,rfl,h1,h2⟩:=r3
   refine .inl ⟨p,xs,rfl,dO.of (sm _ _ h1),fun a ha=>?_⟩
   have gr:=bf.new (.lst (p9 xs l h)) sm ha
   exact q _ _ _ (E3.grow gr) (((s1.trans s2).trans s3).trans gr.sF) ⟨a,_,rfl,aJ,aW.mono gr.sF (pd h2 l h)⟩
  ·cases e5
   obtain⟨p,xs,rfl,h1,h2⟩:=r3
   refine .inl ⟨p,xs,rfl,sm.seq h1,fun a ha=>?_⟩
   have gr:=bf.new (.lst (p9 xs l h)) sm ha
   exact q _ _ _ (E3.grow gr) (((s1.trans s2).trans s3).trans gr.sF) ⟨a,_,rfl,aJ,aW.mono gr.sF (pd h2 l h)⟩
  ·split at e5
   ·cases e5
   ·next hn =>
    cases e5
    obtain⟨p,xs,rfl,h1,h2⟩:=r3
    refine .inr ⟨p,xs,rfl,cm sm h1,by rw [h2.length];exact hn,fun a ha=>?_⟩
    have gr:=bf.new (.tup (p9 xs l h)) sm ha
    exact q _ _ _ (E3.grow gr) (((s1.trans s2).trans s3).trans gr.sF) ⟨a,_,rfl,ly.of aJ,aW.mono gr.sF (pd h2 l h)⟩
  ·cases e5
theorem jb (i:Nat){p1 p2 p3:Pos}(hv:PE X (.Name x p1) (jS i))(he:SE X e f)
  (hbase:attributeBase (.Name x p1) "append" X.env (eval (.Name x p1) X.env)=eval (.Name x p1) X.env:=by rfl)
  (hfew:((backTo p3 (starEach [e] X.env)).all (fun x=>!x.1)&&(backToKw p3 (keywordEach [] X.env)).all (fun x=>x.1.isSome)&&decide ([e].length+([]:List Keyword).length+(if ([]:List Keyword).isEmpty then 0 else 1)<30))=true:=by rfl)
  (hline:(p2.endLine == p3.line)=true:=by rfl) (hs:starEach [e] X.env=(false,eval e X.env)::starEach [] X.env:=by rfl) (hpl:(backTo p3 (starEach [] X.env)).any (·.1)=false:=by rfl)
  (hsw:swapsWith (.Call (.Attribute (.Name x p1) "append" p2) [e] [] p3) none pos.line X.env=pure false:=by rfl):
  SS X (.Expr (.Call (.Attribute (.Name x p1) "append" p2) [e] [] p3) pos) (jO i f):=fun Y0 Y9 =>
 PS.weak (vz (Ji PySem.F.plainAttrs_list PySem.F.slot_list_append PySem.F.type_list_append nK hv (eu (he Y0 Y9) iz hs) hbase hfew hline hs hpl) hsw) fun D σ H hq__=>by
  obtain⟨F,τ,r,E,e1,q⟩:=hq__
  unfold jO at e1
  split at e1
  ·next ts0 h0 =>
   obtain⟨⟨t,τ1⟩,e2,e1⟩:=bind_some e1
   dsimp only at e1
   split at e1
   ·next ts h1 =>
    split at e1
    ·next hz =>
     cases e1
     obtain⟨v,g1,p,vs,rfl,g2,g3,g4,g5⟩:=E.sl i _ h0
     refine⟨_,g1,.inl ⟨rfl,vs,dO.of g2⟩,F,τ,t,τ1,E,e2,fun F' H' w E' s' r'=>?_⟩
     obtain⟨v',k1,p',vs',rfl,k2,k3,k4,k5⟩:=E'.sl i _ h1
     rw [g1] at k1;cases k1
     exact⟨p,vs',w,rfl,rfl,k2,by rw [k5.length];exact hz,q F' _ σ (E'.turnOwn h1 g1 (k5.append (.one r'))) s'⟩
    ·cases e1
   ·cases e1
  ·cases e1
def Lb (a b c:Int):Prop:=(0≤a/\a<2^62)/\(0≤b/\b<2^62)/\(1≤c/\c<2^29)
instance (a b c:Int):Decidable (Lb a b c):=inferInstanceAs (Decidable ((_/\_)/\(_/\_)/\_/\_))
end
def fN (b:Bool)(h:Heap)(it a:Addr)(i:Nat):Prop:=match b with
 |true=>h.IsListIter it a i
 |false=>h.IsTupleIter it a i
def jf (b:Bool)(h:Heap)(a:Addr)(xs:Array Value):Prop:=match b with
 |true=>h.IsList a xs
 |false=>h.IsTuple a xs
theorem fN.ext {b:Bool}{h h':Heap}{i:Nat}(x:fN b h it a i)(k:∀o,h.get? it=some o->h'.get? it=some o):fN b h' it a i:=by
 cases b with
 |true=>obtain⟨o,e,r⟩:=x;exact⟨o,k o e,r⟩
 |false=>obtain⟨o,e,r⟩:=x;exact⟨o,k o e,r⟩
theorem jf.ext {b:Bool}{h h':Heap}(x:jf b h a xs)(k:∀o,h.get? a=some o->h'.get? a=some o):jf b h' a xs:=by
 cases b with
 |true=>obtain⟨o,e,r⟩:=x;exact⟨o,k o e,r⟩
 |false=>obtain⟨o,e,r⟩:=x;exact⟨o,k o e,r⟩
theorem fN.obj {b:Bool}{i:Nat}(x:fN b h it a i):∃o,h.get? it=some o/\∀v,o.data≠.cell v:=by
 cases b with
 |true=>obtain⟨o,e,_,d⟩:=x;exact⟨o,e,fun v z=>by rw [d] at z;cases z⟩
 |false=>obtain⟨o,e,_,d⟩:=x;exact⟨o,e,fun v z=>by rw [d] at z;cases z⟩
section
variable {prog:Program}{w:World}{A:Around}{E:Value->Shared->Prop}{s:Shared}
theorem kj {b:Bool}{i:Nat}{Q:Value->Shared->Prop}(h1:fN b s.heap it a i)(h2:jf b s.heap a xs)(hx:xs[i]? = some x)
  (hQ:∀h',fN b h' it a (i+1)->Heap.SameBut it s.heap h'->Q x { s with heap:=h' }):wpAny (model prog w) A (Builtin.SmallTypes.nextOf (.ref it)) Q E s:=by
 cases b with
 |true=>exact wpAny_nextOf_list_item h1 h2 hx hQ
 |false =>
  have h1':s.heap.IsTupleIter it a i:=h1
  obtain⟨o,ho,hc,hd⟩:=id h1'
  obtain⟨ol,hol,_,nl,hdl⟩:=(show s.heap.IsTuple a xs from h2)
  unfold Builtin.SmallTypes.nextOf
  refine wpAny_bind (wpAny_callSpecial?_slot (name:=Str.ofString "__next__") h1'.typeIs F.slot_tuple_iterator_next (wpAny_call_entry F.slot_tuple_iterator_next h1'.typeIs F.entry_tuple_iterator_next (?_:wpAny _ _ (field (.ref it) 0 >>= _) _ _ s) (F.args_tuple_iterator_next_1 _)))
  refine wpAny_bind (wpAny_field ho hd (x:=.ref a) rfl (?_:wpAny _ _ (if (Value.ref a == Value.none)=true then _ else _) _ _ s))
  rw [if_neg (show ¬ ((Value.ref a == Value.none)=true) from Bool.false_ne_true)]
  refine (wpAny_bind (wpAny_field ho hd (x:=.int i 0) rfl ?_):wpAny _ _ (field (.ref it) 1 >>= _) _ _ s)
  refine wpAny_bind (wpAny_seqItems (a:=a) hol hdl ?_)
  simp only [Int.toNat_natCast,hx]
  refine wpAny_bind (wpAny_setField ho hd (by simp) (wpAny_pure ⟨x,rfl,wpAny_pure (hQ _ ⟨_,Heap.get?_update_self _ ho (Obj.isFreed_of_fields (Obj.data_mapFields hd _)),(Obj.cls_mapFields ..).trans hc,?_⟩ (Heap.SameBut.update ..))⟩))
  rw [Obj.data_mapFields hd]<;>simp [rawInt]
theorem qE {b:Bool}{i:Nat}(hh:A.handled=none)(h1:fN b s.heap it a i)(h2:jf b s.heap a xs)(hx:xs[i]? = none)
  (hE:∀h' e,Heap.ExtBut it s.heap h'->(∃o,h'.get? e=some o/\o.cls=.type "StopIteration")->E (.ref e) { s with heap:=h' }):wpAny (model prog w) A (Builtin.SmallTypes.nextOf (.ref it)) Q E s:=by
 cases b with
 |true=>exact wpAny_nextOf_list_end hh h1 h2 hx hE
 |false =>
  have h1':s.heap.IsTupleIter it a i:=h1
  obtain⟨o,ho,hc,hd⟩:=id h1'
  obtain⟨ol,hol,_,nl,hdl⟩:=(show s.heap.IsTuple a xs from h2)
  unfold Builtin.SmallTypes.nextOf
  refine wpAny_bind (wpAny_callSpecial?_slot (name:=Str.ofString "__next__") h1'.typeIs F.slot_tuple_iterator_next (wpAny_call_entry F.slot_tuple_iterator_next h1'.typeIs F.entry_tuple_iterator_next (?_:wpAny _ _ (field (.ref it) 0 >>= _) _ _ s) (F.args_tuple_iterator_next_1 _)))
  refine wpAny_bind (wpAny_field ho hd (x:=.ref a) rfl (?_:wpAny _ _ (if (Value.ref a == Value.none)=true then _ else _) _ _ s))
  rw [if_neg (show ¬ ((Value.ref a == Value.none)=true) from Bool.false_ne_true)]
  refine (wpAny_bind (wpAny_field ho hd (x:=.int i 0) rfl ?_):wpAny _ _ (field (.ref it) 1 >>= _) _ _ s)
  refine wpAny_bind (wpAny_seqItems (a:=a) hol hdl ?_)
  simp only [Int.toNat_natCast,hx]
  refine wpAny_bind (wpAny_rule (wpAny_bind (wpAny_setField ho hd (by simp) (wpAny_bind (m:=newExc (.type "StopIteration") []) ?_))))
  simp only [newExc,newTuple]
  refine wpAny_bind (wpAny_newObj_type (wpAny_bind (m:=firstArgMember _ _) (wpAny_of_eq (a:=Value.none) (by first | rfl | (simp only [firstArgMember];rfl)) (wpAny_newObj_type ?_ (by size_fits)))) (by size_fits))
  simp only [raiseNew]
  refine wpAny_bind (wpAny_handled ?_)
  first | rw [show A.in1.handled=none from hh] | rw [hh]
  exact wpAny_bind (wpAny_pure (wpAny_throw (hE _ _ (((Heap.SameBut.update ..).extBut.push _).push _) ⟨_,Heap.get?_push_size _ rfl,rfl⟩)))
variable {z TI TO i1 i2 l1 l2:Addr}{k:Nat}{xs ys:Array Value}{x y a b:Value}{c1 c2:Bool}
theorem Gb {Q:Value->Shared->Prop}(D:ZipApart z TI TO i1 i2 l1 l2)(hz:IsZip s.heap z TI TO .none)(hI:IsPair s.heap TI (.ref i1) (.ref i2))(hO:IsPair s.heap TO a b)
  (h1:fN c1 s.heap i1 l1 k) (h2:fN c2 s.heap i2 l2 k) (g1:jf c1 s.heap l1 xs) (g2:jf c2 s.heap l2 ys) (hx:xs[k]? = some x) (hy:ys[k]? = some y)
  (hQ:∀h',IsZip h' z TI TO (rawInt s.heap.objs.size)->IsPair h' TO x y->fN c1 h' i1 l1 (k+1)->fN c2 h' i2 l2 (k+1)->IsPair h' s.heap.objs.size x y ->
   (∀c o,c≠z->c≠TO->c≠i1->c≠i2->s.heap.get? c=some o->h'.get? c=some o)->Q (.ref s.heap.objs.size) { s with heap:=h' }):
  wpAny (model prog w) A (Builtin.«zip.__next__» ⟨[.ref z],[]⟩) (fun fin s'=>∃v,fin=.done (.ret v)/\Q v s') E s:=by
 refine (wpAny_bind (wpAny_field hz rfl (x:=.bool false) rfl ?_):wpAny _ _ (field (.ref z) 2 >>= _) _ _ _)
 refine (wpAny_bind (wpAny_field hz rfl (x:=.ref TI) rfl ?_):wpAny _ _ (field (.ref z) 3 >>= _) _ _ _)
 refine wpAny_bind (wpAny_seqItems hI rfl ?_)
 refine (wpAny_bind ?_:wpAny _ _ (Builtin.SmallTypes.ownedTupleIsFree (.ref z) >>= _) _ _ _)
 unfold Builtin.SmallTypes.ownedTupleIsFree
 refine wpAny_bind (wpAny_field hz rfl (x:=.none) rfl (wpAny_pure ?_))
 simp only [if_true]
 refine wpAny_bind (wpAny_rule (wpAny_bind (wpAny_field hz rfl (x:=.ref TO) rfl (wpAny_bind (wpAny_setField_rec hz (by simp) fun ha za sa=>?_)))))
 replace za:IsZip ha z TI TO .ellipsis:=za
 refine wpAny_bind ?_
 simp only [List.zipIdx_cons,List.zipIdx_nil,List.forIn_cons,List.forIn_nil]
 refine wpAny_bind (wpAny_bind (wpAny_onRaise (?_:wpAny _ _ (Builtin.SmallTypes.nextOf (.ref i1) >>= _) _ _ _)))
 refine wpAny_bind (kj (h1.ext fun o e=>sa.extBut _ _ D.i1z e) (g1.ext fun o e=>sa.extBut _ _ D.l1z e) hx fun hb kb sb=>wpAny_pure ?_)
 have Ob:IsPair hb TO a b:=sb.extBut _ _ D.TOi1 (sa.extBut _ _ D.TOz hO)
 refine wpAny_bind (wpAny_seqItems Ob rfl (wpAny_bind (wpAny_updateSeq_pair Ob fun hc Oc sc=>wpAny_bind (wpAny_letGo (wpAny_pure ?_)))))
 replace Oc:IsPair hc TO x b:=Oc
 refine wpAny_bind (wpAny_bind (wpAny_onRaise (?_:wpAny _ _ (Builtin.SmallTypes.nextOf (.ref i2) >>= _) _ _ _)))
 refine wpAny_bind (kj (h2.ext fun o e=>sc.extBut _ _ D.TOi2.symm (sb.extBut _ _ D.i12.symm (sa.extBut _ _ D.i2z e))) (g2.ext fun o e=>sc.extBut _ _ D.l2TO (sb.extBut _ _ D.l2i1 (sa.extBut _ _ D.l2z e))) hy fun hd kd sd=>wpAny_pure ?_)
 have Od:IsPair hd TO x b:=sd.extBut _ _ D.TOi2 Oc
 refine wpAny_bind (wpAny_seqItems Od rfl (wpAny_bind (wpAny_updateSeq_pair Od fun he Oe se=>wpAny_bind (wpAny_letGo (wpAny_pure (wpAny_pure ?_))))))
 replace Oe:IsPair he TO x y:=Oe
 refine wpAny_bind (wpAny_seqItems Oe rfl (wpAny_bind (wpAny_newTuple ?_)))
 have ez:he.objs.size=s.heap.objs.size:=by rw [se.1,sd.1,sc.1,sb.1,sa.1]
 have ze:IsZip he z TI TO .ellipsis:=se.extBut _ _ D.TOz.symm (sd.extBut _ _ D.i2z.symm (sc.extBut _ _ D.TOz.symm (sb.extBut _ _ D.i1z.symm za)))
 have ke:∀c o,c≠z->c≠TO->c≠i1->c≠i2->s.heap.get? c=some o->he.get? c=some o:=fun c o n1 n2 n3 n4 e=>se.extBut _ _ n2 (sd.extBut _ _ n4 (sc.extBut _ _ n2 (sb.extBut _ _ n3 (sa.extBut _ _ n1 e))))
 have i1e:fN c1 he i1 l1 (k+1):=kb.ext fun o e=>se.extBut _ _ D.TOi1.symm (sd.extBut _ _ D.i12 (sc.extBut _ _ D.TOi1.symm e))
 have i2e:fN c2 he i2 l2 (k+1):=kd.ext fun o e=>se.extBut _ _ D.TOi2.symm e
 have zlt:z<he.objs.size:=Heap.lt_size ze
 refine (wpAny_bind ?_:wpAny _ _ (Builtin.SmallTypes.ownedTupleHandOut (.ref z) (.ref he.objs.size) >>= _) _ _ _)
 unfold Builtin.SmallTypes.ownedTupleHandOut
 have zf:IsZip (he.push { cls:=.type "tuple", data:=.seq #[x,y] }) z TI TO .ellipsis:=Heap.get?_push_of_some _ ze
 refine wpAny_bind (wpAny_setField_rec zf (by simp) fun hg zg sg=>?_)
 replace zg:IsZip hg z TI TO (rawInt he.objs.size):=zg
 refine wpAny_setField_rec zg (by simp) fun hh zh sh=>?_
 replace zh:IsZip hh z TI TO (rawInt he.objs.size):=zh
 have up:∀c o,c≠z->he.get? c=some o->hh.get? c=some o:=fun c o n e=>sh.extBut _ _ n (sg.extBut _ _ n (Heap.get?_push_of_some _ e))
 have tp:IsPair hh he.objs.size x y:=sh.extBut _ _ (Nat.ne_of_gt zlt) (sg.extBut _ _ (Nat.ne_of_gt zlt) (Heap.get?_push_size _ rfl))
 rw [ez] at zh tp
 refine wpAny_pure ⟨_,rfl,(?_:Q (.ref he.objs.size) _)⟩
 rw [ez]
 exact hQ hh zh (up _ _ D.TOz Oe) (i1e.ext fun o e=>up _ o D.i1z e) (i2e.ext fun o e=>up _ o D.i2z e) tp fun c o n1 n2 n3 n4 e=>up c o n1 (ke c o n1 n2 n3 n4 e)
theorem IB (hh:A.handled=none)(D:ZipApart z TI TO i1 i2 l1 l2)(hz:IsZip s.heap z TI TO .none)(hI:IsPair s.heap TI (.ref i1) (.ref i2))(hO:IsPair s.heap TO a b)
  (h1:fN c1 s.heap i1 l1 k) (h2:fN c2 s.heap i2 l2 k) (g1:jf c1 s.heap l1 xs) (g2:jf c2 s.heap l2 ys) (hend:xs[k]? = none\/ys[k]? = none)
  (hE:∀h' e,(∀c o,c≠z->c≠TO->c≠i1->c≠i2->s.heap.get? c=some o->h'.get? c=some o)->(∃o,h'.get? e=some o/\o.cls=.type "StopIteration")->E (.ref e) { s with heap:=h' }):
  wpAny (model prog w) A (Builtin.«zip.__next__» ⟨[.ref z],[]⟩) Q E s:=by
 refine (wpAny_bind (wpAny_field hz rfl (x:=.bool false) rfl ?_):wpAny _ _ (field (.ref z) 2 >>= _) _ _ _)
 refine (wpAny_bind (wpAny_field hz rfl (x:=.ref TI) rfl ?_):wpAny _ _ (field (.ref z) 3 >>= _) _ _ _)
 refine wpAny_bind (wpAny_seqItems hI rfl ?_)
 refine (wpAny_bind ?_:wpAny _ _ (Builtin.SmallTypes.ownedTupleIsFree (.ref z) >>= _) _ _ _)
 unfold Builtin.SmallTypes.ownedTupleIsFree
 refine wpAny_bind (wpAny_field hz rfl (x:=.none) rfl (wpAny_pure ?_))
 simp only [if_true]
 refine wpAny_bind (wpAny_rule (wpAny_bind (wpAny_field hz rfl (x:=.ref TO) rfl (wpAny_bind (wpAny_setField_rec hz (by simp) fun ha za sa=>?_)))))
 replace za:IsZip ha z TI TO .ellipsis:=za
 refine wpAny_bind ?_
 simp only [List.zipIdx_cons,List.zipIdx_nil,List.forIn_cons,List.forIn_nil]
 refine wpAny_bind (wpAny_bind (wpAny_onRaise (?_:wpAny _ _ (Builtin.SmallTypes.nextOf (.ref i1) >>= _) _ _ _)))
 cases hx:xs[k]? with
 |none =>
  refine wpAny_bind (qE hh (h1.ext fun o e=>sa.extBut _ _ D.i1z e) (g1.ext fun o e=>sa.extBut _ _ D.l1z e) hx fun hb e sb eo=>?_)
  obtain⟨oe,ho,hc⟩:=eo
  have zb:IsZip hb z TI TO .ellipsis:=sb _ _ D.i1z.symm za
  have ne:e≠z:=fun q=>by subst q;rw [zb] at ho;cases ho;simp at hc
  exact wpAny_setField_rec zb (by simp) fun hd _ sd=>hE hd e (fun c o n1 _ n3 _ q=>sd.extBut _ _ n1 (sb _ _ n3 (sa.extBut _ _ n1 q))) ⟨oe,sd.extBut _ _ ne ho,hc⟩
 |some x =>
  have hy:ys[k]? = none:=by rcases hend with h | h;rw [hx] at h;cases h;exact h
  refine wpAny_bind (kj (h1.ext fun o e=>sa.extBut _ _ D.i1z e) (g1.ext fun o e=>sa.extBut _ _ D.l1z e) hx fun hb kb sb=>wpAny_pure ?_)
  have Ob:IsPair hb TO a b:=sb.extBut _ _ D.TOi1 (sa.extBut _ _ D.TOz hO)
  refine wpAny_bind (wpAny_seqItems Ob rfl (wpAny_bind (wpAny_updateSeq_pair Ob fun hc Oc sc=>wpAny_bind (wpAny_letGo (wpAny_pure ?_)))))
  refine wpAny_bind (wpAny_bind (wpAny_onRaise (?_:wpAny _ _ (Builtin.SmallTypes.nextOf (.ref i2) >>= _) _ _ _)))
  refine wpAny_bind (qE hh (h2.ext fun o e=>sc.extBut _ _ D.TOi2.symm (sb.extBut _ _ D.i12.symm (sa.extBut _ _ D.i2z e))) (g2.ext fun o e=>sc.extBut _ _ D.l2TO (sb.extBut _ _ D.l2i1 (sa.extBut _ _ D.l2z e))) hy fun hd e sd eo=>?_)
  obtain⟨oe,ho,hk⟩:=eo
  have zd:IsZip hd z TI TO .ellipsis:=sd _ _ D.i2z.symm (sc.extBut _ _ D.TOz.symm (sb.extBut _ _ D.i1z.symm za))
  have ne:e≠z:=fun q=>by subst q;rw [zd] at ho;cases ho;simp at hk
  exact wpAny_setField_rec zd (by simp) fun hf _ sf=>hE hf e (fun c o n1 n2 n3 n4 q=>sf.extBut _ _ n1 (sd _ _ n4 (sc.extBut _ _ n2 (sb.extBut _ _ n3 (sa.extBut _ _ n1 q))))) ⟨oe,sf.extBut _ _ ne ho,hk⟩
theorem vZ {Q:Option Value->Shared->Prop}(D:ZipApart z TI TO i1 i2 l1 l2)(hz:IsZip s.heap z TI TO .none)(hI:IsPair s.heap TI (.ref i1) (.ref i2))(hO:IsPair s.heap TO a b)
  (h1:fN c1 s.heap i1 l1 k) (h2:fN c2 s.heap i2 l2 k) (g1:jf c1 s.heap l1 xs) (g2:jf c2 s.heap l2 ys) (hx:xs[k]? = some x) (hy:ys[k]? = some y)
  (hQ:∀h',IsZip h' z TI TO (rawInt s.heap.objs.size)->IsPair h' TO x y->fN c1 h' i1 l1 (k+1)->fN c2 h' i2 l2 (k+1)->IsPair h' s.heap.objs.size x y ->
   (∀c o,c≠z->c≠TO->c≠i1->c≠i2->s.heap.get? c=some o->h'.get? c=some o)->Q (some (.ref s.heap.objs.size)) { s with heap:=h' }):wpAny (model prog w) A (pyNext (.ref z)) Q E s:=by
 have hT:s.TypeIs (.ref z) "zip" := ⟨_,hz,rfl⟩
 unfold pyNext
 exact wpAny_bind (wpAny_attempt (wpAny_callSpecial?_slot (name:=Str.ofString "__next__") hT F.slot_zip_next (wpAny_call_entry F.slot_zip_next hT F.entry_zip_next
  (Gb D hz hI hO h1 h2 g1 g2 hx hy fun h' a1 a2 a3 a4 a5 a6=>wpAny_pure (hQ h' a1 a2 a3 a4 a5 a6)) (F.args_zip_next_1 _))))
theorem yk {Q:Option Value->Shared->Prop}(hh:A.handled=none)(D:ZipApart z TI TO i1 i2 l1 l2)(hz:IsZip s.heap z TI TO .none)(hI:IsPair s.heap TI (.ref i1) (.ref i2))(hO:IsPair s.heap TO a b)
  (h1:fN c1 s.heap i1 l1 k) (h2:fN c2 s.heap i2 l2 k) (g1:jf c1 s.heap l1 xs) (g2:jf c2 s.heap l2 ys) (hend:xs[k]? = none\/ys[k]? = none)
  (hQ:∀h',(∀c o,c≠z->c≠TO->c≠i1->c≠i2->s.heap.get? c=some o->h'.get? c=some o)->Q none { s with heap:=h' }):wpAny (model prog w) A (pyNext (.ref z)) Q E s:=by
 have hT:s.TypeIs (.ref z) "zip" := ⟨_,hz,rfl⟩
 unfold pyNext
 refine wpAny_bind (wpAny_attempt (wpAny_callSpecial?_slot (name:=Str.ofString "__next__") hT F.slot_zip_next (wpAny_call_entry F.slot_zip_next hT F.entry_zip_next
  (IB hh D hz hI hO h1 h2 g1 g2 hend fun h' e hk eo=>?_) (F.args_zip_next_1 _))))
 obtain⟨o,ho,hc⟩:=eo
 exact wpAny_bind (wpAny_isInstance (T := "StopIteration") (b:=true) ⟨o,ho,hc⟩ isSubtype_stop (wpAny_pure (hQ _ hk)))
end
def zt (b:Bool)(l:Addr):Obj:=match b with
 |true=>{ cls:=.type "list_iterator", data:=.fields #[.ref l,.int 0 0] }
 |false=>{ cls:=.type "tuple_iterator", data:=.fields #[.ref l,.int 0 0] }
theorem Bh {b:Bool}{l it:Addr}{h:Heap}(e:h.get? it=some (zt b l)):fN b h it l 0:=by
 cases b with
 |true=>exact⟨_,e,rfl,rfl⟩
 |false=>exact⟨_,e,rfl,rfl⟩
abbrev Nj (h:Heap)(c1:Bool)(l1:Addr):Heap:=h.push (zt c1 l1)
abbrev Nk (h:Heap)(c1 c2:Bool)(l1 l2:Addr):Heap:=(Nj h c1 l1).push (zt c2 l2)
abbrev Nl (h:Heap)(c1 c2:Bool)(l1 l2:Addr):Heap:=(Nk h c1 c2 l1 l2).push { cls:=.type "tuple", data:=.seq #[.ref h.objs.size,.ref (Nj h c1 l1).objs.size] }
abbrev Nm (h:Heap)(c1 c2:Bool)(l1 l2:Addr):Heap:=(Nl h c1 c2 l1 l2).push { cls:=.type "tuple", data:=.seq #[.none,.none] }
abbrev LJ (h:Heap)(c1 c2:Bool)(l1 l2:Addr):Heap:=(Nm h c1 c2 l1 l2).push { cls:=.type "zip", data:=.fields #[.none,.bool false,.bool false,.ref (Nk h c1 c2 l1 l2).objs.size,.ref (Nl h c1 c2 l1 l2).objs.size] }
abbrev Dx (c1 c2:Bool)(l1 l2:Addr)(xs ys:Array Value):Prop:=Meets (Builtin.«zip.__new__» ⟨[.type "zip", .ref l1,.ref l2],[]⟩) (fun _ R s=>jf c1 s.heap l1 xs/\jf c2 s.heap l2 ys /\
   R (.ok (.ret (.ref (Nm s.heap c1 c2 l1 l2).objs.size))) { s with heap:=LJ s.heap c1 c2 l1 l2 })
theorem Ao (l1 l2:Addr)(xs ys:Array Value):Dx true true l1 l2 xs ys:=.of_wp fun prog w A R s h=>by
 obtain⟨hp,g,d,tk,os⟩:=s
 obtain⟨q1,q2,h⟩:=h
 have hsub:=sub_zip
 have p1:Heap.IsList (Shared.heap ⟨hp,g,d,tk,os⟩) l1 xs:=q1
 have p2:Heap.IsList (Shared.heap ⟨hp.push { cls:=.type "list_iterator", data:=.fields #[.ref l1,.int 0 0] },g,d,tk,os⟩) l2 ys:=Heap.IsList.push q2 _
 wp_walk using wpAny_pyIter_list p1,wpAny_pyIter_list p2
 exact⟨_,rfl,h⟩
theorem An (l1 l2:Addr)(xs ys:Array Value):Dx true false l1 l2 xs ys:=.of_wp fun prog w A R s h=>by
 obtain⟨hp,g,d,tk,os⟩:=s
 obtain⟨q1,q2,h⟩:=h
 have hsub:=sub_zip
 have p1:Heap.IsList (Shared.heap ⟨hp,g,d,tk,os⟩) l1 xs:=q1
 have p2:Heap.IsTuple (Shared.heap ⟨hp.push { cls:=.type "list_iterator", data:=.fields #[.ref l1,.int 0 0] },g,d,tk,os⟩) l2 ys:=Heap.IsTuple.push q2 _
 wp_walk using wpAny_pyIter_list p1,wpAny_pyIter_tuple p2
 exact⟨_,rfl,h⟩
theorem Am (l1 l2:Addr)(xs ys:Array Value):Dx false true l1 l2 xs ys:=.of_wp fun prog w A R s h=>by
 obtain⟨hp,g,d,tk,os⟩:=s
 obtain⟨q1,q2,h⟩:=h
 have hsub:=sub_zip
 have p1:Heap.IsTuple (Shared.heap ⟨hp,g,d,tk,os⟩) l1 xs:=q1
 have p2:Heap.IsList (Shared.heap ⟨hp.push { cls:=.type "tuple_iterator", data:=.fields #[.ref l1,.int 0 0] },g,d,tk,os⟩) l2 ys:=Heap.IsList.push q2 _
 wp_walk using wpAny_pyIter_tuple p1,wpAny_pyIter_list p2
 exact⟨_,rfl,h⟩
theorem Al (l1 l2:Addr)(xs ys:Array Value):Dx false false l1 l2 xs ys:=.of_wp fun prog w A R s h=>by
 obtain⟨hp,g,d,tk,os⟩:=s
 obtain⟨q1,q2,h⟩:=h
 have hsub:=sub_zip
 have p1:Heap.IsTuple (Shared.heap ⟨hp,g,d,tk,os⟩) l1 xs:=q1
 have p2:Heap.IsTuple (Shared.heap ⟨hp.push { cls:=.type "tuple_iterator", data:=.fields #[.ref l1,.int 0 0] },g,d,tk,os⟩) l2 ys:=Heap.IsTuple.push q2 _
 wp_walk using wpAny_pyIter_tuple p1,wpAny_pyIter_tuple p2
 exact⟨_,rfl,h⟩
theorem sy (c1 c2:Bool)(l1 l2:Addr)(xs ys:Array Value):Dx c1 c2 l1 l2 xs ys:=by
 cases c1<;>cases c2
 ·exact Al l1 l2 xs ys
 ·exact Am l1 l2 xs ys
 ·exact An l1 l2 xs ys
 ·exact Ao l1 l2 xs ys
section
variable {prog:Program}{w:World}{A:Around}{E:Value->Shared->Prop}{s:Shared}
theorem DH {c1 c2:Bool}{Q:Value->Shared->Prop}(q1:jf c1 s.heap l1 xs)(q2:jf c2 s.heap l2 ys)
  (h:∀h',IsZip h' (s.heap.objs.size+4) (s.heap.objs.size+2) (s.heap.objs.size+3) .none->IsPair h' (s.heap.objs.size+2) (.ref s.heap.objs.size) (.ref (s.heap.objs.size+1)) ->
   IsPair h' (s.heap.objs.size+3) .none .none->fN c1 h' s.heap.objs.size l1 0->fN c2 h' (s.heap.objs.size+1) l2 0->(∀c o,s.heap.get? c=some o->h'.get? c=some o)->Q (.ref (s.heap.objs.size+4)) { s with heap:=h' }):
  wpAny (model prog w) A (call (.type "zip") [.ref l1,.ref l2]) Q E s:=by
 refine callType_new F.called_zip (by decide) (F.typeCall_zip_2 _ _) (F.newCall_zip_2 _ _) (fun obj=>F.args_object_init_3 obj _ _) F.entry_zip_new (sy c1 c2 l1 l2 xs ys) ⟨q1,q2,?_⟩
 have z1:(Nj s.heap c1 l1).objs.size=s.heap.objs.size+1:=Heap.size_push ..
 have z2:(Nk s.heap c1 c2 l1 l2).objs.size=s.heap.objs.size+2:=by rw [Heap.size_push,z1]
 have z3:(Nl s.heap c1 c2 l1 l2).objs.size=s.heap.objs.size+3:=by rw [Heap.size_push,z2]
 have z4:(Nm s.heap c1 c2 l1 l2).objs.size=s.heap.objs.size+4:=by rw [Heap.size_push,z3]
 have p:∀{h:Heap} {o:Obj} {c:Addr} {u:Obj},h.get? c=some u->(h.push o).get? c=some u:=fun e=>Heap.get?_push_of_some _ e
 have n1:(zt c1 l1).isFreed=false:=by cases c1<;>rfl
 have n2:(zt c2 l2).isFreed=false:=by cases c2<;>rfl
 have g5:(LJ s.heap c1 c2 l1 l2).get? (Nm s.heap c1 c2 l1 l2).objs.size=some _:=Heap.get?_push_size _ rfl
 have g4:(LJ s.heap c1 c2 l1 l2).get? (Nl s.heap c1 c2 l1 l2).objs.size=some _:=p (Heap.get?_push_size _ rfl)
 have g3:(LJ s.heap c1 c2 l1 l2).get? (Nk s.heap c1 c2 l1 l2).objs.size=some _:=p (p (Heap.get?_push_size _ rfl))
 have g2:(LJ s.heap c1 c2 l1 l2).get? (Nj s.heap c1 l1).objs.size=some (zt c2 l2):=p (p (p (Heap.get?_push_size _ n2)))
 have g1:(LJ s.heap c1 c2 l1 l2).get? s.heap.objs.size=some (zt c1 l1):=p (p (p (p (Heap.get?_push_size _ n1))))
 show _/\_
 rw [z2,z3,z4] at g5
 rw [z1,z2] at g3
 rw [z3] at g4
 rw [z1] at g2
 rw [z4]
 exact⟨⟨_,g5,rfl⟩,h _ g5 g3 g4 (Bh g1) (Bh g2) fun c o x=>p (p (p (p (p x))))⟩
end
def wm (b:Bool)(K:PySem.W.Frag)(H:Hp)(a:Addr)(xs:List V):Prop:=match b with
 |true=>dO K H a xs
 |false=>ly K H a xs
def Nu (K:PySem.W.Frag)(c1 c2:Bool)(l1 l2:Addr):It:=
  ⟨fun i H=>∃xs ys x y,wm c1 K H l1 xs/\wm c2 K H l2 ys/\xs[i]? = some x/\ys[i]? = some y,
   fun i H v H'=>∃p x y,v=.ref p/\H p=none/\H'=upd H p (.tup [x,y])/\(∀xs,wm c1 K H l1 xs->xs[i]? = some x)/\∀ys,wm c2 K H l2 ys->ys[i]? = some y,
   fun i H=>∃xs ys,wm c1 K H l1 xs/\wm c2 K H l2 ys/\(xs.length≤i\/ys.length≤i)⟩
section
variable {X:Cx}{pins:List (Addr×Obj)}{σ:L2.St}{H:Hp}{s:Shared}
theorem hG {b:Bool}(I:Inv X pins σ H s)(h:wm b X.K H a xs):∃its:List Value,Vals xs its/\jf b s.heap a its.toArray:=by
 cases b with
 |true=>obtain⟨its,r,p,_⟩:=I.list h;exact⟨its,r,p.isList⟩
 |false=>obtain⟨its,r,p,_⟩:=I.tuple h;exact⟨its,r,p⟩
theorem BS {b:Bool}(I:Inv X pins σ H s)(h:wm b X.K H a xs)(h':wm b X.K H a ys):xs=ys:=by
 cases b with
 |true=>exact I.list_inj h h'
 |false=>exact I.tuple_inj h h'
end
structure ON (c1 c2:Bool)(z TI TO i1 i2 l1 l2:Addr)(i:Nat)(h:Heap):Prop where
 hz:IsZip h z TI TO .none
 hI:IsPair h TI (.ref i1) (.ref i2)
 hO:∃a b,IsPair h TO a b
 h1:fN c1 h i1 l1 i
 h2:fN c2 h i2 l2 i
theorem jF {h':Heap}{fp:List Addr}(I:Inv X pins σ H s)(hf:∀b∈fp,ue X pins H b)(k:∀b o,b∉fp->s.heap.get? b=some o->h'.get? b=some o):Inv X pins σ H { s with heap:=h' }:=by
 have nit:∀b u,H b=some u->b∉fp:=fun b u e z=>by rw [(hf b z).1] at e;cases e
 refine I.step (g':=s.gens) (d':=s.drawn) (t':=s.toks) (ch:=fp) (fun b hb=>?_) (fun b o _ _ hc e _=>k b o hc e) (fun b o _ _ hc e _=>⟨o.slots,k b o hc e⟩) (fun _ _ _ _ n=>n)
  (fun b o hc e=>⟨o,k b o hc e⟩) (fun _ _ e=>e) (fun _ _ _ e=>e) (fun b ps e=>⟨#[],by rw [e];simp⟩) (fun m hm=>?_) (fun b u e=>?_) I.bare
 ·obtain⟨_,f1,_,f3,f4,f5⟩:=hf b hb
  exact⟨f3,f1,f4,f5⟩
 ·obtain⟨o,es,ep,ho,r⟩:=hm
  exact⟨o,es,ep,k _ o (fun z=>(hf _ z).2.1 rfl) ho,r⟩
 ·refine (I.hok b u e).stay (fun c v hc q=>k c v ?_ q) (fun _ q=>q) fun _ _ q=>q
  rcases hc with z | z
  ·rw [z];exact nit b u e
  ·exact nit c _ z
theorem FY {P:Program}{w:World}{K:PySem.W.Frag}{elts:List Expr}{kx:Nat}{px:Pos}{c1 c2:Bool}{z TI TO i1 i2 l1 l2:Addr}(D:ZipApart z TI TO i1 i2 l1 l2):
  Turn P w K (.Tuple elts kx px) (Nu K c1 c2 l1 l2) [z,TI,TO,i1,i2] z (ON c1 c2 z TI TO i1 i2 l1 l2) where
 mem:=by simp
 obj:=fun i h st b hb=>by
  simp only [List.mem_cons,List.not_mem_nil,or_false] at hb
  rcases hb with rfl | rfl | rfl | rfl | rfl
  ·exact⟨_,st.hz,fun v q=>nomatch (show Data.fields _=Data.cell v from q)⟩
  ·exact⟨_,st.hI,fun v q=>nomatch (show Data.seq _ _=Data.cell v from q)⟩
  ·obtain⟨a,b,e⟩:=st.hO
   exact⟨_,e,fun v q=>nomatch (show Data.seq _ _=Data.cell v from q)⟩
  ·exact st.h1.obj
  ·exact st.h2.obj
 keep:=fun i h h' st k=>by
  obtain⟨a,b,e⟩:=st.hO
  exact⟨k z (by simp) _ st.hz,k TI (by simp) _ st.hI,⟨a,b,k TO (by simp) _ e⟩,st.h1.ext fun o e=>k i1 (by simp) o e,st.h2.ext fun o e=>k i2 (by simp) o e⟩
 item:=fun X hP hw hK hc i pins s σ H E I hf st hg=>by
  subst hP hw hK
  obtain⟨xs,ys,x,y,q1,q2,g1,g2⟩:=hg
  obtain⟨its,r1,p1⟩:=hG I q1
  obtain⟨jts,r2,p2⟩:=hG I q2
  obtain⟨u,e1,ru⟩:=r1.get g1
  obtain⟨v,e2,rv⟩:=r2.get g2
  obtain⟨a,b,hO⟩:=st.hO
  refine vZ D st.hz st.hI hO st.h1 st.h2 p1 p2 (x:=u) (y:=v) (by simpa using e1) (by simpa using e2) fun h' a1 a2 a3 a4 a5 a6=>⟨_,rfl,?_⟩
  refine wpAny_letOwnedTupleGo_zip (s:={ s with heap:=h' }) a1 fun h2 b1 b2=>?_
  have kp:∀b o,b∉[z,TI,TO,i1,i2]->s.heap.get? b=some o->h2.get? b=some o:=fun b o hb e=>by
   simp only [List.mem_cons,List.not_mem_nil,or_false,not_or] at hb
   exact b2.extBut _ _ hb.1 (a6 b o hb.1 hb.2.2.1 hb.2.2.2.1 hb.2.2.2.2 e)
  have lz:z<s.heap.objs.size:=Heap.lt_size st.hz
  have pr:IsPair h2 s.heap.objs.size u v:=b2.extBut _ _ (Nat.ne_of_gt lz) a5
  have fr:H s.heap.objs.size=none:=I.hok.fresh (Nat.le_refl _)
  have hokA:oi X.prog X.w (upd H s.heap.objs.size (.tup [x,y])) h2:=by
   intro c o e
   by_cases hcz:c=s.heap.objs.size
   ·subst hcz
    rw [aJ] at e;cases e
    exact⟨by show 2≤sizeLine;decide,[u,v],.cons ru (.cons rv .nil),_,pr,rfl,_,rfl⟩
   ·rw [au hcz] at e
    have nf:∀d o',H d=some o'->d∉[z,TI,TO,i1,i2]:=fun d o' ed hd=>by rw [(hf d hd).1] at ed;cases ed
    have up:∀d o',H d=some o'->upd H s.heap.objs.size (.tup [x,y]) d=some o':=fun d o' ed=>by rw [au (bp ed fr)];exact ed
    refine (I.hok c o e).stay (fun d v' hd q=>kp d v' ?_ q) (fun d q=>up d _ q) fun d xs q=>up d _ q
    rcases hd with rfl | hd
    ·exact nf _ o e
    ·exact nf d _ hd
  have J:Inv X pins σ (upd H s.heap.objs.size (.tup [x,y])) { s with heap:=h2 }:=by
   have ne:∀b o,s.heap.get? b=some o->b≠s.heap.objs.size:=fun b o e=>Nat.ne_of_lt (Heap.lt_size e)
   refine I.step (g':=s.gens) (d':=s.drawn) (t':=s.toks) (ch:=[z,TI,TO,i1,i2]) (fun b hb=>?_) (fun b o _ _ hc e _=>kp b o hc e) (fun b o _ _ hc e _=>⟨o.slots,kp b o hc e⟩) (fun b o _ e n=>by rw [au (ne b o e)];exact n)
    (fun b o hc e=>⟨o,kp b o hc e⟩) (fun b xs e=>by rw [au (bp e fr)];exact e) (fun b o u e=>by rw [au (bp e fr)];exact e) (fun b ps e=>⟨#[],by rw [au (bp e fr),e];simp⟩) (fun m hm=>?_) hokA I.bare
   ·obtain⟨_,f1,_,f3,f4,f5⟩:=hf b hb
    exact⟨f3,f1,f4,f5⟩
   ·obtain⟨o,es,ep,ho,r⟩:=hm
    exact⟨o,es,ep,kp _ o (fun q=>(hf _ q).2.1 rfl) ho,r⟩
  refine⟨.ref s.heap.objs.size,_,J,rfl,⟨_,x,y,rfl,fr,rfl,fun xs' h=>by rw [BS I h q1];exact g1,fun ys' h=>by rw [BS I h q2];exact g2⟩,?_,fun b hb=>?_⟩
  ·exact⟨b1,b2.extBut _ _ D.TIz (a6 _ _ D.TIz D.TITO D.TIi1 D.TIi2 st.hI),⟨_,_,b2.extBut _ _ D.TOz a2⟩,a3.ext fun o e=>b2.extBut _ _ D.i1z e,a4.ext fun o e=>b2.extBut _ _ D.i2z e⟩
  ·obtain⟨o,e,_⟩:∃o,s.heap.get? b=some o/\True:=by
    simp only [List.mem_cons,List.not_mem_nil,or_false] at hb
    rcases hb with rfl | rfl | rfl | rfl | rfl
    ·exact⟨_,st.hz,trivial⟩
    ·exact⟨_,st.hI,trivial⟩
    ·exact⟨_,hO,trivial⟩
    ·obtain⟨o,e,_⟩:=st.h1.obj;exact⟨o,e,trivial⟩
    ·obtain⟨o,e,_⟩:=st.h2.obj;exact⟨o,e,trivial⟩
   rw [au (Nat.ne_of_lt (Heap.lt_size e))]
   exact (hf b hb).1
 done:=fun X hP hw hK hc i pins s σ H E I hf st hg=>by
  subst hP hw hK
  obtain⟨xs,ys,q1,q2,g⟩:=hg
  obtain⟨its,r1,p1⟩:=hG I q1
  obtain⟨jts,r2,p2⟩:=hG I q2
  obtain⟨a,b,hO⟩:=st.hO
  have n1:=r1.length
  have n2:=r2.length
  refine yk (I.ok.hd hc) D st.hz st.hI hO st.h1 st.h2 p1 p2 ?_ fun h' k=>⟨rfl,jF I hf fun b o hb e=>?_⟩
  ·rcases g with g | g
   ·exact .inl (by simp;omega)
   ·exact .inr (by simp;omega)
  ·simp only [List.mem_cons,List.not_mem_nil,or_false,not_or] at hb
   exact k b o hb.1 hb.2.2.1 hb.2.2.2.1 hb.2.2.2.2 e
 self:=fun _ _ _ _ _ st h=>wpAny_pyIter_zip st.hz h
def ML:T->Option (Bool×List T)
 | .lst ts=>some (true,ts)
 | .scr ts=>some (true,ts)
 | .tup ts=>some (false,ts)
 |_=>none
theorem BQ {K:PySem.W.Frag}{F:Hp}{t:T}{v:V}{b:Bool}{ts:List T}(r:Rep K F t v)(e:ML t=some (b,ts)):∃a xs,v=.ref a/\wm b K F a xs/\aW K F ts xs:=by
 cases t<;>simp only [ML] at e<;>cases e
 ·exact r
 ·obtain⟨a,xs,h1,h2,h3⟩:=r
  exact⟨a,xs,h1,dO.of h2,h3⟩
 ·exact r
theorem wm.same {b:Bool}{K:PySem.W.Frag}{H H':Hp}{a:Addr}{xs:List V}(s:aQ H H')(h:wm b K H a xs):wm b K H' a xs:=by
 cases b with
 |true=>exact s.seq h
 |false=>exact cm s h
def jG:List T->List T->List T
 |x::xs,y::ys=>.tup [x,y]::jG xs ys
 |_,_=>[]
theorem oJ:∀(xs ys:List T),(jG xs ys).length=min xs.length ys.length
 |[],_=>by simp [jG]
 |_::_,[]=>by simp [jG]
 |x::xs,y::ys=>by simp [jG,oJ xs ys]
theorem rK:∀(xs ys:List T) (i:Nat) (t:T),(jG xs ys)[i]? = some t->∃x y,xs[i]? = some x/\ys[i]? = some y/\t=.tup [x,y]
 |[],_,i,t,e=>by simp [jG] at e
 |_::_,[],i,t,e=>by simp [jG] at e
 |x::xs,y::ys,0,t,e=>by simp [jG] at e;exact⟨x,y,rfl,rfl,e.symm⟩
 |x::xs,y::ys,i+1,t,e=>by
  obtain⟨a,b,h1,h2,h3⟩:=rK xs ys i t (by simpa [jG] using e)
  exact⟨a,b,by simpa using h1,by simpa using h2,h3⟩
theorem Dj {K:PySem.W.Frag}{F:Hp}{c1 c2:Bool}{l1 l2:Addr}{xs ys:List V}{ts us:List T}(h1:wm c1 K F l1 xs)(r1:aW K F ts xs)(h2:wm c2 K F l2 ys)(r2:aW K F us ys):Walks K F (jG ts us) (Nu K c1 c2 l1 l2):=by
 refine⟨fun i t F1 H1 e s1 s2=>?_,fun i t F1 H1 x H2 e s1 s2 y=>?_,fun F1 H1 s1 s2=>⟨xs,ys,h1.same (s1.trans s2),h2.same (s1.trans s2),?_⟩⟩
 ·obtain⟨a,b,e1,e2,rfl⟩:=rK ts us i t e
  obtain⟨v,g1,_⟩:=r1.get e1
  obtain⟨w,g2,_⟩:=r2.get e2
  exact⟨xs,ys,v,w,h1.same (s1.trans s2),h2.same (s1.trans s2),g1,g2⟩
 ·obtain⟨p,v,w,rfl,hp,rfl,q1,q2⟩:=y
  obtain⟨a,b,e1,e2,rfl⟩:=rK ts us i t e
  obtain⟨v',g1,k1⟩:=r1.get e1
  obtain⟨w',g2,k2⟩:=r2.get e2
  have m1:=q1 xs (h1.same (s1.trans s2))
  have m2:=q2 ys (h2.same (s1.trans s2))
  rw [g1] at m1;cases m1
  rw [g2] at m2;cases m2
  have gr:=bf.new (.tup [v,w]) s2 hp
  exact⟨_,gr,p,_,rfl,ly.of aJ,v,[w],rfl,Rep.mono (s1.trans gr.sF) k1,w,[],rfl,Rep.mono (s1.trans gr.sF) k2,rfl⟩
 ·rw [oJ,r1.length,r2.length]
  omega
def fm (g:FA):FA:=fun τ=>(g τ).bind fun p=>match p.1 with
 |[a,b]=>(ML a).bind fun x=>(ML b).bind fun y=>some (jG x.2 y.2,p.2)
 |_=>none
theorem vN {X:Cx}{a b:Expr}{p pos:Pos}{ga:FA}{elts:List Expr}{kx:Nat}{px:Pos}(hg:Gl X "zip")(hm:X.mg "zip" = none)(ha:SA X [a,b] ga)(hs:starEach [a,b] X.env=(false,eval a X.env)::starEach [b] X.env:=by rfl)
  (hs2:(backTo pos (starEach [b] X.env)).any (·.1)=false:=by rfl):SI X (.Tuple elts kx px) (.Call (.Name "zip" p) [a,b] [] pos) (fm ga):=by
 intro Y0 Y9 pins s σ H R I ⟨F,τ,ts,τ',E,e1,q⟩
 obtain⟨⟨x,τ1⟩,e2,e1⟩:=bind_some e1
 dsimp only at e1
 split at e1
 ·next t u =>
  obtain⟨⟨c1,us⟩,e3,e1⟩:=bind_some e1
  obtain⟨⟨c2,ws⟩,e4,e1⟩:=bind_some e1
  cases e1
  refine Call_ (ki I hg hm (show bootBuiltins "zip" = some (.type "zip") from rfl) (PyProof.Rows.callWith_type1 (eC (ha Y0 Y9 pos pins s σ H (fun vs H'=>∃l1 l2 xs ys,vs=[.ref l1,.ref l2]/\wm c1 X.K H' l1 xs/\wm c2 X.K H' l2 ys/\R (Nu X.K c1 c2 l1 l2) H') I ⟨F,τ,_,_,E,e2,fun F' H' vs E' s' r'=>?_⟩) fun vs s1 ⟨ws',H1,I1,r1,q1⟩=>?_) hs hs2))
  ·obtain⟨v1,r1,rfl,k1,v2,r2,rfl,k2,rfl⟩:=r'
   obtain⟨l1,xs,rfl,h1,h2⟩:=BQ k1 e3
   obtain⟨l2,ys,rfl,h3,h4⟩:=BQ k2 e4
   exact⟨l1,l2,xs,ys,rfl,h1.same E'.g.fh,h3.same E'.g.fh,q F' H' _ E' s' (Dj h1 h2 h3 h4)⟩
  ·obtain⟨l1,l2,xs,ys,rfl,h1,h2,q1⟩:=q1
   cases r1 with
   |cons ra rr =>
    cases rr with
    |cons rb rr =>
     cases rr;cases ra;cases rb
     obtain⟨its,_,p1⟩:=hG I1 h1
     obtain⟨jts,_,p2⟩:=hG I1 h2
     refine DH p1 p2 fun h' a1 a2 a3 a4 a5 kp=>wpAny_pyIter_zip (s:={ s1 with heap:=h' }) a1 ?_
     have lt:∀{c:Bool} {l:Addr} {zs:Array Value},jf c s1.heap l zs->l<s1.heap.objs.size:=fun {c l zs} h=>by
      cases c with
      |true=>obtain⟨o,e,_⟩:=h;exact Heap.lt_size e
      |false=>obtain⟨o,e,_⟩:=h;exact Heap.lt_size e
     have n1:@LT.lt Nat _ l1 s1.heap.objs.size:=lt p1
     have n2:@LT.lt Nat _ l2 s1.heap.objs.size:=lt p2
     have J:Inv X pins σ H1 { s1 with heap:=h' }:=I1.kept (t':=s1.toks) kp
     refine⟨_,[_,_,_,_,_],_,_,H1,rfl,J,FY (c1:=c1) (c2:=c2) (z:=s1.heap.objs.size+4) (TI:=s1.heap.objs.size+2) (TO:=s1.heap.objs.size+3) (i1:=s1.heap.objs.size) (i2:=s1.heap.objs.size+1) (l1:=l1) (l2:=l2) ?_,⟨a1,a2,⟨_,_,a3⟩,a4,a5⟩,fun b hb=>?_,q1⟩
     ·constructor<;>(refine (?_:@Ne Nat _ _);omega)
     ·have hb':s1.heap.objs.size≤b:=by
       simp only [List.mem_cons,List.not_mem_nil,or_false] at hb
       rcases hb with rfl | rfl | rfl | rfl | rfl<;>omega
      exact I1.fpOk hb' (I1.hok.fresh hb')
 ·cases e1
theorem w9:bQ [.non,.ty "int"]=some (.bl false):=rfl
theorem uS:bQ [.non,.ty "bool"]=some (.bl false):=rfl
theorem xa:bQ [.non,.ty "str"]=some (.bl false):=rfl
theorem uU:bQ [.non,.ty "list"]=some (.bl false):=rfl
theorem rR:bQ [.non,.ty "tuple"]=some (.bl false):=rfl
theorem uT:bQ [.non,.ty "dict"]=some (.bl false):=rfl
theorem zo:bQ [.non,.tup [.ty "list", .ty "tuple"]]=some (.bl false):=rfl
theorem y9 {b:Bool}:bQ [(.bl b),.ty "int"]=some (.bl true):=rfl
theorem wU {b:Bool}:bQ [(.bl b),.ty "bool"]=some (.bl true):=rfl
theorem zi {b:Bool}:bQ [(.bl b),.ty "str"]=some (.bl false):=rfl
theorem wW {b:Bool}:bQ [(.bl b),.ty "list"]=some (.bl false):=rfl
theorem uI {b:Bool}:bQ [(.bl b),.ty "tuple"]=some (.bl false):=rfl
theorem wV {b:Bool}:bQ [(.bl b),.ty "dict"]=some (.bl false):=rfl
theorem CF {b:Bool}:bQ [(.bl b),.tup [.ty "list", .ty "tuple"]]=some (.bl false):=rfl
theorem wZ {i:Int}:bQ [(.int i),.ty "int"]=some (.bl true):=rfl
theorem uM {i:Int}:bQ [(.int i),.ty "bool"]=some (.bl false):=rfl
theorem w5 {i:Int}:bQ [(.int i),.ty "str"]=some (.bl false):=rfl
theorem uO {i:Int}:bQ [(.int i),.ty "list"]=some (.bl false):=rfl
theorem rO {i:Int}:bQ [(.int i),.ty "tuple"]=some (.bl false):=rfl
theorem uN {i:Int}:bQ [(.int i),.ty "dict"]=some (.bl false):=rfl
theorem zk {i:Int}:bQ [(.int i),.tup [.ty "list", .ty "tuple"]]=some (.bl false):=rfl
theorem xg:bQ [(.str x),.ty "int"]=some (.bl false):=rfl
theorem uY:bQ [(.str x),.ty "bool"]=some (.bl false):=rfl
theorem xh:bQ [(.str x),.ty "str"]=some (.bl true):=rfl
theorem u9:bQ [(.str x),.ty "list"]=some (.bl false):=rfl
theorem rT:bQ [(.str x),.ty "tuple"]=some (.bl false):=rfl
theorem uZ:bQ [(.str x),.ty "dict"]=some (.bl false):=rfl
theorem zq:bQ [(.str x),.tup [.ty "list", .ty "tuple"]]=some (.bl false):=rfl
theorem xi:bQ [(.tup ts),.ty "int"]=some (.bl false):=rfl
theorem va:bQ [(.tup ts),.ty "bool"]=some (.bl false):=rfl
theorem xj:bQ [(.tup ts),.ty "str"]=some (.bl false):=rfl
theorem vc:bQ [(.tup ts),.ty "list"]=some (.bl false):=rfl
theorem rV:bQ [(.tup ts),.ty "tuple"]=some (.bl true):=rfl
theorem vb:bQ [(.tup ts),.ty "dict"]=some (.bl false):=rfl
theorem zr:bQ [(.tup ts),.tup [.ty "list", .ty "tuple"]]=some (.bl true):=rfl
theorem w6:bQ [(.lst ts),.ty "int"]=some (.bl false):=rfl
theorem uP:bQ [(.lst ts),.ty "bool"]=some (.bl false):=rfl
theorem w8:bQ [(.lst ts),.ty "str"]=some (.bl false):=rfl
theorem uR:bQ [(.lst ts),.ty "list"]=some (.bl true):=rfl
theorem rQ:bQ [(.lst ts),.ty "tuple"]=some (.bl false):=rfl
theorem uQ:bQ [(.lst ts),.ty "dict"]=some (.bl false):=rfl
theorem zm:bQ [(.lst ts),.tup [.ty "list", .ty "tuple"]]=some (.bl true):=rfl
theorem xb:bQ [(.scr ts),.ty "int"]=some (.bl false):=rfl
theorem uV:bQ [(.scr ts),.ty "bool"]=some (.bl false):=rfl
theorem xf:bQ [(.scr ts),.ty "str"]=some (.bl false):=rfl
theorem uX:bQ [(.scr ts),.ty "list"]=some (.bl true):=rfl
theorem rS:bQ [(.scr ts),.ty "tuple"]=some (.bl false):=rfl
theorem uW:bQ [(.scr ts),.ty "dict"]=some (.bl false):=rfl
theorem zp:bQ [(.scr ts),.tup [.ty "list", .ty "tuple"]]=some (.bl true):=rfl
theorem wX:bQ [.dic,.ty "int"]=some (.bl false):=rfl
theorem uJ:bQ [.dic,.ty "bool"]=some (.bl false):=rfl
theorem wY:bQ [.dic,.ty "str"]=some (.bl false):=rfl
theorem uL:bQ [.dic,.ty "list"]=some (.bl false):=rfl
theorem rN:bQ [.dic,.ty "tuple"]=some (.bl false):=rfl
theorem uK:bQ [.dic,.ty "dict"]=some (.bl true):=rfl
theorem zj:bQ [.dic,.tup [.ty "list", .ty "tuple"]]=some (.bl false):=rfl
theorem mD (i j:Int):gJ (.int i) (.int j)=some (.bl (decide (i=j))):=by
 show some (T.bl (i == j))=_
 rw [Bool.beq_eq_decide_eq]
theorem uE (i j:Int):lb (.int i) (.int j)=some (.bl (!decide (i=j))):=by
 show some (T.bl (!(i == j)))=_
 rw [Bool.beq_eq_decide_eq]
theorem J5 (i j:Bool):gJ (.bl i) (.bl j)=some (.bl (i == j)):=rfl
theorem J7 (i j:Bool):lb (.bl i) (.bl j)=some (.bl (!(i == j))):=rfl
theorem B6 (i j:Int):Ap i j ↔ (¬ j=0/\j.natAbs<B):=Iff.rfl
theorem B7 (i j:Int):Aq i j ↔ (i.natAbs<B/\j.natAbs<B):=Iff.rfl
theorem Gm (i j:Int):M1 i j ↔ ¬ j=0:=Iff.rfl
theorem dG {n:Nat}(h:n≤1000):n≤sizeLine:=Nat.le_of_lt (cL h)
theorem OZ:(0:Nat)≤sizeLine:=dG (by decide)
theorem NK:(1:Nat)≤sizeLine:=dG (by decide)
theorem Hu:(2:Nat)≤sizeLine:=dG (by decide)
theorem Ox:(3:Nat)≤sizeLine:=dG (by decide)
theorem O0:(4:Nat)≤sizeLine:=dG (by decide)
theorem Ej {x y:T}:cK (.tup [x,y]) (.int 0)=some x:=rfl
theorem Ek {x y:T}:cK (.tup [x,y]) (.int 1)=some y:=rfl
theorem Eh {x y:T}:cK (.lst [x,y]) (.int 0)=some x:=rfl
theorem Ei {x y:T}:cK (.lst [x,y]) (.int 1)=some y:=rfl
theorem DQ (a:Int):wC [.int a]=some (.int (a.natAbs:Int)):=by
 have e:(if a<0 then -a else a)=(a.natAbs:Int):=by split<;>omega
 simp only [wC,e]
theorem JB:(2^64:Nat)<B:=by decide +kernel
theorem qz {a:Int}(h1 : -(2^64)<a)(h2:a<2^64):a.natAbs<B:=by have:=JB;omega
def LS:FS:=
  (aO (aX 2 (aG bU (aG cV (aG cV (af 0) (aG bI (fC (.int 7919)) (af 1))) (fC (.int 11))) (fC (.int 2147483647))))
  (aO (aX 2 (aG bU (aG cV (aG bI (af 2) (af 2)) (aG bI (fC (.int 48271)) (af 1))) (fC (.int 2147483629))))
  (bE (aG bU (aG cV (aG cV (aG bI (af 2) (af 2)) (aG bI (fC (.int 7)) (af 2))) (af 1)) (fC (.int 2147483587))))))
def IK:FS:=
  (aO (cq (cJ (aG ym (af 1) (ai bG (aa (af 0) az)))) (bE (aG cK (af 0) (af 1))) bS)
  (aO (aX 2 (aG cV (aG bI (fC (.int 7919)) (af 1)) (fC (.int 5))))
  (aO (cq (cJ (aG Gh (ai bG (aa (af 0) az)) (fC (.int 0)))) (aX 2 (aG bU (aG cV (aG cK (af 0) (aG bU (aG bI (fC (.int 7)) (af 1)) (ai bG (aa (af 0) az)))) (aG bI (fC (.int 7919)) (af 1))) (fC (.int 2147483647)))) bS)
  (bE (aG bU (aG bI (af 2) (af 2)) (fC (.int 2147483629)))))))
theorem cx (a:Int){b:Int}(h:0<b):0≤a.fmod b/\a.fmod b<b:=⟨Int.fmod_nonneg_of_pos _ h,Int.fmod_lt_of_pos _ h⟩
def rW (c k:Int):Int:=(c+7919*k+11).fmod 2147483647
def rX (c k:Int):Int:=(rW c k*rW c k+48271*k).fmod 2147483629
def iX (c k:Int):Int:=(rX c k*rX c k+7*rX c k+k).fmod 2147483587
theorem EO (c k:Int):0≤iX c k/\iX c k<2147483587:=cx _ (by decide)
def fP:List T->Option T
 |[.int c,.int k]=>if k.natAbs<B then some (.int (iX c k)) else none
 |_=>none
theorem pB {c k:Int}(h:k.natAbs<B):fP [.int c,.int k]=some (.int (iX c k)):=if_pos h
theorem lj {n:Nat}(h:n<2^64):((n:Int)).natAbs<B:=by have:=JB;omega
theorem Lc (ts:List T)(t:T)(h:fP ts=some t):dH 3 2 LS ts=some t:=by
 unfold fP at h
 split at h
 ·next c k =>
  split at h
  ·next hk =>
   cases h
   have b1:((7919:Int)).natAbs<B:=lj (n:=7919) (by decide)
   have b2:((48271:Int)).natAbs<B:=lj (n:=48271) (by decide)
   have b3:((7:Int)).natAbs<B:=lj (n:=7) (by decide)
   have r1:(rW c k).natAbs<B:=by have:=cx (c+7919*k+11) (b:=2147483647) (by decide);exact qz (by unfold rW;omega) (by unfold rW;omega)
   have r2:(rX c k).natAbs<B:=by have:=cx (rW c k*rW c k+48271*k) (b:=2147483629) (by decide);exact qz (by unfold rX;omega) (by unfold rX;omega)
   have e1:(c+7919*k+11).fmod 2147483647=rW c k:=rfl
   have e2:(rW c k*rW c k+48271*k).fmod 2147483629=rX c k:=rfl
   have e3:(rX c k*rX c k+7*rX c k+k).fmod 2147483587=iX c k:=rfl
   have n1:¬ (2147483647:Int)=0:=by decide
   have n2:¬ (2147483629:Int)=0:=by decide
   have n3:¬ (2147483587:Int)=0:=by decide
   unfold dH LS
   walk_at "ev"
  ·cases h
 ·cases h
def intsOf:List T->Option (List Int)
 |[]=>some []
 | .int i::ts=>(intsOf ts).bind fun ns=>some (i::ns)
 |_::_=>none
theorem lO:∀ns:List Int,intsOf (ns.map T.int)=some ns
 |[]=>rfl
 |n::ns=>by simp [intsOf,lO ns]
theorem lN:∀{ts:List T} {ns:List Int},intsOf ts=some ns->ts=ns.map T.int
 |[],ns,h=>by cases h;rfl
 | .int i::ts,ns,h=>by
  obtain⟨ms,e,h⟩:=bind_some h
  cases h
  rw [lN e];rfl
 | .non::_,_,h=>by cases h
 | .bl _::_,_,h=>by cases h
 | .str _::_,_,h=>by cases h
 | .ty _::_,_,h=>by cases h
 | .tup _::_,_,h=>by cases h
 | .lst _::_,_,h=>by cases h
 | .scr _::_,_,h=>by cases h
 | .dic::_,_,h=>by cases h
 | .obj _ _ _::_,_,h=>by cases h
 | .ptr _::_,_,h=>by cases h
 | .exc _ _ _::_,_,h=>by cases h
def pW (ns:List Int)(k:Int):Int:=if 0<ns.length then (ns.getD ((7*k).fmod (ns.length:Int)).toNat 0+7919*k).fmod 2147483647 else 7919*k+5
def iO (ns:List Int)(k:Int):Int:=if k<(ns.length:Int) then ns.getD k.toNat 0 else (pW ns k*pW ns k).fmod 2147483629
def lh:List T->Option T
 |[.scr ts,.int k]=>(intsOf ts).bind fun ns=>if 0≤k/\k<1000000 then some (.int (iO ns k)) else none
 |_=>none
theorem EM {ns:List Int}{k:Int}(h0:0≤k)(h1:k<1000000):lh [.scr (ns.map T.int),.int k]=some (.int (iO ns k)):=by
 show (intsOf (ns.map T.int)).bind _=_
 rw [lO]
 exact if_pos ⟨h0,h1⟩
theorem Bl {ns:List Int}{k:Int}(h0:0≤k)(h1:k<(ns.length:Int)):cK (.scr (ns.map T.int)) (.int k)=some (.int (ns.getD k.toNat 0)):=by
 show oZ (ns.map T.int) k=_
 obtain⟨j,rfl⟩:=Int.eq_ofNat_of_zero_le h0
 have hk:j<ns.length:=by omega
 refine um ?_
 rw [List.getElem?_map,List.getElem?_eq_getElem hk]
 simp [List.getD,List.getElem?_eq_getElem hk]
theorem Il (ts:List T)(t:T)(h:lh ts=some t):dH 3 2 IK ts=some t:=by
 unfold lh at h
 split at h
 ·next us k =>
  obtain⟨ns,e,h⟩:=bind_some h
  rw [lN e]
  clear e
  split at h
  ·next hk =>
   cases h
   obtain⟨h0,h1⟩:=hk
   have b1:((7919:Int)).natAbs<B:=lj (n:=7919) (by decide)
   have b3:((7:Int)).natAbs<B:=lj (n:=7) (by decide)
   have bk:k.natAbs<B:=qz (by omega) (by omega)
   have n1:¬ (2147483647:Int)=0:=by decide
   have n2:¬ (2147483629:Int)=0:=by decide
   have hl:(ns.map T.int).length=ns.length:=List.length_map ..
   unfold dH IK
   by_cases hc:k<(ns.length:Int)
   ·have e1:=Bl h0 hc
    have e2:iO ns k=ns.getD k.toNat 0:=if_pos hc
    walk_at "ev"
   ·have e2:iO ns k=(pW ns k*pW ns k).fmod 2147483629:=if_neg hc
    by_cases hn:(0:Int)<(ns.length:Int)
    ·have e3:pW ns k=(ns.getD ((7*k).fmod (ns.length:Int)).toNat 0+7919*k).fmod 2147483647:=if_pos (by omega)
     have r:=cx (7*k) hn
     have e4:=Bl (ns:=ns) r.1 r.2
     have n3:¬ (ns.length:Int)=0:=by omega
     have r2:(pW ns k).natAbs<B:=by rw [e3];have:=cx (ns.getD ((7*k).fmod (ns.length:Int)).toNat 0+7919*k) (b:=2147483647) (by decide);exact qz (by omega) (by omega)
     rw [e3] at r2 e2
     clear e3 r
     walk_at "ev"
    ·have e3:pW ns k=7919*k+5:=if_neg (by omega)
     have r2:(7919*k+5).natAbs<B:=qz (by omega) (by omega)
     rw [e3] at e2
     clear e3
     walk_at "ev"
  ·cases h
 ·cases h
def ia (env:Env):List (Str×NameKind)->List (Str×Addr)->List (Str×Addr)
 |[],acc=>acc
 |(x,k)::r,acc=>if k == .free then ia env r ((x,(env.cells.lookup x).getD 0)::acc) else ia env r acc
theorem ou (f:Str×NameKind->List (Str×Addr)->Sem (ForInStep (List (Str×Addr))))(hf:∀x k cs,f (x,k) cs=if k == .free then (do let a <- cellOf env x;pure (.yield ((x,a)::cs))) else pure (.yield cs)):
  ∀(names:List (Str×NameKind)) (acc:List (Str×Addr)),(∀y∈names,y.2=.free->∃c,env.cells.lookup y.1=some c)->forIn names acc f=pure (ia env names acc)
 |[],acc,_=>by rw [List.forIn_nil];rfl
 |(x,k)::r,acc,hy=>by
  rw [List.forIn_cons,hf]
  have ih:=ou f hf r
  have hr:∀y∈r,y.2=.free->∃c,env.cells.lookup y.1=some c:=fun z hz=>hy z (List.mem_cons_of_mem _ hz)
  cases hk:(k == NameKind.free) with
  |true =>
   obtain⟨c,hc⟩:=hy (x,k) List.mem_cons_self (beq_iff_eq.mp hk)
   dsimp only at hc
   simp only [if_true,ia,hc,cellOf,pure_bind,Option.getD_some,hk]
   exact ih _ hr
  |false =>
   simp only [Bool.false_eq_true,if_false,ia,pure_bind,hk]
   exact ih _ hr
theorem pY {env:Env}{scope:Scope}(h:∀y∈scope.names,y.2=.free->∃c,env.cells.lookup y.1=some c):closureFor scope env=pure (ia env scope.names []):=by
 simp only [closureFor]
 rw [ou (env:=env) _ (fun x k cs=>by cases hk:k == NameKind.free<;>simp [hk]) scope.names [] h]
 rfl
theorem uw {env:Env}:∀(names:List (Str×NameKind)) (acc:List (Str×Addr)) (x:Str) (c:Addr),(∀y∈names,y.2=.free->∃c,env.cells.lookup y.1=some c)->(x,c)∈ia env names acc->(x,c)∈acc\/(env.cells.lookup x=some c/\(x,NameKind.free)∈names)
 |[],acc,x,c,_,h=>.inl h
 |(y,k)::r,acc,x,c,hy,h=>by
  unfold ia at h
  have hr:∀z∈r,z.2=.free->∃c,env.cells.lookup z.1=some c:=fun z hz=>hy z (List.mem_cons_of_mem _ hz)
  cases hk:(k == NameKind.free) with
  |true =>
   rw [if_pos hk] at h
   rcases uw r _ x c hr h with h | h
   ·rcases List.mem_cons.mp h with h | h
    ·cases h
     obtain⟨c,hc⟩:=hy (y,k) List.mem_cons_self (beq_iff_eq.mp hk)
     dsimp only at hc
     refine .inr ⟨by rw [hc];rfl,?_⟩
     rw [beq_iff_eq.mp hk]
     exact List.mem_cons_self
    ·exact .inl h
   ·exact .inr ⟨h.1,List.mem_cons_of_mem _ h.2⟩
  |false =>
   rw [if_neg (by rw [hk];decide)] at h
   rcases uw r _ x c hr h with h | h
   ·exact .inl h
   ·exact .inr ⟨h.1,List.mem_cons_of_mem _ h.2⟩
theorem eX:∀{l:List (Str×Addr)} {x:Str} {c:Addr},(x,c)∈l->∃d,l.lookup x=some d
 |(y,d)::r,x,c,h=>by
  rw [List.lookup_cons]
  cases hb:x == y with
  |true=>exact⟨d,rfl⟩
  |false =>
   rcases List.mem_cons.mp h with h | h
   ·cases h;simp at hb
   ·exact eX h
theorem o9:∀(names:List (Str×NameKind)) (acc:List (Str×Addr)) (x:Str),((x,NameKind.free)∈names\/∃c,(x,c)∈acc)->∃c,(x,c)∈ia env names acc
 |[],acc,x,h=>by
  rcases h with h | h
  ·cases h
  ·exact h
 |(y,k)::r,acc,x,h=>by
  unfold ia
  cases hk:(k == NameKind.free) with
  |true =>
   rw [if_pos rfl]
   refine o9 r _ x ?_
   rcases h with h | ⟨c,h⟩
   ·rcases List.mem_cons.mp h with h | h
    ·cases h;exact .inr ⟨_,List.mem_cons_self⟩
    ·exact .inl h
   ·exact .inr ⟨c,List.mem_cons_of_mem _ h⟩
  |false =>
   rw [if_neg (by decide)]
   refine o9 r _ x ?_
   rcases h with h | h
   ·rcases List.mem_cons.mp h with h | h
    ·cases h;cases hk
    ·exact .inl h
   ·exact .inr h
theorem yH:∀(names:List (Str×NameKind)) (n:Nat) (acc:List (Str×Addr)) (x:Str) (c:Addr),(x,c)∈cellsFrom n names acc->(x,c)∈acc\/(n≤c/\(x,NameKind.cell)∈names)
 |[],n,acc,x,c,h=>.inl h
 |(y,k)::r,n,acc,x,c,h=>by
  unfold cellsFrom at h
  cases hk:(k == NameKind.cell) with
  |true =>
   rw [if_pos hk] at h
   rcases yH r _ _ x c h with h | ⟨h1,h2⟩
   ·rcases List.mem_cons.mp h with h | h
    ·cases h
     refine .inr ⟨Nat.le_refl _,?_⟩
     rw [beq_iff_eq.mp hk]
     exact List.mem_cons_self
    ·exact .inl h
   ·exact .inr ⟨Nat.le_of_succ_le h1,List.mem_cons_of_mem _ h2⟩
  |false =>
   rw [if_neg (by rw [hk];decide)] at h
   rcases yH r _ _ x c h with h | ⟨h1,h2⟩
   ·exact .inl h
   ·exact .inr ⟨h1,List.mem_cons_of_mem _ h2⟩
theorem yG:∀(names:List (Str×NameKind)) (n:Nat) (acc:List (Str×Addr)),(∀x y c,(x,c)∈acc->(y,c)∈acc->x=y)->(∀x c,(x,c)∈acc->@LT.lt Nat _ c n)->∀x y c,(x,c)∈cellsFrom n names acc->(y,c)∈cellsFrom n names acc->x=y
 |[],n,acc,h1,_,x,y,c,h,h'=>h1 x y c h h'
 |(z,k)::r,n,acc,h1,h2,x,y,c,h,h'=>by
  unfold cellsFrom at h h'
  cases hk:(k == NameKind.cell) with
  |true =>
   rw [if_pos hk] at h h'
   refine yG r (n+1) _ (fun a b d ha hb=>?_) (fun a d ha=>?_) x y c h h'
   ·rcases List.mem_cons.mp ha with ha | ha<;>rcases List.mem_cons.mp hb with hb | hb
    ·cases ha;cases hb;rfl
    ·cases ha;exact absurd (h2 _ _ hb) (Nat.lt_irrefl _)
    ·cases hb;exact absurd (h2 _ _ ha) (Nat.lt_irrefl _)
    ·exact h1 a b d ha hb
   ·rcases List.mem_cons.mp ha with ha | ha
    ·cases ha;exact Nat.lt_succ_self _
    ·exact Nat.lt_succ_of_lt (h2 _ _ ha)
  |false =>
   rw [if_neg (by rw [hk];decide)] at h h'
   exact yG r n acc h1 h2 x y c h h'
theorem pX:∀(names:List (Str×NameKind)) (n:Nat) (acc:List (Str×Addr)) (x:Str),((x,NameKind.cell)∈names\/∃c,(x,c)∈acc)->∃c,(x,c)∈cellsFrom n names acc
 |[],n,acc,x,h=>by
  rcases h with h | h
  ·cases h
  ·exact h
 |(y,k)::r,n,acc,x,h=>by
  unfold cellsFrom
  cases hk:(k == NameKind.cell) with
  |true =>
   rw [if_pos rfl]
   refine pX r _ _ x ?_
   rcases h with h | ⟨c,h⟩
   ·rcases List.mem_cons.mp h with h | h
    ·cases h;exact .inr ⟨_,List.mem_cons_self⟩
    ·exact .inl h
   ·exact .inr ⟨c,List.mem_cons_of_mem _ h⟩
  |false =>
   rw [if_neg (by decide)]
   refine pX r _ _ x ?_
   rcases h with h | h
   ·rcases List.mem_cons.mp h with h | h
    ·cases h;cases hk
    ·exact .inl h
   ·exact .inr h
theorem uv:∀(names:List (Str×NameKind)) (h:Heap) (acc:List (Str×Addr)) (x:Str) (c:Addr),(x,c)∈cellsFrom h.objs.size names acc->(x,c)∈acc\/(pushCells h names).IsCell c none
 |[],h,acc,x,c,m=>.inl m
 |(y,k)::r,h,acc,x,c,m=>by
  unfold cellsFrom at m
  unfold pushCells
  cases hk:(k == NameKind.cell) with
  |true =>
   rw [if_pos hk] at m
   rw [if_pos rfl]
   have m':(x,c)∈cellsFrom (h.push { cls:=.type "cell", data:=.cell none }).objs.size r ((y,h.objs.size)::acc):=by rw [Heap.size_push];exact m
   rcases uv r _ _ x c m' with m | m
   ·rcases List.mem_cons.mp m with m | m
    ·cases m
     refine .inr ?_
     have q:(h.push { cls:=.type "cell", data:=.cell none }).IsCell h.objs.size none:=⟨_,Heap.get?_push_size _ rfl,rfl⟩
     exact q.keeps fun b o e=>pushCells_keeps r _ b o e
    ·exact .inl m
   ·exact .inr m
  |false =>
   rw [if_neg (by rw [hk];decide)] at m
   rw [if_neg (by decide)]
   exact uv r h acc x c m
def lF (X:Cx)(scope:Scope)(C:Addr)(cs:List (Str×Addr)):Env:=
 { newEnv scope C X.env.globals cs X.env.qual none .none (some X.env) builtinsNs with scope:=relabel scope X.env }
def v9 (X:Cx)(scope:Scope)(N':List Str)(C:Addr)(cs:List (Str×Addr))(Y8:Shared)(Y9:Hp)(fp:List Addr)(pins:List (Addr×Obj)):Cx:=
 { X with N:=N',Y8:=Y8,Y9:=Y9,env:=lF X scope C cs,outer:=X.stack,stack:=X.stack,ex:=fp,fn:=fun x=>scope.names.lookup x == some .cell,pn:=X.pn++pins,xe:=fun _ _=>False }
structure gP (X:Cx)(scope:Scope):Prop where
 kind:scope.kind=.function
 names:∀y∈scope.names,y.2=.local->scope.names.lookup y.1=some .local
 free:∀y∈scope.names,y.2=.free->(X.env.kindOf y.1=some .cell\/X.env.kindOf y.1=some .free)/\(y.1,NameKind.cell)∉scope.names/\scope.names.lookup y.1=some .free
theorem mem_of_lookupK:∀{l:List (Str×NameKind)} {x:Str} {k:NameKind},l.lookup x=some k->(x,k)∈l
 |(y,d)::r,x,k,h=>by
  rw [List.lookup_cons] at h
  cases hb:x == y with
  |true=>rw [hb] at h;cases h;rw [beq_iff_eq.mp hb];exact List.mem_cons_self
  |false=>rw [hb] at h;exact List.mem_cons_of_mem _ (mem_of_lookupK h)
theorem gC {env:Env}:∀{names:List (Str×NameKind)} {x:Str},names.lookup x=some .free ->
    ((names.map fun (n,k)=>if (k == NameKind.free&&env.scope.kind == .function&&env.kindOf n == some .cell) then (n,NameKind.cell) else (n,k)).lookup x=some .cell \/
     (names.map fun (n,k)=>if (k == NameKind.free&&env.scope.kind == .function&&env.kindOf n == some .cell) then (n,NameKind.cell) else (n,k)).lookup x=some .free)
  |(n,k)::r,x,h=>by
    rw [List.lookup_cons] at h
    have en:∀y:Str×NameKind,y=(if (k == NameKind.free&&env.scope.kind == .function&&env.kindOf n == some .cell)=true then (n,NameKind.cell) else (n,k))->y.1=n/\(y.2=.cell\/y.2=k):=fun y e=>by
      subst e
      split
      · exact⟨rfl,.inl rfl⟩
      · exact⟨rfl,.inr rfl⟩
    rw [List.map_cons]
    dsimp only
    generalize hy:(if (k == NameKind.free&&env.scope.kind == .function&&env.kindOf n == some .cell)=true then (n,NameKind.cell) else (n,k))=y
    obtain⟨e1,e2⟩:=en y hy.symm
    obtain⟨a,b⟩:=y
    dsimp only at e1 e2
    subst e1
    rw [List.lookup_cons]
    cases hb:x == a with
    |true =>
      rw [hb] at h
      cases h
      rcases e2 with rfl | rfl
      · exact .inl rfl
      · exact .inr rfl
    |false =>
      rw [hb] at h
      exact gC h
theorem xR {X:Cx}{scope:Scope}{x:Str}(h:(lF X scope C cs).kindOf x=some .cell\/(lF X scope C cs).kindOf x=some .free):(x,NameKind.cell)∈scope.names\/(x,NameKind.free)∈scope.names:=by
 have key:∀k,(lF X scope C cs).kindOf x=some k->(k=.cell\/k=.free)->(x,NameKind.cell)∈scope.names\/(x,NameKind.free)∈scope.names:=fun k h hk=>by
  have m:=mem_of_lookupK (show (relabel scope X.env).names.lookup x=some k from h)
  unfold relabel at m
  obtain⟨⟨y,j⟩,m1,m2⟩:=List.mem_map.mp m
  dsimp only at m2
  split at m2
  ·next hc =>
   cases m2
   simp only [Bool.and_eq_true,beq_iff_eq] at hc
   rw [hc.1.1] at m1
   exact .inr m1
  ·cases m2
   rcases hk with rfl | rfl
   ·exact .inl m1
   ·exact .inr m1
 rcases h with h | h
 ·exact key _ h (.inl rfl)
 ·exact key _ h (.inr rfl)
section
variable {X:Cx}{pins:List (Addr×Obj)}{σ:L2.St}{H:Hp}{s:Shared}{scope:Scope}{fp:List Addr}{N':List Str}{σ':L2.St}
abbrev om:Obj:={ cls:=.type "list", dict:=none,data:=.seq ([]:List Value).toArray }
abbrev AQ:Obj:={ cls:=.type "dict", data:=.dict #[] }
def h0 (h:Heap)(scope:Scope):Heap:=pushCells ((h.push om).push AQ) scope.names
theorem jq {h:Heap}{b:Addr}{o:Obj}(e:h.get? b=some o):(h0 h scope).get? b=some o:=pushCells_keeps _ _ _ _ (Heap.get?_push_of_some _ (Heap.get?_push_of_some _ e))
theorem Ka (h:Heap):(h0 h scope).get? h.objs.size=some om:=pushCells_keeps _ _ _ _ (Heap.get?_push_of_some _ (Heap.get?_push_size _ rfl))
theorem Cd (I:Inv X pins σ H s)(B:gP X scope)(hf:∀b∈fp,ue X pins H b)(ho:∀b∈fp,∃o,s.heap.get? b=some o)(hl:σ'.length=N'.length)
  (cap:∀(i:Nat) (x:Str) (v:V),N'[i]? = some x->σ'[i]? = some (some v)->((x,NameKind.free)∈scope.names/\∃j:Nat,X.N[j]? = some x/\σ[j]? = some (some v))\/¬ Ly (relabel scope X.env) x) {tk:Nat} :
  Inv (v9 X scope N' (s.heap.objs.size+1) (cellsFrom (s.heap.objs.size+2) scope.names (ia X.env scope.names [])) s H fp pins) [] σ' (upd H s.heap.objs.size (.lst [])) { s with heap:=h0 s.heap scope,toks:=tk }:=by
 have hz1:(s.heap.push om).objs.size=s.heap.objs.size+1:=Heap.size_push ..
 have hz2:((s.heap.push om).push AQ).objs.size=s.heap.objs.size+2:=by rw [Heap.size_push,hz1]
 have hfree:∀y∈scope.names,y.2=.free->∃c,X.env.cells.lookup y.1=some c:=fun y hy hk=>I.ok.has y.1 (B.free y hy hk).1
 have clm:∀x c,(x,c)∈ia X.env scope.names []->X.env.cells.lookup x=some c/\(x,NameKind.free)∈scope.names:=fun x c h=>by
  rcases uw _ _ x c hfree h with h | h
  ·cases h
  ·exact h
 have cl_lt:∀x c,(x,c)∈ia X.env scope.names []->@LT.lt Nat _ c s.heap.objs.size:=fun x c h=>by
  obtain⟨v,q⟩:=I.cell x c (clm x c h).1
  exact q.lt
 have csm:∀x c,(x,c)∈cellsFrom (s.heap.objs.size+2) scope.names (ia X.env scope.names [])->(X.env.cells.lookup x=some c/\(x,NameKind.free)∈scope.names/\@LT.lt Nat _ c s.heap.objs.size)\/(@LE.le Nat _ (s.heap.objs.size+2) c/\(x,NameKind.cell)∈scope.names):=fun x c h=>by
  rcases yH _ _ _ x c h with h | h
  ·exact .inl ⟨(clm x c h).1,(clm x c h).2,cl_lt x c h⟩
  ·exact .inr h
 have hD:H s.heap.objs.size=none:=I.fresh
 have up:∀b:Addr,@LT.lt Nat _ b s.heap.objs.size->upd H s.heap.objs.size (.lst []) b=H b:=fun b hb=>au (Nat.ne_of_lt hb)
 have upF:∀b:Addr,@LT.lt Nat _ s.heap.objs.size b->upd H s.heap.objs.size (.lst []) b=none:=fun b hb=>by rw [au (Nat.ne_of_gt hb)];exact I.hok.fresh (Nat.le_of_lt hb)
 have flt:∀b∈fp,@LT.lt Nat _ b s.heap.objs.size:=fun b hb=>by obtain⟨o,e⟩:=ho b hb;exact Heap.lt_size e
 refine⟨⟨I.ok.mod,B.kind,I.ok.glob,I.ok.blt,Nat.le_succ _,fun x y c h1 h2=>?_,fun x hx=>?_,fun x c hx h=>?_,I.ok.hd,I.ok.frames,.inl rfl,fun b hb=>⟨?_,fun x c h=>?_⟩,I.bs,Nat.le_trans I.ok.bsz I.sz,fun b o e hb=>?_,fun b hb z=>?_,I.stack,I.stkFree⟩,
  rfl,I.bare,?_,⟨fun _=>none,?_,fun i x v e1 e2 e3=>?_⟩,fun x c h=>?_,upF _ (Nat.lt_succ_self _),fun x c h=>?_,fun p hp=>?_,?_,hl⟩
 ·exact yG _ _ _ (fun a b d ha hb=>I.ok.inj a b d (clm a d ha).1 (clm b d hb).1) (fun a d ha=>Nat.lt_of_lt_of_le (cl_lt a d ha) (Nat.le_add_right _ 2)) x y c (PySem.mem_of_lookup h1) (PySem.mem_of_lookup h2)
 ·have hm:∃c,(x,c)∈cellsFrom (s.heap.objs.size+2) scope.names (ia X.env scope.names []):=by
   rcases xR hx with h | h
   ·exact pX _ _ _ x (.inl h)
   ·exact pX _ _ _ x (.inr (o9 _ _ x (.inl h)))
  obtain⟨c,hm⟩:=hm
  exact eX hm
 ·have hx':scope.names.lookup x=some .cell:=beq_iff_eq.mp hx
  rcases csm x c (PySem.mem_of_lookup h) with ⟨_,h2,_⟩ | ⟨h1,_⟩
  ·exact absurd (mem_of_lookupK hx') (B.free _ h2 rfl).2.1
  ·exact Nat.le_trans (Nat.le_add_right _ 2) h1
 ·exact Nat.ne_of_lt (Nat.lt_succ_of_lt (flt b hb))
 ·rcases csm x c (PySem.mem_of_lookup h) with ⟨h1,_,_⟩ | ⟨h1,_⟩
  ·exact (hf b hb).2.2.2.2.1 x c h1
  ·exact Nat.ne_of_gt (Nat.lt_of_lt_of_le (flt b hb) (Nat.le_trans (Nat.le_add_right _ 2) h1))
 ·rcases (hf b hb).2.2.2.1 with z | z
  ·exact I.ok.noex b o e z
  ·exact absurd (Nat.lt_of_lt_of_le (Heap.lt_size e) (Nat.le_trans I.ok.bsz z)) (Nat.lt_irrefl _)
 ·rcases List.mem_cons.mp (I.stkSub b z) with z | z
  ·exact (hf b hb).2.1 z
  ·exact (hf b hb).2.2.1 z
 ·exact Un.laid (fun b o e=>jq e) (Nat.le_refl _) hD
 ·have q:=Heap.Ns.new (s.heap.push om) (.type "dict")
  rw [hz1] at q
  exact q.keeps fun b o e=>pushCells_keeps _ _ b o e
 ·rcases cap i x v e1 e2 with ⟨hx,j,hj,hv⟩ | hn
  ·obtain⟨m,hm,hlk⟩:=I.loc
   have hk:=(B.free _ hx rfl).1
   have vis:Ly X.env.scope x:=by
    rcases hk with hk | hk
    ·exact .inr (.inl hk)
    ·exact .inr (.inr hk)
   obtain⟨u,r,l⟩:=hlk j x v hj hv vis
   refine⟨u,r,.inr ?_⟩
   rcases l with ⟨z,_⟩ | ⟨_,c,hc,hcell⟩
   ·rcases hk with hk | hk<;>(rw [show X.env.kindOf x=X.env.scope.names.lookup x from rfl] at hk z;rw [hk] at z;cases z)
   ·obtain⟨c',hc'⟩:=eX (Classical.choose_spec (pX scope.names (s.heap.objs.size+2) (ia X.env scope.names []) x (.inr (o9 _ _ x (.inl hx)))))
    have ec:c'=c:=by
     rcases csm x c' (PySem.mem_of_lookup hc') with ⟨h1,_,_⟩ | ⟨_,h2⟩
     ·rw [hc] at h1;exact (Option.some.inj h1).symm
     ·exact absurd h2 (B.free _ hx rfl).2.1
    subst ec
    refine⟨?_,c',hc',hcell.keeps fun b o e=>jq e⟩
    rcases e3 with e3 | e3 | e3
    ·rcases gC (env:=X.env) (B.free _ hx rfl).2.2 with q | q
     ·exact .inl q
     ·exact .inr q
    ·exact .inl e3
    ·exact .inr e3
  ·exact absurd e3 hn
 ·rcases uv scope.names ((s.heap.push om).push AQ) (ia X.env scope.names []) x c (by rw [hz2];exact PySem.mem_of_lookup h) with m | m
  ·obtain⟨v,q⟩:=I.cell x c (clm x c m).1
   exact⟨v,q.keeps fun b o e=>jq e⟩
  ·exact⟨none,m⟩
 ·rcases csm x c (PySem.mem_of_lookup h) with ⟨h1,_,h3⟩ | ⟨h1,_⟩
  ·rw [up c h3];exact I.freeC x c h1
  ·exact upF c (Nat.lt_of_lt_of_le (Nat.lt_add_of_pos_right (by decide)) h1)
 ·have hp':p∈X.pn++pins:=by simpa [v9] using hp
  obtain⟨e,n,ne,nf,d⟩:=I.pin p hp'
  have lt:@LT.lt Nat _ p.1 s.heap.objs.size:=Heap.lt_size e
  refine⟨jq e,by rw [up _ lt];exact n,Nat.ne_of_lt (Nat.lt_succ_of_lt lt),fun z=>?_,d⟩
  rcases List.mem_cons.mp (I.stkSub _ z) with z | z
  ·exact ne z
  ·exact nf z
 ·exact I.hok.laid (fun b o e=>jq e) (Nat.le_refl _) ⟨Nat.zero_le _,[],0,.nil,Ka s.heap⟩
end
abbrev BW (ifs:List Expr)(env:Env):Sem Bool:=forIn ifs true fun c r=>if r=true then do let ok <- isTrue c env (eval c env);pure (ForInStep.yield ok) else pure (ForInStep.yield r)
theorem Ck {prog:Program}{w:World}{A:Around}{R:Result->Shared->Prop}{s:Shared}{elt target iter:Expr}{ifs:List Expr}{scope:Scope}{pos:Pos}{it acc:Value}{env:Env}(I:Nat->Shared->Prop)
  (turn:∀n s,I n s->wpAny (model prog w) A (pyNext it) (fun r s₁=>match r with
   |none=>R (.ok .next) s₁
   | some v=>wpAny (model prog w) A (letOwnedTupleGo target it v) (fun _ s₂=>wpAny (model prog w) A (assign target env v) (fun _ s₃=>wpAny (model prog w) A (BW ifs env) (fun ok s₄ =>
     if ok=true then wpAny (model prog w) A (eval elt env) (fun x s₅=>wpAny (model prog w) A (call (.builtin "list.append") [acc,x]) (fun _ s₆=>∃m,m<n/\I m s₆) (fun _ _=>False) s₅) (fun _ _=>False) s₄
     else ∃m,m<n/\I m s₄) (fun _ _=>False) s₃) (fun _ _=>False) s₂) (fun _ _=>False) s₁) (fun _ _=>False) s)
  (n:Nat) (h:I n s):codeAny (model prog w) A (.compLoop (.ListComp elt [⟨target,iter,ifs,0⟩] scope pos) 0 it acc env) R s:=by
 have no:∀{α:Type} {m:Sem α} {Q:α->Shared->Prop} {E:Value->Shared->Prop} {s:Shared},wpAny (model prog w) A m Q (fun _ _=>False) s->wpAny (model prog w) A m Q E s:=fun h=>wpAny_mono h (fun _ _ q=>q) fun _ _ z=>z.elim
 refine codeAny_loop rfl I (fun n s hI=>?_) n h
 refine (wpAny_noted ?_:wpAny _ A ((compTurn (.ListComp elt [⟨target,iter,ifs,0⟩] scope pos) 0 it acc env).onRaise (fun x=>do noteFrame x env;theTreesLotGoes x)) _ _ s)
 rw [compTurn_list]
 refine wpAny_bind (wpAny_standAt (wpAny_bind (wpAny_mono (no (turn n s hI)) (fun r s₁ h₁=>?_) fun _ _ z=>z)))
 cases r with
 |none=>exact wpAny_pure h₁
 |some v =>
  refine wpAny_bind (wpAny_mono (no h₁) (fun _ s₂ h₂=>wpAny_bind (wpAny_mono (no h₂) (fun _ s₃ h₃=>wpAny_bind (wpAny_mono (no h₃) (fun ok s₄ h₄=>?_) fun _ _ z=>z)) fun _ _ z=>z)) fun _ _ z=>z)
  cases ok with
  |false=>exact wpAny_pure ⟨rfl,h₄⟩
  |true=>exact wpAny_bind (wpAny_bind (wpAny_mono (no h₄) (fun x s₅ h₅=>wpAny_bind (wpAny_mono (no h₅) (fun _ s₆ h₆=>wpAny_pure (wpAny_pure ⟨rfl,h₆⟩)) fun _ _ z=>z)) fun _ _ z=>z))
def cM:aK->Bool
 |[]=>true
 |some (.own _)::_=>false
 |_::r=>cM r
theorem gN:∀{τ:aK} {i:Nat} {ts:List T},cM τ=true->τ[i]?≠some (some (.own ts))
 |[],i,ts,_=>by simp
 |some (.own _)::_,i,ts,h=>by cases h
 |some (.sh t)::r,0,ts,h=>by simp
 |none::r,0,ts,h=>by simp
 |some (.sh t)::r,i+1,ts,h=>by rw [List.getElem?_cons_succ];exact gN (τ:=r) h
 |none::r,i+1,ts,h=>by rw [List.getElem?_cons_succ];exact gN (τ:=r) h
def cY (fg:FG)(ft:FT)(fe:FE):List T->aK->List T->Option (List T)
 |[],_,acc=>some acc
 |t::ts,τ,acc=>(fg t τ).bind fun τ1=>(ft τ1).bind fun p=>if p.1=true then (fe p.2).bind fun q=>if cM q.2=true/\acc.length<sizeLine then cY fg ft fe ts q.2 (acc++[q.1]) else none
  else if cM p.2=true then cY fg ft fe ts p.2 acc else none
def frz1 (j:Nat)(τ:aK):aK:=match τ[j]? with
 |some (some (.own ts))=>τ.set j (some (.sh (.lst ts)))
 |_=>τ
def frzAll:List Nat->aK->aK
 |[],τ=>τ
 |j::r,τ=>frzAll r (frz1 j τ)
def wA {α:Type}(l:List (Option α))(j:Nat):Option α:=match l[j]? with
 |some x=>x
 |none=>none
def cN {α:Type}(no:Nat)(cap:List Nat)(l:List (Option α)):List (Option α):=List.replicate no none++cap.map (wA l)
def bB (no:Nat)(cap:List Nat)(fi:FA)(fg:FG)(ft:FT)(fe:FE):FE:=fun τ=>(fi τ).bind fun p =>
 if cM (cN no cap (frzAll cap p.2))=true then (cY fg ft fe p.1 (cN no cap (frzAll cap p.2)) []).bind fun us=>some (.lst us,frzAll cap p.2) else none
def aA:FT:=fun τ=>some (true,τ)
def IH (X:Cx)(ifs:List Expr)(ft:FT):Prop:=∀Y0 Y9 pins s σ H Q,Inv X pins σ H s->tT X.K Y0 Y9 ft σ H Q->wpAny (model X.prog X.w) X.A (BW ifs X.env) (TP X pins σ Q) X.xe s
theorem bY {X:Cx}:IH X [] aA:=fun Y0 Y9 pins s σ H Q I hq__=>by
 obtain⟨F,τ,b,τ',E,e,q⟩:=hq__
 cases e
 exact wpAny_tests_nil ⟨H,I,q F H E (aQ.refl _)⟩
theorem pI {X:Cx}{c:Expr}{ft:FT}(h:ST X c ft):IH X [c] ft:=fun Y0 Y9 pins s σ H Q I q=>wpAny_tests_one (h Y0 Y9 pins s σ H Q I q)
section
variable {K:PySem.W.Frag}{Y0 Y9 F H:Hp}{σ:L2.St}{τ:aK}
theorem aF.frz1 (E:aF K Y0 Y9 F H σ τ)(j:Nat):∃F',aF K Y0 Y9 F' H σ (TM.frz1 j τ)/\aQ F F':=by
 unfold TM.frz1
 split
 ·next ts e =>
  obtain⟨F',v,_,E',s',_⟩:=E.freeze e
  exact⟨F',E',s'⟩
 ·exact⟨F,E,aQ.refl _⟩
theorem aF.frzAll:∀(cap:List Nat) {F:Hp} {τ:aK},aF K Y0 Y9 F H σ τ->∃F',aF K Y0 Y9 F' H σ (TM.frzAll cap τ)/\aQ F F'
 |[],F,τ,E=>⟨F,E,aQ.refl _⟩
 |j::r,F,τ,E=>by
  obtain⟨F1,E1,s1⟩:=E.frz1 j
  obtain⟨F2,E2,s2⟩:=aF.frzAll r E1
  exact⟨F2,E2,s1.trans s2⟩
theorem aF.rebase {H':Hp}(E:aF K Y0 Y9 F H σ τ)(ha:cM τ=true)(s:aQ F H'):aF K F H' F H' σ τ:=by
 refine⟨bf.refl s,E.len,fun i sl e=>?_,fun i j ts us p _ e1=>absurd e1 (gN ha)⟩
 obtain⟨v,h1,h2⟩:=E.sl i sl e
 cases sl with
 |sh t=>exact⟨v,h1,h2⟩
 |own ts=>exact absurd e (gN ha)
theorem sP {α:Type}{no:Nat}{cap:List Nat}{l:List (Option α)}{i:Nat}{x:α}(h:(cN no cap l)[i]? = some (some x)):∃k j:Nat,i=no+k/\cap[k]? = some j/\l[j]? = some (some x):=by
 unfold cN at h
 by_cases hi:i<no
 ·rw [List.getElem?_append_left (by simpa using hi),List.getElem?_replicate] at h
  split at h<;>cases h
 ·rw [List.getElem?_append_right (by simpa using hi),List.length_replicate,List.getElem?_map] at h
  cases e:cap[i-no]? with
  |none=>rw [e] at h;cases h
  |some j =>
   rw [e] at h
   have h':wA l j=some x:=Option.some.inj h
   unfold wA at h'
   split at h'
   ·next y ey=>exact⟨i-no,j,by omega,e,by rw [ey,h']⟩
   ·cases h'
theorem Cc {α:Type}{no:Nat}{cap:List Nat}{l:List (Option α)}{k j:Nat}{x:α}(h1:cap[k]? = some j)(h2:l[j]? = some (some x)):(cN no cap l)[no+k]? = some (some x):=by
 unfold cN
 rw [List.getElem?_append_right (by simp),List.length_replicate,Nat.add_sub_cancel_left,List.getElem?_map,h1]
 show some (wA l j)=_
 unfold wA
 rw [h2]
theorem aF.block {H':Hp}{no:Nat}{cap:List Nat}(E:aF K Y0 Y9 F H σ τ)(ha:cM (cN no cap τ)=true)(s:aQ F H'):aF K F H' F H' (cN no cap σ) (cN no cap τ):=by
 refine⟨bf.refl s,by simp [cN],fun i sl e=>?_,fun i j ts us p _ e1=>absurd e1 (gN ha)⟩
 obtain⟨k,j,rfl,hk,hj⟩:=sP e
 obtain⟨v,h1,h2⟩:=E.sl j sl hj
 refine⟨v,Cc hk h1,?_⟩
 cases sl with
 |sh t=>exact h2
 |own ts=>exact absurd e (gN ha)
end
section
variable {X:Cx}
def iS (i no:Nat)(cap:List Nat)(fi:FA)(fg:FG)(ft:FT)(fe:FE):FS:=fun τ=>(fi τ).bind fun p =>
 if cM (cN no cap (frzAll cap p.2))=true then (cY fg ft fe p.1 (cN no cap (frzAll cap p.2)) []).bind fun us=>some (.nx ((frzAll cap p.2).set i (some (.own us)))) else none
end
def wy (sc scope:Scope):Bool:=scope.kind == .function&&scope.names.all fun y=>(y.2 != .local||scope.names.lookup y.1 == some .local) &&
 (y.2 != .free||((sc.names.lookup y.1 == some .cell||sc.names.lookup y.1 == some .free)&&scope.names.all (fun z=>!(z.1 == y.1&&z.2 == .cell))&&scope.names.lookup y.1 == some .free))
theorem aT {X:Cx}{scope:Scope}(h:wy X.env.scope scope=true):gP X scope:=by
 unfold wy at h
 simp only [Bool.and_eq_true,List.all_eq_true,Bool.or_eq_true,bne_iff_ne,beq_iff_eq,Bool.not_eq_true',Bool.and_eq_false_iff,ne_eq] at h
 refine⟨h.1,fun y hy hk=>?_,fun y hy hk=>?_⟩
 ·rcases (h.2 y hy).1 with z | z
  ·exact absurd hk z
  ·exact z
 ·rcases (h.2 y hy).2 with z | ⟨⟨z1,z2⟩,z3⟩
  ·exact absurd hk z
  ·refine⟨z1,fun m=>?_,z3⟩
   rcases z2 _ m with w | w
   ·simp at w
   ·simp at w
def pV (N N':List Str)(scope:Scope)(no:Nat):List Nat->Bool
 |[]=>true
 |j::r=>(match N'[no]?,N[j]? with | some x,some y=>x == y&&scope.names.any (fun z=>z.1 == x&&z.2 == .free) | _,_=>false)&&pV N N' scope (no+1) r
theorem cb {N N':List Str}{scope:Scope}:∀{no:Nat} {cap:List Nat},pV N N' scope no cap=true->∀(k j:Nat),cap[k]? = some j->∃x,N'[no+k]? = some x/\N[j]? = some x/\(x,NameKind.free)∈scope.names
 |no,[],_,k,j,e=>by simp at e
 |no,c::r,h,k,j,e=>by
  simp only [pV,Bool.and_eq_true] at h
  cases k with
  |zero =>
   simp at e
   subst e
   have h1:=h.1
   split at h1
   ·next x y ex ey =>
    simp only [Bool.and_eq_true,beq_iff_eq,List.any_eq_true] at h1
    obtain⟨rfl,z,hz,z1,z2⟩:=h1
    refine⟨x,ex,ey,?_⟩
    obtain⟨a,b⟩:=z
    dsimp only at z1 z2
    subst z1 z2
    exact hz
   ·cases h1
  |succ k =>
   obtain⟨x,h1,h2,h3⟩:=cb h.2 k j (by simpa using e)
   exact⟨x,by rw [show no+(k+1)=no+1+k by omega];exact h1,h2,h3⟩
inductive O where
 |val (t:T) | lst (os:List O)
mutual
def cX (K:PySem.W.Frag)(F H:Hp):O->V->List Addr->Prop
 | .val t,v,A=>A=[]/\Rep K F t v
 | .lst os,v,A=>∃p vs B,v=.ref p/\A=p::B/\H p=some (.lst vs)/\F p=none/\bF K F H os vs B
def bF (K:PySem.W.Frag)(F H:Hp):List O->List V->List Addr->Prop
 |[],vs,A=>vs=[]/\A=[]
 |o::os,vs,A=>∃v r B C,vs=v::r/\A=B++C/\cX K F H o v B/\bF K F H os r C
end
mutual
def O.tr:O->T
 | .val t=>t
 | .lst os=>.lst (O.trs os)
def O.trs:List O->List T
 |[]=>[]
 |o::os=>o.tr::O.trs os
end
section
variable {K:PySem.W.Frag}{F H F' H':Hp}
mutual
theorem cX.move (sF:aQ F F'):∀{o:O} {v:V} {A:List Addr},(∀a∈A,H' a=H a/\F' a=none)->cX K F H o v A->cX K F' H' o v A
 | .val t,v,A,_,h=>⟨h.1,Rep.mono sF h.2⟩
 | .lst os,v,A,hA,h=>by
  obtain⟨p,vs,B,rfl,rfl,h1,h2,h3⟩:=h
  have hp:=hA p List.mem_cons_self
  exact⟨p,vs,B,rfl,rfl,hp.1.trans h1,hp.2,bF.move sF (fun a ha=>hA a (List.mem_cons_of_mem _ ha)) h3⟩
theorem bF.move (sF:aQ F F'):∀{os:List O} {vs:List V} {A:List Addr},(∀a∈A,H' a=H a/\F' a=none)->bF K F H os vs A->bF K F' H' os vs A
 |[],vs,A,_,h=>h
 |o::os,vs,A,hA,h=>by
  obtain⟨v,r,B,C,rfl,rfl,h1,h2⟩:=h
  exact⟨v,r,B,C,rfl,rfl,cX.move sF (fun a ha=>hA a (List.mem_append_left _ ha)) h1,bF.move sF (fun a ha=>hA a (List.mem_append_right _ ha)) h2⟩
end
mutual
theorem cX.at:∀{o:O} {v:V} {A:List Addr},cX K F H o v A->∀a∈A,F a=none/\∃vs,H a=some (.lst vs)
 | .val t,v,A,h,a,ha=>by rw [h.1] at ha;cases ha
 | .lst os,v,A,h,a,ha=>by
  obtain⟨p,vs,B,rfl,rfl,h1,h2,h3⟩:=h
  rcases List.mem_cons.mp ha with rfl | ha
  ·exact⟨h2,vs,h1⟩
  ·exact bF.at h3 a ha
theorem bF.at:∀{os:List O} {vs:List V} {A:List Addr},bF K F H os vs A->∀a∈A,F a=none/\∃vs,H a=some (.lst vs)
 |[],vs,A,h,a,ha=>by rw [h.2] at ha;cases ha
 |o::os,vs,A,h,a,ha=>by
  obtain⟨v,r,B,C,rfl,rfl,h1,h2⟩:=h
  rcases List.mem_append.mp ha with ha | ha
  ·exact cX.at h1 a ha
  ·exact bF.at h2 a ha
end
mutual
theorem cX.rep (sF:aQ F F'):∀{o:O} {v:V} {A:List Addr},(∀a∈A,F' a=H a)->cX K F H o v A->Rep K F' o.tr v
 | .val t,v,A,_,h=>Rep.mono sF h.2
 | .lst os,v,A,hA,h=>by
  obtain⟨p,vs,B,rfl,rfl,h1,h2,h3⟩:=h
  exact⟨p,vs,rfl,(hA p List.mem_cons_self).trans h1,bF.rep sF (fun a ha=>hA a (List.mem_cons_of_mem _ ha)) h3⟩
theorem bF.rep (sF:aQ F F'):∀{os:List O} {vs:List V} {A:List Addr},(∀a∈A,F' a=H a)->bF K F H os vs A->aW K F' (O.trs os) vs
 |[],vs,A,_,h=>h.1
 |o::os,vs,A,hA,h=>by
  obtain⟨v,r,B,C,rfl,rfl,h1,h2⟩:=h
  exact⟨v,r,rfl,cX.rep sF (fun a ha=>hA a (List.mem_append_left _ ha)) h1,bF.rep sF (fun a ha=>hA a (List.mem_append_right _ ha)) h2⟩
end
theorem bF.app:∀{os us:List O} {vs ws:List V} {A B:List Addr},bF K F H os vs A->bF K F H us ws B->bF K F H (os++us) (vs++ws) (A++B)
 |[],_,_,_,_,_,h,h'=>by obtain⟨rfl,rfl⟩:=h;exact h'
 |o::os,_,_,_,_,_,h,h'=>by
  obtain⟨v,r,B,C,rfl,rfl,h1,h2⟩:=h
  exact⟨v,r++_,B,C++_,rfl,by rw [List.append_assoc],h1,bF.app h2 h'⟩
theorem bF.one {o:O}{v:V}{A:List Addr}(h:cX K F H o v A):bF K F H [o] [v] A:=⟨v,[],A,[],rfl,by simp,h,rfl,rfl⟩
theorem bF.length:∀{os:List O} {vs:List V} {A:List Addr},bF K F H os vs A->vs.length=os.length
 |[],_,_,h=>by rw [h.1];rfl
 |o::os,_,_,h=>by
  obtain⟨v,r,B,C,rfl,rfl,h1,h2⟩:=h
  simp [bF.length h2]
theorem bF.split:∀{os:List O} {vs:List V} {A:List Addr} {k:Nat} {o:O},bF K F H os vs A->os[k]? = some o ->
  ∃(ws:List V) (v:V) (xs:List V) (B C D:List Addr),vs=ws++v::xs/\ws.length=k/\A=B++(C++D)/\bF K F H (os.take k) ws B/\cX K F H o v C/\bF K F H (os.drop (k+1)) xs D
 |[],_,_,k,o,h,e=>by simp at e
 |o::os,_,_,0,o',h,e=>by
  obtain⟨v,r,B,C,rfl,rfl,h1,h2⟩:=h
  simp at e;subst e
  exact⟨[],v,r,[],B,C,rfl,rfl,rfl,⟨rfl,rfl⟩,h1,by simpa using h2⟩
 |o::os,_,_,k+1,o',h,e=>by
  obtain⟨v,r,B,C,rfl,rfl,h1,h2⟩:=h
  obtain⟨ws,w,xs,B',C',D',rfl,rfl,rfl,g1,g2,g3⟩:=bF.split (k:=k) h2 (by simpa using e)
  exact⟨v::ws,w,xs,B++B',C',D',rfl,rfl,by simp [List.append_assoc],⟨v,ws,B,B',rfl,rfl,h1,g1⟩,g2,by simpa using g3⟩
def frzO (F H:Hp)(A:List Addr):Hp:=fun a=>if a∈A then H a else F a
theorem cO {A:List Addr}{a:Addr}(h:a∈A):frzO F H A a=H a:=if_pos h
theorem bM {A:List Addr}{a:Addr}(h:a∉A):frzO F H A a=F a:=if_neg h
theorem eg {A:List Addr}(h:∀a∈A,F a=none):aQ F (frzO F H A):=fun a o e=>by
 rw [bM (fun m=>by rw [h a m] at e;cases e)];exact e
theorem cX.frz {o:O}{v:V}{A:List Addr}(h:cX K F H o v A):Rep K (frzO F H A) o.tr v:=cX.rep (eg fun a ha=>(h.at a ha).1) (fun a ha=>cO ha) h
theorem bf.frzO {Y0 Y9:Hp}{A:List Addr}(g:bf Y0 Y9 F H)(h:∀a∈A,F a=none)(h0:∀a∈A,Y9 a=none):bf Y0 Y9 (frzO F H A) H:=by
 refine⟨g.sF.trans (eg h),g.sH,fun a o e=>?_,fun a o e=>?_⟩
 ·by_cases m:a∈A
  ·rw [cO m] at e;exact e
  ·rw [bM m] at e;exact g.fh _ _ e
 ·by_cases m:a∈A
  ·exact .inr (h0 a m)
  ·rw [bM m] at e;exact g.nw _ _ e
end
section
variable {K:PySem.W.Frag}{Y0 Y9 F H F' H':Hp}{σ:L2.St}{τ:aK}{A:List Addr}
def Apart (σ:L2.St)(τ:aK)(A:List Addr):Prop:=∀(j:Nat) us p,τ[j]? = some (some (.own us))->σ[j]? = some (some (.ref p))->p∉A
theorem aF.frzO (E:aF K Y0 Y9 F H σ τ)(h:∀a∈A,F a=none)(h0:∀a∈A,Y9 a=none)(ow:Apart σ τ A):aF K Y0 Y9 (TM.frzO F H A) H σ τ:=by
 refine⟨E.g.frzO h h0,E.len,fun i s e=>?_,E.dj⟩
 obtain⟨v,h1,h2⟩:=E.sl i s e
 refine⟨v,h1,?_⟩
 cases s with
 |sh t=>exact Rep.mono (eg h) h2
 |own ts =>
  obtain⟨p,vs,rfl,k2,k3,k4,k5⟩:=h2
  exact⟨p,vs,rfl,k2,by rw [bM (ow i ts p e h1)];exact k3,k4,aW.mono (eg h) k5⟩
theorem aF.hp (E:aF K Y0 Y9 F H σ τ)(s:aQ H H'):aF K Y0 Y9 F H' σ τ:=by
 refine⟨⟨E.g.sF,E.g.sH.trans s,E.g.fh.trans s,E.g.nw⟩,E.len,fun i sl e=>?_,E.dj⟩
 obtain⟨v,h1,h2⟩:=E.sl i sl e
 refine⟨v,h1,?_⟩
 cases sl with
 |sh t=>exact h2
 |own ts =>
  obtain⟨p,vs,rfl,k2,k3,k4,k5⟩:=h2
  exact⟨p,vs,rfl,s _ _ k2,k3,k4,k5⟩
end
abbrev jH:=aK->Option (O×aK)
def O7 (K:PySem.W.Frag)(Y0 Y9:Hp)(f:jH):TE:=fun σ H Q=>∃F τ o τ',aF K Y0 Y9 F H σ τ/\f τ=some (o,τ') /\
 ∀F' H' v A,aF K Y0 Y9 F' H' σ τ'->aQ F F'->cX K F' H' o v A->A.Nodup->(∀a∈A,Y9 a=none)->Apart σ τ' A->Q v H'
def uf (X:Cx)(e:Expr)(f:jH):Prop:=∀Y0 Y9,PE X e (O7 X.K Y0 Y9 f)
section
variable {X:Cx}{e:Expr}{pos:Pos}
def Om (f:jH):FE:=fun τ=>(f τ).bind fun p=>some (p.1.tr,p.2)
theorem uf.se {f:jH}(h:uf X e f):SE X e (Om f):=fun Y0 Y9=>PE.weak (h Y0 Y9) fun σ H Q hq__=>by
 obtain⟨F,τ,t,τ',E,e1,q⟩:=hq__
 obtain⟨⟨o,τ1⟩,e2,e1⟩:=bind_some e1
 cases e1
 refine⟨F,τ,o,τ1,E,e2,fun F' H' v A E' s' r nd h0 ow=>?_⟩
 have hF:∀a∈A,F' a=none:=fun a ha=>(r.at a ha).1
 exact q _ H' v (E'.frzO hF h0 ow) (s'.trans (eg hF)) r.frz
def mC (f:FE):jH:=fun τ=>(f τ).bind fun p=>some (.val p.1,p.2)
theorem SE.seo {f:FE}(h:SE X e f):uf X e (mC f):=fun Y0 Y9=>PE.weak (h Y0 Y9) fun σ H Q hq__=>by
 obtain⟨F,τ,t,τ',E,e1,q⟩:=hq__
 obtain⟨⟨o,τ1⟩,e2,e1⟩:=bind_some e1
 cases e1
 exact⟨F,τ,o,τ1,E,e2,fun F' H' v E' s' r=>q F' H' v [] E' s' ⟨rfl,r⟩ List.nodup_nil (fun a ha=>by cases ha) (fun j us p _ _ m=>by cases m)⟩
theorem bF.vals {K:PySem.W.Frag}{F H:Hp}:∀{ts:List T} {vs:List V},aW K F ts vs->bF K F H (ts.map O.val) vs []
 |[],_,h=>⟨h,rfl⟩
 |t::ts,_,h=>by
  obtain⟨v,r,rfl,h2,h3⟩:=h
  exact⟨v,r,[],[],rfl,rfl,⟨rfl,h2⟩,bF.vals h3⟩
theorem cX.new {K:PySem.W.Frag}{F H:Hp}{p:Addr}{ts:List T}{vs:List V}(s:aQ F H)(n:H p=none)(r:aW K F ts vs):cX K F (upd H p (.lst vs)) (.lst (ts.map O.val)) (.ref p) [p]:=
 ⟨p,vs,[],rfl,rfl,aJ,s.free n,.vals r⟩
theorem apart_new {K:PySem.W.Frag}{Y0 Y9 F H:Hp}{σ:L2.St}{τ:aK}{p:Addr}(E:aF K Y0 Y9 F H σ τ)(n:H p=none):Apart σ τ [p]:=fun j us q e1 e2 m=>by
 rw [List.mem_singleton] at m
 subst m
 obtain⟨v,k1,p',vs',rfl,k2,_⟩:=E.sl j _ e1
 rw [e2] at k1;cases k1
 rw [n] at k2;cases k2
def J8 (t:T)(l h:Option Int):Option O:=match t with
 | .lst ts=>some (.lst ((nz ts l h).map .val))
 |_=>none
def D7 (f:FE)(fl fh:FO):jH:=fun τ=>(f τ).bind fun p=>(fl p.2).bind fun q=>(fh q.2).bind fun r=>(J8 p.1 q.1 r.1).bind fun t=>some (t,r.2)
theorem CY {e:Expr}{lo hi:Option Expr}{f:FE}{fl fh:FO}{p2:Pos}(he:SE X e f)(hl:SO X lo fl)(hh:SO X hi fh):uf X (.Subscript e (.Slice lo hi none p2) pos) (D7 f fl fh):=
 fun Y0 Y9=>PE.weak (xJ BJ (he Y0 Y9) (hl Y0 Y9) (hh Y0 Y9)) fun σ H Q hq__=>by
  obtain⟨F,τ,t,τ',E,e1,q⟩:=hq__
  obtain⟨⟨x,τ1⟩,e2,e1⟩:=bind_some e1
  obtain⟨⟨l,τ2⟩,e3,e1⟩:=bind_some e1
  obtain⟨⟨h,τ3⟩,e4,e1⟩:=bind_some e1
  obtain⟨y,e5,e1⟩:=bind_some e1
  cases e1
  refine⟨F,τ,x,τ1,E,e2,fun F1 H1 v E1 s1 r1=>⟨F1,τ1,l,τ2,E1,e3,fun F2 H2 E2 s2=>⟨F2,τ2,h,_,E2,e4,fun F3 H3 E3 s3=>?_⟩⟩⟩
  have r3:=Rep.mono (s2.trans s3) r1
  have sm:=E3.g.fh
  dsimp only at e5
  unfold J8 at e5
  split at e5
  ·cases e5
   obtain⟨p,xs,rfl,h1,h2⟩:=r3
   refine⟨p,xs,rfl,dO.of (sm _ _ h1),fun a ha=>?_⟩
   exact q F3 _ _ [a] (E3.hp (cG ha)) ((s1.trans s2).trans s3) (cX.new sm ha (pd h2 l h)) (by simp) (fun b hb=>by rw [List.mem_singleton] at hb;subst hb;exact E3.g.sH.free ha) (apart_new E3 ha)
  ·cases e5
end
def eV (fg:FG)(ft:FT)(fe:jH):List T->aK->List O->Option (List O)
 |[],_,acc=>some acc
 |t::ts,τ,acc=>(fg t τ).bind fun τ1=>(ft τ1).bind fun p=>if p.1=true then (fe p.2).bind fun q=>if cM q.2=true/\acc.length<sizeLine then eV fg ft fe ts q.2 (acc++[q.1]) else none
  else if cM p.2=true then eV fg ft fe ts p.2 acc else none
section
variable {X:Cx}
structure pN (X:Cx)(pins:List (Addr×Obj))(σ:L2.St)(Y0 Y9 F:Hp)(τ:aK)(rs:List O)(D C:Addr)(s:Shared):Prop where
 ex:∃(H F3:Hp) (vs:List V) (As:List Addr),Inv X pins σ H s/\aF X.K Y0 Y9 F3 H σ τ/\aQ F F3/\F3 D=none/\H D=some (.lst vs)/\Y9 D=none/\bF X.K F3 H rs vs As/\As.Nodup/\(∀a∈As,Y9 a=none/\a≠D)/\Apart σ τ As/\H C=none
 ns:∃m,s.heap.Ns C m
 cl:C≠X.env.locals
 c0:X.Y8.heap.objs.size≤C
 cc:∀x c,X.env.cells.lookup x=some c->c≠C
 cp:∀p∈X.pn++pins,p.1≠C
 ow:∀(j:Nat) us p,τ[j]? = some (some (.own us))->σ[j]? = some (some (.ref p))->p≠D
theorem pZ {elt tg iter:Expr}{ifs:List Expr}{scope:Scope}{pos:Pos}{N':List Str}{no:Nat}{cap:List Nat}{fi:FA}{fg:FG}{ft:FT}{fe:jH}(hx:X.xe=fun _ _=>False)(hc:X.calm=true)(B:gP X scope)(hN:N'.length=no+cap.length)
  (hcap:∀(k j:Nat),cap[k]? = some j->∃x,N'[no+k]? = some x/\X.N[j]? = some x/\(x,NameKind.free)∈scope.names) (hi:SI X tg iter fi)
  (hg:∀C cs Y8 Y9 fp pins,SG (v9 X scope N' C cs Y8 Y9 fp pins) tg fg) (ht:∀C cs Y8 Y9 fp pins,IH (v9 X scope N' C cs Y8 Y9 fp pins) ifs ft) (he:∀C cs Y8 Y9 fp pins,uf (v9 X scope N' C cs Y8 Y9 fp pins) elt fe)
  {Y0 Y9 F H:Hp} {pins:List (Addr×Obj)} {s:Shared} {σ:L2.St} {τ τ1:aK} {ts:List T} {rs:List O} (I:Inv X pins σ H s) (E:aF X.K Y0 Y9 F H σ τ) (e2:fi τ=some (ts,τ1)) (ha:cM (cN no cap (frzAll cap τ1))=true) (e3:eV fg ft fe ts (cN no cap (frzAll cap τ1)) []=some rs)
  {post:Value->Addr->Result->Shared->Prop} (hpost:∀D C s',pN X pins σ Y0 Y9 F (frzAll cap τ1) rs D C s'->post (.ref D) C (.ok .next) s'):
  wpAny (model X.prog X.w) X.A (eval iter X.env) (fun x s₁=>wpAny (model X.prog X.w) X.A (pyIter x) (fun it s₂=>wpAny (model X.prog X.w) X.A (newList []) (fun acc s₃ =>
   wpAny (model X.prog X.w) X.A (newFunctionEnv scope X.env.globals (ia X.env scope.names []) [] X.env.qual none .none (some X.env)) (fun cenv s₄ =>
    codeAny (model X.prog X.w) X.A (.compStart (.ListComp elt [⟨tg,iter,ifs,0⟩] scope pos) 0 it acc { cenv with scope:=relabel scope X.env }) (post acc cenv.locals) s₄) X.xe s₃) X.xe s₂) X.xe s₁) X.xe s:=by
 refine eC (hi Y0 Y9 pins s σ H (fun J H1=>∃F1,aF X.K Y0 Y9 F1 H1 σ τ1/\aQ F F1/\Walks X.K F1 ts J) I ⟨F,τ,ts,τ1,E,e2,fun F1 H1 J E1 s1 W=>⟨F1,E1,s1,W⟩⟩) fun v s1 h1=>eC h1 fun itv s2 h2=>?_
 obtain⟨it,fp,tn,J,H1,rfl,I2,Tn,st2,f2,F1,E1,sF1,W⟩:=h2
 obtain⟨F2,E2,sF2⟩:=E1.frzAll cap
 have W2:Walks X.K F2 ts J:=⟨fun i t F3 H3 e a b=>W.go i t F3 H3 e (sF2.trans a) b,fun i t F3 H3 x H4 e a b y=>W.yld i t F3 H3 x H4 e (sF2.trans a) b y,fun F3 H3 a b=>W.stop F3 H3 (sF2.trans a) b⟩
 refine wpAny_newObj_type ?_
 have hz:(s2.heap.push om).objs.size=s2.heap.objs.size+1:=Heap.size_push ..
 have hz2:((s2.heap.push om).push AQ).objs.size=s2.heap.objs.size+2:=by rw [Heap.size_push,hz]
 simp only [newFunctionEnv,Option.isSome_some,if_true]
 refine wpAny_bind (wpAny_alloc ?_)
 refine wpAny_bind (wpAny_layCells _ (fun name kind cells=>by cases hkc:kind == NameKind.cell<;>simp [hkc]) _ _ _ _ ?_)
 simp only [List.forIn_nil]
 refine wpAny_bind (wpAny_pure (wpAny_pure ?_))
 have loop:codeAny (model X.prog X.w) X.A (.compLoop (.ListComp elt [⟨tg,iter,ifs,0⟩] scope pos) 0 (.ref it) (.ref s2.heap.objs.size) (lF X scope (s2.heap.objs.size+1) (cellsFrom (s2.heap.objs.size+2) scope.names (ia X.env scope.names []))))
   (post (.ref s2.heap.objs.size) (s2.heap.objs.size+1)) { s2 with heap:=h0 s2.heap scope }:=by
  have Ib:=Cd (N':=N') (σ':=cN no cap σ) (tk:=s2.toks) I2 B f2 (fun b hb=>by obtain⟨o,e,_⟩:=Tn.obj 0 _ st2 b hb;exact⟨o,e⟩) (by simp [cN,hN]) (fun i x v a1 a2=>by
   obtain⟨k,j,rfl,hk,hj⟩:=sP a2
   obtain⟨x',b1,b2,b3⟩:=hcap k j hk
   rw [a1] at b1;cases b1
   exact .inl ⟨b3,j,b2,hj⟩)
  generalize hX':v9 X scope N' (s2.heap.objs.size+1) (cellsFrom (s2.heap.objs.size+2) scope.names (ia X.env scope.names [])) s2 H1 fp pins=X' at Ib
  have hg':SG X' tg fg:=by rw [<- hX'];exact hg _ _ _ _ _ _
  have ht':IH X' ifs ft:=by rw [<- hX'];exact ht _ _ _ _ _ _
  have he':uf X' elt fe:=by rw [<- hX'];exact he _ _ _ _ _ _
  have xP:X'.prog=X.prog:=by rw [<- hX'];rfl
  have xw:X'.w=X.w:=by rw [<- hX'];rfl
  have xK:X'.K=X.K:=by rw [<- hX'];rfl
  have xA:X'.A=X.A:=by rw [<- hX'];rfl
  have xc:X'.calm=true:=by rw [<- hX'];exact hc
  have xx:X'.xe=fun _ _=>False:=by rw [<- hX'];rfl
  have xe':X'.env=lF X scope (s2.heap.objs.size+1) (cellsFrom (s2.heap.objs.size+2) scope.names (ia X.env scope.names [])):=by rw [<- hX'];rfl
  have xex:X'.ex=fp:=by rw [<- hX'];rfl
  have xfs:X'.fs=nG X.stack:=by rw [<- hX'];rfl
  have xpn:X'.pn=X.pn++pins:=by rw [<- hX'];rfl
  have xs0:X'.Y8=s2:=by rw [<- hX'];rfl
  have xH0:X'.Y9=H1:=by rw [<- hX'];rfl
  have xl:X'.env.locals=s2.heap.objs.size+1:=by rw [<- hX'];rfl
  rw [<- xe',<- xP,<- xw,<- xA]
  have hD1:H1 s2.heap.objs.size=none:=I2.fresh
  have fpk:∀{Hc:Hp} {σc:L2.St} {pc:List (Addr×Obj)} {sc:Shared},Inv X' pc σc Hc sc->(∀b∈fp,Hc b=none)->∀b∈fp,ue X' [] Hc b:=fun {Hc σc pc sc} Ic hn b hb=>by
   have q1:=Ic.ok.exf b (by rw [xex];exact hb)
   have q2:=Ic.ok.exfs b (by rw [xex];exact hb)
   refine⟨hn b hb,q1.1,q2,.inl (by rw [xex];exact hb),q1.2,fun p hp=>?_⟩
   rw [xpn,List.append_nil] at hp
   exact (f2 b hb).2.2.2.2.2 p hp
  refine Ck (fun n s3=>∃i σ3 H3 F3 τ3 us vs As,Inv X' [] σ3 H3 s3/\tn i s3.heap/\(∀b∈fp,H3 b=none)/\aF X.K F3 H3 F3 H3 σ3 τ3/\cM τ3=true/\F3 s2.heap.objs.size=none/\H3 s2.heap.objs.size=some (.lst vs)/\(bF X.K F3 H3 us vs As/\As.Nodup/\∀a∈As,H1 a=none/\a≠s2.heap.objs.size)/\aQ F2 F3/\aQ H1 H3 /\
   (∀a o,F3 a=some o->F2 a=some o\/H1 a=none)/\i≤ts.length/\n=ts.length-i/\eV fg ft fe (ts.drop i) τ3 us=some rs) ?_ ts.length ?_
  ·rintro n s3 ⟨i,σ3,H3,F3,τ3,us,vs,As,I3,st3,fr3,E3,ha3,fD,hD,⟨rv,nd,fr⟩,sF,sH,nw,hi',rfl,ec⟩
   by_cases hlt:i<ts.length
   ·have hgi:ts[i]? = some ts[i]:=List.getElem?_eq_getElem hlt
    rw [List.drop_eq_getElem_cons hlt] at ec
    obtain⟨τ4,e4,ec⟩:=bind_some ec
    obtain⟨⟨b,τ5⟩,e5,ec⟩:=bind_some ec
    have go:=W2.go i _ F3 H3 hgi sF E3.g.fh
    have itm:=(xP ▸ xw ▸ xK ▸ Tn:Turn X'.prog X'.w X'.K tg J fp it tn).item X' rfl rfl rfl xc i [] s3 σ3 H3 (fun _ _=>False) I3 (fpk I3 fr3) st3 go
    refine eC itm fun r s4 ⟨u,hr,h4⟩=>?_
    subst hr
    refine eC h4 fun _ s5 ⟨x,H5,I5,r5,y5,st5,fr5⟩=>?_
    have I5':=I5.pinned (fpk I5 fr5) (Tn.obj _ _ st5)
    obtain⟨F5,gr,rx⟩:=W2.yld i _ F3 H3 x H5 hgi sF E3.g.fh y5
    have a1:=hg' F3 H3 _ s5 σ3 H5 x u (fun σ6 H6=>∃F6,aF X.K F3 H3 F6 H6 σ6 τ4/\aQ F5 F6) I5' r5 (by rw [xK];exact⟨F5,τ3,ts[i],τ4,E3.grow gr,rx,e4,fun F6 H6 σ6 E6 s6=>⟨F6,E6,s6⟩⟩)
    rw [xx] at a1
    refine eC a1 fun _ s6 ⟨σ6,H6,I6,F6,E6,sF6⟩=>?_
    have a2:=ht' F3 H3 _ s6 σ6 H6 (fun b' H7=>b'=b/\∃F7,aF X.K F3 H3 F7 H7 σ6 τ5/\aQ F6 F7) I6 (by rw [xK];exact⟨F6,τ4,b,τ5,E6,e5,fun F7 H7 E7 s7=>⟨rfl,F7,E7,s7⟩⟩)
    rw [xx] at a2
    refine eC a2 fun ok s7 ⟨H7,I7,hok,F7,E7,sF7⟩=>?_
    subst hok
    have tail:∀{σc:L2.St} {Hc:Hp} {sc:Shared},Inv X' ([]++qS fp s5.heap) σc Hc sc->tn (i+1) sc.heap/\∀b∈fp,Hc b=none:=fun {σc Hc sc} Ic=>by
     refine⟨Tn.keep _ _ _ st5 fun b hb o e=>(Ic.pin (b,o) (List.mem_append_right _ (List.mem_append_right _ (jt hb e)))).1,fun b hb=>?_⟩
     obtain⟨o,e,d⟩:=Tn.obj _ _ st5 b hb
     exact (Ic.pin (b,o) (List.mem_append_right _ (List.mem_append_right _ (jt hb e)))).2.1
    have keepD:∀{Fc Hc:Hp} {σc:L2.St} {τc:aK},aF X.K F3 H3 Fc Hc σc τc->Fc s2.heap.objs.size=none:=fun {Fc Hc σc τc} Ec=>by
     cases eF:Fc s2.heap.objs.size with
     |none=>rfl
     |some o =>
      rcases Ec.g.nw _ o eF with z | z
      ·rw [fD] at z;cases z
      ·rw [hD] at z;cases z
    have newF:∀{Fc Hc:Hp} {σc:L2.St} {τc:aK},aF X.K F3 H3 Fc Hc σc τc->∀a o,Fc a=some o->F2 a=some o\/H1 a=none:=fun {Fc Hc σc τc} Ec a o eF=>by
     rcases Ec.g.nw a o eF with z | z
     ·exact nw a o z
     ·exact .inr (sH.free z)
    have mv:∀{Fc Hc Hd:Hp} {σc:L2.St} {τc:aK},aF X.K F3 H3 Fc Hc σc τc->(∀a,a≠s2.heap.objs.size->Hd a=Hc a)->bF X.K Fc Hd us vs As:=fun {Fc Hc Hd σc τc} Ec hd=>by
     refine bF.move Ec.g.sF (fun a ha=>?_) rv
     obtain⟨f1,ws,f2⟩:=rv.at a ha
     refine⟨by rw [hd a (fr a ha).2,Ec.g.sH _ _ f2,f2],?_⟩
     cases eF:Fc a with
     |none=>rfl
     |some o =>
      rcases Ec.g.nw _ o eF with z | z
      ·rw [f1] at z;cases z
      ·rw [f2] at z;cases z
    cases b':ok with
    |false =>
     subst b'
     dsimp only at ec
     rw [if_neg (by decide)] at ec
     split at ec
     ·next ha =>
      rw [if_neg (by decide)]
      obtain⟨t1,t2⟩:=tail I7
      exact⟨ts.length-(i+1),by omega,i+1,σ6,H7,F7,τ5,us,vs,As,I7.unpinned,t1,t2,E7.rebase ha E7.g.fh,ha,keepD E7,E7.g.sH _ _ hD,⟨mv E7 (fun _ _=>rfl),nd,fr⟩,sF.trans E7.g.sF,sH.trans E7.g.sH,newF E7,hlt,rfl,ec⟩
     ·cases ec
    |true =>
     subst b'
     dsimp only at ec
     rw [if_pos rfl] at ec
     rw [if_pos rfl]
     obtain⟨⟨y0,τ6⟩,e6,ec⟩:=bind_some ec
     dsimp only at ec
     split at ec
     ·next ha =>
      have a3:=he' F3 H3 _ s7 σ6 H7 (fun y H8=>∃F8 Ay,aF X.K F3 H3 F8 H8 σ6 τ6/\cX X.K F8 H8 y0 y Ay/\Ay.Nodup/\∀a∈Ay,H3 a=none) I7 (by rw [xK];exact⟨F7,τ5,y0,τ6,E7,e6,fun F8 H8 y Ay E8 s8 r8 n8 h8 _=>⟨F8,Ay,E8,r8,n8,h8⟩⟩)
      rw [xx] at a3
      refine eC a3 fun yv s8 ⟨y,H8,I8,ry,F8,Ay,E8,rp,ndy,hy8⟩=>?_
      have dD:H8 s2.heap.objs.size=some (.lst vs):=E8.g.sH _ _ hD
      have a4:=nK (X:=X') _ s8 σ6 H8 (.ref s2.heap.objs.size) [y] (.ref s2.heap.objs.size) [yv] (fun _ H9=>H9=upd H8 s2.heap.objs.size (.lst (vs++[y]))) I8 rfl (.cons ry .nil) ⟨s2.heap.objs.size,vs,y,rfl,rfl,dD,by rw [rv.length];exact ha.2,rfl⟩
      rw [xx] at a4
      refine eC a4 fun _ s9 ⟨_,H9,I9,_,e9⟩=>?_
      subst e9
      obtain⟨t1,t2⟩:=tail I9
      have kD:=keepD E8
      have sm:aQ F8 (upd H8 s2.heap.objs.size (.lst (vs++[y]))):=fun c o z=>by rw [au (fun w=>by subst w;rw [kD] at z;cases z)];exact E8.g.fh _ _ z
      have sm1:aQ H1 (upd H8 s2.heap.objs.size (.lst (vs++[y]))):=fun c o z=>by rw [au (fun w=>by subst w;rw [hD1] at z;cases z)];exact E8.g.sH _ _ (sH _ _ z)
      have yD:∀a∈Ay,a≠s2.heap.objs.size:=fun a ha z=>by have:=hy8 a ha;rw [z,hD] at this;cases this
      have rp9:cX X.K F8 (upd H8 s2.heap.objs.size (.lst (vs++[y]))) y0 y Ay:=cX.move (aQ.refl _) (fun a ha=>⟨au (yD a ha),(rp.at a ha).1⟩) rp
      have all9:bF X.K F8 (upd H8 s2.heap.objs.size (.lst (vs++[y]))) (us++[y0]) (vs++[y]) (As++Ay):=(mv E8 (fun a ha=>au ha)).app (.one rp9)
      have nd9:(As++Ay).Nodup:=List.nodup_append.mpr ⟨nd,ndy,fun a ha b hb z=>by subst z;obtain⟨_,ws,f2⟩:=rv.at a ha;rw [hy8 a hb] at f2;cases f2⟩
      have fr9:∀a∈As++Ay,H1 a=none/\a≠s2.heap.objs.size:=fun a ha=>by
       rcases List.mem_append.mp ha with ha | ha
       ·exact fr a ha
       ·exact⟨sH.free (hy8 a ha),yD a ha⟩
      exact⟨ts.length-(i+1),by omega,i+1,σ6,_,F8,τ6,us++[y0],vs++[y],As++Ay,I9.unpinned,t1,t2,E8.rebase ha.1 sm,ha.1,kD,aJ,⟨all9,nd9,fr9⟩,sF.trans E8.g.sF,sm1,newF E8,hlt,rfl,ec⟩
     ·cases ec
   ·have hie:i=ts.length:=by omega
    subst hie
    rw [List.drop_length] at ec
    cases ec
    have dn:=(xP ▸ xw ▸ xK ▸ Tn:Turn X'.prog X'.w X'.K tg J fp it tn).done X' rfl rfl rfl xc ts.length [] s3 σ3 H3 (fun _ _=>False) I3 (fpk I3 fr3) st3 (W2.stop F3 H3 sF E3.g.fh)
    refine eC dn fun r s4 ⟨hr,I4⟩=>?_
    subst hr
    obtain⟨m4,hm4,_⟩:=I4.loc
    rw [xl] at hm4
    have un:=I4.base
    rw [xfs,xex,xH0,xs0] at un
    have ox:=I4.os
    rw [xs0] at ox
    have hok4:=I4.hok
    rw [xP,xw] at hok4
    have IX:Inv X pins σ H3 s4:=I2.call' ox un hok4 I4.bare fun b hb=>⟨(f2 b hb).2.2.2.1,(f2 b hb).2.1,(f2 b hb).2.2.2.2.1,(f2 b hb).2.2.2.2.2⟩
    have hC:H3 (s2.heap.objs.size+1)=none:=by have:=I4.free;rw [xl] at this;exact this
    have lC:@LT.lt Nat _ X.env.locals s2.heap.objs.size:=I2.lt
    have gr:bf F2 H1 F3 H3:=⟨sF,sH,E3.g.fh,nw⟩
    have ap3:Apart σ (frzAll cap τ1) As:=fun j us p j1 j2 m=>by
     obtain⟨v,k1,p',vs',rfl,k2,_⟩:=E2.sl j _ j1
     rw [j2] at k1;cases k1
     rw [(fr _ m).1] at k2;cases k2
    refine hpost _ _ _ ⟨⟨H3,F3,vs,As,IX,E2.grow gr,(sF1.trans sF2).trans sF,fD,hD,E2.g.sH.free hD1,rv,nd,fun a ha=>⟨E2.g.sH.free (fr a ha).1,(fr a ha).2⟩,ap3,hC⟩,⟨m4,hm4⟩,Nat.ne_of_gt (Nat.lt_succ_of_lt lC),Nat.le_trans I2.sz (Nat.le_succ _),
     fun x c hxc=>by obtain⟨v,z⟩:=I2.cell x c hxc;exact Nat.ne_of_lt (Nat.lt_succ_of_lt z.lt),fun p hp=>Nat.ne_of_lt (Nat.lt_succ_of_lt (Heap.lt_size (I2.pin p hp).1)),fun j us p j1 j2=>?_⟩
    obtain⟨v,k1,p',vs',rfl,k2,_⟩:=E2.sl j _ j1
    rw [j2] at k1;cases k1
    exact bp k2 hD1
  ·refine⟨0,cN no cap σ,upd H1 s2.heap.objs.size (.lst []),F2,cN no cap (frzAll cap τ1),[],[],[],Ib,Tn.keep _ _ _ st2 fun b hb o e=>jq e,fun b hb=>?_,E2.block ha (E2.g.fh.trans (cG hD1)),ha,E2.g.fh.free hD1,aJ,⟨⟨rfl,rfl⟩,List.nodup_nil,fun a ha=>by cases ha⟩,aQ.refl _,cG hD1,fun a o z=>.inl z,Nat.zero_le _,rfl,e3⟩
   obtain⟨o,e,_⟩:=Tn.obj 0 _ st2 b hb
   rw [au (Nat.ne_of_lt (Heap.lt_size e))]
   exact (f2 b hb).1
 have fin:∀{C:Addr} {cs:List (Str×Addr)},C=s2.heap.objs.size+1->cs=cellsFrom (s2.heap.objs.size+2) scope.names (ia X.env scope.names []) ->
   codeAny (model X.prog X.w) X.A (.compStart (.ListComp elt [⟨tg,iter,ifs,0⟩] scope pos) 0 (.ref it) (.ref s2.heap.objs.size) (lF X scope C cs)) (post (.ref s2.heap.objs.size) C) { s2 with heap:=h0 s2.heap scope }:=fun {C cs} h1 h2=>by
  subst h1 h2
  exact codeAny_compStart_list loop (Tn.self _ 0 _ _ _ (Tn.keep _ _ _ st2 fun b hb o e=>jq e) loop)
 exact fin hz (by rw [<- hz2])
def eW (no:Nat)(cap:List Nat)(fi:FA)(fg:FG)(ft:FT)(fe:jH):jH:=fun τ=>(fi τ).bind fun p =>
 if cM (cN no cap (frzAll cap p.2))=true then (eV fg ft fe p.1 (cN no cap (frzAll cap p.2)) []).bind fun us=>some (.lst us,frzAll cap p.2) else none
theorem pN.fin {pins:List (Addr×Obj)}{σ:L2.St}{Y0 Y9 F:Hp}{τ:aK}{rs:List O}{D C:Addr}{s:Shared}(Z:pN X pins σ Y0 Y9 F τ rs D C s):
  ∃(H F3:Hp) (As:List Addr),Inv X pins σ H s/\aF X.K Y0 Y9 F3 H σ τ/\aQ F F3/\cX X.K F3 H (.lst rs) (.ref D) As/\As.Nodup/\(∀a∈As,Y9 a=none)/\Apart σ τ As/\H C=none:=by
 obtain⟨H,F3,vs,As,IX,E3,sF,fD,hD,h0D,rv,nd,h0,ap,hC⟩:=Z.ex
 refine⟨H,F3,D::As,IX,E3,sF,⟨D,vs,As,rfl,rfl,hD,fD,rv⟩,List.nodup_cons.mpr ⟨fun m=>(h0 D m).2 rfl,nd⟩,fun a ha=>?_,fun j us p e1 e2 m=>?_,hC⟩
 ·rcases List.mem_cons.mp ha with rfl | ha
  ·exact h0D
  ·exact (h0 a ha).1
 ·rcases List.mem_cons.mp m with rfl | m
  ·exact Z.ow j us _ e1 e2 rfl
  ·exact ap j us p e1 e2 m
theorem ja {elt tg iter:Expr}{ifs:List Expr}{scope:Scope}{pos:Pos}{N':List Str}{no:Nat}{cap:List Nat}{fi:FA}{fg:FG}{ft:FT}{fe:jH}(hx:X.xe=fun _ _=>False)(hc:X.calm=true)(B:gP X scope)(hN:N'.length=no+cap.length)
  (hcap:∀(k j:Nat),cap[k]? = some j->∃x,N'[no+k]? = some x/\X.N[j]? = some x/\(x,NameKind.free)∈scope.names) (hi:SI X tg iter fi)
  (hg:∀C cs Y8 Y9 fp pins,SG (v9 X scope N' C cs Y8 Y9 fp pins) tg fg) (ht:∀C cs Y8 Y9 fp pins,IH (v9 X scope N' C cs Y8 Y9 fp pins) ifs ft) (he:∀C cs Y8 Y9 fp pins,uf (v9 X scope N' C cs Y8 Y9 fp pins) elt fe)
  (hs:∀x,foldedSetIterable iter X.env x=pure x:=by intro _;rfl):uf X (.ListComp elt [⟨tg,iter,ifs,0⟩] scope pos) (eW no cap fi fg ft fe):=by
 intro Y0 Y9 pins s σ H Q I ⟨F,τ,t,τ',E,e1,q⟩
 obtain⟨⟨ts,τ1⟩,e2,e1⟩:=bind_some e1
 dsimp only at e1
 split at e1
 ·next ha =>
  obtain⟨rs,e3,e1⟩:=bind_some e1
  cases e1
  have hfree:∀y∈scope.names,y.2=.free->∃c,X.env.cells.lookup y.1=some c:=fun y hy hk=>I.ok.has y.1 (B.free y hy hk).1
  rw [eval_ListComp]
  refine wpAny_comprehension_free (use:=none) rfl hs (pY hfree) B.kind B.names (pZ hx hc B hN hcap hi hg ht he I E e2 ha e3 fun D C s' Z=>?_)
  obtain⟨H3,F3,As,IX,E3,sF,ro,nd,h0,ap,hC⟩:=Z.fin
  obtain⟨m,hm⟩:=Z.ns
  refine⟨m,hm,fun h' sb=>⟨.ref D,H3,IX.turned (t':=s'.toks) (it:=C) (fun b o hb e=>(sb.2 b hb).trans e) hC Z.cl (.inr Z.c0) Z.cc Z.cp,rfl,?_⟩⟩
  exact q F3 H3 (.ref D) As E3 sF ro nd h0 ap
 ·cases e1
def MY (K:PySem.W.Frag)(Y0 Y9:Hp)(i:Nat)(f:jH):TS:=fun D σ H=>∃F τ o τ',aF K Y0 Y9 F H σ τ/\f τ=some (o,τ') /\
 ∀F' H' v A,aF K Y0 Y9 F' H' σ τ'->aQ F F'->cX K F' H' o v A->A.Nodup->(∀a∈A,Y9 a=none)->Apart σ τ' A->D.nx (σ.set i (some v)) H'
theorem xM (i:Nat){y:Str}{py spos:Pos}{elt tg iter:Expr}{ifs:List Expr}{scope:Scope}{pos:Pos}{N':List Str}{no:Nat}{cap:List Nat}{fi:FA}{fg:FG}{ft:FT}{fe:jH}(hNd:X.N.Nodup)(hiy:X.N[i]? = some y)(hy:X.env.scope.names.lookup y=some .local)
  (hx:X.xe=fun _ _=>False) (hc:X.calm=true) (B:gP X scope) (hN:N'.length=no+cap.length)
  (hcap:∀(k j:Nat),cap[k]? = some j->∃x,N'[no+k]? = some x/\X.N[j]? = some x/\(x,NameKind.free)∈scope.names) (hi:SI X tg iter fi)
  (hg:∀C cs Y8 Y9 fp pins,SG (v9 X scope N' C cs Y8 Y9 fp pins) tg fg) (ht:∀C cs Y8 Y9 fp pins,IH (v9 X scope N' C cs Y8 Y9 fp pins) ifs ft) (he:∀C cs Y8 Y9 fp pins,uf (v9 X scope N' C cs Y8 Y9 fp pins) elt fe)
  (hsw:swapsWith (.ListComp elt [⟨tg,iter,ifs,0⟩] scope pos) (some (.Name y py)) spos.line X.env=pure true:=by rfl) (hs:∀x,foldedSetIterable iter X.env x=pure x:=by intro _;rfl) (Y0 Y9:Hp):
  PS X (.Assign [.Name y py] (.ListComp elt [⟨tg,iter,ifs,0⟩] scope pos) spos) (MY X.K Y0 Y9 i (eW no cap fi fg ft fe)):=by
 intro pins s σ H Dn I ⟨F,τ,r,τ',E,e1,q⟩
 obtain⟨⟨ts,τ1⟩,e2,e1⟩:=bind_some e1
 dsimp only at e1
 split at e1
 ·next ha =>
  obtain⟨rs,e3,e1⟩:=bind_some e1
  cases e1
  have hfree:∀y∈scope.names,y.2=.free->∃c,X.env.cells.lookup y.1=some c:=fun y hy hk=>I.ok.has y.1 (B.free y hy hk).1
  rw [exec_Assign_Name_used _ _ _ _ hsw]
  refine wpAny_bind (wpAny_standAt (wpAny_bind (?_:wpAny _ X.A (do let _ <- comprehension (.ListComp elt [⟨tg,iter,ifs,0⟩] scope pos) scope X.env _ (newList []) false (eval iter X.env) (some (assign (.Name y py) X.env))) _ _ s)))
  refine wpAny_bind (eC (wpAny_comprehension_free (use:=some (assign (.Name y py) X.env)) (Q:=fun _ s'=>SP X pins Dn .next s') rfl hs (pY hfree) B.kind B.names (pZ hx hc B hN hcap hi hg ht he I E e2 ha e3 fun D C s' Z=>?_)) fun _ s' hq=>wpAny_pure (wpAny_pure hq))
  obtain⟨H3,F3,As,IX,E3,sF,ro,nd,h0,ap,hC⟩:=Z.fin
  obtain⟨m,hm⟩:=Z.ns
  refine (wpAny_assign_Name (tN IX hNd hiy (.inl hy) (v:=.ref D) rfl (fun s'' I'' w=>?_) (.inr hy)):wpAny _ X.A (assign (.Name y py) X.env (.ref D)) _ _ _)
  obtain⟨a,sb,hab⟩:=w
  have aC:C≠a:=fun z=>by
   subst z
   rcases hab with z | z
   ·exact Z.cl z
   ·exact Z.cc _ _ z rfl
  refine⟨m,hm.sameBut sb aC,fun h' sb'=>⟨_,H3,I''.turned (t':=s''.toks) (it:=C) (fun b o hb e=>(sb'.2 b hb).trans e) hC Z.cl (.inr Z.c0) Z.cc Z.cp,?_⟩⟩
  exact q F3 H3 _ As E3 sF ro nd h0 ap
 ·cases e1
end
def iP (H:Hp)(A:List Addr):Hp:=fun a=>if a∈A then none else H a
theorem gH {H:Hp}{A:List Addr}{a:Addr}(h:a∈A):iP H A a=none:=if_pos h
theorem bH {H:Hp}{A:List Addr}{a:Addr}(h:a∉A):iP H A a=H a:=if_neg h
theorem kH {H:Hp}{A:List Addr}:aQ (iP H A) H:=fun a o e=>by
 by_cases m:a∈A
 ·rw [gH m] at e;cases e
 ·rw [bH m] at e;exact e
def O3 (K:PySem.W.Frag)(n:Nat)(d:O->List T->Option T):Sp:=fun vs H Q _=>vs.length=n/\∃F o v ws ts A t,aQ F H/\vs=v::ws/\cX K F H o v A/\A.Nodup/\aW K F ts ws/\d o ts=some t /\
 ∀F' H' v',bf F (iP H A) F' H'->Rep K F' t v'->Q v' H'
structure wc (P:Program)(w:World)(K:PySem.W.Frag)(mg:Str->Option Value)(base:Heap)(k:Nat)(x:Str)(n:Nat)(d:O->List T->Option T):Prop where
 ex:∃f fd ps,ir P w K mg base tZ k f fd ps (O3 K n d)/\Binds K fd ps []/\PySem.W.keepIn K (.ref f)=true/\mg x=some (.ref f)/\ps.length=n
theorem wc.mono {P:Program}{w:World}{K:PySem.W.Frag}{mg:Str->Option Value}{base:Heap}{j k n:Nat}{x:Str}{d:O->List T->Option T}(D:wc P w K mg base j x n d)(h:j≤k):wc P w K mg base k x n d:=by
 obtain⟨f,fd,ps,F,r⟩:=D.ex
 exact⟨f,fd,ps,F.mono h,r⟩
section
variable {K:PySem.W.Frag}{Y0 Y9 F₁ H₁ F H F' H':Hp}{σ:L2.St}{τ:aK}
theorem cX.over {o:O}{v:V}{A:List Addr}(g:bf F H F' H')(h:cX K F H o v A):cX K F' H' o v A:=by
 refine cX.move g.sF (fun a ha=>?_) h
 obtain⟨f1,ws,f2⟩:=h.at a ha
 refine⟨by rw [g.sH _ _ f2,f2],?_⟩
 cases eF:F' a with
 |none=>rfl
 |some o =>
  rcases g.nw _ o eF with z | z
  ·rw [f1] at z;cases z
  ·rw [f2] at z;cases z
theorem bf.taken {A:List Addr}{F1 H1:Hp}(g:bf Y0 Y9 F H)(h0:∀a∈A,Y9 a=none)(g1:bf F (iP H A) F1 H1):bf Y0 Y9 F1 H1:=by
 refine⟨g.sF.trans g1.sF,fun a o e=>?_,g1.fh,fun a o e=>?_⟩
 ·refine g1.sH a o ?_
  rw [bH (fun m=>by rw [h0 a m] at e;cases e)]
  exact g.sH a o e
 ·rcases g1.nw a o e with z | z
  ·exact g.nw a o z
  ·by_cases m:a∈A
   ·exact .inr (h0 a m)
   ·rw [bH m] at z;exact .inr (g.sH.free z)
end
section
variable {X:Cx}{e:Expr}{f:FE}{ft:FT}{es:List Expr}{g:FA}
theorem SE.any (h:SE X e f):PE X e (fun σ H Q=>∃Y0 Y9,tE X.K Y0 Y9 f σ H Q):=fun pins s σ H Q I ⟨Y0,Y9,q⟩=>h Y0 Y9 pins s σ H Q I q
theorem SA.any (h:SA X es g):PA X es (fun σ H Q=>∃Y0 Y9,tA X.K Y0 Y9 g σ H Q):=fun p pins s σ H Q I ⟨Y0,Y9,q⟩=>h Y0 Y9 p pins s σ H Q I q
end
section
variable {X:Cx}
def boolsOf:List T->Option (List Bool)
 |[]=>some []
 | .bl b::r=>(boolsOf r).bind fun bs=>some (b::bs)
 |_=>none
def Nz:List T->Option T
 |[.lst ts]=>(boolsOf ts).bind fun bs=>some (.bl (bs.all id))
 |_=>none
def JQ:List T->Option T
 |[.lst ts]=>some (.tup ts)
 |[.tup ts]=>some (.tup ts)
 |_=>none
theorem Hy:M4 X "int.bit_length" (fun x vs H Q=>∃i,x=.int i/\vs=[]/\Q (.int (Builtin.Int.intBits i)) H):=by
 intro pins s σ H x vs v us Q I rx rv ⟨i,hx,hvs,q⟩
 subst hx;subst hvs
 obtain⟨t,rfl⟩:=rx
 have:=rv.zero
 subst this
 exact PyProof.Rows.call_int_bit_length ⟨.int _,H,I.tok _,⟨_,rfl⟩,q⟩
def k9:T->Option T
 | .int i=>some (.int (Builtin.Int.intBits i))
 |_=>none
theorem pF {e:Expr}{f:FE}{p2 p3:Pos}(he:SE X e f)(hbase:attributeBase e "bit_length" X.env (eval e X.env)=eval e X.env:=by rfl)(hline:(p2.endLine == p3.line)=true:=by rfl):
  SE X (.Call (.Attribute e "bit_length" p2) [] [] p3) (wb k9 f):=fun Y0 Y9 =>
 PE.weak (Fe PySem.F.plainAttrs_int PySem.F.slot_int_bit_length PySem.F.type_int_bit_length Hy (he Y0 Y9) hbase hline) fun σ H Q hq__=>by
  obtain⟨F,τ,t,τ',E,e1,q⟩:=hq__
  obtain⟨⟨x,τ1⟩,e2,e1⟩:=bind_some e1
  obtain⟨z,e4,e1⟩:=bind_some e1
  cases e1
  refine⟨F,τ,x,_,E,e2,fun F1 H1 v1 E1 s1 r1=>?_⟩
  dsimp only at e4
  unfold k9 at e4
  split at e4
  ·cases e4;cases r1
   exact⟨rfl,_,rfl,rfl,q F1 H1 _ E1 s1 rfl⟩
  ·cases e4
theorem mW {x:Str}{i:Int}{t:Tok}{pos:Pos}(hg:Gl X x)(hm:X.mg x=some (.int i t))(hd:(x == ("__debug__" : Str))=false:=by decide):SE X (.Name x pos) (fC (.int i)):=i9 (vw (v:=.int i) hg hm ⟨_,rfl⟩ hd) fun _=>rfl
def bo (f:FE):FA:=fun τ=>(f τ).bind fun p=>match p.1 with | .lst ts=>some (ts,p.2) | .scr ts=>some (ts,p.2) | .tup ts=>some (ts,p.2) | _=>none
theorem di {tg l:Expr}{f:FE}(h:SE X l f):SI X tg l (bo f):=by
 intro Y0 Y9 pins s σ H R I ⟨F,τ,ts,τ',E,e1,q⟩
 obtain⟨⟨x,τ1⟩,e2,e1⟩:=bind_some e1
 dsimp only at e1
 split at e1
 ·exact BI h Y0 Y9 pins s σ H R I ⟨F,τ,ts,τ',E,by unfold yU;rw [e2];exact e1,q⟩
 ·exact BI h Y0 Y9 pins s σ H R I ⟨F,τ,ts,τ',E,by unfold yU;rw [e2];exact e1,q⟩
 ·exact K7 h Y0 Y9 pins s σ H R I ⟨F,τ,ts,τ',E,by unfold Ea;rw [e2];exact e1,q⟩
 ·cases e1
end
theorem Hi {P:Program}{w:World}{K:PySem.W.Frag}{mg:Str->Option Value}{base:Heap}{x qual:Str}{st:Stmt}{f:Addr}{fd:FuncData}{N ps:List Str}{k:Nat}{fb:FS}(F:fW K x qual st f fd)(S:aV N ps (aw st))
  (h:∀(cdv:Value) (A:Around) (outer:List Env) (s:Shared) (H:Hp) (E:XK),eK k (A.deeper (envOfC qual (aw st) s.heap.objs.size f cdv))->ug (nA tZ P w K mg base N qual (aw st) f cdv A outer s H E).nox (dy st) fb):
  ir P w K mg base tZ (k+1) f fd ps (spT K ps.length (dH N.length ps.length fb)):=by
 refine F.ok S (fun vs H Q E z=>z.1) (fun cdv A outer s H vs Q E hr z=>?_)
 obtain⟨hl,F1,ts,t,sm,r,e,q⟩:=z
 unfold dH at e
 split at e
 ·next hn =>
  obtain⟨r',e1,e⟩:=bind_some e
  refine⟨_,h cdv A outer s H E hr F1 H,F1,_,r',?_,e1,?_⟩
  ·have:=kJ (N:=N) sm r
   rw [hn] at this
   exact this
  ·cases r' with
   |rt u=>cases e;exact fun F' H' v g r'=>q F' H' v g r'
   |nx τ=>cases e;exact fun F' H' σ' E' s'=>q F' H' .non E'.g rfl
   |bk τ=>cases e
   |ct τ=>cases e
 ·cases e
structure wj (K:PySem.W.Frag)(F0 H0 F H:Hp)(p:Addr)(os:List O)(A:List Addr):Prop where
 g:bf F0 H0 F H
 r:cX K F H (.lst os) (.ref p) A
 nd:A.Nodup
 h0:∀a∈A,H0 a=none
section
variable {K:PySem.W.Frag}{F0 H0 F H F1 H1:Hp}{p:Addr}{os:List O}{A:List Addr}
theorem wj.root (S:wj K F0 H0 F H p os A):∃vs B,A=p::B/\H p=some (.lst vs)/\F p=none/\bF K F H os vs B:=by
 obtain⟨p',vs,B,e,rfl,h1,h2,h3⟩:=S.r
 cases e
 exact⟨vs,B,rfl,h1,h2,h3⟩
theorem Ie {α:Type}(a:List α)(x y:α)(b:List α):(a++x::b).set a.length y=a++y::b:=by
 rw [List.set_append_right _ _ (Nat.le_refl _),Nat.sub_self,List.set_cons_zero]
theorem HZ {os:List O}{j:Nat}{o:O}(o':O)(e:os[j]? = some o):os.set j o'=os.take j++([o']++os.drop (j+1)):=by
 rw [List.set_eq_take_append_cons_drop,if_pos (List.getElem?_eq_some_iff.mp e).1]
 rfl
def iu:List O->Bool
 |[]=>true
 | .val _::r=>iu r
 |_::_=>false
theorem bF.plain:∀{ro:List O} {ws:List V} {C:List Addr},iu ro=true->bF K F H ro ws C->C=[]/\aW K F (O.trs ro) ws
 |[],ws,C,_,h=>⟨h.2,h.1⟩
 | .val t::r,ws,C,ha,h=>by
  obtain⟨v,q,B,D,rfl,rfl,⟨rfl,h1⟩,h2⟩:=h
  obtain⟨rfl,h3⟩:=bF.plain (ro:=r) ha h2
  exact⟨rfl,v,q,rfl,h1,h3⟩
 | .lst _::r,ws,C,ha,h=>by cases ha
theorem wj.row (S:wj K F0 H0 F H p os A){j:Nat}{ro:List O}(e:os[j]? = some (.lst ro))(ha:iu ro=true):∃vs q ws,H p=some (.lst vs)/\vs[j]? = some (.ref q)/\H q=some (.lst ws)/\aW K F (O.trs ro) ws/\vs.length=os.length:=by
 obtain⟨vs,B,rfl,h1,h2,h3⟩:=S.root
 have hl:=h3.length
 obtain⟨ws,v0,xs,B1,C,D,rfl,rfl,rfl,g1,⟨q,zs,C',rfl,rfl,k1,k2,k3⟩,g3⟩:=h3.split e
 obtain⟨rfl,k4⟩:=k3.plain ha
 exact⟨_,q,zs,h1,by rw [List.getElem?_append_right (Nat.le_refl _),Nat.sub_self,List.getElem?_cons_zero],k1,k4,hl⟩
theorem wj.turn (S:wj K F0 H0 F H p os A){j:Nat}{ro:List O}{vs:List V}{q:Addr}{ts:List T}{ws:List V}(e:os[j]? = some (.lst ro))(ha:iu ro=true)(hp:H p=some (.lst vs))(hq:vs[j]? = some (.ref q))(r:aW K F ts ws):
  wj K F0 H0 F (upd H q (.lst ws)) p (os.set j (.lst (ts.map O.val))) A:=by
 obtain⟨vs',B,rfl,h1,h2,h3⟩:=S.root
 rw [hp] at h1;cases h1
 obtain⟨us,v0,xs,B1,C,D,rfl,rfl,rfl,g1,⟨q',zs,C',rfl,rfl,k1,k2,k3⟩,g3⟩:=h3.split e
 rw [List.getElem?_append_right (Nat.le_refl _),Nat.sub_self,List.getElem?_cons_zero] at hq
 cases hq
 obtain⟨rfl,k4⟩:=k3.plain ha
 have nd:=List.nodup_cons.mp S.nd
 obtain⟨n1,n2,n3⟩:=List.nodup_append.mp nd.2
 obtain⟨n4,n5,n6⟩:=List.nodup_append.mp n2
 have q0:H0 q=none:=S.h0 q (List.mem_cons_of_mem _ (List.mem_append_right _ (List.mem_append_left _ List.mem_cons_self)))
 have qp:p≠q:=fun z=>nd.1 (z ▸ (List.mem_append_right _ (List.mem_append_left _ List.mem_cons_self)))
 have mv:∀{us:List O} {zs:List V} {E:List Addr},(∀a∈E,a≠q)->bF K F H us zs E->bF K F (upd H q (.lst ws)) us zs E:=fun sub h=>bF.move (aQ.refl _) (fun a ha=>⟨au (sub a ha),(h.at a ha).1⟩) h
 have s1:∀a∈B1,a≠q:=fun a ha=>n3 a ha q (List.mem_append_left _ List.mem_cons_self)
 have s2:∀a∈D,a≠q:=fun a ha z=>n6 q List.mem_cons_self a ha z.symm
 refine⟨⟨S.g.sF,fun a o' ha=>?_,fun a o' ha=>?_,S.g.nw⟩,⟨p,_,_,rfl,rfl,(au qp).trans hp,h2,?_⟩,S.nd,S.h0⟩
 ·rw [au (fun z=>by subst z;rw [q0] at ha;cases ha)];exact S.g.sH _ _ ha
 ·rw [au (fun z=>by subst z;rw [k2] at ha;cases ha)];exact S.g.fh _ _ ha
 ·rw [HZ _ e]
  exact (mv s1 g1).app ((bF.one (K:=K) (F:=F) (H:=upd H q (.lst ws)) (o:=.lst (ts.map O.val)) ⟨q,ws,[],rfl,rfl,aJ,k2,.vals r⟩).app (mv s2 g3))
theorem eP:∀(ts:List T),O.trs (ts.map O.val)=ts
 |[]=>rfl
 |t::ts=>by rw [List.map_cons,O.trs,eP ts];rfl
theorem B0:∀(a b:List O),O.trs (a++b)=O.trs a++O.trs b
 |[],_=>rfl
 |o::a,b=>by rw [List.cons_append,O.trs,B0 a b,O.trs];rfl
theorem pK:∀(a:List O),(O.trs a).length=a.length
 |[]=>rfl
 |x::a=>by simp [O.trs,pK a]
end
def O4 (K:PySem.W.Frag)(n:Nat)(d:List T->Option O):Sp:=fun vs H Q _=>vs.length=n/\∃F ts o,aQ F H/\aW K F ts vs/\d ts=some o /\
 ∀F' H' v A,bf F H F' H'->cX K F' H' o v A->A.Nodup->(∀a∈A,H a=none)->Q v H'
structure eT (P:Program)(w:World)(K:PySem.W.Frag)(mg:Str->Option Value)(base:Heap)(k:Nat)(x:Str)(n:Nat)(d:List T->Option O):Prop where
 ex:∃f fd ps,ir P w K mg base tZ k f fd ps (O4 K n d)/\Binds K fd ps []/\PySem.W.keepIn K (.ref f)=true/\mg x=some (.ref f)/\ps.length=n
section
variable {P:Program}{w:World}{K:PySem.W.Frag}{mg:Str->Option Value}{base:Heap}{j k n:Nat}{x:Str}
theorem eT.imp {d d':List T->Option O}(D:eT P w K mg base k x n d)(h:∀ts o,d' ts=some o->d ts=some o):eT P w K mg base k x n d':=by
 obtain⟨f,fd,ps,F,r⟩:=D.ex
 exact⟨f,fd,ps,F.imp fun vs H Q E ⟨l,F,ts,o,a,b,c,q⟩=>⟨l,F,ts,o,a,b,h _ _ c,q⟩,r⟩
theorem eT.mono {d:List T->Option O}(D:eT P w K mg base j x n d)(h:j≤k):eT P w K mg base k x n d:=by
 obtain⟨f,fd,ps,F,r⟩:=D.ex
 exact⟨f,fd,ps,F.mono h,r⟩
theorem eT.plain {d:List T->Option O}(D:eT P w K mg base k x n d):Def P w K mg base k x n (fun ts=>(d ts).bind fun o=>some o.tr):=by
 obtain⟨f,fd,ps,F,r⟩:=D.ex
 refine⟨f,fd,ps,F.imp fun vs H Q E ⟨l,F,ts,t,a,b,c,q⟩=>?_,r⟩
 obtain⟨o,e1,e2⟩:=bind_some c
 cases e2
 exact⟨l,F,ts,o,a,b,e1,fun F' H' v A g ro nd h0=>q _ H' v (g.frzO (fun a ha=>(ro.at a ha).1) h0) ro.frz⟩
end
section
variable {X:Cx}{e:Expr}{es:List Expr}{pos:Pos}{g:FA}
def cy (d:List T->Option O)(g:FA):jH:=fun τ=>(g τ).bind fun p=>(d p.1).bind fun o=>some (o,p.2)
theorem Dy {K:PySem.W.Frag}{Y0 Y9 F H:Hp}{σ:L2.St}{τ:aK}{A:List Addr}(E:aF K Y0 Y9 F H σ τ)(n:∀a∈A,H a=none):Apart σ τ A:=fun j us q e1 e2 m=>by
 obtain⟨v,k1,p',vs',rfl,k2,_⟩:=E.sl j _ e1
 rw [e2] at k1;cases k1
 rw [n _ m] at k2;cases k2
theorem gf {k n:Nat}{x:Str}{p:Pos}{d:List T->Option O}(D:eT X.prog X.w X.K X.mg X.base k x n d)(hr:eK k X.A)(hg:Gl X x)(ha:SA X (e::es) g)(hl:∀τ ts τ',g τ=some (ts,τ')->ts.length=n)(hdb:(x == ("__debug__" : Str))=false:=by decide)
  (he:starEach (e::es) X.env=(false,eval e X.env)::starEach es X.env:=by rfl) (hpl:(backTo pos (starEach es X.env)).any (·.1)=false:=by rfl):uf X (.Call (.Name x p) (e::es) [] pos) (cy d g):=by
 obtain⟨f,fd,ps,F,hb,hk,hm,hn⟩:=D.ex
 intro Y0 Y9
 refine PE.weak (vv (E:=E0) (CX:=tZ) F hr hg hm hk hb .nil Fd (ha Y0 Y9) hdb he hpl) fun σ H Q h=>?_
 obtain⟨F,τ,c,τ',E,e1,q⟩:=h
 obtain⟨⟨z,τ1⟩,e2,e1⟩:=bind_some e1
 have hz:=hl _ _ _ e2
 obtain⟨u,e4,e1⟩:=bind_some e1
 cases e1
 refine⟨F,τ,z,_,E,e2,fun F1 H1 vs E1 s1 r1=>⟨by rw [List.append_nil,r1.length];exact hz,F1,z,c,E1.g.fh,by rw [List.append_nil];exact r1,e4,fun F3 H3 v3 A g3 r3 nd h0=>?_⟩⟩
 exact q F3 H3 v3 A (E1.grow g3) (s1.trans g3.sF) r3 nd (fun a ha=>E1.g.sH.free (h0 a ha)) (Dy E1 h0)
abbrev ud:=aK->Option O
def Pc (K:PySem.W.Frag)(Y0 Y9:Hp)(f:ud):TS:=fun D σ H=>∃F τ o,aF K Y0 Y9 F H σ τ/\f τ=some o/\∀F' H' v A,bf Y0 Y9 F' H'->cX K F' H' o v A->A.Nodup->(∀a∈A,Y9 a=none)->D.rt v H'
def Lx (X:Cx)(ss:List Stmt)(f:ud):Prop:=∀Y0 Y9,kX X ss (Pc X.K Y0 Y9 f)
def ik (f:jH):ud:=fun τ=>(f τ).bind fun p=>some p.1
theorem m8 {f:jH}(h:uf X e f):Lx X [.Return (some e) pos] (ik f):=fun Y0 Y9=>kX.weak (f9 (nR (h Y0 Y9))) fun D σ H hq__=>by
 obtain⟨F,τ,o,E,e1,q⟩:=hq__
 obtain⟨⟨x,τ1⟩,e2,e1⟩:=bind_some e1
 cases e1
 exact⟨F,τ,_,τ1,E,e2,fun F' H' v A E' _ r nd h0 _=>q F' H' v A E'.g r nd h0⟩
def dB (t:FS)(u:ud):ud:=fun τ=>(t τ).bind fun r=>match r with | .nx τ'=>u τ' | _=>none
theorem eN {st:Stmt}{rest:List Stmt}{t:FS}{u:ud}(h1:SS X st t)(h2:Lx X rest u):Lx X (st::rest) (dB t u):=fun Y0 Y9=>kX.weak (dU (h1 Y0 Y9) (h2 Y0 Y9)) fun D σ H hq__=>by
 obtain⟨F,τ,o,E,e1,q⟩:=hq__
 obtain⟨x,e2,e1⟩:=bind_some e1
 refine⟨F,τ,x,E,e2,?_⟩
 cases x with
 |nx τ1=>exact fun F1 H1 σ1 E1 s1=>⟨F1,τ1,o,E1,e1,q⟩
 |rt t=>cases e1
 |bk t=>cases e1
 |ct t=>cases e1
end
def ji (m n:Nat)(fb:ud):List T->Option O:=fun ts=>if ts.length=n then fb (ts.map (fun t=>some (Sl.sh t))++List.replicate (m-n) none) else none
section
variable {P:Program}{w:World}{K:PySem.W.Frag}{mg:Str->Option Value}{base:Heap}
theorem jk {x qual:Str}{st:Stmt}{f:Addr}{fd:FuncData}{N ps:List Str}{k:Nat}{fb:ud}(F:fW K x qual st f fd)(S:aV N ps (aw st))(hb:Binds K fd ps [])(hm:mg x=some (.ref f))
  (h:∀(cdv:Value) (A:Around) (outer:List Env) (s:Shared) (H:Hp) (E:XK),eK k (A.deeper (envOfC qual (aw st) s.heap.objs.size f cdv))->Lx (nA tZ P w K mg base N qual (aw st) f cdv A outer s H E).nox (dy st) fb):
  eT P w K mg base (k+1) x ps.length (ji N.length ps.length fb):=by
 refine⟨f,fd,ps,F.ok S (fun vs H Q E z=>z.1) (fun cdv A outer s H vs Q E hr z=>?_),hb,F.kp,hm,rfl⟩
 obtain⟨hl,F1,ts,o,sm,r,e,q⟩:=z
 unfold ji at e
 split at e
 ·next hn =>
  refine⟨_,h cdv A outer s H E hr F1 H,F1,_,o,?_,e,fun F' H' v A g ro nd h0=>q F' H' v A g ro nd h0⟩
  have:=kJ (N:=N) sm r
  rw [hn] at this
  exact this
 ·cases e
end
section
variable {X:Cx}{e:Expr}{es:List Expr}{pos:Pos}{g:FA}
def JZ (fo:jH)(g:FA)(d:O->List T->Option T):FE:=fun τ=>(fo τ).bind fun p=>if cM p.2=true then (g p.2).bind fun r=>if cM r.2=true then (d p.1 r.1).bind fun t=>some (t,r.2) else none else none
def D4 (fo:jH)(f:FE):FS:=fun τ=>(fo τ).bind fun p=>match p.1 with
 | .lst os=>if cM p.2=true/\os.length<sizeLine then (f p.2).bind fun r=>if cM r.2=true then some (.nx r.2) else none else none
 |_=>none
def yW:T->T->Option T
 | .lst ts,.int k=>if (-(2^63)≤k/\k<2^63)/\ts.length*k.toNat≤sizeLine then some (.lst (List.replicate k.toNat ts).flatten) else none
 |_,_=>none
theorem xS {K:PySem.W.Frag}{F:Hp}{ts:List T}{vs:List V}(h:aW K F ts vs):∀k:Nat,aW K F (List.replicate k ts).flatten (List.replicate k vs).flatten
 |0=>rfl
 |k+1=>by
  rw [List.replicate_succ,List.replicate_succ,List.flatten_cons,List.flatten_cons]
  exact h.append (xS h k)
theorem KH:oX X (binaryOp .Mult) yW:=by
 intro pins s σ H x y v u Q I rx ry ⟨F,a,b,t,sm,ra,rb,e,q⟩
 unfold yW at e
 split at e
 ·next ts k =>
  split at e
  ·next hc =>
   cases e
   obtain⟨p,xs,rfl,h1,h2⟩:=ra
   cases rb
   refine Kz pins s σ H _ _ v u Q I rx ry ⟨p,k,xs,rfl,rfl,sm _ _ h1,hc.1.1,hc.1.2,by rw [h2.length];exact hc.2,fun l hl=>?_⟩
   have gr:=bf.new (.lst (List.replicate k.toNat xs).flatten) sm hl
   exact q _ _ _ gr ⟨l,_,rfl,aJ,aW.mono gr.sF (xS h2 _)⟩
  ·cases e
 ·cases e
end
section
variable {X:Cx}
def DU:List T->Option T
 |[.lst ts]=>(intsOf ts).bind fun ns=>some (.int ns.sum)
 |_=>none
theorem ints_get {K:PySem.W.Frag}{F:Hp}:∀{ns:List Int} {vs:List V} {its:List Value},aW K F (ns.map T.int) vs->Vals vs its->∃xs:List (Int×Tok),its=xs.map (fun p=>Value.int p.1 p.2)/\xs.map (·.1)=ns
 |[],vs,its,r,z=>by
  cases r;cases z;exact⟨[],rfl,rfl⟩
 |n::ns,vs,its,r,z=>by
  obtain⟨v,rr,rfl,h1,h2⟩:=r
  cases h1
  cases z with
  |cons rz zz =>
   obtain⟨t,rfl⟩:=rz
   obtain⟨xs,e1,e2⟩:=ints_get h2 zz
   exact⟨(n,t)::xs,by rw [e1];rfl,by rw [List.map_cons,e2]⟩
theorem JN (hc:X.calm=true):iK X (.builtin "sum") DU:=by
 intro pins s σ H xs us Q I rx ⟨F,ts,t,sm,r,e,q⟩
 unfold DU at e
 split at e
 ·next ts =>
  obtain⟨ns,e1,e2⟩:=bind_some e
  cases e2
  have et:=lN e1
  subst et
  obtain⟨v,rr,rfl,⟨p,vs,rfl,h1,h2⟩,rfl⟩:=r
  obtain⟨u,rfl,ru⟩:=Vals.one rx
  cases ru
  obtain⟨its,rv,pl,hz⟩:=I.list (dO.of (sm _ _ h1))
  obtain⟨xs,ex,en⟩:=ints_get h2 rv
  have hl:s.heap.IsList p (intItems xs.toArray):=by
   have:=pl.isList
   rw [ex] at this
   simpa [intItems] using this
  refine sum_intListG (I.ok.hd hc) hl fun h' tk t' hk=>?_
  have e2:preSum (numAt xs.toArray) xs.toArray.size=ns.sum:=by
   rw [preSum_eq,List.take_of_length_le (by simp),<- en]
  rw [e2]
  exact⟨.int _,H,I.kept (t':=tk) hk,⟨t',rfl⟩,q F H _ (bf.refl sm) rfl⟩
 ·cases e
end
section
variable {prog:Program}{w:World}{A:Around}{E:Value->Shared->Prop}{s:Shared}
end
section
variable {X:Cx}
end
section
variable {prog:Program}{w:World}{A:Around}{R:Result->Shared->Prop}{I:Addr}{fp wr:List Addr}{n:Nat}{P:Nat->Value->Prop}{St:Nat->Heap->Prop}{kw:List (Str×Value)}
end
section
variable {prog:Program}{w:World}{A:Around}{E:Value->Shared->Prop}{s:Shared}
end
section
variable {X:Cx}
end
section
variable {X:Cx}
end
abbrev NU (ts:List T):O:=.lst (ts.map O.val)
theorem lB:∀ts:List T,iu (ts.map O.val)=true
 |[]=>rfl
 |_::ts=>lB ts
theorem yi:∀{ro:List O},iu ro=true->ro=(O.trs ro).map O.val
 |[],_=>rfl
 | .val t::r,h=>by
  have:=yi (ro:=r) h
  rw [O.trs,List.map_cons,<- this]
  rfl
 | .lst _::_,h=>by cases h
def kd:T->Nat
 | .non=>1 | .bl _=>2 | .int _=>0 | .str _=>3 | .ty _=>4 | .tup _=>5 | .lst _=>5 | .scr _=>5 | .dic=>5 | .obj _ _ _=>5 | .ptr _=>5 | .exc _ _ _=>5
def L6 (us ts:List T):Bool:=us.length != ts.length||(List.zip us ts).any fun p=>kd p.1 != kd p.2
mutual
def apart (us:List T):T->Bool
 | .tup ts=>gp us ts
 | .lst ts=>L6 us ts&&gp us ts
 | .scr _=>false
 | .obj _ _ ts=>gp us ts
 | .exc _ _ ts=>gp us ts
 |_=>true
def gp (us:List T):List T->Bool
 |[]=>true
 |t::ts=>apart us t&&gp us ts
end
def OY:V->Nat
 | .non=>1 | .bl _=>2 | .int _=>0 | .str _=>3 | .ty _=>4 | .ref _=>5 | _=>6
theorem Mp {K:PySem.W.Frag}{F:Hp}{t:T}{v:V}(h:Rep K F t v):kd t=OY v:=by
 cases t with
 |non=>rw [show v=_ from h];rfl
 |bl b=>rw [show v=_ from h];rfl
 |int b=>rw [show v=_ from h];rfl
 |str b=>rw [show v=_ from h];rfl
 |ty b=>rw [show v=_ from h];rfl
 |tup ts=>obtain⟨a,xs,e,_⟩:=h;rw [e];rfl
 |lst ts=>obtain⟨a,xs,e,_⟩:=h;rw [e];rfl
 |scr ts=>obtain⟨a,xs,e,_⟩:=h;rw [e];rfl
 |dic=>obtain⟨a,e,_⟩:=h;rw [e];rfl
 |obj _ _ _=>obtain⟨a,_,_,e,_⟩:=h;rw [e];rfl
 |ptr _=>rw [show v=_ from h];rfl
 |exc _ _ _=>obtain⟨a,_,e,_⟩:=h;rw [e];rfl
theorem Ki {K:PySem.W.Frag}{F:Hp}{t u:T}{v:V}(h:Rep K F t v)(h':Rep K F u v):kd t=kd u:=(Mp h).trans (Mp h').symm
theorem AR {K:PySem.W.Frag}{F:Hp}:∀{us ts:List T} {vs:List V},aW K F us vs->aW K F ts vs->L6 us ts=false
 |[],[],_,_,_=>rfl
 |[],t::ts,_,h,h'=>by
  obtain⟨v,r,e,_⟩:=h'
  rw [show _=[] from h] at e;cases e
 |u::us,[],_,h,h'=>by
  obtain⟨v,r,e,_⟩:=h
  rw [show _=[] from h'] at e;cases e
 |u::us,t::ts,_,h,h'=>by
  obtain⟨v,r,rfl,h1,h2⟩:=h
  obtain⟨v',r',e,h3,h4⟩:=h'
  cases e
  have ih:=AR h2 h4
  unfold L6 at ih ⊢
  simp only [List.length_cons,List.zip_cons_cons,List.any_cons,Ki h1 h3,bne_self_eq_false,Bool.false_or] at ih ⊢
  simpa using ih
mutual
theorem Rep.drop {K:PySem.W.Frag}{F:Hp}{a:Addr}{us:List T}{vs:List V}(ha:F a=some (.lst vs))(hu:aW K F us vs):∀{t:T} {v:V},apart us t=true->Rep K F t v->Rep K (iP F [a]) t v
 | .non,_,_,h=>h
 | .bl _,_,_,h=>h
 | .int _,_,_,h=>h
 | .str _,_,_,h=>h
 | .ty _,_,_,h=>h
 | .tup ts,_,k,h=>by
  obtain⟨b,xs,h1,h2,h3⟩:=h
  refine⟨b,xs,h1,?_,aW.drop' ha hu (by simpa [apart] using k) h3⟩
  rcases h2 with (h2 | ⟨o,h2⟩) | h2
  ·refine .inl (.inl ?_)
   rw [bH (fun m=>by rw [List.mem_singleton.mp m,ha] at h2;cases h2)];exact h2
  ·refine .inl (.inr ⟨o,?_⟩)
   rw [bH (fun m=>by rw [List.mem_singleton.mp m,ha] at h2;cases h2)];exact h2
  ·exact .inr h2
 | .lst ts,_,k,h=>by
  obtain⟨b,xs,h1,h2,h3⟩:=h
  have k':L6 us ts=true/\gp us ts=true:=by simpa [apart] using k
  refine⟨b,xs,h1,?_,aW.drop' ha hu k'.2 h3⟩
  rw [bH (fun m=>by
   rw [List.mem_singleton.mp m,ha] at h2
   cases h2
   rw [AR hu h3] at k'
   exact absurd k'.1 (by decide))]
  exact h2
 | .scr _,_,k,_=>by simp [apart] at k
 | .dic,_,_,h=>by
  obtain⟨b,h1,h2⟩:=h
  refine⟨b,h1,?_⟩
  rw [bH (fun m=>by rw [List.mem_singleton.mp m,ha] at h2;cases h2)]
  exact h2
 | .obj C ns ts,_,k,h=>by
  obtain⟨b,dx,xs,h1,h2,h3,h4⟩:=h
  refine⟨b,dx,xs,h1,?_,h3,aW.drop' ha hu (by simpa [apart] using k) h4⟩
  rw [bH (fun m=>by rw [List.mem_singleton.mp m,ha] at h2;cases h2)]
  exact h2
 | .ptr _,_,_,h=>h
 | .exc _ _ ts,_,k,h=>by
  obtain⟨b,od,h1,h2,h3⟩:=h
  refine⟨b,od,h1,?_,h3.imp id fun⟨d,vs',k1,k2,k3,k4⟩=>⟨d,vs',k1,?_,k3,aW.drop' ha hu (by simpa [apart] using k) k4⟩⟩
  ·rw [bH (fun m=>by rw [List.mem_singleton.mp m,ha] at h2;cases h2)]
   exact h2
  ·rw [bH (fun m=>by rw [List.mem_singleton.mp m,ha] at k2;cases k2)]
   exact k2
theorem aW.drop' {K:PySem.W.Frag}{F:Hp}{a:Addr}{us:List T}{vs:List V}(ha:F a=some (.lst vs))(hu:aW K F us vs):∀{ts:List T} {ws:List V},gp us ts=true->aW K F ts ws->aW K (iP F [a]) ts ws
 |[],_,_,h=>h
 |t::ts,_,k,h=>by
  obtain⟨v,r,h1,h2,h3⟩:=h
  have k':apart us t=true/\gp us ts=true:=by simpa [gp] using k
  exact⟨v,r,h1,Rep.drop ha hu k'.1 h2,aW.drop' ha hu k'.2 h3⟩
end
theorem bf.lent {F H F' H':Hp}{a:Addr}{o:HO}(hF:F a=none)(g:bf (upd F a o) H F' H'):bf F H (iP F' [a]) H':=by
 have sF:aQ F (iP F' [a]):=fun b u e=>by
  have hb:b≠a:=fun z=>by rw [z,hF] at e;cases e
  rw [bH (fun m=>hb (List.mem_singleton.mp m))]
  exact g.sF b u (by rw [au hb];exact e)
 refine⟨sF,g.sH,fun b u e=>?_,fun b u e=>?_⟩
 ·by_cases hb:b=a
  ·rw [hb,gH (List.mem_singleton.mpr rfl)] at e;cases e
  ·rw [bH (fun m=>hb (List.mem_singleton.mp m))] at e
   exact g.fh b u e
 ·by_cases hb:b=a
  ·rw [hb,gH (List.mem_singleton.mpr rfl)] at e;cases e
  ·rw [bH (fun m=>hb (List.mem_singleton.mp m))] at e
   rcases g.nw b u e with z | z
   ·rw [au hb] at z;exact .inl z
   ·exact .inr z
section
variable {X:Cx}{e:Expr}{pos:Pos}
def pe (i j:Nat):FS:=fun τ=>some (.nx ((τ.set i (some (.own []))).set j (some (.own []))))
theorem C7 {i j:Nat}{x y:Str}{px py pt pa pb:Pos}{kt k2 pt2}(hc:X.calm=true)(hN:X.N.Nodup)(hi:X.N[i]? = some x)(hj:X.N[j]? = some y)(hij:i≠j)
  (hx:X.env.scope.names.lookup x=some .local) (hy:X.env.scope.names.lookup y=some .local)
  (hw:swappedStores [.Tuple [.Name x px,.Name y py] kt pt] (.Tuple [.List [] pa,.List [] pb] k2 pt2) X.env=pure (some [x,y]))
  (hs:swapsWithSole [.Tuple [.Name x px,.Name y py] kt pt] (.Tuple [.List [] pa,.List [] pb] k2 pt2) pos.line X.env=pure false:=by rfl):
  SS X (.Assign [.Tuple [.Name x px,.Name y py] kt pt] (.Tuple [.List [] pa,.List [] pb] k2 pt2) pos) (pe i j):=fun Y0 Y9=>PS.weak (Fj hc hN hi hj hij hx hy (eu (nO iz) (eu (nO iz) iz)) hw hs) fun D σ H hq__=>by
 obtain⟨F,τ,r,E,e1,q⟩:=hq__
 cases e1
 have r0:aW X.K F [] []:=rfl
 exact⟨Nat.zero_le _,fun p hp=>⟨Nat.zero_le _,fun p2 hp2=>⟨_,_,rfl,q F _ _ ((E.setOwn hp r0).setOwn hp2 r0) (aQ.refl _)⟩⟩⟩
end
def Nq (K:PySem.W.Frag)(l:Addr):It:=
  ⟨fun i H=>∃xs x,dO K H l xs/\xs[i]? = some x,
   fun i H v H'=>∃p x,v=.ref p/\H p=none/\H'=upd H p (.tup [.int i,x])/\∀xs,dO K H l xs->xs[i]? = some x,
   fun i H=>∃xs,dO K H l xs/\xs.length≤i⟩
structure OI (e it l:Addr)(i:Nat)(h:Heap):Prop where
 he:∃old,IsEnum h e it (i:Int) old
 hi:h.IsListIter it l i
theorem Df {P:Program}{w:World}{K:PySem.W.Frag}{elts:List Expr}{kx:Nat}{px:Pos}{e it l:Addr}(hei:e≠it):
  Turn P w K (.Tuple elts kx px) (Nq K l) [e,it] e (OI e it l) where
 mem:=by simp
 obj:=fun i h st b hb=>by
  simp only [List.mem_cons,List.not_mem_nil,or_false] at hb
  rcases hb with rfl | rfl
  ·obtain⟨old,q⟩:=st.he
   exact⟨_,q,fun v q=>nomatch (show Data.fields _=Data.cell v from q)⟩
  ·obtain⟨o,ho,hc,hd⟩:=st.hi
   exact⟨o,ho,fun v q=>by rw [hd] at q;cases q⟩
 keep:=fun i h h' st k=>by
  obtain⟨old,q⟩:=st.he
  exact⟨⟨old,k e (by simp) _ q⟩,st.hi.at fun o x=>k it (by simp) o x⟩
 item:=fun X hP hw hK hc i pins s σ H E I hf st hg=>by
  subst hP hw hK
  obtain⟨xs,x,q1,g1⟩:=hg
  obtain⟨its,r1,p1⟩:=hG (b:=true) I q1
  obtain⟨u,e1,ru⟩:=r1.get g1
  obtain⟨old,he⟩:=st.he
  refine wpAny_pyNext_enum_item he st.hi p1 (x:=u) (by simpa using e1) hei fun h' ho hit' hT hsz hk=>⟨_,rfl,?_⟩
  refine wpAny_letOwnedTupleGo_enum (s:={ s with heap:=h',toks:=s.toks+1 }) ho fun h2 b1 b2=>?_
  have le:e<s.heap.objs.size:=Heap.lt_size he
  have li:it<s.heap.objs.size:=by obtain⟨_,x,_⟩:=st.hi;exact Heap.lt_size x
  have kp:∀b o,b∉[e,it]->s.heap.get? b=some o->h2.get? b=some o:=fun b o hb z=>by
   simp only [List.mem_cons,List.not_mem_nil,or_false,not_or] at hb
   exact (b2.2 b hb.1).trans (hk b o hb.1 hb.2 z)
  have pr:h2.get? s.heap.objs.size=some { cls:=.type "tuple", data:=.seq #[.int i s.toks,u] }:=(b2.2 _ (Nat.ne_of_gt le)).trans hT
  have fr:H s.heap.objs.size=none:=I.hok.fresh (Nat.le_refl _)
  have hokA:oi X.prog X.w (upd H s.heap.objs.size (.tup [.int i,x])) h2:=by
   intro c o z
   by_cases hcz:c=s.heap.objs.size
   ·subst hcz
    rw [aJ] at z;cases z
    exact⟨by show 2≤sizeLine;decide,[.int i s.toks,u],.cons ⟨_,rfl⟩ (.cons ru .nil),_,pr,rfl,_,rfl⟩
   ·rw [au hcz] at z
    have nf:∀d o',H d=some o'->d∉[e,it]:=fun d o' ed hd=>by rw [(hf d hd).1] at ed;cases ed
    have up:∀d o',H d=some o'->upd H s.heap.objs.size (.tup [.int i,x]) d=some o':=fun d o' ed=>by rw [au (bp ed fr)];exact ed
    refine (I.hok c o z).stay (fun d v' hd q=>kp d v' ?_ q) (fun d q=>up d _ q) fun d xs q=>up d _ q
    rcases hd with rfl | hd
    ·exact nf _ o z
    ·exact nf d _ hd
  have J:Inv X pins σ (upd H s.heap.objs.size (.tup [.int i,x])) { s with heap:=h2,toks:=s.toks+1 }:=by
   have ne:∀b o,s.heap.get? b=some o->b≠s.heap.objs.size:=fun b o e=>Nat.ne_of_lt (Heap.lt_size e)
   refine I.step (g':=s.gens) (d':=s.drawn) (t':=s.toks+1) (ch:=[e,it]) (fun b hb=>?_) (fun b o _ _ hc e _=>kp b o hc e) (fun b o _ _ hc e _=>⟨o.slots,kp b o hc e⟩) (fun b o _ e n=>by rw [au (ne b o e)];exact n)
    (fun b o hc e=>⟨o,kp b o hc e⟩) (fun b xs e=>by rw [au (bp e fr)];exact e) (fun b o u e=>by rw [au (bp e fr)];exact e) (fun b ps e=>⟨#[],by rw [au (bp e fr),e];simp⟩) (fun m hm=>?_) hokA I.bare
   ·obtain⟨_,f1,_,f3,f4,f5⟩:=hf b hb
    exact⟨f3,f1,f4,f5⟩
   ·obtain⟨o,es,ep,ho,r⟩:=hm
    exact⟨o,es,ep,kp _ o (fun q=>(hf _ q).2.1 rfl) ho,r⟩
  refine⟨.ref s.heap.objs.size,_,J,rfl,⟨_,x,rfl,fr,rfl,fun xs' h=>by rw [I.list_inj h q1];exact g1⟩,⟨⟨u,by simpa using b1⟩,hit'.at fun o z=>(b2.2 it (Ne.symm hei)).trans z⟩,fun b hb=>?_⟩
  have:b≠s.heap.objs.size:=by
   simp only [List.mem_cons,List.not_mem_nil,or_false] at hb
   rcases hb with rfl | rfl
   ·exact Nat.ne_of_lt le
   ·exact Nat.ne_of_lt li
  rw [au this]
  exact (hf b hb).1
 done:=fun X hP hw hK hc i pins s σ H E I hf st hg=>by
  subst hP hw hK
  obtain⟨xs,q1,g⟩:=hg
  obtain⟨its,r1,p1⟩:=hG (b:=true) I q1
  obtain⟨old,he⟩:=st.he
  have n1:=r1.length
  refine wpAny_pyNext_enum_end (I.ok.hd hc) he st.hi p1 (by simp;omega) fun h' k=>⟨rfl,jF I hf fun b o hb e=>?_⟩
  simp only [List.mem_cons,List.not_mem_nil,or_false,not_or] at hb
  exact k b o hb.2 e
 self:=fun _ _ _ _ _ st h=>by
  obtain⟨old,he⟩:=st.he
  exact wpAny_pyIter_enum he h
def wJ (k:Nat):List T->List T
 |[]=>[]
 |t::ts=>.tup [.int k,t]::wJ (k+1) ts
theorem qh:∀(ts:List T) (k:Nat),(wJ k ts).length=ts.length
 |[],_=>rfl
 |t::ts,k=>by simp [wJ,qh ts]
theorem uA:∀(ts:List T) (k i:Nat) (t:T),(wJ k ts)[i]? = some t->∃u,ts[i]? = some u/\t=.tup [.int ((k+i:Nat):Int),u]
 |[],_,_,_,h=>by simp [wJ] at h
 |u::ts,k,0,t,h=>by
  simp [wJ] at h
  exact⟨u,rfl,by simp [h]⟩
 |u::ts,k,i+1,t,h=>by
  obtain⟨v,e1,e2⟩:=uA ts (k+1) i t (by simpa [wJ] using h)
  exact⟨v,by simpa using e1,by rw [e2];congr 4;omega⟩
theorem Ak {K:PySem.W.Frag}{F:Hp}{l:Addr}{xs:List V}{ts:List T}(h1:dO K F l xs)(h2:aW K F ts xs):Walks K F (wJ 0 ts) (Nq K l):=by
 refine⟨fun i t F1 H1 e s1 s2=>?_,fun i t F1 H1 x H2 e s1 s2 y=>?_,fun F1 H1 s1 s2=>⟨xs,(s1.trans s2).seq h1,by rw [qh,h2.length];exact Nat.le_refl _⟩⟩
 ·obtain⟨u,e1,_⟩:=uA ts 0 i t e
  obtain⟨v,g1,_⟩:=h2.get e1
  exact⟨xs,v,(s1.trans s2).seq h1,g1⟩
 ·obtain⟨p,v,rfl,hp,rfl,q1⟩:=y
  obtain⟨u,e1,rfl⟩:=uA ts 0 i t e
  obtain⟨v',g1,k1⟩:=h2.get e1
  have m1:=q1 xs ((s1.trans s2).seq h1)
  rw [g1] at m1;cases m1
  have gr:=bf.new (.tup [.int i,v]) s2 hp
  exact⟨_,gr,p,_,rfl,ly.of aJ,.int i,[v],rfl,by show V.int _=V.int _;rw [Nat.zero_add],v,[],rfl,Rep.mono (s1.trans gr.sF) k1,rfl⟩
def lL (g:FA):FA:=fun τ=>(g τ).bind fun p=>match p.1 with
 |[.lst ts]=>some (wJ 0 ts,p.2)
 |_=>none
theorem BH {X:Cx}{a:Expr}{p pos:Pos}{ga:FA}{elts:List Expr}{kx:Nat}{px:Pos}(hg:Gl X "enumerate")(hm:X.mg "enumerate" = none)(ha:SA X [a] ga)(hs:starEach [a] X.env=[(false,eval a X.env)]:=by rfl):
  SI X (.Tuple elts kx px) (.Call (.Name "enumerate" p) [a] [] pos) (lL ga):=by
 intro Y0 Y9 pins s σ H R I ⟨F,τ,ts,τ',E,e1,q⟩
 obtain⟨⟨x,τ1⟩,e2,e1⟩:=bind_some e1
 dsimp only at e1
 split at e1
 ·next us =>
  cases e1
  refine Call_ (ki I hg hm (show bootBuiltins "enumerate" = some (.type "enumerate") from rfl) (PyProof.Rows.callWith_type1 (eC (ha Y0 Y9 pos pins s σ H (fun vs H'=>∃l xs,vs=[.ref l]/\dO X.K H' l xs/\R (Nq X.K l) H') I ⟨F,τ,_,_,E,e2,fun F' H' vs E' s' r'=>?_⟩) fun vs s1 ⟨ws',H1,I1,r1,q1⟩=>?_) hs rfl))
  ·obtain⟨v1,r1,rfl,k1,rfl⟩:=r'
   obtain⟨l,xs,rfl,h1,h2⟩:=k1
   exact⟨l,xs,rfl,dO.of (E'.g.fh _ _ h1),q F' H' _ E' s' (Ak (dO.of h1) h2)⟩
  ·obtain⟨l,xs,rfl,h1,q1⟩:=q1
   obtain⟨u,rfl,ru⟩:=r1.one
   cases ru
   obtain⟨its,_,p1⟩:=hG (b:=true) I1 h1
   refine call_enumerate_list p1 fun h' a1 a2 a3 kp=>wpAny_pyIter_enum (s:={ s1 with heap:=h' }) a1 ?_
   have J:Inv X pins σ H1 { s1 with heap:=h' }:=I1.kept (t':=s1.toks) kp
   refine⟨_,[_,_],_,_,H1,rfl,J,Df (e:=s1.heap.objs.size+1) (it:=s1.heap.objs.size) (l:=l) ?_,⟨⟨_,a1⟩,a2⟩,fun b hb=>?_,q1⟩
   ·refine (?_:@Ne Nat _ _);omega
   ·have hb':s1.heap.objs.size≤b:=by
     simp only [List.mem_cons,List.not_mem_nil,or_false] at hb
     rcases hb with rfl | rfl
     ·exact Nat.le_succ _
     ·exact Nat.le_refl _
    exact I1.fpOk hb' (I1.hok.fresh hb')
 ·cases e1
def hide:aK->aK
 |[]=>[]
 |some (.own _)::τ=>none::hide τ
 |some (.sh t)::τ=>some (.sh t)::hide τ
 |none::τ=>none::hide τ
theorem fu:∀τ:aK,(hide τ).length=τ.length
 |[]=>rfl
 |some (.own _)::τ=>by simp [hide,fu τ]
 |some (.sh t)::τ=>by simp [hide,fu τ]
 |none::τ=>by simp [hide,fu τ]
theorem kh:∀{τ:aK} {j:Nat} {s:Sl},(hide τ)[j]? = some (some s)->τ[j]? = some (some s)/\∃t,s=.sh t
 |[],j,s,h=>by simp [hide] at h
 |some (.own _)::τ,0,s,h=>by simp [hide] at h
 |some (.sh t)::τ,0,s,h=>by simp [hide] at h;subst h;exact⟨rfl,t,rfl⟩
 |none::τ,0,s,h=>by simp [hide] at h
 |some (.own _)::τ,j+1,s,h=>by simpa using kh (τ:=τ) (j:=j) (by simpa [hide] using h)
 |some (.sh t)::τ,j+1,s,h=>by simpa using kh (τ:=τ) (j:=j) (by simpa [hide] using h)
 |none::τ,j+1,s,h=>by simpa using kh (τ:=τ) (j:=j) (by simpa [hide] using h)
section
variable {K:PySem.W.Frag}{Y0 Y9 F H F' H':Hp}{σ:L2.St}{τ:aK}
theorem aF.look {i:Nat}{us:List T}{vs:List V}{a:Addr}(E:aF K Y0 Y9 F H σ τ)(hs:σ[i]? = some (some (.ref a)))(h2:H a=some (.lst vs))(h3:F a=none)(h5:aW K F us vs):
  aF K (upd F a (.lst vs)) H (upd F a (.lst vs)) H σ ((hide τ).set i (some (.sh (.lst us)))):=by
 have sF:aQ F (upd F a (.lst vs)):=cG h3
 have sH:aQ (upd F a (.lst vs)) H:=fun b o eb=>by
  by_cases hb:b=a
  ·rw [hb,aJ] at eb;cases eb;rw [hb];exact h2
  ·rw [au hb] at eb;exact E.g.fh b o eb
 have rp:Rep K (upd F a (.lst vs)) (.lst us) (.ref a):=⟨a,vs,rfl,aJ,aW.mono sF h5⟩
 have all:∀{j:Nat} {s:Sl},((hide τ).set i (some (.sh (.lst us))))[j]? = some (some s)->(∃t,s=.sh t)/\∃v,σ[j]? = some (some v)/\yt K H (upd F a (.lst vs)) H s v:=fun {j s} e=>by
  by_cases hj:i=j
  ·subst hj
   by_cases hl:i<(hide τ).length
   ·rw [List.getElem?_set_self hl] at e;cases e
    exact⟨⟨_,rfl⟩,_,hs,rp⟩
   ·rw [List.getElem?_eq_none (by simp;omega)] at e;cases e
  ·rw [List.getElem?_set_ne hj] at e
   obtain⟨e1,t,rfl⟩:=kh e
   obtain⟨v,k1,k2⟩:=E.sl j _ e1
   exact⟨⟨t,rfl⟩,v,k1,Rep.mono sF k2⟩
 refine⟨bf.refl sH,by simp [fu,E.len],fun j s e=>(all e).2,fun j k ts ws p _ e1=>?_⟩
 obtain⟨t,z⟩:=(all e1).1
 cases z
theorem aF.setSh {i:Nat}{t:T}{v:V}(E:aF K Y0 Y9 F H σ τ)(hs:σ[i]? = some (some v))(r:Rep K F t v):aF K Y0 Y9 F H σ (τ.set i (some (.sh t))):=by
 have:=E.set (i:=i) r
 rw [show σ.set i (some v)=σ from by
  have hi:i<σ.length:=(List.getElem?_eq_some_iff.mp hs).1
  apply List.ext_getElem?
  intro j
  by_cases hj:i=j
  ·subst hj;rw [List.getElem?_set_self hi,hs]
  ·rw [List.getElem?_set_ne hj]] at this
 exact this
theorem aF.drop {i:Nat}(E:aF K Y0 Y9 F H σ τ):aF K Y0 Y9 F H σ (τ.set i none):=by
 have key:∀{j:Nat} {s:Sl},(τ.set i none)[j]? = some (some s)->τ[j]? = some (some s):=fun {j s} e=>by
  by_cases hj:i=j
  ·subst hj
   by_cases hl:i<τ.length
   ·rw [List.getElem?_set_self hl] at e;cases e
   ·rw [List.getElem?_eq_none (by simp;omega)] at e;cases e
  ·rw [List.getElem?_set_ne hj] at e;exact e
 exact⟨E.g,by simp [E.len],fun j s e=>E.sl j s (key e),fun j k ts us p hjk e1 e2=>E.dj j k ts us p hjk (key e1) (key e2)⟩
theorem aF.putOwn2 {i:Nat}{ts:List T}{vs:List V}{p:Addr}(E:aF K Y0 Y9 F H σ τ)(hp:H p=some (.lst vs))(fp:F p=none)(h0:Y9 p=none)(ap:Apart σ τ [p])(r:aW K F ts vs):
  aF K Y0 Y9 F H (σ.set i (some (.ref p))) (τ.set i (some (.own ts))):=by
 refine⟨E.g,by simp [E.len],fun j s e=>?_,fun j k ts' us q hjk e1 e2 e3 e4=>?_⟩
 ·by_cases hj:i=j
  ·subst hj
   by_cases hl:i<τ.length
   ·rw [List.getElem?_set_self hl] at e
    cases e
    exact⟨.ref p,List.getElem?_set_self (by rw [E.len];exact hl),p,vs,rfl,hp,fp,h0,r⟩
   ·rw [List.getElem?_eq_none (by simp;omega)] at e;cases e
  ·rw [List.getElem?_set_ne hj] at e
   rw [List.getElem?_set_ne hj]
   exact E.sl j s e
 ·by_cases hj:i=j
  ·subst hj
   rw [List.getElem?_set_ne hjk] at e2 e4
   by_cases hl:i<τ.length
   ·rw [List.getElem?_set_self (by rw [E.len];exact hl)] at e3
    cases e3
    exact ap k us p e2 e4 (List.mem_singleton.mpr rfl)
   ·rw [List.getElem?_eq_none (by simp;omega)] at e1;cases e1
  ·rw [List.getElem?_set_ne hj] at e1 e3
   by_cases hk:i=k
   ·subst hk
    by_cases hl:i<τ.length
    ·rw [List.getElem?_set_self (by rw [E.len];exact hl)] at e4
     cases e4
     exact ap j ts' p e1 e3 (List.mem_singleton.mpr rfl)
    ·rw [List.getElem?_eq_none (by simp;omega)] at e2;cases e2
   ·rw [List.getElem?_set_ne hk] at e2 e4
    exact E.dj j k ts' us q hjk e1 e2 e3 e4
end
section
variable {X:Cx}{e:Expr}{pos:Pos}
def dQ (i:Nat)(f:FE):FE:=fun τ=>match τ[i]? with
 |some (some (.own us))=>(f ((hide τ).set i (some (.sh (.lst us))))).bind fun p=>some (p.1,if apart us p.1=true then τ else τ.set i (some (.sh (.lst us))))
 |_=>f τ
theorem mX (i:Nat){f:FE}(h:SE X e f):SE X e (dQ i f):=fun Y0 Y9=>PE.weak h.any fun σ H Q hq__=>by
 obtain⟨F,τ,t,τ',E,e1,q⟩:=hq__
 unfold dQ at e1
 split at e1
 ·next us e3 =>
  obtain⟨⟨x,τ1⟩,e2,e1⟩:=bind_some e1
  obtain⟨v,h1,a,vs,rfl,h2,h3,h4,h5⟩:=E.sl i _ e3
  have sF:aQ F (upd F a (.lst vs)):=cG h3
  refine⟨upd F a (.lst vs),H,upd F a (.lst vs),_,x,τ1,E.look h1 h2 h3 h5,e2,fun F' H' v' E' s' r'=>?_⟩
  have ha:F' a=some (.lst vs):=s' _ _ aJ
  have hu:aW X.K F' us vs:=aW.mono (sF.trans s') h5
  dsimp only at e1
  by_cases hap:apart us x=true
  ·rw [if_pos hap] at e1
   cases e1
   have gl:=bf.lent h3 E'.g
   exact q (iP F' [a]) H' v' (E.grow gl) gl.sF (Rep.drop ha hu hap r')
  ·rw [if_neg hap] at e1
   cases e1
   have gl:=bf.lent h3 E'.g
   have rp:Rep X.K F' (.lst us) (.ref a):=⟨a,vs,rfl,ha,hu⟩
   have E1:=E.grow gl
   have E2:aF X.K Y0 Y9 F' H' σ (τ.set i (some (.sh (.lst us)))):=by
    have E3:aF X.K Y0 Y9 F' H' σ (τ.set i none):=by
     refine⟨⟨E.g.sF.trans (sF.trans s'),E1.g.sH,E'.g.fh,fun b o eb=>?_⟩,by simp [E.len],fun j s ej=>?_,(E.drop (i:=i)).dj⟩
     ·by_cases hb:b=a
      ·exact .inr (by rw [hb];exact h4)
      ·rcases E'.g.nw b o eb with z | z
       ·rw [au hb] at z
        rcases E.g.nw b o z with y | y
        ·exact .inl y
        ·exact .inr y
       ·exact .inr (E.g.sH.free z)
     ·obtain⟨w,k1,k2⟩:=(E1.drop (i:=i)).sl j s ej
      refine⟨w,k1,?_⟩
      have dS:aQ (iP F' [a]) F':=kH
      cases s with
      |sh t=>exact Rep.mono dS k2
      |own ts =>
       obtain⟨p,ws,rfl,m2,m3,m4,m5⟩:=k2
       refine⟨p,ws,rfl,m2,?_,m4,aW.mono dS m5⟩
       have hj:i≠j:=fun z=>by
        subst z
        by_cases hl:i<τ.length
        ·rw [List.getElem?_set_self hl] at ej;cases ej
        ·rw [List.getElem?_eq_none (by simp;omega)] at ej;cases ej
       rw [List.getElem?_set_ne hj] at ej
       have hpa:p≠a:=fun z=>by subst z;exact E.dj i j us ts p hj e3 ej h1 k1
       rw [bH (fun m=>hpa (List.mem_singleton.mp m))] at m3
       exact m3
    have:=E3.setSh (i:=i) h1 rp
    rwa [List.set_set] at this
   exact q F' H' v' E2 (sF.trans s') r'
 ·exact⟨Y0,Y9,F,τ,t,τ',E,e1,q⟩
def ix (i:Nat)(f:FE):FE:=fun τ=>match τ[i]? with
 |some (some _)=>(f τ).bind fun p=>match p.2[i]? with
  |some (some (.own us))=>(cK (.lst us) p.1).bind fun t=>some (t,p.2)
  |some (some (.sh (.lst us)))=>(cK (.lst us) p.1).bind fun t=>some (t,p.2)
  |_=>none
 |_=>none
theorem xV (i:Nat){x:Str}{p1:Pos}{f:FE}(hv:PE X (.Name x p1) (jS i))(he:SE X e f)(hs:oY e):SE X (.Subscript (.Name x p1) e pos) (ix i f):=fun Y0 Y9=>PE.weak (Fg pz hv (he Y0 Y9) hs) fun σ H Q hq__=>by
 obtain⟨F,τ,t,τ',E,e1,q⟩:=hq__
 unfold ix at e1
 split at e1
 ·next s e3 =>
  obtain⟨⟨x,τ1⟩,e2,e1⟩:=bind_some e1
  obtain⟨v0,h1,_⟩:=E.sl i _ e3
  dsimp only at e1
  refine⟨v0,h1,F,τ,x,τ1,E,e2,fun F1 H1 v E1 s1 r1=>?_⟩
  split at e1
  ·next us e4 =>
   obtain⟨u,e5,e1⟩:=bind_some e1
   cases e1
   obtain⟨v',k1,p,vs,rfl,k2,k3,k4,k5⟩:=E1.sl i _ e4
   rw [h1] at k1;cases k1
   unfold cK at e5
   cases x with
   |int k =>
    cases r1
    obtain⟨w,g1,g2⟩:=ma k5 e5
    exact⟨p,vs,k,w,rfl,rfl,dO.of k2,g1,q F1 H1 w E1 s1 g2⟩
   |_=>cases e5
  ·next us e4 =>
   obtain⟨u,e5,e1⟩:=bind_some e1
   cases e1
   obtain⟨v',k1,p,vs,rfl,k2,k5⟩:=E1.sl i _ e4
   rw [h1] at k1;cases k1
   unfold cK at e5
   cases x with
   |int k =>
    cases r1
    obtain⟨w,g1,g2⟩:=ma k5 e5
    exact⟨p,vs,k,w,rfl,rfl,dO.of (E1.g.fh _ _ k2),g1,q F1 H1 w E1 s1 g2⟩
   |_=>cases e5
  ·cases e1
 ·cases e1
theorem aW.put {K:PySem.W.Frag}{F:Hp}:∀{ts:List T} {vs:List V} {t:T} {v:V} (j:Nat),aW K F ts vs->Rep K F t v->aW K F (ts.set j t) (vs.set j v)
 |[],_,_,_,_,h,_=>by cases h;rfl
 |t::ts,_,_,_,0,h,r=>by
  obtain⟨v,rr,rfl,h2,h3⟩:=h
  exact⟨_,rr,rfl,r,h3⟩
 |t::ts,_,_,_,j+1,h,r=>by
  obtain⟨v,rr,rfl,h2,h3⟩:=h
  exact⟨v,_,rfl,h2,aW.put j h3 r⟩
def kc (i:Nat)(f g:FE):FS:=fun τ=>(f τ).bind fun p=>match p.2[i]? with
 |some (some _)=>(g p.2).bind fun r=>match r.2[i]?,r.1 with
  |some (some (.own us)),.int k=>(Bi us.length k).bind fun j=>some (.nx (r.2.set i (some (.own (us.set j p.1)))))
  |_,_=>none
 |_=>none
theorem yb (i:Nat){x:Str}{p1 p2:Pos}{v:Expr}{f g:FE}(hv:PE X (.Name x p1) (jS i))(hf:SE X v f)(hg:SE X e g)
  (ha:∀u,assign (.Subscript (.Name x p1) e p2) X.env u=(do
   let ov <- holding [u] (eval (.Name x p1) X.env)
   let iv <- holding [u,ov] (eval e X.env)
   standAt p2
   holding [u,ov,iv] (setItem ov iv u)
   release [u,ov,iv] []):=by intro _;rfl)
  (hs:swapsWithSole [.Subscript (.Name x p1) e p2] v pos.line X.env=pure false:=by rfl) (hw:swappedStores [.Subscript (.Name x p1) e p2] v X.env=pure none:=by rfl)
  (h1:(assignEach [.Subscript (.Name x p1) e p2] X.env).map (·.2)=[assign (.Subscript (.Name x p1) e p2) X.env]:=by rfl):
  SS X (.Assign [.Subscript (.Name x p1) e p2] v pos) (kc i f g):=fun Y0 Y9=>PS.weak (zL (hf Y0 Y9) (KP hv (hg Y0 Y9) set_list ha) hs hw h1) fun D σ H hq__=>by
 obtain⟨F,τ,r,E,e1,q⟩:=hq__
 obtain⟨⟨t,τ1⟩,e2,e1⟩:=bind_some e1
 refine⟨F,τ,t,τ1,E,e2,fun F1 H1 w E1 s1 r1=>?_⟩
 dsimp only at e1
 split at e1
 ·next s e3 =>
  obtain⟨⟨y,τ2⟩,e4,e1⟩:=bind_some e1
  obtain⟨v0,g1,_⟩:=E1.sl i _ e3
  refine⟨v0,g1,F1,τ1,y,τ2,E1,e4,fun F2 H2 w2 E2 s2 r2=>?_⟩
  dsimp only at e1
  split at e1
  ·next _ us k e5 =>
   obtain⟨j,e7,e1⟩:=bind_some e1
   cases e1
   cases r2
   obtain⟨v',k1,p,vs,rfl,k2,k3,k4,k5⟩:=E2.sl i _ e5
   rw [g1] at k1;cases k1
   exact⟨p,vs,k,j,rfl,rfl,k2,by rw [k5.length];exact e7,q F2 _ σ (E2.turnOwn e5 g1 (k5.put j (Rep.mono s2 r1))) (s1.trans s2)⟩
  ·cases e1
 ·cases e1
def sZ (i:Nat):jH:=fun τ=>match τ[i]? with
 |some (some (.own us))=>some (.lst (us.map .val),τ.set i none)
 |_=>none
theorem xX (i:Nat){x:Str}{p1:Pos}(hv:PE X (.Name x p1) (jS i)):uf X (.Name x p1) (sZ i):=fun Y0 Y9=>PE.weak hv fun σ H Q hq__=>by
 obtain⟨F,τ,o,τ',E,e1,q⟩:=hq__
 unfold sZ at e1
 split at e1
 ·next us e3 =>
  cases e1
  obtain⟨v,g1,p,vs,rfl,g2,g3,g4,g5⟩:=E.sl i _ e3
  refine⟨_,g1,q F H _ [p] E.drop (aQ.refl _) ⟨p,vs,[],rfl,rfl,g2,g3,.vals g5⟩ (by simp) (fun b hb=>by rw [List.mem_singleton] at hb;subst hb;exact g4) fun j ws p' ej sj m=>?_⟩
  rw [List.mem_singleton] at m
  subst m
  have hj:i≠j:=fun z=>by
   subst z
   by_cases hl:i<τ.length
   ·rw [List.getElem?_set_self hl] at ej;cases ej
   ·rw [List.getElem?_eq_none (by simp;omega)] at ej;cases ej
  rw [List.getElem?_set_ne hj] at ej
  exact E.dj i j us ws p' hj e3 ej g1 sj
 ·cases e1
def mB (i:Nat)(f:jH):FS:=fun τ=>(f τ).bind fun p=>match p.1 with
 | .lst os=>some (.nx (p.2.set i (some (.own (O.trs os)))))
 | .val t=>some (.nx (p.2.set i (some (.sh t))))
theorem BU (i:Nat){x:Str}{pos':Pos}{f:jH}(hN:X.N.Nodup)(hi:X.N[i]? = some x)(hx:Loc X.env.scope x)(he:uf X e f)(hs:swapsWith e (some (.Name x pos')) pos.line X.env=pure false:=by rfl)
  (hf:X.fn x=true\/X.env.scope.names.lookup x=some .local:=by first | exact .inl rfl | exact .inr rfl | assumption):SS X (.Assign [.Name x pos'] e pos) (mB i f):=fun Y0 Y9=>PS.weak (lT hN hi hx (he Y0 Y9) hs hf) fun D σ H hq__=>by
 obtain⟨F,τ,r,E,e1,q⟩:=hq__
 obtain⟨⟨o,τ1⟩,e2,e1⟩:=bind_some e1
 refine⟨F,τ,o,τ1,E,e2,fun F' H' v A E' s' ro nd h0 ap=>?_⟩
 dsimp only at e1
 split at e1
 ·next os =>
  cases e1
  obtain⟨p,vs,B,rfl,rfl,h1,h2,h3⟩:=ro
  have nd':=List.nodup_cons.mp nd
  have hF:∀a∈B,F' a=none:=fun a ha=>(h3.at a ha).1
  have E1:=E'.frzO (A:=B) hF (fun a ha=>h0 a (List.mem_cons_of_mem _ ha)) (fun j us p' e1 e2 m=>ap j us p' e1 e2 (List.mem_cons_of_mem _ m))
  refine q _ H' _ (E1.putOwn2 (i:=i) h1 (by rw [bM nd'.1];exact h2) (h0 p List.mem_cons_self) (fun j us p' e1 e2 m=>ap j us p' e1 e2 (by rw [List.mem_singleton.mp m];exact List.mem_cons_self)) (bF.rep (eg hF) (fun a ha=>cO ha) h3)) (s'.trans (eg hF))
 ·cases e1
  exact q F' H' _ (E'.set ro.2) s'
end
def K8:O->Option Sl
 | .lst os=>some (.own (O.trs os))
 | .val t=>some (.sh t)
def DS (m n:Nat)(fb:FS):O->List T->Option T:=fun o ts=>if ts.length+1=n then (fb (K8 o::(ts.map (fun t=>some (Sl.sh t))++List.replicate (m-n) none))).bind fun r=>match r with
 | .rt t=>some t
 | .nx _=>some .non
 |_=>none else none
section
variable {P:Program}{w:World}{K:PySem.W.Frag}{mg:Str->Option Value}{base:Heap}
theorem yR {F H:Hp}{N:List Str}{v:V}{ws:List V}{o:O}{ts:List T}{A:List Addr}(s:aQ F H)(ro:cX K F H o v A)(nd:A.Nodup)(r:aW K F ts ws):
  ∃F1,aQ F F1/\aF K F (iP H A) F1 H (start N (v::ws)) (K8 o::(ts.map (fun t=>some (Sl.sh t))++List.replicate (N.length-(ts.length+1)) none)):=by
 have hl:=r.length
 have key:∀(i:Nat) (sl:Sl),(ts.map (fun t=>some (Sl.sh t))++List.replicate (N.length-(ts.length+1)) none)[i]? = some (some sl)->∃t,ts[i]? = some t/\sl=.sh t:=fun i sl e=>by
  by_cases h:i<ts.length
  ·rw [List.getElem?_append_left (by simpa using h),List.getElem?_map,List.getElem?_eq_getElem h] at e
   simp at e
   exact⟨ts[i],List.getElem?_eq_getElem h,e.symm⟩
  ·rw [List.getElem?_append_right (by simp;omega),List.getElem?_replicate] at e
   split at e<;>cases e
 have tail:∀{i:Nat} {t:T},ts[i]? = some t->∃u,(start N (v::ws))[i+1]? = some (some u)/\Rep K F t u:=fun {i t} e1=>by
  obtain⟨u,g1,g2⟩:=r.get e1
  refine⟨u,?_,g2⟩
  have hi:i<ws.length:=(List.getElem?_eq_some_iff.mp g1).1
  unfold L2.start
  rw [List.getElem?_append_left (by simp;omega),List.getElem?_map,List.getElem?_cons_succ,g1]
  rfl
 have head:(start N (v::ws))[0]? = some (some v):=by unfold L2.start;rfl
 have len:(start N (v::ws)).length=(ts.map (fun t=>some (Sl.sh t))++List.replicate (N.length-(ts.length+1)) (none:Option Sl)).length+1:=by
  simp [L2.start,hl]<;>omega
 cases o with
 |val t =>
  obtain⟨rfl,rt⟩:=ro
  have hd:iP H []=H:=funext fun a=>bH (by simp)
  rw [hd]
  refine⟨F,aQ.refl _,bf.refl s,by simpa using len,fun i sl e=>?_,fun i j us zs p hij e1 e2=>?_⟩
  ·cases i with
   |zero=>simp [K8] at e;subst e;exact⟨v,head,rt⟩
   |succ i =>
    obtain⟨t,e1,rfl⟩:=key i sl (by simpa using e)
    exact tail e1
  ·cases i with
   |zero=>simp [K8] at e1
   |succ i=>obtain⟨t,_,z⟩:=key i _ (by simpa using e1);cases z
 |lst os =>
  obtain⟨p,vs,B,rfl,rfl,h1,h2,h3⟩:=ro
  have nd':=List.nodup_cons.mp nd
  have hF:∀a∈B,F a=none:=fun a ha=>(h3.at a ha).1
  have sF:=eg (F:=F) (H:=H) (A:=B) hF
  refine⟨frzO F H B,sF,⟨sF,kH,fun a u e=>?_,fun a u e=>?_⟩,by simpa using len,fun i sl e=>?_,fun i j us zs q hij e1 e2=>?_⟩
  ·by_cases m:a∈B
   ·rw [cO m] at e;exact e
   ·rw [bM m] at e;exact s _ _ e
  ·by_cases m:a∈B
   ·exact .inr (gH (List.mem_cons_of_mem _ m))
   ·rw [bM m] at e;exact .inl e
  ·cases i with
   |zero =>
    simp [K8] at e;subst e
    exact⟨.ref p,head,p,vs,rfl,h1,by rw [bM nd'.1];exact h2,gH List.mem_cons_self,bF.rep sF (fun a ha=>cO ha) h3⟩
   |succ i =>
    obtain⟨t,e1,rfl⟩:=key i sl (by simpa using e)
    obtain⟨u,g1,g2⟩:=tail e1
    exact⟨u,g1,Rep.mono sF g2⟩
  ·cases j with
   |zero =>
    cases i with
    |zero=>exact absurd rfl hij
    |succ i=>obtain⟨t,_,z⟩:=key i _ (by simpa using e1);cases z
   |succ j=>obtain⟨t,_,z⟩:=key j _ (by simpa using e2);cases z
theorem GV {x qual:Str}{st:Stmt}{f:Addr}{fd:FuncData}{N ps:List Str}{k:Nat}{fb:FS}(F:fW K x qual st f fd)(S:aV N ps (aw st))(hb:Binds K fd ps [])(hm:mg x=some (.ref f))
  (h:∀(cdv:Value) (A:Around) (outer:List Env) (s:Shared) (H:Hp) (E:XK),eK k (A.deeper (envOfC qual (aw st) s.heap.objs.size f cdv))->ug (nA tZ P w K mg base N qual (aw st) f cdv A outer s H E).nox (dy st) fb):
  wc P w K mg base (k+1) x ps.length (DS N.length ps.length fb):=by
 refine⟨f,fd,ps,F.ok S (fun vs H Q E z=>z.1) (fun cdv A outer s H vs Q E hr z=>?_),hb,F.kp,hm,rfl⟩
 obtain⟨hl,F1,o,v,ws,ts,A1,t,sm,rfl,ro,nd,r,e,q⟩:=z
 unfold DS at e
 split at e
 ·next hn =>
  obtain⟨r',e1,e⟩:=bind_some e
  obtain⟨F2,sF2,E0⟩:=yR (N:=N) sm ro nd r
  rw [hn] at E0
  refine⟨_,h cdv A outer s H E hr F1 (iP H A1),F2,_,r',E0,e1,?_⟩
  cases r' with
  |rt u=>cases e;exact fun F' H' v g r'=>q F' H' v g r'
  |nx τ=>cases e;exact fun F' H' σ' E' s'=>q F' H' .non E'.g rfl
  |bk τ=>cases e
  |ct τ=>cases e
 ·cases e
end
theorem lH (fg:FG)(ft:FT)(fe:FE):∀(ts:List T) (τ:aK) (acc us:List T),cY fg ft fe ts τ acc=some us->eV fg ft (mC fe) ts τ (acc.map O.val)=some (us.map O.val)
 |[],_,acc,us,h=>by cases h;rfl
 |t::ts,τ,acc,us,h=>by
  unfold cY at h
  obtain⟨τ1,e1,h⟩:=bind_some h
  obtain⟨p,e2,h⟩:=bind_some h
  unfold eV
  rw [e1,Option.bind_some,e2,Option.bind_some]
  split at h
  ·next hp =>
   obtain⟨q,e3,h⟩:=bind_some h
   rw [if_pos hp,show mC fe p.2=some (.val q.1,q.2) from by unfold mC;rw [e3];rfl,Option.bind_some]
   split at h
   ·next hq =>
    rw [if_pos ⟨hq.1,by rw [List.length_map];exact hq.2⟩]
    have:=lH fg ft fe ts q.2 (acc++[q.1]) us h
    rw [List.map_append] at this
    exact this
   ·cases h
  ·next hp =>
   rw [if_neg hp]
   split at h
   ·next hq =>
    rw [if_pos hq]
    exact lH fg ft fe ts p.2 acc us h
   ·cases h
theorem AW {no:Nat}{cap:List Nat}{fi:FA}{fg:FG}{ft:FT}{fe:FE}{τ τ':aK}{us:List T}(h:bB no cap fi fg ft fe τ=some (.lst us,τ')):eW no cap fi fg ft (mC fe) τ=some (.lst (us.map O.val),τ'):=by
 obtain⟨p,e1,h⟩:=bind_some h
 unfold eW
 rw [e1,Option.bind_some]
 split at h
 ·next ha =>
  obtain⟨vs,e2,h⟩:=bind_some h
  cases h
  rw [if_pos ha,show eV fg ft (mC fe) p.1 (cN no cap (frzAll cap p.2)) []=some (us.map O.val) from lH fg ft fe _ _ [] us e2]
  rfl
 ·cases h
theorem Cu {no:Nat}{cap:List Nat}{fi:FA}{fg:FG}{ft:FT}{fe:FE}{τ τ':aK}{t:T}(h:bB no cap fi fg ft fe τ=some (t,τ')):∃us,t=.lst us:=by
 obtain⟨p,e1,h⟩:=bind_some h
 split at h
 ·obtain⟨vs,e2,h⟩:=bind_some h
  cases h
  exact⟨_,rfl⟩
 ·cases h
section
variable {X:Cx}
theorem cu {elt tg iter:Expr}{ifs:List Expr}{scope:Scope}{pos:Pos}{N':List Str}{no:Nat}{cap:List Nat}{fi:FA}{fg:FG}{ft:FT}{fe:FE}(hx:X.xe=fun _ _=>False)(hc:X.calm=true)(B:gP X scope)(hN:N'.length=no+cap.length)
  (hcap:∀(k j:Nat),cap[k]? = some j->∃x,N'[no+k]? = some x/\X.N[j]? = some x/\(x,NameKind.free)∈scope.names) (hi:SI X tg iter fi)
  (hg:∀C cs Y8 Y9 fp pins,SG (v9 X scope N' C cs Y8 Y9 fp pins) tg fg) (ht:∀C cs Y8 Y9 fp pins,IH (v9 X scope N' C cs Y8 Y9 fp pins) ifs ft) (he:∀C cs Y8 Y9 fp pins,SE (v9 X scope N' C cs Y8 Y9 fp pins) elt fe)
  (hs:∀x,foldedSetIterable iter X.env x=pure x:=by intro _;rfl):SE X (.ListComp elt [⟨tg,iter,ifs,0⟩] scope pos) (bB no cap fi fg ft fe):=fun Y0 Y9=>PE.weak (uf.se (ja hx hc B hN hcap hi hg ht (fun C cs Y8 Y9 fp pins=>SE.seo (he C cs Y8 Y9 fp pins)) hs) Y0 Y9) fun σ H Q hq__=>by
 obtain⟨F,τ,t,τ',E,e1,q⟩:=hq__
 obtain⟨us,rfl⟩:=Cu e1
 refine⟨F,τ,_,τ',E,?_,q⟩
 unfold Om
 rw [AW e1,Option.bind_some]
 show some (T.lst (O.trs (us.map O.val)),τ')=_
 rw [eP]
theorem zZ {i:Nat}{y:Str}{py spos:Pos}{elt tg iter:Expr}{ifs:List Expr}{scope:Scope}{pos:Pos}{N':List Str}{no:Nat}{cap:List Nat}{fi:FA}{fg:FG}{ft:FT}{fe:FE}(hNd:X.N.Nodup)(hiy:X.N[i]? = some y)(hy:X.env.scope.names.lookup y=some .local)
  (hx:X.xe=fun _ _=>False) (hc:X.calm=true) (B:gP X scope) (hN:N'.length=no+cap.length)
  (hcap:∀(k j:Nat),cap[k]? = some j->∃x,N'[no+k]? = some x/\X.N[j]? = some x/\(x,NameKind.free)∈scope.names) (hi:SI X tg iter fi)
  (hg:∀C cs Y8 Y9 fp pins,SG (v9 X scope N' C cs Y8 Y9 fp pins) tg fg) (ht:∀C cs Y8 Y9 fp pins,IH (v9 X scope N' C cs Y8 Y9 fp pins) ifs ft) (he:∀C cs Y8 Y9 fp pins,SE (v9 X scope N' C cs Y8 Y9 fp pins) elt fe)
  (hsw:swapsWith (.ListComp elt [⟨tg,iter,ifs,0⟩] scope pos) (some (.Name y py)) spos.line X.env=pure true:=by rfl) (hs:∀x,foldedSetIterable iter X.env x=pure x:=by intro _;rfl):
  SS X (.Assign [.Name y py] (.ListComp elt [⟨tg,iter,ifs,0⟩] scope pos) spos) (iS i no cap fi fg ft fe):=fun Y0 Y9=>PS.weak (xM i hNd hiy hy hx hc B hN hcap hi hg ht (fun C cs Y8 Y9 fp pins=>SE.seo (he C cs Y8 Y9 fp pins)) hsw hs Y0 Y9) fun D σ H hq__=>by
 obtain⟨F,τ,r,E,e1,q⟩:=hq__
 obtain⟨p,e2,e1⟩:=bind_some e1
 split at e1
 ·next ha =>
  obtain⟨us,e3,e1⟩:=bind_some e1
  cases e1
  refine⟨F,τ,.lst (us.map O.val),frzAll cap p.2,E,AW (by unfold bB;rw [e2,Option.bind_some,if_pos ha,e3];rfl),fun F' H' v A E' s' ro nd h0 ap=>?_⟩
  obtain⟨pa,vs,B',rfl,rfl,k1,k2,k3⟩:=ro
  obtain⟨rfl,k4⟩:=bF.plain (lB us) k3
  rw [eP] at k4
  exact q F' H' _ (aF.putOwn2 E' k1 k2 (h0 pa List.mem_cons_self) ap k4) s'
 ·cases e1
end
section
variable {prog:Program}{w:World}{A:Around}{E:Value->Shared->Prop}{s:Shared}
end
def Jv (K:PySem.W.Frag)(l:Addr)(n:Nat):It:=
 ⟨fun i H=>i<n/\∃xs,dO K H l xs/\xs.length=n,fun i H v H'=>H'=H/\∀xs,dO K H l xs->xs[n-1-i]? = some v,fun i H=>n≤i/\∃xs,dO K H l xs⟩
theorem FW {P:Program}{w:World}{K:PySem.W.Frag}{tg:Expr}{it l:Addr}{n:Nat}:Turn P w K tg (Jv K l n) [it] it (fun i h=>i≤n/\h.IsRevIter it l ((n:Int)-1-(i:Int))) where
 mem:=List.mem_singleton_self _
 obj:=fun i h st b hb=>by
  cases List.mem_singleton.mp hb
  obtain⟨_,o,ho,hc,hd⟩:=st
  exact⟨o,ho,fun v q=>by rw [hd] at q;cases q⟩
 keep:=fun i h h' st k=>⟨st.1,st.2.at fun o x=>k it (List.mem_singleton_self _) o x⟩
 item:=fun X hP hw hK hc i pins s σ H E I hf st hg=>by
  subst hP hw hK
  obtain⟨hi,xs,q1,hl⟩:=hg
  obtain⟨its,r1,p1⟩:=hG (b:=true) I q1
  have hlt:n-1-i<xs.length:=by omega
  obtain⟨u,e1,ru⟩:=r1.get (List.getElem?_eq_getElem hlt)
  have e0:((n:Int)-1-(i:Int))=((n-1-i:Nat):Int):=by omega
  have hit:=st.2
  rw [e0] at hit
  refine wpAny_pyNext_rev_item hit p1 (x:=u) (by simpa using e1) fun h' hit' hs'=>⟨_,rfl,?_⟩
  obtain⟨o',ho',hc',hd'⟩:=id hit'
  refine Bc (s:={ s with heap:=h' }) ho' hc' hd' (by decide) ?_
  have J:Inv X pins σ H { s with heap:=h' }:=jF I hf fun b o hb e=>hs'.extBut b o (fun z=>hb (List.mem_singleton.mpr z)) e
  have e2:((n-1-i:Nat):Int)-1=(n:Int)-1-((i+1:Nat):Int):=by omega
  rw [e2] at hit'
  exact⟨_,H,J,ru,⟨rfl,fun xs' h=>by rw [I.list_inj h q1];exact List.getElem?_eq_getElem hlt⟩,⟨hi,hit'⟩,fun b hb=>(hf b hb).1⟩
 done:=fun X hP hw hK hc i pins s σ H E I hf st hg=>by
  subst hP hw hK
  obtain⟨hi,xs,q1⟩:=hg
  have e0:((n:Int)-1-(i:Int)) = -1:=by have:=st.1;omega
  have hit:=st.2
  rw [e0] at hit
  exact wpAny_pyNext_rev_end (I.ok.hd hc) hit fun h' k=>⟨rfl,jF I hf fun b o hb e=>k b o (fun z=>hb (List.mem_singleton.mpr z)) e⟩
 self:=fun _ _ _ _ _ st h=>wpAny_pyIter_revIter st.2 h
theorem Dh {K:PySem.W.Frag}{F:Hp}{l:Addr}{xs:List V}{ts:List T}(h1:dO K F l xs)(h2:aW K F ts xs):Walks K F ts.reverse (Jv K l xs.length):=by
 have hl:=h2.length
 have hg:∀{i:Nat} {t:T},ts.reverse[i]? = some t->i<ts.length/\ts[ts.length-1-i]? = some t:=fun {i t} e=>by
  have hi:i<ts.length:=by simpa using (List.getElem?_eq_some_iff.mp e).1
  rw [List.getElem?_reverse hi] at e
  exact⟨hi,e⟩
 refine⟨fun i t F1 H1 e s1 s2=>⟨by rw [hl];exact (hg e).1,xs,(s1.trans s2).seq h1,rfl⟩,fun i t F1 H1 x H2 e s1 s2 y=>?_,fun F1 H1 s1 s2=>⟨by rw [List.length_reverse,hl];exact Nat.le_refl _,xs,(s1.trans s2).seq h1⟩⟩
 obtain⟨rfl,y⟩:=y
 obtain⟨_,e1⟩:=hg e
 obtain⟨v,g1,g2⟩:=h2.get e1
 have m:=y xs ((s1.trans s2).seq h1)
 rw [hl,g1] at m;cases m
 exact⟨F1,bf.refl s2,Rep.mono s1 g2⟩
section
variable {X:Cx}
def A4 (g:FA):FA:=fun τ=>(g τ).bind fun p=>match p.1 with
 |[.lst ts]=>some (ts.reverse,p.2)
 |_=>none
theorem K6 {tg a:Expr}{p pos:Pos}{ga:FA}(hg:Gl X "reversed")(hm:X.mg "reversed" = none)(ha:SA X [a] ga)(hs:starEach [a] X.env=[(false,eval a X.env)]:=by rfl):
  SI X tg (.Call (.Name "reversed" p) [a] [] pos) (A4 ga):=by
 intro Y0 Y9 pins s σ H R I ⟨F,τ,ts,τ',E,e1,q⟩
 obtain⟨⟨x,τ1⟩,e2,e1⟩:=bind_some e1
 dsimp only at e1
 split at e1
 ·next us =>
  cases e1
  refine Call_ (ki I hg hm boot_reversed (PyProof.Rows.callWith_type1 (eC (ha Y0 Y9 pos pins s σ H (fun vs H'=>∃l xs,vs=[.ref l]/\dO X.K H' l xs/\R (Jv X.K l xs.length) H') I ⟨F,τ,_,_,E,e2,fun F' H' vs E' s' r'=>?_⟩) fun vs s1 ⟨ws',H1,I1,r1,q1⟩=>?_) hs rfl))
  ·obtain⟨v1,r1,rfl,k1,rfl⟩:=r'
   obtain⟨l,xs,rfl,h1,h2⟩:=k1
   exact⟨l,xs,rfl,dO.of (E'.g.fh _ _ h1),q F' H' _ E' s' (Dh (dO.of h1) h2)⟩
  ·obtain⟨l,xs,rfl,h1,q1⟩:=q1
   obtain⟨u,rfl,ru⟩:=r1.one
   cases ru
   obtain⟨its,rv,p1⟩:=hG (b:=true) I1 h1
   have hlen:=rv.length
   refine call_reversed_list p1 ?_
   have hn:({ s1 with heap:=s1.heap.push (revObj l ((its.toArray.size:Int)-1)) }:Shared).heap.IsRevIter s1.heap.objs.size l ((its.toArray.size:Int)-1):=⟨_,Heap.get?_push_size _ rfl,rfl,rfl⟩
   refine wpAny_pyIter_revIter hn ?_
   have J:Inv X pins σ H1 { s1 with heap:=s1.heap.push (revObj l ((its.toArray.size:Int)-1)) }:=I1.kept (t':=s1.toks) fun b o e=>Heap.get?_push_of_some _ e
   refine⟨_,[_],_,_,H1,rfl,J,FW (it:=s1.heap.objs.size) (l:=l) (n:=xs.length),⟨Nat.zero_le _,?_⟩,fun b hb=>?_,q1⟩
   ·have e0:((its.toArray.size:Int)-1)=((xs.length:Int)-1-((0:Nat):Int)):=by rw [List.size_toArray,<- hlen];simp
    rw [<- e0];exact hn
   ·have e:b=_:=List.mem_singleton.mp hb
    subst e
    exact I1.fpOk (Nat.le_refl _) (I1.hok.fresh (Nat.le_refl _))
 ·cases e1
end
section
variable {X:Cx}
def fO:T->T->Option T
 |a,.non=>some (.bl (!oB a))
 |_,_=>none
theorem mP:oX X (compareOp .IsNot) fO:=by
 intro pins s σ H x y v u Q I rx ry ⟨F,a,b,t,sm,ra,rb,e,q⟩
 unfold fO at e
 split at e
 ·cases e;cases rb
  exact HD pins s σ H _ _ v u Q I rx ry ⟨rfl,by rw [tj ra];exact q F H _ (bf.refl sm) rfl⟩
 ·cases e
def nD (g:FA):FA:=fun τ=>(g τ).bind fun p=>match p.1 with
 |[.int i,.int j]=>if (-(2^62)≤i/\i<2^62)/\(-(2^62)≤j/\j<2^62) then some (upTo i (j-i).toNat,p.2) else none
 |_=>none
theorem Ii {tg a b:Expr}{p pos:Pos}{ga:FA}(hg:Gl X "range")(hm:X.mg "range" = none)(ha:SA X [a,b] ga)(hs:starEach [a,b] X.env=[(false,eval a X.env),(false,eval b X.env)]:=by rfl)
  (hs2:starEach [b] X.env=[(false,eval b X.env)]:=by rfl):SI X tg (.Call (.Name "range" p) [a,b] [] pos) (nD ga):=
 fun Y0 Y9=>PI.weak (CP hg hm (ha Y0 Y9) hs hs2) fun σ H R hh=>by
  obtain⟨F,τ,ts,τ',E,e1,q⟩:=hh
  obtain⟨⟨x,τ1⟩,e2,e1⟩:=bind_some e1
  dsimp only at e1
  split at e1
  ·split at e1
   ·next hb =>
    cases e1
    refine⟨F,τ,_,τ',E,e2,fun F' H' vs E' s' r'=>?_⟩
    obtain⟨v,r,rfl,q1,v2,r2,rfl,q2,rfl⟩:=r'
    cases q1;cases q2
    exact⟨_,_,rfl,⟨hb.1.1,hb.1.2,hb.2.1,hb.2.2⟩,q F' H' _ E' s' (tW _ _)⟩
   ·cases e1
  ·cases e1
end
def Hg (f:Str):List Str->List T->Option T
 |n::ns,t::ts=>if f=n then some t else Hg f ns ts
 |_,_=>none
theorem A5 {K:PySem.W.Frag}{F:Hp}{f:Str}:∀{ns:List Str} {ts:List T} {vs:List V} {t:T},aW K F ts vs->Hg f ns ts=some t->∃v,(ns.zip vs).lookup f=some v/\Rep K F t v
 |[],_,_,_,_,e=>by cases e
 |n::ns,[],_,_,_,e=>by cases e
 |n::ns,t::ts,_,u,r,e=>by
  obtain⟨v,rr,rfl,h1,h2⟩:=r
  unfold Hg at e
  rw [List.zip_cons_cons,List.lookup_cons]
  by_cases h:f=n
  ·rw [if_pos h] at e
   cases e
   rw [beq_iff_eq.mpr h]
   exact⟨v,rfl,h1⟩
  ·rw [if_neg h] at e
   rw [beq_eq_false_iff_ne.mpr h]
   exact A5 h2 e
section
variable {X:Cx}{e:Expr}{es:List Expr}{pos:Pos}
end
section
variable {P:Program}{w:World}{K:PySem.W.Frag}{mg:Str->Option Value}{base:Heap}{j k n:Nat}{C:Addr}{m:Str}
end
section
variable {X:Cx}{o e:Expr}{es:List Expr}{pos apos:Pos}{g:FA}{fo:FE}{k n:Nat}{m:Str}
end
section
variable {X:Cx}{e:Expr}{es:List Expr}{pos:Pos}{g:FA}
end
section
variable {X:Cx}{C:Addr}{e:Expr}{rest:List Stmt}{pos:Pos}
end
def findB (C:Addr):List (Addr×Bool)->Option Bool
 |[]=>none
 |a::r=>if C=a.1 then some a.2 else findB C r
theorem kK {C:Addr}{d:Bool}:∀{l:List (Addr×Bool)},findB C l=some d->(C,d)∈l
 |[],h=>by cases h
 |a::r,h=>by
  unfold findB at h
  split at h
  ·next e=>cases h;subst e;exact List.mem_cons_self
  ·exact List.mem_cons_of_mem _ (kK h)
section
variable {X:Cx}{e:Expr}{pos:Pos}
end
section
variable {X:Cx}{e:Expr}{pos:Pos}{f:FE}
end
section
variable {K:PySem.W.Frag}{Y0 Y9 F H F' H':Hp}{σ σ':L2.St}{τ τ':aK}{x:Nat}{p:Addr}{tss:List (List T)}{A:List Addr}
end
def wR (x:Nat)(p:Addr)(τ:aK):Bool:=match τ[x]? with
 |some (some (.sh (.ptr q)))=>Nat.beq q p
 |_=>false
theorem Et {x:Nat}{p:Addr}{τ:aK}(h:wR x p τ=true):τ[x]? = some (some (.sh (.ptr p))):=by
 unfold wR at h
 split at h
 ·next q e=>rw [e,Nat.eq_of_beq_eq_true h]
 ·cases h
theorem yZ {x:Nat}{p:Addr}{τ:aK}(h:τ[x]? = some (some (.sh (.ptr p)))):wR x p τ=true:=by
 unfold wR
 rw [h]
 exact Nat.beq_refl p
section
variable {X:Cx}{e:Expr}{pos:Pos}{x:Nat}
end
section
variable {K:PySem.W.Frag}{Y0 Y9 F H F' H':Hp}{σ σ':L2.St}{τ τ':aK}{x:Nat}{p:Addr}{tss:List (List T)}{A:List Addr}
theorem lM (hF:∀a∈A,F a=none)(g:bf (frzO F H A) H F' H'):bf F H (iP F' A) H':=by
 refine⟨fun b u e=>?_,g.sH,fun b u e=>?_,fun b u e=>?_⟩
 ·have m:b∉A:=fun m=>by rw [hF b m] at e;cases e
  rw [bH m]
  exact g.sF b u (by rw [bM m];exact e)
 ·by_cases m:b∈A
  ·rw [gH m] at e;cases e
  ·rw [bH m] at e;exact g.fh b u e
 ·by_cases m:b∈A
  ·rw [gH m] at e;cases e
  ·rw [bH m] at e
   rcases g.nw b u e with z | z
   ·rw [bM m] at z;exact .inl z
   ·exact .inr z
end
section
variable {X:Cx}{e:Expr}{pos:Pos}{x:Nat}
end
section
variable {X:Cx}{e:Expr}{pos:Pos}
end
section
variable {X:Cx}{e:Expr}{pos:Pos}
end
section
variable {X:Cx}{e:Expr}{pos:Pos}{x:Nat}
end
section
variable {X:Cx}{i j:Nat}
end
section
variable {X:Cx}
end
section
variable {X:Cx}{a b c:Expr}{fa fb fc:FE}{pos:Pos}
end
structure yr (K:PySem.W.Frag)(Y0 Y9 F H:Hp)(σ:L2.St)(τ:aK)(A:List Addr):Prop where
 E:aF K Y0 Y9 F H σ τ
 lies:∀a∈A,F a=none/\∃vs,H a=some (.lst vs)
 h0:∀a∈A,Y9 a=none
 ap:Apart σ τ A
section
variable {K:PySem.W.Frag}{Y0 Y9 F H F' H':Hp}{σ σ':L2.St}{τ τ':aK}{A:List Addr}
theorem yr.upd (D:yr K Y0 Y9 F H σ τ A){a:Addr}(ha:a∈A)(ws:List V):yr K Y0 Y9 F (L2.upd H a (.lst ws)) σ τ A:=by
 refine⟨⟨⟨D.E.g.sF,fun b u e=>?_,fun b u e=>?_,D.E.g.nw⟩,D.E.len,fun i s e=>?_,D.E.dj⟩,fun b hb=>⟨(D.lies b hb).1,?_⟩,D.h0,D.ap⟩
 ·rw [au (fun z=>by rw [z,D.h0 a ha] at e;cases e)];exact D.E.g.sH _ _ e
 ·rw [au (fun z=>by rw [z,(D.lies a ha).1] at e;cases e)];exact D.E.g.fh _ _ e
 ·obtain⟨v,h1,h2⟩:=D.E.sl i s e
  refine⟨v,h1,?_⟩
  cases s with
  |sh t=>exact h2
  |own ts =>
   obtain⟨q,vs,rfl,k1,k2,k3,k4⟩:=h2
   exact⟨q,vs,rfl,by rw [au (show q≠a from fun z=>D.ap i ts q e h1 (by rw [z];exact ha))];exact k1,k2,k3,k4⟩
 ·by_cases h:b=a
  ·subst h;exact⟨ws,by simp [L2.upd]⟩
  ·rw [au h];exact (D.lies b hb).2
theorem yr.setv (D:yr K Y0 Y9 F H σ τ A){j:Nat}{v:V}(hj:τ[j]? = some none):yr K Y0 Y9 F H (σ.set j (some v)) τ A:=by
 have ne:∀{i:Nat} {s:Sl},τ[i]? = some (some s)->j≠i:=fun {i s} e h=>by rw [<- h,hj] at e;cases e
 refine⟨⟨D.E.g,by simp [D.E.len],fun i s e=>?_,fun i k ts us p h e1 e2 e3=>?_⟩,D.lies,D.h0,fun i us p e1 e2=>?_⟩
 ·rw [List.getElem?_set_ne (ne e)];exact D.E.sl i s e
 ·rw [List.getElem?_set_ne (ne e1)] at e3
  rw [List.getElem?_set_ne (ne e2)]
  exact D.E.dj i k ts us p h e1 e2 e3
 ·rw [List.getElem?_set_ne (ne e1)] at e2
  exact D.ap i us p e1 e2
end
section
variable {X:Cx}{r t x:Nat}{rn tn xn:Str}{p1 p2 p3 p4 p5 p6 pos:Pos}
end
section
variable {K:PySem.W.Frag}{Y0 Y9 F H F' H':Hp}{σ σ':L2.St}{τ τ':aK}{A:List Addr}{x:Nat}{o:O}{v:V}
theorem EL (E:aF K Y0 Y9 F H σ τ)(r:cX K F H o v A)(hv:σ[x]? = some (some v)):aF K (frzO F H A) H (frzO F H A) H σ ((hide τ).set x (some (.sh o.tr))):=by
 have sF:aQ F (frzO F H A):=eg fun a ha=>(r.at a ha).1
 have sH:aQ (frzO F H A) H:=fun b u eb=>by
  by_cases m:b∈A
  ·rw [cO m] at eb;exact eb
  ·rw [bM m] at eb;exact E.g.fh b u eb
 have rp:Rep K (frzO F H A) o.tr v:=r.frz
 have all:∀{j:Nat} {s:Sl},((hide τ).set x (some (.sh o.tr)))[j]? = some (some s)->(∃t,s=.sh t)/\∃v,σ[j]? = some (some v)/\yt K H (frzO F H A) H s v:=fun {j s} e=>by
  by_cases hj:x=j
  ·subst hj
   by_cases hl:x<(hide τ).length
   ·rw [List.getElem?_set_self hl] at e;cases e
    exact⟨⟨_,rfl⟩,_,hv,rp⟩
   ·rw [List.getElem?_eq_none (by simp;omega)] at e;cases e
  ·rw [List.getElem?_set_ne hj] at e
   obtain⟨e1,t,rfl⟩:=kh e
   obtain⟨w,k1,k2⟩:=E.sl j _ e1
   exact⟨⟨t,rfl⟩,w,k1,Rep.mono sF k2⟩
 refine⟨bf.refl sH,by simp [fu,E.len],fun j s e=>(all e).2,fun j k ts ws p _ e1=>?_⟩
 obtain⟨t,z⟩:=(all e1).1
 cases z
end
def Hr (i:Nat)(τ:aK):Bool:=match τ[i]? with
 |some none=>true
 |_=>false
theorem Bg {i:Nat}{τ:aK}(h:Hr i τ=true):τ[i]? = some none:=by
 unfold Hr at h
 split at h
 ·next e=>exact e
 ·cases h
section
variable {X:Cx}{r t x:Nat}{rn tn xn:Str}{p1 p2 p3 p4 p5 p6 pos q1 q2 q3 q4 q5 q6 pos':Pos}
end
structure je (K:PySem.W.Frag)(Y0 Y9 F H:Hp)(σ:L2.St)(τ:aK)(x:Nat)(p:Addr)(os:List O)(A:List Addr):Prop where
 E:aF K Y0 Y9 F H σ τ
 hx:τ[x]? = some (some (.sh (.ptr p)))
 r:cX K F H (.lst os) (.ref p) A
 nd:A.Nodup
 h0:∀a∈A,Y9 a=none
 ap:Apart σ τ A
section
variable {K:PySem.W.Frag}{Y0 Y9 F H F' H':Hp}{σ σ':L2.St}{τ τ':aK}{x:Nat}{p:Addr}{os:List O}{A:List Addr}
theorem je.lies (D:je K Y0 Y9 F H σ τ x p os A){a:Addr}(ha:a∈A):F a=none/\∃vs,H a=some (.lst vs):=D.r.at a ha
theorem je.lend (D:je K Y0 Y9 F H σ τ x p os A):aF K Y0 (frzO Y9 H A) F H σ τ:=by
 refine⟨⟨D.E.g.sF,fun a o e=>?_,D.E.g.fh,fun a o e=>?_⟩,D.E.len,fun i s e=>?_,D.E.dj⟩
 ·by_cases m:a∈A
  ·rw [cO m] at e;exact e
  ·rw [bM m] at e;exact D.E.g.sH _ _ e
 ·have m:a∉A:=fun m=>by rw [(D.lies m).1] at e;cases e
  rcases D.E.g.nw a o e with z | z
  ·exact .inl z
  ·exact .inr (by rw [bM m];exact z)
 ·obtain⟨v,h1,h2⟩:=D.E.sl i s e
  refine⟨v,h1,?_⟩
  cases s with
  |sh t=>exact h2
  |own ts =>
   obtain⟨q,vs,rfl,k1,k2,k3,k4⟩:=h2
   exact⟨q,vs,rfl,k1,k2,by rw [bM (D.ap i ts q e h1)];exact k3,k4⟩
theorem je.back (D:je K Y0 Y9 F H σ τ x p os A)(E':aF K Y0 (frzO Y9 H A) F' H' σ' τ')(s:aQ F F')(hx:τ'[x]? = some (some (.sh (.ptr p)))):je K Y0 Y9 F' H' σ' τ' x p os A:=by
 have out:∀{a:Addr},frzO Y9 H A a=none->a∉A/\Y9 a=none:=fun {a} e=>by
  have m:a∉A:=fun m=>by
   obtain⟨vs,k⟩:=(D.lies m).2
   rw [cO m,k] at e;cases e
  exact⟨m,by rw [bM m] at e;exact e⟩
 refine⟨⟨⟨E'.g.sF,fun a o e=>?_,E'.g.fh,fun a o e=>?_⟩,E'.len,fun i s e=>?_,E'.dj⟩,hx,cX.move s (fun a ha=>?_) D.r,D.nd,D.h0,fun j us q e1 e2=>?_⟩
 ·have m:a∉A:=fun m=>by rw [D.h0 a m] at e;cases e
  exact E'.g.sH _ _ (by rw [bM m];exact e)
 ·rcases E'.g.nw a o e with z | z
  ·exact .inl z
  ·exact .inr (out z).2
 ·obtain⟨v,h1,h2⟩:=E'.sl i s e
  refine⟨v,h1,?_⟩
  cases s with
  |sh t=>exact h2
  |own ts =>
   obtain⟨q,vs,rfl,k1,k2,k3,k4⟩:=h2
   exact⟨q,vs,rfl,k1,k2,(out k3).2,k4⟩
 ·obtain⟨f1,vs,f2⟩:=D.lies ha
  refine⟨by rw [f2];exact E'.g.sH _ _ (by rw [cO ha];exact f2),?_⟩
  cases eF:F' a with
  |none=>rfl
  |some o =>
   rcases E'.g.nw a o eF with z | z
   ·rw [D.E.g.sF _ _ z] at f1;cases f1
   ·exact absurd ha (out z).1
 ·obtain⟨v,h1,q',vs,rfl,k1,k2,k3,k4⟩:=E'.sl j _ e1
  rw [e2] at h1;cases h1
  exact (out k3).1
theorem je.grow (D:je K Y0 Y9 F H σ τ x p os A)(g:bf F H F' H'):je K Y0 Y9 F' H' σ τ x p os A:=⟨D.E.grow g,D.hx,D.r.over g,D.nd,D.h0,D.ap⟩
theorem je.held (D:je K Y0 Y9 F H σ τ x p os A):wj K Y0 Y9 F H p os A:=⟨D.E.g,D.r,D.nd,D.h0⟩
theorem je.get (D:je K Y0 Y9 F H σ τ x p os A):σ[x]? = Option.some (Option.some (.ref p)):=by
 obtain⟨v,h1,h2⟩:=D.E.sl x _ D.hx
 have:v=.ref p:=h2
 rw [h1,this]
end
section
variable {X:Cx}{e:Expr}{pos:Pos}{x:Nat}
theorem ST.any' {c:Expr}{tc:FT}(hT:ST X c tc):PT X c (fun σ H Q=>∃Y0 Y9,tT X.K Y0 Y9 tc σ H Q):=fun pins s σ H Q I ⟨Y0,Y9,q⟩=>hT Y0 Y9 pins s σ H Q I q
theorem je.test {K:PySem.W.Frag}{Y0 Y9 F H:Hp}{σ:L2.St}{τ:aK}{p:Addr}{os:List O}{A:List Addr}{tc:FT}{b:Bool}{τ':aK}{Q:Bool->Hp->Prop}(d:je K Y0 Y9 F H σ τ x p os A)(e:tc ((hide τ).set x (some (.sh (.lst (O.trs os)))))=some (b,τ'))
  (q:∀F' H',je K Y0 Y9 F' H' σ τ x p os A->aQ F F'->Q b H'):∃Y0 Y9,tT K Y0 Y9 tc σ H Q:=by
 refine⟨_,_,_,_,b,τ',EL d.E d.r d.get,by rw [O.tr];exact e,fun F2 H2 E2 s2=>?_⟩
 have g':=lM (fun a ha=>(d.r.at a ha).1) E2.g
 exact q _ H2 (d.grow g') g'.sF
end
section
variable {X:Cx}{e:Expr}{pos:Pos}
end
section
variable {X:Cx}{e:Expr}{pos:Pos}
end
section
variable {P:Program}{w:World}{K:PySem.W.Frag}{mg:Str->Option Value}{base:Heap}{j k n:Nat}{C:Addr}{m:Str}
end
section
variable {X:Cx}{o e:Expr}{pos apos:Pos}{fo:FE}{k n:Nat}{m:Str}
end
section
variable {X:Cx}{x y:Nat}{e:Expr}{pos:Pos}
end
section
variable {K:PySem.W.Frag}{Y0 Y9 F H F' H':Hp}{σ σ':L2.St}{τ τ':aK}{A:List Addr}{o:O}{v:V}
end
section
variable {X:Cx}{x y:Nat}{e:Expr}{pos:Pos}
end
section
variable {X:Cx}{es:List Expr}{pos:Pos}
def NC (K:PySem.W.Frag)(n:Nat)(t:Gf):TG:=fun v σ H Q=>∃a xs,v=.ref a/\dO K H a xs/\xs.length=n/\t xs σ H Q
theorem KO {k:Nat}{t:Gf}{n:Nat}(hc:X.calm=true)(h:Lw X es t)
  (hn:(assignEach es X.env).length=n:=by rfl) (hst:(assignEach es X.env).findIdx? (·.1)=none:=by rfl):PG X (.Tuple es k pos) (NC X.K n t):=by
 intro pins s σ H v u Q I r hw
 obtain⟨a,xs,e1,hq,hl,hw⟩:=hw
 subst e1
 cases r
 obtain⟨its,rv,ht,hz⟩:=I.list hq
 rw [assign_Tuple]
 refine wpAny_bind (wpAny_standAt ?_)
 unfold unpack
 rw [hst,show (assignEach es X.env).length=its.toArray.size by simp [hn,<- hl,rv.length]]
 refine wpAny_bind (wpAny_holding (PySem.W.kun_itemsOf (I.ok.hd hc) ht.isList fun h' hx=>?_))
 have I1:Inv X pins σ H { s with heap:=h' }:=I.kept (t':=s.toks) fun b o e=>hx b o (Nat.ne_of_lt (Heap.lt_size e)) e
 exact h pins _ σ H xs _ Q I1 (by simpa using rv) hw
end
structure XI where
 C:Addr
 ns:List Str
 ts:List T
abbrev FX:=aK->Option (XI×aK)
def l9 (K:PySem.W.Frag)(Y0 Y9 F:Hp)(od:Option Addr)(c:XI):Prop:=(c.ns=[]/\c.ts=[]/\od=none)\/∃d us,od=some d/\F d=some (.xd (c.ns.zip us))/\us.length=c.ns.length/\aW K F c.ts us/\∀p,V.ref p∈us->Y0 p=none/\Y9 p=none
theorem l9.up {K:PySem.W.Frag}{Y0 Y9 F1 H1 F:Hp}{od:Option Addr}{c:XI}(y:l9 K F1 H1 F od c)(sF:aQ Y0 F1)(sH:aQ Y9 H1):l9 K Y0 Y9 F od c:=y.imp id fun⟨d,us,a,b,l,r,n⟩=>⟨d,us,a,b,l,r,fun p m=>⟨sF.free (n p m).1,sH.free (n p m).2⟩⟩
def B9 (b:Bool)(X:Cx)(pins:List (Addr×Obj))(Y0 Y9 F:Hp)(c:XI)(τ':aK)(e:Value)(s':Shared):Prop:=
 ∃σ' F' H' od,((b=true/\Made X pins σ' H' c.C od e s')\/Jr X pins σ' H' c.C od e s')/\aF X.K Y0 Y9 F' H' σ' τ'/\aQ F F'/\l9 X.K Y0 Y9 F' od c
def Oh (b:Bool)(X:Cx)(e:Expr)(fx:FX):Prop:=∀Y0 Y9 pins s σ H F τ C τ',Inv X pins σ H s->aF X.K Y0 Y9 F H σ τ->fx τ=some (C,τ')->wpAny (model X.prog X.w) X.A (eval e X.env) (fun _ _=>False) (B9 b X pins Y0 Y9 F C τ') s
def SX (b:Bool)(X:Cx)(st:Stmt)(fx:FX):Prop:=∀Y0 Y9 pins s σ H F τ C τ',Inv X pins σ H s->aF X.K Y0 Y9 F H σ τ->fx τ=some (C,τ')->wpAny (model X.prog X.w) X.A (exec st X.env) (fun _ _=>False) (B9 b X pins Y0 Y9 F C τ') s
def Ge (b:Bool)(X:Cx)(ss:List Stmt)(fx:FX):Prop:=∀Y0 Y9 pins s σ H F τ C τ',Inv X pins σ H s->aF X.K Y0 Y9 F H σ τ->fx τ=some (C,τ')->wpAny (model X.prog X.w) X.A (execs ss X.env) (fun _ _=>False) (B9 b X pins Y0 Y9 F C τ') s
theorem B9.of {b:Bool}{X:Cx}{pins:List (Addr×Obj)}{Y0 Y9 F F1:Hp}{c:XI}{τ':aK}{e:Value}{s':Shared}(s:aQ F F1)(p:B9 b X pins Y0 Y9 F1 c τ' e s'):B9 b X pins Y0 Y9 F c τ' e s':=by
 obtain⟨σ',F',H',od,z,E,s2,y⟩:=p
 exact⟨σ',F',H',od,z,E,s.trans s2,y⟩
def Oz (K:PySem.W.Frag)(n:Nat)(dx:List T->Option XI):Sp:=fun vs H _ E=>vs.length=n/\∃F ts c,aQ F H/\aW K F ts vs/\dx ts=some c/\∀od F' H',bf F H F' H'->l9 K F H F' od c->E (oV od) (some c.C) H'
structure we (P:Program)(w:World)(K:PySem.W.Frag)(mg:Str->Option Value)(base:Heap)(k:Nat)(x:Str)(n:Nat)(dx:List T->Option XI):Prop where
 ex:∃f fd ps,ir P w K mg base (M3 P w) k f fd ps (Oz K n dx)/\Binds K fd ps []/\PySem.W.keepIn K (.ref f)=true/\mg x=some (.ref f)/\ps.length=n
section
variable {P:Program}{w:World}{K:PySem.W.Frag}{mg:Str->Option Value}{base:Heap}{j k n:Nat}{x:Str}{C:Addr}{dx:List T->Option XI}
theorem we.mono (D:we P w K mg base j x n dx)(h:j≤k):we P w K mg base k x n dx:=by
 obtain⟨f,fd,ps,F,r⟩:=D.ex
 exact⟨f,fd,ps,F.mono h,r⟩
end
section
variable {X:Cx}{e:Expr}{es:List Expr}{pos:Pos}{g:FA}{b:Bool}
def qk (dx:List T->Option XI)(g:FA):FX:=fun τ=>(g τ).bind fun p=>(dx p.1).bind fun C=>some (C,p.2)
theorem Iu {k n:Nat}{x:Str}{p:Pos}{dx:List T->Option XI}(hx:∀e s,X.xe e s->False)(D:we X.prog X.w X.K X.mg X.base k x n dx)(hr:eK k X.A)(hg:Gl X x)(ha:SA X (e::es) g)(hl:∀τ ts τ',g τ=some (ts,τ')->ts.length=n)(hdb:(x == ("__debug__" : Str))=false:=by decide)
  (he:starEach (e::es) X.env=(false,eval e X.env)::starEach es X.env:=by rfl) (hpl:(backTo pos (starEach es X.env)).any (·.1)=false:=by rfl):Oh b X (.Call (.Name x p) (e::es) [] pos) (qk dx g):=by
 obtain⟨f,fd,ps,Fk,hb,hk,hm,hn⟩:=D.ex
 intro Y0 Y9 pins s σ H F τ C τ' I E e1
 obtain⟨⟨ts,τ1⟩,e2,e1⟩:=bind_some e1
 obtain⟨C',e3,e1⟩:=bind_some e1
 cases e1
 have hlen:=hl _ _ _ e2
 refine wpAny_Call_Name_kw (kN I hg hm ?_ hdb)
 refine PySem.W.callWith_K (h₀:=X.base) I.ok.mod.kin hk (wpAny_mono (ha Y0 Y9 pos pins s σ H (fun vs H1=>∃F1,aF X.K Y0 Y9 F1 H1 σ τ1/\aQ F F1/\aW X.K F1 ts vs) I ⟨F,τ,ts,τ1,E,e2,fun F1 H1 vs E1 s1 r1=>⟨F1,E1,s1,r1⟩⟩) (fun us s1 z=>?_) fun e s z=>False.elim (hx e s z)) he hpl
 obtain⟨vs,H1,I1,r,F1,E1,sF,r1⟩:=z
 refine⟨I1.kIn,?_⟩
 have hvl:vs.length=n:=by rw [r1.length];exact hlen
 have hul:(us++[]).length=ps.length:=by rw [List.append_nil,<- r.length,hvl,hn]
 refine wpAny_call (codeAny_mono (Fk.run X.A X.stack s1 H1 ⟨[]++us,[]⟩ (us++[]) (vs++[]) (fun _ _=>False) (fun dv oc H'=>oc=some C.C/\∃od F',dv=oV od/\aF X.K Y0 Y9 F' H' σ τ1/\aQ F F'/\l9 X.K Y0 Y9 F' od C) hr I1.env0 (hb s1 us I1.kIn hul) (r.append .nil) ⟨by rw [List.append_nil];exact hvl,F1,ts,C,E1.g.fh,by rw [List.append_nil];exact r1,e3,fun od F' H' gr y=>⟨rfl,od,F',rfl,E1.grow gr,sF.trans gr.sF,y.up E1.g.sF E1.g.sH⟩⟩) fun rr s' hq=>?_)
 cases rr with
 |error ev =>
  obtain⟨a,C2,od2,H',rfl,fl,ec,od,F',eo,E2,s2,y⟩:=hq
  cases ec
  obtain rfl:=Ks eo
  exact⟨σ,F',H',_,.inr ⟨a,s1,H1,rfl,I1,fl⟩,E2,s2,y⟩
 |ok fl =>
  cases fl with
  |ret u=>obtain⟨v,H',_,_,_,_,_,q⟩:=hq;exact q.elim
  |next=>exact False.elim hq
  |brk=>exact False.elim hq
  |cont=>exact False.elim hq
theorem Lg {tg:Expr}{fx:FX}(h:Oh b X e fx)(hs:swapsWithSole [tg] e pos.line X.env=pure false:=by rfl)(hw:swappedStores [tg] e X.env=pure none:=by rfl):SX b X (.Assign [tg] e pos) fx:=fun Y0 Y9 pins s σ H F τ C τ' I E e1 =>
 wpAny_Assign_stores (wpAny_mono (h Y0 Y9 pins s σ H F τ C τ' I E e1) (fun _ _ z=>z.elim) fun _ _ z=>z) hs hw
def D5 (c:FT)(f1 f2:FX):FX:=fun τ=>(c τ).bind fun p=>if p.1=true then f1 p.2 else f2 p.2
def J0:FX:=fun _=>none
theorem Lh {ss:List Stmt}:Ge b X ss J0:=fun Y0 Y9 pins s σ H F τ C τ' I E e1=>by cases e1
theorem MP {c:Expr}{tc:FT}{as bs:List Stmt}{f1 f2:FX}(hx:∀e s,X.xe e s->False)(hc:ST X c tc)(h1:Ge b X as f1)(h2:Ge b X bs f2):SX b X (.If c as bs pos) (D5 tc f1 f2):=fun Y0 Y9 pins s σ H F τ C τ' I E e1=>by
 obtain⟨⟨c0,τ1⟩,e2,e1⟩:=bind_some e1
 refine wpAny_If (wpAny_mono (hc Y0 Y9 pins s σ H (fun d H1=>d=c0/\∃F1,aF X.K Y0 Y9 F1 H1 σ τ1/\aQ F F1) I ⟨F,τ,c0,τ1,E,e2,fun F1 H1 E1 s1=>⟨rfl,F1,E1,s1⟩⟩) (fun d s1 z=>?_) fun e s z=>False.elim (hx e s z))
 obtain⟨H1,I1,rfl,F1,E1,sF⟩:=z
 dsimp only at e1
 cases d with
 |true =>
  rw [if_pos rfl] at e1
  exact wpAny_mono (h1 Y0 Y9 pins s1 σ H1 F1 τ1 C τ' I1 E1 e1) (fun _ _ z=>z.elim) fun _ _ z=>z.of sF
 |false =>
  rw [if_neg Bool.false_ne_true] at e1
  exact wpAny_mono (h2 Y0 Y9 pins s1 σ H1 F1 τ1 C τ' I1 E1 e1) (fun _ _ z=>z.elim) fun _ _ z=>z.of sF
theorem rD {st:Stmt}{rest:List Stmt}{fx:FX}(h:SX b X st fx):Ge b X (st::rest) fx:=fun Y0 Y9 pins s σ H F τ C τ' I E e1 =>
 wpAny_execs_cons (wpAny_mono (h Y0 Y9 pins s σ H F τ C τ' I E e1) (fun _ _ z=>z.elim) fun _ _ z=>z)
def sY (f:FS)(fx:FX):FX:=fun τ=>(f τ).bind fun r=>match r with
 | .nx τ1=>fx τ1
 |_=>none
theorem yd {st:Stmt}{rest:List Stmt}{f:FS}{fx:FX}(hx:∀e s,X.xe e s->False)(h1:SS X st f)(h2:Ge b X rest fx):Ge b X (st::rest) (sY f fx):=fun Y0 Y9 pins s σ H F τ C τ' I E e1=>by
 obtain⟨r,e2,e1⟩:=bind_some e1
 cases r with
 |nx τ1 =>
  refine wpAny_execs_cons (wpAny_mono (h1 Y0 Y9 pins s σ H { nx:=fun σ1 H1=>∃F1,aF X.K Y0 Y9 F1 H1 σ1 τ1/\aQ F F1,rt:=fun _ _=>False } I ⟨F,τ,.nx τ1,E,e2,fun F1 H1 σ1 E1 s1=>⟨F1,E1,s1⟩⟩) (fun fl s1 z=>?_) fun e s z=>False.elim (hx e s z))
  cases fl with
  |next =>
   obtain⟨σ1,H1,I1,F1,E1,sF⟩:=z
   exact wpAny_mono (h2 Y0 Y9 pins s1 σ1 H1 F1 τ1 C τ' I1 E1 e1) (fun _ _ z=>z.elim) fun _ _ z=>z.of sF
  |ret v=>obtain⟨_,_,_,_,_,z⟩:=z;exact z.elim
  |brk=>obtain⟨_,_,_,z⟩:=z;exact z.elim
  |cont=>obtain⟨_,_,_,z⟩:=z;exact z.elim
 |rt t=>cases e1
 |bk t=>cases e1
 |ct t=>cases e1
end
def NV (K:PySem.W.Frag)(C:Addr)(f:Str):Sp:=fun vs H Q _=>∃a p xs,vs=[.ref a,.ref p]/\H a=some (.ext (pO a C))/\H p=some (.lst xs) /\
 ∀l d,H l=none->upd H l (.lst xs) d=none->d≠a->Q .non (upd (upd (upd H l (.lst xs)) d (.xd [(f,.ref l)])) a (.ext (pP a C d)))
structure oj (P:Program)(w:World)(K:PySem.W.Frag)(mg:Str->Option Value)(base:Heap)(k:Nat)(C:Addr)(f:Str):Prop where
 ex:∃j fI fd ps up,k=j+1/\ir P w K mg base tZ j fI fd ps (NV K C f)/\Binds K fd ps []/\ps.length=2/\B8 K C up (some (.ref fI))/\PySem.W.findIn K (.ref C) "__init__" = some (some (.ref fI))/\PySem.W.typeIn K (.ref fI)=some (.type "function")
theorem oj.mono {P:Program}{w:World}{K:PySem.W.Frag}{mg:Str->Option Value}{base:Heap}{j k:Nat}{C:Addr}{f:Str}(D:oj P w K mg base j C f)(h:j≤k):oj P w K mg base k C f:=by
 obtain⟨i,fI,fd,ps,up,e,F,r⟩:=D.ex
 exact⟨k-1,fI,fd,ps,up,by omega,F.mono (by omega),r⟩
theorem Ep {P:Program}{w:World}{K:PySem.W.Frag}{mg:Str->Option Value}{base:Heap}{k:Nat}{x qual:Str}{st:Stmt}{fI C:Addr}{fd:FuncData}{sN nN f:Str}{up:List Addr}{p1 p2 p3 p4 p5 p6:Pos}(F:fW K x qual st fI fd)(S:aV [sN,nN] [sN,nN] (aw st))(hb:Binds K fd [sN,nN] [])(er:B8 K C up (some (.ref fI)))(fi:PySem.W.findIn K (.ref C) "__init__" = some (some (.ref fI)))(ft:PySem.W.typeIn K (.ref fI)=some (.type "function"))
  (S2:oK K C) (na:pQ K C f) (hbd:dy st=[.Assign [.Attribute (.Name sN p1) f p2] (.Call (.Name "list" p3) [.Name nN p4] [] p5) p6])
  (h:∀(cdv:Value) (A:Around) (outer:List Env) (s:Shared) (H:Hp) (E:XK),eK k (A.deeper (envOfC qual (aw st) s.heap.objs.size fI cdv))->PS (nA tZ P w K mg base [sN,nN] qual (aw st) fI cdv A outer s H E).nox (.Assign [.Attribute (.Name sN p1) f p2] (.Call (.Name "list" p3) [.Name nN p4] [] p5) p6) (Fu K (jS 0) (Ng (fun xs H Q=>∃p ys,xs=[.ref p]/\(dO K H p ys\/ly K H p ys)/\∀l,H l=none->Q (.ref l) (upd H l (.lst ys))) (FL (jS 1) Li)) f)):
  oj P w K mg base (k+2) C f:=by
 refine⟨k+1,fI,fd,[sN,nN],up,rfl,fW.ok F S (fun vs H Q E z=>?_) (fun cdv A outer s H vs Q E hr z=>⟨Fu K (jS 0) (Ng (fun xs H Q=>∃p ys,xs=[.ref p]/\(dO K H p ys\/ly K H p ys)/\∀l,H l=none->Q (.ref l) (upd H l (.lst ys))) (FL (jS 1) Li)) f,?_,?_⟩),hb,rfl,er,fi,ft⟩
 ·obtain⟨a,p,xs,rfl,_⟩:=z
  rfl
 ·rw [hbd]
  exact f9 (h cdv A outer s H E hr)
 ·obtain⟨a,p,xs,rfl,e1,e2,q⟩:=z
  refine⟨.ref p,rfl,p,xs,rfl,.inl (dO.of e2),fun l hl=>⟨.ref a,rfl,a,C,rfl,?_,S2,na,fun d n1 n2=>q l d hl n1 n2⟩⟩
  rw [au (bp e1 hl)]
  exact e1
section
variable {X:Cx}{e:Expr}{pos:Pos}{g:FA}
def mz (C:Addr)(f:Str)(g:FA):FX:=fun τ=>(g τ).bind fun p=>match p.1 with
 |[.lst ts]=>some (⟨C,[f],[.lst ts]⟩,p.2)
 |_=>none
theorem C9 {k:Nat}{C0:Addr}{f:Str}{x:Str}{np cpos:Pos}(hc:X.calm=true)(hx:∀e s,X.xe e s->False)(D:oj X.prog X.w X.K X.mg X.base k C0 f)(hr:eK k X.A)(hg:Gl X x)(hm:X.mg x=some (.ref C0))(ha:SA X [e] g)(hdb:(x == ("__debug__" : Str))=false:=by decide)
  (he:starEach [e] X.env=(false,eval e X.env)::starEach [] X.env:=by rfl) (hex:X.ex=[]:=by rfl):SX true X (.Raise (some (.Call (.Name x np) [e] [] cpos)) none pos) (mz C0 f g):=fun Y0 Y9 pins s σ H F τ c τ' I E e1=>by
 obtain⟨⟨ts,τ1⟩,e2,e1⟩:=bind_some e1
 dsimp only at e1
 split at e1
 case h_2=>cases e1
 next ts0 =>
 cases e1
 obtain⟨j,fI,fd,ps,up,hj,Fk,hb,hn,er,fi,ft⟩:=D.ex
 subst hj
 obtain⟨N,nm,q,bs,hdct,sn,sub,ab,col,dd,k0,k1,k2,k3,k5,mN,cl,_⟩:=er.cls.at
 rw [arm_exec_Raise]
 refine wpAny_bind (wpAny_standAt (zP (K:=X.K) (C:=C0) (bm:=up.map Value.ref++vE) (ini:=some (.ref fI)) ((vV I.kIn up er.ups).hasType (by decide +kernel)) (I.ok.hd hc) (wpAny_bind (wpAny_mono (wpAny_Call_ofName (kN I hg hm ?_ hdb)) (fun v s3 h3=>wpAny_bind (wpAny_standAt (wpAny_pure h3))) fun _ _ x=>x))))
 have hs:=ha Y0 Y9 cpos pins s σ H (fun vs H1=>∃F1,aF X.K Y0 Y9 F1 H1 σ τ'/\aQ F F1/\aW X.K F1 [.lst ts0] vs) I ⟨F,τ,_,τ',E,e2,fun F1 H1 vs E1 s1 r1=>⟨F1,E1,s1,r1⟩⟩
 have hplain:(backTo cpos (starEach [e] X.env)).any (·.1)=false:=by rw [he];rfl
 unfold callWith
 rw [he] at hs hplain ⊢
 refine wpAny_bind (wpAny_holding (wpAny_mono (Calls.evalArgs_plain (wpAny_mono hs (fun us s1 z=>?_) fun e s z=>False.elim (hx e s z))) (Q:=fun a s2=>a.kw=[]/\∃vs H1 F1,Inv X pins σ H1 s2/\Vals vs a.pos/\aF X.K Y0 Y9 F1 H1 σ τ'/\aQ F F1/\aW X.K F1 [.lst ts0] vs) (fun a s2 h2=>wpAny_bind (wpAny_standAt ?_)) fun _ _ x=>x))
 ·obtain⟨vs,H1,I1,r,F1,E1,sF,r1⟩:=z
  exact⟨rfl,vs,H1,F1,I1,r,E1,sF,r1⟩
 obtain⟨us,akw⟩:=a
 obtain⟨hkw,vs,H1,F1,I1,r,E1,sF,r1⟩:=h2
 obtain rfl:akw=[]:=hkw
 obtain⟨v,vs',rfl,⟨p,xs,rfl,hp,hxs⟩,r1'⟩:=r1
 cases r1'
 simp only [hplain]
 obtain⟨hp2,gg,dr,tk,os⟩:=s2
 refine wpAny_bind (wpAny_keeperOf_exc (cl _ I1.kIn).1 ?_)
 have hul:us.length=1:=by rw [<- r.length];rfl
 refine wpAny_bind (Ce (s:=⟨hp2,gg,dr,tk,os⟩) I1.kIn er fi ft (by show us.length≤_;rw [hul];exact Nat.le_of_lt (L2.cL (by decide))) fun h' a m hz=>?_)
 obtain⟨kp,na,t,h1,nt,_⟩:=m
 have nH:H1 a=none:=by
  cases q:H1 a with
  |none=>rfl
  |some o =>
   obtain⟨ob,e⟩:=(I1.hok a o q).has
   rw [na] at e;cases e
 have n0:X.Y8.heap.get? a=none:=by
  cases q:X.Y8.heap.get? a with
  |none=>rfl
  |some o =>
   obtain⟨o2,e2⟩:=I1.base.there a o q (by rw [hex];simp)
   rw [na] at e2;cases e2
 have I2:Inv X pins σ (upd H1 a (.ext (pO a C0))) ⟨h',gg,dr,tk,os⟩:=I1.laid (t':=tk) kp hz (G8 ⟨t,h1⟩)
 have r2:Vals (V.ref a::[V.ref p]) (Value.ref a::us):=.cons rfl r
 have hb2:=hb ⟨h',gg,dr,tk,os⟩ (Value.ref a::us) I2.kIn (by rw [List.append_nil,List.length_cons,hul,hn])
 rw [List.append_nil] at hb2
 have hpa:p≠a:=fun z=>by rw [z] at hp;rw [E1.g.fh _ _ hp] at nH;cases nH
 refine wpAny_call (codeAny_mono (Fk.run _ X.stack _ _ ⟨Value.ref a::us,[]⟩ (Value.ref a::us) (V.ref a::[V.ref p]) (fun v H2=>v=.non/\∃l d,H1 l=none/\l≠a/\H1 d=none/\d≠l/\d≠a/\H2=upd (upd (upd H1 l (.lst xs)) d (.xd [(f,.ref l)])) a (.ext (pP a C0 d))) (fun _ _ _=>False) (hr.make C0 us []) (I2.env0.make C0 us []) hb2 r2 ⟨a,p,xs,rfl,aJ,by rw [au hpa];exact E1.g.fh _ _ hp,fun l d q1 q2 q3=>⟨rfl,l,d,?_⟩⟩) fun rr s' hq=>?_)
 ·have z1:l≠a:=fun z=>by rw [z,aJ] at q1;cases q1
  rw [au z1] at q1
  have z2:d≠l:=fun z=>by rw [z,aJ] at q2;cases q2
  rw [au z2,au q3] at q2
  refine⟨q1,z1,q2,z2,q3,funext fun b=>?_⟩
  by_cases y1:b=a
  ·rw [y1,aJ,aJ]
  ·rw [au y1,au y1]
   by_cases y2:b=d
   ·rw [y2,aJ,aJ]
   ·rw [au y2,au y2]
    by_cases y3:b=l
    ·rw [y3,aJ,aJ]
    ·rw [au y3,au y3,au y1]
 ·cases rr with
  |error ev=>exact hq.elim
  |ok fl =>
   cases fl with
   |next=>exact False.elim hq
   |brk=>exact False.elim hq
   |cont=>exact False.elim hq
   |ret u =>
    obtain⟨v,H2,I3,rv,rfl,l,d,n1,z1,n2,z2,z3,rfl⟩:=I2.after hq
    cases (show u=Value.none from rv)
    refine⟨rfl,wpAny_bind (wpAny_holding (wpAny_point (wpAny_pure ?_)))⟩
    obtain⟨⟨t3,g3⟩,_,_⟩:=(show dN X.prog X.w _ s'.heap a (.ext (pP a C0 d)) from I3.hok a _ aJ)
    have n3:upd (upd H1 l (.lst xs)) d (.xd [(f,.ref l)]) a=none:=by rw [au z3.symm,au z1.symm];exact nH
    have I4:=I3.untrack n3
    have f1:F1 l=none:=E1.g.fh.free n1
    have f2:F1 d=none:=E1.g.fh.free n2
    have sF2:aQ F1 (upd (upd F1 l (.lst xs)) d (.xd [(f,.ref l)])):=fun c o e=>by rw [au (bp e f2),au (bp e f1)];exact e
    have gr:bf F1 H1 (upd (upd F1 l (.lst xs)) d (.xd [(f,.ref l)])) (upd (upd H1 l (.lst xs)) d (.xd [(f,.ref l)])):=⟨sF2,fun c o e=>by rw [au (bp e n2),au (bp e n1)];exact e,fun c o e=>by
     by_cases y2:c=d
     ·rw [y2,aJ] at e ⊢;exact e
     ·rw [au y2] at e ⊢
      by_cases y3:c=l
      ·rw [y3,aJ] at e ⊢;exact e
      ·rw [au y3] at e ⊢;exact E1.g.fh _ _ e,fun c o e=>by
     by_cases y2:c=d
     ·exact .inr (by rw [y2];exact n2)
     ·rw [au y2] at e
      by_cases y3:c=l
      ·exact .inr (by rw [y3];exact n1)
      ·rw [au y3] at e;exact .inl e⟩
    refine⟨a,t3,some d,rfl,I4.kIn,er.cls,g3,σ,_,_,some d,.inl ⟨rfl,a,_,_,_,rfl,I4,n3,n0,g3,rfl,rfl,rfl,rfl,rfl⟩,E1.grow gr,sF.trans gr.sF,.inr ⟨d,[.ref l],rfl,aJ,rfl,?_⟩⟩
    exact⟨⟨_,_,rfl,⟨l,xs,rfl,by rw [au z2.symm,aJ],hxs.mono sF2⟩,rfl⟩,fun p m=>by
     cases List.mem_singleton.mp m
     exact⟨E1.g.sF.free f1,E1.g.sH.free n1⟩⟩
end
def GU (m n:Nat)(fx:FX):List T->Option XI:=fun ts=>if ts.length=n then (fx (ts.map (fun t=>some (Sl.sh t))++List.replicate (m-n) none)).bind fun p=>some p.1 else none
section
variable {P:Program}{w:World}{K:PySem.W.Frag}{mg:Str->Option Value}{base:Heap}
theorem J1 {x qual:Str}{st:Stmt}{f:Addr}{fd:FuncData}{N ps:List Str}{k:Nat}{fx:FX}{dx:List T->Option XI}(F:fW K x qual st f fd)(S:aV N ps (aw st))
  (hd:∀ts C,dx ts=some C->ts.length=ps.length->∃τ',fx (ts.map (fun t=>some (Sl.sh t))++List.replicate (N.length-ps.length) none)=some (C,τ'))
  (h:∀(cdv:Value) (A:Around) (outer:List Env) (s:Shared) (H:Hp) (E:XK),eK k (A.deeper (envOfC qual (aw st) s.heap.objs.size f cdv))->Ge true (nA (M3 P w) P w K mg base N qual (aw st) f cdv A outer s H E).nox (dy st) fx):
  ir P w K mg base (M3 P w) (k+1) f fd ps (Oz K ps.length dx):=by
 obtain⟨oc,od,kV,doc,pm,an,cdv,ct,osl,rfl,lk,hcd⟩:=F.ex
 refine IU lk hcd S (fun vs H Q E z=>z.1) fun A outer s H vs Q E hr z=>?_
 obtain⟨hl,F1,ts,C,sm,r,e,q⟩:=z
 obtain⟨τ',e1⟩:=hd ts C e (by rw [<- r.length];exact hl)
 refine⟨fun _ σ1 H1=>∃τ,aF K F1 H F1 H1 σ1 τ/\fx τ=some (C,τ'),?_,?_⟩
 ·intro pins s1 σ1 H1 D I z
  obtain⟨τ,E1,e2⟩:=z
  refine wpAny_mono (h cdv A outer s H E hr F1 H pins s1 σ1 H1 F1 τ C τ' (I.wish _) E1 e2) (fun _ _ z=>z.elim) fun ev s2 z=>?_
  obtain⟨σ2,F2,H2,od,z,E2,_,y⟩:=z
  rcases z with ⟨_,z⟩ | z
  ·refine wpAny_mono (zv (E:=fun _ _=>False) rfl rfl rfl z) (fun _ s3 z=>?_) fun _ _ z=>z.elim
   obtain⟨a,rfl,fl⟩:=z
   exact⟨a,C.C,od,H2,rfl,fl,q od F2 H2 E2.g y⟩
  ·refine wpAny_mono (zu (E:=fun _ _=>False) rfl rfl rfl z) (fun _ s3 z=>?_) fun _ _ z=>z.elim
   obtain⟨a,rfl,fl⟩:=z
   exact⟨a,C.C,od,H2,rfl,fl,q od F2 H2 E2.g y⟩
 ·refine⟨_,?_,e1⟩
  have:=kJ (N:=N) sm r
  rw [show ts.length=ps.length by rw [<- r.length];exact hl] at this
  exact this
theorem GW {x qual:Str}{st:Stmt}{f:Addr}{fd:FuncData}{N ps:List Str}{k:Nat}{fx:FX}(F:fW K x qual st f fd)(S:aV N ps (aw st))(hb:Binds K fd ps [])(hm:mg x=some (.ref f))
  (h:∀(cdv:Value) (A:Around) (outer:List Env) (s:Shared) (H:Hp) (E:XK),eK k (A.deeper (envOfC qual (aw st) s.heap.objs.size f cdv))->Ge true (nA (M3 P w) P w K mg base N qual (aw st) f cdv A outer s H E).nox (dy st) fx):
  we P w K mg base (k+1) x ps.length (GU N.length ps.length fx):=by
 refine⟨f,fd,ps,J1 F S (fun ts C e hl=>?_) h,hb,F.kp,hm,rfl⟩
 unfold GU at e
 rw [if_pos hl] at e
 obtain⟨⟨C',τ'⟩,e1,e⟩:=bind_some e
 cases e
 exact⟨τ',e1⟩
end
theorem aF.del {K:PySem.W.Frag}{Y0 Y9 F H:Hp}{σ:L2.St}{τ:aK}{i:Nat}(E:aF K Y0 Y9 F H σ τ):aF K Y0 Y9 F H (σ.set i none) (τ.set i none):=by
 have key:∀(j:Nat) (s:Sl),(τ.set i none)[j]? = some (some s)->j≠i/\τ[j]? = some (some s):=fun j s e=>by
  have hj:j≠i:=fun z=>by
   rw [z] at e
   by_cases hi:i<τ.length
   ·rw [List.getElem?_set_self hi] at e;cases e
   ·rw [List.getElem?_eq_none (by rw [List.length_set];omega)] at e;cases e
  rw [List.getElem?_set_ne (Ne.symm hj)] at e
  exact⟨hj,e⟩
 refine⟨E.g,by rw [List.length_set,List.length_set];exact E.len,fun j s e=>?_,fun j l ts us p hjl e1 e2 e3=>?_⟩
 ·obtain⟨hj,e⟩:=key j s e
  obtain⟨v,h1,h2⟩:=E.sl j s e
  exact⟨v,by rw [List.getElem?_set_ne (Ne.symm hj)];exact h1,h2⟩
 ·obtain⟨hj,e1⟩:=key j _ e1
  obtain⟨hl,e2⟩:=key l _ e2
  rw [List.getElem?_set_ne (Ne.symm hj)] at e3
  rw [List.getElem?_set_ne (Ne.symm hl)]
  exact E.dj j l ts us p hjl e1 e2 e3
abbrev IG:=XI->aK->Option R
def LR (X:Cx)(hs:List ExceptHandler)(fh:IG):Prop:=∀Y0 Y9 pins s5 σ H F τ c od a r Dn E,nq X pins σ H c.C od a s5->aF X.K Y0 Y9 F H σ τ->l9 X.K Y0 Y9 F od c->fh c τ=some r->nh X.K Y0 Y9 F Dn r ->
 wpAny (model X.prog X.w) X.A (handleBy (.ref a) X.env hs) (SP X pins Dn) E s5
structure yu (K:PySem.W.Frag)(D:Addr)(tbl:List (Addr×Bool)):Prop where
 cls:∃bD iD,iL K D bD iD/\bD.contains (.type "BaseException")=true
 all:∀a∈tbl,∃bC iC,iL K a.1 bC iC/\(Value.ref a.1::bC).contains (.ref D)=a.2
def A3:IG:=fun _ _=>none
def Hf (i:Nat)(tbl:List (Addr×Bool))(fh:FS)(more:IG):IG:=fun c τ=>(findB c.C tbl).bind fun b=>if b=true then
  (fh (τ.set i (some (.sh (.exc c.C c.ns c.ts))))).bind fun r=>match r with
  | .nx τ2=>some (.nx (τ2.set i none))
  | .rt t=>some (.rt t)
  |_=>none
 else more c τ
section
variable {X:Cx}{pos:Pos}
theorem K5:LR X [] A3:=fun Y0 Y9 pins s5 σ H F τ c od a r Dn E z E1 y e q=>by cases e
theorem En {K:PySem.W.Frag}{Y0 Y9 F H:Hp}{σ:L2.St}{τ:aK}{a:Addr}{φ:Heap->Prop}(E2:aF K Y0 Y9 F H σ τ)(na:H a=none):bf F H (upd F a (.ext φ)) (upd H a (.ext φ)):=by
 have nF:F a=none:=E2.g.fh.free na
 exact⟨fun c o e=>by rw [au (bp e nF)];exact e,fun c o e=>by rw [au (bp e na)];exact e,fun c o e=>by
  by_cases hc:c=a
  ·rw [hc] at e ⊢
   rw [aJ] at e ⊢
   exact e
  ·rw [au hc] at e ⊢
   exact E2.g.fh _ _ e,fun c o e=>by
  by_cases hc:c=a
  ·exact .inr (by rw [hc];exact na)
  ·rw [au hc] at e
   exact .inl e⟩
theorem MJ {suite:List Stmt}{Y6:Stmt}{x n:Str}{np hpos:Pos}{D:Addr}{i:Nat}{tbl:List (Addr×Bool)}{fh:FS}{more:IG}{hs:List ExceptHandler}(hN:X.N.Nodup)(hi:X.N[i]? = some n)
  (hl:X.env.scope.names.lookup n=some .local) (hlo:X.env.kindOf n=some .local) (hg:Gl X x) (hm:X.mg x=some (.ref D)) (tk:yu X.K D tbl)
  (hh:∀a,ug (X.inS (.ref a)) (Y6::suite) fh) (hr:LR X hs more) (hdb:(x == ("__debug__" : Str))=false:=by decide):
  LR X (.ExceptHandler (some (.Name x np)) (some n) (Y6::suite) hpos::hs) (Hf i tbl fh more):=by
 intro Y0 Y9 pins s5 σ H F τ c od a r Dn E z E1 y e q
 obtain⟨bD,iD,cD,hbD⟩:=tk.cls
 obtain⟨b,e1,e⟩:=bind_some e
 obtain⟨bC,iC,cC,hCD⟩:=tk.all _ (kK e1)
 cases b with
 |false =>
  rw [if_neg Bool.false_ne_true] at e
  exact Cz z cC cD hbD hCD hg hm (hr Y0 Y9 pins s5 σ H F τ c od a r Dn E z E1 y e q) hdb
 |true =>
  rw [if_pos rfl] at e
  obtain⟨r',eh,e⟩:=bind_some e
  refine Hm z cC cD hbD hCD hg hm hN hi hl hlo (fun s2 na I2=>?_) hdb
  have gr:=En (φ:=fK a c.C od) E1 na
  have E3:aF X.K Y0 Y9 (upd F a (.ext (fK a c.C od))) (upd H a (.ext (fK a c.C od))) (σ.set i (some (.ref a))) (τ.set i (some (.sh (.exc c.C c.ns c.ts)))):=(E1.grow gr).set (t:=.exc c.C c.ns c.ts) ⟨a,od,rfl,aJ,by
   rcases y with y | ⟨d,us,y1,y2,y3,y4⟩
   ·exact .inl y
   ·exact .inr ⟨d,us,y1,gr.sF _ _ y2,y3,y4.1.mono gr.sF⟩⟩
  refine hh a Y0 Y9 pins s2 _ _ (Dn.gone i) I2 ⟨_,_,r',E3,eh,?_⟩
  cases r' with
  |nx τ2 =>
   cases e
   exact fun F3 H3 σ3 E4 s4=>q F3 H3 (σ3.set i none) E4.del (gr.sF.trans s4)
  |rt t =>
   cases e
   exact q
  |bk τ2=>cases e
  |ct τ2=>cases e
end
structure wk (K:PySem.W.Frag)(Ct C:Addr)(b:Bool):Prop where
 ex:∃bm,rL K C bm
 kit:PySem.W.kitOne K (.ref C) (.ref Ct)=some b
section
variable {X:Cx}{e:Expr}{pos:Pos}
theorem Cg {Ct:Addr}:fJ X (.builtin "isinstance") (fun xs H Q=>∃a C od b,xs=[.ref a,.ref Ct]/\H a=some (.ext (fK a C od))/\wk X.K Ct C b/\Q (.bl b) H):=by
 intro pins s σ H xs us Q I r h
 obtain⟨a,C,od,b,rfl,ea,ok,q⟩:=h
 obtain⟨u1,u2,rfl,ra,rb⟩:=Vals.two r
 cases (show u2=Value.ref Ct from rb)
 cases (show u1=Value.ref a from ra)
 obtain⟨bm,ax⟩:=ok.ex
 obtain⟨ph,_⟩:=(show dN X.prog X.w H s.heap a (.ext (fK a C od)) from I.hok a _ ea)
 exact PySem.W.kia_one (xk ax) I.kIn ph ok.kit (fun z=>nomatch z) fun tk=>⟨.bl b,H,I.tok tk,rfl,q⟩
def AY (tbl:List (Addr×Bool))(fe:FE):FE:=fun τ=>(fe τ).bind fun p=>match p.1 with
 | .exc C _ _=>(findB C tbl).bind fun b=>some (.bl b,p.2)
 |_=>none
theorem HY {Ct:Addr}{x:Str}{p p':Pos}{fe:FE}{tbl:List (Addr×Bool)}(ht:∀a∈tbl,wk X.K Ct a.1 a.2)(hg:Gl X "isinstance")(hm:X.mg "isinstance" = none)(hgx:Gl X x)(hmx:X.mg x=some (.ref Ct))(he:SE X e fe)
  (hs:starEach [e,.Name x p] X.env=(false,eval e X.env)::starEach [.Name x p] X.env:=by rfl) (hs2:starEach [.Name x p] X.env=(false,eval (.Name x p) X.env)::starEach [] X.env:=by rfl) (hpl:(backTo pos (starEach [.Name x p] X.env)).any (·.1)=false:=by rfl) (hdx:(x == ("__debug__" : Str))=false:=by decide):
  SE X (.Call (.Name "isinstance" p') [e,.Name x p] [] pos) (AY tbl fe):=fun Y0 Y9 =>
 PE.weak (xH Cg hg hm (show bootBuiltins "isinstance" = some (.builtin "isinstance") from rfl) (eu (he Y0 Y9) (eu (vw (v:=.ref Ct) hgx hmx rfl hdx) iz hs2) hs) (by decide) (by decide) hs hpl) fun σ H Q h=>by
  obtain⟨F,τ,t,τ',E,e1,q⟩:=h
  obtain⟨⟨y,τ1⟩,e2,e1⟩:=bind_some e1
  dsimp only at e1
  split at e1
  ·next C _ _ =>
   obtain⟨b,e3,e1⟩:=bind_some e1
   cases e1
   refine⟨F,τ,_,_,E,e2,fun F1 H1 v E1 s1 r1=>?_⟩
   obtain⟨a,od,rfl,h1,_⟩:=r1
   exact⟨a,C,od,b,rfl,E1.g.fh _ _ h1,ht _ (kK e3),q F1 H1 _ E1 s1 rfl⟩
  ·cases e1
end
structure Gr (K:PySem.W.Frag)(C:Addr)(f:Str):Prop where
 ask:∃bm,rL K C bm
 sto:oK K C
 no:pQ K C f
section
variable {X:Cx}{e:Expr}{pos:Pos}
def MU (K:PySem.W.Frag)(ta:TE)(f:Str):TE:=fun σ H Q=>ta σ H fun x H1=>∃a C d fs v,x=.ref a/\H1 a=some (.ext (fK a C (some d)))/\H1 d=some (.xd fs)/\Gr K C f/\fs.lookup f=some v/\Q v H1
theorem HH {ta:TE}{f:Str}(he:PE X e ta)(hb:attributeBase e f X.env (eval e X.env)=eval e X.env):PE X (.Attribute e f pos) (MU X.K ta f):=by
 intro pins s σ H Q I h
 refine Gy hb (eC (he pins s σ H _ I h) fun u s1 ⟨x,H1,I1,rx,a,C,d,fs,v,ex,ea,ed,c,l,q⟩=>?_)
 subst ex
 obtain rfl:u=Value.ref a:=rx
 obtain⟨⟨oe,vs,g1,g2,g3,g4⟩,_,_⟩:=(show dN X.prog X.w H1 s1.heap a (.ext (fK a C (some d))) from I1.hok a _ ea)
 obtain⟨m,n1,n2⟩:=(show dN X.prog X.w H1 s1.heap d (.xd fs) from I1.hok d _ ed)
 have n3:=n2 f
 rw [l] at n3
 obtain⟨bm,ax⟩:=c.ask
 cases hm:m f with
 |none=>rw [hm] at n3;exact n3.elim
 |some u' =>
  rw [hm] at n3
  exact Hl I1.kIn g1 g2 g3 g4 n1 c.sto ax c.no hm (CA n3) ⟨v,H1,I1.tok _,n3,q⟩
def AX (Cs:List Addr)(f:Str)(fe:FE):FE:=fun τ=>(fe τ).bind fun p=>match p.1 with
 | .exc C ns ts=>if C∈Cs then (Hg f ns ts).bind fun t=>some (t,p.2) else none
 |_=>none
theorem HX {Cs:List Addr}{f:Str}{fe:FE}(hC:∀C∈Cs,Gr X.K C f)(he:SE X e fe)(hb:attributeBase e f X.env (eval e X.env)=eval e X.env:=by rfl):SE X (.Attribute e f pos) (AX Cs f fe):=
 fun Y0 Y9=>PE.weak (HH (he Y0 Y9) hb) fun σ H Q h=>by
  obtain⟨F,τ,t,τ',E,e1,q⟩:=h
  obtain⟨⟨x,τ1⟩,e2,e1⟩:=bind_some e1
  dsimp only at e1
  split at e1
  ·next C ns ts =>
   split at e1
   ·next hm =>
    obtain⟨u,e3,e1⟩:=bind_some e1
    cases e1
    refine⟨F,τ,_,_,E,e2,fun F1 H1 v E1 s1 r1=>?_⟩
    obtain⟨a,od,rfl,h1,h2⟩:=r1
    rcases h2 with ⟨rfl,rfl,rfl⟩ | ⟨d,us,rfl,h2,h3,h4⟩
    ·cases e3
    ·obtain⟨w,l1,l2⟩:=A5 h4 e3
     exact⟨a,C,d,_,w,rfl,E1.g.fh _ _ h1,E1.g.fh _ _ h2,hC C hm,l1,q F1 H1 w E1 s1 l2⟩
   ·cases e1
  ·cases e1
end
section
variable {X:Cx}{es:List Expr}{pos:Pos}
end
def IM (K:PySem.W.Frag)(C:Addr)(bm:List Value)(ini:Option Value):Bool:=match K.lookup C with
 | some ⟨.type t,_,.cls ⟨_,_,mro,N,_,_,_,_,_,_,hd⟩,⟨[_,_,_,_,some (.builtin nid),_]⟩⟩=>t == "type"&&decide (mro=.ref C::bm)&&!hd&&nid == "ValueError.__new__"&&(match K.lookup N with
  |some ⟨_,_,.dict es _,_⟩=>es.all (fun e=>match e.key with | .str _ _=>true | _=>false)&&decide (nsFind es "__init__" = ini)
  | _=>false)
 |_=>false
theorem iL.of {K:PySem.W.Frag}{C:Addr}{bm:List Value}{ini:Option Value}(h:IM K C bm ini=true):iL K C bm ini:=by
 unfold IM at h
 split at h
 ·next t dd nm bs mro N q hdct sn sub ab col hd k0 k1 k2 k3 nid k5 e1 =>
  simp only [Bool.and_eq_true,beq_iff_eq,decide_eq_true_eq,Bool.not_eq_true'] at h
  obtain⟨⟨⟨⟨rfl,rfl⟩,rfl⟩,rfl⟩,h⟩:=h
  split at h
  ·next c d es ep sl e2 =>
   simp only [Bool.and_eq_true,decide_eq_true_eq] at h
   exact⟨N,nm,q,bs,hdct,sn,sub,ab,col,_,k0,k1,k2,k3,k5,_,es,ep,e1,e2,rfl,h.1,h.2⟩
  ·cases h
 ·cases h
def Jo (K:PySem.W.Frag)(C:Addr)(up:List Addr):Bool:=match PySem.W.clsIn K C with
 |some cd=>decide (cd.mro=(C::up).map Value.ref++vE)&&cd.hasDict
 |none=>false
theorem oK.of {K:PySem.W.Frag}{C:Addr}(up:List Addr)(h:Jo K C up=true)(sa:PySem.W.findIn K (.ref C) "__setattr__" = some (some (.builtin "object.__setattr__"))):oK K C:=by
 unfold Jo at h
 split at h
 ·next cd e =>
  rw [Bool.and_eq_true,decide_eq_true_eq] at h
  exact⟨⟨cd,up,e,h.1,h.2⟩,sa⟩
 ·cases h
section
variable {X:Cx}{r t:Nat}{rn tn:Str}{p1 p2 p3 p4 p5 p6 pos q1 q3 q4 q5 q6 pos':Pos}
end
section
variable {K:PySem.W.Frag}{Y0 Y9 F H:Hp}{σ:L2.St}{τ:aK}{A:List Addr}
end
section
variable {X:Cx}{t x:Nat}{tn xn:Str}{q1 q2 p1 p2 p3 p4 p5 r1 r2 r3 r4 r5 r6 r7 r8 r9 pos':Pos}
end
theorem yr.put {K:PySem.W.Frag}{Y0 Y9 F H:Hp}{σ:L2.St}{τ:aK}{A:List Addr}(D:yr K Y0 Y9 F H σ τ A){y:Nat}{t:T}{v:V}(r:Rep K F t v):yr K Y0 Y9 F H (σ.set y (some v)) (τ.set y (some (.sh t))) A:=by
 refine⟨D.E.set r,D.lies,D.h0,fun j us p e1 e2=>?_⟩
 by_cases hj:y=j
 ·subst hj
  by_cases hl:y<τ.length
  ·rw [List.getElem?_set_self hl] at e1;cases e1
  ·rw [List.getElem?_eq_none (by simp;omega)] at e1;cases e1
 ·rw [List.getElem?_set_ne hj] at e1 e2
  exact D.ap j us p e1 e2
section
variable {X:Cx}{t x y:Nat}{tn xn yn:Str}{q1 q2 p1 p2 p3 p4 p5 r1 r2 r3 r4 r5 r6 r7 r8 r9 pos' a1 a2 c1 c2:Pos}
end
section
variable {P:Program}{w:World}{K:PySem.W.Frag}{mg:Str->Option Value}{base:Heap}{j k n:Nat}{x:Str}
end
section
variable {X:Cx}{e a b:Expr}{es:List Expr}{pos:Pos}{g:FA}{k n:Nat}
end
section
variable {X:Cx}{x:Nat}{xn:Str}{r1 r2 r3 r4 r5 r6 r7 r8 r9 a1 a2 a3:Pos}
end
section
variable {K:PySem.W.Frag}{Y0 Y9 F H F' H':Hp}{σ σ':L2.St}{τ τ':aK}{A:List Addr}
end
section
variable {X:Cx}{x:Nat}{e:Expr}{pos:Pos}{hs:List Nat}
end
section
variable {X:Cx}{r pl nu:Nat}{rn pn nn:Str}{t1 t2 px e1 e2 e3 e4 e5 b1 b2 b3 b4 pos:Pos}{E:Expr}{fE:FE}{φ:T->T}
end
section
variable {X:Cx}{r t x pl nu:Nat}{rn tn xn pn nn:Str}{t1 t2 px e1 e2 e3 e4 e5 b1 b2 b3 b4 pos c1 c2 cpos:Pos}{E:Expr}{φ:T->T}{kx:Nat}
end
section
variable {K:PySem.W.Frag}{F H:Hp}
end
section
variable {X:Cx}{r t x pl nu:Nat}{xn:Str}{a1 a2 a3 f1 f2:Pos}
end
mutual
def kf:T->Bool
 | .tup ts=>kg ts
 | .lst _=>false
 | .scr _=>false
 | .dic=>false
 | .obj _ _ _=>false
 | .exc _ _ _=>false
 |_=>true
def kg:List T->Bool
 |[]=>true
 |t::ts=>kf t&&kg ts
end
section
variable {K:PySem.W.Frag}{F H:Hp}{A:List Addr}
mutual
theorem Rep.flat (hA:∀a∈A,∃vs,F a=some (.lst vs)):∀{t:T} {v:V},kf t=true->Rep K F t v->Rep K (iP F A) t v
 | .non,_,_,h=>h
 | .bl _,_,_,h=>h
 | .int _,_,_,h=>h
 | .str _,_,_,h=>h
 | .ty _,_,_,h=>h
 | .tup ts,_,k,h=>by
  obtain⟨b,xs,h1,h2,h3⟩:=h
  refine⟨b,xs,h1,?_,aW.flat hA (by simpa [kf] using k) h3⟩
  rcases h2 with (h2 | ⟨o,h2⟩) | h2
  ·refine .inl (.inl ?_)
   rw [bH (fun m=>by obtain⟨vs,e⟩:=hA b m;rw [e] at h2;cases h2)];exact h2
  ·refine .inl (.inr ⟨o,?_⟩)
   rw [bH (fun m=>by obtain⟨vs,e⟩:=hA b m;rw [e] at h2;cases h2)];exact h2
  ·exact .inr h2
 | .lst ts,_,k,h=>by simp [kf] at k
 | .scr _,_,k,_=>by simp [kf] at k
 | .dic,_,k,h=>by simp [kf] at k
 | .obj C ns ts,_,k,h=>by simp [kf] at k
 | .ptr _,_,_,h=>h
 | .exc _ _ _,_,k,h=>by simp [kf] at k
theorem aW.flat (hA:∀a∈A,∃vs,F a=some (.lst vs)):∀{ts:List T} {ws:List V},kg ts=true->aW K F ts ws->aW K (iP F A) ts ws
 |[],_,_,h=>h
 |t::ts,_,k,h=>by
  obtain⟨v,r,h1,h2,h3⟩:=h
  have k':kf t=true/\kg ts=true:=by simpa [kg] using k
  exact⟨v,r,h1,Rep.flat hA k'.1 h2,aW.flat hA k'.2 h3⟩
end
theorem Cq {a:Addr}(h:F a=none):iP F A a=none:=by
 by_cases m:a∈A
 ·exact gH m
 ·rw [bH m];exact h
end
section
variable {X:Cx}{e:Expr}{pos:Pos}{x:Nat}
end
theorem Gx {v:V}{vs:List V}:oZ (v::vs) 0=some v:=by
 unfold oZ Bi
 rw [if_pos (by decide),if_pos (by simp),Option.bind_some]
 rfl
section
variable {X:Cx}{x:Nat}{xn:Str}{r1 r2 r3 r4 r5 r6 r7 r8 r9 a1 a2 a3:Pos}
end
section
variable {X:Cx}{e:Expr}{pos:Pos}{b:Bool}
end
section
variable {K:PySem.W.Frag}{Y0 Y9 F H F' H':Hp}{σ σ':L2.St}{τ τ':aK}{x:Nat}{p:Addr}{tss:List (List T)}{A:List Addr}
end
section
variable {X:Cx}{pos p2:Pos}
end
section
variable {X:Cx}{e:Expr}{pos:Pos}{x:Nat}
end
section
variable {K:PySem.W.Frag}{Y0 Y9 F H F' H':Hp}{σ σ':L2.St}{τ τ':aK}
end
section
variable {X:Cx}{e v:Expr}{pos pos2:Pos}{x i j:Nat}{nx ni nj:Str}{q1 q2 q3 q4 q5 p1 p2 p3:Pos}{fo:jH}{fv:FE}{t:T}
end
section
variable {X:Cx}{e:Expr}{pos:Pos}{x:Nat}
end
section
variable {X:Cx}{e:Expr}{pos:Pos}{x:Str}{f:FE}
end
section
variable {prog:Program}{w:World}{A:Around}{R:Result->Shared->Prop}{s:Shared}{elt tg iter tg2 iter2:Expr}{scope:Scope}{pos:Pos}{it acc:Value}{env:Env}
end
section
variable {X:Cx}{K:PySem.W.Frag}{D:Addr}{F₂ H₁:Hp}{pins:List (Addr×Obj)}{σ:L2.St}{H F:Hp}{τ:aK}{us:List T}{s:Shared}
end
section
variable {X':Cx}{tg iter tg2 iter2 elt:Expr}{scope:Scope}{pos:Pos}{fg2:FG}{fi2:FA}{fe:FE}{D:Addr}{F₂ H₁:Hp}
end
section
variable {X:Cx}
end
variable {X:Cx}
variable {X:Cx}{e:Expr}{pos:Pos}
structure Ax (K:PySem.W.Frag)(A B C:Addr)(b:Bool):Prop where
 ex:∃bm,rL K C bm
 kit:PySem.W.kitAny K (.ref C) [.ref A,.ref B]=some b
theorem yE {A B:Addr}:fJ X (.builtin "isinstance") (fun xs H Q=>∃a C od tp b,xs=[.ref a,.ref tp]/\H a=some (.ext (fK a C od))/\ly X.K H tp [.ref A,.ref B]/\Ax X.K A B C b/\Q (.bl b) H):=by
 intro pins s σ H xs us Q I r h
 obtain⟨a,C,od,tp,b,rfl,ea,et,ok,q⟩:=h
 obtain⟨u1,u2,rfl,ra,rb⟩:=Vals.two r
 cases (show u2=Value.ref tp from rb)
 cases (show u1=Value.ref a from ra)
 obtain⟨bm,ax⟩:=ok.ex
 obtain⟨ph,_⟩:=(show dN X.prog X.w H s.heap a (.ext (fK a C od)) from I.hok a _ ea)
 obtain⟨its,hv,⟨o,h1,h2,n,h3⟩,_⟩:=I.tuple et
 obtain⟨w1,w2,rfl,r1,r2⟩:=Vals.two hv
 cases (show w1=Value.ref A from r1)
 cases (show w2=Value.ref B from r2)
 obtain⟨oc,od',dt,sl⟩:=o
 cases h2
 cases h3
 exact PySem.W.kia_tup (xk ax) I.kIn ph h1 ok.kit (fun z=>nomatch z) fun tk=>⟨.bl b,H,I.tok tk,rfl,q⟩
def qb (A B:Addr)(tbl:List (Addr×Bool)):List T->Option T
 |[.exc C _ _,.tup [.ptr A',.ptr B']]=>if A'=A/\B'=B then (findB C tbl).bind fun b=>some (.bl b) else none
 |_=>none
theorem DN {A B:Addr}{tbl:List (Addr×Bool)}(ht:∀a∈tbl,Ax X.K A B a.1 a.2):iK X (.builtin "isinstance") (qb A B tbl):=gQ (yE (A:=A) (B:=B)) fun vs H Q hq__=>by
 obtain⟨F,ts,t,sm,r,e,q⟩:=hq__
 unfold qb at e
 split at e
 ·next C _ _ A' B' =>
  split at e
  ·next hAB =>
   obtain⟨hA,hB⟩:=hAB
   subst hA
   subst hB
   obtain⟨b,e3,e1⟩:=bind_some e
   cases e1
   obtain⟨v,rr,rfl,h1,r⟩:=r
   obtain⟨v2,rr2,rfl,h2,rfl⟩:=r
   obtain⟨a,od,rfl,g1,_⟩:=h1
   obtain⟨tp,xs,rfl,g2,g3⟩:=h2
   obtain⟨x1,z1,rfl,k1,g3⟩:=g3
   obtain⟨x2,z2,rfl,k2,rfl⟩:=g3
   cases (show x1=V.ref A' from k1)
   cases (show x2=V.ref B' from k2)
   exact⟨a,C,od,tp,b,rfl,sm _ _ g1,cm sm g2,ht _ (kK e3),q F H _ (bf.refl sm) rfl⟩
  ·cases e
 ·cases e
theorem Fy {x:Str}{a:Addr}(hg:Gl X x)(hm:X.mg x=some (.ref a))(hd:(x == ("__debug__" : Str))=false:=by decide):SE X (.Name x pos) (fC (.ptr a)):=
 i9 (vw (v:=.ref a) hg hm rfl hd) fun F=>rfl
section
variable {X:Cx}{pins:List (Addr×Obj)}{σ:L2.St}{H:Hp}{s:Shared}{h':Heap}{a:Addr}{o:HO}
end
section
variable {X:Cx}{e:Expr}{pos:Pos}{g:FA}
end
section
variable {X:Cx}{pins:List (Addr×Obj)}{σ:L2.St}{H:Hp}{s:Shared}{a:Addr}{φ ψ:Heap->Prop}
end
section
variable {X:Cx}{e:Expr}{pos:Pos}{g:FA}
end
section
variable {prog:Program}{w:World}{A:Around}{E:Value->Shared->Prop}{s:Shared}{K:PySem.W.Frag}{x C f:Addr}{ox:Obj}{od:Option Obj}{name:Str}{bm:List Value}
end
section
variable {X:Cx}{o:Expr}{m:Str}{pos apos:Pos}{fo:FE}{k:Nat}
end
section
variable {X:Cx}
end
section
variable {X:Cx}{e:Expr}{pos:Pos}{f:FE}
end
section
variable {X:Cx}{tg l:Expr}{f:FE}
end
section
variable {X:Cx}{o e:Expr}{fo fe:FE}{name:Str}{id:String}{apos cpos:Pos}{g:T->T->Option T}
end
section
variable {X:Cx}{e:Expr}{pos:Pos}
def oz:List T->Option T
 |[.str x]=>if x.length≤640 then (PySem.intText? x).map .int else none
 |ts=>GQ ts
theorem GO:iK X (.type "int") oz:=by
 intro pins s σ H xs us Q I rx ⟨F,ts,t,sm,r,e,q⟩
 by_cases hs:∃x,ts=[.str x]
 ·obtain⟨x,rfl⟩:=hs
  simp only [oz] at e
  split at e
  ·next hl =>
   cases hn:PySem.intText? x with
   |none=>rw [hn] at e;cases e
   |some n =>
    rw [hn] at e;cases e
    obtain⟨v,rr,rfl,h1,rfl⟩:=r
    cases h1
    obtain⟨u1,rfl,⟨t1,rfl⟩⟩:=Vals.one rx
    exact PySem.W.KIN.call_text hn hl ⟨.int n,H,I.tok _,⟨_,rfl⟩,q F H _ (bf.refl sm) rfl⟩
  ·cases e
 ·have e':GQ ts=some t:=by
   unfold oz at e
   split at e
   ·next x=>exact absurd ⟨x,rfl⟩ hs
   ·exact e
  exact JK pins s σ H xs us Q I rx ⟨F,ts,t,sm,r,e',q⟩
end
section
variable {env:Env}{es:List Expr}
end
section
variable {X:Cx}{e:Expr}{es:List Expr}{pos:Pos}{x:Nat}{g:FA}
end
section
variable {P:Program}{w:World}{K:PySem.W.Frag}{mg:Str->Option Value}{base:Heap}
end
section
variable {K:PySem.W.Frag}{Y0 Y9 F H F' H':Hp}{σ σ':L2.St}{τ τ':aK}{x t w:Nat}{p q:Addr}{tss:List (List T)}{A:List Addr}
end
section
variable {X:Cx}{e:Expr}{pos:Pos}{x t:Nat}
end
section
variable {prog:Program}{w:World}{A:Around}{E:Value->Shared->Prop}{s:Shared}
variable {z TI TO i1 i2 l2:Addr}{k c:Nat}{u:Str}{t1:Tok}{ys:Array Value}{x y a b:Value}
end
section
variable {prog:Program}{w:World}{A:Around}{E:Value->Shared->Prop}{s:Shared}
end
inductive RL where
 |nx (os:List O) (τ:aK) | rt (t:T)
abbrev FQ:=Addr->List O->aK->Option RL
def Aw (K:PySem.W.Frag)(Y0 Y9 F:Hp)(D:Ends)(x:Nat)(p:Addr):RL->Prop
 | .nx os τ=>∀F' H' σ' A',je K Y0 Y9 F' H' σ' τ x p os A'->aQ F F'->D.nx σ' H'
 | .rt t=>∀F' H' v,bf Y0 Y9 F' H'->Rep K F' t v->D.rt v H'
theorem Aw.mono {K:PySem.W.Frag}{Y0 Y9 F F1:Hp}{D:Ends}{x:Nat}{p:Addr}{r:RL}(s:aQ F F1)(q:Aw K Y0 Y9 F D x p r):Aw K Y0 Y9 F1 D x p r:=by
 cases r with
 |nx os τ=>exact fun F' H' σ' A' d s'=>q F' H' σ' A' d (s.trans s')
 |rt t=>exact q
def tQ (K:PySem.W.Frag)(Y0 Y9:Hp)(x:Nat)(f:FQ):TS:=fun D σ H=>∃F τ p os A r,je K Y0 Y9 F H σ τ x p os A/\f p os τ=some r/\Aw K Y0 Y9 F D x p r
def SQ (X:Cx)(x:Nat)(st:Stmt)(f:FQ):Prop:=∀Y0 Y9,PS X st (tQ X.K Y0 Y9 x f)
def Jx (X:Cx)(x:Nat)(ss:List Stmt)(f:FQ):Prop:=∀Y0 Y9,kX X ss (tQ X.K Y0 Y9 x f)
abbrev seen (x:Nat)(os:List O)(τ:aK):aK:=(hide τ).set x (some (.sh (.lst (O.trs os))))
def iZ (f g:FQ):FQ:=fun p os τ=>(f p os τ).bind fun r=>match r with
 | .nx os' τ'=>g p os' τ'
 | .rt t=>some (.rt t)
theorem je.look {K:PySem.W.Frag}{Y0 Y9 F H:Hp}{σ:L2.St}{τ:aK}{x:Nat}{p:Addr}{os:List O}{A:List Addr}(d:je K Y0 Y9 F H σ τ x p os A):aF K (frzO F H A) H (frzO F H A) H σ (seen x os τ):=by
 have z:=EL d.E d.r d.get
 rw [O.tr] at z
 exact z
theorem je.lo {K:PySem.W.Frag}{Y0 Y9 F H:Hp}{σ:L2.St}{τ:aK}{x:Nat}{p:Addr}{os:List O}{A:List Addr}(d:je K Y0 Y9 F H σ τ x p os A):yr K Y0 Y9 F H σ τ A:=⟨d.E,fun a ha=>d.lies ha,d.h0,d.ap⟩
theorem je.unlent {K:PySem.W.Frag}{Y0 Y9 F H F' H':Hp}{σ:L2.St}{τ:aK}{x:Nat}{p:Addr}{os:List O}{A:List Addr}(d:je K Y0 Y9 F H σ τ x p os A)(g:bf Y0 (frzO Y9 H A) F' H'):bf Y0 Y9 F' H':=by
 refine⟨g.sF,fun a o e=>?_,g.fh,fun a o e=>?_⟩
 ·have m:a∉A:=fun m=>by rw [d.h0 a m] at e;cases e
  exact g.sH _ _ (by rw [bM m];exact e)
 ·rcases g.nw a o e with z | z
  ·exact .inl z
  ·have m:a∉A:=fun m=>by
    obtain⟨vs,k⟩:=(d.lies m).2
    rw [cO m,k] at z;cases z
   exact .inr (by rw [bM m] at z;exact z)
section
variable {X:Cx}{e:Expr}{pos:Pos}{x:Nat}
theorem BR {st:Stmt}{f:FQ}(h:SQ X x st f):Jx X x [st] f:=fun Y0 Y9=>f9 (h Y0 Y9)
theorem gh {st:Stmt}{rest:List Stmt}{f g:FQ}(h1:SQ X x st f)(h2:Jx X x rest g):Jx X x (st::rest) (iZ f g):=fun Y0 Y9=>kX.weak (dU (h1 Y0 Y9) (h2 Y0 Y9)) fun D σ H hq__=>by
 obtain⟨F,τ,p,os,A,r,d,e1,q⟩:=hq__
 obtain⟨r1,e2,e1⟩:=bind_some e1
 refine⟨F,τ,p,os,A,r1,d,e2,?_⟩
 cases r1 with
 |nx os' τ'=>exact fun F1 H1 σ1 A1 d1 s1=>⟨F1,τ',p,os',A1,r,d1,e1,q.mono s1⟩
 |rt t=>cases e1;exact q
def MF (x:Nat)(tc:FT)(b:Bool):FQ:=fun p os τ=>(tc (seen x os τ)).bind fun q=>if q.1=true then some (.rt (.bl b)) else some (.nx os τ)
theorem MM {c:Expr}{body:List Stmt}{tc:FT}{b:Bool}(hT:ST X c tc)(hb:ug X body (bE (fC (.bl b)))):SQ X x (.If c body [] pos) (MF x tc b):=fun Y0 Y9=>PS.weak (qT hT.any' (hb Y0 Y9) il) fun D σ H hq__=>by
 obtain⟨F,τ,p,os,A,r,d,e1,q⟩:=hq__
 obtain⟨⟨c0,τ2⟩,e2,e1⟩:=bind_some e1
 refine d.test e2 fun F2 H2 d2 s2=>?_
 dsimp only at e1
 split at e1
 ·next h=>cases e1;rw [if_pos h];exact⟨F2,τ,.rt (.bl b),d2.E,rfl,q⟩
 ·next h=>cases e1;rw [if_neg h];exact q F2 H2 σ A d2 s2
def vA (x y:Nat)(f:FE):FQ:=fun p os τ=>(f (seen x os τ)).bind fun q=>if kf q.1=true/\x≠y then some (.nx os (τ.set y (some (.sh q.1)))) else none
theorem zX (y:Nat){yn:Str}{pos':Pos}{f:FE}(hN:X.N.Nodup)(hi:X.N[y]? = some yn)(hx:Loc X.env.scope yn)(he:SE X e f)(hs:swapsWith e (some (.Name yn pos')) pos.line X.env=pure false:=by rfl)
  (hf:X.fn yn=true\/X.env.scope.names.lookup yn=some .local:=by first | exact .inl rfl | exact .inr rfl | assumption):SQ X x (.Assign [.Name yn pos'] e pos) (vA x y f):=fun Y0 Y9=>PS.weak (lT hN hi hx he.any hs hf) fun D σ H hq__=>by
 obtain⟨F,τ,p,os,A,r,d,e1,q⟩:=hq__
 obtain⟨⟨t,τ1⟩,e2,e1⟩:=bind_some e1
 dsimp only at e1
 split at e1
 ·next hh =>
  cases e1
  refine⟨_,_,_,_,t,τ1,d.look,e2,fun F1 H1 v E1 s1 r1=>?_⟩
  have g':=lM (fun a ha=>(d.r.at a ha).1) E1.g
  have lsA:∀a∈A,∃ws,F1 a=some (.lst ws):=fun a ha=>by
   obtain⟨_,ws,hw⟩:=d.lies ha
   exact⟨ws,s1 _ _ (by rw [cO ha];exact hw)⟩
  have d1:=d.grow g'
  have L:=d1.lo.put (y:=y) (Rep.flat lsA hh.1 r1)
  exact q _ H1 _ A ⟨L.E,by rw [List.getElem?_set_ne (Ne.symm hh.2)];exact d.hx,d1.r,d.nd,d.h0,L.ap⟩ g'.sF
 ·cases e1
def qU:FQ:=fun _ _ τ=>some (.nx [] τ)
theorem xZ {xn:Str}{p1 p2 p3:Pos}(hv:PE X (.Name xn p1) (jS x))
  (hbase:attributeBase (.Name xn p1) "clear" X.env (eval (.Name xn p1) X.env)=eval (.Name xn p1) X.env:=by rfl) (hline:(p2.endLine == p3.line)=true:=by rfl)
  (hsw:swapsWith (.Call (.Attribute (.Name xn p1) "clear" p2) [] [] p3) none pos.line X.env=pure false:=by rfl):
  SQ X x (.Expr (.Call (.Attribute (.Name xn p1) "clear" p2) [] [] p3) pos) qU:=fun Y0 Y9 =>
 PS.weak (vz (Fe PySem.F.plainAttrs_list PySem.F.slot_list_clear PySem.F.type_list_clear ES hv hbase hline) hsw) fun D σ H hq__=>by
  obtain⟨F,τ,p,os,A,r,d,e1,q⟩:=hq__
  cases e1
  obtain⟨p',vs,B,hp',hA,k1,k2,k3⟩:=id d.r
  cases hp'
  have hpA:p∈A:=by rw [hA];exact List.mem_cons_self
  have L:=d.lo.upd hpA []
  refine⟨.ref p,d.get,.inl ⟨rfl,vs,dO.of k1⟩,p,vs,rfl,rfl,k1,q F _ σ [p] ⟨L.E,d.hx,⟨p,[],[],rfl,rfl,aJ,k2,rfl,rfl⟩,by simp,fun a ha=>?_,fun j us b e5 e6 hb=>?_⟩ (aQ.refl _)⟩
  ·rw [List.mem_singleton.mp ha];exact d.h0 _ hpA
  ·rw [List.mem_singleton.mp hb] at e6;exact d.ap j us p e5 e6 hpA
def Fm (f:FE):FQ:=fun _ _ τ=>(f τ).bind fun q=>some (.rt q.1)
theorem FH {f:FE}(he:SE X e f):SQ X x (.Return (some e) pos) (Fm f):=fun Y0 Y9=>PS.weak (nR he.any) fun D σ H hq__=>by
 obtain⟨F,τ,p,os,A,r,d,e1,q⟩:=hq__
 obtain⟨⟨t,τ1⟩,e2,e1⟩:=bind_some e1
 cases e1
 exact⟨Y0,frzO Y9 H A,F,τ,t,τ1,d.lend,e2,fun F1 H1 v E1 s1 r1=>q F1 H1 v (d.unlent E1.g) r1⟩
def HQ (x:Nat)(u:FS):FQ:=fun _ os τ=>(u (τ.set x (some (.sh (.lst (O.trs os)))))).bind fun r=>match r with
 | .rt t=>some (.rt t)
 |_=>none
theorem Io {ss:List Stmt}{u:FS}(h:ug X ss u):Jx X x ss (HQ x u):=fun Y0 Y9=>kX.weak (h Y0 Y9) fun D σ H hq__=>by
 obtain⟨F,τ,p,os,A,r,d,e1,q⟩:=hq__
 obtain⟨r',e2,e1⟩:=bind_some e1
 have hF:∀a∈A,F a=none:=fun a ha=>(d.lies ha).1
 have rp:=d.r.frz
 rw [O.tr] at rp
 refine⟨_,_,r',(d.E.frzO hF d.h0 d.ap).setSh d.get rp,e2,?_⟩
 cases r' with
 |rt t=>cases e1;exact q
 |nx τ'=>cases e1
 |bk τ'=>cases e1
 |ct τ'=>cases e1
def qy (tc:FT)(w:Nat)(τ:aK):List T->Option Bool
 |[]=>some false
 |t::ts=>(tc (τ.set w (some (.sh t)))).bind fun q=>if q.1=true then some true else qy tc w τ ts
def CS (x w:Nat)(tc:FT)(b:Bool):FQ:=fun _ os τ=>if Hr w τ=true/\w≠x then (qy tc w (seen x os τ) (O.trs os)).bind fun c=>if c=true then some (.rt (.bl b)) else some (.nx os τ) else none
theorem Ld {w:Nat}{wn xn:Str}{c:Expr}{body:List Stmt}{tc:FT}{b:Bool}{p1 p2 p3:Pos}(hp:PassesOwn (model X.prog X.w) X.A X.env X.xe)(hc:X.calm=true)(hg:PG X (.Name wn p1) (tf w))(hx:PE X (.Name xn p2) (jS x))(hT:ST X c tc)(hb:ug X body (bE (fC (.bl b))))
  (hs:∀x,foldedSetIterable (.Name xn p2) X.env x=pure x:=by intro _;rfl):
  SQ X x (.For (.Name wn p1) (.Name xn p2) [.If c body [] p3] [] pos) (CS x w tc b):=fun Y0 Y9 =>
 PS.weak (zM hp hc (vy hx) hg (f9 (qT hT.any' (hb Y0 Y9) il)) hs) fun D σ H hq__=>by
  obtain⟨F,τ,p,os,A,r,d,e1,q⟩:=hq__
  unfold CS at e1
  split at e1
  ·next hh =>
   obtain⟨hw,hwx⟩:=hh
   replace hw:=Bg hw
   obtain⟨c0,e2,e1⟩:=bind_some e1
   obtain⟨p',vs,B,hp',hA,k1,k2,k3⟩:=id d.r
   cases hp'
   have hlen:vs.length=os.length:=k3.length
   refine⟨.ref p,d.get,p,rfl,⟨_,dO.of k1⟩,fun i m σ1 H1=>m=vs.length-i/\i≤vs.length/\H1 p=some (.lst vs)/\∃F1,je X.K Y0 Y9 F1 H1 σ1 τ x p os A/\aQ F F1/\qy tc w (seen x os τ) ((O.trs os).drop i)=some c0,⟨_,rfl,Nat.zero_le _,k1,F,d,aQ.refl _,e2⟩,?_⟩
   rintro i m σ1 H1 ⟨rfl,hi,hq1,F1,d1,s1,e3⟩
   by_cases hlt:i<vs.length
   ·have hlt':i<(O.trs os).length:=by rw [pK,<- hlen];exact hlt
    have gi:vs[i]? = some vs[i]:=List.getElem?_eq_getElem hlt
    rw [List.drop_eq_getElem_cons hlt'] at e3
    obtain⟨⟨c1,τ2⟩,e4,e3⟩:=bind_some e3
    refine .inr ⟨⟨_,_,dO.of hq1,gi⟩,fun σ' H'=>H' p=some (.lst vs)/\∃F1,je X.K Y0 Y9 F1 H' σ' τ x p os A/\aQ F F1/\qy tc w (seen x os τ) ((O.trs os).drop (i+1))=some c0,fun σ' H' n=>⟨_,by omega,rfl,hlt,n⟩,fun v H2 z=>?_⟩
    obtain⟨rfl,y⟩:=z
    have hv:=y _ (dO.of hq1)
    rw [gi] at hv
    cases hv
    have L2':=d1.lo.setv (v:=vs[i]) hw
    have d2:je X.K Y0 Y9 F1 H2 (σ1.set w (some vs[i])) τ x p os A:=⟨L2'.E,d1.hx,d1.r,d1.nd,d1.h0,L2'.ap⟩
    have hwl:w<σ1.length:=by
     rw [d1.E.len]
     exact (List.getElem?_eq_some_iff.mp hw).1
    have g1:(σ1.set w (some vs[i]))[w]? = some (some vs[i]):=List.getElem?_set_self hwl
    have rr:=d2.r.frz
    rw [O.tr] at rr
    obtain⟨p'',vs'',hp'',hF'',rr⟩:=rr
    cases hp''
    have hv'':vs''=vs:=by
     have hpA:p∈A:=by rw [hA];exact List.mem_cons_self
     rw [cO hpA,hq1] at hF''
     cases hF'';rfl
    subst hv''
    obtain⟨v',gv,rv⟩:=rr.get (List.getElem?_eq_getElem hlt')
    rw [gi] at gv
    cases gv
    refine⟨_,_,_,_,c1,τ2,d2.look.setSh g1 rv,e4,fun F3 H3 E3 s3=>?_⟩
    have g':=lM (fun a ha=>(d2.r.at a ha).1) E3.g
    have d3:=d2.grow g'
    dsimp only at e3
    split at e3
    ·next h =>
     cases e3
     rw [if_pos rfl] at e1
     cases e1
     dsimp only
     rw [if_pos h]
     exact⟨_,τ,.rt (.bl b),d3.E,rfl,q⟩
    ·next h =>
     dsimp only
     rw [if_neg h]
     exact⟨g'.sH _ _ hq1,_,d3,s1.trans g'.sF,e3⟩
   ·have he:i=vs.length:=by omega
    subst he
    rw [hlen,<- pK os,List.drop_length] at e3
    cases e3
    rw [if_neg (by decide)] at e1
    cases e1
    exact .inl ⟨⟨_,dO.of hq1,Nat.le_refl _⟩,q F1 H1 σ1 A d1 s1⟩
  ·cases e1
def pR (t:T):O->O
 | .lst ro=>.lst (ro++[.val t])
 |o=>o
def Fq:O->Bool
 | .lst ro=>iu ro&&decide (ro.length≤500)
 |_=>false
def zN (x w:Nat)(f:FE):FQ:=fun _ os τ=>if (Hr w τ=true/\w≠x)/\os.all Fq=true then (f τ).bind fun q=>some (.nx (os.map (pR q.1)) τ) else none
theorem yx:∀{ro:List O},iu ro=true->(O.trs ro).map O.val=ro:=fun h=>(yi h).symm
theorem Le {w:Nat}{wn xn:Str}{f:FE}{p1 p2 p3 p4 p5 p6:Pos}(hp:PassesOwn (model X.prog X.w) X.A X.env X.xe)(hc:X.calm=true)(hg:PG X (.Name wn p1) (tf w))(hx:PE X (.Name xn p2) (jS x))(hw':PE X (.Name wn p3) (jS w))(he:SE X e f)(hf1:∀τ t τ',f τ=some (t,τ')->τ'=τ)
  (hbase:attributeBase (.Name wn p3) "append" X.env (eval (.Name wn p3) X.env)=eval (.Name wn p3) X.env:=by rfl)
  (hfew:((backTo p5 (starEach [e] X.env)).all (fun x=>!x.1)&&(backToKw p5 (keywordEach [] X.env)).all (fun x=>x.1.isSome)&&decide ([e].length+([]:List Keyword).length+(if ([]:List Keyword).isEmpty then 0 else 1)<30))=true:=by rfl)
  (hline:(p4.endLine == p5.line)=true:=by rfl) (hst:starEach [e] X.env=(false,eval e X.env)::starEach [] X.env:=by rfl) (hpl:(backTo p5 (starEach [] X.env)).any (·.1)=false:=by rfl)
  (hsw:swapsWith (.Call (.Attribute (.Name wn p3) "append" p4) [e] [] p5) none p6.line X.env=pure false:=by rfl)
  (hs:∀x,foldedSetIterable (.Name xn p2) X.env x=pure x:=by intro _;rfl):
  SQ X x (.For (.Name wn p1) (.Name xn p2) [.Expr (.Call (.Attribute (.Name wn p3) "append" p4) [e] [] p5) p6] [] pos) (zN x w f):=fun Y0 Y9 =>
 PS.weak (zM hp hc (vy hx) hg (f9 (vz (Ji PySem.F.plainAttrs_list PySem.F.slot_list_append PySem.F.type_list_append nK hw' (eu he.any iz hst) hbase hfew hline hst hpl) hsw)) hs) fun D σ H hq__=>by
  obtain⟨F,τ,p,os,A,r,d,e1,q⟩:=hq__
  unfold zN at e1
  split at e1
  ·next hh =>
   obtain⟨⟨hw,hwx⟩,hrow⟩:=hh
   replace hw:=Bg hw
   obtain⟨⟨t,τ1⟩,e2,e1⟩:=bind_some e1
   cases e1
   obtain rfl:=hf1 _ _ _ e2
   obtain⟨p',vs,B,hp',hA,k1,k2,k3⟩:=id d.r
   cases hp'
   have hlen:vs.length=os.length:=k3.length
   have hrowi:∀(i:Nat) (h:i<os.length),∃ro,os[i]=.lst ro/\iu ro=true/\ro.length≤500:=fun i h=>by
    have z:=List.all_eq_true.mp hrow os[i] (List.getElem_mem h)
    cases ho:os[i] with
    |val t=>rw [ho] at z;cases z
    |lst ro =>
     rw [ho] at z
     simp only [Fq,Bool.and_eq_true,decide_eq_true_eq] at z
     exact⟨ro,rfl,z.1,z.2⟩
   refine⟨.ref p,d.get,p,rfl,⟨_,dO.of k1⟩,fun i m σ1 H1=>m=vs.length-i/\i≤vs.length/\H1 p=some (.lst vs)/\∃F1,je X.K Y0 Y9 F1 H1 σ1 τ1 x p ((os.take i).map (pR t)++os.drop i) A/\aQ F F1,⟨_,rfl,Nat.zero_le _,k1,F,by simpa using d,aQ.refl _⟩,?_⟩
   rintro i m σ1 H1 ⟨rfl,hi,hq1,F1,d1,s1⟩
   by_cases hlt:i<vs.length
   ·have hlt':i<os.length:=by rw [<- hlen];exact hlt
    have gi:vs[i]? = some vs[i]:=List.getElem?_eq_getElem hlt
    obtain⟨ro,ho,hro,hr5⟩:=hrowi i hlt'
    have hgi:((os.take i).map (pR t)++os.drop i)[i]? = some (.lst ro):=by
     rw [List.getElem?_append_right (by simp;omega),List.length_map,List.length_take,Nat.min_eq_left (Nat.le_of_lt hlt'),Nat.sub_self,List.getElem?_drop,Nat.add_zero,List.getElem?_eq_getElem hlt',ho]
    refine .inr ⟨⟨_,_,dO.of hq1,gi⟩,fun σ' H'=>H' p=some (.lst vs)/\∃F1,je X.K Y0 Y9 F1 H' σ' τ1 x p ((os.take (i+1)).map (pR t)++os.drop (i+1)) A/\aQ F F1,fun σ' H' n=>⟨_,by omega,rfl,hlt,n⟩,fun v H2 z=>?_⟩
    obtain⟨rfl,y⟩:=z
    have hv:=y _ (dO.of hq1)
    rw [gi] at hv
    cases hv
    have L2':=d1.lo.setv (v:=vs[i]) hw
    have d2:je X.K Y0 Y9 F1 H2 (σ1.set w (some vs[i])) τ1 x p ((os.take i).map (pR t)++os.drop i) A:=⟨L2'.E,d1.hx,d1.r,d1.nd,d1.h0,L2'.ap⟩
    have hwl:w<σ1.length:=by
     rw [d1.E.len]
     exact (List.getElem?_eq_some_iff.mp hw).1
    have g1:(σ1.set w (some vs[i]))[w]? = some (some vs[i]):=List.getElem?_set_self hwl
    obtain⟨vs',qa,ws,h1,h2,h3,h4,h5⟩:=d2.held.row hgi hro
    rw [hq1] at h1
    cases h1
    rw [gi] at h2
    injection h2 with h2
    refine⟨.ref qa,by rw [<- h2];exact g1,.inl ⟨rfl,ws,dO.of h3⟩,?_⟩
    refine⟨Y0,frzO Y9 H2 A,F1,τ1,t,τ1,d2.lend,e2,fun F3 H3 w7 E3 s3 r3=>?_⟩
    have d3:=d2.back E3 s3 d1.hx
    have lies:∀{a:Addr} {o:HO},a∈A->H2 a=some o->H3 a=some o:=fun {a o} ha e=>E3.g.sH _ _ (by rw [cO ha];exact e)
    have hpA:p∈A:=by rw [hA];exact List.mem_cons_self
    have hq3:H3 p=some (.lst vs):=lies hpA hq1
    obtain⟨vs'',B2,hA2,j1,j2,j3⟩:=d2.held.root
    rw [hq1] at j1
    cases j1
    obtain⟨us0,v0,xs0,B1,C1,D1,ev,el,eB,g1',⟨q',zs,C',hq',hC,k1',k2',k3'⟩,g3'⟩:=j3.split hgi
    have hv0:v0=.ref qa:=by
     have z:vs[i]? = some v0:=by rw [ev,List.getElem?_append_right (by omega),el,Nat.sub_self,List.getElem?_cons_zero]
     rw [gi] at z
     injection z with z
     rw [<- z];exact h2
    rw [hv0] at hq'
    cases hq'
    have hqA:qa∈A:=by
     rw [hA2,eB,hC]
     exact List.mem_cons_of_mem _ (List.mem_append_right _ (List.mem_append_left _ List.mem_cons_self))
    have hq3':H3 qa=some (.lst ws):=lies hqA h3
    have S:=d3.held.turn (ts:=O.trs ro++[t]) (ws:=ws++[w7]) hgi hro hq3 (by rw [gi,h2]) ((h4.mono s3).append (.one r3))
    refine⟨qa,ws,w7,rfl,rfl,hq3',?_,?_,F3,?_,s1.trans s3⟩
    ·rw [h4.length,pK]
     exact cL (by omega)
    ·have hpq:p≠qa:=fun z=>by
      have nd:=d2.nd
      rw [hA2] at nd
      refine (List.nodup_cons.mp nd).1 ?_
      rw [eB,hC,z]
      exact List.mem_append_right _ (List.mem_append_left _ List.mem_cons_self)
     rw [au hpq];exact hq3
    ·have L3:=d3.lo.upd hqA (ws++[w7])
     have hos:((os.take i).map (pR t)++os.drop i).set i (.lst ((O.trs ro++[t]).map O.val))=(os.take (i+1)).map (pR t)++os.drop (i+1):=by
      have z1:os.take (i+1)=os.take i++[.lst ro]:=by rw [List.take_add_one,List.getElem?_eq_getElem hlt',ho];rfl
      have z2:os.drop i=.lst ro::os.drop (i+1):=by rw [List.drop_eq_getElem_cons hlt',ho]
      have z3:((os.take i).map (pR t)).length=i:=by rw [List.length_map,List.length_take,Nat.min_eq_left (Nat.le_of_lt hlt')]
      have z4:(O.trs ro++[t]).map O.val=ro++[.val t]:=by rw [List.map_append,yx hro];rfl
      rw [z1,z2,z4,List.map_append,List.append_assoc]
      have z5:=Ie ((os.take i).map (pR t)) (O.lst ro) (.lst (ro++[.val t])) (os.drop (i+1))
      rw [z3] at z5
      rw [z5];rfl
     have Sr:=S.r
     rw [hos] at Sr
     exact⟨L3.E,d1.hx,Sr,d2.nd,d2.h0,L3.ap⟩
   ·have he:i=vs.length:=by omega
    subst he
    rw [hlen,List.take_length,List.drop_length,List.append_nil] at d1
    exact .inl ⟨⟨_,dO.of hq1,Nat.le_refl _⟩,q F1 H1 σ1 A d1 s1⟩
  ·cases e1
end
open Classical in
def qQ (P:T->Prop):Option R:=if h:∃t,P t then some (.rt h.choose) else none
theorem qR {P:T->Prop}{t:T}(h:P t)(u:∀t',P t'->t'=t):qQ P=some (.rt t):=by
 have e:∃t,P t:=⟨t,h⟩
 unfold qQ
 rw [dif_pos e,u _ e.choose_spec]
theorem lS {P:T->Prop}{r:R}(h:qQ P=some r):∃t,r=.rt t/\P t:=by
 unfold qQ at h
 split at h
 ·next e=>cases h;exact⟨_,rfl,e.choose_spec⟩
 ·cases h
section
variable {X:Cx}{e:Expr}{pos:Pos}
def AZ (i:Nat)(fo:jH):ud:=fun τ=>(fo τ).bind fun p=>if i<p.2.length then (match p.1 with
 | .lst []=>some (.val .non)
 | .lst (o::_)=>some o
 | _=>none) else none
theorem FJ {i j jn:Nat}{x:Str}{pos' pos'' p1 p2 p3 p4 p5 p6:Pos}{fo:jH}(hN:X.N.Nodup)(hi:X.N[i]? = some x)(hx:Loc X.env.scope x)(he:uf X e fo)(hv:PE X (.Name x p1) (jS i))(hv':PE X (.Name x p2) (jS i))
  (hs:swapsWith e (some (.Name x pos')) pos.line X.env=pure false:=by rfl) (hf:X.fn x=true\/X.env.scope.names.lookup x=some .local:=by first | exact .inl rfl | exact .inr rfl | assumption)
  (ht:∀whole,isTrue (.Name x p1) X.env whole=(do let v <- whole;standAt (Expr.Name x p1).pos;holding [v] (truthy v)):=by intro _;rfl) (hix:oY (.Constant (.int 0) j p3):=by intro _ _;rfl):
  Lx X [.Assign [.Name x pos'] e pos,.Return (some (.IfExp (.Name x p1) (.Subscript (.Name x p2) (.Constant (.int 0) j p3) p4) (.Constant .none jn p5) p6)) pos''] (AZ i fo):=fun Y0 Y9 =>
 kX.weak (dU (lT hN hi hx (he Y0 Y9) hs hf) (f9 (nR (xI (xN hv ht) (Fg pz hv' Ff hix) vx)))) fun D σ H hq__=>by
  obtain⟨F,τ,o,E,e1,q⟩:=hq__
  obtain⟨⟨z,τ1⟩,e2,e1⟩:=bind_some e1
  dsimp only at e1
  split at e1
  case isFalse=>cases e1
  next hl =>
  refine⟨F,τ,z,τ1,E,e2,fun F1 H1 v A E1 s1 ro nd h0 ap=>?_⟩
  have hσ:(σ.set i (some v))[i]? = some (some v):=List.getElem?_set_self (by rw [E1.len];exact hl)
  split at e1
  ·cases e1
   obtain⟨p,vs,B,rfl,rfl,k1,k2,k3⟩:=ro
   obtain⟨rfl,rfl⟩:=k3
   refine⟨.ref p,hσ,false,.inl ⟨[],dO.of k1,rfl⟩,?_⟩
   dsimp only
   rw [if_neg (by decide)]
   exact q F1 H1 .non [] E1.g ⟨rfl,rfl⟩ List.nodup_nil (fun a ha=>by cases ha)
  ·next o' os =>
   cases e1
   obtain⟨p,vs,B,rfl,rfl,k1,k2,k3⟩:=ro
   obtain⟨w,rr,B1,C1,rfl,rfl,r1,r2⟩:=k3
   refine⟨.ref p,hσ,true,.inl ⟨_,dO.of k1,rfl⟩,?_⟩
   dsimp only
   rw [if_pos rfl]
   refine⟨.ref p,hσ,p,_,0,w,rfl,rfl,dO.of k1,Gx,?_⟩
   exact q F1 H1 w B1 E1.g r1 (List.nodup_append.mp (List.nodup_cons.mp nd).2).1 (fun a ha=>h0 a (List.mem_cons_of_mem _ (List.mem_append_left _ ha)))
  ·cases e1
theorem CG {i j:Int}:∀τ t τ',ck (aa (fC (.int i)) (aa (fC (.int j)) az)) τ=some (t,τ')->τ'=τ:=fun τ t τ' e=>by
 cases e
 rfl
def D8 (x:Nat)(fo:jH)(tc:FT)(fb:FS)(fr:FQ):FS:=fun τ=>(fo τ).bind fun p=>if x<p.2.length then (match p.1 with
 | .val .non=>(tc (p.2.set x (some (.sh .non)))).bind fun q=>if q.1=true then (fb q.2).bind fun r=>(match r with | .rt t=>some (R.rt t) | _=>none) else none
 | .lst os=>qQ fun t=>∀a,∃τ1,tc (seen x os (p.2.set x (some (.sh (.ptr a)))))=some (false,τ1)/\fr a os (p.2.set x (some (.sh (.ptr a))))=some (.rt t)
 | _=>none) else none
theorem je.start {K:PySem.W.Frag}{Y0 Y9 F H:Hp}{σ:L2.St}{τ:aK}{x:Nat}{p:Addr}{os:List O}{A:List Addr}(E:aF K Y0 Y9 F H σ τ)(hx:x<τ.length)(ro:cX K F H (.lst os) (.ref p) A)(nd:A.Nodup)(h0:∀a∈A,Y9 a=none)(ap:Apart σ τ A):
  je K Y0 Y9 F H (σ.set x (some (.ref p))) (τ.set x (some (.sh (.ptr p)))) x p os A:=by
 refine⟨E.set (t:=.ptr p) (v:=.ref p) rfl,List.getElem?_set_self hx,ro,nd,h0,fun j us b e1 e2=>?_⟩
 by_cases hj:x=j
 ·subst hj
  rw [List.getElem?_set_self hx] at e1;cases e1
 ·rw [List.getElem?_set_ne hj] at e1 e2
  exact ap j us b e1 e2
theorem Iq {x:Nat}{xn:Str}{c:Expr}{body rest:List Stmt}{fo:jH}{tc:FT}{fb:FS}{fr:FQ}{a1 a2 a3:Pos}(hN:X.N.Nodup)(hi:X.N[x]? = some xn)(hlx:Loc X.env.scope xn)(he:uf X e fo)(hT:ST X c tc)(hb:ug X body fb)(hr:Jx X x rest fr)
  (hse:swapsWith e (some (.Name xn a1)) a2.line X.env=pure false:=by rfl) (hf:X.fn xn=true\/X.env.scope.names.lookup xn=some .local:=by first | exact .inl rfl | exact .inr rfl | assumption):
  ug X (.Assign [.Name xn a1] e a2::.If c body [] a3::rest) (D8 x fo tc fb fr):=fun Y0 Y9 =>
 kX.weak (dU (lT hN hi hlx (he Y0 Y9) hse hf) (dU (qT hT.any' (hb Y0 Y9) il) (hr Y0 Y9))) fun D σ H hq__=>by
  obtain⟨F,τ,rr,E,e1,q⟩:=hq__
  obtain⟨⟨o,τ1⟩,e3,e2⟩:=bind_some e1
  dsimp only at e2
  split at e2
  ·next hxl =>
   refine⟨F,τ,o,τ1,E,e3,fun F1 H1 v A E1 s1 ro nd h0 ap=>?_⟩
   split at e2
   ·obtain⟨⟨c0,τ2⟩,e4,e2⟩:=bind_some e2
    dsimp only at e2
    split at e2
    ·next hc =>
     obtain⟨rfl,rv⟩:=ro
     refine⟨Y0,Y9,F1,_,c0,τ2,E1.set rv,e4,fun F2 H2 E2 s2=>?_⟩
     dsimp only
     rw [if_pos hc]
     obtain⟨r',e5,e2⟩:=bind_some e2
     refine⟨F2,τ2,r',E2,e5,?_⟩
     cases r' with
     |rt t=>cases e2;exact q
     |nx τ'=>cases e2
     |bk τ'=>cases e2
     |ct τ'=>cases e2
    ·cases e2
   ·next os =>
    obtain⟨t,rfl,P⟩:=lS e2
    obtain⟨p,vs,B,rfl,rfl,k1,k2,k3⟩:=id ro
    have d:=je.start E1 hxl ro nd h0 ap
    obtain⟨τ2,e5,e6⟩:=P p
    refine d.test e5 fun F2 H2 d2 s2=>?_
    rw [if_neg (by decide)]
    exact⟨F2,_,p,os,_,.rt t,d2,e6,q⟩
   ·cases e2
  ·cases e2
def D6 (i j:Nat)(fo:jH)(tc:FT)(f3 fr:FQ):FS:=fun τ=>(fo τ).bind fun p=>if i<p.2.length/\j<p.2.length/\i≠j then (match p.1 with
 | .lst [.val .non,.lst os]=>qQ fun t=>∀a,∃τ1,tc (seen j os ((p.2.set i (some (.sh .non))).set j (some (.sh (.ptr a)))))=some (true,τ1)/\f3 a os ((p.2.set i (some (.sh .non))).set j (some (.sh (.ptr a))))=some (.rt t)
 | .lst [.lst os,.val .non]=>qQ fun t=>∀a,∃τ1,tc (seen i os ((p.2.set j (some (.sh .non))).set i (some (.sh (.ptr a)))))=some (false,τ1)/\fr a os ((p.2.set j (some (.sh .non))).set i (some (.sh (.ptr a))))=some (.rt t)
 | _=>none) else none
theorem Ip {i j k:Nat}{iN jN:Str}{c:Expr}{body rest:List Stmt}{fo:jH}{tc:FT}{f3 fr:FQ}{a1 a2 a3 a4 a5:Pos}(hc:X.calm=true)(hgi:PG X (.Name iN a1) (tf i))(hgj:PG X (.Name jN a2) (tf j))(he:uf X e fo)(hT:ST X c tc)(h3:Jx X j body f3)(hr:Jx X i rest fr)
  (hs:swapsWithSole [.Tuple [.Name iN a1,.Name jN a2] k a3] e a4.line X.env=pure false:=by rfl) (hw:swappedStores [.Tuple [.Name iN a1,.Name jN a2] k a3] e X.env=pure none:=by rfl)
  (h1:(assignEach [.Tuple [.Name iN a1,.Name jN a2] k a3] X.env).map (·.2)=[assign (.Tuple [.Name iN a1,.Name jN a2] k a3) X.env]:=by rfl)
  (hs1:(assignEach [.Name iN a1,.Name jN a2] X.env).map (·.2)=assign (.Name iN a1) X.env::(assignEach [.Name jN a2] X.env).map (·.2):=by rfl) (hs2:(assignEach [.Name jN a2] X.env).map (·.2)=assign (.Name jN a2) X.env::(assignEach [] X.env).map (·.2):=by rfl)
  (hn:(assignEach [.Name iN a1,.Name jN a2] X.env).length=2:=by rfl) (hst:(assignEach [.Name iN a1,.Name jN a2] X.env).findIdx? (·.1)=none:=by rfl):
  ug X (.Assign [.Tuple [.Name iN a1,.Name jN a2] k a3] e a4::.If c body [] a5::rest) (D6 i j fo tc f3 fr):=fun Y0 Y9 =>
 kX.weak (dU (zL (he Y0 Y9) (KO hc (qO hgi (qO hgj By hs2) hs1) hn hst) hs hw h1) (dU (qT hT.any' (h3 Y0 Y9) il) (hr Y0 Y9))) fun D σ H hq__=>by
  obtain⟨F,τ,rr,E,e1,q⟩:=hq__
  obtain⟨⟨o,τ1⟩,e3,e2⟩:=bind_some e1
  dsimp only at e2
  split at e2
  ·next hh =>
   obtain⟨hil,hjl,hij⟩:=hh
   refine⟨F,τ,o,τ1,E,e3,fun F1 H1 v A E1 s1 ro nd h0 ap=>?_⟩
   split at e2
   ·next os =>
    obtain⟨t,rfl,P⟩:=lS e2
    obtain⟨b,vs,B,rfl,rfl,k1,k2,k3⟩:=ro
    obtain⟨w1,r1,B1,C1,rfl,rfl,m1,m2⟩:=k3
    obtain⟨rfl,m1⟩:=m1
    obtain rfl:w1=.non:=m1
    obtain⟨w2,r2,B2,C2,rfl,rfl,m3,m4⟩:=m2
    obtain⟨rfl,rfl⟩:=m4
    rw [List.nil_append,List.append_nil] at nd h0 ap
    refine⟨b,_,rfl,dO.of k1,rfl,_,_,rfl,_,_,rfl,rfl,?_⟩
    obtain⟨p,vs2,B3,rfl,rfl,m5,m6,m7⟩:=id m3
    have E2:aF X.K Y0 Y9 F1 H1 (σ.set i (some .non)) (τ1.set i (some (.sh .non))):=E1.set rfl
    have d:je X.K Y0 Y9 F1 H1 ((σ.set i (some .non)).set j (some (.ref p))) ((τ1.set i (some (.sh .non))).set j (some (.sh (.ptr p)))) j p os (p::B3):=by
     refine je.start E2 (by rw [List.length_set];exact hjl) m3 (List.nodup_cons.mp nd).2 (fun a ha=>h0 a (List.mem_cons_of_mem _ ha)) fun l us b' e5 e6 m=>?_
     by_cases hl:i=l
     ·subst hl
      rw [List.getElem?_set_self hil] at e5;cases e5
     ·rw [List.getElem?_set_ne hl] at e5 e6
      exact ap l us b' e5 e6 (List.mem_cons_of_mem _ m)
    obtain⟨τ2,e5,e6⟩:=P p
    refine d.test e5 fun F2 H2 d2 s2=>?_
    rw [if_pos rfl]
    exact⟨F2,_,p,os,_,.rt t,d2,e6,q⟩
   ·next os =>
    obtain⟨t,rfl,P⟩:=lS e2
    obtain⟨b,vs,B,rfl,rfl,k1,k2,k3⟩:=ro
    obtain⟨w1,r1,B1,C1,rfl,rfl,m3,m2⟩:=k3
    obtain⟨w2,r2,B2,C2,rfl,rfl,m1,m4⟩:=m2
    obtain⟨rfl,m1⟩:=m1
    obtain rfl:w2=.non:=m1
    obtain⟨rfl,rfl⟩:=m4
    rw [List.append_nil,List.append_nil] at nd h0 ap
    refine⟨b,_,rfl,dO.of k1,rfl,_,_,rfl,_,_,rfl,rfl,?_⟩
    obtain⟨p,vs2,B3,rfl,rfl,m5,m6,m7⟩:=id m3
    have E2:aF X.K Y0 Y9 F1 H1 (σ.set j (some .non)) (τ1.set j (some (.sh .non))):=E1.set rfl
    have d:je X.K Y0 Y9 F1 H1 ((σ.set j (some .non)).set i (some (.ref p))) ((τ1.set j (some (.sh .non))).set i (some (.sh (.ptr p)))) i p os (p::B3):=by
     refine je.start E2 (by rw [List.length_set];exact hil) m3 (List.nodup_cons.mp nd).2 (fun a ha=>h0 a (List.mem_cons_of_mem _ ha)) fun l us b' e5 e6 m=>?_
     by_cases hl:j=l
     ·subst hl
      rw [List.getElem?_set_self hjl] at e5;cases e5
     ·rw [List.getElem?_set_ne hl] at e5 e6
      exact ap l us b' e5 e6 (List.mem_cons_of_mem _ m)
    have hσ:(σ.set j (some V.non)).set i (some (.ref p))=(σ.set i (some (.ref p))).set j (some .non):=List.set_comm _ _ (Ne.symm hij)
    rw [hσ] at d
    obtain⟨τ2,e5,e6⟩:=P p
    refine d.test e5 fun F2 H2 d2 s2=>?_
    rw [if_neg (by decide)]
    exact⟨F2,_,p,os,_,.rt t,d2,e6,q⟩
   ·cases e2
  ·cases e2
theorem HL {body:List Stmt}{h0:ExceptHandler}{hs:List ExceptHandler}{TB:TS}{fx:FX}{fh:IG}(hx:∀e s,X.xe e s->False)(hst:X.stack=X.env::X.outer)(hf:X.env.frame=some X.env.locals)
  (hb:kX X body TB) (hxb:Ge false X body fx) (hh:LR X (h0::hs) fh):PS X (.Try body (h0::hs) [] [] pos) (fun D σ H=>TB D σ H\/∃Y0 Y9 F τ c τ1,aF X.K Y0 Y9 F H σ τ/\fx τ=some (c,τ1) /\
   ∀σ' F' H' od,aF X.K Y0 Y9 F' H' σ' τ1->aQ F F'->l9 X.K Y0 Y9 F' od c->∃c' r,c'.C=c.C/\l9 X.K Y0 Y9 F' od c'/\fh c' τ1=some r/\nh X.K Y0 Y9 F' D r):=by
 intro pins s σ H Dn I z
 rcases z with z | ⟨Y0,Y9,F,τ,c,τ1,E,ex,k⟩
 ·refine wpAny_Try_except (wpAny_mono (hb pins s σ H Dn I z) (fun f s1 z=>?_) fun e s z=>False.elim (hx e s z))
  cases f with
  |next =>
   obtain⟨σ',H',I',z⟩:=z
   exact il pins s1 σ' H' Dn I' z
  |ret v=>exact z
  |brk=>exact z
  |cont=>exact z
 ·refine wpAny_Try_except (wpAny_mono (hxb Y0 Y9 pins s σ H F τ c τ1 I E ex) (fun _ _ z=>z.elim) fun ev s1 z=>?_)
  obtain⟨σ',F',H',od,z,E2,sF,y⟩:=z
  rcases z with ⟨z,_⟩ | z
  ·cases z
  obtain⟨c',r,hC,y',e1,q⟩:=k σ' F' H' od E2 sF y
  rw [<- hC] at z
  exact yF hst hf z fun a s5 ea zl=>hh Y0 Y9 pins s5 σ' H' F' τ1 c' od a r Dn _ zl E2 y' e1 q
open Classical in
def ql (i:Nat)(fo:jH)(fx:FX)(fh:IG)(tc1 tc2:FT)(ff:FE):ud:=fun τ=>match fo τ with
 |some (.lst os,τ1)=>if i<τ1.length/\∀a,∃τ2,tc1 (τ1.set i (some (.sh (.ptr a))))=some (true,τ2)/\wR i a τ2=true then some (.lst [.lst os,.val .non]) else none
 |some _=>none
 |none=>(fx τ).bind fun z=>match z.1.ts with
  |[.lst us]=>if kg us=true/\∀a,∃τ2 τ3 τ4 τ5,fh ⟨z.1.C,z.1.ns,[.ptr a]⟩ z.2=some (.nx τ2)/\tc1 τ2=some (false,τ3)/\tc2 τ3=some (true,τ4)/\ff τ4=some (.ptr a,τ5) then some (.lst [.val .non,.lst (us.map .val)]) else none
  |_=>none
theorem FK {i jn jm:Nat}{iN:Str}{ef c1 c2:Expr}{rest:List Stmt}{h0:ExceptHandler}{hs:List ExceptHandler}{fo:jH}{fx:FX}{fh:IG}{tc1 tc2:FT}{ff:FE}{a1 a2 a3 a4 a5 a6 a7 a8 b1 b2 b3:Pos}
  (hx:∀e s,X.xe e s->False) (hst:X.stack=X.env::X.outer) (hfr:X.env.frame=some X.env.locals) (hN:X.N.Nodup) (hi:X.N[i]? = some iN) (hlx:Loc X.env.scope iN) (he:uf X e fo)
  (hxb:Ge false X [.Assign [.Name iN a1] e a2] fx) (hh:LR X (h0::hs) fh) (hT1:ST X c1 tc1) (hT2:ST X c2 tc2) (hv:PE X (.Name iN a3) (jS i)) (hff:SE X ef ff)
  (hse:swapsWith e (some (.Name iN a1)) a2.line X.env=pure false:=by rfl) (hf:X.fn iN=true\/X.env.scope.names.lookup iN=some .local:=by first | exact .inl rfl | exact .inr rfl | assumption)
  (hs1:starEach [.Name iN a3,.Constant .none jn a4] X.env=(false,eval (.Name iN a3) X.env)::starEach [.Constant .none jn a4] X.env:=by rfl) (hs2:starEach [.Constant .none jn a4] X.env=(false,eval (.Constant .none jn a4) X.env)::starEach [] X.env:=by rfl)
  (hs3:starEach [.Constant .none jm b1,ef] X.env=(false,eval (.Constant .none jm b1) X.env)::starEach [ef] X.env:=by rfl) (hs4:starEach [ef] X.env=(false,eval ef X.env)::starEach [] X.env:=by rfl):
  Lx X (.Try [.Assign [.Name iN a1] e a2] (h0::hs) [] [] pos::.If c1 [.Return (some (.List [.Name iN a3,.Constant .none jn a4] a5)) a6] [] a7::.If c2 [.Return (some (.List [.Constant .none jm b1,ef] b2)) b3] [] a8::rest) (ql i fo fx fh tc1 tc2 ff):=fun Y0 Y9 =>
 kX.weak (dU (HL hx hst hfr (f9 (lT hN hi hlx (he Y0 Y9) hse hf)) hxb hh) (dU (qT hT1.any' (f9 (nR (nO (eu hv (eu vx iz hs2) hs1)))) il)
  (dU (qT hT2.any' (f9 (nR (nO (eu vx (eu hff.any iz hs4) hs3)))) il) tw))) fun D σ H hq__=>by
  obtain⟨F,τ,o,E,e1,q⟩:=hq__
  unfold ql at e1
  split at e1
  ·next os τ1 e2 =>
   split at e1
   ·next hh1 =>
    cases e1
    refine .inl ⟨F,τ,_,τ1,E,e2,fun F1 H1 v A E1 s1 ro nd h0 ap=>?_⟩
    obtain⟨p,vs,B,rfl,hA,k1,k2,k3⟩:=id ro
    have d:=je.start E1 hh1.1 ro nd h0 ap
    obtain⟨τ2,e3,hp2⟩:=hh1.2 p
    refine⟨Y0,frzO Y9 H1 A,F1,_,true,τ2,d.lend,e3,fun F2 H2 E2 s2=>?_⟩
    have d2:=d.back E2 s2 (Et hp2)
    dsimp only
    rw [if_pos rfl]
    refine⟨.ref p,d2.get,by show 2≤sizeLine;decide,fun l hl=>?_⟩
    have lA:l∉A:=fun m=>by
     obtain⟨ws,hw⟩:=(d2.lies m).2
     rw [hl] at hw;cases hw
    refine q F2 _ (.ref l) (l::A) ⟨d2.E.g.sF,d2.E.g.sH.trans (cG hl),d2.E.g.fh.trans (cG hl),d2.E.g.nw⟩ ⟨l,_,A,rfl,rfl,aJ,d2.E.g.fh.free hl,.ref p,[.non],A,[],rfl,by simp,cX.move (aQ.refl _) (fun a ha=>⟨au fun z=>lA (by rw [<- z];exact ha),(d2.lies ha).1⟩) d2.r,.non,[],[],[],rfl,rfl,⟨rfl,rfl⟩,rfl,rfl⟩ (List.nodup_cons.mpr ⟨lA,nd⟩) fun a ha=>?_
    rcases List.mem_cons.mp ha with rfl | ha
    ·exact d2.E.g.sH.free hl
    ·exact h0 a ha
   ·cases e1
  ·cases e1
  ·obtain⟨⟨c,τ1⟩,e2,e1⟩:=bind_some e1
   dsimp only at e1
   split at e1
   ·next us hts =>
    split at e1
    ·next hh1 =>
     cases e1
     refine .inr ⟨Y0,Y9,F,τ,c,τ1,E,e2,fun σ' F' H' od E' s' y=>?_⟩
     rcases y with ⟨_,y,_⟩ | ⟨dd,vs,y1,y2,y3,y4,y5⟩
     ·rw [hts] at y;cases y
     rw [hts] at y4
     obtain⟨v,r,rfl,⟨p,ws,rfl,m1,m2⟩,y4⟩:=y4
     cases y4
     obtain⟨n1,n2⟩:=y5 p List.mem_cons_self
     obtain⟨τ2,τ3,τ4,τ5,g1,g2,g3,g4⟩:=hh1.2 p
     refine⟨⟨c.C,c.ns,[.ptr p]⟩,_,rfl,.inr ⟨dd,[.ref p],y1,y2,y3,⟨_,_,rfl,rfl,rfl⟩,y5⟩,g1,fun F2 H2 σ2 E2 s2=>?_⟩
     refine⟨Y0,Y9,F2,τ2,false,τ3,E2,g2,fun F3 H3 E3 s3=>?_⟩
     dsimp only
     rw [if_neg (by decide)]
     refine⟨Y0,Y9,F3,τ3,true,τ4,E3,g3,fun F4 H4 E4 s4=>?_⟩
     dsimp only
     rw [if_pos rfl]
     refine⟨Y0,Y9,F4,τ4,_,τ5,E4,g4,fun F5 H5 v5 E5 s5 r5=>⟨by show 2≤sizeLine;decide,fun l hl=>?_⟩⟩
     obtain rfl:v5=.ref p:=r5
     have sA:aQ F' F5:=((s2.trans s3).trans s4).trans s5
     have f5:F5 p=some (.lst ws):=sA _ _ m1
     have h5:H5 p=some (.lst ws):=E5.g.fh _ _ f5
     have lp:l≠p:=fun z=>by rw [z,h5] at hl;cases hl
     have hF0:∀a∈[p],Y0 a=none:=fun a ha=>by rw [List.mem_singleton.mp ha];exact n1
     refine q (iP F5 [p]) _ (.ref l) [l,p] ⟨fun a o ea=>?_,E5.g.sH.trans (cG hl),(kH.trans E5.g.fh).trans (cG hl),fun a o ea=>E5.g.nw a o (kH a o ea)⟩ ⟨l,_,[p],rfl,rfl,aJ,Cq (E5.g.fh.free hl),.non,[.ref p],[],[p],rfl,rfl,⟨rfl,rfl⟩,.ref p,[],[p],[],rfl,rfl,⟨p,ws,[],rfl,rfl,(au (Ne.symm lp)).trans h5,gH List.mem_cons_self,.vals (aW.flat (fun a ha=>by rw [List.mem_singleton.mp ha];exact⟨ws,f5⟩) hh1.1 (m2.mono sA))⟩,rfl,rfl⟩ (by simp [lp]) fun a ha=>?_
     ·rw [bH fun m=>by rw [hF0 a m] at ea;cases ea]
      exact E5.g.sF _ _ ea
     ·rcases List.mem_cons.mp ha with rfl | ha
      ·exact E5.g.sH.free hl
      ·rw [List.mem_singleton.mp ha];exact n2
    ·cases e1
   ·cases e1
end
section
variable {K:PySem.W.Frag}{Y0 Y9 F H F' H':Hp}{σ:L2.St}{τ τ':aK}{A:List Addr}
theorem yr.lend (D:yr K Y0 Y9 F H σ τ A):aF K Y0 (frzO Y9 H A) F H σ τ:=by
 refine⟨⟨D.E.g.sF,fun a o e=>?_,D.E.g.fh,fun a o e=>?_⟩,D.E.len,fun i s e=>?_,D.E.dj⟩
 ·by_cases m:a∈A
  ·rw [cO m] at e;exact e
  ·rw [bM m] at e;exact D.E.g.sH _ _ e
 ·have m:a∉A:=fun m=>by rw [(D.lies a m).1] at e;cases e
  rcases D.E.g.nw a o e with z | z
  ·exact .inl z
  ·exact .inr (by rw [bM m];exact z)
 ·obtain⟨v,h1,h2⟩:=D.E.sl i s e
  refine⟨v,h1,?_⟩
  cases s with
  |sh t=>exact h2
  |own ts =>
   obtain⟨q,vs,rfl,k1,k2,k3,k4⟩:=h2
   exact⟨q,vs,rfl,k1,k2,by rw [bM (D.ap i ts q e h1)];exact k3,k4⟩
theorem yr.gone {F1 H1:Hp}(D:yr K Y0 Y9 F H σ τ A)(E:aF K Y0 (frzO Y9 H A) F' H' σ τ')(g:bf F' (iP H' A) F1 H1):aF K Y0 Y9 F1 H1 σ τ':=by
 have out:∀{a:Addr},frzO Y9 H A a=none->a∉A/\Y9 a=none:=fun {a} e=>by
  have m:a∉A:=fun m=>by
   obtain⟨vs,k⟩:=(D.lies a m).2
   rw [cO m,k] at e;cases e
  exact⟨m,by rw [bM m] at e;exact e⟩
 have g0:bf Y0 Y9 F' H':=by
  refine⟨E.g.sF,fun a o e=>?_,E.g.fh,fun a o e=>?_⟩
  ·have m:a∉A:=fun m=>by rw [D.h0 a m] at e;cases e
   exact E.g.sH _ _ (by rw [bM m];exact e)
  ·rcases E.g.nw a o e with z | z
   ·exact .inl z
   ·exact .inr (out z).2
 refine⟨g0.taken D.h0 g,E.len,fun i s e=>?_,E.dj⟩
 obtain⟨v,h1,h2⟩:=E.sl i s e
 refine⟨v,h1,?_⟩
 cases s with
 |sh t=>exact Rep.mono g.sF h2
 |own ts =>
  obtain⟨q,vs,rfl,k1,k2,k3,k4⟩:=h2
  obtain⟨m,k3⟩:=out k3
  refine⟨q,vs,rfl,g.sH _ _ (by rw [bH m];exact k1),?_,k3,aW.mono g.sF k4⟩
  cases eF:F1 q with
  |none=>rfl
  |some o =>
   rcases g.nw _ o eF with z | z
   ·rw [k2] at z;cases z
   ·rw [bH m,k1] at z;cases z
end
section
variable {X:Cx}{e:Expr}{es:List Expr}{pos:Pos}{g:FA}
def jl (fo:jH)(g:FA)(d:O->List T->Option T):FE:=fun τ=>(fo τ).bind fun p=>(g p.2).bind fun r=>(d p.1 r.1).bind fun t=>some (t,r.2)
theorem tF {k n:Nat}{y:Str}{p0 pc:Pos}{fo:jH}{d:O->List T->Option T}(D:wc X.prog X.w X.K X.mg X.base k y n d)(hr:eK k X.A)(hg:Gl X y)(h0':uf X e fo)(ha:SA X es g)(hl:∀τ ts τ',g τ=some (ts,τ')->ts.length+1=n)
  (hdb:(y == ("__debug__" : Str))=false:=by decide)
  (he:starEach (e::es) X.env=(false,eval e X.env)::starEach es X.env:=by rfl) (hpl:(backTo pc (starEach es X.env)).any (·.1)=false:=by rfl):
  SE X (.Call (.Name y p0) (e::es) [] pc) (jl fo g d):=by
 obtain⟨f,fd,pps,Fk,hb,hk,hm,hn⟩:=D.ex
 intro Y0 Y9
 refine PE.weak (vv (E:=E0) (CX:=tZ) Fk hr hg hm hk hb .nil Fd (eu (h0' Y0 Y9) ha.any he) hdb he hpl) ?_
 rintro σ H Q ⟨F,τ,t,τ',E,e1,q⟩
 obtain⟨⟨o,τ1⟩,e2,e1⟩:=bind_some e1
 obtain⟨⟨ts,τ3⟩,e4,e1⟩:=bind_some e1
 obtain⟨t',e5,e1⟩:=bind_some e1
 cases e1
 refine⟨F,τ,o,τ1,E,e2,fun F1 H1 v A E1 s1 ro nd h0 ow=>?_⟩
 have L:yr X.K Y0 Y9 F1 H1 σ τ1 A:=⟨E1,ro.at,h0,ow⟩
 refine⟨Y0,frzO Y9 H1 A,F1,τ1,ts,_,L.lend,e4,fun F3 H3 vs E3 s3 r3=>?_⟩
 have ro3:cX X.K F3 H3 o v A:=cX.move s3 (fun a ha=>by
  obtain⟨f1,ws,f2⟩:=ro.at a ha
  refine⟨by rw [f2];exact E3.g.sH _ _ (by rw [cO ha];exact f2),?_⟩
  cases eF:F3 a with
  |none=>rfl
  |some o =>
   rcases E3.g.nw a o eF with z | z
   ·rw [E1.g.sF _ _ z] at f1;cases f1
   ·rw [cO ha,f2] at z;cases z) ro
 refine⟨by rw [List.append_nil,List.length_cons,r3.length];exact hl _ _ _ e4,F3,o,v,vs,ts,A,t,E3.g.fh,by rw [List.append_nil],ro3,nd,r3,e5,fun F4 H4 v4 g4 r4=>?_⟩
 exact q F4 H4 v4 (L.gone E3 g4) ((s1.trans s3).trans g4.sF) r4
end
end TM
set_option maxHeartbeats 4000000
namespace My
open PySem PySem.Spec PyProof.Rows L2 TM
variable {K:PySem.W.Frag}
abbrev ah (t:T):Option Sl:=some (.sh t)
abbrev aB (n:Nat):T:=.int n
abbrev aP (i:Nat):FA:=aa (af i) az
abbrev aU (i:Int):FE:=fC (.int i)
def top (i:Nat):Stmt:=PySem.Challenge.pw_echohouse_k13_inverse_or_flat.main.body.getD i (.Pass ⟨0,0,0,0⟩)
section
variable {P:Program}{w:World}{K:PySem.W.Frag}{mg:Str->Option Value}{base:Heap}{k:Nat}{f:Addr}{fd:FuncData}
abbrev qW:Stmt:=top 5
def pS (n:Nat)(q0:List T->Option T):FS:=
  (aO (uD 0 1 (aa (ai wC (aP 0)) (aa (ai wC (aP 1)) az)))
  (aO (fj (cJ (aG Gh (wb k9 (af 1)) (aU 4000))) (aO (uD 0 1 (aa (af 1) (aa (aG bU (af 0) (af 1)) az)))
  (cq (cJ (aG Gh (wb k9 (af 1)) (aU 4000))) (uC (ai q0 (aa (af 0) (aP 1))) (bO (aH (ak 0) (aH (ak 1) (aH (ak 2) bN))))) bS)) n)
  (aO (fj (cJ (aG lb (af 1) (aU 0))) (uD 0 1 (aa (af 1) (aa (aG bU (af 0) (af 1)) az))) n)
  (bE (af 0)))))
theorem fS:aV ["one","other","factors"] ["one","other"] (aw qW):=by walk_at "sc"
theorem CM (n:Nat)(F:fW K "common" "common" qW f fd)(hb:Binds K fd ["one","other"] [])(hm:mg "common" = some (.ref f))(q1:Def P w K mg base k "half" 2 q0)(q2:mg "abs" = none)(q3:mg "SHORT" = some (.int 4000 q4)):
  Def P w K mg base (k+1) "common" 2 (dH 3 2 (pS n q0)):=
 cg F fS hb hm fun cdv A outer s H E hr=>(av (vU rfl fS.nd rfl rfl (by decide) rfl rfl (ag (bc ux rfl q2 rfl (ag (ae 0 (pv 0)) ao)) (ag (bc ux rfl q2 rfl (ag (ae 1 (pv 1)) ao)) ao)) rfl)
  (av (rk n PassesOwn.never (bP Bv (pF (ae 1 (pv 1))) (mW rfl q3) (bz _)) (av (vU rfl fS.nd rfl rfl (by decide) rfl rfl (ag (ae 1 (pv 1)) (ag (aR cH (ae 0 (pv 0)) (ae 1 (pv 1))) ao)) rfl)
  (aI (fy (bP Bv (pF (ae 1 (pv 1))) (mW rfl q3) (bz _)) (aI (zY (aL q1 hr rfl (ag (ae 0 (pv 0)) (ag (ae 1 (pv 1)) ao)) (aj (aj aE))) (eJ rfl (aY (aM 0 fS.nd rfl (Or.inl rfl)) (aY (aM 1 fS.nd rfl (Or.inl rfl)) (aY (aM 2 fS.nd rfl (Or.inl rfl)) cW))) (br (br (br eG)))))) cw))))
  (av (rk n PassesOwn.never (bP (oH hr.units) (ae 1 (pv 1)) ay (bz _)) (aI (vU rfl fS.nd rfl rfl (by decide) rfl rfl (ag (ae 1 (pv 1)) (ag (aR cH (ae 0 (pv 0)) (ae 1 (pv 1))) ao)) rfl)))
  (aI (bu (ae 0 (pv 0)))))))
abbrev K2:Stmt:=top 6
theorem vj:(["number","by"]:List Str).Nodup:=by decide +kernel
abbrev nV:Stmt:=top 11
def nv:FS:=
  (aO (cq (cJ (aG ym (wb k9 (af 1)) (aU 8000))) (bE (bB 1 [1] (bo (af 0)) (ak 0) aA (aG dC (af 0) (af 1)))) bS)
  gS)
theorem zT:aV ["numbers","by","bits","shift","inverse","mask","lows"] ["numbers","by"] (aw nV):=by walk_at "sc"
theorem zH (F:fW K "divided" "divided" nV f fd)(hb:Binds K fd ["numbers","by"] [])(hm:mg "divided" = some (.ref f))(q5:mg "SHORT_QUOTIENT" = some (.int 8000 q6)):
  Def P w K mg base (k+1) "divided" 2 (dH 7 2 (nv)):=
 cg F zT hb hm fun cdv A outer s H E hr=>(av (fy (bP qM (pF (ae 1 (pv 1))) (mW rfl q5) (bz _)) (aI (bu (cu (N':=["number","by"]) (no:=1) (cap:=[1]) rfl rfl (aT rfl) rfl (cb rfl) (di (ae 0 (pv 0))) (fun _ _ _ _ _ _=>(aM 0 vj rfl (Or.inl rfl))) (fun _ _ _ _ _ _=>bY) (fun _ _ _ _ _ _=>(aR eH (ae 0 (pv 0)) (ae 1 (pv 1))))))) cw)
  tL)
abbrev fQ:Stmt:=inClass (top 17) 0
theorem mU:aV ["self","numbers"] ["self","numbers"] (aw fQ):=by walk_at "sc"
abbrev zS:Stmt:=top 19
def yA (q7:List T->Option T):FS:=
  (aO (cq (cJ (aG gJ (af 1) (aU 0))) gS bS)
  (aO (aX 2 (ai q7 (aa (af 0) (aP 1))))
  (aO (cq (cJ (aG ym (af 1) (aU 0))) (aX 2 (wb qt (af 2))) bS)
  (aO (cq (cJ (aG ym (wb k9 (af 2)) (aU 8000))) (bE (ck (aa (aG dC (af 0) (af 2)) (aa (aG dC (af 1) (af 2)) az)))) bS)
  gS))))
theorem vG:aV ["top","bottom","shared"] ["top","bottom"] (aw zS):=by walk_at "sc"
theorem HA (F:fW K "frac" "frac" zS f fd)(hb:Binds K fd ["top","bottom"] [])(hm:mg "frac" = some (.ref f))(q8:Def P w K mg base k "common" 2 q7)(q5:mg "SHORT_QUOTIENT" = some (.int 8000 q6)):
  Def P w K mg base (k+1) "frac" 2 (dH 3 2 (yA q7)):=
 cg F vG hb hm fun cdv A outer s H E hr=>(av (fy (bP (jM hr.units) (ae 1 (pv 1)) ay (bz _)) (aI ya) cw)
  (av (aZ 2 vG.nd rfl (Or.inl rfl) (aL q8 hr rfl (ag (ae 0 (pv 0)) (ag (ae 1 (pv 1)) ao)) (aj (aj aE))))
  (av (fy (bP qM (ae 1 (pv 1)) ay (bz _)) (aI (aZ 2 vG.nd rfl (Or.inl rfl) (FC Ai (ae 2 (pv 2))))) cw)
  (av (fy (bP qM (pF (ae 2 (pv 2))) (mW rfl q5) (bz _)) (aI (bu (dM (ag (aR eH (ae 0 (pv 0)) (ae 2 (pv 2))) (ag (aR eH (ae 1 (pv 1)) (ae 2 (pv 2))) ao))))) cw)
  tL))))
abbrev gy:Stmt:=top 21
def gq (q7:List T->Option T):FS:=
  (aO (aX 1 (aU 1))
  (aO (dz (bo (af 0)) (bO (aH (ak 2) (aH (ak 3) bN))) (aX 1 (aG bI (aG dC (af 1) (ai q7 (aa (af 1) (aP 3)))) (af 3))))
  (bE (af 1))))
theorem dh:aV ["row","low","top","bottom"] ["row"] (aw gy):=by walk_at "sc"
theorem nM (F:fW K "shared_bottom" "shared_bottom" gy f fd)(hb:Binds K fd ["row"] [])(hm:mg "shared_bottom" = some (.ref f))(q8:Def P w K mg base k "common" 2 q7):
  Def P w K mg base (k+1) "shared_bottom" 1 (dH 4 1 (gq q7)):=
 cg F dh hb hm fun cdv A outer s H E hr=>(av (aZ 1 dh.nd rfl (Or.inl rfl) ay)
  (av (fH PassesOwn.never rfl (di (ae 0 (pv 0))) (eJ rfl (aY (aM 2 dh.nd rfl (Or.inl rfl)) (aY (aM 3 dh.nd rfl (Or.inl rfl)) cW)) (br (br eG))) (aI (aZ 1 dh.nd rfl (Or.inl rfl) (aR bW (aR eH (ae 1 (pv 1)) (aL q8 hr rfl (ag (ae 1 (pv 1)) (ag (ae 3 (pv 3)) ao)) (aj (aj aE)))) (ae 3 (pv 3))))))
  (aI (bu (ae 1 (pv 1))))))
theorem oE:(["top","bottom","low"]:List Str).Nodup:=by decide +kernel
abbrev qX:Stmt:=top 22
def wu:FS:=
  (bE (bB 2 [1] (bo (af 0)) (bO (aH (ak 0) (aH (ak 1) bN))) aA (aG bI (af 0) (aG dC (af 2) (af 1)))))
theorem CU:aV ["row","low"] ["row","low"] (aw qX):=by walk_at "sc"
theorem CN (F:fW K "raised" "raised" qX f fd)(hb:Binds K fd ["row","low"] [])(hm:mg "raised" = some (.ref f)):
  Def P w K mg base (k+1) "raised" 2 (dH 2 2 (wu)):=
 cg F CU hb hm fun cdv A outer s H E hr=>(aI (bu (cu (N':=["top","bottom","low"]) (no:=2) (cap:=[1]) rfl rfl (aT rfl) rfl (cb rfl) (di (ae 0 (pv 0))) (fun _ _ _ _ _ _=>(eJ rfl (aY (aM 0 oE rfl (Or.inl rfl)) (aY (aM 1 oE rfl (Or.inl rfl)) cW)) (br (br eG)))) (fun _ _ _ _ _ _=>bY) (fun _ _ _ _ _ _=>(aR bW (ae 0 (pv 0)) (aR eH (ae 2 (pv 2)) (ae 1 (pv 1))))))))
theorem xy:(["place","table"]:List Str).Nodup:=by decide +kernel
theorem xB:(["row","place"]:List Str).Nodup:=by decide +kernel
abbrev qZ:Stmt:=top 23
def jX:ud:=
  (ik (eW 1 [0] (bA (aP 1)) (ak 0) aA (eW 1 [0] (bo (af 1)) (ak 0) aA (mC (aG cK (af 0) (af 1))))))
theorem CV:aV ["table","wide"] ["table","wide"] (aw qZ):=by walk_at "sc"
theorem zE (F:fW K "turned" "turned" qZ f fd)(hb:Binds K fd ["table","wide"] [])(hm:mg "turned" = some (.ref f))(q9:mg "range" = none):
  eT P w K mg base (k+1) "turned" 2 (ji 2 2 (jX)):=
 jk F CV hb hm fun cdv A outer s H E hr=>(m8 (ja (N':=["place","table"]) (no:=1) (cap:=[0]) rfl rfl (aT rfl) rfl (cb rfl) (eA rfl q9 (ag (ae 1 (pv 1)) ao)) (fun _ _ _ _ _ _=>(aM 0 xy rfl (Or.inr rfl))) (fun _ _ _ _ _ _=>bY) (fun _ _ _ _ _ _=>(ja (N':=["row","place"]) (no:=1) (cap:=[0]) rfl rfl (aT rfl) rfl (cb rfl) (di (ae 1 (pv 1))) (fun _ _ _ _ _ _=>(aM 0 xB rfl (Or.inl rfl))) (fun _ _ _ _ _ _=>bY) (fun _ _ _ _ _ _=>(SE.seo (dk dq (ae 0 (pv 0)) (ae 1 (pv 1)) (fun _ _=>rfl))))))))
theorem gw:(["at","place","row"]:List Str).Nodup:=by decide +kernel
abbrev jy:Stmt:=top 25
def md (q10 q11:List T->Option T):FS:=
  (aO (aX 1 (Ha (eL (af 0)) (ai bG (aa (aG cK (af 0) (aU 0)) az)) (aU 0)))
  (aO (aX 2 (ai q11 (aa (ai q10 (aP 0)) (aP 1))))
  (bE (bB 3 [] (lL (aP 2)) (bO (aH (ak 0) (aH (bO (aH (ak 1) (aH (ak 2) bN))) bN))) (cJ (aG fO (af 1) (fC .non))) (af 0)))))
theorem iH:aV ["table","wide","steps"] ["table"] (aw jy):=by walk_at "sc"
theorem si (F:fW K "first_rows" "first_rows" jy f fd)(hb:Binds K fd ["table"] [])(hm:mg "first_rows" = some (.ref f))(q12:Def P w K mg base k "whole_rows" 1 q10)(q13:Def P w K mg base k "cleared_rows" 2 q11)(q14:mg "len" = none)(q15:mg "enumerate" = none):
  Def P w K mg base (k+1) "first_rows" 1 (dH 3 1 (md q10 q11)):=
 cg F iH hb hm fun cdv A outer s H E hr=>(av (aZ 1 iH.nd rfl (Or.inl rfl) (Jm (hU (ae 0 (pv 0))) (bc cZ rfl q14 PySem.boot_len (ag (dk dq (ae 0 (pv 0)) ay (fun _ _=>rfl)) ao)) ay))
  (av (aZ 2 iH.nd rfl (Or.inl rfl) (aL q13 hr rfl (ag (aL q12 hr rfl (ag (ae 0 (pv 0)) ao) (aj aE)) (ag (ae 1 (pv 1)) ao)) (aj (aj aE))))
  (aI (bu (cu (N':=["at","place","row"]) (no:=3) (cap:=[]) rfl rfl (aT rfl) rfl (cb rfl) (BH rfl q15 (ag (ae 2 (pv 2)) ao)) (fun _ _ _ _ _ _=>(eJ rfl (aY (aM 0 gw rfl (Or.inl rfl)) (aY (eJ rfl (aY (aM 1 gw rfl (Or.inl rfl)) (aY (aM 2 gw rfl (Or.inl rfl)) cW)) (br (br eG))) cW)) (br (br eG)))) (fun _ _ _ _ _ _=>(pI (bP mP (ae 1 (pv 1)) g9 (bz _)))) (fun _ _ _ _ _ _=>(ae 0 (pv 0))))))))
theorem vk:(["column","steps","wide"]:List Str).Nodup:=by decide +kernel
abbrev kP:Stmt:=top 26
def sE (q16 q11 q17 q18:List T->Option T)(q19:List T->Option O):ud:=
  (dB (aX 1 (ai bG (aP 0)))
  (dB (aX 2 (ai q11 (aa (ai q16 (aP 0)) (aP 1))))
  (dB (cq (cJ (aG ym (ai bG (aa (ai q17 (aP 2)) az)) (af 1))) gS bS)
  (ik (cy q19 (aa (bB 1 [2,1] (bA (aP 1)) (ak 0) aA (ai q18 (aa (af 1) (aa (af 2) (aa (aG cV (af 2) (af 0)) az))))) (aP 1)))))))
theorem fT:aV ["table","wide","steps"] ["table"] (aw kP):=by walk_at "sc"
theorem xD (F:fW K "inverse" "inverse" kP f fd)(hb:Binds K fd ["table"] [])(hm:mg "inverse" = some (.ref f))(q20:Def P w K mg base k "tracked" 1 q16)(q13:Def P w K mg base k "cleared_rows" 2 q11)(q21:Def P w K mg base k "kept_steps" 1 q17)(q22:Def P w K mg base k "brought" 3 q18)(q23:eT P w K mg base k "turned" 2 q19)(q14:mg "len" = none)(q9:mg "range" = none):
  eT P w K mg base (k+1) "inverse" 1 (ji 3 1 (sE q16 q11 q17 q18 q19)):=
 jk F fT hb hm fun cdv A outer s H E hr=>(eN (aZ 1 fT.nd rfl (Or.inr rfl) (bc cZ rfl q14 PySem.boot_len (ag (ae 0 (pv 0)) ao)))
  (eN (aZ 2 fT.nd rfl (Or.inr rfl) (aL q13 hr rfl (ag (aL q20 hr rfl (ag (ae 0 (pv 0)) ao) (aj aE)) (ag (ae 1 (pv 1)) ao)) (aj (aj aE))))
  (eN (fy (bP qM (bc cZ rfl q14 PySem.boot_len (ag (aL q21 hr rfl (ag (ae 2 (pv 2)) ao) (aj aE)) ao)) (ae 1 (pv 1)) (bz _)) (aI ya) cw)
  (m8 (gf q23 hr rfl (ag (cu (N':=["column","steps","wide"]) (no:=1) (cap:=[2,1]) rfl rfl (aT rfl) rfl (cb rfl) (eA rfl q9 (ag (ae 1 (pv 1)) ao)) (fun _ _ _ _ _ _=>(aM 0 vk rfl (Or.inl rfl))) (fun _ _ _ _ _ _=>bY) (fun _ _ _ _ _ _=>(aL q22 hr rfl (ag (ae 1 (pv 1)) (ag (ae 2 (pv 2)) (ag (aR eY (ae 2 (pv 2)) (ae 0 (pv 0))) ao))) (aj (aj (aj aE)))))) (ag (ae 1 (pv 1)) ao)) (aj (aj aE)))))))
def jh (q24:Addr)(q16 q11 q17 q25:List T->Option T):FX:=
  (sY (aX 1 (ai bG (aP 0)))
  (sY (aX 2 (ai q11 (aa (ai q16 (aP 0)) (aP 1))))
  (D5 (cJ (aG ym (ai bG (aa (ai q17 (aP 2)) az)) (af 1))) (mz q24 "numbers" (aa (ai q25 (aa (af 0) (aP 1))) az)) J0)))
theorem xE (F:fW K "inverse" "inverse" kP f fd)(hb:Binds K fd ["table"] [])(hm:mg "inverse" = some (.ref f))(q20:Def P w K mg base k "tracked" 1 q16)(q13:Def P w K mg base k "cleared_rows" 2 q11)(q21:Def P w K mg base k "kept_steps" 1 q17)(q26:Def P w K mg base k "still" 2 q25)(q27:oj P w K mg base k q24 "numbers")(q28:mg "Flat" = some (.ref q24))(q14:mg "len" = none):
  we P w K mg base (k+1) "inverse" 1 (GU 3 1 (jh q24 q16 q11 q17 q25)):=
 GW F fT hb hm fun cdv A outer s H E hr=>(yd (fun _ _ z=>z) (aZ 1 fT.nd rfl (Or.inr rfl) (bc cZ rfl q14 PySem.boot_len (ag (ae 0 (pv 0)) ao)))
  (yd (fun _ _ z=>z) (aZ 2 fT.nd rfl (Or.inr rfl) (aL q13 hr rfl (ag (aL q20 hr rfl (ag (ae 0 (pv 0)) ao) (aj aE)) (ag (ae 1 (pv 1)) ao)) (aj (aj aE))))
  (rD (MP (fun _ _ z=>z) (bP qM (bc cZ rfl q14 PySem.boot_len (ag (aL q21 hr rfl (ag (ae 2 (pv 2)) ao) (aj aE)) ao)) (ae 1 (pv 1)) (bz _)) (rD (C9 rfl (fun _ _ z=>z) q27 hr rfl q28 (ag (aL q26 hr rfl (ag (ae 0 (pv 0)) (ag (ae 1 (pv 1)) ao)) (aj (aj aE))) ao))) Lh))))
abbrev vD:Stmt:=top 27
def AD (q29:List T->Option O):ud:=
  (AZ 2 (cy q29 (aa (af 0) (aP 1))))
theorem xU:aV ["table","wide","found"] ["table","wide"] (aw vD):=by walk_at "sc"
theorem CL (F:fW K "still" "still" vD f fd)(hb:Binds K fd ["table","wide"] [])(hm:mg "still" = some (.ref f))(q30:eT P w K mg base k "stills" 2 q29):
  eT P w K mg base (k+1) "still" 2 (ji 3 2 (AD q29)):=
 jk F xU hb hm fun cdv A outer s H E hr=>(FJ xU.nd rfl (Or.inl rfl) (gf q30 hr rfl (ag (ae 0 (pv 0)) (ag (ae 1 (pv 1)) ao)) (aj (aj aE))) (pv 2) (pv 2))
theorem oG:(["place","row","many"]:List Str).Nodup:=by decide +kernel
abbrev qY:Stmt:=top 28
def wx (q31 q16 q11:List T->Option T)(q32:List T->Option O):ud:=
  (dB (aX 2 (ai bG (aP 0)))
  (dB (aX 3 (ai q11 (aa (ai q16 (aa (ai q31 (aa (af 0) (aP 1))) az)) (aP 2))))
  (ik (eW 2 [2] (bo (af 3)) (bO (aH (ak 0) (aH (ak 1) bN))) (cJ (aG wO (af 0) (fC .non))) (cy q32 (aa (Hb (af 1) (fL (af 2)) ij) az))))))
theorem nX:aV ["table","wide","many","steps"] ["table","wide"] (aw qY):=by walk_at "sc"
theorem zD (F:fW K "stills" "stills" qY f fd)(hb:Binds K fd ["table","wide"] [])(hm:mg "stills" = some (.ref f))(q33:Def P w K mg base k "turned" 2 q31)(q20:Def P w K mg base k "tracked" 1 q16)(q13:Def P w K mg base k "cleared_rows" 2 q11)(q34:eT P w K mg base k "shortened" 1 q32)(q14:mg "len" = none):
  eT P w K mg base (k+1) "stills" 2 (ji 4 2 (wx q31 q16 q11 q32)):=
 jk F nX hb hm fun cdv A outer s H E hr=>(eN (aZ 2 nX.nd rfl (Or.inr rfl) (bc cZ rfl q14 PySem.boot_len (ag (ae 0 (pv 0)) ao)))
  (eN (aZ 3 nX.nd rfl (Or.inl rfl) (aL q13 hr rfl (ag (aL q20 hr rfl (ag (aL q33 hr rfl (ag (ae 0 (pv 0)) (ag (ae 1 (pv 1)) ao)) (aj (aj aE))) ao) (aj aE)) (ag (ae 2 (pv 2)) ao)) (aj (aj aE))))
  (m8 (ja (N':=["place","row","many"]) (no:=2) (cap:=[2]) rfl rfl (aT rfl) rfl (cb rfl) (di (ae 3 (pv 3))) (fun _ _ _ _ _ _=>(eJ rfl (aY (aM 0 oG rfl (Or.inl rfl)) (aY (aM 1 oG rfl (Or.inl rfl)) cW)) (br (br eG)))) (fun _ _ _ _ _ _=>(pI (bP Bx (ae 0 (pv 0)) g9 (bz _)))) (fun _ _ _ _ _ _=>(gf q34 hr rfl (ag (xW (ae 1 (pv 1)) (pH (ae 2 (pv 2))) BP) ao) (aj aE)))))))
theorem oP:(["row"]:List Str).Nodup:=by decide +kernel
abbrev jA:Stmt:=top 29
def me (q35 q36:List T->Option T):FS:=
  (bE (bB 1 [] (bo (af 0)) (ak 0) aA (ai q36 (aa (af 0) (aa (ai q35 (aP 0)) az)))))
theorem su:aV ["table"] ["table"] (aw jA):=by walk_at "sc"
theorem so (F:fW K "whole_rows" "whole_rows" jA f fd)(hb:Binds K fd ["table"] [])(hm:mg "whole_rows" = some (.ref f))(q37:Def P w K mg base k "shared_bottom" 1 q35)(q38:Def P w K mg base k "raised" 2 q36):
  Def P w K mg base (k+1) "whole_rows" 1 (dH 1 1 (me q35 q36)):=
 cg F su hb hm fun cdv A outer s H E hr=>(aI (bu (cu (N':=["row"]) (no:=1) (cap:=[]) rfl rfl (aT rfl) rfl (cb rfl) (di (ae 0 (pv 0))) (fun _ _ _ _ _ _=>(aM 0 oP rfl (Or.inl rfl))) (fun _ _ _ _ _ _=>bY) (fun _ _ _ _ _ _=>(aL q38 hr rfl (ag (ae 0 (pv 0)) (ag (aL q37 hr rfl (ag (ae 0 (pv 0)) ao) (aj aE)) ao)) (aj (aj aE)))))))
theorem vm:(["other","at","low"]:List Str).Nodup:=by decide +kernel
abbrev nW:Stmt:=top 30
def sI (q35 q36:List T->Option T):FS:=
  (aO (aX 1 (ai bG (aP 0)))
  (aO (d9 2 az)
  (aO (dz (lL (aP 0)) (bO (aH (ak 3) (aH (ak 4) bN))) (aO (aX 5 (ai q35 (aP 4)))
  (jO 2 (aG cV (ai q36 (aa (af 4) (aP 5))) (bB 1 [3,5] (bA (aP 1)) (ak 0) aA (Ha (cJ (aG gJ (af 0) (af 1))) (af 2) (aU 0)))))))
  (bE (af 2)))))
theorem fU:aV ["table","many","rows","at","row","low"] ["table"] (aw nW):=by walk_at "sc"
theorem zI (F:fW K "tracked" "tracked" nW f fd)(hb:Binds K fd ["table"] [])(hm:mg "tracked" = some (.ref f))(q37:Def P w K mg base k "shared_bottom" 1 q35)(q38:Def P w K mg base k "raised" 2 q36)(q14:mg "len" = none)(q15:mg "enumerate" = none)(q9:mg "range" = none):
  Def P w K mg base (k+1) "tracked" 1 (dH 6 1 (sI q35 q36)):=
 cg F fU hb hm fun cdv A outer s H E hr=>(av (aZ 1 fU.nd rfl (Or.inl rfl) (bc cZ rfl q14 PySem.boot_len (ag (ae 0 (pv 0)) ao)))
  (av (jc 2 fU.nd rfl (Or.inl rfl) ao)
  (av (fH PassesOwn.never rfl (BH rfl q15 (ag (ae 0 (pv 0)) ao)) (eJ rfl (aY (aM 3 fU.nd rfl (Or.inr rfl)) (aY (aM 4 fU.nd rfl (Or.inl rfl)) cW)) (br (br eG))) (av (aZ 5 fU.nd rfl (Or.inr rfl) (aL q37 hr rfl (ag (ae 4 (pv 4)) ao) (aj aE)))
  (aI (jb 2 (pv 2) (aR eY (aL q38 hr rfl (ag (ae 4 (pv 4)) (ag (ae 5 (pv 5)) ao)) (aj (aj aE))) (cu (N':=["other","at","low"]) (no:=1) (cap:=[3,5]) rfl rfl (aT rfl) rfl (cb rfl) (eA rfl q9 (ag (ae 1 (pv 1)) ao)) (fun _ _ _ _ _ _=>(aM 0 vm rfl (Or.inl rfl))) (fun _ _ _ _ _ _=>bY) (fun _ _ _ _ _ _=>(Jm (bP (jM hr.units) (ae 0 (pv 0)) (ae 1 (pv 1)) (bz _)) (ae 2 (pv 2)) ay))))))))
  (aI (bu (ae 2 (pv 2)))))))
abbrev gY:Stmt:=top 31
def fA (q39 q40:List T->Option T):FS:=
  (aO (pe 2 3)
  (aO (dz (bo (af 0)) (ak 4) (aO (aX 5 (dQ 3 (ai q39 (aa (af 4) (aP 3)))))
  (aO (aX 6 (ai q40 (aa (af 5) (aP 1))))
  (aO (jO 2 (ck (aa (af 6) (aP 5))))
  (cq (cJ (aG fO (af 6) (fC .non))) (jO 3 (ck (aa (af 6) (aP 5)))) bS)))))
  (bE (af 2))))
theorem dF:aV ["rows","wide","steps","kept","row","left","place"] ["rows","wide"] (aw gY):=by walk_at "sc"
theorem oU (F:fW K "cleared_rows" "cleared_rows" gY f fd)(hb:Binds K fd ["rows","wide"] [])(hm:mg "cleared_rows" = some (.ref f))(q41:Def P w K mg base k "cleared" 2 q39)(q42:Def P w K mg base k "first_place" 2 q40):
  Def P w K mg base (k+1) "cleared_rows" 2 (dH 7 2 (fA q39 q40)):=
 cg F dF hb hm fun cdv A outer s H E hr=>(av (C7 rfl dF.nd rfl rfl (by decide) rfl rfl rfl)
  (av (fH PassesOwn.never rfl (di (ae 0 (pv 0))) (aM 4 dF.nd rfl (Or.inl rfl)) (av (aZ 5 dF.nd rfl (Or.inl rfl) (mX 3 (aL q41 hr rfl (ag (ae 4 (pv 4)) (ag (ae 3 (pv 3)) ao)) (aj (aj aE)))))
  (av (aZ 6 dF.nd rfl (Or.inl rfl) (aL q42 hr rfl (ag (ae 5 (pv 5)) (ag (ae 1 (pv 1)) ao)) (aj (aj aE))))
  (av (jb 2 (pv 2) (dM (ag (ae 6 (pv 6)) (ag (ae 5 (pv 5)) ao))))
  (aI (fy (bP mP (ae 6 (pv 6)) g9 (bz _)) (aI (jb 3 (pv 3) (dM (ag (ae 6 (pv 6)) (ag (ae 5 (pv 5)) ao))))) cw))))))
  (aI (bu (ae 2 (pv 2))))))
theorem mM:(["number","less","here","there"]:List Str).Nodup:=by decide +kernel
abbrev nU:Stmt:=top 32
def iM (q43:List T->Option T):FS:=
  (aO (aX 2 (aU 1))
  (aO (dz (bo (af 1)) (bO (aH (ak 3) (aH (ak 4) bN))) (aO (uC (ck (aa (aG cK (af 4) (af 3)) (aa (aG cK (af 0) (af 3)) az))) (bO (aH (ak 5) (aH (ak 6) bN))))
  (aO (aX 0 (ai q43 (aa (bB 2 [5,6] (fm (aa (af 0) (aP 4))) (bO (aH (ak 0) (aH (ak 1) bN))) aA (aG iy (aG bI (af 2) (af 0)) (aG bI (af 3) (af 1)))) (aP 2))))
  (aX 2 (af 5)))))
  (bE (af 0))))
theorem dY:aV ["row","kept","ahead","place","other","here","there"] ["row","kept"] (aw nU):=by walk_at "sc"
theorem zG (F:fW K "cleared" "cleared" nU f fd)(hb:Binds K fd ["row","kept"] [])(hm:mg "cleared" = some (.ref f))(q44:Def P w K mg base k "divided" 2 q43)(q45:mg "zip" = none):
  Def P w K mg base (k+1) "cleared" 2 (dH 7 2 (iM q43)):=
 cg F dY hb hm fun cdv A outer s H E hr=>(av (aZ 2 dY.nd rfl (Or.inl rfl) ay)
  (av (fH PassesOwn.never rfl (di (ae 1 (pv 1))) (eJ rfl (aY (aM 3 dY.nd rfl (Or.inl rfl)) (aY (aM 4 dY.nd rfl (Or.inl rfl)) cW)) (br (br eG))) (av (zY (dM (ag (dk dq (ae 4 (pv 4)) (ae 3 (pv 3)) (fun _ _=>rfl)) (ag (dk dq (ae 0 (pv 0)) (ae 3 (pv 3)) (fun _ _=>rfl)) ao))) (eJ rfl (aY (aM 5 dY.nd rfl (Or.inr rfl)) (aY (aM 6 dY.nd rfl (Or.inr rfl)) cW)) (br (br eG))))
  (av (aZ 0 dY.nd rfl (Or.inl rfl) (aL q44 hr rfl (ag (cu (N':=["number","less","here","there"]) (no:=2) (cap:=[5,6]) rfl rfl (aT rfl) rfl (cb rfl) (vN rfl q45 (ag (ae 0 (pv 0)) (ag (ae 4 (pv 4)) ao))) (fun _ _ _ _ _ _=>(eJ rfl (aY (aM 0 mM rfl (Or.inl rfl)) (aY (aM 1 mM rfl (Or.inl rfl)) cW)) (br (br eG)))) (fun _ _ _ _ _ _=>bY) (fun _ _ _ _ _ _=>(aR lR (aR bW (ae 2 (pv 2)) (ae 0 (pv 0))) (aR bW (ae 3 (pv 3)) (ae 1 (pv 1)))))) (ag (ae 2 (pv 2)) ao)) (aj (aj aE))))
  (aI (aZ 2 dY.nd rfl (Or.inl rfl) (ae 5 (pv 5)))))))
  (aI (bu (ae 0 (pv 0))))))
abbrev iG:Stmt:=top 33
def fX:FS:=
  (aO (dz (bA (aP 1)) (ak 2) (cq (cJ (aG lb (aG cK (af 0) (af 2)) (aU 0))) (bE (af 2)) bS))
  (bE (fC .non)))
theorem kB:aV ["row","wide","place"] ["row","wide"] (aw iG):=by walk_at "sc"
theorem qK (F:fW K "first_place" "first_place" iG f fd)(hb:Binds K fd ["row","wide"] [])(hm:mg "first_place" = some (.ref f))(q9:mg "range" = none):
  Def P w K mg base (k+1) "first_place" 2 (dH 3 2 (fX)):=
 cg F kB hb hm fun cdv A outer s H E hr=>(av (fH PassesOwn.never rfl (eA rfl q9 (ag (ae 1 (pv 1)) ao)) (aM 2 kB.nd rfl (Or.inl rfl)) (aI (fy (bP (oH hr.units) (dk dq (ae 0 (pv 0)) (ae 2 (pv 2)) (fun _ _=>rfl)) ay (bz _)) (aI (bu (ae 2 (pv 2)))) cw)))
  (aI (bu g9)))
theorem jL:(["place","row"]:List Str).Nodup:=by decide +kernel
abbrev jz:Stmt:=top 34
def gF:FS:=
  (bE (bB 2 [] (bo (af 0)) (bO (aH (ak 0) (aH (ak 1) bN))) (cJ (aG fO (af 0) (fC .non))) (ck (aa (af 0) (aP 1)))))
theorem sr:aV ["steps"] ["steps"] (aw jz):=by walk_at "sc"
theorem sk (F:fW K "kept_steps" "kept_steps" jz f fd)(hb:Binds K fd ["steps"] [])(hm:mg "kept_steps" = some (.ref f)):
  Def P w K mg base (k+1) "kept_steps" 1 (dH 1 1 (gF)):=
 cg F sr hb hm fun cdv A outer s H E hr=>(aI (bu (cu (N':=["place","row"]) (no:=2) (cap:=[]) rfl rfl (aT rfl) rfl (cb rfl) (di (ae 0 (pv 0))) (fun _ _ _ _ _ _=>(eJ rfl (aY (aM 0 jL rfl (Or.inl rfl)) (aY (aM 1 jL rfl (Or.inl rfl)) cW)) (br (br eG)))) (fun _ _ _ _ _ _=>(pI (bP mP (ae 0 (pv 0)) g9 (bz _)))) (fun _ _ _ _ _ _=>(dM (ag (ae 0 (pv 0)) (ag (ae 1 (pv 1)) ao)))))))
abbrev kv:Stmt:=top 35
def ic:FS:=
  (aO (cq (gu (eL (af 0))) (bE (aU 1)) bS)
  (aO (uC (aG cK (af 0) (wb qt (aU 1))) (bO (aH (ak 1) (aH (ak 2) bN))))
  (bE (aG cK (af 2) (af 1)))))
theorem jC:aV ["kept","place","row"] ["kept"] (aw kv):=by walk_at "sc"
theorem vt (F:fW K "last_step" "last_step" kv f fd)(hb:Binds K fd ["kept"] [])(hm:mg "last_step" = some (.ref f)):
  Def P w K mg base (k+1) "last_step" 1 (dH 3 1 (ic)):=
 cg F jC hb hm fun cdv A outer s H E hr=>(av (fy (jD (hU (ae 0 (pv 0)))) (aI (bu ay)) cw)
  (av (zY (dk dq (ae 0 (pv 0)) (FC Ai ay) (fun _ _=>rfl)) (eJ rfl (aY (aM 1 jC.nd rfl (Or.inl rfl)) (aY (aM 2 jC.nd rfl (Or.inl rfl)) cW)) (br (br eG))))
  (aI (bu (dk dq (ae 2 (pv 2)) (ae 1 (pv 1)) (fun _ _=>rfl))))))
theorem vh:(["place"]:List Str).Nodup:=by decide +kernel
theorem mL:(["left","right"]:List Str).Nodup:=by decide +kernel
theorem vi:(["top","low"]:List Str).Nodup:=by decide +kernel
abbrev nS:Stmt:=top 36
def sD (q46 q43 q47:List T->Option T):FS:=
  (aO (aX 3 (ai q46 (aP 0)))
  (aO (iS 4 1 [] (bA (aP 1)) (ak 0) aA (aU 0))
  (aO (dz (A4 (aP 0)) (bO (aH (ak 5) (aH (ak 6) bN))) (aO (aX 7 (aG iy (aG bI (af 3) (aG cK (af 6) (af 2))) (dQ 4 (ai DU (aa (bB 2 [] (fm (aa (af 6) (aP 4))) (bO (aH (ak 0) (aH (ak 1) bN))) aA (aG bI (af 0) (af 1))) az)))))
  (kc 4 (aG cK (ai q43 (aa (my (aP 7)) (aa (aG cK (af 6) (af 5)) az))) (aU 0)) (af 5))))
  (bE (bB 1 [3] (bo (af 4)) (ak 0) aA (ai q47 (aa (af 0) (aP 1))))))))
theorem fR:aV ["kept","wide","column","low","tops","place","row","rest"] ["kept","wide","column"] (aw nS):=by walk_at "sc"
theorem zF (F:fW K "brought" "brought" nS f fd)(hb:Binds K fd ["kept","wide","column"] [])(hm:mg "brought" = some (.ref f))(q48:Def P w K mg base k "last_step" 1 q46)(q44:Def P w K mg base k "divided" 2 q43)(q49:Def P w K mg base k "frac" 2 q47)(q9:mg "range" = none)(q50:mg "reversed" = none)(q45:mg "zip" = none)(q51:mg "sum" = none):
  Def P w K mg base (k+1) "brought" 3 (dH 8 3 (sD q46 q43 q47)):=
 cg F fR hb hm fun cdv A outer s H E hr=>(av (aZ 3 fR.nd rfl (Or.inr rfl) (aL q48 hr rfl (ag (ae 0 (pv 0)) ao) (aj aE)))
  (av (zZ fR.nd rfl rfl (N':=["place"]) (no:=1) (cap:=[]) rfl rfl (aT rfl) rfl (cb rfl) (eA rfl q9 (ag (ae 1 (pv 1)) ao)) (fun _ _ _ _ _ _=>(aM 0 vh rfl (Or.inl rfl))) (fun _ _ _ _ _ _=>bY) (fun _ _ _ _ _ _=>ay))
  (av (fH PassesOwn.never rfl (K6 rfl q50 (ag (ae 0 (pv 0)) ao)) (eJ rfl (aY (aM 5 fR.nd rfl (Or.inl rfl)) (aY (aM 6 fR.nd rfl (Or.inl rfl)) cW)) (br (br eG))) (av (aZ 7 fR.nd rfl (Or.inl rfl) (aR lR (aR bW (ae 3 (pv 3)) (dk dq (ae 6 (pv 6)) (ae 2 (pv 2)) (fun _ _=>rfl))) (mX 4 (bc (JN rfl) rfl q51 rfl (ag (cu (N':=["left","right"]) (no:=2) (cap:=[]) rfl rfl (aT rfl) rfl (cb rfl) (vN rfl q45 (ag (ae 6 (pv 6)) (ag (ae 4 (pv 4)) ao))) (fun _ _ _ _ _ _=>(eJ rfl (aY (aM 0 mL rfl (Or.inl rfl)) (aY (aM 1 mL rfl (Or.inl rfl)) cW)) (br (br eG)))) (fun _ _ _ _ _ _=>bY) (fun _ _ _ _ _ _=>(aR bW (ae 0 (pv 0)) (ae 1 (pv 1))))) ao)))))
  (aI (yb 4 (pv 4) (dk dq (aL q44 hr rfl (ag (vI (ag (ae 7 (pv 7)) ao)) (ag (dk dq (ae 6 (pv 6)) (ae 5 (pv 5)) (fun _ _=>rfl)) ao)) (aj (aj aE))) ay (fun _ _=>rfl)) (ae 5 (pv 5))))))
  (aI (bu (cu (N':=["top","low"]) (no:=1) (cap:=[3]) rfl rfl (aT rfl) rfl (cb rfl) (di (ae 4 (pv 4))) (fun _ _ _ _ _ _=>(aM 0 vi rfl (Or.inl rfl))) (fun _ _ _ _ _ _=>bY) (fun _ _ _ _ _ _=>(aL q49 hr rfl (ag (ae 0 (pv 0)) (ag (ae 1 (pv 1)) ao)) (aj (aj aE))))))))))
theorem qD:(["number"]:List Str).Nodup:=by decide +kernel
abbrev ky:Stmt:=top 37
def oq (q7 q43:List T->Option T):ud:=
  (dB (aX 1 (aU 0))
  (dB (dz (bo (af 0)) (ak 2) (aX 1 (ai q7 (aa (af 1) (aP 2)))))
  (ik (eW 1 [] (bo (ai q43 (aa (af 0) (aP 1)))) (ak 0) aA (mC (ck (aa (af 0) (aa (aU 1) az))))))))
theorem gM:aV ["numbers","shared","number"] ["numbers"] (aw ky):=by walk_at "sc"
theorem rY (F:fW K "shortened" "shortened" ky f fd)(hb:Binds K fd ["numbers"] [])(hm:mg "shortened" = some (.ref f))(q8:Def P w K mg base k "common" 2 q7)(q44:Def P w K mg base k "divided" 2 q43):
  eT P w K mg base (k+1) "shortened" 1 (ji 3 1 (oq q7 q43)):=
 jk F gM hb hm fun cdv A outer s H E hr=>(eN (aZ 1 gM.nd rfl (Or.inl rfl) ay)
  (eN (fH PassesOwn.never rfl (di (ae 0 (pv 0))) (aM 2 gM.nd rfl (Or.inl rfl)) (aI (aZ 1 gM.nd rfl (Or.inl rfl) (aL q8 hr rfl (ag (ae 1 (pv 1)) (ag (ae 2 (pv 2)) ao)) (aj (aj aE))))))
  (m8 (ja (N':=["number"]) (no:=1) (cap:=[]) rfl rfl (aT rfl) rfl (cb rfl) (di (aL q44 hr rfl (ag (ae 0 (pv 0)) (ag (ae 1 (pv 1)) ao)) (aj (aj aE)))) (fun _ _ _ _ _ _=>(aM 0 qD rfl (Or.inl rfl))) (fun _ _ _ _ _ _=>bY) (fun _ _ _ _ _ _=>(SE.seo (dM (ag (ae 0 (pv 0)) (ag ay ao)))))))))
abbrev kn:Stmt:=top 39
def wq:FS:=
  (aO (cq (cJ (aG ym (af 1) (ai bG (aP 0)))) (bE (aG cK (af 0) (af 1))) bS)
  (aO (aX 2 (aG cV (aG bI (aU 7919) (af 1)) (aU 5)))
  (aO (cq (cJ (aG Gh (ai bG (aP 0)) (aU 0))) (aX 2 (aG bU (aG cV (aG cK (af 0) (aG bU (aG bI (aU 7) (af 1)) (ai bG (aP 0)))) (aG bI (aU 7919) (af 1))) (aU 2147483647))) bS)
  (bE (aG bU (aG bI (af 2) (af 2)) (aU 2147483629))))))
theorem jB:aV ["_law_script","_law_k","_law_number"] ["_law_script","_law_k"] (aw kn):=by walk_at "sc"
theorem vn (F:fW K "_law_cell" "_law_cell" kn f fd)(hb:Binds K fd ["_law_script","_law_k"] [])(hm:mg "_law_cell" = some (.ref f))(q14:mg "len" = none):
  Def P w K mg base (k+1) "_law_cell" 2 (dH 3 2 (wq)):=
 cg F jB hb hm fun cdv A outer s H E hr=>(av (fy (bP qM (ae 1 (pv 1)) (bc cZ rfl q14 PySem.boot_len (ag (ae 0 (pv 0)) ao)) (bz _)) (aI (bu (dk dq (ae 0 (pv 0)) (ae 1 (pv 1)) (fun _ _=>rfl)))) cw)
  (av (aZ 2 jB.nd rfl (Or.inl rfl) (aR eY (aR bW ay (ae 1 (pv 1))) ay))
  (av (fy (bP Bv (bc cZ rfl q14 PySem.boot_len (ag (ae 0 (pv 0)) ao)) ay (bz _)) (aI (aZ 2 jB.nd rfl (Or.inl rfl) (aR cH (aR eY (dk dq (ae 0 (pv 0)) (aR cH (aR bW ay (ae 1 (pv 1))) (bc cZ rfl q14 PySem.boot_len (ag (ae 0 (pv 0)) ao))) (fun _ _=>rfl)) (aR bW ay (ae 1 (pv 1)))) ay))) cw)
  (aI (bu (aR cH (aR bW (ae 2 (pv 2)) (ae 2 (pv 2))) ay))))))
abbrev lV:Stmt:=top 40
def yz:FS:=
  (aO (aX 2 (aG bU (aG cV (aG cV (af 0) (aG bI (aU 7919) (af 1))) (aU 11)) (aU 2147483647)))
  (aO (aX 2 (aG bU (aG cV (aG bI (af 2) (af 2)) (aG bI (aU 48271) (af 1))) (aU 2147483629)))
  (bE (aG bU (aG cV (aG cV (aG bI (af 2) (af 2)) (aG bI (aU 7) (af 2))) (af 1)) (aU 2147483587)))))
theorem kA:aV ["_law_cell_here","_law_k","_law_number"] ["_law_cell_here","_law_k"] (aw lV):=by walk_at "sc"
theorem xG (F:fW K "_law_mix" "_law_mix" lV f fd)(hb:Binds K fd ["_law_cell_here","_law_k"] [])(hm:mg "_law_mix" = some (.ref f)):
  Def P w K mg base (k+1) "_law_mix" 2 (dH 3 2 (yz)):=
 cg F kA hb hm fun cdv A outer s H E hr=>(av (aZ 2 kA.nd rfl (Or.inl rfl) (aR cH (aR eY (aR eY (ae 0 (pv 0)) (aR bW ay (ae 1 (pv 1)))) ay) ay))
  (av (aZ 2 kA.nd rfl (Or.inl rfl) (aR cH (aR eY (aR bW (ae 2 (pv 2)) (ae 2 (pv 2))) (aR bW ay (ae 1 (pv 1)))) ay))
  (aI (bu (aR cH (aR eY (aR eY (aR bW (ae 2 (pv 2)) (ae 2 (pv 2))) (aR bW ay (ae 2 (pv 2)))) (ae 1 (pv 1))) ay)))))
abbrev iA:Stmt:=top 42
def iw:FS:=
  (aO (d9 3 az)
  (aO (dz (bA (aP 2)) (ak 4) (aO (jO 3 (aG bU (af 0) (af 1)))
  (aX 0 (aG dC (af 0) (af 1)))))
  (bE (af 3))))
theorem fB:aV ["_law_number","_law_by","_law_many","_law_found","_law_k"] ["_law_number","_law_by","_law_many"] (aw iA):=by walk_at "sc"
theorem qH (F:fW K "_law_digits" "_law_digits" iA f fd)(hb:Binds K fd ["_law_number","_law_by","_law_many"] [])(hm:mg "_law_digits" = some (.ref f))(q9:mg "range" = none):
  Def P w K mg base (k+1) "_law_digits" 3 (dH 5 3 (iw)):=
 cg F fB hb hm fun cdv A outer s H E hr=>(av (jc 3 fB.nd rfl (Or.inl rfl) ao)
  (av (fH PassesOwn.never rfl (eA rfl q9 (ag (ae 2 (pv 2)) ao)) (aM 4 fB.nd rfl (Or.inl rfl)) (av (jb 3 (pv 3) (aR cH (ae 0 (pv 0)) (ae 1 (pv 1))))
  (aI (aZ 0 fB.nd rfl (Or.inl rfl) (aR eH (ae 0 (pv 0)) (ae 1 (pv 1)))))))
  (aI (bu (ae 3 (pv 3))))))
abbrev ko:Stmt:=top 43
def jT (n:Nat):FS:=
  (aO (aX 2 (ai wC (aP 0)))
  (aO (aX 3 (ai wC (aP 1)))
  (aO (fj (cJ (aG Gh (af 3) (aU 0))) (uD 2 3 (aa (af 3) (aa (aG bU (af 2) (af 3)) az))) n)
  (aO (cq (cJ (aG ym (af 1) (aU 0))) (aX 2 (aG iy (aU 0) (af 2))) bS)
  (bE (ck (aa (aG dC (af 0) (af 2)) (aa (aG dC (af 1) (af 2)) az))))))))
theorem fF:aV ["_law_top","_law_bottom","_law_one","_law_other"] ["_law_top","_law_bottom"] (aw ko):=by walk_at "sc"
theorem vo (n:Nat)(F:fW K "_law_frac" "_law_frac" ko f fd)(hb:Binds K fd ["_law_top","_law_bottom"] [])(hm:mg "_law_frac" = some (.ref f))(q2:mg "abs" = none):
  Def P w K mg base (k+1) "_law_frac" 2 (dH 4 2 (jT n)):=
 cg F fF hb hm fun cdv A outer s H E hr=>(av (aZ 2 fF.nd rfl (Or.inl rfl) (bc ux rfl q2 rfl (ag (ae 0 (pv 0)) ao)))
  (av (aZ 3 fF.nd rfl (Or.inl rfl) (bc ux rfl q2 rfl (ag (ae 1 (pv 1)) ao)))
  (av (rk n PassesOwn.never (bP Bv (ae 3 (pv 3)) ay (bz _)) (aI (vU rfl fF.nd rfl rfl (by decide) rfl rfl (ag (ae 3 (pv 3)) (ag (aR cH (ae 2 (pv 2)) (ae 3 (pv 3))) ao)) rfl)))
  (av (fy (bP qM (ae 1 (pv 1)) ay (bz _)) (aI (aZ 2 fF.nd rfl (Or.inl rfl) (aR lR ay (ae 2 (pv 2))))) cw)
  (aI (bu (dM (ag (aR eH (ae 0 (pv 0)) (ae 2 (pv 2))) (ag (aR eH (ae 1 (pv 1)) (ae 2 (pv 2))) ao)))))))))
theorem qA:(["_law_one"]:List Str).Nodup:=by decide +kernel
abbrev kq:Stmt:=top 44
def jV (q52 q53 q54:List T->Option T):FS:=
  (aO (cq (cJ (aG gJ (aG bU (af 0) (aU 2)) (aU 1))) (bE (bB 1 [] (bo (ai q52 (aa (aG dC (af 0) (aU 2)) (aa (aU 228) (aP 1))))) (ak 0) aA (ai q53 (aa (aG iy (aG bU (af 0) (aU 19)) (aU 9)) (aa (aG cV (aU 1) (aG dC (af 0) (aU 19))) az))))) bS)
  (aO (d9 2 az)
  (aO (dz (bA (aP 1)) (ak 3) (aO (aX 4 (ai q54 (aa (af 0) (aP 3))))
  (aO (d9 5 (aa (ck (aa (aU 0) (aa (aU 1) az))) (aa (ck (aa (aG iy (aG bU (aG dC (af 4) (aU 4)) (aU 5)) (aU 2)) (aa (aU 1) az))) (aa (ai q53 (aa (aG iy (aG bU (aG dC (af 4) (aU 4)) (aU 19)) (aU 9)) (aa (aG cV (aU 1) (aG bU (aG dC (af 4) (aU 80)) (aU 12))) az))) az))))
  (jO 2 (aG cK (aG cV (af 5) (my (aa (ck (aa (aU 0) (aa (aU 1) az))) (aa (ck (aa (aU 1) (aa (aU 1) az))) az)))) (aG bU (af 4) (aU 5)))))))
  (bE (af 2)))))
theorem fG:aV ["_law_cell_here","_law_many","_law_found","_law_k","_law_number","_law_some_here"] ["_law_cell_here","_law_many"] (aw kq):=by walk_at "sc"
theorem vp (F:fW K "_law_some" "_law_some" kq f fd)(hb:Binds K fd ["_law_cell_here","_law_many"] [])(hm:mg "_law_some" = some (.ref f))(q55:Def P w K mg base k "_law_digits" 3 q52)(q56:Def P w K mg base k "_law_frac" 2 q53)(q57:Def P w K mg base k "_law_mix" 2 q54)(q9:mg "range" = none):
  Def P w K mg base (k+1) "_law_some" 2 (dH 6 2 (jV q52 q53 q54)):=
 cg F fG hb hm fun cdv A outer s H E hr=>(av (fy (bP (jM hr.units) (aR cH (ae 0 (pv 0)) ay) ay (bz _)) (aI (bu (cu (N':=["_law_one"]) (no:=1) (cap:=[]) rfl rfl (aT rfl) rfl (cb rfl) (di (aL q55 hr rfl (ag (aR eH (ae 0 (pv 0)) ay) (ag ay (ag (ae 1 (pv 1)) ao))) (aj (aj (aj aE))))) (fun _ _ _ _ _ _=>(aM 0 qA rfl (Or.inl rfl))) (fun _ _ _ _ _ _=>bY) (fun _ _ _ _ _ _=>(aL q56 hr rfl (ag (aR lR (aR cH (ae 0 (pv 0)) ay) ay) (ag (aR eY ay (aR eH (ae 0 (pv 0)) ay)) ao)) (aj (aj aE))))))) cw)
  (av (jc 2 fG.nd rfl (Or.inl rfl) ao)
  (av (fH PassesOwn.never rfl (eA rfl q9 (ag (ae 1 (pv 1)) ao)) (aM 3 fG.nd rfl (Or.inl rfl)) (av (aZ 4 fG.nd rfl (Or.inl rfl) (aL q57 hr rfl (ag (ae 0 (pv 0)) (ag (ae 3 (pv 3)) ao)) (aj (aj aE))))
  (av (jc 5 fG.nd rfl (Or.inl rfl) (ag (dM (ag ay (ag ay ao))) (ag (dM (ag (aR lR (aR cH (aR eH (ae 4 (pv 4)) ay) ay) ay) (ag ay ao))) (ag (aL q56 hr rfl (ag (aR lR (aR cH (aR eH (ae 4 (pv 4)) ay) ay) ay) (ag (aR eY ay (aR cH (aR eH (ae 4 (pv 4)) ay) ay)) ao)) (aj (aj aE))) ao))))
  (aI (jb 2 (pv 2) (dk dq (aR eY (ae 5 (pv 5)) (vI (ag (dM (ag ay (ag ay ao))) (ag (dM (ag ay (ag ay ao))) ao)))) (aR cH (ae 4 (pv 4)) ay) (fun _ _=>rfl)))))))
  (aI (bu (ae 2 (pv 2)))))))
abbrev lU:Stmt:=top 45
def lD (q53:List T->Option T):FS:=
  (bE (ai q53 (aa (aG cV (aG bI (aG cK (af 0) (aU 0)) (aG cK (af 1) (aU 1))) (aG bI (aG cK (af 1) (aU 0)) (aG cK (af 0) (aU 1)))) (aa (aG bI (aG cK (af 0) (aU 1)) (aG cK (af 1) (aU 1))) az))))
theorem xT:aV ["_law_one","_law_other"] ["_law_one","_law_other"] (aw lU):=by walk_at "sc"
theorem xF (F:fW K "_law_add" "_law_add" lU f fd)(hb:Binds K fd ["_law_one","_law_other"] [])(hm:mg "_law_add" = some (.ref f))(q56:Def P w K mg base k "_law_frac" 2 q53):
  Def P w K mg base (k+1) "_law_add" 2 (dH 2 2 (lD q53)):=
 cg F xT hb hm fun cdv A outer s H E hr=>(aI (bu (aL q56 hr rfl (ag (aR eY (aR bW (dk dq (ae 0 (pv 0)) ay (fun _ _=>rfl)) (dk dq (ae 1 (pv 1)) ay (fun _ _=>rfl))) (aR bW (dk dq (ae 1 (pv 1)) ay (fun _ _=>rfl)) (dk dq (ae 0 (pv 0)) ay (fun _ _=>rfl)))) (ag (aR bW (dk dq (ae 0 (pv 0)) ay (fun _ _=>rfl)) (dk dq (ae 1 (pv 1)) ay (fun _ _=>rfl))) ao)) (aj (aj aE)))))
abbrev jx:Stmt:=top 46
def jg (q53:List T->Option T):FS:=
  (bE (ai q53 (aa (aG bI (aG cK (af 0) (aU 0)) (aG cK (af 1) (aU 0))) (aa (aG bI (aG cK (af 0) (aU 1)) (aG cK (af 1) (aU 1))) az))))
theorem sq:aV ["_law_one","_law_other"] ["_law_one","_law_other"] (aw jx):=by walk_at "sc"
theorem rZ (F:fW K "_law_times" "_law_times" jx f fd)(hb:Binds K fd ["_law_one","_law_other"] [])(hm:mg "_law_times" = some (.ref f))(q56:Def P w K mg base k "_law_frac" 2 q53):
  Def P w K mg base (k+1) "_law_times" 2 (dH 2 2 (jg q53)):=
 cg F sq hb hm fun cdv A outer s H E hr=>(aI (bu (aL q56 hr rfl (ag (aR bW (dk dq (ae 0 (pv 0)) ay (fun _ _=>rfl)) (dk dq (ae 1 (pv 1)) ay (fun _ _=>rfl))) (ag (aR bW (dk dq (ae 0 (pv 0)) ay (fun _ _=>rfl)) (dk dq (ae 1 (pv 1)) ay (fun _ _=>rfl))) ao)) (aj (aj aE)))))
abbrev gX:Stmt:=top 47
def jW (q58 q59:List T->Option T):FS:=
  (aO (aX 2 (ck (aa (aU 0) (aa (aU 1) az))))
  (aO (dz (fm (aa (af 0) (aP 1))) (bO (aH (ak 3) (aH (ak 4) bN))) (aX 2 (ai q59 (aa (af 2) (aa (ai q58 (aa (af 3) (aP 4))) az)))))
  (bE (af 2))))
theorem dE:aV ["_law_one","_law_other","_law_total","_law_here","_law_there"] ["_law_one","_law_other"] (aw gX):=by walk_at "sc"
theorem oS (F:fW K "_law_weighed" "_law_weighed" gX f fd)(hb:Binds K fd ["_law_one","_law_other"] [])(hm:mg "_law_weighed" = some (.ref f))(q60:Def P w K mg base k "_law_times" 2 q58)(q61:Def P w K mg base k "_law_add" 2 q59)(q45:mg "zip" = none):
  Def P w K mg base (k+1) "_law_weighed" 2 (dH 5 2 (jW q58 q59)):=
 cg F dE hb hm fun cdv A outer s H E hr=>(av (aZ 2 dE.nd rfl (Or.inl rfl) (dM (ag ay (ag ay ao))))
  (av (fH PassesOwn.never rfl (vN rfl q45 (ag (ae 0 (pv 0)) (ag (ae 1 (pv 1)) ao))) (eJ rfl (aY (aM 3 dE.nd rfl (Or.inl rfl)) (aY (aM 4 dE.nd rfl (Or.inl rfl)) cW)) (br (br eG))) (aI (aZ 2 dE.nd rfl (Or.inl rfl) (aL q61 hr rfl (ag (ae 2 (pv 2)) (ag (aL q60 hr rfl (ag (ae 3 (pv 3)) (ag (ae 4 (pv 4)) ao)) (aj (aj aE))) ao)) (aj (aj aE))))))
  (aI (bu (ae 2 (pv 2))))))
theorem oO:(["_law_k","_law_numbers","_law_wide"]:List Str).Nodup:=by decide +kernel
abbrev jw:Stmt:=top 48
def gE (q62:List T->Option T):ud:=
  (dB (aX 3 (ai q62 (aa (af 0) (aa (aG bI (af 1) (af 2)) az))))
  (ik (eW 1 [3,2] (bA (aP 1)) (ak 0) aA (D7 (af 1) (fL (aG bI (af 0) (af 2))) (fL (aG cV (aG bI (af 0) (af 2)) (af 2)))))))
theorem lu:aV ["_law_cell_here","_law_many","_law_wide","_law_numbers"] ["_law_cell_here","_law_many","_law_wide"] (aw jw):=by walk_at "sc"
theorem qG (F:fW K "_law_table" "_law_table" jw f fd)(hb:Binds K fd ["_law_cell_here","_law_many","_law_wide"] [])(hm:mg "_law_table" = some (.ref f))(q63:Def P w K mg base k "_law_some" 2 q62)(q9:mg "range" = none):
  eT P w K mg base (k+1) "_law_table" 3 (ji 4 3 (gE q62)):=
 jk F lu hb hm fun cdv A outer s H E hr=>(eN (aZ 3 lu.nd rfl (Or.inr rfl) (aL q63 hr rfl (ag (ae 0 (pv 0)) (ag (aR bW (ae 1 (pv 1)) (ae 2 (pv 2))) ao)) (aj (aj aE))))
  (m8 (ja (N':=["_law_k","_law_numbers","_law_wide"]) (no:=1) (cap:=[3,2]) rfl rfl (aT rfl) rfl (cb rfl) (eA rfl q9 (ag (ae 1 (pv 1)) ao)) (fun _ _ _ _ _ _=>(aM 0 oO rfl (Or.inl rfl))) (fun _ _ _ _ _ _=>bY) (fun _ _ _ _ _ _=>(CY (ae 1 (pv 1)) (pH (aR bW (ae 0 (pv 0)) (ae 2 (pv 2)))) (pH (aR eY (aR bW (ae 0 (pv 0)) (ae 2 (pv 2))) (ae 2 (pv 2)))))))))
theorem jK:(["_law_here","_law_there","_law_by"]:List Str).Nodup:=by decide +kernel
abbrev jv:Stmt:=top 49
def gD (q54 q58 q59:List T->Option T):FS:=
  (aO (dz (nD (aa (aU 2) (aa (dQ 0 (ai bG (aP 0))) az))) (ak 2) (aO (aX 3 (ai q54 (aa (af 1) (aa (aG cV (aU 40) (af 2)) az))))
  (cq (cJ (aG gJ (aG bU (af 3) (aU 3)) (aU 0))) (aO (aX 4 (ix 0 (aG bU (aG dC (af 3) (aU 3)) (af 2))))
  (aO (aX 5 (ix 0 (aG bU (aG dC (af 3) (aU 30)) (af 2))))
  (aO (aX 6 (ck (aa (aG iy (aG bU (aG dC (af 3) (aU 300)) (aU 7)) (aU 3)) (aa (aU 1) az))))
  (kc 0 (bB 2 [6] (fm (aa (af 4) (aP 5))) (bO (aH (ak 0) (aH (ak 1) bN))) aA (ai q59 (aa (af 0) (aa (ai q58 (aa (af 2) (aP 1))) az)))) (af 2))))) bS)))
  (bE (af 0)))
theorem dJ:aV ["_law_table_here","_law_cell_here","_law_k","_law_number","_law_one","_law_other","_law_by"] ["_law_table_here","_law_cell_here"] (aw jv):=by walk_at "sc"
theorem qF (F:fW K "_law_bound" "_law_bound" jv f fd)(hb:Binds K fd ["_law_table_here","_law_cell_here"] [])(hm:mg "_law_bound" = some (.ref f))(q57:Def P w K mg base k "_law_mix" 2 q54)(q60:Def P w K mg base k "_law_times" 2 q58)(q61:Def P w K mg base k "_law_add" 2 q59)(q9:mg "range" = none)(q14:mg "len" = none)(q45:mg "zip" = none):
  wc P w K mg base (k+1) "_law_bound" 2 (DS 7 2 (gD q54 q58 q59)):=
 GV F dJ hb hm fun cdv A outer s H E hr=>(av (fH PassesOwn.never rfl (Ii rfl q9 (ag ay (ag (mX 0 (bc cZ rfl q14 PySem.boot_len (ag (ae 0 (pv 0)) ao))) ao))) (aM 2 dJ.nd rfl (Or.inl rfl)) (av (aZ 3 dJ.nd rfl (Or.inl rfl) (aL q57 hr rfl (ag (ae 1 (pv 1)) (ag (aR eY ay (ae 2 (pv 2))) ao)) (aj (aj aE))))
  (aI (fy (bP (jM hr.units) (aR cH (ae 3 (pv 3)) ay) ay (bz _)) (av (aZ 4 dJ.nd rfl (Or.inl rfl) (xV 0 (pv 0) (aR cH (aR eH (ae 3 (pv 3)) ay) (ae 2 (pv 2))) (fun _ _=>rfl)))
  (av (aZ 5 dJ.nd rfl (Or.inl rfl) (xV 0 (pv 0) (aR cH (aR eH (ae 3 (pv 3)) ay) (ae 2 (pv 2))) (fun _ _=>rfl)))
  (av (aZ 6 dJ.nd rfl (Or.inr rfl) (dM (ag (aR lR (aR cH (aR eH (ae 3 (pv 3)) ay) ay) ay) (ag ay ao))))
  (aI (yb 0 (pv 0) (cu (N':=["_law_here","_law_there","_law_by"]) (no:=2) (cap:=[6]) rfl rfl (aT rfl) rfl (cb rfl) (vN rfl q45 (ag (ae 4 (pv 4)) (ag (ae 5 (pv 5)) ao))) (fun _ _ _ _ _ _=>(eJ rfl (aY (aM 0 jK rfl (Or.inl rfl)) (aY (aM 1 jK rfl (Or.inl rfl)) cW)) (br (br eG)))) (fun _ _ _ _ _ _=>bY) (fun _ _ _ _ _ _=>(aL q61 hr rfl (ag (ae 0 (pv 0)) (ag (aL q60 hr rfl (ag (ae 2 (pv 2)) (ag (ae 1 (pv 1)) ao)) (aj (aj aE))) ao)) (aj (aj aE))))) (ae 2 (pv 2))))))) cw))))
  (aI (bu (ae 0 (pv 0)))))
abbrev iB:Stmt:=top 50
def kY (q53:List T->Option T):FS:=
  (aO (cq (sX (gu (eL (ai bQ (aa (af 0) (aa (fC (.ty "list")) az))))) (cJ (aG lb (ai bG (aP 0)) (af 1)))) (bE (fC (.bl false))) bS)
  (aO (dz (bo (af 0)) (ak 2) (cq (sX (gu (eL (ai bQ (aa (af 2) (aa (fC (.ty "tuple")) az))))) (sX (cJ (aG lb (ai bG (aP 2)) (aU 2))) (cJ (aG lb (ai q53 (aa (aG cK (af 2) (aU 0)) (aa (aG cK (af 2) (aU 1)) az))) (af 2))))) (bE (fC (.bl false))) bS))
  (bE (fC (.bl true)))))
theorem kz:aV ["_law_thing","_law_many","_law_number"] ["_law_thing","_law_many"] (aw iB):=by walk_at "sc"
theorem qI (F:fW K "_law_is_row" "_law_is_row" iB f fd)(hb:Binds K fd ["_law_thing","_law_many"] [])(hm:mg "_law_is_row" = some (.ref f))(q56:Def P w K mg base k "_law_frac" 2 q53)(q64:mg "list" = none)(q65:mg "isinstance" = none)(q14:mg "len" = none)(q66:mg "tuple" = none):
  Def P w K mg base (k+1) "_law_is_row" 2 (dH 3 2 (kY q53)):=
 cg F kz hb hm fun cdv A outer s H E hr=>(av (fy (SW.st (rB (jD (hU (bc yJ rfl q65 rfl (ag (ae 0 (pv 0)) (ag (Fz rfl q64 rfl) ao))))) (rC (bP (oH hr.units) (bc cZ rfl q14 PySem.boot_len (ag (ae 0 (pv 0)) ao)) (ae 1 (pv 1)) (bz _))))) (aI (bu mV)) cw)
  (av (fH PassesOwn.never rfl (di (ae 0 (pv 0))) (aM 2 kz.nd rfl (Or.inl rfl)) (aI (fy (SW.st (rB (jD (hU (bc yJ rfl q65 rfl (ag (ae 2 (pv 2)) (ag (Fz rfl q66 rfl) ao))))) (rB (bP (oH hr.units) (bc cZ rfl q14 PySem.boot_len (ag (ae 2 (pv 2)) ao)) ay (bz _)) (rC (bP (oH hr.units) (aL q56 hr rfl (ag (dk dq (ae 2 (pv 2)) ay (fun _ _=>rfl)) (ag (dk dq (ae 2 (pv 2)) ay (fun _ _=>rfl)) ao)) (aj (aj aE))) (ae 2 (pv 2)) (bz _)))))) (aI (bu mV)) cw)))
  (aI (bu mV))))
theorem mI:(["_law_row","_law_other"]:List Str).Nodup:=by decide +kernel
theorem mJ:(["_law_k","_law_row","_law_other"]:List Str).Nodup:=by decide +kernel
theorem mK:(["_law_line","_law_k"]:List Str).Nodup:=by decide +kernel
abbrev gW:Stmt:=top 51
def jU (q67:List T->Option T):FS:=
  (bE (bB 1 [1] (bo (af 0)) (ak 0) aA (bB 1 [0,1] (bA (aa (ai bG (aP 1)) az)) (ak 0) aA (ai q67 (aa (af 1) (aa (bB 1 [0] (bo (af 2)) (ak 0) aA (aG cK (af 0) (af 1))) az))))))
theorem oW:aV ["_law_one","_law_other"] ["_law_one","_law_other"] (aw gW):=by walk_at "sc"
theorem oR (F:fW K "_law_product" "_law_product" gW f fd)(hb:Binds K fd ["_law_one","_law_other"] [])(hm:mg "_law_product" = some (.ref f))(q68:Def P w K mg base k "_law_weighed" 2 q67)(q9:mg "range" = none)(q14:mg "len" = none):
  Def P w K mg base (k+1) "_law_product" 2 (dH 2 2 (jU q67)):=
 cg F oW hb hm fun cdv A outer s H E hr=>(aI (bu (cu (N':=["_law_row","_law_other"]) (no:=1) (cap:=[1]) rfl rfl (aT rfl) rfl (cb rfl) (di (ae 0 (pv 0))) (fun _ _ _ _ _ _=>(aM 0 mI rfl (Or.inr rfl))) (fun _ _ _ _ _ _=>bY) (fun _ _ _ _ _ _=>(cu (N':=["_law_k","_law_row","_law_other"]) (no:=1) (cap:=[0,1]) rfl rfl (aT rfl) rfl (cb rfl) (eA rfl q9 (ag (bc cZ rfl q14 PySem.boot_len (ag (ae 1 (pv 1)) ao)) ao)) (fun _ _ _ _ _ _=>(aM 0 mJ rfl (Or.inr rfl))) (fun _ _ _ _ _ _=>bY) (fun _ _ _ _ _ _=>(aL q68 hr rfl (ag (ae 1 (pv 1)) (ag (cu (N':=["_law_line","_law_k"]) (no:=1) (cap:=[0]) rfl rfl (aT rfl) rfl (cb rfl) (di (ae 2 (pv 2))) (fun _ _ _ _ _ _=>(aM 0 mK rfl (Or.inl rfl))) (fun _ _ _ _ _ _=>bY) (fun _ _ _ _ _ _=>(dk dq (ae 0 (pv 0)) (ae 1 (pv 1)) (fun _ _=>rfl)))) ao)) (aj (aj aE)))))))))
theorem qB:(["_law_row","_law_many"]:List Str).Nodup:=by decide +kernel
theorem qC:(["_law_place","_law_row"]:List Str).Nodup:=by decide +kernel
abbrev ku:Stmt:=top 52
def ib:FS:=
  (bE (bB 1 [0] (bA (aP 0)) (ak 0) aA (bB 1 [0] (bA (aP 1)) (ak 0) aA (ck (aa (ai oz (aa (aG gJ (af 0) (af 1)) az)) (aa (aU 1) az))))))
theorem vF:aV ["_law_many"] ["_law_many"] (aw ku):=by walk_at "sc"
theorem vq (F:fW K "_law_unit" "_law_unit" ku f fd)(hb:Binds K fd ["_law_many"] [])(hm:mg "_law_unit" = some (.ref f))(q9:mg "range" = none)(q69:mg "int" = none):
  Def P w K mg base (k+1) "_law_unit" 1 (dH 1 1 (ib)):=
 cg F vF hb hm fun cdv A outer s H E hr=>(aI (bu (cu (N':=["_law_row","_law_many"]) (no:=1) (cap:=[0]) rfl rfl (aT rfl) rfl (cb rfl) (eA rfl q9 (ag (ae 0 (pv 0)) ao)) (fun _ _ _ _ _ _=>(aM 0 qB rfl (Or.inr rfl))) (fun _ _ _ _ _ _=>bY) (fun _ _ _ _ _ _=>(cu (N':=["_law_place","_law_row"]) (no:=1) (cap:=[0]) rfl rfl (aT rfl) rfl (cb rfl) (eA rfl q9 (ag (ae 1 (pv 1)) ao)) (fun _ _ _ _ _ _=>(aM 0 qC rfl (Or.inl rfl))) (fun _ _ _ _ _ _=>bY) (fun _ _ _ _ _ _=>(dM (ag (nY GO rfl q69 rfl (ag (lW (jM hr.units) (ae 0 (pv 0)) (ae 1 (pv 1)) (bz _)) ao)) (ag ay ao)))))))))
theorem nL:(["_law_row","_law_numbers"]:List Str).Nodup:=by decide +kernel
abbrev iE:Stmt:=top 53
def kZ (q70 q67:List T->Option T):FS:=
  (aO (cq (sX (gu (eL (ai q70 (aa (af 0) (aP 2))))) (cJ (aG gJ (af 0) (aG yW (my (aa (ck (aa (aU 0) (aa (aU 1) az))) az)) (af 2))))) (bE (fC (.bl false))) bS)
  (bE (aG gJ (ai bG (aa (bB 1 [0] (bo (af 1)) (ak 0) (cJ (aG lb (ai q67 (aa (af 0) (aP 1))) (ck (aa (aU 0) (aa (aU 1) az))))) (af 0)) az)) (aU 0))))
theorem rf:aV ["_law_numbers","_law_table_here","_law_wide"] ["_law_numbers","_law_table_here","_law_wide"] (aw iE):=by walk_at "sc"
theorem qJ (F:fW K "_law_stills" "_law_stills" iE f fd)(hb:Binds K fd ["_law_numbers","_law_table_here","_law_wide"] [])(hm:mg "_law_stills" = some (.ref f))(q71:Def P w K mg base k "_law_is_row" 2 q70)(q68:Def P w K mg base k "_law_weighed" 2 q67)(q14:mg "len" = none):
  Def P w K mg base (k+1) "_law_stills" 3 (dH 3 3 (kZ q70 q67)):=
 cg F rf hb hm fun cdv A outer s H E hr=>(av (fy (SW.st (rB (jD (hU (aL q71 hr rfl (ag (ae 0 (pv 0)) (ag (ae 2 (pv 2)) ao)) (aj (aj aE))))) (rC (bP (jM hr.units) (ae 0 (pv 0)) (aR KH (vI (ag (dM (ag ay (ag ay ao))) ao)) (ae 2 (pv 2))) (bz _))))) (aI (bu mV)) cw)
  (aI (bu (lW (jM hr.units) (bc cZ rfl q14 PySem.boot_len (ag (cu (N':=["_law_row","_law_numbers"]) (no:=1) (cap:=[0]) rfl rfl (aT rfl) rfl (cb rfl) (di (ae 1 (pv 1))) (fun _ _ _ _ _ _=>(aM 0 nL rfl (Or.inl rfl))) (fun _ _ _ _ _ _=>(pI (bP (oH hr.units) (aL q68 hr rfl (ag (ae 0 (pv 0)) (ag (ae 1 (pv 1)) ao)) (aj (aj aE))) (dM (ag ay (ag ay ao))) (bz _)))) (fun _ _ _ _ _ _=>(ae 0 (pv 0)))) ao)) ay (bz _)))))
abbrev iF:Stmt:=top 54
def k8 (q24 q72 q73 q74:Addr)(q75:List T->Option O)(q76:List T->Option XI):ud:=
  (dB (aX 1 (fC .non))
  (dB (aX 2 (fC .non))
  (ql 1 (cy q75 (aP 0))
  (qk q76 (aP 0))
  (Hf 3 [(q24,true)] (aX 2 (af 3)) A3)
  (cJ (aG wO (af 2) (fC .non)))
  (D3 (eL (AY [(q24,true)] (af 2))) (gu (eL (ai (qb q73 q74 [(q24,false)]) (aa (af 2) (aa (ck (aa (fC (.ptr q73)) (aa (fC (.ptr q74)) az))) az))))))
  (AX [q24] "numbers" (af 2)))))
theorem dg:aV ["_law_table_here","_law_found","_law_caught","e"] ["_law_table_here"] (aw iF):=by walk_at "sc"
theorem oQ (F:fW K "_law_turned" "_law_turned" iF f fd)(hb:Binds K fd ["_law_table_here"] [])(hm:mg "_law_turned" = some (.ref f))(q77:eT P w K mg base k "inverse" 1 q75)(q78:we P w K mg base k "inverse" 1 q76)(q79:yu K q72 [(q24,true)])(q80:∀a∈[(q24,true)],wk K q24 a.1 a.2)(q81:∀a∈[(q24,false)],wk K q73 a.1 a.2)(q82:∀a∈[(q24,false)],wk K q74 a.1 a.2)(q83:∀a∈[(q24,false)],Ax K q73 q74 a.1 a.2)(q84:∀C∈[q24],Gr K C "numbers")(q85:mg "EchoError" = some (.ref q72))(q28:mg "Flat" = some (.ref q24))(q86:mg "NoFit" = some (.ref q73))(q87:mg "NoTable" = some (.ref q74))(q65:mg "isinstance" = none):
  eT P w K mg base (k+1) "_law_turned" 1 (ji 4 1 (k8 q24 q72 q73 q74 q75 q76)):=
 jk F dg hb hm fun cdv A outer s H E hr=>(eN (aZ 1 dg.nd rfl (Or.inl rfl) g9)
  (eN (aZ 2 dg.nd rfl (Or.inl rfl) g9)
  (FK (fun _ _ z=>z) rfl rfl dg.nd rfl (Or.inl rfl) (gf q77 hr rfl (ag (ae 0 (pv 0)) ao) (aj aE))
  (rD (Lg (Iu (fun _ _ z=>z) q78 hr rfl (ag (ae 0 (pv 0)) ao) (aj aE))))
  (MJ (i:=3) dg.nd rfl rfl rfl rfl q85 q79 (fun _=>(aI (aZ 2 dg.nd rfl (Or.inl rfl) (ae 3 (pv 3))))) K5)
  (bP Bx (ae 2 (pv 2)) g9 (bz _))
  (SW.st (Lf (hU (HY q80 rfl q65 rfl q28 (ae 2 (pv 2)))) (Ir (jD (hU (bc (DN q83) rfl q65 rfl (ag (ae 2 (pv 2)) (ag (dM (ag (Fy rfl q86) (ag (Fy rfl q87) ao))) ao))))))))
  (pv 1) (HX q84 (ae 2 (pv 2))))))
theorem iY:(["_law_row"]:List Str).Nodup:=by decide +kernel
abbrev dX:Stmt:=top 55
def dP (q88 q25 q70 q89 q90 q91:List T->Option T)(q92:List T->Option O):FS:=
  (aO (aX 1 (ai bG (aP 0)))
  (D6 2 3 (cy q92 (aP 0)) (cJ (aG wO (af 2) (fC .non)))
  (iZ (vA 3 4 (iQ (ai q88 (aa (af 3) (aa (af 0) (aP 1)))) (ai q88 (aa (ai q25 (aa (af 0) (aP 1))) (aa (af 0) (aP 1))))))
  (iZ qU
  (Fm (af 4))))
  (iZ (MF 2 (sX (cJ (aG fO (ai q25 (aa (af 0) (aP 1))) (fC .non))) (sX (gu (eL (ai bQ (aa (af 2) (aa (fC (.ty "list")) az))))) (cJ (aG lb (ai bG (aP 2)) (af 1))))) false)
  (iZ (CS 2 5 (gu (eL (ai q70 (aa (af 5) (aP 1))))) false)
  (iZ (vA 2 4 (iQ (aG gJ (ai q89 (aa (af 2) (aP 0))) (ai q90 (aP 1))) (aG gJ (ai q89 (aa (af 0) (aP 2))) (ai q90 (aP 1)))))
  (iZ (zN 2 5 (ck (aa (aU 7) (aa (aU 1) az))))
  (HQ 2 (bE (iQ (af 4) (aG gJ (bB 1 [] (bo (af 2)) (ak 0) aA (Hb (af 0) ij (fL (wb qt (aU 1))))) (ai q91 (aP 0))))))))))))
theorem bq:aV ["_law_table_here","_law_many","_law_found","_law_numbers","_law_right","_law_row"] ["_law_table_here"] (aw dX):=by walk_at "sc"
theorem jR (F:fW K "_law_inverse_right" "_law_inverse_right" dX f fd)(hb:Binds K fd ["_law_table_here"] [])(hm:mg "_law_inverse_right" = some (.ref f))(q93:Def P w K mg base k "_law_stills" 3 q88)(q26:Def P w K mg base k "still" 2 q25)(q71:Def P w K mg base k "_law_is_row" 2 q70)(q94:Def P w K mg base k "_law_product" 2 q89)(q95:Def P w K mg base k "_law_unit" 1 q90)(q96:Def P w K mg base k "inverse" 1 q91)(q97:eT P w K mg base k "_law_turned" 1 q92)(q14:mg "len" = none)(q64:mg "list" = none)(q65:mg "isinstance" = none):
  Def P w K mg base (k+1) "_law_inverse_right" 1 (dH 6 1 (dP q88 q25 q70 q89 q90 q91 q92)):=
 cg F bq hb hm fun cdv A outer s H E hr=>(av (aZ 1 bq.nd rfl (Or.inl rfl) (bc cZ rfl q14 PySem.boot_len (ag (ae 0 (pv 0)) ao)))
  (Ip rfl (mQ bq.nd rfl (Or.inl rfl)) (mQ bq.nd rfl (Or.inl rfl)) (gf q97 hr rfl (ag (ae 0 (pv 0)) ao) (aj aE)) (bP Bx (ae 2 (pv 2)) g9 (bz _))
  (gh (zX 4 bq.nd rfl (Or.inl rfl) (vH (aL q93 hr rfl (ag (ae 3 (pv 3)) (ag (ae 0 (pv 0)) (ag (ae 1 (pv 1)) ao))) (aj (aj (aj aE)))) (vJ (aL q93 hr rfl (ag (aL q26 hr rfl (ag (ae 0 (pv 0)) (ag (ae 1 (pv 1)) ao)) (aj (aj aE))) (ag (ae 0 (pv 0)) (ag (ae 1 (pv 1)) ao))) (aj (aj (aj aE)))))))
  (gh (xZ (pv 3))
  (BR (FH (ae 4 (pv 4))))))
  (gh (MM (SW.st (rB (bP mP (aL q26 hr rfl (ag (ae 0 (pv 0)) (ag (ae 1 (pv 1)) ao)) (aj (aj aE))) g9 (bz _)) (rB (jD (hU (bc yJ rfl q65 rfl (ag (ae 2 (pv 2)) (ag (Fz rfl q64 rfl) ao))))) (rC (bP (oH hr.units) (bc cZ rfl q14 PySem.boot_len (ag (ae 2 (pv 2)) ao)) (ae 1 (pv 1)) (bz _)))))) (aI (bu mV)))
  (gh (Ld PassesOwn.never rfl (mQ bq.nd rfl (Or.inl rfl)) (pv 2) (jD (hU (aL q71 hr rfl (ag (ae 5 (pv 5)) (ag (ae 1 (pv 1)) ao)) (aj (aj aE))))) (aI (bu mV)))
  (gh (zX 4 bq.nd rfl (Or.inl rfl) (vH (lW (jM hr.units) (aL q94 hr rfl (ag (ae 2 (pv 2)) (ag (ae 0 (pv 0)) ao)) (aj (aj aE))) (aL q95 hr rfl (ag (ae 1 (pv 1)) ao) (aj aE)) (bz _)) (vJ (lW (jM hr.units) (aL q94 hr rfl (ag (ae 0 (pv 0)) (ag (ae 2 (pv 2)) ao)) (aj (aj aE))) (aL q95 hr rfl (ag (ae 1 (pv 1)) ao) (aj aE)) (bz _)))))
  (gh (Le PassesOwn.never rfl (mQ bq.nd rfl (Or.inl rfl)) (pv 2) (pv 5) (dM (ag ay (ag ay ao))) CG)
  (Io (aI (bu (vH (ae 4 (pv 4)) (vJ (lW (jM hr.units) (cu (N':=["_law_row"]) (no:=1) (cap:=[]) rfl rfl (aT rfl) rfl (cb rfl) (di (ae 2 (pv 2))) (fun _ _ _ _ _ _=>(aM 0 iY rfl (Or.inl rfl))) (fun _ _ _ _ _ _=>bY) (fun _ _ _ _ _ _=>(xW (ae 0 (pv 0)) BP (pH (FC Ai ay))))) (aL q96 hr rfl (ag (ae 0 (pv 0)) ao) (aj aE)) (bz _)))))))))))))
abbrev eZ:Stmt:=top 56
def eU (q98 q88:List T->Option T)(q99:List T->Option O):FS:=
  (D8 2 (cy q99 (aa (af 0) (aP 1))) (cJ (aG wO (af 2) (fC .non)))
  (bE (iQ (aG Me (af 1) (ai bG (aP 0))) (aG gJ (ai bG (aa (ai q98 (aP 0)) az)) (af 1))))
  (iZ (vA 2 3 (ai q88 (aa (af 2) (aa (af 0) (aP 1)))))
  (iZ qU
  (Fm (af 3)))))
theorem eI:aV ["_law_table_here","_law_wide","_law_numbers","_law_right"] ["_law_table_here","_law_wide"] (aw eZ):=by walk_at "sc"
theorem kT (F:fW K "_law_still_right" "_law_still_right" eZ f fd)(hb:Binds K fd ["_law_table_here","_law_wide"] [])(hm:mg "_law_still_right" = some (.ref f))(q100:Def P w K mg base k "first_rows" 1 q98)(q93:Def P w K mg base k "_law_stills" 3 q88)(q101:eT P w K mg base k "still" 2 q99)(q14:mg "len" = none):
  Def P w K mg base (k+1) "_law_still_right" 2 (dH 4 2 (eU q98 q88 q99)):=
 cg F eI hb hm fun cdv A outer s H E hr=>(Iq eI.nd rfl (Or.inl rfl) (gf q101 hr rfl (ag (ae 0 (pv 0)) (ag (ae 1 (pv 1)) ao)) (aj (aj aE))) (bP Bx (ae 2 (pv 2)) g9 (bz _))
  (aI (bu (vH (lW MA (ae 1 (pv 1)) (bc cZ rfl q14 PySem.boot_len (ag (ae 0 (pv 0)) ao)) (bz _)) (vJ (lW (jM hr.units) (bc cZ rfl q14 PySem.boot_len (ag (aL q100 hr rfl (ag (ae 0 (pv 0)) ao) (aj aE)) ao)) (ae 1 (pv 1)) (bz _))))))
  (gh (zX 3 eI.nd rfl (Or.inl rfl) (aL q93 hr rfl (ag (ae 2 (pv 2)) (ag (ae 0 (pv 0)) (ag (ae 1 (pv 1)) ao))) (aj (aj (aj aE)))))
  (gh (xZ (pv 2))
  (BR (FH (ae 3 (pv 3)))))))
end
end My
set_option maxHeartbeats 4000000
namespace My
open PySem PySem.Spec PyProof.Rows L2 TM
variable {K:PySem.W.Frag}
theorem EZ {P:Program}{w:World}{K:PySem.W.Frag}{mg:Str->Option Value}{base:Heap}{k:Nat}{f C:Addr}{fd:FuncData}{up:List Addr}(F:fW K "__init__" "Flat.__init__" fQ f fd)(hb:Binds K fd ["self","numbers"] [])(er:B8 K C up (some (.ref f)))(fi:PySem.W.findIn K (.ref C) "__init__" = some (some (.ref f)))(ft:PySem.W.typeIn K (.ref f)=some (.type "function"))(S2:oK K C)(na:pQ K C "numbers")(q64:mg "list" = none):oj P w K mg base (k+2) C "numbers" :=
 Ep F mU hb er fi ft S2 na rfl fun cdv A outer s H E hr=>HK (pv 0) (tu mf rfl q64 rfl (eu (pv 1) iz) (by decide) (by decide)) rfl
theorem EU:(["_law_row"]:List Str).Nodup:=by decide +kernel
theorem EV:(["_law_row"]:List Str).Nodup:=by decide +kernel
abbrev tB:Stmt:=top 57
def wt (q102 q54 q103 q104:List T->Option T)(q105:O->List T->Option T)(q106:List T->Option O):FS:=
  (aO (dz (bA (aa (ai yL (aa (aU 3) (aa (ai wD (aa (aU 12) (aa (ai bG (aP 0)) az))) az))) az)) (ak 1) (aO (aX 2 (ai q102 (aa (af 0) (aP 1))))
  (aO (aX 3 (aG bU (ai q54 (aa (af 2) (aa (aU 1) az))) (aU 5)))
  (aO (aX 4 (aG bU (ai q54 (aa (af 2) (aa (aU 2) az))) (aU 5)))
  (aO (mB 5 (cy q106 (aa (af 2) (aa (af 3) (aP 3)))))
  (aO (mB 6 (cy q106 (aa (af 2) (aa (af 3) (aP 4)))))
  (aO (cq (cJ (aG gJ (aG bU (ai q54 (aa (af 2) (aa (aU 3) az))) (aU 2)) (aU 0))) (aO (aX 5 (jl (sZ 5) (aa (ai q54 (aa (af 2) (aa (aU 4) az))) az) q105))
  (aX 6 (jl (sZ 6) (aa (ai q54 (aa (af 2) (aa (aU 5) az))) az) q105))) bS)
  (aO (d9 7 (aa (bB 1 [] (bo (af 5)) (ak 0) aA (ai dList (aP 0))) (aa (bB 1 [] (bo (af 6)) (ak 0) aA (ai dList (aP 0))) az)))
  (aO (dz (bA (aa (aU 2) az)) (ak 8) (cq (sX (gu (eL (dQ 5 (ai q103 (aP 5))))) (gu (eL (dQ 6 (ai q104 (aa (af 6) (aP 4))))))) (bE (fC (.bl false))) bS))
  (cq (cJ (aG lb (my (aa (af 5) (aP 6))) (af 7))) (bE (fC (.bl false))) bS))))))))))
  (bE (fC (.bl true))))
theorem gZ:aV ["_law_script","_law_k","_law_cell_here","_law_many","_law_wide","_law_square","_law_table_here","_law_copies","_law_turn"] ["_law_script"] (aw tB):=by walk_at "sc"
theorem J2 (F:fW K "law" "law" tB f fd)(q107:Def P w K mg base k "_law_cell" 2 q102)(q57:Def P w K mg base k "_law_mix" 2 q54)(q108:Def P w K mg base k "_law_inverse_right" 1 q103)(q109:Def P w K mg base k "_law_still_right" 2 q104)(q110:wc P w K mg base k "_law_bound" 2 q105)(q111:eT P w K mg base k "_law_table" 3 q106)(q9:mg "range" = none)(q14:mg "len" = none)(q112:mg "min" = none)(q113:mg "max" = none)(q64:mg "list" = none):
  ir P w K mg base tZ (k+1) f fd ["_law_script"] (spT K 1 (dH 9 1 (wt q102 q54 q103 q104 q105 q106))):=
 Hi F gZ fun cdv A outer s H E hr=>(av (fH PassesOwn.never rfl (eA rfl q9 (ag (bc (JL rfl) rfl q113 rfl (ag ay (ag (bc (JM rfl) rfl q112 rfl (ag ay (ag (bc cZ rfl q14 PySem.boot_len (ag (ae 0 (pv 0)) ao)) ao))) ao))) ao)) (aM 1 gZ.nd rfl (Or.inl rfl)) (av (aZ 2 gZ.nd rfl (Or.inl rfl) (aL q107 hr rfl (ag (ae 0 (pv 0)) (ag (ae 1 (pv 1)) ao)) (aj (aj aE))))
  (av (aZ 3 gZ.nd rfl (Or.inl rfl) (aR cH (aL q57 hr rfl (ag (ae 2 (pv 2)) (ag ay ao)) (aj (aj aE))) ay))
  (av (aZ 4 gZ.nd rfl (Or.inl rfl) (aR cH (aL q57 hr rfl (ag (ae 2 (pv 2)) (ag ay ao)) (aj (aj aE))) ay))
  (av (BU 5 gZ.nd rfl (Or.inl rfl) (gf q111 hr rfl (ag (ae 2 (pv 2)) (ag (ae 3 (pv 3)) (ag (ae 3 (pv 3)) ao))) (aj (aj (aj aE)))))
  (av (BU 6 gZ.nd rfl (Or.inl rfl) (gf q111 hr rfl (ag (ae 2 (pv 2)) (ag (ae 3 (pv 3)) (ag (ae 4 (pv 4)) ao))) (aj (aj (aj aE)))))
  (av (fy (bP (jM hr.units) (aR cH (aL q57 hr rfl (ag (ae 2 (pv 2)) (ag ay ao)) (aj (aj aE))) ay) ay (bz _)) (av (aZ 5 gZ.nd rfl (Or.inl rfl) (tF q110 hr rfl (xX 5 (pv 5)) (ag (aL q57 hr rfl (ag (ae 2 (pv 2)) (ag ay ao)) (aj (aj aE))) ao) (fun τ ts τ' e=>congrArg (· + 1) ((aj aE) τ ts τ' e))))
  (aI (aZ 6 gZ.nd rfl (Or.inl rfl) (tF q110 hr rfl (xX 6 (pv 6)) (ag (aL q57 hr rfl (ag (ae 2 (pv 2)) (ag ay ao)) (aj (aj aE))) ao) (fun τ ts τ' e=>congrArg (· + 1) ((aj aE) τ ts τ' e)))))) cw)
  (av (jc 7 gZ.nd rfl (Or.inl rfl) (ag (cu (N':=["_law_row"]) (no:=1) (cap:=[]) rfl rfl (aT rfl) rfl (cb rfl) (di (ae 5 (pv 5))) (fun _ _ _ _ _ _=>(aM 0 EU rfl (Or.inl rfl))) (fun _ _ _ _ _ _=>bY) (fun _ _ _ _ _ _=>(nY AL rfl q64 rfl (ag (ae 0 (pv 0)) ao)))) (ag (cu (N':=["_law_row"]) (no:=1) (cap:=[]) rfl rfl (aT rfl) rfl (cb rfl) (di (ae 6 (pv 6))) (fun _ _ _ _ _ _=>(aM 0 EV rfl (Or.inl rfl))) (fun _ _ _ _ _ _=>bY) (fun _ _ _ _ _ _=>(nY AL rfl q64 rfl (ag (ae 0 (pv 0)) ao)))) ao)))
  (av (fH PassesOwn.never rfl (eA rfl q9 (ag ay ao)) (aM 8 gZ.nd rfl (Or.inl rfl)) (aI (fy (SW.st (rB (jD (hU (mX 5 (aL q108 hr rfl (ag (ae 5 (pv 5)) ao) (aj aE))))) (rC (jD (hU (mX 6 (aL q109 hr rfl (ag (ae 6 (pv 6)) (ag (ae 4 (pv 4)) ao)) (aj (aj aE))))))))) (aI (bu mV)) cw)))
  (aI (fy (bP (oH hr.units) (vI (ag (ae 5 (pv 5)) (ag (ae 6 (pv 6)) ao))) (ae 7 (pv 7)) (bz _)) (aI (bu mV)) cw)))))))))))
  (aI (bu mV)))
end My
namespace Qm
abbrev OF (a b:Int):Prop:=Int.gcd a b=1
end Qm
namespace Rq
def DD (k:Nat):Nat:=27720^k
theorem t9 (k:Nat):0<DD k:=Nat.pow_pos (by decide)
theorem Dr (k j:Nat):DD (k+j)=DD k*DD j:=Nat.pow_add _ _ _
def Lq (k m:Nat)(q:Rat):Prop:=∃n:Int,q=Rat.divInt n (DD k:Int)/\n.natAbs≤m*DD k
theorem Lq.zero (k:Nat):Lq k 0 0:=⟨0,by rw [Rat.zero_divInt],by simp⟩
theorem wG (k:Nat):((DD k:Nat):Int)≠0:=by have:=t9 k;omega
theorem Lq.add {k m m':Nat}{x y:Rat}(hx:Lq k m x)(hy:Lq k m' y):Lq k (m+m') (x+y):=by
 obtain⟨a,rfl,ha⟩:=hx
 obtain⟨b,rfl,hb⟩:=hy
 refine⟨a+b,?_,?_⟩
 ·rw [Rat.divInt_add_divInt _ _ (wG k) (wG k),<- Int.add_mul,Rat.divInt_mul_right (wG k)]
 ·rw [Nat.add_mul]
  have:=Int.natAbs_add_le a b
  omega
theorem Lq.mul {k k' m m':Nat}{x y:Rat}(hx:Lq k m x)(hy:Lq k' m' y):Lq (k+k') (m*m') (x*y):=by
 obtain⟨a,rfl,ha⟩:=hx
 obtain⟨b,rfl,hb⟩:=hy
 refine⟨a*b,?_,?_⟩
 ·rw [Rat.divInt_mul_divInt,Dr]
  push_cast
  rfl
 ·rw [Int.natAbs_mul,Dr]
  calc a.natAbs*b.natAbs≤(m*DD k)*(m'*DD k'):=Nat.mul_le_mul ha hb
   _=m*m'*(DD k*DD k'):=by rw [Nat.mul_mul_mul_comm]
theorem Lq.mono {k m m':Nat}{x:Rat}(hx:Lq k m x)(h:m≤m'):Lq k m' x:=by
 obtain⟨a,rfl,ha⟩:=hx
 exact⟨a,rfl,Nat.le_trans ha (Nat.mul_le_mul_right _ h)⟩
theorem Lq.bd {k m:Nat}{x:Rat}(hx:Lq k m x):x.num.natAbs≤m*DD k/\x.den∣DD k:=by
 obtain⟨a,rfl,ha⟩:=hx
 have hp:=t9 k
 rw [Rat.num_divInt,Rat.den_divInt,if_neg (wG k)]
 have hs:((DD k:Nat):Int).sign=1:=Int.sign_eq_one_of_pos (by omega)
 rw [hs,Int.one_mul]
 constructor
 ·rw [Int.natAbs_ediv_of_dvd (Int.gcd_dvd_right _ _)]
  exact Nat.le_trans (Nat.div_le_self _ _) ha
 ·rw [Int.natAbs_natCast]
  exact Nat.div_dvd_of_dvd (by have:=Int.gcd_dvd_left ((DD k:Nat):Int) a;exact Int.natCast_dvd_natCast.mp this)
theorem Lq.small {a b:Int}(ha:a.natAbs≤9)(hb:0<b)(hb':b≤12):Lq 1 9 (Rat.divInt a b):=by
 have hd:b∣((DD 1:Nat):Int):=by
  have e:((DD 1:Nat):Int)=27720:=by decide
  rw [e]
  have:b=1\/b=2\/b=3\/b=4\/b=5\/b=6\/b=7\/b=8\/b=9\/b=10\/b=11\/b=12:=by omega
  rcases this with rfl | rfl | rfl | rfl | rfl | rfl | rfl | rfl | rfl | rfl | rfl | rfl<;>decide
 obtain⟨c,hc⟩:=hd
 have hc0:c≠0:=fun z=>by rw [z,Int.mul_zero] at hc;exact wG 1 hc
 refine⟨a*c,?_,?_⟩
 ·rw [hc,Rat.divInt_mul_right hc0]
 ·rw [Int.natAbs_mul]
  have h1:c.natAbs≤DD 1:=by
   have:((DD 1:Nat):Int).natAbs=b.natAbs*c.natAbs:=by rw [hc,Int.natAbs_mul]
   rw [Int.natAbs_natCast] at this
   rw [this]
   exact Nat.le_mul_of_pos_left _ (by omega)
  exact Nat.mul_le_mul ha h1
def wsum (r s:List Rat):Rat:=(List.zipWith (· * ·) r s).foldl (· + ·) 0
theorem foldl_add (l:List Rat):∀a:Rat,l.foldl (· + ·) a=a+l.foldl (· + ·) 0:=by
 induction l with
 |nil=>intro a;rw [List.foldl_nil,List.foldl_nil,Rat.add_zero]
 |cons x l ih =>
  intro a
  rw [List.foldl_cons,List.foldl_cons,ih (a+x),ih (0+x),Rat.zero_add,Rat.add_assoc]
theorem kS (x y:Rat)(r s:List Rat):wsum (x::r) (y::s)=x*y+wsum r s:=by
 unfold wsum
 rw [List.zipWith_cons_cons,List.foldl_cons,foldl_add,Rat.zero_add]
def cS (B:List (List Rat))(j:Nat):List Rat:=B.map fun r=>r.getD j 0
theorem rJ (s:List Rat):wsum [] s=0:=by unfold wsum;rw [List.zipWith_nil_left];rfl
end Rq
namespace Dt
abbrev Row:=Nat->Int
abbrev Fn:=List Nat->Int
def E (x:Row):Fn->List Nat->Int
 |_,[]=>0
 |D,c::cs=>x c*D cs-E x (fun l=>D (c::l)) cs
def det:List Row->Fn
 |[]=>fun cs=>if cs=[] then 1 else 0
 |x::R=>fun cs=>E x (det R) cs
theorem c9 (x:Row)(R:List Row)(cs:List Nat):det (x::R) cs=E x (det R) cs:=rfl
theorem cn (x:Row)(D:Fn)(c:Nat)(cs:List Nat):E x D (c::cs)=x c*D cs-E x (fun l=>D (c::l)) cs:=rfl
theorem uc (x:Row):∀cs,E x (fun _=>0) cs=0
 |[]=>rfl
 |c::cs=>by rw [cn,uc x cs,Int.mul_zero,Int.sub_self]
theorem sC (x:Row)(a b:Int)(D D':Fn):∀cs,E x (fun l=>a*D l+b*D' l) cs=a*E x D cs+b*E x D' cs:=by
 intro cs
 induction cs generalizing D D' with
 |nil=>simp [E]
 |cons c cs ih =>
  rw [cn,cn,cn,ih (fun l=>D (c::l)) (fun l=>D' (c::l))]
  grind
theorem IF (a b:Int)(x y:Row)(D:Fn):∀cs,E (fun c=>a*x c+b*y c) D cs=a*E x D cs+b*E y D cs:=by
 intro cs
 induction cs generalizing D with
 |nil=>simp [E]
 |cons c cs ih =>
  rw [cn,cn,cn,ih (fun l=>D (c::l))]
  grind
theorem ua (x y:Row)(D:Fn):∀cs,E x (E y D) cs = - E y (E x D) cs:=by
 intro cs
 induction cs generalizing D with
 |nil=>rfl
 |cons c cs ih =>
  have h1:E x (fun l=>E y D (c::l)) cs=y c*E x D cs-E x (E y (fun l=>D (c::l))) cs:=by
   have:=sC x (y c) (-1) D (E y fun l=>D (c::l)) cs
   rw [show (fun l=>E y D (c::l))=fun l=>y c*D l+(-1)*E y (fun l=>D (c::l)) l from funext fun l=>by rw [cn];grind,this]
   grind
  have h2:E y (fun l=>E x D (c::l)) cs=x c*E y D cs-E y (E x (fun l=>D (c::l))) cs:=by
   have:=sC y (x c) (-1) D (E x fun l=>D (c::l)) cs
   rw [show (fun l=>E x D (c::l))=fun l=>x c*D l+(-1)*E x (fun l=>D (c::l)) l from funext fun l=>by rw [cn];grind,this]
   grind
  rw [cn,cn,h1,h2,ih]
  grind
theorem Av (x:Row)(D:Fn)(cs:List Nat):E x (E x D) cs=0:=by
 have:=ua x x D cs
 omega
theorem wH (x y:Row)(R:List Row)(cs:List Nat):det (x::y::R) cs = - det (y::x::R) cs:=ua x y (det R) cs
theorem uy {x:Row}:∀{R:List Row},x∈R->∀cs,det (x::R) cs=0
 |[],h,_=>by cases h
 |y::R,h,cs=>by
  rcases List.mem_cons.mp h with rfl | h
  ·exact Av x (det R) cs
  ·rw [wH,c9,show det (x::R)=fun _=>0 from funext (uy h),uc];rfl
def Alt (D:Fn):Prop:=∀pre a b cs,D (pre++a::b::cs) = - D (pre++b::a::cs)
theorem Alt.tl {D:Fn}(h:Alt D)(c:Nat):Alt (fun l=>D (c::l)):=fun pre a b cs=>h (c::pre) a b cs
theorem ID (x:Row):∀(pre:List Nat) (D:Fn),Alt D->∀a b cs,E x D (pre++a::b::cs) = - E x D (pre++b::a::cs)
 |[],D,h,a,b,cs=>by
  show E x D (a::b::cs) = - E x D (b::a::cs)
  have e:∀cs,E x (fun l=>D (a::b::l)) cs = - E x (fun l=>D (b::a::l)) cs:=fun cs=>by
   have:=sC x (-1) 0 (fun l=>D (b::a::l)) (fun _=>0) cs
   rw [show (fun l=>D (a::b::l))=fun l=>(-1)*D (b::a::l)+0*0 from funext fun l=>by rw [show D (a::b::l) = - D (b::a::l) from h [] a b l];omega,this]
   omega
  rw [cn,cn,cn,cn,e]
  grind
 |p::pre,D,h,a,b,cs=>by
  show E x D (p::(pre++a::b::cs)) = - E x D (p::(pre++b::a::cs))
  rw [cn,cn,ID x pre _ (h.tl p),h pre a b cs]
  grind
theorem mh:∀R:List Row,Alt (det R)
 |[]=>fun pre a b cs=>by simp [det]
 |x::R=>fun pre a b cs=>ID x pre (det R) (mh R) a b cs
theorem Alt.dup {D:Fn}(h:Alt D)(c:Nat)(cs:List Nat):∀pre:List Nat,D (c::pre++c::cs)=0
 |[]=>by
  have:=h [] c c cs
  show D (c::c::cs)=0
  have e:D (c::c::cs) = - D (c::c::cs):=this
  omega
 |p::pre=>by
  have e:=h [] c p (pre++c::cs)
  have e2:D (c::p::(pre++c::cs)) = - D (p::c::(pre++c::cs)):=e
  have e3:=Alt.dup (h.tl p) c cs pre
  show D (c::p::(pre++c::cs))=0
  have e4:D (p::c::(pre++c::cs))=0:=e3
  omega
theorem AO (R:List Row){c:Nat}{cs:List Nat}(h:c∈cs):det R (c::cs)=0:=by
 obtain⟨s,t,rfl⟩:=List.append_of_mem h
 exact (mh R).dup c t s
def F (f:Row->Int):(List Row->Int)->List Row->Int
 |_,[]=>0
 |G,x::R=>f x*G R-F f (fun S=>G (x::S)) R
theorem gm (f:Row->Int)(G:List Row->Int)(x:Row)(R:List Row):F f G (x::R)=f x*G R-F f (fun S=>G (x::S)) R:=rfl
theorem LM (f g:Row->Int)(a b:Int)(G:List Row->Int):∀R,F (fun x=>a*f x+b*g x) G R=a*F f G R+b*F g G R:=by
 intro R
 induction R generalizing G with
 |nil=>simp [F]
 |cons x R ih =>
  rw [gm,gm,gm,ih (fun S=>G (x::S))]
  grind
theorem yq (f:Row->Int)(G:List Row->Int):∀R,(∀x∈R,f x=0)->F f G R=0:=by
 intro R
 induction R generalizing G with
 |nil=>intro _;rfl
 |cons x R ih =>
  intro h
  rw [gm,h x List.mem_cons_self,ih _ fun y hy=>h y (List.mem_cons_of_mem _ hy)]
  omega
theorem OJ (x:Row)(f:Row->Int)(g:List Row->Fn):∀(R:List Row) (cs:List Nat),E x (fun l=>F f (fun S=>g S l) R) cs=F f (fun S=>E x (g S) cs) R:=by
 intro R
 induction R generalizing g with
 |nil=>intro cs;exact uc x cs
 |cons y R ih =>
  intro cs
  have e:=sC x (f y) (-1) (g R) (fun l=>F f (fun S=>g (y::S) l) R) cs
  rw [show (fun l=>F f (fun S=>g S l) (y::R))=fun l=>f y*g R l+(-1)*F f (fun S=>g (y::S) l) R from funext fun l=>by rw [gm];omega,e,ih (fun S=>g (y::S)),gm]
  omega
theorem kI (c:Nat)(cs:List Nat):∀R:List Row,det R (c::cs)=F (fun x=>x c) (fun S=>det S cs) R
 |[]=>by simp [det,F]
 |x::R=>by
  rw [c9,cn,gm,show (fun l=>det R (c::l))=fun l=>F (fun x=>x c) (fun S=>det S l) R from funext fun l=>kI c l R,OJ]
  rfl
def Lk (cs:List Nat)(f:Row->Int):Prop:=∃ws:List (Int×Nat),(∀w∈ws,w.2∈cs)/\∀x,f x=(ws.map fun w=>w.1*x w.2).foldr (· + ·) 0
theorem Lk.zero (cs:List Nat):Lk cs (fun _=>0):=⟨[],(fun _ h=>by cases h),fun _=>rfl⟩
theorem kG (a:Int)(x:Row):∀ws:List (Int×Nat),((ws.map fun w=>(a*w.1,w.2)).map fun w=>w.1*x w.2).foldr (· + ·) 0=a*(ws.map fun w=>w.1*x w.2).foldr (· + ·) 0
 |[]=>by simp
 |w::ws=>by
  have ih:=kG a x ws
  simp only [List.map_cons,List.foldr_cons] at ih ⊢
  rw [ih]
  grind
theorem BV (x:Row):∀(ws us:List (Int×Nat)),((ws++us).map fun w=>w.1*x w.2).foldr (· + ·) 0=(ws.map fun w=>w.1*x w.2).foldr (· + ·) 0+(us.map fun w=>w.1*x w.2).foldr (· + ·) 0
 |[],us=>by simp
 |w::ws,us=>by
  have ih:=BV x ws us
  simp only [List.cons_append,List.map_cons,List.foldr_cons] at ih ⊢
  rw [ih]
  omega
theorem Lk.lin {cs:List Nat}{f g:Row->Int}(hf:Lk cs f)(hg:Lk cs g)(a b:Int):Lk cs (fun x=>a*f x+b*g x):=by
 obtain⟨ws,h1,h2⟩:=hf
 obtain⟨us,g1,g2⟩:=hg
 refine⟨(ws.map fun w=>(a*w.1,w.2))++us.map fun w=>(b*w.1,w.2),fun w hw=>?_,fun x=>?_⟩
 ·rcases List.mem_append.mp hw with hw | hw
  ·obtain⟨z,hz,rfl⟩:=List.mem_map.mp hw;exact h1 z hz
  ·obtain⟨z,hz,rfl⟩:=List.mem_map.mp hw;exact g1 z hz
 ·rw [BV,kG,kG]
  show a*f x+b*g x=_
  rw [h2,g2]
theorem Lk.col {cs:List Nat}{c:Nat}(h:c∈cs):Lk cs (fun x=>x c):=⟨[(1,c)],(fun w hw=>by rw [List.mem_singleton.mp hw];exact h),fun x=>by simp⟩
theorem Lk.more {cs ds:List Nat}{f:Row->Int}(h:Lk cs f)(hs:∀c∈cs,c∈ds):Lk ds f:=by
 obtain⟨ws,h1,h2⟩:=h
 exact⟨ws,fun w hw=>hs _ (h1 w hw),h2⟩
theorem Lk.congr {cs:List Nat}{f g:Row->Int}(h:Lk cs f)(e:∀x,g x=f x):Lk cs g:=by rw [funext e];exact h
theorem Gs:∀(cs:List Nat) (D:Fn),Lk cs (fun x=>E x D cs)
 |[],D=>Lk.zero []
 |c::cs,D=>by
  have h1:=(Gs cs fun l=>D (c::l)).more (ds:=c::cs) fun z hz=>List.mem_cons_of_mem _ hz
  have h2:=Lk.col (cs:=c::cs) (c:=c) List.mem_cons_self
  refine (h2.lin h1 (D cs) (-1)).congr fun x=>?_
  rw [cn]
  grind
theorem Np {cs:List Nat}{f:Row->Int}(h:Lk cs f)(R:List Row):F f (fun S=>det S cs) R=0:=by
 obtain⟨ws,h1,h2⟩:=h
 have key:∀ws:List (Int×Nat),(∀w∈ws,w.2∈cs)->F (fun x=>(ws.map fun w=>w.1*x w.2).foldr (· + ·) 0) (fun S=>det S cs) R=0:=by
  intro ws
  induction ws with
  |nil=>intro _;exact yq _ _ R fun _ _=>rfl
  |cons w ws ih =>
   intro h
   have e:=LM (fun x=>x w.2) (fun x=>(ws.map fun w=>w.1*x w.2).foldr (· + ·) 0) w.1 1 (fun S=>det S cs) R
   rw [show (fun x:Row=>((w::ws).map fun w=>w.1*x w.2).foldr (· + ·) 0)=fun x=>w.1*x w.2+1*(ws.map fun w=>w.1*x w.2).foldr (· + ·) 0 from funext fun x=>by simp,e,ih fun z hz=>h z (List.mem_cons_of_mem _ hz),<- kI,AO R (h w List.mem_cons_self)]
   omega
 rw [show f=fun x=>(ws.map fun w=>w.1*x w.2).foldr (· + ·) 0 from funext h2]
 exact key ws h1
theorem DM {R:List Row}{cs:List Nat}(hd:det R cs≠0){f:Row->Int}(h:Lk cs f)(h0:∀x∈R,f x=0)(x:Row):f x=0:=by
 have e:=Np h (x::R)
 rw [gm,yq f _ R h0] at e
 have e2:f x*det R cs=0:=by omega
 rcases Int.mul_eq_zero.mp e2 with e2 | e2
 ·exact e2
 ·exact absurd e2 hd
def left (R:List Row)(ps:List Nat)(x:Row):Row:=fun j=>det (x::R) (j::ps)
theorem vf (R:List Row)(ps:List Nat)(x:Row)(j:Nat):left R ps x j=x j*det R ps-E x (fun l=>det R (j::l)) ps:=rfl
theorem mH {R:List Row}{ps:List Nat}{x:Row}(h:x∈R)(j:Nat):left R ps x j=0:=uy h _
theorem Bo {R:List Row}{ps:List Nat}{x:Row}{j:Nat}(h:j∈ps):left R ps x j=0:=AO _ h
theorem AE {R:List Row}{ps:List Nat}{k:Row}{p:Nat}(hd:left R ps k p≠0)(x:Row)(j:Nat):
  det R ps*left (k::R) (p::ps) x j=left R ps k p*left R ps x j-left R ps x p*left R ps k j:=by
 have hd':det (k::R) (p::ps)=left R ps k p:=rfl
 have h1:Lk (p::ps) (fun x=>det R ps*left (k::R) (p::ps) x j-left R ps k p*left R ps x j+left R ps x p*left R ps k j):=by
  have l1:=Gs (p::ps) (fun l=>det (k::R) (j::l))
  have l2:=(Gs ps (fun l=>det R (j::l))).more (ds:=p::ps) fun z hz=>List.mem_cons_of_mem _ hz
  have l3:=(Gs ps (fun l=>det R (p::l))).more (ds:=p::ps) fun z hz=>List.mem_cons_of_mem _ hz
  have l4:=Lk.col (cs:=p::ps) (c:=p) List.mem_cons_self
  have m1:=l1.lin l2 (- det R ps) (left R ps k p)
  have m2:=l4.lin l3 (det R ps*left R ps k j) (- left R ps k j)
  refine (m1.lin m2 1 1).congr fun x=>?_
  rw [vf (k::R),vf R ps x j,vf R ps x p,hd']
  grind
 have h2:∀y∈k::R,det R ps*left (k::R) (p::ps) y j-left R ps k p*left R ps y j+left R ps y p*left R ps k j=0:=fun y hy=>by
  rw [mH hy]
  rcases List.mem_cons.mp hy with rfl | hy
  ·grind
  ·rw [mH hy,mH hy];omega
 have h3:=DM (R:=k::R) (cs:=p::ps) (by rw [hd'];exact hd) h1 h2 x
 have h4:det R ps*left (k::R) (p::ps) x j-left R ps k p*left R ps x j+left R ps x p*left R ps k j=0:=h3
 omega
theorem Gq {x y:Row}{D D':Fn}:∀{cs:List Nat},(∀j∈cs,x j=y j)->(∀l,(∀j∈l,j∈cs)->D l=D' l)->E x D cs=E y D' cs:=by
 intro cs
 induction cs generalizing D D' with
 |nil=>intro _ _;rfl
 |cons c cs ih =>
  intro h1 h2
  rw [cn,cn,h1 c List.mem_cons_self,h2 cs fun j hj=>List.mem_cons_of_mem _ hj]
  rw [ih (D:=fun l=>D (c::l)) (D':=fun l=>D' (c::l)) (fun j hj=>h1 j (List.mem_cons_of_mem _ hj)) fun l hl=>h2 (c::l) fun j hj=>by
   rcases List.mem_cons.mp hj with rfl | hj
   ·exact List.mem_cons_self
   ·exact List.mem_cons_of_mem _ (hl j hj)]
theorem nB {α:Type}{g h:α->Row}:∀(S:List α) (cs:List Nat),(∀x∈S,∀j∈cs,g x j=h x j)->det (S.map g) cs=det (S.map h) cs
 |[],_,_=>rfl
 |x::S,cs,e=>by
  rw [List.map_cons,List.map_cons,c9,c9]
  exact Gq (e x List.mem_cons_self) fun l hl=>nB S l fun y hy j hj=>e y (List.mem_cons_of_mem _ hy) j (hl j hj)
theorem ub (a:Int)(x:Row)(D:Fn)(cs:List Nat):E (fun c=>a*x c) D cs=a*E x D cs:=by
 have:=IF a 0 x x D cs
 rw [show (fun c=>a*x c)=fun c=>a*x c+0*x c from funext fun c=>by omega,this]
 omega
theorem wg (a:Int)(x:Row)(D:Fn)(cs:List Nat):E x (fun l=>a*D l) cs=a*E x D cs:=by
 have:=sC x a 0 D D cs
 rw [show (fun l=>a*D l)=fun l=>a*D l+0*D l from funext fun l=>by omega,this]
 omega
theorem sU (a:Int):∀(S:List Row) (cs:List Nat),det (S.map fun x=>fun c=>a*x c) cs=a^S.length*det S cs
 |[],cs=>by simp
 |x::S,cs=>by
  rw [List.map_cons,c9,ub,show det (S.map fun x=>fun c=>a*x c)=fun l=>a^S.length*det S l from funext (sU a S),wg,c9,List.length_cons,Int.pow_succ]
  grind
inductive Sp:List Row->Row->Prop
 |nil {x:Row} (h:∀c,x c=0):Sp [] x
 |cons {w:Row} {W:List Row} {x y:Row} (a:Int) (h:∀c,x c=a*w c+y c) (hy:Sp W y):Sp (w::W) x
theorem Sp.lin:∀{W:List Row} {x y:Row} (a b:Int),Sp W x->Sp W y->Sp W (fun c=>a*x c+b*y c)
 |[],x,y,a,b,.nil h,.nil h'=>.nil fun c=>by rw [h,h'];omega
 |w::W,x,y,a,b,.cons s h h1,.cons t h' h2=>.cons (a*s+b*t) (fun c=>by rw [h,h'];grind) (Sp.lin a b h1 h2)
theorem Sp.zero:∀(W:List Row),Sp W (fun _=>0)
 |[]=>.nil fun _=>rfl
 |w::W=>.cons 0 (fun c=>by omega) (Sp.zero W)
theorem Ds {x:Row}(h:∀c,x c=0)(D:Fn)(cs:List Nat):E x D cs=0:=by
 have:=ub 0 x D cs
 rw [show (fun c=>0*x c)=x from funext fun c=>by rw [h c];omega] at this
 omega
theorem Au (x0:Row)(a:Int)(b:Row->Int):∀(S:List Row) (cs:List Nat),E x0 (det (S.map fun x=>fun c=>a*x c+b x*x0 c)) cs=a^S.length*E x0 (det S) cs
 |[],cs=>by simp
 |x::S,cs=>by
  rw [List.map_cons]
  show E x0 (E _ (det _)) cs=_
  rw [ua,show E x0 (det (S.map fun x=>fun c=>a*x c+b x*x0 c))=fun l=>a^S.length*E x0 (det S) l from funext (Au x0 a b S),wg,IF,Av]
  show _=a^(S.length+1)*E x0 (E x (det S)) cs
  rw [ua x0 x,Int.pow_succ]
  grind
theorem sT {x:Row}:∀{S:List Row},x∈S->∃S':List Row,S'.length+1=S.length/\(∀y∈S',y∈S)/\∃s:Int,∀cs,det S cs=s*det (x::S') cs
 |[],h=>by cases h
 |y::S,h=>by
  rcases List.mem_cons.mp h with rfl | h
  ·exact⟨S,rfl,fun z hz=>List.mem_cons_of_mem _ hz,1,fun cs=>by omega⟩
  ·obtain⟨S',h1,h2,s,h3⟩:=sT h
   refine⟨y::S',by simp only [List.length_cons];omega,fun z hz=>?_,-s,fun cs=>?_⟩
   ·rcases List.mem_cons.mp hz with rfl | hz
    ·exact List.mem_cons_self
    ·exact List.mem_cons_of_mem _ (h2 z hz)
   ·rw [c9,show det S=fun l=>s*det (x::S') l from funext h3,wg,<- c9,wH]
    grind
theorem qN:∀(W S:List Row),(∀x∈S,Sp W x)->W.length<S.length->∀cs,det S cs=0
 |[],[],_,h=>by cases h
 |[],x::S,h,_=>fun cs=>by
  cases h x List.mem_cons_self with
  |nil hx=>exact Ds hx _ cs
 |w::W,S,h,hl=>fun cs=>by
  by_cases hz:∀x∈S,Sp W x
  ·exact qN W S hz (by simp only [List.length_cons] at hl;omega) cs
  ·obtain⟨x0,hx0,hn⟩:∃x0,x0∈S/\¬ Sp W x0:=by
    apply Classical.byContradiction
    intro hc
    exact hz fun x hx=>Classical.byContradiction fun hs=>hc ⟨x,hx,hs⟩
   obtain⟨a,y0,ha,hy0⟩:∃a y,(∀c,x0 c=a*w c+y c)/\Sp W y:=by
    cases h x0 hx0 with
    |cons a h' hy=>exact⟨a,_,h',hy⟩
   have a0:a≠0:=fun e=>hn (by
    rw [show x0=y0 from funext fun c=>by rw [ha c,e];omega]
    exact hy0)
   obtain⟨S',l1,l2,s,l3⟩:=sT hx0
   have hco:∀x:Row,∃t:Int,x∈S->Sp W (fun c=>a*x c+(-t)*x0 c):=fun x=>by
    by_cases hx:x∈S
    ·cases h x hx with
     |cons t h' hy =>
      rename_i y
      refine⟨t,fun _=>?_⟩
      rw [show (fun c=>a*x c+(-t)*x0 c)=fun c=>a*y c+(-t)*y0 c from funext fun c=>by rw [h' c,ha c];grind]
      exact hy.lin a (-t) hy0
    ·exact⟨0,fun hx'=>absurd hx' hx⟩
   have e:=Au x0 a (fun x=>- Classical.choose (hco x)) S' cs
   have z:det (S'.map fun x=>fun c=>a*x c+(- Classical.choose (hco x))*x0 c)=fun _=>0:=funext fun l=>qN W _ (fun y hy=>by
    obtain⟨x,hx,rfl⟩:=List.mem_map.mp hy
    exact Classical.choose_spec (hco x) (l2 x hx)) (by rw [List.length_map];simp only [List.length_cons] at hl;omega) l
   rw [z,uc] at e
   have e2:E x0 (det S') cs=0:=by
    rcases Int.mul_eq_zero.mp e.symm with e2 | e2
    ·exact absurd e2 (Int.pow_ne_zero a0)
    ·exact e2
   rw [l3,c9,e2]
   omega
theorem Jt (f:Nat->Row->Int)(hf:∀j x,f j x=x j):∀(R:List Row) (G:List Row->Int),Sp R (fun j=>F (f j) G R)
 |[],G=>.nil fun _=>rfl
 | r::R,G=>.cons (G R) (y:=fun c=>-1*F (f c) (fun S=>G (r::S)) R+0*0) (fun c=>by rw [gm,hf];grind) (by
   have:=Sp.lin (-1) 0 (Jt f hf R fun S=>G (r::S)) (Sp.zero R)
   exact this)
theorem OP {R S:List Row}{ps cs:List Nat}(hd:det R ps≠0)(h:∀x∈S,∀j∈cs,left R ps x j=0)(hl:R.length<S.length):det S cs=0:=by
 have e:=sU (det R ps) S cs
 have hc:=nB (g:=fun x=>fun c=>det R ps*x c) (h:=fun x=>fun j=>F (fun y=>y j) (fun Q=>det (x::Q) ps) R) S cs fun x hx j hj=>by
  have e1:=h x hx j hj
  have e2:left R ps x j=F (fun y=>y j) (fun Q=>det Q ps) (x::R):=kI j ps (x::R)
  rw [e2,gm] at e1
  show det R ps*x j=_
  have e3:x j*det R ps-F (fun y=>y j) (fun Q=>det (x::Q) ps) R=0:=e1
  grind
 have z:=qN R (S.map fun x=>fun j=>F (fun y=>y j) (fun Q=>det (x::Q) ps) R) (fun y hy=>by
  obtain⟨x,_,rfl⟩:=List.mem_map.mp hy
  exact Jt (fun j y=>y j) (fun _ _=>rfl) R _) (by rw [List.length_map];exact hl) cs
 rw [hc,z] at e
 rcases Int.mul_eq_zero.mp e.symm with e2 | e2
 ·exact absurd e2 (Int.pow_ne_zero hd)
 ·exact e2
theorem Du {x:Row}{At:Nat->Row}{f:Row->Int}:∀(cs:List Nat) (G:List Row->Int),(∀c∈cs,f (At c)=x c)->E x (fun l=>G (l.map At)) cs=F f G (cs.map At)
 |[],G,_=>rfl
 |c::cs,G,h=>by
  rw [cn,List.map_cons,gm,h c List.mem_cons_self,<- Du cs (fun S=>G (At c::S)) fun d hd=>h d (List.mem_cons_of_mem _ hd)]
  rfl
theorem mr (A:Nat->Row):∀(is cs:List Nat),det (is.map A) cs=det (cs.map fun c=>fun i=>A i c) is
 |[],[]=>rfl
 |[],c::cs=>rfl
 |i::is,cs=>by
  rw [List.map_cons,c9,kI i is (cs.map fun c=>fun i=>A i c),show det (is.map A)=fun l=>det (l.map fun c=>fun i=>A i c) is from funext (mr A is)]
  exact Du (f:=fun y=>y i) cs (fun S=>det S is) fun c _=>rfl
def rw (l:List Int):Row:=fun j=>l.getD j 0
def aS (w:Nat)(R:List Row)(ps:List Nat)(x:Row):List Int:=(List.range w).map (left R ps x)
theorem dI {w:Nat}{R:List Row}{ps:List Nat}{x:Row}{j:Nat}(h:j<w):rw (aS w R ps x) j=left R ps x j:=by
 unfold rw aS
 rw [List.getD_eq_getElem?_getD,List.getElem?_map,List.getElem?_range h]
 rfl
theorem df (w:Nat)(R:List Row)(ps:List Nat)(x:Row):(aS w R ps x).length=w:=by unfold aS;rw [List.length_map,List.length_range]
inductive Ch (w:Nat):List Row->List Nat->List (Nat×List Int)->Prop
 |nil:Ch w [] [] []
 |cons {R:List Row} {ps:List Nat} {kr:List (Nat×List Int)} {x:Row} {p:Nat} (h:Ch w R ps kr) (hp:p<w) (hn:left R ps x p≠0):Ch w (x::R) (p::ps) ((p,aS w R ps x)::kr)
theorem EJ (x:Row)(j:Nat):left [] [] x j=x j:=by
 show E x (det []) [j]=x j
 simp [E,Dt.det]
theorem qx {w:Nat}{row:List Int}(h:row.length=w):row=aS w [] [] (rw row):=by
 apply List.ext_getElem?
 intro i
 unfold aS
 rw [List.getElem?_map]
 by_cases hi:i<w
 ·rw [List.getElem?_range hi]
  show row[i]? = some (left [] [] (rw row) i)
  rw [EJ]
  unfold rw
  rw [List.getD_eq_getElem?_getD,List.getElem?_eq_getElem (by omega)]
  rfl
 ·rw [List.getElem?_eq_none (by omega),List.getElem?_eq_none (by rw [List.length_range];omega)]
  rfl
theorem Dk {w:Nat}{R:List Row}{ps:List Nat}{x y:Row}(f:Int->Int->Int):List.zipWith f (aS w R ps x) (aS w R ps y)=(List.range w).map fun j=>f (left R ps x j) (left R ps y j):=by
 unfold aS
 rw [List.zipWith_map_left,List.zipWith_map_right,List.zipWith_self]
theorem zw {w:Nat}{R:List Row}{ps:List Nat}{k x:Row}{p:Nat}(hd:Dt.det R ps≠0)(hn:left R ps k p≠0)(hp:p<w)(h:∀j<w,left R ps x j=0):∀j<w,left (k::R) (p::ps) x j=0:=fun j hj=>by
 have hb:=AE hn x j
 rw [h j hj,h p hp] at hb
 have:Dt.det R ps*left (k::R) (p::ps) x j=0:=by rw [hb];omega
 rcases Int.mul_eq_zero.mp this with e | e
 ·exact absurd e hd
 ·exact e
def fp (w:Nat)(x:Row):Option Nat:=(List.range w).find? fun j=>x j != 0
theorem A8 {w:Nat}{x:Row}(h:fp w x=none):∀j<w,x j=0:=fun j hj=>by
 have:=List.find?_eq_none.mp h j (List.mem_range.mpr hj)
 simpa using this
theorem kL {w:Nat}{x:Row}{p:Nat}(h:fp w x=some p):p<w/\x p≠0:=by
 refine⟨List.mem_range.mp (List.mem_of_find?_eq_some h),?_⟩
 have:=List.find?_some h
 simpa using this
theorem Ed {w:Nat}{x y:Row}(h:∀j<w,(x j=0 ↔ y j=0)):fp w x=fp w y:=by
 unfold fp
 have:∀l:List Nat,(∀j∈l,j<w)->l.find? (fun j=>x j != 0)=l.find? fun j=>y j != 0:=by
  intro l
  induction l with
  |nil=>intro _;rfl
  |cons j l ih =>
   intro hl
   have hj:=h j (hl j List.mem_cons_self)
   rw [List.find?_cons,List.find?_cons,ih fun k hk=>hl k (List.mem_cons_of_mem _ hk)]
   by_cases e:x j=0
   ·rw [e,hj.mp e]
   ·rw [show (x j != 0)=true by simpa using e,show (y j != 0)=true by simpa using fun z=>e (hj.mpr z)]
 exact this _ fun j hj=>List.mem_range.mp hj
def fr (w:Nat):List Row->Nat->List Row->List Nat->List Nat
 |[],_,_,_=>[]
 |x::rest,i,R,ps=>match fp w (left R ps x) with
  |none=>fr w rest (i+1) R ps
  |some p=>i::fr w rest (i+1) (x::R) (p::ps)
theorem yV {w:Nat}:∀(rest:List Row) (i:Nat) (R:List Row) (ps:List Nat),det R ps≠0->(∀p∈ps,p<w)->ps.length=R.length ->
  ∃R' ps',det R' ps'≠0/\(∀p∈ps',p<w)/\ps'.length=R'.length/\R'.length=R.length+(fr w rest i R ps).length/\(∀x∈R',x∈R\/x∈rest)/\(∀x∈rest,∀j<w,left R' ps' x j=0)/\∀x:Row,(∀j<w,left R ps x j=0)->∀j<w,left R' ps' x j=0
 |[],i,R,ps,h1,h2,h3=>⟨R,ps,h1,h2,h3,rfl,fun x hx=>.inl hx,(fun x hx=>by cases hx),fun x hx=>hx⟩
 |x::rest,i,R,ps,h1,h2,h3=>by
  cases e:fp w (left R ps x) with
  |none =>
   obtain⟨R',ps',g1,g2,g3,g4,g5,g6,g7⟩:=yV rest (i+1) R ps h1 h2 h3
   refine⟨R',ps',g1,g2,g3,?_,fun y hy=>?_,fun y hy=>?_,g7⟩
   ·rw [g4,fr,e]
   ·rcases g5 y hy with z | z
    ·exact .inl z
    ·exact .inr (List.mem_cons_of_mem _ z)
   ·rcases List.mem_cons.mp hy with rfl | hy
    ·exact g7 _ (A8 e)
    ·exact g6 y hy
  |some p =>
   obtain⟨hp,hn⟩:=kL e
   obtain⟨R',ps',g1,g2,g3,g4,g5,g6,g7⟩:=yV rest (i+1) (x::R) (p::ps) hn (fun q hq=>by
    rcases List.mem_cons.mp hq with rfl | hq
    ·exact hp
    ·exact h2 q hq) (by simp only [List.length_cons];omega)
   refine⟨R',ps',g1,g2,g3,?_,fun y hy=>?_,fun y hy=>?_,fun y hy=>g7 y (zw h1 hn hp hy)⟩
   ·rw [g4,fr,e];simp only [List.length_cons];omega
   ·rcases g5 y hy with z | z
    ·rcases List.mem_cons.mp z with rfl | z
     ·exact .inr List.mem_cons_self
     ·exact .inl z
    ·exact .inr (List.mem_cons_of_mem _ z)
   ·rcases List.mem_cons.mp hy with rfl | hy
    ·exact g7 _ fun j _=>mH List.mem_cons_self j
    ·exact g6 y hy
def rank (w:Nat)(A:List Row):Nat:=(fr w A 0 [] []).length
theorem xQ (w:Nat)(A:List Row):∃R ps,det R ps≠0/\(∀p∈ps,p<w)/\ps.length=R.length/\R.length=rank w A/\(∀x∈R,x∈A)/\∀x∈A,∀j<w,left R ps x j=0:=by
 obtain⟨R,ps,h1,h2,h3,h4,h5,h6,_⟩:=yV (w:=w) A 0 [] [] (by decide) (fun _ h=>by cases h) rfl
 refine⟨R,ps,h1,h2,h3,by rw [h4];simp [rank],fun x hx=>?_,h6⟩
 rcases h5 x hx with z | z
 ·cases z
 ·exact z
theorem Fo {w:Nat}{A S:List Row}{cs:List Nat}(hS:∀x∈S,x∈A)(hc:∀c∈cs,c<w)(hd:det S cs≠0):S.length≤rank w A:=by
 obtain⟨R,ps,h1,h2,h3,h4,h5,h6⟩:=xQ w A
 apply Classical.byContradiction
 intro hn
 exact hd (OP h1 (fun x hx j hj=>h6 x (hS x hx) j (hc j hj)) (by omega))
theorem yo (u:Nat->Int)(x:Row):∀(cs:List Nat) (D D':Fn),(∀l,D' l=(l.map u).foldr (· * ·) 1*D l)->E (fun c=>u c*x c) D' cs=(cs.map u).foldr (· * ·) 1*E x D cs:=by
 intro cs
 induction cs with
 |nil=>intro D D' _;simp [E]
 |cons c cs ih =>
  intro D D' h
  rw [cn,cn,h cs]
  have h2:∀l,D' (c::l)=u c*((l.map u).foldr (· * ·) 1*D (c::l)):=fun l=>by
   rw [h (c::l),List.map_cons,List.foldr_cons]
   grind
  have e:E (fun c=>u c*x c) (fun l=>D' (c::l)) cs=u c*E (fun c=>u c*x c) (fun l=>(l.map u).foldr (· * ·) 1*D (c::l)) cs:=by
   rw [<- wg,show (fun l=>D' (c::l))=fun l=>u c*((l.map u).foldr (· * ·) 1*D (c::l)) from funext h2]
  rw [e,ih (fun l=>D (c::l)) _ fun l=>rfl,List.map_cons,List.foldr_cons]
  grind
theorem ml (u:Nat->Int):∀(S:List Row) (cs:List Nat),det (S.map fun x=>fun c=>u c*x c) cs=(cs.map u).foldr (· * ·) 1*det S cs
 |[],[]=>by simp [det]
 |[],c::cs=>by simp [det]
 |x::S,cs=>yo u x cs (det S) _ (ml u S)
theorem mm {α:Type}(g:α->Row)(u:α->Int):∀(S:List α) (cs:List Nat),det (S.map fun x=>fun c=>u x*g x c) cs=(S.map u).foldr (· * ·) 1*det (S.map g) cs
 |[],cs=>by simp
 |x::S,cs=>by
  rw [List.map_cons,c9,ub,show det (S.map fun x=>fun c=>u x*g x c)=fun l=>(S.map u).foldr (· * ·) 1*det (S.map g) l from funext (mm g u S),wg,List.map_cons,List.foldr_cons]
  show _=_*E (g x) (det (S.map g)) cs
  grind
theorem Bz {α:Type}{u:α->Int}:∀{l:List α},(∀x∈l,u x≠0)->(l.map u).foldr (· * ·) 1≠0
 |[],_=>by simp
 |x::l,h=>by
  rw [List.map_cons,List.foldr_cons]
  exact Int.mul_ne_zero (h x List.mem_cons_self) (Bz fun y hy=>h y (List.mem_cons_of_mem _ hy))
theorem index {α:Type}{l:List α}:∀{S:List α},(∀x∈S,x∈l)->∀d,∃is:List Nat,(∀i∈is,i<l.length)/\S=is.map fun i=>l.getD i d
 |[],_,d=>⟨[],(fun _ h=>by cases h),rfl⟩
 |x::S,h,d=>by
  obtain⟨is,h1,h2⟩:=index (S:=S) (fun y hy=>h y (List.mem_cons_of_mem _ hy)) d
  obtain⟨i,hi,e⟩:=List.getElem_of_mem (h x List.mem_cons_self)
  refine⟨i::is,fun j hj=>?_,?_⟩
  ·rcases List.mem_cons.mp hj with rfl | hj
   ·exact hi
   ·exact h1 j hj
  ·rw [List.map_cons,<- h2,List.getD_eq_getElem?_getD,List.getElem?_eq_getElem hi,e];rfl
theorem mR {n w:Nat}(A T:Nat->Row)(u v:Nat->Int)(hu:∀i<n,u i≠0)(hv:∀c<w,v c≠0)(h:∀i<n,∀c<w,u i*T c i=v c*A i c):
  rank n ((List.range w).map T)≤rank w ((List.range n).map A):=by
 obtain⟨R,ps,h1,h2,h3,h4,h5,h6⟩:=xQ n ((List.range w).map T)
 obtain⟨cs,c1,c2⟩:∃cs:List Nat,(∀c∈cs,c<w)/\R=cs.map T:=by
  obtain⟨is,i1,i2⟩:=index (l:=(List.range w).map T) h5 (fun _=>0)
  refine⟨is,fun i hi=>by have:=i1 i hi;simpa using this,?_⟩
  rw [i2]
  apply List.map_congr_left
  intro i hi
  have:=i1 i hi
  rw [List.length_map,List.length_range] at this
  rw [List.getD_eq_getElem?_getD,List.getElem?_map,List.getElem?_range this]
  rfl
 rw [<- h4]
 have e1:=ml u (cs.map T) ps
 rw [List.map_map] at e1
 have e2:det (cs.map ((fun x=>fun c=>u c*x c) ∘ T)) ps=det (cs.map fun c=>fun i=>v c*A i c) ps:=nB cs ps fun c hc i hi=>h i (h2 i hi) c (c1 c hc)
 have e3:=mm (fun c=>fun i=>A i c) v cs ps
 have e4:=mr A ps cs
 have hne:det (ps.map A) cs≠0:=fun z=>by
  rw [e4] at z
  rw [z,Int.mul_zero] at e3
  rw [e2,e3] at e1
  rcases Int.mul_eq_zero.mp e1.symm with y | y
  ·exact Bz (fun i hi=>hu i (h2 i hi)) y
  ·rw [c2] at h1;exact h1 y
 have:=Fo (w:=w) (A:=(List.range n).map A) (S:=ps.map A) (cs:=cs) (fun x hx=>by
  obtain⟨i,hi,rfl⟩:=List.mem_map.mp hx
  exact List.mem_map.mpr ⟨i,List.mem_range.mpr (h2 i hi),rfl⟩) c1 hne
 rw [List.length_map] at this
 omega
theorem LL {M N:Nat}:∀(cs:List Nat) (x:Row) (D:Fn),(∀j,(x j).natAbs≤M)->(∀l:List Nat,l.length<cs.length->(D l).natAbs≤N)->(E x D cs).natAbs≤cs.length*(M*N)
 |[],x,D,_,_=>by simp [E]
 |c::cs,x,D,hx,hD=>by
  rw [cn,List.length_cons,Nat.succ_mul]
  have h1:(x c*D cs).natAbs≤M*N:=by
   rw [Int.natAbs_mul]
   exact Nat.mul_le_mul (hx c) (hD cs (by simp))
  have h2:=LL (M:=M) (N:=N) cs x (fun l=>D (c::l)) hx fun l hl=>hD (c::l) (by simp only [List.length_cons];omega)
  omega
theorem yN {M n:Nat}:∀(R:List Row) (cs:List Nat),(∀x∈R,∀j,(x j).natAbs≤M)->cs.length≤n->(det R cs).natAbs≤(n*M+1)^R.length
 |[],cs,_,_=>by
  cases cs with
  |nil=>simp [det]
  |cons c cs=>simp [det]
 |x::R,cs,hR,hn=>by
  rw [c9,List.length_cons,Nat.pow_succ]
  have ih:∀l:List Nat,l.length<cs.length->(det R l).natAbs≤(n*M+1)^R.length:=fun l hl=>yN R l (fun y hy=>hR y (List.mem_cons_of_mem _ hy)) (by omega)
  refine Nat.le_trans (LL cs x (det R) (hR x List.mem_cons_self) ih) ?_
  calc cs.length*(M*(n*M+1)^R.length)≤n*(M*(n*M+1)^R.length):=Nat.mul_le_mul_right _ hn
   _=(n*M)*(n*M+1)^R.length:=by rw [Nat.mul_assoc]
   _≤(n*M+1)*(n*M+1)^R.length:=Nat.mul_le_mul_right _ (Nat.le_succ _)
   _=(n*M+1)^R.length*(n*M+1):=Nat.mul_comm _ _
inductive Fw (w:Nat):List Row->List Nat->List (Nat×List Int)->List Row->List Nat->Prop
 |nil {R:List Row} {ps:List Nat}:Fw w R ps [] R ps
 |cons {R R':List Row} {ps ps':List Nat} {ks:List (Nat×List Int)} {x:Row} {p:Nat} (hp:p<w) (hn:left R ps x p≠0) (h:Fw w (x::R) (p::ps) ks R' ps'):Fw w R ps ((p,aS w R ps x)::ks) R' ps'
theorem Fw.snoc {w:Nat}{R R':List Row}{ps ps':List Nat}{ks:List (Nat×List Int)}(h:Fw w R ps ks R' ps'){x:Row}{p:Nat}(hp:p<w)(hn:left R' ps' x p≠0):Fw w R ps (ks++[(p,aS w R' ps' x)]) (x::R') (p::ps'):=by
 induction h with
 |nil=>exact .cons hp hn .nil
 |cons hp' hn' h ih=>exact .cons hp' hn' (ih hn)
theorem C8 {w:Nat}{R:List Row}{ps:List Nat}{k x:Row}{p:Nat}(hd:det R ps≠0)(hn:left R ps k p≠0):
  List.zipWith (fun n l=>(left R ps k p*n-left R ps x p*l).fdiv (det R ps)) (aS w R ps x) (aS w R ps k)=aS w (k::R) (p::ps) x:=by
 rw [Dk]
 unfold aS
 apply List.map_congr_left
 intro j _
 rw [<- AE hn x j]
 exact Int.mul_fdiv_cancel_left _ hd
end Dt
namespace Dq
abbrev Row:=Nat->Rat
def sm (cs:List Nat)(f:Nat->Rat):Rat:=(cs.map f).foldr (· + ·) 0
theorem vR (f:Nat->Rat):sm [] f=0:=rfl
theorem eR (c:Nat)(cs:List Nat)(f:Nat->Rat):sm (c::cs) f=f c+sm cs f:=rfl
theorem vP (a b:Rat)(f g:Nat->Rat):∀cs,sm cs (fun k=>a*f k+b*g k)=a*sm cs f+b*sm cs g
 |[]=>by simp only [vR];grind
 |c::cs=>by rw [eR,eR,eR,vP a b f g cs];grind
theorem La (f g:Nat->Rat)(cs:List Nat):sm cs (fun k=>f k+g k)=sm cs f+sm cs g:=by
 have:=vP 1 1 f g cs
 simp only [Rat.one_mul] at this
 exact this
theorem pG:∀cs,sm cs (fun _=>0)=0
 |[]=>rfl
 |c::cs=>by rw [eR,pG cs];grind
theorem cQ {f g:Nat->Rat}:∀{cs:List Nat},(∀k∈cs,f k=g k)->sm cs f=sm cs g
 |[],_=>rfl
 |c::cs,h=>by rw [eR,eR,h c List.mem_cons_self,cQ fun k hk=>h k (List.mem_cons_of_mem _ hk)]
end Dq
namespace Dt
def Gj (a b:Nat):Int:=if b<a then -1 else 1
def zU (a:Nat):List Nat->Int
 |[]=>1
 |b::l=>Gj a b*zU a l
def sgn:List Nat->Int
 |[]=>1
 |a::l=>zU a l*sgn l
def ins (a:Nat):List Nat->List Nat
 |[]=>[a]
 |b::l=>if b<a then b::ins a l else a::b::l
def srt:List Nat->List Nat
 |[]=>[]
 |a::l=>ins a (srt l)
theorem BD (a c:Nat):∀l,zU c (ins a l)=Gj c a*zU c l
 |[]=>rfl
 |b::l=>by
  unfold ins
  split
  ·show Gj c b*zU c (ins a l)=_
   rw [BD a c l]
   show _=Gj c a*(Gj c b*zU c l)
   grind
  ·rfl
theorem BE (c:Nat):∀l,zU c (srt l)=zU c l
 |[]=>rfl
 |a::l=>by
  show zU c (ins a (srt l))=Gj c a*zU c l
  rw [BD,BE c l]
inductive Up:List Nat->Prop
 |nil:Up []
 |cons {a:Nat} {l:List Nat} (h:∀b∈l,a≤b) (u:Up l):Up (a::l)
theorem uH {a:Nat}:∀{l:List Nat} {x:Nat},x∈ins a l ↔ x=a\/x∈l
 |[],x=>by simp [ins]
 |b::l,x=>by
  unfold ins
  split
  ·rw [List.mem_cons,uH,List.mem_cons]
   grind
  ·simp
theorem Up.ins {a:Nat}:∀{l:List Nat},Up l->Up (ins a l)
 |[],_=>.cons (fun _ h=>by cases h) .nil
 |b::l,.cons h u=>by
  unfold Dt.ins
  split
  ·next hb =>
   refine .cons (fun x hx=>?_) u.ins
   rcases uH.mp hx with rfl | hx
   ·omega
   ·exact h x hx
  ·next hb =>
   refine .cons (fun x hx=>?_) (.cons h u)
   rcases List.mem_cons.mp hx with rfl | hx
   ·omega
   ·have:=h x hx
    omega
theorem Up.srt:∀l:List Nat,Up (srt l)
 |[]=>.nil
 |_::l=>(Up.srt l).ins
theorem tH {a:Nat}:∀{l:List Nat},(∀b∈l,a≤b)->zU a l=1
 |[],_=>rfl
 |b::l,h=>by
  show Gj a b*zU a l=1
  rw [tH fun x hx=>h x (List.mem_cons_of_mem _ hx)]
  have:=h b List.mem_cons_self
  unfold Gj
  rw [if_neg (by omega)]
  rfl
theorem AA (a:Nat):∀{l:List Nat},Up l->∀D:Fn,Alt D->D (a::l)=zU a l*D (ins a l)
 |[],_,D,_=>by
  show D [a]=1*D [a]
  omega
 |b::l,.cons hb u,D,h=>by
  unfold ins
  split
  ·next hlt =>
   have e:=AA a u (fun l=>D (b::l)) (h.tl b)
   show D (a::b::l)=Gj a b*zU a l*D (b::ins a l)
   rw [show D (a::b::l) = - D (b::a::l) from h [] a b l,show D (b::a::l)=_ from e]
   unfold Gj
   rw [if_pos hlt]
   grind
  ·next hlt =>
   rw [tH (a:=a) (l:=b::l) fun x hx=>by
    rcases List.mem_cons.mp hx with rfl | hx
    ·omega
    ·have:=hb x hx
     omega]
   omega
theorem uh:∀(l:List Nat) (D:Fn),Alt D->D l=sgn l*D (srt l)
 |[],D,_=>by
  show D []=1*D []
  omega
 |a::l,D,h=>by
  have e:=uh l (fun l=>D (a::l)) (h.tl a)
  show D (a::l)=zU a l*sgn l*D (ins a (srt l))
  rw [show D (a::l)=_ from e,AA a (Up.srt l) D h,BE]
  grind
def Ord (n:Nat)(ps:List Nat):Prop:=ps.length=n/\(∀p∈ps,p<n)/\ps.Nodup
def JA (n:Nat):Nat->List (List Nat)
 |0=>[[]]
 |k+1=>(JA n k).flatMap fun l=>(List.range n).map fun a=>a::l
theorem gT {n:Nat}:∀{k:Nat} {l:List Nat},l.length=k->(∀p∈l,p<n)->l∈JA n k
 |0,[],_,_=>List.mem_singleton.mpr rfl
 |k+1,a::l,h,hp=>by
  refine List.mem_flatMap.mpr ⟨l,gT (by simpa using h) fun p m=>hp p (List.mem_cons_of_mem _ m),?_⟩
  exact List.mem_map.mpr ⟨a,List.mem_range.mpr (hp a List.mem_cons_self),rfl⟩
theorem gO:∀n≤4,∀l∈JA n n,l.Nodup->srt l=List.range n/\sgn l*sgn l.reverse=sgn (List.range n).reverse:=by decide +kernel
theorem yO {n:Nat}(hn:n≤4){R:Nat->Row}{ps:List Nat}(h:Ord n ps):
  sgn ps.reverse*det ((List.range n).reverse.map R) ps=det ((List.range n).map R) (List.range n):=by
 obtain⟨h1,h2,h3⟩:=h
 obtain⟨e1,e2⟩:=gO n hn ps (gT h1 h2) h3
 obtain⟨f1,f2⟩:=gO n hn (List.range n) (gT List.length_range fun p hp=>List.mem_range.mp hp) List.nodup_range
 have f3:srt (List.range n).reverse=List.range n:=(gO n hn (List.range n).reverse (gT (by rw [List.length_reverse,List.length_range]) fun p hp=>List.mem_range.mp (List.mem_reverse.mp hp)) ((List.reverse_perm _).nodup_iff.mpr List.nodup_range)).1
 rw [uh ps _ (mh _),e1,mr R,uh (List.range n).reverse _ (mh _),f3,<- mr R]
 have:sgn (List.range n).reverse*sgn (List.range n).reverse=1:=by
  have:n=0\/n=1\/n=2\/n=3\/n=4:=by omega
  rcases this with rfl | rfl | rfl | rfl | rfl<;>decide
 have e3:sgn ps.reverse*sgn ps=sgn (List.range n).reverse:=by rw [<- e2];grind
 grind
def kU (l:List Nat)(f:Nat->Int):Int:=(l.map f).foldr (· + ·) 0
theorem cR (p:Nat)(l:List Nat)(f:Nat->Int):kU (p::l) f=f p+kU l f:=rfl
theorem kQ {f g:Nat->Int}:∀{l:List Nat},(∀p∈l,f p=g p)->kU l f=kU l g
 |[],_=>rfl
 |p::l,h=>by rw [cR,cR,h p List.mem_cons_self,kQ fun q hq=>h q (List.mem_cons_of_mem _ hq)]
theorem vS (f:Nat->Int):∀(l m:List Nat),kU (l++m) f=kU l f+kU m f
 |[],m=>by show kU m f=0+kU m f;omega
 |p::l,m=>by rw [List.cons_append,cR,cR,vS f l m];omega
theorem rj {f:Nat->Int}:∀{l:List Nat},(∀p∈l,f p=0)->kU l f=0
 |[],_=>rfl
 |p::l,h=>by rw [cR,h p List.mem_cons_self,rj fun q hq=>h q (List.mem_cons_of_mem _ hq)];omega
def put (ps:List Nat)(c p:Nat):List Nat:=ps.map fun q=>if q=p then c else q
theorem BA {c p:Nat}:∀{ps:List Nat},p∉ps->put ps c p=ps
 |[],_=>rfl
 |q::ps,h=>by
  show (if q=p then c else q)::put ps c p=_
  rw [BA fun m=>h (List.mem_cons_of_mem _ m),if_neg (fun e:q=p=>h (e ▸ List.mem_cons_self))]
theorem IE (x:Row)(c:Nat):∀(ps:List Nat) (D:Fn),Alt D->ps.Nodup->E x (fun l=>D (c::l)) ps=kU ps fun p=>x p*D (put ps c p)
 |[],D,_,_=>rfl
 |p::ps,D,h,hn=>by
  obtain⟨h1,h2⟩:=List.nodup_cons.mp hn
  have ih:=IE x c ps (fun l=>D (p::l)) (h.tl p) h2
  have e1:(fun l=>D (c::p::l))=fun l=>(-1)*D (p::c::l)+0*0:=funext fun l=>by rw [show D (c::p::l) = - D (p::c::l) from h [] c p l];omega
  rw [cn,e1,sC x (-1) 0 (fun l=>D (p::c::l)) (fun _=>0) ps,ih,cR]
  have e2:put (p::ps) c p=c::ps:=by
   show (if p=p then c else p)::put ps c p=_
   rw [if_pos rfl,BA h1]
  have e3:(kU ps fun q=>x q*D (put (p::ps) c q))=kU ps fun q=>x q*D (p::put ps c q):=kQ fun q hq=>by
   have:put (p::ps) c q=p::put ps c q:=by
    show (if p=q then c else p)::put ps c q=_
    rw [if_neg (fun e:p=q=>h1 (e ▸ hq))]
   rw [this]
  rw [e2,e3]
  omega
theorem p8 {R:List Row}{ps:List Nat}(hn:ps.Nodup)(c:Nat){x:Row}(hx:x∈R):(kU ps fun p=>x p*det R (put ps c p))=det R ps*x c:=by
 have h0:=uy hx (c::ps)
 rw [c9,cn,IE x c ps (det R) (mh R) hn] at h0
 grind
theorem BN (a:Int)(f g:Nat->Int):∀l:List Nat,(kU l fun p=>a*f p+g p)=a*kU l f+kU l g
 |[]=>by show (0:Int)=a*0+0;omega
 |p::l=>by rw [cR,cR,cR,BN a f g l];grind
theorem sS {R:List Row}{ps:List Nat}(hn:ps.Nodup)(c:Nat):∀{W:List Row} {y:Row},(∀x∈W,x∈R)->Sp W y->(kU ps fun p=>y p*det R (put ps c p))=det R ps*y c
 |[],y,_,.nil h=>by
  rw [h c,rj fun p _=>by rw [h p,Int.zero_mul]]
  omega
 |w::W,y,hW,.cons a h hy=>by
  rename_i y'
  have ih:=sS hn c (fun x hx=>hW x (List.mem_cons_of_mem _ hx)) hy
  have hw:=p8 hn c (hW w List.mem_cons_self)
  have e:(kU ps fun p=>y p*det R (put ps c p))=kU ps fun p=>a*(w p*det R (put ps c p))+y' p*det R (put ps c p):=kQ fun p _=>by rw [h p];grind
  rw [e,BN,ih,hw,h c]
  grind
theorem Bp (R:List Row)(ps:List Nat)(x:Row):Sp (x::R) (left R ps x):=by
 have h:=Jt (fun j y=>y j) (fun _ _=>rfl) (x::R) (fun S=>det S ps)
 have e:left R ps x=fun j=>F (fun y=>y j) (fun S=>det S ps) (x::R):=funext fun j=>kI j ps (x::R)
 rw [e]
 exact h
theorem Cb {R0:List Row}{ps0:List Nat}(hn:ps0.Nodup)(c:Nat){R:List Row}{ps Q:List Nat}{x:Row}{p:Nat}(hq:ps0=Q++p::ps)(hR:∀y∈x::R,y∈R0):
  det R0 ps0*left R ps x c-(kU Q fun q=>left R ps x q*det R0 (put ps0 c q))=left R ps x p*det R0 (put ps0 c p):=by
 have h:=sS hn c hR (Bp R ps x)
 have e:(kU ps0 fun q=>left R ps x q*det R0 (put ps0 c q))=(kU Q fun q=>left R ps x q*det R0 (put ps0 c q))+(left R ps x p*det R0 (put ps0 c p)+0):=by
  conv=>lhs;rw [hq]
  rw [vS,cR,rj (l:=ps) fun q hq'=>by rw [Bo hq',Int.zero_mul],<- hq]
 rw [e] at h
 omega
end Dt
namespace My
open PySem PySem.Spec PyProof.Rows L2 TM
theorem NL:(17:Nat)≤sizeLine:=dG (by decide)
theorem O1:(6:Nat)<sizeLine:=cL (by decide)
theorem Eg {a b c d:Int}:gJ (.tup [.int a,.int b]) (.tup [.int c,.int d])=some (.bl (decide (a=c)&&decide (b=d))):=by
 have e:gJ (.tup [.int a,.int b]) (.tup [.int c,.int d])=some (.bl ((a == c)&&((b == d)&&true))):=rfl
 rw [e,Bool.and_true,Bool.beq_eq_decide_eq,Bool.beq_eq_decide_eq]
theorem Cy {x y:Bool}:gJ (.lst [.bl x,.bl y]) (.lst [.bl x,.bl y])=some (.bl true):=by
 have e:gJ (.lst [.bl x,.bl y]) (.lst [.bl x,.bl y])=some (.bl ((x == x)&&((y == y)&&true))):=rfl
 rw [e,beq_self_eq_true,beq_self_eq_true]
 rfl
theorem nc:∀(n:Nat) (u:Option Sl) (x y:Nat),y<n->fj (cJ (aG lb (af 1) (aU 0))) (uD 0 1 (aa (af 1) (aa (aG bU (af 0) (af 1)) az))) n [ah (.int x),ah (.int y),u]
  = some (.nx [ah (.int (Nat.gcd x y)),ah (.int 0),u])
 |0,_,_,_,h=>by omega
 |n+1,u,x,y,h=>by
  unfold fj
  by_cases hy:y=0
  ·subst hy
   have h0:((0:Nat):Int)=0:=rfl
   walk_at "ev"
   simp
  ·have hy':¬ ((y:Int)=0):=by omega
   have hm:Int.fmod (x:Int) (y:Int)=((x%y:Nat):Int):=by rw [Int.fmod_eq_emod_of_nonneg _ (by omega)];rfl
   have hg:Nat.gcd x y=Nat.gcd y (x%y):=by rw [Nat.gcd_comm x y,Nat.gcd_rec y x,Nat.gcd_comm]
   have ih:=nc n u y (x%y) (by have:=Nat.mod_lt x (Nat.pos_of_ne_zero hy);omega)
   rw [hg]
   clear hg h hy
   walk_at "ev"
theorem tX:∀(n:Nat) (u v:Option Sl) (x y:Nat),y<n->fj (cJ (aG Gh (af 3) (aU 0))) (uD 2 3 (aa (af 3) (aa (aG bU (af 2) (af 3)) az))) n [u,v,ah (.int x),ah (.int y)]
  = some (.nx [u,v,ah (.int (Nat.gcd x y)),ah (.int 0)])
 |0,_,_,_,_,h=>by omega
 |n+1,u,v,x,y,h=>by
  unfold fj
  by_cases hy:y=0
  ·subst hy
   have h0:((0:Nat):Int)=0:=rfl
   walk_at "ev"
   simp
  ·have hy':¬ ((y:Int)=0):=by omega
   have hy2:(0:Int)<y:=by omega
   have hm:Int.fmod (x:Int) (y:Int)=((x%y:Nat):Int):=by rw [Int.fmod_eq_emod_of_nonneg _ (by omega)];rfl
   have hg:Nat.gcd x y=Nat.gcd y (x%y):=by rw [Nat.gcd_comm x y,Nat.gcd_rec y x,Nat.gcd_comm]
   have ih:=tX n u v y (x%y) (by have:=Nat.mod_lt x (Nat.pos_of_ne_zero hy);omega)
   rw [hg]
   clear hg h hy
   walk_at "ev"
theorem F9 {ft:FT}{fb:FS}{τ τ':aK}{n:Nat}(h:ft τ=some (false,τ'))(hn:0<n):fj ft fb n τ=some (.nx τ'):=by
 obtain⟨m,rfl⟩:∃m,n=m+1:=⟨n-1,by omega⟩
 unfold fj
 rw [h]
 rfl
theorem LK:0<B:=by decide +kernel
theorem bits_le {x:Int}(h:x.natAbs<B):¬ ((Builtin.Int.intBits x:Int)>4000):=by
 unfold Builtin.Int.intBits
 by_cases h0:x=0
 ·subst h0;decide
 ·rw [if_neg (by simpa using h0)]
  have:x.natAbs.log2<4000:=(Nat.log2_lt (by omega)).mpr h
  omega
def fZ:List T->Option T
 |[.int a,.int b]=>if a.natAbs<B/\b.natAbs<B then some (.int (Int.gcd a b)) else none
 |_=>none
theorem lQ {a b:Int}(ha:a.natAbs<B)(hb:b.natAbs<B):fZ [.int a,.int b]=some (.int (Int.gcd a b)):=if_pos ⟨ha,hb⟩
theorem C4 (ts:List T)(t:T)(h:fZ ts=some t):dH 3 2 (pS B (fun _=>none)) ts=some t:=by
 unfold fZ at h
 split at h
 ·next a b =>
  split at h
  ·next hb =>
   cases h
   have hw:=nc B none a.natAbs b.natAbs (hb.2)
   have hbits:=bits_le (x:=((b.natAbs:Nat):Int)) (by simpa using hb.2)
   have hgt:Gh (.int (Builtin.Int.intBits ((b.natAbs:Nat):Int))) (.int 4000)=some (.bl false):=by
    show some (T.bl (decide _))=_
    rw [decide_eq_false hbits]
   have hno:fj (cJ (aG Gh (wb k9 (af 1)) (aU 4000))) (aO (uD 0 1 (aa (af 1) (aa (aG bU (af 0) (af 1)) az))) (cq (cJ (aG Gh (wb k9 (af 1)) (aU 4000))) (uC (ai (fun _=>none) (aa (af 0) (aP 1))) (bO (aH (ak 0) (aH (ak 1) (aH (ak 2) bN))))) bS)) B [ah (.int (a.natAbs:Nat)),ah (.int (b.natAbs:Nat)),none]
     = some (.nx [ah (.int (a.natAbs:Nat)),ah (.int (b.natAbs:Nat)),none]):=F9 (by
      clear hw hbits
      walk_at "ev") LK
   unfold dH pS
   clear hb hbits hgt
   walk_at "ev"
   rfl
  ·cases h
 ·cases h
def sg (a b:Int):Int:=if b<0 then -(Int.gcd a b:Int) else (Int.gcd a b:Int)
def qo (a b:Int):T:=.tup [.int (a.fdiv (sg a b)),.int (b.fdiv (sg a b))]
def eE:List T->Option T
 |[.int a,.int b]=>if a.natAbs<B/\b.natAbs<B/\b≠0 then some (qo a b) else none
 |_=>none
theorem iW {a b:Int}(ha:a.natAbs<B)(hb:b.natAbs<B)(h0:b≠0):eE [.int a,.int b]=some (qo a b):=if_pos ⟨ha,hb,h0⟩
theorem El {a b:Int}(h0:b≠0):¬ ((Int.gcd a b:Nat):Int)=0:=by
 intro h
 have:Int.gcd a b=0:=by omega
 rw [Int.gcd_eq_zero_iff] at this
 exact h0 this.2
theorem IV {a b:Int}(hb:b.natAbs<B)(h0:b≠0):Int.gcd a b<B:=by
 have h1:Int.gcd a b∣b.natAbs:=Int.gcd_dvd_natAbs_right a b
 have:=Nat.le_of_dvd (by omega) h1
 omega
theorem yB {x:Int}(h:x.natAbs<B):ym (.int (Builtin.Int.intBits x)) (.int 8000)=some (.bl true):=by
 show some (T.bl (decide _))=_
 rw [decide_eq_true (by have:=bits_le h;omega)]
theorem Im (ts:List T)(t:T)(h:eE ts=some t):dH 3 2 (yA fZ) ts=some t:=by
 unfold eE at h
 split at h
 ·next a b =>
  split at h
  ·next hb =>
   cases h
   obtain⟨ha,hb,h0⟩:=hb
   have h1:=lQ ha hb
   have h2:=El (a:=a) h0
   have h3:=IV (a:=a) hb h0
   have h4:((Int.gcd a b:Nat):Int).natAbs<B:=by omega
   have h5:¬ -((Int.gcd a b:Nat):Int)=0:=by omega
   have h6:(-((Int.gcd a b:Nat):Int)).natAbs<B:=by omega
   have h7:=yB h4
   have h8:=yB h6
   unfold dH yA
   by_cases hs:b<0
   ·have e:qo a b=.tup [.int (a.fdiv (-(Int.gcd a b:Int))),.int (b.fdiv (-(Int.gcd a b:Int)))]:=by unfold qo sg;rw [if_pos hs]
    walk_at "ev"
   ·have e:qo a b=.tup [.int (a.fdiv (Int.gcd a b:Int)),.int (b.fdiv (Int.gcd a b:Int))]:=by unfold qo sg;rw [if_neg hs]
    walk_at "ev"
  ·cases h
 ·cases h
theorem xY (ts:List T)(t:T)(h:eE ts=some t):dH 4 2 (jT B) ts=some t:=by
 unfold eE at h
 split at h
 ·next a b =>
  split at h
  ·next hb =>
   cases h
   obtain⟨ha,hb,h0⟩:=hb
   have h2:=El (a:=a) h0
   have h3:=IV (a:=a) hb h0
   have h4:((Int.gcd a b:Nat):Int).natAbs<B:=by omega
   have h5:¬ -((Int.gcd a b:Nat):Int)=0:=by omega
   have h6:(-((Int.gcd a b:Nat):Int)).natAbs<B:=by omega
   have hz:∀i:Int,0-i = -i:=fun i=>by omega
   have hw:=tX B (ah (.int a)) (ah (.int b)) a.natAbs b.natAbs hb
   have hg:Nat.gcd a.natAbs b.natAbs=Int.gcd a b:=rfl
   unfold dH jT
   by_cases hs:b<0
   ·have e:qo a b=.tup [.int (a.fdiv (-(Int.gcd a b:Int))),.int (b.fdiv (-(Int.gcd a b:Int)))]:=by unfold qo sg;rw [if_pos hs]
    walk_at "ev"
   ·have e:qo a b=.tup [.int (a.fdiv (Int.gcd a b:Int)),.int (b.fdiv (Int.gcd a b:Int))]:=by unfold qo sg;rw [if_neg hs]
    walk_at "ev"
  ·cases h
 ·cases h
open PySem PySem.Spec PyProof.Rows L2 TM Qm
def C:Nat:=2^1000
theorem N9:C*C+C*C<B:=by decide +kernel
theorem CB:C<B:=by decide +kernel
theorem ltB {a:Int}(h:a.natAbs<C):a.natAbs<B:=Nat.lt_trans h CB
theorem mulC {a b:Int}(ha:a.natAbs<C)(hb:b.natAbs<C):(a*b).natAbs<C*C:=by
 rw [Int.natAbs_mul]
 exact Nat.mul_lt_mul'' ha hb
theorem ET {a b:Int}(ha:a.natAbs<C)(hb:b.natAbs<C):(a*b).natAbs<B:=by
 have h1:=mulC ha hb
 have h2:=N9
 omega
theorem Nx {a b c d:Int}(ha:a.natAbs<C)(hb:b.natAbs<C)(hc:c.natAbs<C)(hd:d.natAbs<C):(a*b+c*d).natAbs<B:=by
 have h1:=mulC ha hb
 have h2:=mulC hc hd
 have h3:=N9
 omega
structure Fr (a b:Int):Prop where
 pos:0<b
 cop:OF a b
 ba:a.natAbs<C
 bb:b.natAbs<C
theorem Ba {a b:Int}(h:0<b):qo a b=.tup [.int (a.fdiv (Int.gcd a b)),.int (b.fdiv (Int.gcd a b))]:=by
 unfold qo sg
 rw [if_neg (by omega)]
def two:List T->Option (Int×Int×Int×Int)
 |[.tup [.int a,.int b],.tup [.int c,.int d]]=>some (a,b,c,d)
 |_=>none
theorem Ln {ts:List T}{a b c d:Int}(h:two ts=some (a,b,c,d)):ts=[.tup [.int a,.int b],.tup [.int c,.int d]]:=by
 unfold two at h
 split at h
 ·cases h;rfl
 ·cases h
instance (a b:Int):Decidable (Fr a b):=decidable_of_iff (0<b/\Int.gcd a b=1/\a.natAbs<C/\b.natAbs<C) ⟨fun h=>⟨h.1,h.2.1,h.2.2.1,h.2.2.2⟩,fun h=>⟨h.pos,h.cop,h.ba,h.bb⟩⟩
def Hx (C:Int->Int->Int->Int->Bool)(g:Int->Int->Int->Int->T):List T->Option T:=fun ts=>(two ts).bind fun p=>if Fr p.1 p.2.1/\Fr p.2.2.1 p.2.2.2/\C p.1 p.2.1 p.2.2.1 p.2.2.2=true then some (g p.1 p.2.1 p.2.2.1 p.2.2.2) else none
theorem xu {C:Int->Int->Int->Int->Bool}{g:Int->Int->Int->Int->T}{ts:List T}{t:T}(h:Hx C g ts=some t):∃a b c d,ts=[.tup [.int a,.int b],.tup [.int c,.int d]]/\Fr a b/\Fr c d/\C a b c d=true/\t=g a b c d:=by
 obtain⟨⟨a,b,c,d⟩,e,h⟩:=bind_some h
 dsimp only at h
 split at h
 ·next k=>cases h;exact⟨a,b,c,d,Ln e,k.1,k.2.1,k.2.2,rfl⟩
 ·cases h
theorem Bq {C:Int->Int->Int->Int->Bool}{g:Int->Int->Int->Int->T}{a b c d:Int}(h1:Fr a b)(h2:Fr c d)(h3:C a b c d=true):Hx C g [.tup [.int a,.int b],.tup [.int c,.int d]]=some (g a b c d):=if_pos ⟨h1,h2,h3⟩
abbrev Gi:=Hx (fun _ _ _ _=>true) fun a b c d=>qo (a*d+c*b) (b*d)
abbrev Hw:=Hx (fun _ _ _ _=>true) fun a b c d=>qo (a*c) (b*d)
open Rq
def bL (q:Rat):T:=.tup [.int q.num,.int (q.den:Int)]
theorem kM {a b:Int}(hb:0<b):qo a b=bL (Rat.divInt a b):=by
 have hs:b.sign=1:=Int.sign_eq_one_of_pos hb
 have hg:(Int.gcd b a:Int)=(Int.gcd a b:Int):=by rw [Int.gcd_comm]
 rw [Ba hb]
 unfold bL
 rw [Rat.num_divInt,Rat.den_divInt,if_neg (by omega),hs,Int.one_mul,hg,Int.fdiv_eq_ediv_of_nonneg _ (by omega),Int.fdiv_eq_ediv_of_nonneg _ (by omega)]
 congr 3
 rw [Int.natCast_ediv,Int.natAbs_of_nonneg (by omega),hg]
structure Sm (q:Rat):Prop where
 n:q.num.natAbs<C
 d:q.den<C
theorem Sm.fr {q:Rat}(h:Sm q):Fr q.num q.den:=⟨by have:=q.den_nz;omega,by
 have:=q.reduced
 show Int.gcd q.num q.den=1
 exact this,h.n,by have:=h.d;omega⟩
theorem gU (q:Rat):Rat.divInt q.num q.den=q:=Rat.num_divInt_den q
theorem den_pos (q:Rat):(0:Int)<(q.den:Int):=by have:=q.den_nz;omega
theorem add_eq (x y:Rat):qo (x.num*y.den+y.num*x.den) (x.den*y.den)=bL (x+y):=by
 rw [kM (Int.mul_pos (den_pos x) (den_pos y))]
 congr 1
 rw [<- Rat.divInt_add_divInt _ _ (Int.ne_of_gt (den_pos x)) (Int.ne_of_gt (den_pos y)),gU,gU]
theorem mul_eq (x y:Rat):qo (x.num*y.num) (x.den*y.den)=bL (x*y):=by
 rw [kM (Int.mul_pos (den_pos x) (den_pos y))]
 congr 1
 rw [<- Rat.divInt_mul_divInt,gU,gU]
theorem IZ {x y:Rat}(hx:Sm x)(hy:Sm y):Gi [bL x,bL y]=some (bL (x+y)):=by
 have h:=Bq (C:=fun _ _ _ _=>true) (g:=fun a b c d=>qo (a*d+c*b) (b*d)) hx.fr hy.fr rfl
 rw [add_eq] at h
 exact h
theorem Je {x y:Rat}(hx:Sm x)(hy:Sm y):Hw [bL x,bL y]=some (bL (x*y)):=by
 have h:=Bq (C:=fun _ _ _ _=>true) (g:=fun a b c d=>qo (a*c) (b*d)) hx.fr hy.fr rfl
 rw [mul_eq] at h
 exact h
theorem OH:2^100*DD 12<C:=by decide +kernel
theorem BK {k m:Nat}{q:Rat}(h:Lq k m q)(hk:k≤12)(hm:m≤2^100):Sm q:=by
 obtain⟨h1,h2⟩:=h.bd
 have hd:DD k≤DD 12:=Nat.pow_le_pow_right (by decide) hk
 have hp:=t9 k
 have h3:q.den≤DD k:=Nat.le_of_dvd hp h2
 have h4:m*DD k≤2^100*DD 12:=Nat.mul_le_mul hm hd
 have h5:DD k≤2^100*DD 12:=Nat.le_trans hd (Nat.le_mul_of_pos_left _ (by decide))
 have:=OH
 exact⟨by omega,by omega⟩
open PySem PySem.Spec PyProof.Rows L2 TM Qm Rq
open Classical in
def mk {α:Type}(R:List T->α->Prop):List T->Option α:=fun ts=>if h:∃t,R ts t then some (Classical.choose h) else none
theorem zC {α:Type}{R:List T->α->Prop}{ts:List T}{t:α}(h:mk R ts=some t):R ts t:=by
 unfold mk at h
 split at h
 ·next hh=>cases h;exact Classical.choose_spec hh
 ·cases h
theorem mk_eq {α:Type}{R:List T->α->Prop}{ts:List T}{t:α}(h:R ts t)(u:∀t',R ts t'->t'=t):mk R ts=some t:=by
 unfold mk
 rw [dif_pos ⟨t,h⟩]
 congr 1
 exact u _ (Classical.choose_spec (⟨t,h⟩:∃t,R ts t))
theorem HP {x y:Rat}(h:bL x=bL y):x=y:=by
 unfold bL at h
 injection h with h
 injection h with h1 h2
 injection h2 with h2 _
 injection h1 with h1
 injection h2 with h2
 exact Rat.ext h1 (by omega)
theorem map_inj {α β:Type}{f:α->β}(hf:∀x y,f x=f y->x=y):∀{a b:List α},a.map f=b.map f->a=b
 |[],[],_=>rfl
 |[],_::_,h=>by cases h
 |_::_,[],h=>by cases h
 |x::a,y::b,h=>by
  rw [List.map_cons,List.map_cons] at h
  injection h with h1 h2
  rw [hf _ _ h1,map_inj hf h2]
def ar (r:List Rat):T:=.lst (r.map bL)
def aq (A:List (List Rat)):T:=.lst (A.map ar)
def dW (r:List Rat):O:=NU (r.map bL)
def kW (A:List (List Rat)):O:=.lst (A.map dW)
theorem qV {r s:List Rat}(h:ar r=ar s):r=s:=by
 unfold ar at h
 injection h with h
 exact map_inj (fun _ _=>HP) h
theorem FR {r s:List (List Rat)}(h:aq r=aq s):r=s:=by
 unfold aq at h
 injection h with h
 exact map_inj (fun _ _=>qV) h
theorem ju (r:List Rat):(dW r).tr=ar r:=by
 show T.lst (O.trs ((r.map bL).map O.val))=_
 rw [eP]
 rfl
theorem kR {α:Type}{f:α->O}{g:α->T}(h:∀x,(f x).tr=g x):∀l:List α,O.trs (l.map f)=l.map g
 |[]=>rfl
 |x::l=>by rw [List.map_cons,O.trs,kR h l,h x];rfl
theorem pJ (A:List (List Rat)):(kW A).tr=aq A:=by
 show T.lst (O.trs (A.map dW))=_
 rw [kR ju]
 rfl
theorem bZ {α:Type}{φ:α->T}{fe:FE}{g:α->T}{ρ:aK}(hr:cM ρ=true):∀(l:List α) (u:Option Sl) (acc:List T),(∀x∈l,fe (ah (φ x)::ρ)=some (g x,ah (φ x)::ρ))->acc.length+l.length≤sizeLine->cY (ak 0) aA fe (l.map φ) (u::ρ) acc=some (acc++l.map g)
 |[],u,acc,_,_=>by simp [cY]
 |x::l,u,acc,h,hl=>by
  have hl':acc.length+(l.length+1)≤sizeLine:=hl
  rw [List.map_cons,cY,show ak 0 (φ x) (u::ρ)=some (ah (φ x)::ρ) from rfl,Option.bind_some,show aA (ah (φ x)::ρ)=some (true,ah (φ x)::ρ) from rfl,Option.bind_some,if_pos rfl,h x List.mem_cons_self,Option.bind_some,if_pos ⟨hr,by omega⟩,
   bZ hr l _ _ (fun z hz=>h z (List.mem_cons_of_mem _ hz)) (by rw [List.length_append];simp;omega),List.map_cons,List.append_assoc]
  rfl
theorem gR {α:Type}{φ:α->T}{fe:jH}{g:α->O}{ρ:aK}(hr:cM ρ=true):∀(l:List α) (u:Option Sl) (acc:List O),(∀x∈l,fe (ah (φ x)::ρ)=some (g x,ah (φ x)::ρ))->acc.length+l.length≤sizeLine->eV (ak 0) aA fe (l.map φ) (u::ρ) acc=some (acc++l.map g)
 |[],u,acc,_,_=>by simp [eV]
 |x::l,u,acc,h,hl=>by
  have hl':acc.length+(l.length+1)≤sizeLine:=hl
  rw [List.map_cons,eV,show ak 0 (φ x) (u::ρ)=some (ah (φ x)::ρ) from rfl,Option.bind_some,show aA (ah (φ x)::ρ)=some (true,ah (φ x)::ρ) from rfl,Option.bind_some,if_pos rfl,h x List.mem_cons_self,Option.bind_some,if_pos ⟨hr,by omega⟩,
   gR hr l _ _ (fun z hz=>h z (List.mem_cons_of_mem _ hz)) (by rw [List.length_append];simp;omega),List.map_cons,List.append_assoc]
  rfl
abbrev jo:FG:=bO (aH (ak 0) (aH (ak 1) bN))
theorem Hk (x y:T)(u v:Option Sl)(ρ:aK):jo (.tup [x,y]) (u::v::ρ)=some (ah x::ah y::ρ):=rfl
theorem jZ {α:Type}{φ ψ:α->T}{fe:FE}{g:α->T}{ρ:aK}(hr:cM ρ=true):∀(l:List α) (u v:Option Sl) (acc:List T),(∀x∈l,fe (ah (φ x)::ah (ψ x)::ρ)=some (g x,ah (φ x)::ah (ψ x)::ρ))->acc.length+l.length≤sizeLine ->
  cY jo aA fe (l.map fun x=>.tup [φ x,ψ x]) (u::v::ρ) acc=some (acc++l.map g)
 |[],u,v,acc,_,_=>by simp [cY]
 |x::l,u,v,acc,h,hl=>by
  have hl':acc.length+(l.length+1)≤sizeLine:=hl
  rw [List.map_cons,cY,Hk,Option.bind_some,show aA (ah (φ x)::ah (ψ x)::ρ)=some (true,ah (φ x)::ah (ψ x)::ρ) from rfl,Option.bind_some,if_pos rfl,h x List.mem_cons_self,Option.bind_some,if_pos ⟨hr,by omega⟩,
   jZ hr l _ _ _ (fun z hz=>h z (List.mem_cons_of_mem _ hz)) (by rw [List.length_append];simp;omega),List.map_cons,List.append_assoc]
  rfl
theorem ng {α β:Type}(φ:α->T)(ψ:β->T):∀(r:List α) (s:List β),jG (r.map φ) (s.map ψ)=(List.zip r s).map fun p=>.tup [φ p.1,ψ p.2]
 |[],s=>by simp [jG]
 |x::r,[]=>by simp [jG]
 |x::r,y::s=>by simp [jG,ng φ ψ r s]
theorem Ah:∀(n:Nat) (lo:Int),TM.upTo lo n=(List.range n).map fun (i:Nat)=>T.int (lo+i):=by
 intro n lo
 apply List.ext_getElem?
 intro i
 by_cases h:i<n
 ·rw [rF n lo i h,List.getElem?_map,List.getElem?_range h];rfl
 ·rw [List.getElem?_eq_none (by rw [iq];omega),List.getElem?_eq_none (by simp;omega)]
theorem yh (n:Nat):TM.upTo 0 n=(List.range n).map fun (i:Nat)=>T.int i:=by
 rw [Ah]
 congr 1
 funext i
 congr 1
 omega
theorem cj {no:Nat}{cap:List Nat}{fi:FA}{fg:FG}{ft:FT}{fe:FE}{τ:aK}{ts us:List T}(h1:fi τ=some (ts,τ))(h2:frzAll cap τ=τ)(h3:cM (cN no cap τ)=true)(h4:cY fg ft fe ts (cN no cap τ) []=some us):bB no cap fi fg ft fe τ=some (.lst us,τ):=by
 unfold bB
 rw [h1,Option.bind_some]
 dsimp only
 rw [h2,if_pos h3,h4]
 rfl
theorem iR {no:Nat}{cap:List Nat}{fi:FA}{fg:FG}{ft:FT}{fe:jH}{τ:aK}{ts:List T}{us:List O}(h1:fi τ=some (ts,τ))(h2:frzAll cap τ=τ)(h3:cM (cN no cap τ)=true)(h4:eV fg ft fe ts (cN no cap τ) []=some us):eW no cap fi fg ft fe τ=some (.lst us,τ):=by
 unfold eW
 rw [h1,Option.bind_some]
 dsimp only
 rw [h2,if_pos h3,h4]
 rfl
theorem b9 {fg:FG}{fb:FS}{t:T}{ts:List T}{τ τ1 τ2:aK}(h1:fg t τ=some τ1)(h2:fb τ1=some (.nx τ2)):bV fg fb (t::ts) τ=bV fg fb ts τ2:=by
 rw [bV,h1,Option.bind_some,h2]
 rfl
theorem mS {f:FE}{τ:aK}{n:Int}(h:f τ=some (.int n,τ))(h0:0≤n)(h1:n≤1000):bA (aa f az) τ=some (TM.upTo 0 n.toNat,τ):=by
 unfold bA aa az
 rw [h]
 show (if _ then _ else _)=_
 rw [if_pos (by omega)]
theorem gb {f:FE}{τ:aK}{n:Nat}(h:f τ=some (.int n,τ))(h1:n≤1000):bA (aa f az) τ=some ((List.range n).map fun (i:Nat)=>T.int i,τ):=by
 have e:=mS h (by omega) (by omega)
 rw [Int.toNat_natCast,yh] at e
 exact e
structure Gd (k m:Nat)(r:List Rat):Prop where
 len:r.length≤8
 lq:∀x∈r,Lq k m x
def Oa (k m:Nat):Prop:=k≤6/\m≤2^40
theorem Ga:bL 0=.tup [.int 0,.int 1]:=rfl
theorem zV {n:Nat}(h:n≤8):([]:List O).length+n≤sizeLine:=by rw [List.length_nil,Nat.zero_add];exact dG (by omega)
theorem cz {n:Nat}(h:n≤8):([]:List T).length+n≤sizeLine:=by rw [List.length_nil,Nat.zero_add];exact dG (by omega)
theorem pL {α β:Type}(r:List α)(s:List β)(h:r.length≤8):(List.zip r s).length≤8:=by rw [List.length_zip];omega
theorem pM {α β:Type}{r:List α}{s:List β}{p:α×β}(h:p∈List.zip r s):p.1∈r/\p.2∈s:=⟨(List.of_mem_zip h).1,(List.of_mem_zip h).2⟩
theorem fY {g:List T->Option O}{f:FA}{ρ:aK}{t:O}(ts:List T)(h1:f ρ=some (ts,ρ))(h2:g ts=some t):cy g f ρ=some (t,ρ):=by
 unfold cy
 rw [h1,Option.bind_some]
 dsimp only
 rw [h2]
 rfl
theorem aN {g:List T->Option T}{f:FA}{ρ:aK}{t:T}(ts:List T)(h1:f ρ=some (ts,ρ))(h2:g ts=some t):ai g f ρ=some (t,ρ):=by
 unfold ai
 rw [h1,Option.bind_some]
 dsimp only
 rw [h2]
 rfl
def bh (r:List Rat):Nat:=r.foldl (fun l x=>Nat.lcm l x.den) 1
theorem xr:∀(r:List Rat) (l:Nat),l∣r.foldl (fun l x=>Nat.lcm l x.den) l
 |[],l=>Nat.dvd_refl l
 |x::r,l=>Nat.dvd_trans (Nat.dvd_lcm_left _ _) (xr r _)
theorem AN:∀(r:List Rat) (l:Nat) (x:Rat),x∈r->x.den∣r.foldl (fun l x=>Nat.lcm l x.den) l
 |y::r,l,x,h=>by
  rcases List.mem_cons.mp h with rfl | h
  ·exact Nat.dvd_trans (Nat.dvd_lcm_right _ _) (xr r _)
  ·exact AN r _ x h
theorem OG {k:Nat}(h:k≤12):DD k<B:=by
 have hd:DD k≤DD 12:=Nat.pow_le_pow_right (by decide) h
 have:DD 12<B:=by decide +kernel
 omega
theorem EE {l b:Nat}(hl:0<l)(hb:0<b):((l:Int).fdiv (Int.gcd (l:Int) (b:Int):Nat))*(b:Int)=(Nat.lcm l b:Nat):=by
 have hg:Int.gcd (l:Int) (b:Int)=Nat.gcd l b:=rfl
 rw [hg,Int.fdiv_eq_ediv_of_nonneg _ (by omega)]
 have:(l:Int)/(Nat.gcd l b:Nat)=((l/Nat.gcd l b:Nat):Int):=by rw [Int.natCast_ediv]
 rw [this,<- Int.natCast_mul]
 congr 1
 unfold Nat.lcm
 rw [Nat.div_mul_right_comm (Nat.gcd_dvd_left l b)]
def rd:FS:=aX 1 (aG bI (aG dC (af 1) (ai fZ (aa (af 1) (aP 3)))) (af 3))
theorem BB {D:Nat}(hB:D<B)(hp:0<D)(x0:Option Sl):∀(r:List Rat) (l:Nat) (u v:Option Sl),l∣D->(∀x∈r,x.den∣D)->∃u' v',bV (bO (aH (ak 2) (aH (ak 3) bN))) rd (r.map bL) [x0,ah (.int l),u,v]
  = some (.nx [x0,ah (.int (r.foldl (fun l x=>Nat.lcm l x.den) l:Nat)),u',v'])
 |[],l,u,v,_,_=>⟨u,v,by simp [bV]⟩
 |x::r,l,u,v,h1,h2=>by
  have hl0:0<l:=Nat.pos_of_dvd_of_pos h1 hp
  have hl:l≤D:=Nat.le_of_dvd hp h1
  have hd:=h2 x List.mem_cons_self
  have hd0:0<x.den:=Nat.pos_of_ne_zero x.den_nz
  have hdl:x.den≤D:=Nat.le_of_dvd hp hd
  obtain⟨u',v',ih⟩:=BB hB hp x0 r (Nat.lcm l x.den) (ah (.int x.num)) (ah (.int x.den)) (Nat.lcm_dvd h1 hd) fun z hz=>h2 z (List.mem_cons_of_mem _ hz)
  refine⟨u',v',?_⟩
  have k1:=lQ (a:=(l:Int)) (b:=(x.den:Int)) (by omega) (by omega)
  have e1:=EE hl0 hd0
  have hg:Int.gcd (l:Int) (x.den:Int)≤l:=by
   show Nat.gcd l x.den≤l
   exact Nat.le_of_dvd hl0 (Nat.gcd_dvd_left _ _)
  have hg0:0<Int.gcd (l:Int) (x.den:Int):=by
   show 0<Nat.gcd l x.den
   exact Nat.gcd_pos_of_pos_left _ hl0
  have n1:¬ ((Int.gcd (l:Int) (x.den:Int):Nat):Int)=0:=by omega
  have n2:((Int.gcd (l:Int) (x.den:Int):Nat):Int).natAbs<B:=by omega
  have n3:((l:Int).fdiv ((Int.gcd (l:Int) (x.den:Int):Nat):Int)).natAbs<B:=by
   rw [Int.fdiv_eq_ediv_of_nonneg _ (by omega)]
   have:=Int.ediv_le_self ((Int.gcd (l:Int) (x.den:Int):Nat):Int) (show (0:Int)≤(l:Int) by omega)
   have:=Int.ediv_nonneg (show (0:Int)≤(l:Int) by omega) (show (0:Int)≤((Int.gcd (l:Int) (x.den:Int):Nat):Int) by omega)
   omega
  have n4:(x.den:Int).natAbs<B:=by omega
  have hb:rd [x0,ah (.int l),ah (.int x.num),ah (.int x.den)]=some (.nx [x0,ah (.int (Nat.lcm l x.den:Nat)),ah (.int x.num),ah (.int x.den)]):=by
   rw [<- e1]
   clear ih h1 h2 hB hp hl0 hl hd hd0 hdl e1 hg hg0
   unfold rd
   walk_at "ev"
  rw [List.map_cons,b9 (τ1:=[x0,ah (.int l),ah (.int x.num),ah (.int x.den)]) rfl hb,ih]
  rfl
structure Gn (D N:Nat)(r:List Rat):Prop where
 len:r.length≤8
 den:∀x∈r,x.den∣D
 num:∀x∈r,x.num.natAbs≤N
 dp:0<D
 db:D<B
 nb:N<B
theorem JC:2^40*DD 6<B:=by decide +kernel
theorem Gn.of {k m:Nat}{r:List Rat}(h:Gd k m r)(f:Oa k m):Gn (DD k) (m*DD k) r:=by
 have hd:DD k≤DD 6:=Nat.pow_le_pow_right (by decide) f.1
 exact⟨h.len,fun x hx=>(h.lq x hx).bd.2,fun x hx=>(h.lq x hx).bd.1,t9 k,OG (by have:=f.1;omega),Nat.lt_of_le_of_lt (Nat.mul_le_mul f.2 hd) JC⟩
def OL (ts:List T)(t:T):Prop:=∃r D N,ts=[ar r]/\Gn D N r/\t=.int (bh r:Nat)
def Jc:List T->Option T:=mk OL
theorem Fp {r r':List Rat}(e:([ar r]:List T)=[ar r']):r=r':=by
 injection e with e _
 exact qV e
theorem Jd {r:List Rat}{D N:Nat}(h1:Gn D N r):Jc [ar r]=some (.int (bh r:Nat)):=
 mk_eq ⟨r,D,N,rfl,h1,rfl⟩ fun t' ⟨r',_,_,e,_,e2⟩=>by rw [e2,Fp e]
theorem n9 (ts:List T)(t:T)(h:Jc ts=some t):dH 4 1 (gq fZ) ts=some t:=by
 obtain⟨r,D,N,rfl,h1,rfl⟩:=zC h
 clear h
 obtain⟨u,v,hl⟩:=BB h1.db h1.dp (ah (ar r)) r 1 none none (Nat.one_dvd _) h1.den
 have e:dH 4 1 (gq fZ) [ar r]=(((bV (bO (aH (ak 2) (aH (ak 3) bN))) rd (r.map bL) [ah (ar r),ah (.int 1),none,none]).bind fun r=>match r with | .nx τ'=>bE (af 1) τ' | r=>some r).bind fun r=>match r with | .rt t=>some t | .nx _=>some .non | _=>none):=rfl
 have hl':bV (bO (aH (ak 2) (aH (ak 3) bN))) rd (r.map bL) [ah (ar r),ah (.int 1),none,none]=_:=hl
 rw [e,hl']
 rfl
def h9 (L:Nat)(x:Rat):Int:=x.num*((L:Int).fdiv x.den)
theorem Ac {L:Nat}{x:Rat}(hL:0<L)(h:x.den∣L):Rat.divInt (h9 L x) L=x:=by
 obtain⟨c,hc⟩:=h
 have hc0:(c:Int)≠0:=fun z=>by
  have:c=0:=by omega
  rw [this,Nat.mul_zero] at hc
  omega
 have hd:=den_pos x
 have e:(L:Int).fdiv x.den=c:=by
  rw [hc,Int.natCast_mul]
  exact Int.mul_fdiv_cancel_left _ (by omega)
 unfold h9
 rw [e,hc,Int.natCast_mul,Rat.divInt_mul_right hc0]
 exact gU x
def OK (ts:List T)(t:T):Prop:=∃r D N,ts=[ar r,.int (bh r:Nat)]/\Gn D N r/\t=.lst (r.map fun x=>T.int (h9 (bh r) x))
def Ja:List T->Option T:=mk OK
theorem Jb {r:List Rat}{D N:Nat}(h1:Gn D N r):Ja [ar r,.int (bh r:Nat)]=some (.lst (r.map fun x=>T.int (h9 (bh r) x))):=
 mk_eq ⟨r,D,N,rfl,h1,rfl⟩ fun t' hq__=>by
  obtain⟨r',_,_,e,_,e2⟩:=hq__
  injection e with e3 e4
  rw [e2,qV e3]
theorem xq {D:Nat}:∀(r:List Rat) (l:Nat),l∣D->(∀x∈r,x.den∣D)->r.foldl (fun l x=>Nat.lcm l x.den) l∣D
 |[],l,h,_=>h
 |x::r,l,h,hx=>xq r _ (Nat.lcm_dvd h (hx x List.mem_cons_self)) fun z hz=>hx z (List.mem_cons_of_mem _ hz)
theorem iV {r:List Rat}{D N:Nat}(h1:Gn D N r):bh r∣D/\0<bh r/\∀x∈r,x.den∣bh r:=by
 have h:bh r∣D:=xq r 1 (Nat.one_dvd _) h1.den
 exact⟨h,Nat.pos_of_dvd_of_pos h h1.dp,fun x hx=>AN r 1 x hx⟩
theorem Jp {D N:Nat}{x:Rat}{L:Nat}(hx:x.num.natAbs≤N)(hp:0<D)(hL:L∣D):(h9 L x).natAbs≤N*D:=by
 have hl:L≤D:=Nat.le_of_dvd hp hL
 have hd:=den_pos x
 unfold h9
 rw [Int.natAbs_mul,Int.fdiv_eq_ediv_of_nonneg _ (by omega)]
 refine Nat.mul_le_mul hx ?_
 have:=Int.ediv_le_self (x.den:Int) (show (0:Int)≤(L:Int) by omega)
 have:=Int.ediv_nonneg (show (0:Int)≤(L:Int) by omega) (show (0:Int)≤(x.den:Int) by omega)
 omega
theorem C5 (ts:List T)(t:T)(h:Ja ts=some t):dH 2 2 wu ts=some t:=by
 obtain⟨r,D,N,rfl,h1,rfl⟩:=zC h
 clear h
 obtain⟨q1,q2,q3⟩:=iV h1
 have hB:=h1.db
 have hN:=h1.nb
 have hLk:bh r≤D:=Nat.le_of_dvd h1.dp q1
 have hc:=jZ (φ:=fun x:Rat=>T.int x.num) (ψ:=fun x=>T.int x.den) (fe:=aG bI (af 0) (aG dC (af 2) (af 1))) (g:=fun x=>T.int (h9 (bh r) x)) (ρ:=[ah (.int (bh r:Nat))]) rfl r none none [] (fun x hx=>by
  have hd:=den_pos x
  have hxd:x.den≤bh r:=Nat.le_of_dvd q2 (q3 x hx)
  have n1:¬ ((x.den:Int)=0):=by omega
  have n2:(x.den:Int).natAbs<B:=by omega
  have n3:x.num.natAbs<B:=by have:=h1.num x hx;omega
  have n4:((bh r:Nat):Int).fdiv (x.den:Int)=((bh r:Nat):Int)/(x.den:Int):=Int.fdiv_eq_ediv_of_nonneg _ (by omega)
  have n5:(((bh r:Nat):Int).fdiv (x.den:Int)).natAbs<B:=by
   rw [n4]
   have:=Int.ediv_le_self (x.den:Int) (show (0:Int)≤((bh r:Nat):Int) by omega)
   have:=Int.ediv_nonneg (show (0:Int)≤((bh r:Nat):Int) by omega) (show (0:Int)≤(x.den:Int) by omega)
   omega
  have e:h9 (bh r) x=x.num*((bh r:Nat):Int).fdiv (x.den:Int):=rfl
  rw [e]
  clear e n4 hd hxd q1 q2 q3 hB hN hLk h1 hx
  walk_at "ev") (cz h1.len)
 have e:=cj (no:=2) (cap:=[1]) (fi:=bo (af 0)) (fg:=jo) (ft:=aA) (τ:=[ah (ar r),ah (.int (bh r:Nat))]) (h1:=rfl) rfl rfl hc
 show (((bB 2 [1] _ jo aA _ [ah (ar r),ah (.int (bh r:Nat))]).bind fun p=>some (R.rt p.1)).bind _)=_
 rw [e]
 rfl
theorem Ew {r:List Rat}{j:Nat}(h:j<r.length):cK (ar r) (aB j)=some (bL (r.getD j 0)):=by
 have e:(r.map bL)[j]? = some (bL (r.getD j 0)):=by
  rw [List.getElem?_map,List.getD_eq_getElem?_getD,List.getElem?_eq_getElem h]
  rfl
 exact um e
def Wd (w:Nat)(A:List (List Rat)):Prop:=∀r∈A,r.length=w
def cF (A:List (List Rat))(w:Nat):List (List Rat):=(List.range w).map fun j=>cS A j
def OM (ts:List T)(o:O):Prop:=∃A,∃w:Nat,ts=[aq A,aB w]/\A.length≤8/\Wd w A/\w≤8/\o=kW (cF A w)
def Jf:List T->Option O:=mk OM
theorem Hn {a b:Nat}(h:aB a=aB b):a=b:=by
 injection h with h
 omega
theorem Jg {A:List (List Rat)}{w:Nat}(h1:A.length≤8)(h2:Wd w A)(h3:w≤8):Jf [aq A,aB w]=some (kW (cF A w)):=
 mk_eq ⟨A,w,rfl,h1,h2,h3,rfl⟩ fun t' hq__=>by
  obtain⟨A',w',e,_,_,_,e2⟩:=hq__
  injection e with e3 e4
  injection e4 with e4 _
  rw [e2,FR e3,Hn e4]
theorem C6 (ts:List T)(o:O)(h:Jf ts=some o):ji 2 2 jX ts=some o:=by
 obtain⟨A,w,rfl,h1,h2,h3,rfl⟩:=zC h
 clear h
 have inner:∀j:Nat,j<w->eW 1 [0] (bo (af 1)) (ak 0) aA (mC (aG cK (af 0) (af 1))) [ah (aB j),ah (aq A)]=some (dW (cS A j),[ah (aB j),ah (aq A)]):=fun j hj=>by
  have hc:=gR (φ:=ar) (fe:=mC (aG cK (af 0) (af 1))) (g:=fun r=>O.val (bL (r.getD j 0))) (ρ:=[ah (aB j)]) rfl A none [] (fun r hr=>by
   have e:=Ew (r:=r) (j:=j) (by rw [h2 r hr];exact hj)
   show (((cK (ar r) (aB j)).bind fun t=>some (t,[some (Sl.sh (ar r)),some (Sl.sh (aB j))])).bind fun p=>some (O.val p.1,p.2))=_
   rw [e]
   rfl) (zV h1)
  have e:=iR (no:=1) (cap:=[0]) (fi:=bo (af 1)) (fg:=ak 0) (ft:=aA) (τ:=[ah (aB j),ah (aq A)]) rfl rfl rfl hc
  rw [e]
  show some (O.lst (A.map fun r=>O.val (bL (r.getD j 0))),_)=some (O.lst (((cS A j).map bL).map O.val),_)
  unfold cS
  rw [List.map_map,List.map_map]
  rfl
 have hc:=gR (φ:=fun j:Nat=>aB j) (fe:=eW 1 [0] (bo (af 1)) (ak 0) aA (mC (aG cK (af 0) (af 1)))) (g:=fun j=>dW (cS A j)) (ρ:=[ah (aq A)]) rfl (List.range w) none [] (fun j hj=>inner j (List.mem_range.mp hj)) (zV (by rw [List.length_range];exact h3))
 have e:=iR (no:=1) (cap:=[0]) (fi:=bA (aP 1)) (fg:=ak 0) (ft:=aA) (τ:=[ah (aq A),ah (aB w)]) (gb (f:=af 1) rfl (by omega)) rfl rfl hc
 have e0:ji 2 2 jX [aq A,aB w]=jX [ah (aq A),ah (aB w)]:=rfl
 rw [e0]
 unfold jX ik
 rw [e]
 show some (O.lst ((List.range w).map fun j=>dW (cS A j)))=some (O.lst ((cF A w).map dW))
 unfold cF
 rw [List.map_map]
 rfl
abbrev EN:List T->Option T:=fun ts=>(Jf ts).bind fun o=>some o.tr
theorem Kp {A:List (List Rat)}{w:Nat}(h1:A.length≤8)(h2:Wd w A)(h3:w≤8):EN [aq A,aB w]=some (aq (cF A w)):=by
 show (Jf _).bind _=_
 rw [Jg h1 h2 h3]
 show some (kW _).tr=_
 rw [pJ]
theorem zW (ts:List T)(t:T)(h:Gi ts=some t):dH 2 2 (lD eE) ts=some t:=by
 obtain⟨a,b,c,d,rfl,h1,h2,_,rfl⟩:=xu h
 clear h
 have hbd:b*d≠0:=Int.ne_of_gt (Int.mul_pos h1.pos h2.pos)
 have q1:=iW (Nx h1.ba h2.bb h2.ba h1.bb) (ET h1.bb h2.bb) hbd
 have w1:=ltB h1.ba
 have w2:=ltB h1.bb
 have w3:=ltB h2.ba
 have w4:=ltB h2.bb
 clear h1 h2 hbd
 unfold dH lD
 walk_at "ev"
theorem vT (ts:List T)(t:T)(h:Hw ts=some t):dH 2 2 (jg eE) ts=some t:=by
 obtain⟨a,b,c,d,rfl,h1,h2,_,rfl⟩:=xu h
 clear h
 have hbd:b*d≠0:=Int.ne_of_gt (Int.mul_pos h1.pos h2.pos)
 have q1:=iW (ET h1.ba h2.ba) (ET h1.bb h2.bb) hbd
 have w1:=ltB h1.ba
 have w2:=ltB h1.bb
 have w3:=ltB h2.ba
 have w4:=ltB h2.bb
 clear h1 h2 hbd
 unfold dH jg
 walk_at "ev"
mutual
theorem eqv_refl:∀d:PyData,d.canLay0=true->PyData.eqv d d=true
 | .none,_=>by simp [PyData.eqv]
 | .bool _,_=>by simp [PyData.eqv]
 | .int _,_=>by simp [PyData.eqv]
 | .str _,_=>by simp [PyData.eqv]
 | .list xs,h=>by
  simp only [PyData.canLay0] at h
  simp only [PyData.eqv]
  exact eqvAll_refl xs h
 | .tuple xs,h=>by
  simp only [PyData.canLay0] at h
  simp only [PyData.eqv]
  exact eqvAll_refl xs h
 | .dict _,h=>by simp [PyData.canLay0] at h
theorem eqvAll_refl:∀ds:List PyData,PyData.canLayAll0 ds=true->PyData.eqvAll ds ds=true
 |[],_=>by simp [PyData.eqvAll]
 |d::ds,h=>by
  simp only [PyData.canLayAll0,Bool.and_eq_true] at h
  simp only [PyData.eqvAll,eqv_refl d h.1,eqvAll_refl ds h.2,Bool.and_self]
end
def Ih (n:Nat)(t:T):Prop:=∃d,Dd t=some d/\d.canLay0=true/\d.depth≤n
theorem BG {n:Nat}:∀{ts:List T},(∀x∈ts,Ih n x)->∃ds,og ts=some ds/\PyData.canLayAll0 ds=true/\PyData.depthAll ds≤n
 |[],_=>⟨[],rfl,rfl,Nat.zero_le _⟩
 |t::ts,h=>by
  obtain⟨d,h1,h2,h3⟩:=h t List.mem_cons_self
  obtain⟨ds,g1,g2,g3⟩:=BG fun x hx=>h x (List.mem_cons_of_mem _ hx)
  refine⟨d::ds,by simp only [og,h1,g1,Option.bind_some],by simp only [PyData.canLayAll0,h2,g2,Bool.and_self],by simp only [PyData.depthAll];omega⟩
theorem vL {n:Nat}{ts:List T}(h:∀x∈ts,Ih n x):Ih (n+1) (.lst ts):=by
 obtain⟨ds,h1,h2,h3⟩:=BG h
 exact⟨.list ds,by simp only [Dd,h1,Option.map_some],by simp only [PyData.canLay0,h2],by simp only [PyData.depth];omega⟩
theorem FD (q:Rat):Ih 1 (bL q):=⟨.tuple [.int q.num,.int q.den],rfl,rfl,Nat.le_of_ble_eq_true rfl⟩
theorem vM (r:List Rat):Ih 2 (ar r):=vL fun x hx=>by
 obtain⟨q,_,rfl⟩:=List.mem_map.mp hx
 exact FD q
theorem mY (A:List (List Rat)):Ih 3 (aq A):=vL fun x hx=>by
 obtain⟨q,_,rfl⟩:=List.mem_map.mp hx
 exact vM q
theorem cmp_self {neg:Bool}{t:T}{n:Nat}(h:Ih n t)(hn:n≤60):Cw neg t t=some (.bl (!neg)):=by
 obtain⟨d,h1,h2,h3⟩:=h
 have hs:SeqAt.shaped d=true:=by
  unfold SeqAt.shaped
  rw [h2,Bool.true_and]
  exact decide_eq_true (by omega)
 unfold Cw
 rw [h1,Option.bind_some,Option.bind_some,if_pos ⟨hs,hs⟩,eqv_refl d h2]
 cases neg<;>rfl
theorem DP (ts:List T)(x:T):nz (ts++[x]) none (some (-1))=ts:=by
 unfold nz
 have h1:HT.fz (ts++[x]).length 0 none=0:=rfl
 have h2:HT.fz (ts++[x]).length (ts++[x]).length (some (-1))=ts.length:=by
  show (if (-1:Int)<0 then (-1+((ts++[x]).length:Int)).toNat else min (-1:Int).toNat (ts++[x]).length)=_
  rw [if_pos (by decide),List.length_append,List.length_singleton]
  omega
 rw [h1,h2,List.drop_zero,Nat.sub_zero,List.take_left']
 rfl
theorem bJ {t u:FS}{τ τ':aK}(h:t τ=some (.nx τ')):aO t u τ=u τ':=by
 unfold aO
 rw [h]
 rfl
theorem du {f:FE}{τ:aK}{t:T}(h:f τ=some (t,τ)):aa f az τ=some ([t],τ):=by
 unfold aa
 rw [h]
 rfl
theorem dw {f g:FE}{τ:aK}{t u:T}(h:f τ=some (t,τ))(h':g τ=some (u,τ)):aa f (aa g az) τ=some ([t,u],τ):=by
 unfold aa
 rw [h,Option.bind_some]
 dsimp only
 rw [h']
 rfl
theorem Ku:Lq 1 9 (1:Rat):=by
 have h:=Lq.small (a:=1) (b:=1) (by decide) (by decide) (by decide)
 rwa [show Rat.divInt 1 1=1 from rfl] at h
theorem jJ {fi:FA}{fg:FG}{fb:FS}{τ:aK}{ts:List T}{r:R}(h1:fi τ=some (ts,τ))(h2:bV fg fb ts τ=some r):dz fi fg fb τ=some r:=by
 unfold dz
 rw [h1,Option.bind_some]
 exact h2
theorem ll {f:FE}{τ τ':aK}{t:T}(h:f τ=some (t,τ')):bE f τ=some (.rt t):=by
 unfold bE
 rw [h]
 rfl
theorem Ca {f g i:FE}{τ:aK}{t u v:T}(h:f τ=some (t,τ))(h':g τ=some (u,τ))(h'':i τ=some (v,τ)):aa f (aa g (aa i az)) τ=some ([t,u,v],τ):=by
 have e:=dw h' h''
 generalize hg:aa g (aa i az)=G at *
 unfold aa
 rw [h,Option.bind_some]
 dsimp only
 rw [e]
 rfl
theorem cU {i:Nat}{f:FE}{τ τ1 τ2:aK}{t:T}(h:f τ=some (t,τ1))(h2:aX i (fC t) τ1=some (.nx τ2)):aX i f τ=some (.nx τ2):=by
 unfold aX at *
 rw [h]
 exact h2
theorem Mm {L:List T}{i:Int}(h0:0≤i)(h1:i<(L.length:Int)):∃t,cK (.lst L) (.int i)=some t/\t∈L:=by
 obtain⟨j,rfl⟩:=Int.eq_ofNat_of_zero_le h0
 have hj:j<L.length:=by omega
 exact⟨L[j],um (List.getElem?_eq_getElem hj),List.getElem_mem hj⟩
theorem bX {i:Int}(h1 : -1000000≤i)(h2:i≤1000000):i.natAbs<B:=by
 have:=JB
 omega
abbrev gG:List T->Option T:=dH 5 3 iw
def mw:FS:=aO (jO 3 (aG bU (af 0) (af 1))) (aX 0 (aG dC (af 0) (af 1)))
theorem wI:∀(m:Nat) (lo c n:Int) (ts:List T) (u:Option Sl),ts.length+m≤1000->∃(c':Int) (ds:List Int) (u':Option Sl),bV (ak 4) mw (TM.upTo lo m) [ah (.int c),ah (.int 228),ah (.int n),some (.own ts),u]
  = some (.nx [ah (.int c'),ah (.int 228),ah (.int n),some (.own (ts++ds.map T.int)),u'])/\ds.length=m/\∀d∈ds,0≤d/\d<228
 |0,lo,c,n,ts,u,_=>⟨c,[],u,by simp [TM.upTo,bV],rfl,fun d hd=>by cases hd⟩
 |m+1,lo,c,n,ts,u,hl=>by
  obtain⟨c',ds,u',h1,h2,h3⟩:=wI m (lo+1) (c.fdiv 228) n (ts++[.int (c.fmod 228)]) (ah (.int lo)) (by simp;omega)
  refine⟨c',c.fmod 228::ds,u',?_,by simp [h2],fun d hd=>?_⟩
  ·have hz:ts.length<sizeLine:=cL (by omega)
   have b1:(228:Int).natAbs<B:=lj (n:=228) (by decide)
   have n0:¬ (228:Int)=0:=by decide
   have hb:mw [ah (.int c),ah (.int 228),ah (.int n),some (.own ts),ah (.int lo)]=some (.nx [ah (.int (c.fdiv 228)),ah (.int 228),ah (.int n),some (.own (ts++[.int (c.fmod 228)])),ah (.int lo)]):=by
    clear h1 h2 h3 hl
    unfold mw
    walk_at "ev"
   rw [show TM.upTo lo (m+1)=T.int lo::TM.upTo (lo+1) m from rfl,b9 rfl hb,h1]
   simp
  ·rcases List.mem_cons.mp hd with rfl | hd
   ·exact cx c (by decide)
   ·exact h3 d hd
theorem GY (c n:Int)(N:Nat)(Y:List T)(x4 x0:Option Sl)(hfi:bA (aP 2) [ah (.int c),ah (.int 228),ah (.int n),some (.own []),none]=some (TM.upTo 0 N,[ah (.int c),ah (.int 228),ah (.int n),some (.own []),none]))
  (e1:bV (ak 4) mw (TM.upTo 0 N) [ah (.int c),ah (.int 228),ah (.int n),some (.own []),none]=some (.nx [x0,ah (.int 228),ah (.int n),some (.own Y),x4])):gG [.int c,.int 228,.int n]=some (.lst Y):=by
 have e:iw=aO (d9 3 az) (aO (dz (bA (aP 2)) (ak 4) mw) (bE (af 3))):=rfl
 unfold gG dH
 rw [e]
 clear e
 walk_at "ev"
theorem Cr (c:Int)(n:Nat)(h1:n≤900):∃ds:List Int,gG [.int c,.int 228,aB n]=some (.lst (ds.map T.int))/\ds.length=n/\∀d∈ds,0≤d/\d<228:=by
 obtain⟨c',ds,u',e1,e2,e3⟩:=wI n 0 c (n:Nat) [] none (by simp;omega)
 refine⟨ds,?_,e2,e3⟩
 have hr:=mS (f:=af 2) (τ:=[ah (.int c),ah (.int 228),ah (aB n),some (.own []),none]) (n:=(n:Int)) rfl (by omega) (by omega)
 rw [Int.toNat_natCast] at hr
 rw [List.nil_append] at e1
 exact GY c _ n _ _ _ hr e1
abbrev jI:List T->Option T:=dH 6 2 (jV gG eE fP)
def kE:FS:=(aO (aX 4 (ai fP (aa (af 0) (aP 3))))
  (aO (d9 5 (aa (ck (aa (aU 0) (aa (aU 1) az))) (aa (ck (aa (aG iy (aG bU (aG dC (af 4) (aU 4)) (aU 5)) (aU 2)) (aa (aU 1) az))) (aa (ai eE (aa (aG iy (aG bU (aG dC (af 4) (aU 4)) (aU 19)) (aU 9)) (aa (aG cV (aU 1) (aG bU (aG dC (af 4) (aU 80)) (aU 12))) az))) az))))
  (jO 2 (aG cK (aG cV (af 5) (my (aa (ck (aa (aU 0) (aa (aU 1) az))) (aa (ck (aa (aU 1) (aa (aU 1) az))) az)))) (aG bU (af 4) (aU 5))))))
theorem vX (a:Int):T.tup [.int a,.int 1]=bL (Rat.divInt a 1):=by
 have e:=Rat.divInt_ofNat a 1
 rw [show ((1:Nat):Int)=1 from rfl] at e
 rw [e,Rat.mkRat_one]
 rfl
theorem C3 (c n k:Int)(ts:List T)(x4 x5:Option Sl)(hk:0≤k/\k≤1000)(hl:ts.length<1000):∃q:Rat,∃y4 y5,Lq 1 9 q/\kE [ah (.int c),ah (.int n),some (.own ts),ah (.int k),x4,x5]
  = some (.nx [ah (.int c),ah (.int n),some (.own (ts++[bL q])),ah (.int k),y4,y5]):=by
 have hm:=pB (c:=c) (k:=k) (bX (by omega) (by omega))
 have hr:=EO c k
 generalize iX c k=m at *
 have r5:=cx (m.fdiv 4) (b:=5) (by decide)
 have r19:=cx (m.fdiv 4) (b:=19) (by decide)
 have r12:=cx (m.fdiv 80) (b:=12) (by decide)
 have rm:=cx m (b:=5) (by decide)
 have hf:=iW (a:=(m.fdiv 4).fmod 19-9) (b:=1+(m.fdiv 80).fmod 12) (bX (by omega) (by omega)) (bX (by omega) (by omega)) (by omega)
 have hn:=Lq.small (a:=(m.fdiv 4).fmod 19-9) (b:=1+(m.fdiv 80).fmod 12) (by omega) (by omega) (by omega)
 have hn2:=Lq.small (a:=(m.fdiv 4).fmod 5-2) (b:=1) (by omega) (by omega) (by omega)
 rw [kM (by omega)] at hf
 generalize Rat.divInt ((m.fdiv 4).fmod 19-9) (1+(m.fdiv 80).fmod 12)=fr at *
 obtain⟨t,ht,hmem⟩:=Mm (L:=[.tup [.int 0,.int 1],.tup [.int ((m.fdiv 4).fmod 5-2),.int 1],bL fr,.tup [.int 0,.int 1],.tup [.int 1,.int 1]]) (i:=m.fmod 5) (by omega) (by simp;omega)
 have hq:∃q,t=bL q/\Lq 1 9 q:=by
  simp only [List.mem_cons,List.not_mem_nil,or_false] at hmem
  rcases hmem with rfl | rfl | rfl | rfl | rfl
  ·exact⟨0,rfl,(Lq.zero 1).mono (Nat.zero_le _)⟩
  ·exact⟨_,vX _,hn2⟩
  ·exact⟨_,rfl,hn⟩
  ·exact⟨0,rfl,(Lq.zero 1).mono (Nat.zero_le _)⟩
  ·exact⟨1,rfl,Ku⟩
 obtain⟨q,rfl,hq⟩:=hq
 refine⟨q,ah (.int m),ah (.lst [.tup [.int 0,.int 1],.tup [.int ((m.fdiv 4).fmod 5-2),.int 1],bL fr]),hq,?_⟩
 have hz:ts.length<sizeLine:=cL (by omega)
 have n4:¬ (4:Int)=0:=by decide
 have n5:¬ (5:Int)=0:=by decide
 have n19:¬ (19:Int)=0:=by decide
 have n80:¬ (80:Int)=0:=by decide
 have n12:¬ (12:Int)=0:=by decide
 have b4:(4:Int).natAbs<B:=bX (by decide) (by decide)
 have b5:(5:Int).natAbs<B:=bX (by decide) (by decide)
 have b19:(19:Int).natAbs<B:=bX (by decide) (by decide)
 have b80:(80:Int).natAbs<B:=bX (by decide) (by decide)
 have b12:(12:Int).natAbs<B:=bX (by decide) (by decide)
 have l5:(5:Nat)≤sizeLine:=dG (by decide)
 have l3:=Ox
 have l2:=Hu
 clear hr r5 r19 r12 rm hn hn2 hmem hk hl hq
 generalize bL fr=F at *
 generalize bL q=Q at *
 unfold kE
 walk_at "ev"
theorem tK (c n:Int):∀(m:Nat) (lo:Int) (ts:List T) (x3 x4 x5:Option Sl),0≤lo->lo+m≤1000->ts.length+m<1000->∃us:List Rat,∃y3 y4 y5,(∀t∈us,Lq 1 9 t)/\us.length=m/\bV (ak 3) kE (TM.upTo lo m) [ah (.int c),ah (.int n),some (.own ts),x3,x4,x5]
  = some (.nx [ah (.int c),ah (.int n),some (.own (ts++us.map bL)),y3,y4,y5])
 |0,lo,ts,x3,x4,x5,_,_,_=>⟨[],x3,x4,x5,fun t ht=>(by cases ht),rfl,by simp [TM.upTo,bV]⟩
 |m+1,lo,ts,x3,x4,x5,h0,h1,h2=>by
  obtain⟨t,y4,y5,ht,hb⟩:=C3 c n lo ts x4 x5 (by omega) (by omega)
  obtain⟨us,z3,z4,z5,g1,g2,g3⟩:=tK c n m (lo+1) (ts++[bL t]) (ah (.int lo)) y4 y5 (by omega) (by omega) (by simp;omega)
  refine⟨t::us,z3,z4,z5,fun x hx=>?_,by simp [g2],?_⟩
  ·rcases List.mem_cons.mp hx with rfl | hx
   ·exact ht
   ·exact g1 x hx
  ·rw [show TM.upTo lo (m+1)=T.int lo::TM.upTo (lo+1) m from rfl,b9 rfl hb,g3]
   simp
def drawn (d:Int):Rat:=Rat.divInt (d.fmod 19-9) (1+d.fdiv 19)
def EY:FE:=bB 1 [] (bo (ai gG (aa (aG dC (af 0) (aU 2)) (aa (aU 228) (aP 1))))) (ak 0) aA (ai eE (aa (aG iy (aG bU (af 0) (aU 19)) (aU 9)) (aa (aG cV (aU 1) (aG dC (af 0) (aU 19))) az)))
theorem sG:jV gG eE fP=aO (cq (cJ (aG gJ (aG bU (af 0) (aU 2)) (aU 1))) (bE EY) bS) (aO (d9 2 az) (aO (dz (bA (aP 1)) (ak 3) kE) (bE (af 2)))):=rfl
theorem FF (c n:Int)(V:T)(τ':aK)(hc:c.fmod 2=1)(h:EY [ah (.int c),ah (.int n),none,none,none,none]=some (V,τ')):jI [.int c,.int n]=some V:=by
 have n2:¬ (2:Int)=0:=by decide
 have b2:(2:Int).natAbs<B:=bX (by decide) (by decide)
 have g1:gJ (.int 1) (.int 1)=some (.bl true):=rfl
 unfold jI dH
 rw [sG]
 walk_at "ev"
theorem CZ (c n:Int)(N:Nat)(Y:List T)(y3 y4 y5:Option Sl)(hd:decide (c.fmod 2=1)=false)(hr:bA (aP 1) [ah (.int c),ah (.int n),some (.own []),none,none,none]=some (TM.upTo 0 N,[ah (.int c),ah (.int n),some (.own []),none,none,none]))
  (g3:bV (ak 3) kE (TM.upTo 0 N) [ah (.int c),ah (.int n),some (.own []),none,none,none]=some (.nx [ah (.int c),ah (.int n),some (.own Y),y3,y4,y5])):jI [.int c,.int n]=some (.lst Y):=by
 have n2:¬ (2:Int)=0:=by decide
 have b2:(2:Int).natAbs<B:=bX (by decide) (by decide)
 unfold jI dH
 rw [sG]
 walk_at "ev"
theorem DW {d:Int}(h:0≤d/\d<228):Lq 1 9 (drawn d):=by
 have q:=cx d (b:=19) (by decide)
 have s:=Int.mul_fdiv_add_fmod d 19
 exact Lq.small (by omega) (by omega) (by omega)
theorem GZ {d:Int}(h:0≤d/\d<228):ai eE (aa (aG iy (aG bU (af 0) (aU 19)) (aU 9)) (aa (aG cV (aU 1) (aG dC (af 0) (aU 19))) az)) [ah (.int d)]=some (bL (drawn d),[ah (.int d)]):=by
 have q:=cx d (b:=19) (by decide)
 have s:=Int.mul_fdiv_add_fmod d 19
 have hf:=iW (a:=d.fmod 19-9) (b:=1+d.fdiv 19) (bX (by omega) (by omega)) (bX (by omega) (by omega)) (by omega)
 rw [kM (by omega)] at hf
 have n19:¬ (19:Int)=0:=by decide
 have b19:(19:Int).natAbs<B:=bX (by decide) (by decide)
 have e:drawn d=Rat.divInt (d.fmod 19-9) (1+d.fdiv 19):=rfl
 rw [<- e] at hf
 clear h q s e
 generalize bL (drawn d)=F at *
 walk_at "ev"
theorem Kt (c n:Int)(Y:List T)(h:gG [.int (c.fdiv 2),.int 228,.int n]=some (.lst Y)):bo (ai gG (aa (aG dC (af 0) (aU 2)) (aa (aU 228) (aP 1)))) [ah (.int c),ah (.int n),none,none,none,none]=some (Y,[ah (.int c),ah (.int n),none,none,none,none]):=by
 have n2:¬ (2:Int)=0:=by decide
 have b2:(2:Int).natAbs<B:=bX (by decide) (by decide)
 walk_at "ev"
theorem JX (c:Int)(n:Nat)(h1:n≤100)(hc:c.fmod 2=1):∃xs:List Rat,jI [.int c,aB n]=some (ar xs)/\xs.length=n/\∀x∈xs,Lq 1 9 x:=by
 obtain⟨ds,e1,e2,e3⟩:=Cr (c.fdiv 2) n (by omega)
 have hm:=bZ (φ:=T.int) (g:=fun d=>bL (drawn d)) (ρ:=[]) rfl ds none [] (fun d hd=>GZ (e3 d hd)) (by rw [List.length_nil,Nat.zero_add,e2];exact dG (by omega))
 have hcomp:=cj (no:=1) (cap:=[]) (fg:=ak 0) (ft:=aA) (Kt c _ _ e1) rfl rfl hm
 refine⟨ds.map drawn,?_,by rw [List.length_map];exact e2,fun t ht=>?_⟩
 ·have e:=FF c (n:Nat) _ _ hc hcomp
  rw [e]
  show some (T.lst (ds.map fun d=>bL (drawn d)))=some (T.lst ((ds.map drawn).map bL))
  rw [List.map_map]
  rfl
 ·obtain⟨d,hd',rfl⟩:=List.mem_map.mp ht
  exact DW (e3 d hd')
theorem G7 (c:Int)(n:Nat)(h:n≤100):bA (aP 1) [ah (.int c),ah (aB n),some (.own []),none,none,none]=some (TM.upTo 0 n,[ah (.int c),ah (aB n),some (.own []),none,none,none]):=by
 have hr:=mS (f:=af 1) (τ:=[ah (.int c),ah (aB n),some (.own []),none,none,none]) (n:=(n:Int)) rfl (by omega) (by omega)
 rw [Int.toNat_natCast] at hr
 exact hr
theorem G2 (c:Int)(n:Nat)(h1:n≤100)(hc:decide (c.fmod 2=1)=false):∃xs:List Rat,jI [.int c,aB n]=some (ar xs)/\xs.length=n/\∀x∈xs,Lq 1 9 x:=by
 obtain⟨us,y3,y4,y5,g1,g2,g3⟩:=tK c (n:Nat) n 0 [] none none none (Int.le_refl 0) (by omega) (by rw [List.length_nil];omega)
 rw [List.nil_append] at g3
 exact⟨us,CZ c _ n _ _ _ _ hc (G7 c n h1) g3,g2,g1⟩
theorem G6 (c:Int)(n:Nat)(h1:n≤100):∃xs:List Rat,jI [.int c,aB n]=some (ar xs)/\xs.length=n/\∀x∈xs,Lq 1 9 x:=by
 by_cases hc:c.fmod 2=1
 ·exact JX c n h1 hc
 ·exact G2 c n h1 (decide_eq_false hc)
def Cm (xs:List Rat)(m w:Nat):List (List Rat):=(List.range m).map fun k=>(xs.drop (k*w)).take w
theorem LY (xs:List Rat)(k w m:Nat)(hk:k<m)(hl:xs.length=m*w):nz (xs.map bL) (some ((k:Int)*(w:Int))) (some ((k:Int)*(w:Int)+(w:Int)))=((xs.drop (k*w)).take w).map bL:=by
 have hkw:k*w+w≤m*w:=by
  have:(k+1)*w≤m*w:=Nat.mul_le_mul_right w hk
  rw [Nat.add_mul,Nat.one_mul] at this
  exact this
 have e1:(k:Int)*(w:Int)=((k*w:Nat):Int):=by rw [Int.natCast_mul]
 have e2:((k*w:Nat):Int)+(w:Int)=((k*w+w:Nat):Int):=by rw [Int.natCast_add]
 unfold nz
 rw [e1,e2,HT.vC,HT.vC,List.length_map,hl,Nat.min_eq_left (by omega),Nat.min_eq_left (by omega),<- List.map_drop,<- List.map_take,show k*w+w-k*w=w by omega]
theorem wL {i no:Nat}{cap:List Nat}{fi:FA}{fg:FG}{ft:FT}{fe:FE}{τ:aK}{ts us:List T}(h1:fi τ=some (ts,τ))(h2:frzAll cap τ=τ)(h3:cM (cN no cap τ)=true)(h4:cY fg ft fe ts (cN no cap τ) []=some us):iS i no cap fi fg ft fe τ=some (.nx (τ.set i (some (.own us)))):=by
 unfold iS
 rw [h1,Option.bind_some]
 dsimp only
 rw [h2,if_pos h3,h4]
 rfl
def iT (l:List Int):T:=.lst (l.map T.int)
def pT (e:Nat×List Int):T:=.tup [.int (e.1:Nat),iT e.2]
theorem nI {l:List Int}{p:Nat}(h:p<l.length):cK (iT l) (aB p)=some (.int (l.getD p 0)):=by
 show oZ (l.map T.int) (p:Int)=_
 unfold oZ Bi
 rw [if_pos (by omega),if_pos (by rw [List.length_map];omega),Option.bind_some,Int.toNat_natCast,List.getElem?_map,List.getElem?_eq_getElem h,List.getD_eq_getElem?_getD,List.getElem?_eq_getElem h]
 rfl
def lZ (M:Nat)(x:Dt.Row):Prop:=∀j,(x j).natAbs≤M
theorem EI {M:Nat}{R:List Dt.Row}{ps:List Nat}{x:Dt.Row}(hx:lZ M x)(hR:∀y∈R,lZ M y)(hr:R.length≤4)(hp:ps.length≤7)(j:Nat):(Dt.left R ps x j).natAbs≤(8*M+1)^5:=by
 have h:=Dt.yN (M:=M) (n:=8) (x::R) (j::ps) (fun y hy=>by
  rcases List.mem_cons.mp hy with rfl | hy
  ·exact hx
  ·exact hR y hy) (by simp only [List.length_cons];omega)
 exact Nat.le_trans h (Nat.pow_le_pow_right (by omega) (by simp only [List.length_cons];omega))
theorem DV {M:Nat}{R:List Dt.Row}{ps:List Nat}(hR:∀y∈R,lZ M y)(hr:R.length≤5)(hp:ps.length≤7):(Dt.det R ps).natAbs≤(8*M+1)^5:=by
 have h:=Dt.yN (M:=M) (n:=8) R ps hR (by omega)
 exact Nat.le_trans h (Nat.pow_le_pow_right (by omega) (by omega))
theorem EH {M:Nat}(hM:(8*M+1)^5<B){R:List Dt.Row}{ps:List Nat}{x:Dt.Row}(hx:lZ M x)(hR:∀y∈R,lZ M y)(hr:R.length≤4)(hp:ps.length≤7)(j:Nat):(Dt.left R ps x j).natAbs<B:=Nat.lt_of_le_of_lt (EI hx hR hr hp j) hM
theorem JR {M:Nat}(hM:(8*M+1)^5<B){R:List Dt.Row}{ps:List Nat}(hR:∀y∈R,lZ M y)(hr:R.length≤5)(hp:ps.length≤7):(Dt.det R ps).natAbs<B:=Nat.lt_of_le_of_lt (DV hR hr hp) hM
theorem ig {m n:Nat}{fb:FS}{ts:List T}{t:T}(hl:ts.length=n)(h:fb (ts.map (fun t=>some (Sl.sh t))++List.replicate (m-n) none)=some (.rt t)):dH m n fb ts=some t:=by
 unfold dH
 rw [if_pos hl,h]
 rfl
abbrev yl:List T->Option T:=dH 7 2 nv
def IS:FE:=bB 1 [1] (bo (af 0)) (ak 0) aA (aG dC (af 0) (af 1))
def uz:FT:=cJ (aG ym (wb k9 (af 1)) (aU 8000))
theorem uq:nv=aO (cq uz (bE IS) bS) gS:=rfl
theorem lJ {l:List Int}{d:Int}(h8:l.length≤8)(hd:¬ d=0)(hb:d.natAbs<B):yl [iT l,.int d]=some (iT (l.map fun x=>x.fdiv d)):=by
 refine ig rfl ?_
 have hc:=bZ (φ:=T.int) (fe:=aG dC (af 0) (af 1)) (g:=fun x=>T.int (x.fdiv d)) (ρ:=[ah (.int d)]) rfl l none [] (fun x _=>by walk_at "ev") (cz h8)
 have e1:=cj (no:=1) (cap:=[1]) (fi:=bo (af 0)) (fg:=ak 0) (ft:=aA) (τ:=[ah (iT l),ah (.int d),none,none,none,none,none]) (h1:=rfl) rfl rfl hc
 have t1:uz [ah (iT l),ah (.int d),none,none,none,none,none]=some (true,[ah (iT l),ah (.int d),none,none,none,none,none]):=by
  have hq:=yB hb
  unfold uz
  walk_at "ev"
 have e2:cq uz (bE IS) bS [ah (iT l),ah (.int d),none,none,none,none,none]=some (.rt (iT (l.map fun x=>x.fdiv d))):=by
  unfold cq
  rw [t1,Option.bind_some]
  refine (ll e1).trans ?_
  rw [List.nil_append]
  unfold iT
  rw [List.map_map]
  rfl
 rw [uq]
 unfold aO
 rw [show (List.map (fun t=>some (Sl.sh t)) [iT l,T.int d]++List.replicate (7-2) none)=[ah (iT l),ah (.int d),none,none,none,none,none] from rfl,e2]
 rfl
def DK:FE:=aG iy (aG bI (af 2) (af 0)) (aG bI (af 3) (af 1))
def DJ:FE:=bB 2 [5,6] (fm (aa (af 0) (aP 4))) (bO (aH (ak 0) (aH (ak 1) bN))) aA DK
def ny:FS:=(aO (uC (ck (aa (aG cK (af 4) (af 3)) (aa (aG cK (af 0) (af 3)) az))) (bO (aH (ak 5) (aH (ak 6) bN))))
  (aO (aX 0 (ai yl (aa DJ (aP 2))))
  (aX 2 (af 5))))
theorem JJ {K:T}{row:List Int}{p hk hx d:Int}{o1 o5 o6:Option Sl}(h1:cK K (.int p)=some (.int hk))(h2:cK (iT row) (.int p)=some (.int hx)):
  uC (ck (aa (aG cK (af 4) (af 3)) (aa (aG cK (af 0) (af 3)) az))) (bO (aH (ak 5) (aH (ak 6) bN))) [ah (iT row),o1,ah (.int d),ah (.int p),ah K,o5,o6]
   = some (.nx [ah (iT row),o1,ah (.int d),ah (.int p),ah K,ah (.int hk),ah (.int hx)]):=by
 have l2:=Hu
 walk_at "ev"
theorem LX {n l h t:Int}(hn:n.natAbs<B)(hl:l.natAbs<B)(hh:h.natAbs<B)(ht:t.natAbs<B):
  DK [ah (.int n),ah (.int l),ah (.int h),ah (.int t)]=some (.int (h*n-t*l),[ah (.int n),ah (.int l),ah (.int h),ah (.int t)]):=by
 unfold DK
 walk_at "ev"
theorem gz {α β γ:Type}(f:α->β->γ):∀(r:List α) (s:List β),(List.zip r s).map (fun p=>f p.1 p.2)=List.zipWith f r s
 |[],_=>by simp
 |_::_,[]=>by simp
 |a::r,b::s=>by simp [gz f r s]
theorem qm {i j:Nat}{r s:List Int}{τ:aK}(h1:τ[i]? = some (ah (iT r)))(h2:τ[j]? = some (ah (iT s))):fm (aa (af i) (aa (af j) az)) τ=some ((List.zip r s).map fun p=>T.tup [T.int p.1,T.int p.2],τ):=by
 have e:fm (aa (af i) (aa (af j) az)) τ=some (jG (r.map T.int) (s.map T.int),τ):=by
  have l1:af i τ=some (iT r,τ):=by unfold af;rw [h1]
  have l2:af j τ=some (iT s,τ):=by unfold af;rw [h2]
  unfold fm aa az
  rw [l1,Option.bind_some,l2,Option.bind_some,Option.bind_some]
  rfl
 rw [e,ng]
theorem GJ {w:Nat}{R:List Dt.Row}{ps:List Nat}{k x:Dt.Row}{p:Nat}(hw:w≤8)(hd:Dt.det R ps≠0)(hn:Dt.left R ps k p≠0)(hp:p<w)(bd:(Dt.det R ps).natAbs<B)(bk:∀j,(Dt.left R ps k j).natAbs<B)(bx:∀j,(Dt.left R ps x j).natAbs<B)
  (o1 o5 o6:Option Sl):
  ny [ah (iT (Dt.aS w R ps x)),o1,ah (.int (Dt.det R ps)),ah (aB p),ah (iT (Dt.aS w R ps k)),o5,o6]=some (.nx [ah (iT (Dt.aS w (k::R) (p::ps) x)),o1,ah (.int (Dt.left R ps k p)),ah (aB p),ah (iT (Dt.aS w R ps k)),ah (.int (Dt.left R ps k p)),ah (.int (Dt.left R ps x p))]):=by
 have gk:(Dt.aS w R ps k).getD p 0=Dt.left R ps k p:=Dt.dI hp
 have gx:(Dt.aS w R ps x).getD p 0=Dt.left R ps x p:=Dt.dI hp
 have e1:=JJ (d:=Dt.det R ps) (o1:=o1) (o5:=o5) (o6:=o6) (nI (l:=Dt.aS w R ps k) (by rw [Dt.df];exact hp)) (nI (l:=Dt.aS w R ps x) (by rw [Dt.df];exact hp))
 rw [gk,gx] at e1
 have mem:∀{y:Dt.Row} {n:Int},n∈Dt.aS w R ps y->∃j,n=Dt.left R ps y j:=fun {y n} h=>by
  obtain⟨j,_,e⟩:=List.mem_map.mp h
  exact⟨j,e.symm⟩
 have hc:=jZ (φ:=fun p:Int×Int=>T.int p.1) (ψ:=fun p:Int×Int=>T.int p.2) (fe:=DK) (g:=fun q=>T.int (Dt.left R ps k p*q.1-Dt.left R ps x p*q.2)) (ρ:=[ah (.int (Dt.left R ps k p)),ah (.int (Dt.left R ps x p))]) rfl
  (List.zip (Dt.aS w R ps x) (Dt.aS w R ps k)) none none [] (fun q hq=>by
   obtain⟨m1,m2⟩:=pM hq
   obtain⟨i,ei⟩:=mem m1
   obtain⟨j,ej⟩:=mem m2
   exact LX (by rw [ei];exact bx i) (by rw [ej];exact bk j) (bk p) (bx p)) (cz (pL _ _ (by rw [Dt.df];exact hw)))
 have e2:=cj (no:=2) (cap:=[5,6]) (fg:=jo) (ft:=aA) (fe:=DK) (qm (i:=0) (j:=4) (r:=Dt.aS w R ps x) (s:=Dt.aS w R ps k) (τ:=[ah (iT (Dt.aS w R ps x)),o1,ah (.int (Dt.det R ps)),ah (aB p),ah (iT (Dt.aS w R ps k)),ah (.int (Dt.left R ps k p)),ah (.int (Dt.left R ps x p))]) rfl rfl) rfl rfl hc
 have e3:T.lst ([]++(List.zip (Dt.aS w R ps x) (Dt.aS w R ps k)).map (fun q=>T.int (Dt.left R ps k p*q.1-Dt.left R ps x p*q.2)))=iT ((List.zip (Dt.aS w R ps x) (Dt.aS w R ps k)).map fun q=>Dt.left R ps k p*q.1-Dt.left R ps x p*q.2):=by
  unfold iT
  rw [List.nil_append,List.map_map]
  rfl
 rw [e3] at e2
 have e4:((List.zip (Dt.aS w R ps x) (Dt.aS w R ps k)).map fun q=>Dt.left R ps k p*q.1-Dt.left R ps x p*q.2).map (fun n=>n.fdiv (Dt.det R ps))=Dt.aS w (k::R) (p::ps) x:=by
  rw [List.map_map,<- Dt.C8 hd hn,<- gz]
  rfl
 have e5:=lJ (l:=(List.zip (Dt.aS w R ps x) (Dt.aS w R ps k)).map fun q=>Dt.left R ps k p*q.1-Dt.left R ps x p*q.2) (by rw [List.length_map];exact pL _ _ (by rw [Dt.df];exact hw)) hd bd
 rw [e4] at e5
 unfold ny
 rw [bJ e1,bJ (cU (i:=0) (aN (g:=yl) _ (dw (f:=DJ) (g:=af 2) e2 rfl) e5) rfl)]
 rfl
theorem GI {M:Nat}(hM:(8*M+1)^5<B){w:Nat}{x:Dt.Row}(hw:w≤8)(hx:lZ M x)(o1:Option Sl):∀{ks:List (Nat×List Int)} {R R':List Dt.Row} {ps ps':List Nat},Dt.Fw w R ps ks R' ps'->Dt.det R ps≠0->(∀y∈R',lZ M y)->R'.length≤4->ps'.length≤4->∀(o3 o4 o5 o6:Option Sl),
  ∃(o3' o4' o5' o6':Option Sl),bV (bO (aH (ak 3) (aH (ak 4) bN))) ny (ks.map pT) [ah (iT (Dt.aS w R ps x)),o1,ah (.int (Dt.det R ps)),o3,o4,o5,o6]=some (.nx [ah (iT (Dt.aS w R' ps' x)),o1,ah (.int (Dt.det R' ps')),o3',o4',o5',o6']):=by
 intro ks R R' ps ps' h
 induction h with
 |nil=>exact fun _ _ _ _ o3 o4 o5 o6=>⟨o3,o4,o5,o6,rfl⟩
 |cons hp hn h ih =>
  rename_i R R' ps ps' ks k p
  intro hd hR hr hps o3 o4 o5 o6
  have sub:∀{ks:List (Nat×List Int)} {A A':List Dt.Row} {b b':List Nat},Dt.Fw w A b ks A' b'->(∀y∈A,y∈A')/\A.length≤A'.length/\b.length≤b'.length:=fun h=>by
   induction h with
   |nil=>exact⟨fun y hy=>hy,Nat.le_refl _,Nat.le_refl _⟩
   |cons _ _ _ ih=>exact⟨fun y hy=>ih.1 y (List.mem_cons_of_mem _ hy),by have:=ih.2.1;simp only [List.length_cons] at this;omega,by have:=ih.2.2;simp only [List.length_cons] at this;omega⟩
  obtain⟨s1,s2,s3⟩:=sub h
  simp only [List.length_cons] at s2 s3
  have bR:∀y∈R,lZ M y:=fun y hy=>hR y (s1 y (List.mem_cons_of_mem _ hy))
  have bK:lZ M k:=hR k (s1 k List.mem_cons_self)
  have st:=GJ (k:=k) (x:=x) hw hd hn hp (JR hM bR (by omega) (by omega)) (fun j=>EH hM bK bR (by omega) (by omega) j) (fun j=>EH hM hx bR (by omega) (by omega) j) o1 o5 o6
  obtain⟨o3',o4',o5',o6',hL⟩:=ih hn hR hr hps (ah (aB p)) (ah (iT (Dt.aS w R ps k))) (ah (.int (Dt.left R ps k p))) (ah (.int (Dt.left R ps x p)))
  refine⟨o3',o4',o5',o6',?_⟩
  rw [List.map_cons,b9 (τ1:=[ah (iT (Dt.aS w R ps x)),o1,ah (.int (Dt.det R ps)),ah (aB p),ah (iT (Dt.aS w R ps k)),o5,o6]) rfl st]
  exact hL
abbrev GP:List T->Option T:=dH 7 2 (iM yl)
theorem uo:iM yl=aO (aX 2 (aU 1)) (aO (dz (bo (af 1)) (bO (aH (ak 3) (aH (ak 4) bN))) ny) (bE (af 0))):=rfl
theorem yT {M:Nat}(hM:(8*M+1)^5<B){w:Nat}{row:List Int}{ks:List (Nat×List Int)}{R:List Dt.Row}{ps:List Nat}(hl:row.length=w)(hw:w≤8)(hx:lZ M (Dt.rw row))(h:Dt.Fw w [] [] ks R ps)(hR:∀y∈R,lZ M y)(hr:R.length≤4)(hp:ps.length≤4):
  GP [iT row,.lst (ks.map pT)]=some (iT (Dt.aS w R ps (Dt.rw row))):=by
 have e0:iT row=iT (Dt.aS w [] [] (Dt.rw row)):=by rw [<- Dt.qx hl]
 obtain⟨o3,o4,o5,o6,hL⟩:=GI hM hw hx (ah (.lst (ks.map pT))) h (by decide) hR hr hp none none none none
 have hL':bV (bO (aH (ak 3) (aH (ak 4) bN))) ny (ks.map pT) [ah (iT row),ah (.lst (ks.map pT)),ah (.int 1),none,none,none,none]=some (.nx [ah (iT (Dt.aS w R ps (Dt.rw row))),ah (.lst (ks.map pT)),ah (.int (Dt.det R ps)),o3,o4,o5,o6]):=by rw [e0];exact hL
 have e1:dz (bo (af 1)) (bO (aH (ak 3) (aH (ak 4) bN))) ny [ah (iT row),ah (.lst (ks.map pT)),ah (.int 1),none,none,none,none]=_:=jJ rfl hL'
 have e2:aX 2 (aU 1) [ah (iT row),ah (.lst (ks.map pT)),none,none,none,none,none]=some (.nx [ah (iT row),ah (.lst (ks.map pT)),ah (.int 1),none,none,none,none]):=rfl
 have e3:iM yl [ah (iT row),ah (.lst (ks.map pT)),none,none,none,none,none]=some (.rt (iT (Dt.aS w R ps (Dt.rw row)))):=by
  rw [uo,bJ e2,bJ e1]
  rfl
 show ((iM yl [ah (iT row),ah (.lst (ks.map pT)),none,none,none,none,none]).bind fun r=>match r with | .rt t=>some t | .nx _=>some .non | _=>none)=_
 rw [e3]
 rfl
def jP:Option Nat->T
 |none=>.non
 |some p=>aB p
def nE:FS:=cq (cJ (aG lb (aG cK (af 0) (af 2)) (aU 0))) (bE (af 2)) bS
theorem Hj {L:T}{o1:Option Sl}{k n:Int}(h:cK L (.int k)=some (.int n)):nE [ah L,o1,ah (.int k)]=if n=0 then some (.nx [ah L,o1,ah (.int k)]) else some (.rt (.int k)):=by
 unfold nE
 by_cases e:n=0
 ·subst e
  have e1:decide ((0:Int)=0)=true:=rfl
  rw [if_pos rfl]
  walk_at "ev"
 ·have e1:decide (n=0)=false:=by simpa using e
  rw [if_neg e]
  walk_at "ev"
theorem A7 {l:List Int}{o1:Option Sl}:∀(js:List Nat),(∀j∈js,j<l.length)->∀o2:Option Sl,(∃o2',js.find? (fun j=>Dt.rw l j != 0)=none/\bV (ak 2) nE (js.map fun (i:Nat)=>T.int i) [ah (iT l),o1,o2]=some (.nx [ah (iT l),o1,o2']))\/∃p:Nat,js.find? (fun j=>Dt.rw l j != 0)=some p/\bV (ak 2) nE (js.map fun (i:Nat)=>T.int i) [ah (iT l),o1,o2]=some (.rt (aB p))
 |[],_,o2=>.inl ⟨o2,rfl,rfl⟩
 |j::js,hj,o2=>by
  have ht:=Hj (o1:=o1) (nI (l:=l) (hj j List.mem_cons_self))
  by_cases e:l.getD j 0=0
  ·rw [if_pos e] at ht
   have ef:(Dt.rw l j != 0)=false:=by show (l.getD j 0 != 0)=false;rw [e];rfl
   rcases A7 js (fun i hi=>hj i (List.mem_cons_of_mem _ hi)) (ah (aB j)) with ⟨o',h1,h2⟩ | ⟨p,h1,h2⟩
   ·refine .inl ⟨o',by rw [List.find?_cons,ef];exact h1,?_⟩
    rw [List.map_cons,b9 (τ1:=[ah (iT l),o1,ah (aB j)]) rfl ht]
    exact h2
   ·refine .inr ⟨p,by rw [List.find?_cons,ef];exact h1,?_⟩
    rw [List.map_cons,b9 (τ1:=[ah (iT l),o1,ah (aB j)]) rfl ht]
    exact h2
  ·rw [if_neg e] at ht
   have ef:(Dt.rw l j != 0)=true:=by show (l.getD j 0 != 0)=true;simpa using e
   refine .inr ⟨j,by rw [List.find?_cons,ef],?_⟩
   rw [List.map_cons]
   show (ak 2 (aB j) [ah (iT l),o1,o2]).bind _=_
   rw [show ak 2 (aB j) [ah (iT l),o1,o2]=some [ah (iT l),o1,ah (aB j)] from rfl,Option.bind_some,ht]
   rfl
abbrev JP:List T->Option T:=dH 3 2 fX
theorem qj {l:List Int}{w:Nat}(hl:w≤l.length)(hw:w≤8):JP [iT l,aB w]=some (jP (Dt.fp w (Dt.rw l))):=by
 have er:=gb (f:=af 1) (τ:=[ah (iT l),ah (aB w),none]) (n:=w) rfl (by omega)
 have eb:fX=aO (dz (bA (aP 1)) (ak 2) nE) (bE (fC .non)):=rfl
 show ((fX [ah (iT l),ah (aB w),none]).bind fun r=>match r with | .rt t=>some t | .nx _=>some .non | _=>none)=_
 rw [eb]
 rcases A7 (l:=l) (o1:=ah (aB w)) (List.range w) (fun j hj=>Nat.lt_of_lt_of_le (List.mem_range.mp hj) hl) none with ⟨o',h1,h2⟩ | ⟨p,h1,h2⟩
 ·rw [bJ (jJ er h2)]
  unfold Dt.fp
  rw [h1]
  rfl
 ·have e1:dz (bA (aP 1)) (ak 2) nE [ah (iT l),ah (aB w),none]=some (.rt (aB p)):=jJ er h2
  unfold aO
  rw [e1]
  unfold Dt.fp
  rw [h1]
  rfl
theorem fV {i:Nat}{τ:aK}{t:T}(h:τ[i]? = some (ah t)):af i τ=some (t,τ):=by unfold af;rw [h]
theorem pj:∀{τ:aK} {j:Nat} {t:T},τ[j]? = some (ah t)->(hide τ)[j]? = some (ah t)
 |[],j,t,h=>by simp at h
 |some (.own _)::τ,0,t,h=>by simp at h
 |some (.sh _)::τ,0,t,h=>by simpa [hide] using h
 |none::τ,0,t,h=>by simp at h
 |some (.own _)::τ,j+1,t,h=>by simpa [hide] using pj (τ:=τ) (j:=j) (by simpa using h)
 |some (.sh _)::τ,j+1,t,h=>by simpa [hide] using pj (τ:=τ) (j:=j) (by simpa using h)
 |none::τ,j+1,t,h=>by simpa [hide] using pj (τ:=τ) (j:=j) (by simpa using h)
theorem Aj {i:Nat}{f:FE}{τ:aK}{us:List T}{t:T}(h:τ[i]? = some (some (.own us)))(hf:∀τ':aK,τ'[i]? = some (ah (.lst us))->(∀(j:Nat) s,j≠i->τ[j]? = some (ah s)->τ'[j]? = some (ah s))->f τ'=some (t,τ')):
  dQ i f τ=some (t,if apart us t=true then τ else τ.set i (ah (.lst us))):=by
 unfold dQ
 rw [h]
 dsimp only
 rw [hf ((hide τ).set i (ah (.lst us))) (List.getElem?_set_self (by rw [fu];exact (List.getElem?_eq_some_iff.mp h).1)) (fun j s hj e=>by rw [List.getElem?_set_ne (Ne.symm hj)];exact pj e)]
 rfl
theorem vW {i:Nat}{f:FE}{τ:aK}{t:T}(h:τ[i]? = some (ah t)):dQ i f τ=f τ:=by
 unfold dQ
 rw [h]
theorem oo (us:List T):∀l:List Int,gp us (l.map T.int)=true
 |[]=>by simp [gp]
 |a::l=>by rw [List.map_cons,gp,oo us l];simp [apart]
theorem yy {ks:List (Nat×List Int)}{l:List Int}(h:ks≠[]\/l≠[]):apart (ks.map pT) (iT l)=true:=by
 unfold iT
 rw [apart,oo,Bool.and_true]
 unfold L6
 cases ks with
 |nil =>
  cases l with
  |nil=>simp at h
  |cons a l=>simp
 |cons k ks =>
  cases l with
  |nil=>simp
  |cons a l=>simp [pT,kd]
theorem Dz {i:Nat}{f:FE}{τ:aK}{ts:List T}{t:T}(h:τ[i]? = some (some (.own ts)))(hf:f τ=some (t,τ))(hl:ts.length<sizeLine):jO i f τ=some (.nx (τ.set i (some (.own (ts++[t]))))):=by
 unfold jO
 rw [h]
 dsimp only
 rw [hf,Option.bind_some]
 dsimp only
 rw [h]
 dsimp only
 rw [if_pos hl]
theorem Ad {i j:Nat}{τ:aK}{a b:T}(h1:τ[i]? = some (ah a))(h2:τ[j]? = some (ah b)):ck (aa (af i) (aa (af j) az)) τ=some (.tup [a,b],τ):=by
 have l2:=Hu
 unfold ck aa az
 rw [fV h1,Option.bind_some,fV h2,Option.bind_some,Option.bind_some]
 show (if ([a,b]:List T).length≤sizeLine then some (T.tup [a,b],τ) else none)=_
 exact if_pos l2
def eO (e:Option Nat×List Int):T:=.tup [jP e.1,iT e.2]
def aD (L w:Nat):List (List Int)->List Dt.Row->List Nat->List (Option Nat×List Int)
 |[],_,_=>[]
 |row::rest,R,ps=>match Dt.fp w (Dt.left R ps (Dt.rw row)) with
  |none=>(none,Dt.aS L R ps (Dt.rw row))::aD L w rest R ps
  |some p=>(some p,Dt.aS L R ps (Dt.rw row))::aD L w rest (Dt.rw row::R) (p::ps)
def lI:FS:=(aO (aX 5 (dQ 3 (ai GP (aa (af 4) (aP 3)))))
  (aO (aX 6 (ai JP (aa (af 5) (aP 1))))
  (aO (jO 2 (ck (aa (af 6) (aP 5))))
  (cq (cJ (aG fO (af 6) (fC .non))) (jO 3 (ck (aa (af 6) (aP 5)))) bS))))
theorem uj {i j:Nat}{d:List T->Option T}{τ:aK}{a b t:T}(h1:τ[i]? = some (ah a))(h2:τ[j]? = some (ah b))(h:d [a,b]=some t):ai d (aa (af i) (aa (af j) az)) τ=some (t,τ):=by
 unfold ai aa az
 rw [fV h1,Option.bind_some,fV h2,Option.bind_some,Option.bind_some]
 show (d [a,b]).bind _=_
 rw [h]
 rfl
theorem pq {f:FE}{τ:aK}{t:T}(h:f τ=some (t,τ)):cJ (aG fO f (fC .non)) τ=some (!oB t,τ):=by
 unfold cJ aG
 rw [h]
 rfl
structure Gp (M L:Nat)(R:List Dt.Row)(ps:List Nat)(ks:List (Nat×List Int)):Prop where
 fw:Dt.Fw L [] [] ks R ps
 bd:∀y∈R,lZ M y
 lr:R.length≤4
 lp:ps.length≤4
def LO (L:Nat)(ks:List (Nat×List Int))(K3:Sl):Prop:=K3=.own (ks.map pT)\/(L=0/\ks=[]/\K3=.sh (.lst []))
theorem Dv {w:Nat}{ks:List (Nat×List Int)}{A A':List Dt.Row}{b b':List Nat}(h:Dt.Fw w A b ks A' b'):A'.length=A.length+ks.length/\b'.length=b.length+ks.length:=by
 induction h with
 |nil=>exact⟨rfl,rfl⟩
 |cons _ _ _ ih =>
  have:=ih.1
  have:=ih.2
  simp only [List.length_cons] at *
  omega
theorem GN {M L:Nat}(hM:(8*M+1)^5<B){R:List Dt.Row}{ps:List Nat}{ks:List (Nat×List Int)}(C:Gp M L R ps ks){row:List Int}(hl:row.length=L)(hw:L≤8)(hb:lZ M (Dt.rw row)){K3:Sl}(hK:LO L ks K3){r0 r1 r2 o5 o6:Option Sl} :
  ∃K3',LO L ks K3'/\(L≠0->K3'=.own (ks.map pT))/\dQ 3 (ai GP (aa (af 4) (aP 3))) [r0,r1,r2,some K3,ah (iT row),o5,o6]=some (iT (Dt.aS L R ps (Dt.rw row)),[r0,r1,r2,some K3',ah (iT row),o5,o6]):=by
 have ev:=yT hM hl hw hb C.fw C.bd (by have:=C.lr;omega) (by have:=C.lp;omega)
 rcases hK with rfl | ⟨h0,rfl,rfl⟩
 ·have hv:=Aj (i:=3) (f:=ai GP (aa (af 4) (aP 3))) (τ:=[r0,r1,r2,some (.own (ks.map pT)),ah (iT row),o5,o6]) (us:=ks.map pT) rfl (fun τ' h1 h2=>uj (h2 4 (iT row) (by decide) rfl) h1 ev)
  by_cases hap:apart (ks.map pT) (iT (Dt.aS L R ps (Dt.rw row)))=true
  ·rw [if_pos hap] at hv
   exact⟨_,.inl rfl,fun _=>rfl,hv⟩
  ·rw [if_neg hap] at hv
   have h1:¬ (ks≠[]\/Dt.aS L R ps (Dt.rw row)≠[]):=fun z=>hap (yy z)
   have h2:ks=[]:=Classical.byContradiction fun z=>h1 (.inl z)
   have h3:Dt.aS L R ps (Dt.rw row)=[]:=Classical.byContradiction fun z=>h1 (.inr z)
   have h4:L=0:=by have:=Dt.df L R ps (Dt.rw row);rw [h3] at this;simpa using this.symm
   subst h2
   exact⟨.sh (.lst []),.inr ⟨h4,rfl,rfl⟩,fun z=>absurd h4 z,hv⟩
 ·refine⟨.sh (.lst []),.inr ⟨h0,rfl,rfl⟩,fun z=>absurd h0 z,?_⟩
  rw [vW (t:=.lst []) rfl]
  exact uj rfl rfl ev
theorem Ee {L w:Nat}(hwL:w≤L){R:List Dt.Row}{ps:List Nat}{x:Dt.Row}:Dt.fp w (Dt.rw (Dt.aS L R ps x))=Dt.fp w (Dt.left R ps x):=Dt.Ed fun j hj=>by rw [Dt.dI (by omega)]
theorem GL {M L w:Nat}(hM:(8*M+1)^5<B)(hwL:w≤L){R:List Dt.Row}{ps:List Nat}{ks:List (Nat×List Int)}(C:Gp M L R ps ks){row:List Int}(hl:row.length=L)(hw:L≤8)(hb:lZ M (Dt.rw row)){K3:Sl}(hK:LO L ks K3){S:List T}(hS:S.length≤20)(r0 o5 o6:Option Sl):
  ∃(K3':Sl) (ks':List (Nat×List Int)),LO L ks' K3'/\(∀p,Dt.fp w (Dt.left R ps (Dt.rw row))=some p->ks'=ks++[(p,Dt.aS L R ps (Dt.rw row))])/\(Dt.fp w (Dt.left R ps (Dt.rw row))=none->ks'=ks) /\
   lI [r0,ah (aB w),some (.own S),some K3,ah (iT row),o5,o6]=some (.nx [r0,ah (aB w),some (.own (S++[eO (Dt.fp w (Dt.left R ps (Dt.rw row)),Dt.aS L R ps (Dt.rw row))])),some K3',ah (iT row),ah (iT (Dt.aS L R ps (Dt.rw row))),ah (jP (Dt.fp w (Dt.left R ps (Dt.rw row))))]):=by
 obtain⟨K4,hK4,hw0,hv⟩:=GN hM C hl hw hb hK (r0:=r0) (r1:=ah (aB w)) (r2:=some (.own S)) (o5:=o5) (o6:=o6)
 have hf:=qj (l:=Dt.aS L R ps (Dt.rw row)) (w:=w) (by rw [Dt.df];exact hwL) (by omega)
 rw [Ee hwL] at hf
 have hks:ks.length≤4:=by have:=(Dv C.fw).1;have:=C.lr;simp only [List.length_nil] at *;omega
 generalize hq:Dt.fp w (Dt.left R ps (Dt.rw row))=q at hf
 generalize hL:Dt.aS L R ps (Dt.rw row)=L at hv hf
 have e1:aX 5 (dQ 3 (ai GP (aa (af 4) (aP 3)))) [r0,ah (aB w),some (.own S),some K3,ah (iT row),o5,o6]=some (.nx [r0,ah (aB w),some (.own S),some K4,ah (iT row),ah (iT L),o6]):=cU hv rfl
 have e2:aX 6 (ai JP (aa (af 5) (aP 1))) [r0,ah (aB w),some (.own S),some K4,ah (iT row),ah (iT L),o6]=some (.nx [r0,ah (aB w),some (.own S),some K4,ah (iT row),ah (iT L),ah (jP q)]):=cU (uj rfl rfl hf) rfl
 have e3:jO 2 (ck (aa (af 6) (aP 5))) [r0,ah (aB w),some (.own S),some K4,ah (iT row),ah (iT L),ah (jP q)]=some (.nx [r0,ah (aB w),some (.own (S++[eO (q,L)])),some K4,ah (iT row),ah (iT L),ah (jP q)]):=Dz rfl (Ad rfl rfl) (cL (by omega))
 have t4:cJ (aG fO (af 6) (fC .non)) [r0,ah (aB w),some (.own (S++[eO (q,L)])),some K4,ah (iT row),ah (iT L),ah (jP q)]=some (!oB (jP q),[r0,ah (aB w),some (.own (S++[eO (q,L)])),some K4,ah (iT row),ah (iT L),ah (jP q)]):=pq rfl
 cases q with
 |none =>
  refine⟨K4,ks,hK4,(fun p e=>by cases e),(fun _=>rfl),?_⟩
  unfold lI
  rw [bJ e1,bJ e2,bJ e3]
  unfold cq
  rw [t4]
  rfl
 |some p =>
  have hpw:=(Dt.kL hq).1
  have hK5:K4=.own (ks.map pT):=hw0 (by omega)
  subst hK5
  refine⟨.own ((ks++[(p,L)]).map pT),ks++[(p,L)],.inl rfl,(fun p' e=>by cases e;rfl),(fun e=>by cases e),?_⟩
  unfold lI
  rw [bJ e1,bJ e2,bJ e3]
  unfold cq
  rw [t4]
  have e5:jO 3 (ck (aa (af 6) (aP 5))) [r0,ah (aB w),some (.own (S++[eO (some p,L)])),some (.own (ks.map pT)),ah (iT row),ah (iT L),ah (jP (some p))]=some (.nx [r0,ah (aB w),some (.own (S++[eO (some p,L)])),some (.own (ks.map pT++[pT (p,L)])),ah (iT row),ah (iT L),ah (jP (some p))]):=Dz rfl (Ad rfl rfl) (cL (by rw [List.length_map];omega))
  have e6:(ks++[(p,L)]).map pT=ks.map pT++[pT (p,L)]:=by rw [List.map_append];rfl
  show jO 3 (ck (aa (af 6) (aP 5))) [r0,ah (aB w),some (.own (S++[eO (some p,L)])),some (.own (ks.map pT)),ah (iT row),ah (iT L),ah (jP (some p))]=_
  rw [e5,e6]
theorem AK {M L w:Nat}(hM:(8*M+1)^5<B)(hwL:w≤L)(hw:L≤8)(r0:Option Sl):∀(rows:List (List Int)) (R:List Dt.Row) (ps:List Nat) (ks:List (Nat×List Int)) (K3:Sl) (S:List T) (o4 o5 o6:Option Sl),Gp M L R ps ks->R.length+rows.length≤4->(∀row∈rows,row.length=L/\lZ M (Dt.rw row))->LO L ks K3->S.length+rows.length≤20 ->
  ∃K3' o4' o5' o6',bV (ak 4) lI (rows.map iT) [r0,ah (aB w),some (.own S),some K3,o4,o5,o6]=some (.nx [r0,ah (aB w),some (.own (S++(aD L w rows R ps).map eO)),K3',o4',o5',o6'])
 |[],R,ps,ks,K3,S,o4,o5,o6,C,_,_,hK,_=>⟨some K3,o4,o5,o6,by simp [bV,aD]⟩
 |row::rows,R,ps,ks,K3,S,o4,o5,o6,C,hr,hb,hK,hS=>by
  simp only [List.length_cons] at hr hS
  obtain⟨b1,b2⟩:=hb row List.mem_cons_self
  obtain⟨K3',ks',hK',h1,h2,ht⟩:=GL hM hwL C b1 hw b2 hK (S:=S) (by omega) r0 o5 o6
  have hln:=Dv C.fw
  simp only [List.length_nil,Nat.zero_add] at hln
  have hstep:∀{R' ps'},Gp M L R' ps' ks'->R'.length+rows.length≤4->aD L w (row::rows) R ps=(Dt.fp w (Dt.left R ps (Dt.rw row)),Dt.aS L R ps (Dt.rw row))::aD L w rows R' ps'->∃K3' o4' o5' o6',bV (ak 4) lI ((row::rows).map iT) [r0,ah (aB w),some (.own S),some K3,o4,o5,o6]=some (.nx [r0,ah (aB w),some (.own (S++(aD L w (row::rows) R ps).map eO)),K3',o4',o5',o6']):=fun {R' ps'} C' hr' es=>by
   obtain⟨K4,p4,p5,p6,hL⟩:=AK hM hwL hw r0 rows R' ps' ks' K3' (S++[eO (Dt.fp w (Dt.left R ps (Dt.rw row)),Dt.aS L R ps (Dt.rw row))]) (ah (iT row)) (ah (iT (Dt.aS L R ps (Dt.rw row)))) (ah (jP (Dt.fp w (Dt.left R ps (Dt.rw row))))) C' hr' (fun r hr=>hb r (List.mem_cons_of_mem _ hr)) hK' (by rw [List.length_append];simp only [List.length_cons,List.length_nil];omega)
   refine⟨K4,p4,p5,p6,?_⟩
   rw [List.map_cons,b9 (τ1:=[r0,ah (aB w),some (.own S),some K3,ah (iT row),o5,o6]) rfl ht,hL,es,List.map_cons,List.append_assoc]
   rfl
  cases e:Dt.fp w (Dt.left R ps (Dt.rw row)) with
  |none =>
   have hk:=h2 e
   subst hk
   exact hstep C (by omega) (by rw [aD,e])
  |some p =>
   have hk:=h1 p e
   obtain⟨hp,hn⟩:=Dt.kL e
   refine hstep (R':=Dt.rw row::R) (ps':=p::ps) ⟨?_,?_,?_,?_⟩ (by simp only [List.length_cons];omega) (by rw [aD,e])
   ·rw [hk];exact C.fw.snoc (by omega) hn
   ·intro y hy
    rcases List.mem_cons.mp hy with rfl | hy
    ·exact b2
    ·exact C.bd y hy
   ·simp only [List.length_cons];omega
   ·simp only [List.length_cons];omega
abbrev wa:List T->Option T:=dH 7 2 (fA GP JP)
theorem GA:fA GP JP=aO (pe 2 3) (aO (dz (bo (af 0)) (ak 4) lI) (bE (af 2))):=rfl
theorem eQ {M L w:Nat}(hM:(8*M+1)^5<B)(hwL:w≤L){rows:List (List Int)}(hw:L≤8)(hr:rows.length≤4)(hb:∀row∈rows,row.length=L/\lZ M (Dt.rw row)):wa [.lst (rows.map iT),aB w]=some (.lst ((aD L w rows [] []).map eO)):=by
 obtain⟨K3',o4,o5,o6,hL⟩:=AK hM hwL hw (ah (.lst (rows.map iT))) rows [] [] [] (.own []) [] none none none ⟨.nil,(fun _ h=>by cases h),Nat.zero_le _,Nat.zero_le _⟩ (by simpa using hr) hb (.inl rfl) (by simp;omega)
 have e1:pe 2 3 [ah (.lst (rows.map iT)),ah (aB w),none,none,none,none,none]=some (.nx [ah (.lst (rows.map iT)),ah (aB w),some (.own []),some (.own []),none,none,none]):=rfl
 have e2:dz (bo (af 0)) (ak 4) lI [ah (.lst (rows.map iT)),ah (aB w),some (.own []),some (.own []),none,none,none]=_:=jJ rfl hL
 show ((fA GP JP [ah (.lst (rows.map iT)),ah (aB w),none,none,none,none,none]).bind fun r=>match r with | .rt t=>some t | .nx _=>some .non | _=>none)=_
 rw [GA,bJ e1,bJ e2]
 rfl
def Mq:FT:=cJ (aG fO (af 0) (fC .non))
def LD:FE:=ck (aa (af 0) (aP 1))
def cT (st:List (Option Nat×List Int)):List (Option Nat×List Int):=st.filter fun e=>e.1.isSome
theorem vd:∀(st:List (Option Nat×List Int)) (u v:Option Sl) (acc:List T),acc.length+st.length≤1000->cY jo Mq LD (st.map eO) [u,v] acc=some (acc++(cT st).map eO)
 |[],u,v,acc,_=>by simp [cY,cT]
 |(q,l)::st,u,v,acc,h=>by
  simp only [List.length_cons] at h
  have e1:jo (eO (q,l)) [u,v]=some [ah (jP q),ah (iT l)]:=rfl
  have e2:Mq [ah (jP q),ah (iT l)]=some (!oB (jP q),[ah (jP q),ah (iT l)]):=pq rfl
  rw [List.map_cons,cY,e1,Option.bind_some,e2,Option.bind_some]
  cases q with
  |none =>
   show cY jo Mq LD (st.map eO) [ah (jP none),ah (iT l)] acc=_
   rw [vd st _ _ acc (by omega)]
   rfl
  |some p =>
   have e3:LD [ah (jP (some p)),ah (iT l)]=some (eO (some p,l),[ah (jP (some p)),ah (iT l)]):=Ad rfl rfl
   show ((LD [ah (jP (some p)),ah (iT l)]).bind fun q=>if cM q.2=true/\acc.length<sizeLine then cY jo Mq LD (st.map eO) q.2 (acc++[q.1]) else none)=_
   rw [e3,Option.bind_some]
   refine (if_pos ⟨rfl,cL (by omega)⟩).trans ?_
   rw [vd st _ _ _ (by rw [List.length_append];simp only [List.length_cons,List.length_nil];omega),show cT ((some p,l)::st)=(some p,l)::cT st from rfl,List.map_cons,List.append_assoc]
   rfl
abbrev Dl:List T->Option T:=dH 1 1 gF
theorem AV {st:List (Option Nat×List Int)}(h:st.length≤100):Dl [.lst (st.map eO)]=some (.lst ((cT st).map eO)):=by
 have hc:=vd st none none [] (by rw [List.length_nil];omega)
 have e:=cj (no:=2) (cap:=[]) (fi:=bo (af 0)) (fg:=jo) (ft:=Mq) (fe:=LD) (τ:=[ah (.lst (st.map eO))]) (h1:=rfl) rfl rfl hc
 show ((gF [ah (.lst (st.map eO))]).bind _)=_
 have e2:gF [ah (.lst (st.map eO))]=_:=ll e
 rw [e2]
 rfl
abbrev Lz:List T->Option T:=dH 3 1 ic
theorem Hs {L:List T}{t:T}:cK (.lst (L++[t])) (.int (-1))=some t:=by
 show oZ (L++[t]) (-1)=_
 unfold oZ Bi
 rw [if_neg (by decide),List.length_append,List.length_cons,List.length_nil]
 rw [if_pos (by omega)]
 rw [Option.bind_some,show (-1:Int)+((L.length+(0+1):Nat):Int)=(L.length:Nat) by omega,Int.toNat_natCast,List.getElem?_append_right (Nat.le_refl _),Nat.sub_self]
 rfl
theorem G5 {st:List (Option Nat×List Int)}{p:Nat}{l:List Int}(hp:p<l.length):Lz [.lst ((st++[(some p,l)]).map eO)]=some (.int (l.getD p 0)):=by
 have e0:(st++[(some p,l)]).map eO=st.map eO++[.tup [aB p,iT l]]:=by rw [List.map_append];rfl
 have hx:=Hs (L:=st.map eO) (t:=.tup [aB p,iT l])
 have hi:=nI (l:=l) hp
 rw [e0]
 have hne:(st.map eO++[T.tup [aB p,iT l]]).isEmpty=false:=by cases st.map eO<;>rfl
 generalize hL:st.map eO++[T.tup [aB p,iT l]]=L at hx hne
 have e1:cq (gu (eL (af 0))) (bE (aU 1)) bS [ah (.lst L),none,none]=some (.nx [ah (.lst L),none,none]):=by
  show (if (!(!L.isEmpty))=true then _ else _)=_
  rw [hne]
  rfl
 have e2:uC (aG cK (af 0) (wb qt (aU 1))) (bO (aH (ak 1) (aH (ak 2) bN))) [ah (.lst L),none,none]=some (.nx [ah (.lst L),ah (aB p),ah (iT l)]):=by
  have e3:aG cK (af 0) (wb qt (aU 1)) [ah (.lst L),none,none]=some (.tup [aB p,iT l],[ah (.lst L),none,none]):=by
   show ((cK (.lst L) (.int (-1))).bind fun t=>some (t,_))=_
   rw [hx]
   rfl
  show ((aG cK (af 0) (wb qt (aU 1)) [ah (.lst L),none,none]).bind _)=_
  rw [e3]
  rfl
 have e4:bE (aG cK (af 2) (af 1)) [ah (.lst L),ah (aB p),ah (iT l)]=some (.rt (.int (l.getD p 0))):=by
  show (((cK (iT l) (aB p)).bind fun t=>some (t,_)).bind _)=_
  rw [hi]
  rfl
 show ((ic [ah (.lst L),none,none]).bind _)=_
 have e5:ic [ah (.lst L),none,none]=some (.rt (.int (l.getD p 0))):=by
  show aO _ (aO _ _) _=_
  rw [bJ e1,bJ e2,e4]
 rw [e5]
 rfl
theorem mG (st:List (Option Nat×List Int)):(cT st).length≤st.length:=List.length_filter_le _ _
theorem cI (L w:Nat):∀(rows:List (List Int)) (R:List Dt.Row) (ps:List Nat),(aD L w rows R ps).length=rows.length
 |[],_,_=>rfl
 |row::rows,R,ps=>by
  rw [aD]
  split
  ·rw [List.length_cons,cI L w rows,List.length_cons]
  ·rw [List.length_cons,cI L w rows,List.length_cons]
theorem pA (L w:Nat):∀(rows:List (List Int)) (i:Nat) (R:List Dt.Row) (ps:List Nat),(cT (aD L w rows R ps)).length=(Dt.fr w (rows.map Dt.rw) i R ps).length
 |[],i,R,ps=>rfl
 |row::rows,i,R,ps=>by
  rw [aD,List.map_cons,Dt.fr]
  cases e:Dt.fp w (Dt.left R ps (Dt.rw row)) with
  |none=>exact pA L w rows (i+1) R ps
  |some p =>
   show (cT (aD L w rows (Dt.rw row::R) (p::ps))).length+1=_
   rw [pA L w rows (i+1)]
   rfl
theorem lY {L w:Nat}(hwL:w≤L):∀(rows:List (List Int)) (R:List Dt.Row) (ps:List Nat),(cT (aD L w rows R ps)).length=rows.length->ps.Nodup->(∀p∈ps,p<w)->Dt.det R ps≠0 ->
  ∃qs:List Nat,qs.length=rows.length/\(aD L w rows R ps).map (·.1)=qs.map some/\(qs.reverse++ps).Nodup/\(∀p∈qs.reverse++ps,p<w)/\Dt.det ((rows.map Dt.rw).reverse++R) (qs.reverse++ps)≠0 /\
   (rows≠[]->∃st p l,aD L w rows R ps=st++[(some p,l)]/\p<l.length/\l.getD p 0=Dt.det ((rows.map Dt.rw).reverse++R) (qs.reverse++ps))
 |[],R,ps,_,hn,hp,hd=>⟨[],rfl,rfl,hn,hp,hd,fun h=>absurd rfl h⟩
 |row::rows,R,ps,hk,hn,hp,hd=>by
  cases e:Dt.fp w (Dt.left R ps (Dt.rw row)) with
  |none =>
   have e1:aD L w (row::rows) R ps=(none,Dt.aS L R ps (Dt.rw row))::aD L w rows R ps:=by rw [aD,e]
   rw [e1] at hk
   have h2:(cT (aD L w rows R ps)).length=rows.length+1:=hk
   have h3:=mG (aD L w rows R ps)
   rw [cI] at h3
   omega
  |some p =>
   have e1:aD L w (row::rows) R ps=(some p,Dt.aS L R ps (Dt.rw row))::aD L w rows (Dt.rw row::R) (p::ps):=by rw [aD,e]
   obtain⟨pw,pn⟩:=Dt.kL e
   have h2:(cT (aD L w rows (Dt.rw row::R) (p::ps))).length+1=rows.length+1:=by rw [e1] at hk;exact hk
   have pnot:p∉ps:=fun h=>pn (Dt.Bo h)
   obtain⟨qs,q1,q2,q3,q4,q5,q6⟩:=lY hwL rows (Dt.rw row::R) (p::ps) (by omega) (List.nodup_cons.mpr ⟨pnot,hn⟩) (fun q hq=>by
    rcases List.mem_cons.mp hq with rfl | hq
    ·exact pw
    ·exact hp q hq) pn
   have ee:(p::qs).reverse++ps=qs.reverse++(p::ps):=by rw [List.reverse_cons,List.append_assoc];rfl
   have er:((row::rows).map Dt.rw).reverse++R=(rows.map Dt.rw).reverse++(Dt.rw row::R):=by rw [List.map_cons,List.reverse_cons,List.append_assoc];rfl
   rw [e1]
   refine⟨p::qs,by rw [List.length_cons,List.length_cons,q1],by rw [List.map_cons,q2,List.map_cons],?_⟩
   rw [ee,er]
   refine⟨q3,q4,q5,fun _=>?_⟩
   by_cases hr:rows=[]
   ·subst hr
    have:qs=[]:=List.length_eq_zero_iff.mp q1
    subst this
    exact⟨[],p,_,rfl,by rw [Dt.df];omega,Dt.dI (by omega)⟩
   ·obtain⟨st,p',l,s1,s2,s3⟩:=q6 hr
    exact⟨_::st,p',l,by rw [s1];rfl,s2,s3⟩
theorem map_range {α β:Type}(f:α->β)(d:α)(l:List α):l.map f=(List.range l.length).map fun i=>f (l.getD i d):=by
 apply List.ext_getElem?
 intro i
 rw [List.getElem?_map,List.getElem?_map]
 by_cases h:i<l.length
 ·rw [List.getElem?_eq_getElem h,List.getElem?_range h,Option.map_some,Option.map_some,List.getD_eq_getElem?_getD,List.getElem?_eq_getElem h]
  rfl
 ·rw [List.getElem?_eq_none (by omega),List.getElem?_eq_none (by rw [List.length_range];omega)]
  rfl
def GX (rows:List (List Int)):Int:=Dt.det (rows.map Dt.rw) (List.range rows.length)
theorem qg {L:Nat}{rows:List (List Int)}(h4:rows.length≤4)(hL:rows.length≤L)(hk:(cT (aD L rows.length rows [] [])).length=rows.length):
  GX rows≠0/\∃qs:List Nat,qs.length=rows.length/\(aD L rows.length rows [] []).map (·.1)=qs.map some/\Lz [.lst ((aD L rows.length rows [] []).map eO)]=some (.int (Dt.det (rows.map Dt.rw).reverse qs.reverse))/\Dt.sgn qs*Dt.det (rows.map Dt.rw).reverse qs.reverse=GX rows:=by
 obtain⟨qs,q1,q2,q3,q4,q5,q6⟩:=lY hL rows [] [] hk List.nodup_nil (fun _ h=>by cases h) (by decide)
 rw [List.append_nil] at q3 q4 q5
 rw [List.append_nil] at q5
 have hs:=Dt.yO (n:=rows.length) h4 (R:=fun i=>Dt.rw (rows.getD i [])) (ps:=qs.reverse) ⟨by rw [List.length_reverse,q1],q4,q3⟩
 rw [List.reverse_reverse,List.map_reverse,<- map_range Dt.rw [] rows] at hs
 have hsg:Dt.sgn qs*Dt.det (rows.map Dt.rw).reverse qs.reverse=GX rows:=hs
 refine⟨?_,qs,q1,q2,?_,hsg⟩
 ·intro z
  rw [z] at hsg
  rcases Int.mul_eq_zero.mp hsg with e | e
  ·have h5:Dt.sgn qs*Dt.sgn qs.reverse=Dt.sgn (List.range rows.length).reverse:=(Dt.gO rows.length h4 qs (Dt.gT q1 fun p hp=>q4 p (List.mem_reverse.mpr hp)) ((List.reverse_perm _).nodup_iff.mp q3)).2
   rw [e,Int.zero_mul] at h5
   have:rows.length=0\/rows.length=1\/rows.length=2\/rows.length=3\/rows.length=4:=by omega
   rcases this with k | k | k | k | k<;>rw [k] at h5<;>revert h5<;>decide
  ·exact q5 e
 ·by_cases hr:rows=[]
  ·subst hr
   have:qs=[]:=List.length_eq_zero_iff.mp q1
   subst this
   rfl
  ·obtain⟨st,p,l,s1,s2,s3⟩:=q6 hr
   rw [List.append_nil,List.append_nil] at s3
   rw [s1,G5 s2,s3]
def Dp (r:List Rat):Dq.Row:=fun j=>r.getD j 0
def bg (r:List Rat):List Int:=r.map (h9 (bh r))
theorem vB {r:List Rat}{D N:Nat}(h:Gn D N r)(j:Nat):Dp r j=(1/((bh r:Nat):Rat))*((Dt.rw (bg r) j:Int):Rat):=by
 obtain⟨h1,h2,h3⟩:=iV h
 unfold Dp Dt.rw bg
 rw [List.getD_eq_getElem?_getD,List.getD_eq_getElem?_getD,List.getElem?_map]
 by_cases hj:j<r.length
 ·rw [List.getElem?_eq_getElem hj,Option.map_some,Option.getD_some,Option.getD_some]
  have e:=Ac h2 (h3 _ (List.getElem_mem hj))
  rw [Rat.divInt_eq_div] at e
  have e2:(((bh r:Nat):Int):Rat)=((bh r:Nat):Rat):=Rat.intCast_natCast _
  rw [e2] at e
  rw [<- e]
  have:((bh r:Nat):Rat)≠0:=fun z=>by
   have:bh r=0:=by exact_mod_cast z
   omega
  rw [e]
  grind
 ·rw [List.getElem?_eq_none (by omega)]
  show (0:Rat)=_*(((0:Int)):Rat)
  rw [show ((0:Int):Rat)=0 from rfl,Rat.mul_zero]
theorem DL {f:FE}{g:FA}{τ τ1 τ2:aK}{t:T}{ts:List T}(h1:f τ=some (t,τ1))(h2:g τ1=some (ts,τ2)):aa f g τ=some (t::ts,τ2):=by
 unfold aa
 rw [h1,Option.bind_some,h2]
 rfl
theorem nC {no:Nat}{cap:List Nat}{fi:FA}{fg:FG}{ft:FT}{fe:FE}{τ τ1:aK}{ts us:List T}(h1:fi τ=some (ts,τ1))(h2:frzAll cap τ1=τ1)(h3:cM (cN no cap τ1)=true)(h4:cY fg ft fe ts (cN no cap τ1) []=some us):bB no cap fi fg ft fe τ=some (.lst us,τ1):=by
 unfold bB
 rw [h1,Option.bind_some]
 dsimp only
 rw [h2,if_pos h3,h4]
 rfl
theorem dR {g:T->T->Option T}{fa fb:FE}{τ:aK}{a b t:T}(h1:fa τ=some (a,τ))(h2:fb τ=some (b,τ))(h:g a b=some t):aG g fa fb τ=some (t,τ):=by
 unfold aG
 rw [h1,Option.bind_some,h2,Option.bind_some]
 show (g a b).bind _=_
 rw [h]
 rfl
theorem Jl {l:List Int}{M:Nat}(h:∀n∈l,n.natAbs≤M)(j:Nat):(Dt.rw l j).natAbs≤M:=by
 unfold Dt.rw
 rw [List.getD_eq_getElem?_getD]
 cases e:l[j]? with
 |none=>exact Nat.zero_le _
 |some n=>exact h n (List.mem_of_getElem? e)
theorem Iw {D N:Nat}{r:List Rat}(h:Gn D N r):lZ (N*D) (Dt.rw (bg r)):=fun j=>Jl (fun n hn=>by
 obtain⟨x,hx,rfl⟩:=List.mem_map.mp hn
 exact Jp (h.num x hx) h.dp (iV h).1) j
theorem len_tab (A:List (List Rat)):bG [aq A]=some (.int (A.length:Nat)):=by
 show some (T.int ((A.map ar).length:Nat))=_
 rw [List.length_map]
theorem Ms {f g:FE}{τ:aK}{a b:Nat}(h1:f τ=some (aB a,τ))(h2:g τ=some (aB b,τ)):cJ (aG ym f g) τ=some (decide (a<b),τ):=by
 unfold cJ aG
 rw [h1,Option.bind_some]
 dsimp only
 rw [h2,Option.bind_some]
 show some (decide ((a:Int)<(b:Int)),τ)=_
 congr 2
 simp only [Int.ofNat_lt]
theorem iU {l:List Rat}{c:Nat}(h:c<l.length):l.getD c 0∈l:=by
 rw [List.getD_eq_getElem?_getD,List.getElem?_eq_getElem h]
 exact List.getElem_mem h
theorem fq {l:List (List Rat)}{c:Nat}(h:c<l.length):l.getD c []∈l:=by
 rw [List.getD_eq_getElem?_getD,List.getElem?_eq_getElem h]
 exact List.getElem_mem h
def iJ (A:List (List Rat)):Nat->Nat->Rat:=fun i j=>(A.getD i []).getD j 0
theorem mF {α:Type}{n:Nat}{f:Nat->α}{i:Nat}(h:i<n)(d:α):((List.range n).map f).getD i d=f i:=by
 rw [List.getD_eq_getElem?_getD,List.getElem?_map,List.getElem?_range h]
 rfl
theorem GK {A:List (List Rat)}{i j:Nat}(h:i<A.length):(cS A j).getD i 0=(A.getD i []).getD j 0:=by
 unfold cS
 rw [List.getD_eq_getElem?_getD,List.getElem?_map,List.getElem?_eq_getElem h,List.getD_eq_getElem?_getD (l:=A),List.getElem?_eq_getElem h]
 rfl
theorem Ij (f:Nat->Rat):∀(m k:Nat),Dq.sm (List.range' k (m+1)) f=f k+Dq.sm (List.range' (k+1) m) f:=fun m k=>by
 rw [List.range'_succ,Dq.eR]
theorem vY:∀(r s:List Rat) (k:Nat) (f:Nat->Rat),r.length=s.length->(∀i<r.length,f (k+i)=r.getD i 0*s.getD i 0)->wsum r s=Dq.sm (List.range' k r.length) f
 |[],[],k,f,_,_=>by
  unfold wsum
  rfl
 |[],s::ss,_,_,h,_=>by simp at h
 |r::rs,[],_,_,h,_=>by simp at h
 |x::r,y::s,k,f,h,hf=>by
  rw [kS,List.length_cons,Ij,vY r s (k+1) f (by simpa using h) fun i hi=>by
   have:=hf (i+1) (by rw [List.length_cons];omega)
   rw [show k+(i+1)=k+1+i by omega] at this
   rw [this]
   rfl]
  have h0:=hf 0 (by rw [List.length_cons];omega)
  rw [Nat.add_zero] at h0
  rw [h0]
  rfl
def mx (row bg:List Int):Int:=(List.zipWith (· * ·) row bg).sum
theorem AU:∀(row bg:List Int) (p:Nat) (v:Int),p<bg.length->bg.length≤row.length->bg.getD p 0=0->mx row (bg.set p v)=mx row bg+row.getD p 0*v
 |_,[],p,v,h,_,_=>by simp at h
 |[],t::bg,p,v,_,h,_=>by simp at h
 |r::row,t::bg,0,v,_,_,h0=>by
  have:t=0:=h0
  subst this
  show r*v+mx row bg=r*0+mx row bg+r*v
  omega
 |r::row,t::bg,p+1,v,h1,h2,h3=>by
  have ih:=AU row bg p v (by simpa using h1) (by simpa using h2) h3
  show r*t+mx row (bg.set p v)=r*t+mx row bg+row.getD p 0*v
  rw [ih]
  omega
theorem BC {i:Nat}{f g:FE}{τ:aK}{us:List T}{k:Nat}{t:T}(h:τ[i]? = some (some (.own us)))(hf:f τ=some (t,τ))(hg:g τ=some (aB k,τ))(hk:k<us.length):kc i f g τ=some (.nx (τ.set i (some (.own (us.set k t))))):=by
 unfold kc
 rw [hf,Option.bind_some]
 dsimp only
 rw [h]
 dsimp only
 rw [hg,Option.bind_some]
 dsimp only
 rw [h]
 dsimp only
 rw [show Bi us.length ((k:Nat):Int)=some k from by unfold Bi;rw [if_pos (by omega),if_pos (by omega),Int.toNat_natCast]]
 rfl
theorem IQ {N d:Int}(hd:¬ d=0)(bd:d.natAbs<B):dC (.int N) (.int d)=some (.int (N.fdiv d)):=if_pos ⟨hd,bd⟩
theorem Jh {a b:Int}(h1:a.natAbs<B)(h2:b.natAbs<B):bI (.int a) (.int b)=some (.int (a*b)):=if_pos ⟨h1,h2⟩
theorem MO {a b:Int}:iy (.int a) (.int b)=some (.int (a-b)):=rfl
def AG:FE:=aG bI (af 0) (af 1)
def yC:FE:=dQ 4 (ai DU (aa (bB 2 [] (fm (aa (af 6) (aP 4))) jo aA AG) az))
def DF:FE:=aG cK (ai yl (aa (my (aP 7)) (aa (aG cK (af 6) (af 5)) az))) (aU 0)
def pU:FS:=aO (aX 7 (aG iy (aG bI (af 3) (aG cK (af 6) (af 2))) yC)) (kc 4 DF (af 5))
theorem GG {row bg:List Int}{τ:aK}(h4:τ[4]? = some (some (.own (bg.map T.int))))(h6:τ[6]? = some (ah (iT row)))(hr:∀j,(Dt.rw row j).natAbs<B)(ht:∀j,(Dt.rw bg j).natAbs<B)(hl:bg.length≤8)(h8:row.length≤8):yC τ=some (.int (mx row bg),τ):=by
 have mem:∀{l:List Int} {n:Int},n∈l->∃j,n=Dt.rw l j:=fun {l n} h=>by
  obtain⟨j,hj,e⟩:=List.mem_iff_getElem.mp h
  refine⟨j,?_⟩
  unfold Dt.rw
  rw [List.getD_eq_getElem?_getD,List.getElem?_eq_getElem hj]
  exact e.symm
 have hv:=Aj (i:=4) (f:=ai DU (aa (bB 2 [] (fm (aa (af 6) (aP 4))) jo aA AG) az)) (τ:=τ) (t:=.int (mx row bg)) h4 (fun τ' e1 e2=>by
  have z:=qm (i:=6) (j:=4) (r:=row) (s:=bg) (τ:=τ') (e2 6 _ (by decide) h6) e1
  have hc:=jZ (φ:=fun p:Int×Int=>T.int p.1) (ψ:=fun p:Int×Int=>T.int p.2) (fe:=AG) (g:=fun q=>T.int (q.1*q.2)) (ρ:=[]) rfl (List.zip row bg) none none [] (fun q hq=>by
   obtain⟨m1,m2⟩:=pM hq
   obtain⟨i,ei⟩:=mem m1
   obtain⟨j,ej⟩:=mem m2
   exact dR rfl rfl (Jh (by rw [ei];exact hr i) (by rw [ej];exact ht j))) (cz (pL _ _ h8))
  have b:=cj (no:=2) (cap:=[]) (fg:=jo) (ft:=aA) (fe:=AG) (h1:=z) rfl rfl hc
  refine aN _ (du b) ?_
  show (intsOf ([]++(List.zip row bg).map fun q=>T.int (q.1*q.2))).bind _=_
  rw [List.nil_append,show ((List.zip row bg).map fun q=>T.int (q.1*q.2))=(List.zipWith (· * ·) row bg).map T.int by rw [<- gz,List.map_map];rfl,lO]
  rfl)
 exact hv
theorem GF {L c p n:Nat}{ell bg:List Int}{d v:Int}{o0 o1 o7:Option Sl}(hL:ell.length=L)(hL8:L≤8)(hc:c<L)(hp:p<n)(hn:n≤L)(ht:bg.length=n)(hb:∀j,(Dt.rw ell j).natAbs<B)(hb':∀j,(Dt.rw bg j).natAbs<B)(hd:d.natAbs<B)(h0:Dt.rw ell p≠0)(he:d*Dt.rw ell c-mx ell bg=Dt.rw ell p*v):
  ∃o7',pU [o0,o1,ah (aB c),ah (.int d),some (.own (bg.map T.int)),ah (aB p),ah (iT ell),o7]=some (.nx [o0,o1,ah (aB c),ah (.int d),some (.own ((bg.set p v).map T.int)),ah (aB p),ah (iT ell),o7']):=by
 refine⟨ah (.int (Dt.rw ell p*v)),?_⟩
 have v1:=GG (row:=ell) (bg:=bg) (τ:=[o0,o1,ah (aB c),ah (.int d),some (.own (bg.map T.int)),ah (aB p),ah (iT ell),o7]) rfl rfl hb hb' (by omega) (by omega)
 have g1:=nI (l:=ell) (p:=c) (by omega)
 have g2:=nI (l:=ell) (p:=p) (by omega)
 have a1:aX 7 (aG iy (aG bI (af 3) (aG cK (af 6) (af 2))) yC) [o0,o1,ah (aB c),ah (.int d),some (.own (bg.map T.int)),ah (aB p),ah (iT ell),o7]=some (.nx [o0,o1,ah (aB c),ah (.int d),some (.own (bg.map T.int)),ah (aB p),ah (iT ell),ah (.int (Dt.rw ell p*v))]):=by
  rw [<- he]
  exact cU (dR (dR rfl (dR rfl rfl g1) (Jh hd (hb c))) v1 MO) rfl
 have hdv:yl [iT [Dt.rw ell p*v],.int (Dt.rw ell p)]=some (iT [v]):=by
  have e:=lJ (l:=[Dt.rw ell p*v]) (by simp) h0 (hb p)
  rw [show [Dt.rw ell p*v].map (fun x=>x.fdiv (Dt.rw ell p))=[v] by simp only [List.map_cons,List.map_nil,Int.mul_fdiv_cancel_left _ h0]] at e
  exact e
 have hdiv:DF [o0,o1,ah (aB c),ah (.int d),some (.own (bg.map T.int)),ah (aB p),ah (iT ell),ah (.int (Dt.rw ell p*v))]=some (.int v,[o0,o1,ah (aB c),ah (.int d),some (.own (bg.map T.int)),ah (aB p),ah (iT ell),ah (.int (Dt.rw ell p*v))]):=by
  have c1:my (aP 7) [o0,o1,ah (aB c),ah (.int d),some (.own (bg.map T.int)),ah (aB p),ah (iT ell),ah (.int (Dt.rw ell p*v))]=some (iT [Dt.rw ell p*v],[o0,o1,ah (aB c),ah (.int d),some (.own (bg.map T.int)),ah (aB p),ah (iT ell),ah (.int (Dt.rw ell p*v))]):=by
   have l1:=NK
   unfold my
   rw [show aP 7 [o0,o1,ah (aB c),ah (.int d),some (.own (bg.map T.int)),ah (aB p),ah (iT ell),ah (.int (Dt.rw ell p*v))]=some ([.int (Dt.rw ell p*v)],[o0,o1,ah (aB c),ah (.int d),some (.own (bg.map T.int)),ah (aB p),ah (iT ell),ah (.int (Dt.rw ell p*v))]) from rfl,Option.bind_some]
   exact if_pos l1
  exact dR (aN (g:=yl) [iT [Dt.rw ell p*v],.int (Dt.rw ell p)] (dw c1 (dR rfl rfl g2)) hdv) rfl rfl
 have a2:=BC (i:=4) (f:=DF) (g:=af 5) (τ:=[o0,o1,ah (aB c),ah (.int d),some (.own (bg.map T.int)),ah (aB p),ah (iT ell),ah (.int (Dt.rw ell p*v))]) (us:=bg.map T.int) (k:=p) rfl hdiv rfl (by rw [List.length_map];omega)
 unfold pU
 rw [bJ a1,a2,List.map_set]
 rfl
theorem zR {l:List Int}{p:Nat}{v:Int}(h:p<l.length)(j:Nat):Dt.rw (l.set p v) j=if j=p then v else Dt.rw l j:=by
 unfold Dt.rw
 rw [List.getD_eq_getElem?_getD,List.getD_eq_getElem?_getD]
 by_cases e:j=p
 ·subst e
  rw [List.getElem?_set_self h,if_pos rfl]
  rfl
 ·rw [List.getElem?_set_ne (Ne.symm e),if_neg e]
theorem AH {M L n c:Nat}(hM:(8*M+1)^5<B){R0:List Dt.Row}{ps0:List Nat}(hn0:ps0.Nodup)(hps:∀p∈ps0,p<n)(hnL:n≤L)(hL8:L≤8)(hc:c<L)(hR4:R0.length≤4)(hp4:ps0.length≤4)(hbd:∀y∈R0,lZ M y){o0 o1:Option Sl} :
  ∀{kr:List (Nat×List Int)} {R:List Dt.Row} {ps:List Nat},Dt.Ch L R ps kr->∀(Q:List Nat) (bg:List Int) (o5 o6 o7:Option Sl),ps0=Q++ps->(∀y∈R,y∈R0)->R.length≤4->bg.length=n->(∀p∈ps,Dt.rw bg p=0)->(∀q∈Q,Dt.rw bg q=Dt.det R0 (Dt.put ps0 c q))->(∀j,(Dt.rw bg j).natAbs<B) ->
   (∀row:List Int,n≤row.length->mx row bg=Dt.kU Q fun q=>Dt.rw row q*Dt.det R0 (Dt.put ps0 c q)) ->
   ∃(tops':List Int) (o5' o6' o7':Option Sl),tops'.length=n/\(∀q∈ps0,Dt.rw tops' q=Dt.det R0 (Dt.put ps0 c q)) /\
    bV (bO (aH (ak 5) (aH (ak 6) bN))) pU (kr.map pT) [o0,o1,ah (aB c),ah (.int (Dt.det R0 ps0)),some (.own (bg.map T.int)),o5,o6,o7]=some (.nx [o0,o1,ah (aB c),ah (.int (Dt.det R0 ps0)),some (.own (tops'.map T.int)),o5',o6',o7'])
 |_,_,_,.nil,Q,bg,o5,o6,o7,hq,_,_,ht,_,h2,_,_=>⟨bg,o5,o6,o7,ht,by rw [hq,List.append_nil] at *;exact h2,rfl⟩
 |_,_,_,.cons (R:=R) (ps:=ps) (kr:=kr) (x:=x) (p:=p) hch hp hne,Q,bg,o5,o6,o7,hq,hR,hr4,ht,h1,h2,h3,h4=>by
  have hpn:p<n:=hps p (by rw [hq];exact List.mem_append_right _ List.mem_cons_self)
  simp only [List.length_cons] at hr4
  have hpl:ps.length≤4:=by rw [hq,List.length_append,List.length_cons] at hp4;omega
  have hbR:∀y∈R,lZ M y:=fun y hy=>hbd y (hR y (List.mem_cons_of_mem _ hy))
  have hbx:lZ M x:=hbd x (hR x List.mem_cons_self)
  have bl:∀j,(Dt.rw (Dt.aS L R ps x) j).natAbs<B:=fun j=>by
   by_cases hj:j<L
   ·rw [Dt.dI hj];exact EH hM hbx hbR (by omega) (by omega) j
   ·have:Dt.rw (Dt.aS L R ps x) j=0:=by
     unfold Dt.rw
     rw [List.getD_eq_getElem?_getD,List.getElem?_eq_none (by rw [Dt.df];omega)]
     rfl
    rw [this]
    decide +kernel
  have bd:(Dt.det R0 ps0).natAbs<B:=JR hM hbd (by omega) (by omega)
  have bs:=Dt.Cb hn0 c (R0:=R0) (R:=R) (ps:=ps) (Q:=Q) (x:=x) (p:=p) hq hR
  have hdot:=h4 (Dt.aS L R ps x) (by rw [Dt.df];exact hnL)
  have hpsL:∀q∈Q,q<L:=fun q hq'=>by have:=hps q (by rw [hq];exact List.mem_append_left _ hq');omega
  have e0:Dt.det R0 ps0*Dt.rw (Dt.aS L R ps x) c-mx (Dt.aS L R ps x) bg=Dt.rw (Dt.aS L R ps x) p*Dt.det R0 (Dt.put ps0 c p):=by
   rw [hdot,Dt.dI hc,Dt.dI (by omega),Dt.kQ (g:=fun q=>Dt.left R ps x q*Dt.det R0 (Dt.put ps0 c q)) fun q hq'=>by rw [Dt.dI (hpsL q hq')]]
   exact bs
  obtain⟨o7a,hturn⟩:=GF (L:=L) (c:=c) (p:=p) (n:=n) (ell:=Dt.aS L R ps x) (bg:=bg) (d:=Dt.det R0 ps0) (v:=Dt.det R0 (Dt.put ps0 c p)) (o0:=o0) (o1:=o1) (o7:=o7) (Dt.df _ _ _ _) hL8 hc hpn hnL ht bl h3 bd (by rw [Dt.dI (by omega)];exact hne) e0
  have hpt:p<bg.length:=by omega
  have nd:=hn0
  rw [hq] at nd
  obtain⟨nQ,nP,nd3⟩:=List.nodup_append.mp nd
  obtain⟨nP1,nP2⟩:=List.nodup_cons.mp nP
  have bt:(Dt.det R0 (Dt.put ps0 c p)).natAbs<B:=JR hM hbd (by omega) (by unfold Dt.put;rw [List.length_map];omega)
  obtain⟨tops',p5,p6,p7,k1,k2,k3⟩:=AH hM hn0 hps hnL hL8 hc hR4 hp4 hbd (o0:=o0) (o1:=o1) hch (Q++[p]) (bg.set p (Dt.det R0 (Dt.put ps0 c p))) (ah (aB p)) (ah (iT (Dt.aS L R ps x))) o7a (by rw [hq,List.append_assoc];rfl) (fun y hy=>hR y (List.mem_cons_of_mem _ hy)) (by omega) (by rw [List.length_set];exact ht)
   (fun q hq'=>by rw [zR hpt,if_neg (fun e:q=p=>nP1 (e ▸ hq'))];exact h1 q (List.mem_cons_of_mem _ hq'))
   (fun q hq'=>by
    rw [zR hpt]
    rcases List.mem_append.mp hq' with hq' | hq'
    ·rw [if_neg (fun e:q=p=>nd3 q hq' p List.mem_cons_self e)]
     exact h2 q hq'
    ·rw [List.mem_singleton.mp hq',if_pos rfl])
   (fun j=>by
    rw [zR hpt]
    split
    ·exact bt
    ·exact h3 j)
   (fun row hrow=>by
    rw [AU row bg p _ hpt (by omega) (h1 p List.mem_cons_self),h4 row hrow,Dt.vS]
    show _=_+(Dt.rw row p*_+0)
    rw [Int.add_zero]
    rfl)
  refine⟨tops',p5,p6,p7,k1,k2,?_⟩
  rw [List.map_cons,b9 (τ1:=[o0,o1,ah (aB c),ah (.int (Dt.det R0 ps0)),some (.own (bg.map T.int)),ah (aB p),ah (iT (Dt.aS L R ps x)),o7]) rfl hturn]
  exact k3
theorem A9 {a b:Int}(hb:b≠0):qo a b=bL (Rat.divInt a b):=by
 by_cases h:0<b
 ·exact kM h
 ·have hn:0 < -b:=by omega
  have e1:qo a b=qo (-a) (-b):=by
   rw [Ba hn]
   unfold qo sg
   rw [if_pos (by omega),Int.gcd_neg,Int.neg_gcd]
   have h1:∀x g:Int,x.fdiv (-g)=(-x).fdiv g:=fun x g=>by
    rw [<- Int.neg_fdiv_neg]
    rw [Int.neg_neg]
   rw [h1,h1]
  rw [e1,kM hn,<- Rat.neg_divInt_neg,Int.neg_neg,Int.neg_neg]
theorem yc {L w:Nat}(hwL:w≤L):∀(rows:List (List Int)) (R:List Dt.Row) (ps:List Nat) (kr:List (Nat×List Int)),(cT (aD L w rows R ps)).length=rows.length->Dt.Ch L R ps kr ->
  ∃(qs:List Nat) (kr':List (Nat×List Int)),(aD L w rows R ps).map (·.1)=qs.map some/\Dt.Ch L ((rows.map Dt.rw).reverse++R) (qs.reverse++ps) kr'/\(∀q∈qs,q<w)/\((aD L w rows R ps).map eO).reverse++kr.map pT=kr'.map pT
 |[],R,ps,kr,_,h=>⟨[],kr,rfl,h,(fun _ h=>by cases h),rfl⟩
 |row::rows,R,ps,kr,hk,h=>by
  cases e:Dt.fp w (Dt.left R ps (Dt.rw row)) with
  |none =>
   have e1:aD L w (row::rows) R ps=(none,Dt.aS L R ps (Dt.rw row))::aD L w rows R ps:=by rw [aD,e]
   rw [e1] at hk
   have h2:(cT (aD L w rows R ps)).length=rows.length+1:=hk
   have h3:=mG (aD L w rows R ps)
   rw [cI] at h3
   omega
  |some p =>
   have e1:aD L w (row::rows) R ps=(some p,Dt.aS L R ps (Dt.rw row))::aD L w rows (Dt.rw row::R) (p::ps):=by rw [aD,e]
   obtain⟨pw,pn⟩:=Dt.kL e
   have h2:(cT (aD L w rows (Dt.rw row::R) (p::ps))).length+1=rows.length+1:=by rw [e1] at hk;exact hk
   obtain⟨qs,kr',q1,q2,q3,q4⟩:=yc hwL rows (Dt.rw row::R) (p::ps) ((p,Dt.aS L R ps (Dt.rw row))::kr) (by omega) (.cons h (by omega) pn)
   have ee:(p::qs).reverse++ps=qs.reverse++(p::ps):=by rw [List.reverse_cons,List.append_assoc];rfl
   have er:((row::rows).map Dt.rw).reverse++R=(rows.map Dt.rw).reverse++(Dt.rw row::R):=by rw [List.map_cons,List.reverse_cons,List.append_assoc];rfl
   rw [e1]
   refine⟨p::qs,kr',by rw [List.map_cons,q1,List.map_cons],by rw [ee,er];exact q2,fun q hq=>?_,?_⟩
   ·rcases List.mem_cons.mp hq with rfl | hq
    ·exact pw
    ·exact q3 q hq
   ·rw [List.map_cons,List.reverse_cons,List.append_assoc,<- q4]
    rfl
theorem Bs {x:Nat}:∀{l:List Nat},x∈Dt.srt l ↔ x∈l
 |[]=>Iff.rfl
 |a::l=>by
  show x∈Dt.ins a (Dt.srt l) ↔ _
  rw [Dt.uH,Bs,List.mem_cons]
theorem gL:∀{l m:List Nat},l.map some=m.map some->l=m
 |[],[],_=>rfl
 |[],b::m,h=>by simp at h
 |a::l,[],h=>by simp at h
 |a::l,b::m,h=>by
  rw [List.map_cons,List.map_cons] at h
  injection h with h1 h2
  injection h1 with h1
  rw [h1,gL h2]
abbrev JO:List T->Option T:=dH 8 3 (sD Lz yl eE)
theorem HS:∀n:Nat,((List.range n).map fun (_:Nat)=>(0:Int))=List.replicate n 0:=fun n=>by
 rw [List.map_const',List.length_range]
theorem Ft (n j:Nat):Dt.rw (List.replicate n 0) j=0:=by
 unfold Dt.rw
 rw [List.getD_eq_getElem?_getD,List.getElem?_replicate]
 split<;>rfl
theorem AS:∀(n:Nat) (row:List Int),mx row (List.replicate n 0)=0
 |0,row=>by unfold mx;rw [List.replicate_zero,List.zipWith_nil_right];rfl
 |n+1,[]=>rfl
 |n+1,r::row=>by
  show r*0+mx row (List.replicate n 0)=0
  rw [AS n row]
  omega
theorem yS {M L n c:Nat}(hM:(8*M+1)^5<B){rows:List (List Int)}(hn:rows.length=n)(h4:n≤4)(hnL:n≤L)(hL8:L≤8)(hc:c<L)(hb:∀row∈rows,row.length=L/\lZ M (Dt.rw row))(hk:(cT (aD L n rows [] [])).length=n):
  ∃(R0:List Dt.Row) (ps0:List Nat),R0=(rows.map Dt.rw).reverse/\ps0.Nodup/\ps0.length=n/\(∀j,j<n ↔ j∈ps0)/\Dt.det R0 ps0≠0/\(Dt.det R0 ps0).natAbs≤(8*M+1)^5/\(∀j,(Dt.det R0 (Dt.put ps0 c j)).natAbs≤(8*M+1)^5) /\
   (∀qs:List Nat,(aD L n rows [] []).map (·.1)=qs.map some->ps0=qs.reverse) /\
   JO [.lst ((aD L n rows [] []).map eO),aB n,aB c]=some (ar ((List.range n).map fun j=>Rat.divInt (Dt.det R0 (Dt.put ps0 c j)) (Dt.det R0 ps0))):=by
 subst hn
 obtain⟨hz,qs,q1,q2,q3,q4⟩:=qg (L:=L) (rows:=rows) h4 hnL hk
 obtain⟨qs',kr,r1,r2,r3,r4⟩:=yc hnL rows [] [] [] hk .nil
 have hqq:qs'=qs:=gL (r1.symm.trans q2)
 subst hqq
 rw [List.append_nil,List.append_nil] at r2
 rw [List.map_nil,List.append_nil] at r4
 obtain⟨qf,f1,f2,f3,f4,f5,_⟩:=lY hnL rows [] [] hk List.nodup_nil (fun _ h=>by cases h) (by decide)
 have hqf:qf=qs':=gL (f2.symm.trans q2)
 subst hqf
 rw [List.append_nil] at f3 f4
 rw [List.append_nil,List.append_nil] at f5
 have hlenp:qf.reverse.length=rows.length:=by rw [List.length_reverse,q1]
 have hbR:∀y∈(rows.map Dt.rw).reverse,lZ M y:=fun y hy=>by
  obtain⟨row,hr,rfl⟩:=List.mem_map.mp (List.mem_reverse.mp hy)
  exact (hb row hr).2
 have hR4:(rows.map Dt.rw).reverse.length≤4:=by rw [List.length_reverse,List.length_map];omega
 have hall:∀j,j<rows.length ↔ j∈qf.reverse:=fun j=>by
  obtain⟨e1,_⟩:=Dt.gO rows.length h4 qf.reverse (Dt.gT hlenp f4) f3
  rw [<- Bs,e1,List.mem_range]
 have bt:∀j,(Dt.det (rows.map Dt.rw).reverse (Dt.put qf.reverse c j)).natAbs≤(8*M+1)^5:=fun j=>DV hbR (by omega) (by unfold Dt.put;rw [List.length_map];omega)
 have bd:(Dt.det (rows.map Dt.rw).reverse qf.reverse).natAbs≤(8*M+1)^5:=DV hbR (by omega) (by omega)
 refine⟨(rows.map Dt.rw).reverse,qf.reverse,rfl,f3,hlenp,hall,f5,bd,bt,(fun qs2 h2=>by rw [gL (q2.symm.trans h2)]),?_⟩
 generalize hS:(aD L rows.length rows [] []).map eO=S at *
 generalize hR0:(rows.map Dt.rw).reverse=R0 at *
 generalize hP0:qf.reverse=ps0 at *
 generalize hnn:rows.length=n at *
 obtain⟨tops',o5,o6,o7,k1,k2,k3⟩:=AH (n:=n) hM f3 (fun p hp=>(hall p).mpr hp) hnL hL8 hc hR4 (by omega) hbR (o0:=ah (.lst S)) (o1:=ah (aB n)) r2 [] (List.replicate n 0) none none none rfl (fun y hy=>hy) hR4 (List.length_replicate) (fun p _=>Ft n p) (fun q hq=>by cases hq) (fun j=>by rw [Ft];decide +kernel) (fun row _=>by rw [AS];rfl)
 have ht:tops'=(List.range n).map fun j=>Dt.det R0 (Dt.put ps0 c j):=by
  apply List.ext_getElem
  ·rw [k1,List.length_map,List.length_range]
  ·intro j hj _
   have:=k2 j ((hall j).mp (by omega))
   unfold Dt.rw at this
   rw [List.getD_eq_getElem?_getD,List.getElem?_eq_getElem hj] at this
   rw [List.getElem_map,List.getElem_range]
   exact this
 have a1:aX 3 (ai Lz (aP 0)) [ah (.lst S),ah (aB n),ah (aB c),none,none,none,none,none]=some (.nx [ah (.lst S),ah (aB n),ah (aB c),ah (.int (Dt.det R0 ps0)),none,none,none,none]):=cU (aN [.lst S] (du rfl) q3) rfl
 have c2:=bZ (φ:=fun j:Nat=>aB j) (fe:=aU 0) (g:=fun _=>T.int 0) (ρ:=[]) rfl (List.range n) none [] (fun j _=>rfl) (cz (by rw [List.length_range];omega))
 have a2:iS 4 1 [] (bA (aP 1)) (ak 0) aA (aU 0) [ah (.lst S),ah (aB n),ah (aB c),ah (.int (Dt.det R0 ps0)),none,none,none,none]=some (.nx [ah (.lst S),ah (aB n),ah (aB c),ah (.int (Dt.det R0 ps0)),some (.own ((List.replicate n (0:Int)).map T.int)),none,none,none]):=by
  rw [<- HS,List.map_map]
  exact wL (i:=4) (no:=1) (cap:=[]) (fg:=ak 0) (ft:=aA) (τ:=[ah (.lst S),ah (aB n),ah (aB c),ah (.int (Dt.det R0 ps0)),none,none,none,none]) (h1:=gb (f:=af 1) rfl (by omega)) rfl rfl c2
 have r3':A4 (aP 0) [ah (.lst S),ah (aB n),ah (aB c),ah (.int (Dt.det R0 ps0)),some (.own ((List.replicate n (0:Int)).map T.int)),none,none,none]=some (kr.map pT,[ah (.lst S),ah (aB n),ah (aB c),ah (.int (Dt.det R0 ps0)),some (.own ((List.replicate n (0:Int)).map T.int)),none,none,none]):=by
  rw [<- r4]
  rfl
 have a3:=jJ (fg:=bO (aH (ak 5) (aH (ak 6) bN))) (fb:=pU) r3' k3
 have c4:=bZ (φ:=T.int) (fe:=ai eE (aa (af 0) (aP 1))) (g:=fun t=>bL (Rat.divInt t (Dt.det R0 ps0))) (ρ:=[ah (.int (Dt.det R0 ps0))]) rfl tops' none [] (fun t ht'=>aN _ (dw rfl rfl) (by
  rw [ht] at ht'
  obtain⟨j,_,rfl⟩:=List.mem_map.mp ht'
  rw [iW (Nat.lt_of_le_of_lt (bt j) hM) (Nat.lt_of_le_of_lt bd hM) f5,A9 f5])) (cz (by omega))
 have z4:bo (af 4) [ah (.lst S),ah (aB n),ah (aB c),ah (.int (Dt.det R0 ps0)),some (.own (tops'.map T.int)),o5,o6,o7]=some (tops'.map T.int,[ah (.lst S),ah (aB n),ah (aB c),ah (.int (Dt.det R0 ps0)),ah (.lst (tops'.map T.int)),o5,o6,o7]):=rfl
 have b4:=nC (no:=1) (cap:=[3]) (fg:=ak 0) (ft:=aA) (fe:=ai eE (aa (af 0) (aP 1))) (h1:=z4) rfl rfl c4
 refine ig rfl ?_
 show aO (aX 3 (ai Lz (aP 0))) (aO (iS 4 1 [] (bA (aP 1)) (ak 0) aA (aU 0)) (aO (dz (A4 (aP 0)) (bO (aH (ak 5) (aH (ak 6) bN))) pU) (bE (bB 1 [3] (bo (af 4)) (ak 0) aA (ai eE (aa (af 0) (aP 1))))))) [ah (.lst S),ah (aB n),ah (aB c),none,none,none,none,none]=_
 rw [bJ a1,bJ a2,bJ a3,ll b4,List.nil_append,ht,List.map_map]
 show some (R.rt (.lst _))=some (R.rt (.lst _))
 rw [List.map_map]
 rfl
def tU (m i:Nat)(low:Nat):List Int:=(List.range m).map fun o=>if o=i then (low:Int) else 0
def bT (m i:Nat)(r:List Rat):List Int:=bg r++tU m i (bh r)
def dA (A:List (List Rat)):List (List Int):=(List.range A.length).map fun i=>bT A.length i (A.getD i [])
def FU:FE:=Ha (cJ (aG gJ (af 0) (af 1))) (af 2) (aU 0)
def rE:FS:=aO (aX 5 (ai Jc (aP 4))) (jO 2 (aG cV (ai Ja (aa (af 4) (aP 5))) (bB 1 [3,5] (bA (aP 1)) (ak 0) aA FU)))
theorem M0 (o i low:Nat):FU [ah (aB o),ah (aB i),ah (aB low)]=some (.int (if o=i then (low:Int) else 0),[ah (aB o),ah (aB i),ah (aB low)]):=by
 have e:cJ (aG gJ (af 0) (af 1)) [ah (aB o),ah (aB i),ah (aB low)]=some (decide ((o:Int)=(i:Int)),[ah (aB o),ah (aB i),ah (aB low)]):=by
  have:=dR (g:=gJ) (fa:=af 0) (fb:=af 1) (τ:=[ah (aB o),ah (aB i),ah (aB low)]) rfl rfl (mD (o:Int) (i:Int))
  unfold cJ
  rw [this]
  rfl
 unfold FU Ha
 rw [e,Option.bind_some]
 by_cases h:o=i
 ·subst h
  rw [if_pos rfl,decide_eq_true rfl]
  rfl
 ·rw [if_neg h,decide_eq_false (by omega)]
  rfl
theorem Iy {m i D N:Nat}{r:List Rat}(hg:Gn D N r)(hm:m≤4){acc:List T}(ha:acc.length≤20){o0 o5:Option Sl} :
  rE [o0,ah (aB m),some (.own acc),ah (aB i),ah (ar r),o5]=some (.nx [o0,ah (aB m),some (.own (acc++[iT (bT m i r)])),ah (aB i),ah (ar r),ah (.int (bh r:Nat))]):=by
 have a1:aX 5 (ai Jc (aP 4)) [o0,ah (aB m),some (.own acc),ah (aB i),ah (ar r),o5]=some (.nx [o0,ah (aB m),some (.own acc),ah (aB i),ah (ar r),ah (.int (bh r:Nat))]):=cU (aN [ar r] (du rfl) (Jd hg)) rfl
 have c2:=bZ (φ:=fun j:Nat=>aB j) (fe:=FU) (g:=fun o=>T.int (if o=i then (bh r:Int) else 0)) (ρ:=[ah (aB i),ah (.int (bh r:Nat))]) rfl (List.range m) none [] (fun o _=>M0 o i (bh r)) (cz (by rw [List.length_range];omega))
 have b2:=cj (no:=1) (cap:=[3,5]) (fg:=ak 0) (ft:=aA) (fe:=FU) (τ:=[o0,ah (aB m),some (.own acc),ah (aB i),ah (ar r),ah (.int (bh r:Nat))]) (h1:=gb (f:=af 1) rfl (by omega)) rfl rfl c2
 have hl:r.length≤8:=hg.len
 have g3:cV (.lst (r.map fun x=>T.int (h9 (bh r) x))) (.lst ([]++(List.range m).map fun o=>T.int (if o=i then (bh r:Int) else 0)))=some (iT (bT m i r)):=by
  rw [wN (dG (by rw [List.nil_append,List.length_map,List.length_map,List.length_range];omega)),List.nil_append]
  unfold iT bT bg tU
  rw [List.map_append,List.map_map,List.map_map]
  rfl
 have v3:=dR (aN (g:=Ja) [ar r,.int (bh r:Nat)] (dw (f:=af 4) (g:=af 5) (τ:=[o0,ah (aB m),some (.own acc),ah (aB i),ah (ar r),ah (.int (bh r:Nat))]) rfl rfl) (Jb hg)) b2 g3
 unfold rE
 rw [bJ a1]
 exact Dz rfl v3 (cL (by omega))
theorem BY {D N:Nat}{A:List (List Rat)}(hA:∀r∈A,Gn D N r)(hm:A.length≤4){o0:Option Sl}:∀(rest pre:List (List Rat)) (acc:List T) (o3 o4 o5:Option Sl),A=pre++rest->acc.length+rest.length≤20 ->
  ∃o3' o4' o5',bV (bO (aH (ak 3) (aH (ak 4) bN))) rE (wJ pre.length (rest.map ar)) [o0,ah (.int (A.length:Nat)),some (.own acc),o3,o4,o5]=some (.nx [o0,ah (.int (A.length:Nat)),some (.own (acc++(List.range' pre.length rest.length).map fun i=>iT (bT A.length i (A.getD i [])))),o3',o4',o5'])
 |[],pre,acc,o3,o4,o5,_,_=>⟨o3,o4,o5,by simp [wJ,bV]⟩
 |r::rest,pre,acc,o3,o4,o5,h,ha=>by
  simp only [List.length_cons] at ha
  have hr:r∈A:=by rw [h];exact List.mem_append_right _ List.mem_cons_self
  have ht:=Iy (m:=A.length) (i:=pre.length) (hA r hr) hm (acc:=acc) (by omega) (o0:=o0) (o5:=o5)
  have hget:A.getD pre.length []=r:=by rw [h,List.getD_eq_getElem?_getD,List.getElem?_append_right (Nat.le_refl _),Nat.sub_self];rfl
  obtain⟨p3,p4,p5,hl⟩:=BY hA hm (o0:=o0) rest (pre++[r]) (acc++[iT (bT A.length pre.length r)]) (ah (.int (pre.length:Nat))) (ah (ar r)) (ah (.int (bh r:Nat))) (by rw [h,List.append_assoc];rfl) (by rw [List.length_append];simp only [List.length_cons,List.length_nil];omega)
  refine⟨p3,p4,p5,?_⟩
  rw [List.map_cons,wJ,b9 (τ1:=[o0,ah (.int (A.length:Nat)),some (.own acc),ah (.int (pre.length:Nat)),ah (ar r),o5]) rfl ht]
  rw [List.length_append] at hl
  refine hl.trans ?_
  rw [show (r::rest).length=rest.length+1 from rfl,List.range'_succ,List.map_cons,hget,List.append_assoc]
  rfl
abbrev wF:List T->Option T:=dH 6 1 (sI Jc Ja)
theorem lK {D N:Nat}{A:List (List Rat)}(hA:∀r∈A,Gn D N r)(hm:A.length≤4):wF [aq A]=some (.lst ((dA A).map iT)):=by
 obtain⟨o3,o4,o5,hl⟩:=BY hA hm (o0:=ah (aq A)) A [] [] none none none rfl (by simp;omega)
 have a1:aX 1 (ai bG (aP 0)) [ah (aq A),none,none,none,none,none]=some (.nx [ah (aq A),ah (.int (A.length:Nat)),none,none,none,none]):=cU (aN [aq A] (du rfl) (len_tab A)) rfl
 have a3:dz (lL (aP 0)) (bO (aH (ak 3) (aH (ak 4) bN))) rE [ah (aq A),ah (.int (A.length:Nat)),some (.own []),none,none,none]=_:=jJ rfl hl
 refine ig rfl ?_
 show aO (aX 1 (ai bG (aP 0))) (aO (d9 2 az) (aO (dz (lL (aP 0)) (bO (aH (ak 3) (aH (ak 4) bN))) rE) (bE (af 2)))) [ah (aq A),none,none,none,none,none]=_
 rw [bJ a1,bJ (τ':=[ah (aq A),ah (.int (A.length:Nat)),some (.own []),none,none,none]) rfl,bJ a3]
 unfold dA
 rw [List.map_map,List.nil_append,List.range_eq_range']
 rfl
theorem jE (A:List (List Rat)):(dA A).length=A.length:=by unfold dA;rw [List.length_map,List.length_range]
theorem kO {l m:List Int}{j:Nat}(h:j<l.length):Dt.rw (l++m) j=Dt.rw l j:=by
 unfold Dt.rw
 rw [List.getD_eq_getElem?_getD,List.getD_eq_getElem?_getD,List.getElem?_append_left h]
theorem mT {l m:List Int}{k n:Nat}(h:l.length=n):Dt.rw (l++m) (n+k)=Dt.rw m k:=by
 unfold Dt.rw
 rw [List.getD_eq_getElem?_getD,List.getD_eq_getElem?_getD,List.getElem?_append_right (by omega),show n+k-l.length=k by omega]
theorem pE (m i low k:Nat):Dt.rw (tU m i low) k=if k=i/\k<m then (low:Int) else 0:=by
 unfold Dt.rw tU
 rw [List.getD_eq_getElem?_getD,List.getElem?_map]
 by_cases h:k<m
 ·rw [List.getElem?_range h]
  show (if k=i then (low:Int) else 0)=_
  by_cases e:k=i
  ·rw [if_pos e,if_pos ⟨e,h⟩]
  ·rw [if_neg e,if_neg fun z=>e z.1]
 ·rw [List.getElem?_eq_none (by rw [List.length_range];omega),if_neg fun z=>h z.2]
  rfl
theorem dZ (r:List Rat):(bg r).length=r.length:=by unfold bg;rw [List.length_map]
theorem BM (f:Nat->Int)(a:Nat):∀l:List Nat,Dt.kU (Dt.ins a l) f=f a+Dt.kU l f
 |[]=>rfl
 |b::l=>by
  unfold Dt.ins
  split
  ·rw [Dt.cR,BM f a l,Dt.cR];omega
  ·rfl
theorem BO (f:Nat->Int):∀l:List Nat,Dt.kU (Dt.srt l) f=Dt.kU l f
 |[]=>rfl
 |a::l=>by
  show Dt.kU (Dt.ins a (Dt.srt l)) f=_
  rw [BM,BO f l,Dt.cR]
theorem mZ (f:Nat->Int)(g:Nat->Rat)(b:Rat):∀l:List Nat,(∀j∈l,g j=b*((f j:Int):Rat))->Dq.sm l g=b*((Dt.kU l f:Int):Rat)
 |[],_=>by
  show (0:Rat)=b*(((0:Int)):Rat)
  rw [show (((0:Int)):Rat)=0 from rfl,Rat.mul_zero]
 |j::l,h=>by
  rw [Dq.eR,Dt.cR,h j List.mem_cons_self,mZ f g b l fun k hk=>h k (List.mem_cons_of_mem _ hk),Rat.intCast_add]
  grind
def fM:Nat->Nat->Rat:=fun i k=>if k=i then 1 else 0
theorem yP {a b:Int}(hb:b≠0):(Rat.divInt a b).den∣b.natAbs:=by
 rw [Rat.den_divInt,if_neg hb]
 exact Nat.div_dvd_of_dvd (by
  have:=Int.natAbs_dvd_natAbs.mpr (Int.gcd_dvd_left b a)
  rwa [Int.natAbs_natCast] at this)
theorem yQ {a b:Int}(hb:b≠0):(Rat.divInt a b).num.natAbs≤a.natAbs:=by
 rw [Rat.num_divInt]
 have h1:((Int.gcd b a:Nat):Int)∣b.sign*a:=Int.dvd_mul_of_dvd_right (Int.gcd_dvd_right _ _)
 rw [Int.natAbs_ediv_of_dvd h1,Int.natAbs_mul]
 have h2:b.sign.natAbs=1:=by
  rcases Int.lt_or_gt_of_ne hb with h | h
  ·rw [Int.sign_eq_neg_one_of_neg h];rfl
  ·rw [Int.sign_eq_one_of_pos h];rfl
 rw [h2,Nat.one_mul]
 exact Nat.div_le_self _ _
theorem oa {L w:Nat}:∀(rows:List (List Int)) (R:List Dt.Row) (ps:List Nat),∀e∈aD L w rows R ps,∃(R1:List Dt.Row) (ps1:List Nat) (row:List Int),row∈rows/\(∀y∈R1,y∈R\/∃r∈rows,y=Dt.rw r)/\R1.length≤R.length+rows.length/\ps1.length≤ps.length+rows.length/\e=(Dt.fp w (Dt.left R1 ps1 (Dt.rw row)),Dt.aS L R1 ps1 (Dt.rw row))
 |[],_,_,e,he=>by cases he
 |row::rows,R,ps,e,he=>by
  cases c:Dt.fp w (Dt.left R ps (Dt.rw row)) with
  |none =>
   rw [aD,c] at he
   rcases List.mem_cons.mp he with rfl | he
   ·exact⟨R,ps,row,List.mem_cons_self,fun y hy=>.inl hy,by omega,by omega,by rw [c]⟩
   ·obtain⟨R1,ps1,r,a1,a2,a3,a4,a5⟩:=oa rows R ps e he
    exact⟨R1,ps1,r,List.mem_cons_of_mem _ a1,fun y hy=>(a2 y hy).imp id (fun⟨r,hr,e⟩=>⟨r,List.mem_cons_of_mem _ hr,e⟩),by rw [List.length_cons];omega,by rw [List.length_cons];omega,a5⟩
  |some p =>
   rw [aD,c] at he
   rcases List.mem_cons.mp he with rfl | he
   ·exact⟨R,ps,row,List.mem_cons_self,fun y hy=>.inl hy,by omega,by omega,by rw [c]⟩
   ·obtain⟨R1,ps1,r,a1,a2,a3,a4,a5⟩:=oa rows (Dt.rw row::R) (p::ps) e he
    refine⟨R1,ps1,r,List.mem_cons_of_mem _ a1,fun y hy=>?_,by simp only [List.length_cons] at *;omega,by simp only [List.length_cons] at *;omega,a5⟩
    rcases a2 y hy with h | ⟨q,hq,e⟩
    ·rcases List.mem_cons.mp h with rfl | h
     ·exact .inr ⟨row,List.mem_cons_self,rfl⟩
     ·exact .inl h
    ·exact .inr ⟨q,List.mem_cons_of_mem _ hq,e⟩
def Tr (w m:Nat)(Jq:Nat->Nat->Rat)(x:Dt.Row):Prop:=∀j<w+1,((x j:Int):Rat)=Dq.sm (List.range m) fun k=>((x (w+1+k):Int):Rat)*Jq k j
theorem Tr.sp {w m:Nat}{Jq:Nat->Nat->Rat}:∀{W:List Dt.Row} {x:Dt.Row},Dt.Sp W x->(∀y∈W,Tr w m Jq y)->Tr w m Jq x
 |_,_,.nil h,_=>fun j _=>by
  rw [h j,Dq.cQ (g:=fun _=>0) fun k _=>by rw [h];exact Rat.zero_mul _,Dq.pG]
  rfl
 |_,_,.cons (w:=v) (y:=y) a h hy,hw=>fun j hj=>by
  have h1:=hw v List.mem_cons_self j hj
  have h2:=Tr.sp hy (fun z hz=>hw z (List.mem_cons_of_mem _ hz)) j hj
  have e3:(Dq.sm (List.range m) fun k=>((a:Int):Rat)*(((v (w+1+k):Int):Rat)*Jq k j)+1*(((y (w+1+k):Int):Rat)*Jq k j))=((a:Int):Rat)*(Dq.sm (List.range m) fun k=>((v (w+1+k):Int):Rat)*Jq k j)+1*(Dq.sm (List.range m) fun k=>((y (w+1+k):Int):Rat)*Jq k j):=Dq.vP _ _ _ _ _
  rw [Rat.one_mul,<- h1,<- h2] at e3
  rw [h j,Rat.intCast_add,Rat.intCast_mul,<- e3]
  refine Dq.cQ fun k _=>?_
  rw [h,Rat.intCast_add,Rat.intCast_mul]
  grind
theorem rh {f:Nat->Rat}{i:Nat}:∀{l:List Nat},l.Nodup->i∈l->(Dq.sm l fun k=>if k=i then f k else 0)=f i
 |[],_,h=>by cases h
 |a::l,hn,h=>by
  rw [Dq.eR]
  obtain⟨n1,n2⟩:=List.nodup_cons.mp hn
  by_cases e:a=i
  ·rw [if_pos e,Dq.cQ (g:=fun _=>0) fun k hk=>if_neg (fun z:k=i=>n1 (by rw [e,<- z];exact hk)),Dq.pG,Rat.add_zero,e]
  ·rw [if_neg e,Rat.zero_add]
   exact rh n2 ((List.mem_cons.mp h).resolve_left (fun z=>e z.symm))
def uF (l:List Int)(s:Nat):Nat:=l.foldl (fun s x=>Int.gcd (s:Int) x) s
theorem J9 {a:Nat}{b:Int}(ha:a<B)(hb:b.natAbs<B):Int.gcd (a:Int) b<B:=by
 show Nat.gcd ((a:Int)).natAbs b.natAbs<B
 rw [Int.natAbs_natCast]
 rcases Nat.eq_zero_or_pos a with h | h
 ·rw [h,Nat.gcd_zero_left];exact hb
 ·exact Nat.lt_of_le_of_lt (Nat.gcd_le_left _ h) ha
theorem Bb:∀(l:List Int) (s:Nat),(s≠0\/∃x∈l,x≠0)->uF l s≠0
 |[],s,h=>by
  rcases h with h | ⟨x,hx,_⟩
  ·exact h
  ·cases hx
 |y::l,s,h=>by
  show uF l (Int.gcd (s:Int) y)≠0
  apply Bb l
  rcases h with h | ⟨x,hx,h0⟩
  ·exact .inl fun z=>h (by have:=(Int.gcd_eq_zero_iff.mp z).1;omega)
  ·rcases List.mem_cons.mp hx with rfl | hx
   ·exact .inl fun z=>h0 (Int.gcd_eq_zero_iff.mp z).2
   ·exact .inr ⟨x,hx,h0⟩
def vK:FS:=aX 1 (ai fZ (aa (af 1) (aP 2)))
theorem BF {o0:Option Sl}:∀(l:List Int) (s:Nat) (o2:Option Sl),s<B->(∀x∈l,x.natAbs<B)->uF l s<B/\∃o2',bV (ak 2) vK (l.map T.int) [o0,ah (aB s),o2]=some (.nx [o0,ah (.int (uF l s:Nat)),o2'])
 |[],s,o2,hs,_=>⟨hs,o2,rfl⟩
 |x::l,s,o2,hs,hx=>by
  have hb:=hx x List.mem_cons_self
  have hg:=J9 hs hb
  obtain⟨h1,o2',h2⟩:=BF (o0:=o0) l (Int.gcd (s:Int) x) (ah (.int x)) hg (fun y hy=>hx y (List.mem_cons_of_mem _ hy))
  refine⟨h1,o2',?_⟩
  have ht:vK [o0,ah (aB s),ah (.int x)]=some (.nx [o0,ah (.int (Int.gcd (s:Int) x:Nat)),ah (.int x)]):=cU (aN _ (dw rfl rfl) (lQ (by rw [Int.natAbs_natCast];exact hs) hb)) rfl
  rw [List.map_cons,b9 (τ1:=[o0,ah (aB s),ah (.int x)]) rfl ht,h2]
  rfl
def Az (w:Nat):Nat->List (List Int)->Prop
 |_,[]=>True
 |i,row::rows=>(Dt.rw row (w+i)≠0/\∀k,i<k->Dt.rw row (w+k)=0)/\Az w (i+1) rows
theorem EK {R:List Dt.Row}{ps:List Nat}{x:Dt.Row}{c:Nat}(h:∀y∈R,y c=0):Dt.left R ps x c=x c*Dt.det R ps:=by
 show Dt.det (x::R) (c::ps)=_
 rw [Dt.kI,Dt.gm,Dt.yq _ _ R h]
 omega
theorem lX {M L w:Nat}(hwL:w≤L):∀(rows:List (List Int)) (i:Nat) (R:List Dt.Row) (ps:List Nat),Dt.det R ps≠0->(∀y∈R,lZ M y/\∀k,i≤k->y (w+k)=0)->Az w i rows->(∀row∈rows,lZ M (Dt.rw row))->w+i+rows.length≤L->R.length+rows.length≤4->ps.length+rows.length≤4 ->
  ∀e∈aD L w rows R ps,e.2.length=L/\(∀y∈e.2.drop w,y.natAbs≤(8*M+1)^5)/\∃y∈e.2.drop w,y≠0
 |[],_,_,_,_,_,_,_,_,_,_=>fun e he=>by cases he
 |row::rows,i,R,ps,hd,hR,hs,hb,hL,h4,hp4=>by
  obtain⟨⟨s1,s2⟩,s3⟩:=hs
  simp only [List.length_cons] at hL h4 hp4
  have here:(Dt.aS L R ps (Dt.rw row)).length=L/\(∀y∈(Dt.aS L R ps (Dt.rw row)).drop w,y.natAbs≤(8*M+1)^5)/\∃y∈(Dt.aS L R ps (Dt.rw row)).drop w,y≠0:=by
   refine⟨Dt.df _ _ _ _,fun y hy=>?_,Dt.left R ps (Dt.rw row) (w+i),?_,?_⟩
   ·obtain⟨j,_,rfl⟩:=List.mem_map.mp (List.mem_of_mem_drop hy)
    exact EI (hb row List.mem_cons_self) (fun y hy=>(hR y hy).1) (by omega) (by omega) j
   ·rw [List.mem_iff_getElem?]
    refine⟨i,?_⟩
    rw [List.getElem?_drop]
    unfold Dt.aS
    rw [List.getElem?_map,List.getElem?_range (by omega)]
    rfl
   ·rw [EK fun y hy=>(hR y hy).2 i (Nat.le_refl _)]
    exact Int.mul_ne_zero s1 hd
  intro e he
  cases ef:Dt.fp w (Dt.left R ps (Dt.rw row)) with
  |none =>
   rw [aD,ef] at he
   rcases List.mem_cons.mp he with rfl | he
   ·exact here
   ·exact lX hwL rows (i+1) R ps hd (fun y hy=>⟨(hR y hy).1,fun k hk=>(hR y hy).2 k (by omega)⟩) s3 (fun r hr=>hb r (List.mem_cons_of_mem _ hr)) (by omega) (by omega) (by omega) e he
  |some p =>
   rw [aD,ef] at he
   obtain⟨pw,pn⟩:=Dt.kL ef
   rcases List.mem_cons.mp he with rfl | he
   ·exact here
   ·exact lX hwL rows (i+1) (Dt.rw row::R) (p::ps) pn (fun y hy=>by
     rcases List.mem_cons.mp hy with rfl | hy
     ·exact⟨hb row List.mem_cons_self,fun k hk=>s2 k (by omega)⟩
     ·exact⟨(hR y hy).1,fun k hk=>(hR y hy).2 k (by omega)⟩) s3 (fun r hr=>hb r (List.mem_cons_of_mem _ hr)) (by omega) (by simp only [List.length_cons];omega) (by simp only [List.length_cons];omega) e he
theorem wQ:∀(l:List Int) (s:Nat),((uF l s:Nat):Int)∣(s:Int)/\∀x∈l,((uF l s:Nat):Int)∣x
 |[],s=>⟨Int.dvd_refl _,fun _ h=>by cases h⟩
 |y::l,s=>by
  obtain⟨h1,h2⟩:=wQ l (Int.gcd (s:Int) y)
  have e:uF (y::l) s=uF l (Int.gcd (s:Int) y):=rfl
  rw [e]
  refine⟨Int.dvd_trans h1 (Int.gcd_dvd_left _ _),fun x hx=>?_⟩
  rcases List.mem_cons.mp hx with rfl | hx
  ·exact Int.dvd_trans h1 (Int.gcd_dvd_right _ _)
  ·exact h2 x hx
theorem D9 {x g:Int}(hg:g≠0)(h:g∣x):Rat.divInt (x.fdiv g) 1=Rat.divInt x g:=by
 obtain⟨y,rfl⟩:=h
 rw [Int.mul_fdiv_cancel_left _ hg]
 have:=Rat.divInt_mul_left (n:=y) (d:=1) hg
 rw [Int.mul_one] at this
 exact this.symm
def Ov (D N:Nat)(q:Rat):Prop:=∃a:Int,q=Rat.divInt a (D:Int)/\a.natAbs≤N
theorem Ov.zero (D:Nat):Ov D 0 0:=⟨0,by rw [Rat.zero_divInt],by simp⟩
theorem Ov.mono {D N N':Nat}{q:Rat}(h:Ov D N q)(hn:N≤N'):Ov D N' q:=by
 obtain⟨a,h1,h2⟩:=h
 exact⟨a,h1,Nat.le_trans h2 hn⟩
theorem Ov.add {D N N':Nat}(hD:0<D){x y:Rat}(h:Ov D N x)(h':Ov D N' y):Ov D (N+N') (x+y):=by
 obtain⟨a,rfl,ha⟩:=h
 obtain⟨b,rfl,hb⟩:=h'
 have hd:(D:Int)≠0:=by omega
 refine⟨a+b,?_,by have:=Int.natAbs_add_le a b;omega⟩
 rw [Rat.divInt_add_divInt _ _ hd hd,<- Int.add_mul,Rat.divInt_mul_right hd]
theorem Ov.mul {D D' N N':Nat}{x y:Rat}(h:Ov D N x)(h':Ov D' N' y):Ov (D*D') (N*N') (x*y):=by
 obtain⟨a,rfl,ha⟩:=h
 obtain⟨b,rfl,hb⟩:=h'
 refine⟨a*b,?_,by rw [Int.natAbs_mul];exact Nat.mul_le_mul ha hb⟩
 rw [Rat.divInt_mul_divInt,Int.natCast_mul]
theorem Ov.num {D N:Nat}(hD:0<D){q:Rat}(h:Ov D N q):q.num.natAbs≤N:=by
 obtain⟨a,rfl,ha⟩:=h
 exact Nat.le_trans (yQ (by omega)) ha
theorem Ov.den {D N:Nat}(hD:0<D){q:Rat}(h:Ov D N q):q.den∣D:=by
 obtain⟨a,rfl,ha⟩:=h
 have:=yP (a:=a) (b:=(D:Int)) (by omega)
 rw [Int.natAbs_natCast] at this
 exact this
theorem Ov.sm {D N:Nat}(hD:0<D)(hd:D<C)(hn:N<C){q:Rat}(h:Ov D N q):Sm q:=⟨Nat.lt_of_le_of_lt (h.num hD) hn,Nat.lt_of_le_of_lt (Nat.le_of_dvd hD (h.den hD)) hd⟩
theorem Ov.lq {k m:Nat}{q:Rat}(h:Lq k m q):Ov (DD k) (m*DD k) q:=h
structure Gv (D N:Nat)(r:List Rat):Prop where
 len:r.length≤8
 ov:∀x∈r,Ov D N x
 dp:0<D
 db:D<C
 nb:N<C
theorem Gv.sm {D N:Nat}{r:List Rat}(h:Gv D N r){x:Rat}(hx:x∈r):Sm x:=(h.ov x hx).sm h.dp h.db h.nb
structure Lu (D N D' N':Nat):Prop where
 dd:D*D'<C
 nn:8*(N*N')<C
def rG (P:List T->Option T):FS:=aX 2 (ai P (aa (af 2) (aa (ai Hw (aa (af 3) (aP 4))) az)))
theorem yj {P:List T->Option T}(hP:∀x y:Rat,Sm x->Sm y->P [bL x,bL y]=some (bL (x+y))){D N D' N':Nat}(hD:0<D)(hD':0<D')(hd:D<C)(hn:N<C)(hd':D'<C)(hn':N'<C)(hdd:D*D'<C)(x0 x1:Option Sl):∀(r s:List Rat) (a:Rat) (M:Nat) (u v:Option Sl),(∀x∈r,Ov D N x)->(∀y∈s,Ov D' N' y)->Ov (D*D') M a->M+r.length*(N*N')<C ->
  ∃u' v',bV (bO (aH (ak 3) (aH (ak 4) bN))) (rG P) ((List.zip r s).map fun p=>T.tup [bL p.1,bL p.2]) [x0,x1,ah (bL a),u,v]=some (.nx [x0,x1,ah (bL (a+wsum r s)),u',v'])
 |[],s,a,M,u,v,_,_,_,_=>⟨u,v,by rw [rJ,Rat.add_zero];simp [bV]⟩
 |x::r,[],a,M,u,v,_,_,_,_=>⟨u,v,by
   have z:wsum (x::r) []=0:=by unfold wsum;rw [List.zipWith_nil_right];rfl
   rw [z,Rat.add_zero];simp [bV]⟩
 |x::r,y::s,a,M,u,v,h1,h2,h3,h4=>by
  have hx:=h1 x List.mem_cons_self
  have hy:=h2 y List.mem_cons_self
  have lx:=hx.mul hy
  have hp:=Nat.mul_pos hD hD'
  have la:=h3.add hp lx
  rw [List.length_cons,Nat.add_mul,Nat.one_mul] at h4
  obtain⟨u',v',ih⟩:=yj hP hD hD' hd hn hd' hn' hdd x0 x1 r s (a+x*y) (M+N*N') (ah (bL x)) (ah (bL y)) (fun z hz=>h1 z (List.mem_cons_of_mem _ hz)) (fun z hz=>h2 z (List.mem_cons_of_mem _ hz)) la (by omega)
  refine⟨u',v',?_⟩
  have k1:=Je (hx.sm hD hd hn) (hy.sm hD' hd' hn')
  have k2:=hP _ _ (h3.sm hp hdd (by omega)) (lx.sm hp hdd (by omega))
  have hb:(rG P) [x0,x1,ah (bL a),ah (bL x),ah (bL y)]=some (.nx [x0,x1,ah (bL (a+x*y)),ah (bL x),ah (bL y)]):=by
   clear hP ih h1 h2 h3 h4 hx hy lx la hD hD' hd hn hd' hn' hdd hp
   unfold rG
   walk_at "ev"
  rw [List.zip_cons_cons,List.map_cons,b9 (τ1:=[x0,x1,ah (bL a),ah (bL x),ah (bL y)]) rfl hb,ih,kS,Rat.add_assoc]
theorem Lr {P:List T->Option T}(hP:∀x y:Rat,Sm x->Sm y->P [bL x,bL y]=some (bL (x+y))){D N D' N':Nat}{r s:List Rat}(h1:Gv D N r)(h2:Gv D' N' s)(f:Lu D N D' N'):
  ∃u v,dz (fm (aa (af 0) (aP 1))) (bO (aH (ak 3) (aH (ak 4) bN))) (rG P) [ah (ar r),ah (ar s),ah (bL 0),none,none]=some (.nx [ah (ar r),ah (ar s),ah (bL (wsum r s)),u,v]):=by
 have hm:=Nat.mul_le_mul_right (N*N') h1.len
 obtain⟨u,v,hl⟩:=yj hP h1.dp h2.dp h1.db h1.nb h2.db h2.nb f.dd (ah (ar r)) (ah (ar s)) r s 0 0 none none h1.ov h2.ov (Ov.zero _) (by have:=f.nn;omega)
 rw [Rat.zero_add] at hl
 have hi:fm (aa (af 0) (aP 1)) [ah (ar r),ah (ar s),ah (bL 0),none,none]=some ((List.zip r s).map fun p=>T.tup [bL p.1,bL p.2],[ah (ar r),ah (ar s),ah (bL 0),none,none]):=by
  rw [<- ng]
  rfl
 exact⟨u,v,jJ hi hl⟩
theorem Ov.divInt {a b:Int}{N:Nat}(hb:b≠0)(ha:a.natAbs≤N):Ov b.natAbs N (Rat.divInt a b):=by
 by_cases h:0<b
 ·exact⟨a,by rw [Int.natAbs_of_nonneg (by omega)],ha⟩
 ·refine⟨-a,?_,by omega⟩
  rw [show ((b.natAbs:Nat):Int) = -b by omega,Rat.neg_divInt_neg]
theorem vQ (a:Rat)(f:Nat->Rat):∀cs,(Dq.sm cs fun k=>a*f k)=a*Dq.sm cs f
 |[]=>by rw [Dq.vR,Dq.vR,Rat.mul_zero]
 |c::cs=>by rw [Dq.eR,Dq.eR,vQ a f cs,Rat.mul_add]
theorem HW (l:List Int)(n k:Nat):Dt.rw (l.drop n) k=Dt.rw l (n+k):=by
 unfold Dt.rw
 rw [List.getD_eq_getElem?_getD,List.getD_eq_getElem?_getD,List.getElem?_drop]
theorem IA {Y:List Int}{s:List Rat}{g:Nat}(hg:g≠0)(hl:Y.length=s.length):wsum (Y.map fun y=>Rat.divInt y (g:Nat)) s=(1/((g:Nat):Rat))*Dq.sm (List.range Y.length) fun k=>((Dt.rw Y k:Int):Rat)*s.getD k 0:=by
 rw [<- vQ]
 have h:=vY (Y.map fun y=>Rat.divInt y (g:Nat)) s 0 (fun k=>1/((g:Nat):Rat)*(((Dt.rw Y k:Int):Rat)*s.getD k 0)) (by rw [List.length_map];exact hl) fun i hi=>by
  rw [List.length_map] at hi
  rw [Nat.zero_add,List.getD_eq_getElem?_getD (l:=Y.map fun y=>Rat.divInt y (g:Nat)),List.getElem?_map,List.getElem?_eq_getElem hi]
  have e:Dt.rw Y i=Y[i]:=by
   unfold Dt.rw
   rw [List.getD_eq_getElem?_getD,List.getElem?_eq_getElem hi]
   rfl
  rw [e]
  show _=Rat.divInt Y[i] (g:Nat)*_
  rw [Rat.divInt_eq_div,Rat.intCast_natCast]
  have:((g:Nat):Rat)≠0:=fun z=>by
   have:g=0:=by exact_mod_cast z
   omega
  grind
 rw [h,List.length_map,List.range_eq_range']
theorem oh {n D N:Nat}{A:List (List Rat)}(hA:∀r∈A,Gn D N r)(hw:∀r∈A,r.length=n):∀row∈dA A,row.length=n+A.length/\lZ (N*D+D) (Dt.rw row):=fun row hr=>by
 obtain⟨i,hi,rfl⟩:=List.mem_map.mp hr
 have hi':=List.mem_range.mp hi
 have hm:=fq hi'
 have hg:=hA _ hm
 constructor
 ·unfold bT bg tU
  rw [List.length_append,List.length_map,List.length_map,List.length_range,hw _ hm]
 ·exact fun j=>Jl (fun z hz=>by
   rcases List.mem_append.mp hz with hz | hz
   ·obtain⟨x,hx,rfl⟩:=List.mem_map.mp hz
    have:=Jp (hg.num x hx) hg.dp (iV hg).1
    omega
   ·obtain⟨o,_,rfl⟩:=List.mem_map.mp hz
    have:=Nat.le_of_dvd hg.dp (iV hg).1
    split
    ·rw [Int.natAbs_natCast];omega
    ·exact Nat.zero_le _) j
theorem FV {w D N:Nat}{J:List (List Rat)}(hJ:∀r∈J,Gn D N r)(hw:∀r∈J,r.length=w+1):∀row∈dA J,Tr w J.length (fun k j=>Dp (J.getD k []) j) (Dt.rw row):=fun row hr j hj=>by
 obtain⟨i,hi,rfl⟩:=List.mem_map.mp hr
 have hi':=List.mem_range.mp hi
 have hm:=fq hi'
 have hg:=hJ _ hm
 have hlen:=hw _ hm
 have hlow:=(iV hg).2.1
 have e1:Dt.rw (bT J.length i (J.getD i [])) j=Dt.rw (bg (J.getD i [])) j:=kO (by rw [dZ,hlen];exact hj)
 have e2:∀k∈List.range J.length,((Dt.rw (bT J.length i (J.getD i [])) (w+1+k):Int):Rat)*Dp (J.getD k []) j=if k=i then ((bh (J.getD i []):Nat):Rat)*Dp (J.getD k []) j else 0:=fun k hk=>by
  have hk':=List.mem_range.mp hk
  rw [show Dt.rw (bT J.length i (J.getD i [])) (w+1+k)=Dt.rw (tU J.length i (bh (J.getD i []))) k from mT (by rw [dZ,hlen]),pE]
  by_cases e:k=i
  ·rw [if_pos ⟨e,hk'⟩,if_pos e,Rat.intCast_natCast]
  ·rw [if_neg fun z=>e z.1,if_neg e]
   exact Rat.zero_mul _
 rw [Dq.cQ e2,rh List.nodup_range hi,e1,vB hg j]
 have:((bh (J.getD i []):Nat):Rat)≠0:=fun z=>by
  have:bh (J.getD i [])=0:=by exact_mod_cast z
  omega
 grind
theorem dm (x:Int){d:Int}:Rat.divInt x d=(x:Rat)*(1/(d:Rat)):=by
 rw [Rat.divInt_eq_div,Rat.div_def,Rat.div_def,Rat.one_mul]
theorem inv1 {x:Rat}(h:x≠0):(1/x)*x=1:=by rw [Rat.div_def,Rat.one_mul];exact Rat.inv_mul_cancel x h
theorem AI {x:Int}(h:x≠0):(x:Rat)≠0:=fun z=>h (by exact_mod_cast z)
theorem JS {x:Int}{s:Nat}(hx:x≠0)(hs:s≠0):Rat.divInt x (s:Int)≠0:=fun z=>by
 rw [dm] at z
 have i1:=inv1 (AI (show (s:Int)≠0 by omega))
 have:(x:Rat)=0:=by
  have e:(x:Rat)=(x:Rat)*(1/((s:Int):Rat))*((s:Int):Rat):=by grind
  rw [z] at e
  grind
 exact AI hx this
theorem tY (r:List Rat):wsum r []=0:=by unfold wsum;rw [List.zipWith_nil_right];rfl
theorem B5:∀(r s:List Rat),wsum r s=wsum s r
 |[],s=>by rw [rJ];exact (tY s).symm
 |x::r,[]=>by rw [rJ];exact tY _
 |x::r,y::s=>by rw [kS,kS,B5 r s,Rat.mul_comm]
theorem all_some {L w:Nat}{rows:List (List Int)}:(∀e∈aD L w rows [] [],e.1.isSome=true) ↔ Dt.rank w (rows.map Dt.rw)=rows.length:=by
 have e:(cT (aD L w rows [] [])).length=Dt.rank w (rows.map Dt.rw):=pA L w rows 0 [] []
 have e2:=cI L w rows [] []
 rw [<- e]
 constructor
 ·intro h
  rw [<- e2]
  exact List.length_filter_eq_length_iff.mpr h
 ·intro h
  exact List.length_filter_eq_length_iff.mp (by rw [e2];exact h)
theorem BX {r:List Rat}{j:Nat}(h:j<r.length):Dt.rw (bg r) j=h9 (bh r) (r.getD j 0):=by
 unfold Dt.rw bg
 rw [List.getD_eq_getElem?_getD,List.getElem?_map,List.getD_eq_getElem?_getD,List.getElem?_eq_getElem h]
 rfl
theorem De {x:Rat}{l m:Nat}(hl:0<l)(hm:0<m)(h1:x.den∣l)(h2:x.den∣m):(l:Int)*h9 m x=(m:Int)*h9 l x:=by
 have e1:=Ac hl h1
 have e2:=Ac hm h2
 have:Rat.divInt (h9 m x) (m:Nat)=Rat.divInt (h9 l x) (l:Nat):=e2.trans e1.symm
 rw [Rat.divInt_eq_divInt_iff (by omega) (by omega)] at this
 rw [Int.mul_comm (l:Int),Int.mul_comm (m:Int)]
 exact this
theorem yI {i j:Nat}(h:i<A.length):(cS A j).getD i 0=(A.getD i []).getD j 0:=by
 unfold cS
 rw [List.getD_eq_getElem?_getD,List.getElem?_map,List.getD_eq_getElem?_getD (l:=A),List.getElem?_eq_getElem h]
 rfl
theorem yg {k:Nat}(h:k<n):(cF A n).getD k []=cS A k:=by
 unfold cF
 rw [List.getD_eq_getElem?_getD,List.getElem?_map,List.getElem?_range h]
 rfl
theorem Br {α β:Type}(f:α->β)(d:α)(l:List α):l.map f=(List.range l.length).map fun i=>f (l.getD i d):=by
 apply List.ext_getElem?
 intro i
 rw [List.getElem?_map,List.getElem?_map]
 by_cases h:i<l.length
 ·rw [List.getElem?_eq_getElem h,List.getElem?_range h,Option.map_some,Option.map_some,List.getD_eq_getElem?_getD,List.getElem?_eq_getElem h]
  rfl
 ·rw [List.getElem?_eq_none (by omega),List.getElem?_eq_none (by rw [List.length_range];omega)]
  rfl
theorem qe {m n:Nat}{fb:ud}{ts:List T}{o:O}(hl:ts.length=n)(h:fb (ts.map (fun t=>some (Sl.sh t))++List.replicate (m-n) none)=some o):ji m n fb ts=some o:=by
 unfold ji
 rw [if_pos hl];exact h
theorem iI {t:FS}{u:ud}{τ τ':aK}(h:t τ=some (.nx τ')):dB t u τ=u τ':=by
 unfold dB
 rw [h]
 rfl
theorem zQ {f:jH}{τ τ':aK}{o:O}(h:f τ=some (o,τ')):ik f τ=some o:=by
 unfold ik
 rw [h]
 rfl
abbrev yM:List T->Option O:=ji 3 1 (oq fZ yl)
theorem JY {l:List Int}(h8:l.length≤8)(hb:∀x∈l,x.natAbs<B)(h0:∃x∈l,x≠0):∃s:Nat,s≠0/\yM [iT l]=some (dW (l.map fun x=>Rat.divInt x (s:Int)))/\∀x∈l,Ov 1 x.natAbs (Rat.divInt x (s:Int)):=by
 obtain⟨h1,o2,h2⟩:=BF (o0:=ah (iT l)) l 0 none (by decide +kernel) hb
 have hn:=Bb l 0 (.inr h0)
 have hdv:=(wQ l 0).2
 generalize uF l 0=s at h1 h2 hn hdv
 have hs0:(s:Int)≠0:=by omega
 have a2:dz (bo (af 0)) (ak 2) vK [ah (iT l),ah (aB 0),none]=_:=jJ rfl h2
 have e3:=lJ (l:=l) (d:=(s:Int)) h8 (by omega) (by rw [Int.natAbs_natCast];exact h1)
 have c3:=gR (φ:=T.int) (fe:=mC (ck (aa (af 0) (aa (aU 1) az)))) (g:=fun x=>O.val (T.tup [.int x,.int 1])) (ρ:=[]) rfl (l.map fun x=>x.fdiv (s:Int)) none [] (fun x _=>by
  have l2:=Hu
  walk_at "ev") (cz (by rw [List.length_map];exact h8))
 have i3:bo (ai yl (aa (af 0) (aP 1))) [ah (iT l),ah (aB s),o2]=some ((l.map fun x=>x.fdiv (s:Int)).map T.int,[ah (iT l),ah (aB s),o2]):=by
  unfold bo
  rw [aN (g:=yl) [iT l,.int (s:Int)] (dw rfl rfl) e3]
  rfl
 have b3:=iR (no:=1) (cap:=[]) (fg:=ak 0) (ft:=aA) (h1:=i3) rfl rfl c3
 have er:[]++(l.map fun x=>x.fdiv (s:Int)).map (fun x=>O.val (T.tup [.int x,.int 1]))=((l.map fun x=>Rat.divInt x (s:Int)).map bL).map O.val:=by
  rw [List.nil_append,List.map_map,List.map_map,List.map_map]
  exact List.map_congr_left fun x hx=>by
   show O.val (T.tup [.int (x.fdiv (s:Int)),.int 1])=O.val (bL (Rat.divInt x (s:Int)))
   rw [vX,D9 hs0 (hdv x hx)]
 rw [er] at b3
 refine⟨s,hn,qe rfl ?_,fun x hx=>?_⟩
 ·show dB (aX 1 (aU 0)) (dB (dz (bo (af 0)) (ak 2) vK) (ik (eW 1 [] (bo (ai yl (aa (af 0) (aP 1)))) (ak 0) aA (mC (ck (aa (af 0) (aa (aU 1) az))))))) [ah (iT l),none,none]=_
  rw [iI (τ':=[ah (iT l),ah (aB 0),none]) rfl,iI a2,zQ b3]
  rfl
 ·obtain⟨y,rfl⟩:=hdv x hx
  refine⟨y,?_,?_⟩
  ·have:=D9 hs0 (hdv _ hx)
   rw [Int.mul_fdiv_cancel_left _ hs0] at this
   exact this.symm
  ·rw [Int.natAbs_mul,Int.natAbs_natCast]
   exact Nat.le_mul_of_pos_left _ (by omega)
theorem z9 {n D N:Nat}{A:List (List Rat)}(hA:∀r∈A,Gn D N r)(hw:∀r∈A,r.length=n):Az n 0 (dA A):=by
 have key:∀(m i:Nat),i+m=A.length->Az n i ((List.range' i m).map fun i=>bT A.length i (A.getD i [])):=fun m=>by
  induction m with
  |zero=>intro i _;exact True.intro
  |succ m ih =>
   intro i hi
   rw [List.range'_succ,List.map_cons]
   have hm:=fq (l:=A) (c:=i) (by omega)
   have hlow:=(iV (hA _ hm)).2.1
   refine⟨⟨?_,fun k hk=>?_⟩,ih (i+1) (by omega)⟩
   ·unfold bT
    rw [mT (by rw [dZ,hw _ hm]),pE,if_pos ⟨rfl,by omega⟩]
    omega
   ·unfold bT
    rw [mT (by rw [dZ,hw _ hm]),pE,if_neg (by omega)]
 unfold dA
 rw [List.range_eq_range']
 exact key A.length 0 (by omega)
theorem Aa {n D N:Nat}{J:List (List Rat)}(hJ:∀r∈J,Gn D N r)(hw:∀r∈J,r.length=n){e:Option Nat×List Int}(he:e∈aD (n+J.length) n (dA J) [] [])(h1:e.1=none):
  ∀j<n,(Dq.sm (List.range J.length) fun k=>((Dt.rw (e.2.drop n) k:Int):Rat)*Dp (J.getD k []) j)=0:=by
 cases n with
 |zero=>exact fun j hj=>absurd hj (Nat.not_lt_zero _)
 |succ w =>
 obtain⟨R1,ps1,row,a1,a2,a3,a4,a5⟩:=oa (dA J) [] [] e he
 have a2':∀y∈R1,∃r∈dA J,y=Dt.rw r:=fun y hy=>(a2 y hy).resolve_left (fun z=>by cases z)
 have htr:=Tr.sp (w:=w) (m:=J.length) (Jq:=fun k j=>Dp (J.getD k []) j) (Dt.Bp R1 ps1 (Dt.rw row)) (fun y hy=>by
  rcases List.mem_cons.mp hy with rfl | hy
  ·exact FV hJ hw row a1
  ·obtain⟨r,hr,rfl⟩:=a2' y hy
   exact FV hJ hw r hr)
 have e2:e.2=Dt.aS (w+1+J.length) R1 ps1 (Dt.rw row):=by rw [a5]
 have e1:Dt.fp (w+1) (Dt.left R1 ps1 (Dt.rw row))=none:=by rw [a5] at h1;exact h1
 intro j hj
 have hget:∀k<J.length,Dt.rw (e.2.drop (w+1)) k=Dt.left R1 ps1 (Dt.rw row) (w+1+k):=fun k hk=>by
  rw [HW,e2,Dt.dI (by omega)]
 have:(Dq.sm (List.range J.length) fun k=>((Dt.rw (e.2.drop (w+1)) k:Int):Rat)*Dp (J.getD k []) j)=((Dt.left R1 ps1 (Dt.rw row) j:Int):Rat):=by
  rw [htr j hj]
  exact Dq.cQ fun k hk=>by rw [hget k (List.mem_range.mp hk)]
 rw [this,Dt.A8 e1 j hj]
 rfl
structure Tm (m w D N:Nat)(A:List (List Rat)):Prop where
 len:A.length=m
 wd:∀r∈A,r.length=w
 gn:∀r∈A,Gn D N r
 m4:m≤4
 w4:w≤4
 dp:0<D
 db:D<B
 nb:N<B
 hT:(8*(N*D+D)+1)^5<B
section
variable {m w D N:Nat}{A:List (List Rat)}
theorem Tm.col (h:Tm m w D N A){j:Nat}(hj:j<w):Gn D N (cS A j):=by
 have hmem:∀x∈cS A j,∃r∈A,x∈r:=fun x hx=>by
  obtain⟨r,hr,rfl⟩:=List.mem_map.mp hx
  exact⟨r,hr,iU (by rw [h.wd r hr];exact hj)⟩
 refine⟨by unfold cS;rw [List.length_map,h.len];have:=h.m4;omega,fun x hx=>?_,fun x hx=>?_,h.dp,h.db,h.nb⟩
 ·obtain⟨r,hr,hx⟩:=hmem x hx
  exact (h.gn r hr).den x hx
 ·obtain⟨r,hr,hx⟩:=hmem x hx
  exact (h.gn r hr).num x hx
theorem jd (A:List (List Rat))(n:Nat):(cF A n).length=n:=by unfold cF;rw [List.length_map,List.length_range]
theorem Tm.turn (h:Tm m w D N A):Tm w m D N (cF A w):=by
 refine⟨jd A w,fun r hr=>?_,fun r hr=>?_,h.w4,h.m4,h.dp,h.db,h.nb,h.hT⟩
 ·obtain⟨j,_,rfl⟩:=List.mem_map.mp hr
  unfold cS
  rw [List.length_map,h.len]
 ·obtain⟨j,hj,rfl⟩:=List.mem_map.mp hr
  exact h.col (List.mem_range.mp hj)
theorem Eu {L:List T}{p:Nat}{t:T}(h:L[p]? = some t):cK (.lst L) (aB p)=some t:=by
 have hp:=(List.getElem?_eq_some_iff.mp h).1
 show oZ L (p:Int)=_
 unfold oZ Bi
 rw [if_pos (by omega),if_pos (by omega),Option.bind_some,Int.toNat_natCast,h]
theorem DO (l:List Int)(k:Nat)(h:k≤l.length):Mg (iT l) (some (k:Int)) none=some (iT (l.drop k)):=by
 show some (T.lst (nz (l.map T.int) (some (k:Int)) none))=_
 unfold nz
 rw [HT.vC,HT.Fv,List.length_map,Nat.min_eq_left h,<- List.map_drop,List.take_of_length_le (by rw [List.length_map,List.length_drop];omega)]
 rfl
def rl:FT:=cJ (aG wO (af 0) (fC .non))
theorem Ml {ρ:aK}{q:Option Nat}:rl (ah (jP q)::ρ)=some (!q.isSome,ah (jP q)::ρ):=by
 cases q<;>rfl
theorem Fb {f:FE}{τ:aK}{k:Int}(h:f τ=some (.int k,τ)):fL f τ=some (some k,τ):=by
 unfold fL
 rw [h]
 rfl
theorem MK {f:FE}{fl fh:FO}{τ:aK}{a t:T}{lo hi:Option Int}(h:f τ=some (a,τ))(h1:fl τ=some (lo,τ))(h2:fh τ=some (hi,τ))(h3:Mg a lo hi=some t):Hb f fl fh τ=some (t,τ):=by
 unfold Hb
 rw [h,Option.bind_some]
 dsimp only
 rw [h1,Option.bind_some]
 dsimp only
 rw [h2,Option.bind_some]
 dsimp only
 rw [h3]
 rfl
def tM:jH:=cy yM (aa (Hb (af 1) (fL (af 2)) ij) az)
theorem rq {n:Nat}{Q:O->Prop}:∀(S:List (Option Nat×List Int)) (u v:Option Sl) (acc:List O),(∀e∈S,n≤e.2.length/\∃o,yM [iT (e.2.drop n)]=some o/\(e.1=none->Q o))->acc.length+S.length≤8 ->
  ∃os:List O,eV jo rl tM (S.map eO) [u,v,ah (aB n)] acc=some (acc++os)/\(∀o∈os,Q o)/\((∀e∈S,e.1.isSome=true) ↔ os=[])
 |[],u,v,acc,_,_=>⟨[],by rw [List.append_nil];rfl,(fun _ h=>by cases h),iff_of_true (fun _ h=>by cases h) rfl⟩
 |(q,l)::S,u,v,acc,h,ha=>by
  simp only [List.length_cons] at ha
  obtain⟨hl,o,hs,hq⟩:=h (q,l) List.mem_cons_self
  have h':∀e∈S,n≤e.2.length/\∃o,yM [iT (e.2.drop n)]=some o/\(e.1=none->Q o):=fun e he=>h e (List.mem_cons_of_mem _ he)
  rw [List.map_cons,eV,show jo (eO (q,l)) [u,v,ah (aB n)]=some [ah (jP q),ah (iT l),ah (aB n)] from rfl,Option.bind_some,Ml,Option.bind_some]
  cases q with
  |some p =>
   obtain⟨ts,h1,h2,h3⟩:=rq S (ah (jP (some p))) (ah (iT l)) acc h' (by omega)
   refine⟨ts,h1,h2,Iff.trans ⟨fun k e he=>k e (List.mem_cons_of_mem _ he),fun k e he=>?_⟩ h3⟩
   rcases List.mem_cons.mp he with rfl | he
   ·rfl
   ·exact k e he
  |none =>
   obtain⟨ts,h1,h2,h3⟩:=rq S (ah (jP none)) (ah (iT l)) (acc++[o]) h' (by simp only [List.length_append,List.length_cons,List.length_nil];omega)
   have ef:tM [ah (jP none),ah (iT l),ah (aB n)]=some (o,[ah (jP none),ah (iT l),ah (aB n)]):=fY _ (du (MK (f:=af 1) (fl:=fL (af 2)) (fh:=ij) rfl (Fb rfl) rfl (DO l n hl))) hs
   refine⟨o::ts,?_,fun t ht=>?_,?_⟩
   ·show ((tM [ah (jP none),ah (iT l),ah (aB n)]).bind fun q=>if cM q.2=true/\acc.length<sizeLine then eV jo rl tM (S.map eO) q.2 (acc++[q.1]) else none)=_
    rw [ef,Option.bind_some]
    refine (if_pos ⟨rfl,cL (by omega)⟩).trans ?_
    rw [h1,List.append_assoc]
    rfl
   ·rcases List.mem_cons.mp ht with rfl | ht
    ·exact hq rfl
    ·exact h2 t ht
   ·refine iff_of_false (fun k=>?_) (fun k=>by cases k)
    have:=k (none,l) List.mem_cons_self
    cases this
structure II (w M:Nat)(A:List (List Rat))(r:List Rat):Prop where
 len:r.length=w
 ov:∀x∈r,Ov 1 M x
 ne:∃x∈r,x≠0
 no:∀a∈A,wsum a r=0
abbrev DT:List T->Option O:=ji 4 2 (wx EN wF wa yM)
abbrev j9:List T->Option O:=ji 3 2 (AD DT)
theorem sV (h:Tm m w D N A):(j9 [aq A,aB w]=some (.val .non)/\∀e∈aD (m+w) m (dA (cF A w)) [] [],e.1.isSome=true) \/
  ((∃r,j9 [aq A,aB w]=some (dW r)/\II w ((8*(N*D+D)+1)^5) A r)/\¬ ∀e∈aD (m+w) m (dA (cF A w)) [] [],e.1.isSome=true):=by
 have hT:=h.turn
 have m4:=h.m4
 have w4:=h.w4
 have hlen:=h.len
 have htl:(cF A w).length=w:=jd A w
 have hkl:(dA (cF A w)).length=w:=by rw [jE,htl]
 have hrows:∀row∈dA (cF A w),row.length=m+w/\lZ (N*D+D) (Dt.rw row):=fun row hr=>by
  have:=oh hT.gn hT.wd row hr
  rwa [htl] at this
 have hcr:=eQ (M:=N*D+D) (L:=m+w) (w:=m) h.hT (by omega) (rows:=dA (cF A w)) (by omega) (by omega) hrows
 have htr:=lK hT.gn (by omega)
 have htu:=Kp (A:=A) (w:=w) (by omega) h.wd (by omega)
 have hSl:(aD (m+w) m (dA (cF A w)) [] []).length=w:=by rw [cI,hkl]
 have hea:=lX (M:=N*D+D) (L:=m+w) (w:=m) (by omega) (dA (cF A w)) 0 [] [] (by decide) (fun _ h=>by cases h) (z9 hT.gn hT.wd) (fun row hr=>(hrows row hr).2) (by omega) (by simp only [List.length_nil];omega) (by simp only [List.length_nil];omega)
 have hsr:∀e∈aD (m+w) m (dA (cF A w)) [] [],e.1=none->∀j<m,_:=fun e he h1=>Aa hT.gn hT.wd (by rw [htl];exact he) h1
 generalize hS:aD (m+w) m (dA (cF A w)) [] []=S at *
 have hsh:∀e∈S,m≤e.2.length/\∃o,yM [iT (e.2.drop m)]=some o/\(e.1=none->∃r,o=dW r/\II w ((8*(N*D+D)+1)^5) A r):=fun e he=>by
  obtain⟨q1,q2,q3⟩:=hea e he
  obtain⟨s,s1,s2,s3⟩:=JY (l:=e.2.drop m) (by rw [List.length_drop];omega) (fun y hy=>Nat.lt_of_le_of_lt (q2 y hy) h.hT) q3
  have hdl:(e.2.drop m).length=w:=by rw [List.length_drop];omega
  refine⟨by omega,_,s2,fun h1=>⟨_,rfl,by rw [List.length_map];exact hdl,fun x hx=>?_,?_,fun a ha=>?_⟩⟩
  ·obtain⟨y,hy,rfl⟩:=List.mem_map.mp hx
   exact (s3 y hy).mono (q2 y hy)
  ·obtain⟨y,hy,hne⟩:=q3
   exact⟨_,List.mem_map.mpr ⟨y,hy,rfl⟩,JS hne s1⟩
  ·obtain⟨i,hi,rfl⟩:=List.mem_iff_getElem.mp ha
   have hrl:=h.wd _ ha
   rw [B5,IA s1 (by rw [hdl,hrl])]
   have hz:=hsr e he h1 i (by omega)
   rw [htl] at hz
   have e1:(Dq.sm (List.range (e.2.drop m).length) fun k=>((Dt.rw (e.2.drop m) k:Int):Rat)*A[i].getD k 0)=Dq.sm (List.range w) fun k=>((Dt.rw (e.2.drop m) k:Int):Rat)*Dp ((cF A w).getD k []) i:=by
    rw [hdl]
    exact Dq.cQ fun k hk=>by
     rw [yg (List.mem_range.mp hk)]
     unfold Dp
     rw [yI hi,List.getD_eq_getElem?_getD (l:=A),List.getElem?_eq_getElem hi]
     rfl
   rw [e1,hz,Rat.mul_zero]
 obtain⟨os,c1,c2,c3⟩:=rq (n:=m) (Q:=fun o=>∃r,o=dW r/\II w ((8*(N*D+D)+1)^5) A r) S none none [] hsh (by rw [List.length_nil,hSl];omega)
 have a1:aX 2 (ai bG (aP 0)) [ah (aq A),ah (aB w),none,none]=some (.nx [ah (aq A),ah (aB w),ah (aB m),none]):=cU (aN [aq A] (du rfl) (by rw [len_tab,hlen])) rfl
 have e1:=aN (g:=EN) (f:=aa (af 0) (aP 1)) (ρ:=[ah (aq A),ah (aB w),ah (aB m),none]) [aq A,aB w] (dw rfl rfl) htu
 have e2:=aN (g:=wF) [aq (cF A w)] (du e1) htr
 have e3:=aN (g:=wa) _ (dw (g:=af 2) e2 rfl) hcr
 have a2:aX 3 (ai wa (aa (ai wF (aa (ai EN (aa (af 0) (aP 1))) az)) (aP 2))) [ah (aq A),ah (aB w),ah (aB m),none]=some (.nx [ah (aq A),ah (aB w),ah (aB m),ah (.lst (S.map eO))]):=cU e3 rfl
 have b3:=iR (no:=2) (cap:=[2]) (fi:=bo (af 3)) (fg:=jo) (ft:=rl) (fe:=tM) (τ:=[ah (aq A),ah (aB w),ah (aB m),ah (.lst (S.map eO))]) (h1:=rfl) rfl rfl c1
 rw [List.nil_append] at b3
 have hss:DT [aq A,aB w]=some (.lst os):=by
  refine qe rfl ?_
  show dB (aX 2 (ai bG (aP 0))) (dB (aX 3 (ai wa (aa (ai wF (aa (ai EN (aa (af 0) (aP 1))) az)) (aP 2)))) (ik (eW 2 [2] (bo (af 3)) jo rl tM))) [ah (aq A),ah (aB w),none,none]=_
  rw [iI a1,iI a2]
  exact zQ b3
 have hst:j9 [aq A,aB w]=AZ 2 (cy DT (aa (af 0) (aP 1))) [ah (aq A),ah (aB w),none]:=rfl
 have hc:=fY (g:=DT) (ρ:=[ah (aq A),ah (aB w),none]) [aq A,aB w] (dw rfl rfl:aa (af 0) (aP 1) _=_) hss
 rw [hst]
 unfold AZ
 rw [hc,Option.bind_some]
 dsimp only
 rw [if_pos (show 2<[some (Sl.sh (aq A)),some (Sl.sh (aB w)),none].length from Nat.lt_succ_self 2),c3]
 cases os with
 |nil=>exact .inl ⟨rfl,rfl⟩
 |cons o os =>
  obtain⟨r,rfl,hr⟩:=c2 o List.mem_cons_self
  exact .inr ⟨⟨r,rfl,hr⟩,fun k=>by cases k⟩
end
abbrev OO:Addr:=92
abbrev LW:Addr:=112
abbrev LV:Addr:=131
abbrev ia:Addr:=157
section
variable {m w D N:Nat}{A:List (List Rat)}
theorem Jk (h:Tm m w D N A)(X Y:Nat->Dt.Row)(hX:∀i<m,∀c<w,X i c=Dt.rw (bg (A.getD i [])) c)(hY:∀c<w,∀i<m,Y c i=Dt.rw (bg (cS A c)) i):Dt.rank m ((List.range w).map Y)=Dt.rank w ((List.range m).map X):=by
 have gA:∀i<m,Gn D N (A.getD i [])/\(A.getD i []).length=w:=fun i hi=>by
  have hm:=fq (l:=A) (c:=i) (by rw [h.len];exact hi)
  exact⟨h.gn _ hm,h.wd _ hm⟩
 have key:∀i<m,∀c<w,(bh (A.getD i []):Int)*Y c i=(bh (cS A c):Int)*X i c:=fun i hi c hc=>by
  obtain⟨g1,g2⟩:=gA i hi
  have hcl:i<(cS A c).length:=by unfold cS;rw [List.length_map,h.len];exact hi
  rw [hX i hi c hc,hY c hc i hi,BX hcl,BX (by omega:c<(A.getD i []).length)]
  have ex:(cS A c).getD i 0=(A.getD i []).getD c 0:=yI (by rw [h.len];exact hi)
  rw [ex]
  have m1:(A.getD i []).getD c 0∈A.getD i []:=iU (by omega)
  have m2:(A.getD i []).getD c 0∈cS A c:=by
   rw [<- ex]
   exact iU hcl
  obtain⟨_,p1,p2⟩:=iV g1
  obtain⟨_,q1,q2⟩:=iV (h.col hc)
  exact De p1 q1 (p2 _ m1) (q2 _ m2)
 have u0:∀i<m,((bh (A.getD i []):Nat):Int)≠0:=fun i hi=>by have:=(iV (gA i hi).1).2.1;omega
 have v0:∀c<w,((bh (cS A c):Nat):Int)≠0:=fun c hc=>by have:=(iV (h.col hc)).2.1;omega
 refine Nat.le_antisymm ?_ ?_
 ·exact Dt.mR X Y (fun i=>(bh (A.getD i []):Int)) (fun c=>(bh (cS A c):Int)) u0 v0 key
 ·exact Dt.mR Y X (fun c=>(bh (cS A c):Int)) (fun i=>(bh (A.getD i []):Int)) v0 u0 fun c hc i hi=>(key i hi c hc).symm
theorem BZ (A:List (List Rat)):(dA A).map Dt.rw=(List.range A.length).map fun i=>Dt.rw (bT A.length i (A.getD i [])):=by
 unfold dA
 rw [List.map_map]
 rfl
theorem yf (A:List (List Rat))(w:Nat):(dA (cF A w)).map Dt.rw=(List.range w).map fun c=>Dt.rw (bT w c (cS A c)):=by
 rw [BZ,jd]
 exact List.map_congr_left fun c hc=>by rw [yg (List.mem_range.mp hc)]
theorem jY (A:List (List Rat))(c:Nat):(cS A c).length=A.length:=by unfold cS;rw [List.length_map]
theorem HV (h:Tm m w D N A):Dt.rank m ((dA (cF A w)).map Dt.rw)=Dt.rank w ((A.map bg).map Dt.rw):=by
 have e:(A.map bg).map Dt.rw=(List.range m).map fun i=>Dt.rw (bg (A.getD i [])):=by
  rw [List.map_map,Br (Dt.rw ∘ bg) [] A,h.len]
  rfl
 rw [yf,e]
 refine Jk h _ _ (fun i hi c hc=>rfl) (fun c hc i hi=>?_)
 show Dt.rw (bT w c (cS A c)) i=_
 unfold bT
 exact kO (by rw [dZ,jY,h.len];exact hi)
theorem KZ (h:Tm m w D N A):Dt.rank m ((dA (cF A w)).map Dt.rw)=Dt.rank w ((dA A).map Dt.rw):=by
 rw [yf,BZ,h.len]
 refine Jk h _ _ (fun i hi c hc=>?_) (fun c hc i hi=>?_)
 ·show Dt.rw (bT m i (A.getD i [])) c=_
  unfold bT
  have hm:=fq (l:=A) (c:=i) (by rw [h.len];exact hi)
  exact kO (by rw [dZ,h.wd _ hm];exact hc)
 ·show Dt.rw (bT w c (cS A c)) i=_
  unfold bT
  exact kO (by rw [dZ,jY,h.len];exact hi)
theorem CT {w:Nat}{rows:List (List Int)}:Dt.rank w (rows.map Dt.rw)≤rows.length:=by
 have e5:(cT (aD w w rows [] [])).length=Dt.rank w (rows.map Dt.rw):=pA w w rows 0 [] []
 rw [<- e5]
 exact Nat.le_trans (mG _) (Nat.le_of_eq (cI _ _ _ _ _))
def sx:List (List Rat)->Nat
 |[]=>0
 |r::_=>r.length
def idx:Nat->List (Option Nat×List Int)->List Nat
 |_,[]=>[]
 |k,(none,_)::st=>idx (k+1) st
 |k,(some _,_)::st=>k::idx (k+1) st
theorem yX (L w:Nat):∀(rows:List (List Int)) (i:Nat) (R:List Dt.Row) (ps:List Nat),idx i (aD L w rows R ps)=Dt.fr w (rows.map Dt.rw) i R ps
 |[],i,R,ps=>rfl
 |row::rows,i,R,ps=>by
  rw [aD,List.map_cons,Dt.fr]
  cases e:Dt.fp w (Dt.left R ps (Dt.rw row)) with
  |none=>dsimp only;rw [idx,yX L w rows]
  |some p=>dsimp only;rw [idx,yX L w rows]
def LB:FG:=bO (aH (ak 0) (aH (bO (aH (ak 1) (aH (ak 2) bN))) bN))
def LA:FT:=cJ (aG fO (af 1) (fC .non))
theorem uB:∀(st:List (Option Nat×List Int)) (k:Nat) (u v x:Option Sl) (acc:List T),acc.length+st.length≤1000->cY LB LA (af 0) (wJ k (st.map eO)) [u,v,x] acc=some (acc++(idx k st).map fun (i:Nat)=>aB i)
 |[],k,u,v,x,acc,_=>by simp [wJ,cY,idx]
 |(q,l)::st,k,u,v,x,acc,h=>by
  simp only [List.length_cons] at h
  have e1:LB (.tup [aB k,eO (q,l)]) [u,v,x]=some [ah (aB k),ah (jP q),ah (iT l)]:=rfl
  have e2:LA [ah (aB k),ah (jP q),ah (iT l)]=some (!oB (jP q),[ah (aB k),ah (jP q),ah (iT l)]):=pq rfl
  rw [List.map_cons,wJ,cY,e1,Option.bind_some,e2,Option.bind_some]
  cases q with
  |none =>
   show cY LB LA (af 0) (wJ (k+1) (st.map eO)) [ah (aB k),ah (jP none),ah (iT l)] acc=_
   rw [uB st (k+1) _ _ _ acc (by omega),idx]
  |some p =>
   have e3:af 0 [ah (aB k),ah (jP (some p)),ah (iT l)]=some (aB k,[ah (aB k),ah (jP (some p)),ah (iT l)]):=rfl
   show ((af 0 [ah (aB k),ah (jP (some p)),ah (iT l)]).bind fun q=>if cM q.2=true/\acc.length<sizeLine then cY LB LA (af 0) (wJ (k+1) (st.map eO)) q.2 (acc++[q.1]) else none)=_
   rw [e3,Option.bind_some]
   refine (if_pos ⟨rfl,cL (by omega)⟩).trans ?_
   rw [uB st (k+1) _ _ _ _ (by rw [List.length_append];simp only [List.length_cons,List.length_nil];omega),idx,List.map_cons,List.append_assoc]
   rfl
theorem Ls (A:List (List Rat))(h:∀r∈A,r.length=sx A)(ρ:aK):Ha (eL (af 0)) (ai bG (aa (aG cK (af 0) (aU 0)) az)) (aU 0) (ah (aq A)::ρ)=some (.int (sx A:Nat),ah (aq A)::ρ):=by
 cases A with
 |nil=>rfl
 |cons r A =>
  have g:cK (aq (r::A)) (.int 0)=some (ar r):=Eu (L:=(r::A).map ar) (p:=0) rfl
  have h2:aG cK (af 0) (aU 0) (ah (aq (r::A))::ρ)=some (ar r,ah (aq (r::A))::ρ):=by
   unfold aG
   rw [show af 0 (ah (aq (r::A))::ρ)=some (aq (r::A),ah (aq (r::A))::ρ) from rfl,Option.bind_some]
   show (cK (aq (r::A)) (.int 0)).bind _=_
   rw [g]
   rfl
  have h3:bG [ar r]=some (.int (r.length:Nat)):=by
   show some (T.int ((r.map bL).length:Nat))=_
   rw [List.length_map]
  exact aN [ar r] (du h2) h3
abbrev L5:List T->Option T:=dH 1 1 (me Jc Ja)
theorem Mb {D N:Nat}{J:List (List Rat)}(h:∀r∈J,Gn D N r)(hl:J.length≤8):L5 [aq J]=some (.lst ((J.map bg).map iT)):=by
 have c1:=bZ (φ:=ar) (fe:=ai Ja (aa (af 0) (aa (ai Jc (aP 0)) az))) (g:=fun r=>iT (bg r)) (ρ:=[]) rfl J none [] (fun r hr=>aN [ar r,.int (bh r:Nat)] (dw rfl (aN [ar r] rfl (Jd (h r hr)))) (by
  rw [Jb (h r hr)]
  unfold iT bg
  rw [List.map_map]
  rfl)) (cz hl)
 have e1:=cj (no:=1) (cap:=[]) (fi:=bo (af 0)) (fg:=ak 0) (ft:=aA) (τ:=[ah (aq J)]) (h1:=rfl) rfl rfl c1
 refine ig rfl ?_
 refine (ll e1).trans ?_
 rw [List.nil_append,List.map_map]
 rfl
abbrev LZ:List T->Option T:=dH 3 1 (md L5 wa)
theorem L8 (h:Tm m w D N A):∃ns:List T,LZ [aq A]=some (.lst ns)/\ns.length=Dt.rank (sx A) ((A.map bg).map Dt.rw):=by
 have m4:=h.m4
 have hwd:∀r∈A,r.length=sx A:=fun r hr=>by
  cases A with
  |nil=>cases hr
  |cons a A=>rw [h.wd r hr];exact (h.wd a List.mem_cons_self).symm
 have hw8:sx A≤4:=by
  cases A with
  |nil=>exact Nat.zero_le _
  |cons a A=>exact Nat.le_trans (Nat.le_of_eq (h.wd a List.mem_cons_self)) h.w4
 have hpow:(8*(N*D)+1)^5<B:=Nat.lt_of_le_of_lt (Nat.pow_le_pow_left (by omega) 5) h.hT
 have e1:aX 1 (Ha (eL (af 0)) (ai bG (aa (aG cK (af 0) (aU 0)) az)) (aU 0)) [ah (aq A),none,none]=some (.nx [ah (aq A),ah (.int (sx A:Nat)),none]):=cU (Ls A hwd _) rfl
 have e4:=eQ (M:=N*D) (L:=sx A) (w:=sx A) hpow (Nat.le_refl _) (rows:=A.map bg) (by omega) (by rw [List.length_map,h.len];exact m4) (fun row hr=>by
  obtain⟨r,hm,rfl⟩:=List.mem_map.mp hr
  exact⟨by rw [dZ];exact hwd r hm,Iw (h.gn r hm)⟩)
 have e5:aX 2 (ai wa (aa (ai L5 (aP 0)) (aP 1))) [ah (aq A),ah (.int (sx A:Nat)),none]=some (.nx [ah (aq A),ah (.int (sx A:Nat)),ah (.lst ((aD (sx A) (sx A) (A.map bg) [] []).map eO))]):=
  cU (aN [.lst ((A.map bg).map iT),.int (sx A:Nat)] (dw (aN [aq A] (du rfl) (Mb h.gn (by rw [h.len];omega))) rfl) e4) rfl
 have hcc:=uB (aD (sx A) (sx A) (A.map bg) [] []) 0 none none none [] (by rw [cI,List.length_map,List.length_nil,h.len];omega)
 have e6:=cj (no:=3) (cap:=[]) (fi:=lL (aP 2)) (fg:=LB) (ft:=LA) (fe:=af 0) (τ:=[ah (aq A),ah (.int (sx A:Nat)),ah (.lst ((aD (sx A) (sx A) (A.map bg) [] []).map eO))]) (h1:=rfl) rfl rfl hcc
 refine⟨[]++(idx 0 (aD (sx A) (sx A) (A.map bg) [] [])).map fun (i:Nat)=>aB i,ig rfl ?_,?_⟩
 ·show aO (aX 1 (Ha (eL (af 0)) (ai bG (aa (aG cK (af 0) (aU 0)) az)) (aU 0))) (aO (aX 2 (ai wa (aa (ai L5 (aP 0)) (aP 1)))) (bE (bB 3 [] (lL (aP 2)) LB LA (af 0)))) [ah (aq A),none,none]=_
  rw [bJ e1,bJ e5]
  exact ll e6
 ·rw [List.nil_append,List.length_map,yX]
  rfl
abbrev ie:List T->Option O:=ji 3 1 (sE wF wa Dl JO Jf)
end
theorem G3 {n D N:Nat}{A:List (List Rat)}(h:Tm n n D N A)(hall:∀e∈aD (n+n) n (dA A) [] [],e.1.isSome=true):∃(V:List (List Rat)) (D':Nat),ie [aq A]=some (kW V)/\(∀i<n,∀k<n,Dq.sm (List.range n) (fun j=>iJ A i j*iJ V j k)=fM i k)/\V.length=n/\(∀r∈V,r.length=n)/\0<D'/\D'≤(8*(N*D+D)+1)^5/\∀r∈V,∀x∈r,Ov D' ((8*(N*D+D)+1)^5) x:=by
 have h4:=h.m4
 have hlen:=h.len
 have htl:(dA A).length=n:=by rw [jE,hlen]
 have hrows:∀row∈dA A,row.length=n+n/\lZ (N*D+D) (Dt.rw row):=fun row hr=>by
  have:=oh h.gn h.wd row hr
  rwa [hlen] at this
 have hSl:(aD (n+n) n (dA A) [] []).length=n:=by rw [cI,htl]
 have hk:(cT (aD (n+n) n (dA A) [] [])).length=n:=(List.length_filter_eq_length_iff.mpr hall).trans hSl
 obtain⟨_,qs,q1,q2,_,_⟩:=qg (L:=n+n) (rows:=dA A) (by omega) (by omega) (by rw [htl];exact hk)
 rw [htl] at q2
 have hcr:=eQ (M:=N*D+D) (L:=n+n) (w:=n) h.hT (by omega) (rows:=dA A) (by omega) (by omega) hrows
 have htr:=lK h.gn (by rw [hlen];exact h4)
 have hbr:∀k<n,_:=fun k (hkn:k<n)=>yS (M:=N*D+D) (L:=n+n) (n:=n) (c:=n+k) h.hT htl h4 (by omega) (by omega) (by omega) hrows hk
 generalize hR0:((dA A).map Dt.rw).reverse=R0 at hbr
 have hbr2:∀k<n,qs.reverse.Nodup/\(∀j,j<n ↔ j∈qs.reverse)/\Dt.det R0 qs.reverse≠0/\(Dt.det R0 qs.reverse).natAbs≤(8*(N*D+D)+1)^5/\(∀j,(Dt.det R0 (Dt.put qs.reverse (n+k) j)).natAbs≤(8*(N*D+D)+1)^5)/\JO [.lst ((aD (n+n) n (dA A) [] []).map eO),aB n,.int ((n+k:Nat):Int)]=some (ar ((List.range n).map fun j=>Rat.divInt (Dt.det R0 (Dt.put qs.reverse (n+k) j)) (Dt.det R0 qs.reverse))):=fun k hkn=>by
  obtain⟨R1,ps1,e1,e2,e3,e4,e5,e6,e7,e8,e9⟩:=hbr k hkn
  have:=e8 qs q2
  subst this
  subst e1
  exact⟨e2,e4,e5,e6,e7,e9⟩
 let Bt:List (List Rat):=(List.range n).map fun k=>(List.range n).map fun j=>Rat.divInt (Dt.det R0 (Dt.put qs.reverse (n+k) j)) (Dt.det R0 qs.reverse)
 have hBt:Bt=(List.range n).map fun k=>(List.range n).map fun j=>Rat.divInt (Dt.det R0 (Dt.put qs.reverse (n+k) j)) (Dt.det R0 qs.reverse):=rfl
 have hBl:Bt.length=n:=by rw [hBt,List.length_map,List.length_range]
 have hBw:∀r∈Bt,r.length=n:=fun r hr=>by
  rw [hBt] at hr
  obtain⟨k,_,rfl⟩:=List.mem_map.mp hr
  rw [List.length_map,List.length_range]
 have hV:∀j<n,∀k<n,iJ (cF Bt n) j k=Rat.divInt (Dt.det R0 (Dt.put qs.reverse (n+k) j)) (Dt.det R0 qs.reverse):=fun j hj k hkn=>by
  unfold iJ cF
  rw [mF hj,GK (by omega),hBt,mF hkn,mF hj]
 have hVw:∀r∈cF Bt n,r.length=n:=fun r hr=>by
  obtain⟨j,_,rfl⟩:=List.mem_map.mp hr
  unfold cS
  rw [List.length_map,hBl]
 have hVm:∀r∈cF Bt n,∀x∈r,∃k j,k<n/\x=Rat.divInt (Dt.det R0 (Dt.put qs.reverse (n+k) j)) (Dt.det R0 qs.reverse):=fun r hr x hx=>by
  obtain⟨j,hj,rfl⟩:=List.mem_map.mp hr
  obtain⟨b,hb,rfl⟩:=List.mem_map.mp hx
  rw [hBt] at hb
  obtain⟨k,hk',rfl⟩:=List.mem_map.mp hb
  exact⟨k,j,List.mem_range.mp hk',mF (List.mem_range.mp hj) 0⟩
 refine⟨cF Bt n,if n=0 then 1 else (Dt.det R0 qs.reverse).natAbs,?_,?_,jd _ _,hVw,?_,?_,?_⟩
 ·have a1:aX 1 (ai bG (aP 0)) [ah (aq A),none,none]=some (.nx [ah (aq A),ah (aB n),none]):=cU (aN [aq A] (du rfl) (by rw [len_tab,hlen])) rfl
  have a2:aX 2 (ai wa (aa (ai wF (aP 0)) (aP 1))) [ah (aq A),ah (aB n),none]=some (.nx [ah (aq A),ah (aB n),ah (.lst ((aD (n+n) n (dA A) [] []).map eO))]):=cU (aN _ (dw (g:=af 1) (aN (g:=wF) [aq A] (du rfl) htr) rfl) hcr) rfl
  have k3:ai bG (aa (ai Dl (aP 2)) az) [ah (aq A),ah (aB n),ah (.lst ((aD (n+n) n (dA A) [] []).map eO))]=some (aB n,[ah (aq A),ah (aB n),ah (.lst ((aD (n+n) n (dA A) [] []).map eO))]):=
   aN [.lst ((cT (aD (n+n) n (dA A) [] [])).map eO)] (du (aN [.lst ((aD (n+n) n (dA A) [] []).map eO)] (du rfl) (AV (by omega)))) (by
    show some (T.int (((cT (aD (n+n) n (dA A) [] [])).map eO).length:Nat))=_
    rw [List.length_map,hk])
  have t3:=Ms (b:=n) (g:=af 1) k3 rfl
  have a3:cq (cJ (aG ym (ai bG (aa (ai Dl (aP 2)) az)) (af 1))) gS bS [ah (aq A),ah (aB n),ah (.lst ((aD (n+n) n (dA A) [] []).map eO))]=some (.nx [ah (aq A),ah (aB n),ah (.lst ((aD (n+n) n (dA A) [] []).map eO))]):=by
   unfold cq
   rw [t3,Option.bind_some,decide_eq_false (Nat.lt_irrefl n)]
   rfl
  have c4:=bZ (φ:=fun k:Nat=>aB k) (fe:=ai JO (aa (af 1) (aa (af 2) (aa (aG cV (af 2) (af 0)) az)))) (g:=fun k=>ar ((List.range n).map fun j=>Rat.divInt (Dt.det R0 (Dt.put qs.reverse (n+k) j)) (Dt.det R0 qs.reverse))) (ρ:=[ah (.lst ((aD (n+n) n (dA A) [] []).map eO)),ah (aB n)]) rfl (List.range n) none [] (fun k hk'=>aN _ (Ca rfl rfl (dR (g:=cV) (fa:=af 2) (fb:=af 0) rfl rfl qr)) (by
   have:=(hbr2 k (List.mem_range.mp hk')).2.2.2.2.2
   rw [Int.natCast_add] at this
   exact this)) (cz (by rw [List.length_range];omega))
  have b4:=cj (no:=1) (cap:=[2,1]) (fg:=ak 0) (ft:=aA) (fe:=ai JO (aa (af 1) (aa (af 2) (aa (aG cV (af 2) (af 0)) az)))) (τ:=[ah (aq A),ah (aB n),ah (.lst ((aD (n+n) n (dA A) [] []).map eO))]) (h1:=gb (f:=af 1) rfl (by omega)) rfl rfl c4
  have e4:T.lst ([]++(List.range n).map fun k=>ar ((List.range n).map fun j=>Rat.divInt (Dt.det R0 (Dt.put qs.reverse (n+k) j)) (Dt.det R0 qs.reverse)))=aq Bt:=by
   unfold aq
   rw [hBt,List.map_map,List.nil_append]
   rfl
  rw [e4] at b4
  have f4:=fY (g:=Jf) _ (dw (g:=af 1) b4 rfl) (Jg (A:=Bt) (w:=n) (by omega) hBw (by omega))
  refine qe rfl ?_
  show dB (aX 1 (ai bG (aP 0))) (dB (aX 2 (ai wa (aa (ai wF (aP 0)) (aP 1)))) (dB (cq (cJ (aG ym (ai bG (aa (ai Dl (aP 2)) az)) (af 1))) gS bS) (ik (cy Jf (aa (bB 1 [2,1] (bA (aP 1)) (ak 0) aA (ai JO (aa (af 1) (aa (af 2) (aa (aG cV (af 2) (af 0)) az))))) (aP 1)))))) [ah (aq A),none,none]=_
  rw [iI a1,iI a2,iI a3]
  exact zQ f4
 ·intro i hi' k hkn
  ·have hi:=List.mem_range.mpr hi'
   obtain⟨e1,e2,e3,e4,e5,e6⟩:=hbr2 k hkn
   have hmem:A.getD i []∈A:=fq (by omega)
   have hg:=h.gn _ hmem
   have hlow:=(iV hg).2.1
   have hx:Dt.rw (bT n i (A.getD i []))∈R0:=by
    rw [<- hR0,List.mem_reverse,List.mem_map]
    refine⟨_,?_,rfl⟩
    unfold dA
    rw [hlen]
    exact List.mem_map.mpr ⟨i,hi,rfl⟩
   have hc:=Dt.p8 e1 (n+k) hx
   have hs:Dt.srt qs.reverse=List.range n:=(Dt.gO n h4 qs.reverse (Dt.gT (by rw [List.length_reverse,q1,htl]) fun p hp=>(e2 p).mpr hp) e1).1
   rw [<- BO,hs] at hc
   have hxc:Dt.rw (bT n i (A.getD i [])) (n+k)=if k=i then (bh (A.getD i []):Int) else 0:=by
    unfold bT
    rw [mT (by rw [dZ,h.wd _ hmem]),pE]
    by_cases e:k=i
    ·rw [if_pos ⟨e,hkn⟩,if_pos e]
    ·rw [if_neg fun z=>e z.1,if_neg e]
   rw [hxc] at hc
   have hl0:((bh (A.getD i []):Nat):Rat)≠0:=fun z=>by
    have:bh (A.getD i [])=0:=by exact_mod_cast z
    omega
   have hd0:((Dt.det R0 qs.reverse:Int):Rat)≠0:=fun z=>e3 (by exact_mod_cast z)
   show Dq.sm (List.range n) (fun j=>iJ A i j*iJ (cF Bt n) j k)=fM i k
   rw [mZ (fun j=>Dt.rw (bT n i (A.getD i [])) j*Dt.det R0 (Dt.put qs.reverse (n+k) j)) _ (1/(((bh (A.getD i []):Nat):Rat)*((Dt.det R0 qs.reverse:Int):Rat))) (List.range n) (fun j hj=>by
    have hj':=List.mem_range.mp hj
    have er:=vB hg j
    have ex:Dt.rw (bT n i (A.getD i [])) j=Dt.rw (bg (A.getD i [])) j:=by
     unfold bT
     exact kO (by rw [dZ,h.wd _ hmem];exact hj')
    rw [hV j hj' k hkn,Rat.divInt_eq_div,show iJ A i j=Dp (A.getD i []) j from rfl,er,ex,Rat.intCast_mul]
    grind),hc]
   unfold fM
   by_cases e:k=i
   ·rw [if_pos e,if_pos e,Rat.intCast_mul,Rat.intCast_natCast]
    grind
   ·rw [if_neg e,if_neg e,Int.mul_zero,show (((0:Int)):Rat)=0 from rfl,Rat.mul_zero]
 ·split
  ·decide
  ·have:=(hbr2 0 (by omega)).2.2.1
   omega
 ·split
  ·exact Nat.one_le_pow _ _ (by omega)
  ·exact (hbr2 0 (by omega)).2.2.2.1
 ·intro r hr x hx
  obtain⟨k,j,hkn,rfl⟩:=hVm r hr x hx
  obtain⟨e1,e2,e3,e4,e5,e6⟩:=hbr2 k hkn
  rw [if_neg (by omega)]
  exact Ov.divInt e3 (e5 j)
abbrev AM:List T->Option T:=fun ts=>(j9 ts).bind fun o=>some o.tr
abbrev oA:List T->Option XI:=GU 3 1 (jh ia wF wa Dl AM)
theorem G4 {n D N:Nat}{A:List (List Rat)}(h:Tm n n D N A)(hall:¬ ∀e∈aD (n+n) n (dA A) [] [],e.1.isSome=true){r:List Rat}(hr:j9 [aq A,aB n]=some (dW r)):ie [aq A]=none/\oA [aq A]=some ⟨ia,["numbers"],[ar r]⟩:=by
 have h4:=h.m4
 have hlen:=h.len
 have htl:(dA A).length=n:=by rw [jE,hlen]
 have hrows:∀row∈dA A,row.length=n+n/\lZ (N*D+D) (Dt.rw row):=fun row hr=>by
  have:=oh h.gn h.wd row hr
  rwa [hlen] at this
 have hSl:(aD (n+n) n (dA A) [] []).length=n:=by rw [cI,htl]
 have hk:(cT (aD (n+n) n (dA A) [] [])).length<n:=by
  rcases Nat.lt_or_ge (cT (aD (n+n) n (dA A) [] [])).length n with z | z
  ·exact z
  ·refine absurd (List.length_filter_eq_length_iff.mp ?_) hall
   have:=mG (aD (n+n) n (dA A) [] [])
   show (cT (aD (n+n) n (dA A) [] [])).length=_
   omega
 have hcr:=eQ (M:=N*D+D) (L:=n+n) (w:=n) h.hT (by omega) (rows:=dA A) (by omega) (by omega) hrows
 have htr:=lK h.gn (by rw [hlen];exact h4)
 have a1:aX 1 (ai bG (aP 0)) [ah (aq A),none,none]=some (.nx [ah (aq A),ah (aB n),none]):=cU (aN [aq A] (du rfl) (by rw [len_tab,hlen])) rfl
 have a2:aX 2 (ai wa (aa (ai wF (aP 0)) (aP 1))) [ah (aq A),ah (aB n),none]=some (.nx [ah (aq A),ah (aB n),ah (.lst ((aD (n+n) n (dA A) [] []).map eO))]):=cU (aN _ (dw (g:=af 1) (aN (g:=wF) [aq A] (du rfl) htr) rfl) hcr) rfl
 generalize hS:aD (n+n) n (dA A) [] []=S at *
 have k3:ai bG (aa (ai Dl (aP 2)) az) [ah (aq A),ah (aB n),ah (.lst (S.map eO))]=some (.int ((cT S).length:Nat),[ah (aq A),ah (aB n),ah (.lst (S.map eO))]):=
  aN [.lst ((cT S).map eO)] (du (aN [.lst (S.map eO)] (du rfl) (AV (by omega)))) (by
   show some (T.int (((cT S).map eO).length:Nat))=_
   rw [List.length_map])
 have t3:=Ms (b:=n) (g:=af 1) k3 rfl
 rw [decide_eq_true hk] at t3
 constructor
 ·show dB (aX 1 (ai bG (aP 0))) (dB (aX 2 (ai wa (aa (ai wF (aP 0)) (aP 1)))) (dB (cq (cJ (aG ym (ai bG (aa (ai Dl (aP 2)) az)) (af 1))) gS bS) _)) [ah (aq A),none,none]=_
  rw [iI a1,iI a2]
  unfold dB cq
  rw [t3]
  rfl
 ·have hs:AM [aq A,aB n]=some (ar r):=by
   show (j9 _).bind _=_
   rw [hr,Option.bind_some,ju]
  have e4:=aN (g:=AM) (f:=aa (af 0) (aP 1)) (ρ:=[ah (aq A),ah (aB n),ah (.lst (S.map eO))]) [aq A,aB n] (dw rfl rfl) hs
  have e5:mz ia "numbers" (aa (ai AM (aa (af 0) (aP 1))) az) [ah (aq A),ah (aB n),ah (.lst (S.map eO))]=some (⟨ia,["numbers"],[ar r]⟩,[ah (aq A),ah (aB n),ah (.lst (S.map eO))]):=by
   unfold mz
   rw [du e4]
   rfl
  have e6:jh ia wF wa Dl AM [ah (aq A),none,none]=some (⟨ia,["numbers"],[ar r]⟩,[ah (aq A),ah (aB n),ah (.lst (S.map eO))]):=by
   show sY (aX 1 (ai bG (aP 0))) (sY (aX 2 (ai wa (aa (ai wF (aP 0)) (aP 1)))) (D5 (cJ (aG ym (ai bG (aa (ai Dl (aP 2)) az)) (af 1))) (mz ia "numbers" (aa (ai AM (aa (af 0) (aP 1))) az)) J0)) [ah (aq A),none,none]=_
   unfold sY
   rw [a1,Option.bind_some]
   show ((aX 2 _ _).bind _)=_
   rw [a2,Option.bind_some]
   show (D5 _ _ _ _)=_
   unfold D5
   rw [t3,Option.bind_some]
   exact e5
  show (if _ then _ else _)=_
  rw [if_pos (by rfl)]
  show (jh ia wF wa Dl AM [ah (aq A),none,none]).bind _=_
  rw [e6]
  rfl
abbrev oM:List T->Option O:=ji 4 3 (gE jI)
theorem Ll {xs R1:T}{lo hi:Int}{k w:Int}{o:O}(bk:k.natAbs<B)(bw:w.natAbs<B)(h:J8 xs (some (k*w)) (some (k*w+w))=some o):
  D7 (af 1) (fL (aG bI (af 0) (af 2))) (fL (aG cV (aG bI (af 0) (af 2)) (af 2))) [ah (.int k),ah xs,ah (.int w)]=some (o,[ah (.int k),ah xs,ah (.int w)]):=by
 have e1:fL (aG bI (af 0) (af 2)) [ah (.int k),ah xs,ah (.int w)]=some (some (k*w),[ah (.int k),ah xs,ah (.int w)]):=by walk_at "ev"
 have e2:fL (aG cV (aG bI (af 0) (af 2)) (af 2)) [ah (.int k),ah xs,ah (.int w)]=some (some (k*w+w),[ah (.int k),ah xs,ah (.int w)]):=by walk_at "ev"
 unfold D7
 rw [show af 1 [ah (.int k),ah xs,ah (.int w)]=some (xs,[ah (.int k),ah xs,ah (.int w)]) from rfl,Option.bind_some]
 dsimp only
 rw [e1,Option.bind_some]
 dsimp only
 rw [e2,Option.bind_some]
 dsimp only
 rw [h]
 rfl
theorem D2 (c:Int)(m w:Nat)(hm:m≤6)(hw:w≤6):∃A:List (List Rat),oM [.int c,aB m,aB w]=some (kW A)/\A.length=m/\(∀r∈A,r.length=w)/\∀r∈A,∀x∈r,Lq 1 9 x:=by
 have hmw:m*w≤36:=Nat.le_trans (Nat.mul_le_mul hm hw) (by decide)
 obtain⟨xs,e1,e2,e3⟩:=G6 c (m*w) (by omega)
 refine⟨Cm xs m w,?_,by unfold Cm;rw [List.length_map,List.length_range],fun r hr=>?_,fun r hr x hx=>?_⟩
 ·have hc:=gR (φ:=fun j:Nat=>aB j) (fe:=D7 (af 1) (fL (aG bI (af 0) (af 2))) (fL (aG cV (aG bI (af 0) (af 2)) (af 2)))) (g:=fun k=>dW ((xs.drop (k*w)).take w)) (ρ:=[ah (ar xs),ah (aB w)]) rfl (List.range m) none [] (fun k hk=>by
   have hkm:=List.mem_range.mp hk
   have hcut:=LY xs k w m hkm e2
   refine Ll (R1:=.non) (lo:=0) (hi:=0) (lj (by omega)) (lj (by omega)) ?_
   show some (O.lst ((nz (xs.map bL) _ _).map .val))=_
   rw [hcut]
   rfl) (zV (by rw [List.length_range];omega))
  have eS:ai jI (aa (af 0) (aa (aG bI (af 1) (af 2)) az)) [ah (.int c),ah (aB m),ah (aB w),none]=some (ar xs,[ah (.int c),ah (aB m),ah (aB w),none]):=by
   have bm:((m:Nat):Int).natAbs<B:=lj (by omega)
   have bw:((w:Nat):Int).natAbs<B:=lj (by omega)
   have e1:jI [.int c,.int ((m:Int)*(w:Int))]=some (ar xs):=by
    rw [show ((m:Int)*(w:Int))=((m*w:Nat):Int) from (Int.natCast_mul m w).symm]
    exact e1
   clear hc e2 e3 hmw
   generalize ar xs=R2 at *
   walk_at "ev"
  have e:=iR (no:=1) (cap:=[3,2]) (fi:=bA (aP 1)) (fg:=ak 0) (ft:=aA) (τ:=[ah (.int c),ah (aB m),ah (aB w),ah (ar xs)]) (gb (f:=af 1) (n:=m) rfl (by omega)) rfl rfl hc
  show gE jI [ah (.int c),ah (aB m),ah (aB w),none]=_
  unfold gE
  rw [iI (τ':=[ah (.int c),ah (aB m),ah (aB w),ah (ar xs)]) (cU eS rfl)]
  unfold ik
  rw [e,Option.bind_some]
  show some (O.lst ([]++(List.range m).map fun k=>dW ((xs.drop (k*w)).take w)))=some (O.lst ((Cm xs m w).map dW))
  unfold Cm
  rw [List.map_map]
  rfl
 ·unfold Cm at hr
  obtain⟨k,hk,rfl⟩:=List.mem_map.mp hr
  have hkm:=List.mem_range.mp hk
  have hkw:k*w+w≤m*w:=by
   have:(k+1)*w≤m*w:=Nat.mul_le_mul_right w hkm
   rw [Nat.add_mul,Nat.one_mul] at this
   exact this
  rw [List.length_take,List.length_drop,e2]
  omega
 ·unfold Cm at hr
  obtain⟨k,hk,rfl⟩:=List.mem_map.mp hr
  exact e3 x (List.mem_of_mem_drop (List.mem_of_mem_take hx))
theorem ER {N d:Int}(hd:¬ d=0):bU (.int N) (.int d)=some (.int (N.fmod d)):=if_pos hd
theorem IW {N k d:Int}{τ:aK}(h3:τ[3]? = some (ah (.int N)))(h2:τ[2]? = some (ah (.int k)))(hd:¬ d=0)(bd:d.natAbs<B)(hk:¬ k=0):aG bU (aG dC (af 3) (fC (.int d))) (af 2) τ=some (.int ((N.fdiv d).fmod k),τ):=
 dR (dR (fV h3) rfl (IQ hd bd)) (fV h2) (ER hk)
theorem Bk {i:Nat}{f:FE}{τ:aK}{us:List T}{k t:T}(h:τ[i]? = some (some (.own us)))(hf:f τ=some (k,τ))(hx:cK (.lst us) k=some t):ix i f τ=some (t,τ):=by
 unfold ix
 rw [h]
 dsimp only
 rw [hf,Option.bind_some]
 dsimp only
 rw [h]
 dsimp only
 rw [hx]
 rfl
def DC:FE:=ai Gi (aa (af 0) (aa (ai Hw (aa (af 2) (aP 1))) az))
def DE:FS:=(aO (aX 4 (ix 0 (aG bU (aG dC (af 3) (aU 3)) (af 2))))
  (aO (aX 5 (ix 0 (aG bU (aG dC (af 3) (aU 30)) (af 2))))
  (aO (aX 6 (ck (aa (aG iy (aG bU (aG dC (af 3) (aU 300)) (aU 7)) (aU 3)) (aa (aU 1) az))))
  (kc 0 (bB 2 [6] (fm (aa (af 4) (aP 5))) (bO (aH (ak 0) (aH (ak 1) bN))) aA DC) (af 2)))))
def lG:FS:=(aO (aX 3 (ai fP (aa (af 1) (aa (aG cV (aU 40) (af 2)) az))))
  (cq (cJ (aG gJ (aG bU (af 3) (aU 3)) (aU 0))) DE bS))
structure Bw (w M:Nat)(A:List (List Rat)):Prop where
 wd:∀r∈A,r.length=w
 lq:∀r∈A,∀x∈r,Lq 1 M x
theorem IL {b:Int}(h:b.natAbs≤3):Lq 0 3 (Rat.divInt b 1):=⟨b,rfl,by show b.natAbs≤3*27720^0;omega⟩
theorem LU {x y:Rat}{b:Int}{M:Nat}(hM:M≤2304)(hx:Lq 1 M x)(hy:Lq 1 M y)(hb:b.natAbs≤3):
  DC [ah (bL x),ah (bL y),ah (bL (Rat.divInt b 1))]=some (bL (x+Rat.divInt b 1*y),[ah (bL x),ah (bL y),ah (bL (Rat.divInt b 1))]):=by
 have hby:=IL hb
 have m1:=Je (BK hby (by decide) (by decide)) (BK hy (by decide) (Nat.le_trans hM (by decide)))
 have m2:=IZ (BK hx (by decide) (Nat.le_trans hM (by decide))) (BK (hby.mul hy) (by decide) (Nat.le_trans (Nat.mul_le_mul_left 3 hM) (by decide)))
 exact aN [bL x,bL (Rat.divInt b 1*y)] (dw rfl (aN [bL (Rat.divInt b 1),bL y] (dw rfl rfl) m1)) m2
theorem zip_rows {i j:Nat}{r s:List Rat}{τ:aK}(h1:τ[i]? = some (ah (ar r)))(h2:τ[j]? = some (ah (ar s))):fm (aa (af i) (aa (af j) az)) τ=some ((List.zip r s).map fun p=>T.tup [bL p.1,bL p.2],τ):=by
 have e:fm (aa (af i) (aa (af j) az)) τ=some (jG (r.map bL) (s.map bL),τ):=by
  unfold fm aa az
  rw [fV h1,Option.bind_some,fV h2,Option.bind_some,Option.bind_some]
  rfl
 rw [e,ng]
theorem JE {A:List (List Rat)}{w M k:Nat}{c N:Int}(hA:Bw w M A)(hM:M≤2304)(hw:w≤8)(h0:0<k)(hk:k<A.length)(hl:A.length≤8)(o4 o5 o6:Option Sl):
  ∃(A':List (List Rat)) (o4' o5' o6':Option Sl),A'.length=A.length/\Bw w (4*M) A'/\DE [some (.own (A.map ar)),ah (.int c),ah (aB k),ah (.int N),o4,o5,o6]=some (.nx [some (.own (A'.map ar)),ah (.int c),ah (aB k),ah (.int N),o4',o5',o6']):=by
 have nk:¬ ((k:Nat):Int)=0:=by omega
 have pick:∀d:Int,∃(i:Nat) (r:List Rat),(N.fdiv d).fmod (k:Nat)=(i:Nat)/\A[i]? = some r/\r∈A:=fun d=>by
  have hr:=cx (N.fdiv d) (b:=(k:Nat)) (by omega)
  refine⟨((N.fdiv d).fmod (k:Nat)).toNat,A[((N.fdiv d).fmod (k:Nat)).toNat]'(by omega),by omega,List.getElem?_eq_getElem (by omega),List.getElem_mem _⟩
 obtain⟨i,r,ei,hi,mi⟩:=pick 3
 obtain⟨j,s,ej,hj,mj⟩:=pick 30
 have gi:cK (.lst (A.map ar)) (.int ((N.fdiv 3).fmod (k:Nat)))=some (ar r):=by rw [ei];exact Eu (by rw [List.getElem?_map,hi];rfl)
 have gj:cK (.lst (A.map ar)) (.int ((N.fdiv 30).fmod (k:Nat)))=some (ar s):=by rw [ej];exact Eu (by rw [List.getElem?_map,hj];rfl)
 have b7:=cx (N.fdiv 300) (b:=7) (by decide)
 have hb:((N.fdiv 300).fmod 7-3).natAbs≤3:=by omega
 generalize hbb:(N.fdiv 300).fmod 7-3=b at hb
 have e1:aX 4 (ix 0 (aG bU (aG dC (af 3) (aU 3)) (af 2))) [some (.own (A.map ar)),ah (.int c),ah (aB k),ah (.int N),o4,o5,o6]=some (.nx [some (.own (A.map ar)),ah (.int c),ah (aB k),ah (.int N),ah (ar r),o5,o6]):=
  cU (Bk rfl (IW rfl rfl (by decide) (bX (by decide) (by decide)) nk) gi) rfl
 have e2:aX 5 (ix 0 (aG bU (aG dC (af 3) (aU 30)) (af 2))) [some (.own (A.map ar)),ah (.int c),ah (aB k),ah (.int N),ah (ar r),o5,o6]=some (.nx [some (.own (A.map ar)),ah (.int c),ah (aB k),ah (.int N),ah (ar r),ah (ar s),o6]):=
  cU (Bk rfl (IW rfl rfl (by decide) (bX (by decide) (by decide)) nk) gj) rfl
 have t6:aG iy (aG bU (aG dC (af 3) (aU 300)) (aU 7)) (aU 3) [some (.own (A.map ar)),ah (.int c),ah (aB k),ah (.int N),ah (ar r),ah (ar s),o6]=some (.int b,[some (.own (A.map ar)),ah (.int c),ah (aB k),ah (.int N),ah (ar r),ah (ar s),o6]):=by
  rw [<- hbb]
  exact dR (dR (dR rfl rfl (IQ (by decide) (bX (by decide) (by decide)))) rfl (ER (by decide))) rfl rfl
 have e3:aX 6 (ck (aa (aG iy (aG bU (aG dC (af 3) (aU 300)) (aU 7)) (aU 3)) (aa (aU 1) az))) [some (.own (A.map ar)),ah (.int c),ah (aB k),ah (.int N),ah (ar r),ah (ar s),o6]=some (.nx [some (.own (A.map ar)),ah (.int c),ah (aB k),ah (.int N),ah (ar r),ah (ar s),ah (bL (Rat.divInt b 1))]):=by
  have l2:=Hu
  rw [<- vX]
  refine cU (t:=.tup [.int b,.int 1]) (τ1:=[some (.own (A.map ar)),ah (.int c),ah (aB k),ah (.int N),ah (ar r),ah (ar s),o6]) ?_ rfl
  unfold ck
  rw [dw t6 rfl,Option.bind_some]
  exact if_pos l2
 have hc:=jZ (φ:=fun p:Rat×Rat=>bL p.1) (ψ:=fun p:Rat×Rat=>bL p.2) (fe:=DC) (g:=fun p=>bL (p.1+Rat.divInt b 1*p.2)) (ρ:=[ah (bL (Rat.divInt b 1))]) rfl (List.zip r s) none none [] (fun p hp=>by
  obtain⟨m1,m2⟩:=pM hp
  exact LU hM (hA.lq r mi p.1 m1) (hA.lq s mj p.2 m2) hb) (cz (pL _ _ (by have:=hA.wd r mi;omega)))
 have e4:=cj (no:=2) (cap:=[6]) (fg:=jo) (ft:=aA) (fe:=DC) (zip_rows (i:=4) (j:=5) (r:=r) (s:=s) (τ:=[some (.own (A.map ar)),ah (.int c),ah (aB k),ah (.int N),ah (ar r),ah (ar s),ah (bL (Rat.divInt b 1))]) rfl rfl) rfl rfl hc
 have e5:T.lst ([]++(List.zip r s).map fun p=>bL (p.1+Rat.divInt b 1*p.2))=ar ((List.zip r s).map fun p=>p.1+Rat.divInt b 1*p.2):=by rw [List.nil_append];unfold ar;rw [List.map_map];rfl
 rw [e5] at e4
 generalize hn:(List.zip r s).map (fun p=>p.1+Rat.divInt b 1*p.2)=nr at e4
 have e6:kc 0 (bB 2 [6] (fm (aa (af 4) (aP 5))) (bO (aH (ak 0) (aH (ak 1) bN))) aA DC) (af 2) [some (.own (A.map ar)),ah (.int c),ah (aB k),ah (.int N),ah (ar r),ah (ar s),ah (bL (Rat.divInt b 1))]=some (.nx [some (.own ((A.map ar).set k (ar nr))),ah (.int c),ah (aB k),ah (.int N),ah (ar r),ah (ar s),ah (bL (Rat.divInt b 1))]):=
  BC rfl e4 rfl (by rw [List.length_map];exact hk)
 refine⟨A.set k nr,ah (ar r),ah (ar s),ah (bL (Rat.divInt b 1)),List.length_set,⟨fun t ht=>?_,fun t ht x hx=>?_⟩,?_⟩
 ·rcases List.mem_or_eq_of_mem_set ht with h | h
  ·exact hA.wd t h
  ·rw [h,<- hn,List.length_map,List.length_zip,hA.wd r mi,hA.wd s mj];omega
 ·rcases List.mem_or_eq_of_mem_set ht with h | h
  ·exact (hA.lq t h x hx).mono (by omega)
  ·rw [h,<- hn] at hx
   obtain⟨p,hp,rfl⟩:=List.mem_map.mp hx
   obtain⟨m1,m2⟩:=pM hp
   have q1:=hA.lq r mi p.1 m1
   have q2:=(IL hb).mul (hA.lq s mj p.2 m2)
   exact (q1.add q2).mono (by omega)
 ·unfold DE
  rw [bJ e1,bJ e2,bJ e3,e6,List.map_set]
theorem GC {A:List (List Rat)}{w M k:Nat}{c:Int}(hA:Bw w M A)(hM:M≤2304)(hw:w≤8)(h0:0<k)(hk:k<A.length)(hl:A.length≤8)(o3 o4 o5 o6:Option Sl):
  ∃(A':List (List Rat)) (o3' o4' o5' o6':Option Sl),A'.length=A.length/\Bw w (4*M) A'/\lG [some (.own (A.map ar)),ah (.int c),ah (aB k),o3,o4,o5,o6]=some (.nx [some (.own (A'.map ar)),ah (.int c),ah (aB k),o3',o4',o5',o6']):=by
 have bk:(40+(k:Int)).natAbs<B:=bX (by omega) (by omega)
 have eM:ai fP (aa (af 1) (aa (aG cV (aU 40) (af 2)) az)) [some (.own (A.map ar)),ah (.int c),ah (aB k),o3,o4,o5,o6]=some (.int (iX c (40+(k:Int))),[some (.own (A.map ar)),ah (.int c),ah (aB k),o3,o4,o5,o6]):=
  aN [.int c,.int (40+(k:Int))] (dw rfl (dR rfl rfl qr)) (pB bk)
 generalize iX c (40+(k:Int))=N at eM
 have e1:aX 3 (ai fP (aa (af 1) (aa (aG cV (aU 40) (af 2)) az))) [some (.own (A.map ar)),ah (.int c),ah (aB k),o3,o4,o5,o6]=some (.nx [some (.own (A.map ar)),ah (.int c),ah (aB k),ah (.int N),o4,o5,o6]):=cU eM rfl
 have e2:cJ (aG gJ (aG bU (af 3) (aU 3)) (aU 0)) [some (.own (A.map ar)),ah (.int c),ah (aB k),ah (.int N),o4,o5,o6]=some (decide (N.fmod 3=0),[some (.own (A.map ar)),ah (.int c),ah (aB k),ah (.int N),o4,o5,o6]):=by
  unfold cJ
  have t:aG gJ (aG bU (af 3) (aU 3)) (aU 0) [some (.own (A.map ar)),ah (.int c),ah (aB k),ah (.int N),o4,o5,o6]=some (.bl (decide (N.fmod 3=0)),[some (.own (A.map ar)),ah (.int c),ah (aB k),ah (.int N),o4,o5,o6]):=dR (dR rfl rfl (ER (N:=N) (d:=3) (by decide))) rfl (mD _ _)
  rw [t]
  rfl
 by_cases h:N.fmod 3=0
 ·obtain⟨A',o4',o5',o6',h1,h2,h3⟩:=JE (c:=c) (N:=N) hA hM hw h0 hk hl o4 o5 o6
  refine⟨A',ah (.int N),o4',o5',o6',h1,h2,?_⟩
  unfold lG
  rw [bJ e1]
  unfold cq
  rw [e2,Option.bind_some]
  refine (if_pos (decide_eq_true h)).trans h3
 ·refine⟨A,ah (.int N),o4,o5,o6,rfl,⟨hA.wd,fun r hr x hx=>(hA.lq r hr x hx).mono (by omega)⟩,?_⟩
  unfold lG
  rw [bJ e1]
  unfold cq
  rw [e2,Option.bind_some]
  exact if_neg (fun z=>h (of_decide_eq_true z))
theorem AF {w:Nat}{c:Int}(hw:w≤8):∀(n k:Nat) (A:List (List Rat)) (M:Nat) (o2 o3 o4 o5 o6:Option Sl),Bw w M A->0<k->k+n≤A.length->A.length≤8->M*4^n≤2304->∃(A':List (List Rat)) (o2' o3' o4' o5' o6':Option Sl),A'.length=A.length/\Bw w 2304 A'/\bV (ak 2) lG (TM.upTo (k:Nat) n) [some (.own (A.map ar)),ah (.int c),o2,o3,o4,o5,o6]=some (.nx [some (.own (A'.map ar)),ah (.int c),o2',o3',o4',o5',o6'])
 |0,k,A,M,o2,o3,o4,o5,o6,hA,_,_,_,hM=>⟨A,o2,o3,o4,o5,o6,rfl,⟨hA.wd,fun r hr x hx=>(hA.lq r hr x hx).mono (by simpa using hM)⟩,rfl⟩
 |n+1,k,A,M,o2,o3,o4,o5,o6,hA,h0,hk,hl,hM=>by
  rw [Nat.pow_succ] at hM
  have hM':M≤2304:=Nat.le_trans (Nat.le_mul_of_pos_right M (Nat.mul_pos (Nat.pow_pos (by decide)) (by decide))) hM
  obtain⟨A1,p3,p4,p5,p6,l1,b1,t1⟩:=GC (c:=c) hA hM' hw h0 (by omega) hl o3 o4 o5 o6
  obtain⟨A2,q2,q3,q4,q5,q6,l2,b2,t2⟩:=AF hw n (k+1) A1 (4*M) (ah (aB k)) p3 p4 p5 p6 b1 (by omega) (by omega) (by omega) (by rw [Nat.mul_comm 4 M,Nat.mul_assoc,Nat.mul_comm 4];exact hM)
  refine⟨A2,q2,q3,q4,q5,q6,l2.trans l1,b2,?_⟩
  rw [TM.upTo,b9 (τ1:=[some (.own (A.map ar)),ah (.int c),ah (aB k),o3,o4,o5,o6]) rfl t1]
  exact t2
abbrev DR:O->List T->Option T:=DS 7 2 (gD fP Hw Gi)
theorem Gz:gD fP Hw Gi=aO (dz (nD (aa (aU 2) (aa (dQ 0 (ai bG (aP 0))) az))) (ak 2) lG) (bE (af 0)):=rfl
theorem wK {A:List (List Rat)}{w:Nat}(c:Int)(hA:Bw w 9 A)(hw:w≤8)(hl:A.length≤6):∃A':List (List Rat),A'.length=A.length/\Bw w 2304 A'/\DR (kW A) [.int c]=some (aq A'):=by
 have h0:O.trs (A.map dW)=A.map ar:=kR ju A
 have hv:dQ 0 (ai bG (aP 0)) [some (.own (A.map ar)),ah (.int c),none,none,none,none,none]=some (.int (A.length:Nat),[some (.own (A.map ar)),ah (.int c),none,none,none,none,none]):=by
  have:=Aj (i:=0) (f:=ai bG (aP 0)) (τ:=[some (.own (A.map ar)),ah (.int c),none,none,none,none,none]) (us:=A.map ar) (t:=.int (A.length:Nat)) rfl (fun τ' h1 _=>aN [aq A] (du (fV h1)) (by
   show some (T.int ((A.map ar).length:Nat))=_
   rw [List.length_map]))
  exact this
 have hr:nD (aa (aU 2) (aa (dQ 0 (ai bG (aP 0))) az)) [some (.own (A.map ar)),ah (.int c),none,none,none,none,none]=some (TM.upTo 2 (A.length-2),[some (.own (A.map ar)),ah (.int c),none,none,none,none,none]):=by
  unfold nD
  rw [dw rfl hv,Option.bind_some]
  dsimp only
  rw [if_pos (by omega),show ((A.length:Int)-2).toNat=A.length-2 by omega]
 have key:∃(A':List (List Rat)) (o2 o3 o4 o5 o6:Option Sl),A'.length=A.length/\Bw w 2304 A'/\bV (ak 2) lG (TM.upTo 2 (A.length-2)) [some (.own (A.map ar)),ah (.int c),none,none,none,none,none]=some (.nx [some (.own (A'.map ar)),ah (.int c),o2,o3,o4,o5,o6]):=by
  by_cases h2:2≤A.length
  ·exact AF hw (A.length-2) 2 A 9 none none none none none hA (by decide) (by omega) (by omega) (Nat.le_trans (Nat.mul_le_mul_left 9 (Nat.pow_le_pow_right (by decide) (show A.length-2≤4 by omega))) (by decide))
  ·refine⟨A,none,none,none,none,none,rfl,⟨hA.wd,fun r hr x hx=>(hA.lq r hr x hx).mono (by decide)⟩,?_⟩
   rw [show A.length-2=0 by omega]
   rfl
 obtain⟨A',o2,o3,o4,o5,o6,l1,b1,t1⟩:=key
 refine⟨A',l1,b1,?_⟩
 have e1:dz (nD (aa (aU 2) (aa (dQ 0 (ai bG (aP 0))) az))) (ak 2) lG [some (.own (A.map ar)),ah (.int c),none,none,none,none,none]=_:=jJ hr t1
 show ((gD fP Hw Gi [some (.own (O.trs (A.map dW))),ah (.int c),none,none,none,none,none]).bind fun r=>match r with | .rt t=>some t | .nx _=>some .non | _=>none)=_
 rw [h0,Gz,bJ e1]
 rfl
theorem Jn {i:Nat}{f:jH}{τ τ':aK}{os:List O}(h:f τ=some (.lst os,τ')):mB i f τ=some (.nx (τ'.set i (some (.own (O.trs os))))):=by
 unfold mB
 rw [h]
 rfl
theorem Bd {c:FT}{s:FS}{τ τ':aK}(h:c τ=some (false,τ')):cq c s bS τ=some (.nx τ'):=by
 unfold cq
 rw [h]
 rfl
theorem eP:∀ts:List T,O.trs (ts.map O.val)=ts
 |[]=>rfl
 |t::ts=>by rw [List.map_cons,O.trs,eP ts];rfl
theorem GD {A:List (List Rat)}{c:Int}:DR (.lst ((A.map ar).map .val)) [.int c]=DR (kW A) [.int c]:=by
 have s1:K8 (.lst ((A.map ar).map .val))=some (.own (A.map ar)):=by
  show some (Sl.own (O.trs ((A.map ar).map .val)))=_
  rw [eP]
 have s2:K8 (kW A)=some (.own (A.map ar)):=by
  show some (Sl.own (O.trs (A.map dW)))=_
  rw [kR ju A]
 unfold DR DS
 rw [s1,s2]
theorem He:Oa 1 2304:=⟨by decide,by decide⟩
theorem Kq {j c d:Int}{τ:aK}(h:τ[2]? = some (ah (.int c)))(bj:j.natAbs<B)(hd:¬ d=0):aG bU (ai fP (aa (af 2) (aa (fC (.int j)) az))) (fC (.int d)) τ=some (.int ((iX c j).fmod d),τ):=
 dR (aN [.int c,.int j] (dw (fV h) rfl) (pB bj)) rfl (if_pos hd)
theorem Mt {j c:Int}{τ:aK}(h:τ[2]? = some (ah (.int c)))(bj:j.natAbs<B):ai fP (aa (af 2) (aa (fC (.int j)) az)) τ=some (.int (iX c j),τ):=aN [.int c,.int j] (dw (fV h) rfl) (pB bj)
def cv (x:Option T):Option Sl:=x.map Sl.sh
theorem KG {c1 c2:FT}{s:FS}{τ τ' τ'':aK}(h1:c1 τ=some (false,τ'))(h2:c2 τ'=some (false,τ'')):cq (sX c1 c2) s bS τ=some (.nx τ''):=by
 unfold cq sX
 rw [h1,Option.bind_some]
 dsimp only
 rw [if_neg (by decide),h2]
 rfl
theorem mO {f:FE}{τ:aK}(h:f τ=some (.bl true,τ)):gu (eL f) τ=some (false,τ):=by
 unfold gu eL
 rw [h]
 rfl
def qP (q:Rat):PyData:=.tuple [.int q.num,.int q.den]
theorem ye:∀a:List Rat,og (a.map bL)=some (a.map qP)
 |[]=>rfl
 |x::a=>by
  have e:Dd (bL x)=some (qP x):=rfl
  simp only [List.map_cons,og,e,ye a,Option.bind_some]
theorem L7 (x y:Rat):PyData.eqv (qP x) (qP y)=decide (x=y):=by
 have e:PyData.eqv (qP x) (qP y)=((x.num == y.num)&&(((x.den:Int) == (y.den:Int))&&true)):=rfl
 rw [e,Bool.and_true]
 by_cases h:x=y
 ·subst h
  simp
 ·rw [decide_eq_false h]
  by_cases h1:x.num=y.num
  ·have h2:¬ ((x.den:Int)=(y.den:Int)):=fun z=>h (Rat.ext h1 (by omega))
   have h3:(x.den == y.den)=false:=beq_eq_false_iff_ne.mpr fun z=>h2 (by rw [z])
   simp [h3]
   intro _ z
   exact h2 (by rw [z])
  ·simp [h1]
theorem qi:∀a b:List Rat,PyData.eqvAll (a.map qP) (b.map qP)=decide (a=b)
 |[],[]=>rfl
 |[],_::_=>rfl
 |_::_,[]=>rfl
 |x::a,y::b=>by
  rw [List.map_cons,List.map_cons,PyData.eqvAll,L7,qi a b]
  by_cases h:x=y
  ·subst h
   simp
  ·rw [decide_eq_false h,decide_eq_false (fun z=>h (List.cons.inj z).1)]
   rfl
def rP (a:List Rat):PyData:=.list (a.map qP)
theorem tJ {t:T}{d:PyData}{n:Nat}(h:Ih n t)(hn:n≤60)(hd:Dd t=some d):SeqAt.shaped d=true:=by
 obtain⟨d',h1,h2,h3⟩:=h
 rw [h1] at hd
 injection hd with hd
 subst hd
 unfold SeqAt.shaped
 rw [h2,Bool.true_and]
 exact decide_eq_true (by omega)
theorem G1 (neg:Bool)(a b:List Rat):Cw neg (ar a) (ar b)=some (.bl (if neg then !decide (a=b) else decide (a=b))):=by
 have e:∀r,Dd (ar r)=some (rP r):=fun r=>by
  unfold ar rP
  simp only [Dd,ye,Option.map_some]
 unfold Cw
 rw [e,e,Option.bind_some,Option.bind_some,if_pos ⟨tJ (vM a) (by decide) (e a),tJ (vM b) (by decide) (e b)⟩]
 have k:PyData.eqv (rP a) (rP b)=decide (a=b):=by
  unfold rP
  simp only [PyData.eqv]
  exact qi a b
 rw [k]
theorem Ae {f g:FE}{τ:aK}{t u:T}(h:f τ=some (t,τ))(h':g τ=some (u,τ)):ck (aa f (aa g az)) τ=some (.tup [t,u],τ):=by
 unfold ck
 rw [dw h h',Option.bind_some]
 exact if_pos Hu
theorem ne_self {t:T}{k:Nat}(h:Ih k t)(hk:k≤60):lb t t=some (.bl false):=cmp_self (neg:=true) h hk
theorem Cv {x:Rat}(h:Sm x):eE [.int x.num,.int (x.den:Int)]=some (bL x):=by
 have CB:=CB
 have hd:(x.den:Int)≠0:=by have:=x.den_nz;omega
 rw [iW (Nat.lt_trans h.n CB) (by rw [Int.natAbs_natCast];exact Nat.lt_trans h.d CB) hd,A9 hd,Rat.num_divInt_den]
theorem Dc {f:FE}{τ:aK}{b:Bool}(h:f τ=some (.bl b,τ)):cJ f τ=some (b,τ):=by
 unfold cJ
 rw [h]
 rfl
theorem tq {c1 c2:FT}{τ τ' τ'':aK}(h1:c1 τ=some (false,τ'))(h2:c2 τ'=some (false,τ'')):sX c1 c2 τ=some (false,τ''):=by
 unfold sX
 rw [h1,Option.bind_some]
 exact (if_neg Bool.false_ne_true).trans h2
theorem Mn (x:Rat):cK (bL x) (.int 0)=some (.int x.num):=rfl
theorem Mo (x:Rat):cK (bL x) (.int 1)=some (.int (x.den:Int)):=rfl
theorem DY (a b:Nat):gJ (aB a) (aB b)=some (.bl (decide (a=b))):=by
 rw [mD]
 exact congrArg (fun z=>some (T.bl z)) (decide_eq_decide.mpr (by omega))
abbrev Dm:List T->Option T:=dH 5 2 (jW Hw Gi)
theorem IT {D N D' N':Nat}{r s:List Rat}(h1:Gv D N r)(h2:Gv D' N' s)(f:Lu D N D' N'):Dm [ar r,ar s]=some (bL (wsum r s)):=by
 obtain⟨u,v,hl⟩:=Lr (P:=Gi) (fun _ _=>IZ) h1 h2 f
 refine ig rfl ?_
 show aO (aX 2 (ck (aa (aU 0) (aa (aU 1) az)))) (aO (dz (fm (aa (af 0) (aP 1))) (bO (aH (ak 3) (aH (ak 4) bN))) (rG Gi)) (bE (af 2))) [ah (ar r),ah (ar s),none,none,none]=_
 have e:aX 2 (ck (aa (aU 0) (aa (aU 1) az))) [ah (ar r),ah (ar s),none,none,none]=some (.nx [ah (ar r),ah (ar s),ah (bL 0),none,none]):=by
  have l2:=Hu
  rw [Ga]
  walk_at "ev"
 rw [bJ e,bJ hl]
 rfl
abbrev yK:List T->Option T:=dH 3 2 (kY eE)
def Na:FS:=(cq (sX (gu (eL (ai bQ (aa (af 2) (aa (fC (.ty "tuple")) az))))) (sX (cJ (aG lb (ai bG (aP 2)) (aU 2))) (cJ (aG lb (ai eE (aa (aG cK (af 2) (aU 0)) (aa (aG cK (af 2) (aU 1)) az))) (af 2))))) (bE (fC (.bl false))) bS)
theorem Hq {x:Rat}(h:Sm x)(s0 s1:Option Sl):Na [s0,s1,ah (bL x)]=some (.nx [s0,s1,ah (bL x)]):=by
 have t1:gu (eL (ai bQ (aa (af 2) (aa (fC (.ty "tuple")) az)))) [s0,s1,ah (bL x)]=some (false,[s0,s1,ah (bL x)]):=rfl
 have t2:cJ (aG lb (ai bG (aP 2)) (aU 2)) [s0,s1,ah (bL x)]=some (false,[s0,s1,ah (bL x)]):=rfl
 have t4:cJ (aG lb (ai eE (aa (aG cK (af 2) (aU 0)) (aa (aG cK (af 2) (aU 1)) az))) (af 2)) [s0,s1,ah (bL x)]=some (false,[s0,s1,ah (bL x)]):=Dc (dR (g:=lb) (aN [.int x.num,.int (x.den:Int)] (dw (dR (g:=cK) rfl rfl (Mn x)) (dR (g:=cK) rfl rfl (Mo x))) (Cv h)) rfl (ne_self (FD x) (by decide)))
 unfold Na
 exact Bd (tq t1 (tq t2 t4))
theorem Bf {s0 s1:Option Sl}:∀(l:List Rat) (s2:Option Sl),(∀x∈l,Sm x)->∃s2',bV (ak 2) Na (l.map bL) [s0,s1,s2]=some (.nx [s0,s1,s2'])
 |[],s2,_=>⟨s2,rfl⟩
 |x::l,s2,h=>by
  obtain⟨s2',e⟩:=Bf (s0:=s0) (s1:=s1) l (ah (bL x)) (fun z hz=>h z (List.mem_cons_of_mem _ hz))
  exact⟨s2',by rw [List.map_cons,b9 (τ1:=[s0,s1,ah (bL x)]) rfl (Hq (h x List.mem_cons_self) s0 s1),e]⟩
theorem DZ {r:List Rat}{n:Nat}(hl:r.length=n)(h:∀x∈r,Sm x):yK [ar r,aB n]=some (.bl true):=by
 obtain⟨s2,e⟩:=Bf (s0:=ah (ar r)) (s1:=ah (aB n)) r none h
 have t1:gu (eL (ai bQ (aa (af 0) (aa (fC (.ty "list")) az)))) [ah (ar r),ah (aB n),none]=some (false,[ah (ar r),ah (aB n),none]):=rfl
 have t2:cJ (aG lb (ai bG (aP 0)) (af 1)) [ah (ar r),ah (aB n),none]=some (false,[ah (ar r),ah (aB n),none]):=Dc (dR (g:=lb) (aN [ar r] (du rfl) (show bG [ar r]=some (aB n) by
  show some (T.int ((r.map bL).length:Nat))=_
  rw [List.length_map,hl])) rfl (by rw [uE];simp))
 refine ig rfl ?_
 show aO (cq (sX _ _) (bE (fC (.bl false))) bS) (aO (dz (bo (af 0)) (ak 2) Na) (bE (fC (.bl true)))) [ah (ar r),ah (aB n),none]=_
 rw [bJ (Bd (tq t1 t2)),bJ (jJ (fi:=bo (af 0)) rfl e)]
 rfl
theorem Mf (ts:List T)(k:Int):yW (.lst ts) (.int k)=if (-(2^63)≤k/\k<2^63)/\ts.length*k.toNat≤sizeLine then some (.lst (List.replicate k.toNat ts).flatten) else none:=rfl
theorem HU (w:Nat)(hw:w≤8):yW (.lst [.tup [.int 0,.int 1]]) (aB w)=some (ar (List.replicate w 0)):=by
 rw [Mf,if_pos ⟨⟨by omega,by omega⟩,by rw [Int.toNat_natCast];exact dG (by simp;omega)⟩,Int.toNat_natCast]
 unfold ar
 rw [List.map_replicate,Ga]
 have e:∀(k:Nat) (t:T),(List.replicate k [t]).flatten=List.replicate k t:=fun k t=>by
  induction k with
  |zero=>rfl
  |succ k ih=>rw [List.replicate_succ,List.flatten_cons,ih];rfl
 rw [e]
theorem sR {α:Type}{φ:α->T}{ft:FT}{fe:FE}{ρ:aK}(hr:cM ρ=true):∀(l:List α) (u:Option Sl),(∀x∈l,ft (ah (φ x)::ρ)=some (false,ah (φ x)::ρ))->cY (ak 0) ft fe (l.map φ) (u::ρ) []=some []
 |[],u,_=>rfl
 |x::l,u,h=>by
  rw [List.map_cons,cY,show ak 0 (φ x) (u::ρ)=some (ah (φ x)::ρ) from rfl,Option.bind_some,h x List.mem_cons_self,Option.bind_some]
  refine (if_neg Bool.false_ne_true).trans ?_
  refine (if_pos (show cM (ah (φ x)::ρ)=true from hr)).trans ?_
  exact sR hr l _ fun z hz=>h z (List.mem_cons_of_mem _ hz)
abbrev qd:List T->Option T:=dH 3 3 (kZ yK Dm)
theorem G0:gJ (aB 0) (.int 0)=some (.bl true):=rfl
theorem JT {m w D N M:Nat}{A:List (List Rat)}{r:List Rat}(hs:II w M A r)(hw:w≤8)(hA:∀a∈A,Gv D N a)(hr:Gv 1 M r)(f:Lu D N 1 M):qd [ar r,aq A,aB w]=some (.bl true):=by
 have t1:gu (eL (ai yK (aa (af 0) (aP 2)))) [ah (ar r),ah (aq A),ah (aB w)]=some (false,[ah (ar r),ah (aq A),ah (aB w)]):=mO (aN [ar r,aB w] (dw rfl rfl) (DZ hs.len fun x hx=>hr.sm hx))
 have hz:r≠List.replicate w 0:=fun z=>by
  obtain⟨x,hx,hne⟩:=hs.ne
  rw [z] at hx
  exact hne (List.eq_of_mem_replicate hx)
 have e2:my (aa (ck (aa (aU 0) (aa (aU 1) az))) az) [ah (ar r),ah (aq A),ah (aB w)]=some (.lst [.tup [.int 0,.int 1]],[ah (ar r),ah (aq A),ah (aB w)]):=by
  have l1:=NK
  have l2:=Hu
  walk_at "ev"
 have t2:cJ (aG gJ (af 0) (aG yW (my (aa (ck (aa (aU 0) (aa (aU 1) az))) az)) (af 2))) [ah (ar r),ah (aq A),ah (aB w)]=some (false,[ah (ar r),ah (aq A),ah (aB w)]):=Dc (dR (g:=gJ) rfl (dR (g:=yW) e2 rfl (HU w hw)) (by
  rw [gJ,G1]
  simp [hz]))
 have c3:=sR (φ:=ar) (ft:=cJ (aG lb (ai Dm (aa (af 0) (aP 1))) (ck (aa (aU 0) (aa (aU 1) az))))) (fe:=af 0) (ρ:=[ah (ar r)]) rfl A none (fun a ha=>by
  have e:=aN (g:=Dm) (f:=aa (af 0) (aP 1)) (ρ:=[ah (ar a),ah (ar r)]) [ar a,ar r] (dw rfl rfl) (IT (hA a ha) hr f)
  rw [hs.no a ha] at e
  exact Dc (dR (g:=lb) e (Ae rfl rfl) (cmp_self (neg:=true) (FD 0) (by decide))))
 have b3:=cj (no:=1) (cap:=[0]) (fi:=bo (af 1)) (fg:=ak 0) (ft:=cJ (aG lb (ai Dm (aa (af 0) (aP 1))) (ck (aa (aU 0) (aa (aU 1) az))))) (fe:=af 0) (τ:=[ah (ar r),ah (aq A),ah (aB w)]) (h1:=rfl) rfl rfl c3
 refine ig rfl ?_
 show aO (cq (sX _ _) (bE (fC (.bl false))) bS) (bE (aG gJ (ai bG (aa (bB 1 [0] (bo (af 1)) (ak 0) (cJ (aG lb (ai Dm (aa (af 0) (aP 1))) (ck (aa (aU 0) (aa (aU 1) az))))) (af 0)) az)) (aU 0))) [ah (ar r),ah (aq A),ah (aB w)]=_
 rw [bJ (Bd (tq t1 t2))]
 exact ll (dR (g:=gJ) (aN [.lst []] (du b3) rfl) rfl G0)
def CJ (A C:List (List Rat)):List (List Rat):=A.map fun r=>(List.range C.length).map fun k=>wsum r (cS C k)
abbrev Co:List T->Option T:=dH 2 2 (jU Dm)
theorem D0 {n D N D' N':Nat}{A C:List (List Rat)}(hA:A.length≤8)(hc:C.length=n)(hn:n≤8)(hw:∀c∈C,c.length=n)(h1:∀a∈A,Gv D N a)(h2:∀k<n,Gv D' N' (cS C k))(f:Lu D N D' N'):Co [aq A,aq C]=some (aq (CJ A C)):=by
 have inner:∀(a:List Rat),a∈A->∀k<n,ai Dm (aa (af 1) (aa (bB 1 [0] (bo (af 2)) (ak 0) aA (aG cK (af 0) (af 1))) az)) [ah (aB k),ah (ar a),ah (aq C)]=some (bL (wsum a (cS C k)),[ah (aB k),ah (ar a),ah (aq C)]):=fun a ha k hk=>by
  have cc:=bZ (φ:=ar) (fe:=aG cK (af 0) (af 1)) (g:=fun c=>bL (c.getD k 0)) (ρ:=[ah (aB k)]) rfl C none [] (fun c hc'=>dR (g:=cK) rfl rfl (Ew (by rw [hw c hc'];exact hk))) (cz (by omega))
  have e:=cj (no:=1) (cap:=[0]) (fi:=bo (af 2)) (fg:=ak 0) (ft:=aA) (τ:=[ah (aB k),ah (ar a),ah (aq C)]) (h1:=rfl) rfl rfl cc
  have e4:T.lst ([]++C.map fun c=>bL (c.getD k 0))=ar (cS C k):=by
   unfold ar cS
   rw [List.map_map,List.nil_append]
   rfl
  rw [e4] at e
  exact aN [ar a,ar (cS C k)] (dw rfl e) (IT (h1 a ha) (h2 k hk) f)
 have mid:∀a∈A,bB 1 [0,1] (bA (aa (ai bG (aP 1)) az)) (ak 0) aA (ai Dm (aa (af 1) (aa (bB 1 [0] (bo (af 2)) (ak 0) aA (aG cK (af 0) (af 1))) az))) [ah (ar a),ah (aq C)]=some (ar ((List.range C.length).map fun k=>wsum a (cS C k)),[ah (ar a),ah (aq C)]):=fun a ha=>by
  have cc:=bZ (φ:=fun k:Nat=>aB k) (fe:=ai Dm (aa (af 1) (aa (bB 1 [0] (bo (af 2)) (ak 0) aA (aG cK (af 0) (af 1))) az))) (g:=fun k=>bL (wsum a (cS C k))) (ρ:=[ah (ar a),ah (aq C)]) rfl (List.range C.length) none [] (fun k hk=>inner a ha k (by rw [<- hc];exact List.mem_range.mp hk)) (cz (by rw [List.length_range];omega))
  have e:=cj (no:=1) (cap:=[0,1]) (fi:=bA (aa (ai bG (aP 1)) az)) (fg:=ak 0) (ft:=aA) (τ:=[ah (ar a),ah (aq C)]) (gb (f:=ai bG (aP 1)) (n:=C.length) (aN [aq C] (du rfl) (len_tab C)) (by omega)) rfl rfl cc
  refine e.trans ?_
  unfold ar
  rw [List.map_map,List.nil_append]
  rfl
 have hc2:=bZ (φ:=ar) (fe:=bB 1 [0,1] (bA (aa (ai bG (aP 1)) az)) (ak 0) aA (ai Dm (aa (af 1) (aa (bB 1 [0] (bo (af 2)) (ak 0) aA (aG cK (af 0) (af 1))) az)))) (g:=fun a=>ar ((List.range C.length).map fun k=>wsum a (cS C k))) (ρ:=[ah (aq C)]) rfl A none [] mid (cz hA)
 have e:=cj (no:=1) (cap:=[1]) (fi:=bo (af 0)) (fg:=ak 0) (ft:=aA) (τ:=[ah (aq A),ah (aq C)]) (h1:=rfl) rfl rfl hc2
 refine ig rfl ?_
 refine (ll e).trans ?_
 unfold aq CJ
 rw [List.map_map,List.nil_append]
 rfl
def tR (n:Nat):List (List Rat):=(List.range n).map fun i=>(List.range n).map fun j=>fM i j
abbrev Cp:List T->Option T:=dH 1 1 ib
theorem Lp (a b:Nat)(τ:aK)(h0:τ[0]? = some (ah (aB a)))(h1:τ[1]? = some (ah (aB b))):ck (aa (ai oz (aa (aG gJ (af 0) (af 1)) az)) (aa (aU 1) az)) τ=some (bL (if a=b then 1 else 0),τ):=by
 have e:=aN (g:=oz) [.bl (decide (a=b))] (du (dR (g:=gJ) (fV h0) (fV h1) (DY a b))) (t:=.int (if decide (a=b) then 1 else 0)) rfl
 rw [Ae e (show aU 1 τ=some (.int 1,τ) from rfl)]
 by_cases h:a=b
 ·rw [decide_eq_true h,if_pos h]
  rfl
 ·rw [decide_eq_false h,if_neg h]
  rfl
theorem JW {n:Nat}(hn:n≤8):Cp [aB n]=some (aq (tR n)):=by
 have hc:=bZ (φ:=fun i:Nat=>aB i) (fe:=bB 1 [0] (bA (aP 1)) (ak 0) aA (ck (aa (ai oz (aa (aG gJ (af 0) (af 1)) az)) (aa (aU 1) az)))) (g:=fun i=>ar ((List.range n).map (fM i))) (ρ:=[ah (aB n)]) rfl (List.range n) none [] (fun i _=>by
  have cc:=bZ (φ:=fun j:Nat=>aB j) (fe:=ck (aa (ai oz (aa (aG gJ (af 0) (af 1)) az)) (aa (aU 1) az))) (g:=fun j=>bL (fM i j)) (ρ:=[ah (aB i)]) rfl (List.range n) none [] (fun j _=>Lp j i [ah (aB j),ah (aB i)] rfl rfl) (cz (by rw [List.length_range];omega))
  rw [List.nil_append] at cc
  have e:=cj (no:=1) (cap:=[0]) (fi:=bA (aP 1)) (fg:=ak 0) (ft:=aA) (τ:=[ah (aB i),ah (aB n)]) (gb (f:=af 1) (n:=n) rfl (by omega)) rfl rfl cc
  refine e.trans ?_
  unfold ar
  rw [List.map_map]
  rfl) (cz (by rw [List.length_range];omega))
 rw [List.nil_append] at hc
 have e:=cj (no:=1) (cap:=[0]) (fi:=bA (aP 0)) (fg:=ak 0) (ft:=aA) (τ:=[ah (aB n)]) (gb (f:=af 0) (n:=n) rfl (by omega)) rfl rfl hc
 refine ig rfl ?_
 show ib [ah (aB n)]=_
 unfold ib
 rw [ll e]
 unfold aq tR
 rw [List.map_map]
 rfl
theorem Fx:∀(n:Nat) (y:Nat->Rat),∃(q:Int) (z:Nat->Int),q≠0/\∀j<n,((z j:Int):Rat)=(q:Rat)*y j
 |0,y=>⟨1,fun _=>0,by decide,fun j hj=>absurd hj (Nat.not_lt_zero _)⟩
 |n+1,y=>by
  obtain⟨q,z,hq,hz⟩:=Fx n y
  have hd:((y n).den:Int)≠0:=by have:=(y n).den_nz;omega
  refine⟨q*(y n).den,fun j=>if j=n then q*(y n).num else z j*(y n).den,Int.mul_ne_zero hq hd,fun j hj=>?_⟩
  by_cases h:j=n
  ·subst h
   have e:y j*(((y j).den:Int):Rat)=(((y j).num:Int):Rat):=by
    have key:∀a b x:Rat,b≠0->a/b=x->x*b=a:=fun a b x hb h=>by grind
    have e0:=Rat.num_divInt_den (y j)
    rw [Rat.divInt_eq_div] at e0
    exact key _ _ _ (AI hd) e0
   show (((if j=j then q*(y j).num else z j*(y j).den):Int):Rat)=_
   rw [if_pos rfl,Rat.intCast_mul,Rat.intCast_mul,<- e]
   grind
  ·show (((if j=n then q*(y n).num else z j*(y n).den):Int):Rat)=_
   rw [if_neg h,Rat.intCast_mul,Rat.intCast_mul,hz j (by omega)]
   grind
section
variable {n D N:Nat}{A:List (List Rat)}
theorem Ex (h:Tm n n D N A)(hall:∀e∈aD (n+n) n (dA A) [] [],e.1.isSome=true)(y:Nat->Rat)(h0:∀i<n,Dq.sm (List.range n) (fun j=>iJ A i j*y j)=0):∀j<n,y j=0:=by
 have h4:=h.m4
 have htl:(dA A).length=n:=by rw [jE,h.len]
 have hSl:(aD (n+n) n (dA A) [] []).length=n:=by rw [cI,htl]
 have hk:(cT (aD (n+n) n (dA A) [] [])).length=n:=(List.length_filter_eq_length_iff.mpr hall).trans hSl
 have hd:=(qg (L:=n+n) (rows:=dA A) (by omega) (by omega) (by rw [htl];exact hk)).1
 unfold GX at hd
 rw [htl] at hd
 obtain⟨q,z,hq,hz⟩:=Fx n y
 have hqQ:(q:Rat)≠0:=AI hq
 have lk:Dt.Lk (List.range n) (fun x=>Dt.kU (List.range n) fun j=>z j*x j):=⟨(List.range n).map fun j=>(z j,j),fun w hw=>by
   obtain⟨j,hj,rfl⟩:=List.mem_map.mp hw
   exact hj,fun x=>by
   rw [List.map_map]
   rfl⟩
 have hR:∀x∈(dA A).map Dt.rw,(Dt.kU (List.range n) fun j=>z j*x j)=0:=fun x hx=>by
  obtain⟨row,hrow,rfl⟩:=List.mem_map.mp hx
  unfold dA at hrow
  rw [h.len] at hrow
  obtain⟨i,hi,rfl⟩:=List.mem_map.mp hrow
  have hi':=List.mem_range.mp hi
  have hmem:A.getD i []∈A:=fq (by rw [h.len];exact hi')
  have hg:=h.gn _ hmem
  have hlow:=(iV hg).2.1
  have hl0:((bh (A.getD i []):Nat):Rat)≠0:=fun z=>by
   have:bh (A.getD i [])=0:=by exact_mod_cast z
   omega
  have e:=mZ (fun j=>z j*Dt.rw (bT n i (A.getD i [])) j) (fun j=>iJ A i j*y j) (1/(((bh (A.getD i []):Nat):Rat)*(q:Rat))) (List.range n) (fun j hj=>by
   have hj':=List.mem_range.mp hj
   have er:=vB hg j
   have ex:Dt.rw (bT n i (A.getD i [])) j=Dt.rw (bg (A.getD i [])) j:=by
    unfold bT
    exact kO (by rw [dZ,h.wd _ hmem];exact hj')
   rw [ex,show iJ A i j=Dp (A.getD i []) j from rfl,er,Rat.intCast_mul,hz j hj']
   grind)
  rw [h0 i hi'] at e
  have e2:(((Dt.kU (List.range n) fun j=>z j*Dt.rw (bT n i (A.getD i [])) j):Int):Rat)=0:=by grind
  exact_mod_cast e2
 intro c hc
 have e:=Dt.DM hd lk hR (fun j=>if j=c then 1 else 0)
 have e1:=mZ (fun j=>z j*(if j=c then 1 else 0)) (fun j=>if j=c then ((z j:Int):Rat) else 0) 1 (List.range n) (fun j _=>by
  by_cases hjc:j=c
  ·rw [if_pos hjc,if_pos hjc,Int.mul_one,Rat.one_mul]
  ·rw [if_neg hjc,if_neg hjc,Int.mul_zero,Rat.one_mul];rfl)
 rw [rh List.nodup_range (List.mem_range.mpr hc),e,Rat.one_mul] at e1
 have e2:(q:Rat)*y c=0:=by rw [<- hz c hc,e1];rfl
 rcases Rat.mul_eq_zero.mp e2 with z | z
 ·exact absurd z hqQ
 ·exact z
theorem BL (f:Nat->Nat->Rat)(js:List Nat):∀ls:List Nat,Dq.sm ls (fun l=>Dq.sm js fun j=>f l j)=Dq.sm js (fun j=>Dq.sm ls fun l=>f l j)
 |[]=>by rw [Dq.vR];exact (Dq.pG js).symm
 |l::ls=>by
  rw [Dq.eR,BL f js ls,<- Dq.La]
  rfl
theorem Ik (a:Rat)(f:Nat->Rat)(cs:List Nat):(Dq.sm cs fun k=>f k*a)=Dq.sm cs f*a:=by
 rw [Dq.cQ (g:=fun k=>a*f k) (fun k _=>Rat.mul_comm _ _),vQ,Rat.mul_comm]
theorem Er (h:Tm n n D N A)(hall:∀e∈aD (n+n) n (dA A) [] [],e.1.isSome=true){V:List (List Rat)}(hAV:∀i<n,∀k<n,Dq.sm (List.range n) (fun j=>iJ A i j*iJ V j k)=fM i k):∀i<n,∀k<n,Dq.sm (List.range n) (fun j=>iJ V i j*iJ A j k)=fM i k:=fun i hi k hk=>by
 have e:=Ex h hall (fun i=>Dq.sm (List.range n) (fun j=>iJ V i j*iJ A j k)-fM i k) (fun l hl=>by
  have s1:Dq.sm (List.range n) (fun i=>iJ A l i*(Dq.sm (List.range n) (fun j=>iJ V i j*iJ A j k)-fM i k))=Dq.sm (List.range n) (fun i=>1*(iJ A l i*Dq.sm (List.range n) (fun j=>iJ V i j*iJ A j k))+(-1)*(iJ A l i*fM i k)):=Dq.cQ fun i _=>by grind
  rw [s1,Dq.vP]
  have s2:Dq.sm (List.range n) (fun i=>iJ A l i*Dq.sm (List.range n) (fun j=>iJ V i j*iJ A j k))=Dq.sm (List.range n) (fun j=>fM l j*iJ A j k):=by
   rw [Dq.cQ (g:=fun i=>Dq.sm (List.range n) fun j=>iJ A l i*(iJ V i j*iJ A j k)) (fun i _=>(vQ _ _ _).symm),BL]
   exact Dq.cQ fun j hj=>by
    rw [<- hAV l hl j (List.mem_range.mp hj),<- Ik]
    exact Dq.cQ fun i _=>by rw [Rat.mul_assoc]
  have s3:Dq.sm (List.range n) (fun j=>fM l j*iJ A j k)=iJ A l k:=by
   rw [Dq.cQ (g:=fun j=>if j=l then iJ A j k else 0) (fun j _=>by
    unfold fM
    by_cases h:j=l
    ·rw [if_pos h,if_pos h,Rat.one_mul]
    ·rw [if_neg h,if_neg h,Rat.zero_mul]),rh List.nodup_range (List.mem_range.mpr hl)]
  have s4:Dq.sm (List.range n) (fun i=>iJ A l i*fM i k)=iJ A l k:=by
   rw [Dq.cQ (g:=fun i=>if i=k then iJ A l i else 0) (fun j _=>by
    unfold fM
    by_cases h:j=k
    ·rw [if_pos h,if_pos h.symm,Rat.mul_one]
    ·rw [if_neg h,if_neg (fun z=>h z.symm),Rat.mul_zero]),rh List.nodup_range (List.mem_range.mpr hk)]
  rw [s2,s3,s4]
  grind) i hi
 have e':Dq.sm (List.range n) (fun j=>iJ V i j*iJ A j k)-fM i k=0:=e
 grind
end
theorem xv {n:Nat}{A V:List (List Rat)}(ha:A.length=n)(hA:∀r∈A,r.length=n)(hv:V.length=n)(h:∀i<n,∀k<n,Dq.sm (List.range n) (fun j=>iJ A i j*iJ V j k)=fM i k):CJ A V=tR n:=by
 unfold CJ tR
 rw [Br (fun r=>(List.range V.length).map fun k=>wsum r (cS V k)) [] A,ha,hv]
 refine List.map_congr_left fun i hi=>List.map_congr_left fun k hk=>?_
 have hi':=List.mem_range.mp hi
 have hm:A.getD i []∈A:=fq (by rw [ha];exact hi')
 have hl:(A.getD i []).length=n:=hA _ hm
 rw [vY (A.getD i []) (cS V k) 0 (fun j=>iJ A i j*iJ V j k) (by rw [jY,hv];exact hl) (fun j hj=>by
  rw [Nat.zero_add,yI (by rw [hv,<- hl];exact hj)]
  rfl),hl,<- List.range_eq_range',h i hi' k (List.mem_range.mp hk)]
abbrev D1:Nat:=DD 1
abbrev N1:Nat:=2304*DD 1
def KA:Nat:=(8*(N1*D1+D1)+1)^5
theorem b2:(8*(N1*D1+D1)+1)^5<B:=by decide +kernel
theorem kC:KA<C:=by decide +kernel
theorem k1:D1<C/\N1<C/\D1<B/\N1<B/\0<D1:=by decide +kernel
theorem k2:D1*KA<C/\8*(N1*KA)<C:=by decide +kernel
structure Dw (m w:Nat)(A:List (List Rat)):Prop where
 len:A.length=m
 m4:m≤4
 w4:w≤4
 bw:Bw w 2304 A
section
variable {m w n:Nat}{A:List (List Rat)}
theorem Dw.gd (h:Dw m w A){r:List Rat}(hr:r∈A):Gd 1 2304 r:=⟨by rw [h.bw.wd r hr];have:=h.w4;omega,h.bw.lq r hr⟩
theorem Dw.tm (h:Dw m w A):Tm m w D1 N1 A:=⟨h.len,h.bw.wd,fun r hr=>Gn.of (h.gd hr) He,h.m4,h.w4,k1.2.2.2.2,k1.2.2.1,k1.2.2.2.1,b2⟩
theorem Dw.gv (h:Dw m w A){r:List Rat}(hr:r∈A):Gv D1 N1 r:=⟨(h.gd hr).len,fun x hx=>Ov.lq (h.bw.lq r hr x hx),k1.2.2.2.2,k1.1,k1.2.1⟩
theorem Dw.gc (h:Dw m w A){j:Nat}(hj:j<w):Gv D1 N1 (cS A j):=⟨by rw [jY,h.len];have:=h.m4;omega,fun x hx=>by
 obtain⟨r,hr,rfl⟩:=List.mem_map.mp hx
 exact Ov.lq (h.bw.lq r hr _ (iU (by rw [h.bw.wd r hr];exact hj))),k1.2.2.2.2,k1.1,k1.2.1⟩
theorem II.gv {r:List Rat}(h:II w KA A r)(hw:w≤8):Gv 1 KA r:=⟨by rw [h.len];exact hw,h.ov,by decide,Nat.lt_of_lt_of_le (by decide:1<2) (by decide +kernel),kC⟩
theorem rA {r:List Rat}(h:Dw m w A)(hs:II w KA A r):qd [ar r,aq A,aB w]=some (.bl true):=by
 have w4:=h.w4
 exact JT (m:=m) hs (by omega) (fun a ha=>h.gv ha) (hs.gv (by omega)) ⟨Nat.lt_of_le_of_lt (Nat.le_of_eq (Nat.mul_one _)) k1.1,k2.2⟩
abbrev GS:List T->Option O:=ji 4 1 (k8 ia OO LV LW ie oA)
theorem wM:∀r:List Rat,kg (r.map bL)=true
 |[]=>rfl
 |x::r=>by rw [List.map_cons,kg,wM r];rfl
theorem JU {V:List (List Rat)}(h:ie [aq A]=some (kW V)):GS [aq A]=some (.lst [kW V,.val .non]):=by
 refine qe rfl ?_
 have a:ql 1 (cy ie (aP 0)) (qk oA (aP 0)) (Hf 3 [(ia,true)] (aX 2 (af 3)) A3) (cJ (aG wO (af 2) (fC .non))) (D3 (eL (AY [(ia,true)] (af 2))) (gu (eL (ai (qb LV LW [(ia,false)]) (aa (af 2) (aa (ck (aa (fC (.ptr LV)) (aa (fC (.ptr LW)) az))) az)))))) (AX [ia] "numbers" (af 2)) [ah (aq A),ah .non,ah .non,none]=some (.lst [kW V,.val .non]):=by
  unfold ql
  rw [fY (g:=ie) [aq A] (du rfl) h]
  exact if_pos ⟨Nat.lt_of_lt_of_le (by decide:1<2) (by simp),fun a=>⟨[ah (aq A),ah (.ptr a),ah .non,none],rfl,yZ rfl⟩⟩
 exact a
theorem JV {r:List Rat}(h1:ie [aq A]=none)(h2:oA [aq A]=some ⟨ia,["numbers"],[ar r]⟩):GS [aq A]=some (.lst [.val .non,dW r]):=by
 refine qe rfl ?_
 have a:ql 1 (cy ie (aP 0)) (qk oA (aP 0)) (Hf 3 [(ia,true)] (aX 2 (af 3)) A3) (cJ (aG wO (af 2) (fC .non))) (D3 (eL (AY [(ia,true)] (af 2))) (gu (eL (ai (qb LV LW [(ia,false)]) (aa (af 2) (aa (ck (aa (fC (.ptr LV)) (aa (fC (.ptr LW)) az))) az)))))) (AX [ia] "numbers" (af 2)) [ah (aq A),ah .non,ah .non,none]=some (.lst [.val .non,dW r]):=by
  unfold ql
  have e1:cy ie (aP 0) [ah (aq A),ah .non,ah .non,none]=none:=by
   show (ie [aq A]).bind _=_
   rw [h1]
   rfl
  have e2:qk oA (aP 0) [ah (aq A),ah .non,ah .non,none]=some (⟨ia,["numbers"],[ar r]⟩,[ah (aq A),ah .non,ah .non,none]):=by
   show (oA [aq A]).bind _=_
   rw [h2]
   rfl
  rw [e1]
  dsimp only
  rw [e2,Option.bind_some]
  exact if_pos ⟨wM r,fun a=>⟨[ah (aq A),ah .non,ah (.exc ia ["numbers"] [.ptr a]),none],[ah (aq A),ah .non,ah (.exc ia ["numbers"] [.ptr a]),none],[ah (aq A),ah .non,ah (.exc ia ["numbers"] [.ptr a]),none],[ah (aq A),ah .non,ah (.exc ia ["numbers"] [.ptr a]),none],rfl,rfl,rfl,rfl⟩⟩
 exact a
end
theorem ui {f g:FE}{τ τ':aK}{t:T}(h1:f τ=some (.bl true,τ))(h2:g τ=some (t,τ')):iQ f g τ=some (t,τ'):=by
 unfold iQ
 rw [h1]
 exact h2
theorem kl {f g:FQ}{p:Addr}{os os':List O}{τ τ':aK}(h:f p os τ=some (.nx os' τ')):iZ f g p os τ=g p os' τ':=by
 unfold iZ
 rw [h]
 rfl
theorem zO {x y:Nat}{f:FE}{p:Addr}{os:List O}{τ τ1:aK}{t:T}(h:f (seen x os τ)=some (t,τ1))(hf:kf t=true)(hx:x≠y):vA x y f p os τ=some (.nx os (τ.set y (ah t))):=by
 unfold vA
 rw [h]
 exact if_pos ⟨hf,hx⟩
theorem MG {x:Nat}{tc:FT}{b:Bool}{p:Addr}{os:List O}{τ τ1:aK}(h:tc (seen x os τ)=some (false,τ1)):MF x tc b p os τ=some (.nx os τ):=by
 unfold MF
 rw [h]
 rfl
theorem Cn (xs:List T)(t:T):Mg (.lst (xs++[t])) none (some (-1))=some (.lst xs):=congrArg (fun l=>some (T.lst l)) (DP xs t)
section
variable {m w n:Nat}{A:List (List Rat)}
abbrev GR:List T->Option T:=fun ts=>(ie ts).bind fun o=>some o.tr
abbrev Gg:List T->Option T:=dH 6 1 (dP qd AM yK Co Cp GR GS)
def Be:FE:=ai qd (aa (ai AM (aa (af 0) (aP 1))) (aa (af 0) (aP 1)))
def Kb:FQ:=(iZ (vA 3 4 (iQ (ai qd (aa (af 3) (aa (af 0) (aP 1)))) Be))
  (iZ qU
  (Fm (af 4))))
def Mk:FT:=(sX (cJ (aG fO (ai AM (aa (af 0) (aP 1))) (fC .non))) (sX (gu (eL (ai bQ (aa (af 2) (aa (fC (.ty "list")) az))))) (cJ (aG lb (ai bG (aP 2)) (af 1)))))
def Kd:FT:=(gu (eL (ai yK (aa (af 5) (aP 1)))))
def Ot:FE:=(iQ (aG gJ (ai Co (aa (af 2) (aP 0))) (ai Cp (aP 1))) (aG gJ (ai Co (aa (af 0) (aP 2))) (ai Cp (aP 1))))
def Es:FE:=(iQ (af 4) (aG gJ (bB 1 [] (bo (af 2)) (ak 0) aA (Hb (af 0) ij (fL (wb qt (aU 1))))) (ai GR (aP 0))))
def Kc:FQ:=(iZ (MF 2 Mk false)
  (iZ (CS 2 5 Kd false)
  (iZ (vA 2 4 Ot)
  (iZ (zN 2 5 (ck (aa (aU 7) (aa (aU 1) az))))
  (HQ 2 (bE Es))))))
theorem AB:dP qd AM yK Co Cp GR GS=aO (aX 1 (ai bG (aP 0))) (D6 2 3 (cy GS (aP 0)) (cJ (aG wO (af 2) (fC .non))) Kb Kc):=rfl
theorem MN {r:List Rat}(h:j9 [aq A,aB n]=some (dW r)):AM [aq A,aB n]=some (ar r):=by
 show (j9 _).bind _=_
 rw [h,Option.bind_some,ju]
theorem Ho (h:Dw n n A){r:List Rat}(hr:j9 [aq A,aB n]=some (dW r))(hs:II n KA A r)(ht:GS [aq A]=some (.lst [.val .non,dW r])):Gg [aq A]=some (.bl true):=by
 have a1:aX 1 (ai bG (aP 0)) [ah (aq A),none,none,none,none,none]=some (.nx [ah (aq A),ah (aB n),none,none,none,none]):=cU (aN [aq A] (du rfl) (by rw [len_tab,h.len])) rfl
 have c:=fY (g:=GS) (f:=aP 0) (ρ:=[ah (aq A),ah (aB n),none,none,none,none]) [aq A] (du rfl) ht
 have hseen:∀a:Addr,seen 3 ((r.map bL).map .val) [ah (aq A),ah (aB n),ah .non,ah (.ptr a),none,none]=[ah (aq A),ah (aB n),ah .non,ah (ar r),none,none]:=fun a=>by
  show [some (Sl.sh (aq A)),ah (aB n),ah .non,ah (T.lst (O.trs ((r.map bL).map .val))),none,none]=_
  rw [TM.eP]
  rfl
 have e1:iQ (ai qd (aa (af 3) (aa (af 0) (aP 1)))) Be [ah (aq A),ah (aB n),ah .non,ah (ar r),none,none]=some (.bl true,[ah (aq A),ah (aB n),ah .non,ah (ar r),none,none]):=
  ui (aN [ar r,aq A,aB n] (Ca rfl rfl rfl) (rA h hs)) (aN [ar r,aq A,aB n] (Ca (aN [aq A,aB n] (dw rfl rfl) (MN hr)) rfl rfl) (rA h hs))
 have P:∀a:Addr,∃τ1,cJ (aG wO (af 2) (fC .non)) (seen 3 ((r.map bL).map .val) [ah (aq A),ah (aB n),ah .non,ah (.ptr a),none,none])=some (true,τ1)/\Kb a ((r.map bL).map .val) [ah (aq A),ah (aB n),ah .non,ah (.ptr a),none,none]=some (.rt (.bl true)):=fun a=>by
  refine⟨_,by rw [hseen];rfl,?_⟩
  unfold Kb
  rw [kl (zO (by rw [hseen];exact e1) rfl (by decide)),kl (os':=[]) rfl]
  rfl
 refine ig rfl ?_
 rw [AB]
 show aO _ _ [ah (aq A),none,none,none,none,none]=_
 rw [bJ a1]
 unfold D6
 rw [c,Option.bind_some]
 dsimp only
 rw [if_pos ⟨Nat.lt_of_lt_of_le (by decide:2<3) (by simp),Nat.lt_of_lt_of_le (by decide:3<4) (by simp),by decide⟩]
 refine qR (t:=.bl true) (fun a=>P a) (fun t' h'=>?_)
 obtain⟨_,_,e⟩:=h' 0
 obtain⟨_,_,e'⟩:=P 0
 have e2:=e.symm.trans e'
 cases e2
 rfl
theorem all_rows {τ:aK}{tc:FT}{k:Nat}:∀(ts:List T),(∀t∈ts,∃τ1,tc (τ.set k (ah t))=some (false,τ1))->qy tc k τ ts=some false
 |[],_=>rfl
 |t::ts,h=>by
  obtain⟨τ1,e⟩:=h t List.mem_cons_self
  rw [qy,e]
  exact all_rows ts fun z hz=>h z (List.mem_cons_of_mem _ hz)
theorem Fs (V:List (List Rat))(h:∀r∈V,r.length≤8):(V.map dW).all Fq=true:=by
 rw [List.all_eq_true]
 intro o ho
 obtain⟨r,hr,rfl⟩:=List.mem_map.mp ho
 show (iu ((r.map bL).map O.val)&&decide (((r.map bL).map O.val).length≤500))=true
 rw [lB,Bool.true_and,decide_eq_true_eq,List.length_map,List.length_map]
 have:=h r hr
 omega
theorem Gw (V:List (List Rat)):O.trs ((V.map dW).map (pR (.tup [.int 7,.int 1])))=V.map fun r=>.lst (r.map bL++[.tup [.int 7,.int 1]]):=by
 induction V with
 |nil=>rfl
 |cons r V ih =>
  rw [List.map_cons,List.map_cons,O.trs,ih,List.map_cons]
  congr 1
  show O.tr (.lst ((r.map bL).map O.val++[.val (.tup [.int 7,.int 1])]))=_
  rw [O.tr,TM.B0,TM.eP]
  rfl
theorem Ke (h:Dw n n A)(hst:j9 [aq A,aB n]=some (.val .non)){V:List (List Rat)}{D':Nat}(hV:ie [aq A]=some (kW V))(hl:V.length=n)(hw:∀r∈V,r.length=n)(hD:0<D')(hDK:D'≤KA)(hov:∀r∈V,∀x∈r,Ov D' KA x)
  (m1:CJ V A=tR n) (m2:CJ A V=tR n):Gg [aq A]=some (.bl true):=by
 have n4:=h.m4
 have ht:=JU hV
 have a1:aX 1 (ai bG (aP 0)) [ah (aq A),none,none,none,none,none]=some (.nx [ah (aq A),ah (aB n),none,none,none,none]):=cU (aN [aq A] (du rfl) (by rw [len_tab,h.len])) rfl
 have c:=fY (g:=GS) (f:=aP 0) (ρ:=[ah (aq A),ah (aB n),none,none,none,none]) [aq A] (du rfl) ht
 have hDC:D'<C:=Nat.lt_of_le_of_lt hDK kC
 have gV:∀r∈V,Gv D' KA r:=fun r hr=>⟨by rw [hw r hr];omega,hov r hr,hD,hDC,kC⟩
 have gVc:∀k<n,Gv D' KA (cS V k):=fun k hk=>⟨by rw [jY,hl];omega,fun x hx=>by
  obtain⟨r,hr,rfl⟩:=List.mem_map.mp hx
  exact hov r hr _ (iU (by rw [hw r hr];exact hk)),hD,hDC,kC⟩
 have f1:Lu D' KA D1 N1:=⟨Nat.lt_of_le_of_lt (by rw [Nat.mul_comm];exact Nat.mul_le_mul_left _ hDK) k2.1,by rw [Nat.mul_comm KA];exact k2.2⟩
 have f2:Lu D1 N1 D' KA:=⟨Nat.lt_of_le_of_lt (Nat.mul_le_mul_left _ hDK) k2.1,k2.2⟩
 have p1:=D0 (A:=V) (C:=A) (by omega) h.len (by omega) h.bw.wd gV (fun k hk=>h.gc hk) f1
 have p2:=D0 (A:=A) (C:=V) (by rw [h.len];omega) hl (by omega) hw (fun a ha=>h.gv ha) gVc f2
 rw [m1] at p1
 rw [m2] at p2
 have un:=JW (n:=n) (by omega)
 have hs0:AM [aq A,aB n]=some .non:=by
  show (j9 _).bind _=_
  rw [hst]
  rfl
 have hI:GR [aq A]=some (aq V):=by
  show (ie _).bind _=_
  rw [hV,Option.bind_some,pJ]
 have hseen:∀(a:Addr) (s4:Option Sl),hide [s4]=[s4]->seen 2 (V.map dW) [ah (aq A),ah (aB n),ah (.ptr a),ah .non,s4,none]=[ah (aq A),ah (aB n),ah (aq V),ah .non,s4,none]:=fun a s4 hs4=>by
  have e:=pJ V
  rw [show (kW V).tr=T.lst (O.trs (V.map dW)) from by unfold kW;rw [O.tr]] at e
  rw [<- e]
  cases s4 with
  |none=>rfl
  |some s=>cases s with
   |sh t=>rfl
   |own ts=>cases hs4
 have t1:Mk [ah (aq A),ah (aB n),ah (aq V),ah .non,none,none]=some (false,[ah (aq A),ah (aB n),ah (aq V),ah .non,none,none]):=by
  have u1:cJ (aG fO (ai AM (aa (af 0) (aP 1))) (fC .non)) [ah (aq A),ah (aB n),ah (aq V),ah .non,none,none]=some (false,[ah (aq A),ah (aB n),ah (aq V),ah .non,none,none]):=pq (aN [aq A,aB n] (dw rfl rfl) hs0)
  have u3:cJ (aG lb (ai bG (aP 2)) (af 1)) [ah (aq A),ah (aB n),ah (aq V),ah .non,none,none]=some (false,[ah (aq A),ah (aB n),ah (aq V),ah .non,none,none]):=Dc (dR (g:=lb) (aN [aq V] (du rfl) (by rw [len_tab,hl])) rfl (by rw [uE];simp))
  exact tq u1 (tq (show gu (eL (ai bQ (aa (af 2) (aa (fC (.ty "list")) az)))) _=some (false,_) from rfl) u3)
 have t2:qy Kd 5 [ah (aq A),ah (aB n),ah (aq V),ah .non,none,none] (V.map ar)=some false:=all_rows _ fun t ht=>by
  obtain⟨r,hr,rfl⟩:=List.mem_map.mp ht
  exact⟨_,mO (aN (ρ:=[ah (aq A),ah (aB n),ah (aq V),ah .non,none,ah (ar r)]) [ar r,aB n] (dw rfl rfl) (DZ (hw r hr) fun x hx=>(gV r hr).sm hx))⟩
 have e4:Ot [ah (aq A),ah (aB n),ah (aq V),ah .non,none,none]=some (.bl true,[ah (aq A),ah (aB n),ah (aq V),ah .non,none,none]):=
  ui (dR (g:=gJ) (aN [aq V,aq A] (dw rfl rfl) p1) (aN [aB n] (du rfl) un) (cmp_self (neg:=false) (mY _) (by decide))) (dR (g:=gJ) (aN [aq A,aq V] (dw rfl rfl) p2) (aN [aB n] (du rfl) un) (cmp_self (neg:=false) (mY _) (by decide)))
 have trs:O.trs (V.map dW)=V.map ar:=by
  have e:=pJ V
  unfold kW aq at e
  rw [O.tr] at e
  injection e
 have c5:=bZ (φ:=fun r:List Rat=>T.lst (r.map bL++[.tup [.int 7,.int 1]])) (fe:=Hb (af 0) ij (fL (wb qt (aU 1)))) (g:=ar) (ρ:=[]) rfl V none [] (fun r hr=>MK (f:=af 0) rfl rfl (Fb rfl) (Cn _ _)) (cz (by omega))
 have e5:Es [ah (aq A),ah (aB n),ah (.lst (V.map fun r=>.lst (r.map bL++[.tup [.int 7,.int 1]]))),ah .non,ah (.bl true),none]=some (.bl true,[ah (aq A),ah (aB n),ah (.lst (V.map fun r=>.lst (r.map bL++[.tup [.int 7,.int 1]]))),ah .non,ah (.bl true),none]):=by
  have b5:=cj (no:=1) (cap:=[]) (fi:=bo (af 2)) (fg:=ak 0) (ft:=aA) (τ:=[ah (aq A),ah (aB n),ah (.lst (V.map fun r=>.lst (r.map bL++[.tup [.int 7,.int 1]]))),ah .non,ah (.bl true),none]) (h1:=rfl) rfl rfl c5
  rw [List.nil_append] at b5
  exact ui rfl (dR (g:=gJ) b5 (aN [aq A] (du rfl) hI) (cmp_self (neg:=false) (mY V) (by decide)))
 have P:∀a:Addr,∃τ1,cJ (aG wO (af 2) (fC .non)) (seen 2 (V.map dW) [ah (aq A),ah (aB n),ah (.ptr a),ah .non,none,none])=some (false,τ1)/\Kc a (V.map dW) [ah (aq A),ah (aB n),ah (.ptr a),ah .non,none,none]=some (.rt (.bl true)):=fun a=>by
  refine⟨_,by rw [hseen a none rfl];rfl,?_⟩
  unfold Kc
  rw [kl (MG (by rw [hseen a none rfl];exact t1))]
  have q2:CS 2 5 Kd false a (V.map dW) [ah (aq A),ah (aB n),ah (.ptr a),ah .non,none,none]=some (.nx (V.map dW) [ah (aq A),ah (aB n),ah (.ptr a),ah .non,none,none]):=by
   unfold CS
   rw [if_pos ⟨rfl,by decide⟩,hseen a none rfl,trs,t2]
   rfl
  rw [kl q2,kl (zO (by rw [hseen a none rfl];exact e4) rfl (by decide))]
  have q4:zN 2 5 (ck (aa (aU 7) (aa (aU 1) az))) a (V.map dW) [ah (aq A),ah (aB n),ah (.ptr a),ah .non,ah (.bl true),none]=some (.nx ((V.map dW).map (pR (.tup [.int 7,.int 1]))) [ah (aq A),ah (aB n),ah (.ptr a),ah .non,ah (.bl true),none]):=by
   unfold zN
   rw [if_pos ⟨⟨rfl,by decide⟩,Fs V fun r hr=>by rw [hw r hr];omega⟩,Ae (t:=.int 7) (u:=.int 1) rfl rfl]
   rfl
  show iZ (zN 2 5 _) _ a (V.map dW) [ah (aq A),ah (aB n),ah (.ptr a),ah .non,ah (.bl true),none]=_
  rw [kl q4]
  unfold HQ
  rw [Gw]
  show ((bE Es [ah (aq A),ah (aB n),ah (.lst (V.map fun r=>.lst (r.map bL++[.tup [.int 7,.int 1]]))),ah .non,ah (.bl true),none]).bind _)=_
  rw [ll e5]
  rfl
 refine ig rfl ?_
 rw [AB]
 show aO _ _ [ah (aq A),none,none,none,none,none]=_
 rw [bJ a1]
 unfold D6
 rw [c,Option.bind_some]
 dsimp only
 rw [if_pos ⟨Nat.lt_of_lt_of_le (by decide:2<3) (by simp),Nat.lt_of_lt_of_le (by decide:3<4) (by simp),by decide⟩]
 refine qR (t:=.bl true) (fun a=>P a) (fun t' h'=>?_)
 obtain⟨_,_,e⟩:=h' 0
 obtain⟨_,_,e'⟩:=P 0
 have e2:=e.symm.trans e'
 cases e2
 rfl
theorem L9 (h:Dw n n A):Gg [aq A]=some (.bl true):=by
 have hT:=h.tm
 have hr:(∀e∈aD (n+n) n (dA (cF A n)) [] [],e.1.isSome=true) ↔ ∀e∈aD (n+n) n (dA A) [] [],e.1.isSome=true:=by
  rw [all_some,all_some,KZ hT,jE,jE,jd,h.len]
 rcases sV hT with ⟨h1,h2⟩ | ⟨⟨r,h1,h2⟩,h3⟩
 ·have hall:=hr.mp h2
  obtain⟨V,D',v1,v2,v3,v4,v5,v6,v7⟩:=G3 hT hall
  exact Ke h h1 v1 v3 v4 v5 v6 v7 (xv v3 v4 h.len (Er hT hall v2)) (xv h.len h.bw.wd v3 v2)
 ·obtain⟨x1,x2⟩:=G4 hT (fun z=>h3 (hr.mpr z)) h1
  exact Ho h h1 h2 (JV x1 x2)
abbrev IP:List T->Option T:=dH 4 2 (eU LZ qd j9)
def FI:FE:=(iQ (aG Me (af 1) (ai bG (aP 0))) (aG gJ (ai bG (aa (ai LZ (aP 0)) az)) (af 1)))
def NW:FQ:=(iZ (vA 2 3 (ai qd (aa (af 2) (aa (af 0) (aP 1)))))
  (iZ qU
  (Fm (af 3))))
theorem GB:eU LZ qd j9=D8 2 (cy j9 (aa (af 0) (aP 1))) (cJ (aG wO (af 2) (fC .non))) (bE FI) NW:=rfl
theorem Ko {a b:Nat}(h:a≤b):Me (aB a) (aB b)=some (.bl true):=by
 show some (T.bl (decide ((a:Int)≤(b:Int))))=_
 rw [decide_eq_true (by omega)]
theorem Ma (h:Dw m w A):IP [aq A,aB w]=some (.bl true):=by
 have hT:=h.tm
 have m4:=h.m4
 refine ig rfl ?_
 rw [GB]
 show D8 2 _ _ _ _ [ah (aq A),ah (aB w),none,none]=_
 unfold D8
 rcases sV hT with ⟨h1,h2⟩ | ⟨⟨r,h1,h2⟩,h3⟩
 ·rw [fY (g:=j9) [aq A,aB w] (dw rfl rfl) h1,Option.bind_some]
  dsimp only
  rw [if_pos (Nat.lt_of_lt_of_le (by decide:2<3) (by simp))]
  have r1:=all_some.mp h2
  rw [jE,jd,HV hT] at r1
  have r2:Dt.rank w ((A.map bg).map Dt.rw)≤A.length:=by
   have:=CT (w:=w) (rows:=A.map bg)
   rw [List.length_map] at this
   exact this
  have hwm:w≤m:=by rw [h.len] at r2;omega
  obtain⟨ns,f1,f2⟩:=L8 hT
  have hlen:ns.length=w:=by
   rw [f2]
   cases A with
   |nil =>
    have:m=0:=h.len.symm
    have hw0:w=0:=by omega
    rw [hw0]
    rfl
   |cons a A =>
    have:sx (a::A)=w:=h.bw.wd a List.mem_cons_self
    rw [this]
    exact r1
  have e:FI [ah (aq A),ah (aB w),ah .non,none]=some (.bl true,[ah (aq A),ah (aB w),ah .non,none]):=
   ui (dR (g:=Me) rfl (aN [aq A] (du rfl) (by rw [len_tab,h.len])) (Ko hwm)) (dR (g:=gJ) (aN [.lst ns] (du (aN [aq A] (du rfl) f1)) (show bG [.lst ns]=some (aB w) by
    show some (T.int (ns.length:Nat))=_
    rw [hlen])) rfl (by rw [DY];simp))
  show ((cJ (aG wO (af 2) (fC .non)) [ah (aq A),ah (aB w),ah .non,none]).bind fun q=>if q.1=true then ((bE FI) q.2).bind fun r=>(match r with | .rt t=>some (R.rt t) | _=>none) else none)=_
  rw [show cJ (aG wO (af 2) (fC .non)) [ah (aq A),ah (aB w),ah .non,none]=some (true,[ah (aq A),ah (aB w),ah .non,none]) from rfl,Option.bind_some]
  dsimp only
  rw [if_pos rfl,ll e]
  rfl
 ·rw [fY (g:=j9) [aq A,aB w] (dw rfl rfl) h1,Option.bind_some]
  dsimp only
  rw [if_pos (Nat.lt_of_lt_of_le (by decide:2<3) (by simp))]
  have hseen:∀a:Addr,seen 2 ((r.map bL).map .val) [ah (aq A),ah (aB w),ah (.ptr a),none]=[ah (aq A),ah (aB w),ah (ar r),none]:=fun a=>by
   show [some (Sl.sh (aq A)),ah (aB w),ah (T.lst (O.trs ((r.map bL).map .val))),none]=_
   rw [TM.eP]
   rfl
  have P:∀a:Addr,∃τ1,cJ (aG wO (af 2) (fC .non)) (seen 2 ((r.map bL).map .val) [ah (aq A),ah (aB w),ah (.ptr a),none])=some (false,τ1)/\NW a ((r.map bL).map .val) [ah (aq A),ah (aB w),ah (.ptr a),none]=some (.rt (.bl true)):=fun a=>by
   refine⟨_,by rw [hseen];rfl,?_⟩
   unfold NW
   rw [kl (zO (by rw [hseen];exact aN [ar r,aq A,aB w] (Ca rfl rfl rfl) (rA h h2)) rfl (by decide)),kl (os':=[]) rfl]
   rfl
  refine qR (t:=.bl true) (fun a=>P a) (fun t' h'=>?_)
  obtain⟨_,_,e⟩:=h' 0
  obtain⟨_,_,e'⟩:=P 0
  have e2:=e.symm.trans e'
  cases e2
  rfl
end
abbrev lE (ns:List Int)(k c:Int)(n w:Nat)(s5 s6 s7 s8:Option Sl):aK:=[ah (.scr (ns.map T.int)),ah (.int k),ah (.int c),ah (aB n),ah (aB w),s5,s6,s7,s8]
def Ou:FS:=aX 5 (jl (sZ 5) (aa (ai fP (aa (af 2) (aa (aU 4) az))) az) DR)
def Ow:FS:=aX 6 (jl (sZ 6) (aa (ai fP (aa (af 2) (aa (aU 5) az))) az) DR)
def ve:FS:=cq (cJ (aG gJ (aG bU (ai fP (aa (af 2) (aa (aU 3) az))) (aU 2)) (aU 0))) (aO Ou Ow) bS
def Gu (A:List (List Rat))(X:Sl):Prop:=X=.own (A.map ar)\/X=.sh (aq A)
theorem wz {fo:jH}{g:FA}{d:O->List T->Option T}{τ τ1 τ2:aK}{o:O}{ts:List T}{t:T}(h1:fo τ=some (o,τ1))(h2:g τ1=some (ts,τ2))(h3:d o ts=some t):jl fo g d τ=some (t,τ2):=by
 unfold jl
 rw [h1,Option.bind_some]
 dsimp only
 rw [h2,Option.bind_some]
 dsimp only
 rw [h3]
 rfl
theorem Ht {ns:List Int}{k c:Int}{n w:Nat}{A Z:List (List Rat)}(hA:Bw n 9 A)(hZ:Bw w 9 Z)(hl:A.length=n)(hz:Z.length=n)(hn:n≤4)(hw:w≤4)(s7 s8:Option Sl):
  ∃(A' Z':List (List Rat)) (X Y:Sl),Dw n n A'/\Dw n w Z'/\Gu A' X/\Gu Z' Y/\ve (lE ns k c n w (some (.own (A.map ar))) (some (.own (Z.map ar))) s7 s8)=some (.nx (lE ns k c n w (some X) (some Y) s7 s8)):=by
 have t0:=Kq (j:=3) (c:=c) (d:=2) (τ:=lE ns k c n w (some (.own (A.map ar))) (some (.own (Z.map ar))) s7 s8) rfl (bX (by decide) (by decide)) (by decide)
 have t1:cJ (aG gJ (aG bU (ai fP (aa (af 2) (aa (aU 3) az))) (aU 2)) (aU 0)) (lE ns k c n w (some (.own (A.map ar))) (some (.own (Z.map ar))) s7 s8)=some (decide ((iX c 3).fmod 2=0),lE ns k c n w (some (.own (A.map ar))) (some (.own (Z.map ar))) s7 s8):=Dc (dR (g:=gJ) (fb:=aU 0) t0 rfl (mD _ _))
 by_cases h:(iX c 3).fmod 2=0
 ·obtain⟨A',l1,b1,e1⟩:=wK (iX c 4) hA (by omega) (by omega)
  obtain⟨Z',l2,b2,e2⟩:=wK (iX c 5) hZ (by omega) (by omega)
  rw [<- GD] at e1 e2
  refine⟨A',Z',.sh (aq A'),.sh (aq Z'),⟨by omega,hn,hn,b1⟩,⟨by omega,hn,hw,b2⟩,.inr rfl,.inr rfl,?_⟩
  have f5:Ou (lE ns k c n w (some (.own (A.map ar))) (some (.own (Z.map ar))) s7 s8)=some (.nx (lE ns k c n w (ah (aq A')) (some (.own (Z.map ar))) s7 s8)):=
   cU (wz (τ1:=lE ns k c n w none (some (.own (Z.map ar))) s7 s8) rfl (du (Mt (c:=c) (j:=4) rfl (bX (by decide) (by decide)))) e1) rfl
  have f6:Ow (lE ns k c n w (ah (aq A')) (some (.own (Z.map ar))) s7 s8)=some (.nx (lE ns k c n w (ah (aq A')) (ah (aq Z')) s7 s8)):=
   cU (wz (τ1:=lE ns k c n w (ah (aq A')) none s7 s8) rfl (du (Mt (c:=c) (j:=5) rfl (bX (by decide) (by decide)))) e2) rfl
  unfold ve cq
  rw [t1,Option.bind_some]
  refine (if_pos (decide_eq_true h)).trans ?_
  rw [bJ f5,f6]
 ·refine⟨A,Z,.own (A.map ar),.own (Z.map ar),⟨hl,hn,hn,hA.wd,fun r hr x hx=>(hA.lq r hr x hx).mono (by decide)⟩,⟨hz,hn,hw,hZ.wd,fun r hr x hx=>(hZ.lq r hr x hx).mono (by decide)⟩,.inl rfl,.inl rfl,?_⟩
  unfold ve cq
  rw [t1,Option.bind_some]
  exact if_neg (fun z=>h (of_decide_eq_true z))
def Ez:FS:=d9 7 (aa (bB 1 [] (bo (af 5)) (ak 0) aA (ai dList (aP 0))) (aa (bB 1 [] (bo (af 6)) (ak 0) aA (ai dList (aP 0))) az))
theorem Kn {ns:List Int}{k c:Int}{n w:Nat}{A Z:List (List Rat)}(hl:A.length≤8)(hl':Z.length≤8){X Y:Sl}(hX:Gu A X)(hY:Gu Z Y)(s7 s8:Option Sl):
  Ez (lE ns k c n w (some X) (some Y) s7 s8)=some (.nx (lE ns k c n w (ah (aq A)) (ah (aq Z)) (some (.own [aq A,aq Z])) s8)):=by
 have hc:=bZ (φ:=ar) (fe:=ai dList (aP 0)) (g:=ar) (ρ:=[]) rfl A none [] (fun r hr=>rfl) (cz hl)
 have hc':=bZ (φ:=ar) (fe:=ai dList (aP 0)) (g:=ar) (ρ:=[]) rfl Z none [] (fun r hr=>rfl) (cz hl')
 have h1:bo (af 5) (lE ns k c n w (some X) (some Y) s7 s8)=some (A.map ar,lE ns k c n w (ah (aq A)) (some Y) s7 s8):=by
  rcases hX with rfl | rfl
  ·rfl
  ·rfl
 have h1':bo (af 6) (lE ns k c n w (ah (aq A)) (some Y) s7 s8)=some (Z.map ar,lE ns k c n w (ah (aq A)) (ah (aq Z)) s7 s8):=by
  rcases hY with rfl | rfl
  ·rfl
  ·rfl
 have h2:=nC (no:=1) (cap:=[]) (fg:=ak 0) (ft:=aA) (fe:=ai dList (aP 0)) h1 rfl rfl hc
 have h3:=nC (no:=1) (cap:=[]) (fg:=ak 0) (ft:=aA) (fe:=ai dList (aP 0)) h1' rfl rfl hc'
 have h4:=DL h2 (DL h3 (show az _=some ([],_) from rfl))
 unfold Ez d9
 rw [h4]
 rfl
def Bn:FS:=(cq (sX (gu (eL (dQ 5 (ai Gg (aP 5))))) (gu (eL (dQ 6 (ai IP (aa (af 6) (aP 4))))))) (bE (fC (.bl false))) bS)
theorem EA {ns:List Int}{k c:Int}{n w:Nat}{A Z:List (List Rat)}(hA:Dw n n A)(hZ:Dw n w Z){s7 s8:Option Sl}:Bn (lE ns k c n w (ah (aq A)) (ah (aq Z)) s7 s8)=some (.nx (lE ns k c n w (ah (aq A)) (ah (aq Z)) s7 s8)):=by
 have e1:dQ 5 (ai Gg (aP 5)) (lE ns k c n w (ah (aq A)) (ah (aq Z)) s7 s8)=some (.bl true,lE ns k c n w (ah (aq A)) (ah (aq Z)) s7 s8):=by
  rw [vW (t:=aq A) rfl]
  exact aN [aq A] (du rfl) (L9 hA)
 have e2:dQ 6 (ai IP (aa (af 6) (aP 4))) (lE ns k c n w (ah (aq A)) (ah (aq Z)) s7 s8)=some (.bl true,lE ns k c n w (ah (aq A)) (ah (aq Z)) s7 s8):=by
  rw [vW (t:=aq Z) rfl]
  exact aN [aq Z,aB w] (dw rfl rfl) (Ma hZ)
 exact KG (mO e1) (mO e2)
def xo:FS:=(aO (aX 2 (ai lh (aa (af 0) (aP 1))))
  (aO (aX 3 (aG bU (ai fP (aa (af 2) (aa (aU 1) az))) (aU 5)))
  (aO (aX 4 (aG bU (ai fP (aa (af 2) (aa (aU 2) az))) (aU 5)))
  (aO (mB 5 (cy oM (aa (af 2) (aa (af 3) (aP 3)))))
  (aO (mB 6 (cy oM (aa (af 2) (aa (af 3) (aP 4)))))
  (aO ve
  (aO Ez
  (aO (dz (bA (aa (aU 2) az)) (ak 8) Bn)
  (cq (cJ (aG lb (my (aa (af 5) (aP 6))) (af 7))) (bE (fC (.bl false))) bS)))))))))
theorem DA:wt lh fP Gg IP DR oM=aO (dz (bA (aa (ai yL (aa (aU 3) (aa (ai wD (aa (aU 12) (aa (ai bG (aP 0)) az))) az))) az)) (ak 1) xo) (bE (fC (.bl true))):=rfl
theorem ED (ns:List Int){k:Int}(h0:0≤k)(h1:k<1000000)(x2 x3 x4 x5 x6 x7 x8:Option T):
  ∃y2 y3 y4 y5 y6 y7 y8:Option T,xo [ah (.scr (ns.map T.int)),ah (.int k),cv x2,cv x3,cv x4,cv x5,cv x6,cv x7,cv x8]=some (.nx [ah (.scr (ns.map T.int)),ah (.int k),cv y2,cv y3,cv y4,cv y5,cv y6,cv y7,cv y8]):=by
 have rm:=cx (iX (iO ns k) 1) (b:=5) (by decide)
 have rm2:=cx (iX (iO ns k) 2) (b:=5) (by decide)
 obtain⟨n,en⟩:∃n:Nat,(iX (iO ns k) 1).fmod 5=(n:Nat):=⟨((iX (iO ns k) 1).fmod 5).toNat,by omega⟩
 obtain⟨w,ew⟩:∃n:Nat,(iX (iO ns k) 2).fmod 5=(n:Nat):=⟨((iX (iO ns k) 2).fmod 5).toNat,by omega⟩
 have hn:n≤4:=by omega
 have hw:w≤4:=by omega
 obtain⟨A0,eA0,lA0,wA0,qA0⟩:=D2 (iO ns k) n n (by omega) (by omega)
 obtain⟨Z0,eZ0,lZ0,wZ0,qZ0⟩:=D2 (iO ns k) n w (by omega) (by omega)
 generalize hc:iO ns k=c at *
 obtain⟨A,Z,X,Y,hA,hZ,hX,hY,eB⟩:=Ht (ns:=ns) (k:=k) (c:=c) (n:=n) (w:=w) ⟨wA0,qA0⟩ ⟨wZ0,qZ0⟩ lA0 lZ0 hn hw (cv x7) (cv x8)
 have e1:aX 2 (ai lh (aa (af 0) (aP 1))) [ah (.scr (ns.map T.int)),ah (.int k),cv x2,cv x3,cv x4,cv x5,cv x6,cv x7,cv x8]=some (.nx [ah (.scr (ns.map T.int)),ah (.int k),ah (.int c),cv x3,cv x4,cv x5,cv x6,cv x7,cv x8]):=by
  rw [<- hc]
  exact cU (aN [.scr (ns.map T.int),.int k] (dw rfl rfl) (EM h0 h1)) rfl
 have e2:aX 3 (aG bU (ai fP (aa (af 2) (aa (aU 1) az))) (aU 5)) [ah (.scr (ns.map T.int)),ah (.int k),ah (.int c),cv x3,cv x4,cv x5,cv x6,cv x7,cv x8]=some (.nx [ah (.scr (ns.map T.int)),ah (.int k),ah (.int c),ah (aB n),cv x4,cv x5,cv x6,cv x7,cv x8]):=by
  have:=cU (i:=3) (Kq (j:=1) (c:=c) (d:=5) (τ:=[ah (.scr (ns.map T.int)),ah (.int k),ah (.int c),cv x3,cv x4,cv x5,cv x6,cv x7,cv x8]) rfl (bX (by decide) (by decide)) (by decide)) rfl
  rw [en] at this
  exact this
 have e3:aX 4 (aG bU (ai fP (aa (af 2) (aa (aU 2) az))) (aU 5)) [ah (.scr (ns.map T.int)),ah (.int k),ah (.int c),ah (aB n),cv x4,cv x5,cv x6,cv x7,cv x8]=some (.nx (lE ns k c n w (cv x5) (cv x6) (cv x7) (cv x8))):=by
  have:=cU (i:=4) (Kq (j:=2) (c:=c) (d:=5) (τ:=[ah (.scr (ns.map T.int)),ah (.int k),ah (.int c),ah (aB n),cv x4,cv x5,cv x6,cv x7,cv x8]) rfl (bX (by decide) (by decide)) (by decide)) rfl
  rw [ew] at this
  exact this
 have e4:mB 5 (cy oM (aa (af 2) (aa (af 3) (aP 3)))) (lE ns k c n w (cv x5) (cv x6) (cv x7) (cv x8))=some (.nx (lE ns k c n w (some (.own (A0.map ar))) (cv x6) (cv x7) (cv x8))):=by
  have q:=fY (g:=oM) (f:=aa (af 2) (aa (af 3) (aP 3))) (ρ:=lE ns k c n w (cv x5) (cv x6) (cv x7) (cv x8)) [.int c,aB n,aB n] (Ca rfl rfl rfl) eA0
  have:=Jn (i:=5) q
  rw [kR ju A0] at this
  exact this
 have e5:mB 6 (cy oM (aa (af 2) (aa (af 3) (aP 4)))) (lE ns k c n w (some (.own (A0.map ar))) (cv x6) (cv x7) (cv x8))=some (.nx (lE ns k c n w (some (.own (A0.map ar))) (some (.own (Z0.map ar))) (cv x7) (cv x8))):=by
  have q:=fY (g:=oM) (f:=aa (af 2) (aa (af 3) (aP 4))) (ρ:=lE ns k c n w (some (.own (A0.map ar))) (cv x6) (cv x7) (cv x8)) [.int c,aB n,aB w] (Ca rfl rfl rfl) eZ0
  have:=Jn (i:=6) q
  rw [kR ju Z0] at this
  exact this
 have e6:=Kn (ns:=ns) (k:=k) (c:=c) (n:=n) (w:=w) (A:=A) (Z:=Z) (by rw [hA.len];omega) (by rw [hZ.len];omega) hX hY (cv x7) (cv x8)
 have e7:dz (bA (aa (aU 2) az)) (ak 8) Bn (lE ns k c n w (ah (aq A)) (ah (aq Z)) (some (.own [aq A,aq Z])) (cv x8))=some (.nx (lE ns k c n w (ah (aq A)) (ah (aq Z)) (some (.own [aq A,aq Z])) (ah (.int ((1:Nat):Int))))):=by
  refine jJ (gb (f:=aU 2) (n:=2) rfl (by omega)) ?_
  show bV (ak 8) Bn [T.int ((0:Nat):Int),T.int ((1:Nat):Int)] _=_
  rw [b9 (τ1:=lE ns k c n w (ah (aq A)) (ah (aq Z)) (some (.own [aq A,aq Z])) (ah (.int ((0:Nat):Int)))) rfl (EA hA hZ),b9 (τ1:=lE ns k c n w (ah (aq A)) (ah (aq Z)) (some (.own [aq A,aq Z])) (ah (.int ((1:Nat):Int)))) rfl (EA hA hZ)]
  rfl
 have e8:cJ (aG lb (my (aa (af 5) (aP 6))) (af 7)) (lE ns k c n w (ah (aq A)) (ah (aq Z)) (some (.own [aq A,aq Z])) (ah (.int ((1:Nat):Int))))=some (false,lE ns k c n w (ah (aq A)) (ah (aq Z)) (ah (.lst [aq A,aq Z])) (ah (.int ((1:Nat):Int)))):=by
  have hs:lb (.lst [aq A,aq Z]) (.lst [aq A,aq Z])=some (.bl false):=cmp_self (neg:=true) (vL (n:=3) fun x hx=>by
   rcases List.mem_cons.mp hx with rfl | hx
   ·exact mY A
   ·rw [List.mem_singleton.mp hx];exact mY Z) (by decide)
  unfold cJ aG
  show (((lb (.lst [aq A,aq Z]) (.lst [aq A,aq Z])).bind fun t=>some (t,lE ns k c n w (ah (aq A)) (ah (aq Z)) (ah (.lst [aq A,aq Z])) (ah (.int ((1:Nat):Int))))).bind _)=_
  rw [hs]
  rfl
 refine⟨some (.int c),some (aB n),some (aB w),some (aq A),some (aq Z),some (.lst [aq A,aq Z]),some (.int ((1:Nat):Int)),?_⟩
 unfold xo
 rw [bJ e1,bJ e2,bJ e3,bJ e4,bJ e5,bJ eB,bJ e6,bJ e7,Bd e8]
 rfl
theorem xp (ns:List Int):∀(m:Nat) (k:Int) (x1 x2 x3 x4 x5 x6 x7 x8:Option T),0≤k->k+m<1000->∃y1 y2 y3 y4 y5 y6 y7 y8:Option T,bV (ak 1) xo (TM.upTo k m) [ah (.scr (ns.map T.int)),cv x1,cv x2,cv x3,cv x4,cv x5,cv x6,cv x7,cv x8]=some (.nx [ah (.scr (ns.map T.int)),cv y1,cv y2,cv y3,cv y4,cv y5,cv y6,cv y7,cv y8])
 |0,k,x1,x2,x3,x4,x5,x6,x7,x8,_,_=>⟨x1,x2,x3,x4,x5,x6,x7,x8,rfl⟩
 |m+1,k,x1,x2,x3,x4,x5,x6,x7,x8,h0,h1=>by
  obtain⟨y2,y3,y4,y5,y6,y7,y8,ht⟩:=ED ns h0 (by omega) x2 x3 x4 x5 x6 x7 x8
  obtain⟨z1,z2,z3,z4,z5,z6,z7,z8,hl⟩:=xp ns m (k+1) (some (.int k)) y2 y3 y4 y5 y6 y7 y8 (by omega) (by omega)
  refine⟨z1,z2,z3,z4,z5,z6,z7,z8,?_⟩
  rw [show TM.upTo k (m+1)=T.int k::TM.upTo (k+1) m from rfl,b9 (τ1:=[ah (.scr (ns.map T.int)),ah (.int k),cv x2,cv x3,cv x4,cv x5,cv x6,cv x7,cv x8]) rfl ht]
  exact hl
theorem EC (ns:List Int)(hl:ns.length≤63):dH 9 1 (wt lh fP Gg IP DR oM) [.scr (ns.map T.int)]=some (.bl true):=by
 have hk:∃K:Int,0≤K/\K≤100/\ai yL (aa (aU 3) (aa (ai wD (aa (aU 12) (aa (ai bG (aP 0)) az))) az)) [ah (.scr (ns.map T.int)),none,none,none,none,none,none,none,none]=some (.int K,[ah (.scr (ns.map T.int)),none,none,none,none,none,none,none,none]):=by
  have l1:bG [.scr (ns.map T.int)]=some (.int (ns.length:Nat)):=by
   show some (T.int ((ns.map T.int).length:Nat))=_
   rw [List.length_map]
  have c1:=aN (g:=bG) (f:=aP 0) (ρ:=[ah (.scr (ns.map T.int)),none,none,none,none,none,none,none,none]) [.scr (ns.map T.int)] (du rfl) l1
  have c2:=aN (g:=wD) (f:=aa (aU 12) (aa (ai bG (aP 0)) az)) [.int 12,.int (ns.length:Nat)] (dw rfl c1) rfl
  have c3:=aN (g:=yL) (f:=aa (aU 3) (aa (ai wD (aa (aU 12) (aa (ai bG (aP 0)) az))) az)) _ (dw rfl c2) rfl
  refine⟨_,?_,?_,c3⟩
  ·split<;>(try split)<;>omega
  ·split<;>(try split)<;>omega
 obtain⟨K,k0,k1,ek⟩:=hk
 obtain⟨y1,y2,y3,y4,y5,y6,y7,y8,hl⟩:=xp ns K.toNat 0 none none none none none none none none (by omega) (by omega)
 have r1:=mS ek k0 (by omega)
 have a1:=jJ (fg:=ak 1) (fb:=xo) r1 hl
 refine ig rfl ?_
 show wt lh fP Gg IP DR oM [ah (.scr (ns.map T.int)),none,none,none,none,none,none,none,none]=_
 rw [DA,bJ a1]
 rfl
open PySem PySem.Spec PyProof.Rows L2 TM
theorem nJ {α:Type}{us:List α}(h:us.length=1):∃a,us=[a]:=List.length_eq_one_iff.mp h
theorem gK {α:Type}{us:List α}(h:us.length=2):∃a b,us=[a,b]:=by
 rcases us with _ | ⟨a,us⟩
 ·cases h
 ·obtain⟨b,rfl⟩:=nJ (us:=us) (by simpa using h)
  exact⟨a,b,rfl⟩
theorem Hv {α:Type}{us:List α}(h:us.length=3):∃a b c,us=[a,b,c]:=by
 rcases us with _ | ⟨a,us⟩
 ·cases h
 ·obtain⟨b,c,rfl⟩:=gK (us:=us) (by simpa using h)
  exact⟨a,b,c,rfl⟩
def fo (s:Stmt)(nm qn:Str)(pm:Value)(c:Addr):Obj:=⟨.type "function", none,.func (PySem.W.fnOf nm qn (jj s) (dy s) (aw s) .none .none .none pm none (.ref c) .none),#[]⟩
theorem fk {K:PySem.W.Frag}(st:Stmt)(f c:Addr)(nm qn:Str)(pm:Value)(l:K.lookup f=some (fo st nm qn pm c))(h:PySem.W.codeIn K (.ref c) qn=true):fW K nm qn st f (PySem.W.fnOf nm qn (jj st) (dy st) (aw st) .none .none .none pm none (.ref c) .none):=J4 l h (by unfold PySem.W.keepIn;dsimp only;rw [l];rfl)
abbrev L4:List T->Option T:=(dH 9 1 (wt (lh) (fP) (Gg) (IP) (DR) (oM)))
set_option maxHeartbeats 0 in
theorem all_mk {w:World}{h:Heap}{mg:Str->Option Value}{fa:Addr}(X:(kk w.params).In h)(G:h.Ns mainGlobals mg)(hfa:mg "law" = some (.ref fa)):
  ∃fd:FuncData,(∀(s:Shared) (v:Value),BindsTo s fd ⟨[v],[]⟩ [("_law_script", v)])/\∀base:Heap,(kk w.params).In base->base.Ns mainGlobals mg->ir pg w (kk w.params) mg base tZ 9 fa fd ["_law_script"] (spT (kk w.params) 1 L4):=by
 have mq:∀(x:Str) (v:Value),PySem.W.nsIn (kk w.params) mainGlobals x=some (some v)->mg x=some v:=fun x v e=>PySem.W.mg_of X G e
 have mn:∀x:Str,PySem.W.nsIn (kk w.params) mainGlobals x=some none->mg x=none:=fun x e=>PySem.W.mg_none_of X G e
 have e:=hfa.symm.trans (mq "law" (.ref 373) (by kernel_rfl))
 cases e
 have a0:=fk (K:=kk w.params) kn 263 262 "_law_cell" "_law_cell" jQ (by kernel_rfl) (by kernel_rfl)
 have b0:=a0.binds (ps:=["_law_script","_law_k"]) fun _ _ _ _ _ _ us hl=>by obtain⟨a,b,rfl⟩:=gK hl;rfl
 have c0:=mq "_law_cell" (.ref 263) (by kernel_rfl)
 have d0:=fk (K:=kk w.params) lV 270 269 "_law_mix" "_law_mix" jQ (by kernel_rfl) (by kernel_rfl)
 have e0:=d0.binds (ps:=["_law_cell_here","_law_k"]) fun _ _ _ _ _ _ us hl=>by obtain⟨a,b,rfl⟩:=gK hl;rfl
 have f0:=mq "_law_mix" (.ref 270) (by kernel_rfl)
 have g0:=fk (K:=kk w.params) ko 291 290 "_law_frac" "_law_frac" jQ (by kernel_rfl) (by kernel_rfl)
 have i0:=g0.binds (ps:=["_law_top","_law_bottom"]) fun _ _ _ _ _ _ us hl=>by obtain⟨a,b,rfl⟩:=gK hl;rfl
 have j0:=mq "_law_frac" (.ref 291) (by kernel_rfl)
 have k0:=fk (K:=kk w.params) iB 334 333 "_law_is_row" "_law_is_row" jQ (by kernel_rfl) (by kernel_rfl)
 have l0:=k0.binds (ps:=["_law_thing","_law_many"]) fun _ _ _ _ _ _ us hl=>by obtain⟨a,b,rfl⟩:=gK hl;rfl
 have o0:=mq "_law_is_row" (.ref 334) (by kernel_rfl)
 have q0:=fk (K:=kk w.params) jx 310 309 "_law_times" "_law_times" jQ (by kernel_rfl) (by kernel_rfl)
 have r0:=q0.binds (ps:=["_law_one","_law_other"]) fun _ _ _ _ _ _ us hl=>by obtain⟨a,b,rfl⟩:=gK hl;rfl
 have s0:=mq "_law_times" (.ref 310) (by kernel_rfl)
 have t0:=fk (K:=kk w.params) lU 303 302 "_law_add" "_law_add" jQ (by kernel_rfl) (by kernel_rfl)
 have u0:=t0.binds (ps:=["_law_one","_law_other"]) fun _ _ _ _ _ _ us hl=>by obtain⟨a,b,rfl⟩:=gK hl;rfl
 have v0:=mq "_law_add" (.ref 303) (by kernel_rfl)
 have y0:=fk (K:=kk w.params) gX 317 316 "_law_weighed" "_law_weighed" jQ (by kernel_rfl) (by kernel_rfl)
 have z0:=y0.binds (ps:=["_law_one","_law_other"]) fun _ _ _ _ _ _ us hl=>by obtain⟨a,b,rfl⟩:=gK hl;rfl
 have a1:=mq "_law_weighed" (.ref 317) (by kernel_rfl)
 have b1:=fk (K:=kk w.params) iE 349 348 "_law_stills" "_law_stills" jQ (by kernel_rfl) (by kernel_rfl)
 have c1:=b1.binds (ps:=["_law_numbers","_law_table_here","_law_wide"]) fun _ _ _ _ _ _ us hl=>by obtain⟨a,b,c,rfl⟩:=Hv hl;rfl
 have d1:=mq "_law_stills" (.ref 349) (by kernel_rfl)
 have e1:=fk (K:=kk w.params) qZ 183 182 "turned" "turned" LF (by kernel_rfl) (by kernel_rfl)
 have f1:=e1.binds (ps:=["table","wide"]) fun _ _ _ _ _ _ us hl=>by obtain⟨a,b,rfl⟩:=gK hl;rfl
 have g1:=mq "turned" (.ref 183) (by kernel_rfl)
 have i1:=fk (K:=kk w.params) K2 35 34 "half" "half" LG (by kernel_rfl) (by kernel_rfl)
 have j1:=i1.binds (ps:=["one","other"]) fun _ _ _ _ _ _ us hl=>by obtain⟨a,b,rfl⟩:=gK hl;rfl
 have k1:=mq "half" (.ref 35) (by kernel_rfl)
 have l1:=fk (K:=kk w.params) qW 28 27 "common" "common" LG (by kernel_rfl) (by kernel_rfl)
 have o1:=l1.binds (ps:=["one","other"]) fun _ _ _ _ _ _ us hl=>by obtain⟨a,b,rfl⟩:=gK hl;rfl
 have q1:=mq "common" (.ref 28) (by kernel_rfl)
 have r1:=fk (K:=kk w.params) gy 173 172 "shared_bottom" "shared_bottom" LF (by kernel_rfl) (by kernel_rfl)
 have s1:=r1.binds (ps:=["row"]) fun _ _ _ _ _ _ us hl=>by obtain⟨a,rfl⟩:=nJ hl;rfl
 have t1:=mq "shared_bottom" (.ref 173) (by kernel_rfl)
 have u1:=fk (K:=kk w.params) qX 178 177 "raised" "raised" LF (by kernel_rfl) (by kernel_rfl)
 have v1:=u1.binds (ps:=["row","low"]) fun _ _ _ _ _ _ us hl=>by obtain⟨a,b,rfl⟩:=gK hl;rfl
 have y1:=mq "raised" (.ref 178) (by kernel_rfl)
 have z1:=fk (K:=kk w.params) nW 215 214 "tracked" "tracked" oC (by kernel_rfl) (by kernel_rfl)
 have a2:=z1.binds (ps:=["table"]) fun _ _ _ _ _ _ us hl=>by obtain⟨a,rfl⟩:=nJ hl;rfl
 have b2:=mq "tracked" (.ref 215) (by kernel_rfl)
 have c2:=fk (K:=kk w.params) nV 68 67 "divided" "divided" LG (by kernel_rfl) (by kernel_rfl)
 have d2:=c2.binds (ps:=["numbers","by"]) fun _ _ _ _ _ _ us hl=>by obtain⟨a,b,rfl⟩:=gK hl;rfl
 have e2:=mq "divided" (.ref 68) (by kernel_rfl)
 have f2:=fk (K:=kk w.params) nU 227 226 "cleared" "cleared" oC (by kernel_rfl) (by kernel_rfl)
 have g2:=f2.binds (ps:=["row","kept"]) fun _ _ _ _ _ _ us hl=>by obtain⟨a,b,rfl⟩:=gK hl;rfl
 have i2:=mq "cleared" (.ref 227) (by kernel_rfl)
 have j2:=fk (K:=kk w.params) iG 234 233 "first_place" "first_place" oC (by kernel_rfl) (by kernel_rfl)
 have k2:=j2.binds (ps:=["row","wide"]) fun _ _ _ _ _ _ us hl=>by obtain⟨a,b,rfl⟩:=gK hl;rfl
 have l2:=mq "first_place" (.ref 234) (by kernel_rfl)
 have o2:=fk (K:=kk w.params) gY 222 221 "cleared_rows" "cleared_rows" oC (by kernel_rfl) (by kernel_rfl)
 have q2:=o2.binds (ps:=["rows","wide"]) fun _ _ _ _ _ _ us hl=>by obtain⟨a,b,rfl⟩:=gK hl;rfl
 have r2:=mq "cleared_rows" (.ref 222) (by kernel_rfl)
 have s2:=fk (K:=kk w.params) ky 256 255 "shortened" "shortened" oC (by kernel_rfl) (by kernel_rfl)
 have t2:=s2.binds (ps:=["numbers"]) fun _ _ _ _ _ _ us hl=>by obtain⟨a,rfl⟩:=nJ hl;rfl
 have u2:=mq "shortened" (.ref 256) (by kernel_rfl)
 have v2:=fk (K:=kk w.params) qY 205 204 "stills" "stills" oC (by kernel_rfl) (by kernel_rfl)
 have y2:=v2.binds (ps:=["table","wide"]) fun _ _ _ _ _ _ us hl=>by obtain⟨a,b,rfl⟩:=gK hl;rfl
 have z2:=mq "stills" (.ref 205) (by kernel_rfl)
 have a3:=fk (K:=kk w.params) vD 200 199 "still" "still" oC (by kernel_rfl) (by kernel_rfl)
 have b3:=a3.binds (ps:=["table","wide"]) fun _ _ _ _ _ _ us hl=>by obtain⟨a,b,rfl⟩:=gK hl;rfl
 have c3:=mq "still" (.ref 200) (by kernel_rfl)
 have d3:=fk (K:=kk w.params) gW 339 338 "_law_product" "_law_product" jQ (by kernel_rfl) (by kernel_rfl)
 have e3:=d3.binds (ps:=["_law_one","_law_other"]) fun _ _ _ _ _ _ us hl=>by obtain⟨a,b,rfl⟩:=gK hl;rfl
 have f3:=mq "_law_product" (.ref 339) (by kernel_rfl)
 have g3:=fk (K:=kk w.params) ku 344 343 "_law_unit" "_law_unit" jQ (by kernel_rfl) (by kernel_rfl)
 have i3:=g3.binds (ps:=["_law_many"]) fun _ _ _ _ _ _ us hl=>by obtain⟨a,rfl⟩:=nJ hl;rfl
 have j3:=mq "_law_unit" (.ref 344) (by kernel_rfl)
 have k3:=fk (K:=kk w.params) jz 239 238 "kept_steps" "kept_steps" oC (by kernel_rfl) (by kernel_rfl)
 have l3:=k3.binds (ps:=["steps"]) fun _ _ _ _ _ _ us hl=>by obtain⟨a,rfl⟩:=nJ hl;rfl
 have o3:=mq "kept_steps" (.ref 239) (by kernel_rfl)
 have q3:=fk (K:=kk w.params) kv 246 245 "last_step" "last_step" oC (by kernel_rfl) (by kernel_rfl)
 have r3:=q3.binds (ps:=["kept"]) fun _ _ _ _ _ _ us hl=>by obtain⟨a,rfl⟩:=nJ hl;rfl
 have s3:=mq "last_step" (.ref 246) (by kernel_rfl)
 have t3:=fk (K:=kk w.params) zS 166 165 "frac" "frac" Oy (by kernel_rfl) (by kernel_rfl)
 have u3:=t3.binds (ps:=["top","bottom"]) fun _ _ _ _ _ _ us hl=>by obtain⟨a,b,rfl⟩:=gK hl;rfl
 have v3:=mq "frac" (.ref 166) (by kernel_rfl)
 have y3:=fk (K:=kk w.params) nS 251 250 "brought" "brought" oC (by kernel_rfl) (by kernel_rfl)
 have z3:=y3.binds (ps:=["kept","wide","column"]) fun _ _ _ _ _ _ us hl=>by obtain⟨a,b,c,rfl⟩:=Hv hl;rfl
 have a4:=mq "brought" (.ref 251) (by kernel_rfl)
 have b4:=fk (K:=kk w.params) fQ 147 146 "__init__" "Flat.__init__" md5 (by kernel_rfl) (by kernel_rfl)
 have c4:=b4.binds (ps:=["self","numbers"]) fun _ _ _ _ _ _ us hl=>by obtain⟨a,b,rfl⟩:=gK hl;rfl
 have d4:=fk (K:=kk w.params) kP 193 192 "inverse" "inverse" oC (by kernel_rfl) (by kernel_rfl)
 have e4:=d4.binds (ps:=["table"]) fun _ _ _ _ _ _ us hl=>by obtain⟨a,rfl⟩:=nJ hl;rfl
 have f4:=mq "inverse" (.ref 193) (by kernel_rfl)
 have g4:=fk (K:=kk w.params) iF 356 355 "_law_turned" "_law_turned" jQ (by kernel_rfl) (by kernel_rfl)
 have i4:=g4.binds (ps:=["_law_table_here"]) fun _ _ _ _ _ _ us hl=>by obtain⟨a,rfl⟩:=nJ hl;rfl
 have j4:=mq "_law_turned" (.ref 356) (by kernel_rfl)
 have k4:=fk (K:=kk w.params) dX 361 360 "_law_inverse_right" "_law_inverse_right" jQ (by kernel_rfl) (by kernel_rfl)
 have l4:=k4.binds (ps:=["_law_table_here"]) fun _ _ _ _ _ _ us hl=>by obtain⟨a,rfl⟩:=nJ hl;rfl
 have o4:=mq "_law_inverse_right" (.ref 361) (by kernel_rfl)
 have q4:=fk (K:=kk w.params) jA 210 209 "whole_rows" "whole_rows" oC (by kernel_rfl) (by kernel_rfl)
 have r4:=q4.binds (ps:=["table"]) fun _ _ _ _ _ _ us hl=>by obtain⟨a,rfl⟩:=nJ hl;rfl
 have s4:=mq "whole_rows" (.ref 210) (by kernel_rfl)
 have t4:=fk (K:=kk w.params) jy 188 187 "first_rows" "first_rows" oC (by kernel_rfl) (by kernel_rfl)
 have u4:=t4.binds (ps:=["table"]) fun _ _ _ _ _ _ us hl=>by obtain⟨a,rfl⟩:=nJ hl;rfl
 have v4:=mq "first_rows" (.ref 188) (by kernel_rfl)
 have y4:=fk (K:=kk w.params) eZ 368 367 "_law_still_right" "_law_still_right" jQ (by kernel_rfl) (by kernel_rfl)
 have z4:=y4.binds (ps:=["_law_table_here","_law_wide"]) fun _ _ _ _ _ _ us hl=>by obtain⟨a,b,rfl⟩:=gK hl;rfl
 have a5:=mq "_law_still_right" (.ref 368) (by kernel_rfl)
 have b5:=fk (K:=kk w.params) jv 327 326 "_law_bound" "_law_bound" jQ (by kernel_rfl) (by kernel_rfl)
 have c5:=b5.binds (ps:=["_law_table_here","_law_cell_here"]) fun _ _ _ _ _ _ us hl=>by obtain⟨a,b,rfl⟩:=gK hl;rfl
 have d5:=mq "_law_bound" (.ref 327) (by kernel_rfl)
 have e5:=fk (K:=kk w.params) iA 284 283 "_law_digits" "_law_digits" jQ (by kernel_rfl) (by kernel_rfl)
 have f5:=e5.binds (ps:=["_law_number","_law_by","_law_many"]) fun _ _ _ _ _ _ us hl=>by obtain⟨a,b,c,rfl⟩:=Hv hl;rfl
 have g5:=mq "_law_digits" (.ref 284) (by kernel_rfl)
 have i5:=fk (K:=kk w.params) kq 296 295 "_law_some" "_law_some" jQ (by kernel_rfl) (by kernel_rfl)
 have j5:=i5.binds (ps:=["_law_cell_here","_law_many"]) fun _ _ _ _ _ _ us hl=>by obtain⟨a,b,rfl⟩:=gK hl;rfl
 have k5:=mq "_law_some" (.ref 296) (by kernel_rfl)
 have l5:=fk (K:=kk w.params) jw 322 321 "_law_table" "_law_table" jQ (by kernel_rfl) (by kernel_rfl)
 have o5:=l5.binds (ps:=["_law_cell_here","_law_many","_law_wide"]) fun _ _ _ _ _ _ us hl=>by obtain⟨a,b,c,rfl⟩:=Hv hl;rfl
 have q5:=mq "_law_table" (.ref 322) (by kernel_rfl)
 have r5:=fk (K:=kk w.params) tB 373 372 "law" "law" jQ (by kernel_rfl) (by kernel_rfl)
 have s5:=r5.binds (ps:=["_law_script"]) fun _ _ _ _ _ _ us hl=>by obtain⟨a,rfl⟩:=nJ hl;rfl
 have t5:=mq "law" (.ref 373) (by kernel_rfl)
 have u5:=mq "Flat" (.ref 157) (by kernel_rfl)
 have v5:=mq "EchoError" (.ref 92) (by kernel_rfl)
 have y5:=mq "NoFit" (.ref 131) (by kernel_rfl)
 have z5:=mq "NoTable" (.ref 112) (by kernel_rfl)
 have a6:B8 (kk w.params) 157 [92] (some (.ref 147)):=⟨iL.of (by kernel_rfl),(List.forall_mem_cons.mpr ⟨⟨(vE),iL.of (by kernel_rfl)⟩,(fun _ h=>absurd h List.not_mem_nil)⟩)⟩
 have b6:yu (kk w.params) 92 [(157,true)]:=⟨⟨vE,none,iL.of (by kernel_rfl),by decide +kernel⟩,(List.forall_mem_cons.mpr ⟨⟨_,_,a6.cls,by decide +kernel⟩,(fun _ h=>absurd h List.not_mem_nil)⟩)⟩
 have c6:∀a∈([(157,false)]:List (Addr×Bool)),Ax (kk w.params) 131 112 a.1 a.2:=(List.forall_mem_cons.mpr ⟨⟨⟨_,⟨⟨_,a6.cls⟩,by kernel_rfl,by kernel_rfl,by kernel_rfl,by kernel_rfl,by kernel_rfl⟩⟩,by kernel_rfl⟩,(fun _ h=>absurd h List.not_mem_nil)⟩)
 have d6:∀a∈([(157,true)]:List (Addr×Bool)),wk (kk w.params) 157 a.1 a.2:=(List.forall_mem_cons.mpr ⟨⟨⟨_,⟨⟨_,a6.cls⟩,by kernel_rfl,by kernel_rfl,by kernel_rfl,by kernel_rfl,by kernel_rfl⟩⟩,by kernel_rfl⟩,(fun _ h=>absurd h List.not_mem_nil)⟩)
 have e6:∀a∈([(157,false)]:List (Addr×Bool)),wk (kk w.params) 131 a.1 a.2:=(List.forall_mem_cons.mpr ⟨⟨⟨_,⟨⟨_,a6.cls⟩,by kernel_rfl,by kernel_rfl,by kernel_rfl,by kernel_rfl,by kernel_rfl⟩⟩,by kernel_rfl⟩,(fun _ h=>absurd h List.not_mem_nil)⟩)
 have f6:∀a∈([(157,false)]:List (Addr×Bool)),wk (kk w.params) 112 a.1 a.2:=(List.forall_mem_cons.mpr ⟨⟨⟨_,⟨⟨_,a6.cls⟩,by kernel_rfl,by kernel_rfl,by kernel_rfl,by kernel_rfl,by kernel_rfl⟩⟩,by kernel_rfl⟩,(fun _ h=>absurd h List.not_mem_nil)⟩)
 have g6:∀C∈([157]:List Addr),Gr (kk w.params) C "numbers" := (List.forall_mem_cons.mpr ⟨⟨⟨_,⟨⟨_,a6.cls⟩,by kernel_rfl,by kernel_rfl,by kernel_rfl,by kernel_rfl,by kernel_rfl⟩⟩,oK.of [92] (by kernel_rfl) (by kernel_rfl),(by kernel_rfl:PySem.W.findIn (kk w.params) (.ref 157) "numbers" = some none)⟩,(fun _ h=>absurd h List.not_mem_nil)⟩)
 have i6:=mn "len" (by kernel_rfl)
 have j6:=mn "abs" (by kernel_rfl)
 have k6:=mn "list" (by kernel_rfl)
 have l6:=mn "isinstance" (by kernel_rfl)
 have o6:=mn "tuple" (by kernel_rfl)
 have q6:=mn "zip" (by kernel_rfl)
 have r6:=mn "range" (by kernel_rfl)
 have s6:=mn "enumerate" (by kernel_rfl)
 have t6:=mn "int" (by kernel_rfl)
 have u6:=mn "reversed" (by kernel_rfl)
 have v6:=mn "sum" (by kernel_rfl)
 have y6:=mn "min" (by kernel_rfl)
 have z6:=mn "max" (by kernel_rfl)
 have a7:=mq "SHORT" (.int (4000) 196) (by kernel_rfl)
 have b7:=mq "SHORT_QUOTIENT" (.int (8000) 200) (by kernel_rfl)
 refine⟨PySem.W.fnOf "law" "law" (jj tB) (dy tB) (aw tB) .none .none .none jQ none (.ref 372) .none,fun s v=>.of_eq rfl,fun base _ _=>?_⟩
 have c7:Def pg w (kk w.params) mg base 1 "_law_cell" 2 (lh):=(vn (P:=pg) (w:=w) (base:=base) (k:=0) a0 b0 c0 i6).imp Il
 have d7:Def pg w (kk w.params) mg base 1 "_law_mix" 2 (fP):=(xG (P:=pg) (w:=w) (base:=base) (k:=0) d0 e0 f0 ).imp Lc
 have e7:Def pg w (kk w.params) mg base 1 "_law_frac" 2 (eE):=(vo (P:=pg) (w:=w) (base:=base) (k:=0) B g0 i0 j0 j6).imp xY
 have f7:Def pg w (kk w.params) mg base 2 "_law_is_row" 2 (yK):=qI k0 l0 o0 (e7.mono (by decide)) k6 l6 i6 o6
 have g7:Def pg w (kk w.params) mg base 2 "_law_times" 2 (Hw):=(rZ (P:=pg) (w:=w) (base:=base) (k:=1) q0 r0 s0 (e7.mono (by decide)) ).imp vT
 have i7:Def pg w (kk w.params) mg base 2 "_law_add" 2 (Gi):=(xF (P:=pg) (w:=w) (base:=base) (k:=1) t0 u0 v0 (e7.mono (by decide)) ).imp zW
 have j7:Def pg w (kk w.params) mg base 3 "_law_weighed" 2 (Dm):=oS y0 z0 a1 (g7.mono (by decide)) (i7.mono (by decide)) q6
 have k7:Def pg w (kk w.params) mg base 4 "_law_stills" 3 (qd):=qJ b1 c1 d1 (f7.mono (by decide)) (j7.mono (by decide)) i6
 have l7:eT pg w (kk w.params) mg base 1 "turned" 2 (Jf):=(zE (P:=pg) (w:=w) (base:=base) (k:=0) e1 f1 g1 r6).imp C6
 have o7:Def pg w (kk w.params) mg base 0 "half" 2 (fun _=>none):=Def.zero i1 j1 k1
 have q7:Def pg w (kk w.params) mg base 1 "common" 2 (fZ):=(CM (P:=pg) (w:=w) (base:=base) (k:=0) B l1 o1 q1 (o7.mono (by decide)) j6 a7).imp C4
 have r7:Def pg w (kk w.params) mg base 2 "shared_bottom" 1 (Jc):=(nM (P:=pg) (w:=w) (base:=base) (k:=1) r1 s1 t1 (q7.mono (by decide)) ).imp n9
 have s7:Def pg w (kk w.params) mg base 1 "raised" 2 (Ja):=(CN (P:=pg) (w:=w) (base:=base) (k:=0) u1 v1 y1 ).imp C5
 have t7:Def pg w (kk w.params) mg base 3 "tracked" 1 (wF):=zI z1 a2 b2 (r7.mono (by decide)) (s7.mono (by decide)) i6 s6 r6
 have u7:Def pg w (kk w.params) mg base 1 "divided" 2 (yl):=zH c2 d2 e2 b7
 have v7:Def pg w (kk w.params) mg base 2 "cleared" 2 (GP):=zG f2 g2 i2 (u7.mono (by decide)) q6
 have y7:Def pg w (kk w.params) mg base 1 "first_place" 2 (JP):=qK j2 k2 l2 r6
 have z7:Def pg w (kk w.params) mg base 3 "cleared_rows" 2 (wa):=oU o2 q2 r2 (v7.mono (by decide)) (y7.mono (by decide)) 
 have a8:eT pg w (kk w.params) mg base 2 "shortened" 1 (yM):=rY (P:=pg) (w:=w) (base:=base) (k:=1) s2 t2 u2 (q7.mono (by decide)) (u7.mono (by decide)) 
 have b8:eT pg w (kk w.params) mg base 4 "stills" 2 (DT):=zD (P:=pg) (w:=w) (base:=base) (k:=3) v2 y2 z2 (l7.plain.mono (by decide)) (t7.mono (by decide)) (z7.mono (by decide)) (a8.mono (by decide)) i6
 have c8:eT pg w (kk w.params) mg base 5 "still" 2 (j9):=CL (P:=pg) (w:=w) (base:=base) (k:=4) a3 b3 c3 (b8.mono (by decide)) 
 have d8:Def pg w (kk w.params) mg base 4 "_law_product" 2 (Co):=oR d3 e3 f3 (j7.mono (by decide)) r6 i6
 have e8:Def pg w (kk w.params) mg base 1 "_law_unit" 1 (Cp):=vq g3 i3 j3 r6 t6
 have f8:Def pg w (kk w.params) mg base 1 "kept_steps" 1 (Dl):=sk k3 l3 o3 
 have g8:Def pg w (kk w.params) mg base 1 "last_step" 1 (Lz):=vt q3 r3 s3 
 have i8:Def pg w (kk w.params) mg base 2 "frac" 2 (eE):=(HA (P:=pg) (w:=w) (base:=base) (k:=1) t3 u3 v3 (q7.mono (by decide)) b7).imp Im
 have j8:Def pg w (kk w.params) mg base 3 "brought" 3 (JO):=zF y3 z3 a4 (g8.mono (by decide)) (u7.mono (by decide)) (i8.mono (by decide)) r6 u6 q6 v6
 have IX_Flat:oj pg w (kk w.params) mg base 2 157 "numbers" := EZ b4 c4 a6 (by kernel_rfl) (by kernel_rfl) (oK.of [92] (by kernel_rfl) (by kernel_rfl)) (by kernel_rfl:PySem.W.findIn (kk w.params) (.ref 157) "numbers" = some none) k6
 have l8:eT pg w (kk w.params) mg base 6 "inverse" 1 (ie):=xD (P:=pg) (w:=w) (base:=base) (k:=5) d4 e4 f4 (t7.mono (by decide)) (z7.mono (by decide)) (f8.mono (by decide)) (j8.mono (by decide)) (l7.mono (by decide)) i6 r6
 have o8:we pg w (kk w.params) mg base 6 "inverse" 1 (oA):=xE d4 e4 f4 (t7.mono (by decide)) (z7.mono (by decide)) (f8.mono (by decide)) (c8.plain.mono (by decide)) (IX_Flat.mono (by decide)) u5 i6
 have q8:eT pg w (kk w.params) mg base 7 "_law_turned" 1 (GS):=oQ (P:=pg) (w:=w) (base:=base) (k:=6) g4 i4 j4 (l8.mono (by decide)) (o8.mono (by decide)) b6 d6 e6 f6 c6 g6 v5 u5 y5 z5 l6
 have r8:Def pg w (kk w.params) mg base 8 "_law_inverse_right" 1 (Gg):=jR k4 l4 o4 (k7.mono (by decide)) (c8.plain.mono (by decide)) (f7.mono (by decide)) (d8.mono (by decide)) (e8.mono (by decide)) (l8.plain.mono (by decide)) (q8.mono (by decide)) i6 k6 l6
 have s8:Def pg w (kk w.params) mg base 3 "whole_rows" 1 (L5):=so q4 r4 s4 (r7.mono (by decide)) (s7.mono (by decide)) 
 have t8:Def pg w (kk w.params) mg base 4 "first_rows" 1 (LZ):=si t4 u4 v4 (s8.mono (by decide)) (z7.mono (by decide)) i6 s6
 have u8:Def pg w (kk w.params) mg base 6 "_law_still_right" 2 (IP):=kT y4 z4 a5 (t8.mono (by decide)) (k7.mono (by decide)) (c8.mono (by decide)) i6
 have v8:wc pg w (kk w.params) mg base 3 "_law_bound" 2 (DR):=qF (P:=pg) (w:=w) (base:=base) (k:=2) b5 c5 d5 (d7.mono (by decide)) (g7.mono (by decide)) (i7.mono (by decide)) r6 i6 q6
 have y8:Def pg w (kk w.params) mg base 1 "_law_digits" 3 (gG):=qH e5 f5 g5 r6
 have z8:Def pg w (kk w.params) mg base 2 "_law_some" 2 (jI):=vp i5 j5 k5 (y8.mono (by decide)) (e7.mono (by decide)) (d7.mono (by decide)) r6
 have a9:eT pg w (kk w.params) mg base 3 "_law_table" 3 (oM):=qG (P:=pg) (w:=w) (base:=base) (k:=2) l5 o5 q5 (z8.mono (by decide)) r6
 exact J2 (P:=pg) (w:=w) (base:=base) (k:=8) r5 (c7.mono (by decide)) (d7.mono (by decide)) (r8.mono (by decide)) (u8.mono (by decide)) (v8.mono (by decide)) (a9.mono (by decide)) r6 i6 y6 z6 k6
theorem walk {q:Program}{loose:List Str}{XP:(Str->Option Value)->Heap->Prop}{d:DefRec}(hn:d.name = "law")(hdf:d.params.defaults=[]):PySem.W.WalkO q loose XP hk.says lw.row.toRowW d [] (fun f vs=>PySem.call f vs):=
 L2.B4 (n:=63) (k:=9) (x := "_law_script") (CX:=fun _=>tZ) (K:=kk) (sp:=fun w=>spT (kk w.params) 1 L4) rfl (by decide) hdf ⟨rfl,by decide,by decide⟩ (fun _ _ Y=>PySem.W.kIn_of Y) (fun w mg fa h KX G e=>all_mk KX G (by rw [hn] at e;exact e))
  (fun w H a ns hl _ hS=>⟨rfl,H,[.scr (ns.map T.int)],.bl true,aQ.refl H,⟨_,[],rfl,⟨a,ns.map V.int,rfl,hS,tx ns⟩,rfl⟩,EC ns hl,fun _ _ v _ r=>r⟩) fun _ _ _ _ _ z=>z
end My
open PySem PySem.W PyProof.Rows
set_option maxHeartbeats 0 in
theorem PySem.Challenge.cw_echohouse_k13_inverse_or_flat_holds : PySem.Challenge.rw_echohouse_k13_inverse_or_flat.Holds := by
 refine holds_law My.ws fun said=>?_
 refine holds_open (q:=My.qv) (loose:=[]) (Xt:=My.xt) (XP:=XL My.qv []) My.hl (Hook.of My.hk) (Hook.keeps My.hk)
  (fun s e=>xl_of s (Bool.and_eq_true_iff.mp e).1) XL.keeps (by rfl) (by rfl) (by rfl)
  (fun s e=>recFacts_of (Bool.and_eq_true_iff.mp e).2) (by rfl) said (by decide +kernel) ⟨rfl,rfl,rfl,rfl,rfl,by decide +kernel⟩ ?hw ?hc
 case hw=>w_witness2
 case hc=>exact My.walk rfl rfl
