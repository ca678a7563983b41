import PyProof.Rows.All
import Wide.All
import OpenK.AllK
import Wide.FinOn
import Lean
import PyProof.EqAt
import PyProof.EqKinds
import PyProof.TupleCall
import KE.KRevIter
import KE.KMinKey
import PyProof.FactsAll.range_2
import PyProof.Rows.CallKwBuiltin
import PyProof.EnumMake
import PyProof.EnumFor
import PyProof.ListNew
import PyProof.CollectIter
import PySem.Challenge.RW_echohouse_k14_whole_determinants
noncomputable section
local macro_rules | `(tactic| walk_at "sc")=>`(tactic| exact ⟨rfl,rfl,rfl,by decide +kernel,rfl,by decide +kernel,by decide +kernel⟩)
set_option Elab.async false
set_option linter.all false
set_option maxRecDepth 100000
set_option maxHeartbeats 4000000
local macro_rules | `(tactic| walk_at "ev")=>do
  let ns:List Lean.Name:=[`Bool.false_eq_true,`Bool.not_false,`Bool.not_true,`yS,`yT,`Cr,`List.cons_append,`List.getElem?_cons_succ,`List.getElem?_cons_zero,`List.length_cons,`List.length_nil,`List.map_cons,`List.map_nil,`List.nil_append,`List.replicate_succ,`List.replicate_zero,`List.set_cons_succ,`List.set_cons_zero,`Nat.reduceAdd,`Nat.reduceLeDiff,`Nat.reduceSub,`Nat.sub_self,`Nat.zero_add,`Option.bind_none,`Option.bind_some,`and_self,`and_true,`beq_self_eq_true,`boolsOf,`AG,`Jj,`cn,`vL,`uf,`EZ,`decide_false,`decide_true,`ay,`zm,`mE,`iB,`oh,`fC,`ai,`lM,`j4,`aa,`Jk,`HC,`AX,`cG,`En,`bE,`kM,`g8,`bf,`ah,`eP,`gB,`aD,`AY,`Jl,`rN,`d0,`a8,`kN,`aE,`mF,`aN,`dq,`Ai,`dw,`eL,`b0,`mT,`mU,`ae,`aW,`c9,`om,`uo,`A7,`gS,`Ff,`zq,`nj,`A8,`Fg,`xJ,`A9,`Ba,`Bb,`Bc,`Bd,`Dc,`oo,`Be,`ar,`ak,`bo,`bp,`if_false,`if_true,`ot,`uq,`ur,`vY,`uu,`zu,`vZ,`rR,`rS,`rT,`uv,`rV,`v5,`uw,`pM,`rW,`rX,`ux,`rY,`v7,`uy,`pN,`rZ,`r6,`uz,`r9,`v8,`uA,`pO,`si,`sk,`uB,`so,`v9,`uC,`pP,`sr,`su,`uD,`sv,`wa,`uE,`pQ,`sx,`sy,`uF,`sA,`wb,`uG,`pR,`sC,`sD,`uH,`sE,`wc,`uI,`pS,`ite_false,`ite_true,`Kj,`JW,`Jr,`G5,`JX,`JY,`bP,`Kk,`ne_eq,`not_false_eq_true,`not_true_eq_false,`reduceCtorEq,`reduceIte,`Io,`IS,`true_and,`gM]
  let mut ls:Array (Lean.TSyntax `Lean.Parser.Tactic.simpLemma):=#[]
  for n in ns do
   unless (<- Lean.Macro.resolveGlobalName n).isEmpty do
    ls:=ls.push (<- `(Lean.Parser.Tactic.simpLemma| $(Lean.mkIdent n):ident))
  `(tactic| simp only [$[$ls],*, *])
namespace My
open PySem PySem.Spec PyProof.Rows
def tp (i:Nat):Stmt:=PySem.Challenge.pw_echohouse_k14_whole_determinants.main.body.getD i (.Pass ⟨0,0,0,0⟩)
def hA (s:Stmt):Arguments:=match s with
 | .FunctionDef _ a _ _ _ _ _ _ _ _=>a
 | _=>⟨[],[],none,[],[],none,[]⟩
def hB (s:Stmt):List Stmt:=match s with
 | .FunctionDef _ _ b _ _ _ _ _ _ _=>b
 | _=>[]
def hS (s:Stmt):Scope:=match s with
 | .FunctionDef _ _ _ _ _ _ sc _ _ _=>sc
 | _=>{ kind:=.function,names:=[],isGenerator:=false,isCoroutine:=false }
abbrev pg:Program:=PySem.Challenge.pw_echohouse_k14_whole_determinants
abbrev lw:PySem.W.OpenLaw:=PySem.Challenge.rw_echohouse_k14_whole_determinants
def qv:Program:={ pg with main:={ pg.main with body:=([0,2,3,4,5,6,7,8,9,10,11,12,14,15,17,18,19,20,22,23,24,25,26,27,28,30,31,32,33,34,35,36,37,38,39,40,41,42,44,45,46,47,48,49,50,51,52,53,54,55,56,57]:List Nat).map tp } }
def cf:Str := "/claim/cut.py"
def cO (nm:Str) (t l n k:Nat) (a b c d e:Value):Obj:=⟨.type "code", none,.fields #[.str nm t,.str nm (t + 1),.str cf (t + 2),.int l 0,.int n 0,.int 0 0,.int 0 0,.int 3 0,a,.bool true,.int 181 0,b,.none,c,d,e,.int k 0,.int l 0,.str cf (k + 1)],#[]⟩
def cA (c:Nat) (nm:Str) (t l n k:Nat):Obj:=cO nm t l n k (.ref (c - 5)) (.ref (c - 4)) (.ref (c - 3)) (.ref (c - 2)) (.ref (c - 1))
def cB (c:Nat) (nm:Str) (t l n k:Nat):Obj:=cO nm t l n k (.ref (c - 3)) (.ref (c - 2)) .none .none (.ref (c - 1))
def fh (s:Stmt) (nm:Str) (pm:Value) (c:Addr):Obj:=⟨.type "function", none,.func (PySem.W.fnOf nm nm (hA s) (hB s) (hS s) .none .none .none pm none (.ref c) .none),#[]⟩
def de (P:Params) (x:Str) (t:Tok) (v:Value):DictEntry:=⟨PyData.keyHash P x,.str x t,v⟩
def lU:Value:=.str "law_echohouse_k14_whole_determinants" 546
def G7:Value:=.str "echohouse.divisors" 194
def yc:Value:=.str "echohouse.tables" 392
def mH:Value:=.str "echohouse.solving" 445
def G8:Value:=.str "echohouse.fracs" 357
def kk (P:Params):PySem.W.Frag:=[
(3,⟨.type "dict", none,.dict #[de P "__name__" 165 (.str "law_echohouse_k14_whole_determinants" 546),de P "__doc__" 166 (.none),de P "__package__" 167 (.none),de P "__loader__" 168 (.builtin "__main__.__loader__#opaque"),de P "__spec__" 169 (.none),de P "__annotations__" 170 (.ref 6),de P "__builtins__" 171 (.ref 4),de P "__file__" 173 (.str "/claim/cut.py" 172),de P "__cached__" 174 (.none),de P "_wall" 193 (.ref 21),de P "SHORT" 197 (.int (4000) 196),de P "SHORT_HALF" 199 (.int (256) 198),de P "SHORT_QUOTIENT" 201 (.int (8000) 200),de P "common" 210 (.ref 28),de P "half" 222 (.ref 35),de P "stepped" 232 (.ref 42),de P "step" 247 (.ref 49),de P "upper_half" 264 (.ref 56),de P "factors_joined" 280 (.ref 63),de P "divided" 286 (.ref 68),de P "low_inverse" 297 (.ref 75),de P "EchoError" 324 (.ref 92),de P "Flat" 356 (.ref 119),de P "NOUGHT" 361 (.ref 122),de P "frac" 370 (.ref 129),de P "plus" 381 (.ref 136),de P "times" 391 (.ref 143),de P "weighed" 404 (.ref 150),de P "product" 410 (.ref 155),de P "lifted" 416 (.ref 160),de P "weighed_lifted" 422 (.ref 165),de P "shared_bottom" 432 (.ref 172),de P "raised" 438 (.ref 177),de P "turned" 444 (.ref 182),de P "inverse" 452 (.ref 187),de P "determinant" 458 (.ref 192),de P "still" 467 (.ref 199),de P "stills" 473 (.ref 204),de P "tracked" 479 (.ref 209),de P "cleared_rows" 492 (.ref 216),de P "cleared" 498 (.ref 221),de P "first_place" 507 (.ref 228),de P "kept_steps" 513 (.ref 233),de P "last_step" 522 (.ref 240),de P "brought" 528 (.ref 245),de P "sign_of" 539 (.ref 252),de P "shortened" 545 (.ref 257),de P "_law_cell" 556 (.ref 264),de P "_law_mix" 565 (.ref 271),de P "_law_same" 575 (.ref 278),de P "_law_digits" 586 (.ref 285),de P "_law_frac" 596 (.ref 292),de P "_law_some" 602 (.ref 297),de P "_law_add" 610 (.ref 304),de P "_law_times" 618 (.ref 311),de P "_law_weighed" 629 (.ref 318),de P "_law_table" 635 (.ref 323),de P "_law_bound" 641 (.ref 328),de P "_law_orders" 654 (.ref 335),de P "_law_determinant" 666 (.ref 342),de P "law" 672 (.ref 347)] 61,#[]⟩),
(27,cA 27 "common" 202 8 2 208),
(28,fh (tp 5) "common" G7 27),
(34,cA 34 "half" 211 17 2 220),
(35,fh (tp 6) "half" G7 34),
(67,cB 67 "divided" 281 51 2 284),
(68,fh (tp 11) "divided" G7 67),
(122,⟨.type "tuple", none,.seq #[.int (0) 359,.int (1) 360] 0,#[]⟩),
(128,cA 128 "frac" 362 83 2 368),
(129,fh (tp 18) "frac" G8 128),
(135,cA 135 "plus" 371 92 2 379),
(136,fh (tp 19) "plus" G8 135),
(142,cA 142 "times" 382 97 2 389),
(143,fh (tp 20) "times" G8 142),
(149,cA 149 "weighed" 394 102 2 402),
(150,fh (tp 22) "weighed" yc 149),
(154,cB 154 "product" 405 107 3 408),
(155,fh (tp 23) "product" yc 154),
(159,cB 159 "lifted" 411 111 1 414),
(160,fh (tp 24) "lifted" yc 159),
(164,cB 164 "weighed_lifted" 417 114 2 420),
(165,fh (tp 25) "weighed_lifted" yc 164),
(171,cA 171 "shared_bottom" 423 120 1 430),
(172,fh (tp 26) "shared_bottom" yc 171),
(176,cB 176 "raised" 433 125 2 436),
(177,fh (tp 27) "raised" yc 176),
(181,cB 181 "turned" 439 127 2 442),
(182,fh (tp 28) "turned" yc 181),
(186,cB 186 "inverse" 447 130 1 450),
(187,fh (tp 30) "inverse" mH 186),
(191,cB 191 "determinant" 453 136 1 456),
(192,fh (tp 31) "determinant" mH 191),
(198,cA 198 "still" 459 146 2 465),
(199,fh (tp 32) "still" mH 198),
(203,cB 203 "stills" 468 149 2 471),
(204,fh (tp 33) "stills" mH 203),
(208,cB 208 "tracked" 474 153 1 477),
(209,fh (tp 34) "tracked" mH 208),
(215,cA 215 "cleared_rows" 480 160 2 490),
(216,fh (tp 35) "cleared_rows" mH 215),
(220,cB 220 "cleared" 493 169 2 496),
(221,fh (tp 36) "cleared" mH 220),
(227,cA 227 "first_place" 499 176 2 505),
(228,fh (tp 37) "first_place" mH 227),
(232,cB 232 "kept_steps" 508 181 1 511),
(233,fh (tp 38) "kept_steps" mH 232),
(239,cA 239 "last_step" 514 183 1 520),
(240,fh (tp 39) "last_step" mH 239),
(244,cB 244 "brought" 523 188 3 526),
(245,fh (tp 40) "brought" mH 244),
(251,cA 251 "sign_of" 529 195 1 537),
(252,fh (tp 41) "sign_of" mH 251),
(256,cB 256 "shortened" 540 202 1 543),
(257,fh (tp 42) "shortened" mH 256),
(263,cA 263 "_law_cell" 548 208 2 554),
(264,fh (tp 44) "_law_cell" lU 263),
(270,cA 270 "_law_mix" 557 215 2 563),
(271,fh (tp 45) "_law_mix" lU 270),
(277,cA 277 "_law_same" 566 219 2 573),
(278,fh (tp 46) "_law_same" lU 277),
(284,cA 284 "_law_digits" 576 234 3 584),
(285,fh (tp 47) "_law_digits" lU 284),
(291,cA 291 "_law_frac" 587 240 2 594),
(292,fh (tp 48) "_law_frac" lU 291),
(296,cB 296 "_law_some" 597 248 2 600),
(297,fh (tp 49) "_law_some" lU 296),
(303,cA 303 "_law_add" 603 257 2 608),
(304,fh (tp 50) "_law_add" lU 303),
(310,cA 310 "_law_times" 611 259 2 616),
(311,fh (tp 51) "_law_times" lU 310),
(322,cB 322 "_law_table" 630 266 3 633),
(323,fh (tp 53) "_law_table" lU 322),
(327,cB 327 "_law_bound" 636 269 2 639),
(328,fh (tp 54) "_law_bound" lU 327),
(334,cA 334 "_law_orders" 642 278 1 652),
(335,fh (tp 55) "_law_orders" lU 334),
(341,cA 341 "_law_determinant" 655 287 1 664),
(342,fh (tp 56) "_law_determinant" lU 341),
(346,cB 346 "law" 667 295 1 670),
(347,fh (tp 57) "law" lU 346)]
def ka:List Addr:=[3,27,28,34,35,67,68,122,128,129,135,136,142,143,149,150,154,155,159,160,164,165,171,172,176,177,181,182,186,187,191,192,198,199,203,204,208,209,215,216,220,221,227,228,232,233,239,240,244,245,251,252,256,257,263,264,270,271,277,278,284,285,291,292,296,297,303,304,310,311,322,323,327,328,334,335,341,342,346,347]
theorem Kh (P:Params):ka=(kk P).map (·.1):=by kernel_rfl
abbrev hk:PySem.W.Hook:=PySem.W.kHook kk ka Kh
abbrev xt (s:Shared):Bool:=PySem.W.xlAt qv [] s && PySem.W.recOk (PySem.W.RowW.records lw.row.toRowW) s
set_option maxHeartbeats 0 in
theorem hl:PySem.W.LeftO lw.row.prog qv [] xt hk.obs hk.val 4064:=fun w=>by kernel_rfl
theorem ws:lw.wellSaid=true:=by kernel_rfl
end My
namespace L2
open PySem PySem.Spec PyProof.Rows
abbrev Key:=Sum Int Str
def Es:Key -> Value -> Bool
 | .inl k,v=>Value.isInt k v
 | .inr x,v=>Value.isStrOf x v
def Jq (w:World):Key -> Int
 | .inl k=>hashInt k
 | .inr x=>hashStr w x
theorem cY:∀ {k:Key} {v:Value},Es k v=true -> (∃ i t,k=Sum.inl i /\ v=Value.int i t) \/ (∃ x t,k=Sum.inr x /\ v=Value.str x t)
 | .inl i,v,h=>by
  obtain ⟨t,e⟩:=Value.isInt_shape (k:=i) (v:=v) h
  exact .inl ⟨i,t,rfl,e⟩
 | .inr x,v,h=>by
  obtain ⟨t,e⟩:=Value.isStrOf_shape (x:=x) (v:=v) h
  exact .inr ⟨x,t,rfl,e⟩
theorem Fu (a b:Int):decide ((Sum.inl a:Key)=Sum.inl b)=(a == b):=by
 by_cases e:a=b
 ·subst e; simp
 ·have h:¬ (Sum.inl a:Key)=Sum.inl b:=fun q=>e (Sum.inl.inj q)
  rw [decide_eq_false h]
  exact (beq_eq_false_iff_ne.mpr e).symm
theorem Fy (a b:Str):decide ((Sum.inr a:Key)=Sum.inr b)=decide (a=b):=by
 by_cases e:a=b
 ·subst e; simp
 ·have h:¬ (Sum.inr a:Key)=Sum.inr b:=fun q=>e (Sum.inr.inj q)
  rw [decide_eq_false h,decide_eq_false e]
theorem Fv (a:Int) (b:Str):decide ((Sum.inl a:Key)=Sum.inr b)=false:=decide_eq_false (fun q=>nomatch q)
theorem Fx (a:Str) (b:Int):decide ((Sum.inr a:Key)=Sum.inl b)=false:=decide_eq_false (fun q=>nomatch q)
def sO (prog:Program) (w:World):PySem.KeyKind prog w Key where
 is:=Es
 hash:=Jq w
 inj:=fun v a b ha hb=>by
  rcases cY ha with ⟨i,t,rfl,rfl⟩ | ⟨x,t,rfl,rfl⟩
  ·rcases cY hb with ⟨j,u,rfl,e⟩ | ⟨y,u,rfl,e⟩
   ·injection e with e1 _; rw [e1]
   ·exact nomatch e
  ·rcases cY hb with ⟨j,u,rfl,e⟩ | ⟨y,u,rfl,e⟩
   ·exact nomatch e
   ·injection e with e1 _; rw [e1]
 byValue:=fun k v h=>by
  rcases cY h with ⟨i,t,rfl,rfl⟩ | ⟨x,t,rfl,rfl⟩ <;> rfl
 pyHash:=fun hv h=>by
  rcases cY hv with ⟨i,t,rfl,rfl⟩ | ⟨x,t,rfl,rfl⟩
  ·exact wpAny_pyHash_int h
  ·exact wpAny_pyHash_str h
 eqBool:=fun hu hv h=>by
  rcases cY hu with ⟨i,t,rfl,rfl⟩ | ⟨x,t,rfl,rfl⟩
  ·rcases cY hv with ⟨j,u,rfl,rfl⟩ | ⟨y,u,rfl,rfl⟩
   ·rw [Fu] at h; exact wpAny_eqBool_int h
   ·rw [Fv] at h; exact SeqAt.EqAt.int_str i t y u _ _ _ _ h
  ·rcases cY hv with ⟨j,u,rfl,rfl⟩ | ⟨y,u,rfl,rfl⟩
   ·rw [Fx] at h; exact SeqAt.EqAt.str_int x t j u _ _ _ _ h
   ·rw [Fy] at h; exact wpAny_eqBool_str h
 «strs»:=fun k x t v h=>by
  rcases cY h with ⟨i,u,rfl,e⟩ | ⟨y,u,rfl,e⟩
  ·exact nomatch e
  ·injection e with e1 _
   subst e1
   cases v <;> rfl
open PySem PySem.Spec PyProof.Rows
inductive V where
 | non | bl (b:Bool) | int (i:Int) | str (x:Str) | byt (b:Array UInt8) | flt (b:UInt64) | ref (a:Addr) | ty (n:String)
 deriving DecidableEq
def RelV:V -> Value -> Prop
 | .non,u=>u=Value.none
 | .bl b,u=>u=Value.bool b
 | .int i,u=>∃ t,u=Value.int i t
 | .str x,u=>∃ t,u=Value.str x t
 | .byt b,u=>∃ t,u=Value.bytes b t
 | .flt b,u=>∃ t,u=Value.float b t
 | .ref a,u=>u=Value.ref a
 | .ty n,u=>u=Value.type n
abbrev Vals:List V -> List Value -> Prop:=Paired RelV
theorem Vals.length {xs:List V} {us:List Value} (r:Vals xs us):xs.length=us.length:=Paired.length r
theorem Vals.get:∀ {xs:List V} {us:List Value} {i:Nat} {x:V},Vals xs us -> xs[i]? = some x -> ∃ u,us[i]? = some u /\ RelV x u
 | _,_,_,_,.nil,e=>by simp at e
 | _,_,0,_,.cons r _,e=>by simp at e; subst e; exact ⟨_,rfl,r⟩
 | _,_,i + 1,x,.cons _ t,e=>by
  obtain ⟨u,h1,h2⟩:=Vals.get (i:=i) (x:=x) t (by simpa using e)
  exact ⟨u,by simpa using h1,h2⟩
theorem Vals.set {x:V} {u:Value} (r:RelV x u):∀ {xs:List V} {us:List Value} (i:Nat),Vals xs us -> Vals (xs.set i x) (us.set i u)
 | _,_,_,.nil=>.nil
 | _,_,0,.cons _ t=>.cons r t
 | _,_,i + 1,.cons q t=>.cons q (Vals.set r i t)
theorem Vals.append:∀ {xs ys:List V} {us ws:List Value},Vals xs us -> Vals ys ws -> Vals (xs ++ ys) (us ++ ws)
 | _,_,_,_,.nil,s=>s
 | _,_,_,_,.cons r t,s=>.cons r (Vals.append t s)
theorem Vals.take:∀ {xs:List V} {us:List Value} (n:Nat),Vals xs us -> Vals (xs.take n) (us.take n)
 | _,_,0,_=>.nil
 | _,_,_ + 1,.nil=>.nil
 | _,_,n + 1,.cons r t=>.cons r (Vals.take n t)
theorem Vals.drop:∀ {xs:List V} {us:List Value} (n:Nat),Vals xs us -> Vals (xs.drop n) (us.drop n)
 | _,_,0,r=>r
 | _,_,_ + 1,.nil=>.nil
 | _,_,n + 1,.cons _ t=>Vals.drop n t
def Hr:Option V -> Option Value -> Prop
 | some v,some u=>RelV v u
 | none,none=>True
 | _,_=>False
def KV {κ:Type}:List (κ × V) -> List (κ × Value) -> Prop:=Paired fun (p:κ × V) (q:κ × Value)=>p.1=q.1 /\ RelV p.2 q.2
def kV:Key -> V
 | .inl i=>.int i
 | .inr x=>.str x
inductive HO where
  | lst (xs:List V)
  | tup (xs:List V)
  | dK (kvs:List (Key × V)) | dT (kvs:List (List Key × V))
  | set (S:Int -> Bool) (n:Nat)
  | ins (C dx:Addr) (fs:List (Str × V))
  | own (x:Addr)
  | xd (fs:List (Str × V))
  | met (f x:Addr)
  | rng (lo hi:Int)
  | frz (o:Obj) (u:HO)
  | tbl (ps:Array Value)
  | ext (φ:Heap -> Prop)
abbrev Hp:=Addr -> Option HO
def upd (H:Hp) (a:Addr) (o:HO):Hp:=fun b=>if b=a then some o else H b
theorem aX {H:Hp} {a:Addr} {o:HO}:upd H a o a=some o:=by unfold upd; rw [if_pos rfl]
theorem aO {H:Hp} {a b:Addr} {o:HO} (h:b ≠ a):upd H a o b=H b:=by unfold upd; rw [if_neg h]
theorem bO {H:Hp} {a b:Addr} {o:HO} (h:H a=some o) (h':H b=none):a ≠ b:=by
 intro e; subst e; rw [h] at h'; cases h'
section
variable (P:Program) (w:World)
def gN (H:Hp) (h:Heap) (a:Addr):HO -> Prop
 | .lst xs=>xs.length ≤ sizeLine /\ ∃ (its:List Value) (n:Nat),Vals xs its /\ h.get? a=some { cls:=.type "list", data:=.seq its.toArray n }
 | .tup xs=>xs.length ≤ sizeLine /\ ∃ its:List Value,Vals xs its /\ IsTup h a its.toArray
 | .dK kvs=>kvs.length ≤ sizeLine /\ (a == sysModules)=false /\ ∃ vs,KV kvs vs /\ h.DictOf (sO P w) a vs
 | .dT kvs=>kvs.length ≤ sizeLine /\ (a == sysModules)=false /\ ∃ xs:List (List Key × Addr × Value),
   Paired (fun (p:List Key × V) (q:List Key × Addr × Value)=>p.1=q.1 /\ H q.2.1=some (.tup (p.1.map kV)) /\ RelV p.2 q.2.2) kvs xs /\
   ∃ o es ep,h.get? a=some o /\ o.ExactDict /\ o.data=.dict es ep /\ es.toList=xs.map (entryOfKey (tupleKind (sO P w))) /\ (xs.map (·.1)).Nodup
 | .set S n=>h.SetOf (intKind P w) a S n
 | .ins C dx fs=>H dx=some (.own a) /\ fs.length ≤ 1000 /\ dx ≠ a /\ h.get? a=some (PySem.W.instObj C dx) /\
   ∃ mA,h.Ns1 dx mA /\ (∀ f,Hr (fs.lookup f) (mA f)) /\ PySem.Within mA (fs.map (·.1))
 | .own _=>∃ o,h.get? a=some o
 | .xd fs=>∃ mA,h.Ns1 a mA /\ ∀ f,Hr (fs.lookup f) (mA f)
 | .rng lo hi=>∃ t u v,h.get? a=some { cls:=.type "range", data:=.fields #[.int lo t,.int hi u,.int 1 v] }
 | .frz o u=>h.get? a=some o /\ gN H h a u
 | .tbl ps=>h.get? a=some { cls:=.none,data:=.fields ps }
 | .met f x=>h.get? a=some (PySem.W.methodObj (.ref f) (.ref x))
 | .ext φ=>φ h /\ (∃ o,h.get? a=some o) /\ ∀ h1 h2:Heap,φ h1 -> (∀ o,h1.get? a=some o -> h2.get? a=some o) -> φ h2
def mQ (H:Hp) (h:Heap):Prop:=∀ a o,H a=some o -> gN P w H h a o
end
section
variable {P:Program} {w:World} {H H':Hp} {h h':Heap} {a:Addr} {o:HO}
theorem gN.lt (x:gN P w H h a o):a < h.objs.size:=by
 cases o with
 | lst xs=>obtain ⟨_,_,_,_,e⟩:=x; exact Heap.lt_size e
 | tup xs=>obtain ⟨_,_,_,p⟩:=x; exact p.lt
 | dK kvs=>obtain ⟨_,_,_,_,o,_,_,e,_⟩:=x; exact Heap.lt_size e
 | dT kvs=>obtain ⟨_,_,_,_,o,_,_,e,_⟩:=x; exact Heap.lt_size e
 | set S n=>obtain ⟨o,_,_,_,e,_⟩:=x; exact Heap.lt_size e
 | ins C dx fs=>obtain ⟨_,_,_,e,_⟩:=x; exact Heap.lt_size e
 | own y=>obtain ⟨_,e⟩:=x; exact Heap.lt_size e
 | xd fs=>obtain ⟨_,⟨_,_,_,e,_⟩,_⟩:=x; exact Heap.lt_size e
 | rng lo hi=>obtain ⟨_,_,_,e⟩:=x; exact Heap.lt_size e
 | frz ob u=>obtain ⟨e,_⟩:=x; exact Heap.lt_size e
 | tbl ps=>exact Heap.lt_size (show h.get? a=some _ from x)
 | met f y=>exact Heap.lt_size (show h.get? a=some _ from x)
 | ext φ=>obtain ⟨_,⟨_,e⟩,_⟩:=x; exact Heap.lt_size e
theorem Paired.mapP {α β:Type} {F G:α -> β -> Prop}:∀ {l₁:List α} {l₂:List β},Paired F l₁ l₂ -> (∀ a b,F a b -> G a b) -> Paired G l₁ l₂
 | _,_,.nil,_=>.nil
 | _,_,.cons r t,f=>.cons (f _ _ r) (Paired.mapP t f)
theorem gN.stay (x:gN P w H h a o) (k:∀ b u,(b=a \/ H b=some (.own a)) -> h.get? b=some u -> h'.get? b=some u)
  (ho:∀ b,H b=some (.own a) -> H' b=some (.own a)) (ht:∀ b xs,H b=some (.tup xs) -> H' b=some (.tup xs)):gN P w H' h' a o:=by
 induction o with
 | lst xs=>obtain ⟨z,its,n,r,e⟩:=x; exact ⟨z,its,n,r,k _ _ (.inl rfl) e⟩
 | tup xs=>obtain ⟨z,its,r,ob,e,c⟩:=x; exact ⟨z,its,r,ob,k _ _ (.inl rfl) e,c⟩
 | dK kvs=>obtain ⟨z,y,vs,r,ob,es,ep,e,c⟩:=x; exact ⟨z,y,vs,r,ob,es,ep,k _ _ (.inl rfl) e,c⟩
 | dT kvs =>
  obtain ⟨z,y,xs,r,ob,es,ep,e,c⟩:=x
  exact ⟨z,y,xs,Paired.mapP r fun p q z=>⟨z.1,ht _ _ z.2.1,z.2.2⟩,ob,es,ep,k _ _ (.inl rfl) e,c⟩
 | set S n=>obtain ⟨ob,es,ep,t,e,c⟩:=x; exact ⟨ob,es,ep,t,k _ _ (.inl rfl) e,c⟩
 | ins C dx fs =>
  obtain ⟨d,z,ne,e,mA,⟨od,es,ep,e2,c⟩,r⟩:=x
  exact ⟨ho _ d,z,ne,k _ _ (.inl rfl) e,mA,⟨od,es,ep,k _ _ (.inr d) e2,c⟩,r⟩
 | own y=>obtain ⟨ob,e⟩:=x; exact ⟨ob,k _ _ (.inl rfl) e⟩
 | xd fs=>obtain ⟨mA,⟨od,es,ep,e,c⟩,r⟩:=x; exact ⟨mA,⟨od,es,ep,k _ _ (.inl rfl) e,c⟩,r⟩
 | rng lo hi=>obtain ⟨t,u,v,e⟩:=x; exact ⟨t,u,v,k _ _ (.inl rfl) e⟩
 | frz ob u ih=>obtain ⟨e,q⟩:=x; exact ⟨k _ _ (.inl rfl) e,ih q⟩
 | tbl ps =>
  have e:h.get? a=some { cls:=.none,data:=.fields ps }:=x
  show h'.get? a=some { cls:=.none,data:=.fields ps }
  exact k a _ (.inl rfl) e
 | met f y =>
  have e:h.get? a=some (PySem.W.methodObj (.ref f) (.ref y)):=x
  show h'.get? a=some (PySem.W.methodObj (.ref f) (.ref y))
  exact k a _ (.inl rfl) e
 | ext φ=>obtain ⟨p,⟨o,e⟩,st⟩:=x; exact ⟨st _ _ p fun o q=>k _ _ (.inl rfl) q,⟨o,k _ _ (.inl rfl) e⟩,st⟩
theorem mQ.lt (x:mQ P w H h) (e:H a=some o):a < h.objs.size:=(x a o e).lt
theorem mQ.fresh (x:mQ P w H h) (e:h.objs.size ≤ a):H a=none:=by
 cases q:H a with
 | none=>rfl
 | some u=>exact absurd (Nat.lt_of_lt_of_le (x.lt q) e) (Nat.lt_irrefl _)
theorem mQ.kept (x:mQ P w H h) (k:∀ b u,h.get? b=some u -> h'.get? b=some u):mQ P w H h':=fun a o e =>
 (x a o e).stay (fun b u _ q=>k b u q) (fun _ q=>q) fun _ _ q=>q
theorem mQ.laid (x:mQ P w H h) (k:∀ b u,h.get? b=some u -> h'.get? b=some u) (hp:h.objs.size ≤ a) (new:gN P w (upd H a o) h' a o):mQ P w (upd H a o) h':=fun b u e=>by
 have hn:=x.fresh hp
 by_cases hb:b=a
 ·subst hb; rw [aX] at e; cases e; exact new
 ·rw [aO hb] at e
  exact (x b u e).stay (fun c v _ q=>k c v q) (fun c q=>by rw [aO (bO q hn)]; exact q) fun c xs q=>by rw [aO (bO q hn)]; exact q
end
def Rd (H:Hp) (a:Addr) (u:HO):Prop:=H a=some u \/ ∃ o,H a=some (.frz o u)
theorem Rd.of {H:Hp} {a:Addr} {u:HO} (h:H a=some u):Rd H a u:=.inl h
theorem Rd.ok {P:Program} {w:World} {H:Hp} {h:Heap} {a:Addr} {u:HO} (r:Rd H a u) (x:mQ P w H h):gN P w H h a u:=by
 rcases r with r | ⟨o,r⟩
 ·exact x a u r
 ·obtain ⟨_,q⟩:=x a _ r
  exact q
def IH:Option HO -> Prop
 | some (.lst _)=>True
 | some (.dK _)=>True
 | some (.dT _)=>True
 | some (.set _ _)=>True
 | some (.ins _ _ _)=>True
 | some (.ext _)=>True
 | _=>False
section
variable {P:Program} {w:World} {H:Hp} {h h':Heap} {x e:Addr} {o':HO}
theorem mQ.write (ok:mQ P w H h) (mu:IH (H x)) (he:e=x \/ H e=some (.own x)) (k:∀ b u,b ≠ e -> h.get? b=some u -> h'.get? b=some u) (heo:∃ u,h'.get? e=some u)
  (new:gN P w (upd H x o') h' x o'):mQ P w (upd H x o') h':=fun b u q=>by
 have nown:∀ c y,H c=some (.own y) -> c ≠ x:=fun c y r z=>by subst z; rw [r] at mu; exact mu
 have ntup:∀ c xs,H c=some (.tup xs) -> c ≠ x:=fun c xs r z=>by subst z; rw [r] at mu; exact mu
 by_cases hb:b=x
 ·subst hb; rw [aX] at q; cases q; exact new
 ·rw [aO hb] at q
  by_cases hbe:b=e
  ·have q':H b=some (.own x):=by
    rcases he with z | z
    ·exact absurd (hbe.trans z) hb
    ·rw [hbe]; exact z
   rw [q] at q'; cases q'
   obtain ⟨v,hv⟩:=heo
   exact ⟨v,by rw [hbe]; exact hv⟩
  ·refine (ok b u q).stay (fun c v hc r=>k c v ?_ r) (fun c r=>by rw [aO (nown c b r)]; exact r) fun c xs r=>by rw [aO (ntup c xs r)]; exact r
   rcases hc with rfl | hc
   ·exact hbe
   ·rintro rfl
    rcases he with z | z
    ·exact nown c b hc z
    ·rw [hc] at z; cases z; exact hb rfl
end
structure Un (fs ex:List Addr) (H H':Hp) (h h':Heap):Prop where
 keep:∀ b o,h.get? b=some o -> H b=none -> b ∉ fs -> b ∉ ex -> h'.get? b=some o
 slot:∀ b o,h.get? b=some o -> H b=none -> b ∈ fs -> b ∉ ex -> ∃ sl,h'.get? b=some { o with slots:=sl }
 free:∀ b o,h.get? b=some o -> H b=none -> b ∉ ex -> H' b=none
 there:∀ b o,h.get? b=some o -> b ∉ ex -> ∃ o',h'.get? b=some o'
 tups:∀ b xs,H b=some (.tup xs) -> H' b=some (.tup xs)
 frzs:∀ b o u,H b=some (.frz o u) -> H' b=some (.frz o u)
 tbls:∀ b ps,H b=some (.tbl ps) -> ∃ more,H' b=some (.tbl (ps ++ more))
section
variable {fs fs' ex ex':List Addr} {H H1 H2:Hp} {h h1 h2 h':Heap} {a x e:Addr} {o:HO}
theorem Un.any (u:Un fs ex H H1 h h1) {b:Addr} {ob:Obj} (q:h.get? b=some ob) (n:H b=none) (hx:b ∉ ex):∃ sl,h1.get? b=some { ob with slots:=sl }:=by
 by_cases hb:b ∈ fs
 ·exact u.slot b ob q n hb hx
 ·exact ⟨ob.slots,u.keep b ob q n hb hx⟩
theorem Un.trans (a:Un fs ex H H1 h h1) (b:Un fs ex H1 H2 h1 h2):Un fs ex H H2 h h2 where
 keep:=fun c ob q n hc hx=>b.keep c ob (a.keep c ob q n hc hx) (a.free c ob q n hx) hc hx
 slot:=fun c ob q n hc hx=>by
  obtain ⟨sl,e1⟩:=a.slot c ob q n hc hx
  obtain ⟨sl',e2⟩:=b.slot c _ e1 (a.free c ob q n hx) hc hx
  exact ⟨sl',e2⟩
 free:=fun c ob q n hx=>by
  obtain ⟨o',e1⟩:=a.there c ob q hx
  exact b.free c o' e1 (a.free c ob q n hx) hx
 there:=fun c ob q hx=>by
  obtain ⟨o',e1⟩:=a.there c ob q hx
  exact b.there c o' e1 hx
 tups:=fun c xs q=>b.tups c xs (a.tups c xs q)
 frzs:=fun c ob xs q=>b.frzs c ob xs (a.frzs c ob xs q)
 tbls:=fun c ps q=>by
  obtain ⟨m1,e1⟩:=a.tbls c ps q
  obtain ⟨m2,e2⟩:=b.tbls c _ e1
  exact ⟨m1 ++ m2,by rw [e2,Array.append_assoc]⟩
theorem Un.kept (k:∀ b u,h.get? b=some u -> h'.get? b=some u):Un fs ex H H h h':=
 ⟨fun b ob q _ _ _=>k b ob q,fun b ob q _ _ _=>⟨ob.slots,k b ob q⟩,fun _ _ _ n _=>n,fun b ob q _=>⟨ob,k b ob q⟩,fun _ _ q=>q,fun _ _ _ q=>q,fun _ ps q=>⟨#[],by rw [q]; simp⟩⟩
theorem Un.refl:Un fs ex H H h h:=Un.kept fun _ _ q=>q
theorem Un.laid (k:∀ b u,h.get? b=some u -> h'.get? b=some u) (hp:h.objs.size ≤ a) (hn:H a=none):Un fs ex H (upd H a o) h h' where
 keep:=fun b u q _ _ _=>k b u q
 slot:=fun b u q _ _ _=>⟨u.slots,k b u q⟩
 free:=fun b u q n _=>by rw [aO (Nat.ne_of_lt (Nat.lt_of_lt_of_le (Heap.lt_size q) hp))]; exact n
 there:=fun b u q _=>⟨u,k b u q⟩
 tups:=fun b xs q=>by rw [aO (bO q hn)]; exact q
 frzs:=fun b u xs q=>by rw [aO (bO q hn)]; exact q
 tbls:=fun b ps q=>⟨#[],by rw [aO (bO q hn),q]; simp⟩
theorem Un.write (mu:IH (H x)) (he:e=x \/ H e=some (.own x)) (k:∀ b u,b ≠ e -> h.get? b=some u -> h'.get? b=some u) (heo:∃ u,h'.get? e=some u):Un fs ex H (upd H x o) h h':=by
 have hx:∀ b,H b=none -> b ≠ x:=fun b n z=>by subst z; rw [n] at mu; exact mu
 have hb:∀ b,H b=none -> b ≠ e:=fun b n z=>by
  subst z
  rcases he with r | r
  ·exact hx b n r
  ·rw [n] at r; cases r
 have hm:∀ b u,H b=some u -> ¬ IH (some u) -> b ≠ x:=fun b u q nm z=>by subst z; rw [q] at mu; exact nm mu
 refine ⟨fun b u q n _ _=>k b u (hb b n) q,fun b u q n _ _=>⟨u.slots,k b u (hb b n) q⟩,fun b u q n _=>by rw [aO (hx b n)]; exact n,fun b u q _=>?_,
  fun b xs q=>by rw [aO (hm b _ q fun z=>z)]; exact q,fun b u xs q=>by rw [aO (hm b _ q fun z=>z)]; exact q,fun b ps q=>⟨#[],by rw [aO (hm b _ q fun z=>z),q]; simp⟩⟩
 by_cases hbe:b=e
 ·subst hbe; exact heo
 ·exact ⟨u,k b u hbe q⟩
theorem Un.mono (u:Un fs ex H H1 h h1) (hs:∀ b ∈ fs,b ∈ fs') (hx:∀ b ∈ ex,b ∈ ex'):Un fs' ex' H H1 h h1:=
 ⟨fun b ob q n hb he=>u.keep b ob q n (fun z=>hb (hs b z)) fun z=>he (hx b z),fun _ _ q n _ he=>u.any q n fun z=>he (hx _ z),fun b ob q n he=>u.free b ob q n fun z=>he (hx b z),fun b ob q he=>u.there b ob q fun z=>he (hx b z),u.tups,u.frzs,u.tbls⟩
end
def ia (h:Heap) (H:Hp):List Addr:=(List.range h.objs.size).filter fun a=>(H a).isSome
def rP (h:Heap) (H:Hp):Heap:=PySem.W.hideAll h (ia h H)
theorem zr (h:Heap) (H:Hp):(rP h H).objs.size=h.objs.size:=PySem.W.hideAll_size _ _
theorem Bh {h:Heap} {H:Hp} {b:Addr} {o:Obj} (e:h.get? b=some o) (n:H b=none):(rP h H).get? b=some o:=
 PySem.W.hideAll_get _ e fun hm=>by
  have q:(H b).isSome=true:=(List.mem_filter.mp hm).2
  rw [n] at q; simp at q
theorem Dw {h:Heap} {H:Hp} {b:Addr} {o:Obj} (e:(rP h H).get? b=some o):h.get? b=some o /\ H b=none:=by
 have e':h.get? b=some o:=PySem.W.of_hideAll (ia h H) e
 refine ⟨e',?_⟩
 cases q:H b with
 | none=>rfl
 | some x =>
  have hm:b ∈ ia h H:=List.mem_filter.mpr ⟨List.mem_range.mpr (Heap.lt_size e'),by simp [q]⟩
  have z:(rP h H).get? b=none:=PySem.W.hideAll_none (ia h H) hm
  rw [z] at e; cases e
def Cy (g h:Heap) (L:Addr):List (Addr × Obj):=(List.range h.objs.size).filterMap fun a=>if a=L \/ (g.get? a).isSome=true then none else (h.get? a).map fun o=>(a,o)
def rest (g h:Heap) (L d:Addr):List (Addr × Obj):=(Cy g h L).filter fun p=>decide (p.1 ≠ d)
open PySem PySem.Spec PyProof.Rows
structure Mod (K:PySem.W.Frag) (mg:Str -> Option Value) (base:Heap):Prop where
 kin:K.In base
 glob:base.Ns mainGlobals mg
 blt:∃ mb,base.Ns builtinsNs mb /\ ∀ x:Str,x ≠ "__name__" -> mb x=bootBuiltins x
 nolimit:base.NoLimit
structure Cx where
 prog:Program
 w:World
 K:PySem.W.Frag
 mg:Str -> Option Value
 base:Heap
 A:Around
 N:List Str
 s₀:Shared
 H₀:Hp
 env:Env
 outer:List Env
 stack:List Env
 ex:List Addr
 fn:Str -> Bool
 calm:Bool
 pn:List (Addr × Obj)
 xe:Value -> Shared -> Prop
def zo (l:List Env):List Addr:=l.filterMap (·.frame)
abbrev Cx.fs (X:Cx):List Addr:=zo X.outer
def G1 (sc:Scope) (x:Str):Prop:=sc.names.lookup x=some .local \/ sc.names.lookup x=some .cell \/ sc.names.lookup x=some .free
def Loc (sc:Scope) (x:Str):Prop:=sc.names.lookup x=some .local \/ sc.names.lookup x=some .cell
def Look (env:Env) (h:Heap) (m:Str -> Option Value) (x:Str) (u:Value):Prop:=
 (env.kindOf x=some .local /\ m x=some u) \/ ((env.kindOf x=some .cell \/ env.kindOf x=some .free) /\ ∃ c,env.cells.lookup x=some c /\ h.IsCell c (some u))
structure Cx.Ok (X:Cx):Prop where
 mod:Mod X.K X.mg X.base
 kind:X.env.scope.kind=.function
 glob:X.env.globals=mainGlobals
 blt:X.env.builtins=builtinsNs
 above:X.s₀.heap.objs.size ≤ X.env.locals
 inj:∀ x y c,X.env.cells.lookup x=some c -> X.env.cells.lookup y=some c -> x=y
 has:∀ x,(X.env.kindOf x=some .cell \/ X.env.kindOf x=some .free) -> ∃ c,X.env.cells.lookup x=some c
 cab:∀ x c,X.fn x=true -> X.env.cells.lookup x=some c -> X.s₀.heap.objs.size ≤ c
 hd:X.calm=true -> X.A.handled=none
 frames:X.A.frames=some X.stack
 stk:X.stack=X.outer \/ (X.stack=X.env :: X.outer /\ X.env.frame=some X.env.locals)
 exf:∀ b ∈ X.ex,b ≠ X.env.locals /\ ∀ x c,X.env.cells.lookup x=some c -> c ≠ b
 bs:∀ b o,X.base.get? b=some o -> X.s₀.heap.get? b=some o /\ X.H₀ b=none
 bsz:X.base.objs.size ≤ X.s₀.heap.objs.size
 noex:∀ b o,X.base.get? b=some o -> b ∉ X.ex
 exfs:∀ b ∈ X.ex,b ∉ X.fs
 funs:X.s₀.heap.FunFrames X.base X.outer
 frf:∀ b ∈ X.fs,X.H₀ b=none
structure Inv (X:Cx) (pins:List (Addr × Obj)) (σ:List (Option V)) (H:Hp) (s:Shared):Prop where
 ok:X.Ok
 os:s.os=X.s₀.os
 bare:AllBare s.gens
 base:Un X.fs X.ex X.H₀ H X.s₀.heap s.heap
 loc:∃ m,s.heap.Ns X.env.locals m /\ ∀ (i:Nat) (x:Str) (v:V),X.N[i]? = some x -> σ[i]? = some (some v) -> G1 X.env.scope x -> ∃ u,RelV v u /\ Look X.env s.heap m x u
 cell:∀ x c,X.env.cells.lookup x=some c -> ∃ v,s.heap.IsCell c v
 free:H X.env.locals=none
 freeC:∀ x c,X.env.cells.lookup x=some c -> H c=none
 pin:∀ p ∈ X.pn ++ pins,s.heap.get? p.1=some p.2 /\ H p.1=none /\ p.1 ≠ X.env.locals /\ p.1 ∉ X.fs /\ ∀ v,p.2.data ≠ .cell v
 hok:mQ X.prog X.w H s.heap
 len:σ.length=X.N.length
section
variable {X:Cx} {pins:List (Addr × Obj)} {σ:List (Option V)} {H H':Hp} {s:Shared} {h':Heap}
theorem Cx.Ok.nofr (ok:X.Ok) {b:Addr} {o:Obj} (e:X.base.get? b=some o):b ∉ X.fs:=fun hb=>by
 have:=(ok.funs.mem hb).1
 rw [e] at this; cases this
theorem Inv.bs (I:Inv X pins σ H s):∀ b o,X.base.get? b=some o -> s.heap.get? b=some o /\ H b=none:=fun b o e =>
 ⟨I.base.keep b o (I.ok.bs b o e).1 (I.ok.bs b o e).2 (I.ok.nofr e) (I.ok.noex b o e),I.base.free b o (I.ok.bs b o e).1 (I.ok.bs b o e).2 (I.ok.noex b o e)⟩
theorem Inv.bk (I:Inv X pins σ H s):∀ b o,X.base.get? b=some o -> s.heap.get? b=some o:=fun b o e=>(I.bs b o e).1
theorem Inv.mod (I:Inv X pins σ H s):Mod X.K X.mg X.base:=I.ok.mod
theorem Inv.kIn (I:Inv X pins σ H s):X.K.In s.heap:=I.ok.mod.kin.keeps I.bk
theorem Inv.nolimit (I:Inv X pins σ H s):s.heap.NoLimit:=I.ok.mod.nolimit.keeps I.bk
theorem Inv.fr (I:Inv X pins σ H s):∃ m,Fr X.base X.env.locals s.heap m:=
 let ⟨m,hn,_⟩:=I.loc
 ⟨m,hn,I.bk,Nat.le_trans I.ok.bsz I.ok.above⟩
theorem Inv.lt (I:Inv X pins σ H s):X.env.locals < s.heap.objs.size:=let ⟨_,hn,_⟩:=I.loc; hn.lt
theorem Inv.sz (I:Inv X pins σ H s):X.s₀.heap.objs.size ≤ s.heap.objs.size:=Nat.le_trans I.ok.above (Nat.le_of_lt I.lt)
theorem Inv.nofs (I:Inv X pins σ H s) {a:Addr} (h:s.heap.objs.size ≤ a):a ∉ X.fs:=fun hb=>by
 obtain ⟨_,o,ho,_⟩:=I.ok.funs.mem hb
 exact absurd (Nat.lt_of_lt_of_le (Heap.lt_size ho) (Nat.le_trans I.sz h)) (Nat.lt_irrefl _)
theorem Inv.cne (I:Inv X pins σ H s):∀ x c,X.env.cells.lookup x=some c -> c ≠ X.env.locals:=fun x c e z=>by
 obtain ⟨v,o,ho,hd⟩:=I.cell x c e
 obtain ⟨m,⟨o',es,ep,ho',hd',_⟩,_⟩:=I.loc
 rw [z,ho'] at ho; cases ho; rw [hd'] at hd; cases hd
theorem Inv.funs (I:Inv X pins σ H s):s.heap.FunFrames X.base X.outer:=by
 have all:∀ (l:List Env),(∀ b ∈ zo l,b ∈ X.fs) -> X.s₀.heap.FunFrames X.base l -> s.heap.FunFrames X.base l:=by
  intro l
  induction l with
  | nil=>intro _ _; trivial
  | cons env r ih =>
   intro hs hl
   obtain ⟨hk,⟨L,o,hf,hn,ho,hd⟩,hr⟩:=hl
   have hL:L ∈ X.fs:=hs L (by unfold zo; rw [List.filterMap_cons,hf]; exact List.mem_cons_self)
   obtain ⟨sl,e⟩:=I.base.slot L o ho (I.ok.frf L hL) hL fun z=>I.ok.exfs L z hL
   exact ⟨hk,⟨L,_,hf,hn,e,hd⟩,ih (fun b hb=>hs b (by unfold zo; rw [List.filterMap_cons,hf]; exact List.mem_cons_of_mem _ hb)) hr⟩
 exact all X.outer (fun _ hb=>hb) I.ok.funs
theorem Inv.stack (I:Inv X pins σ H s):s.heap.FunFrames X.base X.stack:=by
 rcases I.ok.stk with e | ⟨e,hf⟩
 ·rw [e]; exact I.funs
 ·rw [e]
  obtain ⟨m,hn,_⟩:=I.loc
  refine .cons (by rw [I.ok.kind]; decide) hf hn ?_ I.funs
  exact Heap.get?_none_of_le (Nat.le_trans I.ok.bsz I.ok.above)
theorem Inv.stkSub (I:Inv X pins σ H s):∀ b ∈ zo X.stack,b ∈ X.env.locals :: X.fs:=fun b hb=>by
 rcases I.ok.stk with e | ⟨e,hf⟩
 ·rw [e] at hb; exact List.mem_cons_of_mem _ hb
 ·rw [e] at hb
  unfold zo at hb
  rw [List.filterMap_cons,hf] at hb
  exact hb
theorem Inv.stkFree (I:Inv X pins σ H s):∀ b ∈ zo X.stack,H b=none:=fun b hb=>by
 rcases List.mem_cons.mp (I.stkSub b hb) with e | hb
 ·rw [e]; exact I.free
 ·obtain ⟨_,o,ho,_⟩:=I.ok.funs.mem hb
  exact I.base.free b o ho (I.ok.frf b hb) fun z=>I.ok.exfs b z hb
theorem Inv.step {g':Array GenState} {t':Nat} {d':Drawn} {ch:List Addr} (I:Inv X pins σ H s)
  (hch:∀ b ∈ ch,(b ∈ X.ex \/ X.s₀.heap.objs.size ≤ b) /\ b ≠ X.env.locals /\ (∀ x c,X.env.cells.lookup x=some c -> c ≠ b) /\ ∀ p ∈ X.pn ++ pins,p.1 ≠ b)
  (keep:∀ b o,b ≠ X.env.locals -> b ∉ X.fs -> b ∉ ch -> s.heap.get? b=some o -> H b=none -> h'.get? b=some o)
  (slot:∀ b o,b ≠ X.env.locals -> b ∈ X.fs -> b ∉ ch -> s.heap.get? b=some o -> H b=none -> ∃ sl,h'.get? b=some { o with slots:=sl }) (free:∀ b o,b ∉ ch -> s.heap.get? b=some o -> H b=none -> H' b=none)
  (there:∀ b o,b ∉ ch -> s.heap.get? b=some o -> ∃ o',h'.get? b=some o')
  (tups:∀ b xs,H b=some (.tup xs) -> H' b=some (.tup xs)) (frzs:∀ b o u,H b=some (.frz o u) -> H' b=some (.frz o u)) (tbls:∀ b ps,H b=some (.tbl ps) -> ∃ more,H' b=some (.tbl (ps ++ more)))
  (ns:∀ m,s.heap.Ns X.env.locals m -> h'.Ns X.env.locals m) (hok:mQ X.prog X.w H' h') (hg:AllBare g') :
  Inv X pins σ H' { s with heap:=h',gens:=g',drawn:=d',toks:=t' }:=by
 have neL:∀ b o,X.s₀.heap.get? b=some o -> b ≠ X.env.locals:=fun b o e=>Nat.ne_of_lt (Nat.lt_of_lt_of_le (Heap.lt_size e) I.ok.above)
 have neC:∀ b o,X.s₀.heap.get? b=some o -> b ∉ X.ex -> b ∉ ch:=fun b o e hx hb=>by
  rcases (hch b hb).1 with z | z
  ·exact hx z
  ·exact absurd (Nat.lt_of_lt_of_le (Heap.lt_size e) z) (Nat.lt_irrefl _)
 have cellK:∀ x c,X.env.cells.lookup x=some c -> ∀ v,s.heap.IsCell c v -> h'.IsCell c v:=fun x c e v hq__=>by
  obtain ⟨o,ho,hd⟩:=hq__
  have nch:c ∉ ch:=fun z=>(hch c z).2.2.1 x c e rfl
  by_cases hc:c ∈ X.fs
  ·obtain ⟨sl,q⟩:=slot c o (I.cne x c e) hc nch ho (I.freeC x c e)
   exact ⟨_,q,hd⟩
  ·exact ⟨o,keep c o (I.cne x c e) hc nch ho (I.freeC x c e),hd⟩
 refine ⟨I.ok,I.os,hg,⟨fun b o e n hb hx=>?_,fun b o e n hb hx=>?_,fun b o e n hx=>?_,fun b o e hx=>?_,fun b xs e=>tups b xs (I.base.tups b xs e),fun b o xs e=>frzs b o xs (I.base.frzs b o xs e),fun b ps e=>?_⟩,?_,fun x c e=>?_,?_,fun x c e=>?_,fun p hp=>?_,hok,I.len⟩
 ·exact keep b o (neL b o e) hb (neC b o e hx) (I.base.keep b o e n hb hx) (I.base.free b o e n hx)
 ·obtain ⟨sl,e1⟩:=I.base.slot b o e n hb hx
  obtain ⟨sl',e2⟩:=slot b _ (neL b o e) hb (neC b o e hx) e1 (I.base.free b o e n hx)
  exact ⟨sl',e2⟩
 ·obtain ⟨o',e1⟩:=I.base.there b o e hx
  exact free b o' (neC b o e hx) e1 (I.base.free b o e n hx)
 ·obtain ⟨o',e1⟩:=I.base.there b o e hx
  exact there b o' (neC b o e hx) e1
 ·obtain ⟨m1,e1⟩:=I.base.tbls b ps e
  obtain ⟨m2,e2⟩:=tbls b _ e1
  exact ⟨m1 ++ m2,by rw [e2,Array.append_assoc]⟩
 ·obtain ⟨m,hn,hl⟩:=I.loc
  refine ⟨m,ns m hn,fun i x v e1 e2 e3=>?_⟩
  obtain ⟨u,r,l⟩:=hl i x v e1 e2 e3
  refine ⟨u,r,?_⟩
  rcases l with l | ⟨k,c,e,z⟩
  ·exact .inl l
  ·exact .inr ⟨k,c,e,cellK x c e _ z⟩
 ·obtain ⟨v,z⟩:=I.cell x c e
  exact ⟨v,cellK x c e v z⟩
 ·obtain ⟨m,⟨o,_,_,ho,_⟩,_⟩:=I.loc
  exact free _ o (fun z=>(hch _ z).2.1 rfl) ho I.free
 ·obtain ⟨v,o,ho,hd⟩:=I.cell x c e
  exact free c o (fun z=>(hch c z).2.2.1 x c e rfl) ho (I.freeC x c e)
 ·obtain ⟨e,n,ne,nf,d⟩:=I.pin p hp
  have nch:p.1 ∉ ch:=fun z=>(hch p.1 z).2.2.2 p hp rfl
  exact ⟨keep p.1 p.2 ne nf nch e n,free p.1 p.2 nch e n,ne,nf,d⟩
theorem Inv.un {t':Nat} (I:Inv X pins σ H s) (u:Un X.fs [] H H' s.heap h') (hok:mQ X.prog X.w H' h'):Inv X pins σ H' { s with heap:=h',toks:=t' }:=by
 obtain ⟨m,⟨o,es,ep,ho,r⟩,_⟩:=id I.loc
 obtain ⟨sl,hL⟩:=u.any ho I.free (by simp)
 exact I.step (g':=s.gens) (d':=s.drawn) (ch:=[]) (fun _ z=>nomatch z) (fun b o _ hb _ e n=>u.keep b o e n hb (by simp)) (fun b o _ hb _ e n=>u.slot b o e n hb (by simp)) (fun b o _ e n=>u.free b o e n (by simp)) (fun b o _ e=>u.there b o e (by simp)) u.tups u.frzs u.tbls (fun m' hm=>by
  obtain ⟨o',es',ep',ho',r'⟩:=hm
  rw [ho] at ho'; cases ho'
  exact ⟨_,es',ep',hL,r'⟩) hok I.bare
theorem Inv.call {g':Array GenState} {t':Nat} {d':Drawn} {ch:List Addr} (I:Inv X pins σ H s) (u:Un (zo X.stack) ch H H' s.heap h') (hok:mQ X.prog X.w H' h') (hg:AllBare g')
  (hch:∀ b ∈ ch,(b ∈ X.ex \/ X.s₀.heap.objs.size ≤ b) /\ b ≠ X.env.locals /\ (∀ x c,X.env.cells.lookup x=some c -> c ≠ b) /\ ∀ p ∈ X.pn ++ pins,p.1 ≠ b) :
  Inv X pins σ H' { s with heap:=h',gens:=g',drawn:=d',toks:=t' }:=by
 obtain ⟨m,⟨o,es,ep,ho,r⟩,_⟩:=id I.loc
 obtain ⟨sl,hL⟩:=u.any ho I.free fun z=>(hch _ z).2.1 rfl
 exact I.step (ch:=ch) hch (fun b o hL hb hc e n=>u.keep b o e n (fun z=>(List.mem_cons.mp (I.stkSub b z)).elim hL hb) hc) (fun b o _ _ hc e n=>u.any e n hc) (fun b o hc e n=>u.free b o e n hc) (fun b o hc e=>u.there b o e hc) u.tups u.frzs u.tbls (fun m' hm=>by
  obtain ⟨o',es',ep',ho',r'⟩:=hm
  rw [ho] at ho'; cases ho'
  exact ⟨_,es',ep',hL,r'⟩) hok hg
theorem Inv.turned {t':Nat} {it:Addr} (I:Inv X pins σ H s) (k:∀ b o,b ≠ it -> s.heap.get? b=some o -> h'.get? b=some o) (hn:H it=none) (hL:it ≠ X.env.locals)
  (h1:it ∈ X.ex \/ X.s₀.heap.objs.size ≤ it) (h2:∀ x c,X.env.cells.lookup x=some c -> c ≠ it) (h3:∀ p ∈ X.pn ++ pins,p.1 ≠ it):Inv X pins σ H { s with heap:=h',toks:=t' }:=by
 have nit:∀ b u,H b=some u -> b ≠ it:=fun b u e z=>by rw [z,hn] at e; cases e
 refine I.step (g':=s.gens) (d':=s.drawn) (ch:=[it]) (fun b hb=>?_) (fun b o _ _ hc e _=>k b o (fun z=>hc (by simp [z])) e) (fun b o _ _ hc e _=>⟨o.slots,k b o (fun z=>hc (by simp [z])) e⟩) (fun _ _ _ _ n=>n)
  (fun b o hc e=>⟨o,k b o (fun z=>hc (by simp [z])) e⟩) (fun _ _ e=>e) (fun _ _ _ e=>e) (fun b ps e=>⟨#[],by rw [e]; simp⟩) (fun m hm=>?_) (fun b u e=>?_) I.bare
 ·have e:b=it:=by simpa using hb
  subst e
  exact ⟨h1,hL,h2,h3⟩
 ·obtain ⟨o,es,ep,ho,r⟩:=hm
  exact ⟨o,es,ep,k _ o (Ne.symm hL) ho,r⟩
 ·refine (I.hok b u e).stay (fun c v hc q=>k c v ?_ q) (fun _ q=>q) fun _ _ q=>q
  rcases hc with z | z
  ·rw [z]; exact nit b u e
  ·exact nit c _ z
theorem Inv.tok (I:Inv X pins σ H s) (t:Nat):Inv X pins σ H { s with toks:=t }:=I.un (h':=s.heap) (t':=t) Un.refl I.hok
theorem Inv.kept {t':Nat} (I:Inv X pins σ H s) (k:∀ b u,s.heap.get? b=some u -> h'.get? b=some u):Inv X pins σ H { s with heap:=h',toks:=t' }:=I.un (Un.kept k) (I.hok.kept k)
theorem Inv.laid {a:Addr} {o:HO} {t':Nat} (I:Inv X pins σ H s) (k:∀ b u,s.heap.get? b=some u -> h'.get? b=some u) (hp:s.heap.objs.size ≤ a) (new:gN X.prog X.w (upd H a o) h' a o) :
  Inv X pins σ (upd H a o) { s with heap:=h',toks:=t' }:=I.un (Un.laid k hp (I.hok.fresh hp)) (I.hok.laid k hp new)
theorem Inv.write {x e:Addr} {o:HO} {t':Nat} (I:Inv X pins σ H s) (mu:IH (H x)) (he:e=x \/ H e=some (.own x)) (k:∀ b u,b ≠ e -> s.heap.get? b=some u -> h'.get? b=some u) (heo:∃ u,h'.get? e=some u)
  (new:gN X.prog X.w (upd H x o) h' x o):Inv X pins σ (upd H x o) { s with heap:=h',toks:=t' }:=I.un (Un.write mu he k heo) (I.hok.write mu he k heo new)
theorem Inv.weak {σ':List (Option V)} (I:Inv X pins σ H s) (hl:σ'.length=σ.length) (w:∀ (i:Nat) v,σ'[i]? = some (some v) -> σ[i]? = some (some v)):Inv X pins σ' H s:=
 ⟨I.ok,I.os,I.bare,I.base,let ⟨m,hn,hl'⟩:=I.loc; ⟨m,hn,fun i x v e1 e2 e3=>hl' i x v e1 (w i v e2) e3⟩,I.cell,I.free,I.freeC,I.pin,I.hok,hl.trans I.len⟩
theorem Inv.pins_of {pins':List (Addr × Obj)} (I:Inv X pins σ H s) (h:∀ p ∈ pins',s.heap.get? p.1=some p.2 /\ H p.1=none /\ p.1 ≠ X.env.locals /\ p.1 ∉ X.fs /\ ∀ v,p.2.data ≠ .cell v):Inv X pins' σ H s:=
 ⟨I.ok,I.os,I.bare,I.base,I.loc,I.cell,I.free,I.freeC,fun p hp=>(List.mem_append.mp hp).elim (fun z=>I.pin p (List.mem_append_left _ z)) (h p),I.hok,I.len⟩
theorem uS {N:List Str} (hN:N.Nodup) {i j:Nat} {x:Str} (a:N[i]? = some x) (b:N[j]? = some x):i=j:=by
 obtain ⟨h1,e1⟩:=List.getElem?_eq_some_iff.mp a
 obtain ⟨h2,e2⟩:=List.getElem?_eq_some_iff.mp b
 exact (List.getElem_inj hN).mp (e1.trans e2.symm)
theorem qN {M:Model} {A:Around} {E:Value -> Shared -> Prop} {i:Nat} {x:Str} {v:V} {u:Value} {Q:Unit -> Shared -> Prop} (I:Inv X pins σ H s) (hN:X.N.Nodup) (hi:X.N[i]? = some x) (hx:Loc X.env.scope x) (r:RelV v u)
  (h:∀ s',Inv X pins (σ.set i (some v)) H s' -> (∃ a,Heap.SameBut a s.heap s'.heap /\ (a=X.env.locals \/ X.env.cells.lookup x=some a)) -> Q () s') (hf:X.fn x=true \/ X.env.scope.names.lookup x=some .local:=by first | exact .inl rfl | exact .inr rfl | assumption):wpAny M A (storeName X.env x u) Q E s:=by
 obtain ⟨m,hn,hl⟩:=id I.loc
 have hcls:(X.env.scope.kind == .class || (X.env.scope.kind == .module && X.env.locals != X.env.globals))=false:=by rw [I.ok.kind]; rfl
 have hiσ:i < σ.length:=by rw [I.len]; exact (List.getElem?_eq_some_iff.mp hi).1
 have cne:=I.cne
 have tracked:∀ {a:Addr} {h':Heap},(∃ o,s.heap.get? a=some o /\ H a=none) -> Heap.SameBut a s.heap h' -> mQ X.prog X.w H h':=fun {a h'} ha hs b ob e=>by
  obtain ⟨_,_,hfree⟩:=ha
  refine (I.hok b ob e).stay (fun c w' hc q=>(hs.2 c ?_).trans q) (fun _ q=>q) fun _ _ q=>q
  rintro rfl
  rcases hc with rfl | hc
  ·rw [hfree] at e; cases e
  ·rw [hfree] at hc; cases hc
 rcases hx with hk | hk
 ·refine wpAny_storeName_local hk hn (fun h' hn' hs=>?_) hcls
  obtain ⟨oL,_,_,hoL,_⟩:=id hn
  refine h _ ⟨I.ok,I.os,I.bare,⟨fun b o e n hb hx=>?_,fun b o e n hb hx=>?_,I.base.free,fun b o e hx=>?_,I.base.tups,I.base.frzs,I.base.tbls⟩,⟨_,hn',fun j y v' e1 e2 e3=>?_⟩,fun y c e=>?_,I.free,I.freeC,fun p hp=>?_,tracked ⟨oL,hoL,I.free⟩ hs,by simpa using I.len⟩ ⟨_,hs,.inl rfl⟩
  ·exact (hs.2 b (Nat.ne_of_lt (Nat.lt_of_lt_of_le (Heap.lt_size e) I.ok.above))).trans (I.base.keep b o e n hb hx)
  ·obtain ⟨sl,e1⟩:=I.base.slot b o e n hb hx
   exact ⟨sl,(hs.2 b (Nat.ne_of_lt (Nat.lt_of_lt_of_le (Heap.lt_size e) I.ok.above))).trans e1⟩
  ·obtain ⟨o',e1⟩:=I.base.there b o e hx
   exact ⟨o',(hs.2 b (Nat.ne_of_lt (Nat.lt_of_lt_of_le (Heap.lt_size e) I.ok.above))).trans e1⟩
  ·by_cases hj:j=i
   ·subst hj
    rw [hi] at e1; cases e1
    rw [List.getElem?_set_self hiσ] at e2
    cases e2
    exact ⟨u,r,.inl ⟨hk,by simp⟩⟩
   ·rw [List.getElem?_set_ne (Ne.symm hj)] at e2
    obtain ⟨u',r',q⟩:=hl j y v' e1 e2 e3
    refine ⟨u',r',?_⟩
    rcases q with ⟨k,e⟩ | ⟨k,c,e,z⟩
    ·refine .inl ⟨k,?_⟩
     have:y ≠ x:=fun e=>hj (uS hN e1 (e ▸ hi))
     simp [this,e]
    ·exact .inr ⟨k,c,e,z.sameBut hs (cne y c e)⟩
  ·obtain ⟨w',z⟩:=I.cell y c e
   exact ⟨w',z.sameBut hs (cne y c e)⟩
  ·obtain ⟨e,n,ne,nf,d⟩:=I.pin p hp
   exact ⟨(hs.2 p.1 ne).trans e,n,ne,nf,d⟩
 ·have hfn:X.fn x=true:=by
   rcases hf with z | z
   ·exact z
   ·rw [z] at hk; cases hk
  obtain ⟨c,hc⟩:=I.ok.has x (.inl hk)
  obtain ⟨w',z⟩:=I.cell x c hc
  refine wpAny_storeName_cell I.ok.kind hk hc z (fun h' hc' hs=>?_)
  obtain ⟨oc,hoc,hocd⟩:=id z
  refine h { s with heap:=h' } ⟨I.ok,I.os,I.bare,⟨fun b o e n hb hx=>?_,fun b o e n hb hx=>?_,I.base.free,fun b o e hx=>?_,I.base.tups,I.base.frzs,I.base.tbls⟩,⟨m,hn.sameBut hs (Ne.symm (cne x c hc)),fun j y v' e1 e2 e3=>?_⟩,fun y c' e=>?_,I.free,I.freeC,fun p hp=>?_,tracked ⟨oc,hoc,I.freeC x c hc⟩ hs,by simpa using I.len⟩ ⟨c,hs,.inr hc⟩
  ·exact (hs.2 b (Nat.ne_of_lt (Nat.lt_of_lt_of_le (Heap.lt_size e) (I.ok.cab x c hfn hc)))).trans (I.base.keep b o e n hb hx)
  ·obtain ⟨sl,e1⟩:=I.base.slot b o e n hb hx
   exact ⟨sl,(hs.2 b (Nat.ne_of_lt (Nat.lt_of_lt_of_le (Heap.lt_size e) (I.ok.cab x c hfn hc)))).trans e1⟩
  ·obtain ⟨o',e1⟩:=I.base.there b o e hx
   exact ⟨o',(hs.2 b (Nat.ne_of_lt (Nat.lt_of_lt_of_le (Heap.lt_size e) (I.ok.cab x c hfn hc)))).trans e1⟩
  ·by_cases hj:j=i
   ·subst hj
    rw [hi] at e1; cases e1
    rw [List.getElem?_set_self hiσ] at e2
    cases e2
    exact ⟨u,r,.inr ⟨.inl hk,c,hc,hc'⟩⟩
   ·rw [List.getElem?_set_ne (Ne.symm hj)] at e2
    obtain ⟨u',r',q⟩:=hl j y v' e1 e2 e3
    refine ⟨u',r',?_⟩
    rcases q with q | ⟨k,c',e,z'⟩
    ·exact .inl q
    ·refine .inr ⟨k,c',e,z'.sameBut hs ?_⟩
     rintro rfl
     exact hj (uS hN e1 (I.ok.inj _ _ _ e hc ▸ hi))
  ·by_cases hcc:c'=c
   ·subst hcc; exact ⟨_,hc'⟩
   ·obtain ⟨w2,z2⟩:=I.cell y c' e
    exact ⟨w2,z2.sameBut hs hcc⟩
  ·obtain ⟨e,n,ne,nf,d⟩:=I.pin p hp
   refine ⟨(hs.2 p.1 ?_).trans e,n,ne,nf,d⟩
   intro q
   rw [q,hoc] at e
   have q':oc=p.2:=Option.some.inj e
   exact d w' (by rw [<- q']; exact hocd)
theorem jy {M:Model} {A:Around} {E:Value -> Shared -> Prop} {i:Nat} {x:Str} {v:V} {u:Value} {Q:Unit -> Shared -> Prop} (I:Inv X pins σ H s) (hN:X.N.Nodup) (hi:X.N[i]? = some x) (hx:Loc X.env.scope x) (r:RelV v u)
  (h:∀ s',Inv X pins (σ.set i (some v)) H s' -> Q () s') (hf:X.fn x=true \/ X.env.scope.names.lookup x=some .local:=by first | exact .inl rfl | exact .inr rfl | assumption):wpAny M A (storeName X.env x u) Q E s:=
 qN I hN hi hx r (fun s' I' _=>h s' I') hf
theorem Inv.call' {s':Shared} {ch:List Addr} (I:Inv X pins σ H s) (ho:s'.os=s.os) (u:Un (zo X.stack) ch H H' s.heap s'.heap) (hok:mQ X.prog X.w H' s'.heap) (hg:AllBare s'.gens)
  (hch:∀ b ∈ ch,(b ∈ X.ex \/ X.s₀.heap.objs.size ≤ b) /\ b ≠ X.env.locals /\ (∀ x c,X.env.cells.lookup x=some c -> c ≠ b) /\ ∀ p ∈ X.pn ++ pins,p.1 ≠ b):Inv X pins σ H' s':=by
 obtain ⟨h',g',d',t',o'⟩:=s'
 have e:o'=s.os:=ho
 subst e
 exact I.call (g':=g') (t':=t') (d':=d') u hok hg hch
end
abbrev XK:=Value -> Option Addr -> Hp -> Prop
abbrev St:=List (Option V)
abbrev VK:=V -> Hp -> Prop
abbrev TE:=St -> Hp -> VK -> Prop
abbrev TT:=St -> Hp -> (Bool -> Hp -> Prop) -> Prop
abbrev TA:=St -> Hp -> (List V -> Hp -> Prop) -> Prop
structure Ends where
 nx:St -> Hp -> Prop
 rt:VK
 bk:St -> Hp -> Prop:=fun _ _=>False
 ct:St -> Hp -> Prop:=fun _ _=>False
abbrev TS:=Ends -> St -> Hp -> Prop
def EP (X:Cx) (pins:List (Addr × Obj)) (σ:St) (Q:VK) (u:Value) (s':Shared):Prop:=∃ v H',Inv X pins σ H' s' /\ RelV v u /\ Q v H'
def TP (X:Cx) (pins:List (Addr × Obj)) (σ:St) (Q:Bool -> Hp -> Prop) (b:Bool) (s':Shared):Prop:=∃ H',Inv X pins σ H' s' /\ Q b H'
def AP (X:Cx) (pins:List (Addr × Obj)) (σ:St) (Q:List V -> Hp -> Prop) (us:List Value) (s':Shared):Prop:=∃ vs H',Inv X pins σ H' s' /\ Vals vs us /\ Q vs H'
def SP (X:Cx) (pins:List (Addr × Obj)) (D:Ends) (f:Flow) (s':Shared):Prop:=
 match f with
 | .next=>∃ σ' H',Inv X pins σ' H' s' /\ D.nx σ' H'
 | .brk=>∃ σ' H',Inv X pins σ' H' s' /\ D.bk σ' H'
 | .cont=>∃ σ' H',Inv X pins σ' H' s' /\ D.ct σ' H'
 | .ret u=>∃ v σ' H',Inv X pins σ' H' s' /\ RelV v u /\ D.rt v H'
def PE (X:Cx) (e:Expr) (t:TE):Prop:=
 ∀ (pins:List (Addr × Obj)) (s:Shared) (σ:St) (H:Hp) (Q:VK),Inv X pins σ H s -> t σ H Q -> wpAny (model X.prog X.w) X.A (eval e X.env) (EP X pins σ Q) X.xe s
def PT (X:Cx) (e:Expr) (t:TT):Prop:=
 ∀ (pins:List (Addr × Obj)) (s:Shared) (σ:St) (H:Hp) (Q:Bool -> Hp -> Prop),Inv X pins σ H s -> t σ H Q -> wpAny (model X.prog X.w) X.A (isTrue e X.env (eval e X.env)) (TP X pins σ Q) X.xe s
def PW (X:Cx) (e:Expr) (t:TT):Prop:=
 ∀ (whole:Sem Value) (pins:List (Addr × Obj)) (s:Shared) (σ:St) (H:Hp) (Q:Bool -> Hp -> Prop),Inv X pins σ H s -> t σ H Q -> wpAny (model X.prog X.w) X.A (isTrue e X.env whole) (TP X pins σ Q) X.xe s
theorem PW.pt {X:Cx} {e:Expr} {t:TT} (h:PW X e t):PT X e t:=h _
def PA (X:Cx) (es:List Expr) (t:TA):Prop:=
 ∀ (pos:Pos) (pins:List (Addr × Obj)) (s:Shared) (σ:St) (H:Hp) (Q:List V -> Hp -> Prop),Inv X pins σ H s -> t σ H Q -> wpAny (model X.prog X.w) X.A (spliced (backTo pos (starEach es X.env))) (AP X pins σ Q) X.xe s
def PS (X:Cx) (st:Stmt) (t:TS):Prop:=
 ∀ (pins:List (Addr × Obj)) (s:Shared) (σ:St) (H:Hp) (D:Ends),Inv X pins σ H s -> t D σ H -> wpAny (model X.prog X.w) X.A (exec st X.env) (SP X pins D) X.xe s
def mR (X:Cx) (st:List Stmt) (t:TS):Prop:=
 ∀ (pins:List (Addr × Obj)) (s:Shared) (σ:St) (H:Hp) (D:Ends),Inv X pins σ H s -> t D σ H -> wpAny (model X.prog X.w) X.A (execs st X.env) (SP X pins D) X.xe s
theorem dm {α:Type} {t:Sem α} {Q Q':α -> Shared -> Prop} {M:Model} {A:Around} {E:Value -> Shared -> Prop} {s:Shared} (h:wpAny M A t Q E s) (hQ:∀ a s,Q a s -> Q' a s):wpAny M A t Q' E s:=wpAny_mono h hQ fun _ _ x=>x
open PySem PySem.Spec PyProof.Rows
section
variable {X:Cx}
def wR (i:Nat):TE:=fun σ H Q=>∃ v,σ[i]? = some (some v) /\ Q v H
def tC (v:V):TE:=fun _ H Q=>Q v H
theorem Ge {i:Nat} {x:Str} {pos:Pos} (hN:X.N[i]? = some x) (hv:G1 X.env.scope x) (hd:(x == ("__debug__" : Str))=false:=by decide) (hcd:(x == ("__classdict__" : Str))=false:=by decide):PE X (.Name x pos) (wR i):=by
 intro pins s σ H Q I h
 obtain ⟨v,e,h⟩:=h
 obtain ⟨m,hn,hl⟩:=I.loc
 obtain ⟨u,r,l⟩:=hl i x v hN e hv
 have fin:EP X pins σ Q u s:=⟨v,H,I,r,h⟩
 rcases l with ⟨hk,hm⟩ | ⟨hk,c,hc,hcell⟩
 ·exact wpAny_Name (wpAny_loadName_local I.ok.kind hk hn hm fin) hd
 ·rcases hk with hk | hk
  ·exact wpAny_Name (wpAny_loadName_cell I.ok.kind hk hc hcell fin) hd
  ·exact wpAny_Name (wpAny_loadName_free I.ok.kind hk hc hcell fin hcd) hd
theorem FY {i j pos}:PE X (.Constant (.int i) j pos) (tC (.int i)):=fun _ _ _ H _ I h=>wpAny_Constant_int ⟨.int i,H,I.tok _,⟨_,rfl⟩,h⟩
theorem HY {b j pos}:PE X (.Constant (.bool b) j pos) (tC (.bl b)):=fun _ _ _ H _ I h=>Constant_bool ⟨.bl b,H,I,rfl,h⟩
theorem FZ {j pos}:PE X (.Constant .none j pos) (tC .non):=fun _ _ _ H _ I h=>Constant_none ⟨.non,H,I,rfl,h⟩
def Gl (X:Cx) (x:Str):Prop:=X.env.kindOf x=some .globalImplicit
theorem xX {E:Value -> Shared -> Prop} {pins:List (Addr × Obj)} {s:Shared} {σ:St} {H:Hp} {x:Str} {u:Value} {pos:Pos} {Q:Value -> Shared -> Prop} (I:Inv X pins σ H s) (hg:Gl X x) (hm:X.mg x=some u) (h:Q u s)
  (hd:(x == ("__debug__" : Str))=false:=by decide):wpAny (model X.prog X.w) X.A (eval (.Name x pos) X.env) Q E s:=
 Calls.Name_function_global I.ok.kind hg (Calls.loadGlobal_global (by rw [I.ok.glob]; exact I.mod.glob.keeps I.bk) hm h) hd
theorem iG {E:Value -> Shared -> Prop} {pins:List (Addr × Obj)} {s:Shared} {σ:St} {H:Hp} {x:Str} {u:Value} {pos:Pos} {Q:Value -> Shared -> Prop} (I:Inv X pins σ H s) (hg:Gl X x) (hm:X.mg x=none) (hv:bootBuiltins x=some u) (h:Q u s)
  (hn:x ≠ "__name__" := by decide) (hd:(x == ("__debug__" : Str))=false:=by decide):wpAny (model X.prog X.w) X.A (eval (.Name x pos) X.env) Q E s:=by
 obtain ⟨mb,h1,h2⟩:=I.mod.blt
 exact Calls.Name_function_global I.ok.kind hg (Calls.loadGlobal_builtin (by rw [I.ok.glob]; exact I.mod.glob.keeps I.bk) hm (by rw [I.ok.blt]; exact h1.keeps I.bk) ((h2 x hn).trans hv) h) hd
theorem yg {x:Str} {v:V} {u:Value} {pos:Pos} (hg:Gl X x) (hm:X.mg x=some u) (r:RelV v u) (hd:(x == ("__debug__" : Str))=false:=by decide):PE X (.Name x pos) (tC v):=
 fun _ _ _ H _ I h=>xX I hg hm ⟨v,H,I,r,h⟩ hd
theorem DE {x:Str} {v:V} {u:Value} {pos:Pos} (hg:Gl X x) (hm:X.mg x=none) (hv:bootBuiltins x=some u) (r:RelV v u) (hn:x ≠ "__name__" := by decide) (hd:(x == ("__debug__" : Str))=false:=by decide):PE X (.Name x pos) (tC v):=
 fun _ _ _ H _ I h=>iG I hg hm hv ⟨v,H,I,r,h⟩ hn hd
variable {a b:Expr} {ta tb:TE} {pos:Pos}
variable {tA tB':TT} {rest:List Expr}
def JC (t u:TT):TT:=fun σ H Q=>t σ H fun c H1=>if c=true then u σ H1 Q else Q false H1
def Ks (t u:TT):TT:=fun σ H Q=>t σ H fun c H1=>if c=true then Q true H1 else u σ H1 Q
def JJ (t:TT):TT:=fun σ H Q=>t σ H fun c H1=>Q (!c) H1
theorem DO (ha:PT X a tA):PW X (.BoolOp .And [a] pos) tA:=by
 intro wh pins s σ H Q I h
 refine isTrue_and (dm (ha pins s σ H Q I h) fun c s1 e=>?_)
 cases c with
 | true=>exact isTrue_and_nil e
 | false=>exact e
theorem Gq (ha:PT X a tA):PW X (.BoolOp .Or [a] pos) tA:=by
 intro wh pins s σ H Q I h
 refine isTrue_or (dm (ha pins s σ H Q I h) fun c s1 e=>?_)
 cases c with
 | false=>exact isTrue_or_nil e
 | true=>exact e
theorem Gp (ha:PT X a tA) (hb:PW X (.BoolOp .And (b :: rest) pos) tB'):PW X (.BoolOp .And (a :: b :: rest) pos) (JC tA tB'):=by
 intro wh pins s σ H Q I h
 refine isTrue_and (dm (ha pins s σ H _ I h) fun c s1 ⟨H1,I1,q1⟩=>?_)
 cases c with
 | true=>exact hb wh pins s1 σ H1 Q I1 q1
 | false=>exact ⟨H1,I1,q1⟩
theorem Ih (ha:PT X a tA) (hb:PW X (.BoolOp .Or (b :: rest) pos) tB'):PW X (.BoolOp .Or (a :: b :: rest) pos) (Ks tA tB'):=by
 intro wh pins s σ H Q I h
 refine isTrue_or (dm (ha pins s σ H _ I h) fun c s1 ⟨H1,I1,q1⟩=>?_)
 cases c with
 | true=>exact ⟨H1,I1,q1⟩
 | false=>exact hb wh pins s1 σ H1 Q I1 q1
theorem Gm (ha:PT X a tA):PT X (.UnaryOp .Not a pos) (JJ tA):=by
 intro pins s σ H Q I h
 exact isTrue_not (ha pins s σ H (fun c H1=>Q (!c) H1) I h)
def Iq (ta tb:TE):TE:=fun σ H Q=>ta σ H fun x H1=>∃ c,x=.bl c /\ if c=true then tb σ H1 Q else Q (.bl false) H1
def Iz (ta:TE):TE:=fun σ H Q=>ta σ H fun x H1=>∃ c,x=.bl c /\ Q (.bl (!c)) H1
theorem Ga {op} {t:TE} (h:PE X a t):PE X (.BoolOp op [a] pos) t:=fun pins s σ H Q I hw=>BoolOp_one (h pins s σ H Q I hw)
theorem FW (ha:PE X a ta) (hb:PE X (.BoolOp .And (b :: rest) pos) tb):PE X (.BoolOp .And (a :: b :: rest) pos) (Iq ta tb):=by
 intro pins s σ H Q I h
 refine BoolOp_and (dm (ha pins s σ H _ I h) fun v s1 ⟨x,H1,I1,r1,q1⟩=>?_)
 obtain ⟨c,rfl,q1⟩:=q1
 cases r1
 refine wpAny_truthy_bool ?_
 cases c with
 | true=>exact hb pins s1 σ H1 Q I1 q1
 | false=>exact ⟨.bl false,H1,I1,rfl,q1⟩
theorem F9 (ha:PE X a ta):PE X (.UnaryOp .Not a pos) (Iz ta):=by
 intro pins s σ H Q I h
 refine UnaryOp_ (dm (ha pins s σ H _ I h) fun v s1 ⟨x,H1,I1,r1,q1⟩=>?_)
 obtain ⟨c,rfl,q1⟩:=q1
 cases r1
 exact not_of (wpAny_truthy_bool ⟨.bl (!c),H1,I1,rfl,q1⟩)
def Kr (t:TT) (ta tb:TE):TE:=fun σ H Q=>t σ H fun c H1=>if c=true then ta σ H1 Q else tb σ H1 Q
theorem BN {c:Expr} (hc:PT X c tA) (ha:PE X a ta) (hb:PE X b tb):PE X (.IfExp c a b pos) (Kr tA ta tb):=by
 intro pins s σ H Q I h
 refine wpAny_IfExp (dm (hc pins s σ H _ I h) fun d s1 ⟨H1,I1,q1⟩=>?_)
 cases d with
 | true=>exact ha pins s1 σ H1 Q I1 q1
 | false=>exact hb pins s1 σ H1 Q I1 q1
end
open PySem PySem.Spec PyProof.Rows
def fF (K:PySem.W.Frag) (H:Hp) (a:Addr) (xs:List V):Prop:=
 Rd H a (.lst xs) \/
  ∃ (o:Obj) (its:Array Value) (n:Nat),K.lookup a=some o /\ o.cls=.type "list" /\ o.dict=none /\ o.data=.seq its n /\ its.size ≤ sizeLine /\ Vals xs its.toList
def jO (K:PySem.W.Frag) (H:Hp) (a:Addr) (xs:List V):Prop:=
 Rd H a (.tup xs) \/
  ∃ (o:Obj) (its:Array Value) (n:Nat),K.lookup a=some o /\ o.cls=.type "tuple" /\ o.data=.seq its n /\ its.size ≤ sizeLine /\ Vals xs its.toList
def Ji:Value -> Option V
 | .none=>some .non
 | .bool b=>some (.bl b)
 | .int i _=>some (.int i)
 | .str x _=>some (.str x)
 | .bytes b _=>some (.byt b)
 | .float b _=>some (.flt b)
 | .ref a=>some (.ref a)
 | .type n=>some (.ty n)
 | _=>none
theorem RelV.abs {x:V} {u:Value} (r:RelV x u):Ji u=some x:=by
 cases x with
 | non=>cases r; rfl
 | bl _=>cases r; rfl
 | int _=>obtain ⟨t,rfl⟩:=r; rfl
 | str _=>obtain ⟨t,rfl⟩:=r; rfl
 | byt _=>obtain ⟨t,rfl⟩:=r; rfl
 | flt _=>obtain ⟨t,rfl⟩:=r; rfl
 | ref _=>cases r; rfl
 | ty _=>cases r; rfl
theorem RelV.inj {x y:V} {u:Value} (r:RelV x u) (q:RelV y u):x=y:=Option.some.inj (r.abs.symm.trans q.abs)
theorem Vals.inj:∀ {xs ys:List V} {us:List Value},Vals xs us -> Vals ys us -> xs=ys
 | _,_,_,.nil,.nil=>rfl
 | _,_,_,.cons r t,.cons r' t'=>by rw [r.inj r',Vals.inj t t']
section
variable {X:Cx} {pins:List (Addr × Obj)} {σ:St} {H:Hp} {s:Shared} {a:Addr} {xs ys:List V}
theorem fF.of {K:PySem.W.Frag} (h:H a=some (.lst xs)):fF K H a xs:=.inl (.inl h)
theorem jO.of {K:PySem.W.Frag} (h:H a=some (.tup xs)):jO K H a xs:=.inl (.inl h)
theorem Inv.list (I:Inv X pins σ H s) (h:fF X.K H a xs):∃ its:List Value,Vals xs its /\ PlainL s.heap a its.toArray /\ xs.length ≤ sizeLine:=by
 rcases h with h | ⟨o,its,n,hk,hc,hd,hs,hz,r⟩
 ·obtain ⟨z,its,n,r,e⟩:=h.ok I.hok
  exact ⟨its,r,⟨_,n,e,rfl,rfl,rfl⟩,z⟩
 ·refine ⟨its.toList,r,⟨o,n,I.kIn a o hk,hc,hd,by simpa using hs⟩,?_⟩
  have e:=r.length
  simp only [Array.length_toList] at e
  omega
theorem Inv.tuple (I:Inv X pins σ H s) (h:jO X.K H a xs):∃ its:List Value,Vals xs its /\ IsTup s.heap a its.toArray /\ xs.length ≤ sizeLine:=by
 rcases h with h | ⟨o,its,n,hk,hc,hs,hz,r⟩
 ·obtain ⟨z,its,r,p⟩:=h.ok I.hok
  exact ⟨its,r,p,z⟩
 ·refine ⟨its.toList,r,⟨o,I.kIn a o hk,hc,n,by simpa using hs⟩,?_⟩
  have e:=r.length
  simp only [Array.length_toList] at e
  omega
theorem Inv.list_inj (I:Inv X pins σ H s) (h:fF X.K H a xs) (h':fF X.K H a ys):xs=ys:=by
 obtain ⟨its,r,⟨o,n,e,_,_,d⟩,_⟩:=I.list h
 obtain ⟨its',r',⟨o',n',e',_,_,d'⟩,_⟩:=I.list h'
 rw [e] at e'; cases e'
 rw [d] at d'
 injection d' with d1 _
 have:its=its':=by simpa using congrArg Array.toList d1
 subst this
 exact r.inj r'
theorem Inv.tuple_inj (I:Inv X pins σ H s) (h:jO X.K H a xs) (h':jO X.K H a ys):xs=ys:=by
 obtain ⟨its,r,⟨o,e,_,n,d⟩,_⟩:=I.tuple h
 obtain ⟨its',r',⟨o',e',_,n',d'⟩,_⟩:=I.tuple h'
 rw [e] at e'; cases e'
 rw [d] at d'
 injection d' with d1 _
 have:its=its':=by simpa using congrArg Array.toList d1
 subst this
 exact r.inj r'
end
abbrev Cx.wish (X:Cx) (E:Value -> Shared -> Prop):Cx:={ X with xe:=E }
abbrev Cx.nox (X:Cx):Cx:=X.wish fun _ _=>False
theorem Cx.Ok.wish {X:Cx} (ok:X.Ok) (E:Value -> Shared -> Prop):(X.wish E).Ok:=
 ⟨ok.mod,ok.kind,ok.glob,ok.blt,ok.above,ok.inj,ok.has,ok.cab,ok.hd,ok.frames,ok.stk,ok.exf,ok.bs,ok.bsz,ok.noex,ok.exfs,ok.funs,ok.frf⟩
theorem Cx.Ok.unwish {X:Cx} {E:Value -> Shared -> Prop} (ok:(X.wish E).Ok):X.Ok:=
 ⟨ok.mod,ok.kind,ok.glob,ok.blt,ok.above,ok.inj,ok.has,ok.cab,ok.hd,ok.frames,ok.stk,ok.exf,ok.bs,ok.bsz,ok.noex,ok.exfs,ok.funs,ok.frf⟩
section
variable {X:Cx} {pins:List (Addr × Obj)} {σ:St} {H:Hp} {s:Shared} {E:Value -> Shared -> Prop}
theorem Inv.wish (I:Inv X pins σ H s) (E:Value -> Shared -> Prop):Inv (X.wish E) pins σ H s:=⟨I.ok.wish E,I.os,I.bare,I.base,I.loc,I.cell,I.free,I.freeC,I.pin,I.hok,I.len⟩
theorem Inv.unwish (I:Inv (X.wish E) pins σ H s):Inv X pins σ H s:=⟨I.ok.unwish,I.os,I.bare,I.base,I.loc,I.cell,I.free,I.freeC,I.pin,I.hok,I.len⟩
theorem SP.unwish {D:Ends} {f:Flow} {s':Shared} (h:SP (X.wish E) pins D f s'):SP X pins D f s':=by
 cases f with
 | next=>obtain ⟨σ',H',I,q⟩:=h; exact ⟨σ',H',I.unwish,q⟩
 | brk=>obtain ⟨σ',H',I,q⟩:=h; exact ⟨σ',H',I.unwish,q⟩
 | cont=>obtain ⟨σ',H',I,q⟩:=h; exact ⟨σ',H',I.unwish,q⟩
 | ret u=>obtain ⟨v,σ',H',I,r,q⟩:=h; exact ⟨v,σ',H',I.unwish,r,q⟩
theorem PE.nox {e:Expr} {t:TE} (h:PE X.nox e t):PE X e t:=fun pins s σ H Q I hw =>
 wpAny_mono (h pins s σ H Q (I.wish _) hw) (fun _ _ ⟨v,H',I',r,q⟩=>⟨v,H',I'.unwish,r,q⟩) fun _ _ z=>False.elim z
theorem PT.nox {e:Expr} {t:TT} (h:PT X.nox e t):PT X e t:=fun pins s σ H Q I hw =>
 wpAny_mono (h pins s σ H Q (I.wish _) hw) (fun _ _ ⟨H',I',q⟩=>⟨H',I'.unwish,q⟩) fun _ _ z=>False.elim z
theorem mR.nox {st:List Stmt} {t:TS} (h:mR X.nox st t):mR X st t:=fun pins s σ H D I hw =>
 wpAny_mono (h pins s σ H D (I.wish _) hw) (fun _ _ q=>q.unwish) fun _ _ z=>False.elim z
end
section
variable {X:Cx} {st:Stmt} {rest:List Stmt} {t u:TS} {e:Expr} {te:TE} {pos:Pos}
def Iy:TS:=fun D σ H=>D.nx σ H
def JM (t u:TS):TS:=fun D σ H=>t { D with nx:=u D } σ H
theorem DM:mR X [] Iy:=fun _ _ σ H _ I h=>wpAny_execs_nil ⟨σ,H,I,h⟩
theorem uZ (h1:PS X st t) (h2:mR X rest u):mR X (st :: rest) (JM t u):=by
 intro pins s σ H D I h
 refine wpAny_execs_cons (dm (h1 pins s σ H { D with nx:=u D } I h) fun f s1 q=>?_)
 cases f with
 | next =>
  obtain ⟨σ',H',I',q⟩:=q
  exact h2 pins s1 σ' H' D I' q
 | ret v=>exact q
 | brk=>exact q
 | cont=>exact q
theorem yh (h1:PS X st t):mR X [st] t:=by
 intro pins s σ H D I h
 refine wpAny_execs_cons (dm (h1 pins s σ H D I h) fun f s1 q=>?_)
 cases f with
 | next=>exact wpAny_execs_nil q
 | ret v=>exact q
 | brk=>exact q
 | cont=>exact q
theorem Inv.quiet {pins:List (Addr × Obj)} {σ:St} {H:Hp} {s:Shared} (I:Inv X pins σ H s):interactive X.env=false:=by simp [interactive,I.ok.kind]
def Iw (te:TE):TS:=fun D σ H=>te σ H fun _ H1=>D.nx σ H1
theorem DL (he:PE X e te) (hs:swapsWith e none pos.line X.env=pure false:=by rfl):PS X (.Expr e pos) (Iw te):=by
 intro pins s σ H D I h
 exact wpAny_Expr_any (dm (he pins s σ H _ I h) fun v s1 ⟨x,H1,I1,r1,q1⟩=>⟨σ,H1,I1,q1⟩) I.quiet hs
def JL (te:TE):TS:=fun D σ H=>te σ H D.rt
theorem BU (he:PE X e te):PS X (.Return (some e) pos) (JL te):=by
 intro pins s σ H D I h
 exact wpAny_Return_some (dm (he pins s σ H _ I h) fun v s1 ⟨x,H1,I1,r1,q1⟩=>⟨x,σ,H1,I1,r1,q1⟩)
def JG (c:TT) (t u:TS):TS:=fun D σ H=>c σ H fun b H1=>if b=true then t D σ H1 else u D σ H1
theorem Ig {c:Expr} {a b:List Stmt} {tc:TT} (hc:PT X c tc) (ha:mR X a t) (hb:mR X b u):PS X (.If c a b pos) (JG tc t u):=by
 intro pins s σ H D I h
 refine wpAny_If (dm (hc pins s σ H _ I h) fun d s1 ⟨H1,I1,q1⟩=>?_)
 cases d with
 | true=>exact ha pins s1 σ H1 D I1 q1
 | false=>exact hb pins s1 σ H1 D I1 q1
def Ca:TS:=fun _ _ _=>False
theorem BR:PS X st Ca:=fun _ _ _ _ _ _ h=>h.elim
theorem zL {sts:List Stmt}:mR X sts Ca:=fun _ _ _ _ _ _ h=>h.elim
end
abbrev TG:=V -> St -> Hp -> (St -> Hp -> Prop) -> Prop
abbrev Ei:=List V -> St -> Hp -> (St -> Hp -> Prop) -> Prop
def PG (X:Cx) (target:Expr) (t:TG):Prop:=
 ∀ (pins:List (Addr × Obj)) (s:Shared) (σ:St) (H:Hp) (v:V) (u:Value) (Q:St -> Hp -> Prop),Inv X pins σ H s -> RelV v u -> t v σ H Q ->
  wpAny (model X.prog X.w) X.A (assign target X.env u) (fun _ s'=>∃ σ' H',Inv X pins σ' H' s' /\ Q σ' H') X.xe s
def Ho (X:Cx) (ts:List Expr) (t:Ei):Prop:=
 ∀ (pins:List (Addr × Obj)) (s:Shared) (σ:St) (H:Hp) (vs:List V) (us:List Value) (Q:St -> Hp -> Prop),Inv X pins σ H s -> Vals vs us -> t vs σ H Q ->
  wpAny (model X.prog X.w) X.A (assignInOrder ((assignEach ts X.env).map (·.2)) us) (fun _ s'=>∃ σ' H',Inv X pins σ' H' s' /\ Q σ' H') X.xe s
abbrev EJ:=V -> V -> V -> Hp -> (Hp -> Prop) -> Prop
def Hq (X:Cx) (t:EJ):Prop:=
 ∀ (pins:List (Addr × Obj)) (s:Shared) (σ:St) (H:Hp) (o i v:V) (ov iv u:Value) (Q:Hp -> Prop),Inv X pins σ H s -> RelV o ov -> RelV i iv -> RelV v u -> t o i v H Q ->
  wpAny (model X.prog X.w) X.A (setItem ov iv u) (fun _ s'=>∃ H',Inv X pins σ H' s' /\ Q H') X.xe s
abbrev IK:=V -> V -> Hp -> VK -> Prop
def JT (X:Cx) (op:Operator) (t:IK):Prop:=
 ∀ (pins:List (Addr × Obj)) (s:Shared) (σ:St) (H:Hp) (x y:V) (v u:Value) (Q:VK),Inv X pins σ H s -> RelV x v -> RelV y u -> t x y H Q ->
  wpAny (model X.prog X.w) X.A (inplaceOp op v u) (EP X pins σ Q) X.xe s
section
variable {X:Cx} {pos:Pos}
def Eo (i:Nat):TG:=fun v σ H Q=>Q (σ.set i (some v)) H
theorem DG {i:Nat} {x:Str} (hN:X.N.Nodup) (hi:X.N[i]? = some x) (hx:Loc X.env.scope x) (hf:X.fn x=true \/ X.env.scope.names.lookup x=some .local:=by first | exact .inl rfl | exact .inr rfl | assumption):PG X (.Name x pos) (Eo i):=by
 intro pins s σ H v u Q I r h
 exact wpAny_assign_Name (jy I hN hi hx r (fun s' I'=>⟨_,H,I',h⟩) hf)
def Jm:Ei:=fun vs σ H Q=>vs=[] /\ Q σ H
def HF (t:TG) (u:Ei):Ei:=fun vs σ H Q=>∃ v r,vs=v :: r /\ t v σ H fun σ' H'=>u r σ' H' Q
theorem DH:Ho X [] Jm:=by
 intro pins s σ H vs us Q I r h
 obtain ⟨e,h⟩:=h
 subst e
 cases r
 exact assignInOrder_nil ⟨σ,H,I,h⟩
theorem BO {e:Expr} {es:List Expr} {t:TG} {u:Ei} (h1:PG X e t) (h2:Ho X es u)
  (hs:(assignEach (e :: es) X.env).map (·.2)=assign e X.env :: (assignEach es X.env).map (·.2):=by rfl):Ho X (e :: es) (HF t u):=by
 intro pins s σ H vs us Q I r h
 obtain ⟨v,vr,e1,h⟩:=h
 subst e1
 cases r with
 | cons r rr =>
  rw [hs]
  refine assignInOrder_cons (dm (h1 pins s σ H _ _ _ I r h) fun _ s1 ⟨σ1,H1,I1,q1⟩=>?_)
  exact h2 pins s1 σ1 H1 _ _ Q I1 rr q1
def Jo (K:PySem.W.Frag) (n:Nat) (t:Ei):TG:=fun v σ H Q=>∃ a xs,v=.ref a /\ jO K H a xs /\ xs.length=n /\ t xs σ H Q
theorem Gg {es:List Expr} {k:Nat} {t:Ei} {n:Nat} (hc:X.calm=true) (h:Ho X es t)
  (hn:(assignEach es X.env).length=n:=by rfl) (hst:(assignEach es X.env).findIdx? (·.1)=none:=by rfl):PG X (.Tuple es k pos) (Jo X.K n t):=by
 intro pins s σ H v u Q I r hw
 obtain ⟨a,xs,e1,hq,hl,hw⟩:=hw
 subst e1
 cases r
 obtain ⟨its,rv,ht,hz⟩:=I.tuple hq
 refine assign_Tuple_tuple (I.ok.hd hc) ht (by simp [hn,<- hl,rv.length]) hst fun h' hx=>?_
 have I1:Inv X pins σ H { s with heap:=h' }:=I.kept (t':=s.toks) fun b o e=>hx b o (Nat.ne_of_lt (Heap.lt_size e)) e
 exact h pins _ σ H xs _ Q I1 (by simpa using rv) hw
def gL (to ti:TE) (t:EJ):TG:=fun v σ H Q=>to σ H fun o H1=>ti σ H1 fun i H2=>t o i v H2 fun H3=>Q σ H3
theorem Gf {o i:Expr} {to ti:TE} {t:EJ} (ho:PE X o to) (hi:PE X i ti) (hs:Hq X t)
  (ha:∀ v,assign (.Subscript o i pos) X.env v=(do
   let ov <- holding [v] (eval o X.env)
   let iv <- holding [v,ov] (eval i X.env)
   standAt pos
   holding [v,ov,iv] (setItem ov iv v)
   release [v,ov,iv] []):=by intro _; rfl):PG X (.Subscript o i pos) (gL to ti t):=by
 intro pins s σ H v u Q I r h
 rw [ha]
 refine wpAny_bind (wpAny_holding (dm (ho pins s σ H _ I h) fun ov s1 ⟨x,H1,I1,r1,q1⟩=>?_))
 refine wpAny_bind (wpAny_holding (dm (hi pins s1 σ H1 _ I1 q1) fun iv s2 ⟨y,H2,I2,r2,q2⟩=>?_))
 refine wpAny_bind (wpAny_standAt (wpAny_bind (wpAny_holding (dm (hs pins s2 σ H2 x y v ov iv u _ I2 r1 r2 r q2) fun _ s3 ⟨H3,I3,q3⟩=>?_))))
 exact wpAny_release ⟨σ,H3,I3,q3⟩
def Ir (te:TE) (g:TG):TS:=fun D σ H=>te σ H fun x H1=>g x σ H1 D.nx
theorem BQ {tg e:Expr} {te:TE} {g:TG} (he:PE X e te) (hg:PG X tg g) (hs:swapsWithSole [tg] e pos.line X.env=pure false:=by rfl) (hw:swappedStores [tg] e X.env=pure none:=by rfl)
  (h1:(assignEach [tg] X.env).map (·.2)=[assign tg X.env]:=by rfl):PS X (.Assign [tg] e pos) (Ir te g):=by
 intro pins s σ H D I h
 refine wpAny_Assign_stores (dm (he pins s σ H _ I h) fun v s1 ⟨x,H1,I1,r1,q1⟩=>?_) hs hw
 rw [h1]
 exact dm (hg pins s1 σ H1 x v _ I1 r1 q1) fun _ s2 q=>q
theorem wF {i:Nat} {x:Str} {e:Expr} {te:TE} {pos':Pos} (hN:X.N.Nodup) (hi:X.N[i]? = some x) (hx:Loc X.env.scope x) (he:PE X e te) (hs:swapsWith e (some (.Name x pos')) pos.line X.env=pure false:=by rfl) (hf:X.fn x=true \/ X.env.scope.names.lookup x=some .local:=by first | exact .inl rfl | exact .inr rfl | assumption) :
  PS X (.Assign [.Name x pos'] e pos) (Ir te (Eo i)):=by
 intro pins s σ H D I h
 refine wpAny_Assign_Name (dm (he pins s σ H _ I h) fun v s1 ⟨y,H1,I1,r1,q1⟩=>?_) hs
 exact jy I1 hN hi hx r1 (fun s2 I2=>⟨_,H1,I2,q1⟩) hf
def JK (i j:Nat) (ta:TA):TS:=fun D σ H=>ta σ H fun vs H1=>∃ v w,vs=[v,w] /\ D.nx ((σ.set i (some v)).set j (some w)) H1
theorem BS {i j:Nat} {x y:Str} {a b:Expr} {ta:TA} {px py pt:Pos} {kt k2 pt2} (hc:X.calm=true) (hN:X.N.Nodup) (hi:X.N[i]? = some x) (hj:X.N[j]? = some y) (hij:i ≠ j)
  (hx:X.env.scope.names.lookup x=some .local) (hy:X.env.scope.names.lookup y=some .local) (ha:PA X [a,b] ta)
  (hw:swappedStores [.Tuple [.Name x px,.Name y py] kt pt] (.Tuple [a,b] k2 pt2) X.env=pure (some [x,y]))
  (hs:swapsWithSole [.Tuple [.Name x px,.Name y py] kt pt] (.Tuple [a,b] k2 pt2) pos.line X.env=pure false:=by rfl) :
  PS X (.Assign [.Tuple [.Name x px,.Name y py] kt pt] (.Tuple [a,b] k2 pt2) pos) (JK i j ta):=by
 intro pins s σ H D I h
 rw [exec_Assign_arm]
 refine wpAny_bind (wpAny_standAt ?_)
 rw [hs]
 refine wpAny_bind (wpAny_pure ?_)
 rw [if_neg (by decide)]
 refine wpAny_bind (Tuple_ (dm (ha _ pins s σ H _ I h) fun us s1 ⟨vs,H1,I1,r1,q1⟩=>?_))
 obtain ⟨v,w,e1,q1⟩:=q1
 subst e1
 obtain ⟨u1,u2,rfl,rv,rw'⟩:∃ u1 u2,us=[u1,u2] /\ RelV v u1 /\ RelV w u2:=by
  cases r1 with
  | cons p q =>
   cases q with
   | cons p' q' =>
    cases q'
    exact ⟨_,_,rfl,p,p'⟩
 refine wpAny_newObj_type ?_ (by show 2 ≤ sizeLine; decide)
 have I2:Inv X pins σ H1 { s1 with heap:=s1.heap.push { cls:=.type "tuple", data:=.seq [u1,u2].toArray } }:=I1.kept (t':=s1.toks) fun b o e=>Heap.get?_push_of_some _ e
 rw [hw]
 refine wpAny_bind (wpAny_pure ?_)
 show wpAny (model X.prog X.w) X.A (do rule "assign.swapped-stores"; let items <- unpackItems (.ref s1.heap.objs.size) 2 none; assignInOrder [fun v=>bindName X.env y v,fun v=>bindName X.env x v] items.reverse; pure Flow.next) _ _ _
 refine wpAny_bind (wpAny_rule (wpAny_bind (unpackItems_tuple (items:=#[u1,u2]) (I.ok.hd hc) (IsTup.new s1.heap _) fun h' hx'=>?_)))
 have I3:=I2.kept (h':=h') (t':=s1.toks) fun b o e=>hx' b o (Nat.ne_of_lt (Heap.lt_size e)) e
 show wpAny _ _ (assignInOrder [fun v=>bindName X.env y v,fun v=>bindName X.env x v] [u2,u1] >>= fun _=>pure Flow.next) _ _ _
 refine wpAny_bind (assignInOrder_cons (wpAny_bindName (jy I3 hN hj (.inl hy) rw' (fun s2 I4=>?_) (.inr hy))))
 refine assignInOrder_cons (wpAny_bindName (jy I4 hN hi (.inl hx) rv (fun s3 I5=>assignInOrder_nil (wpAny_pure ?_)) (.inr hx)))
 rw [List.set_comm _ _ (Ne.symm hij)] at I5
 exact ⟨_,H1,I5,q1⟩
def JD (i:Nat) (te:TE) (ti:IK):TS:=fun D σ H=>∃ x,σ[i]? = some (some x) /\ te σ H fun y H1=>ti x y H1 fun z H2=>D.nx (σ.set i (some z)) H2
theorem Gj {i:Nat} {x:Str} {e:Expr} {te:TE} {op:Operator} {ti:IK} {pos':Pos} (hN:X.N.Nodup) (hi:X.N[i]? = some x) (hx:Loc X.env.scope x) (he:PE X e te) (ho:JT X op ti) (hf:X.fn x=true \/ X.env.scope.names.lookup x=some .local:=by first | exact .inl rfl | exact .inr rfl | assumption) :
  PS X (.AugAssign (.Name x pos') op e pos) (JD i te ti):=by
 intro pins s σ H D I h
 obtain ⟨v,e1,h⟩:=h
 obtain ⟨m,hn,hl⟩:=I.loc
 have vis:G1 X.env.scope x:=by rcases hx with k | k; exact .inl k; exact .inr (.inl k)
 obtain ⟨u,r,l⟩:=hl i x v hi e1 vis
 refine wpAny_AugAssign_Name ?_
 have go:wpAny (model X.prog X.w) X.A (eval e X.env) (fun w s₂=>wpAny (model X.prog X.w) X.A (inplaceOp op u w) (fun r s₃=>wpAny (model X.prog X.w) X.A (storeName X.env x r) (fun _=>SP X pins D .next) X.xe s₃) X.xe s₂) X.xe s:=by
  refine dm (he pins s σ H _ I h) fun w s1 ⟨y,H1,I1,r1,q1⟩=>?_
  refine dm (ho pins s1 σ H1 v y u w _ I1 r r1 q1) fun z s2 ⟨zv,H2,I2,r2,q2⟩=>?_
  exact jy I2 hN hi hx r2 (fun s3 I3=>⟨_,H2,I3,q2⟩) hf
 rcases l with ⟨hk,hm⟩ | ⟨hk,c,hc,hcell⟩
 ·exact wpAny_loadName_local I.ok.kind hk hn hm go
 ·rcases hk with hk | hk
  ·exact wpAny_loadName_cell I.ok.kind hk hc hcell go
  ·rcases hx with k | k
   ·have:X.env.scope.names.lookup x=some .free:=hk
    rw [k] at this; cases this
   ·have:X.env.scope.names.lookup x=some .free:=hk
    rw [k] at this; cases this
end
section
variable {X:Cx} {pos:Pos}
def GV (c:TT) (tb:TS):TS:=fun D σ H=>∃ W:Nat -> St -> Hp -> Prop,(∃ m,W m σ H) /\ ∀ m σ H,W m σ H ->
 c σ H fun b H1=>if b=true then ∃ N:St -> Hp -> Prop,(∀ σ' H',N σ' H' -> ∃ m',m' < m /\ W m' σ' H') /\ tb { D with nx:=N,ct:=N,bk:=D.nx } σ H1 else D.nx σ H1
theorem BV {c:Expr} {body:List Stmt} {tc:TT} {tb:TS} (hp:PassesOwn (model X.prog X.w) X.A X.env X.xe) (hc:PT X c tc) (hb:mR X body tb):PS X (.While c body [] pos) (GV tc tb):=by
 intro pins s σ H D I h
 obtain ⟨W,⟨m0,w0⟩,turn⟩:=h
 refine wpAny_While (codeAny_whileLoop (fun n s'=>∃ σ' H',Inv X pins σ' H' s' /\ W n σ' H') ?_ m0 ⟨σ,H,I,w0⟩)
 rintro n s1 ⟨σ1,H1,I1,w1⟩
 refine wpAny_passesOwn hp (dm (hc pins s1 σ1 H1 _ I1 (turn n σ1 H1 w1)) fun b s2 ⟨H2,I2,q2⟩=>?_)
 cases b with
 | true =>
  obtain ⟨N,hN,q2⟩:=q2
  rw [if_pos rfl]
  refine wpAny_passesOwn hp (dm (hb pins s2 σ1 H2 _ I2 q2) fun f s3 q3=>?_)
  cases f with
  | next =>
   obtain ⟨σ3,H3,I3,n3⟩:=q3
   obtain ⟨m',hm,w3⟩:=hN σ3 H3 n3
   exact ⟨m',hm,σ3,H3,I3,w3⟩
  | cont =>
   obtain ⟨σ3,H3,I3,n3⟩:=q3
   obtain ⟨m',hm,w3⟩:=hN σ3 H3 n3
   exact ⟨m',hm,σ3,H3,I3,w3⟩
  | brk=>exact q3
  | ret v=>exact q3
 | false =>
  rw [if_neg Bool.false_ne_true]
  exact wpAny_execs_nil ⟨σ1,H2,I2,q2⟩
end
structure It where
 go:Nat -> Hp -> Prop
 yld:Nat -> Hp -> V -> Hp -> Prop
 stop:Nat -> Hp -> Prop
def pJ (X:Cx) (pins:List (Addr × Obj)) (H:Hp) (b:Addr):Prop:=
 H b=none /\ b ≠ X.env.locals /\ b ∉ X.fs /\ (b ∈ X.ex \/ X.s₀.heap.objs.size ≤ b) /\ (∀ x c,X.env.cells.lookup x=some c -> c ≠ b) /\ ∀ p ∈ X.pn ++ pins,p.1 ≠ b
theorem Inv.fpOk {X:Cx} {pins:List (Addr × Obj)} {σ:St} {H H':Hp} {s:Shared} {b:Addr} (I:Inv X pins σ H s) (hb:s.heap.objs.size ≤ b) (hn:H' b=none):pJ X pins H' b:=by
 refine ⟨hn,Nat.ne_of_gt (Nat.lt_of_lt_of_le I.lt hb),I.nofs hb,.inr (Nat.le_trans I.sz hb),fun x c e z=>?_,fun p hp z=>?_⟩
 ·obtain ⟨v,q⟩:=I.cell x c e
  exact absurd (Nat.lt_of_lt_of_le q.lt (by rw [z]; exact hb)) (Nat.lt_irrefl _)
 ·exact absurd (Nat.lt_of_lt_of_le (Heap.lt_size (I.pin p hp).1) (by rw [z]; exact hb)) (Nat.lt_irrefl _)
structure Turn (P:Program) (w:World) (K:PySem.W.Frag) (tg:Expr) (J:It) (fp:List Addr) (it:Addr) (tn:Nat -> Heap -> Prop):Prop where
 mem:it ∈ fp
 obj:∀ i h,tn i h -> ∀ b ∈ fp,∃ o,h.get? b=some o /\ ∀ v,o.data ≠ .cell v
 keep:∀ i h h',tn i h -> (∀ b ∈ fp,∀ o,h.get? b=some o -> h'.get? b=some o) -> tn i h'
 item:∀ (X:Cx),X.prog=P -> X.w=w -> X.K=K -> X.calm=true -> ∀ (i:Nat) (pins:List (Addr × Obj)) (s:Shared) (σ:St) (H:Hp) (E:Value -> Shared -> Prop),Inv X pins σ H s -> (∀ b ∈ fp,pJ X pins H b) -> tn i s.heap -> J.go i H ->
  wpAny (model P w) X.A (pyNext (.ref it)) (fun r s1=>∃ u,r=some u /\
   wpAny (model P w) X.A (letOwnedTupleGo tg (.ref it) u) (fun _ s2=>∃ x H',Inv X pins σ H' s2 /\ RelV x u /\ J.yld i H x H' /\ tn (i + 1) s2.heap /\ ∀ b ∈ fp,H' b=none) E s1) E s
 done:∀ (X:Cx),X.prog=P -> X.w=w -> X.K=K -> X.calm=true -> ∀ (i:Nat) (pins:List (Addr × Obj)) (s:Shared) (σ:St) (H:Hp) (E:Value -> Shared -> Prop),Inv X pins σ H s -> (∀ b ∈ fp,pJ X pins H b) -> tn i s.heap -> J.stop i H ->
  wpAny (model P w) X.A (pyNext (.ref it)) (fun r s1=>r=none /\ Inv X pins σ H s1) E s
 self:∀ (A:Around) (i:Nat) (s:Shared) (Q:Value -> Shared -> Prop) (E:Value -> Shared -> Prop),tn i s.heap -> Q (.ref it) s -> wpAny (model P w) A (pyIter (.ref it)) Q E s
abbrev TI:=St -> Hp -> (It -> Hp -> Prop) -> Prop
def JS (X:Cx) (pins:List (Addr × Obj)) (σ:St) (tg:Expr) (R:It -> Hp -> Prop) (itv:Value) (s2:Shared):Prop:=
 ∃ (it:Addr) (fp:List Addr) (tn:Nat -> Heap -> Prop) (J:It) (H':Hp),itv=.ref it /\ Inv X pins σ H' s2 /\ Turn X.prog X.w X.K tg J fp it tn /\ tn 0 s2.heap /\ (∀ b ∈ fp,pJ X pins H' b) /\ R J H'
def PI (X:Cx) (tg iter:Expr) (wi:TI):Prop:=
 ∀ (pins:List (Addr × Obj)) (s:Shared) (σ:St) (H:Hp) (R:It -> Hp -> Prop),Inv X pins σ H s -> wi σ H R ->
  wpAny (model X.prog X.w) X.A (eval iter X.env) (fun v s1=>wpAny (model X.prog X.w) X.A (pyIter v) (JS X pins σ tg R) X.xe s1) X.xe s
theorem xO {M:Model} {A:Around} {E:Value -> Shared -> Prop} {s:Shared} {tg:Expr} {it:Addr} {u:Value} {o:Obj} {n:String} {vs:Array Value} {Q:Unit -> Shared -> Prop} (ho:s.heap.get? it=some o) (hc:o.cls=.type n) (hd:o.data=.fields vs)
    (hn:["enumerate", "zip", "dict_itemiterator", "dict_reverseitemiterator", "odict_iterator", "itertools.zip_longest", "itertools.pairwise"].contains n=false) (hQ:Q () s):wpAny M A (letOwnedTupleGo tg (.ref it) u) Q E s:=by
  unfold letOwnedTupleGo
  cases tg <;> first
    | exact wpAny_pure hQ
    | (cases u <;> first
        | exact wpAny_pure hQ
        | (refine wpAny_bind (wpAny_load ho ?_)
           rw [hc,hd]
           show wpAny M A (if (["enumerate", "zip", "dict_itemiterator", "dict_reverseitemiterator", "odict_iterator", "itertools.zip_longest", "itertools.pairwise"].contains n && vs[0]? == some (rawInt _))=true then _ else _) Q E s
           rw [if_neg (by intro h; rw [hn,Bool.false_and] at h; cases h)]
           exact wpAny_pure hQ))
def Jc (K:PySem.W.Frag) (a:Addr):It:=
 ⟨fun i H=>∃ xs x,fF K H a xs /\ xs[i]? = some x,fun i H x H'=>H'=H /\ ∀ xs,fF K H a xs -> xs[i]? = some x,fun i H=>∃ xs,fF K H a xs /\ xs.length ≤ i⟩
def Jd (K:PySem.W.Frag) (a:Addr):It:=
 ⟨fun i H=>∃ xs x,jO K H a xs /\ xs[i]? = some x,fun i H x H'=>H'=H /\ ∀ xs,jO K H a xs -> xs[i]? = some x,fun i H=>∃ xs,jO K H a xs /\ xs.length ≤ i⟩
def Hl (lo:Int) (n:Nat):It:=⟨fun i _=>i < n,fun i H x H'=>H'=H /\ x=.int (lo + i),fun i _=>n ≤ i⟩
theorem Aa {P:Program} {w:World} {K:PySem.W.Frag} {tg:Expr} (a it:Addr):Turn P w K tg (Jc K a) [it] it (fun i h=>h.IsListIter it a i) where
 mem:=by simp
 obj:=fun i h st b hb=>by
  have e:b=it:=by simpa using hb
  subst e
  obtain ⟨o,e,c,d⟩:=st
  exact ⟨o,e,fun v z=>by rw [d] at z; cases z⟩
 keep:=fun i h h' st k=>st.at fun o e=>k it (by simp) o e
 item:=by
  intro X hP hw hK hc i pins s σ H E I hf st hg
  subst hP hw hK
  obtain ⟨xs,x,hq,hx⟩:=hg
  obtain ⟨its,rv,p,hz⟩:=I.list hq
  obtain ⟨u,hu,ru⟩:=rv.get hx
  obtain ⟨f0,f1,f2,f3,f4,f5⟩:=hf it (by simp)
  refine wpAny_pyNext_list_item st p.isList (x:=u) (by simpa using hu) fun h' st' sb=>?_
  have I1:Inv X pins σ H { s with heap:=h' }:=I.turned (t':=s.toks) (fun b o hb e=>(sb.2 b hb).trans e) f0 f1 f3 f4 f5
  obtain ⟨o,e,c,d⟩:=id st'
  exact ⟨u,rfl,xO (s:={ s with heap:=h' }) e c d (by decide) ⟨x,H,I1,ru,⟨rfl,fun ys hy=>by rw [I.list_inj hy hq]; exact hx⟩,st',fun b hb=>(hf b hb).1⟩⟩
 done:=by
  intro X hP hw hK hc i pins s σ H E I hf st hg
  subst hP hw hK
  obtain ⟨xs,hq,hx⟩:=hg
  obtain ⟨its,rv,p,hz⟩:=I.list hq
  obtain ⟨f0,f1,f2,f3,f4,f5⟩:=hf it (by simp)
  have hl:=rv.length
  exact wpAny_pyNext_list_end (I.ok.hd hc) st p.isList (by simp; omega) fun h' eb=>⟨rfl,I.turned (t':=s.toks) (fun b o hb e=>eb b o hb e) f0 f1 f3 f4 f5⟩
 self:=fun _ _ _ _ _ st h=>wpAny_pyIter_listiter st h
theorem wW {P:Program} {w:World} {K:PySem.W.Frag} {tg:Expr} (a it:Addr):Turn P w K tg (Jd K a) [it] it (fun i h=>h.IsTupleIter it a i) where
 mem:=by simp
 obj:=fun i h st b hb=>by
  have e:b=it:=by simpa using hb
  subst e
  obtain ⟨o,e,c,d⟩:=st
  exact ⟨o,e,fun v z=>by rw [d] at z; cases z⟩
 keep:=fun i h h' st k=>st.at fun o e=>k it (by simp) o e
 item:=by
  intro X hP hw hK hc i pins s σ H E I hf st hg
  subst hP hw hK
  obtain ⟨xs,x,hq,hx⟩:=hg
  obtain ⟨its,rv,p,hz⟩:=I.tuple hq
  obtain ⟨u,hu,ru⟩:=rv.get hx
  obtain ⟨f0,f1,f2,f3,f4,f5⟩:=hf it (by simp)
  refine wpAny_pyNext_tuple_item st (show s.heap.IsTuple a its.toArray from p) (x:=u) (by simpa using hu) fun h' st' sb=>?_
  have I1:Inv X pins σ H { s with heap:=h' }:=I.turned (t':=s.toks) (fun b o hb e=>(sb.2 b hb).trans e) f0 f1 f3 f4 f5
  obtain ⟨o,e,c,d⟩:=id st'
  exact ⟨u,rfl,xO (s:={ s with heap:=h' }) e c d (by decide) ⟨x,H,I1,ru,⟨rfl,fun ys hy=>by rw [I.tuple_inj hy hq]; exact hx⟩,st',fun b hb=>(hf b hb).1⟩⟩
 done:=by
  intro X hP hw hK hc i pins s σ H E I hf st hg
  subst hP hw hK
  obtain ⟨xs,hq,hx⟩:=hg
  obtain ⟨its,rv,p,hz⟩:=I.tuple hq
  obtain ⟨f0,f1,f2,f3,f4,f5⟩:=hf it (by simp)
  have hl:=rv.length
  exact wpAny_pyNext_tuple_end (I.ok.hd hc) st (show s.heap.IsTuple a its.toArray from p) (by simp; omega) fun h' eb=>⟨rfl,I.turned (t':=s.toks) (fun b o hb e=>eb b o hb e) f0 f1 f3 f4 f5⟩
 self:=fun _ _ _ _ _ st h=>wpAny_pyIter_tupleiter st h
theorem wV {P:Program} {w:World} {K:PySem.W.Frag} {tg:Expr} (it:Addr) (lo:Int) (n:Nat):Turn P w K tg (Hl lo n) [it] it (fun i h=>IsRangeIter h it (lo + (i:Nat) * 1) ((n:Int) - (i:Nat)) 1) where
 mem:=by simp
 obj:=fun i h st b hb=>by
  have e:b=it:=by simpa using hb
  subst e
  exact ⟨_,st,fun v z=>by
   have z':Data.fields _=Data.cell v:=z
   cases z'⟩
 keep:=fun i h h' st k=>k it (by simp) _ st
 item:=by
  intro X hP hw hK hc i pins s σ H E I hf st hg
  subst hP hw hK
  obtain ⟨f0,f1,f2,f3,f4,f5⟩:=hf it (by simp)
  have W:=Walks.range (prog:=X.prog) (w:=X.w) (I.ok.hd hc) it lo 1 n
  refine W.item i s _ _ hg st fun v h' tk hv st' kk=>?_
  obtain ⟨t,rfl⟩:=hv
  have I1:Inv X pins σ H { s with heap:=h',toks:=tk }:=I.turned (fun b o hb e=>kk b o (by simpa using hb) e) f0 f1 f3 f4 f5
  refine ⟨_,rfl,xO (s:={ s with heap:=h',toks:=tk }) (n := "range_iterator") st' rfl rfl (by decide) ⟨.int (lo + i),H,I1,⟨t,?_⟩,⟨rfl,rfl⟩,st',fun b hb=>(hf b hb).1⟩⟩
  rw [Int.mul_one]
 done:=by
  intro X hP hw hK hc i pins s σ H E I hf st hg
  subst hP hw hK
  obtain ⟨f0,f1,f2,f3,f4,f5⟩:=hf it (by simp)
  exact wpAny_pyNext_range_end (I.ok.hd hc) st (by have:n ≤ i:=hg; omega) fun h' eb=>⟨rfl,I.turned (t':=s.toks) (fun b o hb e=>eb b o hb e) f0 f1 f3 f4 f5⟩
 self:=fun _ _ _ _ _ st h=>wpAny_pyIter_rangeiter st h
open PySem PySem.Spec PyProof.Rows
section
variable {X:Cx} {tg:Expr}
def HG (K:PySem.W.Frag) (tl:TE):TI:=fun σ H R=>tl σ H fun x H1=>∃ a,x=.ref a /\ (∃ xs,fF K H1 a xs) /\ R (Jc K a) H1
def Jp (K:PySem.W.Frag) (tl:TE):TI:=fun σ H R=>tl σ H fun x H1=>∃ a,x=.ref a /\ (∃ xs,jO K H1 a xs) /\ R (Jd K a) H1
theorem DI {l:Expr} {tl:TE} (hl:PE X l tl):PI X tg l (HG X.K tl):=by
 intro pins s σ H R I h
 refine dm (hl pins s σ H _ I h) fun v s1 ⟨x,H1,I1,r1,q1⟩=>?_
 obtain ⟨a,e,⟨xs,hq⟩,q⟩:=q1
 subst e
 cases r1
 obtain ⟨its,rv,p,hz⟩:=I1.list hq
 refine wpAny_pyIter_list p.isList ?_
 refine ⟨s1.heap.objs.size,[s1.heap.objs.size],_,_,H1,rfl,I1.kept (t':=s1.toks) fun b o e=>Heap.get?_push_of_some _ e,Aa a _,⟨_,Heap.get?_push_size _ rfl,rfl,rfl⟩,fun b hb=>?_,q⟩
 have e:b=s1.heap.objs.size:=by simpa using hb
 subst e
 exact I1.fpOk (Nat.le_refl _) (I1.hok.fresh (Nat.le_refl _))
theorem Gh {l:Expr} {tl:TE} (hl:PE X l tl):PI X tg l (Jp X.K tl):=by
 intro pins s σ H R I h
 refine dm (hl pins s σ H _ I h) fun v s1 ⟨x,H1,I1,r1,q1⟩=>?_
 obtain ⟨a,e,⟨xs,hq⟩,q⟩:=q1
 subst e
 cases r1
 obtain ⟨its,rv,p,hz⟩:=I1.tuple hq
 refine wpAny_pyIter_tuple (show s1.heap.IsTuple a its.toArray from p) ?_
 refine ⟨s1.heap.objs.size,[s1.heap.objs.size],_,_,H1,rfl,I1.kept (t':=s1.toks) fun b o e=>Heap.get?_push_of_some _ e,wW a _,⟨_,Heap.get?_push_size _ rfl,rfl,rfl⟩,fun b hb=>?_,q⟩
 have e:b=s1.heap.objs.size:=by simpa using hb
 subst e
 exact I1.fpOk (Nat.le_refl _) (I1.hok.fresh (Nat.le_refl _))
theorem u0 {pins:List (Addr × Obj)} {σ:St} {H:Hp} {s:Shared} {R:It -> Hp -> Prop} {E:Value -> Shared -> Prop} {lo hi:Int} {t u v:Tok} {tk:Nat} (I:Inv X pins σ H s) (h1 : -(2 ^ 62) ≤ lo) (h2:lo < 2 ^ 62) (h3 : -(2 ^ 62) ≤ hi) (h4:hi < 2 ^ 62)
  (q:R (Hl lo (hi - lo).toNat) H):wpAny (model X.prog X.w) X.A (pyIter (.ref s.heap.objs.size)) (JS X pins σ tg R) E { s with heap:=s.heap.push { cls:=.type "range", data:=.fields #[.int lo t,.int hi u,.int 1 v] },toks:=tk }:=by
 refine wpAny_pyIter_range (IsRange.new ..) (small_one h1 h2 h3 h4) ?_
 have I1:Inv X pins σ H { s with heap:=s.heap.push { cls:=.type "range", data:=.fields #[.int lo t,.int hi u,.int 1 v] },toks:=tk }:=I.kept fun b o e=>Heap.get?_push_of_some _ e
 refine ⟨(s.heap.push { cls:=.type "range", data:=.fields #[.int lo t,.int hi u,.int 1 v] }).objs.size,[(s.heap.push { cls:=.type "range", data:=.fields #[.int lo t,.int hi u,.int 1 v] }).objs.size],_,_,H,rfl,
  I1.kept (t':=tk) fun b o e=>Heap.get?_push_of_some _ e,wV _ lo (hi - lo).toNat,?_,fun b hb=>?_,q⟩
 ·have e1:lo + ((0:Nat):Int) * 1=lo:=by simp
  have e2:(((hi - lo).toNat:Nat):Int) - ((0:Nat):Int)=Builtin.Range.rangeSize lo hi 1:=by rw [rangeSize_one]; split <;> omega
  show IsRangeIter _ _ (lo + ((0:Nat):Int) * 1) ((((hi - lo).toNat:Nat):Int) - ((0:Nat):Int)) 1
  rw [e1,e2]
  exact Heap.get?_push_size _ rfl
 ·have e:b=(s.heap.push { cls:=.type "range", data:=.fields #[.int lo t,.int hi u,.int 1 v] }).objs.size:=by simpa using hb
  subst e
  exact I1.fpOk (Nat.le_refl _) (I1.hok.fresh (Nat.le_refl _))
def HH (ta:TA):TI:=fun σ H R=>ta σ H fun vs H1=>∃ j:Int,vs=[.int j] /\ -(2 ^ 62) ≤ j /\ j < 2 ^ 62 /\ R (Hl 0 j.toNat) H1
def HI (ta:TA):TI:=fun σ H R=>ta σ H fun vs H1=>∃ i j:Int,vs=[.int i,.int j] /\ (-(2 ^ 62) ≤ i /\ i < 2 ^ 62 /\ -(2 ^ 62) ≤ j /\ j < 2 ^ 62) /\ R (Hl i (j - i).toNat) H1
theorem zI {a:Expr} {ta:TA} {p pos:Pos} (hg:Gl X "range") (hm:X.mg "range" = none) (ha:PA X [a] ta) (hs:starEach [a] X.env=[(false,eval a X.env)]:=by rfl):PI X tg (.Call (.Name "range" p) [a] [] pos) (HH ta):=by
 intro pins s σ H R I h
 refine Call_ (iG I hg hm boot_range (PyProof.Rows.callWith_type1 (dm (ha pos pins s σ H _ I h) fun us s1 ⟨vs,H1,I1,r1,q1⟩=>?_) hs rfl))
 obtain ⟨j,e,q1,q2,q⟩:=q1
 subst e
 cases r1 with
 | cons r rr =>
  cases rr
  obtain ⟨t,rfl⟩:=r
  exact call_range_1 (u0 I1 (by omega) (by omega) q1 q2 (by simpa using q))
theorem zJ {a b:Expr} {ta:TA} {p pos:Pos} (hg:Gl X "range") (hm:X.mg "range" = none) (ha:PA X [a,b] ta) (hs:starEach [a,b] X.env=[(false,eval a X.env),(false,eval b X.env)]:=by rfl) (hs2:starEach [b] X.env=[(false,eval b X.env)]:=by rfl) :
  PI X tg (.Call (.Name "range" p) [a,b] [] pos) (HI ta):=by
 intro pins s σ H R I h
 refine Call_ (iG I hg hm boot_range (PyProof.Rows.callWith_type1 (dm (ha pos pins s σ H _ I h) fun us s1 ⟨vs,H1,I1,r1,q1⟩=>?_) (by rw [hs,hs2]) (by rw [hs2]; rfl)))
 obtain ⟨i,j,e,⟨q1,q2,q3,q4⟩,q⟩:=q1
 subst e
 cases r1 with
 | cons r rr =>
  cases rr with
  | cons r' rr =>
   cases rr
   obtain ⟨t,rfl⟩:=r
   obtain ⟨t',rfl⟩:=r'
   exact call_range_2 (u0 I1 q1 q2 q3 q4 q)
def JF (wi:TI) (g:TG) (tb:TS):TS:=fun D σ H=>wi σ H fun J H1=>∃ W:Nat -> Nat -> St -> Hp -> Prop,(∃ m,W 0 m σ H1) /\ ∀ i m σ H,W i m σ H ->
 (J.stop i H /\ D.nx σ H) \/ (J.go i H /\ ∃ N:St -> Hp -> Prop,(∀ σ' H',N σ' H' -> ∃ m',m' < m /\ W (i + 1) m' σ' H') /\ ∀ x H',J.yld i H x H' -> g x σ H' fun σ2 H2=>tb { D with nx:=N,ct:=N,bk:=D.nx } σ2 H2)
def lY (fp:List Addr) (h:Heap):List (Addr × Obj):=fp.filterMap fun b=>(h.get? b).map fun o=>(b,o)
theorem fu {fp:List Addr} {h:Heap} {b:Addr} {o:Obj} (hb:b ∈ fp) (e:h.get? b=some o):(b,o) ∈ lY fp h:=List.mem_filterMap.mpr ⟨b,hb,by rw [e]; rfl⟩
theorem zC {fp:List Addr} {h:Heap} {p:Addr × Obj} (hp:p ∈ lY fp h):p.1 ∈ fp /\ h.get? p.1=some p.2:=by
 obtain ⟨b,hb,e⟩:=List.mem_filterMap.mp hp
 cases q:h.get? b with
 | none=>rw [q] at e; cases e
 | some o =>
  rw [q] at e
  have e':(b,o)=p:=Option.some.inj e
  subst e'
  exact ⟨hb,q⟩
theorem Inv.pinned {pins:List (Addr × Obj)} {σ:St} {H:Hp} {s:Shared} {fp:List Addr} (I:Inv X pins σ H s) (hf:∀ b ∈ fp,pJ X pins H b) (ho:∀ b ∈ fp,∃ o,s.heap.get? b=some o /\ ∀ v,o.data ≠ .cell v):Inv X (pins ++ lY fp s.heap) σ H s:=
 I.pins_of fun p hp=>(List.mem_append.mp hp).elim (fun z=>I.pin p (List.mem_append_right _ z)) fun z=>by
  obtain ⟨hb,e⟩:=zC z
  obtain ⟨f0,f1,f2,_⟩:=hf p.1 hb
  obtain ⟨o,e',d⟩:=ho p.1 hb
  rw [e] at e'; cases e'
  exact ⟨e,f0,f1,f2,d⟩
theorem Inv.unpinned {pins pl:List (Addr × Obj)} {σ:St} {H:Hp} {s:Shared} (I:Inv X (pins ++ pl) σ H s):Inv X pins σ H s:=I.pins_of fun p hp=>I.pin p (List.mem_append_right _ (List.mem_append_left _ hp))
theorem Gk {iter:Expr} {body:List Stmt} {wi:TI} {g:TG} {tb:TS} {pos:Pos} (hp:PassesOwn (model X.prog X.w) X.A X.env X.xe) (hc:X.calm=true) (hi:PI X tg iter wi) (hg:PG X tg g) (hb:mR X body tb)
  (hs:∀ x,foldedSetIterable iter X.env x=pure x:=by intro _; rfl):PS X (.For tg iter body [] pos) (JF wi g tb):=by
 intro pins s σ H D I h
 refine wpAny_For (dm (hi pins s σ H _ I h) fun v s1 h1=>dm h1 fun itv s2 h2=>?_) hs
 obtain ⟨it,fp,tn,J,H2,e,I2,T,st2,f2,W,⟨m0,w0⟩,turn⟩:=h2
 subst e
 -- what stays true of the iterator's objects through the loop
 have stat:∀ {H':Hp},(∀ b ∈ fp,H' b=none) -> ∀ b ∈ fp,pJ X pins H' b:=fun hn b hb=>⟨hn b hb,(f2 b hb).2⟩
 refine codeAny_forLoop_any (fun n s'=>∃ i σ' H',Inv X pins σ' H' s' /\ tn i s'.heap /\ (∀ b ∈ fp,H' b=none) /\ W i n σ' H') ?_ m0 ⟨0,σ,H2,I2,st2,fun b hb=>(f2 b hb).1,w0⟩
 rintro n s3 ⟨i,σ3,H3,I3,st3,fr3,w3⟩
 rcases turn i n σ3 H3 w3 with ⟨stop,qn⟩ | ⟨go,N,hN,step⟩
 ·refine wpAny_passesOwn hp (dm (T.done X rfl rfl rfl hc i pins s3 σ3 H3 X.xe I3 (stat fr3) st3 stop) fun r s4 ⟨hr,I4⟩=>?_)
  subst hr
  exact wpAny_execs_nil ⟨σ3,H3,I4,qn⟩
 ·refine wpAny_passesOwn hp (dm (T.item X rfl rfl rfl hc i pins s3 σ3 H3 X.xe I3 (stat fr3) st3 go) fun r s4 ⟨u,hr,h4⟩=>?_)
  subst hr
  refine wpAny_passesOwn hp (dm h4 fun _ s5 ⟨x,H5,I5,r5,y5,st5,fr5⟩=>?_)
  have I5':=I5.pinned (stat fr5) (T.obj _ _ st5)
  refine wpAny_passesOwn hp (dm (hg _ s5 σ3 H5 x u _ I5' r5 (step x H5 y5)) fun _ s6 ⟨σ6,H6,I6,q6⟩=>?_)
  refine wpAny_passesOwn hp (dm (hb _ s6 σ6 H6 _ I6 q6) fun f s7 q7=>?_)
  have again:∀ {σ7:St} {H7:Hp},Inv X (pins ++ lY fp s5.heap) σ7 H7 s7 -> N σ7 H7 -> ∃ m,m < n /\ ∃ i σ' H',Inv X pins σ' H' s7 /\ tn i s7.heap /\ (∀ b ∈ fp,H' b=none) /\ W i m σ' H':=fun {σ7 H7} I7 n7=>by
   obtain ⟨m',hm,w7⟩:=hN σ7 H7 n7
   refine ⟨m',hm,i + 1,σ7,H7,I7.unpinned,T.keep _ _ _ st5 fun b hb o e=>(I7.pin (b,o) (List.mem_append_right _ (List.mem_append_right _ (fu hb e)))).1,fun b hb=>?_,w7⟩
   obtain ⟨o,e,d⟩:=T.obj _ _ st5 b hb
   exact (I7.pin (b,o) (List.mem_append_right _ (List.mem_append_right _ (fu hb e)))).2.1
  cases f with
  | next=>obtain ⟨σ7,H7,I7,n7⟩:=q7; exact again I7 n7
  | cont=>obtain ⟨σ7,H7,I7,n7⟩:=q7; exact again I7 n7
  | brk=>obtain ⟨σ7,H7,I7,q7⟩:=q7; exact ⟨σ7,H7,I7.unpinned,q7⟩
  | ret v=>obtain ⟨x7,σ7,H7,I7,r7,q7⟩:=q7; exact ⟨x7,σ7,H7,I7.unpinned,r7,q7⟩
end
open PySem PySem.Spec PyProof.Rows
abbrev R2:=V -> V -> Hp -> VK -> Prop
def nJ (X:Cx) (f:Value -> Value -> Sem Value) (r:R2):Prop:=
 ∀ (pins:List (Addr × Obj)) (s:Shared) (σ:St) (H:Hp) (x y:V) (v u:Value) (Q:VK),Inv X pins σ H s -> RelV x v -> RelV y u -> r x y H Q ->
  wpAny (model X.prog X.w) X.A (f v u) (EP X pins σ Q) X.xe s
def IL (X:Cx) (f:Value -> Sem Value) (r:V -> Hp -> VK -> Prop):Prop:=
 ∀ (pins:List (Addr × Obj)) (s:Shared) (σ:St) (H:Hp) (x:V) (v:Value) (Q:VK),Inv X pins σ H s -> RelV x v -> r x H Q ->
  wpAny (model X.prog X.w) X.A (f v) (EP X pins σ Q) X.xe s
def gw (X:Cx) (f:Value) (r:List V -> Hp -> VK -> Prop):Prop:=
 ∀ (pins:List (Addr × Obj)) (s:Shared) (σ:St) (H:Hp) (xs:List V) (us:List Value) (Q:VK),Inv X pins σ H s -> Vals xs us -> r xs H Q ->
  wpAny (model X.prog X.w) X.A (call f us) (EP X pins σ Q) X.xe s
def Jh (X:Cx) (r:V -> Hp -> (Bool -> Hp -> Prop) -> Prop):Prop:=
 ∀ (pins:List (Addr × Obj)) (s:Shared) (σ:St) (H:Hp) (x:V) (v:Value) (Q:Bool -> Hp -> Prop),Inv X pins σ H s -> RelV x v -> r x H Q ->
  wpAny (model X.prog X.w) X.A (truthy v) (TP X pins σ Q) X.xe s
def IA (r:R2) (ta tb:TE):TE:=fun σ H Q=>ta σ H fun x H1=>tb σ H1 fun y H2=>r x y H2 Q
def Kv (r:V -> Hp -> VK -> Prop) (ta:TE):TE:=fun σ H Q=>ta σ H fun x H1=>r x H1 Q
def rI (C:Int -> Int -> Prop) (g:Int -> Int -> V):R2:=fun x y H Q=>∃ i j,x=.int i /\ y=.int j /\ C i j /\ Q (g i j) H
def Gr (g:Int -> Int -> V):R2:=fun x y H Q=>∃ i j,x=.int i /\ y=.int j /\ Q (g i j) H
def rU (g:Int -> V):V -> Hp -> VK -> Prop:=fun x H Q=>∃ i,x=.int i /\ Q (g i) H
section
variable {X:Cx} {a b c:Expr} {ta tb tc:TE} {pos:Pos}
theorem EO (ha:PE X a ta) (hb:PE X b tb) {pins:List (Addr × Obj)} {s:Shared} {σ:St} {H:Hp} {R:V -> V -> Hp -> Prop} (I:Inv X pins σ H s)
  (h:ta σ H fun x H1=>tb σ H1 fun y H2=>R x y H2) {Q:Value -> Shared -> Prop} {f:Value -> Value -> Sem Value}
  (hf:∀ v u s2 x y H2,Inv X pins σ H2 s2 -> RelV x v -> RelV y u -> R x y H2 -> wpAny (model X.prog X.w) X.A (f v u) Q X.xe s2) :
  wpAny (model X.prog X.w) X.A (eval a X.env) (fun v s₁=>wpAny (model X.prog X.w) X.A (eval b X.env) (fun u s₂=>wpAny (model X.prog X.w) X.A (f v u) Q X.xe s₂) X.xe s₁) X.xe s:=by
 refine dm (ha pins s σ H _ I h) fun v s1 ⟨x,H1,I1,r1,q1⟩=>?_
 refine dm (hb pins s1 σ H1 _ I1 q1) fun u s2 ⟨y,H2,I2,r2,q2⟩=>?_
 exact hf v u s2 x y H2 I2 r1 r2 q2
theorem Ia {op:Operator} {r:R2} (ho:nJ X (binaryOp op) r) (ha:PE X a ta) (hb:PE X b tb):PE X (.BinOp a op b pos) (IA r ta tb):=by
 intro pins s σ H Q I h
 exact wpAny_BinOp (EO ha hb I h fun v u s2 x y H2 I2 rx ry q=>ho pins s2 σ H2 x y v u Q I2 rx ry q)
theorem Ie {op:UnaryOp} {r:V -> Hp -> VK -> Prop} (ho:IL X (unaryOp op) r) (ha:PE X a ta):PE X (.UnaryOp op a pos) (Kv r ta):=by
 intro pins s σ H Q I h
 exact UnaryOp_ (dm (ha pins s σ H _ I h) fun v s1 ⟨x,H1,I1,r1,q1⟩=>ho pins s1 σ H1 x v Q I1 r1 q1)
theorem Ju {f:Value -> Value -> Sem Value} {C:Int -> Int -> Prop} {g:Int -> Int -> Int}
  (rule:∀ (i j:Int) (t u:Tok) (s:Shared) (Q:Value -> Shared -> Prop) (E:Value -> Shared -> Prop),C i j -> Q (.int (g i j) s.toks) { s with toks:=s.toks + 1 } -> wpAny (model X.prog X.w) X.A (f (.int i t) (.int j u)) Q E s) :
  nJ X f (rI C fun i j=>.int (g i j)):=by
 intro pins s σ H x y v u Q I rx ry h
 obtain ⟨i,j,rfl,rfl,hc,q⟩:=h
 obtain ⟨t,rfl⟩:=rx
 obtain ⟨t',rfl⟩:=ry
 exact rule i j t t' s _ _ hc ⟨.int (g i j),H,I.tok _,⟨_,rfl⟩,q⟩
theorem HV {f:Value -> Value -> Sem Value} {g:Int -> Int -> Int}
  (rule:∀ (i j:Int) (t u:Tok) (s:Shared) (Q:Value -> Shared -> Prop) (E:Value -> Shared -> Prop),Q (.int (g i j) s.toks) { s with toks:=s.toks + 1 } -> wpAny (model X.prog X.w) X.A (f (.int i t) (.int j u)) Q E s) :
  nJ X f (Gr fun i j=>.int (g i j)):=by
 intro pins s σ H x y v u Q I rx ry h
 obtain ⟨i,j,rfl,rfl,q⟩:=h
 obtain ⟨t,rfl⟩:=rx
 obtain ⟨t',rfl⟩:=ry
 exact rule i j t t' s _ _ ⟨.int (g i j),H,I.tok _,⟨_,rfl⟩,q⟩
theorem HU {f:Value -> Value -> Sem Value} {g:Int -> Int -> Bool}
  (rule:∀ (i j:Int) (t u:Tok) (s:Shared) (Q:Value -> Shared -> Prop) (E:Value -> Shared -> Prop),Q (.bool (g i j)) s -> wpAny (model X.prog X.w) X.A (f (.int i t) (.int j u)) Q E s) :
  nJ X f (Gr fun i j=>.bl (g i j)):=by
 intro pins s σ H x y v u Q I rx ry h
 obtain ⟨i,j,rfl,rfl,q⟩:=h
 obtain ⟨t,rfl⟩:=rx
 obtain ⟨t',rfl⟩:=ry
 exact rule i j t t' s _ _ ⟨.bl (g i j),H,I,rfl,q⟩
def IZ (i j:Int):Prop:=0 ≤ j /\ j ≤ 1000000 /\ i.natAbs < 2 ^ 64
def He (i j:Int):Prop:=(-(2 ^ 64) < i /\ i < 2 ^ 64) \/ (-(2 ^ 64) < j /\ j < 2 ^ 64)
theorem He.ok {i j:Int} (h:He i j):IntMulOk i j:=by
 rcases h with ⟨h1,h2⟩ | ⟨h1,h2⟩
 ·exact .of_left (intBits_le_64 h1 h2)
 ·exact .of_right (intBits_le_64 h1 h2)
theorem FN:nJ X (binaryOp .Add) (Gr fun i j=>.int (i + j)):=HV fun _ _ _ _ _ _ _ q=>add_int q
theorem FR:nJ X (binaryOp .Sub) (Gr fun i j=>.int (i - j)):=HV fun _ _ _ _ _ _ _ q=>sub_int q
theorem DA:nJ X (binaryOp .Mod) (rI (fun _ j=>j ≠ 0) fun i j=>.int (i.fmod j)):=Ju fun _ _ _ _ _ _ _ hc q=>mod_int' hc q
theorem Kw {f:Value -> Sem Value} {g:Int -> Int}
  (rule:∀ (i:Int) (t:Tok) (s:Shared) (Q:Value -> Shared -> Prop) (E:Value -> Shared -> Prop),Q (.int (g i) s.toks) { s with toks:=s.toks + 1 } -> wpAny (model X.prog X.w) X.A (f (.int i t)) Q E s) :
  IL X f (rU fun i=>.int (g i)):=by
 intro pins s σ H x v Q I rx h
 obtain ⟨i,rfl,q⟩:=h
 obtain ⟨t,rfl⟩:=rx
 exact rule i t s _ _ ⟨.int (g i),H,I.tok _,⟨_,rfl⟩,q⟩
theorem G0:IL X (unaryOp .USub) (rU fun i=>.int (-i)):=Kw fun _ _ _ _ _ q=>neg_int q
end
section
variable {X:Cx} {a b c:Expr} {ta tb tc:TE} {pos:Pos}
theorem A4 {pins:List (Addr × Obj)} {σ:St} {H:Hp} {s:Shared} {Q:VK} {k k':Bool} (I:Inv X pins σ H s) (q:Q (.bl k) H) (e:k=k'):EP X pins σ Q (.bool k') s:=by
 subst e
 exact ⟨.bl k,H,I,rfl,q⟩
theorem HX:nJ X (compareOp .Lt) (Gr fun i j=>.bl (decide (i < j))):=HU fun _ _ _ _ _ _ _ q=>lt_int q
theorem HW:nJ X (compareOp .Gt) (Gr fun i j=>.bl (decide (j < i))):=HU fun _ _ _ _ _ _ _ q=>gt_int q
theorem FQ:nJ X (compareOp .Is) (fun x y H Q=>y=.non /\ Q (.bl (decide (x=.non))) H):=by
 intro pins s σ H x y v u Q I rx ry h
 obtain ⟨rfl,q⟩:=h
 cases ry
 refine is_none_gen (A4 I q ?_)
 cases x <;> first
  | (cases rx; rfl)
  | (obtain ⟨t,rfl⟩:=rx; rfl)
theorem DB:nJ X (compareOp .IsNot) (fun x y H Q=>y=.non /\ Q (.bl (!decide (x=.non))) H):=by
 intro pins s σ H x y v u Q I rx ry h
 obtain ⟨rfl,q⟩:=h
 cases ry
 refine isnot_none_gen (A4 I q ?_)
 cases x <;> first
  | (cases rx; rfl)
  | (obtain ⟨t,rfl⟩:=rx; rfl)
theorem nJ.or {f:Value -> Value -> Sem Value} {r r':R2} (h:nJ X f r) (h':nJ X f r'):nJ X f (fun x y H Q=>r x y H Q \/ r' x y H Q):=by
 intro pins s σ H x y v u Q I rx ry q
 rcases q with q | q
 ·exact h pins s σ H x y v u Q I rx ry q
 ·exact h' pins s σ H x y v u Q I rx ry q
theorem bM (b:Expr) {op:CmpOp} (h:op ≠ .In:=by decide) (h2:op ≠ .NotIn:=by decide):behindInMarks op b=false:=by
 have e1:(op == CmpOp.In)=false:=by cases op <;> first | rfl | exact absurd rfl h
 have e2:(op == CmpOp.NotIn)=false:=by cases op <;> first | rfl | exact absurd rfl h2
 cases b <;> simp [behindInMarks,e1,e2]
theorem DF {op:CmpOp} {r:R2} (ho:nJ X (compareOp op) r) (ha:PE X a ta) (hb:PE X b tb) (hm:behindInMarks op b=false):PE X (.Compare a [op] [b] pos) (IA r ta tb):=by
 intro pins s σ H Q I h
 exact wpAny_Compare1 (EO ha hb I h fun v u s2 x y H2 I2 rx ry q=>ho pins s2 σ H2 x y v u Q I2 rx ry q) hm
def IC (t:TE):TT:=fun σ H Q=>t σ H fun x H'=>∃ k,x=.bl k /\ Q k H'
theorem DN {op:CmpOp} {r:R2} (ho:nJ X (compareOp op) r) (ha:PE X a ta) (hb:PE X b tb) (hm:behindInMarks op b=false):PT X (.Compare a [op] [b] pos) (IC (IA r ta tb)):=by
 intro pins s σ H Q I h
 refine wpAny_isTrue_Compare1 (dm (ha pins s σ H _ I h) fun v s1 ⟨x,H1,I1,r1,q1⟩=>dm (hb pins s1 σ H1 _ I1 q1) fun u s2 ⟨y,H2,I2,r2,q2⟩ =>
  dm (ho pins s2 σ H2 x y v u _ I2 r1 r2 q2) fun c s3 ⟨z,H3,I3,r3,k,e,q3⟩=>?_) hm
 subst e
 cases r3
 exact wpAny_truthy_bool ⟨H3,I3,q3⟩
def EK (K:PySem.W.Frag) (x:V) (H:Hp) (k:Bool):Prop:=
 match x with
 | .non=>k=false
 | .bl b=>k=b
 | .int i=>k=(i != 0)
 | .str y=>y.length ≤ sizeLine /\ k=((y.length:Int) != 0)
 | .byt y=>y.size ≤ sizeLine /\ k=((y.size:Int) != 0)
 | .ref p=>(∃ xs,fF K H p xs /\ k = !xs.isEmpty) \/ (∃ xs,jO K H p xs /\ k = !xs.isEmpty) \/ ∃ kvs,H p=some (.dK kvs) /\ k = !kvs.isEmpty
 | _=>False
theorem vX {κ:Type} {kvs:List (κ × V)} {vs:List (κ × Value)} (r:KV kvs vs):(!vs.isEmpty) = !kvs.isEmpty:=by
 cases r <;> rfl
theorem oq {xs:List V} {its:List Value} (r:Vals xs its):(!its.toArray.isEmpty) = !xs.isEmpty:=by
 cases r <;> simp
theorem j7:(sizeLine:Nat) < 2 ^ 63:=by rw [sizeLine_eq]; decide
theorem GY:Jh X (fun x H Q=>∃ k,EK X.K x H k /\ Q k H):=by
 intro pins s σ H x v Q I rx h
 obtain ⟨k,e,q⟩:=h
 have hl:=j7
 have hs:sizeLine=16777216:=sizeLine_eq
 cases x with
 | non =>
  cases rx
  have e':k=false:=e
  subst e'
  exact truthy_none ⟨H,I,q⟩
 | bl b =>
  cases rx
  have e':k=b:=e
  subst e'
  exact wpAny_truthy_bool ⟨H,I,q⟩
 | int i =>
  obtain ⟨t,rfl⟩:=rx
  have e':k=(i != 0):=e
  subst e'
  exact PySem.P.truthy_int ⟨H,I,q⟩
 | str y =>
  obtain ⟨t,rfl⟩:=rx
  obtain ⟨hy,e'⟩:y.length ≤ sizeLine /\ k=((y.length:Int) != 0):=e
  subst e'
  exact PySem.P.truthy_str (by omega) ⟨H,I.tok _,q⟩
 | byt y =>
  obtain ⟨t,rfl⟩:=rx
  obtain ⟨hy,e'⟩:y.size ≤ sizeLine /\ k=((y.size:Int) != 0):=e
  subst e'
  exact PySem.W.truthy_bytes (by omega) ⟨H,I.tok _,q⟩
 | ref p =>
  cases rx
  have e':(∃ xs,fF X.K H p xs /\ k = !xs.isEmpty) \/ (∃ xs,jO X.K H p xs /\ k = !xs.isEmpty) \/ ∃ kvs,H p=some (.dK kvs) /\ k = !kvs.isEmpty:=e
  rcases e' with ⟨xs,hx,e'⟩ | ⟨xs,hx,e'⟩ | ⟨kvs,hx,e'⟩
  ·subst e'
   obtain ⟨its,r,pl,hz⟩:=I.list hx
   have hlen:=r.length
   exact wpAny_truthy_list pl.isList (by simp only [List.size_toArray]; omega) ⟨H,I.tok _,by rw [oq r]; exact q⟩
  ·subst e'
   obtain ⟨its,r,pl,hz⟩:=I.tuple hx
   have hlen:=r.length
   exact truthy_tuple pl (by simp only [List.size_toArray]; omega) ⟨H,I.tok _,by rw [oq r]; exact q⟩
  ·subst e'
   obtain ⟨hz,hS,vs,r,m⟩:kvs.length ≤ sizeLine /\ (p == sysModules)=false /\ ∃ vs,KV kvs vs /\ s.heap.DictOf (sO X.prog X.w) p vs:=I.hok p _ hx
   have hlen:kvs.length=vs.length:=Paired.length r
   exact wpAny_truthy_dict hS m (by omega) ⟨H,I.tok _,by rw [vX r]; exact q⟩
 | _=>exact (show False from e).elim
theorem BW (ha:PE X a ta) (he:∀ whole,isTrue a X.env whole=(do let v <- whole; standAt a.pos; holding [v] (truthy v))) :
  PT X a (fun σ H Q=>ta σ H fun x H'=>∃ k,EK X.K x H' k /\ Q k H'):=by
 intro pins s σ H Q I h
 exact isTrue_plain (dm (ha pins s σ H _ I h) fun v s1 ⟨x,H1,I1,r1,q1⟩=>GY pins s1 σ H1 x v Q I1 r1 q1) (he _)
theorem wB:nJ X (binaryOp .Add) (fun x y H Q=>∃ i j,x=.str i /\ y=.str j /\ i.length + j.length ≤ sizeLine /\ Q (.str (i ++ j)) H):=by
 intro pins s σ H x y v u Q I rx ry h
 obtain ⟨i,j,rfl,rfl,hz,q⟩:=h
 obtain ⟨t,rfl⟩:=rx
 obtain ⟨t',rfl⟩:=ry
 exact add_str (fun t' tk=>⟨.str (i ++ j),H,I.tok _,⟨_,rfl⟩,q⟩) hz
theorem vals1 {x:V} {us:List Value} (r:Vals [x] us):∃ u,us=[u] /\ RelV x u:=by
 cases r with
 | cons r1 r2=>cases r2; exact ⟨_,rfl,r1⟩
theorem vals2 {x y:V} {us:List Value} (r:Vals [x,y] us):∃ u w',us=[u,w'] /\ RelV x u /\ RelV y w':=by
 cases r with
 | cons r1 r2 =>
  cases r2 with
  | cons r3 r4=>cases r4; exact ⟨_,_,rfl,r1,r3⟩
theorem Ax:gw X (.builtin "abs") (fun xs H Q=>∃ i,xs=[.int i] /\ Q (.int (if i < 0 then -i else i)) H):=by
 intro pins s σ H xs us Q I r h
 obtain ⟨i,rfl,q⟩:=h
 obtain ⟨u,rfl,t,rfl⟩:=vals1 r
 exact call_abs_int fun u tk=>⟨.int (if i < 0 then -i else i),H,I.tok _,⟨_,rfl⟩,q⟩
theorem zc (hc:X.calm=true):gw X (.builtin "max") (fun xs H Q=>∃ i j,xs=[.int i,.int j] /\ Q (.int (if j > i then j else i)) H):=by
 intro pins s σ H xs us Q I r h
 obtain ⟨i,j,rfl,q⟩:=h
 obtain ⟨u,w',rfl,⟨t,rfl⟩,⟨t',rfl⟩⟩:=vals2 r
 refine max_two_ints (I.ok.hd hc) fun h' tk k=>⟨_,H,I.kept k,?_,q⟩
 by_cases hj:j > i
 ·rw [if_pos hj,if_pos hj]; exact ⟨_,rfl⟩
 ·rw [if_neg hj,if_neg hj]; exact ⟨_,rfl⟩
theorem zi (hc:X.calm=true):gw X (.builtin "min") (fun xs H Q=>∃ i j,xs=[.int i,.int j] /\ Q (.int (if j < i then j else i)) H):=by
 intro pins s σ H xs us Q I r h
 obtain ⟨i,j,rfl,q⟩:=h
 obtain ⟨u,w',rfl,⟨t,rfl⟩,⟨t',rfl⟩⟩:=vals2 r
 refine min_two_ints (I.ok.hd hc) fun h' tk k=>⟨_,H,I.kept k,?_,q⟩
 by_cases hj:j < i
 ·rw [if_pos hj,if_pos hj]; exact ⟨_,rfl⟩
 ·rw [if_neg hj,if_neg hj]; exact ⟨_,rfl⟩
end
open PySem PySem.Spec PyProof.Rows
structure Hn (h:Heap) (x dx C:Addr) (mA:Str -> Option Value):Prop where
 obj:h.get? x=some (PySem.W.instObj C dx)
 ns:h.Ns1 dx mA
 ne:dx ≠ x
theorem zx {h:Heap} {dx:Addr} {mA:Str -> Option Value} (n:h.Ns1 dx mA):∃ od,h.get? dx=some od /\ ∀ name,PySem.W.lookIn name od=some (mA name):=by
 obtain ⟨o,es,ep,ho,hd,hk,_,hm⟩:=n
 refine ⟨o,ho,fun name=>?_⟩
 have e:=hm name
 unfold nsFind findBy at e
 rw [<- Array.find?_toList] at e
 unfold PySem.W.lookIn
 rw [hd]
 dsimp only
 split
 ·rename_i y q
  rw [q] at e
  exact congrArg some e
 ·rename_i q
  rw [q] at e
  have a:es.toList.any (·.refKey)=false:=by
   rw [List.any_eq_false]
   intro y hy
   obtain ⟨z,t,hkey⟩:=hk y (Array.mem_toList_iff.mp hy)
   simp [DictEntry.refKey,hkey]
  have a':¬ es.toList.any (·.refKey)=true:=by rw [a]; exact Bool.false_ne_true
  rw [if_neg a']
  exact congrArg some e
theorem Hn.look {h:Heap} {x dx C:Addr} {mA:Str -> Option Value} (I:Hn h x dx C mA):∃ od,PySem.W.InstAt h x (PySem.W.instObj C dx) C (some od) /\ ∀ name,PySem.W.lookIn name od=some (mA name):=
 let ⟨od,ho,hl⟩:=zx I.ns
 ⟨od,⟨I.obj,rfl,rfl,ho⟩,hl⟩
section
variable {prog:Program} {w:World} {A:Around} {E:Value -> Shared -> Prop} {s:Shared} {K:PySem.W.Frag} {x dx C f:Addr} {mA:Str -> Option Value} {name:Str} {v:Value}
end
section
variable {P:Program} {w:World} {H H':Hp} {h h':Heap} {a C dx:Addr} {fs fs':List (Str × V)}
end
structure Hf (K:PySem.W.Frag) (C:Addr):Prop where
 pg:PySem.W.plainGet K C Str.empty=true
 hd:PySem.W.hasDictIn K C=true
 po:PySem.W.plainOver K C=true
 sa:PySem.W.findIn K (.ref C) "__setattr__" = some (some (.builtin "object.__setattr__"))
theorem Hf.get {K:PySem.W.Frag} {C:Addr} (c:Hf K C) (f:Str):PySem.W.plainGet K C f=true:=c.pg
structure Kx (K:PySem.W.Frag) (C:Addr) (f:Str) (v:V) (u:Value):Prop where
 at_:PySem.W.findIn K (.ref C) f=some (some u)
 rel:RelV v u
 get:PySem.W.specialIn K u "__get__" = some none
 cp:PySem.W.copiedNames.contains f=false
structure Meth (K:PySem.W.Frag) (C:Addr) (m:Str) (f:Addr):Prop where
 at_:PySem.W.findIn K (.ref C) m=some (some (.ref f))
 fn:PySem.W.isFn K (.ref f)=true
 kp:PySem.W.keepIn K (.ref f)=true
section
variable {X:Cx} {pins:List (Addr × Obj)} {σ:St} {H:Hp} {s:Shared} {a C dx:Addr} {fs:List (Str × V)} {f:Str} {v:V} {A:Around} {E:Value -> Shared -> Prop}
end
section
variable {X:Cx} {o e value:Expr} {f:Str} {pos pos' tpos:Pos} {ta tv:TE}
end
section
variable {X:Cx} {pins:List (Addr × Obj)} {σ:St} {H:Hp} {s:Shared} {A:Around} {E:Value -> Shared -> Prop} {Q:Value -> Shared -> Prop} {c:Value} {b:Bool}
inductive nK (K:PySem.W.Frag) (H:Hp):V -> Value -> Prop where
 | non:nK K H .non (.type "NoneType")
 | bl (x:Bool):nK K H (.bl x) (.type "bool")
 | int (i:Int):nK K H (.int i) (.type "int")
 | str (x:Str):nK K H (.str x) (.type "str")
 | flt (x:UInt64):nK K H (.flt x) (.type "float")
 | lst {a:Addr} {xs:List V} (e:H a=some (.lst xs)):nK K H (.ref a) (.type "list")
 | frz {a:Addr} {o:Obj} {xs:List V} (e:H a=some (.frz o (.lst xs))):nK K H (.ref a) (.type "list")
 | tup {a:Addr} {xs:List V} (e:H a=some (.tup xs)):nK K H (.ref a) (.type "tuple")
 | dK {a:Addr} {kvs:List (Key × V)} (e:H a=some (.dK kvs)):nK K H (.ref a) (.type "dict")
 | dT {a:Addr} {kvs:List (List Key × V)} (e:H a=some (.dT kvs)):nK K H (.ref a) (.type "dict")
 | ins {a C dx:Addr} {fs:List (Str × V)} (e:H a=some (.ins C dx fs)) (cl:Hf K C) (ha:PySem.W.findIn K (.ref C) "__class__" = some (some (.builtin "object.__class__")))
   (hn:PySem.W.specialIn K (.builtin "object.__class__") "__get__" = some (some (.builtin "getset_descriptor.__get__"))) (htk:PySem.W.takesIn K (.builtin "object.__class__")=some true)
   (hm:PySem.W.mroIn K C (.type "object")=some true):nK K H (.ref a) (.ref C)
end
open PySem PySem.Spec PyProof.Rows
structure eY (k:Nat) (A:Around):Prop where
 hd:A.handled=none
 dp:A.depth + 3 * k + 5 < recursionLimit
 un:A.units + 16 * k + 200 < cLine
theorem eY.mono {j k:Nat} {A:Around} (r:eY k A) (h:j ≤ k):eY j A:=⟨r.hd,by have:=r.dp; omega,by have:=r.un; omega⟩
theorem eY.deeper {k:Nat} {A:Around} (r:eY (k + 1) A) (env:Env):eY k (A.deeper env):=
 ⟨r.hd,by have:=r.dp; show A.depth + 1 + 3 * k + 5 < _; omega,by have:=r.un; show A.units + 3 + 16 * k + 200 < _; omega⟩
theorem eY.in1 {k:Nat} {A:Around} (r:eY (k + 1) A):eY k A.in1:=
 ⟨r.hd,by have:=r.dp; show A.depth + 3 * k + 5 < _; omega,by have:=r.un; show A.units + 1 + 16 * k + 200 < _; omega⟩
theorem eY.depth {k:Nat} {A:Around} (r:eY k A):A.depth < recursionLimit:=by have:=r.dp; omega
theorem eY.units {k:Nat} {A:Around} (r:eY k A):A.units + 64 < cLine:=by have:=r.un; omega
def JI:TA:=fun _ H Q=>Q [] H
def Iv (ta:TE) (tr:TA):TA:=fun σ H Q=>ta σ H fun x H1=>tr σ H1 fun xs H2=>Q (x :: xs) H2
section
variable {X:Cx} {e:Expr} {es:List Expr} {te:TE} {t:TA} {pos:Pos}
theorem oQ:PA X [] JI:=fun _ _ _ _ H Q I h=>Calls.spliced_nil ⟨[],H,I,.nil,h⟩
theorem k8 (ha:PE X e te) (hr:PA X es t) (hs:starEach (e :: es) X.env=(false,eval e X.env) :: starEach es X.env:=by rfl):PA X (e :: es) (Iv te t):=by
 intro pos pins s σ H Q I h
 rw [hs]
 show wpAny _ _ (spliced ((false,eval e X.env) :: backTo pos (starEach es X.env))) _ _ s
 refine Calls.spliced_cons (dm (ha pins s σ H _ I h) fun u s1 ⟨x,H1,I1,r1,q1⟩=>?_)
 exact dm (hr pos pins s1 σ H1 _ I1 q1) fun us s2 ⟨xs,H2,I2,r2,q2⟩=>⟨x :: xs,H2,I2,.cons r1 r2,q2⟩
def JN (t:TA):TE:=fun σ H Q=>t σ H fun xs H1=>xs.length ≤ sizeLine /\ ∀ p,H1 p=none -> Q (.ref p) (upd H1 p (.tup xs))
def JH (t:TA):TE:=fun σ H Q=>t σ H fun xs H1=>xs.length ≤ sizeLine /\ ∀ p,H1 p=none -> Q (.ref p) (upd H1 p (.lst xs))
theorem Gb {x1} (h:PA X es t):PE X (.Tuple es x1 pos) (JN t):=by
 intro pins s σ H Q I hq
 refine wpAny_Tuple_spliced (dm (h pos pins s σ H _ I hq) fun us s1 ⟨xs,H1,I1,r,z,q⟩=>⟨by rw [<- r.length]; exact z,?_⟩)
 have hf:H1 s1.heap.objs.size=none:=I1.hok.fresh (Nat.le_refl _)
 refine ⟨.ref s1.heap.objs.size,upd H1 s1.heap.objs.size (.tup xs),I1.laid (t':=s1.toks) (fun b u e=>Heap.get?_push_of_some _ e) (Nat.le_refl _) ?_,rfl,q _ hf⟩
 exact ⟨z,us,r,⟨_,Heap.get?_push_size _ rfl,rfl,_,rfl⟩⟩
theorem tB (h:PA X es t):PE X (.List es pos) (JH t):=by
 intro pins s σ H Q I hq
 refine wpAny_List_spliced (dm (h pos pins s σ H _ I hq) fun us s1 ⟨xs,H1,I1,r,z,q⟩=>⟨by rw [<- r.length]; exact z,?_⟩)
 have hf:H1 s1.heap.objs.size=none:=I1.hok.fresh (Nat.le_refl _)
 refine ⟨.ref s1.heap.objs.size,upd H1 s1.heap.objs.size (.lst xs),I1.laid (t':=s1.toks) (fun b u e=>Heap.get?_push_of_some _ e) (Nat.le_refl _) ?_,rfl,q _ hf⟩
 exact ⟨z,us,0,r,Heap.get?_push_size _ rfl⟩
end
abbrev Sp:=List V -> Hp -> VK -> XK -> Prop
abbrev yU:=List Env -> Hp -> Shared -> XK -> Value -> Shared -> Prop
structure vz (P:Program) (w:World) (K:PySem.W.Frag) (mg:Str -> Option Value) (base:Heap) (A:Around) (outer:List Env) (s:Shared) (H:Hp):Prop where
 frames:A.frames=some outer
 mod:Mod K mg base
 bs:∀ b o,base.get? b=some o -> s.heap.get? b=some o /\ H b=none
 bsz:base.objs.size ≤ s.heap.objs.size
 funs:s.heap.FunFrames base outer
 frf:∀ b ∈ zo outer,H b=none
 hok:mQ P w H s.heap
 bare:AllBare s.gens
def CE (outer:List Env) (P:Program) (w:World) (H:Hp) (s:Shared) (Q:VK) (u:Value) (s':Shared):Prop:=
 ∃ v H',s'.os=s.os /\ AllBare s'.gens /\ Un (zo outer) [] H H' s.heap s'.heap /\ mQ P w H' s'.heap /\ RelV v u /\ Q v H'
def CR (CX:yU) (outer:List Env) (P:Program) (w:World) (H:Hp) (s:Shared) (Q:VK) (E:XK) (r:Result) (s':Shared):Prop:=
 match r with
 | .ok (.ret u)=>CE outer P w H s Q u s'
 | .ok _=>False
 | .error e=>CX outer H s E e s'
structure ie (P:Program) (w:World) (K:PySem.W.Frag) (mg:Str -> Option Value) (base:Heap) (CX:yU) (k:Nat) (f:Addr) (fd:FuncData) (ps:List Str) (sp:Sp):Prop where
 len:∀ vs H Q E,sp vs H Q E -> vs.length=ps.length
 run:∀ (A:Around) (outer:List Env) (s:Shared) (H:Hp) (args:Args) (us:List Value) (vs:List V) (Q:VK) (E:XK),eY k A -> vz P w K mg base A outer s H -> BindsTo s fd args (ps.zip us) -> Vals vs us -> sp vs H Q E ->
  codeAny (model P w) A (.call (.ref f) args) (CR CX outer P w H s Q E) s
theorem ie.mono {P:Program} {w:World} {K:PySem.W.Frag} {mg:Str -> Option Value} {base:Heap} {CX:yU} {j k:Nat} {f:Addr} {fd:FuncData} {ps:List Str} {sp:Sp} (F:ie P w K mg base CX j f fd ps sp) (h:j ≤ k) :
  ie P w K mg base CX k f fd ps sp:=⟨F.len,fun A outer s H args us vs Q E hr=>F.run A outer s H args us vs Q E (hr.mono h)⟩
theorem ie.imp {P:Program} {w:World} {K:PySem.W.Frag} {mg:Str -> Option Value} {base:Heap} {CX:yU} {k:Nat} {f:Addr} {fd:FuncData} {ps:List Str} {sp sp':Sp} (F:ie P w K mg base CX k f fd ps sp)
  (h:∀ vs H Q E,sp' vs H Q E -> sp vs H Q E):ie P w K mg base CX k f fd ps sp':=
 ⟨fun vs H Q E q=>F.len vs H Q E (h _ _ _ _ q),fun A outer s H args us vs Q E hr he hb hv hs=>F.run A outer s H args us vs Q E hr he hb hv (h _ _ _ _ hs)⟩
theorem vz.in1 {P:Program} {w:World} {K:PySem.W.Frag} {mg:Str -> Option Value} {base:Heap} {A:Around} {outer:List Env} {s:Shared} {H:Hp} (e:vz P w K mg base A outer s H) :
  vz P w K mg base A.in1 outer s H:=⟨e.frames,e.mod,e.bs,e.bsz,e.funs,e.frf,e.hok,e.bare⟩
section
variable {X:Cx} {pins:List (Addr × Obj)} {σ:St} {H:Hp} {s s':Shared}
theorem Inv.env0 (I:Inv X pins σ H s):vz X.prog X.w X.K X.mg X.base X.A X.stack s H:=
 ⟨I.ok.frames,I.ok.mod,I.bs,Nat.le_trans I.ok.bsz I.sz,I.stack,I.stkFree,I.hok,I.bare⟩
theorem Inv.after {Q:VK} {u:Value} (I:Inv X pins σ H s) (h:CE X.stack X.prog X.w H s Q u s'):EP X pins σ Q u s':=by
 obtain ⟨v,H',os,bare,un,hok,r,q⟩:=h
 obtain ⟨hh,g,d,t,os'⟩:=s'
 obtain rfl:os'=s.os:=os
 exact ⟨v,H',I.call (h':=hh) (g':=g) (d':=d) (t':=t) (ch:=[]) un hok bare (fun b z=>absurd z (by simp)),r,q⟩
end
def Iu (sp:Sp) (dvs:List V) (E:XK) (t:TA):TE:=fun σ H Q=>t σ H fun vs H1=>sp (vs ++ dvs) H1 Q E
def Binds (K:PySem.W.Frag) (fd:FuncData) (ps:List Str) (ds:List Value):Prop:=
 ∀ (s:Shared) (us:List Value),K.In s.heap -> (us ++ ds).length=ps.length -> BindsTo s fd ⟨us,[]⟩ (ps.zip (us ++ ds))
theorem Binds.all {K:PySem.W.Frag} {fd:FuncData} {ps:List Str} (h:∀ us:List Value,us.length=ps.length -> bindArgs fd ⟨us,[]⟩=pure (ps.zip us)):Binds K fd ps []:=fun s us _ hl=>by
 rw [List.append_nil] at hl ⊢
 exact .of_eq (h us hl)
def Passes (CX:yU) (X:Cx) (E:XK):Prop:=∀ (pins:List (Addr × Obj)) (σ:St) (H:Hp) (s:Shared) (e:Value) (s':Shared),Inv X pins σ H s -> CX X.stack H s E e s' -> X.xe e s'
section
variable {X:Cx} {CX:yU} {k:Nat} {f C:Addr} {fd:FuncData} {ps:List Str} {sp:Sp} {dvs:List V} {ds:List Value} {E:XK} {x m:Str} {p pos apos:Pos} {e o:Expr} {es:List Expr} {ta:TE} {t:TA}
theorem Gs {pins:List (Addr × Obj)} {σ:St} {H:Hp} {s:Shared} {Q:VK} {us:List Value} {vs:List V} (F:ie X.prog X.w X.K X.mg X.base CX k f fd ps sp) (hr:eY k X.A) (hb:Binds X.K fd ps ds) (hd:Vals dvs ds) (hx:Passes CX X E)
  (I:Inv X pins σ H s) (r:Vals vs us) (h:sp (vs ++ dvs) H Q E):wpAny (model X.prog X.w) X.A (call (.ref f) us) (EP X pins σ Q) X.xe s:=by
 have r2:Vals (vs ++ dvs) (us ++ ds):=r.append hd
 have hl:(us ++ ds).length=ps.length:=by rw [<- r2.length]; exact F.len _ _ _ _ h
 refine wpAny_call (codeAny_mono (F.run X.A X.stack s H ⟨us,[]⟩ (us ++ ds) (vs ++ dvs) Q E hr I.env0 (hb s us I.kIn hl) r2 h) fun r s' hq=>?_)
 cases r with
 | error e=>exact hx pins σ H s e s' I hq
 | ok fl =>
  cases fl with
  | ret u=>exact I.after hq
  | next=>exact False.elim hq
  | brk=>exact False.elim hq
  | cont=>exact False.elim hq
theorem tx (F:ie X.prog X.w X.K X.mg X.base CX k f fd ps sp) (hr:eY k X.A) (hg:Gl X x) (hm:X.mg x=some (.ref f)) (hk:PySem.W.keepIn X.K (.ref f)=true) (hb:Binds X.K fd ps ds) (hd:Vals dvs ds) (hx:Passes CX X E)
  (ha:PA X (e :: es) t) (hdb:(x == ("__debug__" : Str))=false:=by decide) (he:starEach (e :: es) X.env=(false,eval e X.env) :: starEach es X.env:=by rfl) (hpl:(backTo pos (starEach es X.env)).any (·.1)=false:=by rfl) :
  PE X (.Call (.Name x p) (e :: es) [] pos) (Iu sp dvs E t):=by
 intro pins s σ H Q I h
 refine wpAny_Call_Name_kw (xX I hg hm ?_ hdb)
 refine PySem.W.callWith_K (h₀:=X.base) I.ok.mod.kin hk (dm (ha pos pins s σ H _ I h) fun us s1 ⟨vs,H1,I1,r,q⟩=>⟨I1.kIn,?_⟩) he hpl
 exact Gs F hr hb hd hx I1 r q
structure Mk (K:PySem.W.Frag) (C f:Addr):Prop where
 makes:PySem.W.makesIn K C=true
 init:PySem.W.findIn K (.ref C) "__init__" = some (some (.ref f))
 fn:PySem.W.isFn K (.ref f)=true
 kp:PySem.W.keepIn K (.ref C)=true
end
section
variable {X:Cx} {CX:yU} {k:Nat} {f C:Addr} {fd:FuncData} {ps ks:List Str} {sp:Sp} {E:XK} {x m:Str} {p pos apos kpos:Pos} {e o:Expr} {es:List Expr} {kws:List Keyword} {te ta:TE} {t tk:TA} {nm:Option Str}
structure Jf (K:PySem.W.Frag) (fd:FuncData) (ps ks:List Str) (g:List Value -> List Value -> List Value) (gV:List V -> List V -> List V):Prop where
 to:∀ (s:Shared) (us ws:List Value),K.In s.heap -> (g us ws).length=ps.length -> BindsTo s fd ⟨us,ks.zip ws⟩ (ps.zip (g us ws))
 rel:∀ {vs:List V} {us:List Value} {zs:List V} {ws:List Value},Vals vs us -> Vals zs ws -> Vals (gV vs zs) (g us ws)
variable {g:List Value -> List Value -> List Value} {gV:List V -> List V -> List V}
end
structure aU (N P:List Str) (sc:Scope):Prop where
 kind:sc.kind=.function
 co:sc.isCoroutine=false
 gen:sc.isGenerator=false
 nd:N.Nodup
 pre:N.take P.length=P
 par:∀ x ∈ P,sc.names.lookup x=some .local \/ sc.names.lookup x=some .cell
 nofree:∀ y ∈ sc.names,y.2 ≠ .free
theorem qi {kindOf:Str -> Option NameKind} {x:Str}:∀ {binds:List (Str × Value)} {m:Str -> Option Value},(∀ v,(x,v) ∉ binds) -> bindL kindOf binds m x=m x
 | [],_,_=>rfl
 | (n,v) :: r,m,h=>by
  unfold bindL
  rw [qi fun w hw=>h w (List.mem_cons_of_mem _ hw)]
  split
  ·have:x ≠ n:=by rintro rfl; exact h v List.mem_cons_self
   simp [this]
  ·rfl
theorem qg {kindOf:Str -> Option NameKind} {x:Str}:∀ {binds:List (Str × Value)} {m:Str -> Option Value},(∀ v,(x,v) ∉ binds) -> bindC kindOf binds m x=m x
 | [],_,_=>rfl
 | (n,v) :: r,m,h=>by
  unfold bindC
  rw [qg fun w hw=>h w (List.mem_cons_of_mem _ hw)]
  split
  ·rfl
  ·have:x ≠ n:=by rintro rfl; exact h v List.mem_cons_self
   simp [this]
theorem qh {kindOf:Str -> Option NameKind} {x:Str} {v:Value}:∀ {P:List Str} {vs:List Value} {i:Nat} {m:Str -> Option Value},P.Nodup -> P[i]? = some x -> vs[i]? = some v -> kindOf x=some .local ->
  bindL kindOf (P.zip vs) m x=some v
 | [],_,_,_,_,h,_,_=>by simp at h
 | _ :: _,[],_,_,_,_,h,_=>by simp at h
 | p :: P,w :: vs,0,m,nd,h1,h2,hk=>by
  simp at h1 h2; subst h1; subst h2
  show bindL kindOf ((p,w) :: P.zip vs) m p=_
  unfold bindL
  rw [qi fun v hv=>(List.nodup_cons.mp nd).1 (List.of_mem_zip hv).1,if_pos hk]
  simp
 | p :: P,w :: vs,i + 1,m,nd,h1,h2,hk=>by
  show bindL kindOf ((p,w) :: P.zip vs) m x=_
  unfold bindL
  exact qh (i:=i) (List.nodup_cons.mp nd).2 (by simpa using h1) (by simpa using h2) hk
theorem qe {kindOf:Str -> Option NameKind} {x:Str} {v:Value}:∀ {P:List Str} {vs:List Value} {i:Nat} {m:Str -> Option Value},P.Nodup -> P[i]? = some x -> vs[i]? = some v -> kindOf x ≠ some .local ->
  bindC kindOf (P.zip vs) m x=some v
 | [],_,_,_,_,h,_,_=>by simp at h
 | _ :: _,[],_,_,_,_,h,_=>by simp at h
 | p :: P,w :: vs,0,m,nd,h1,h2,hk=>by
  simp at h1 h2; subst h1; subst h2
  show bindC kindOf ((p,w) :: P.zip vs) m p=_
  unfold bindC
  rw [qg fun v hv=>(List.nodup_cons.mp nd).1 (List.of_mem_zip hv).1,if_neg hk]
  simp
 | p :: P,w :: vs,i + 1,m,nd,h1,h2,hk=>by
  show bindC kindOf ((p,w) :: P.zip vs) m x=_
  unfold bindC
  exact qe (i:=i) (List.nodup_cons.mp nd).2 (by simpa using h1) (by simpa using h2) hk
def start (N:List Str) (vs:List V):St:=vs.map some ++ List.replicate (N.length - vs.length) none
def pK (CX:yU) (P:Program) (w:World) (K:PySem.W.Frag) (mg:Str -> Option Value) (base:Heap) (N:List Str) (qual:Str) (scope:Scope) (f:Addr) (cd:Value) (A:Around) (outer:List Env) (s:Shared) (H:Hp) (E:XK):Cx where
 prog:=P
 w:=w
 K:=K
 mg:=mg
 base:=base
 A:=A.deeper (envOfC qual scope s.heap.objs.size f cd)
 N:=N
 s₀:=s
 H₀:=H
 env:=envOfC qual scope s.heap.objs.size f cd
 outer:=outer
 stack:=envOfC qual scope s.heap.objs.size f cd :: outer
 ex:=[]
 calm:=true
 fn:=fun _=>true
 pn:=[]
 xe:=fun e s'=>wpAny (model P w) (A.deeper (envOfC qual scope s.heap.objs.size f cd)) (leaving (envOfC qual scope s.heap.objs.size f cd) e) (fun _ s''=>CX outer H s E e s'') (fun e' s''=>CX outer H s E e' s'') s'
theorem uc {sc:Scope} {n:Nat} {x:Str} (h:sc.names.lookup x=some .cell):∃ c,(cellsFrom n sc.names []).lookup x=some c:=by
 have q:=PySem.W.cellsFrom_some sc.names n [] (.inl h)
 exact Option.isSome_iff_exists.mp q
theorem zt {CX:yU} {P:Program} {w:World} {K:PySem.W.Frag} {mg:Str -> Option Value} {base:Heap} {N ps:List Str} {qual:Str} {scope:Scope} {f:Addr} {cd:Value} {A:Around} {outer:List Env} {s s1:Shared} {H:Hp} {E:XK} {us:List Value} {vs:List V}
  (S:aU N ps scope) (hd:A.handled=none) (e0:vz P w K mg base A outer s H) (hl:vs.length=ps.length) (r:Vals vs us)
  (x:InCallC s s.heap.objs.size (bindL (envOfC qual scope s.heap.objs.size f cd).kindOf (ps.zip us) fun _=>none) (cellsFrom (s.heap.objs.size + 1) scope.names []) (bindC (envOfC qual scope s.heap.objs.size f cd).kindOf (ps.zip us) fun _=>none) s1) :
  Inv (pK CX P w K mg base N qual scope f cd A outer s H E) [] (start N vs) H s1:=by
 have hpl:ps.length ≤ N.length:=by have:=congrArg List.length S.pre; rw [List.length_take] at this; omega
 obtain ⟨h1,tk,rfl,hk⟩:=x.done
 have noA:∀ b:Addr,b ∉ (pK CX P w K mg base N qual scope f cd A outer s H E).ex:=fun b z=>absurd (show b ∈ ([]:List Addr) from z) (by simp)
 refine ⟨⟨e0.mod,S.kind,rfl,rfl,Nat.le_refl _,fun y z c h1 h2=>?_,fun y hy=>?_,fun y c _ h=>?_,fun _=>hd,Around.frames_deeper e0.frames,.inr ⟨rfl,rfl⟩,fun b z=>absurd z (noA b),e0.bs,e0.bsz,fun b _ _=>noA b,fun b z=>absurd z (noA b),e0.funs,e0.frf⟩,
  rfl,e0.bare,Un.kept hk,⟨_,x.toInCall.ns,fun i y v h1 h2 h3=>?_⟩,fun y c h=>⟨_,x.cell y c h⟩,e0.hok.fresh (Nat.le_refl _),fun y c h=>?_,fun p hp=>absurd (show p ∈ ([]:List (Addr × Obj)) from hp) (by simp),e0.hok.kept hk,?_⟩
 ·exact name_of_addr x.apart (PySem.mem_of_lookup h1) (PySem.mem_of_lookup h2)
 ·have hy:scope.names.lookup y=some .cell \/ scope.names.lookup y=some .free:=hy
  rcases hy with hy | hy
  ·exact uc hy
  ·exact absurd rfl (S.nofree _ (PySem.mem_of_lookup hy))
 ·exact Nat.le_of_lt (x.above y c (PySem.mem_of_lookup h))
 ·have hi:i < vs.length:=by
   unfold start at h2
   by_cases hi:i < vs.length
   ·exact hi
   ·rw [List.getElem?_append_right (by simpa using hi)] at h2
    rw [List.getElem?_replicate] at h2
    split at h2 <;> cases h2
  have ha:vs[i]? = some v:=by
   unfold start at h2
   rw [List.getElem?_append_left (by simpa using hi),List.getElem?_map] at h2
   cases e:vs[i]? with
   | none=>rw [e] at h2; cases h2
   | some a=>rw [e] at h2; cases h2; rfl
  obtain ⟨u,hu,rv⟩:=r.get ha
  have hp:ps[i]? = some y:=by
   rw [<- S.pre,List.getElem?_take_of_lt (by omega)]; exact h1
  have ndP:ps.Nodup:=by rw [<- S.pre]; exact S.nd.sublist (List.take_sublist _ _)
  refine ⟨u,rv,?_⟩
  rcases S.par y (List.mem_of_getElem? hp) with k | k
  ·exact .inl ⟨k,qh ndP hp hu k⟩
  ·obtain ⟨c,e⟩:=uc (n:=s.heap.objs.size + 1) k
   refine .inr ⟨.inl k,c,e,?_⟩
   have q:=x.cell y c e
   rw [qe ndP hp hu (by show scope.names.lookup y ≠ _; rw [k]; decide)] at q
   exact q
 ·exact e0.hok.fresh (Nat.le_of_lt (x.above y c (PySem.mem_of_lookup h)))
 ·unfold start
  show _=N.length
  rw [List.length_append,List.length_map,List.length_replicate]
  omega
theorem HE {CX:yU} {P:Program} {w:World} {K:PySem.W.Frag} {mg:Str -> Option Value} {base:Heap} {k:Nat} {f:Addr} {name qual:Str} {params:Arguments} {body:List Stmt} {scope:Scope} {dV kV doc pm cdv ct oc:Value} {an od:Option Addr}
  {osl:Array (Option Value)} {N ps:List Str} {sp:Sp} (lk:K.lookup f=some ⟨oc,od,.func (PySem.W.fnOf name qual params body scope dV kV doc pm an cdv ct),osl⟩) (hcd:PySem.W.codeIn K cdv qual=true) (S:aU N ps scope)
  (len:∀ vs H Q E,sp vs H Q E -> vs.length=ps.length)
  (hbody:∀ (A:Around) (outer:List Env) (s:Shared) (H:Hp) (vs:List V) (Q:VK) (E:XK),eY k (A.deeper (envOfC qual scope s.heap.objs.size f cdv)) -> sp vs H Q E ->
   ∃ t,mR (pK CX P w K mg base N qual scope f cdv A outer s H E) body t /\ t { nx:=fun _ H'=>Q .non H',rt:=Q } (start N vs) H) :
  ie P w K mg base CX (k + 1) f (PySem.W.fnOf name qual params body scope dV kV doc pm an cdv ct) ps sp:=by
 refine ⟨len,fun A outer s H args us vs Q E hr e0 hb r hsp=>?_⟩
 have hl:=len _ _ _ _ hsp
 have KX:K.In s.heap:=e0.mod.kin.keeps fun b o e=>(e0.bs b o e).1
 have lim:s.heap.NoLimit:=e0.mod.nolimit.keeps fun b o e=>(e0.bs b o e).1
 have hkind:∀ y ∈ ps.zip us,scope.names.lookup y.1=some .local \/ (scope.names.lookup y.1=some .cell /\ ((cellsFrom (s.heap.objs.size + 1) scope.names []).lookup y.1).isSome=true):=fun ⟨n,v⟩ hy=>by
  rcases S.par n (List.of_mem_zip hy).1 with q | q
  ·exact .inl q
  ·exact .inr ⟨q,PySem.W.cellsFrom_some _ _ _ (.inl q)⟩
 refine codeAny_call_function hr.depth (KX _ _ lk) rfl S.co S.gen rfl (PySem.W.codeRec_of KX hcd) (hb _ _ _ _ ?_)
 refine wpAny_newFunctionEnv_cells S.kind hkind fun env he s1 x=>?_
 subst he
 refine ⟨lim.keeps x.toInCall.keep,codeAny_func ?_⟩
 obtain ⟨t,ht,hq⟩:=hbody A outer s H vs Q E (hr.deeper _) hsp
 have I:Inv (pK CX P w K mg base N qual scope f cdv A outer s H E) [] (start N vs) H s1:=zt S hr.hd e0 hl r x
 refine wpAny_mono (ht [] s1 (start N vs) H _ I hq) (fun fl s' hs=>?_) fun e s' hs=>hs
 have fin:∀ {σ':St} {H':Hp} {v:V} {u:Value},Inv (pK CX P w K mg base N qual scope f cdv A outer s H E) [] σ' H' s' -> RelV v u -> Q v H' -> CE outer P w H s Q u s':=
  fun {σ' H' v u} J rv q=>⟨v,H',J.os,J.bare,J.base,J.hok,rv,q⟩
 cases fl with
 | ret u =>
  obtain ⟨v,σ',H',J,rv,q⟩:=hs
  exact fin J rv q
 | next =>
  obtain ⟨σ',H',J,q⟩:=hs
  exact fin (v:=V.non) (u:=Value.none) J rfl q
 | brk =>
  obtain ⟨_,_,_,q⟩:=hs
  exact False.elim q
 | cont =>
  obtain ⟨_,_,_,q⟩:=hs
  exact False.elim q
open PySem PySem.Spec PyProof.Rows
section
variable {X:Cx} {x:Str} {p pos:Pos} {e:Expr} {es:List Expr} {t:TA} {id T:String} {r:List V -> Hp -> VK -> Prop}
def JZ (r:List V -> Hp -> VK -> Prop) (t:TA):TE:=fun σ H Q=>t σ H fun vs H1=>r vs H1 Q
theorem BM (hc:gw X (.builtin id) r) (hg:Gl X x) (hm:X.mg x=none) (hv:bootBuiltins x=some (.builtin id)) (ha:PA X (e :: es) t) (hn:x ≠ "__name__" := by decide) (hdb:(x == ("__debug__" : Str))=false:=by decide)
  (he:starEach (e :: es) X.env=(false,eval e X.env) :: starEach es X.env:=by rfl) (hpl:(backTo pos (starEach es X.env)).any (·.1)=false:=by rfl):PE X (.Call (.Name x p) (e :: es) [] pos) (JZ r t):=by
 intro pins s σ H Q I h
 refine wpAny_Call_Name_kw (iG I hg hm hv ?_ hn hdb)
 exact PyProof.Rows.callWith_builtin1 (dm (ha pos pins s σ H _ I h) fun us s1 ⟨vs,H1,I1,r1,q1⟩=>hc pins s1 σ H1 vs us Q I1 r1 q1) he hpl
theorem zH (hc:gw X (.type T) r) (hg:Gl X x) (hm:X.mg x=none) (hv:bootBuiltins x=some (.type T)) (ha:PA X (e :: es) t) (hn:x ≠ "__name__" := by decide) (hdb:(x == ("__debug__" : Str))=false:=by decide)
  (he:starEach (e :: es) X.env=(false,eval e X.env) :: starEach es X.env:=by rfl) (hpl:(backTo pos (starEach es X.env)).any (·.1)=false:=by rfl):PE X (.Call (.Name x p) (e :: es) [] pos) (JZ r t):=by
 intro pins s σ H Q I h
 refine wpAny_Call_Name_kw (iG I hg hm hv ?_ hn hdb)
 exact PyProof.Rows.callWith_type1 (dm (ha pos pins s σ H _ I h) fun us s1 ⟨vs,H1,I1,r1,q1⟩=>hc pins s1 σ H1 vs us Q I1 r1 q1) he hpl
end
end L2
namespace HT
open PySem PyProof.Rows
section
open PySem.SeqAt
open PySem.AutoSeq1 (wpAny_loadPart')
open PySem.MeetsSeq PySem.MeetsSeq2 PySem.MeetsSeq3
end
section
variable {prog:Program} {w:World} {A:Around} {E:Value -> Shared -> Prop} {s:Shared}
theorem CL {t b:Addr} {vs ws:List Value} {Q:Value -> Shared -> Prop} (ht:IsTup s.heap t vs.toArray) (hb:IsTup s.heap b ws.toArray) (hv:vs ≠ [])
  (h1:ws=[] -> Q (.ref t) s) (h2:ws ≠ [] -> Q (.ref s.heap.objs.size) { s with heap:=s.heap.push { cls:=.type "tuple", data:=.seq (vs ++ ws).toArray } })
  (hsz:vs.length + ws.length ≤ sizeLine):wpAny (model prog w) A (binaryOp .Add (.ref t) (.ref b)) Q E s:=by
 obtain ⟨⟨cls,dd,data,sl⟩,ho,hc,n,hd⟩:=id ht
 obtain ⟨⟨cls2,dd2,data2,sl2⟩,ho2,hc2,n2,hd2⟩:=id hb
 simp only at hc hd hc2 hd2
 subst hc hd hc2 hd2
 have e:vs.toArray ++ ws.toArray=(vs ++ ws).toArray:=by simp
 by_cases hw:ws=[]
 ·exact concat_meets ⟨_,ho,rfl⟩ ⟨_,ho2,rfl⟩ noFill_tuple_add seq_tuple_add PySem.F.slot_tuple_add PySem.F.entry_tuple_add (PySem.F.args_tuple_add_2 _ _)
   (tuple_addW1 t b vs.toArray ws.toArray n n2 dd dd2 sl sl2 (by simpa using hv) (by simp [hw])) ⟨ho,ho2,h1 hw⟩
 ·refine concat_meets ⟨_,ho,rfl⟩ ⟨_,ho2,rfl⟩ noFill_tuple_add seq_tuple_add PySem.F.slot_tuple_add PySem.F.entry_tuple_add (PySem.F.args_tuple_add_2 _ _)
   (tuple_addW2 t b vs.toArray ws.toArray n n2 dd dd2 sl sl2 (by simpa using hv) (by simpa using hw) (by rw [List.size_toArray,List.size_toArray]; exact hsz)) ⟨ho,ho2,?_⟩
  rw [e]
  exact h2 hw
def eW (n d:Nat):Option Int -> Nat
 | none=>d
 | some v=>if v < 0 then (v + (n:Int)).toNat else min v.toNat n
theorem u7 (n d:Nat):eW n d none=d:=rfl
theorem nA (n d k:Nat):eW n d (some (k:Int))=min k n:=by
 show (if (k:Int) < 0 then ((k:Int) + (n:Int)).toNat else min (k:Int).toNat n)=min k n
 rw [if_neg (by omega),Int.toNat_natCast]
theorem Gv (n d:Nat) (hd:d ≤ n) (o:Option Int):eW n d o ≤ n:=by
 cases o with
 | none=>exact hd
 | some v =>
  show (if v < 0 then (v + (n:Int)).toNat else min v.toNat n) ≤ n
  by_cases hv:v < 0
  ·rw [if_pos hv]; omega
  ·rw [if_neg hv]; exact Nat.min_le_right _ _
theorem xr (v:Int) (n d:Nat):(if v < 0 then max (v + (n:Int)) 0 else min v (n:Int))=((eW n d (some v):Nat):Int):=by
 show (if v < 0 then max (v + (n:Int)) 0 else min v (n:Int))=(((if v < 0 then (v + (n:Int)).toNat else min v.toNat n):Nat):Int)
 by_cases hv:v < 0
 ·simp only [if_pos hv]; omega
 ·simp only [if_neg hv]; omega
theorem vD (lo hi:Option Int) (n:Nat):Builtin.Slice.sliceAdjust lo hi 1 (n:Int)=(((eW n 0 lo:Nat):Int),((eW n n hi:Nat):Int)):=by
 have h1:¬ ((1:Int) < 0):=by omega
 unfold Builtin.Slice.sliceAdjust
 simp only [h1,if_false]
 refine Prod.ext ?_ ?_
 ·cases lo with
  | none=>rfl
  | some v=>exact xr v n 0
 ·cases hi with
  | none=>rfl
  | some v=>exact xr v n n
theorem wD (i j:Nat):Builtin.Slice.slicePlaces (i:Int) (j:Int) 1=j - i:=by
 unfold Builtin.Slice.slicePlaces
 have h1:(1:Int) > 0:=by omega
 simp only [h1,if_true,Int.ediv_one]
 split <;> omega
theorem pf {v:Value} {o:Option Int} {Q:Option Int -> Shared -> Prop} (p:IsPart v o) (h:Q o s):wpAny (model prog w) A (Builtin.Slice.slicePartIndex v) Q E s:=by
 cases p with
 | none=>exact slicePart_none h
 | int i t=>exact slicePart_int h
theorem mr {sl:Addr} {vl vu:Value} {lo hi:Option Int} {n:Nat} {Q:Int × Int × Nat -> Shared -> Prop} (hs:s.heap.IsSliceOf sl vl vu .none) (pl:IsPart vl lo) (pu:IsPart vu hi)
  (h:Q (((eW n 0 lo:Nat):Int),1,eW n n hi - eW n 0 lo) s):wpAny (model prog w) A (Builtin.Slice.sliceApplied (.ref sl) (pure (n:Int))) Q E s:=by
 obtain ⟨os,hos,hcs,hds⟩:=id hs
 unfold Builtin.Slice.sliceApplied Builtin.Slice.sliceFields
 refine wpAny_bind (wpAny_bind (wpAny_field hos hds (x:=vl) rfl (wpAny_bind (wpAny_field hos hds (x:=vu) rfl (wpAny_bind (wpAny_field hos hds (x:=.none) rfl (wpAny_pure ?_)))))))
 refine wpAny_bind (slicePart_none ?_)
 show wpAny _ _ (if ((1:Int) == 0)=true then _ else _) _ _ s
 rw [if_neg (by decide)]
 refine wpAny_bind (pf pl (wpAny_bind (pf pu (wpAny_bind (wpAny_pure ?_)))))
 show wpAny _ _ (match Builtin.Slice.sliceAdjust lo hi 1 (n:Int) with | (lo,hi)=>pure (lo,(1:Int),Builtin.Slice.slicePlaces lo hi 1)) _ _ s
 rw [vD lo hi n]
 show wpAny _ _ (pure (((eW n 0 lo:Nat):Int),(1:Int),Builtin.Slice.slicePlaces ((eW n 0 lo:Nat):Int) ((eW n n hi:Nat):Int) 1)) _ _ s
 rw [wD]
 exact wpAny_pure h
theorem BP (xs:Array Value) (i k:Nat):((List.range k).filterMap fun (m:Nat)=>xs[((i:Int) + (m:Int) * 1).toNat]?).toArray=((xs.toList.drop i).take k).toArray:=by
 have e:(fun (m:Nat)=>xs[((i:Int) + (m:Int) * 1).toNat]?)=fun m=>xs[i + m]?:=by
  funext m
  have:((i:Int) + (m:Int) * 1).toNat=i + m:=by omega
  rw [this]
 rw [e]
 have:=pick_run xs i k
 rw [List.filterMap_map] at this
 have e2:((fun x=>xs[x]?) ∘ fun x=>i + x)=fun m=>xs[i + m]?:=rfl
 rw [e2] at this
 rw [this]
theorem kR {t sl:Addr} {items:Array Value} {vl vu:Value} {lo hi:Option Int} {Q:Value -> Shared -> Prop} (ht:IsTup s.heap t items) (hs:s.heap.IsSliceOf sl vl vu .none) (pl:IsPart vl lo) (pu:IsPart vu hi)
  (hw:¬ (eW items.size 0 lo=0 /\ eW items.size items.size hi=items.size))
  (h:Q (.ref s.heap.objs.size) { s with heap:=s.heap.push { cls:=.type "tuple", data:=.seq ((items.toList.drop (eW items.size 0 lo)).take (eW items.size items.size hi - eW items.size 0 lo)).toArray } })
  (hsz:items.size ≤ sizeLine):wpAny (model prog w) A (getItem (.ref t) (.ref sl)) Q E s:=by
 have htake:sizeOk (.seq ((items.toList.drop (eW items.size 0 lo)).take (eW items.size items.size hi - eW items.size 0 lo)).toArray):=by
  show ((items.toList.drop (eW items.size 0 lo)).take (eW items.size items.size hi - eW items.size 0 lo)).toArray.size ≤ sizeLine
  rw [List.size_toArray,List.length_take,List.length_drop,Array.length_toList]
  omega
 have hj:eW items.size items.size hi ≤ items.size:=Gv _ _ (Nat.le_refl _) hi
 obtain ⟨os,hos,hcs,hds⟩:=id hs
 have hTs:s.TypeIs (.ref sl) "slice" := ⟨os,hos,hcs⟩
 unfold getItem
 try with_reducible refine wpAny_holding ?_
 first | refine wpAny_bind (wpAny_pure ?_) | skip
 refine wpAny_bind (wpAny_sequenceKey ht.typeIs (by decide) ?_)
 refine wpAny_bind (wpAny_callSpecial?_slot (name:=Str.ofString "__getitem__") ht.typeIs PyProof.Rows.slot_tuple_getitem
  (wpAny_call_entry PyProof.Rows.slot_tuple_getitem ht.typeIs entry_tuple_getitem ?_ (args_tuple_getitem _ _)))
 show wpAny _ _ (Builtin.Tuple.tupleItemsOf (.ref t) >>= _) _ _ s
 refine wpAny_bind (tupleItemsOf_ ht ?_)
 refine wpAny_bind (wpAny_typeOf hTs ?_)
 rw [if_pos (by decide)]
 refine wpAny_bind (mr hs pl pu ?_)
 have hno:¬ ((((eW items.size 0 lo:Nat):Int) == 0 && (1:Int) == 1 && (eW items.size items.size hi - eW items.size 0 lo) == items.size)=true):=by
  intro q
  rw [Bool.and_eq_true,Bool.and_eq_true] at q
  have q1:((eW items.size 0 lo:Nat):Int)=0:=eq_of_beq q.1.1
  have q2:eW items.size items.size hi - eW items.size 0 lo=items.size:=eq_of_beq q.2
  exact hw ⟨by omega,by omega⟩
 show wpAny _ _ (if (((eW items.size 0 lo:Nat):Int) == 0 && (1:Int) == 1 && (eW items.size items.size hi - eW items.size 0 lo) == items.size)=true then _ else _) _ _ s
 rw [if_neg hno,BP]
 first
  | exact wpAny_bind (m:=Builtin.Tuple.tupleExact _) (wpAny_newObj_type (wpAny_pure ⟨_,rfl,wpAny_pure h⟩) htake)
  | exact wpAny_bind (m:=Builtin.Tuple.tupleExact _) (wpAny_newObj_type (wpAny_bind (wpAny_pure (wpAny_pure ⟨_,rfl,wpAny_pure h⟩))) htake)
  | exact wpAny_bind (wpAny_bind (m:=Builtin.Tuple.tupleExact _) (wpAny_newObj_type (wpAny_pure (wpAny_pure ⟨_,rfl,wpAny_pure h⟩)) htake))
  | exact wpAny_bind (wpAny_bind (m:=Builtin.Tuple.tupleExact _) (wpAny_newObj_type (wpAny_pure ⟨_,rfl,wpAny_pure h⟩) htake))
end
end HT
namespace L2
open PySem PySem.Spec PyProof.Rows
abbrev TO:=St -> Hp -> (Option Int -> Hp -> Prop) -> Prop
def PO (X:Cx) (e:Option Expr) (t:TO):Prop:=
 ∀ (pins:List (Addr × Obj)) (s:Shared) (σ:St) (H:Hp) (Q:Option Int -> Hp -> Prop),Inv X pins σ H s -> t σ H Q ->
  wpAny (model X.prog X.w) X.A (evalPart e X.env) (fun u s'=>∃ o H',Inv X pins σ H' s' /\ IsPart u o /\ Q o H') X.xe s
def D3:TO:=fun _ H Q=>Q none H
def IB (t:TE):TO:=fun σ H Q=>t σ H fun x H1=>∃ i,x=.int i /\ Q (some i) H1
section
variable {X:Cx} {e:Expr} {te:TE} {lo hi:Option Expr} {tl th:TO} {pos p2:Pos}
theorem DJ:PO X none D3:=by
 intro pins s σ H Q I h
 rw [evalPart_none]
 exact wpAny_pure ⟨none,H,I,.none,h⟩
theorem DK (h:PE X e te):PO X (some e) (IB te):=by
 intro pins s σ H Q I hw
 rw [evalPart_some]
 refine dm (h pins s σ H _ I hw) fun u s1 ⟨x,H1,I1,r1,q1⟩=>?_
 obtain ⟨i,rfl,q⟩:=q1
 obtain ⟨t,rfl⟩:=r1
 exact ⟨some i,H1,I1,.int i t,q⟩
def Eh (X:Cx) (r:V -> Option Int -> Option Int -> Hp -> VK -> Prop):Prop:=
 ∀ (pins:List (Addr × Obj)) (s:Shared) (σ:St) (H:Hp) (x:V) (v vl vu:Value) (lo hi:Option Int) (sl:Addr) (Q:VK),Inv X pins σ H s -> RelV x v -> s.heap.IsSliceOf sl vl vu .none -> IsPart vl lo -> IsPart vu hi -> r x lo hi H Q ->
  ∃ T id,typeLookup (.type T) "__getitem__" = pure (some (.builtin id)) /\ s.TypeIs v T /\ wpAny (model X.prog X.w) X.A (getItem v (.ref sl)) (EP X pins σ Q) X.xe s
theorem Eh.or {r r':V -> Option Int -> Option Int -> Hp -> VK -> Prop} (h:Eh X r) (h':Eh X r'):Eh X (fun x lo hi H Q=>r x lo hi H Q \/ r' x lo hi H Q):=by
 intro pins s σ H x v vl vu lo hi sl Q I rx hs pl pu q
 rcases q with q | q
 ·exact h pins s σ H x v vl vu lo hi sl Q I rx hs pl pu q
 ·exact h' pins s σ H x v vl vu lo hi sl Q I rx hs pl pu q
def Kt (r:V -> Option Int -> Option Int -> Hp -> VK -> Prop) (te:TE) (tl th:TO):TE:=fun σ H Q=>te σ H fun x H1=>tl σ H1 fun l H2=>th σ H2 fun u H3=>r x l u H3 Q
theorem uY {r:V -> Option Int -> Option Int -> Hp -> VK -> Prop} (hr:Eh X r) (he:PE X e te) (hl:PO X lo tl) (hu:PO X hi th):PE X (.Subscript e (.Slice lo hi none p2) pos) (Kt r te tl th):=by
 intro pins s σ H Q I h
 refine Subscript_ (dm (he pins s σ H _ I h) fun v s1 ⟨x,H1,I1,r1,q1⟩=>?_)
 refine wpAny_Slice (dm (hl pins s1 σ H1 _ I1 q1) fun vl s2 ⟨l,H2,I2,pl,q2⟩=>dm (hu pins s2 σ H2 _ I2 q2) fun vu s3 ⟨u,H3,I3,pu,q3⟩=>?_)
 rw [evalPart_none]
 refine wpAny_pure ?_
 have I4:Inv X pins σ H3 { s3 with heap:=s3.heap.push { cls:=.type "slice", data:=.fields #[vl,vu,.none] } }:=I3.kept (t':=s3.toks) fun b ob q=>Heap.get?_push_of_some _ q
 obtain ⟨T,id,hT,ht,hg⟩:=hr pins { s3 with heap:=s3.heap.push { cls:=.type "slice", data:=.fields #[vl,vu,.none] } } σ H3 x v vl vu l u s3.heap.objs.size Q I4 r1 (Heap.IsSliceOf.new ..) pl pu q3
 show wpAny (model X.prog X.w) X.A (subscriptTail e (.Slice lo hi none p2) v (.ref s3.heap.objs.size)) (EP X pins σ Q) X.xe { s3 with heap:=s3.heap.push { cls:=.type "slice", data:=.fields #[vl,vu,.none] } }
 exact tail_any (ops:=[.ref s3.heap.objs.size,v]) ht hT hg (by with_unfolding_all rfl)
def nW (xs:List V) (lo hi:Option Int):List V:=(xs.drop (HT.eW xs.length 0 lo)).take (HT.eW xs.length xs.length hi - HT.eW xs.length 0 lo)
theorem mD (xs:List V) (lo hi:Option Int):(nW xs lo hi).length ≤ xs.length:=by
 unfold nW
 rw [List.length_take,List.length_drop]
 omega
def JA (K:PySem.W.Frag):V -> Option Int -> Option Int -> Hp -> VK -> Prop:=fun x lo hi H Q=>∃ a xs,x=.ref a /\ jO K H a xs /\
 ¬ (HT.eW xs.length 0 lo=0 /\ HT.eW xs.length xs.length hi=xs.length) /\ ∀ p,H p=none -> Q (.ref p) (upd H p (.tup (nW xs lo hi)))
theorem GF:Eh X (JA X.K):=by
 intro pins s σ H x v vl vu lo hi sl Q I rx hs pl pu h
 obtain ⟨a,xs,rfl,hx,hw,q⟩:=h
 cases rx
 obtain ⟨its,r,ht,hz⟩:=I.tuple hx
 have hlen:its.toArray.size=xs.length:=by rw [List.size_toArray]; exact r.length.symm
 refine ⟨"tuple", _,PyProof.Rows.slot_tuple_getitem.lookup,ht.typeIs,?_⟩
 refine HT.kR ht hs pl pu (by rw [hlen]; exact hw) ?_ (by rw [hlen]; exact hz)
 rw [hlen]
 refine ⟨.ref s.heap.objs.size,_,I.laid (t':=s.toks) (o:=.tup (nW xs lo hi)) (fun b ob q=>Heap.get?_push_of_some _ q) (Nat.le_refl _) ?_,rfl,q _ (I.hok.fresh (Nat.le_refl _))⟩
 exact ⟨Nat.le_trans (mD xs lo hi) hz,_,(r.drop (HT.eW xs.length 0 lo)).take (HT.eW xs.length xs.length hi - HT.eW xs.length 0 lo),IsTup.new _ _⟩
def Ii (K:PySem.W.Frag):R2:=fun x y H Q=>∃ a b xs ys,x=.ref a /\ y=.ref b /\ jO K H a xs /\ jO K H b ys /\ xs ≠ [] /\ xs.length + ys.length ≤ sizeLine /\
 (ys=[] -> Q (.ref a) H) /\ (ys ≠ [] -> ∀ p,H p=none -> Q (.ref p) (upd H p (.tup (xs ++ ys))))
theorem Vals.nil_iff {xs:List V} {us:List Value} (r:Vals xs us):us=[] ↔ xs=[]:=by
 cases r with
 | nil=>simp
 | cons _ _=>simp
theorem Dz:nJ X (binaryOp .Add) (Ii X.K):=by
 intro pins s σ H x y v u Q I rx ry h
 obtain ⟨a,b,xs,ys,rfl,rfl,ha,hb,hx,hz,q1,q2⟩:=h
 cases rx
 cases ry
 obtain ⟨its,r1,p1,_⟩:=I.tuple ha
 obtain ⟨its2,r2,p2,_⟩:=I.tuple hb
 refine HT.CL p1 p2 (fun z=>hx (r1.nil_iff.mp z)) (fun z=>⟨.ref a,H,I,rfl,q1 (r2.nil_iff.mp z)⟩) (fun z=>?_) (by rw [<- r1.length,<- r2.length]; exact hz)
 refine ⟨.ref s.heap.objs.size,_,I.laid (t':=s.toks) (o:=.tup (xs ++ ys)) (fun b ob q=>Heap.get?_push_of_some _ q) (Nat.le_refl _) ?_,rfl,q2 (fun w=>z (r2.nil_iff.mpr w)) _ (I.hok.fresh (Nat.le_refl _))⟩
 exact ⟨by rw [List.length_append]; exact hz,_,r1.append r2,IsTup.new _ _⟩
end
open PySem PySem.Spec PyProof.Rows
def wg (n:Nat) (i:Int):Option Nat:=if 0 ≤ i then (if i < n then some i.toNat else none) else if -(n:Int) ≤ i then some (i + n).toNat else none
def mB {α:Type} (xs:List α) (i:Int):Option α:=(wg xs.length i).bind fun j=>xs[j]?
theorem xT {n:Nat} {i:Int} {j:Nat} (h:wg n i=some j):seqIndex? i n=some j /\ j < n /\ -(n:Int) ≤ i /\ i < n:=by
 unfold wg at h
 by_cases h0:0 ≤ i
 ·rw [if_pos h0] at h
  by_cases h1:i < n
  ·rw [if_pos h1] at h
   have e:i.toNat=j:=Option.some.inj h
   exact ⟨by rw [seqIndex_of h0 h1,e],by omega,by omega,h1⟩
  ·rw [if_neg h1] at h; cases h
 ·rw [if_neg h0] at h
  by_cases h1 : -(n:Int) ≤ i
  ·rw [if_pos h1] at h
   have e:(i + n).toNat=j:=Option.some.inj h
   exact ⟨by rw [seqIndex_neg (by omega) h1,e],by omega,h1,by omega⟩
  ·rw [if_neg h1] at h; cases h
theorem rg {α:Type} {xs:List α} {i:Int} {v:α} (h:mB xs i=some v):∃ j,seqIndex? i xs.length=some j /\ xs[j]? = some v /\ j < xs.length /\ -(xs.length:Int) ≤ i /\ i < xs.length:=by
 unfold mB at h
 cases e:wg xs.length i with
 | none=>rw [e] at h; cases h
 | some j =>
  rw [e] at h
  obtain ⟨h1,h2,h3,h4⟩:=xT e
  exact ⟨j,h1,h,h2,h3,h4⟩
theorem rh {α:Type} {xs:List α} {j:Nat} {v:α} (h:xs[j]? = some v):mB xs (j:Int)=some v:=by
 have hj:j < xs.length:=(List.getElem?_eq_some_iff.mp h).1
 have e:wg xs.length (j:Int)=some j:=by
  unfold wg
  rw [if_pos (by omega),if_pos (by omega)]; simp
 unfold mB; rw [e]; exact h
def q9 (b:Expr):Prop:=∀ o i,subscripted b false o i=operate [o,i] (getItem o i)
def Ck (X:Cx) (r:R2):Prop:=
 ∀ (value slice:Expr) (pins:List (Addr × Obj)) (s:Shared) (σ:St) (H:Hp) (x y:V) (v u:Value) (Q:VK),Inv X pins σ H s -> RelV x v -> RelV y u -> r x y H Q ->
  subscripted slice false v u=operate [v,u] (getItem v u) -> wpAny (model X.prog X.w) X.A (subscriptTail value slice v u) (EP X pins σ Q) X.xe s
def Ee (X:Cx) (id:String) (r:V -> List V -> Hp -> VK -> Prop):Prop:=
 ∀ (pins:List (Addr × Obj)) (s:Shared) (σ:St) (H:Hp) (x:V) (xs:List V) (v:Value) (us:List Value) (Q:VK),Inv X pins σ H s -> RelV x v -> Vals xs us -> r x xs H Q ->
  wpAny (model X.prog X.w) X.A (call (.builtin id) (v :: us)) (EP X pins σ Q) X.xe s
section
variable {X:Cx} {a b:Expr} {ta tb:TE} {pos:Pos}
theorem Ck.or {r r':R2} (h:Ck X r) (h':Ck X r'):Ck X (fun x y H Q=>r x y H Q \/ r' x y H Q):=by
 intro value slice pins s σ H x y v u Q I rx ry q hs
 rcases q with q | q
 ·exact h value slice pins s σ H x y v u Q I rx ry q hs
 ·exact h' value slice pins s σ H x y v u Q I rx ry q hs
theorem Ee.or {id:String} {r r':V -> List V -> Hp -> VK -> Prop} (h:Ee X id r) (h':Ee X id r'):Ee X id (fun x xs H Q=>r x xs H Q \/ r' x xs H Q):=by
 intro pins s σ H x xs v us Q I rx rs q
 rcases q with q | q
 ·exact h pins s σ H x xs v us Q I rx rs q
 ·exact h' pins s σ H x xs v us Q I rx rs q
theorem Ey {r:R2} (hr:Ck X r) (ha:PE X a ta) (hb:PE X b tb) (hs:q9 b):PE X (.Subscript a b pos) (IA r ta tb):=by
 intro pins s σ H Q I h
 exact Subscript_ (EO ha hb I h fun v u s2 x y H2 I2 rx ry q=>hr a b pins s2 σ H2 x y v u Q I2 rx ry q (hs _ _))
def Jw (K:PySem.W.Frag):R2:=fun x y H Q=>∃ p xs i v,x=.ref p /\ y=.int i /\ fF K H p xs /\ mB xs i=some v /\ Q v H
def Jy (K:PySem.W.Frag):R2:=fun x y H Q=>∃ p xs i v,x=.ref p /\ y=.int i /\ jO K H p xs /\ mB xs i=some v /\ Q v H
def Jx:R2:=fun x y H Q=>∃ z i c,x=.str z /\ y=.int i /\ z.length ≤ sizeLine /\ mB z.cps.toList i=some c /\ Q (.str ⟨#[c]⟩) H
theorem sG:Ck X (Jw X.K):=by
 intro value slice pins s σ H x y v u Q I rx ry h hs
 obtain ⟨p,xs,i,z,rfl,rfl,hq,he,q⟩:=h
 cases rx
 obtain ⟨t,rfl⟩:=ry
 obtain ⟨its,r,pl,hz⟩:=I.list hq
 obtain ⟨j,h1,h2,h3,h4,h5⟩:=rg he
 obtain ⟨w,ew,rw'⟩:=r.get h2
 have hl:=r.length
 have hn:=j7
 have fin:EP X pins σ Q w s:=⟨z,H,I,rw',q⟩
 by_cases h0:0 ≤ i
 ·have hj:i.toNat=j:=by
   rw [seqIndex_of h0 h5] at h1
   exact Option.some.inj h1
  exact item_listR pl.isList h0 (by omega) (by rw [hj]; simpa using ew) fin hs
 ·have hj:(i + (its.toArray.size:Int)).toNat=j:=by
   rw [seqIndex_neg (by omega) h4] at h1
   rw [List.size_toArray,<- hl]
   exact Option.some.inj h1
  exact subscriptTail_builtinR (x:=w) pl.isList.typeIs slot_list_getitem.lookup
   (wpAny_getItem_list_neg (Q:=fun r s'=>r=w /\ EP X pins σ Q r s') pl.isList (by omega) (by rw [List.size_toArray] <;> omega) (by omega) (by rw [hj]; simpa using ew) ⟨rfl,fin⟩) hs
theorem Fs:Ck X (Jy X.K):=by
 intro value slice pins s σ H x y v u Q I rx ry h hs
 obtain ⟨p,xs,i,z,rfl,rfl,hq,he,q⟩:=h
 cases rx
 obtain ⟨t,rfl⟩:=ry
 obtain ⟨its,r,pl,hz⟩:=I.tuple hq
 obtain ⟨j,h1,h2,h3,h4,h5⟩:=rg he
 obtain ⟨w,ew,rw'⟩:=r.get h2
 have hl:=r.length
 have hn:=j7
 have fin:EP X pins σ Q w s:=⟨z,H,I,rw',q⟩
 exact subscriptTail_builtinR (x:=w) pl.typeIs slot_tuple_getitem.lookup
  (getItem_tuple (j:=j) (Q:=fun r s'=>r=w /\ EP X pins σ Q r s') pl (by omega) (by omega) (by rw [List.size_toArray,<- hl]; exact h1) (by simpa using ew) ⟨rfl,fin⟩) hs
theorem Fp:Ck X Jx:=by
 intro value slice pins s σ H x y v u Q I rx ry h hs
 obtain ⟨z,i,c,rfl,rfl,hz,he,q⟩:=h
 obtain ⟨t,rfl⟩:=rx
 obtain ⟨t',rfl⟩:=ry
 obtain ⟨j,h1,h2,h3,h4,h5⟩:=rg he
 have hl:z.cps.toList.length=z.length:=by simp [Str.length]
 rw [hl] at h1 h4 h5
 have hn:=j7
 exact tail_any (typeIs_str s z t) slot_str_getitem.lookup (getItem_str (c:=c) (by
  have e1:decide (i < -(2 ^ 63:Int))=false:=decide_eq_false (by omega)
  have e2:decide (i ≥ 2 ^ 63)=false:=decide_eq_false (by omega)
  rw [e1,e2,Bool.or_false]) (by rw [h1]; simpa using h2) ⟨.str ⟨#[c]⟩,H,I.tok _,⟨_,rfl⟩,q⟩) hs
theorem wm (its:List Value) (n j:Nat) (u:Value):Obj.mapSeq (·.setIfInBounds j u) { cls:=.type "list", data:=.seq its.toArray n }={ cls:=.type "list", data:=.seq (its.set j u).toArray n }:=by
 simp [Obj.mapSeq]
theorem Inv.lst {pins:List (Addr × Obj)} {σ:St} {H:Hp} {s:Shared} {p:Addr} {xs:List V} (I:Inv X pins σ H s) (h:H p=some (.lst xs)) :
  ∃ (its:List Value) (n:Nat),Vals xs its /\ s.heap.get? p=some { cls:=.type "list", data:=.seq its.toArray n } /\ xs.length ≤ sizeLine:=by
 obtain ⟨z,its,n,r,e⟩:=I.hok p _ h
 exact ⟨its,n,r,e,z⟩
theorem Inv.lstUpd {pins:List (Addr × Obj)} {σ:St} {H:Hp} {s:Shared} {p:Addr} {xs ys:List V} {its its':List Value} {n n':Nat} {f:Obj -> Obj} (I:Inv X pins σ H s) (h:H p=some (.lst xs))
  (ho:s.heap.get? p=some { cls:=.type "list", data:=.seq its.toArray n }) (hf:f { cls:=.type "list", data:=.seq its.toArray n }={ cls:=.type "list", data:=.seq its'.toArray n' }) (r:Vals ys its') (hz:ys.length ≤ sizeLine) (t:Nat) :
  Inv X pins σ (upd H p (.lst ys)) { s with heap:=s.heap.update p f,toks:=t }:=by
 have e:(s.heap.update p f).get? p=some { cls:=.type "list", data:=.seq its'.toArray n' }:=by
  rw [Heap.get?_update_self f ho (by rw [hf] <;> rfl),hf]
 refine I.write (x:=p) (e:=p) (by rw [h]; trivial) (.inl rfl) (fun b u hb q=>(Heap.get?_update_other _ _ (Ne.symm hb)).trans q) ⟨_,e⟩ ?_
 exact ⟨hz,its',n',r,e⟩
def Ij:V -> V -> V -> Hp -> (Hp -> Prop) -> Prop:=fun o i v H Q=>∃ p xs k j,o=.ref p /\ i=.int k /\ H p=some (.lst xs) /\ wg xs.length k=some j /\ Q (upd H p (.lst (xs.set j v)))
theorem set_list:Hq X Ij:=by
 intro pins s σ H o i v ov iv u Q I ro ri rv h
 obtain ⟨p,xs,k,j,rfl,rfl,hp,hj,q⟩:=h
 cases ro
 obtain ⟨t,rfl⟩:=ri
 obtain ⟨its,n,r,ho,hz⟩:=I.lst hp
 obtain ⟨h1,h2,h3,h4⟩:=xT hj
 have hl:=r.length
 have hn:=j7
 have I':Inv X pins σ (upd H p (.lst (xs.set j v))) { s with heap:=s.heap.update p (Obj.mapSeq (·.setIfInBounds j u)) }:=
  I.lstUpd hp ho (wm its n j u) (r.set rv j) (by rw [List.length_set]; exact hz) s.toks
 by_cases h0:0 ≤ k
 ·have hk:k.toNat=j:=by
   rw [seqIndex_of h0 h4] at h1
   exact Option.some.inj h1
  exact PySem.W.ki_setAt ho h0 (by omega) (by rw [List.size_toArray,<- hl]; exact h4) (by rw [hk]; exact ⟨_,I',q⟩)
 ·have hk:(k + (its.toArray.size:Int)).toNat=j:=by
   rw [seqIndex_neg (by omega) h3] at h1
   rw [List.size_toArray,<- hl]
   exact Option.some.inj h1
  exact PySem.W.ki_setBack ho (by omega) (by rw [List.size_toArray,<- hl]; exact h3) (by omega) (by rw [hk]; exact ⟨_,I',q⟩)
theorem tN (lo hi:Option Int) (n:Nat):(sliceBounds lo hi none n).1=((HT.eW n 0 lo:Nat):Int) /\ (sliceBounds lo hi none n).2.1=((HT.eW n n hi:Nat):Int) /\ (sliceBounds lo hi none n).2.2=1:=by
 refine ⟨?_,?_,rfl⟩
 ·cases lo with
  | none=>simp [sliceBounds,HT.eW]
  | some i =>
   simp only [sliceBounds,HT.eW,Option.getD_none,show (1:Int) > 0 by decide,if_true]
   by_cases h:i < 0
   ·simp only [h,if_true] <;> omega
   ·simp only [h,if_false] <;> omega
 ·cases hi with
  | none=>simp [sliceBounds,HT.eW]
  | some i =>
   simp only [sliceBounds,HT.eW,Option.getD_none,show (1:Int) > 0 by decide,if_true]
   by_cases h:i < 0
   ·simp only [h,if_true] <;> omega
   ·simp only [h,if_false] <;> omega
theorem p9 (its:List Value) (lo hi:Option Int):slicePick its.toArray lo hi none=((its.drop (HT.eW its.length 0 lo)).take (HT.eW its.length its.length hi - HT.eW its.length 0 lo)).toArray:=by
 obtain ⟨h1,h2,h3⟩:=tN lo hi its.toArray.size
 unfold slicePick
 rw [h1,h2,h3]
 simp only [sliceRange_one,pick_run,List.size_toArray] <;> rfl
def Jz (K:PySem.W.Frag):V -> Option Int -> Option Int -> Hp -> VK -> Prop:=fun x lo hi H Q=>∃ a xs,x=.ref a /\ fF K H a xs /\ ∀ p,H p=none -> Q (.ref p) (upd H p (.lst (nW xs lo hi)))
theorem yA:Eh X (Jz X.K):=by
 intro pins s σ H x v vl vu lo hi sl Q I rx hs pl pu h
 obtain ⟨a,xs,rfl,hx,q⟩:=h
 cases rx
 obtain ⟨its,r,ht,hz⟩:=I.list hx
 have hlen:=r.length
 refine ⟨"list", _,slot_list_getitem.lookup,ht.isList.typeIs,?_⟩
 refine wpAny_getItem_list_slice ht.isList hs pl pu .none (by simp) ?_ (by rw [List.size_toArray] <;> omega)
 rw [p9,<- hlen]
 refine ⟨.ref s.heap.objs.size,_,I.laid (t':=s.toks) (o:=.lst (nW xs lo hi)) (fun b ob q=>Heap.get?_push_of_some _ q) (Nat.le_refl _) ?_,rfl,q _ (I.hok.fresh (Nat.le_refl _))⟩
 exact ⟨Nat.le_trans (mD xs lo hi) hz,_,0,(r.drop (HT.eW xs.length 0 lo)).take (HT.eW xs.length xs.length hi - HT.eW xs.length 0 lo),Heap.get?_push_size _ rfl⟩
theorem rn:gw X (.builtin "len") (fun xs H Q=>∃ p ys,xs=[.ref p] /\ (fF X.K H p ys \/ jO X.K H p ys) /\ Q (.int ys.length) H):=by
 intro pins s σ H xs us Q I r h
 obtain ⟨p,ys,rfl,hq,q⟩:=h
 obtain ⟨u,rfl,rx⟩:=vals1 r
 cases rx
 have hn:=j7
 rcases hq with hq | hq
 ·obtain ⟨its,r',pl,hz⟩:=I.list hq
  have hlen:=r'.length
  exact Calls.call_len_list pl.isList (by simp only [List.size_toArray] <;> omega) ⟨.int ys.length,H,I.tok _,⟨s.toks + 1,by rw [List.size_toArray,hlen]⟩,q⟩
 ·obtain ⟨its,r',pl,hz⟩:=I.tuple hq
  have hlen:=r'.length
  exact len_tuple pl (by simp only [List.size_toArray] <;> omega) ⟨.int ys.length,H,I.tok _,⟨s.toks + 1,by rw [List.size_toArray,hlen]⟩,q⟩
theorem rq:gw X (.builtin "len") (fun xs H Q=>∃ z,xs=[.str z] /\ z.length ≤ sizeLine /\ Q (.int z.length) H):=by
 intro pins s σ H xs us Q I r h
 obtain ⟨z,rfl,hz,q⟩:=h
 obtain ⟨u,rfl,t,rfl⟩:=vals1 r
 have hn:=j7
 exact len_str (by omega) ⟨.int z.length,H,I.tok _,⟨_,rfl⟩,q⟩
theorem gw.or {f:Value} {r r':List V -> Hp -> VK -> Prop} (h:gw X f r) (h':gw X f r'):gw X f (fun xs H Q=>r xs H Q \/ r' xs H Q):=by
 intro pins s σ H xs us Q I rs q
 rcases q with q | q
 ·exact h pins s σ H xs us Q I rs q
 ·exact h' pins s σ H xs us Q I rs q
theorem rA:gw X (.type "list") (fun xs H Q=>∃ p ys,xs=[.ref p] /\ (fF X.K H p ys \/ jO X.K H p ys) /\ ∀ l,H l=none -> Q (.ref l) (upd H l (.lst ys))):=by
 intro pins s σ H xs us Q I r h
 obtain ⟨p,ys,rfl,hq,q⟩:=h
 obtain ⟨u,rfl,rx⟩:=vals1 r
 cases rx
 have fin:∀ (its:List Value),Vals ys its -> ys.length ≤ sizeLine -> ∀ (h':Heap) (c':Nat),(∀ b o',s.heap.get? b=some o' -> h'.get? b=some o') ->
   h'.get? s.heap.objs.size=some { cls:=.type "list", dict:=none,data:=.seq its.toArray c',slots:=#[] } -> EP X pins σ Q (.ref s.heap.objs.size) { s with heap:=h' }:=fun its r' hz h' c' kp e =>
  ⟨.ref s.heap.objs.size,_,I.laid (t':=s.toks) kp (Nat.le_refl _) (show gN X.prog X.w _ h' _ (.lst ys) from ⟨hz,its,c',r',e⟩),rfl,q _ (I.hok.fresh (Nat.le_refl _))⟩
 rcases hq with hq | hq
 ·obtain ⟨its,r',pl,hz⟩:=I.list hq
  have hlen:=r'.length
  obtain ⟨o,ho,hc,n,hd⟩:=pl.isList
  exact call_list_seq p (.inl rfl) ho hc hd (fun h' c' kp e=>fin its r' hz h' c' kp e) (by simp only [List.size_toArray] <;> omega)
 ·obtain ⟨its,r',pl,hz⟩:=I.tuple hq
  have hlen:=r'.length
  obtain ⟨o,ho,hc,n,hd⟩:=pl
  exact call_list_seq p (.inr rfl) ho hc hd (fun h' c' kp e=>fin its r' hz h' c' kp e) (by simp only [List.size_toArray] <;> omega)
def JO (K:PySem.W.Frag) (T:String) (x:V) (H:Hp):Prop:=match x with
 | .str _=>T = "str"
 | .int _=>T = "int"
 | .ref p=>(T = "list" /\ ∃ xs,fF K H p xs) \/ (T = "tuple" /\ ∃ o,K.lookup p=some o /\ o.cls=.type "tuple" /\ o.dict=none) \/
   (T = "dict" /\ ((∃ kvs,H p=some (.dK kvs)) \/ ∃ kvs,H p=some (.dT kvs))) \/ (T = "set" /\ ∃ S n,H p=some (.set S n))
 | _=>False
theorem Cf {pins:List (Addr × Obj)} {σ:St} {H:Hp} {s:Shared} {T:String} {x:V} {v:Value} (I:Inv X pins σ H s) (r:RelV x v) (ty:JO X.K T x H) :
  s.TypeIs v T /\ ∀ a,v=.ref a -> ∃ ob,s.heap.get? a=some ob /\ ob.dict=none:=by
 cases x with
 | str z =>
  obtain ⟨t,rfl⟩:=r
  cases (show T = "str" from ty)
  exact ⟨typeIs_str s z t,fun _ e=>nomatch e⟩
 | int i =>
  obtain ⟨t,rfl⟩:=r
  cases (show T = "int" from ty)
  exact ⟨typeIs_int s i t,fun _ e=>nomatch e⟩
 | ref p =>
  cases r
  rcases ty with ⟨rfl,xs,hq⟩ | ⟨rfl,o,hk,hc,hd⟩ | ⟨rfl,hk⟩ | ⟨rfl,S,n,hk⟩
  ·obtain ⟨its,_,pl,_⟩:=I.list hq
   refine ⟨pl.isList.typeIs,fun a e=>?_⟩
   cases e
   obtain ⟨o,n,e,c,hd,_⟩:=pl
   exact ⟨o,e,hd⟩
  ·refine ⟨⟨o,I.kIn p o hk,hc⟩,fun a e=>?_⟩
   cases e
   exact ⟨o,I.kIn _ o hk,hd⟩
  ·have z:∃ o,s.heap.get? p=some o /\ o.ExactDict:=by
    rcases hk with ⟨kvs,hk⟩ | ⟨kvs,hk⟩
    ·obtain ⟨_,_,_,_,o,_,_,e,ex,_⟩:=I.hok p _ hk
     exact ⟨o,e,ex⟩
    ·obtain ⟨_,_,_,_,o,_,_,e,ex,_⟩:=I.hok p _ hk
     exact ⟨o,e,ex⟩
   obtain ⟨o,e,ex⟩:=z
   refine ⟨⟨o,e,ex.1⟩,fun a e2=>?_⟩
   cases e2
   exact ⟨o,e,ex.2.1⟩
  ·obtain ⟨o,_,_,_,e,ex,_⟩:=I.hok p _ hk
   refine ⟨⟨o,e,ex.1⟩,fun a e2=>?_⟩
   cases e2
   exact ⟨o,e,ex.2.1⟩
 | _=>exact False.elim ty
def JE (K:PySem.W.Frag) (T:String) (r:V -> List V -> Hp -> VK -> Prop) (to:TE):TE:=fun σ H Q=>to σ H fun x H1=>JO K T x H1 /\ r x [] H1 Q
def Kp (K:PySem.W.Frag) (T:String) (r:V -> List V -> Hp -> VK -> Prop) (to:TE) (t:TA):TE:=fun σ H Q=>to σ H fun x H1=>JO K T x H1 /\ t σ H1 fun xs H2=>r x xs H2 Q
variable {o e:Expr} {es:List Expr} {to:TE} {t:TA} {name:Str} {apos cpos:Pos} {T id:String} {r:V -> List V -> Hp -> VK -> Prop}
theorem FX (pa:PlainAttrs T) (slot:Slot T name id) (hty:typeOf (.builtin id)=pure (.type "method_descriptor")) (hm:Ee X id r) (ho:PE X o to)
  (hbase:attributeBase o name X.env (eval o X.env)=eval o X.env:=by rfl) (hline:(apos.endLine == cpos.line)=true:=by rfl):PE X (.Call (.Attribute o name apos) [] [] cpos) (JE X.K T r to):=by
 intro pins s σ H Q I h
 refine wpAny_Call_method0_late hbase hline (dm (ho pins s σ H _ I h) fun v s1 ⟨x,H1,I1,r1,ty,q1⟩=>?_)
 obtain ⟨h1,h2⟩:=Cf I1 r1 ty
 exact ⟨T,id,pa,slot,hty,h1,h2,Calls.callWith_builtin rfl (PySem.evalArgs_none (hm pins s1 σ H1 x [] v [] Q I1 r1 .nil q1))⟩
theorem HZ (pa:PlainAttrs T) (slot:Slot T name id) (hty:typeOf (.builtin id)=pure (.type "method_descriptor")) (hm:Ee X id r) (ho:PE X o to) (ha:PA X (e :: es) t)
  (hbase:attributeBase o name X.env (eval o X.env)=eval o X.env:=by rfl)
  (hfew:((backTo cpos (starEach (e :: es) X.env)).all (fun x=>!x.1) && (backToKw cpos (keywordEach [] X.env)).all (fun x=>x.1.isSome)
   && decide ((e :: es).length + ([]:List Keyword).length + (if ([]:List Keyword).isEmpty then 0 else 1) < 30))=true:=by rfl)
  (hline:(apos.endLine == cpos.line)=true:=by rfl) (hs:starEach (e :: es) X.env=(false,eval e X.env) :: starEach es X.env:=by rfl) (hplain:(backTo cpos (starEach es X.env)).any (·.1)=false:=by rfl) :
  PE X (.Call (.Attribute o name apos) (e :: es) [] cpos) (Kp X.K T r to t):=by
 intro pins s σ H Q I h
 refine wpAny_Call_method_late hbase hfew hline rfl (dm (ho pins s σ H _ I h) fun v s1 ⟨x,H1,I1,r1,ty,q1⟩=>?_)
 obtain ⟨h1,h2⟩:=Cf I1 r1 ty
 refine ⟨T,id,pa,slot,hty,h1,h2,?_⟩
 have hA:=ha cpos pins s1 σ H1 _ I1 q1
 rw [hs] at hA ⊢
 refine Calls.callWith_builtin (by show (false || (backTo cpos (starEach es X.env)).any (·.1))=false; rw [hplain] <;> rfl) (Calls.evalArgs_plain ?_)
 exact dm hA fun us s2 ⟨vs,H2,I2,r2,q2⟩=>hm pins s2 σ H2 x vs v us Q I2 r1 r2 q2
/- xs.append(e),list.index on a module's tuple .. are Ee facts of 06m -/
end
open PySem PySem.Spec PyProof.Rows
def J6 (X:Cx) (id:String) (r:V -> List V -> Hp -> VK -> Prop):Prop:=
 ∀ (pins:List (Addr × Obj)) (s:Shared) (σ:St) (H:Hp) (x:V) (xs:List V) (v:Value) (us:List Value) (Q:VK),Inv X pins σ H s -> RelV x v -> Vals xs us -> r x xs H Q ->
  wpAny (model X.prog X.w) X.A (call (.builtin id) (v :: us)) (EP X pins σ Q) X.xe s
theorem Vals.one:∀ {x:V} {us:List Value},Vals [x] us -> ∃ u,us=[u] /\ RelV x u
 | _,_,.cons r .nil=>⟨_,rfl,r⟩
theorem Vals.two:∀ {x y:V} {us:List Value},Vals [x,y] us -> ∃ u v,us=[u,v] /\ RelV x u /\ RelV y v
 | _,_,_,.cons r (.cons q .nil)=>⟨_,_,rfl,r,q⟩
theorem Vals.zero:∀ {us:List Value},Vals [] us -> us=[]
 | _,.nil=>rfl
theorem Vals.reverse {xs:List V} {us:List Value} (h:Vals xs us):Vals xs.reverse us.reverse:=by
 induction h with
 | nil=>exact .nil
 | cons r t ih=>rw [List.reverse_cons,List.reverse_cons]; exact Vals.append ih (.cons r .nil)
theorem Vals.rep {xs:List V} {us:List Value} (h:Vals xs us):∀ k:Nat,Vals (List.replicate k xs).flatten (List.replicate k us).flatten
 | 0=>.nil
 | k + 1=>by
  rw [List.replicate_succ,List.replicate_succ,List.flatten_cons,List.flatten_cons]
  exact Vals.append h (Vals.rep h k)
section
variable {X:Cx} {pins:List (Addr × Obj)} {σ:St} {H:Hp} {s:Shared} {l b:Addr} {xs ys zs:List V}
theorem Inv.lset {its its':List Value} {n:Nat} {f:Array Value -> Array Value} {t':Nat} (I:Inv X pins σ H s) (hH:H l=some (.lst xs))
  (e:s.heap.get? l=some { cls:=.type "list", data:=.seq its.toArray n }) (hf:f its.toArray=its'.toArray) (hv:Vals ys its') (hz:ys.length ≤ sizeLine) :
  Inv X pins σ (upd H l (.lst ys)) { s with heap:=s.heap.update l (Obj.mapSeq f),toks:=t' }:=by
 have q:=PySem.IsL.update e f
 rw [hf] at q
 refine I.write (x:=l) (e:=l) (by rw [hH]; exact trivial) (.inl rfl) (fun b' u hb hu=>(Heap.get?_update_other s.heap (Obj.mapSeq f) (Ne.symm hb)).trans hu) ⟨_,q⟩ ?_
 exact ⟨hz,its',_,hv,q⟩
theorem Inv.lnew {its:List Value} {t':Nat} (I:Inv X pins σ H s) (hv:Vals ys its) (hz:ys.length ≤ sizeLine) :
  Inv X pins σ (upd H s.heap.objs.size (.lst ys)) { s with heap:=s.heap.push { cls:=.type "list", data:=.seq its.toArray },toks:=t' }:=
 I.laid (fun _ _ q=>Heap.get?_push_of_some _ q) (Nat.le_refl _) ⟨hz,its,0,hv,Heap.get?_push_size _ rfl⟩
theorem Inv.fresh (I:Inv X pins σ H s):H s.heap.objs.size=none:=I.hok.fresh (Nat.le_refl _)
theorem Inv.lstM (I:Inv X pins σ H s) (hH:H l=some (.lst xs)):xs.length ≤ sizeLine /\ ∃ (its:List Value) (n:Nat),Vals xs its /\ xs.length=its.length /\ s.heap.get? l=some { cls:=.type "list", data:=.seq its.toArray n }:=by
 obtain ⟨z,its,n,r,e⟩:=I.hok l _ hH
 exact ⟨z,its,n,r,r.length,e⟩
end
section
variable {X:Cx}
def DQ:V -> List V -> Hp -> VK -> Prop:=fun x vs H Q=>∃ l xs y,x=.ref l /\ vs=[y] /\ H l=some (.lst xs) /\ xs.length < sizeLine /\ Q .non (upd H l (.lst (xs ++ [y])))
theorem lV:J6 X "list.append" DQ:=by
 intro pins s σ H x vs v us Q I rx rv h
 obtain ⟨l,xs,y,rfl,rfl,hH,hz,q⟩:=h
 cases rx
 obtain ⟨u,rfl,ru⟩:=rv.one
 obtain ⟨z,its,n,r,hl,e⟩:=I.lstM hH
 refine call_meets F.slot_list_append ⟨_,e,rfl⟩ F.entry_list_append (F.args_list_append_2 _ _) (PySem.list_append l its.toArray n u (by rw [List.size_toArray]; omega)) ⟨e,?_⟩
 refine ⟨.non,_,I.lset (its':=its ++ [u]) hH e (by simp) (r.append (.cons ru .nil)) ?_,rfl,q⟩
 rw [List.length_append,List.length_singleton]
 omega
def Jv:R2:=fun x y H Q=>∃ l b xs zs,x=.ref l /\ y=.ref b /\ H l=some (.lst xs) /\ H b=some (.lst zs) /\ xs.length + zs.length ≤ sizeLine /\ ∀ p,H p=none -> Q (.ref p) (upd H p (.lst (xs ++ zs)))
theorem FP:nJ X (binaryOp .Add) Jv:=by
 intro pins s σ H x y v u Q I rx ry h
 obtain ⟨l,b,xs,zs,rfl,rfl,hH,hB,hz,q⟩:=h
 cases rx
 cases ry
 obtain ⟨z,its,n,r,hl,e⟩:=I.lstM hH
 obtain ⟨z2,its2,n2,r2,hl2,e2⟩:=I.lstM hB
 refine PySem.P.add_list e e2 ?_ (by rw [List.size_toArray,List.size_toArray]; omega)
 have ea:its.toArray ++ its2.toArray=(its ++ its2).toArray:=by simp
 rw [ea]
 exact ⟨.ref _,_,I.lnew (t':=s.toks) (r.append r2) (by rw [List.length_append]; omega),rfl,q _ I.fresh⟩
end
section
variable {prog:Program} {w:World} {A:Around} {E:Value -> Shared -> Prop} {s:Shared}
end
section
variable {X:Cx}
end
end L2
namespace Att
open PySem PySem.W PySem.Calls PyProof.Rows
theorem mW {P:Params} {h:Heap}:∀ (ns:List Int) (vs:List Value),WellAll P h vs (ns.map WData.int) -> IntsAre vs ns:=by
 intro ns
 induction ns with
 | nil =>
  intro vs w
  rw [List.map_nil] at w
  cases w
  exact .nil
 | cons n ns ih =>
  intro vs w
  rw [List.map_cons] at w
  cases w with
  | cons a b =>
   cases a
   exact .cons _ _ (ih _ b)
theorem zO {l:OpenLaw} {n:Nat} (hn:l.most=some n) {P:Params} {h:Heap} {args:List WData} {vals:List Value}
  (hpre:l.row.toRowW.claim.pre args=true) (hwl:WellAll P h vals args) :
  ∃ a vs ns,vals=[Value.ref a] /\ args=[WData.list (ns.map WData.int)] /\ h.get? a=some { cls:=.type "list", data:=.seq vs.toArray } /\ IntsAre vs ns /\ ns.length ≤ n:=by
 have hsh:WShape.hasAll [] args [.list .int]=true:=(pre_splitW hpre).1
 have hc:l.pre.holds [] { args:=args }=true:=(pre_splitW hpre).2
 obtain ⟨d,r,rfl,h1,h2⟩:=hasAllW_cons hsh
 obtain rfl:=hasAllW_nil h2
 obtain ⟨xs,rfl,h3⟩:=hasW_list h1
 obtain ⟨ns,rfl⟩:=items_int h3
 have hlen:ns.length ≤ n:=by
  unfold OpenLaw.pre at hc
  have h4:(WTm.not (.lt (.lit (.int (n:Int))) (.len (.arg 0)))).holds [] { args:=[.list (ns.map .int)] }=true:=by
   have h4:=(holds_andW hc).1
   rw [hn] at h4
   exact h4
  have h5:=condW_of h4 (w_not (w_lt w_lit (w_len_list (w_arg rfl))))
  rw [List.length_map] at h5
  refine Nat.le_of_not_lt fun q=>?_
  have q':(n:Int) < ((ns.length:Nat):Int):=by omega
  first
   | (rw [decide_eq_true q'] at h5; exact absurd h5 (by decide))
   | (simp at h5; omega)
 cases hwl with
 | cons w1 w2 =>
  cases w2
  cases w1 with
  | list ho hall=>exact ⟨_,_,ns,rfl,rfl,ho,mW ns _ hall,hlen⟩
theorem zK (l:OpenLaw) (args:List WData):l.row.toRowW.claim.post args (.bool true) args=true:=
 postW_of (r:=l.row.toRowW) (X:=(true == true))
  (show WShape.has [] (.bool true) .bool=true by first | rfl | decide | simp [WShape.has,WShape.arms,WShape.armsAll])
  (show (WTm.eq .res (.lit (.bool true))).value [] { args:=args,res:=some (.bool true),after:=args }=some (.bool (true == true)) from w_eq_bool (w_res rfl) w_lit) rfl
theorem t9 {l:OpenLaw} {n:Nat} {q:Program} {loose:List Str} {XP:(Str -> Option Value) -> Heap -> Prop} {YP:World -> Heap -> Prop} {d:DefRec}
  (hn:l.most=some n) (hdf:d.params.defaults=[])
  (call:∀ (w:World) (s₀ s₁:Shared) (mg mb:Str -> Option Value) (fa:Addr) (o:Obj) (pm cd doc:Value) (a:Addr) (vs:List Value) (ns:List Int),
   Ground q loose [] XP w s₀ mg mb s₁.heap -> YP w s₁.heap ->
   s₁.heap.get? fa=some o -> o.data=.func (docDef d.name d.params d.body d.scope pm cd doc) -> s₁.heap.CodeRec cd d.name -> mg d.name=some (.ref fa) ->
   s₁.heap.get? a=some { cls:=.type "list", data:=.seq vs.toArray } -> IntsAre vs ns -> ns.length ≤ n -> s₁.gens = #[] ->
   codeAny (model l.prog w) callerA (.call (.ref fa) ⟨[.ref a],[]⟩) (fun r s'=>r=.ok (.ret (.bool true)) /\ OldK s₁.heap s'.heap /\ s'.os=s₁.os /\ AllBare s'.gens) s₁) :
  WalkO q loose XP YP l.row.toRowW d [] (fun f vs=>PySem.call f vs):=by
 intro w s₀ s₁ mg mb G Y fa o pm cd doc dV kV ho hd hcd hD hmg hg args vals as hpre hlay hrd hwl hlo
 obtain rfl:dV=.none:=Dflts.none hD hdf
 obtain rfl:kV=.none:=Dflts.noKw hD
 obtain ⟨a,vs,ns,rfl,rfl,hobj,hints,hlen⟩:=zO hn hpre hwl
 refine enter_call (codeAny_mono (call w s₀ s₁ mg mb fa o pm cd doc a vs ns G Y ho (fd_plain hd) hcd hmg hobj hints hlen hg) fun r s' hq=>?_)
 obtain ⟨rfl,h2,h3,h4⟩:=hq
 exact ⟨.inl ⟨.bool true,.bool true,[],rfl,fun _=>rfl,.bool true,zK l _,fun _=>⟨List.Pairwise.nil,fun _ hm=>(nomatch hm)⟩⟩,h2,h3,h4⟩
section
variable {prog:Program} {w:World} {A:Around} {E:Value -> Shared -> Prop} {s:Shared} {K:Frag}
end
end Att
namespace L2
open PySem PySem.Spec PyProof.Rows
theorem qP:∀ {vs:List Value} {ns:List Int},IntsAre vs ns -> Vals (ns.map V.int) vs
 | _,_,.nil=>.nil
 | _,_,.cons n t h=>.cons ⟨t,rfl⟩ (qP h)
def EI (H:Hp):Prop:=∀ b,H b=none \/ ∃ o xs,H b=some (.frz o (.lst xs))
theorem Bm {P:Program} {w:World} {K:PySem.W.Frag} {mg mb:Str -> Option Value} {CX:yU} {k:Nat} {fa a:Addr} {fd:FuncData} {x:Str} {sp:Sp} {s₁:Shared} {vs:List Value} {ns:List Int}
  (KX:K.In s₁.heap) (hns:s₁.heap.Ns mainGlobals mg) (hb:s₁.heap.Ns builtinsNs mb) (hbb:∀ x:Str,x ≠ "__name__" -> mb x=bootBuiltins x) (hlim:s₁.heap.NoLimit) (hg:s₁.gens = #[])
  (ha:s₁.heap.get? a=some { cls:=.type "list", data:=.seq vs.toArray }) (hi:IntsAre vs ns) (hl:ns.length ≤ sizeLine) (hr:eY k callerA)
  (F:∀ base:Heap,K.In base -> base.Ns mainGlobals mg -> ie P w K mg base CX k fa fd [x] sp) (hbind:∀ (s:Shared) (u:Value),BindsTo s fd ⟨[u],[]⟩ [(x,u)])
  (hsp:∀ H:Hp,EI H -> fF K H a (ns.map V.int) -> sp [.ref a] H (fun v _=>v=.bl true) fun _ _ _=>False)
  (hCX:∀ H e s',CX [] H s₁ (fun _ _ _=>False) e s' -> False) :
  codeAny (model P w) callerA (.call (.ref fa) ⟨[.ref a],[]⟩) (fun r s'=>r=.ok (.ret (.bool true)) /\ OldK s₁.heap s'.heap /\ s'.os=s₁.os /\ AllBare s'.gens) s₁:=by
 have rv:=qP hi
 have lenV:=hi.length
 -- from an abstract heap in which nothing but the script may be tracked
 have core:∀ H:Hp,EI H -> fF K H a (ns.map V.int) -> mQ P w H s₁.heap -> (∀ b,H b ≠ none -> b=a) -> (H a ≠ none -> K.lookup a=none) ->
   codeAny (model P w) callerA (.call (.ref fa) ⟨[.ref a],[]⟩) (fun r s'=>r=.ok (.ret (.bool true)) /\ OldK s₁.heap s'.heap /\ s'.os=s₁.os /\ AllBare s'.gens) s₁:=by
  intro H hO hS hok hA hK
  have base_of:∀ {b:Addr} {o:Obj},s₁.heap.get? b=some o -> H b=none -> (rP s₁.heap H).get? b=some o:=fun e n=>Bh e n
  have noA:∀ {b:Addr} {o:Obj} {es:Array DictEntry} {ep:Nat},s₁.heap.get? b=some o -> o.data=.dict es ep -> H b=none:=fun {b o es ep} e d=>by
   cases q:H b with
   | none=>rfl
   | some u =>
    have e':b=a:=hA b (by rw [q]; simp)
    subst e'
    rw [ha] at e; cases e
    have d':Data.seq vs.toArray _=Data.dict es ep:=d
    cases d'
  have nsK:∀ {b:Addr} {m:Str -> Option Value},s₁.heap.Ns b m -> (rP s₁.heap H).Ns b m:=fun {b m} ⟨o,es,ep,e,d,r⟩=>⟨o,es,ep,base_of e (noA e d),d,r⟩
  have hKb:K.In (rP s₁.heap H):=fun b o e=>base_of (KX b o e) (by
   cases q:H b with
   | none=>rfl
   | some u =>
    have e':b=a:=hA b (by rw [q]; simp)
    subst e'
    rw [hK (by rw [q]; simp)] at e; cases e)
  have hM:Mod K mg (rP s₁.heap H):=⟨hKb,nsK hns,⟨mb,nsK hb,hbb⟩,let ⟨mc,h1,h2⟩:=hlim; ⟨mc,nsK h1,h2⟩⟩
  have e0:vz P w K mg (rP s₁.heap H) callerA [] s₁ H:=⟨rfl,hM,fun b o e=>Dw e,Nat.le_of_eq (zr _ _),trivial,fun b hb=>absurd (show b ∈ ([]:List Addr) from hb) (by simp),hok,.of_eq hg⟩
  refine codeAny_mono ((F _ hKb (nsK hns)).run callerA [] s₁ H ⟨[.ref a],[]⟩ [.ref a] [.ref a] _ _ hr e0 (hbind s₁ (.ref a)) (.cons rfl .nil) (hsp H hO hS)) fun r s' h=>?_
  cases r with
  | error e=>exact (hCX H e s' h).elim
  | ok fl =>
   cases fl with
   | next=>exact False.elim h
   | brk=>exact False.elim h
   | cont=>exact False.elim h
   | ret u =>
    obtain ⟨v,H',os,bare,un,hok',r',q⟩:=h
    have q':v=.bl true:=q
    subst q'
    obtain rfl:u=Value.bool true:=r'
    refine ⟨rfl,OldK.of_keep fun b o e=>?_,os,bare⟩
    cases q:H b with
    | none=>exact un.keep b o e q (by intro z; exact absurd (show b ∈ ([]:List Addr) from z) (by simp)) (by simp)
    | some u =>
     rcases hO b with z | ⟨ob,xs,z⟩
     ·rw [q] at z; cases z
     ·have z2:=un.frzs b ob _ z
      obtain ⟨e1,_⟩:=hok b _ z
      obtain ⟨e2,_⟩:=hok' b _ z2
      rw [e] at e1; cases e1
      exact e2
 cases hk:K.lookup a with
 | some o =>
  -- the script is one of the module's own objects
  have e:=KX a o hk
  rw [ha] at e
  cases e
  refine core (fun _=>none) (fun _=>.inl rfl) (.inr ⟨_,vs.toArray,_,hk,rfl,rfl,rfl,by rw [List.size_toArray,lenV]; exact hl,by simpa using rv⟩) (fun b u z=>by have z':(none:Option HO)=some u:=z; cases z') (fun b z=>absurd rfl z) fun z=>absurd rfl z
 | none =>
  refine core (fun b=>if b=a then some (.frz { cls:=.type "list", data:=.seq vs.toArray } (.lst (ns.map V.int))) else none) (fun b=>?_) (.inl (.inr ⟨{ cls:=.type "list", data:=.seq vs.toArray },if_pos rfl⟩)) (fun b u z=>?_) (fun b z=>?_) fun _=>hk
  ·by_cases hb:b=a
   ·exact .inr ⟨_,_,if_pos hb⟩
   ·exact .inl (if_neg hb)
  ·by_cases hb:b=a
   ·have z':=(if_pos hb).symm.trans z
    cases z'
    subst hb
    exact ⟨ha,by rw [List.length_map]; exact hl,vs,_,rv,ha⟩
   ·have z':=(if_neg hb).symm.trans z
    cases z'
  ·by_cases hb:b=a
   ·exact hb
   ·exact absurd (if_neg hb) z
open PySem PySem.Spec PyProof.Rows
abbrev JR {K:PySem.W.Frag} {h:Heap} (_:K.In h):PySem.W.Frag:=K
theorem yP {l:PySem.W.OpenLaw} {n k:Nat} {q:Program} {loose:List Str} {XP:(Str -> Option Value) -> Heap -> Prop} {YP:World -> Heap -> Prop} {d:DefRec} {K:Params -> PySem.W.Frag} {CX:World -> yU} {sp:World -> Sp} {x:Str}
  (hn:l.most=some n) (hn2:n ≤ sizeLine) (hdf:d.params.defaults=[]) (hr:eY k callerA)
  (hY:∀ (w:World) (h:Heap),YP w h -> (K w.params).In h)
  (F:∀ (w:World) (mg:Str -> Option Value) (fa:Addr) (h:Heap),(K w.params).In h -> h.Ns mainGlobals mg -> mg d.name=some (.ref fa) ->
   ∃ fd:FuncData,(∀ (s:Shared) (u:Value),BindsTo s fd ⟨[u],[]⟩ [(x,u)]) /\
    ∀ base:Heap,(K w.params).In base -> base.Ns mainGlobals mg -> ie l.prog w (K w.params) mg base (CX w) k fa fd [x] (sp w))
  (hsp:∀ (w:World) (H:Hp) (a:Addr) (ns:List Int),ns.length ≤ n -> EI H -> fF (K w.params) H a (ns.map V.int) -> sp w [.ref a] H (fun v _=>v=.bl true) fun _ _ _=>False)
  (hCX:∀ (w:World) (H:Hp) (s:Shared) (e:Value) (s':Shared),CX w [] H s (fun _ _ _=>False) e s' -> False) :
  PySem.W.WalkO q loose XP YP l.row.toRowW d [] (fun f vs=>PySem.call f vs):=by
 refine Att.t9 hn hdf fun w s₀ s₁ mg mb fa o pm cd doc a vs ns G Y ho hd hcd hmg hobj hints hlen hg=>?_
 have KX:=hY w _ Y
 obtain ⟨fd,hb,hF⟩:=F w mg fa _ KX G.T.g hmg
 exact Bm KX G.T.g G.T.b G.T.builtins G.T.nolimit hg hobj hints (Nat.le_trans hlen hn2) hr hF hb (fun H hO hS=>hsp w H a ns hlen hO hS) fun H e s'=>hCX w H s₁ e s'
end L2
/- THE LAST THEOREM (shape; LID,My.* are yours):
   My.Adr: a structure of the addresses that your layer names (classes,functions); My.Txt K t: a structure (Prop) of the equations over K;
   My.txt_mk:{K} {implicit addresses ..} (e1:nsIn K mainGlobals "law" = some (some (.ref f))) (e2:K.lookup f=some ⟨oc,od,.func (fnOf "law" "law" params body scope dV kV doc pm an cdv ct),sl⟩) (e3:codeIn K cdv "law" = true) .. : ∃ t,My.Txt K t
set_option maxRecDepth 100000 in
set_option maxHeartbeats 0 in
theorem PySem.Challenge.cw_LID_holds : PySem.Challenge.rw_LID.Holds := by
 w_on; o_law; k_head; (case hw=>w_witness2)
 k_fill
 refine L2.yP (l:=PySem.Challenge.rw_LID) (n:=63) (k:=40) (x := "script") (CX:=fun w=>..) (sp:=fun _=>My.sp_law) rfl (by decide) rfl ⟨rfl,by decide,by decide⟩ (fun w h Y=>PySem.W.kIn_of Y) ?F ?S ?C
 case F =>
  intro w mg fa h KX G hmg
  have T:∃ t,My.Txt (L2.JR KX) t:=by
   dsimp only [L2.JR]                          -- K must stand as «<heap const> w.params» for k_is
   refine' My.txt_mk ?e1 ?e2 ?e3 ..
   (case e1=>PySem.W.k_is)                    -- in the order: a name -> its address -> its object -> its parts
   (case e2=>PySem.W.k_is)
   ..
  obtain ⟨t,T⟩:=T
  have e0:=hmg.symm.trans (PySem.W.mg_of KX G T.law)
  cases e0                                       -- fa is the law's own address
  exact ⟨_,fun s u=>.of_eq rfl,fun base kb nb=>My.law_fn T kb nb⟩     -- if «.of_eq rfl» comes too early: refine' ⟨_,?b,fun base kb nb=>My.law_fn T kb nb⟩; exact fun s u=>.of_eq rfl
 case S=>exact fun w H a ns hl hO hS=>..
 case C=>exact ..
(the tactic k_is has no namespace: write k_is) -/
namespace L2
open PySem PySem.Spec PyProof.Rows
def iz (s:Stmt):Arguments:=match s with
 | .FunctionDef _ a _ _ _ _ _ _ _ _=>a
 | _=>{ posonlyargs:=[],args:=[],vararg:=none,kwonlyargs:=[],kw_defaults:=[],kwarg:=none,defaults:=[] }
def d5 (s:Stmt):List Stmt:=match s with
 | .FunctionDef _ _ b _ _ _ _ _ _ _=>b
 | _=>[]
def aF (s:Stmt):Scope:=match s with
 | .FunctionDef _ _ _ _ _ _ sc _ _ _=>sc
 | _=>{ kind:=.function,names:=[],isGenerator:=false,isCoroutine:=false }
abbrev qV:yU:=fun _ _ _ _ _ _=>False
abbrev E0:XK:=fun _ _ _=>False
theorem BL {X:Cx}:Passes qV X E0:=fun _ _ _ _ _ _ _ h=>h.elim
structure fV (K:PySem.W.Frag) (x qual:Str) (st:Stmt) (f:Addr) (fd:FuncData):Prop where
 ex:∃ (oc:Value) (od:Option Addr) (kV doc pm:Value) (an:Option Addr) (cdv ct:Value) (osl:Array (Option Value)),
  fd=PySem.W.fnOf x qual (iz st) (d5 st) (aF st) .none kV doc pm an cdv ct /\ K.lookup f=some ⟨oc,od,.func fd,osl⟩ /\ PySem.W.codeIn K cdv qual=true
 kp:PySem.W.keepIn K (.ref f)=true
section
variable {P:Program} {w:World} {K:PySem.W.Frag} {mg:Str -> Option Value} {base:Heap}
theorem fV.ok {x qual:Str} {st:Stmt} {f:Addr} {fd:FuncData} {N ps:List Str} {k:Nat} {sp:Sp} (F:fV K x qual st f fd) (S:aU N ps (aF st)) (len:∀ vs H Q E,sp vs H Q E -> vs.length=ps.length)
  (hbody:∀ (cdv:Value) (A:Around) (outer:List Env) (s:Shared) (H:Hp) (vs:List V) (Q:VK) (E:XK),eY k (A.deeper (envOfC qual (aF st) s.heap.objs.size f cdv)) -> sp vs H Q E ->
   ∃ t,mR (pK qV P w K mg base N qual (aF st) f cdv A outer s H E).nox (d5 st) t /\ t { nx:=fun _ H'=>Q .non H',rt:=Q } (start N vs) H):ie P w K mg base qV (k + 1) f fd ps sp:=by
 obtain ⟨oc,od,kV,doc,pm,an,cdv,ct,osl,rfl,lk,hcd⟩:=F.ex
 refine HE lk hcd S len fun A outer s H vs Q E hr hsp=>?_
 obtain ⟨t,h,q⟩:=hbody cdv A outer s H vs Q E hr hsp
 exact ⟨t,h.nox,q⟩
theorem fV.binds {x qual:Str} {st:Stmt} {f:Addr} {fd:FuncData} {ps:List Str} (F:fV K x qual st f fd)
  (h:∀ (kV doc pm:Value) (an:Option Addr) (cdv ct:Value) (us:List Value),us.length=ps.length -> bindArgs (PySem.W.fnOf x qual (iz st) (d5 st) (aF st) .none kV doc pm an cdv ct) ⟨us,[]⟩=pure (ps.zip us)):Binds K fd ps []:=by
 obtain ⟨oc,od,kV,doc,pm,an,cdv,ct,osl,rfl,lk,hcd⟩:=F.ex
 exact .all (h kV doc pm an cdv ct)
theorem Fe {x qual:Str} {st:Stmt} {f:Addr} {oc:Value} {od an:Option Addr} {osl:Array (Option Value)} {kV doc pm cdv ct:Value} (l:K.lookup f=some ⟨oc,od,.func (PySem.W.fnOf x qual (iz st) (d5 st) (aF st) .none kV doc pm an cdv ct),osl⟩)
  (c:PySem.W.codeIn K cdv qual=true) (k:PySem.W.keepIn K (.ref f)=true):fV K x qual st f (PySem.W.fnOf x qual (iz st) (d5 st) (aF st) .none kV doc pm an cdv ct):=⟨⟨oc,od,kV,doc,pm,an,cdv,ct,osl,rfl,l,c⟩,k⟩
end
theorem dz {n:Nat} (h:n ≤ 1000):n < sizeLine:=Nat.lt_of_le_of_lt h (by decide)
section
variable {X:Cx}
theorem pv (i:Nat) {x:Str} {pos:Pos} (hN:X.N[i]? = some x:=by rfl) (hv:G1 X.env.scope x:=by first | exact Or.inl rfl | exact Or.inr (Or.inl rfl) | exact Or.inr (Or.inr rfl)) (hd:(x == ("__debug__" : Str))=false:=by decide)
  (hcd:(x == ("__classdict__" : Str))=false:=by decide):PE X (.Name x pos) (wR i):=Ge hN hv hd hcd
end
def aS (H H':Hp):Prop:=∀ b o,H b=some o -> H' b=some o
theorem aS.refl (H:Hp):aS H H:=fun _ _ h=>h
theorem aS.trans {H H1 H2:Hp} (a:aS H H1) (b:aS H1 H2):aS H H2:=fun c o h=>b c o (a c o h)
theorem aS.free {H H':Hp} (e:aS H H') {l:Addr} (h:H' l=Option.none):H l=Option.none:=by
 cases q:H l with
 | none=>rfl
 | some o =>
  rw [e l o q] at h
  cases h
theorem aS.seq {K:PySem.W.Frag} {H H':Hp} {a:Addr} {xs:List V} (e:aS H H') (h:fF K H a xs):fF K H' a xs:=by
 rcases h with (h | ⟨o,h⟩) | h
 ·exact .inl (.inl (e _ _ h))
 ·exact .inl (.inr ⟨o,e _ _ h⟩)
 ·exact .inr h
end L2
namespace TM
open PySem PySem.Spec PyProof.Rows L2
inductive T where
 | non | bl (b:Bool) | int (i:Int) | str (x:Str) | ty (n:String) | tup (ts:List T) | lst (ts:List T) | scr (ts:List T) | dic | obj (C:Addr) (ns:List Str) (ts:List T) | ptr (a:Addr)
mutual
def Rep (K:PySem.W.Frag) (F:Hp):T -> V -> Prop
 | .non,v=>v=.non
 | .bl b,v=>v=.bl b
 | .int i,v=>v=.int i
 | .str x,v=>v=.str x
 | .ty n,v=>v=.ty n
 | .tup ts,v=>∃ a xs,v=.ref a /\ jO K F a xs /\ aV K F ts xs
 | .lst ts,v=>∃ a xs,v=.ref a /\ F a=some (.lst xs) /\ aV K F ts xs
 | .scr ts,v=>∃ a xs,v=.ref a /\ fF K F a xs /\ aV K F ts xs
 | .dic,v=>∃ a,v=.ref a /\ F a=some (.dK [])
 | .obj C ns ts,v=>∃ a dx vs,v=.ref a /\ F a=some (.ins C dx (ns.zip vs)) /\ vs.length=ns.length /\ aV K F ts vs
 | .ptr a,v=>v=.ref a
def aV (K:PySem.W.Frag) (F:Hp):List T -> List V -> Prop
 | [],xs=>xs=[]
 | t :: ts,xs=>∃ v r,xs=v :: r /\ Rep K F t v /\ aV K F ts r
end
theorem cv {K:PySem.W.Frag} {H H':Hp} {a:Addr} {xs:List V} (e:aS H H') (h:jO K H a xs):jO K H' a xs:=by
 rcases h with (h | ⟨o,h⟩) | h
 ·exact .inl (.inl (e _ _ h))
 ·exact .inl (.inr ⟨o,e _ _ h⟩)
 ·exact .inr h
mutual
theorem Rep.mono {K:PySem.W.Frag} {F F':Hp} (e:aS F F'):∀ {t:T} {v:V},Rep K F t v -> Rep K F' t v
 | .non,_,h=>h
 | .bl _,_,h=>h
 | .int _,_,h=>h
 | .str _,_,h=>h
 | .ty _,_,h=>h
 | .tup ts,_,h=>by
  obtain ⟨a,xs,h1,h2,h3⟩:=h
  exact ⟨a,xs,h1,cv e h2,aV.mono e h3⟩
 | .lst ts,_,h=>by
  obtain ⟨a,xs,h1,h2,h3⟩:=h
  exact ⟨a,xs,h1,e _ _ h2,aV.mono e h3⟩
 | .scr ts,_,h=>by
  obtain ⟨a,xs,h1,h2,h3⟩:=h
  exact ⟨a,xs,h1,e.seq h2,aV.mono e h3⟩
 | .dic,_,h=>by
  obtain ⟨a,h1,h2⟩:=h
  exact ⟨a,h1,e _ _ h2⟩
 | .obj C ns ts,_,h=>by
  obtain ⟨a,dx,vs,h1,h2,h3,h4⟩:=h
  exact ⟨a,dx,vs,h1,e _ _ h2,h3,aV.mono e h4⟩
 | .ptr _,_,h=>h
theorem aV.mono {K:PySem.W.Frag} {F F':Hp} (e:aS F F'):∀ {ts:List T} {vs:List V},aV K F ts vs -> aV K F' ts vs
 | [],_,h=>h
 | t :: ts,_,h=>by
  obtain ⟨v,r,h1,h2,h3⟩:=h
  exact ⟨v,r,h1,Rep.mono e h2,aV.mono e h3⟩
end
section
variable {K:PySem.W.Frag} {F:Hp}
theorem aV.length:∀ {ts:List T} {vs:List V},aV K F ts vs -> vs.length=ts.length
 | [],_,h=>by cases h; rfl
 | t :: ts,_,h=>by
  obtain ⟨v,r,rfl,h2,h3⟩:=h
  simp [aV.length h3]
theorem aV.get:∀ {ts:List T} {vs:List V} {i:Nat} {t:T},aV K F ts vs -> ts[i]? = some t -> ∃ v,vs[i]? = some v /\ Rep K F t v
 | [],_,_,_,h,e=>by simp at e
 | t :: ts,_,0,_,h,e=>by
  obtain ⟨v,r,rfl,h2,h3⟩:=h
  simp at e; subst e
  exact ⟨v,rfl,h2⟩
 | t :: ts,_,i + 1,u,h,e=>by
  obtain ⟨v,r,rfl,h2,h3⟩:=h
  obtain ⟨w,h4,h5⟩:=aV.get (i:=i) (t:=u) h3 (by simpa using e)
  exact ⟨w,by simpa using h4,h5⟩
theorem aV.append:∀ {ts us:List T} {vs ws:List V},aV K F ts vs -> aV K F us ws -> aV K F (ts ++ us) (vs ++ ws)
 | [],_,_,_,h,h'=>by cases h; exact h'
 | t :: ts,_,_,_,h,h'=>by
  obtain ⟨v,r,rfl,h2,h3⟩:=h
  exact ⟨v,r ++ _,rfl,h2,aV.append h3 h'⟩
theorem aV.one {t:T} {v:V} (h:Rep K F t v):aV K F [t] [v]:=⟨v,[],rfl,h,rfl⟩
theorem aV.take:∀ {ts:List T} {vs:List V} (n:Nat),aV K F ts vs -> aV K F (ts.take n) (vs.take n)
 | _,_,0,_=>rfl
 | [],_,n + 1,h=>by cases h; rfl
 | t :: ts,_,n + 1,h=>by
  obtain ⟨v,r,rfl,h2,h3⟩:=h
  exact ⟨v,r.take n,rfl,h2,aV.take n h3⟩
theorem aV.drop:∀ {ts:List T} {vs:List V} (n:Nat),aV K F ts vs -> aV K F (ts.drop n) (vs.drop n)
 | _,_,0,h=>h
 | [],_,n + 1,h=>by cases h; rfl
 | t :: ts,_,n + 1,h=>by
  obtain ⟨v,r,rfl,h2,h3⟩:=h
  exact aV.drop n h3
theorem qG:∀ ns:List Int,aV K F (ns.map T.int) (ns.map V.int)
 | []=>rfl
 | n :: ns=>⟨.int n,ns.map V.int,rfl,rfl,qG ns⟩
end
structure br (F H F' H':Hp):Prop where
 sF:aS F F'
 sH:aS H H'
 fh:aS F' H'
 nw:∀ a o,F' a=some o -> F a=some o \/ H a=none
theorem br.refl {F H:Hp} (h:aS F H):br F H F H:=⟨aS.refl _,aS.refl _,h,fun _ _ e=>.inl e⟩
theorem br.trans {F H F1 H1 F2 H2:Hp} (a:br F H F1 H1) (b:br F1 H1 F2 H2):br F H F2 H2:=
 ⟨a.sF.trans b.sF,a.sH.trans b.sH,b.fh,fun x o e=>by
  rcases b.nw x o e with e | e
  ·exact a.nw x o e
  ·exact .inr (a.sH.free e)⟩
theorem cX {H:Hp} {p:Addr} {o:HO} (h:H p=none):aS H (upd H p o):=fun b u q=>by rw [aO (bO q h)]; exact q
theorem br.new {F H:Hp} {p:Addr} (o:HO) (h:aS F H) (n:H p=none):br F H (upd F p o) (upd H p o):=by
 refine ⟨cX (h.free n),cX n,fun b u q=>?_,fun a u q=>?_⟩
 ·by_cases e:b=p
  ·subst e; rw [aX] at q ⊢; exact q
  ·rw [aO e] at q ⊢; exact h _ _ q
 ·by_cases e:a=p
  ·subst e; exact .inr n
  ·rw [aO e] at q; exact .inl q
inductive Sl where
 | sh (t:T) | own (ts:List T)
abbrev aP:=List (Option Sl)
def yX (K:PySem.W.Frag) (H₀ F H:Hp):Sl -> V -> Prop
 | .sh t,v=>Rep K F t v
 | .own ts,v=>∃ p vs,v=.ref p /\ H p=some (.lst vs) /\ F p=none /\ H₀ p=none /\ aV K F ts vs
structure aJ (K:PySem.W.Frag) (F₀ H₀ F H:Hp) (σ:L2.St) (τ:aP):Prop where
 g:br F₀ H₀ F H
 len:σ.length=τ.length
 sl:∀ (i:Nat) (s:Sl),τ[i]? = some (some s) -> ∃ v,σ[i]? = some (some v) /\ yX K H₀ F H s v
 dj:∀ (i j:Nat) (ts us:List T) (p:Addr),i ≠ j -> τ[i]? = some (some (.own ts)) -> τ[j]? = some (some (.own us)) -> σ[i]? = some (some (.ref p)) -> σ[j]? ≠ some (some (.ref p))
section
variable {K:PySem.W.Frag} {F₀ H₀ F H F' H':Hp} {σ:L2.St} {τ:aP}
theorem yX.grow {s:Sl} {v:V} (g:br F H F' H') (h:yX K H₀ F H s v):yX K H₀ F' H' s v:=by
 cases s with
 | sh t=>exact Rep.mono g.sF h
 | own ts =>
  obtain ⟨p,vs,h1,h2,h3,h4,h5⟩:=h
  refine ⟨p,vs,h1,g.sH _ _ h2,?_,h4,aV.mono g.sF h5⟩
  cases e:F' p with
  | none=>rfl
  | some o =>
   rcases g.nw p o e with q | q
   ·rw [q] at h3; cases h3
   ·rw [q] at h2; cases h2
theorem aJ.grow (E:aJ K F₀ H₀ F H σ τ) (g:br F H F' H'):aJ K F₀ H₀ F' H' σ τ:=by
 refine ⟨E.g.trans g,E.len,fun i s e=>?_,E.dj⟩
 obtain ⟨v,h1,h2⟩:=E.sl i s e
 exact ⟨v,h1,h2.grow g⟩
theorem aJ.set {i:Nat} {t:T} {v:V} (E:aJ K F₀ H₀ F H σ τ) (r:Rep K F t v):aJ K F₀ H₀ F H (σ.set i (some v)) (τ.set i (some (.sh t))):=by
 refine ⟨E.g,by simp [E.len],fun j s e=>?_,fun j k ts us p hjk e1 e2 e3=>?_⟩
 ·by_cases hj:i=j
  ·subst hj
   by_cases hl:i < τ.length
   ·rw [List.getElem?_set_self hl] at e
    cases e
    exact ⟨v,List.getElem?_set_self (by rw [E.len]; exact hl),r⟩
   ·rw [List.getElem?_eq_none (by simp; omega)] at e; cases e
  ·rw [List.getElem?_set_ne hj] at e
   rw [List.getElem?_set_ne hj]
   exact E.sl j s e
 ·have n1:i ≠ j:=fun z=>by
   subst z
   by_cases hl:i < τ.length
   ·rw [List.getElem?_set_self hl] at e1; cases e1
   ·rw [List.getElem?_eq_none (by simp; omega)] at e1; cases e1
  have n2:i ≠ k:=fun z=>by
   subst z
   by_cases hl:i < τ.length
   ·rw [List.getElem?_set_self hl] at e2; cases e2
   ·rw [List.getElem?_eq_none (by simp; omega)] at e2; cases e2
  rw [List.getElem?_set_ne n1] at e1 e3
  rw [List.getElem?_set_ne n2] at e2 ⊢
  exact E.dj j k ts us p hjk e1 e2 e3
theorem aJ.freeze {i:Nat} {ts:List T} (E:aJ K F₀ H₀ F H σ τ) (e:τ[i]? = some (some (.own ts))) :
  ∃ F' v,σ[i]? = some (some v) /\ aJ K F₀ H₀ F' H σ (τ.set i (some (.sh (.lst ts)))) /\ aS F F' /\ Rep K F' (.lst ts) v:=by
 obtain ⟨v,h1,p,vs,rfl,h2,h3,h4,h5⟩:=E.sl i _ e
 have sF:aS F (upd F p (.lst vs)):=cX h3
 have rp:Rep K (upd F p (.lst vs)) (.lst ts) (.ref p):=⟨p,vs,rfl,aX,aV.mono sF h5⟩
 refine ⟨upd F p (.lst vs),.ref p,h1,⟨⟨E.g.sF.trans sF,E.g.sH,fun b o q=>?_,fun b o q=>?_⟩,by simp [E.len],fun j s q=>?_,fun j k us ws r hjk e1 e2 e3=>?_⟩,sF,rp⟩
 ·by_cases z:b=p
  ·subst z; rw [aX] at q; cases q; exact h2
  ·rw [aO z] at q; exact E.g.fh _ _ q
 ·by_cases z:b=p
  ·subst z; exact .inr h4
  ·rw [aO z] at q; exact E.g.nw _ _ q
 ·by_cases hj:i=j
  ·subst hj
   have hl:i < τ.length:=by
    have:=(List.getElem?_eq_some_iff.mp e).1
    exact this
   rw [List.getElem?_set_self hl] at q
   cases q
   exact ⟨_,h1,rp⟩
  ·rw [List.getElem?_set_ne hj] at q
   obtain ⟨v,g1,g2⟩:=E.sl j s q
   refine ⟨v,g1,?_⟩
   cases s with
   | sh t=>exact Rep.mono sF g2
   | own us =>
    obtain ⟨r,ws,rfl,k2,k3,k4,k5⟩:=g2
    have hne:r ≠ p:=fun z=>by
     subst z
     exact E.dj i j ts us r hj e q h1 g1
    exact ⟨r,ws,rfl,k2,by rw [aO hne]; exact k3,k4,aV.mono sF k5⟩
 ·have hl:i < τ.length:=(List.getElem?_eq_some_iff.mp e).1
  have n1:i ≠ j:=fun z=>by subst z; rw [List.getElem?_set_self hl] at e1; cases e1
  have n2:i ≠ k:=fun z=>by subst z; rw [List.getElem?_set_self hl] at e2; cases e2
  rw [List.getElem?_set_ne n1] at e1
  rw [List.getElem?_set_ne n2] at e2
  exact E.dj j k us ws r hjk e1 e2 e3
theorem aJ.setOwn {i:Nat} {ts:List T} {vs:List V} {p:Addr} (E:aJ K F₀ H₀ F H σ τ) (n:H p=none) (r:aV K F ts vs):aJ K F₀ H₀ F (upd H p (.lst vs)) (σ.set i (some (.ref p))) (τ.set i (some (.own ts))):=by
 have sH:aS H (upd H p (.lst vs)):=cX n
 have fp:F p=none:=E.g.fh.free n
 have old:∀ {j:Nat} {s:Sl},i ≠ j -> τ[j]? = some (some s) -> ∃ v,σ[j]? = some (some v) /\ yX K H₀ F (upd H p (.lst vs)) s v:=fun {j s} hj q=>by
  obtain ⟨v,g1,g2⟩:=E.sl j s q
  refine ⟨v,g1,?_⟩
  cases s with
  | sh t=>exact g2
  | own us =>
   obtain ⟨r,ws,rfl,k2,k3,k4,k5⟩:=g2
   exact ⟨r,ws,rfl,sH _ _ k2,k3,k4,k5⟩
 refine ⟨⟨E.g.sF,E.g.sH.trans sH,E.g.fh.trans sH,E.g.nw⟩,by simp [E.len],fun j s e=>?_,fun j k ts' us q hjk e1 e2 e3 e4=>?_⟩
 ·by_cases hj:i=j
  ·subst hj
   by_cases hl:i < τ.length
   ·rw [List.getElem?_set_self hl] at e
    cases e
    exact ⟨.ref p,List.getElem?_set_self (by rw [E.len]; exact hl),p,vs,rfl,aX,fp,E.g.sH.free n,r⟩
   ·rw [List.getElem?_eq_none (by simp; omega)] at e; cases e
  ·rw [List.getElem?_set_ne hj] at e
   rw [List.getElem?_set_ne hj]
   exact old hj e
 ·by_cases hj:i=j
  ·subst hj
   have n2:i ≠ k:=hjk
   rw [List.getElem?_set_ne n2] at e2 e4
   by_cases hl:i < τ.length
   ·rw [List.getElem?_set_self (by rw [E.len]; exact hl)] at e3
    cases e3
    obtain ⟨v,g1,r',ws,rfl,k2,_⟩:=E.sl k _ e2
    rw [g1] at e4; cases e4
    rw [n] at k2; cases k2
   ·rw [List.getElem?_eq_none (by simp; omega)] at e1; cases e1
  ·rw [List.getElem?_set_ne hj] at e1 e3
   by_cases hk:i=k
   ·subst hk
    by_cases hl:i < τ.length
    ·rw [List.getElem?_set_self (by rw [E.len]; exact hl)] at e4
     cases e4
     obtain ⟨v,g1,r',ws,rfl,k2,_⟩:=E.sl j _ e1
     rw [g1] at e3; cases e3
     rw [n] at k2; cases k2
    ·rw [List.getElem?_eq_none (by simp; omega)] at e2; cases e2
   ·rw [List.getElem?_set_ne hk] at e2 e4
    exact E.dj j k ts' us q hjk e1 e2 e3 e4
theorem aJ.turnOwn {i:Nat} {ts us:List T} {vs:List V} {p:Addr} (E:aJ K F₀ H₀ F H σ τ) (e:τ[i]? = some (some (.own ts))) (hp:σ[i]? = some (some (.ref p))) (r:aV K F us vs) :
  aJ K F₀ H₀ F (upd H p (.lst vs)) σ (τ.set i (some (.own us))):=by
 obtain ⟨v,h1,p',vs',rfl,h2,h3,h4,h5⟩:=E.sl i _ e
 rw [hp] at h1; cases h1
 have hl:i < τ.length:=(List.getElem?_eq_some_iff.mp e).1
 refine ⟨⟨E.g.sF,fun b o q=>?_,fun b o q=>?_,E.g.nw⟩,by simp [E.len],fun j s q=>?_,fun j k ts' us' q hjk e1 e2 e3=>?_⟩
 ·rw [aO (fun z=>by subst z; rw [h4] at q; cases q)]; exact E.g.sH _ _ q
 ·rw [aO (fun z=>by subst z; rw [h3] at q; cases q)]; exact E.g.fh _ _ q
 ·by_cases hj:i=j
  ·subst hj
   rw [List.getElem?_set_self hl] at q; cases q
   exact ⟨_,hp,p,vs,rfl,aX,h3,h4,r⟩
  ·rw [List.getElem?_set_ne hj] at q
   obtain ⟨v,g1,g2⟩:=E.sl j s q
   refine ⟨v,g1,?_⟩
   cases s with
   | sh t=>exact g2
   | own us' =>
    obtain ⟨r',ws,rfl,k2,k3,k4,k5⟩:=g2
    have hne:r' ≠ p:=fun z=>by subst z; exact E.dj i j ts us' r' hj e q hp g1
    exact ⟨r',ws,rfl,by rw [aO hne]; exact k2,k3,k4,k5⟩
 ·have q1:∃ zs,τ[j]? = some (some (.own zs)):=by
   by_cases hj:i=j
   ·subst hj; exact ⟨_,e⟩
   ·rw [List.getElem?_set_ne hj] at e1; exact ⟨_,e1⟩
  have q2:∃ zs,τ[k]? = some (some (.own zs)):=by
   by_cases hj:i=k
   ·subst hj; exact ⟨_,e⟩
   ·rw [List.getElem?_set_ne hj] at e2; exact ⟨_,e2⟩
  obtain ⟨z1,q1⟩:=q1
  obtain ⟨z2,q2⟩:=q2
  exact E.dj j k z1 z2 q hjk q1 q2 e3
end
open PySem PySem.Spec PyProof.Rows L2
abbrev FE:=aP -> Option (T × aP)
abbrev FA:=aP -> Option (List T × aP)
abbrev FT:=aP -> Option (Bool × aP)
inductive R where
 | nx (τ:aP) | rt (t:T) | bk (τ:aP) | ct (τ:aP)
abbrev FS:=aP -> Option R
abbrev FG:=T -> aP -> Option aP
section
variable (K:PySem.W.Frag) (F₀ H₀:Hp)
def tE (f:FE):TE:=fun σ H Q=>∃ F τ t τ',aJ K F₀ H₀ F H σ τ /\ f τ=some (t,τ') /\ ∀ F' H' v,aJ K F₀ H₀ F' H' σ τ' -> aS F F' -> Rep K F' t v -> Q v H'
def tA (f:FA):TA:=fun σ H Q=>∃ F τ ts τ',aJ K F₀ H₀ F H σ τ /\ f τ=some (ts,τ') /\ ∀ F' H' vs,aJ K F₀ H₀ F' H' σ τ' -> aS F F' -> aV K F' ts vs -> Q vs H'
def tT (f:FT):TT:=fun σ H Q=>∃ F τ b τ',aJ K F₀ H₀ F H σ τ /\ f τ=some (b,τ') /\ ∀ F' H',aJ K F₀ H₀ F' H' σ τ' -> aS F F' -> Q b H'
def qZ (F:Hp) (D:Ends):R -> Prop
 | .nx τ'=>∀ F' H' σ',aJ K F₀ H₀ F' H' σ' τ' -> aS F F' -> D.nx σ' H'
 | .rt t=>∀ F' H' v,br F₀ H₀ F' H' -> Rep K F' t v -> D.rt v H'
 | .bk τ'=>∀ F' H' σ',aJ K F₀ H₀ F' H' σ' τ' -> aS F F' -> D.bk σ' H'
 | .ct τ'=>∀ F' H' σ',aJ K F₀ H₀ F' H' σ' τ' -> aS F F' -> D.ct σ' H'
def tS (f:FS):TS:=fun D σ H=>∃ F τ r,aJ K F₀ H₀ F H σ τ /\ f τ=some r /\ qZ K F₀ H₀ F D r
end
def SE (X:Cx) (e:Expr) (f:FE):Prop:=∀ F₀ H₀,PE X e (tE X.K F₀ H₀ f)
def SA (X:Cx) (es:List Expr) (f:FA):Prop:=∀ F₀ H₀,PA X es (tA X.K F₀ H₀ f)
def ST (X:Cx) (e:Expr) (f:FT):Prop:=∀ F₀ H₀,PT X e (tT X.K F₀ H₀ f)
def SW (X:Cx) (e:Expr) (f:FT):Prop:=∀ F₀ H₀,PW X e (tT X.K F₀ H₀ f)
def SS (X:Cx) (st:Stmt) (f:FS):Prop:=∀ F₀ H₀,PS X st (tS X.K F₀ H₀ f)
def xj (X:Cx) (st:List Stmt) (f:FS):Prop:=∀ F₀ H₀,mR X st (tS X.K F₀ H₀ f)
section
variable {X:Cx} {e a b:Expr} {pos:Pos} {f fa fb:FE}
theorem PE.weak {t t':TE} (h:PE X e t) (i:∀ σ H Q,t' σ H Q -> t σ H Q):PE X e t':=fun pins s σ H Q I q=>h pins s σ H Q I (i σ H Q q)
theorem PT.weak {t t':TT} (h:PT X e t) (i:∀ σ H Q,t' σ H Q -> t σ H Q):PT X e t':=fun pins s σ H Q I q=>h pins s σ H Q I (i σ H Q q)
theorem PW.weak {t t':TT} (h:PW X e t) (i:∀ σ H Q,t' σ H Q -> t σ H Q):PW X e t':=fun wh pins s σ H Q I q=>h wh pins s σ H Q I (i σ H Q q)
theorem PA.weak {es:List Expr} {t t':TA} (h:PA X es t) (i:∀ σ H Q,t' σ H Q -> t σ H Q):PA X es t':=fun p pins s σ H Q I q=>h p pins s σ H Q I (i σ H Q q)
theorem PS.weak {st:Stmt} {t t':TS} (h:PS X st t) (i:∀ D σ H,t' D σ H -> t D σ H):PS X st t':=fun pins s σ H D I q=>h pins s σ H D I (i D σ H q)
theorem mR.weak {st:List Stmt} {t t':TS} (h:mR X st t) (i:∀ D σ H,t' D σ H -> t D σ H):mR X st t':=fun pins s σ H D I q=>h pins s σ H D I (i D σ H q)
def fC (t:T):FE:=fun τ=>some (t,τ)
def ae (i:Nat):FE:=fun τ=>match τ[i]? with
 | some (some (.sh t))=>some (t,τ)
 | some (some (.own ts))=>some (.lst ts,τ.set i (some (.sh (.lst ts))))
 | _=>none
theorem ir {t:T} {v:V} (h:PE X e (tC v)) (r:∀ F,Rep X.K F t v):SE X e (fC t):=fun F₀ H₀=>PE.weak h fun σ H Q hq__=>by
 obtain ⟨F,τ,t',τ',E,e1,q⟩:=hq__
 cases e1
 exact q F H v E (aS.refl _) (r F)
theorem av {i:Int} {j}:SE X (.Constant (.int i) j pos) (fC (.int i)):=ir FY fun _=>rfl
theorem lg {c:Bool} {j}:SE X (.Constant (.bool c) j pos) (fC (.bl c)):=ir HY fun _=>rfl
theorem jv {j}:SE X (.Constant .none j pos) (fC .non):=ir FZ fun _=>rfl
theorem af (i:Nat) {x:Str} (h:PE X (.Name x pos) (wR i)):SE X (.Name x pos) (ae i):=fun F₀ H₀=>PE.weak h fun σ H Q hq__=>by
 obtain ⟨F,τ,t,τ',E,e1,q⟩:=hq__
 unfold ae at e1
 split at e1
 ·next t' e2 =>
  cases e1
  obtain ⟨v,h1,h2⟩:=E.sl i _ e2
  exact ⟨v,h1,q F H v E (aS.refl _) h2⟩
 ·next ts e2 =>
  cases e1
  obtain ⟨F',v,h1,E',sF,r⟩:=E.freeze e2
  exact ⟨v,h1,q F' H v E' sF r⟩
 ·cases e1
theorem jT {x:Str} {n:String} (hg:Gl X x) (hm:X.mg x=none) (hv:bootBuiltins x=some (.type n)) (hn:x ≠ "__name__" := by decide) (hd:(x == ("__debug__" : Str))=false:=by decide):SE X (.Name x pos) (fC (.ty n)):=
 ir (DE (v:=.ty n) hg hm hv rfl hn hd) fun _=>rfl
def IP (K:PySem.W.Frag) (g:T -> T -> Option T):R2:=fun x y H Q=>∃ F a b t,aS F H /\ Rep K F a x /\ Rep K F b y /\ g a b=some t /\ ∀ F' H' v,br F H F' H' -> Rep K F' t v -> Q v H'
def Kl (K:PySem.W.Frag) (g:T -> Option T):V -> Hp -> VK -> Prop:=fun x H Q=>∃ F a t,aS F H /\ Rep K F a x /\ g a=some t /\ ∀ F' H' v,br F H F' H' -> Rep K F' t v -> Q v H'
def IQ (K:PySem.W.Frag) (g:List T -> Option T):List V -> Hp -> VK -> Prop:=fun xs H Q=>∃ F ts t,aS F H /\ aV K F ts xs /\ g ts=some t /\ ∀ F' H' v,br F H F' H' -> Rep K F' t v -> Q v H'
abbrev pI (X:Cx) (f:Value -> Value -> Sem Value) (g:T -> T -> Option T):Prop:=nJ X f (IP X.K g)
abbrev JV (X:Cx) (f:Value -> Sem Value) (g:T -> Option T):Prop:=IL X f (Kl X.K g)
abbrev jN (X:Cx) (f:Value) (g:List T -> Option T):Prop:=gw X f (IQ X.K g)
def aD (g:T -> T -> Option T) (fa fb:FE):FE:=fun τ=>(fa τ).bind fun p=>(fb p.2).bind fun q=>(g p.1 q.1).bind fun t=>some (t,q.2)
def mT (g:T -> Option T) (fa:FE):FE:=fun τ=>(fa τ).bind fun p=>(g p.1).bind fun t=>some (t,p.2)
theorem bind_some {α β:Type} {o:Option α} {f:α -> Option β} {z:β} (h:o.bind f=some z):∃ x,o=some x /\ f x=some z:=by
 cases o with
 | none=>cases h
 | some x=>exact ⟨x,rfl,h⟩
theorem ny {g:T -> T -> Option T} {F₀ H₀:Hp} {σ:L2.St} {H:Hp} {Q:VK} (h:tE X.K F₀ H₀ (aD g fa fb) σ H Q):IA (IP X.K g) (tE X.K F₀ H₀ fa) (tE X.K F₀ H₀ fb) σ H Q:=by
 obtain ⟨F,τ,t,τ',E,e1,q⟩:=h
 obtain ⟨⟨x,τ1⟩,e2,e1⟩:=bind_some e1
 obtain ⟨⟨y,τ2⟩,e3,e1⟩:=bind_some e1
 obtain ⟨z,e4,e1⟩:=bind_some e1
 cases e1
 refine ⟨F,τ,x,τ1,E,e2,fun F1 H1 v1 E1 s1 r1=>⟨F1,τ1,y,_,E1,e3,fun F2 H2 v2 E2 s2 r2=>?_⟩⟩
 exact ⟨F2,x,y,t,E2.g.fh,Rep.mono s2 r1,r2,e4,fun F3 H3 v3 g3 r3=>q F3 H3 v3 (E2.grow g3) ((s1.trans s2).trans g3.sF) r3⟩
theorem aH {op:Operator} {g:T -> T -> Option T} (ho:pI X (binaryOp op) g) (ha:SE X a fa) (hb:SE X b fb):SE X (.BinOp a op b pos) (aD g fa fb):=
 fun F₀ H₀=>PE.weak (Ia ho (ha F₀ H₀) (hb F₀ H₀)) fun _ _ _=>ny
theorem ym {op:UnaryOp} {g:T -> Option T} (ho:JV X (unaryOp op) g) (ha:SE X a fa):SE X (.UnaryOp op a pos) (mT g fa):=
 fun F₀ H₀=>PE.weak (Ie ho (ha F₀ H₀)) fun σ H Q hq__=>by
  obtain ⟨F,τ,t,τ',E,e1,q⟩:=hq__
  obtain ⟨⟨x,τ1⟩,e2,e1⟩:=bind_some e1
  obtain ⟨z,e4,e1⟩:=bind_some e1
  cases e1
  exact ⟨F,τ,x,_,E,e2,fun F1 H1 v1 E1 s1 r1=>⟨F1,x,t,E1.g.fh,r1,e4,fun F3 H3 v3 g3 r3=>q F3 H3 v3 (E1.grow g3) (s1.trans g3.sF) r3⟩⟩
theorem o9 {op:CmpOp} {g:T -> T -> Option T} (ho:pI X (compareOp op) g) (ha:SE X a fa) (hb:SE X b fb) (hm:behindInMarks op b=false):SE X (.Compare a [op] [b] pos) (aD g fa fb):=
 fun F₀ H₀=>PE.weak (DF ho (ha F₀ H₀) (hb F₀ H₀) hm) fun _ _ _=>ny
theorem bT {g:T -> T -> Option T} (ho:Ck X (IP X.K g)) (ha:SE X a fa) (hb:SE X b fb) (hs:q9 b):SE X (.Subscript a b pos) (aD g fa fb):=
 fun F₀ H₀=>PE.weak (Ey ho (ha F₀ H₀) (hb F₀ H₀) hs) fun _ _ _=>ny
def dw (f:FE):FT:=fun τ=>(f τ).bind fun p=>match p.1 with | .bl c=>some (c,p.2) | _=>none
def IS:T -> Option Bool
 | .non=>some false
 | .bl c=>some c
 | .int i=>some (i != 0)
 | .str x=>if x.length ≤ sizeLine then some ((x.length:Int) != 0) else none
 | .tup ts=>some (!ts.isEmpty)
 | .lst ts=>some (!ts.isEmpty)
 | .scr ts=>some (!ts.isEmpty)
 | .dic=>some false
 | .obj _ _ _=>none
 | .ptr _=>none
 | .ty _=>none
def eL (f:FE):FT:=fun τ=>(f τ).bind fun p=>(IS p.1).bind fun c=>some (c,p.2)
theorem b9 {op:CmpOp} {g:T -> T -> Option T} (ho:pI X (compareOp op) g) (ha:SE X a fa) (hb:SE X b fb) (hm:behindInMarks op b=false):ST X (.Compare a [op] [b] pos) (dw (aD g fa fb)):=
 fun F₀ H₀=>PT.weak (DN ho (ha F₀ H₀) (hb F₀ H₀) hm) fun σ H Q hq__=>by
  obtain ⟨F,τ,c,τ',E,e1,q⟩:=hq__
  obtain ⟨⟨x,τ1⟩,e2,e1⟩:=bind_some e1
  dsimp only at e1
  split at e1
  ·cases e1
   refine ny (Q:=fun x H'=>∃ k,x=V.bl k /\ Q k H') ⟨F,τ,_,_,E,e2,fun F' H' v E' s' r'=>?_⟩
   exact ⟨c,r',q F' H' E' s'⟩
  ·cases e1
theorem iF {K:PySem.W.Frag} {F:Hp} {ts:List T} {vs:List V} (h:aV K F ts vs):vs.isEmpty=ts.isEmpty:=by
 cases ts with
 | nil=>cases h; rfl
 | cons t ts=>obtain ⟨v,r,rfl,_⟩:=h; rfl
theorem D7 {K:PySem.W.Frag} {F H:Hp} {t:T} {v:V} {c:Bool} (s:aS F H) (r:Rep K F t v) (e:IS t=some c):EK K v H c:=by
 cases t with
 | non=>cases r; cases e; exact rfl
 | bl _=>cases r; cases e; exact rfl
 | int _=>cases r; cases e; exact rfl
 | str x =>
  cases r
  simp only [IS] at e
  split at e
  ·next h=>cases e; exact ⟨h,rfl⟩
  ·cases e
 | ty _=>cases e
 | tup ts =>
  obtain ⟨p,xs,rfl,h1,h2⟩:=r
  cases e
  exact .inr (.inl ⟨xs,cv s h1,by rw [iF h2]⟩)
 | lst ts =>
  obtain ⟨p,xs,rfl,h1,h2⟩:=r
  cases e
  exact .inl ⟨xs,fF.of (s _ _ h1),by rw [iF h2]⟩
 | scr ts =>
  obtain ⟨p,xs,rfl,h1,h2⟩:=r
  cases e
  exact .inl ⟨xs,s.seq h1,by rw [iF h2]⟩
 | dic =>
  obtain ⟨p,rfl,h1⟩:=r
  cases e
  exact .inr (.inr ⟨[],s _ _ h1,rfl⟩)
 | obj _ _ _=>cases e
 | ptr _=>cases e
theorem h9 (h:SE X e f) (he:∀ whole,isTrue e X.env whole=(do let v <- whole; standAt e.pos; holding [v] (truthy v)):=by intro _; rfl):ST X e (eL f):=
 fun F₀ H₀=>PT.weak (BW (h F₀ H₀) he) fun σ H Q hq__=>by
  obtain ⟨F,τ,c,τ',E,e1,q⟩:=hq__
  obtain ⟨⟨x,τ1⟩,e2,e1⟩:=bind_some e1
  obtain ⟨z,e4,e1⟩:=bind_some e1
  cases e1
  exact ⟨F,τ,x,_,E,e2,fun F1 H1 v1 E1 s1 r1=>⟨c,D7 E1.g.fh r1 e4,q F1 H1 E1 s1⟩⟩
variable {ta tb:FT} {rest:List Expr}
def zm (ta tb:FT):FT:=fun τ=>(ta τ).bind fun p=>if p.1=true then tb p.2 else some (false,p.2)
def AY (ta tb:FT):FT:=fun τ=>(ta τ).bind fun p=>if p.1=true then some (true,p.2) else tb p.2
def gB (ta:FT):FT:=fun τ=>(ta τ).bind fun p=>some (!p.1,p.2)
theorem kl (h:ST X a ta):ST X (.UnaryOp .Not a pos) (gB ta):=fun F₀ H₀=>PT.weak (Gm (h F₀ H₀)) fun σ H Q hq__=>by
 obtain ⟨F,τ,c,τ',E,e1,q⟩:=hq__
 obtain ⟨⟨x,τ1⟩,e2,e1⟩:=bind_some e1
 cases e1
 exact ⟨F,τ,x,_,E,e2,fun F1 H1 E1 s1=>q F1 H1 E1 s1⟩
theorem D2 (h:ST X a ta):SW X (.BoolOp .And [a] pos) ta:=fun F₀ H₀=>DO (h F₀ H₀)
theorem wQ (h:ST X a ta):SW X (.BoolOp .Or [a] pos) ta:=fun F₀ H₀=>Gq (h F₀ H₀)
theorem GU (ha:ST X a ta) (hb:SW X (.BoolOp .And (b :: rest) pos) tb):SW X (.BoolOp .And (a :: b :: rest) pos) (zm ta tb):=fun F₀ H₀=>PW.weak (Gp (ha F₀ H₀) (hb F₀ H₀)) fun σ H Q hq__=>by
 obtain ⟨F,τ,c,τ',E,e1,q⟩:=hq__
 obtain ⟨⟨x,τ1⟩,e2,e1⟩:=bind_some e1
 refine ⟨F,τ,x,τ1,E,e2,fun F1 H1 E1 s1=>?_⟩
 dsimp only at e1
 split at e1
 ·next h=>rw [if_pos h]; exact ⟨F1,τ1,c,τ',E1,e1,fun F2 H2 E2 s2=>q F2 H2 E2 (s1.trans s2)⟩
 ·next h=>rw [if_neg h]; cases e1; exact q F1 H1 E1 s1
theorem B9 (ha:ST X a ta) (hb:SW X (.BoolOp .Or (b :: rest) pos) tb):SW X (.BoolOp .Or (a :: b :: rest) pos) (AY ta tb):=fun F₀ H₀=>PW.weak (Ih (ha F₀ H₀) (hb F₀ H₀)) fun σ H Q hq__=>by
 obtain ⟨F,τ,c,τ',E,e1,q⟩:=hq__
 obtain ⟨⟨x,τ1⟩,e2,e1⟩:=bind_some e1
 refine ⟨F,τ,x,τ1,E,e2,fun F1 H1 E1 s1=>?_⟩
 dsimp only at e1
 split at e1
 ·next h=>rw [if_pos h]; cases e1; exact q F1 H1 E1 s1
 ·next h=>rw [if_neg h]; exact ⟨F1,τ1,c,τ',E1,e1,fun F2 H2 E2 s2=>q F2 H2 E2 (s1.trans s2)⟩
theorem SW.st (h:SW X e ta):ST X e ta:=fun F₀ H₀=>(h F₀ H₀).pt
def mE (fa fb:FE):FE:=fun τ=>(fa τ).bind fun p=>match p.1 with | .bl true=>fb p.2 | .bl false=>some (.bl false,p.2) | _=>none
def Jl (fa fb:FE):FE:=fun τ=>(fa τ).bind fun p=>match p.1 with | .bl true=>some (.bl true,p.2) | .bl false=>fb p.2 | _=>none
def Be:T -> Option T
 | .bl c=>some (.bl (!c))
 | _=>none
theorem B2 {op} (h:SE X a fa):SE X (.BoolOp op [a] pos) fa:=fun F₀ H₀=>Ga (h F₀ H₀)
theorem wK (ha:SE X a fa) (hb:SE X (.BoolOp .And (b :: rest) pos) fb):SE X (.BoolOp .And (a :: b :: rest) pos) (mE fa fb):=fun F₀ H₀=>PE.weak (FW (ha F₀ H₀) (hb F₀ H₀)) fun σ H Q hq__=>by
 obtain ⟨F,τ,c,τ',E,e1,q⟩:=hq__
 obtain ⟨⟨x,τ1⟩,e2,e1⟩:=bind_some e1
 dsimp only at e1
 refine ⟨F,τ,x,τ1,E,e2,fun F1 H1 v E1 s1 r1=>?_⟩
 split at e1
 ·cases r1; exact ⟨true,rfl,by rw [if_pos rfl]; exact ⟨F1,τ1,c,τ',E1,e1,fun F2 H2 v2 E2 s2=>q F2 H2 v2 E2 (s1.trans s2)⟩⟩
 ·cases r1; cases e1; exact ⟨false,rfl,by rw [if_neg (by decide)]; exact q F1 H1 _ E1 s1 rfl⟩
 ·cases e1
theorem Gx (ha:SE X a fa):SE X (.UnaryOp .Not a pos) (mT Be fa):=fun F₀ H₀=>PE.weak (F9 (ha F₀ H₀)) fun σ H Q hq__=>by
 obtain ⟨F,τ,c,τ',E,e1,q⟩:=hq__
 obtain ⟨⟨x,τ1⟩,e2,e1⟩:=bind_some e1
 obtain ⟨z,e4,e1⟩:=bind_some e1
 cases e1
 refine ⟨F,τ,x,_,E,e2,fun F1 H1 v E1 s1 r1=>?_⟩
 dsimp only at e4
 unfold Be at e4
 split at e4
 ·cases r1; cases e4; exact ⟨_,rfl,q F1 H1 _ E1 s1 rfl⟩
 ·cases e4
def En (t:FT) (fa fb:FE):FE:=fun τ=>(t τ).bind fun p=>if p.1=true then fa p.2 else fb p.2
theorem EA {c:Expr} (hc:ST X c ta) (ha:SE X a fa) (hb:SE X b fb):SE X (.IfExp c a b pos) (En ta fa fb):=fun F₀ H₀=>PE.weak (BN (hc F₀ H₀) (ha F₀ H₀) (hb F₀ H₀)) fun σ H Q hq__=>by
 obtain ⟨F,τ,c,τ',E,e1,q⟩:=hq__
 obtain ⟨⟨x,τ1⟩,e2,e1⟩:=bind_some e1
 refine ⟨F,τ,x,τ1,E,e2,fun F1 H1 E1 s1=>?_⟩
 dsimp only at e1
 split at e1
 ·next h=>rw [if_pos h]; exact ⟨F1,τ1,c,τ',E1,e1,fun F2 H2 v2 E2 s2=>q F2 H2 v2 E2 (s1.trans s2)⟩
 ·next h=>rw [if_neg h]; exact ⟨F1,τ1,c,τ',E1,e1,fun F2 H2 v2 E2 s2=>q F2 H2 v2 E2 (s1.trans s2)⟩
variable {es:List Expr} {g:FA}
def ah:FA:=fun τ=>some ([],τ)
def aa (f:FE) (g:FA):FA:=fun τ=>(f τ).bind fun p=>(g p.2).bind fun q=>some (p.1 :: q.1,q.2)
theorem ao:SA X [] ah:=fun F₀ H₀=>PA.weak oQ fun σ H Q hq__=>by
 obtain ⟨F,τ,c,τ',E,e1,q⟩:=hq__
 cases e1
 exact q F H [] E (aS.refl _) rfl
theorem ag (ha:SE X e f) (hr:SA X es g) (hs:starEach (e :: es) X.env=(false,eval e X.env) :: starEach es X.env:=by rfl):SA X (e :: es) (aa f g):=fun F₀ H₀=>PA.weak (k8 (ha F₀ H₀) (hr F₀ H₀) hs) fun σ H Q hq__=>by
 obtain ⟨F,τ,c,τ',E,e1,q⟩:=hq__
 obtain ⟨⟨x,τ1⟩,e2,e1⟩:=bind_some e1
 obtain ⟨⟨y,τ2⟩,e3,e1⟩:=bind_some e1
 cases e1
 exact ⟨F,τ,x,τ1,E,e2,fun F1 H1 v E1 s1 r1=>⟨F1,τ1,y,_,E1,e3,fun F2 H2 vs E2 s2 r2=>q F2 H2 _ E2 (s1.trans s2) ⟨v,vs,rfl,Rep.mono s2 r1,r2⟩⟩⟩
def b0 (g:FA):FE:=fun τ=>(g τ).bind fun p=>if p.1.length ≤ sizeLine then some (.tup p.1,p.2) else none
def kM (g:FA):FE:=fun τ=>(g τ).bind fun p=>if p.1.length ≤ sizeLine then some (.lst p.1,p.2) else none
theorem cK {k} (h:SA X es g):SE X (.Tuple es k pos) (b0 g):=fun F₀ H₀=>PE.weak (Gb (h F₀ H₀)) fun σ H Q hq__=>by
 obtain ⟨F,τ,c,τ',E,e1,q⟩:=hq__
 obtain ⟨⟨x,τ1⟩,e2,e1⟩:=bind_some e1
 dsimp only at e1
 split at e1
 ·next hl =>
  cases e1
  refine ⟨F,τ,x,_,E,e2,fun F1 H1 vs E1 s1 r1=>⟨by rw [r1.length]; exact hl,fun p hp=>?_⟩⟩
  have gr:=br.new (.tup vs) E1.g.fh hp
  exact q _ _ _ (E1.grow gr) (s1.trans gr.sF) ⟨p,vs,rfl,jO.of aX,aV.mono gr.sF r1⟩
 ·cases e1
theorem ml (h:SA X es g):SE X (.List es pos) (kM g):=fun F₀ H₀=>PE.weak (tB (h F₀ H₀)) fun σ H Q hq__=>by
 obtain ⟨F,τ,c,τ',E,e1,q⟩:=hq__
 obtain ⟨⟨x,τ1⟩,e2,e1⟩:=bind_some e1
 dsimp only at e1
 split at e1
 ·next hl =>
  cases e1
  refine ⟨F,τ,x,_,E,e2,fun F1 H1 vs E1 s1 r1=>⟨by rw [r1.length]; exact hl,fun p hp=>?_⟩⟩
  have gr:=br.new (.lst vs) E1.g.fh hp
  exact q _ _ _ (E1.grow gr) (s1.trans gr.sF) ⟨p,vs,rfl,aX,aV.mono gr.sF r1⟩
 ·cases e1
def ai (d:List T -> Option T) (g:FA):FE:=fun τ=>(g τ).bind fun p=>(d p.1).bind fun t=>some (t,p.2)
theorem qk {d:List T -> Option T} {F₀ H₀:Hp} {σ:L2.St} {H:Hp} {Q:VK} (h:tE X.K F₀ H₀ (ai d g) σ H Q):tA X.K F₀ H₀ g σ H fun vs H1=>IQ X.K d vs H1 Q:=by
 obtain ⟨F,τ,c,τ',E,e1,q⟩:=h
 obtain ⟨⟨x,τ1⟩,e2,e1⟩:=bind_some e1
 obtain ⟨z,e4,e1⟩:=bind_some e1
 cases e1
 exact ⟨F,τ,x,_,E,e2,fun F1 H1 vs E1 s1 r1=>⟨F1,x,c,E1.g.fh,r1,e4,fun F3 H3 v3 g3 r3=>q F3 H3 v3 (E1.grow g3) (s1.trans g3.sF) r3⟩⟩
theorem aZ {d:List T -> Option T} {id:String} {x:Str} {p:Pos} (hc:jN X (.builtin id) d) (hg:Gl X x) (hm:X.mg x=none) (hv:bootBuiltins x=some (.builtin id)) (ha:SA X (e :: es) g) (hn:x ≠ "__name__" := by decide) (hdb:(x == ("__debug__" : Str))=false:=by decide)
  (he:starEach (e :: es) X.env=(false,eval e X.env) :: starEach es X.env:=by rfl) (hpl:(backTo pos (starEach es X.env)).any (·.1)=false:=by rfl):SE X (.Call (.Name x p) (e :: es) [] pos) (ai d g):=
 fun F₀ H₀=>PE.weak (BM hc hg hm hv (ha F₀ H₀) hn hdb he hpl) fun _ _ _=>qk
theorem qJ {d:List T -> Option T} {id:String} {x:Str} {p:Pos} (hc:jN X (.type id) d) (hg:Gl X x) (hm:X.mg x=none) (hv:bootBuiltins x=some (.type id)) (ha:SA X (e :: es) g) (hn:x ≠ "__name__" := by decide) (hdb:(x == ("__debug__" : Str))=false:=by decide)
  (he:starEach (e :: es) X.env=(false,eval e X.env) :: starEach es X.env:=by rfl) (hpl:(backTo pos (starEach es X.env)).any (·.1)=false:=by rfl):SE X (.Call (.Name x p) (e :: es) [] pos) (ai d g):=
 fun F₀ H₀=>PE.weak (zH hc hg hm hv (ha F₀ H₀) hn hdb he hpl) fun _ _ _=>qk
end
def spT (K:PySem.W.Frag) (n:Nat) (d:List T -> Option T):Sp:=fun vs H Q _=>vs.length=n /\ IQ K d vs H Q
structure Def (P:Program) (w:World) (K:PySem.W.Frag) (mg:Str -> Option Value) (base:Heap) (k:Nat) (x:Str) (n:Nat) (d:List T -> Option T):Prop where
 ex:∃ f fd ps,ie P w K mg base qV k f fd ps (spT K n d) /\ Binds K fd ps [] /\ PySem.W.keepIn K (.ref f)=true /\ mg x=some (.ref f) /\ ps.length=n
theorem Def.imp {P:Program} {w:World} {K:PySem.W.Frag} {mg:Str -> Option Value} {base:Heap} {k n:Nat} {x:Str} {d d':List T -> Option T} (D:Def P w K mg base k x n d) (h:∀ ts t,d' ts=some t -> d ts=some t):Def P w K mg base k x n d':=by
 obtain ⟨f,fd,ps,F,r⟩:=D.ex
 exact ⟨f,fd,ps,F.imp fun vs H Q E ⟨l,F,ts,t,a,b,c,q⟩=>⟨l,F,ts,t,a,b,h _ _ c,q⟩,r⟩
theorem Def.mono {P:Program} {w:World} {K:PySem.W.Frag} {mg:Str -> Option Value} {base:Heap} {j k n:Nat} {x:Str} {d:List T -> Option T} (D:Def P w K mg base j x n d) (h:j ≤ k):Def P w K mg base k x n d:=by
 obtain ⟨f,fd,ps,F,r⟩:=D.ex
 exact ⟨f,fd,ps,F.mono h,r⟩
theorem Def.zero {P:Program} {w:World} {K:PySem.W.Frag} {mg:Str -> Option Value} {base:Heap} {x qual:Str} {st:Stmt} {f:Addr} {fd:FuncData} {ps:List Str} (F:fV K x qual st f fd) (hb:Binds K fd ps []) (hm:mg x=some (.ref f)):Def P w K mg base 0 x ps.length (fun _=>none):=
 ⟨f,fd,ps,⟨fun vs H Q E h=>h.1,fun A outer s H args us vs Q E _ _ _ _ h=>by obtain ⟨_,F,ts,t,_,_,e,_⟩:=h; cases e⟩,hb,F.kp,hm,rfl⟩
section
variable {X:Cx} {e:Expr} {es:List Expr} {pos:Pos} {g:FA}
theorem aB {k n:Nat} {x:Str} {p:Pos} {d:List T -> Option T} (D:Def X.prog X.w X.K X.mg X.base k x n d) (hr:eY k X.A) (hg:Gl X x) (ha:SA X (e :: es) g) (hl:∀ τ ts τ',g τ=some (ts,τ') -> ts.length=n) (hdb:(x == ("__debug__" : Str))=false:=by decide)
  (he:starEach (e :: es) X.env=(false,eval e X.env) :: starEach es X.env:=by rfl) (hpl:(backTo pos (starEach es X.env)).any (·.1)=false:=by rfl):SE X (.Call (.Name x p) (e :: es) [] pos) (ai d g):=by
 obtain ⟨f,fd,ps,F,hb,hk,hm,hn⟩:=D.ex
 intro F₀ H₀
 refine PE.weak (tx (E:=E0) (CX:=qV) F hr hg hm hk hb .nil BL (ha F₀ H₀) hdb he hpl) fun σ H Q h=>?_
 obtain ⟨F,τ,c,τ',E,e1,q⟩:=h
 obtain ⟨⟨z,τ1⟩,e2,e1⟩:=bind_some e1
 have hz:=hl _ _ _ e2
 obtain ⟨u,e4,e1⟩:=bind_some e1
 cases e1
 refine ⟨F,τ,z,_,E,e2,fun F1 H1 vs E1 s1 r1=>⟨by rw [List.append_nil,r1.length]; exact hz,F1,z,c,E1.g.fh,by rw [List.append_nil]; exact r1,e4,fun F3 H3 v3 g3 r3=>q F3 H3 v3 (E1.grow g3) (s1.trans g3.sF) r3⟩⟩
theorem az:∀ τ ts τ',ah τ=some (ts,τ') -> ts.length=0:=fun _ _ _ h=>by cases h; rfl
theorem aj {f:FE} {g:FA} {n:Nat} (h:∀ τ ts τ',g τ=some (ts,τ') -> ts.length=n):∀ τ ts τ',aa f g τ=some (ts,τ') -> ts.length=n + 1:=fun τ ts τ' e=>by
 obtain ⟨⟨x,τ1⟩,e2,e1⟩:=bind_some e
 obtain ⟨⟨y,τ2⟩,e3,e1⟩:=bind_some e1
 cases e1
 simp [h _ _ _ e3]
end
open PySem PySem.Spec PyProof.Rows L2
section
variable {X:Cx} {e a b:Expr} {pos:Pos} {f fa fb:FE} {ga:FA} {es:List Expr}
def g8:FS:=fun _=>none
def bf:FS:=fun τ=>some (.nx τ)
def a8 (f:FE):FS:=fun τ=>(f τ).bind fun p=>some (.rt p.1)
def HC (f:FE):FS:=fun τ=>(f τ).bind fun p=>some (.nx p.2)
def bE (c:FT) (t u:FS):FS:=fun τ=>(c τ).bind fun p=>if p.1=true then t p.2 else u p.2
def aE (t u:FS):FS:=fun τ=>(t τ).bind fun r=>match r with | .nx τ'=>u τ' | r=>some r
theorem qZ.mono {K:PySem.W.Frag} {F₀ H₀ F F':Hp} {D:Ends} {r:R} (s:aS F F') (h:qZ K F₀ H₀ F D r):qZ K F₀ H₀ F' D r:=by
 cases r with
 | nx τ=>exact fun F1 H1 σ1 E1 s1=>h F1 H1 σ1 E1 (s.trans s1)
 | rt t=>exact h
 | bk τ=>exact fun F1 H1 σ1 E1 s1=>h F1 H1 σ1 E1 (s.trans s1)
 | ct τ=>exact fun F1 H1 σ1 E1 s1=>h F1 H1 σ1 E1 (s.trans s1)
theorem vj {st:Stmt}:SS X st g8:=fun F₀ H₀=>PS.weak BR fun D σ H ⟨F,τ,r,E,e1,q⟩=>by cases e1
theorem aY (h:SE X e f):SS X (.Return (some e) pos) (a8 f):=fun F₀ H₀=>PS.weak (BU (h F₀ H₀)) fun D σ H hq__=>by
 obtain ⟨F,τ,r,E,e1,q⟩:=hq__
 obtain ⟨⟨x,τ1⟩,e2,e1⟩:=bind_some e1
 cases e1
 exact ⟨F,τ,x,τ1,E,e2,fun F' H' v E' s' r'=>q F' H' v E'.g r'⟩
theorem dc {c:Expr} {ss us:List Stmt} {tc:FT} {t u:FS} (hc:ST X c tc) (ha:xj X ss t) (hb:xj X us u):SS X (.If c ss us pos) (bE tc t u):=fun F₀ H₀=>PS.weak (Ig (hc F₀ H₀) (ha F₀ H₀) (hb F₀ H₀)) fun D σ H hq__=>by
 obtain ⟨F,τ,r,E,e1,q⟩:=hq__
 obtain ⟨⟨x,τ1⟩,e2,e1⟩:=bind_some e1
 refine ⟨F,τ,x,τ1,E,e2,fun F' H' E' s'=>?_⟩
 dsimp only at e1
 split at e1
 ·next h=>rw [if_pos h]; exact ⟨F',τ1,r,E',e1,q.mono s'⟩
 ·next h=>rw [if_neg h]; exact ⟨F',τ1,r,E',e1,q.mono s'⟩
theorem bH:xj X [] bf:=fun F₀ H₀=>mR.weak DM fun D σ H hq__=>by
 obtain ⟨F,τ,r,E,e1,q⟩:=hq__
 cases e1
 exact q F H σ E (aS.refl _)
theorem aq {st:Stmt} {rest:List Stmt} {t u:FS} (h1:SS X st t) (h2:xj X rest u):xj X (st :: rest) (aE t u):=fun F₀ H₀=>mR.weak (uZ (h1 F₀ H₀) (h2 F₀ H₀)) fun D σ H hq__=>by
 obtain ⟨F,τ,r,E,e1,q⟩:=hq__
 obtain ⟨x,e2,e1⟩:=bind_some e1
 refine ⟨F,τ,x,E,e2,?_⟩
 cases x with
 | nx τ1=>exact fun F1 H1 σ1 E1 s1=>⟨F1,τ1,r,E1,e1,q.mono s1⟩
 | rt t=>cases e1; exact q
 | bk t=>cases e1; exact q
 | ct t=>cases e1; exact q
theorem ax {st:Stmt} {t:FS} (h1:SS X st t):xj X [st] t:=fun F₀ H₀=>yh (h1 F₀ H₀)
theorem qM {st:List Stmt}:xj X st g8:=fun F₀ H₀=>mR.weak zL fun D σ H ⟨F,τ,r,E,e1,q⟩=>by cases e1
def aN (i:Nat) (f:FE):FS:=fun τ=>(f τ).bind fun p=>some (.nx (p.2.set i (some (.sh p.1))))
def dq (i:Nat) (g:FA):FS:=fun τ=>(g τ).bind fun p=>if p.1.length ≤ sizeLine then some (.nx (p.2.set i (some (.own p.1)))) else none
theorem aT (i:Nat) {x:Str} {pos':Pos} (hN:X.N.Nodup) (hi:X.N[i]? = some x) (hx:Loc X.env.scope x) (he:SE X e f) (hs:swapsWith e (some (.Name x pos')) pos.line X.env=pure false:=by rfl)
  (hf:X.fn x=true \/ X.env.scope.names.lookup x=some .local:=by first | exact .inl rfl | exact .inr rfl | assumption):SS X (.Assign [.Name x pos'] e pos) (aN i f):=fun F₀ H₀=>PS.weak (wF hN hi hx (he F₀ H₀) hs hf) fun D σ H hq__=>by
 obtain ⟨F,τ,r,E,e1,q⟩:=hq__
 obtain ⟨⟨y,τ1⟩,e2,e1⟩:=bind_some e1
 cases e1
 exact ⟨F,τ,y,τ1,E,e2,fun F' H' v E' s' r'=>q F' H' _ (E'.set r') s'⟩
theorem fE (i:Nat) {x:Str} {pos':Pos} {p2:Pos} (hN:X.N.Nodup) (hi:X.N[i]? = some x) (hx:Loc X.env.scope x) (he:SA X es ga) (hs:swapsWith (.List es p2) (some (.Name x pos')) pos.line X.env=pure false:=by rfl)
  (hf:X.fn x=true \/ X.env.scope.names.lookup x=some .local:=by first | exact .inl rfl | exact .inr rfl | assumption):SS X (.Assign [.Name x pos'] (.List es p2) pos) (dq i ga):=fun F₀ H₀=>PS.weak (wF hN hi hx (tB (he F₀ H₀)) hs hf) fun D σ H hq__=>by
 obtain ⟨F,τ,r,E,e1,q⟩:=hq__
 obtain ⟨⟨y,τ1⟩,e2,e1⟩:=bind_some e1
 dsimp only at e1
 split at e1
 ·next hl =>
  cases e1
  exact ⟨F,τ,y,τ1,E,e2,fun F' H' vs E' s' r'=>⟨by rw [r'.length]; exact hl,fun p hp=>q F' _ _ (E'.setOwn hp r') s'⟩⟩
 ·cases e1
def tG (K:PySem.W.Frag) (F₀ H₀:Hp) (fg:FG):TG:=fun v σ H Q=>∃ F τ t τ',aJ K F₀ H₀ F H σ τ /\ Rep K F t v /\ fg t τ=some τ' /\ ∀ F' H' σ',aJ K F₀ H₀ F' H' σ' τ' -> aS F F' -> Q σ' H'
def Kq (K:PySem.W.Frag) (F₀ H₀:Hp) (fg:List T -> aP -> Option aP):Ei:=fun vs σ H Q=>∃ F τ ts τ',aJ K F₀ H₀ F H σ τ /\ aV K F ts vs /\ fg ts τ=some τ' /\ ∀ F' H' σ',aJ K F₀ H₀ F' H' σ' τ' -> aS F F' -> Q σ' H'
def SG (X:Cx) (tg:Expr) (fg:FG):Prop:=∀ F₀ H₀,PG X tg (tG X.K F₀ H₀ fg)
def II (X:Cx) (tg:List Expr) (fg:List T -> aP -> Option aP):Prop:=∀ F₀ H₀,Ho X tg (Kq X.K F₀ H₀ fg)
def ak (i:Nat):FG:=fun t τ=>some (τ.set i (some (.sh t)))
def bo:List T -> aP -> Option aP
 | [],τ=>some τ
 | _ :: _,_=>none
def ar (g:FG) (gs:List T -> aP -> Option aP):List T -> aP -> Option aP
 | [],_=>none
 | t :: ts,τ=>(g t τ).bind fun τ1=>gs ts τ1
def bp (gs:List T -> aP -> Option aP):FG:=fun t τ=>match t with
 | .tup ts=>gs ts τ
 | _=>none
theorem aA (i:Nat) {x:Str} (hN:X.N.Nodup) (hi:X.N[i]? = some x) (hx:Loc X.env.scope x) (hf:X.fn x=true \/ X.env.scope.names.lookup x=some .local:=by first | exact .inl rfl | exact .inr rfl | assumption):SG X (.Name x pos) (ak i):=
 fun F₀ H₀ pins s σ H v u Q I r h=>DG hN hi hx hf pins s σ H v u Q I r (by
  obtain ⟨F,τ,t,τ',E,rt,e1,q⟩:=h
  cases e1
  exact q F H _ (E.set rt) (aS.refl _))
theorem bY:II X [] bo:=fun F₀ H₀ pins s σ H vs us Q I r h=>DH pins s σ H vs us Q I r (by
 obtain ⟨F,τ,ts,τ',E,rt,e1,q⟩:=h
 cases ts with
 | nil=>cases e1; cases rt; exact ⟨rfl,q F H σ E (aS.refl _)⟩
 | cons t ts=>cases e1)
theorem aI {g:FG} {gs:List T -> aP -> Option aP} (h1:SG X e g) (h2:II X es gs) (hs:(assignEach (e :: es) X.env).map (·.2)=assign e X.env :: (assignEach es X.env).map (·.2):=by rfl):II X (e :: es) (ar g gs):=
 fun F₀ H₀ pins s σ H vs us Q I r h=>BO (h1 F₀ H₀) (h2 F₀ H₀) hs pins s σ H vs us Q I r (by
  obtain ⟨F,τ,ts,τ',E,rt,e1,q⟩:=h
  cases ts with
  | nil=>cases e1
  | cons t ts =>
   obtain ⟨v,rr,rfl,r1,r2⟩:=rt
   obtain ⟨τ1,e2,e1⟩:=bind_some e1
   exact ⟨v,rr,rfl,F,τ,t,τ1,E,r1,e2,fun F' H' σ' E' s'=>⟨F',τ1,ts,τ',E',aV.mono s' r2,e1,fun F2 H2 σ2 E2 s2=>q F2 H2 σ2 E2 (s'.trans s2)⟩⟩)
theorem cI:∀ ts τ τ',bo ts τ=some τ' -> ts.length=0:=fun ts τ τ' h=>by cases ts <;> first | rfl | cases h
theorem aL {g:FG} {gs:List T -> aP -> Option aP} {n:Nat} (h:∀ ts τ τ',gs ts τ=some τ' -> ts.length=n):∀ ts τ τ',ar g gs ts τ=some τ' -> ts.length=n + 1:=fun ts τ τ' e=>by
 cases ts with
 | nil=>cases e
 | cons t ts =>
  obtain ⟨τ1,e2,e1⟩:=bind_some e
  simp [h _ _ _ e1]
theorem cL {gs:List T -> aP -> Option aP} {k:Nat} {n:Nat} (hc:X.calm=true) (h:II X es gs) (hl:∀ ts τ τ',gs ts τ=some τ' -> ts.length=n)
  (hn:(assignEach es X.env).length=n:=by rfl) (hst:(assignEach es X.env).findIdx? (·.1)=none:=by rfl):SG X (.Tuple es k pos) (bp gs):=
 fun F₀ H₀ pins s σ H v u Q I r h'=>Gg hc (h F₀ H₀) hn hst pins s σ H v u Q I r (by
  obtain ⟨F,τ,t,τ',E,rt,e1,q⟩:=h'
  unfold bp at e1
  split at e1
  ·next ts =>
   obtain ⟨p,xs,rfl,h1,h2⟩:=rt
   exact ⟨p,xs,rfl,cv E.g.fh h1,by rw [h2.length]; exact hl _ _ _ e1,F,τ,ts,τ',E,h2,e1,q⟩
  ·cases e1)
def oh (f:FE) (g:FG):FS:=fun τ=>(f τ).bind fun p=>(g p.1 p.2).bind fun τ'=>some (.nx τ')
theorem pk {tg:Expr} {g:FG} (he:SE X e f) (hg:SG X tg g) (hs:swapsWithSole [tg] e pos.line X.env=pure false:=by rfl) (hw:swappedStores [tg] e X.env=pure none:=by rfl)
  (h1:(assignEach [tg] X.env).map (·.2)=[assign tg X.env]:=by rfl):SS X (.Assign [tg] e pos) (oh f g):=fun F₀ H₀=>PS.weak (BQ (he F₀ H₀) (hg F₀ H₀) hs hw h1) fun D σ H hq__=>by
 obtain ⟨F,τ,r,E,e1,q⟩:=hq__
 obtain ⟨⟨y,τ1⟩,e2,e1⟩:=bind_some e1
 obtain ⟨τ2,e3,e1⟩:=bind_some e1
 cases e1
 exact ⟨F,τ,y,τ1,E,e2,fun F' H' v E' s' r'=>⟨F',τ1,y,τ2,E',r',e3,fun F2 H2 σ2 E2 s2=>q F2 H2 σ2 E2 (s'.trans s2)⟩⟩
def rN (i j:Nat) (g:FA):FS:=fun τ=>(g τ).bind fun p=>match p.1 with
 | [v,w]=>some (.nx ((p.2.set i (some (.sh v))).set j (some (.sh w))))
 | _=>none
theorem tR {i j:Nat} {x y:Str} {px py pt:Pos} {kt k2 pt2} (hc:X.calm=true) (hN:X.N.Nodup) (hi:X.N[i]? = some x) (hj:X.N[j]? = some y) (hij:i ≠ j)
  (hx:X.env.scope.names.lookup x=some .local) (hy:X.env.scope.names.lookup y=some .local) (ha:SA X [a,b] ga)
  (hw:swappedStores [.Tuple [.Name x px,.Name y py] kt pt] (.Tuple [a,b] k2 pt2) X.env=pure (some [x,y]))
  (hs:swapsWithSole [.Tuple [.Name x px,.Name y py] kt pt] (.Tuple [a,b] k2 pt2) pos.line X.env=pure false:=by rfl) :
  SS X (.Assign [.Tuple [.Name x px,.Name y py] kt pt] (.Tuple [a,b] k2 pt2) pos) (rN i j ga):=fun F₀ H₀=>PS.weak (BS hc hN hi hj hij hx hy (ha F₀ H₀) hw hs) fun D σ H hq__=>by
 obtain ⟨F,τ,r,E,e1,q⟩:=hq__
 obtain ⟨⟨ts,τ1⟩,e2,e1⟩:=bind_some e1
 dsimp only at e1
 split at e1
 ·next v w =>
  cases e1
  refine ⟨F,τ,_,τ1,E,e2,fun F' H' vs E' s' r'=>?_⟩
  obtain ⟨v1,r1,rfl,q1,v2,r2,rfl,q2,rfl⟩:=r'
  exact ⟨v1,v2,rfl,q F' H' _ ((E'.set q1).set q2) s'⟩
 ·cases e1
structure Walks (K:PySem.W.Frag) (F:Hp) (ts:List T) (J:It):Prop where
 go:∀ (i:Nat) t F1 H1,ts[i]? = some t -> aS F F1 -> aS F1 H1 -> J.go i H1
 yld:∀ (i:Nat) t F1 H1 x H2,ts[i]? = some t -> aS F F1 -> aS F1 H1 -> J.yld i H1 x H2 -> ∃ F2,br F1 H1 F2 H2 /\ Rep K F2 t x
 stop:∀ F1 H1,aS F F1 -> aS F1 H1 -> J.stop ts.length H1
def tI (K:PySem.W.Frag) (F₀ H₀:Hp) (fi:FA):TI:=fun σ H R=>∃ F τ ts τ',aJ K F₀ H₀ F H σ τ /\ fi τ=some (ts,τ') /\ ∀ F' H' J,aJ K F₀ H₀ F' H' σ τ' -> aS F F' -> Walks K F' ts J -> R J H'
def SI (X:Cx) (tg iter:Expr) (fi:FA):Prop:=∀ F₀ H₀,PI X tg iter (tI X.K F₀ H₀ fi)
def bP (fg:FG) (fb:FS):List T -> FS
 | [],τ=>some (.nx τ)
 | t :: ts,τ=>(fg t τ).bind fun τ1=>(fb τ1).bind fun r=>match r with
  | .nx τ2=>bP fg fb ts τ2
  | .ct τ2=>bP fg fb ts τ2
  | .bk τ2=>some (.nx τ2)
  | .rt v=>some (.rt v)
def cG (fi:FA) (fg:FG) (fb:FS):FS:=fun τ=>(fi τ).bind fun p=>bP fg fb p.1 p.2
theorem c6 {tg iter:Expr} {body:List Stmt} {fi:FA} {fg:FG} {fb:FS} (hp:PassesOwn (model X.prog X.w) X.A X.env X.xe) (hc:X.calm=true) (hi:SI X tg iter fi) (hg:SG X tg fg) (hb:xj X body fb)
  (hs:∀ x,foldedSetIterable iter X.env x=pure x:=by intro _; rfl):SS X (.For tg iter body [] pos) (cG fi fg fb):=fun F₀ H₀=>PS.weak (Gk hp hc (hi F₀ H₀) (hg F₀ H₀) (hb F₀ H₀) hs) fun D σ H hq__=>by
 obtain ⟨F,τ,r,E,e1,q⟩:=hq__
 obtain ⟨⟨ts,τ1⟩,e2,e1⟩:=bind_some e1
 refine ⟨F,τ,ts,τ1,E,e2,fun F' H' J E' s' W=>?_⟩
 refine ⟨fun i m σ H=>m=ts.length - i /\ i ≤ ts.length /\ ∃ F1 τ1,aJ X.K F₀ H₀ F1 H σ τ1 /\ aS F' F1 /\ bP fg fb (ts.drop i) τ1=some r,⟨_,rfl,Nat.zero_le _,F',τ1,E',aS.refl _,e1⟩,?_⟩
 rintro i m σ1 H1 ⟨rfl,hi,F1,τ2,E1,s1,e3⟩
 by_cases hlt:i < ts.length
 ·have hd:ts.drop i=ts[i] :: ts.drop (i + 1):=List.drop_eq_getElem_cons hlt
  have hg:ts[i]? = some ts[i]:=List.getElem?_eq_getElem hlt
  rw [hd] at e3
  obtain ⟨τ3,e4,e3⟩:=bind_some e3
  obtain ⟨r',e5,e3⟩:=bind_some e3
  refine .inr ⟨W.go i _ F1 H1 hg s1 E1.g.fh,fun σ H=>∃ F1 τ1,aJ X.K F₀ H₀ F1 H σ τ1 /\ aS F' F1 /\ bP fg fb (ts.drop (i + 1)) τ1=some r,fun σ' H' n=>⟨_,by omega,rfl,hlt,n⟩,fun x H2 y=>?_⟩
  obtain ⟨F2,gr,rx⟩:=W.yld i _ F1 H1 x H2 hg s1 E1.g.fh y
  refine ⟨F2,τ2,ts[i],τ3,E1.grow gr,rx,e4,fun F3 H3 σ3 E3 s3=>⟨F3,τ3,r',E3,e5,?_⟩⟩
  have s03:aS F' F3:=s1.trans (gr.sF.trans s3)
  cases r' with
  | nx τ4=>exact fun F4 H4 σ4 E4 s4=>⟨F4,τ4,E4,s03.trans s4,e3⟩
  | ct τ4=>exact fun F4 H4 σ4 E4 s4=>⟨F4,τ4,E4,s03.trans s4,e3⟩
  | bk τ4=>cases e3; exact fun F4 H4 σ4 E4 s4=>q F4 H4 σ4 E4 (s'.trans (s03.trans s4))
  | rt v=>cases e3; exact q
 ·have he:i=ts.length:=by omega
  subst he
  rw [List.drop_length] at e3
  cases e3
  exact .inl ⟨W.stop F1 H1 s1 E1.g.fh,q F1 H1 σ1 E1 (s'.trans s1)⟩
def vU (f:FE):FA:=fun τ=>(f τ).bind fun p=>match p.1 with | .lst ts=>some (ts,p.2) | .scr ts=>some (ts,p.2) | _=>none
def A3 (f:FE):FA:=fun τ=>(f τ).bind fun p=>match p.1 with | .tup ts=>some (ts,p.2) | _=>none
theorem pG {K:PySem.W.Frag} {F:Hp} {p:Addr} {xs:List V} {ts:List T} (h1:fF K F p xs) (h2:aV K F ts xs):Walks K F ts (Jc K p):=by
 refine ⟨fun i t F1 H1 e s1 s2=>?_,fun i t F1 H1 x H2 e s1 s2 y=>?_,fun F1 H1 s1 s2=>⟨xs,(s1.trans s2).seq h1,by rw [h2.length]; exact Nat.le_refl _⟩⟩
 ·obtain ⟨v,g1,_⟩:=h2.get e
  exact ⟨xs,v,(s1.trans s2).seq h1,g1⟩
 ·obtain ⟨rfl,y⟩:=y
  obtain ⟨v,g1,g2⟩:=h2.get e
  have:=y xs ((s1.trans s2).seq h1)
  rw [g1] at this; cases this
  exact ⟨F1,br.refl s2,Rep.mono s1 g2⟩
theorem Ac {K:PySem.W.Frag} {F:Hp} {p:Addr} {xs:List V} {ts:List T} (h1:jO K F p xs) (h2:aV K F ts xs):Walks K F ts (Jd K p):=by
 refine ⟨fun i t F1 H1 e s1 s2=>?_,fun i t F1 H1 x H2 e s1 s2 y=>?_,fun F1 H1 s1 s2=>⟨xs,cv (s1.trans s2) h1,by rw [h2.length]; exact Nat.le_refl _⟩⟩
 ·obtain ⟨v,g1,_⟩:=h2.get e
  exact ⟨xs,v,cv (s1.trans s2) h1,g1⟩
 ·obtain ⟨rfl,y⟩:=y
  obtain ⟨v,g1,g2⟩:=h2.get e
  have:=y xs (cv (s1.trans s2) h1)
  rw [g1] at this; cases this
  exact ⟨F1,br.refl s2,Rep.mono s1 g2⟩
theorem PI.weak {tg it:Expr} {t t':TI} (h:PI X tg it t) (i:∀ σ H R,t' σ H R -> t σ H R):PI X tg it t':=fun pins s σ H R I q=>h pins s σ H R I (i σ H R q)
theorem yz {tg l:Expr} (h:SE X l f):SI X tg l (vU f):=fun F₀ H₀=>PI.weak (DI (h F₀ H₀)) fun σ H R hq__=>by
 obtain ⟨F,τ,ts,τ',E,e1,q⟩:=hq__
 obtain ⟨⟨x,τ1⟩,e2,e1⟩:=bind_some e1
 dsimp only at e1
 split at e1
 ·cases e1
  refine ⟨F,τ,_,τ',E,e2,fun F' H' v E' s' r'=>?_⟩
  obtain ⟨p,xs,rfl,h1,h2⟩:=r'
  exact ⟨p,rfl,⟨xs,fF.of (E'.g.fh _ _ h1)⟩,q F' H' _ E' s' (pG (fF.of h1) h2)⟩
 ·cases e1
  refine ⟨F,τ,_,τ',E,e2,fun F' H' v E' s' r'=>?_⟩
  obtain ⟨p,xs,rfl,h1,h2⟩:=r'
  exact ⟨p,rfl,⟨xs,E'.g.fh.seq h1⟩,q F' H' _ E' s' (pG h1 h2)⟩
 ·cases e1
theorem GC {tg l:Expr} (h:SE X l f):SI X tg l (A3 f):=fun F₀ H₀=>PI.weak (Gh (h F₀ H₀)) fun σ H R hq__=>by
 obtain ⟨F,τ,ts,τ',E,e1,q⟩:=hq__
 obtain ⟨⟨x,τ1⟩,e2,e1⟩:=bind_some e1
 dsimp only at e1
 split at e1
 ·cases e1
  refine ⟨F,τ,_,τ',E,e2,fun F' H' v E' s' r'=>?_⟩
  obtain ⟨p,xs,rfl,h1,h2⟩:=r'
  exact ⟨p,rfl,⟨xs,cv E'.g.fh h1⟩,q F' H' _ E' s' (Ac h1 h2)⟩
 ·cases e1
def upTo (lo:Int):Nat -> List T
 | 0=>[]
 | n + 1=>.int lo :: upTo (lo + 1) n
theorem gU:∀ (n:Nat) (lo:Int),(upTo lo n).length=n
 | 0,_=>rfl
 | n + 1,lo=>by simp [upTo,gU n]
theorem pF:∀ (n:Nat) (lo:Int) (i:Nat),i < n -> (upTo lo n)[i]? = some (.int (lo + i))
 | 0,_,_,h=>by omega
 | n + 1,lo,0,_=>by simp [upTo]
 | n + 1,lo,i + 1,h=>by
  simp only [upTo,List.getElem?_cons_succ]
  rw [pF n (lo + 1) i (by omega)]
  congr 2
  push_cast
  omega
def bS (g:FA):FA:=fun τ=>(g τ).bind fun p=>match p.1 with
 | [.int j]=>if -(2 ^ 62) ≤ j /\ j < 2 ^ 62 then some (upTo 0 j.toNat,p.2) else none
 | _=>none
theorem qR {K:PySem.W.Frag} {F:Hp} (lo:Int) (n:Nat):Walks K F (upTo lo n) (Hl lo n):=by
 have hl:∀ {i:Nat} {t:T},(upTo lo n)[i]? = some t -> i < n:=fun {i t} e=>by
  have:=(List.getElem?_eq_some_iff.mp e).1
  rwa [gU] at this
 refine ⟨fun i t F1 H1 e s1 s2=>hl e,fun i t F1 H1 x H2 e s1 s2 y=>?_,fun F1 H1 s1 s2=>by show n ≤ _; rw [gU]; exact Nat.le_refl _⟩
 obtain ⟨rfl,rfl⟩:=y
 rw [pF n lo i (hl e)] at e
 cases e
 exact ⟨F1,br.refl s2,rfl⟩
theorem d9 {tg:Expr} {p:Pos} (hg:Gl X "range") (hm:X.mg "range" = none) (ha:SA X [a] ga) (hs:starEach [a] X.env=[(false,eval a X.env)]:=by rfl):SI X tg (.Call (.Name "range" p) [a] [] pos) (bS ga):=
 fun F₀ H₀=>PI.weak (zI hg hm (ha F₀ H₀) hs) fun σ H R hq__=>by
  obtain ⟨F,τ,ts,τ',E,e1,q⟩:=hq__
  obtain ⟨⟨x,τ1⟩,e2,e1⟩:=bind_some e1
  dsimp only at e1
  split at e1
  ·split at e1
   ·next hb =>
    cases e1
    refine ⟨F,τ,_,τ',E,e2,fun F' H' vs E' s' r'=>?_⟩
    obtain ⟨v,r,rfl,q1,rfl⟩:=r'
    cases q1
    exact ⟨_,rfl,hb.1,hb.2,q F' H' _ E' s' (qR 0 _)⟩
   ·cases e1
  ·cases e1
def eE (ft:FT) (fb:FS):Nat -> FS
 | 0,_=>none
 | n + 1,τ=>(ft τ).bind fun p=>if p.1=true then (fb p.2).bind fun r=>match r with
  | .nx τ2=>eE ft fb n τ2
  | .ct τ2=>eE ft fb n τ2
  | .bk τ2=>some (.nx τ2)
  | .rt v=>some (.rt v) else some (.nx p.2)
theorem pq (n:Nat) {c:Expr} {body:List Stmt} {ft:FT} {fb:FS} (hp:PassesOwn (model X.prog X.w) X.A X.env X.xe) (hc:ST X c ft) (hb:xj X body fb):SS X (.While c body [] pos) (eE ft fb n):=fun F₀ H₀=>PS.weak (BV hp (hc F₀ H₀) (hb F₀ H₀)) fun D σ H hq__=>by
 obtain ⟨F,τ,r,E,e1,q⟩:=hq__
 refine ⟨fun m σ H=>∃ F1 τ1,aJ X.K F₀ H₀ F1 H σ τ1 /\ aS F F1 /\ eE ft fb m τ1=some r,⟨n,F,τ,E,aS.refl _,e1⟩,?_⟩
 rintro m σ1 H1 ⟨F1,τ1,E1,s1,e2⟩
 cases m with
 | zero=>cases e2
 | succ m =>
  obtain ⟨⟨x,τ2⟩,e3,e2⟩:=bind_some e2
  refine ⟨F1,τ1,x,τ2,E1,e3,fun F2 H2 E2 s2=>?_⟩
  dsimp only at e2
  split at e2
  ·next h =>
   rw [if_pos h]
   obtain ⟨r',e4,e2⟩:=bind_some e2
   refine ⟨fun σ H=>∃ F1 τ1,aJ X.K F₀ H₀ F1 H σ τ1 /\ aS F F1 /\ eE ft fb m τ1=some r,fun σ' H' n=>⟨m,Nat.lt_succ_self m,n⟩,F2,τ2,r',E2,e4,?_⟩
   cases r' with
   | nx τ4=>exact fun F4 H4 σ4 E4 s4=>⟨F4,τ4,E4,(s1.trans s2).trans s4,e2⟩
   | ct τ4=>exact fun F4 H4 σ4 E4 s4=>⟨F4,τ4,E4,(s1.trans s2).trans s4,e2⟩
   | bk τ4=>cases e2; exact fun F4 H4 σ4 E4 s4=>q F4 H4 σ4 E4 ((s1.trans s2).trans s4)
   | rt v=>cases e2; exact q
  ·next h =>
   rw [if_neg h]
   cases e2
   exact q F2 H2 σ1 E2 (s1.trans s2)
def iB (i:Nat) (f:FE):FS:=fun τ=>match τ[i]? with
 | some (some (.own _))=>(f τ).bind fun p=>match p.2[i]? with
  | some (some (.own ts))=>if ts.length < sizeLine then some (.nx (p.2.set i (some (.own (ts ++ [p.1]))))) else none
  | _=>none
 | _=>none
end
def cE (m n:Nat) (fb:FS):List T -> Option T:=fun ts=>if ts.length=n then (fb (ts.map (fun t=>some (Sl.sh t)) ++ List.replicate (m - n) none)).bind fun r=>match r with
 | .rt t=>some t
 | .nx _=>some .non
 | _=>none else none
theorem lL {K:PySem.W.Frag} {F H:Hp} {N:List Str} {vs:List V} {ts:List T} (s:aS F H) (r:aV K F ts vs):aJ K F H F H (start N vs) (ts.map (fun t=>some (Sl.sh t)) ++ List.replicate (N.length - ts.length) none):=by
 have hl:=r.length
 have key:∀ (i:Nat) (sl:Sl),(ts.map (fun t=>some (Sl.sh t)) ++ List.replicate (N.length - ts.length) none)[i]? = some (some sl) -> ∃ t,ts[i]? = some t /\ sl=.sh t:=fun i sl e=>by
  by_cases h:i < ts.length
  ·rw [List.getElem?_append_left (by simpa using h),List.getElem?_map,List.getElem?_eq_getElem h] at e
   simp at e
   exact ⟨ts[i],List.getElem?_eq_getElem h,e.symm⟩
  ·rw [List.getElem?_append_right (by simp; omega),List.getElem?_replicate] at e
   split at e <;> cases e
 refine ⟨br.refl s,by simp [L2.start,hl],fun i sl e=>?_,fun i j us ws p _ e1 _ _=>?_⟩
 ·obtain ⟨t,e1,rfl⟩:=key i sl e
  obtain ⟨v,g1,g2⟩:=r.get e1
  refine ⟨v,?_,g2⟩
  have hi:i < vs.length:=(List.getElem?_eq_some_iff.mp g1).1
  unfold L2.start
  rw [List.getElem?_append_left (by simpa using hi),List.getElem?_map,g1]
  rfl
 ·obtain ⟨t,_,e⟩:=key i _ e1
  cases e
section
variable {P:Program} {w:World} {K:PySem.W.Frag} {mg:Str -> Option Value} {base:Heap}
theorem bN {x qual:Str} {st:Stmt} {f:Addr} {fd:FuncData} {N ps:List Str} {k:Nat} {fb:FS} (F:fV K x qual st f fd) (S:aU N ps (aF st)) (hb:Binds K fd ps []) (hm:mg x=some (.ref f))
  (h:∀ (cdv:Value) (A:Around) (outer:List Env) (s:Shared) (H:Hp) (E:XK),eY k (A.deeper (envOfC qual (aF st) s.heap.objs.size f cdv)) -> xj (pK qV P w K mg base N qual (aF st) f cdv A outer s H E).nox (d5 st) fb) :
  Def P w K mg base (k + 1) x ps.length (cE N.length ps.length fb):=by
 refine ⟨f,fd,ps,F.ok S (fun vs H Q E z=>z.1) (fun cdv A outer s H vs Q E hr z=>?_),hb,F.kp,hm,rfl⟩
 obtain ⟨hl,F1,ts,t,sm,r,e,q⟩:=z
 unfold cE at e
 split at e
 ·next hn =>
  obtain ⟨r',e1,e⟩:=bind_some e
  refine ⟨_,h cdv A outer s H E hr F1 H,F1,_,r',?_,e1,?_⟩
  ·have:=lL (N:=N) sm r
   rw [hn] at this
   exact this
  ·cases r' with
   | rt u=>cases e; exact fun F' H' v g r'=>q F' H' v g r'
   | nx τ=>cases e; exact fun F' H' σ' E' s'=>q F' H' .non E'.g rfl
   | bk τ=>cases e
   | ct τ=>cases e
 ·cases e
end
open PySem PySem.Spec PyProof.Rows L2
def B:Nat:=2 ^ 4000
theorem Ea {n:Nat} (h:n < B):n.log2 < 4000:=by
 rcases Nat.eq_zero_or_pos n with h0 | hp
 ·rw [h0]; decide
 ·exact (Nat.log2_lt (Nat.ne_of_gt hp)).mpr h
theorem vG {i:Int} (h:i.natAbs < B):Builtin.Int.intBits i ≤ 4000:=by
 unfold Builtin.Int.intBits
 split
 ·omega
 ·have:=Ea h
  omega
theorem Ew {i j:Int} (hi:i.natAbs < B) (hj:j.natAbs < B):IntMulOk i j:=by
 have h1:=vG hi
 have h2:=vG hj
 unfold IntMulOk
 have h3:Builtin.Int.intTooBig (Builtin.Int.intBits i + Builtin.Int.intBits j)=false:=by
  unfold Builtin.Int.intTooBig
  have hb:((bitsLine:Nat):Int)=134217728:=by decide
  rw [decide_eq_false]
  show ¬ ((Builtin.Int.intBits i:Int) + (Builtin.Int.intBits j:Int) > ((bitsLine:Nat):Int))
  rw [hb]
  omega
 rw [h3]
 simp
section
variable {X:Cx}
def gI (C:Int -> Int -> Prop) [∀ i j,Decidable (C i j)] (g:Int -> Int -> T):T -> T -> Option T:=fun a b=>match a,b with
 | .int i,.int j=>if C i j then some (g i j) else none
 | _,_=>none
theorem Fg {C:Int -> Int -> Prop} [∀ i j,Decidable (C i j)] {g:Int -> Int -> T} {i j:Int}:gI C g (.int i) (.int j)=if C i j then some (g i j) else none:=rfl
theorem ye {f:Value -> Value -> Sem Value} {C:Int -> Int -> Prop} [∀ i j,Decidable (C i j)] {g:Int -> Int -> T} {gv:Int -> Int -> V} (h:nJ X f (rI C gv)) (hg:∀ K F i j,Rep K F (g i j) (gv i j)):pI X f (gI C g):=by
 intro pins s σ H x y v u Q I rx ry ⟨F,a,b,t,sm,ra,rb,e,q⟩
 unfold gI at e
 split at e
 ·cases ra
  cases rb
  split at e
  ·next hc =>
   cases e
   exact h pins s σ H _ _ v u Q I rx ry ⟨_,_,rfl,rfl,hc,q F H _ (br.refl sm) (hg _ _ _ _)⟩
  ·cases e
 ·cases e
theorem tw {f:Value -> Value -> Sem Value} {g:Int -> Int -> T} {gv:Int -> Int -> V} (h:nJ X f (Gr gv)) (hg:∀ K F i j,Rep K F (g i j) (gv i j)):pI X f (gI (fun _ _=>True) g):=
 ye (fun pins s σ H x y v u Q I rx ry ⟨i,j,e1,e2,_,q⟩=>h pins s σ H x y v u Q I rx ry ⟨i,j,e1,e2,q⟩) hg
def Jn (g g':T -> T -> Option T):T -> T -> Option T:=fun a b=>match g a b with
 | some t=>some t
 | none=>g' a b
theorem pI.or {f:Value -> Value -> Sem Value} {g g':T -> T -> Option T} (h:pI X f g) (h':pI X f g'):pI X f (Jn g g'):=by
 intro pins s σ H x y v u Q I rx ry ⟨F,a,b,t,sm,ra,rb,e,q⟩
 unfold Jn at e
 split at e
 ·next t' e'=>cases e; exact h pins s σ H x y v u Q I rx ry ⟨F,a,b,_,sm,ra,rb,e',q⟩
 ·exact h' pins s σ H x y v u Q I rx ry ⟨F,a,b,t,sm,ra,rb,e,q⟩
def mx (i j:Int):Prop:=i.natAbs < B /\ j.natAbs < B
instance (i j:Int):Decidable (mx i j):=inferInstanceAs (Decidable (_ /\ _))
def xf (i j:Int):Prop:=j ≠ 0 /\ j.natAbs < B
instance (i j:Int):Decidable (xf i j):=inferInstanceAs (Decidable (_ /\ _))
def IF (i j:Int):Prop:=j ≠ 0
instance (i j:Int):Decidable (IF i j):=inferInstanceAs (Decidable (_ ≠ _))
instance (i j:Int):Decidable (IZ i j):=inferInstanceAs (Decidable (_ /\ _ /\ _))
abbrev gL:=gI (fun _ _=>True) fun i j=>.int (i - j)
abbrev bg:=gI mx fun i j=>.int (i * j)
abbrev cQ:=gI xf fun i j=>.int (i.fdiv j)
abbrev cg:=gI IF fun i j=>.int (i.fmod j)
abbrev vx:=gI (fun _ _=>True) fun i j=>.bl (decide (i < j))
abbrev vW:=gI (fun _ _=>True) fun i j=>.bl (decide (j < i))
theorem jg:pI X (binaryOp .Sub) gL:=tw FR fun _ _ _ _=>rfl
theorem bu:pI X (binaryOp .Mult) bg:=ye (C:=mx) (gv:=fun i j=>.int (i * j)) (Ju fun _ _ _ _ _ _ _ hc q=>mul_int q (Ew hc.1 hc.2)) fun _ _ _ _=>rfl
theorem cC:pI X (binaryOp .FloorDiv) cQ:=ye (C:=xf) (gv:=fun i j=>.int (i.fdiv j)) (Ju fun _ _ _ _ _ _ _ hc q=>floordiv_int hc.1 q (.inl (PyProof.noPylong_of_log2 (Nat.lt_trans (Ea hc.2) (by decide:4000 < 9000))))) fun _ _ _ _=>rfl
theorem cS:pI X (binaryOp .Mod) cg:=ye (C:=IF) (gv:=fun i j=>.int (i.fmod j)) DA fun _ _ _ _=>rfl
theorem oO:pI X (compareOp .Lt) vx:=tw HX fun _ _ _ _=>rfl
theorem qF:pI X (compareOp .Gt) vW:=tw HW fun _ _ _ _=>rfl
def oj:T -> T -> Option T
 | .str x,.str y=>if x.length + y.length ≤ sizeLine then some (.str (x ++ y)) else none
 | .lst xs,.lst ys=>if xs.length + ys.length ≤ sizeLine then some (.lst (xs ++ ys)) else none
 | .tup (x :: xs),.tup (y :: ys)=>if (x :: xs).length + (y :: ys).length ≤ sizeLine then some (.tup (x :: xs ++ y :: ys)) else none
 | _,_=>none
theorem DC:pI X (binaryOp .Add) oj:=by
 intro pins s σ H x y v u Q I rx ry ⟨F,a,b,t,sm,ra,rb,e,q⟩
 unfold oj at e
 split at e
 ·split at e
  ·next hl =>
   cases e; cases ra; cases rb
   exact wB pins s σ H _ _ v u Q I rx ry ⟨_,_,rfl,rfl,hl,q F H _ (br.refl sm) rfl⟩
  ·cases e
 ·split at e
  ·next hl =>
   cases e
   obtain ⟨p1,x1,rfl,h1,h2⟩:=ra
   obtain ⟨p2,x2,rfl,h3,h4⟩:=rb
   refine FP pins s σ H _ _ v u Q I rx ry ⟨p1,p2,x1,x2,rfl,rfl,sm _ _ h1,sm _ _ h3,by rw [h2.length,h4.length]; exact hl,fun p hp=>?_⟩
   have gr:=br.new (.lst (x1 ++ x2)) sm hp
   exact q _ _ _ gr ⟨p,_,rfl,aX,aV.mono gr.sF (h2.append h4)⟩
  ·cases e
 ·split at e
  ·next hl =>
   cases e
   obtain ⟨p1,x1,rfl,h1,h2⟩:=ra
   obtain ⟨p2,x2,rfl,h3,h4⟩:=rb
   refine Dz pins s σ H _ _ v u Q I rx ry ⟨p1,p2,x1,x2,rfl,rfl,cv sm h1,cv sm h3,fun z=>?_,by rw [h2.length,h4.length]; exact hl,fun z=>?_,fun _ p hp=>?_⟩
   ·subst z; have:=h2.length; simp at this
   ·subst z; have:=h4.length; simp at this
   ·have gr:=br.new (.tup (x1 ++ x2)) sm hp
    exact q _ _ _ gr ⟨p,_,rfl,jO.of aX,aV.mono gr.sF (h2.append h4)⟩
  ·cases e
 ·cases e
def cH:T -> T -> Option T:=Jn (gI (fun _ _=>True) fun i j=>.int (i + j)) oj
theorem cW:pI X (binaryOp .Add) cH:=pI.or (tw FN fun _ _ _ _=>rfl) DC
theorem om {i j:Int}:cH (.int i) (.int j)=some (.int (i + j)):=rfl
theorem uo {xs ys:List T} (h:xs.length + ys.length ≤ sizeLine):cH (.lst xs) (.lst ys)=some (.lst (xs ++ ys)):=by
 show oj (.lst xs) (.lst ys)=_
 simp only [oj,if_pos h]
theorem A7 {x y:T} {xs ys:List T} (h:(x :: xs).length + (y :: ys).length ≤ sizeLine):cH (.tup (x :: xs)) (.tup (y :: ys))=some (.tup (x :: xs ++ y :: ys)):=by
 show oj (.tup (x :: xs)) (.tup (y :: ys))=_
 simp only [oj,if_pos h]
def oo:T -> Option T
 | .int i=>some (.int (-i))
 | _=>none
theorem tX:JV X (unaryOp .USub) oo:=by
 intro pins s σ H x v Q I rx ⟨F,a,t,sm,ra,e,q⟩
 unfold oo at e
 split at e
 ·cases e; cases ra
  exact G0 pins s σ H _ v Q I rx ⟨_,rfl,q F H _ (br.refl sm) rfl⟩
 ·cases e
mutual
def Cq:T -> Option PyData
 | .non=>some .none
 | .bl b=>some (.bool b)
 | .int i=>some (.int i)
 | .str x=>some (.str x)
 | .tup ts=>(pD ts).map .tuple
 | .lst ts=>(pD ts).map .list
 | .scr ts=>(pD ts).map .list
 | .ty _=>none
 | .dic=>none
 | .obj _ _ _=>none
 | .ptr _=>none
def pD:List T -> Option (List PyData)
 | []=>some []
 | t :: ts=>(Cq t).bind fun d=>(pD ts).bind fun ds=>some (d :: ds)
end
mutual
theorem jh {pins:List (Addr × Obj)} {σ:L2.St} {H F:Hp} {s:Shared} (I:Inv X pins σ H s) (sm:aS F H):∀ {t:T} {d:PyData} {v:V} {u:Value},Cq t=some d -> Rep X.K F t v -> RelV v u -> ∃ as,Reads s.heap u d as
 | .non,d,v,u,e,r,ru=>by cases r; cases e; cases ru; exact ⟨_,.none⟩
 | .bl b,d,v,u,e,r,ru=>by cases r; cases e; cases ru; exact ⟨_,.bool _⟩
 | .int i,d,v,u,e,r,ru=>by cases r; cases e; obtain ⟨t,rfl⟩:=ru; exact ⟨_,.int _ _⟩
 | .str x,d,v,u,e,r,ru=>by cases r; cases e; obtain ⟨t,rfl⟩:=ru; exact ⟨_,.str _ _⟩
 | .ty _,d,v,u,e,r,ru=>by cases e
 | .dic,d,v,u,e,r,ru=>by cases e
 | .obj _ _ _,d,v,u,e,r,ru=>by cases e
 | .ptr _,d,v,u,e,r,ru=>by cases e
 | .tup ts,d,v,u,e,r,ru=>by
  obtain ⟨p,xs,rfl,h1,h2⟩:=r
  cases ru
  simp only [Cq] at e
  cases e1:pD ts with
  | none=>rw [e1] at e; cases e
  | some ds =>
   rw [e1] at e; cases e
   obtain ⟨its,rv,⟨o,g1,g2,n,g3⟩,_⟩:=I.tuple (cv sm h1)
   obtain ⟨as,q⟩:=gT I sm e1 h2 rv
   exact ⟨_,.tuple g1 g2 g3 q⟩
 | .lst ts,d,v,u,e,r,ru=>by
  obtain ⟨p,xs,rfl,h1,h2⟩:=r
  cases ru
  simp only [Cq] at e
  cases e1:pD ts with
  | none=>rw [e1] at e; cases e
  | some ds =>
   rw [e1] at e; cases e
   obtain ⟨its,rv,⟨o,n,g1,g2,_,g3⟩,_⟩:=I.list (fF.of (sm _ _ h1))
   obtain ⟨as,q⟩:=gT I sm e1 h2 rv
   exact ⟨_,.list g1 g2 g3 q⟩
 | .scr ts,d,v,u,e,r,ru=>by
  obtain ⟨p,xs,rfl,h1,h2⟩:=r
  cases ru
  simp only [Cq] at e
  cases e1:pD ts with
  | none=>rw [e1] at e; cases e
  | some ds =>
   rw [e1] at e; cases e
   obtain ⟨its,rv,⟨o,n,g1,g2,_,g3⟩,_⟩:=I.list (sm.seq h1)
   obtain ⟨as,q⟩:=gT I sm e1 h2 rv
   exact ⟨_,.list g1 g2 g3 q⟩
theorem gT {pins:List (Addr × Obj)} {σ:L2.St} {H F:Hp} {s:Shared} (I:Inv X pins σ H s) (sm:aS F H):∀ {ts:List T} {ds:List PyData} {vs:List V} {us:List Value},pD ts=some ds -> aV X.K F ts vs -> Vals vs us -> ∃ as,ReadsAll s.heap us ds as
 | [],ds,vs,us,e,r,ru=>by cases r; cases ru; cases e; exact ⟨_,.nil⟩
 | t :: ts,ds,vs,us,e,r,ru=>by
  obtain ⟨v,rr,rfl,h1,h2⟩:=r
  cases ru with
  | cons r1 r2 =>
   simp only [pD] at e
   obtain ⟨d,e1,e⟩:=bind_some e
   obtain ⟨ds',e2,e⟩:=bind_some e
   cases e
   obtain ⟨as,q1⟩:=jh I sm e1 h1 r1
   obtain ⟨bs,q2⟩:=gT I sm e2 h2 r2
   exact ⟨_,.cons q1 q2⟩
end
def zp (neg:Bool) (a b:T):Option T:=(Cq a).bind fun p=>(Cq b).bind fun q=>if SeqAt.shaped p=true /\ SeqAt.shaped q=true then some (.bl (if neg then !PyData.eqv p q else PyData.eqv p q)) else none
abbrev lD:=zp false
abbrev j6:=zp true
theorem oN (hu:X.A.units + 64 < cLine):pI X (compareOp .Eq) lD:=by
 intro pins s σ H x y v u Q I rx ry ⟨F,a,b,t,sm,ra,rb,e,q⟩
 obtain ⟨d1,e1,e⟩:=bind_some e
 obtain ⟨d2,e2,e⟩:=bind_some e
 split at e
 ·next hs =>
  cases e
  obtain ⟨as,q1⟩:=jh I sm e1 ra rx
  obtain ⟨bs,q2⟩:=jh I sm e2 rb ry
  exact SeqAt.compareEq_shaped q1 q2 hs.1 hs.2 hu ⟨.bl _,H,I,rfl,q F H _ (br.refl sm) rfl⟩
 ·cases e
theorem mL (hu:X.A.units + 64 < cLine):pI X (compareOp .NotEq) j6:=by
 intro pins s σ H x y v u Q I rx ry ⟨F,a,b,t,sm,ra,rb,e,q⟩
 obtain ⟨d1,e1,e⟩:=bind_some e
 obtain ⟨d2,e2,e⟩:=bind_some e
 split at e
 ·next hs =>
  cases e
  obtain ⟨as,q1⟩:=jh I sm e1 ra rx
  obtain ⟨bs,q2⟩:=jh I sm e2 rb ry
  exact SeqAt.compareNe_shaped q1 q2 hs.1 hs.2 hu ⟨.bl _,H,I,rfl,q F H _ (br.refl sm) rfl⟩
 ·cases e
def ot:T -> Bool
 | .non=>true
 | _=>false
def xJ:T -> T -> Option T
 | a,.non=>some (.bl (ot a))
 | .bl c,.bl d=>some (.bl (c == d))
 | _,_=>none
theorem qB {K:PySem.W.Frag} {F:Hp} {t:T} {v:V} (r:Rep K F t v):decide (v=.non)=ot t:=by
 cases t with
 | non=>cases r; rfl
 | bl _=>cases r; rfl
 | int _=>cases r; rfl
 | str _=>cases r; rfl
 | ty _=>cases r; rfl
 | tup _=>obtain ⟨p,xs,rfl,_⟩:=r; rfl
 | lst _=>obtain ⟨p,xs,rfl,_⟩:=r; rfl
 | scr _=>obtain ⟨p,xs,rfl,_⟩:=r; rfl
 | dic=>obtain ⟨p,rfl,_⟩:=r; rfl
 | obj _ _ _=>obtain ⟨p,_,_,rfl,_⟩:=r; rfl
 | ptr _=>rw [show v=_ from r]; rfl
theorem yf:pI X (compareOp .Is) xJ:=by
 intro pins s σ H x y v u Q I rx ry ⟨F,a,b,t,sm,ra,rb,e,q⟩
 unfold xJ at e
 split at e
 ·cases e; cases rb
  exact FQ pins s σ H _ _ v u Q I rx ry ⟨rfl,by rw [qB ra]; exact q F H _ (br.refl sm) rfl⟩
 ·cases e; cases ra; cases rb; cases rx; cases ry
  exact is_bool ⟨.bl _,H,I,rfl,q F H _ (br.refl sm) rfl⟩
 ·cases e
def cR:T -> T -> Option T
 | .lst ts,.int i=>mB ts i
 | .scr ts,.int i=>mB ts i
 | .tup ts,.int i=>mB ts i
 | .str x,.int i=>if x.length ≤ sizeLine then (mB x.cps.toList i).map fun c=>.str ⟨#[c]⟩ else none
 | _,_=>none
theorem ky {K:PySem.W.Frag} {F:Hp} {ts:List T} {vs:List V} {i:Int} {t:T} (r:aV K F ts vs) (e:mB ts i=some t):∃ v,mB vs i=some v /\ Rep K F t v:=by
 unfold mB at e ⊢
 rw [r.length]
 obtain ⟨j,e1,e2⟩:=bind_some e
 obtain ⟨v,g1,g2⟩:=r.get e2
 exact ⟨v,by rw [e1]; exact g1,g2⟩
theorem bU:Ck X (IP X.K cR):=by
 intro value slice pins s σ H x y v u Q I rx ry ⟨F,a,b,t,sm,ra,rb,e,q⟩ hs
 unfold cR at e
 split at e
 ·obtain ⟨p,xs,rfl,h1,h2⟩:=ra
  cases rb
  obtain ⟨w,g1,g2⟩:=ky h2 e
  exact sG value slice pins s σ H _ _ v u Q I rx ry ⟨p,xs,_,w,rfl,rfl,fF.of (sm _ _ h1),g1,q F H _ (br.refl sm) g2⟩ hs
 ·obtain ⟨p,xs,rfl,h1,h2⟩:=ra
  cases rb
  obtain ⟨w,g1,g2⟩:=ky h2 e
  exact sG value slice pins s σ H _ _ v u Q I rx ry ⟨p,xs,_,w,rfl,rfl,sm.seq h1,g1,q F H _ (br.refl sm) g2⟩ hs
 ·obtain ⟨p,xs,rfl,h1,h2⟩:=ra
  cases rb
  obtain ⟨w,g1,g2⟩:=ky h2 e
  exact Fs value slice pins s σ H _ _ v u Q I rx ry ⟨p,xs,_,w,rfl,rfl,cv sm h1,g1,q F H _ (br.refl sm) g2⟩ hs
 ·split at e
  ·next hl =>
   cases ra; cases rb
   cases e1:mB (Str.cps _).toList _ with
   | none=>rw [e1] at e; cases e
   | some c =>
    rw [e1] at e; cases e
    exact Fp value slice pins s σ H _ _ v u Q I rx ry ⟨_,_,c,rfl,rfl,hl,e1,q F H _ (br.refl sm) rfl⟩ hs
  ·cases e
 ·cases e
theorem i7 {f:Value} {r:List V -> Hp -> VK -> Prop} {g:List T -> Option T} (h:gw X f r) (i:∀ vs H Q,IQ X.K g vs H Q -> r vs H Q):jN X f g:=fun pins s σ H xs us Q I rx q=>h pins s σ H xs us Q I rx (i _ _ _ q)
def cn:List T -> Option T
 | [.lst ts]=>some (.int ts.length)
 | [.scr ts]=>some (.int ts.length)
 | [.tup ts]=>some (.int ts.length)
 | [.str x]=>if x.length ≤ sizeLine then some (.int x.length) else none
 | _=>none
theorem dF:jN X (.builtin "len") cn:=i7 (gw.or rn rq) fun vs H Q hq__=>by
 obtain ⟨F,ts,t,sm,r,e,q⟩:=hq__
 unfold cn at e
 split at e
 ·obtain ⟨v,rr,rfl,⟨p,xs,rfl,h1,h2⟩,rfl⟩:=r
  cases e
  exact .inl ⟨p,xs,rfl,.inl (fF.of (sm _ _ h1)),by rw [h2.length]; exact q F H _ (br.refl sm) rfl⟩
 ·obtain ⟨v,rr,rfl,⟨p,xs,rfl,h1,h2⟩,rfl⟩:=r
  cases e
  exact .inl ⟨p,xs,rfl,.inl (sm.seq h1),by rw [h2.length]; exact q F H _ (br.refl sm) rfl⟩
 ·obtain ⟨v,rr,rfl,⟨p,xs,rfl,h1,h2⟩,rfl⟩:=r
  cases e
  exact .inl ⟨p,xs,rfl,.inr (cv sm h1),by rw [h2.length]; exact q F H _ (br.refl sm) rfl⟩
 ·split at e
  ·next hl =>
   obtain ⟨v,rr,rfl,h1,rfl⟩:=r
   cases h1; cases e
   exact .inr ⟨_,rfl,hl,q F H _ (br.refl sm) rfl⟩
  ·cases e
 ·cases e
def ud:List T -> Option T
 | [.int i]=>some (.int (if i < 0 then -i else i))
 | _=>none
theorem rF:jN X (.builtin "abs") ud:=i7 Ax fun vs H Q hq__=>by
 obtain ⟨F,ts,t,sm,r,e,q⟩:=hq__
 unfold ud at e
 split at e
 ·obtain ⟨v,rr,rfl,h1,rfl⟩:=r
  cases h1; cases e
  exact ⟨_,rfl,q F H _ (br.refl sm) rfl⟩
 ·cases e
def vL:List T -> Option T
 | [.int i,.int j]=>some (.int (if j > i then j else i))
 | _=>none
def uf:List T -> Option T
 | [.int i,.int j]=>some (.int (if j < i then j else i))
 | _=>none
theorem EU (hc:X.calm=true):jN X (.builtin "max") vL:=i7 (zc hc) fun vs H Q hq__=>by
 obtain ⟨F,ts,t,sm,r,e,q⟩:=hq__
 unfold vL at e
 split at e
 ·obtain ⟨v,rr,rfl,h1,v2,r2,rfl,h2,rfl⟩:=r
  cases h1; cases h2; cases e
  exact ⟨_,_,rfl,q F H _ (br.refl sm) rfl⟩
 ·cases e
theorem EV (hc:X.calm=true):jN X (.builtin "min") uf:=i7 (zi hc) fun vs H Q hq__=>by
 obtain ⟨F,ts,t,sm,r,e,q⟩:=hq__
 unfold uf at e
 split at e
 ·obtain ⟨v,rr,rfl,h1,v2,r2,rfl,h2,rfl⟩:=r
  cases h1; cases h2; cases e
  exact ⟨_,_,rfl,q F H _ (br.refl sm) rfl⟩
 ·cases e
def dList:List T -> Option T
 | [.lst ts]=>some (.lst ts)
 | [.scr ts]=>some (.lst ts)
 | [.tup ts]=>some (.lst ts)
 | _=>none
theorem xv:jN X (.type "list") dList:=i7 rA fun vs H Q hq__=>by
 obtain ⟨F,ts,t,sm,r,e,q⟩:=hq__
 unfold dList at e
 split at e
 ·obtain ⟨v,rr,rfl,⟨p,xs,rfl,h1,h2⟩,rfl⟩:=r
  cases e
  refine ⟨p,xs,rfl,.inl (fF.of (sm _ _ h1)),fun l hl=>?_⟩
  have gr:=br.new (.lst xs) sm hl
  exact q _ _ _ gr ⟨l,xs,rfl,aX,aV.mono gr.sF h2⟩
 ·obtain ⟨v,rr,rfl,⟨p,xs,rfl,h1,h2⟩,rfl⟩:=r
  cases e
  refine ⟨p,xs,rfl,.inl (sm.seq h1),fun l hl=>?_⟩
  have gr:=br.new (.lst xs) sm hl
  exact q _ _ _ gr ⟨l,xs,rfl,aX,aV.mono gr.sF h2⟩
 ·obtain ⟨v,rr,rfl,⟨p,xs,rfl,h1,h2⟩,rfl⟩:=r
  cases e
  refine ⟨p,xs,rfl,.inr (cv sm h1),fun l hl=>?_⟩
  have gr:=br.new (.lst xs) sm hl
  exact q _ _ _ gr ⟨l,xs,rfl,aX,aV.mono gr.sF h2⟩
 ·cases e
def G9:T -> Option String
 | .non=>some "NoneType"
 | .bl _=>some "bool"
 | .int _=>some "int"
 | .str _=>some "str"
 | .tup _=>some "tuple"
 | .lst _=>some "list"
 | .scr _=>some "list"
 | .dic=>some "dict"
 | .obj _ _ _=>none
 | .ptr _=>none
 | .ty _=>none
def kinds:List String:=["int", "bool", "str", "list", "tuple", "dict"]
def IM (a c:String):Option Bool:=if c ∈ kinds then some (a == c || (a == "bool" && c == "int")) else none
def Fm (a:String):List T -> Option Bool
 | []=>some false
 | .ty c :: r=>(IM a c).bind fun b=>if b=true then some true else Fm a r
 | _ :: _=>none
theorem Bk {K:PySem.W.Frag} {t:T} {a c:String} {b:Bool} (ha:G9 t=some a) (h:IM a c=some b):PySem.W.kitOne K (.type a) (.type c)=some b:=by
 have ha:a ∈ ["NoneType", "bool", "int", "str", "tuple", "list", "dict"]:=by
  cases t <;> simp only [G9] at ha <;> cases ha <;> simp
 unfold IM at h
 split at h
 ·next hc =>
  cases h
  simp only [kinds,List.mem_cons,List.not_mem_nil,or_false] at hc ha
  rcases ha with rfl | rfl | rfl | rfl | rfl | rfl | rfl <;> rcases hc with rfl | rfl | rfl | rfl | rfl | rfl <;> rfl
 ·cases h
theorem xW {K:PySem.W.Frag} {F:Hp} {t:T} {a:String} (ha:G9 t=some a):∀ {cs:List T} {vs:List V} {us:List Value} {b:Bool},Fm a cs=some b -> aV K F cs vs -> Vals vs us -> PySem.W.kitAny K (.type a) us=some b
 | [],vs,us,b,h,r,ru=>by cases r; cases ru; cases h; rfl
 | .ty c :: cs,vs,us,b,h,r,ru=>by
  obtain ⟨v,rr,rfl,h1,h2⟩:=r
  cases h1
  cases ru with
  | cons r1 r2 =>
   cases r1
   obtain ⟨b',e1,h⟩:=bind_some h
   unfold PySem.W.kitAny
   rw [Bk ha e1]
   cases b' with
   | true=>rw [if_pos rfl] at h; exact h
   | false=>rw [if_neg (by decide)] at h; exact xW ha h h2 r2
 | .non :: cs,vs,us,b,h,r,ru=>by cases h
 | .bl _ :: cs,vs,us,b,h,r,ru=>by cases h
 | .int _ :: cs,vs,us,b,h,r,ru=>by cases h
 | .str _ :: cs,vs,us,b,h,r,ru=>by cases h
 | .tup _ :: cs,vs,us,b,h,r,ru=>by cases h
 | .lst _ :: cs,vs,us,b,h,r,ru=>by cases h
 | .scr _ :: cs,vs,us,b,h,r,ru=>by cases h
 | .dic :: cs,vs,us,b,h,r,ru=>by cases h
 | .obj _ _ _ :: cs,vs,us,b,h,r,ru=>by cases h
 | .ptr _ :: cs,vs,us,b,h,r,ru=>by cases h
theorem uJ {pins:List (Addr × Obj)} {σ:L2.St} {H F:Hp} {s:Shared} {t:T} {v:V} {u:Value} {a:String} (I:Inv X pins σ H s) (sm:aS F H) (r:Rep X.K F t v) (ru:RelV v u) (ha:G9 t=some a) :
  ∃ Hh:Heap -> Prop,PySem.W.KitX X.K u (.type a) Hh /\ Hh s.heap /\ u ≠ .builtin "__main__.__loader__#opaque" := by
 cases t with
 | non=>cases r; cases ru; cases ha; exact ⟨_,PySem.W.kitx_none,True.intro,fun z=>nomatch z⟩
 | bl _=>cases r; cases ru; cases ha; exact ⟨_,PySem.W.kitx_bool,True.intro,fun z=>nomatch z⟩
 | int _=>cases r; obtain ⟨t,rfl⟩:=ru; cases ha; exact ⟨_,PySem.W.kitx_int,True.intro,fun z=>nomatch z⟩
 | str _=>cases r; obtain ⟨t,rfl⟩:=ru; cases ha; exact ⟨_,PySem.W.kitx_str,True.intro,fun z=>nomatch z⟩
 | ty _=>cases ha
 | tup _ =>
  obtain ⟨p,xs,rfl,h1,h2⟩:=r
  cases ru; cases ha
  obtain ⟨its,rv,⟨o,g1,g2,n,g3⟩,_⟩:=I.tuple (cv sm h1)
  exact ⟨_,PySem.W.kitx_tuple,⟨o,g1,g2⟩,fun z=>nomatch z⟩
 | lst _ =>
  obtain ⟨p,xs,rfl,h1,h2⟩:=r
  cases ru; cases ha
  obtain ⟨its,rv,⟨o,n,g1,g2,_,g3⟩,_⟩:=I.list (fF.of (sm _ _ h1))
  exact ⟨_,PySem.W.kitx_list,⟨o,g1,g2⟩,fun z=>nomatch z⟩
 | scr _ =>
  obtain ⟨p,xs,rfl,h1,h2⟩:=r
  cases ru; cases ha
  obtain ⟨its,rv,⟨o,n,g1,g2,_,g3⟩,_⟩:=I.list (sm.seq h1)
  exact ⟨_,PySem.W.kitx_list,⟨o,g1,g2⟩,fun z=>nomatch z⟩
 | dic =>
  obtain ⟨p,rfl,h1⟩:=r
  cases ru; cases ha
  obtain ⟨_,_,vs,_,o,es,ep,h1,h2,_⟩:=(show gN X.prog X.w H s.heap p (.dK []) from I.hok p _ (sm _ _ h1))
  exact ⟨_,PySem.W.kitx_dict,⟨o,h1,h2.1⟩,fun z=>nomatch z⟩
 | obj _ _ _=>cases ha
 | ptr _=>cases ha
def bF:List T -> Option T
 | [t,.ty c]=>(G9 t).bind fun a=>(IM a c).bind fun b=>some (.bl b)
 | [t,.tup cs]=>(G9 t).bind fun a=>(Fm a cs).bind fun b=>some (.bl b)
 | _=>none
theorem i9:jN X (.builtin "isinstance") bF:=by
 intro pins s σ H xs us Q I rx ⟨F,ts,t,sm,r,e,q⟩
 unfold bF at e
 split at e
 ·obtain ⟨a,e1,e⟩:=bind_some e
  obtain ⟨b,e2,e⟩:=bind_some e
  cases e
  obtain ⟨v,rr,rfl,h1,v2,r2,rfl,h2,rfl⟩:=r
  cases h2
  obtain ⟨u1,u2,rfl,ra,rb⟩:=Vals.two rx
  cases rb
  obtain ⟨Hh,Z,hh,hn⟩:=uJ I sm h1 ra e1
  exact PySem.W.kia_one Z I.kIn hh (Bk e1 e2) hn fun tk=>⟨.bl b,H,I.tok tk,rfl,q F H _ (br.refl sm) rfl⟩
 ·obtain ⟨a,e1,e⟩:=bind_some e
  obtain ⟨b,e2,e⟩:=bind_some e
  cases e
  obtain ⟨v,rr,rfl,h1,v2,r2,rfl,⟨p,xs,rfl,h3,h4⟩,rfl⟩:=r
  obtain ⟨u1,u2,rfl,ra,rb⟩:=Vals.two rx
  cases rb
  obtain ⟨Hh,Z,hh,hn⟩:=uJ I sm h1 ra e1
  obtain ⟨its,rv,⟨o,g1,g2,n,g3⟩,_⟩:=I.tuple (cv sm h3)
  obtain ⟨oc,od,odt,osl⟩:=o
  dsimp only at g2 g3
  subst g2 g3
  exact PySem.W.kia_tup Z I.kIn hh g1 (xW e1 e2 h4 rv) hn fun tk=>⟨.bl b,H,I.tok tk,rfl,q F H _ (br.refl sm) rfl⟩
 ·cases e
end
open PySem PySem.Spec PyProof.Rows L2
section
variable {X:Cx} {pos:Pos}
def Jk:FE:=fun τ=>some (.dic,τ)
abbrev FO:=aP -> Option (Option Int × aP)
def tO (K:PySem.W.Frag) (F₀ H₀:Hp) (f:FO):TO:=fun σ H Q=>∃ F τ o τ',aJ K F₀ H₀ F H σ τ /\ f τ=some (o,τ') /\ ∀ F' H',aJ K F₀ H₀ F' H' σ τ' -> aS F F' -> Q o H'
def SO (X:Cx) (e:Option Expr) (f:FO):Prop:=∀ F₀ H₀,PO X e (tO X.K F₀ H₀ f)
def eP:FO:=fun τ=>some (none,τ)
def d0 (f:FE):FO:=fun τ=>(f τ).bind fun p=>match p.1 with | .int i=>some (some i,p.2) | _=>none
theorem PO.weak {e:Option Expr} {t t':TO} (h:PO X e t) (i:∀ σ H Q,t' σ H Q -> t σ H Q):PO X e t':=fun pins s σ H Q I q=>h pins s σ H Q I (i σ H Q q)
theorem nD:SO X none eP:=fun F₀ H₀=>PO.weak DJ fun σ H Q hq__=>by
 obtain ⟨F,τ,t,τ',E,e1,q⟩:=hq__
 cases e1
 exact q F H E (aS.refl _)
theorem jK {e:Expr} {f:FE} (h:SE X e f):SO X (some e) (d0 f):=fun F₀ H₀=>PO.weak (DK (h F₀ H₀)) fun σ H Q hq__=>by
 obtain ⟨F,τ,t,τ',E,e1,q⟩:=hq__
 obtain ⟨⟨x,τ1⟩,e2,e1⟩:=bind_some e1
 dsimp only at e1
 split at e1
 ·cases e1
  exact ⟨F,τ,_,_,E,e2,fun F' H' v E' s' r'=>by cases r'; exact ⟨_,rfl,q F' H' E' s'⟩⟩
 ·cases e1
def lK (xs:List T) (lo hi:Option Int):List T:=(xs.drop (HT.eW xs.length 0 lo)).take (HT.eW xs.length xs.length hi - HT.eW xs.length 0 lo)
def G3 (t:T) (lo hi:Option Int):Option T:=match t with
 | .lst xs=>some (.lst (lK xs lo hi))
 | .scr xs=>some (.lst (lK xs lo hi))
 | .tup xs=>if HT.eW xs.length 0 lo=0 /\ HT.eW xs.length xs.length hi=xs.length then none else some (.tup (lK xs lo hi))
 | _=>none
theorem ng {K:PySem.W.Frag} {F:Hp} {ts:List T} {vs:List V} (r:aV K F ts vs) (lo hi:Option Int):aV K F (lK ts lo hi) (nW vs lo hi):=by
 unfold lK nW
 rw [r.length]
 exact (r.drop _).take _
def Ai (f:FE) (fl fh:FO):FE:=fun τ=>(f τ).bind fun p=>(fl p.2).bind fun q=>(fh q.2).bind fun r=>(G3 p.1 q.1 r.1).bind fun t=>some (t,r.2)
theorem lj {e:Expr} {lo hi:Option Expr} {f:FE} {fl fh:FO} {p2:Pos} (he:SE X e f) (hl:SO X lo fl) (hh:SO X hi fh):SE X (.Subscript e (.Slice lo hi none p2) pos) (Ai f fl fh):=
 fun F₀ H₀=>PE.weak (uY (Eh.or yA GF) (he F₀ H₀) (hl F₀ H₀) (hh F₀ H₀)) fun σ H Q hq__=>by
  obtain ⟨F,τ,t,τ',E,e1,q⟩:=hq__
  obtain ⟨⟨x,τ1⟩,e2,e1⟩:=bind_some e1
  obtain ⟨⟨l,τ2⟩,e3,e1⟩:=bind_some e1
  obtain ⟨⟨h,τ3⟩,e4,e1⟩:=bind_some e1
  obtain ⟨y,e5,e1⟩:=bind_some e1
  cases e1
  refine ⟨F,τ,x,τ1,E,e2,fun F1 H1 v E1 s1 r1=>⟨F1,τ1,l,τ2,E1,e3,fun F2 H2 E2 s2=>⟨F2,τ2,h,_,E2,e4,fun F3 H3 E3 s3=>?_⟩⟩⟩
  have r3:=Rep.mono (s2.trans s3) r1
  have sm:=E3.g.fh
  dsimp only at e5
  unfold G3 at e5
  split at e5
  ·cases e5
   obtain ⟨p,xs,rfl,h1,h2⟩:=r3
   refine .inl ⟨p,xs,rfl,fF.of (sm _ _ h1),fun a ha=>?_⟩
   have gr:=br.new (.lst (nW xs l h)) sm ha
   exact q _ _ _ (E3.grow gr) (((s1.trans s2).trans s3).trans gr.sF) ⟨a,_,rfl,aX,aV.mono gr.sF (ng h2 l h)⟩
  ·cases e5
   obtain ⟨p,xs,rfl,h1,h2⟩:=r3
   refine .inl ⟨p,xs,rfl,sm.seq h1,fun a ha=>?_⟩
   have gr:=br.new (.lst (nW xs l h)) sm ha
   exact q _ _ _ (E3.grow gr) (((s1.trans s2).trans s3).trans gr.sF) ⟨a,_,rfl,aX,aV.mono gr.sF (ng h2 l h)⟩
  ·split at e5
   ·cases e5
   ·next hn =>
    cases e5
    obtain ⟨p,xs,rfl,h1,h2⟩:=r3
    refine .inr ⟨p,xs,rfl,cv sm h1,by rw [h2.length]; exact hn,fun a ha=>?_⟩
    have gr:=br.new (.tup (nW xs l h)) sm ha
    exact q _ _ _ (E3.grow gr) (((s1.trans s2).trans s3).trans gr.sF) ⟨a,_,rfl,jO.of aX,aV.mono gr.sF (ng h2 l h)⟩
  ·cases e5
theorem gq (i:Nat) {x:Str} {p1 p2 p3:Pos} {e:Expr} {f:FE} (hv:PE X (.Name x p1) (wR i)) (he:SE X e f)
  (hbase:attributeBase (.Name x p1) "append" X.env (eval (.Name x p1) X.env)=eval (.Name x p1) X.env:=by rfl)
  (hfew:((backTo p3 (starEach [e] X.env)).all (fun x=>!x.1) && (backToKw p3 (keywordEach [] X.env)).all (fun x=>x.1.isSome) && decide ([e].length + ([]:List Keyword).length + (if ([]:List Keyword).isEmpty then 0 else 1) < 30))=true:=by rfl)
  (hline:(p2.endLine == p3.line)=true:=by rfl) (hs:starEach [e] X.env=(false,eval e X.env) :: starEach [] X.env:=by rfl) (hpl:(backTo p3 (starEach [] X.env)).any (·.1)=false:=by rfl)
  (hsw:swapsWith (.Call (.Attribute (.Name x p1) "append" p2) [e] [] p3) none pos.line X.env=pure false:=by rfl) :
  SS X (.Expr (.Call (.Attribute (.Name x p1) "append" p2) [e] [] p3) pos) (iB i f):=fun F₀ H₀ =>
 PS.weak (DL (HZ PySem.F.plainAttrs_list PySem.F.slot_list_append PySem.F.type_list_append lV hv (k8 (he F₀ H₀) oQ hs) hbase hfew hline hs hpl) hsw) fun D σ H hq__=>by
  obtain ⟨F,τ,r,E,e1,q⟩:=hq__
  unfold iB at e1
  split at e1
  ·next ts0 h0 =>
   obtain ⟨⟨t,τ1⟩,e2,e1⟩:=bind_some e1
   dsimp only at e1
   split at e1
   ·next ts h1 =>
    split at e1
    ·next hz =>
     cases e1
     obtain ⟨v,g1,p,vs,rfl,g2,g3,g4,g5⟩:=E.sl i _ h0
     refine ⟨_,g1,.inl ⟨rfl,vs,fF.of g2⟩,F,τ,t,τ1,E,e2,fun F' H' w E' s' r'=>?_⟩
     obtain ⟨v',k1,p',vs',rfl,k2,k3,k4,k5⟩:=E'.sl i _ h1
     rw [g1] at k1; cases k1
     exact ⟨p,vs',w,rfl,rfl,k2,by rw [k5.length]; exact hz,q F' _ σ (E'.turnOwn h1 g1 (k5.append (.one r'))) s'⟩
    ·cases e1
   ·cases e1
  ·cases e1
def GI (a b c:Int):Prop:=(0 ≤ a /\ a < 2 ^ 62) /\ (0 ≤ b /\ b < 2 ^ 62) /\ (1 ≤ c /\ c < 2 ^ 29)
instance (a b c:Int):Decidable (GI a b c):=inferInstanceAs (Decidable ((_ /\ _) /\ (_ /\ _) /\ _ /\ _))
end
open PySem PySem.Spec PyProof.Rows L2
def eX (b:Bool) (h:Heap) (it a:Addr) (i:Nat):Prop:=match b with
 | true=>h.IsListIter it a i
 | false=>h.IsTupleIter it a i
def ix (b:Bool) (h:Heap) (a:Addr) (xs:Array Value):Prop:=match b with
 | true=>h.IsList a xs
 | false=>h.IsTuple a xs
theorem eX.ext {b:Bool} {h h':Heap} {it a:Addr} {i:Nat} (x:eX b h it a i) (k:∀ o,h.get? it=some o -> h'.get? it=some o):eX b h' it a i:=by
 cases b with
 | true=>obtain ⟨o,e,r⟩:=x; exact ⟨o,k o e,r⟩
 | false=>obtain ⟨o,e,r⟩:=x; exact ⟨o,k o e,r⟩
theorem ix.ext {b:Bool} {h h':Heap} {a:Addr} {xs:Array Value} (x:ix b h a xs) (k:∀ o,h.get? a=some o -> h'.get? a=some o):ix b h' a xs:=by
 cases b with
 | true=>obtain ⟨o,e,r⟩:=x; exact ⟨o,k o e,r⟩
 | false=>obtain ⟨o,e,r⟩:=x; exact ⟨o,k o e,r⟩
theorem eX.obj {b:Bool} {h:Heap} {it a:Addr} {i:Nat} (x:eX b h it a i):∃ o,h.get? it=some o /\ ∀ v,o.data ≠ .cell v:=by
 cases b with
 | true=>obtain ⟨o,e,_,d⟩:=x; exact ⟨o,e,fun v z=>by rw [d] at z; cases z⟩
 | false=>obtain ⟨o,e,_,d⟩:=x; exact ⟨o,e,fun v z=>by rw [d] at z; cases z⟩
section
variable {prog:Program} {w:World} {A:Around} {E:Value -> Shared -> Prop} {s:Shared}
theorem jf {b:Bool} {it a:Addr} {i:Nat} {xs:Array Value} {x:Value} {Q:Value -> Shared -> Prop} (h1:eX b s.heap it a i) (h2:ix b s.heap a xs) (hx:xs[i]? = some x)
  (hQ:∀ h',eX b h' it a (i + 1) -> Heap.SameBut it s.heap h' -> Q x { s with heap:=h' }):wpAny (model prog w) A (Builtin.SmallTypes.nextOf (.ref it)) Q E s:=by
 cases b with
 | true=>exact wpAny_nextOf_list_item h1 h2 hx hQ
 | false =>
  have h1':s.heap.IsTupleIter it a i:=h1
  obtain ⟨o,ho,hc,hd⟩:=id h1'
  obtain ⟨ol,hol,_,nl,hdl⟩:=(show s.heap.IsTuple a xs from h2)
  unfold Builtin.SmallTypes.nextOf
  refine wpAny_bind (wpAny_callSpecial?_slot (name:=Str.ofString "__next__") h1'.typeIs F.slot_tuple_iterator_next (wpAny_call_entry F.slot_tuple_iterator_next h1'.typeIs F.entry_tuple_iterator_next (?_:wpAny _ _ (field (.ref it) 0 >>= _) _ _ s) (F.args_tuple_iterator_next_1 _)))
  refine wpAny_bind (wpAny_field ho hd (x:=.ref a) rfl (?_:wpAny _ _ (if (Value.ref a == Value.none)=true then _ else _) _ _ s))
  rw [if_neg (show ¬ ((Value.ref a == Value.none)=true) from Bool.false_ne_true)]
  refine (wpAny_bind (wpAny_field ho hd (x:=.int i 0) rfl ?_):wpAny _ _ (field (.ref it) 1 >>= _) _ _ s)
  refine wpAny_bind (wpAny_seqItems (a:=a) hol hdl ?_)
  simp only [Int.toNat_natCast,hx]
  refine wpAny_bind (wpAny_setField ho hd (by simp) (wpAny_pure ⟨x,rfl,wpAny_pure (hQ _ ⟨_,Heap.get?_update_self _ ho (Obj.isFreed_of_fields (Obj.data_mapFields hd _)),(Obj.cls_mapFields ..).trans hc,?_⟩ (Heap.SameBut.update ..))⟩))
  rw [Obj.data_mapFields hd] <;> simp [rawInt]
theorem oE {b:Bool} {it a:Addr} {i:Nat} {xs:Array Value} {Q:Value -> Shared -> Prop} (hh:A.handled=none) (h1:eX b s.heap it a i) (h2:ix b s.heap a xs) (hx:xs[i]? = none)
  (hE:∀ h' e,Heap.ExtBut it s.heap h' -> (∃ o,h'.get? e=some o /\ o.cls=.type "StopIteration") -> E (.ref e) { s with heap:=h' }):wpAny (model prog w) A (Builtin.SmallTypes.nextOf (.ref it)) Q E s:=by
 cases b with
 | true=>exact wpAny_nextOf_list_end hh h1 h2 hx hE
 | false =>
  have h1':s.heap.IsTupleIter it a i:=h1
  obtain ⟨o,ho,hc,hd⟩:=id h1'
  obtain ⟨ol,hol,_,nl,hdl⟩:=(show s.heap.IsTuple a xs from h2)
  unfold Builtin.SmallTypes.nextOf
  refine wpAny_bind (wpAny_callSpecial?_slot (name:=Str.ofString "__next__") h1'.typeIs F.slot_tuple_iterator_next (wpAny_call_entry F.slot_tuple_iterator_next h1'.typeIs F.entry_tuple_iterator_next (?_:wpAny _ _ (field (.ref it) 0 >>= _) _ _ s) (F.args_tuple_iterator_next_1 _)))
  refine wpAny_bind (wpAny_field ho hd (x:=.ref a) rfl (?_:wpAny _ _ (if (Value.ref a == Value.none)=true then _ else _) _ _ s))
  rw [if_neg (show ¬ ((Value.ref a == Value.none)=true) from Bool.false_ne_true)]
  refine (wpAny_bind (wpAny_field ho hd (x:=.int i 0) rfl ?_):wpAny _ _ (field (.ref it) 1 >>= _) _ _ s)
  refine wpAny_bind (wpAny_seqItems (a:=a) hol hdl ?_)
  simp only [Int.toNat_natCast,hx]
  refine wpAny_bind (wpAny_rule (wpAny_bind (wpAny_setField ho hd (by simp) (wpAny_bind (m:=newExc (.type "StopIteration") []) ?_))))
  simp only [newExc,newTuple]
  refine wpAny_bind (wpAny_newObj_type (wpAny_bind (m:=firstArgMember _ _) (wpAny_of_eq (a:=Value.none) (by first | rfl | (simp only [firstArgMember]; rfl)) (wpAny_newObj_type ?_ (by size_fits)))) (by size_fits))
  simp only [raiseNew]
  refine wpAny_bind (wpAny_handled ?_)
  first | rw [show A.in1.handled=none from hh] | rw [hh]
  exact wpAny_bind (wpAny_pure (wpAny_throw (hE _ _ (((Heap.SameBut.update ..).extBut.push _).push _) ⟨_,Heap.get?_push_size _ rfl,rfl⟩)))
variable {z TI TO i1 i2 l1 l2:Addr} {k:Nat} {xs ys:Array Value} {x y a b:Value} {c1 c2:Bool}
theorem Cj {Q:Value -> Shared -> Prop} (D:ZipApart z TI TO i1 i2 l1 l2) (hz:IsZip s.heap z TI TO .none) (hI:IsPair s.heap TI (.ref i1) (.ref i2)) (hO:IsPair s.heap TO a b)
  (h1:eX c1 s.heap i1 l1 k) (h2:eX c2 s.heap i2 l2 k) (g1:ix c1 s.heap l1 xs) (g2:ix c2 s.heap l2 ys) (hx:xs[k]? = some x) (hy:ys[k]? = some y)
  (hQ:∀ h',IsZip h' z TI TO (rawInt s.heap.objs.size) -> IsPair h' TO x y -> eX c1 h' i1 l1 (k + 1) -> eX c2 h' i2 l2 (k + 1) -> IsPair h' s.heap.objs.size x y ->
   (∀ c o,c ≠ z -> c ≠ TO -> c ≠ i1 -> c ≠ i2 -> s.heap.get? c=some o -> h'.get? c=some o) -> Q (.ref s.heap.objs.size) { s with heap:=h' }) :
  wpAny (model prog w) A (Builtin.«zip.__next__» ⟨[.ref z],[]⟩) (fun fin s'=>∃ v,fin=.done (.ret v) /\ Q v s') E s:=by
 refine (wpAny_bind (wpAny_field hz rfl (x:=.bool false) rfl ?_):wpAny _ _ (field (.ref z) 2 >>= _) _ _ _)
 refine (wpAny_bind (wpAny_field hz rfl (x:=.ref TI) rfl ?_):wpAny _ _ (field (.ref z) 3 >>= _) _ _ _)
 refine wpAny_bind (wpAny_seqItems hI rfl ?_)
 refine (wpAny_bind ?_:wpAny _ _ (Builtin.SmallTypes.ownedTupleIsFree (.ref z) >>= _) _ _ _)
 unfold Builtin.SmallTypes.ownedTupleIsFree
 refine wpAny_bind (wpAny_field hz rfl (x:=.none) rfl (wpAny_pure ?_))
 simp only [if_true]
 refine wpAny_bind (wpAny_rule (wpAny_bind (wpAny_field hz rfl (x:=.ref TO) rfl (wpAny_bind (wpAny_setField_rec hz (by simp) fun ha za sa=>?_)))))
 replace za:IsZip ha z TI TO .ellipsis:=za
 refine wpAny_bind ?_
 simp only [List.zipIdx_cons,List.zipIdx_nil,List.forIn_cons,List.forIn_nil]
 refine wpAny_bind (wpAny_bind (wpAny_onRaise (?_:wpAny _ _ (Builtin.SmallTypes.nextOf (.ref i1) >>= _) _ _ _)))
 refine wpAny_bind (jf (h1.ext fun o e=>sa.extBut _ _ D.i1z e) (g1.ext fun o e=>sa.extBut _ _ D.l1z e) hx fun hb kb sb=>wpAny_pure ?_)
 have Ob:IsPair hb TO a b:=sb.extBut _ _ D.TOi1 (sa.extBut _ _ D.TOz hO)
 refine wpAny_bind (wpAny_seqItems Ob rfl (wpAny_bind (wpAny_updateSeq_pair Ob fun hc Oc sc=>wpAny_bind (wpAny_letGo (wpAny_pure ?_)))))
 replace Oc:IsPair hc TO x b:=Oc
 refine wpAny_bind (wpAny_bind (wpAny_onRaise (?_:wpAny _ _ (Builtin.SmallTypes.nextOf (.ref i2) >>= _) _ _ _)))
 refine wpAny_bind (jf (h2.ext fun o e=>sc.extBut _ _ D.TOi2.symm (sb.extBut _ _ D.i12.symm (sa.extBut _ _ D.i2z e))) (g2.ext fun o e=>sc.extBut _ _ D.l2TO (sb.extBut _ _ D.l2i1 (sa.extBut _ _ D.l2z e))) hy fun hd kd sd=>wpAny_pure ?_)
 have Od:IsPair hd TO x b:=sd.extBut _ _ D.TOi2 Oc
 refine wpAny_bind (wpAny_seqItems Od rfl (wpAny_bind (wpAny_updateSeq_pair Od fun he Oe se=>wpAny_bind (wpAny_letGo (wpAny_pure (wpAny_pure ?_))))))
 replace Oe:IsPair he TO x y:=Oe
 refine wpAny_bind (wpAny_seqItems Oe rfl (wpAny_bind (wpAny_newTuple ?_)))
 have ez:he.objs.size=s.heap.objs.size:=by rw [se.1,sd.1,sc.1,sb.1,sa.1]
 have ze:IsZip he z TI TO .ellipsis:=se.extBut _ _ D.TOz.symm (sd.extBut _ _ D.i2z.symm (sc.extBut _ _ D.TOz.symm (sb.extBut _ _ D.i1z.symm za)))
 have ke:∀ c o,c ≠ z -> c ≠ TO -> c ≠ i1 -> c ≠ i2 -> s.heap.get? c=some o -> he.get? c=some o:=fun c o n1 n2 n3 n4 e=>se.extBut _ _ n2 (sd.extBut _ _ n4 (sc.extBut _ _ n2 (sb.extBut _ _ n3 (sa.extBut _ _ n1 e))))
 have i1e:eX c1 he i1 l1 (k + 1):=kb.ext fun o e=>se.extBut _ _ D.TOi1.symm (sd.extBut _ _ D.i12 (sc.extBut _ _ D.TOi1.symm e))
 have i2e:eX c2 he i2 l2 (k + 1):=kd.ext fun o e=>se.extBut _ _ D.TOi2.symm e
 have zlt:z < he.objs.size:=Heap.lt_size ze
 refine (wpAny_bind ?_:wpAny _ _ (Builtin.SmallTypes.ownedTupleHandOut (.ref z) (.ref he.objs.size) >>= _) _ _ _)
 unfold Builtin.SmallTypes.ownedTupleHandOut
 have zf:IsZip (he.push { cls:=.type "tuple", data:=.seq #[x,y] }) z TI TO .ellipsis:=Heap.get?_push_of_some _ ze
 refine wpAny_bind (wpAny_setField_rec zf (by simp) fun hg zg sg=>?_)
 replace zg:IsZip hg z TI TO (rawInt he.objs.size):=zg
 refine wpAny_setField_rec zg (by simp) fun hh zh sh=>?_
 replace zh:IsZip hh z TI TO (rawInt he.objs.size):=zh
 have up:∀ c o,c ≠ z -> he.get? c=some o -> hh.get? c=some o:=fun c o n e=>sh.extBut _ _ n (sg.extBut _ _ n (Heap.get?_push_of_some _ e))
 have tp:IsPair hh he.objs.size x y:=sh.extBut _ _ (Nat.ne_of_gt zlt) (sg.extBut _ _ (Nat.ne_of_gt zlt) (Heap.get?_push_size _ rfl))
 rw [ez] at zh tp
 refine wpAny_pure ⟨_,rfl,(?_:Q (.ref he.objs.size) _)⟩
 rw [ez]
 exact hQ hh zh (up _ _ D.TOz Oe) (i1e.ext fun o e=>up _ o D.i1z e) (i2e.ext fun o e=>up _ o D.i2z e) tp fun c o n1 n2 n3 n4 e=>up c o n1 (ke c o n1 n2 n3 n4 e)
theorem D8 {Q:Fin -> Shared -> Prop} (hh:A.handled=none) (D:ZipApart z TI TO i1 i2 l1 l2) (hz:IsZip s.heap z TI TO .none) (hI:IsPair s.heap TI (.ref i1) (.ref i2)) (hO:IsPair s.heap TO a b)
  (h1:eX c1 s.heap i1 l1 k) (h2:eX c2 s.heap i2 l2 k) (g1:ix c1 s.heap l1 xs) (g2:ix c2 s.heap l2 ys) (hend:xs[k]? = none \/ ys[k]? = none)
  (hE:∀ h' e,(∀ c o,c ≠ z -> c ≠ TO -> c ≠ i1 -> c ≠ i2 -> s.heap.get? c=some o -> h'.get? c=some o) -> (∃ o,h'.get? e=some o /\ o.cls=.type "StopIteration") -> E (.ref e) { s with heap:=h' }) :
  wpAny (model prog w) A (Builtin.«zip.__next__» ⟨[.ref z],[]⟩) Q E s:=by
 refine (wpAny_bind (wpAny_field hz rfl (x:=.bool false) rfl ?_):wpAny _ _ (field (.ref z) 2 >>= _) _ _ _)
 refine (wpAny_bind (wpAny_field hz rfl (x:=.ref TI) rfl ?_):wpAny _ _ (field (.ref z) 3 >>= _) _ _ _)
 refine wpAny_bind (wpAny_seqItems hI rfl ?_)
 refine (wpAny_bind ?_:wpAny _ _ (Builtin.SmallTypes.ownedTupleIsFree (.ref z) >>= _) _ _ _)
 unfold Builtin.SmallTypes.ownedTupleIsFree
 refine wpAny_bind (wpAny_field hz rfl (x:=.none) rfl (wpAny_pure ?_))
 simp only [if_true]
 refine wpAny_bind (wpAny_rule (wpAny_bind (wpAny_field hz rfl (x:=.ref TO) rfl (wpAny_bind (wpAny_setField_rec hz (by simp) fun ha za sa=>?_)))))
 replace za:IsZip ha z TI TO .ellipsis:=za
 refine wpAny_bind ?_
 simp only [List.zipIdx_cons,List.zipIdx_nil,List.forIn_cons,List.forIn_nil]
 refine wpAny_bind (wpAny_bind (wpAny_onRaise (?_:wpAny _ _ (Builtin.SmallTypes.nextOf (.ref i1) >>= _) _ _ _)))
 cases hx:xs[k]? with
 | none =>
  refine wpAny_bind (oE hh (h1.ext fun o e=>sa.extBut _ _ D.i1z e) (g1.ext fun o e=>sa.extBut _ _ D.l1z e) hx fun hb e sb eo=>?_)
  obtain ⟨oe,ho,hc⟩:=eo
  have zb:IsZip hb z TI TO .ellipsis:=sb _ _ D.i1z.symm za
  have ne:e ≠ z:=fun q=>by subst q; rw [zb] at ho; cases ho; simp at hc
  exact wpAny_setField_rec zb (by simp) fun hd _ sd=>hE hd e (fun c o n1 _ n3 _ q=>sd.extBut _ _ n1 (sb _ _ n3 (sa.extBut _ _ n1 q))) ⟨oe,sd.extBut _ _ ne ho,hc⟩
 | some x =>
  have hy:ys[k]? = none:=by rcases hend with h | h; rw [hx] at h; cases h; exact h
  refine wpAny_bind (jf (h1.ext fun o e=>sa.extBut _ _ D.i1z e) (g1.ext fun o e=>sa.extBut _ _ D.l1z e) hx fun hb kb sb=>wpAny_pure ?_)
  have Ob:IsPair hb TO a b:=sb.extBut _ _ D.TOi1 (sa.extBut _ _ D.TOz hO)
  refine wpAny_bind (wpAny_seqItems Ob rfl (wpAny_bind (wpAny_updateSeq_pair Ob fun hc Oc sc=>wpAny_bind (wpAny_letGo (wpAny_pure ?_)))))
  refine wpAny_bind (wpAny_bind (wpAny_onRaise (?_:wpAny _ _ (Builtin.SmallTypes.nextOf (.ref i2) >>= _) _ _ _)))
  refine wpAny_bind (oE hh (h2.ext fun o e=>sc.extBut _ _ D.TOi2.symm (sb.extBut _ _ D.i12.symm (sa.extBut _ _ D.i2z e))) (g2.ext fun o e=>sc.extBut _ _ D.l2TO (sb.extBut _ _ D.l2i1 (sa.extBut _ _ D.l2z e))) hy fun hd e sd eo=>?_)
  obtain ⟨oe,ho,hk⟩:=eo
  have zd:IsZip hd z TI TO .ellipsis:=sd _ _ D.i2z.symm (sc.extBut _ _ D.TOz.symm (sb.extBut _ _ D.i1z.symm za))
  have ne:e ≠ z:=fun q=>by subst q; rw [zd] at ho; cases ho; simp at hk
  exact wpAny_setField_rec zd (by simp) fun hf _ sf=>hE hf e (fun c o n1 n2 n3 n4 q=>sf.extBut _ _ n1 (sd _ _ n4 (sc.extBut _ _ n2 (sb.extBut _ _ n3 (sa.extBut _ _ n1 q))))) ⟨oe,sf.extBut _ _ ne ho,hk⟩
theorem tZ {Q:Option Value -> Shared -> Prop} (D:ZipApart z TI TO i1 i2 l1 l2) (hz:IsZip s.heap z TI TO .none) (hI:IsPair s.heap TI (.ref i1) (.ref i2)) (hO:IsPair s.heap TO a b)
  (h1:eX c1 s.heap i1 l1 k) (h2:eX c2 s.heap i2 l2 k) (g1:ix c1 s.heap l1 xs) (g2:ix c2 s.heap l2 ys) (hx:xs[k]? = some x) (hy:ys[k]? = some y)
  (hQ:∀ h',IsZip h' z TI TO (rawInt s.heap.objs.size) -> IsPair h' TO x y -> eX c1 h' i1 l1 (k + 1) -> eX c2 h' i2 l2 (k + 1) -> IsPair h' s.heap.objs.size x y ->
   (∀ c o,c ≠ z -> c ≠ TO -> c ≠ i1 -> c ≠ i2 -> s.heap.get? c=some o -> h'.get? c=some o) -> Q (some (.ref s.heap.objs.size)) { s with heap:=h' }):wpAny (model prog w) A (pyNext (.ref z)) Q E s:=by
 have hT:s.TypeIs (.ref z) "zip" := ⟨_,hz,rfl⟩
 unfold pyNext
 exact wpAny_bind (wpAny_attempt (wpAny_callSpecial?_slot (name:=Str.ofString "__next__") hT F.slot_zip_next (wpAny_call_entry F.slot_zip_next hT F.entry_zip_next
  (Cj D hz hI hO h1 h2 g1 g2 hx hy fun h' a1 a2 a3 a4 a5 a6=>wpAny_pure (hQ h' a1 a2 a3 a4 a5 a6)) (F.args_zip_next_1 _))))
theorem vt {Q:Option Value -> Shared -> Prop} (hh:A.handled=none) (D:ZipApart z TI TO i1 i2 l1 l2) (hz:IsZip s.heap z TI TO .none) (hI:IsPair s.heap TI (.ref i1) (.ref i2)) (hO:IsPair s.heap TO a b)
  (h1:eX c1 s.heap i1 l1 k) (h2:eX c2 s.heap i2 l2 k) (g1:ix c1 s.heap l1 xs) (g2:ix c2 s.heap l2 ys) (hend:xs[k]? = none \/ ys[k]? = none)
  (hQ:∀ h',(∀ c o,c ≠ z -> c ≠ TO -> c ≠ i1 -> c ≠ i2 -> s.heap.get? c=some o -> h'.get? c=some o) -> Q none { s with heap:=h' }):wpAny (model prog w) A (pyNext (.ref z)) Q E s:=by
 have hT:s.TypeIs (.ref z) "zip" := ⟨_,hz,rfl⟩
 unfold pyNext
 refine wpAny_bind (wpAny_attempt (wpAny_callSpecial?_slot (name:=Str.ofString "__next__") hT F.slot_zip_next (wpAny_call_entry F.slot_zip_next hT F.entry_zip_next
  (D8 hh D hz hI hO h1 h2 g1 g2 hend fun h' e hk eo=>?_) (F.args_zip_next_1 _))))
 obtain ⟨o,ho,hc⟩:=eo
 exact wpAny_bind (wpAny_isInstance (T := "StopIteration") (b:=true) ⟨o,ho,hc⟩ isSubtype_stop (wpAny_pure (hQ _ hk)))
end
open PySem PySem.Spec PyProof.Rows L2
def we (b:Bool) (l:Addr):Obj:=match b with
 | true=>{ cls:=.type "list_iterator", data:=.fields #[.ref l,.int 0 0] }
 | false=>{ cls:=.type "tuple_iterator", data:=.fields #[.ref l,.int 0 0] }
theorem xS {b:Bool} {l it:Addr} {h:Heap} (e:h.get? it=some (we b l)):eX b h it l 0:=by
 cases b with
 | true=>exact ⟨_,e,rfl,rfl⟩
 | false=>exact ⟨_,e,rfl,rfl⟩
abbrev IT (h:Heap) (c1:Bool) (l1:Addr):Heap:=h.push (we c1 l1)
abbrev IU (h:Heap) (c1 c2:Bool) (l1 l2:Addr):Heap:=(IT h c1 l1).push (we c2 l2)
abbrev IV (h:Heap) (c1 c2:Bool) (l1 l2:Addr):Heap:=(IU h c1 c2 l1 l2).push { cls:=.type "tuple", data:=.seq #[.ref h.objs.size,.ref (IT h c1 l1).objs.size] }
abbrev IW (h:Heap) (c1 c2:Bool) (l1 l2:Addr):Heap:=(IV h c1 c2 l1 l2).push { cls:=.type "tuple", data:=.seq #[.none,.none] }
abbrev Ha (h:Heap) (c1 c2:Bool) (l1 l2:Addr):Heap:=(IW h c1 c2 l1 l2).push { cls:=.type "zip", data:=.fields #[.none,.bool false,.bool false,.ref (IU h c1 c2 l1 l2).objs.size,.ref (IV h c1 c2 l1 l2).objs.size] }
abbrev Ao (c1 c2:Bool) (l1 l2:Addr) (xs ys:Array Value):Prop:=Meets (Builtin.«zip.__new__» ⟨[.type "zip", .ref l1,.ref l2],[]⟩) (fun _ R s=>ix c1 s.heap l1 xs /\ ix c2 s.heap l2 ys /\
   R (.ok (.ret (.ref (IW s.heap c1 c2 l1 l2).objs.size))) { s with heap:=Ha s.heap c1 c2 l1 l2 })
theorem xb (l1 l2:Addr) (xs ys:Array Value):Ao true true l1 l2 xs ys:=.of_wp fun prog w A R s h=>by
 obtain ⟨hp,g,d,tk,os⟩:=s
 obtain ⟨q1,q2,h⟩:=h
 have hsub:=sub_zip
 have p1:Heap.IsList (Shared.heap ⟨hp,g,d,tk,os⟩) l1 xs:=q1
 have p2:Heap.IsList (Shared.heap ⟨hp.push { cls:=.type "list_iterator", data:=.fields #[.ref l1,.int 0 0] },g,d,tk,os⟩) l2 ys:=Heap.IsList.push q2 _
 wp_walk using wpAny_pyIter_list p1,wpAny_pyIter_list p2
 exact ⟨_,rfl,h⟩
theorem xa (l1 l2:Addr) (xs ys:Array Value):Ao true false l1 l2 xs ys:=.of_wp fun prog w A R s h=>by
 obtain ⟨hp,g,d,tk,os⟩:=s
 obtain ⟨q1,q2,h⟩:=h
 have hsub:=sub_zip
 have p1:Heap.IsList (Shared.heap ⟨hp,g,d,tk,os⟩) l1 xs:=q1
 have p2:Heap.IsTuple (Shared.heap ⟨hp.push { cls:=.type "list_iterator", data:=.fields #[.ref l1,.int 0 0] },g,d,tk,os⟩) l2 ys:=Heap.IsTuple.push q2 _
 wp_walk using wpAny_pyIter_list p1,wpAny_pyIter_tuple p2
 exact ⟨_,rfl,h⟩
theorem w9 (l1 l2:Addr) (xs ys:Array Value):Ao false true l1 l2 xs ys:=.of_wp fun prog w A R s h=>by
 obtain ⟨hp,g,d,tk,os⟩:=s
 obtain ⟨q1,q2,h⟩:=h
 have hsub:=sub_zip
 have p1:Heap.IsTuple (Shared.heap ⟨hp,g,d,tk,os⟩) l1 xs:=q1
 have p2:Heap.IsList (Shared.heap ⟨hp.push { cls:=.type "tuple_iterator", data:=.fields #[.ref l1,.int 0 0] },g,d,tk,os⟩) l2 ys:=Heap.IsList.push q2 _
 wp_walk using wpAny_pyIter_tuple p1,wpAny_pyIter_list p2
 exact ⟨_,rfl,h⟩
theorem w8 (l1 l2:Addr) (xs ys:Array Value):Ao false false l1 l2 xs ys:=.of_wp fun prog w A R s h=>by
 obtain ⟨hp,g,d,tk,os⟩:=s
 obtain ⟨q1,q2,h⟩:=h
 have hsub:=sub_zip
 have p1:Heap.IsTuple (Shared.heap ⟨hp,g,d,tk,os⟩) l1 xs:=q1
 have p2:Heap.IsTuple (Shared.heap ⟨hp.push { cls:=.type "tuple_iterator", data:=.fields #[.ref l1,.int 0 0] },g,d,tk,os⟩) l2 ys:=Heap.IsTuple.push q2 _
 wp_walk using wpAny_pyIter_tuple p1,wpAny_pyIter_tuple p2
 exact ⟨_,rfl,h⟩
theorem qa (c1 c2:Bool) (l1 l2:Addr) (xs ys:Array Value):Ao c1 c2 l1 l2 xs ys:=by
 cases c1 <;> cases c2
 ·exact w8 l1 l2 xs ys
 ·exact w9 l1 l2 xs ys
 ·exact xa l1 l2 xs ys
 ·exact xb l1 l2 xs ys
section
variable {prog:Program} {w:World} {A:Around} {E:Value -> Shared -> Prop} {s:Shared}
theorem Az {c1 c2:Bool} {l1 l2:Addr} {xs ys:Array Value} {Q:Value -> Shared -> Prop} (q1:ix c1 s.heap l1 xs) (q2:ix c2 s.heap l2 ys)
  (h:∀ h',IsZip h' (s.heap.objs.size + 4) (s.heap.objs.size + 2) (s.heap.objs.size + 3) .none -> IsPair h' (s.heap.objs.size + 2) (.ref s.heap.objs.size) (.ref (s.heap.objs.size + 1)) ->
   IsPair h' (s.heap.objs.size + 3) .none .none -> eX c1 h' s.heap.objs.size l1 0 -> eX c2 h' (s.heap.objs.size + 1) l2 0 -> (∀ c o,s.heap.get? c=some o -> h'.get? c=some o) -> Q (.ref (s.heap.objs.size + 4)) { s with heap:=h' }) :
  wpAny (model prog w) A (call (.type "zip") [.ref l1,.ref l2]) Q E s:=by
 refine callType_new F.called_zip (by decide) (F.typeCall_zip_2 _ _) (F.newCall_zip_2 _ _) (fun obj=>F.args_object_init_3 obj _ _) F.entry_zip_new (qa c1 c2 l1 l2 xs ys) ⟨q1,q2,?_⟩
 have z1:(IT s.heap c1 l1).objs.size=s.heap.objs.size + 1:=Heap.size_push ..
 have z2:(IU s.heap c1 c2 l1 l2).objs.size=s.heap.objs.size + 2:=by rw [Heap.size_push,z1]
 have z3:(IV s.heap c1 c2 l1 l2).objs.size=s.heap.objs.size + 3:=by rw [Heap.size_push,z2]
 have z4:(IW s.heap c1 c2 l1 l2).objs.size=s.heap.objs.size + 4:=by rw [Heap.size_push,z3]
 have p:∀ {h:Heap} {o:Obj} {c:Addr} {u:Obj},h.get? c=some u -> (h.push o).get? c=some u:=fun e=>Heap.get?_push_of_some _ e
 have n1:(we c1 l1).isFreed=false:=by cases c1 <;> rfl
 have n2:(we c2 l2).isFreed=false:=by cases c2 <;> rfl
 have g5:(Ha s.heap c1 c2 l1 l2).get? (IW s.heap c1 c2 l1 l2).objs.size=some _:=Heap.get?_push_size _ rfl
 have g4:(Ha s.heap c1 c2 l1 l2).get? (IV s.heap c1 c2 l1 l2).objs.size=some _:=p (Heap.get?_push_size _ rfl)
 have g3:(Ha s.heap c1 c2 l1 l2).get? (IU s.heap c1 c2 l1 l2).objs.size=some _:=p (p (Heap.get?_push_size _ rfl))
 have g2:(Ha s.heap c1 c2 l1 l2).get? (IT s.heap c1 l1).objs.size=some (we c2 l2):=p (p (p (Heap.get?_push_size _ n2)))
 have g1:(Ha s.heap c1 c2 l1 l2).get? s.heap.objs.size=some (we c1 l1):=p (p (p (p (Heap.get?_push_size _ n1))))
 show _ /\ _
 rw [z2,z3,z4] at g5
 rw [z1,z2] at g3
 rw [z3] at g4
 rw [z1] at g2
 rw [z4]
 exact ⟨⟨_,g5,rfl⟩,h _ g5 g3 g4 (xS g1) (xS g2) fun c o x=>p (p (p (p (p x))))⟩
end
def t8 (b:Bool) (K:PySem.W.Frag) (H:Hp) (a:Addr) (xs:List V):Prop:=match b with
 | true=>fF K H a xs
 | false=>jO K H a xs
def Je (K:PySem.W.Frag) (c1 c2:Bool) (l1 l2:Addr):It:=
  ⟨fun i H=>∃ xs ys x y,t8 c1 K H l1 xs /\ t8 c2 K H l2 ys /\ xs[i]? = some x /\ ys[i]? = some y,
   fun i H v H'=>∃ p x y,v=.ref p /\ H p=none /\ H'=upd H p (.tup [x,y]) /\ (∀ xs,t8 c1 K H l1 xs -> xs[i]? = some x) /\ ∀ ys,t8 c2 K H l2 ys -> ys[i]? = some y,
   fun i H=>∃ xs ys,t8 c1 K H l1 xs /\ t8 c2 K H l2 ys /\ (xs.length ≤ i \/ ys.length ≤ i)⟩
section
variable {X:Cx} {pins:List (Addr × Obj)} {σ:L2.St} {H:Hp} {s:Shared}
theorem gK {b:Bool} {a:Addr} {xs:List V} (I:Inv X pins σ H s) (h:t8 b X.K H a xs):∃ its:List Value,Vals xs its /\ ix b s.heap a its.toArray:=by
 cases b with
 | true=>obtain ⟨its,r,p,_⟩:=I.list h; exact ⟨its,r,p.isList⟩
 | false=>obtain ⟨its,r,p,_⟩:=I.tuple h; exact ⟨its,r,p⟩
theorem yG {b:Bool} {a:Addr} {xs ys:List V} (I:Inv X pins σ H s) (h:t8 b X.K H a xs) (h':t8 b X.K H a ys):xs=ys:=by
 cases b with
 | true=>exact I.list_inj h h'
 | false=>exact I.tuple_inj h h'
end
structure Ke (c1 c2:Bool) (z TI TO i1 i2 l1 l2:Addr) (i:Nat) (h:Heap):Prop where
 hz:IsZip h z TI TO .none
 hI:IsPair h TI (.ref i1) (.ref i2)
 hO:∃ a b,IsPair h TO a b
 h1:eX c1 h i1 l1 i
 h2:eX c2 h i2 l2 i
theorem iS {X:Cx} {pins:List (Addr × Obj)} {σ:L2.St} {H:Hp} {s:Shared} {h':Heap} {fp:List Addr} (I:Inv X pins σ H s) (hf:∀ b ∈ fp,pJ X pins H b) (k:∀ b o,b ∉ fp -> s.heap.get? b=some o -> h'.get? b=some o):Inv X pins σ H { s with heap:=h' }:=by
 have nit:∀ b u,H b=some u -> b ∉ fp:=fun b u e z=>by rw [(hf b z).1] at e; cases e
 refine I.step (g':=s.gens) (d':=s.drawn) (t':=s.toks) (ch:=fp) (fun b hb=>?_) (fun b o _ _ hc e _=>k b o hc e) (fun b o _ _ hc e _=>⟨o.slots,k b o hc e⟩) (fun _ _ _ _ n=>n)
  (fun b o hc e=>⟨o,k b o hc e⟩) (fun _ _ e=>e) (fun _ _ _ e=>e) (fun b ps e=>⟨#[],by rw [e]; simp⟩) (fun m hm=>?_) (fun b u e=>?_) I.bare
 ·obtain ⟨_,f1,_,f3,f4,f5⟩:=hf b hb
  exact ⟨f3,f1,f4,f5⟩
 ·obtain ⟨o,es,ep,ho,r⟩:=hm
  exact ⟨o,es,ep,k _ o (fun z=>(hf _ z).2.1 rfl) ho,r⟩
 ·refine (I.hok b u e).stay (fun c v hc q=>k c v ?_ q) (fun _ q=>q) fun _ _ q=>q
  rcases hc with z | z
  ·rw [z]; exact nit b u e
  ·exact nit c _ z
theorem Ce {P:Program} {w:World} {K:PySem.W.Frag} {elts:List Expr} {kx:Nat} {px:Pos} {c1 c2:Bool} {z TI TO i1 i2 l1 l2:Addr} (D:ZipApart z TI TO i1 i2 l1 l2) :
  Turn P w K (.Tuple elts kx px) (Je K c1 c2 l1 l2) [z,TI,TO,i1,i2] z (Ke c1 c2 z TI TO i1 i2 l1 l2) where
 mem:=by simp
 obj:=fun i h st b hb=>by
  simp only [List.mem_cons,List.not_mem_nil,or_false] at hb
  rcases hb with rfl | rfl | rfl | rfl | rfl
  ·exact ⟨_,st.hz,fun v q=>nomatch (show Data.fields _=Data.cell v from q)⟩
  ·exact ⟨_,st.hI,fun v q=>nomatch (show Data.seq _ _=Data.cell v from q)⟩
  ·obtain ⟨a,b,e⟩:=st.hO
   exact ⟨_,e,fun v q=>nomatch (show Data.seq _ _=Data.cell v from q)⟩
  ·exact st.h1.obj
  ·exact st.h2.obj
 keep:=fun i h h' st k=>by
  obtain ⟨a,b,e⟩:=st.hO
  exact ⟨k z (by simp) _ st.hz,k TI (by simp) _ st.hI,⟨a,b,k TO (by simp) _ e⟩,st.h1.ext fun o e=>k i1 (by simp) o e,st.h2.ext fun o e=>k i2 (by simp) o e⟩
 item:=fun X hP hw hK hc i pins s σ H E I hf st hg=>by
  subst hP hw hK
  obtain ⟨xs,ys,x,y,q1,q2,g1,g2⟩:=hg
  obtain ⟨its,r1,p1⟩:=gK I q1
  obtain ⟨jts,r2,p2⟩:=gK I q2
  obtain ⟨u,e1,ru⟩:=r1.get g1
  obtain ⟨v,e2,rv⟩:=r2.get g2
  obtain ⟨a,b,hO⟩:=st.hO
  refine tZ D st.hz st.hI hO st.h1 st.h2 p1 p2 (x:=u) (y:=v) (by simpa using e1) (by simpa using e2) fun h' a1 a2 a3 a4 a5 a6=>⟨_,rfl,?_⟩
  refine wpAny_letOwnedTupleGo_zip (s:={ s with heap:=h' }) a1 fun h2 b1 b2=>?_
  have kp:∀ b o,b ∉ [z,TI,TO,i1,i2] -> s.heap.get? b=some o -> h2.get? b=some o:=fun b o hb e=>by
   simp only [List.mem_cons,List.not_mem_nil,or_false,not_or] at hb
   exact b2.extBut _ _ hb.1 (a6 b o hb.1 hb.2.2.1 hb.2.2.2.1 hb.2.2.2.2 e)
  have lz:z < s.heap.objs.size:=Heap.lt_size st.hz
  have pr:IsPair h2 s.heap.objs.size u v:=b2.extBut _ _ (Nat.ne_of_gt lz) a5
  have fr:H s.heap.objs.size=none:=I.hok.fresh (Nat.le_refl _)
  have hokA:mQ X.prog X.w (upd H s.heap.objs.size (.tup [x,y])) h2:=by
   intro c o e
   by_cases hcz:c=s.heap.objs.size
   ·subst hcz
    rw [aX] at e; cases e
    exact ⟨by show 2 ≤ sizeLine; decide,[u,v],.cons ru (.cons rv .nil),_,pr,rfl,_,rfl⟩
   ·rw [aO hcz] at e
    have nf:∀ d o',H d=some o' -> d ∉ [z,TI,TO,i1,i2]:=fun d o' ed hd=>by rw [(hf d hd).1] at ed; cases ed
    have up:∀ d o',H d=some o' -> upd H s.heap.objs.size (.tup [x,y]) d=some o':=fun d o' ed=>by rw [aO (bO ed fr)]; exact ed
    refine (I.hok c o e).stay (fun d v' hd q=>kp d v' ?_ q) (fun d q=>up d _ q) fun d xs q=>up d _ q
    rcases hd with rfl | hd
    ·exact nf _ o e
    ·exact nf d _ hd
  have J:Inv X pins σ (upd H s.heap.objs.size (.tup [x,y])) { s with heap:=h2 }:=by
   have ne:∀ b o,s.heap.get? b=some o -> b ≠ s.heap.objs.size:=fun b o e=>Nat.ne_of_lt (Heap.lt_size e)
   refine I.step (g':=s.gens) (d':=s.drawn) (t':=s.toks) (ch:=[z,TI,TO,i1,i2]) (fun b hb=>?_) (fun b o _ _ hc e _=>kp b o hc e) (fun b o _ _ hc e _=>⟨o.slots,kp b o hc e⟩) (fun b o _ e n=>by rw [aO (ne b o e)]; exact n)
    (fun b o hc e=>⟨o,kp b o hc e⟩) (fun b xs e=>by rw [aO (bO e fr)]; exact e) (fun b o u e=>by rw [aO (bO e fr)]; exact e) (fun b ps e=>⟨#[],by rw [aO (bO e fr),e]; simp⟩) (fun m hm=>?_) hokA I.bare
   ·obtain ⟨_,f1,_,f3,f4,f5⟩:=hf b hb
    exact ⟨f3,f1,f4,f5⟩
   ·obtain ⟨o,es,ep,ho,r⟩:=hm
    exact ⟨o,es,ep,kp _ o (fun q=>(hf _ q).2.1 rfl) ho,r⟩
  refine ⟨.ref s.heap.objs.size,_,J,rfl,⟨_,x,y,rfl,fr,rfl,fun xs' h=>by rw [yG I h q1]; exact g1,fun ys' h=>by rw [yG I h q2]; exact g2⟩,?_,fun b hb=>?_⟩
  ·exact ⟨b1,b2.extBut _ _ D.TIz (a6 _ _ D.TIz D.TITO D.TIi1 D.TIi2 st.hI),⟨_,_,b2.extBut _ _ D.TOz a2⟩,a3.ext fun o e=>b2.extBut _ _ D.i1z e,a4.ext fun o e=>b2.extBut _ _ D.i2z e⟩
  ·obtain ⟨o,e,_⟩:∃ o,s.heap.get? b=some o /\ True:=by
    simp only [List.mem_cons,List.not_mem_nil,or_false] at hb
    rcases hb with rfl | rfl | rfl | rfl | rfl
    ·exact ⟨_,st.hz,trivial⟩
    ·exact ⟨_,st.hI,trivial⟩
    ·exact ⟨_,hO,trivial⟩
    ·obtain ⟨o,e,_⟩:=st.h1.obj; exact ⟨o,e,trivial⟩
    ·obtain ⟨o,e,_⟩:=st.h2.obj; exact ⟨o,e,trivial⟩
   rw [aO (Nat.ne_of_lt (Heap.lt_size e))]
   exact (hf b hb).1
 done:=fun X hP hw hK hc i pins s σ H E I hf st hg=>by
  subst hP hw hK
  obtain ⟨xs,ys,q1,q2,g⟩:=hg
  obtain ⟨its,r1,p1⟩:=gK I q1
  obtain ⟨jts,r2,p2⟩:=gK I q2
  obtain ⟨a,b,hO⟩:=st.hO
  have n1:=r1.length
  have n2:=r2.length
  refine vt (I.ok.hd hc) D st.hz st.hI hO st.h1 st.h2 p1 p2 ?_ fun h' k=>⟨rfl,iS I hf fun b o hb e=>?_⟩
  ·rcases g with g | g
   ·exact .inl (by simp; omega)
   ·exact .inr (by simp; omega)
  ·simp only [List.mem_cons,List.not_mem_nil,or_false,not_or] at hb
   exact k b o hb.1 hb.2.2.1 hb.2.2.2.1 hb.2.2.2.2 e
 self:=fun _ _ _ _ _ st h=>wpAny_pyIter_zip st.hz h
open PySem PySem.Spec PyProof.Rows L2
def Io:T -> Option (Bool × List T)
 | .lst ts=>some (true,ts)
 | .scr ts=>some (true,ts)
 | .tup ts=>some (false,ts)
 | _=>none
theorem yF {K:PySem.W.Frag} {F:Hp} {t:T} {v:V} {b:Bool} {ts:List T} (r:Rep K F t v) (e:Io t=some (b,ts)):∃ a xs,v=.ref a /\ t8 b K F a xs /\ aV K F ts xs:=by
 cases t <;> simp only [Io] at e <;> cases e
 ·exact r
 ·obtain ⟨a,xs,h1,h2,h3⟩:=r
  exact ⟨a,xs,h1,fF.of h2,h3⟩
 ·exact r
theorem t8.same {b:Bool} {K:PySem.W.Frag} {H H':Hp} {a:Addr} {xs:List V} (s:aS H H') (h:t8 b K H a xs):t8 b K H' a xs:=by
 cases b with
 | true=>exact s.seq h
 | false=>exact cv s h
def gM:List T -> List T -> List T
 | x :: xs,y :: ys=>.tup [x,y] :: gM xs ys
 | _,_=>[]
theorem mO:∀ (xs ys:List T),(gM xs ys).length=min xs.length ys.length
 | [],_=>by simp [gM]
 | _ :: _,[]=>by simp [gM]
 | x :: xs,y :: ys=>by simp [gM,mO xs ys]
theorem pH:∀ (xs ys:List T) (i:Nat) (t:T),(gM xs ys)[i]? = some t -> ∃ x y,xs[i]? = some x /\ ys[i]? = some y /\ t=.tup [x,y]
 | [],_,i,t,e=>by simp [gM] at e
 | _ :: _,[],i,t,e=>by simp [gM] at e
 | x :: xs,y :: ys,0,t,e=>by simp [gM] at e; exact ⟨x,y,rfl,rfl,e.symm⟩
 | x :: xs,y :: ys,i + 1,t,e=>by
  obtain ⟨a,b,h1,h2,h3⟩:=pH xs ys i t (by simpa [gM] using e)
  exact ⟨a,b,by simpa using h1,by simpa using h2,h3⟩
theorem Ad {K:PySem.W.Frag} {F:Hp} {c1 c2:Bool} {l1 l2:Addr} {xs ys:List V} {ts us:List T} (h1:t8 c1 K F l1 xs) (r1:aV K F ts xs) (h2:t8 c2 K F l2 ys) (r2:aV K F us ys):Walks K F (gM ts us) (Je K c1 c2 l1 l2):=by
 refine ⟨fun i t F1 H1 e s1 s2=>?_,fun i t F1 H1 x H2 e s1 s2 y=>?_,fun F1 H1 s1 s2=>⟨xs,ys,h1.same (s1.trans s2),h2.same (s1.trans s2),?_⟩⟩
 ·obtain ⟨a,b,e1,e2,rfl⟩:=pH ts us i t e
  obtain ⟨v,g1,_⟩:=r1.get e1
  obtain ⟨w,g2,_⟩:=r2.get e2
  exact ⟨xs,ys,v,w,h1.same (s1.trans s2),h2.same (s1.trans s2),g1,g2⟩
 ·obtain ⟨p,v,w,rfl,hp,rfl,q1,q2⟩:=y
  obtain ⟨a,b,e1,e2,rfl⟩:=pH ts us i t e
  obtain ⟨v',g1,k1⟩:=r1.get e1
  obtain ⟨w',g2,k2⟩:=r2.get e2
  have m1:=q1 xs (h1.same (s1.trans s2))
  have m2:=q2 ys (h2.same (s1.trans s2))
  rw [g1] at m1; cases m1
  rw [g2] at m2; cases m2
  have gr:=br.new (.tup [v,w]) s2 hp
  exact ⟨_,gr,p,_,rfl,jO.of aX,v,[w],rfl,Rep.mono (s1.trans gr.sF) k1,w,[],rfl,Rep.mono (s1.trans gr.sF) k2,rfl⟩
 ·rw [mO,r1.length,r2.length]
  omega
def c9 (g:FA):FA:=fun τ=>(g τ).bind fun p=>match p.1 with
 | [a,b]=>(Io a).bind fun x=>(Io b).bind fun y=>some (gM x.2 y.2,p.2)
 | _=>none
theorem ki {X:Cx} {a b:Expr} {p pos:Pos} {ga:FA} {elts:List Expr} {kx:Nat} {px:Pos} (hg:Gl X "zip") (hm:X.mg "zip" = none) (ha:SA X [a,b] ga) (hs:starEach [a,b] X.env=(false,eval a X.env) :: starEach [b] X.env:=by rfl)
  (hs2:(backTo pos (starEach [b] X.env)).any (·.1)=false:=by rfl):SI X (.Tuple elts kx px) (.Call (.Name "zip" p) [a,b] [] pos) (c9 ga):=by
 intro F₀ H₀ pins s σ H R I ⟨F,τ,ts,τ',E,e1,q⟩
 obtain ⟨⟨x,τ1⟩,e2,e1⟩:=bind_some e1
 dsimp only at e1
 split at e1
 ·next t u =>
  obtain ⟨⟨c1,us⟩,e3,e1⟩:=bind_some e1
  obtain ⟨⟨c2,ws⟩,e4,e1⟩:=bind_some e1
  cases e1
  refine Call_ (iG I hg hm (show bootBuiltins "zip" = some (.type "zip") from rfl) (PyProof.Rows.callWith_type1 (dm (ha F₀ H₀ pos pins s σ H (fun vs H'=>∃ l1 l2 xs ys,vs=[.ref l1,.ref l2] /\ t8 c1 X.K H' l1 xs /\ t8 c2 X.K H' l2 ys /\ R (Je X.K c1 c2 l1 l2) H') I ⟨F,τ,_,_,E,e2,fun F' H' vs E' s' r'=>?_⟩) fun vs s1 ⟨ws',H1,I1,r1,q1⟩=>?_) hs hs2))
  ·obtain ⟨v1,r1,rfl,k1,v2,r2,rfl,k2,rfl⟩:=r'
   obtain ⟨l1,xs,rfl,h1,h2⟩:=yF k1 e3
   obtain ⟨l2,ys,rfl,h3,h4⟩:=yF k2 e4
   exact ⟨l1,l2,xs,ys,rfl,h1.same E'.g.fh,h3.same E'.g.fh,q F' H' _ E' s' (Ad h1 h2 h3 h4)⟩
  ·obtain ⟨l1,l2,xs,ys,rfl,h1,h2,q1⟩:=q1
   cases r1 with
   | cons ra rr =>
    cases rr with
    | cons rb rr =>
     cases rr; cases ra; cases rb
     obtain ⟨its,_,p1⟩:=gK I1 h1
     obtain ⟨jts,_,p2⟩:=gK I1 h2
     refine Az p1 p2 fun h' a1 a2 a3 a4 a5 kp=>wpAny_pyIter_zip (s:={ s1 with heap:=h' }) a1 ?_
     have lt:∀ {c:Bool} {l:Addr} {zs:Array Value},ix c s1.heap l zs -> l < s1.heap.objs.size:=fun {c l zs} h=>by
      cases c with
      | true=>obtain ⟨o,e,_⟩:=h; exact Heap.lt_size e
      | false=>obtain ⟨o,e,_⟩:=h; exact Heap.lt_size e
     have n1:@LT.lt Nat _ l1 s1.heap.objs.size:=lt p1
     have n2:@LT.lt Nat _ l2 s1.heap.objs.size:=lt p2
     have J:Inv X pins σ H1 { s1 with heap:=h' }:=I1.kept (t':=s1.toks) kp
     refine ⟨_,[_,_,_,_,_],_,_,H1,rfl,J,Ce (c1:=c1) (c2:=c2) (z:=s1.heap.objs.size + 4) (TI:=s1.heap.objs.size + 2) (TO:=s1.heap.objs.size + 3) (i1:=s1.heap.objs.size) (i2:=s1.heap.objs.size + 1) (l1:=l1) (l2:=l2) ?_,⟨a1,a2,⟨_,_,a3⟩,a4,a5⟩,fun b hb=>?_,q1⟩
     ·constructor <;> (refine (?_:@Ne Nat _ _); omega)
     ·have hb':s1.heap.objs.size ≤ b:=by
       simp only [List.mem_cons,List.not_mem_nil,or_false] at hb
       rcases hb with rfl | rfl | rfl | rfl | rfl <;> omega
      exact I1.fpOk hb' (I1.hok.fresh hb')
 ·cases e1
open PySem PySem.Spec PyProof.Rows L2
theorem uB:bF [.non,.ty "int"]=some (.bl false):=rfl
theorem si:bF [.non,.ty "bool"]=some (.bl false):=rfl
theorem uC:bF [.non,.ty "str"]=some (.bl false):=rfl
theorem so:bF [.non,.ty "list"]=some (.bl false):=rfl
theorem pP:bF [.non,.ty "tuple"]=some (.bl false):=rfl
theorem sk:bF [.non,.ty "dict"]=some (.bl false):=rfl
theorem v9:bF [.non,.tup [.ty "list", .ty "tuple"]]=some (.bl false):=rfl
theorem vY {b:Bool}:bF [(.bl b),.ty "int"]=some (.bl true):=rfl
theorem uq {b:Bool}:bF [(.bl b),.ty "bool"]=some (.bl true):=rfl
theorem vZ {b:Bool}:bF [(.bl b),.ty "str"]=some (.bl false):=rfl
theorem uu {b:Bool}:bF [(.bl b),.ty "list"]=some (.bl false):=rfl
theorem rR {b:Bool}:bF [(.bl b),.ty "tuple"]=some (.bl false):=rfl
theorem ur {b:Bool}:bF [(.bl b),.ty "dict"]=some (.bl false):=rfl
theorem zu {b:Bool}:bF [(.bl b),.tup [.ty "list", .ty "tuple"]]=some (.bl false):=rfl
theorem ux {i:Int}:bF [(.int i),.ty "int"]=some (.bl true):=rfl
theorem rW {i:Int}:bF [(.int i),.ty "bool"]=some (.bl false):=rfl
theorem uy {i:Int}:bF [(.int i),.ty "str"]=some (.bl false):=rfl
theorem rY {i:Int}:bF [(.int i),.ty "list"]=some (.bl false):=rfl
theorem pN {i:Int}:bF [(.int i),.ty "tuple"]=some (.bl false):=rfl
theorem rX {i:Int}:bF [(.int i),.ty "dict"]=some (.bl false):=rfl
theorem v7 {i:Int}:bF [(.int i),.tup [.ty "list", .ty "tuple"]]=some (.bl false):=rfl
theorem uF {x:Str}:bF [(.str x),.ty "int"]=some (.bl false):=rfl
theorem sx {x:Str}:bF [(.str x),.ty "bool"]=some (.bl false):=rfl
theorem uG {x:Str}:bF [(.str x),.ty "str"]=some (.bl true):=rfl
theorem sA {x:Str}:bF [(.str x),.ty "list"]=some (.bl false):=rfl
theorem pR {x:Str}:bF [(.str x),.ty "tuple"]=some (.bl false):=rfl
theorem sy {x:Str}:bF [(.str x),.ty "dict"]=some (.bl false):=rfl
theorem wb {x:Str}:bF [(.str x),.tup [.ty "list", .ty "tuple"]]=some (.bl false):=rfl
theorem uH {ts:List T}:bF [(.tup ts),.ty "int"]=some (.bl false):=rfl
theorem sC {ts:List T}:bF [(.tup ts),.ty "bool"]=some (.bl false):=rfl
theorem uI {ts:List T}:bF [(.tup ts),.ty "str"]=some (.bl false):=rfl
theorem sE {ts:List T}:bF [(.tup ts),.ty "list"]=some (.bl false):=rfl
theorem pS {ts:List T}:bF [(.tup ts),.ty "tuple"]=some (.bl true):=rfl
theorem sD {ts:List T}:bF [(.tup ts),.ty "dict"]=some (.bl false):=rfl
theorem wc {ts:List T}:bF [(.tup ts),.tup [.ty "list", .ty "tuple"]]=some (.bl true):=rfl
theorem uz {ts:List T}:bF [(.lst ts),.ty "int"]=some (.bl false):=rfl
theorem rZ {ts:List T}:bF [(.lst ts),.ty "bool"]=some (.bl false):=rfl
theorem uA {ts:List T}:bF [(.lst ts),.ty "str"]=some (.bl false):=rfl
theorem r9 {ts:List T}:bF [(.lst ts),.ty "list"]=some (.bl true):=rfl
theorem pO {ts:List T}:bF [(.lst ts),.ty "tuple"]=some (.bl false):=rfl
theorem r6 {ts:List T}:bF [(.lst ts),.ty "dict"]=some (.bl false):=rfl
theorem v8 {ts:List T}:bF [(.lst ts),.tup [.ty "list", .ty "tuple"]]=some (.bl true):=rfl
theorem uD {ts:List T}:bF [(.scr ts),.ty "int"]=some (.bl false):=rfl
theorem sr {ts:List T}:bF [(.scr ts),.ty "bool"]=some (.bl false):=rfl
theorem uE {ts:List T}:bF [(.scr ts),.ty "str"]=some (.bl false):=rfl
theorem sv {ts:List T}:bF [(.scr ts),.ty "list"]=some (.bl true):=rfl
theorem pQ {ts:List T}:bF [(.scr ts),.ty "tuple"]=some (.bl false):=rfl
theorem su {ts:List T}:bF [(.scr ts),.ty "dict"]=some (.bl false):=rfl
theorem wa {ts:List T}:bF [(.scr ts),.tup [.ty "list", .ty "tuple"]]=some (.bl true):=rfl
theorem uv:bF [.dic,.ty "int"]=some (.bl false):=rfl
theorem rS:bF [.dic,.ty "bool"]=some (.bl false):=rfl
theorem uw:bF [.dic,.ty "str"]=some (.bl false):=rfl
theorem rV:bF [.dic,.ty "list"]=some (.bl false):=rfl
theorem pM:bF [.dic,.ty "tuple"]=some (.bl false):=rfl
theorem rT:bF [.dic,.ty "dict"]=some (.bl true):=rfl
theorem v5:bF [.dic,.tup [.ty "list", .ty "tuple"]]=some (.bl false):=rfl
theorem nj (i j:Int):lD (.int i) (.int j)=some (.bl (decide (i=j))):=by
 show some (T.bl (i == j))=_
 rw [Bool.beq_eq_decide_eq]
theorem Dc (i j:Int):j6 (.int i) (.int j)=some (.bl (!decide (i=j))):=by
 show some (T.bl (!(i == j)))=_
 rw [Bool.beq_eq_decide_eq]
theorem Ff (i j:Bool):lD (.bl i) (.bl j)=some (.bl (i == j)):=rfl
theorem Bd (i j:Bool):j6 (.bl i) (.bl j)=some (.bl (!(i == j))):=rfl
theorem yS (i j:Int):xf i j ↔ (¬ j=0 /\ j.natAbs < B):=Iff.rfl
theorem yT (i j:Int):mx i j ↔ (i.natAbs < B /\ j.natAbs < B):=Iff.rfl
theorem Cr (i j:Int):IF i j ↔ ¬ j=0:=Iff.rfl
theorem du {n:Nat} (h:n ≤ 1000):n ≤ sizeLine:=Nat.le_of_lt (dz h)
theorem Kj:(0:Nat) ≤ sizeLine:=du (by decide)
theorem JW:(1:Nat) ≤ sizeLine:=du (by decide)
theorem G5:(2:Nat) ≤ sizeLine:=du (by decide)
theorem JX:(3:Nat) ≤ sizeLine:=du (by decide)
theorem JY:(4:Nat) ≤ sizeLine:=du (by decide)
theorem Bb {x y:T}:cR (.tup [x,y]) (.int 0)=some x:=rfl
theorem Bc {x y:T}:cR (.tup [x,y]) (.int 1)=some y:=rfl
theorem A9 {x y:T}:cR (.lst [x,y]) (.int 0)=some x:=rfl
theorem Ba {x y:T}:cR (.lst [x,y]) (.int 1)=some y:=rfl
theorem AG (a:Int):ud [.int a]=some (.int (a.natAbs:Int)):=by
 have e:(if a < 0 then -a else a)=(a.natAbs:Int):=by split <;> omega
 simp only [ud,e]
theorem EM:(2 ^ 64:Nat) < B:=by decide +kernel
theorem oA {a:Int} (h1 : -(2 ^ 64) < a) (h2:a < 2 ^ 64):a.natAbs < B:=by have:=EM; omega
theorem kQ {x:Str} (h:SeqAt.shaped (.str x)=true):lD (.str x) (.str x)=some (.bl true):=by
 show zp false (.str x) (.str x)=_
 simp [zp,Cq,h,PyData.eqv]
def iZ (d__law_same:List T -> Option T):FS:=
  (aE (bE (eL (ai bF (aa (ae 1) (aa (b0 (aa (fC (.ty "list")) (aa (fC (.ty "tuple")) ah))) ah)))) (aE (bE (AY (dw (aD j6 (ai bF (aa (ae 1) (aa (fC (.ty "list")) ah))) (ai bF (aa (ae 0) (aa (fC (.ty "list")) ah))))) (gB (eL (ai bF (aa (ae 0) (aa (b0 (aa (fC (.ty "list")) (aa (fC (.ty "tuple")) ah))) ah)))))) (a8 (fC (.bl false))) bf)
  (aE (bE (dw (aD j6 (ai cn (aa (ae 0) ah)) (ai cn (aa (ae 1) ah)))) (a8 (fC (.bl false))) bf)
  (aE (cG (c9 (aa (ae 0) (aa (ae 1) ah))) (bp (ar (ak 2) (ar (ak 3) bo))) (bE (gB (eL (ai d__law_same (aa (ae 2) (aa (ae 3) ah))))) (a8 (fC (.bl false))) bf))
  (a8 (fC (.bl true)))))) bf)
  (aE (bE (dw (aD xJ (ae 1) (fC .non))) (a8 (aD xJ (ae 0) (fC .non))) bf)
  (aE (bE (eL (ai bF (aa (ae 1) (aa (fC (.ty "str")) ah)))) (a8 (mE (ai bF (aa (ae 0) (aa (fC (.ty "str")) ah))) (aD lD (ae 0) (ae 1)))) bf)
  (a8 (mE (ai bF (aa (ae 0) (aa (fC (.ty "int")) ah))) (mE (mT Be (ai bF (aa (ae 0) (aa (fC (.ty "bool")) ah)))) (aD lD (ae 0) (ae 1))))))))
def dW:Nat -> List T -> Option T
 | 0=>fun _=>none
 | n + 1=>cE 4 2 (iZ (dW n))
mutual
def oY:Nat -> T -> Bool
 | _,.int _=>true
 | _,.non=>true
 | _,.str x=>SeqAt.shaped (.str x)
 | n + 1,.tup ts=>jI n ts
 | n + 1,.lst ts=>jI n ts
 | _,_=>false
def jI:Nat -> List T -> Bool
 | _,[]=>true
 | n,t :: ts=>oY n t && jI n ts
end
def k9 (d:List T -> Option T):FS:=(bE (gB (eL (ai d (aa (ae 2) (aa (ae 3) ah))))) (a8 (fC (.bl false))) bf)
theorem mf {d:List T -> Option T}:∀ (ts:List T) (x y u v:Option Sl),(∀ t ∈ ts,d [t,t]=some (.bl true)) -> ∃ u' v',bP (bp (ar (ak 2) (ar (ak 3) bo))) (k9 d) (gM ts ts) [x,y,u,v]=some (.nx [x,y,u',v'])
 | [],x,y,u,v,_=>⟨u,v,rfl⟩
 | t :: ts,x,y,u,v,h=>by
  have h1:=h t (List.mem_cons_self ..)
  obtain ⟨u',v',h2⟩:=mf ts x y (some (.sh t)) (some (.sh t)) fun z hz=>h z (List.mem_cons_of_mem _ hz)
  refine ⟨u',v',?_⟩
  rw [<- h2]
  clear h2 h
  unfold k9
  walk_at "ev"
theorem jr {n:Nat}:∀ {ts:List T},jI n ts=true -> ∀ t ∈ ts,oY n t=true
 | t :: ts,h,u,hu=>by
  simp only [jI,Bool.and_eq_true] at h
  rcases List.mem_cons.mp hu with rfl | hu
  ·exact h.1
  ·exact jr h.2 u hu
theorem AK:∀ (n:Nat) (t:T),oY n t=true -> dW (n + 1) [t,t]=some (.bl true):=by
 intro n
 induction n with
 | zero =>
  intro t h
  show cE 4 2 (iZ (dW 0)) [t,t]=_
  cases t with
  | int i=>clear h; unfold cE iZ; walk_at "ev"
  | non=>clear h; unfold cE iZ; walk_at "ev"
  | str x =>
   have h:SeqAt.shaped (.str x)=true:=h
   have e:=kQ h
   clear h
   unfold cE iZ
   walk_at "ev"
  | bl b=>cases h
  | ty b=>cases h
  | tup b=>cases h
  | lst b=>cases h
  | scr b=>cases h
  | dic=>cases h
  | obj _ _ _=>cases h
  | ptr _=>cases h
 | succ n ih =>
  intro t h
  show cE 4 2 (iZ (dW (n + 1))) [t,t]=_
  cases t with
  | int i=>clear h ih; unfold cE iZ; walk_at "ev"
  | non=>clear h ih; unfold cE iZ; walk_at "ev"
  | str x =>
   have h:SeqAt.shaped (.str x)=true:=h
   have e:=kQ h
   clear h ih
   unfold cE iZ
   walk_at "ev"
  | bl b=>cases h
  | ty b=>cases h
  | scr b=>cases h
  | dic=>cases h
  | obj _ _ _=>cases h
  | ptr _=>cases h
  | tup ts =>
   have hm:=fun t ht=>ih t (jr h t ht)
   obtain ⟨u,v,hl⟩:=mf ts (some (.sh (.tup ts))) (some (.sh (.tup ts))) none none hm
   clear h ih hm
   unfold k9 at hl
   unfold cE iZ
   walk_at "ev"
  | lst ts =>
   have hm:=fun t ht=>ih t (jr h t ht)
   obtain ⟨u,v,hl⟩:=mf ts (some (.sh (.lst ts))) (some (.sh (.lst ts))) none none hm
   clear h ih hm
   unfold k9 at hl
   unfold cE iZ
   walk_at "ev"
open PySem PySem.Spec PyProof.Rows L2
def Hv:FS:=
  (aE (aN 2 (aD cg (aD cH (aD cH (ae 0) (aD bg (fC (.int 7919)) (ae 1))) (fC (.int 11))) (fC (.int 2147483647))))
  (aE (aN 2 (aD cg (aD cH (aD bg (ae 2) (ae 2)) (aD bg (fC (.int 48271)) (ae 1))) (fC (.int 2147483629))))
  (a8 (aD cg (aD cH (aD cH (aD bg (ae 2) (ae 2)) (aD bg (fC (.int 7)) (ae 2))) (ae 1)) (fC (.int 2147483587))))))
def Ej:FS:=
  (aE (bE (dw (aD vx (ae 1) (ai cn (aa (ae 0) ah)))) (a8 (aD cR (ae 0) (ae 1))) bf)
  (aE (aN 2 (aD cH (aD bg (fC (.int 7919)) (ae 1)) (fC (.int 5))))
  (aE (bE (dw (aD vW (ai cn (aa (ae 0) ah)) (fC (.int 0)))) (aN 2 (aD cg (aD cH (aD cR (ae 0) (aD cg (aD bg (fC (.int 7)) (ae 1)) (ai cn (aa (ae 0) ah)))) (aD bg (fC (.int 7919)) (ae 1))) (fC (.int 2147483647)))) bf)
  (a8 (aD cg (aD bg (ae 2) (ae 2)) (fC (.int 2147483629)))))))
theorem cP (a:Int) {b:Int} (h:0 < b):0 ≤ a.fmod b /\ a.fmod b < b:=⟨Int.fmod_nonneg_of_pos _ h,Int.fmod_lt_of_pos _ h⟩
def pU (c k:Int):Int:=(c + 7919 * k + 11).fmod 2147483647
def pV (c k:Int):Int:=(pU c k * pU c k + 48271 * k).fmod 2147483629
def iJ (c k:Int):Int:=(pV c k * pV c k + 7 * pV c k + k).fmod 2147483587
theorem BB (c k:Int):0 ≤ iJ c k /\ iJ c k < 2147483587:=cP _ (by decide)
def fq:List T -> Option T
 | [.int c,.int k]=>if k.natAbs < B then some (.int (iJ c k)) else none
 | _=>none
theorem nu {c k:Int} (h:k.natAbs < B):fq [.int c,.int k]=some (.int (iJ c k)):=if_pos h
theorem jR {n:Nat} (h:n < 2 ^ 64):((n:Int)).natAbs < B:=by have:=EM; omega
theorem GJ (ts:List T) (t:T) (h:fq ts=some t):cE 3 2 Hv ts=some t:=by
 unfold fq at h
 split at h
 ·next c k =>
  split at h
  ·next hk =>
   cases h
   have b1:((7919:Int)).natAbs < B:=jR (n:=7919) (by decide)
   have b2:((48271:Int)).natAbs < B:=jR (n:=48271) (by decide)
   have b3:((7:Int)).natAbs < B:=jR (n:=7) (by decide)
   have r1:(pU c k).natAbs < B:=by have:=cP (c + 7919 * k + 11) (b:=2147483647) (by decide); exact oA (by unfold pU; omega) (by unfold pU; omega)
   have r2:(pV c k).natAbs < B:=by have:=cP (pU c k * pU c k + 48271 * k) (b:=2147483629) (by decide); exact oA (by unfold pV; omega) (by unfold pV; omega)
   have e1:(c + 7919 * k + 11).fmod 2147483647=pU c k:=rfl
   have e2:(pU c k * pU c k + 48271 * k).fmod 2147483629=pV c k:=rfl
   have e3:(pV c k * pV c k + 7 * pV c k + k).fmod 2147483587=iJ c k:=rfl
   have n1:¬ (2147483647:Int)=0:=by decide
   have n2:¬ (2147483629:Int)=0:=by decide
   have n3:¬ (2147483587:Int)=0:=by decide
   unfold cE Hv
   walk_at "ev"
  ·cases h
 ·cases h
def intsOf:List T -> Option (List Int)
 | []=>some []
 | .int i :: ts=>(intsOf ts).bind fun ns=>some (i :: ns)
 | _ :: _=>none
theorem gC:∀ ns:List Int,intsOf (ns.map T.int)=some ns
 | []=>rfl
 | n :: ns=>by simp [intsOf,gC ns]
theorem iE:∀ {ts:List T} {ns:List Int},intsOf ts=some ns -> ts=ns.map T.int
 | [],ns,h=>by cases h; rfl
 | .int i :: ts,ns,h=>by
  obtain ⟨ms,e,h⟩:=bind_some h
  cases h
  rw [iE e]; rfl
 | .non :: _,_,h=>by cases h
 | .bl _ :: _,_,h=>by cases h
 | .str _ :: _,_,h=>by cases h
 | .ty _ :: _,_,h=>by cases h
 | .tup _ :: _,_,h=>by cases h
 | .lst _ :: _,_,h=>by cases h
 | .scr _ :: _,_,h=>by cases h
 | .dic :: _,_,h=>by cases h
 | .obj _ _ _ :: _,_,h=>by cases h
 | .ptr _ :: _,_,h=>by cases h
def nT (ns:List Int) (k:Int):Int:=if 0 < ns.length then (ns.getD ((7 * k).fmod (ns.length:Int)).toNat 0 + 7919 * k).fmod 2147483647 else 7919 * k + 5
def i8 (ns:List Int) (k:Int):Int:=if k < (ns.length:Int) then ns.getD k.toNat 0 else (nT ns k * nT ns k).fmod 2147483629
def jQ:List T -> Option T
 | [.scr ts,.int k]=>(intsOf ts).bind fun ns=>if 0 ≤ k /\ k < 1000000 then some (.int (i8 ns k)) else none
 | _=>none
theorem Bv {ns:List Int} {k:Int} (h0:0 ≤ k) (h1:k < 1000000):jQ [.scr (ns.map T.int),.int k]=some (.int (i8 ns k)):=by
 show (intsOf (ns.map T.int)).bind _=_
 rw [gC]
 exact if_pos ⟨h0,h1⟩
theorem xV {ns:List Int} {k:Int} (h0:0 ≤ k) (h1:k < (ns.length:Int)):cR (.scr (ns.map T.int)) (.int k)=some (.int (ns.getD k.toNat 0)):=by
 show mB (ns.map T.int) k=_
 obtain ⟨j,rfl⟩:=Int.eq_ofNat_of_zero_le h0
 have hk:j < ns.length:=by omega
 refine rh ?_
 rw [List.getElem?_map,List.getElem?_eq_getElem hk]
 simp [List.getD,List.getElem?_eq_getElem hk]
theorem DY (ts:List T) (t:T) (h:jQ ts=some t):cE 3 2 Ej ts=some t:=by
 unfold jQ at h
 split at h
 ·next us k =>
  obtain ⟨ns,e,h⟩:=bind_some h
  rw [iE e]
  clear e
  split at h
  ·next hk =>
   cases h
   obtain ⟨h0,h1⟩:=hk
   have b1:((7919:Int)).natAbs < B:=jR (n:=7919) (by decide)
   have b3:((7:Int)).natAbs < B:=jR (n:=7) (by decide)
   have bk:k.natAbs < B:=oA (by omega) (by omega)
   have n1:¬ (2147483647:Int)=0:=by decide
   have n2:¬ (2147483629:Int)=0:=by decide
   have hl:(ns.map T.int).length=ns.length:=List.length_map ..
   unfold cE Ej
   by_cases hc:k < (ns.length:Int)
   ·have e1:=xV h0 hc
    have e2:i8 ns k=ns.getD k.toNat 0:=if_pos hc
    walk_at "ev"
   ·have e2:i8 ns k=(nT ns k * nT ns k).fmod 2147483629:=if_neg hc
    by_cases hn:(0:Int) < (ns.length:Int)
    ·have e3:nT ns k=(ns.getD ((7 * k).fmod (ns.length:Int)).toNat 0 + 7919 * k).fmod 2147483647:=if_pos (by omega)
     have r:=cP (7 * k) hn
     have e4:=xV (ns:=ns) r.1 r.2
     have n3:¬ (ns.length:Int)=0:=by omega
     have r2:(nT ns k).natAbs < B:=by rw [e3]; have:=cP (ns.getD ((7 * k).fmod (ns.length:Int)).toNat 0 + 7919 * k) (b:=2147483647) (by decide); exact oA (by omega) (by omega)
     rw [e3] at r2 e2
     clear e3 r
     walk_at "ev"
    ·have e3:nT ns k=7919 * k + 5:=if_neg (by omega)
     have r2:(7919 * k + 5).natAbs < B:=oA (by omega) (by omega)
     rw [e3] at e2
     clear e3
     walk_at "ev"
  ·cases h
 ·cases h
open PySem PySem.Spec PyProof.Rows L2
def lJ (env:Env):List (Str × NameKind) -> List (Str × Addr) -> List (Str × Addr)
 | [],acc=>acc
 | (x,k) :: r,acc=>if k == .free then lJ env r ((x,(env.cells.lookup x).getD 0) :: acc) else lJ env r acc
theorem mC {env:Env} (f:Str × NameKind -> List (Str × Addr) -> Sem (ForInStep (List (Str × Addr)))) (hf:∀ x k cs,f (x,k) cs=if k == .free then (do let a <- cellOf env x; pure (.yield ((x,a) :: cs))) else pure (.yield cs)) :
  ∀ (names:List (Str × NameKind)) (acc:List (Str × Addr)),(∀ y ∈ names,y.2=.free -> ∃ c,env.cells.lookup y.1=some c) -> forIn names acc f=pure (lJ env names acc)
 | [],acc,_=>by rw [List.forIn_nil]; rfl
 | (x,k) :: r,acc,hy=>by
  rw [List.forIn_cons,hf]
  have ih:=mC f hf r
  have hr:∀ y ∈ r,y.2=.free -> ∃ c,env.cells.lookup y.1=some c:=fun z hz=>hy z (List.mem_cons_of_mem _ hz)
  cases hk:(k == NameKind.free) with
  | true =>
   obtain ⟨c,hc⟩:=hy (x,k) List.mem_cons_self (beq_iff_eq.mp hk)
   dsimp only at hc
   simp only [if_true,lJ,hc,cellOf,pure_bind,Option.getD_some,hk]
   exact ih _ hr
  | false =>
   simp only [Bool.false_eq_true,if_false,lJ,pure_bind,hk]
   exact ih _ hr
theorem jX {env:Env} {scope:Scope} (h:∀ y ∈ scope.names,y.2=.free -> ∃ c,env.cells.lookup y.1=some c):closureFor scope env=pure (lJ env scope.names []):=by
 simp only [closureFor]
 rw [mC (env:=env) _ (fun x k cs=>by cases hk:k == NameKind.free <;> simp [hk]) scope.names [] h]
 rfl
theorem rC {env:Env}:∀ (names:List (Str × NameKind)) (acc:List (Str × Addr)) (x:Str) (c:Addr),(∀ y ∈ names,y.2=.free -> ∃ c,env.cells.lookup y.1=some c) -> (x,c) ∈ lJ env names acc -> (x,c) ∈ acc \/ (env.cells.lookup x=some c /\ (x,NameKind.free) ∈ names)
 | [],acc,x,c,_,h=>.inl h
 | (y,k) :: r,acc,x,c,hy,h=>by
  unfold lJ at h
  have hr:∀ z ∈ r,z.2=.free -> ∃ c,env.cells.lookup z.1=some c:=fun z hz=>hy z (List.mem_cons_of_mem _ hz)
  cases hk:(k == NameKind.free) with
  | true =>
   rw [if_pos hk] at h
   rcases rC r _ x c hr h with h | h
   ·rcases List.mem_cons.mp h with h | h
    ·cases h
     obtain ⟨c,hc⟩:=hy (y,k) List.mem_cons_self (beq_iff_eq.mp hk)
     dsimp only at hc
     refine .inr ⟨by rw [hc]; rfl,?_⟩
     rw [beq_iff_eq.mp hk]
     exact List.mem_cons_self
    ·exact .inl h
   ·exact .inr ⟨h.1,List.mem_cons_of_mem _ h.2⟩
  | false =>
   rw [if_neg (by rw [hk]; decide)] at h
   rcases rC r _ x c hr h with h | h
   ·exact .inl h
   ·exact .inr ⟨h.1,List.mem_cons_of_mem _ h.2⟩
theorem eh:∀ {l:List (Str × Addr)} {x:Str} {c:Addr},(x,c) ∈ l -> ∃ d,l.lookup x=some d
 | (y,d) :: r,x,c,h=>by
  rw [List.lookup_cons]
  cases hb:x == y with
  | true=>exact ⟨d,rfl⟩
  | false =>
   rcases List.mem_cons.mp h with h | h
   ·cases h; simp at hb
   ·exact eh h
theorem m9 {env:Env}:∀ (names:List (Str × NameKind)) (acc:List (Str × Addr)) (x:Str),((x,NameKind.free) ∈ names \/ ∃ c,(x,c) ∈ acc) -> ∃ c,(x,c) ∈ lJ env names acc
 | [],acc,x,h=>by
  rcases h with h | h
  ·cases h
  ·exact h
 | (y,k) :: r,acc,x,h=>by
  unfold lJ
  cases hk:(k == NameKind.free) with
  | true =>
   rw [if_pos rfl]
   refine m9 r _ x ?_
   rcases h with h | ⟨c,h⟩
   ·rcases List.mem_cons.mp h with h | h
    ·cases h; exact .inr ⟨_,List.mem_cons_self⟩
    ·exact .inl h
   ·exact .inr ⟨c,List.mem_cons_of_mem _ h⟩
  | false =>
   rw [if_neg (by decide)]
   refine m9 r _ x ?_
   rcases h with h | h
   ·rcases List.mem_cons.mp h with h | h
    ·cases h; cases hk
    ·exact .inl h
   ·exact .inr h
theorem vJ:∀ (names:List (Str × NameKind)) (n:Nat) (acc:List (Str × Addr)) (x:Str) (c:Addr),(x,c) ∈ cellsFrom n names acc -> (x,c) ∈ acc \/ (n ≤ c /\ (x,NameKind.cell) ∈ names)
 | [],n,acc,x,c,h=>.inl h
 | (y,k) :: r,n,acc,x,c,h=>by
  unfold cellsFrom at h
  cases hk:(k == NameKind.cell) with
  | true =>
   rw [if_pos hk] at h
   rcases vJ r _ _ x c h with h | ⟨h1,h2⟩
   ·rcases List.mem_cons.mp h with h | h
    ·cases h
     refine .inr ⟨Nat.le_refl _,?_⟩
     rw [beq_iff_eq.mp hk]
     exact List.mem_cons_self
    ·exact .inl h
   ·exact .inr ⟨Nat.le_of_succ_le h1,List.mem_cons_of_mem _ h2⟩
  | false =>
   rw [if_neg (by rw [hk]; decide)] at h
   rcases vJ r _ _ x c h with h | ⟨h1,h2⟩
   ·exact .inl h
   ·exact .inr ⟨h1,List.mem_cons_of_mem _ h2⟩
theorem vI:∀ (names:List (Str × NameKind)) (n:Nat) (acc:List (Str × Addr)),(∀ x y c,(x,c) ∈ acc -> (y,c) ∈ acc -> x=y) -> (∀ x c,(x,c) ∈ acc -> @LT.lt Nat _ c n) -> ∀ x y c,(x,c) ∈ cellsFrom n names acc -> (y,c) ∈ cellsFrom n names acc -> x=y
 | [],n,acc,h1,_,x,y,c,h,h'=>h1 x y c h h'
 | (z,k) :: r,n,acc,h1,h2,x,y,c,h,h'=>by
  unfold cellsFrom at h h'
  cases hk:(k == NameKind.cell) with
  | true =>
   rw [if_pos hk] at h h'
   refine vI r (n + 1) _ (fun a b d ha hb=>?_) (fun a d ha=>?_) x y c h h'
   ·rcases List.mem_cons.mp ha with ha | ha <;> rcases List.mem_cons.mp hb with hb | hb
    ·cases ha; cases hb; rfl
    ·cases ha; exact absurd (h2 _ _ hb) (Nat.lt_irrefl _)
    ·cases hb; exact absurd (h2 _ _ ha) (Nat.lt_irrefl _)
    ·exact h1 a b d ha hb
   ·rcases List.mem_cons.mp ha with ha | ha
    ·cases ha; exact Nat.lt_succ_self _
    ·exact Nat.lt_succ_of_lt (h2 _ _ ha)
  | false =>
   rw [if_neg (by rw [hk]; decide)] at h h'
   exact vI r n acc h1 h2 x y c h h'
theorem nU:∀ (names:List (Str × NameKind)) (n:Nat) (acc:List (Str × Addr)) (x:Str),((x,NameKind.cell) ∈ names \/ ∃ c,(x,c) ∈ acc) -> ∃ c,(x,c) ∈ cellsFrom n names acc
 | [],n,acc,x,h=>by
  rcases h with h | h
  ·cases h
  ·exact h
 | (y,k) :: r,n,acc,x,h=>by
  unfold cellsFrom
  cases hk:(k == NameKind.cell) with
  | true =>
   rw [if_pos rfl]
   refine nU r _ _ x ?_
   rcases h with h | ⟨c,h⟩
   ·rcases List.mem_cons.mp h with h | h
    ·cases h; exact .inr ⟨_,List.mem_cons_self⟩
    ·exact .inl h
   ·exact .inr ⟨c,List.mem_cons_of_mem _ h⟩
  | false =>
   rw [if_neg (by decide)]
   refine nU r _ _ x ?_
   rcases h with h | h
   ·rcases List.mem_cons.mp h with h | h
    ·cases h; cases hk
    ·exact .inl h
   ·exact .inr h
theorem rB:∀ (names:List (Str × NameKind)) (h:Heap) (acc:List (Str × Addr)) (x:Str) (c:Addr),(x,c) ∈ cellsFrom h.objs.size names acc -> (x,c) ∈ acc \/ (pushCells h names).IsCell c none
 | [],h,acc,x,c,m=>.inl m
 | (y,k) :: r,h,acc,x,c,m=>by
  unfold cellsFrom at m
  unfold pushCells
  cases hk:(k == NameKind.cell) with
  | true =>
   rw [if_pos hk] at m
   rw [if_pos rfl]
   have m':(x,c) ∈ cellsFrom (h.push { cls:=.type "cell", data:=.cell none }).objs.size r ((y,h.objs.size) :: acc):=by rw [Heap.size_push]; exact m
   rcases rB r _ _ x c m' with m | m
   ·rcases List.mem_cons.mp m with m | m
    ·cases m
     refine .inr ?_
     have q:(h.push { cls:=.type "cell", data:=.cell none }).IsCell h.objs.size none:=⟨_,Heap.get?_push_size _ rfl,rfl⟩
     exact q.keeps fun b o e=>pushCells_keeps r _ b o e
    ·exact .inl m
   ·exact .inr m
  | false =>
   rw [if_neg (by rw [hk]; decide)] at m
   rw [if_neg (by decide)]
   exact rB r h acc x c m
open PySem PySem.Spec PyProof.Rows L2
def gX (X:Cx) (scope:Scope) (C:Addr) (cs:List (Str × Addr)):Env:=
 { newEnv scope C X.env.globals cs X.env.qual none .none (some X.env) builtinsNs with scope:=relabel scope X.env }
def rl (X:Cx) (scope:Scope) (N':List Str) (C:Addr) (cs:List (Str × Addr)) (s₀:Shared) (H₀:Hp) (fp:List Addr) (pins:List (Addr × Obj)):Cx:=
 { X with N:=N',s₀:=s₀,H₀:=H₀,env:=gX X scope C cs,outer:=X.stack,stack:=X.stack,ex:=fp,fn:=fun x=>scope.names.lookup x == some .cell,pn:=X.pn ++ pins,xe:=fun _ _=>False }
structure gu (X:Cx) (scope:Scope):Prop where
 kind:scope.kind=.function
 names:∀ y ∈ scope.names,y.2=.local -> scope.names.lookup y.1=some .local
 free:∀ y ∈ scope.names,y.2=.free -> (X.env.kindOf y.1=some .cell \/ X.env.kindOf y.1=some .free) /\ (y.1,NameKind.cell) ∉ scope.names /\ scope.names.lookup y.1=some .free
theorem mem_of_lookupK:∀ {l:List (Str × NameKind)} {x:Str} {k:NameKind},l.lookup x=some k -> (x,k) ∈ l
 | (y,d) :: r,x,k,h=>by
  rw [List.lookup_cons] at h
  cases hb:x == y with
  | true=>rw [hb] at h; cases h; rw [beq_iff_eq.mp hb]; exact List.mem_cons_self
  | false=>rw [hb] at h; exact List.mem_cons_of_mem _ (mem_of_lookupK h)
theorem fT {env:Env}:∀ {names:List (Str × NameKind)} {x:Str},names.lookup x=some .free ->
    ((names.map fun (n,k)=>if (k == NameKind.free && env.scope.kind == .function && env.kindOf n == some .cell) then (n,NameKind.cell) else (n,k)).lookup x=some .cell \/
     (names.map fun (n,k)=>if (k == NameKind.free && env.scope.kind == .function && env.kindOf n == some .cell) then (n,NameKind.cell) else (n,k)).lookup x=some .free)
  | (n,k) :: r,x,h=>by
    rw [List.lookup_cons] at h
    have en:∀ y:Str × NameKind,y=(if (k == NameKind.free && env.scope.kind == .function && env.kindOf n == some .cell)=true then (n,NameKind.cell) else (n,k)) -> y.1=n /\ (y.2=.cell \/ y.2=k):=fun y e=>by
      subst e
      split
      · exact ⟨rfl,.inl rfl⟩
      · exact ⟨rfl,.inr rfl⟩
    rw [List.map_cons]
    dsimp only
    generalize hy:(if (k == NameKind.free && env.scope.kind == .function && env.kindOf n == some .cell)=true then (n,NameKind.cell) else (n,k))=y
    obtain ⟨e1,e2⟩:=en y hy.symm
    obtain ⟨a,b⟩:=y
    dsimp only at e1 e2
    subst e1
    rw [List.lookup_cons]
    cases hb:x == a with
    | true =>
      rw [hb] at h
      cases h
      rcases e2 with rfl | rfl
      · exact .inl rfl
      · exact .inr rfl
    | false =>
      rw [hb] at h
      exact fT h
theorem u4 {X:Cx} {scope:Scope} {x:Str} (h:(gX X scope C cs).kindOf x=some .cell \/ (gX X scope C cs).kindOf x=some .free):(x,NameKind.cell) ∈ scope.names \/ (x,NameKind.free) ∈ scope.names:=by
 have key:∀ k,(gX X scope C cs).kindOf x=some k -> (k=.cell \/ k=.free) -> (x,NameKind.cell) ∈ scope.names \/ (x,NameKind.free) ∈ scope.names:=fun k h hk=>by
  have m:=mem_of_lookupK (show (relabel scope X.env).names.lookup x=some k from h)
  unfold relabel at m
  obtain ⟨⟨y,j⟩,m1,m2⟩:=List.mem_map.mp m
  dsimp only at m2
  split at m2
  ·next hc =>
   cases m2
   simp only [Bool.and_eq_true,beq_iff_eq] at hc
   rw [hc.1.1] at m1
   exact .inr m1
  ·cases m2
   rcases hk with rfl | rfl
   ·exact .inl m1
   ·exact .inr m1
 rcases h with h | h
 ·exact key _ h (.inl rfl)
 ·exact key _ h (.inr rfl)
section
variable {X:Cx} {pins:List (Addr × Obj)} {σ:L2.St} {H:Hp} {s:Shared} {scope:Scope} {fp:List Addr} {N':List Str} {σ':L2.St}
abbrev jP:Obj:={ cls:=.type "list", dict:=none,data:=.seq ([]:List Value).toArray }
abbrev uk:Obj:={ cls:=.type "dict", data:=.dict #[] }
def h0 (h:Heap) (scope:Scope):Heap:=pushCells ((h.push jP).push uk) scope.names
theorem fZ {h:Heap} {b:Addr} {o:Obj} (e:h.get? b=some o):(h0 h scope).get? b=some o:=pushCells_keeps _ _ _ _ (Heap.get?_push_of_some _ (Heap.get?_push_of_some _ e))
theorem Fj (h:Heap):(h0 h scope).get? h.objs.size=some jP:=pushCells_keeps _ _ _ _ (Heap.get?_push_of_some _ (Heap.get?_push_size _ rfl))
theorem qj (I:Inv X pins σ H s) (B:gu X scope) (hf:∀ b ∈ fp,pJ X pins H b) (ho:∀ b ∈ fp,∃ o,s.heap.get? b=some o) (hl:σ'.length=N'.length)
  (cap:∀ (i:Nat) (x:Str) (v:V),N'[i]? = some x -> σ'[i]? = some (some v) -> ((x,NameKind.free) ∈ scope.names /\ ∃ j:Nat,X.N[j]? = some x /\ σ[j]? = some (some v)) \/ ¬ G1 (relabel scope X.env) x) {tk:Nat} :
  Inv (rl X scope N' (s.heap.objs.size + 1) (cellsFrom (s.heap.objs.size + 2) scope.names (lJ X.env scope.names [])) s H fp pins) [] σ' (upd H s.heap.objs.size (.lst [])) { s with heap:=h0 s.heap scope,toks:=tk }:=by
 have hz1:(s.heap.push jP).objs.size=s.heap.objs.size + 1:=Heap.size_push ..
 have hz2:((s.heap.push jP).push uk).objs.size=s.heap.objs.size + 2:=by rw [Heap.size_push,hz1]
 have hfree:∀ y ∈ scope.names,y.2=.free -> ∃ c,X.env.cells.lookup y.1=some c:=fun y hy hk=>I.ok.has y.1 (B.free y hy hk).1
 have clm:∀ x c,(x,c) ∈ lJ X.env scope.names [] -> X.env.cells.lookup x=some c /\ (x,NameKind.free) ∈ scope.names:=fun x c h=>by
  rcases rC _ _ x c hfree h with h | h
  ·cases h
  ·exact h
 have cl_lt:∀ x c,(x,c) ∈ lJ X.env scope.names [] -> @LT.lt Nat _ c s.heap.objs.size:=fun x c h=>by
  obtain ⟨v,q⟩:=I.cell x c (clm x c h).1
  exact q.lt
 have csm:∀ x c,(x,c) ∈ cellsFrom (s.heap.objs.size + 2) scope.names (lJ X.env scope.names []) -> (X.env.cells.lookup x=some c /\ (x,NameKind.free) ∈ scope.names /\ @LT.lt Nat _ c s.heap.objs.size) \/ (@LE.le Nat _ (s.heap.objs.size + 2) c /\ (x,NameKind.cell) ∈ scope.names):=fun x c h=>by
  rcases vJ _ _ _ x c h with h | h
  ·exact .inl ⟨(clm x c h).1,(clm x c h).2,cl_lt x c h⟩
  ·exact .inr h
 have hD:H s.heap.objs.size=none:=I.fresh
 have up:∀ b:Addr,@LT.lt Nat _ b s.heap.objs.size -> upd H s.heap.objs.size (.lst []) b=H b:=fun b hb=>aO (Nat.ne_of_lt hb)
 have upF:∀ b:Addr,@LT.lt Nat _ s.heap.objs.size b -> upd H s.heap.objs.size (.lst []) b=none:=fun b hb=>by rw [aO (Nat.ne_of_gt hb)]; exact I.hok.fresh (Nat.le_of_lt hb)
 have flt:∀ b ∈ fp,@LT.lt Nat _ b s.heap.objs.size:=fun b hb=>by obtain ⟨o,e⟩:=ho b hb; exact Heap.lt_size e
 refine ⟨⟨I.ok.mod,B.kind,I.ok.glob,I.ok.blt,Nat.le_succ _,fun x y c h1 h2=>?_,fun x hx=>?_,fun x c hx h=>?_,I.ok.hd,I.ok.frames,.inl rfl,fun b hb=>⟨?_,fun x c h=>?_⟩,I.bs,Nat.le_trans I.ok.bsz I.sz,fun b o e hb=>?_,fun b hb z=>?_,I.stack,I.stkFree⟩,
  rfl,I.bare,?_,⟨fun _=>none,?_,fun i x v e1 e2 e3=>?_⟩,fun x c h=>?_,upF _ (Nat.lt_succ_self _),fun x c h=>?_,fun p hp=>?_,?_,hl⟩
 ·exact vI _ _ _ (fun a b d ha hb=>I.ok.inj a b d (clm a d ha).1 (clm b d hb).1) (fun a d ha=>Nat.lt_of_lt_of_le (cl_lt a d ha) (Nat.le_add_right _ 2)) x y c (PySem.mem_of_lookup h1) (PySem.mem_of_lookup h2)
 ·have hm:∃ c,(x,c) ∈ cellsFrom (s.heap.objs.size + 2) scope.names (lJ X.env scope.names []):=by
   rcases u4 hx with h | h
   ·exact nU _ _ _ x (.inl h)
   ·exact nU _ _ _ x (.inr (m9 _ _ x (.inl h)))
  obtain ⟨c,hm⟩:=hm
  exact eh hm
 ·have hx':scope.names.lookup x=some .cell:=beq_iff_eq.mp hx
  rcases csm x c (PySem.mem_of_lookup h) with ⟨_,h2,_⟩ | ⟨h1,_⟩
  ·exact absurd (mem_of_lookupK hx') (B.free _ h2 rfl).2.1
  ·exact Nat.le_trans (Nat.le_add_right _ 2) h1
 ·exact Nat.ne_of_lt (Nat.lt_succ_of_lt (flt b hb))
 ·rcases csm x c (PySem.mem_of_lookup h) with ⟨h1,_,_⟩ | ⟨h1,_⟩
  ·exact (hf b hb).2.2.2.2.1 x c h1
  ·exact Nat.ne_of_gt (Nat.lt_of_lt_of_le (flt b hb) (Nat.le_trans (Nat.le_add_right _ 2) h1))
 ·rcases (hf b hb).2.2.2.1 with z | z
  ·exact I.ok.noex b o e z
  ·exact absurd (Nat.lt_of_lt_of_le (Heap.lt_size e) (Nat.le_trans I.ok.bsz z)) (Nat.lt_irrefl _)
 ·rcases List.mem_cons.mp (I.stkSub b z) with z | z
  ·exact (hf b hb).2.1 z
  ·exact (hf b hb).2.2.1 z
 ·exact Un.laid (fun b o e=>fZ e) (Nat.le_refl _) hD
 ·have q:=Heap.Ns.new (s.heap.push jP) (.type "dict")
  rw [hz1] at q
  exact q.keeps fun b o e=>pushCells_keeps _ _ b o e
 ·rcases cap i x v e1 e2 with ⟨hx,j,hj,hv⟩ | hn
  ·obtain ⟨m,hm,hlk⟩:=I.loc
   have hk:=(B.free _ hx rfl).1
   have vis:G1 X.env.scope x:=by
    rcases hk with hk | hk
    ·exact .inr (.inl hk)
    ·exact .inr (.inr hk)
   obtain ⟨u,r,l⟩:=hlk j x v hj hv vis
   refine ⟨u,r,.inr ?_⟩
   rcases l with ⟨z,_⟩ | ⟨_,c,hc,hcell⟩
   ·rcases hk with hk | hk <;> (rw [show X.env.kindOf x=X.env.scope.names.lookup x from rfl] at hk z; rw [hk] at z; cases z)
   ·obtain ⟨c',hc'⟩:=eh (Classical.choose_spec (nU scope.names (s.heap.objs.size + 2) (lJ X.env scope.names []) x (.inr (m9 _ _ x (.inl hx)))))
    have ec:c'=c:=by
     rcases csm x c' (PySem.mem_of_lookup hc') with ⟨h1,_,_⟩ | ⟨_,h2⟩
     ·rw [hc] at h1; exact (Option.some.inj h1).symm
     ·exact absurd h2 (B.free _ hx rfl).2.1
    subst ec
    refine ⟨?_,c',hc',hcell.keeps fun b o e=>fZ e⟩
    rcases e3 with e3 | e3 | e3
    ·rcases fT (env:=X.env) (B.free _ hx rfl).2.2 with q | q
     ·exact .inl q
     ·exact .inr q
    ·exact .inl e3
    ·exact .inr e3
  ·exact absurd e3 hn
 ·rcases rB scope.names ((s.heap.push jP).push uk) (lJ X.env scope.names []) x c (by rw [hz2]; exact PySem.mem_of_lookup h) with m | m
  ·obtain ⟨v,q⟩:=I.cell x c (clm x c m).1
   exact ⟨v,q.keeps fun b o e=>fZ e⟩
  ·exact ⟨none,m⟩
 ·rcases csm x c (PySem.mem_of_lookup h) with ⟨h1,_,h3⟩ | ⟨h1,_⟩
  ·rw [up c h3]; exact I.freeC x c h1
  ·exact upF c (Nat.lt_of_lt_of_le (Nat.lt_add_of_pos_right (by decide)) h1)
 ·have hp':p ∈ X.pn ++ pins:=by simpa [rl] using hp
  obtain ⟨e,n,ne,nf,d⟩:=I.pin p hp'
  have lt:@LT.lt Nat _ p.1 s.heap.objs.size:=Heap.lt_size e
  refine ⟨fZ e,by rw [up _ lt]; exact n,Nat.ne_of_lt (Nat.lt_succ_of_lt lt),fun z=>?_,d⟩
  rcases List.mem_cons.mp (I.stkSub _ z) with z | z
  ·exact ne z
  ·exact nf z
 ·exact I.hok.laid (fun b o e=>fZ e) (Nat.le_refl _) ⟨Nat.zero_le _,[],0,.nil,Fj s.heap⟩
end
open PySem PySem.Spec PyProof.Rows L2
abbrev yJ (ifs:List Expr) (env:Env):Sem Bool:=forIn ifs true fun c r=>if r=true then do let ok <- isTrue c env (eval c env); pure (ForInStep.yield ok) else pure (ForInStep.yield r)
theorem qm {prog:Program} {w:World} {A:Around} {R:Result -> Shared -> Prop} {s:Shared} {elt target iter:Expr} {ifs:List Expr} {scope:Scope} {pos:Pos} {it acc:Value} {env:Env} (I:Nat -> Shared -> Prop)
  (turn:∀ n s,I n s -> wpAny (model prog w) A (pyNext it) (fun r s₁=>match r with
   | none=>R (.ok .next) s₁
   | some v=>wpAny (model prog w) A (letOwnedTupleGo target it v) (fun _ s₂=>wpAny (model prog w) A (assign target env v) (fun _ s₃=>wpAny (model prog w) A (yJ ifs env) (fun ok s₄ =>
     if ok=true then wpAny (model prog w) A (eval elt env) (fun x s₅=>wpAny (model prog w) A (call (.builtin "list.append") [acc,x]) (fun _ s₆=>∃ m,m < n /\ I m s₆) (fun _ _=>False) s₅) (fun _ _=>False) s₄
     else ∃ m,m < n /\ I m s₄) (fun _ _=>False) s₃) (fun _ _=>False) s₂) (fun _ _=>False) s₁) (fun _ _=>False) s)
  (n:Nat) (h:I n s):codeAny (model prog w) A (.compLoop (.ListComp elt [⟨target,iter,ifs,0⟩] scope pos) 0 it acc env) R s:=by
 have no:∀ {α:Type} {m:Sem α} {Q:α -> Shared -> Prop} {E:Value -> Shared -> Prop} {s:Shared},wpAny (model prog w) A m Q (fun _ _=>False) s -> wpAny (model prog w) A m Q E s:=fun h=>wpAny_mono h (fun _ _ q=>q) fun _ _ z=>z.elim
 refine codeAny_loop rfl I (fun n s hI=>?_) n h
 refine (wpAny_noted ?_:wpAny _ A ((compTurn (.ListComp elt [⟨target,iter,ifs,0⟩] scope pos) 0 it acc env).onRaise (fun x=>do noteFrame x env; theTreesLotGoes x)) _ _ s)
 rw [compTurn_list]
 refine wpAny_bind (wpAny_standAt (wpAny_bind (wpAny_mono (no (turn n s hI)) (fun r s₁ h₁=>?_) fun _ _ z=>z)))
 cases r with
 | none=>exact wpAny_pure h₁
 | some v =>
  refine wpAny_bind (wpAny_mono (no h₁) (fun _ s₂ h₂=>wpAny_bind (wpAny_mono (no h₂) (fun _ s₃ h₃=>wpAny_bind (wpAny_mono (no h₃) (fun ok s₄ h₄=>?_) fun _ _ z=>z)) fun _ _ z=>z)) fun _ _ z=>z)
  cases ok with
  | false=>exact wpAny_pure ⟨rfl,h₄⟩
  | true=>exact wpAny_bind (wpAny_bind (wpAny_mono (no h₄) (fun x s₅ h₅=>wpAny_bind (wpAny_mono (no h₅) (fun _ s₆ h₆=>wpAny_pure (wpAny_pure ⟨rfl,h₆⟩)) fun _ _ z=>z)) fun _ _ z=>z))
def cz:aP -> Bool
 | []=>true
 | some (.own _) :: _=>false
 | _ :: r=>cz r
theorem eG:∀ {τ:aP} {i:Nat} {ts:List T},cz τ=true -> τ[i]? ≠ some (some (.own ts))
 | [],i,ts,_=>by simp
 | some (.own _) :: _,i,ts,h=>by cases h
 | some (.sh t) :: r,0,ts,h=>by simp
 | none :: r,0,ts,h=>by simp
 | some (.sh t) :: r,i + 1,ts,h=>by rw [List.getElem?_cons_succ]; exact eG (τ:=r) h
 | none :: r,i + 1,ts,h=>by rw [List.getElem?_cons_succ]; exact eG (τ:=r) h
def c8 (fg:FG) (ft:FT) (fe:FE):List T -> aP -> List T -> Option (List T)
 | [],_,acc=>some acc
 | t :: ts,τ,acc=>(fg t τ).bind fun τ1=>(ft τ1).bind fun p=>if p.1=true then (fe p.2).bind fun q=>if cz q.2=true /\ acc.length < sizeLine then c8 fg ft fe ts q.2 (acc ++ [q.1]) else none
  else if cz p.2=true then c8 fg ft fe ts p.2 acc else none
def frz1 (j:Nat) (τ:aP):aP:=match τ[j]? with
 | some (some (.own ts))=>τ.set j (some (.sh (.lst ts)))
 | _=>τ
def frzAll:List Nat -> aP -> aP
 | [],τ=>τ
 | j :: r,τ=>frzAll r (frz1 j τ)
def ub {α:Type} (l:List (Option α)) (j:Nat):Option α:=match l[j]? with
 | some x=>x
 | none=>none
def cq {α:Type} (no:Nat) (cap:List Nat) (l:List (Option α)):List (Option α):=List.replicate no none ++ cap.map (ub l)
def bX (no:Nat) (cap:List Nat) (fi:FA) (fg:FG) (ft:FT) (fe:FE):FE:=fun τ=>(fi τ).bind fun p =>
 if cz (cq no cap (frzAll cap p.2))=true then (c8 fg ft fe p.1 (cq no cap (frzAll cap p.2)) []).bind fun us=>some (.lst us,frzAll cap p.2) else none
def ay:FT:=fun τ=>some (true,τ)
def Cw (X:Cx) (ifs:List Expr) (ft:FT):Prop:=∀ F₀ H₀ pins s σ H Q,Inv X pins σ H s -> tT X.K F₀ H₀ ft σ H Q -> wpAny (model X.prog X.w) X.A (yJ ifs X.env) (TP X pins σ Q) X.xe s
theorem bV {X:Cx}:Cw X [] ay:=fun F₀ H₀ pins s σ H Q I hq__=>by
 obtain ⟨F,τ,b,τ',E,e,q⟩:=hq__
 cases e
 exact wpAny_tests_nil ⟨H,I,q F H E (aS.refl _)⟩
theorem yH {X:Cx} {c:Expr} {ft:FT} (h:ST X c ft):Cw X [c] ft:=fun F₀ H₀ pins s σ H Q I q=>wpAny_tests_one (h F₀ H₀ pins s σ H Q I q)
section
variable {K:PySem.W.Frag} {F₀ H₀ F H:Hp} {σ:L2.St} {τ:aP}
theorem aJ.frz1 (E:aJ K F₀ H₀ F H σ τ) (j:Nat):∃ F',aJ K F₀ H₀ F' H σ (TM.frz1 j τ) /\ aS F F':=by
 unfold TM.frz1
 split
 ·next ts e =>
  obtain ⟨F',v,_,E',s',_⟩:=E.freeze e
  exact ⟨F',E',s'⟩
 ·exact ⟨F,E,aS.refl _⟩
theorem aJ.frzAll:∀ (cap:List Nat) {F:Hp} {τ:aP},aJ K F₀ H₀ F H σ τ -> ∃ F',aJ K F₀ H₀ F' H σ (TM.frzAll cap τ) /\ aS F F'
 | [],F,τ,E=>⟨F,E,aS.refl _⟩
 | j :: r,F,τ,E=>by
  obtain ⟨F1,E1,s1⟩:=E.frz1 j
  obtain ⟨F2,E2,s2⟩:=aJ.frzAll r E1
  exact ⟨F2,E2,s1.trans s2⟩
theorem aJ.rebase {H':Hp} (E:aJ K F₀ H₀ F H σ τ) (ha:cz τ=true) (s:aS F H'):aJ K F H' F H' σ τ:=by
 refine ⟨br.refl s,E.len,fun i sl e=>?_,fun i j ts us p _ e1=>absurd e1 (eG ha)⟩
 obtain ⟨v,h1,h2⟩:=E.sl i sl e
 cases sl with
 | sh t=>exact ⟨v,h1,h2⟩
 | own ts=>exact absurd e (eG ha)
theorem lH {α:Type} {no:Nat} {cap:List Nat} {l:List (Option α)} {i:Nat} {x:α} (h:(cq no cap l)[i]? = some (some x)):∃ k j:Nat,i=no + k /\ cap[k]? = some j /\ l[j]? = some (some x):=by
 unfold cq at h
 by_cases hi:i < no
 ·rw [List.getElem?_append_left (by simpa using hi),List.getElem?_replicate] at h
  split at h <;> cases h
 ·rw [List.getElem?_append_right (by simpa using hi),List.length_replicate,List.getElem?_map] at h
  cases e:cap[i - no]? with
  | none=>rw [e] at h; cases h
  | some j =>
   rw [e] at h
   have h':ub l j=some x:=Option.some.inj h
   unfold ub at h'
   split at h'
   ·next y ey=>exact ⟨i - no,j,by omega,e,by rw [ey,h']⟩
   ·cases h'
theorem y9 {α:Type} {no:Nat} {cap:List Nat} {l:List (Option α)} {k j:Nat} {x:α} (h1:cap[k]? = some j) (h2:l[j]? = some (some x)):(cq no cap l)[no + k]? = some (some x):=by
 unfold cq
 rw [List.getElem?_append_right (by simp),List.length_replicate,Nat.add_sub_cancel_left,List.getElem?_map,h1]
 show some (ub l j)=_
 unfold ub
 rw [h2]
theorem aJ.block {H':Hp} {no:Nat} {cap:List Nat} (E:aJ K F₀ H₀ F H σ τ) (ha:cz (cq no cap τ)=true) (s:aS F H'):aJ K F H' F H' (cq no cap σ) (cq no cap τ):=by
 refine ⟨br.refl s,by simp [cq],fun i sl e=>?_,fun i j ts us p _ e1=>absurd e1 (eG ha)⟩
 obtain ⟨k,j,rfl,hk,hj⟩:=lH e
 obtain ⟨v,h1,h2⟩:=E.sl j sl hj
 refine ⟨v,y9 hk h1,?_⟩
 cases sl with
 | sh t=>exact h2
 | own ts=>exact absurd e (eG ha)
end
section
variable {X:Cx}
structure CompEnd (X:Cx) (pins:List (Addr × Obj)) (σ:L2.St) (F₀ H₀ F:Hp) (τ:aP) (rs:List T) (D C:Addr) (s:Shared):Prop where
 ex:∃ (H F3:Hp) (vs:List V),Inv X pins σ H s /\ aJ X.K F₀ H₀ F3 H σ τ /\ aS F F3 /\ F3 D=none /\ H D=some (.lst vs) /\ H₀ D=none /\ aV X.K F3 rs vs /\ H C=none
 ns:∃ m,s.heap.Ns C m
 cl:C ≠ X.env.locals
 c0:X.s₀.heap.objs.size ≤ C
 cc:∀ x c,X.env.cells.lookup x=some c -> c ≠ C
 cp:∀ p ∈ X.pn ++ pins,p.1 ≠ C
 ow:∀ (j:Nat) us p,τ[j]? = some (some (.own us)) -> σ[j]? = some (some (.ref p)) -> p ≠ D
theorem ql {elt tg iter:Expr} {ifs:List Expr} {scope:Scope} {pos:Pos} {N':List Str} {no:Nat} {cap:List Nat} {fi:FA} {fg:FG} {ft:FT} {fe:FE} (hx:X.xe=fun _ _=>False) (hc:X.calm=true) (B:gu X scope) (hN:N'.length=no + cap.length)
  (hcap:∀ (k j:Nat),cap[k]? = some j -> ∃ x,N'[no + k]? = some x /\ X.N[j]? = some x /\ (x,NameKind.free) ∈ scope.names) (hi:SI X tg iter fi)
  (hg:∀ C cs s₀ H₀ fp pins,SG (rl X scope N' C cs s₀ H₀ fp pins) tg fg) (ht:∀ C cs s₀ H₀ fp pins,Cw (rl X scope N' C cs s₀ H₀ fp pins) ifs ft) (he:∀ C cs s₀ H₀ fp pins,SE (rl X scope N' C cs s₀ H₀ fp pins) elt fe)
  {F₀ H₀ F H:Hp} {pins:List (Addr × Obj)} {s:Shared} {σ:L2.St} {τ τ1:aP} {ts rs:List T} (I:Inv X pins σ H s) (E:aJ X.K F₀ H₀ F H σ τ) (e2:fi τ=some (ts,τ1)) (ha:cz (cq no cap (frzAll cap τ1))=true) (e3:c8 fg ft fe ts (cq no cap (frzAll cap τ1)) []=some rs)
  {post:Value -> Addr -> Result -> Shared -> Prop} (hpost:∀ D C s',CompEnd X pins σ F₀ H₀ F (frzAll cap τ1) rs D C s' -> post (.ref D) C (.ok .next) s') :
  wpAny (model X.prog X.w) X.A (eval iter X.env) (fun x s₁=>wpAny (model X.prog X.w) X.A (pyIter x) (fun it s₂=>wpAny (model X.prog X.w) X.A (newList []) (fun acc s₃ =>
   wpAny (model X.prog X.w) X.A (newFunctionEnv scope X.env.globals (lJ X.env scope.names []) [] X.env.qual none .none (some X.env)) (fun cenv s₄ =>
    codeAny (model X.prog X.w) X.A (.compStart (.ListComp elt [⟨tg,iter,ifs,0⟩] scope pos) 0 it acc { cenv with scope:=relabel scope X.env }) (post acc cenv.locals) s₄) X.xe s₃) X.xe s₂) X.xe s₁) X.xe s:=by
 refine dm (hi F₀ H₀ pins s σ H (fun J H1=>∃ F1,aJ X.K F₀ H₀ F1 H1 σ τ1 /\ aS F F1 /\ Walks X.K F1 ts J) I ⟨F,τ,ts,τ1,E,e2,fun F1 H1 J E1 s1 W=>⟨F1,E1,s1,W⟩⟩) fun v s1 h1=>dm h1 fun itv s2 h2=>?_
 obtain ⟨it,fp,tn,J,H1,rfl,I2,Tn,st2,f2,F1,E1,sF1,W⟩:=h2
 obtain ⟨F2,E2,sF2⟩:=E1.frzAll cap
 have W2:Walks X.K F2 ts J:=⟨fun i t F3 H3 e a b=>W.go i t F3 H3 e (sF2.trans a) b,fun i t F3 H3 x H4 e a b y=>W.yld i t F3 H3 x H4 e (sF2.trans a) b y,fun F3 H3 a b=>W.stop F3 H3 (sF2.trans a) b⟩
 refine wpAny_newObj_type ?_
 have hz:(s2.heap.push jP).objs.size=s2.heap.objs.size + 1:=Heap.size_push ..
 have hz2:((s2.heap.push jP).push uk).objs.size=s2.heap.objs.size + 2:=by rw [Heap.size_push,hz]
 simp only [newFunctionEnv,Option.isSome_some,if_true]
 refine wpAny_bind (wpAny_alloc ?_)
 refine wpAny_bind (wpAny_layCells _ (fun name kind cells=>by cases hkc:kind == NameKind.cell <;> simp [hkc]) _ _ _ _ ?_)
 simp only [List.forIn_nil]
 refine wpAny_bind (wpAny_pure (wpAny_pure ?_))
 have loop:codeAny (model X.prog X.w) X.A (.compLoop (.ListComp elt [⟨tg,iter,ifs,0⟩] scope pos) 0 (.ref it) (.ref s2.heap.objs.size) (gX X scope (s2.heap.objs.size + 1) (cellsFrom (s2.heap.objs.size + 2) scope.names (lJ X.env scope.names []))))
   (post (.ref s2.heap.objs.size) (s2.heap.objs.size + 1)) { s2 with heap:=h0 s2.heap scope }:=by
  have Ib:=qj (N':=N') (σ':=cq no cap σ) (tk:=s2.toks) I2 B f2 (fun b hb=>by obtain ⟨o,e,_⟩:=Tn.obj 0 _ st2 b hb; exact ⟨o,e⟩) (by simp [cq,hN]) (fun i x v a1 a2=>by
   obtain ⟨k,j,rfl,hk,hj⟩:=lH a2
   obtain ⟨x',b1,b2,b3⟩:=hcap k j hk
   rw [a1] at b1; cases b1
   exact .inl ⟨b3,j,b2,hj⟩)
  generalize hX':rl X scope N' (s2.heap.objs.size + 1) (cellsFrom (s2.heap.objs.size + 2) scope.names (lJ X.env scope.names [])) s2 H1 fp pins=X' at Ib
  have hg':SG X' tg fg:=by rw [<- hX']; exact hg _ _ _ _ _ _
  have ht':Cw X' ifs ft:=by rw [<- hX']; exact ht _ _ _ _ _ _
  have he':SE X' elt fe:=by rw [<- hX']; exact he _ _ _ _ _ _
  have xP:X'.prog=X.prog:=by rw [<- hX']; rfl
  have xw:X'.w=X.w:=by rw [<- hX']; rfl
  have xK:X'.K=X.K:=by rw [<- hX']; rfl
  have xA:X'.A=X.A:=by rw [<- hX']; rfl
  have xc:X'.calm=true:=by rw [<- hX']; exact hc
  have xx:X'.xe=fun _ _=>False:=by rw [<- hX']; rfl
  have xe':X'.env=gX X scope (s2.heap.objs.size + 1) (cellsFrom (s2.heap.objs.size + 2) scope.names (lJ X.env scope.names [])):=by rw [<- hX']; rfl
  have xex:X'.ex=fp:=by rw [<- hX']; rfl
  have xfs:X'.fs=zo X.stack:=by rw [<- hX']; rfl
  have xpn:X'.pn=X.pn ++ pins:=by rw [<- hX']; rfl
  have xs0:X'.s₀=s2:=by rw [<- hX']; rfl
  have xH0:X'.H₀=H1:=by rw [<- hX']; rfl
  have xl:X'.env.locals=s2.heap.objs.size + 1:=by rw [<- hX']; rfl
  rw [<- xe',<- xP,<- xw,<- xA]
  have hD1:H1 s2.heap.objs.size=none:=I2.fresh
  have fpk:∀ {Hc:Hp} {σc:L2.St} {pc:List (Addr × Obj)} {sc:Shared},Inv X' pc σc Hc sc -> (∀ b ∈ fp,Hc b=none) -> ∀ b ∈ fp,pJ X' [] Hc b:=fun {Hc σc pc sc} Ic hn b hb=>by
   have q1:=Ic.ok.exf b (by rw [xex]; exact hb)
   have q2:=Ic.ok.exfs b (by rw [xex]; exact hb)
   refine ⟨hn b hb,q1.1,q2,.inl (by rw [xex]; exact hb),q1.2,fun p hp=>?_⟩
   rw [xpn,List.append_nil] at hp
   exact (f2 b hb).2.2.2.2.2 p hp
  refine qm (fun n s3=>∃ i σ3 H3 F3 τ3 us vs,Inv X' [] σ3 H3 s3 /\ tn i s3.heap /\ (∀ b ∈ fp,H3 b=none) /\ aJ X.K F3 H3 F3 H3 σ3 τ3 /\ cz τ3=true /\ F3 s2.heap.objs.size=none /\ H3 s2.heap.objs.size=some (.lst vs) /\ aV X.K F3 us vs /\ aS F2 F3 /\ aS H1 H3 /\
   (∀ a o,F3 a=some o -> F2 a=some o \/ H1 a=none) /\ i ≤ ts.length /\ n=ts.length - i /\ c8 fg ft fe (ts.drop i) τ3 us=some rs) ?_ ts.length ?_
  ·rintro n s3 ⟨i,σ3,H3,F3,τ3,us,vs,I3,st3,fr3,E3,ha3,fD,hD,rv,sF,sH,nw,hi',rfl,ec⟩
   by_cases hlt:i < ts.length
   ·have hgi:ts[i]? = some ts[i]:=List.getElem?_eq_getElem hlt
    rw [List.drop_eq_getElem_cons hlt] at ec
    obtain ⟨τ4,e4,ec⟩:=bind_some ec
    obtain ⟨⟨b,τ5⟩,e5,ec⟩:=bind_some ec
    have go:=W2.go i _ F3 H3 hgi sF E3.g.fh
    have itm:=(xP ▸ xw ▸ xK ▸ Tn:Turn X'.prog X'.w X'.K tg J fp it tn).item X' rfl rfl rfl xc i [] s3 σ3 H3 (fun _ _=>False) I3 (fpk I3 fr3) st3 go
    refine dm itm fun r s4 ⟨u,hr,h4⟩=>?_
    subst hr
    refine dm h4 fun _ s5 ⟨x,H5,I5,r5,y5,st5,fr5⟩=>?_
    have I5':=I5.pinned (fpk I5 fr5) (Tn.obj _ _ st5)
    obtain ⟨F5,gr,rx⟩:=W2.yld i _ F3 H3 x H5 hgi sF E3.g.fh y5
    have a1:=hg' F3 H3 _ s5 σ3 H5 x u (fun σ6 H6=>∃ F6,aJ X.K F3 H3 F6 H6 σ6 τ4 /\ aS F5 F6) I5' r5 (by rw [xK]; exact ⟨F5,τ3,ts[i],τ4,E3.grow gr,rx,e4,fun F6 H6 σ6 E6 s6=>⟨F6,E6,s6⟩⟩)
    rw [xx] at a1
    refine dm a1 fun _ s6 ⟨σ6,H6,I6,F6,E6,sF6⟩=>?_
    have a2:=ht' F3 H3 _ s6 σ6 H6 (fun b' H7=>b'=b /\ ∃ F7,aJ X.K F3 H3 F7 H7 σ6 τ5 /\ aS F6 F7) I6 (by rw [xK]; exact ⟨F6,τ4,b,τ5,E6,e5,fun F7 H7 E7 s7=>⟨rfl,F7,E7,s7⟩⟩)
    rw [xx] at a2
    refine dm a2 fun ok s7 ⟨H7,I7,hok,F7,E7,sF7⟩=>?_
    subst hok
    have tail:∀ {σc:L2.St} {Hc:Hp} {sc:Shared},Inv X' ([] ++ lY fp s5.heap) σc Hc sc -> tn (i + 1) sc.heap /\ ∀ b ∈ fp,Hc b=none:=fun {σc Hc sc} Ic=>by
     refine ⟨Tn.keep _ _ _ st5 fun b hb o e=>(Ic.pin (b,o) (List.mem_append_right _ (List.mem_append_right _ (fu hb e)))).1,fun b hb=>?_⟩
     obtain ⟨o,e,d⟩:=Tn.obj _ _ st5 b hb
     exact (Ic.pin (b,o) (List.mem_append_right _ (List.mem_append_right _ (fu hb e)))).2.1
    have keepD:∀ {Fc Hc:Hp} {σc:L2.St} {τc:aP},aJ X.K F3 H3 Fc Hc σc τc -> Fc s2.heap.objs.size=none:=fun {Fc Hc σc τc} Ec=>by
     cases eF:Fc s2.heap.objs.size with
     | none=>rfl
     | some o =>
      rcases Ec.g.nw _ o eF with z | z
      ·rw [fD] at z; cases z
      ·rw [hD] at z; cases z
    have newF:∀ {Fc Hc:Hp} {σc:L2.St} {τc:aP},aJ X.K F3 H3 Fc Hc σc τc -> ∀ a o,Fc a=some o -> F2 a=some o \/ H1 a=none:=fun {Fc Hc σc τc} Ec a o eF=>by
     rcases Ec.g.nw a o eF with z | z
     ·exact nw a o z
     ·exact .inr (sH.free z)
    cases b':ok with
    | false =>
     subst b'
     dsimp only at ec
     rw [if_neg (by decide)] at ec
     split at ec
     ·next ha =>
      rw [if_neg (by decide)]
      obtain ⟨t1,t2⟩:=tail I7
      exact ⟨ts.length - (i + 1),by omega,i + 1,σ6,H7,F7,τ5,us,vs,I7.unpinned,t1,t2,E7.rebase ha E7.g.fh,ha,keepD E7,E7.g.sH _ _ hD,aV.mono E7.g.sF rv,sF.trans E7.g.sF,sH.trans E7.g.sH,newF E7,hlt,rfl,ec⟩
     ·cases ec
    | true =>
     subst b'
     dsimp only at ec
     rw [if_pos rfl] at ec
     rw [if_pos rfl]
     obtain ⟨⟨y0,τ6⟩,e6,ec⟩:=bind_some ec
     dsimp only at ec
     split at ec
     ·next ha =>
      have a3:=he' F3 H3 _ s7 σ6 H7 (fun y H8=>∃ F8,aJ X.K F3 H3 F8 H8 σ6 τ6 /\ Rep X.K F8 y0 y) I7 (by rw [xK]; exact ⟨F7,τ5,y0,τ6,E7,e6,fun F8 H8 y E8 s8 r8=>⟨F8,E8,r8⟩⟩)
      rw [xx] at a3
      refine dm a3 fun yv s8 ⟨y,H8,I8,ry,F8,E8,rp⟩=>?_
      have dD:H8 s2.heap.objs.size=some (.lst vs):=E8.g.sH _ _ hD
      have a4:=lV (X:=X') _ s8 σ6 H8 (.ref s2.heap.objs.size) [y] (.ref s2.heap.objs.size) [yv] (fun _ H9=>H9=upd H8 s2.heap.objs.size (.lst (vs ++ [y]))) I8 rfl (.cons ry .nil) ⟨s2.heap.objs.size,vs,y,rfl,rfl,dD,by rw [rv.length]; exact ha.2,rfl⟩
      rw [xx] at a4
      refine dm a4 fun _ s9 ⟨_,H9,I9,_,e9⟩=>?_
      subst e9
      obtain ⟨t1,t2⟩:=tail I9
      have kD:=keepD E8
      have sm:aS F8 (upd H8 s2.heap.objs.size (.lst (vs ++ [y]))):=fun c o z=>by rw [aO (fun w=>by subst w; rw [kD] at z; cases z)]; exact E8.g.fh _ _ z
      have sm1:aS H1 (upd H8 s2.heap.objs.size (.lst (vs ++ [y]))):=fun c o z=>by rw [aO (fun w=>by subst w; rw [hD1] at z; cases z)]; exact E8.g.sH _ _ (sH _ _ z)
      exact ⟨ts.length - (i + 1),by omega,i + 1,σ6,_,F8,τ6,us ++ [y0],vs ++ [y],I9.unpinned,t1,t2,E8.rebase ha.1 sm,ha.1,kD,aX,(aV.mono E8.g.sF rv).append (.one rp),sF.trans E8.g.sF,sm1,newF E8,hlt,rfl,ec⟩
     ·cases ec
   ·have hie:i=ts.length:=by omega
    subst hie
    rw [List.drop_length] at ec
    cases ec
    have dn:=(xP ▸ xw ▸ xK ▸ Tn:Turn X'.prog X'.w X'.K tg J fp it tn).done X' rfl rfl rfl xc ts.length [] s3 σ3 H3 (fun _ _=>False) I3 (fpk I3 fr3) st3 (W2.stop F3 H3 sF E3.g.fh)
    refine dm dn fun r s4 ⟨hr,I4⟩=>?_
    subst hr
    obtain ⟨m4,hm4,_⟩:=I4.loc
    rw [xl] at hm4
    have un:=I4.base
    rw [xfs,xex,xH0,xs0] at un
    have ox:=I4.os
    rw [xs0] at ox
    have hok4:=I4.hok
    rw [xP,xw] at hok4
    have IX:Inv X pins σ H3 s4:=I2.call' ox un hok4 I4.bare fun b hb=>⟨(f2 b hb).2.2.2.1,(f2 b hb).2.1,(f2 b hb).2.2.2.2.1,(f2 b hb).2.2.2.2.2⟩
    have hC:H3 (s2.heap.objs.size + 1)=none:=by have:=I4.free; rw [xl] at this; exact this
    have lC:@LT.lt Nat _ X.env.locals s2.heap.objs.size:=I2.lt
    have gr:br F2 H1 F3 H3:=⟨sF,sH,E3.g.fh,nw⟩
    refine hpost _ _ _ ⟨⟨H3,F3,vs,IX,E2.grow gr,(sF1.trans sF2).trans sF,fD,hD,E2.g.sH.free hD1,rv,hC⟩,⟨m4,hm4⟩,Nat.ne_of_gt (Nat.lt_succ_of_lt lC),Nat.le_trans I2.sz (Nat.le_succ _),
     fun x c hxc=>by obtain ⟨v,z⟩:=I2.cell x c hxc; exact Nat.ne_of_lt (Nat.lt_succ_of_lt z.lt),fun p hp=>Nat.ne_of_lt (Nat.lt_succ_of_lt (Heap.lt_size (I2.pin p hp).1)),fun j us p j1 j2=>?_⟩
    obtain ⟨v,k1,p',vs',rfl,k2,_⟩:=E2.sl j _ j1
    rw [j2] at k1; cases k1
    exact bO k2 hD1
  ·refine ⟨0,cq no cap σ,upd H1 s2.heap.objs.size (.lst []),F2,cq no cap (frzAll cap τ1),[],[],Ib,Tn.keep _ _ _ st2 fun b hb o e=>fZ e,fun b hb=>?_,E2.block ha (E2.g.fh.trans (cX hD1)),ha,E2.g.fh.free hD1,aX,rfl,aS.refl _,cX hD1,fun a o z=>.inl z,Nat.zero_le _,rfl,e3⟩
   obtain ⟨o,e,_⟩:=Tn.obj 0 _ st2 b hb
   rw [aO (Nat.ne_of_lt (Heap.lt_size e))]
   exact (f2 b hb).1
 have fin:∀ {C:Addr} {cs:List (Str × Addr)},C=s2.heap.objs.size + 1 -> cs=cellsFrom (s2.heap.objs.size + 2) scope.names (lJ X.env scope.names []) ->
   codeAny (model X.prog X.w) X.A (.compStart (.ListComp elt [⟨tg,iter,ifs,0⟩] scope pos) 0 (.ref it) (.ref s2.heap.objs.size) (gX X scope C cs)) (post (.ref s2.heap.objs.size) C) { s2 with heap:=h0 s2.heap scope }:=fun {C cs} h1 h2=>by
  subst h1 h2
  exact codeAny_compStart_list loop (Tn.self _ 0 _ _ _ (Tn.keep _ _ _ st2 fun b hb o e=>fZ e) loop)
 exact fin hz (by rw [<- hz2])
theorem cJ {elt tg iter:Expr} {ifs:List Expr} {scope:Scope} {pos:Pos} {N':List Str} {no:Nat} {cap:List Nat} {fi:FA} {fg:FG} {ft:FT} {fe:FE} (hx:X.xe=fun _ _=>False) (hc:X.calm=true) (B:gu X scope) (hN:N'.length=no + cap.length)
  (hcap:∀ (k j:Nat),cap[k]? = some j -> ∃ x,N'[no + k]? = some x /\ X.N[j]? = some x /\ (x,NameKind.free) ∈ scope.names) (hi:SI X tg iter fi)
  (hg:∀ C cs s₀ H₀ fp pins,SG (rl X scope N' C cs s₀ H₀ fp pins) tg fg) (ht:∀ C cs s₀ H₀ fp pins,Cw (rl X scope N' C cs s₀ H₀ fp pins) ifs ft) (he:∀ C cs s₀ H₀ fp pins,SE (rl X scope N' C cs s₀ H₀ fp pins) elt fe)
  (hs:∀ x,foldedSetIterable iter X.env x=pure x:=by intro _; rfl):SE X (.ListComp elt [⟨tg,iter,ifs,0⟩] scope pos) (bX no cap fi fg ft fe):=by
 intro F₀ H₀ pins s σ H Q I ⟨F,τ,t,τ',E,e1,q⟩
 obtain ⟨⟨ts,τ1⟩,e2,e1⟩:=bind_some e1
 dsimp only at e1
 split at e1
 ·next ha =>
  obtain ⟨rs,e3,e1⟩:=bind_some e1
  cases e1
  have hfree:∀ y ∈ scope.names,y.2=.free -> ∃ c,X.env.cells.lookup y.1=some c:=fun y hy hk=>I.ok.has y.1 (B.free y hy hk).1
  rw [eval_ListComp]
  refine wpAny_comprehension_free (use:=none) rfl hs (jX hfree) B.kind B.names (ql hx hc B hN hcap hi hg ht he I E e2 ha e3 fun D C s' Z=>?_)
  obtain ⟨H3,F3,vs,IX,E3,sF,fD,hD,h0D,rv,hC⟩:=Z.ex
  obtain ⟨m,hm⟩:=Z.ns
  refine ⟨m,hm,fun h' sb=>⟨.ref D,H3,IX.turned (t':=s'.toks) (it:=C) (fun b o hb e=>(sb.2 b hb).trans e) hC Z.cl (.inr Z.c0) Z.cc Z.cp,rfl,?_⟩⟩
  have gr:br F3 H3 (upd F3 D (.lst vs)) H3 \/ True:=.inr trivial
  have sU:aS F3 (upd F3 D (.lst vs)):=cX fD
  refine q (upd F3 D (.lst vs)) H3 (.ref D) ⟨⟨E3.g.sF.trans sU,E3.g.sH,fun c o z=>?_,fun c o z=>?_⟩,E3.len,fun j sl ej=>?_,E3.dj⟩ (sF.trans sU) ⟨D,vs,rfl,aX,aV.mono sU rv⟩
  ·by_cases w:c=D
   ·subst w; rw [aX] at z; cases z; exact hD
   ·rw [aO w] at z; exact E3.g.fh _ _ z
  ·by_cases w:c=D
   ·subst w; exact .inr h0D
   ·rw [aO w] at z; exact E3.g.nw _ _ z
  ·obtain ⟨v,k1,k2⟩:=E3.sl j sl ej
   refine ⟨v,k1,?_⟩
   cases sl with
   | sh t=>exact Rep.mono sU k2
   | own us =>
    obtain ⟨p,ws,rfl,g2,g3,g4,g5⟩:=k2
    exact ⟨p,ws,rfl,g2,by rw [aO (Z.ow j us p ej k1)]; exact g3,g4,aV.mono sU g5⟩
 ·cases e1
theorem aJ.putOwn {K:PySem.W.Frag} {F₀ H₀ F H:Hp} {σ:L2.St} {τ:aP} {i:Nat} {rs:List T} {vs:List V} {D:Addr} (E:aJ K F₀ H₀ F H σ τ) (fD:F D=none) (hD:H D=some (.lst vs)) (h0:H₀ D=none) (r:aV K F rs vs)
  (ow:∀ (j:Nat) us p,τ[j]? = some (some (.own us)) -> σ[j]? = some (some (.ref p)) -> p ≠ D):aJ K F₀ H₀ F H (σ.set i (some (.ref D))) (τ.set i (some (.own rs))):=by
 refine ⟨E.g,by simp [E.len],fun j s e=>?_,fun j k ts' us q hjk e1 e2 e3 e4=>?_⟩
 ·by_cases hj:i=j
  ·subst hj
   by_cases hl:i < τ.length
   ·rw [List.getElem?_set_self hl] at e
    cases e
    exact ⟨.ref D,List.getElem?_set_self (by rw [E.len]; exact hl),D,vs,rfl,hD,fD,h0,r⟩
   ·rw [List.getElem?_eq_none (by simp; omega)] at e; cases e
  ·rw [List.getElem?_set_ne hj] at e
   rw [List.getElem?_set_ne hj]
   exact E.sl j s e
 ·by_cases hj:i=j
  ·subst hj
   rw [List.getElem?_set_ne hjk] at e2 e4
   by_cases hl:i < τ.length
   ·rw [List.getElem?_set_self (by rw [E.len]; exact hl)] at e3
    cases e3
    exact ow k us _ e2 e4 rfl
   ·rw [List.getElem?_eq_none (by simp; omega)] at e1; cases e1
  ·rw [List.getElem?_set_ne hj] at e1 e3
   by_cases hk:i=k
   ·subst hk
    by_cases hl:i < τ.length
    ·rw [List.getElem?_set_self (by rw [E.len]; exact hl)] at e4
     cases e4
     exact ow j ts' _ e1 e3 rfl
    ·rw [List.getElem?_eq_none (by simp; omega)] at e2; cases e2
   ·rw [List.getElem?_set_ne hk] at e2 e4
    exact E.dj j k ts' us q hjk e1 e2 e3 e4
def d3 (i no:Nat) (cap:List Nat) (fi:FA) (fg:FG) (ft:FT) (fe:FE):FS:=fun τ=>(fi τ).bind fun p =>
 if cz (cq no cap (frzAll cap p.2))=true then (c8 fg ft fe p.1 (cq no cap (frzAll cap p.2)) []).bind fun us=>some (.nx ((frzAll cap p.2).set i (some (.own us)))) else none
theorem kj {i:Nat} {y:Str} {py spos:Pos} {elt tg iter:Expr} {ifs:List Expr} {scope:Scope} {pos:Pos} {N':List Str} {no:Nat} {cap:List Nat} {fi:FA} {fg:FG} {ft:FT} {fe:FE} (hNd:X.N.Nodup) (hiy:X.N[i]? = some y) (hy:X.env.scope.names.lookup y=some .local)
  (hx:X.xe=fun _ _=>False) (hc:X.calm=true) (B:gu X scope) (hN:N'.length=no + cap.length)
  (hcap:∀ (k j:Nat),cap[k]? = some j -> ∃ x,N'[no + k]? = some x /\ X.N[j]? = some x /\ (x,NameKind.free) ∈ scope.names) (hi:SI X tg iter fi)
  (hg:∀ C cs s₀ H₀ fp pins,SG (rl X scope N' C cs s₀ H₀ fp pins) tg fg) (ht:∀ C cs s₀ H₀ fp pins,Cw (rl X scope N' C cs s₀ H₀ fp pins) ifs ft) (he:∀ C cs s₀ H₀ fp pins,SE (rl X scope N' C cs s₀ H₀ fp pins) elt fe)
  (hsw:swapsWith (.ListComp elt [⟨tg,iter,ifs,0⟩] scope pos) (some (.Name y py)) spos.line X.env=pure true:=by rfl) (hs:∀ x,foldedSetIterable iter X.env x=pure x:=by intro _; rfl) :
  SS X (.Assign [.Name y py] (.ListComp elt [⟨tg,iter,ifs,0⟩] scope pos) spos) (d3 i no cap fi fg ft fe):=by
 intro F₀ H₀ pins s σ H Dn I ⟨F,τ,r,E,e1,q⟩
 obtain ⟨⟨ts,τ1⟩,e2,e1⟩:=bind_some e1
 dsimp only at e1
 split at e1
 ·next ha =>
  obtain ⟨rs,e3,e1⟩:=bind_some e1
  cases e1
  have hfree:∀ y ∈ scope.names,y.2=.free -> ∃ c,X.env.cells.lookup y.1=some c:=fun y hy hk=>I.ok.has y.1 (B.free y hy hk).1
  rw [exec_Assign_Name_used _ _ _ _ hsw]
  refine wpAny_bind (wpAny_standAt (wpAny_bind (?_:wpAny _ X.A (do let _ <- comprehension (.ListComp elt [⟨tg,iter,ifs,0⟩] scope pos) scope X.env _ (newList []) false (eval iter X.env) (some (assign (.Name y py) X.env))) _ _ s)))
  refine wpAny_bind (dm (wpAny_comprehension_free (use:=some (assign (.Name y py) X.env)) (Q:=fun _ s'=>SP X pins Dn .next s') rfl hs (jX hfree) B.kind B.names (ql hx hc B hN hcap hi hg ht he I E e2 ha e3 fun D C s' Z=>?_)) fun _ s' hq=>wpAny_pure (wpAny_pure hq))
  obtain ⟨H3,F3,vs,IX,E3,sF,fD,hD,h0D,rv,hC⟩:=Z.ex
  obtain ⟨m,hm⟩:=Z.ns
  refine (wpAny_assign_Name (qN IX hNd hiy (.inl hy) (v:=.ref D) rfl (fun s'' I'' w=>?_) (.inr hy)):wpAny _ X.A (assign (.Name y py) X.env (.ref D)) _ _ _)
  obtain ⟨a,sb,hab⟩:=w
  have aC:C ≠ a:=fun z=>by
   subst z
   rcases hab with z | z
   ·exact Z.cl z
   ·exact Z.cc _ _ z rfl
  refine ⟨m,hm.sameBut sb aC,fun h' sb'=>⟨_,H3,I''.turned (t':=s''.toks) (it:=C) (fun b o hb e=>(sb'.2 b hb).trans e) hC Z.cl (.inr Z.c0) Z.cc Z.cp,?_⟩⟩
  exact q F3 H3 _ (E3.putOwn fD hD h0D rv Z.ow) sF
 ·cases e1
end
def ua (sc scope:Scope):Bool:=scope.kind == .function && scope.names.all fun y=>(y.2 != .local || scope.names.lookup y.1 == some .local) &&
 (y.2 != .free || ((sc.names.lookup y.1 == some .cell || sc.names.lookup y.1 == some .free) && scope.names.all (fun z=>!(z.1 == y.1 && z.2 == .cell)) && scope.names.lookup y.1 == some .free))
theorem aQ {X:Cx} {scope:Scope} (h:ua X.env.scope scope=true):gu X scope:=by
 unfold ua at h
 simp only [Bool.and_eq_true,List.all_eq_true,Bool.or_eq_true,bne_iff_ne,beq_iff_eq,Bool.not_eq_true',Bool.and_eq_false_iff,ne_eq] at h
 refine ⟨h.1,fun y hy hk=>?_,fun y hy hk=>?_⟩
 ·rcases (h.2 y hy).1 with z | z
  ·exact absurd hk z
  ·exact z
 ·rcases (h.2 y hy).2 with z | ⟨⟨z1,z2⟩,z3⟩
  ·exact absurd hk z
  ·refine ⟨z1,fun m=>?_,z3⟩
   rcases z2 _ m with w | w
   ·simp at w
   ·simp at w
def nS (N N':List Str) (scope:Scope) (no:Nat):List Nat -> Bool
 | []=>true
 | j :: r=>(match N'[no]?,N[j]? with | some x,some y=>x == y && scope.names.any (fun z=>z.1 == x && z.2 == .free) | _,_=>false) && nS N N' scope (no + 1) r
theorem ck {N N':List Str} {scope:Scope}:∀ {no:Nat} {cap:List Nat},nS N N' scope no cap=true -> ∀ (k j:Nat),cap[k]? = some j -> ∃ x,N'[no + k]? = some x /\ N[j]? = some x /\ (x,NameKind.free) ∈ scope.names
 | no,[],_,k,j,e=>by simp at e
 | no,c :: r,h,k,j,e=>by
  simp only [nS,Bool.and_eq_true] at h
  cases k with
  | zero =>
   simp at e
   subst e
   have h1:=h.1
   split at h1
   ·next x y ex ey =>
    simp only [Bool.and_eq_true,beq_iff_eq,List.any_eq_true] at h1
    obtain ⟨rfl,z,hz,z1,z2⟩:=h1
    refine ⟨x,ex,ey,?_⟩
    obtain ⟨a,b⟩:=z
    dsimp only at z1 z2
    subst z1 z2
    exact hz
   ·cases h1
  | succ k =>
   obtain ⟨x,h1,h2,h3⟩:=ck h.2 k j (by simpa using e)
   exact ⟨x,by rw [show no + (k + 1)=no + 1 + k by omega]; exact h1,h2,h3⟩
open PySem PySem.Spec PyProof.Rows L2
inductive O where
 | val (t:T) | lst (os:List O)
mutual
def dM (K:PySem.W.Frag) (F H:Hp):O -> V -> List Addr -> Prop
 | .val t,v,A=>A=[] /\ Rep K F t v
 | .lst os,v,A=>∃ p vs B,v=.ref p /\ A=p :: B /\ H p=some (.lst vs) /\ F p=none /\ bz K F H os vs B
def bz (K:PySem.W.Frag) (F H:Hp):List O -> List V -> List Addr -> Prop
 | [],vs,A=>vs=[] /\ A=[]
 | o :: os,vs,A=>∃ v r B C,vs=v :: r /\ A=B ++ C /\ dM K F H o v B /\ bz K F H os r C
end
mutual
def O.tr:O -> T
 | .val t=>t
 | .lst os=>.lst (O.trs os)
def O.trs:List O -> List T
 | []=>[]
 | o :: os=>o.tr :: O.trs os
end
section
variable {K:PySem.W.Frag} {F H F' H':Hp}
mutual
theorem dM.move (sF:aS F F'):∀ {o:O} {v:V} {A:List Addr},(∀ a ∈ A,H' a=H a /\ F' a=none) -> dM K F H o v A -> dM K F' H' o v A
 | .val t,v,A,_,h=>⟨h.1,Rep.mono sF h.2⟩
 | .lst os,v,A,hA,h=>by
  obtain ⟨p,vs,B,rfl,rfl,h1,h2,h3⟩:=h
  have hp:=hA p List.mem_cons_self
  exact ⟨p,vs,B,rfl,rfl,hp.1.trans h1,hp.2,bz.move sF (fun a ha=>hA a (List.mem_cons_of_mem _ ha)) h3⟩
theorem bz.move (sF:aS F F'):∀ {os:List O} {vs:List V} {A:List Addr},(∀ a ∈ A,H' a=H a /\ F' a=none) -> bz K F H os vs A -> bz K F' H' os vs A
 | [],vs,A,_,h=>h
 | o :: os,vs,A,hA,h=>by
  obtain ⟨v,r,B,C,rfl,rfl,h1,h2⟩:=h
  exact ⟨v,r,B,C,rfl,rfl,dM.move sF (fun a ha=>hA a (List.mem_append_left _ ha)) h1,bz.move sF (fun a ha=>hA a (List.mem_append_right _ ha)) h2⟩
end
mutual
theorem dM.at:∀ {o:O} {v:V} {A:List Addr},dM K F H o v A -> ∀ a ∈ A,F a=none /\ ∃ vs,H a=some (.lst vs)
 | .val t,v,A,h,a,ha=>by rw [h.1] at ha; cases ha
 | .lst os,v,A,h,a,ha=>by
  obtain ⟨p,vs,B,rfl,rfl,h1,h2,h3⟩:=h
  rcases List.mem_cons.mp ha with rfl | ha
  ·exact ⟨h2,vs,h1⟩
  ·exact bz.at h3 a ha
theorem bz.at:∀ {os:List O} {vs:List V} {A:List Addr},bz K F H os vs A -> ∀ a ∈ A,F a=none /\ ∃ vs,H a=some (.lst vs)
 | [],vs,A,h,a,ha=>by rw [h.2] at ha; cases ha
 | o :: os,vs,A,h,a,ha=>by
  obtain ⟨v,r,B,C,rfl,rfl,h1,h2⟩:=h
  rcases List.mem_append.mp ha with ha | ha
  ·exact dM.at h1 a ha
  ·exact bz.at h2 a ha
end
mutual
theorem dM.rep (sF:aS F F'):∀ {o:O} {v:V} {A:List Addr},(∀ a ∈ A,F' a=H a) -> dM K F H o v A -> Rep K F' o.tr v
 | .val t,v,A,_,h=>Rep.mono sF h.2
 | .lst os,v,A,hA,h=>by
  obtain ⟨p,vs,B,rfl,rfl,h1,h2,h3⟩:=h
  exact ⟨p,vs,rfl,(hA p List.mem_cons_self).trans h1,bz.rep sF (fun a ha=>hA a (List.mem_cons_of_mem _ ha)) h3⟩
theorem bz.rep (sF:aS F F'):∀ {os:List O} {vs:List V} {A:List Addr},(∀ a ∈ A,F' a=H a) -> bz K F H os vs A -> aV K F' (O.trs os) vs
 | [],vs,A,_,h=>h.1
 | o :: os,vs,A,hA,h=>by
  obtain ⟨v,r,B,C,rfl,rfl,h1,h2⟩:=h
  exact ⟨v,r,rfl,dM.rep sF (fun a ha=>hA a (List.mem_append_left _ ha)) h1,bz.rep sF (fun a ha=>hA a (List.mem_append_right _ ha)) h2⟩
end
theorem bz.app:∀ {os us:List O} {vs ws:List V} {A B:List Addr},bz K F H os vs A -> bz K F H us ws B -> bz K F H (os ++ us) (vs ++ ws) (A ++ B)
 | [],_,_,_,_,_,h,h'=>by obtain ⟨rfl,rfl⟩:=h; exact h'
 | o :: os,_,_,_,_,_,h,h'=>by
  obtain ⟨v,r,B,C,rfl,rfl,h1,h2⟩:=h
  exact ⟨v,r ++ _,B,C ++ _,rfl,by rw [List.append_assoc],h1,bz.app h2 h'⟩
theorem bz.one {o:O} {v:V} {A:List Addr} (h:dM K F H o v A):bz K F H [o] [v] A:=⟨v,[],A,[],rfl,by simp,h,rfl,rfl⟩
theorem bz.length:∀ {os:List O} {vs:List V} {A:List Addr},bz K F H os vs A -> vs.length=os.length
 | [],_,_,h=>by rw [h.1]; rfl
 | o :: os,_,_,h=>by
  obtain ⟨v,r,B,C,rfl,rfl,h1,h2⟩:=h
  simp [bz.length h2]
theorem bz.split:∀ {os:List O} {vs:List V} {A:List Addr} {k:Nat} {o:O},bz K F H os vs A -> os[k]? = some o ->
  ∃ (ws:List V) (v:V) (xs:List V) (B C D:List Addr),vs=ws ++ v :: xs /\ ws.length=k /\ A=B ++ (C ++ D) /\ bz K F H (os.take k) ws B /\ dM K F H o v C /\ bz K F H (os.drop (k + 1)) xs D
 | [],_,_,k,o,h,e=>by simp at e
 | o :: os,_,_,0,o',h,e=>by
  obtain ⟨v,r,B,C,rfl,rfl,h1,h2⟩:=h
  simp at e; subst e
  exact ⟨[],v,r,[],B,C,rfl,rfl,rfl,⟨rfl,rfl⟩,h1,by simpa using h2⟩
 | o :: os,_,_,k + 1,o',h,e=>by
  obtain ⟨v,r,B,C,rfl,rfl,h1,h2⟩:=h
  obtain ⟨ws,w,xs,B',C',D',rfl,rfl,rfl,g1,g2,g3⟩:=bz.split (k:=k) h2 (by simpa using e)
  exact ⟨v :: ws,w,xs,B ++ B',C',D',rfl,rfl,by simp [List.append_assoc],⟨v,ws,B,B',rfl,rfl,h1,g1⟩,g2,by simpa using g3⟩
def frzO (F H:Hp) (A:List Addr):Hp:=fun a=>if a ∈ A then H a else F a
theorem kP {A:List Addr} {a:Addr} (h:a ∈ A):frzO F H A a=H a:=if_pos h
theorem fN {A:List Addr} {a:Addr} (h:a ∉ A):frzO F H A a=F a:=if_neg h
theorem eJ {A:List Addr} (h:∀ a ∈ A,F a=none):aS F (frzO F H A):=fun a o e=>by
 rw [fN (fun m=>by rw [h a m] at e; cases e)]; exact e
theorem dM.frz {o:O} {v:V} {A:List Addr} (h:dM K F H o v A):Rep K (frzO F H A) o.tr v:=dM.rep (eJ fun a ha=>(h.at a ha).1) (fun a ha=>kP ha) h
theorem br.frzO {F₀ H₀:Hp} {A:List Addr} (g:br F₀ H₀ F H) (h:∀ a ∈ A,F a=none) (h0:∀ a ∈ A,H₀ a=none):br F₀ H₀ (frzO F H A) H:=by
 refine ⟨g.sF.trans (eJ h),g.sH,fun a o e=>?_,fun a o e=>?_⟩
 ·by_cases m:a ∈ A
  ·rw [kP m] at e; exact e
  ·rw [fN m] at e; exact g.fh _ _ e
 ·by_cases m:a ∈ A
  ·exact .inr (h0 a m)
  ·rw [fN m] at e; exact g.nw _ _ e
end
section
variable {K:PySem.W.Frag} {F₀ H₀ F H F' H':Hp} {σ:L2.St} {τ:aP} {A:List Addr}
def Apart (σ:L2.St) (τ:aP) (A:List Addr):Prop:=∀ (j:Nat) us p,τ[j]? = some (some (.own us)) -> σ[j]? = some (some (.ref p)) -> p ∉ A
theorem aJ.frzO (E:aJ K F₀ H₀ F H σ τ) (h:∀ a ∈ A,F a=none) (h0:∀ a ∈ A,H₀ a=none) (ow:Apart σ τ A):aJ K F₀ H₀ (TM.frzO F H A) H σ τ:=by
 refine ⟨E.g.frzO h h0,E.len,fun i s e=>?_,E.dj⟩
 obtain ⟨v,h1,h2⟩:=E.sl i s e
 refine ⟨v,h1,?_⟩
 cases s with
 | sh t=>exact Rep.mono (eJ h) h2
 | own ts =>
  obtain ⟨p,vs,rfl,k2,k3,k4,k5⟩:=h2
  exact ⟨p,vs,rfl,k2,by rw [fN (ow i ts p e h1)]; exact k3,k4,aV.mono (eJ h) k5⟩
theorem aJ.hp (E:aJ K F₀ H₀ F H σ τ) (s:aS H H'):aJ K F₀ H₀ F H' σ τ:=by
 refine ⟨⟨E.g.sF,E.g.sH.trans s,E.g.fh.trans s,E.g.nw⟩,E.len,fun i sl e=>?_,E.dj⟩
 obtain ⟨v,h1,h2⟩:=E.sl i sl e
 refine ⟨v,h1,?_⟩
 cases sl with
 | sh t=>exact h2
 | own ts =>
  obtain ⟨p,vs,rfl,k2,k3,k4,k5⟩:=h2
  exact ⟨p,vs,rfl,s _ _ k2,k3,k4,k5⟩
end
abbrev mP:=aP -> Option (O × aP)
def J0 (K:PySem.W.Frag) (F₀ H₀:Hp) (f:mP):TE:=fun σ H Q=>∃ F τ o τ',aJ K F₀ H₀ F H σ τ /\ f τ=some (o,τ') /\
 ∀ F' H' v A,aJ K F₀ H₀ F' H' σ τ' -> aS F F' -> dM K F' H' o v A -> A.Nodup -> (∀ a ∈ A,H₀ a=none) -> Apart σ τ' A -> Q v H'
def vC (X:Cx) (e:Expr) (f:mP):Prop:=∀ F₀ H₀,PE X e (J0 X.K F₀ H₀ f)
section
variable {X:Cx} {e:Expr} {pos:Pos}
def Kf (f:mP):FE:=fun τ=>(f τ).bind fun p=>some (p.1.tr,p.2)
theorem vC.se {f:mP} (h:vC X e f):SE X e (Kf f):=fun F₀ H₀=>PE.weak (h F₀ H₀) fun σ H Q hq__=>by
 obtain ⟨F,τ,t,τ',E,e1,q⟩:=hq__
 obtain ⟨⟨o,τ1⟩,e2,e1⟩:=bind_some e1
 cases e1
 refine ⟨F,τ,o,τ1,E,e2,fun F' H' v A E' s' r nd h0 ow=>?_⟩
 have hF:∀ a ∈ A,F' a=none:=fun a ha=>(r.at a ha).1
 exact q _ H' v (E'.frzO hF h0 ow) (s'.trans (eJ hF)) r.frz
def mU (f:FE):mP:=fun τ=>(f τ).bind fun p=>some (.val p.1,p.2)
theorem SE.seo {f:FE} (h:SE X e f):vC X e (mU f):=fun F₀ H₀=>PE.weak (h F₀ H₀) fun σ H Q hq__=>by
 obtain ⟨F,τ,t,τ',E,e1,q⟩:=hq__
 obtain ⟨⟨o,τ1⟩,e2,e1⟩:=bind_some e1
 cases e1
 exact ⟨F,τ,o,τ1,E,e2,fun F' H' v E' s' r=>q F' H' v [] E' s' ⟨rfl,r⟩ List.nodup_nil (fun a ha=>by cases ha) (fun j us p _ _ m=>by cases m)⟩
theorem bz.vals {K:PySem.W.Frag} {F H:Hp}:∀ {ts:List T} {vs:List V},aV K F ts vs -> bz K F H (ts.map O.val) vs []
 | [],_,h=>⟨h,rfl⟩
 | t :: ts,_,h=>by
  obtain ⟨v,r,rfl,h2,h3⟩:=h
  exact ⟨v,r,[],[],rfl,rfl,⟨rfl,h2⟩,bz.vals h3⟩
theorem dM.new {K:PySem.W.Frag} {F H:Hp} {p:Addr} {ts:List T} {vs:List V} (s:aS F H) (n:H p=none) (r:aV K F ts vs):dM K F (upd H p (.lst vs)) (.lst (ts.map O.val)) (.ref p) [p]:=
 ⟨p,vs,[],rfl,rfl,aX,s.free n,.vals r⟩
theorem apart_new {K:PySem.W.Frag} {F₀ H₀ F H:Hp} {σ:L2.St} {τ:aP} {p:Addr} (E:aJ K F₀ H₀ F H σ τ) (n:H p=none):Apart σ τ [p]:=fun j us q e1 e2 m=>by
 rw [List.mem_singleton] at m
 subst m
 obtain ⟨v,k1,p',vs',rfl,k2,_⟩:=E.sl j _ e1
 rw [e2] at k1; cases k1
 rw [n] at k2; cases k2
def Fh (t:T) (l h:Option Int):Option O:=match t with
 | .lst ts=>some (.lst ((lK ts l h).map .val))
 | _=>none
def AZ (f:FE) (fl fh:FO):mP:=fun τ=>(f τ).bind fun p=>(fl p.2).bind fun q=>(fh q.2).bind fun r=>(Fh p.1 q.1 r.1).bind fun t=>some (t,r.2)
theorem zP {e:Expr} {lo hi:Option Expr} {f:FE} {fl fh:FO} {p2:Pos} (he:SE X e f) (hl:SO X lo fl) (hh:SO X hi fh):vC X (.Subscript e (.Slice lo hi none p2) pos) (AZ f fl fh):=
 fun F₀ H₀=>PE.weak (uY yA (he F₀ H₀) (hl F₀ H₀) (hh F₀ H₀)) fun σ H Q hq__=>by
  obtain ⟨F,τ,t,τ',E,e1,q⟩:=hq__
  obtain ⟨⟨x,τ1⟩,e2,e1⟩:=bind_some e1
  obtain ⟨⟨l,τ2⟩,e3,e1⟩:=bind_some e1
  obtain ⟨⟨h,τ3⟩,e4,e1⟩:=bind_some e1
  obtain ⟨y,e5,e1⟩:=bind_some e1
  cases e1
  refine ⟨F,τ,x,τ1,E,e2,fun F1 H1 v E1 s1 r1=>⟨F1,τ1,l,τ2,E1,e3,fun F2 H2 E2 s2=>⟨F2,τ2,h,_,E2,e4,fun F3 H3 E3 s3=>?_⟩⟩⟩
  have r3:=Rep.mono (s2.trans s3) r1
  have sm:=E3.g.fh
  dsimp only at e5
  unfold Fh at e5
  split at e5
  ·cases e5
   obtain ⟨p,xs,rfl,h1,h2⟩:=r3
   refine ⟨p,xs,rfl,fF.of (sm _ _ h1),fun a ha=>?_⟩
   exact q F3 _ _ [a] (E3.hp (cX ha)) ((s1.trans s2).trans s3) (dM.new sm ha (ng h2 l h)) (by simp) (fun b hb=>by rw [List.mem_singleton] at hb; subst hb; exact E3.g.sH.free ha) (apart_new E3 ha)
  ·cases e5
end
open PySem PySem.Spec PyProof.Rows L2
def gY (fg:FG) (ft:FT) (fe:mP):List T -> aP -> List O -> Option (List O)
 | [],_,acc=>some acc
 | t :: ts,τ,acc=>(fg t τ).bind fun τ1=>(ft τ1).bind fun p=>if p.1=true then (fe p.2).bind fun q=>if cz q.2=true /\ acc.length < sizeLine then gY fg ft fe ts q.2 (acc ++ [q.1]) else none
  else if cz p.2=true then gY fg ft fe ts p.2 acc else none
section
variable {X:Cx}
structure nF (X:Cx) (pins:List (Addr × Obj)) (σ:L2.St) (F₀ H₀ F:Hp) (τ:aP) (rs:List O) (D C:Addr) (s:Shared):Prop where
 ex:∃ (H F3:Hp) (vs:List V) (As:List Addr),Inv X pins σ H s /\ aJ X.K F₀ H₀ F3 H σ τ /\ aS F F3 /\ F3 D=none /\ H D=some (.lst vs) /\ H₀ D=none /\ bz X.K F3 H rs vs As /\ As.Nodup /\ (∀ a ∈ As,H₀ a=none /\ a ≠ D) /\ Apart σ τ As /\ H C=none
 ns:∃ m,s.heap.Ns C m
 cl:C ≠ X.env.locals
 c0:X.s₀.heap.objs.size ≤ C
 cc:∀ x c,X.env.cells.lookup x=some c -> c ≠ C
 cp:∀ p ∈ X.pn ++ pins,p.1 ≠ C
 ow:∀ (j:Nat) us p,τ[j]? = some (some (.own us)) -> σ[j]? = some (some (.ref p)) -> p ≠ D
theorem vK {elt tg iter:Expr} {ifs:List Expr} {scope:Scope} {pos:Pos} {N':List Str} {no:Nat} {cap:List Nat} {fi:FA} {fg:FG} {ft:FT} {fe:mP} (hx:X.xe=fun _ _=>False) (hc:X.calm=true) (B:gu X scope) (hN:N'.length=no + cap.length)
  (hcap:∀ (k j:Nat),cap[k]? = some j -> ∃ x,N'[no + k]? = some x /\ X.N[j]? = some x /\ (x,NameKind.free) ∈ scope.names) (hi:SI X tg iter fi)
  (hg:∀ C cs s₀ H₀ fp pins,SG (rl X scope N' C cs s₀ H₀ fp pins) tg fg) (ht:∀ C cs s₀ H₀ fp pins,Cw (rl X scope N' C cs s₀ H₀ fp pins) ifs ft) (he:∀ C cs s₀ H₀ fp pins,vC (rl X scope N' C cs s₀ H₀ fp pins) elt fe)
  {F₀ H₀ F H:Hp} {pins:List (Addr × Obj)} {s:Shared} {σ:L2.St} {τ τ1:aP} {ts:List T} {rs:List O} (I:Inv X pins σ H s) (E:aJ X.K F₀ H₀ F H σ τ) (e2:fi τ=some (ts,τ1)) (ha:cz (cq no cap (frzAll cap τ1))=true) (e3:gY fg ft fe ts (cq no cap (frzAll cap τ1)) []=some rs)
  {post:Value -> Addr -> Result -> Shared -> Prop} (hpost:∀ D C s',nF X pins σ F₀ H₀ F (frzAll cap τ1) rs D C s' -> post (.ref D) C (.ok .next) s') :
  wpAny (model X.prog X.w) X.A (eval iter X.env) (fun x s₁=>wpAny (model X.prog X.w) X.A (pyIter x) (fun it s₂=>wpAny (model X.prog X.w) X.A (newList []) (fun acc s₃ =>
   wpAny (model X.prog X.w) X.A (newFunctionEnv scope X.env.globals (lJ X.env scope.names []) [] X.env.qual none .none (some X.env)) (fun cenv s₄ =>
    codeAny (model X.prog X.w) X.A (.compStart (.ListComp elt [⟨tg,iter,ifs,0⟩] scope pos) 0 it acc { cenv with scope:=relabel scope X.env }) (post acc cenv.locals) s₄) X.xe s₃) X.xe s₂) X.xe s₁) X.xe s:=by
 refine dm (hi F₀ H₀ pins s σ H (fun J H1=>∃ F1,aJ X.K F₀ H₀ F1 H1 σ τ1 /\ aS F F1 /\ Walks X.K F1 ts J) I ⟨F,τ,ts,τ1,E,e2,fun F1 H1 J E1 s1 W=>⟨F1,E1,s1,W⟩⟩) fun v s1 h1=>dm h1 fun itv s2 h2=>?_
 obtain ⟨it,fp,tn,J,H1,rfl,I2,Tn,st2,f2,F1,E1,sF1,W⟩:=h2
 obtain ⟨F2,E2,sF2⟩:=E1.frzAll cap
 have W2:Walks X.K F2 ts J:=⟨fun i t F3 H3 e a b=>W.go i t F3 H3 e (sF2.trans a) b,fun i t F3 H3 x H4 e a b y=>W.yld i t F3 H3 x H4 e (sF2.trans a) b y,fun F3 H3 a b=>W.stop F3 H3 (sF2.trans a) b⟩
 refine wpAny_newObj_type ?_
 have hz:(s2.heap.push jP).objs.size=s2.heap.objs.size + 1:=Heap.size_push ..
 have hz2:((s2.heap.push jP).push uk).objs.size=s2.heap.objs.size + 2:=by rw [Heap.size_push,hz]
 simp only [newFunctionEnv,Option.isSome_some,if_true]
 refine wpAny_bind (wpAny_alloc ?_)
 refine wpAny_bind (wpAny_layCells _ (fun name kind cells=>by cases hkc:kind == NameKind.cell <;> simp [hkc]) _ _ _ _ ?_)
 simp only [List.forIn_nil]
 refine wpAny_bind (wpAny_pure (wpAny_pure ?_))
 have loop:codeAny (model X.prog X.w) X.A (.compLoop (.ListComp elt [⟨tg,iter,ifs,0⟩] scope pos) 0 (.ref it) (.ref s2.heap.objs.size) (gX X scope (s2.heap.objs.size + 1) (cellsFrom (s2.heap.objs.size + 2) scope.names (lJ X.env scope.names []))))
   (post (.ref s2.heap.objs.size) (s2.heap.objs.size + 1)) { s2 with heap:=h0 s2.heap scope }:=by
  have Ib:=qj (N':=N') (σ':=cq no cap σ) (tk:=s2.toks) I2 B f2 (fun b hb=>by obtain ⟨o,e,_⟩:=Tn.obj 0 _ st2 b hb; exact ⟨o,e⟩) (by simp [cq,hN]) (fun i x v a1 a2=>by
   obtain ⟨k,j,rfl,hk,hj⟩:=lH a2
   obtain ⟨x',b1,b2,b3⟩:=hcap k j hk
   rw [a1] at b1; cases b1
   exact .inl ⟨b3,j,b2,hj⟩)
  generalize hX':rl X scope N' (s2.heap.objs.size + 1) (cellsFrom (s2.heap.objs.size + 2) scope.names (lJ X.env scope.names [])) s2 H1 fp pins=X' at Ib
  have hg':SG X' tg fg:=by rw [<- hX']; exact hg _ _ _ _ _ _
  have ht':Cw X' ifs ft:=by rw [<- hX']; exact ht _ _ _ _ _ _
  have he':vC X' elt fe:=by rw [<- hX']; exact he _ _ _ _ _ _
  have xP:X'.prog=X.prog:=by rw [<- hX']; rfl
  have xw:X'.w=X.w:=by rw [<- hX']; rfl
  have xK:X'.K=X.K:=by rw [<- hX']; rfl
  have xA:X'.A=X.A:=by rw [<- hX']; rfl
  have xc:X'.calm=true:=by rw [<- hX']; exact hc
  have xx:X'.xe=fun _ _=>False:=by rw [<- hX']; rfl
  have xe':X'.env=gX X scope (s2.heap.objs.size + 1) (cellsFrom (s2.heap.objs.size + 2) scope.names (lJ X.env scope.names [])):=by rw [<- hX']; rfl
  have xex:X'.ex=fp:=by rw [<- hX']; rfl
  have xfs:X'.fs=zo X.stack:=by rw [<- hX']; rfl
  have xpn:X'.pn=X.pn ++ pins:=by rw [<- hX']; rfl
  have xs0:X'.s₀=s2:=by rw [<- hX']; rfl
  have xH0:X'.H₀=H1:=by rw [<- hX']; rfl
  have xl:X'.env.locals=s2.heap.objs.size + 1:=by rw [<- hX']; rfl
  rw [<- xe',<- xP,<- xw,<- xA]
  have hD1:H1 s2.heap.objs.size=none:=I2.fresh
  have fpk:∀ {Hc:Hp} {σc:L2.St} {pc:List (Addr × Obj)} {sc:Shared},Inv X' pc σc Hc sc -> (∀ b ∈ fp,Hc b=none) -> ∀ b ∈ fp,pJ X' [] Hc b:=fun {Hc σc pc sc} Ic hn b hb=>by
   have q1:=Ic.ok.exf b (by rw [xex]; exact hb)
   have q2:=Ic.ok.exfs b (by rw [xex]; exact hb)
   refine ⟨hn b hb,q1.1,q2,.inl (by rw [xex]; exact hb),q1.2,fun p hp=>?_⟩
   rw [xpn,List.append_nil] at hp
   exact (f2 b hb).2.2.2.2.2 p hp
  refine qm (fun n s3=>∃ i σ3 H3 F3 τ3 us vs As,Inv X' [] σ3 H3 s3 /\ tn i s3.heap /\ (∀ b ∈ fp,H3 b=none) /\ aJ X.K F3 H3 F3 H3 σ3 τ3 /\ cz τ3=true /\ F3 s2.heap.objs.size=none /\ H3 s2.heap.objs.size=some (.lst vs) /\ (bz X.K F3 H3 us vs As /\ As.Nodup /\ ∀ a ∈ As,H1 a=none /\ a ≠ s2.heap.objs.size) /\ aS F2 F3 /\ aS H1 H3 /\
   (∀ a o,F3 a=some o -> F2 a=some o \/ H1 a=none) /\ i ≤ ts.length /\ n=ts.length - i /\ gY fg ft fe (ts.drop i) τ3 us=some rs) ?_ ts.length ?_
  ·rintro n s3 ⟨i,σ3,H3,F3,τ3,us,vs,As,I3,st3,fr3,E3,ha3,fD,hD,⟨rv,nd,fr⟩,sF,sH,nw,hi',rfl,ec⟩
   by_cases hlt:i < ts.length
   ·have hgi:ts[i]? = some ts[i]:=List.getElem?_eq_getElem hlt
    rw [List.drop_eq_getElem_cons hlt] at ec
    obtain ⟨τ4,e4,ec⟩:=bind_some ec
    obtain ⟨⟨b,τ5⟩,e5,ec⟩:=bind_some ec
    have go:=W2.go i _ F3 H3 hgi sF E3.g.fh
    have itm:=(xP ▸ xw ▸ xK ▸ Tn:Turn X'.prog X'.w X'.K tg J fp it tn).item X' rfl rfl rfl xc i [] s3 σ3 H3 (fun _ _=>False) I3 (fpk I3 fr3) st3 go
    refine dm itm fun r s4 ⟨u,hr,h4⟩=>?_
    subst hr
    refine dm h4 fun _ s5 ⟨x,H5,I5,r5,y5,st5,fr5⟩=>?_
    have I5':=I5.pinned (fpk I5 fr5) (Tn.obj _ _ st5)
    obtain ⟨F5,gr,rx⟩:=W2.yld i _ F3 H3 x H5 hgi sF E3.g.fh y5
    have a1:=hg' F3 H3 _ s5 σ3 H5 x u (fun σ6 H6=>∃ F6,aJ X.K F3 H3 F6 H6 σ6 τ4 /\ aS F5 F6) I5' r5 (by rw [xK]; exact ⟨F5,τ3,ts[i],τ4,E3.grow gr,rx,e4,fun F6 H6 σ6 E6 s6=>⟨F6,E6,s6⟩⟩)
    rw [xx] at a1
    refine dm a1 fun _ s6 ⟨σ6,H6,I6,F6,E6,sF6⟩=>?_
    have a2:=ht' F3 H3 _ s6 σ6 H6 (fun b' H7=>b'=b /\ ∃ F7,aJ X.K F3 H3 F7 H7 σ6 τ5 /\ aS F6 F7) I6 (by rw [xK]; exact ⟨F6,τ4,b,τ5,E6,e5,fun F7 H7 E7 s7=>⟨rfl,F7,E7,s7⟩⟩)
    rw [xx] at a2
    refine dm a2 fun ok s7 ⟨H7,I7,hok,F7,E7,sF7⟩=>?_
    subst hok
    have tail:∀ {σc:L2.St} {Hc:Hp} {sc:Shared},Inv X' ([] ++ lY fp s5.heap) σc Hc sc -> tn (i + 1) sc.heap /\ ∀ b ∈ fp,Hc b=none:=fun {σc Hc sc} Ic=>by
     refine ⟨Tn.keep _ _ _ st5 fun b hb o e=>(Ic.pin (b,o) (List.mem_append_right _ (List.mem_append_right _ (fu hb e)))).1,fun b hb=>?_⟩
     obtain ⟨o,e,d⟩:=Tn.obj _ _ st5 b hb
     exact (Ic.pin (b,o) (List.mem_append_right _ (List.mem_append_right _ (fu hb e)))).2.1
    have keepD:∀ {Fc Hc:Hp} {σc:L2.St} {τc:aP},aJ X.K F3 H3 Fc Hc σc τc -> Fc s2.heap.objs.size=none:=fun {Fc Hc σc τc} Ec=>by
     cases eF:Fc s2.heap.objs.size with
     | none=>rfl
     | some o =>
      rcases Ec.g.nw _ o eF with z | z
      ·rw [fD] at z; cases z
      ·rw [hD] at z; cases z
    have newF:∀ {Fc Hc:Hp} {σc:L2.St} {τc:aP},aJ X.K F3 H3 Fc Hc σc τc -> ∀ a o,Fc a=some o -> F2 a=some o \/ H1 a=none:=fun {Fc Hc σc τc} Ec a o eF=>by
     rcases Ec.g.nw a o eF with z | z
     ·exact nw a o z
     ·exact .inr (sH.free z)
    have mv:∀ {Fc Hc Hd:Hp} {σc:L2.St} {τc:aP},aJ X.K F3 H3 Fc Hc σc τc -> (∀ a,a ≠ s2.heap.objs.size -> Hd a=Hc a) -> bz X.K Fc Hd us vs As:=fun {Fc Hc Hd σc τc} Ec hd=>by
     refine bz.move Ec.g.sF (fun a ha=>?_) rv
     obtain ⟨f1,ws,f2⟩:=rv.at a ha
     refine ⟨by rw [hd a (fr a ha).2,Ec.g.sH _ _ f2,f2],?_⟩
     cases eF:Fc a with
     | none=>rfl
     | some o =>
      rcases Ec.g.nw _ o eF with z | z
      ·rw [f1] at z; cases z
      ·rw [f2] at z; cases z
    cases b':ok with
    | false =>
     subst b'
     dsimp only at ec
     rw [if_neg (by decide)] at ec
     split at ec
     ·next ha =>
      rw [if_neg (by decide)]
      obtain ⟨t1,t2⟩:=tail I7
      exact ⟨ts.length - (i + 1),by omega,i + 1,σ6,H7,F7,τ5,us,vs,As,I7.unpinned,t1,t2,E7.rebase ha E7.g.fh,ha,keepD E7,E7.g.sH _ _ hD,⟨mv E7 (fun _ _=>rfl),nd,fr⟩,sF.trans E7.g.sF,sH.trans E7.g.sH,newF E7,hlt,rfl,ec⟩
     ·cases ec
    | true =>
     subst b'
     dsimp only at ec
     rw [if_pos rfl] at ec
     rw [if_pos rfl]
     obtain ⟨⟨y0,τ6⟩,e6,ec⟩:=bind_some ec
     dsimp only at ec
     split at ec
     ·next ha =>
      have a3:=he' F3 H3 _ s7 σ6 H7 (fun y H8=>∃ F8 Ay,aJ X.K F3 H3 F8 H8 σ6 τ6 /\ dM X.K F8 H8 y0 y Ay /\ Ay.Nodup /\ ∀ a ∈ Ay,H3 a=none) I7 (by rw [xK]; exact ⟨F7,τ5,y0,τ6,E7,e6,fun F8 H8 y Ay E8 s8 r8 n8 h8 _=>⟨F8,Ay,E8,r8,n8,h8⟩⟩)
      rw [xx] at a3
      refine dm a3 fun yv s8 ⟨y,H8,I8,ry,F8,Ay,E8,rp,ndy,hy8⟩=>?_
      have dD:H8 s2.heap.objs.size=some (.lst vs):=E8.g.sH _ _ hD
      have a4:=lV (X:=X') _ s8 σ6 H8 (.ref s2.heap.objs.size) [y] (.ref s2.heap.objs.size) [yv] (fun _ H9=>H9=upd H8 s2.heap.objs.size (.lst (vs ++ [y]))) I8 rfl (.cons ry .nil) ⟨s2.heap.objs.size,vs,y,rfl,rfl,dD,by rw [rv.length]; exact ha.2,rfl⟩
      rw [xx] at a4
      refine dm a4 fun _ s9 ⟨_,H9,I9,_,e9⟩=>?_
      subst e9
      obtain ⟨t1,t2⟩:=tail I9
      have kD:=keepD E8
      have sm:aS F8 (upd H8 s2.heap.objs.size (.lst (vs ++ [y]))):=fun c o z=>by rw [aO (fun w=>by subst w; rw [kD] at z; cases z)]; exact E8.g.fh _ _ z
      have sm1:aS H1 (upd H8 s2.heap.objs.size (.lst (vs ++ [y]))):=fun c o z=>by rw [aO (fun w=>by subst w; rw [hD1] at z; cases z)]; exact E8.g.sH _ _ (sH _ _ z)
      have yD:∀ a ∈ Ay,a ≠ s2.heap.objs.size:=fun a ha z=>by have:=hy8 a ha; rw [z,hD] at this; cases this
      have rp9:dM X.K F8 (upd H8 s2.heap.objs.size (.lst (vs ++ [y]))) y0 y Ay:=dM.move (aS.refl _) (fun a ha=>⟨aO (yD a ha),(rp.at a ha).1⟩) rp
      have all9:bz X.K F8 (upd H8 s2.heap.objs.size (.lst (vs ++ [y]))) (us ++ [y0]) (vs ++ [y]) (As ++ Ay):=(mv E8 (fun a ha=>aO ha)).app (.one rp9)
      have nd9:(As ++ Ay).Nodup:=List.nodup_append.mpr ⟨nd,ndy,fun a ha b hb z=>by subst z; obtain ⟨_,ws,f2⟩:=rv.at a ha; rw [hy8 a hb] at f2; cases f2⟩
      have fr9:∀ a ∈ As ++ Ay,H1 a=none /\ a ≠ s2.heap.objs.size:=fun a ha=>by
       rcases List.mem_append.mp ha with ha | ha
       ·exact fr a ha
       ·exact ⟨sH.free (hy8 a ha),yD a ha⟩
      exact ⟨ts.length - (i + 1),by omega,i + 1,σ6,_,F8,τ6,us ++ [y0],vs ++ [y],As ++ Ay,I9.unpinned,t1,t2,E8.rebase ha.1 sm,ha.1,kD,aX,⟨all9,nd9,fr9⟩,sF.trans E8.g.sF,sm1,newF E8,hlt,rfl,ec⟩
     ·cases ec
   ·have hie:i=ts.length:=by omega
    subst hie
    rw [List.drop_length] at ec
    cases ec
    have dn:=(xP ▸ xw ▸ xK ▸ Tn:Turn X'.prog X'.w X'.K tg J fp it tn).done X' rfl rfl rfl xc ts.length [] s3 σ3 H3 (fun _ _=>False) I3 (fpk I3 fr3) st3 (W2.stop F3 H3 sF E3.g.fh)
    refine dm dn fun r s4 ⟨hr,I4⟩=>?_
    subst hr
    obtain ⟨m4,hm4,_⟩:=I4.loc
    rw [xl] at hm4
    have un:=I4.base
    rw [xfs,xex,xH0,xs0] at un
    have ox:=I4.os
    rw [xs0] at ox
    have hok4:=I4.hok
    rw [xP,xw] at hok4
    have IX:Inv X pins σ H3 s4:=I2.call' ox un hok4 I4.bare fun b hb=>⟨(f2 b hb).2.2.2.1,(f2 b hb).2.1,(f2 b hb).2.2.2.2.1,(f2 b hb).2.2.2.2.2⟩
    have hC:H3 (s2.heap.objs.size + 1)=none:=by have:=I4.free; rw [xl] at this; exact this
    have lC:@LT.lt Nat _ X.env.locals s2.heap.objs.size:=I2.lt
    have gr:br F2 H1 F3 H3:=⟨sF,sH,E3.g.fh,nw⟩
    have ap3:Apart σ (frzAll cap τ1) As:=fun j us p j1 j2 m=>by
     obtain ⟨v,k1,p',vs',rfl,k2,_⟩:=E2.sl j _ j1
     rw [j2] at k1; cases k1
     rw [(fr _ m).1] at k2; cases k2
    refine hpost _ _ _ ⟨⟨H3,F3,vs,As,IX,E2.grow gr,(sF1.trans sF2).trans sF,fD,hD,E2.g.sH.free hD1,rv,nd,fun a ha=>⟨E2.g.sH.free (fr a ha).1,(fr a ha).2⟩,ap3,hC⟩,⟨m4,hm4⟩,Nat.ne_of_gt (Nat.lt_succ_of_lt lC),Nat.le_trans I2.sz (Nat.le_succ _),
     fun x c hxc=>by obtain ⟨v,z⟩:=I2.cell x c hxc; exact Nat.ne_of_lt (Nat.lt_succ_of_lt z.lt),fun p hp=>Nat.ne_of_lt (Nat.lt_succ_of_lt (Heap.lt_size (I2.pin p hp).1)),fun j us p j1 j2=>?_⟩
    obtain ⟨v,k1,p',vs',rfl,k2,_⟩:=E2.sl j _ j1
    rw [j2] at k1; cases k1
    exact bO k2 hD1
  ·refine ⟨0,cq no cap σ,upd H1 s2.heap.objs.size (.lst []),F2,cq no cap (frzAll cap τ1),[],[],[],Ib,Tn.keep _ _ _ st2 fun b hb o e=>fZ e,fun b hb=>?_,E2.block ha (E2.g.fh.trans (cX hD1)),ha,E2.g.fh.free hD1,aX,⟨⟨rfl,rfl⟩,List.nodup_nil,fun a ha=>by cases ha⟩,aS.refl _,cX hD1,fun a o z=>.inl z,Nat.zero_le _,rfl,e3⟩
   obtain ⟨o,e,_⟩:=Tn.obj 0 _ st2 b hb
   rw [aO (Nat.ne_of_lt (Heap.lt_size e))]
   exact (f2 b hb).1
 have fin:∀ {C:Addr} {cs:List (Str × Addr)},C=s2.heap.objs.size + 1 -> cs=cellsFrom (s2.heap.objs.size + 2) scope.names (lJ X.env scope.names []) ->
   codeAny (model X.prog X.w) X.A (.compStart (.ListComp elt [⟨tg,iter,ifs,0⟩] scope pos) 0 (.ref it) (.ref s2.heap.objs.size) (gX X scope C cs)) (post (.ref s2.heap.objs.size) C) { s2 with heap:=h0 s2.heap scope }:=fun {C cs} h1 h2=>by
  subst h1 h2
  exact codeAny_compStart_list loop (Tn.self _ 0 _ _ _ (Tn.keep _ _ _ st2 fun b hb o e=>fZ e) loop)
 exact fin hz (by rw [<- hz2])
def eO (no:Nat) (cap:List Nat) (fi:FA) (fg:FG) (ft:FT) (fe:mP):mP:=fun τ=>(fi τ).bind fun p =>
 if cz (cq no cap (frzAll cap p.2))=true then (gY fg ft fe p.1 (cq no cap (frzAll cap p.2)) []).bind fun us=>some (.lst us,frzAll cap p.2) else none
theorem nF.fin {pins:List (Addr × Obj)} {σ:L2.St} {F₀ H₀ F:Hp} {τ:aP} {rs:List O} {D C:Addr} {s:Shared} (Z:nF X pins σ F₀ H₀ F τ rs D C s) :
  ∃ (H F3:Hp) (As:List Addr),Inv X pins σ H s /\ aJ X.K F₀ H₀ F3 H σ τ /\ aS F F3 /\ dM X.K F3 H (.lst rs) (.ref D) As /\ As.Nodup /\ (∀ a ∈ As,H₀ a=none) /\ Apart σ τ As /\ H C=none:=by
 obtain ⟨H,F3,vs,As,IX,E3,sF,fD,hD,h0D,rv,nd,h0,ap,hC⟩:=Z.ex
 refine ⟨H,F3,D :: As,IX,E3,sF,⟨D,vs,As,rfl,rfl,hD,fD,rv⟩,List.nodup_cons.mpr ⟨fun m=>(h0 D m).2 rfl,nd⟩,fun a ha=>?_,fun j us p e1 e2 m=>?_,hC⟩
 ·rcases List.mem_cons.mp ha with rfl | ha
  ·exact h0D
  ·exact (h0 a ha).1
 ·rcases List.mem_cons.mp m with rfl | m
  ·exact Z.ow j us _ e1 e2 rfl
  ·exact ap j us p e1 e2 m
theorem jw {elt tg iter:Expr} {ifs:List Expr} {scope:Scope} {pos:Pos} {N':List Str} {no:Nat} {cap:List Nat} {fi:FA} {fg:FG} {ft:FT} {fe:mP} (hx:X.xe=fun _ _=>False) (hc:X.calm=true) (B:gu X scope) (hN:N'.length=no + cap.length)
  (hcap:∀ (k j:Nat),cap[k]? = some j -> ∃ x,N'[no + k]? = some x /\ X.N[j]? = some x /\ (x,NameKind.free) ∈ scope.names) (hi:SI X tg iter fi)
  (hg:∀ C cs s₀ H₀ fp pins,SG (rl X scope N' C cs s₀ H₀ fp pins) tg fg) (ht:∀ C cs s₀ H₀ fp pins,Cw (rl X scope N' C cs s₀ H₀ fp pins) ifs ft) (he:∀ C cs s₀ H₀ fp pins,vC (rl X scope N' C cs s₀ H₀ fp pins) elt fe)
  (hs:∀ x,foldedSetIterable iter X.env x=pure x:=by intro _; rfl):vC X (.ListComp elt [⟨tg,iter,ifs,0⟩] scope pos) (eO no cap fi fg ft fe):=by
 intro F₀ H₀ pins s σ H Q I ⟨F,τ,t,τ',E,e1,q⟩
 obtain ⟨⟨ts,τ1⟩,e2,e1⟩:=bind_some e1
 dsimp only at e1
 split at e1
 ·next ha =>
  obtain ⟨rs,e3,e1⟩:=bind_some e1
  cases e1
  have hfree:∀ y ∈ scope.names,y.2=.free -> ∃ c,X.env.cells.lookup y.1=some c:=fun y hy hk=>I.ok.has y.1 (B.free y hy hk).1
  rw [eval_ListComp]
  refine wpAny_comprehension_free (use:=none) rfl hs (jX hfree) B.kind B.names (vK hx hc B hN hcap hi hg ht he I E e2 ha e3 fun D C s' Z=>?_)
  obtain ⟨H3,F3,As,IX,E3,sF,ro,nd,h0,ap,hC⟩:=Z.fin
  obtain ⟨m,hm⟩:=Z.ns
  refine ⟨m,hm,fun h' sb=>⟨.ref D,H3,IX.turned (t':=s'.toks) (it:=C) (fun b o hb e=>(sb.2 b hb).trans e) hC Z.cl (.inr Z.c0) Z.cc Z.cp,rfl,?_⟩⟩
  exact q F3 H3 (.ref D) As E3 sF ro nd h0 ap
 ·cases e1
end
open PySem PySem.Spec PyProof.Rows L2
def jZ (H:Hp) (A:List Addr):Hp:=fun a=>if a ∈ A then none else H a
theorem kG {H:Hp} {A:List Addr} {a:Addr} (h:a ∈ A):jZ H A a=none:=if_pos h
theorem dh {H:Hp} {A:List Addr} {a:Addr} (h:a ∉ A):jZ H A a=H a:=if_neg h
theorem qq {H:Hp} {A:List Addr}:aS (jZ H A) H:=fun a o e=>by
 by_cases m:a ∈ A
 ·rw [kG m] at e; cases e
 ·rw [dh m] at e; exact e
def Km (K:PySem.W.Frag) (n:Nat) (d:O -> List T -> Option T):Sp:=fun vs H Q _=>vs.length=n /\ ∃ F o v ws ts A t,aS F H /\ vs=v :: ws /\ dM K F H o v A /\ A.Nodup /\ aV K F ts ws /\ d o ts=some t /\
 ∀ F' H' v',br F (jZ H A) F' H' -> Rep K F' t v' -> Q v' H'
structure nG (P:Program) (w:World) (K:PySem.W.Frag) (mg:Str -> Option Value) (base:Heap) (k:Nat) (x:Str) (n:Nat) (d:O -> List T -> Option T):Prop where
 ex:∃ f fd ps,ie P w K mg base qV k f fd ps (Km K n d) /\ Binds K fd ps [] /\ PySem.W.keepIn K (.ref f)=true /\ mg x=some (.ref f) /\ ps.length=n
theorem nG.imp {P:Program} {w:World} {K:PySem.W.Frag} {mg:Str -> Option Value} {base:Heap} {k n:Nat} {x:Str} {d d':O -> List T -> Option T} (D:nG P w K mg base k x n d) (h:∀ o ts t,d' o ts=some t -> d o ts=some t):nG P w K mg base k x n d':=by
 obtain ⟨f,fd,ps,F,r⟩:=D.ex
 exact ⟨f,fd,ps,F.imp fun vs H Q E ⟨l,F,o,v,ws,ts,A,t,a,b,c,nd,r,e,q⟩=>⟨l,F,o,v,ws,ts,A,t,a,b,c,nd,r,h _ _ _ e,q⟩,r⟩
theorem nG.mono {P:Program} {w:World} {K:PySem.W.Frag} {mg:Str -> Option Value} {base:Heap} {j k n:Nat} {x:Str} {d:O -> List T -> Option T} (D:nG P w K mg base j x n d) (h:j ≤ k):nG P w K mg base k x n d:=by
 obtain ⟨f,fd,ps,F,r⟩:=D.ex
 exact ⟨f,fd,ps,F.mono h,r⟩
section
variable {K:PySem.W.Frag} {F₀ H₀ F₁ H₁ F H F' H':Hp} {σ:L2.St} {τ:aP}
theorem aJ.to (E:aJ K F₁ H₁ F H σ τ) (ha:cz τ=true) (sF:aS F F') (g:br F₀ H₀ F' H'):aJ K F₀ H₀ F' H' σ τ:=by
 refine ⟨g,E.len,fun i sl e=>?_,fun i j ts us p _ e1=>absurd e1 (eG ha)⟩
 obtain ⟨v,h1,h2⟩:=E.sl i sl e
 cases sl with
 | sh t=>exact ⟨v,h1,Rep.mono sF h2⟩
 | own ts=>exact absurd e (eG ha)
theorem dM.over {o:O} {v:V} {A:List Addr} (g:br F H F' H') (h:dM K F H o v A):dM K F' H' o v A:=by
 refine dM.move g.sF (fun a ha=>?_) h
 obtain ⟨f1,ws,f2⟩:=h.at a ha
 refine ⟨by rw [g.sH _ _ f2,f2],?_⟩
 cases eF:F' a with
 | none=>rfl
 | some o =>
  rcases g.nw _ o eF with z | z
  ·rw [f1] at z; cases z
  ·rw [f2] at z; cases z
theorem br.taken {A:List Addr} {F1 H1:Hp} (g:br F₀ H₀ F H) (h0:∀ a ∈ A,H₀ a=none) (g1:br F (jZ H A) F1 H1):br F₀ H₀ F1 H1:=by
 refine ⟨g.sF.trans g1.sF,fun a o e=>?_,g1.fh,fun a o e=>?_⟩
 ·refine g1.sH a o ?_
  rw [dh (fun m=>by rw [h0 a m] at e; cases e)]
  exact g.sH a o e
 ·rcases g1.nw a o e with z | z
  ·exact g.nw a o z
  ·by_cases m:a ∈ A
   ·exact .inr (h0 a m)
   ·rw [dh m] at z; exact .inr (g.sH.free z)
end
section
variable {X:Cx} {e:Expr} {f:FE} {ft:FT} {es:List Expr} {g:FA}
theorem SE.any (h:SE X e f):PE X e (fun σ H Q=>∃ F₀ H₀,tE X.K F₀ H₀ f σ H Q):=fun pins s σ H Q I ⟨F₀,H₀,q⟩=>h F₀ H₀ pins s σ H Q I q
theorem ST.any (h:ST X e ft):PT X e (fun σ H Q=>∃ F₀ H₀,tT X.K F₀ H₀ ft σ H Q):=fun pins s σ H Q I ⟨F₀,H₀,q⟩=>h F₀ H₀ pins s σ H Q I q
theorem SA.any (h:SA X es g):PA X es (fun σ H Q=>∃ F₀ H₀,tA X.K F₀ H₀ g σ H Q):=fun p pins s σ H Q I ⟨F₀,H₀,q⟩=>h F₀ H₀ p pins s σ H Q I q
theorem xj.any {ss:List Stmt} {fs:FS} (h:xj X ss fs):mR X ss (fun D σ H=>∃ F₀ H₀,tS X.K F₀ H₀ fs D σ H):=fun pins s σ H D I ⟨F₀,H₀,q⟩=>h F₀ H₀ pins s σ H D I q
end
open PySem PySem.Spec PyProof.Rows L2
section
variable {X:Cx}
def boolsOf:List T -> Option (List Bool)
 | []=>some []
 | .bl b :: r=>(boolsOf r).bind fun bs=>some (b :: bs)
 | _=>none
def Jj:List T -> Option T
 | [.lst ts]=>(boolsOf ts).bind fun bs=>some (.bl (bs.all id))
 | _=>none
def EZ:List T -> Option T
 | [.lst ts]=>some (.tup ts)
 | [.tup ts]=>some (.tup ts)
 | _=>none
theorem Dp:Ee X "int.bit_length" (fun x vs H Q=>∃ i,x=.int i /\ vs=[] /\ Q (.int (Builtin.Int.intBits i)) H):=by
 intro pins s σ H x vs v us Q I rx rv ⟨i,hx,hvs,q⟩
 subst hx; subst hvs
 obtain ⟨t,rfl⟩:=rx
 have:=rv.zero
 subst this
 exact PyProof.Rows.call_int_bit_length ⟨.int _,H,I.tok _,⟨_,rfl⟩,q⟩
def gS:T -> Option T
 | .int i=>some (.int (Builtin.Int.intBits i))
 | _=>none
theorem iR {e:Expr} {f:FE} {p2 p3:Pos} (he:SE X e f) (hbase:attributeBase e "bit_length" X.env (eval e X.env)=eval e X.env:=by rfl) (hline:(p2.endLine == p3.line)=true:=by rfl) :
  SE X (.Call (.Attribute e "bit_length" p2) [] [] p3) (mT gS f):=fun F₀ H₀ =>
 PE.weak (FX PySem.F.plainAttrs_int PySem.F.slot_int_bit_length PySem.F.type_int_bit_length Dp (he F₀ H₀) hbase hline) fun σ H Q hq__=>by
  obtain ⟨F,τ,t,τ',E,e1,q⟩:=hq__
  obtain ⟨⟨x,τ1⟩,e2,e1⟩:=bind_some e1
  obtain ⟨z,e4,e1⟩:=bind_some e1
  cases e1
  refine ⟨F,τ,x,_,E,e2,fun F1 H1 v1 E1 s1 r1=>?_⟩
  dsimp only at e4
  unfold gS at e4
  split at e4
  ·cases e4; cases r1
   exact ⟨rfl,_,rfl,rfl,q F1 H1 _ E1 s1 rfl⟩
  ·cases e4
theorem lh {x:Str} {i:Int} {t:Tok} {pos:Pos} (hg:Gl X x) (hm:X.mg x=some (.int i t)) (hd:(x == ("__debug__" : Str))=false:=by decide):SE X (.Name x pos) (fC (.int i)):=ir (yg (v:=.int i) hg hm ⟨_,rfl⟩ hd) fun _=>rfl
def aW (f:FE):FA:=fun τ=>(f τ).bind fun p=>match p.1 with | .lst ts=>some (ts,p.2) | .scr ts=>some (ts,p.2) | .tup ts=>some (ts,p.2) | _=>none
theorem cD {tg l:Expr} {f:FE} (h:SE X l f):SI X tg l (aW f):=by
 intro F₀ H₀ pins s σ H R I ⟨F,τ,ts,τ',E,e1,q⟩
 obtain ⟨⟨x,τ1⟩,e2,e1⟩:=bind_some e1
 dsimp only at e1
 split at e1
 ·exact yz h F₀ H₀ pins s σ H R I ⟨F,τ,ts,τ',E,by unfold vU; rw [e2]; exact e1,q⟩
 ·exact yz h F₀ H₀ pins s σ H R I ⟨F,τ,ts,τ',E,by unfold vU; rw [e2]; exact e1,q⟩
 ·exact GC h F₀ H₀ pins s σ H R I ⟨F,τ,ts,τ',E,by unfold A3; rw [e2]; exact e1,q⟩
 ·cases e1
end
theorem C6 {P:Program} {w:World} {K:PySem.W.Frag} {mg:Str -> Option Value} {base:Heap} {x qual:Str} {st:Stmt} {f:Addr} {fd:FuncData} {N ps:List Str} {k:Nat} {fb:FS} (F:fV K x qual st f fd) (S:aU N ps (aF st))
  (h:∀ (cdv:Value) (A:Around) (outer:List Env) (s:Shared) (H:Hp) (E:XK),eY k (A.deeper (envOfC qual (aF st) s.heap.objs.size f cdv)) -> xj (pK qV P w K mg base N qual (aF st) f cdv A outer s H E).nox (d5 st) fb) :
  ie P w K mg base qV (k + 1) f fd ps (spT K ps.length (cE N.length ps.length fb)):=by
 refine F.ok S (fun vs H Q E z=>z.1) (fun cdv A outer s H vs Q E hr z=>?_)
 obtain ⟨hl,F1,ts,t,sm,r,e,q⟩:=z
 unfold cE at e
 split at e
 ·next hn =>
  obtain ⟨r',e1,e⟩:=bind_some e
  refine ⟨_,h cdv A outer s H E hr F1 H,F1,_,r',?_,e1,?_⟩
  ·have:=lL (N:=N) sm r
   rw [hn] at this
   exact this
  ·cases r' with
   | rt u=>cases e; exact fun F' H' v g r'=>q F' H' v g r'
   | nx τ=>cases e; exact fun F' H' σ' E' s'=>q F' H' .non E'.g rfl
   | bk τ=>cases e
   | ct τ=>cases e
 ·cases e
open PySem PySem.Spec PyProof.Rows L2
theorem SS.any {X:Cx} {st:Stmt} {fs:FS} (h:SS X st fs):PS X st (fun D σ H=>∃ F₀ H₀,tS X.K F₀ H₀ fs D σ H):=fun pins s σ H D I ⟨F₀,H₀,q⟩=>h F₀ H₀ pins s σ H D I q
structure fP (K:PySem.W.Frag) (F0 H0 F H:Hp) (p:Addr) (os:List O) (A:List Addr):Prop where
 g:br F0 H0 F H
 r:dM K F H (.lst os) (.ref p) A
 nd:A.Nodup
 h0:∀ a ∈ A,H0 a=none
section
variable {K:PySem.W.Frag} {F0 H0 F H F1 H1:Hp} {p:Addr} {os:List O} {A:List Addr}
theorem fP.hp (S:fP K F0 H0 F H p os A) (s:aS H H1):fP K F0 H0 F H1 p os A:=
 ⟨⟨S.g.sF,S.g.sH.trans s,S.g.fh.trans s,S.g.nw⟩,dM.move (aS.refl _) (fun a ha=>by obtain ⟨f1,ws,f2⟩:=S.r.at a ha; exact ⟨by rw [s _ _ f2,f2],f1⟩) S.r,S.nd,S.h0⟩
theorem fP.over (S:fP K F0 H0 F H p os A) (g:br F H F1 H1):fP K F0 H0 F1 H1 p os A:=⟨S.g.trans g,S.r.over g,S.nd,S.h0⟩
theorem fP.root (S:fP K F0 H0 F H p os A):∃ vs B,A=p :: B /\ H p=some (.lst vs) /\ F p=none /\ bz K F H os vs B:=by
 obtain ⟨p',vs,B,e,rfl,h1,h2,h3⟩:=S.r
 cases e
 exact ⟨vs,B,rfl,h1,h2,h3⟩
theorem fP.fin (S:fP K F0 H0 F H p os A):∃ F',br F0 H0 F' H /\ Rep K F' (.lst (O.trs os)) (.ref p):=
 ⟨frzO F H A,S.g.frzO (fun a ha=>(S.r.at a ha).1) S.h0,S.r.frz⟩
theorem DT {α:Type} (a:List α) (x y:α) (b:List α):(a ++ x :: b).set a.length y=a ++ y :: b:=by
 rw [List.set_append_right _ _ (Nat.le_refl _),Nat.sub_self,List.set_cons_zero]
theorem yo {os:List O} {j:Nat} {o:O} (o':O) (e:os[j]? = some o):os.set j o'=os.take j ++ ([o'] ++ os.drop (j + 1)):=by
 rw [List.set_eq_take_append_cons_drop,if_pos (List.getElem?_eq_some_iff.mp e).1]
 rfl
theorem fP.put (S:fP K F0 H0 F H p os A) {j:Nat} {o:O} {vs:List V} {t:T} {v:V} (e:os[j]? = some o) (hp:H p=some (.lst vs)) (r:Rep K F t v):∃ A',fP K F0 H0 F (upd H p (.lst (vs.set j v))) p (os.set j (.val t)) A':=by
 obtain ⟨vs',B,rfl,h1,h2,h3⟩:=S.root
 rw [hp] at h1; cases h1
 obtain ⟨ws,v0,xs,B1,C,D,rfl,rfl,rfl,g1,g2,g3⟩:=h3.split e
 have nd:=List.nodup_cons.mp S.nd
 have mv:∀ {us:List O} {zs:List V} {E:List Addr},(∀ a ∈ E,a ∈ B1 ++ (C ++ D)) -> bz K F H us zs E -> bz K F (upd H p (.lst ((ws ++ v0 :: xs).set ws.length v))) us zs E:=fun sub h=>bz.move (aS.refl _) (fun a ha=>⟨aO (fun z=>nd.1 (z ▸ sub a ha)),(h.at a ha).1⟩) h
 have s1:∀ a ∈ B1,a ∈ B1 ++ (C ++ D):=fun a ha=>List.mem_append_left _ ha
 have s2:∀ a ∈ D,a ∈ B1 ++ (C ++ D):=fun a ha=>List.mem_append_right _ (List.mem_append_right _ ha)
 have p0:H0 p=none:=S.h0 p List.mem_cons_self
 refine ⟨p :: (B1 ++ ([] ++ D)),⟨⟨S.g.sF,fun a o' ha=>?_,fun a o' ha=>?_,S.g.nw⟩,⟨p,_,_,rfl,rfl,aX,h2,?_⟩,?_,fun a ha=>?_⟩⟩
 ·rw [aO (fun z=>by subst z; rw [p0] at ha; cases ha)]; exact S.g.sH _ _ ha
 ·rw [aO (fun z=>by subst z; rw [h2] at ha; cases ha)]; exact S.g.fh _ _ ha
 ·rw [yo (.val t) e]
  have all:=(mv s1 g1).app ((bz.one (K:=K) (F:=F) (H:=upd H p (.lst ((ws ++ v0 :: xs).set ws.length v))) (o:=.val t) ⟨rfl,r⟩).app (mv s2 g3))
  have e2:(ws ++ v0 :: xs).set ws.length v=ws ++ ([v] ++ xs):=DT ws v0 v xs
  rw [<- e2] at all
  exact all
 ·refine List.nodup_cons.mpr ⟨fun m=>nd.1 ?_,?_⟩
  ·rcases List.mem_append.mp m with m | m
   ·exact s1 _ m
   ·exact s2 _ m
  ·rw [List.nil_append]
   obtain ⟨n1,n2,n3⟩:=List.nodup_append.mp nd.2
   obtain ⟨n4,n5,n6⟩:=List.nodup_append.mp n2
   exact List.nodup_append.mpr ⟨n1,n5,fun a ha b hb=>n3 a ha b (List.mem_append_right _ hb)⟩
 ·rcases List.mem_cons.mp ha with rfl | ha
  ·exact p0
  ·refine S.h0 a (List.mem_cons_of_mem _ ?_)
   rcases List.mem_append.mp ha with m | m
   ·exact s1 _ m
   ·exact s2 _ m
theorem fP.more (S:fP K F0 H0 F H p os A) {vs:List V} {t:T} {v:V} (hp:H p=some (.lst vs)) (r:Rep K F t v):fP K F0 H0 F (upd H p (.lst (vs ++ [v]))) p (os ++ [.val t]) A:=by
 obtain ⟨vs',B,rfl,h1,h2,h3⟩:=S.root
 rw [hp] at h1; cases h1
 have nd:=List.nodup_cons.mp S.nd
 have p0:H0 p=none:=S.h0 p List.mem_cons_self
 refine ⟨⟨S.g.sF,fun a o' ha=>?_,fun a o' ha=>?_,S.g.nw⟩,⟨p,_,_,rfl,rfl,aX,h2,?_⟩,S.nd,S.h0⟩
 ·rw [aO (fun z=>by subst z; rw [p0] at ha; cases ha)]; exact S.g.sH _ _ ha
 ·rw [aO (fun z=>by subst z; rw [h2] at ha; cases ha)]; exact S.g.fh _ _ ha
 ·have m1:bz K F (upd H p (.lst (vs ++ [v]))) os vs B:=bz.move (aS.refl _) (fun a ha=>⟨aO (fun z=>nd.1 (z ▸ ha)),(h3.at a ha).1⟩) h3
  have all:=m1.app (bz.one (K:=K) (F:=F) (H:=upd H p (.lst (vs ++ [v]))) (o:=.val t) ⟨rfl,r⟩)
  rw [List.append_nil] at all
  exact all
def nL:List O -> Bool
 | []=>true
 | .val _ :: r=>nL r
 | _ :: _=>false
theorem bz.plain:∀ {ro:List O} {ws:List V} {C:List Addr},nL ro=true -> bz K F H ro ws C -> C=[] /\ aV K F (O.trs ro) ws
 | [],ws,C,_,h=>⟨h.2,h.1⟩
 | .val t :: r,ws,C,ha,h=>by
  obtain ⟨v,q,B,D,rfl,rfl,⟨rfl,h1⟩,h2⟩:=h
  obtain ⟨rfl,h3⟩:=bz.plain (ro:=r) ha h2
  exact ⟨rfl,v,q,rfl,h1,h3⟩
 | .lst _ :: r,ws,C,ha,h=>by cases ha
theorem fP.row (S:fP K F0 H0 F H p os A) {j:Nat} {ro:List O} (e:os[j]? = some (.lst ro)) (ha:nL ro=true):∃ vs q ws,H p=some (.lst vs) /\ vs[j]? = some (.ref q) /\ H q=some (.lst ws) /\ aV K F (O.trs ro) ws /\ vs.length=os.length:=by
 obtain ⟨vs,B,rfl,h1,h2,h3⟩:=S.root
 have hl:=h3.length
 obtain ⟨ws,v0,xs,B1,C,D,rfl,rfl,rfl,g1,⟨q,zs,C',rfl,rfl,k1,k2,k3⟩,g3⟩:=h3.split e
 obtain ⟨rfl,k4⟩:=k3.plain ha
 exact ⟨_,q,zs,h1,by rw [List.getElem?_append_right (Nat.le_refl _),Nat.sub_self,List.getElem?_cons_zero],k1,k4,hl⟩
theorem fP.turn (S:fP K F0 H0 F H p os A) {j:Nat} {ro:List O} {vs:List V} {q:Addr} {ts:List T} {ws:List V} (e:os[j]? = some (.lst ro)) (ha:nL ro=true) (hp:H p=some (.lst vs)) (hq:vs[j]? = some (.ref q)) (r:aV K F ts ws) :
  fP K F0 H0 F (upd H q (.lst ws)) p (os.set j (.lst (ts.map O.val))) A:=by
 obtain ⟨vs',B,rfl,h1,h2,h3⟩:=S.root
 rw [hp] at h1; cases h1
 obtain ⟨us,v0,xs,B1,C,D,rfl,rfl,rfl,g1,⟨q',zs,C',rfl,rfl,k1,k2,k3⟩,g3⟩:=h3.split e
 rw [List.getElem?_append_right (Nat.le_refl _),Nat.sub_self,List.getElem?_cons_zero] at hq
 cases hq
 obtain ⟨rfl,k4⟩:=k3.plain ha
 have nd:=List.nodup_cons.mp S.nd
 obtain ⟨n1,n2,n3⟩:=List.nodup_append.mp nd.2
 obtain ⟨n4,n5,n6⟩:=List.nodup_append.mp n2
 have q0:H0 q=none:=S.h0 q (List.mem_cons_of_mem _ (List.mem_append_right _ (List.mem_append_left _ List.mem_cons_self)))
 have qp:p ≠ q:=fun z=>nd.1 (z ▸ (List.mem_append_right _ (List.mem_append_left _ List.mem_cons_self)))
 have mv:∀ {us:List O} {zs:List V} {E:List Addr},(∀ a ∈ E,a ≠ q) -> bz K F H us zs E -> bz K F (upd H q (.lst ws)) us zs E:=fun sub h=>bz.move (aS.refl _) (fun a ha=>⟨aO (sub a ha),(h.at a ha).1⟩) h
 have s1:∀ a ∈ B1,a ≠ q:=fun a ha=>n3 a ha q (List.mem_append_left _ List.mem_cons_self)
 have s2:∀ a ∈ D,a ≠ q:=fun a ha z=>n6 q List.mem_cons_self a ha z.symm
 refine ⟨⟨S.g.sF,fun a o' ha=>?_,fun a o' ha=>?_,S.g.nw⟩,⟨p,_,_,rfl,rfl,(aO qp).trans hp,h2,?_⟩,S.nd,S.h0⟩
 ·rw [aO (fun z=>by subst z; rw [q0] at ha; cases ha)]; exact S.g.sH _ _ ha
 ·rw [aO (fun z=>by subst z; rw [k2] at ha; cases ha)]; exact S.g.fh _ _ ha
 ·rw [yo _ e]
  exact (mv s1 g1).app ((bz.one (K:=K) (F:=F) (H:=upd H q (.lst ws)) (o:=.lst (ts.map O.val)) ⟨q,ws,[],rfl,rfl,aX,k2,.vals r⟩).app (mv s2 g3))
theorem iu:∀ (ts:List T),O.trs (ts.map O.val)=ts
 | []=>rfl
 | t :: ts=>by rw [List.map_cons,O.trs,iu ts]; rfl
end
open PySem PySem.Spec PyProof.Rows L2
def Ko (K:PySem.W.Frag) (n:Nat) (d:List T -> Option O):Sp:=fun vs H Q _=>vs.length=n /\ ∃ F ts o,aS F H /\ aV K F ts vs /\ d ts=some o /\
 ∀ F' H' v A,br F H F' H' -> dM K F' H' o v A -> A.Nodup -> (∀ a ∈ A,H a=none) -> Q v H'
structure iY (P:Program) (w:World) (K:PySem.W.Frag) (mg:Str -> Option Value) (base:Heap) (k:Nat) (x:Str) (n:Nat) (d:List T -> Option O):Prop where
 ex:∃ f fd ps,ie P w K mg base qV k f fd ps (Ko K n d) /\ Binds K fd ps [] /\ PySem.W.keepIn K (.ref f)=true /\ mg x=some (.ref f) /\ ps.length=n
section
variable {P:Program} {w:World} {K:PySem.W.Frag} {mg:Str -> Option Value} {base:Heap} {j k n:Nat} {x:Str}
theorem iY.imp {d d':List T -> Option O} (D:iY P w K mg base k x n d) (h:∀ ts o,d' ts=some o -> d ts=some o):iY P w K mg base k x n d':=by
 obtain ⟨f,fd,ps,F,r⟩:=D.ex
 exact ⟨f,fd,ps,F.imp fun vs H Q E ⟨l,F,ts,o,a,b,c,q⟩=>⟨l,F,ts,o,a,b,h _ _ c,q⟩,r⟩
theorem iY.mono {d:List T -> Option O} (D:iY P w K mg base j x n d) (h:j ≤ k):iY P w K mg base k x n d:=by
 obtain ⟨f,fd,ps,F,r⟩:=D.ex
 exact ⟨f,fd,ps,F.mono h,r⟩
theorem iY.plain {d:List T -> Option O} (D:iY P w K mg base k x n d):Def P w K mg base k x n (fun ts=>(d ts).bind fun o=>some o.tr):=by
 obtain ⟨f,fd,ps,F,r⟩:=D.ex
 refine ⟨f,fd,ps,F.imp fun vs H Q E ⟨l,F,ts,t,a,b,c,q⟩=>?_,r⟩
 obtain ⟨o,e1,e2⟩:=bind_some c
 cases e2
 exact ⟨l,F,ts,o,a,b,e1,fun F' H' v A g ro nd h0=>q _ H' v (g.frzO (fun a ha=>(ro.at a ha).1) h0) ro.frz⟩
end
section
variable {X:Cx} {e:Expr} {es:List Expr} {pos:Pos} {g:FA}
def j4 (d:List T -> Option O) (g:FA):mP:=fun τ=>(g τ).bind fun p=>(d p.1).bind fun o=>some (o,p.2)
theorem Ap {K:PySem.W.Frag} {F₀ H₀ F H:Hp} {σ:L2.St} {τ:aP} {A:List Addr} (E:aJ K F₀ H₀ F H σ τ) (n:∀ a ∈ A,H a=none):Apart σ τ A:=fun j us q e1 e2 m=>by
 obtain ⟨v,k1,p',vs',rfl,k2,_⟩:=E.sl j _ e1
 rw [e2] at k1; cases k1
 rw [n _ m] at k2; cases k2
theorem B3 {k n:Nat} {x:Str} {p:Pos} {d:List T -> Option O} (D:iY X.prog X.w X.K X.mg X.base k x n d) (hr:eY k X.A) (hg:Gl X x) (ha:SA X (e :: es) g) (hl:∀ τ ts τ',g τ=some (ts,τ') -> ts.length=n) (hdb:(x == ("__debug__" : Str))=false:=by decide)
  (he:starEach (e :: es) X.env=(false,eval e X.env) :: starEach es X.env:=by rfl) (hpl:(backTo pos (starEach es X.env)).any (·.1)=false:=by rfl):vC X (.Call (.Name x p) (e :: es) [] pos) (j4 d g):=by
 obtain ⟨f,fd,ps,F,hb,hk,hm,hn⟩:=D.ex
 intro F₀ H₀
 refine PE.weak (tx (E:=E0) (CX:=qV) F hr hg hm hk hb .nil BL (ha F₀ H₀) hdb he hpl) fun σ H Q h=>?_
 obtain ⟨F,τ,c,τ',E,e1,q⟩:=h
 obtain ⟨⟨z,τ1⟩,e2,e1⟩:=bind_some e1
 have hz:=hl _ _ _ e2
 obtain ⟨u,e4,e1⟩:=bind_some e1
 cases e1
 refine ⟨F,τ,z,_,E,e2,fun F1 H1 vs E1 s1 r1=>⟨by rw [List.append_nil,r1.length]; exact hz,F1,z,c,E1.g.fh,by rw [List.append_nil]; exact r1,e4,fun F3 H3 v3 A g3 r3 nd h0=>?_⟩⟩
 exact q F3 H3 v3 A (E1.grow g3) (s1.trans g3.sF) r3 nd (fun a ha=>E1.g.sH.free (h0 a ha)) (Ap E1 h0)
abbrev Af:=aP -> Option O
def Ku (K:PySem.W.Frag) (F₀ H₀:Hp) (f:Af):TS:=fun D σ H=>∃ F τ o,aJ K F₀ H₀ F H σ τ /\ f τ=some o /\ ∀ F' H' v A,br F₀ H₀ F' H' -> dM K F' H' o v A -> A.Nodup -> (∀ a ∈ A,H₀ a=none) -> D.rt v H'
def IJ (X:Cx) (ss:List Stmt) (f:Af):Prop:=∀ F₀ H₀,mR X ss (Ku X.K F₀ H₀ f)
def kN (f:mP):Af:=fun τ=>(f τ).bind fun p=>some p.1
theorem tU {f:mP} (h:vC X e f):IJ X [.Return (some e) pos] (kN f):=fun F₀ H₀=>mR.weak (yh (BU (h F₀ H₀))) fun D σ H hq__=>by
 obtain ⟨F,τ,o,E,e1,q⟩:=hq__
 obtain ⟨⟨x,τ1⟩,e2,e1⟩:=bind_some e1
 cases e1
 exact ⟨F,τ,_,τ1,E,e2,fun F' H' v A E' _ r nd h0 _=>q F' H' v A E'.g r nd h0⟩
def mF (t:FS) (u:Af):Af:=fun τ=>(t τ).bind fun r=>match r with | .nx τ'=>u τ' | _=>none
theorem pz {st:Stmt} {rest:List Stmt} {t:FS} {u:Af} (h1:SS X st t) (h2:IJ X rest u):IJ X (st :: rest) (mF t u):=fun F₀ H₀=>mR.weak (uZ (h1 F₀ H₀) (h2 F₀ H₀)) fun D σ H hq__=>by
 obtain ⟨F,τ,o,E,e1,q⟩:=hq__
 obtain ⟨x,e2,e1⟩:=bind_some e1
 refine ⟨F,τ,x,E,e2,?_⟩
 cases x with
 | nx τ1=>exact fun F1 H1 σ1 E1 s1=>⟨F1,τ1,o,E1,e1,q⟩
 | rt t=>cases e1
 | bk t=>cases e1
 | ct t=>cases e1
end
def pL (m n:Nat) (fb:Af):List T -> Option O:=fun ts=>if ts.length=n then fb (ts.map (fun t=>some (Sl.sh t)) ++ List.replicate (m - n) none) else none
section
variable {P:Program} {w:World} {K:PySem.W.Frag} {mg:Str -> Option Value} {base:Heap}
theorem rG {x qual:Str} {st:Stmt} {f:Addr} {fd:FuncData} {N ps:List Str} {k:Nat} {fb:Af} (F:fV K x qual st f fd) (S:aU N ps (aF st)) (hb:Binds K fd ps []) (hm:mg x=some (.ref f))
  (h:∀ (cdv:Value) (A:Around) (outer:List Env) (s:Shared) (H:Hp) (E:XK),eY k (A.deeper (envOfC qual (aF st) s.heap.objs.size f cdv)) -> IJ (pK qV P w K mg base N qual (aF st) f cdv A outer s H E).nox (d5 st) fb) :
  iY P w K mg base (k + 1) x ps.length (pL N.length ps.length fb):=by
 refine ⟨f,fd,ps,F.ok S (fun vs H Q E z=>z.1) (fun cdv A outer s H vs Q E hr z=>?_),hb,F.kp,hm,rfl⟩
 obtain ⟨hl,F1,ts,o,sm,r,e,q⟩:=z
 unfold pL at e
 split at e
 ·next hn =>
  refine ⟨_,h cdv A outer s H E hr F1 H,F1,_,o,?_,e,fun F' H' v A g ro nd h0=>q F' H' v A g ro nd h0⟩
  have:=lL (N:=N) sm r
  rw [hn] at this
  exact this
 ·cases e
end
section
variable {X:Cx} {e:Expr} {es:List Expr} {pos:Pos} {g:FA}
def lM (fo:mP) (g:FA) (d:O -> List T -> Option T):FE:=fun τ=>(fo τ).bind fun p=>if cz p.2=true then (g p.2).bind fun r=>if cz r.2=true then (d p.1 r.1).bind fun t=>some (t,r.2) else none else none
theorem B0 {k n:Nat} {y:Str} {p0 pc:Pos} {fo:mP} {d:O -> List T -> Option T} (D:nG X.prog X.w X.K X.mg X.base k y n d) (hr:eY k X.A) (hg:Gl X y) (h0':vC X e fo) (ha:SA X es g) (hl:∀ τ ts τ',g τ=some (ts,τ') -> ts.length + 1=n)
  (hdb:(y == ("__debug__" : Str))=false:=by decide)
  (he:starEach (e :: es) X.env=(false,eval e X.env) :: starEach es X.env:=by rfl) (hpl:(backTo pc (starEach es X.env)).any (·.1)=false:=by rfl) :
  SE X (.Call (.Name y p0) (e :: es) [] pc) (lM fo g d):=by
 obtain ⟨f,fd,pps,Fk,hb,hk,hm,hn⟩:=D.ex
 intro F₀ H₀
 refine PE.weak (tx (E:=E0) (CX:=qV) Fk hr hg hm hk hb .nil BL (k8 (h0' F₀ H₀) ha.any he) hdb he hpl) ?_
 rintro σ H Q ⟨F,τ,t,τ',E,e1,q⟩
 obtain ⟨⟨o,τ1⟩,e2,e1⟩:=bind_some e1
 dsimp only at e1
 split at e1
 ·next ha1 =>
  obtain ⟨⟨ts,τ3⟩,e4,e1⟩:=bind_some e1
  dsimp only at e1
  split at e1
  ·next ha3 =>
   obtain ⟨t',e5,e1⟩:=bind_some e1
   cases e1
   refine ⟨F,τ,o,τ1,E,e2,fun F1 H1 v A E1 s1 ro nd h0 ow=>⟨F1,H1,F1,τ1,ts,_,E1.rebase ha1 E1.g.fh,e4,fun F3 H3 vs E3 s3 r3=>?_⟩⟩
   have ro3:=ro.over E3.g
   have g3:br F₀ H₀ F3 H3:=E1.g.trans E3.g
   refine ⟨by rw [List.append_nil,List.length_cons,r3.length]; exact hl _ _ _ e4,F3,o,v,vs,ts,A,t,E3.g.fh,by rw [List.append_nil],ro3,nd,r3,e5,fun F4 H4 v4 g4 r4=>?_⟩
   exact q F4 H4 v4 (E3.to ha3 g4.sF (g3.taken h0 g4)) ((s1.trans s3).trans g4.sF) r4
  ·cases e1
 ·cases e1
def AX (fo:mP) (f:FE):FS:=fun τ=>(fo τ).bind fun p=>match p.1 with
 | .lst os=>if cz p.2=true /\ os.length < sizeLine then (f p.2).bind fun r=>if cz r.2=true then some (.nx r.2) else none else none
 | _=>none
theorem vc {x:Str} {a:Addr} {i j:Int} {t t':Tok} {od:Option Addr} {n:Nat} {sl:Array (Option Value)} {pos:Pos} (hg:Gl X x) (hm:X.mg x=some (.ref a)) (hK:X.K.lookup a=some ⟨.type "tuple", od,.seq #[.int i t,.int j t'] n,sl⟩) (hd:(x == ("__debug__" : Str))=false:=by decide) :
  SE X (.Name x pos) (fC (.tup [.int i,.int j])):=
 ir (yg (v:=.ref a) hg hm rfl hd) fun F=>⟨a,[.int i,.int j],rfl,.inr ⟨_,_,n,hK,rfl,rfl,du (n:=2) (by decide),.cons ⟨_,rfl⟩ (.cons ⟨_,rfl⟩ .nil)⟩,⟨_,_,rfl,rfl,_,_,rfl,rfl,rfl⟩⟩
end
open PySem PySem.Spec PyProof.Rows L2
section
variable {X:Cx}
def vM:List T -> Option T
 | [.lst ts]=>(intsOf ts).bind fun ns=>some (.int ns.sum)
 | _=>none
theorem ints_get {K:PySem.W.Frag} {F:Hp}:∀ {ns:List Int} {vs:List V} {its:List Value},aV K F (ns.map T.int) vs -> Vals vs its -> ∃ xs:List (Int × Tok),its=xs.map (fun p=>Value.int p.1 p.2) /\ xs.map (·.1)=ns
 | [],vs,its,r,z=>by
  cases r; cases z; exact ⟨[],rfl,rfl⟩
 | n :: ns,vs,its,r,z=>by
  obtain ⟨v,rr,rfl,h1,h2⟩:=r
  cases h1
  cases z with
  | cons rz zz =>
   obtain ⟨t,rfl⟩:=rz
   obtain ⟨xs,e1,e2⟩:=ints_get h2 zz
   exact ⟨(n,t) :: xs,by rw [e1]; rfl,by rw [List.map_cons,e2]⟩
theorem AE (hc:X.calm=true):jN X (.builtin "sum") vM:=by
 intro pins s σ H xs us Q I rx ⟨F,ts,t,sm,r,e,q⟩
 unfold vM at e
 split at e
 ·next ts =>
  obtain ⟨ns,e1,e2⟩:=bind_some e
  cases e2
  have et:=iE e1
  subst et
  obtain ⟨v,rr,rfl,⟨p,vs,rfl,h1,h2⟩,rfl⟩:=r
  obtain ⟨u,rfl,ru⟩:=Vals.one rx
  cases ru
  obtain ⟨its,rv,pl,hz⟩:=I.list (fF.of (sm _ _ h1))
  obtain ⟨xs,ex,en⟩:=ints_get h2 rv
  have hl:s.heap.IsList p (intItems xs.toArray):=by
   have:=pl.isList
   rw [ex] at this
   simpa [intItems] using this
  refine sum_intListG (I.ok.hd hc) hl fun h' tk t' hk=>?_
  have e2:preSum (numAt xs.toArray) xs.toArray.size=ns.sum:=by
   rw [preSum_eq,List.take_of_length_le (by simp),<- en]
  rw [e2]
  exact ⟨.int _,H,I.kept (t':=tk) hk,⟨t',rfl⟩,q F H _ (br.refl sm) rfl⟩
 ·cases e
end
open PySem PySem.Spec PyProof.Rows L2
section
variable {prog:Program} {w:World} {A:Around} {E:Value -> Shared -> Prop} {s:Shared}
end
section
variable {X:Cx}
end
open PySem PySem.Spec PyProof.Rows L2
section
variable {prog:Program} {w:World} {A:Around} {R:Result -> Shared -> Prop} {I:Addr} {fp wr:List Addr} {n:Nat} {P:Nat -> Value -> Prop} {St:Nat -> Heap -> Prop} {kw:List (Str × Value)}
abbrev lG (a:Array Value) (c:Nat):Obj:={ cls:=.type "list", dict:=none,data:=.seq a c,slots:=#[] }
theorem nv:(toString "max" ++ toString ".loop" : String) = "max.loop" := by decide
theorem Dv (W:PySem.Walks prog w A.in1 I fp wr n P St) (bt:Nat -> Nat -> Bool) (hcmp:CmpOf prog w A.in1 .Gt P bt) (S:Addr) (hSf:S ∉ fp) (k:Nat) :
  ∀ (j:Nat) (s:Shared) (vb:Value) (c:Nat),n - (j + 1)=k -> j + 1 ≤ n -> St (j + 1) s.heap -> P (argBest bt j) vb -> s.heap.get? S=some (lG #[vb,vb] c) ->
  (∀ v h' tk,P (argBest bt (n - 1)) v -> (∀ b o,b ∉ wr -> b ≠ S -> s.heap.get? b=some o -> h'.get? b=some o) -> R (.ok (.ret v)) { s with heap:=h',toks:=tk }) -> codeAny (model prog w) A (.builtin "max.loop" ⟨[.ref I,.none,.ref S],kw⟩) R s:=by
 have hSw:S ∉ wr:=fun h=>hSf (W.sub _ h)
 induction k with
 | zero =>
  intro j s vb c hk hj hst hPb hS hR
  have hin:j + 1=n:=by omega
  refine codeAny_builtin F.entry_max_loop (?_:_); rw [Around.under_plainId F.plain_max_loop _]
  show wpAny _ A.in1 (seqItems? (.ref S) >>= _) _ _ s; refine wpAny_bind (wpAny_seqItems hS rfl ?_)
  show wpAny _ A.in1 (tryCatch (pyNext (.ref I)) _ >>= _) _ _ s; refine wpAny_bind (wpAny_tryCatch (W.done s _ _ (hin ▸ hst) fun h' tk hk'=>?_))
  show wpAny _ A.in1 (updateSeq S (fun _=>#[]) >>= _) _ _ _; refine wpAny_bind (wpAny_updateSeq (hk' S _ hSw hS) rfl (wpAny_bind (wpAny_letGo (wpAny_pure ?_))))
  exact hR vb _ tk (by rw [<- hin]; exact hPb) fun b o hbw hbS e=>(Heap.get?_update_other _ _ (Ne.symm hbS)).trans (hk' b o hbw e)
 | succ k ih =>
  intro j s vb c hk hj hst hPb hS hR
  have hlt:j + 1 < n:=by omega
  refine codeAny_builtin F.entry_max_loop (?_:_); rw [Around.under_plainId F.plain_max_loop _]
  show wpAny _ A.in1 (seqItems? (.ref S) >>= _) _ _ s; refine wpAny_bind (wpAny_seqItems hS rfl ?_)
  show wpAny _ A.in1 (tryCatch (pyNext (.ref I)) _ >>= _) _ _ s; refine wpAny_bind (wpAny_tryCatch (W.item (j + 1) s _ _ hlt hst fun v h' tk hP hst' hk'=>?_))
  have hS':=hk' S _ hSw hS
  show wpAny _ A.in1 (tryCatch (holding [v,v] (richCompare .Gt v vb >>= _)) _ >>= _) _ _ _; refine wpAny_bind (wpAny_tryCatch (wpAny_holding (wpAny_bind (hcmp (j + 1) (argBest bt j) v vb _ _ _ hP hPb (wpAny_bind (wpAny_holding (wpAny_truthy_bool (wpAny_bind (wpAny_letGo (wpAny_pure ?_))))))))))
  cases hb:bt (j + 1) (argBest bt j) with
  | true =>
   simp only [if_true]
   refine wpAny_bind (wpAny_updateSeq hS' rfl (wpAny_bind (wpAny_letGo (?_:_)))); rw [nv]
   refine wpAny_pure ⟨plainId_quiet F.plain_max_loop _,ih (j + 1) _ v _ (by omega) hlt (W.frame _ _ _ hst' fun b hbf o e=>(Heap.get?_update_other _ _ (fun h:S=b=>hSf (by rw [h]; exact hbf))).trans e) (by simp only [argBest,hb,if_true]; exact hP) (Heap.get?_update_self _ hS' rfl) fun v' h'' tk'' hP' hk''=>?_⟩
   exact hR v' h'' tk'' hP' fun b o hbw hbS e=>hk'' b o hbw hbS ((Heap.get?_update_other _ _ (Ne.symm hbS)).trans (hk' b o hbw e))
  | false =>
   simp only [Bool.false_eq_true,if_false]
   refine wpAny_bind (wpAny_letGo (?_:_)); rw [nv]
   refine wpAny_pure ⟨plainId_quiet F.plain_max_loop _,ih (j + 1) _ vb c (by omega) hlt hst' (by simp only [argBest,hb,Bool.false_eq_true,if_false]; exact hPb) hS' fun v' h'' tk'' hP' hk''=>?_⟩
   exact hR v' h'' tk'' hP' fun b o hbw hbS e=>hk'' b o hbw hbS (hk' b o hbw e)
theorem BE (W:PySem.Walks prog w A.in1 I fp wr n P St) (bt:Nat -> Nat -> Bool) (hcmp:CmpOf prog w A.in1 .Gt P bt) (S:Addr) (hSf:S ∉ fp) (hn:0 < n) {s:Shared} {c:Nat} (hst:St 0 s.heap) (hS:s.heap.get? S=some (lG #[] c))
  (hR:∀ v h' tk,P (argBest bt (n - 1)) v -> (∀ b o,b ∉ wr -> b ≠ S -> s.heap.get? b=some o -> h'.get? b=some o) -> R (.ok (.ret v)) { s with heap:=h',toks:=tk }):codeAny (model prog w) A (.builtin "max.loop" ⟨[.ref I,.none,.ref S],kw⟩) R s:=by
 have hSw:S ∉ wr:=fun h=>hSf (W.sub _ h)
 refine codeAny_builtin F.entry_max_loop (?_:_); rw [Around.under_plainId F.plain_max_loop _]
 show wpAny _ A.in1 (seqItems? (.ref S) >>= _) _ _ s; refine wpAny_bind (wpAny_seqItems hS rfl ?_)
 show wpAny _ A.in1 (tryCatch (pyNext (.ref I)) _ >>= _) _ _ s; refine wpAny_bind (wpAny_tryCatch (W.item 0 s _ _ hn hst fun v h' tk hP hst' hk'=>?_))
 have hS':=hk' S _ hSw hS
 show wpAny _ A.in1 (updateSeq S (fun _=>#[v,v]) >>= _) _ _ _; refine wpAny_bind (wpAny_updateSeq hS' rfl (?_:_)); rw [nv]
 refine wpAny_pure ⟨plainId_quiet F.plain_max_loop _,Dv W bt hcmp S hSf _ 0 _ v _ rfl hn (W.frame _ _ _ hst' fun b hbf o e=>(Heap.get?_update_other _ _ (fun h:S=b=>hSf (by rw [h]; exact hbf))).trans e) hP (Heap.get?_update_self _ hS' rfl) fun v' h'' tk'' hP' hk''=>?_⟩
 exact hR v' h'' tk'' hP' fun b o hbw hbS e=>hk'' b o hbw hbS ((Heap.get?_update_other _ _ (Ne.symm hbS)).trans (hk' b o hbw e))
theorem Du (W:PySem.Walks prog w A.in1 I fp wr n P St) (hn:n=0) (S:Addr) (hSf:S ∉ fp) {d:Value} {s:Shared} {c:Nat} (hst:St 0 s.heap) (hS:s.heap.get? S=some (lG #[] c))
  (hR:∀ h' tk,(∀ b o,b ∉ wr -> b ≠ S -> s.heap.get? b=some o -> h'.get? b=some o) -> R (.ok (.ret d)) { s with heap:=h',toks:=tk }):codeAny (model prog w) A (.builtin "max.loop" ⟨[.ref I,.none,.ref S],[("default", d)]⟩) R s:=by
 refine codeAny_builtin F.entry_max_loop (?_:_); rw [Around.under_plainId F.plain_max_loop _]
 show wpAny _ A.in1 (seqItems? (.ref S) >>= _) _ _ s; refine wpAny_bind (wpAny_seqItems hS rfl ?_)
 show wpAny _ A.in1 (tryCatch (pyNext (.ref I)) _ >>= _) _ _ s; refine wpAny_bind (wpAny_tryCatch (W.done s _ _ (hn.symm ▸ hst) fun h' tk hk'=>?_))
 exact wpAny_bind (wpAny_rule (wpAny_pure (hR h' tk fun b o hbw _ e=>hk' b o hbw e)))
end
def bestOf (ns:List Int):Int:=ns.getD (argBest (fun i j=>decide (ns.getD i 0 > ns.getD j 0)) (ns.length - 1)) 0
theorem yY (a v:Value):argsOk "max" ⟨[a],[(Str.ofString "default", v)]⟩:=by unfold argsOk; kernel_rfl
theorem oF (xs:List (Int × Tok)) (i:Nat):numAt xs.toArray i=(xs.map (·.1)).getD i 0:=by
 unfold numAt
 rw [List.getElem?_toArray,List.getD_eq_getElem?_getD,List.getElem?_map]
section
variable {prog:Program} {w:World} {A:Around} {E:Value -> Shared -> Prop} {s:Shared}
theorem Ds {l:Addr} {xs:List (Int × Tok)} {d:Value} {Q:Value -> Shared -> Prop} (hh:A.handled=none) (hl:s.heap.IsList l (intItems xs.toArray))
  (h:∀ v h' tk,(∀ b o,s.heap.get? b=some o -> h'.get? b=some o) -> (xs=[] /\ v=d \/ xs ≠ [] /\ ∃ t,v=Value.int (bestOf (xs.map (·.1))) t) -> Q v { s with heap:=h',toks:=tk }) :
  wpAny (model prog w) A (call (.builtin "max") [.ref l] [(Str.ofString "default", d)]) Q E s:=by
 obtain ⟨ol,hol,_⟩:=id hl
 have hll:@LT.lt Nat _ l s.heap.objs.size:=Heap.lt_size hol
 refine kmk_tree PySem.F.kind_max PySem.F.plain_max PySem.F.entry_max (yY _ _) ?_
 show wpAny _ A.in1 (Builtin.Builtins.bindParams "max" ["key", "default"] 0 ⟨[],[(Str.ofString "default", d)]⟩ >>= _) _ _ s
 refine wpAny_bind (wpAny_of_eq (show Builtin.Builtins.bindParams "max" ["key", "default"] 0 ⟨[],[(Str.ofString "default", d)]⟩=pure [none,some d] from rfl) ?_)
 refine wpAny_bind (wpAny_pure (wpAny_bind (wpAny_pyIter_list hl (wpAny_bind (wpAny_newObj_type ?_)))))
 rw [nv]
 have hz:(s.heap.push { cls:=.type "list_iterator", data:=.fields #[.ref l,.int 0 0] }).objs.size=s.heap.objs.size + 1:=Heap.size_push ..
 have W:=PySem.Walks.list (prog:=prog) (w:=w) (A:=A.in1) hh s.heap.objs.size l (Nat.ne_of_lt hll) (intItems xs.toArray)
 have st0:((s.heap.push { cls:=.type "list_iterator", data:=.fields #[.ref l,.int 0 0] }).push (lG #[] 0)).IsListIter s.heap.objs.size l 0 /\ ((s.heap.push { cls:=.type "list_iterator", data:=.fields #[.ref l,.int 0 0] }).push (lG #[] 0)).IsList l (intItems xs.toArray):=
  ⟨⟨_,Heap.get?_push_of_some _ (Heap.get?_push_size _ rfl),rfl,rfl⟩,(hl.push _).push _⟩
 have hSf:(s.heap.push { cls:=.type "list_iterator", data:=.fields #[.ref l,.int 0 0] }).objs.size ∉ [s.heap.objs.size,l]:=fun m=>by
  rw [hz] at m
  rcases List.mem_cons.mp m with m | m
  ·exact absurd m (Nat.succ_ne_self _)
  ·rw [List.mem_singleton] at m; rw [<- m] at hll; exact absurd hll (by omega)
 have keep:∀ {h':Heap},(∀ b o,b ∉ [s.heap.objs.size] -> b ≠ (s.heap.push { cls:=.type "list_iterator", data:=.fields #[.ref l,.int 0 0] }).objs.size -> ((s.heap.push { cls:=.type "list_iterator", data:=.fields #[.ref l,.int 0 0] }).push (lG #[] 0)).get? b=some o -> h'.get? b=some o) -> ∀ b o,s.heap.get? b=some o -> h'.get? b=some o:=fun k b o e=>by
  have hb:@LT.lt Nat _ b s.heap.objs.size:=Heap.lt_size e
  exact k b o (fun m=>by rw [List.mem_singleton.mp m] at hb; exact Nat.lt_irrefl _ hb) (fun m=>by rw [m,hz] at hb; omega) (Heap.get?_push_of_some _ (Heap.get?_push_of_some _ e))
 cases xs with
 | nil=>exact wpAny_pure ⟨plainId_quiet F.plain_max_loop _,Du W (by simp [intItems]) _ hSf st0 (Heap.get?_push_size _ rfl) fun h' tk hk=>h d h' tk (keep hk) (.inl ⟨rfl,rfl⟩)⟩
 | cons x xs =>
  have val:∀ i v,(intItems (x :: xs).toArray)[i]? = some v -> ∃ t,v=Value.int (numAt (x :: xs).toArray i) t:=fun i v e=>intItems_at e
  refine wpAny_pure ⟨plainId_quiet F.plain_max_loop _,BE W _ (CmpOf.ints_gt (numAt (x :: xs).toArray) val) _ hSf (by simp [intItems]) st0 (Heap.get?_push_size _ rfl) fun v h' tk hP hk=>h v h' tk (keep hk) (.inr ⟨by simp,?_⟩)⟩
  obtain ⟨t,e⟩:=val _ _ hP
  refine ⟨t,e.trans ?_⟩
  congr 1
  rw [oF]
  unfold bestOf
  simp only [oF]
  congr 2
  simp [intItems]
end
section
variable {X:Cx}
def xM:T -> T -> Option T
 | .lst ts,.int d=>(intsOf ts).bind fun ns=>some (.int (if ns=[] then d else bestOf ns))
 | _,_=>none
theorem DS {e d:Expr} {f fd:FE} {p pos kp:Pos} (hc:X.calm=true) (hg:Gl X "max") (hm:X.mg "max" = none) (he:SE X e f) (hd:SE X d fd) (hs:starEach [e] X.env=[(false,eval e X.env)]:=by rfl) :
  SE X (.Call (.Name "max" p) [e] [⟨some "default", d,kp⟩] pos) (aD xM f fd):=by
 intro F₀ H₀ pins s σ H Q I h
 obtain ⟨F,τ,t,τ',E,e1,q⟩:=h
 obtain ⟨⟨x,τ1⟩,e2,e1⟩:=bind_some e1
 obtain ⟨⟨y,τ2⟩,e3,e1⟩:=bind_some e1
 obtain ⟨z,e4,e1⟩:=bind_some e1
 cases e1
 refine wpAny_Call_Name_kw (iG I hg hm PyProof.Rows.boot_max (PyProof.Rows.callWith_kw ?_ (by rw [hs]; rfl) (by rw [hs]; rfl)))
 rw [hs]
 refine Calls.spliced_cons (dm (he F₀ H₀ pins s σ H (fun v H1=>∃ F1,aJ X.K F₀ H₀ F1 H1 σ τ1 /\ aS F F1 /\ Rep X.K F1 x v) I ⟨F,τ,x,τ1,E,e2,fun F1 H1 v E1 s1 r1=>⟨F1,E1,s1,r1⟩⟩) fun u s1 ⟨v1,H1,I1,ru,F1,E1,sF1,r1⟩=>Calls.spliced_nil ?_)
 refine PyProof.Rows.kws_cons (dm (hd F₀ H₀ pins s1 σ H1 (fun v H2=>∃ F2,aJ X.K F₀ H₀ F2 H2 σ _ /\ aS F1 F2 /\ Rep X.K F2 y v) I1 ⟨F1,τ1,y,_,E1,e3,fun F2 H2 v E2 s2 r2=>⟨F2,E2,s2,r2⟩⟩) fun u2 s2 ⟨v2,H2,I2,ru2,F2,E2,sF2,r2⟩=>PyProof.Rows.kws_nil ?_)
 dsimp only at e4
 unfold xM at e4
 split at e4
 ·next ts dd =>
  obtain ⟨ns,e5,e6⟩:=bind_some e4
  cases e6
  have et:=iE e5
  subst et
  obtain ⟨pl,vs,rfl,h1,h2⟩:=Rep.mono sF2 r1
  cases ru
  cases r2
  obtain ⟨its,rv,pl',hz⟩:=I2.list (fF.of (E2.g.fh _ _ h1))
  obtain ⟨xs,ex,en⟩:=ints_get h2 rv
  have hl:s2.heap.IsList pl (intItems xs.toArray):=by
   have:=pl'.isList
   rw [ex] at this
   simpa [intItems] using this
  obtain ⟨td,rfl⟩:=ru2
  refine Ds (I2.ok.hd hc) hl fun v h' tk hk hv=>?_
  have I3:=I2.kept (t':=tk) hk
  rcases hv with ⟨hx,rfl⟩ | ⟨hx,t,rfl⟩
  ·subst hx
   subst en
   exact ⟨V.int _,H2,I3,⟨_,rfl⟩,q F2 H2 _ E2 (sF1.trans sF2) rfl⟩
  ·refine ⟨.int (bestOf (xs.map (·.1))),H2,I3,⟨_,rfl⟩,q F2 H2 _ E2 (sF1.trans sF2) ?_⟩
   have hne:ns ≠ []:=fun z=>hx (by rw [z] at en; simpa using en)
   rw [if_neg hne,<- en]
   rfl
 ·cases e4
end
open PySem PySem.Spec PyProof.Rows L2
section
variable {X:Cx}
end
open PySem PySem.Spec PyProof.Rows L2
def Fits (K:PySem.W.Frag) (F:Hp):L2.St -> aP -> Prop
 | [],[]=>True
 | _ :: σ,none :: τ=>Fits K F σ τ
 | some v :: σ,some (.sh t) :: τ=>Rep K F t v /\ Fits K F σ τ
 | _,_=>False
theorem Fits.len {K:PySem.W.Frag} {F:Hp}:∀ {σ:L2.St} {τ:aP},Fits K F σ τ -> σ.length=τ.length
 | [],[],_=>rfl
 | [],_ :: _,h=>by cases h
 | _ :: _,[],h=>by cases h
 | _ :: σ,none :: τ,h=>by have:Fits K F σ τ:=h; simp [this.len]
 | some v :: σ,some (.sh t) :: τ,h=>by simp [(h.2:Fits K F σ τ).len]
 | none :: σ,some (.sh t) :: τ,h=>by cases h
 | none :: σ,some (.own t) :: τ,h=>by cases h
 | some v :: σ,some (.own t) :: τ,h=>by cases h
theorem Fits.get {K:PySem.W.Frag} {F:Hp}:∀ {σ:L2.St} {τ:aP} {i:Nat} {s:Sl},Fits K F σ τ -> τ[i]? = some (some s) -> ∃ t v,s=.sh t /\ σ[i]? = some (some v) /\ Rep K F t v
 | [],[],i,s,_,e=>by simp at e
 | [],_ :: _,_,_,h,_=>by cases h
 | _ :: _,[],_,_,h,_=>by cases h
 | _ :: σ,none :: τ,0,s,h,e=>by simp at e
 | _ :: σ,none :: τ,i + 1,s,h,e=>Fits.get (σ:=σ) (τ:=τ) (i:=i) h (by simpa using e)
 | some v :: σ,some (.sh t) :: τ,0,s,h,e=>by simp at e; exact ⟨t,v,e.symm,rfl,h.1⟩
 | some v :: σ,some (.sh t) :: τ,i + 1,s,h,e=>Fits.get (σ:=σ) (τ:=τ) (i:=i) h.2 (by simpa using e)
 | none :: σ,some (.sh t) :: τ,_,_,h,_=>by cases h
 | none :: σ,some (.own t) :: τ,_,_,h,_=>by cases h
 | some v :: σ,some (.own t) :: τ,_,_,h,_=>by cases h
abbrev Ik (ts:List T):O:=.lst (ts.map O.val)
theorem nM:∀ ts:List T,nL (ts.map O.val)=true
 | []=>rfl
 | _ :: ts=>nM ts
theorem vC.any {X:Cx} {e:Expr} {f:mP} (h:vC X e f):PE X e (fun σ H Q=>∃ F₀ H₀,J0 X.K F₀ H₀ f σ H Q):=fun pins s σ H Q I ⟨F₀,H₀,q⟩=>h F₀ H₀ pins s σ H Q I q
theorem SI.any {X:Cx} {tg e:Expr} {f:FA} (h:SI X tg e f):PI X tg e (fun σ H R=>∃ F₀ H₀,tI X.K F₀ H₀ f σ H R):=fun pins s σ H R I ⟨F₀,H₀,q⟩=>h F₀ H₀ pins s σ H R I q
theorem fP.at {K:PySem.W.Frag} {F0 H0 F H:Hp} {p:Addr} {A:List Addr} {tss:List (List T)} (S:fP K F0 H0 F H p (tss.map Ik) A) {j:Nat} {ts:List T} (e:tss[j]? = some ts) :
  ∃ vs q ws,H p=some (.lst vs) /\ vs[j]? = some (.ref q) /\ H q=some (.lst ws) /\ aV K F ts ws /\ vs.length=tss.length:=by
 obtain ⟨vs,q,ws,h1,h2,h3,h4,h5⟩:=S.row (j:=j) (ro:=ts.map O.val) (by rw [List.getElem?_map,e]; rfl) (nM ts)
 exact ⟨vs,q,ws,h1,h2,h3,by rw [iu] at h4; exact h4,by rw [h5,List.length_map]⟩
theorem fP.len {K:PySem.W.Frag} {F0 H0 F H:Hp} {p:Addr} {A:List Addr} {os:List O} (S:fP K F0 H0 F H p os A):∃ vs,H p=some (.lst vs) /\ vs.length=os.length:=by
 obtain ⟨vs,B,_,h1,_,h3⟩:=S.root
 exact ⟨vs,h1,h3.length⟩
open PySem PySem.Spec PyProof.Rows L2
def kd:T -> Nat
 | .non=>1 | .bl _=>2 | .int _=>0 | .str _=>3 | .ty _=>4 | .tup _=>5 | .lst _=>5 | .scr _=>5 | .dic=>5 | .obj _ _ _=>5 | .ptr _=>5
def HB (us ts:List T):Bool:=us.length != ts.length || (List.zip us ts).any fun p=>kd p.1 != kd p.2
mutual
def apart (us:List T):T -> Bool
 | .tup ts=>gy us ts
 | .lst ts=>HB us ts && gy us ts
 | .scr _=>false
 | .obj _ _ ts=>gy us ts
 | _=>true
def gy (us:List T):List T -> Bool
 | []=>true
 | t :: ts=>apart us t && gy us ts
end
def Ki:V -> Nat
 | .non=>1 | .bl _=>2 | .int _=>0 | .str _=>3 | .ty _=>4 | .ref _=>5 | _=>6
theorem HM {K:PySem.W.Frag} {F:Hp} {t:T} {v:V} (h:Rep K F t v):kd t=Ki v:=by
 cases t with
 | non=>rw [show v=_ from h]; rfl
 | bl b=>rw [show v=_ from h]; rfl
 | int b=>rw [show v=_ from h]; rfl
 | str b=>rw [show v=_ from h]; rfl
 | ty b=>rw [show v=_ from h]; rfl
 | tup ts=>obtain ⟨a,xs,e,_⟩:=h; rw [e]; rfl
 | lst ts=>obtain ⟨a,xs,e,_⟩:=h; rw [e]; rfl
 | scr ts=>obtain ⟨a,xs,e,_⟩:=h; rw [e]; rfl
 | dic=>obtain ⟨a,e,_⟩:=h; rw [e]; rfl
 | obj _ _ _=>obtain ⟨a,_,_,e,_⟩:=h; rw [e]; rfl
 | ptr _=>rw [show v=_ from h]; rfl
theorem Ft {K:PySem.W.Frag} {F:Hp} {t u:T} {v:V} (h:Rep K F t v) (h':Rep K F u v):kd t=kd u:=(HM h).trans (HM h').symm
theorem xC {K:PySem.W.Frag} {F:Hp}:∀ {us ts:List T} {vs:List V},aV K F us vs -> aV K F ts vs -> HB us ts=false
 | [],[],_,_,_=>rfl
 | [],t :: ts,_,h,h'=>by
  obtain ⟨v,r,e,_⟩:=h'
  rw [show _=[] from h] at e; cases e
 | u :: us,[],_,h,h'=>by
  obtain ⟨v,r,e,_⟩:=h
  rw [show _=[] from h'] at e; cases e
 | u :: us,t :: ts,_,h,h'=>by
  obtain ⟨v,r,rfl,h1,h2⟩:=h
  obtain ⟨v',r',e,h3,h4⟩:=h'
  cases e
  have ih:=xC h2 h4
  unfold HB at ih ⊢
  simp only [List.length_cons,List.zip_cons_cons,List.any_cons,Ft h1 h3,bne_self_eq_false,Bool.false_or] at ih ⊢
  simpa using ih
mutual
theorem Rep.drop {K:PySem.W.Frag} {F:Hp} {a:Addr} {us:List T} {vs:List V} (ha:F a=some (.lst vs)) (hu:aV K F us vs):∀ {t:T} {v:V},apart us t=true -> Rep K F t v -> Rep K (jZ F [a]) t v
 | .non,_,_,h=>h
 | .bl _,_,_,h=>h
 | .int _,_,_,h=>h
 | .str _,_,_,h=>h
 | .ty _,_,_,h=>h
 | .tup ts,_,k,h=>by
  obtain ⟨b,xs,h1,h2,h3⟩:=h
  refine ⟨b,xs,h1,?_,aV.drop' ha hu (by simpa [apart] using k) h3⟩
  rcases h2 with (h2 | ⟨o,h2⟩) | h2
  ·refine .inl (.inl ?_)
   rw [dh (fun m=>by rw [List.mem_singleton.mp m,ha] at h2; cases h2)]; exact h2
  ·refine .inl (.inr ⟨o,?_⟩)
   rw [dh (fun m=>by rw [List.mem_singleton.mp m,ha] at h2; cases h2)]; exact h2
  ·exact .inr h2
 | .lst ts,_,k,h=>by
  obtain ⟨b,xs,h1,h2,h3⟩:=h
  have k':HB us ts=true /\ gy us ts=true:=by simpa [apart] using k
  refine ⟨b,xs,h1,?_,aV.drop' ha hu k'.2 h3⟩
  rw [dh (fun m=>by
   rw [List.mem_singleton.mp m,ha] at h2
   cases h2
   rw [xC hu h3] at k'
   exact absurd k'.1 (by decide))]
  exact h2
 | .scr _,_,k,_=>by simp [apart] at k
 | .dic,_,_,h=>by
  obtain ⟨b,h1,h2⟩:=h
  refine ⟨b,h1,?_⟩
  rw [dh (fun m=>by rw [List.mem_singleton.mp m,ha] at h2; cases h2)]
  exact h2
 | .obj C ns ts,_,k,h=>by
  obtain ⟨b,dx,xs,h1,h2,h3,h4⟩:=h
  refine ⟨b,dx,xs,h1,?_,h3,aV.drop' ha hu (by simpa [apart] using k) h4⟩
  rw [dh (fun m=>by rw [List.mem_singleton.mp m,ha] at h2; cases h2)]
  exact h2
 | .ptr _,_,_,h=>h
theorem aV.drop' {K:PySem.W.Frag} {F:Hp} {a:Addr} {us:List T} {vs:List V} (ha:F a=some (.lst vs)) (hu:aV K F us vs):∀ {ts:List T} {ws:List V},gy us ts=true -> aV K F ts ws -> aV K (jZ F [a]) ts ws
 | [],_,_,h=>h
 | t :: ts,_,k,h=>by
  obtain ⟨v,r,h1,h2,h3⟩:=h
  have k':apart us t=true /\ gy us ts=true:=by simpa [gy] using k
  exact ⟨v,r,h1,Rep.drop ha hu k'.1 h2,aV.drop' ha hu k'.2 h3⟩
end
theorem br.lent {F H F' H':Hp} {a:Addr} {o:HO} (hF:F a=none) (g:br (upd F a o) H F' H'):br F H (jZ F' [a]) H':=by
 have sF:aS F (jZ F' [a]):=fun b u e=>by
  have hb:b ≠ a:=fun z=>by rw [z,hF] at e; cases e
  rw [dh (fun m=>hb (List.mem_singleton.mp m))]
  exact g.sF b u (by rw [aO hb]; exact e)
 refine ⟨sF,g.sH,fun b u e=>?_,fun b u e=>?_⟩
 ·by_cases hb:b=a
  ·rw [hb,kG (List.mem_singleton.mpr rfl)] at e; cases e
  ·rw [dh (fun m=>hb (List.mem_singleton.mp m))] at e
   exact g.fh b u e
 ·by_cases hb:b=a
  ·rw [hb,kG (List.mem_singleton.mpr rfl)] at e; cases e
  ·rw [dh (fun m=>hb (List.mem_singleton.mp m))] at e
   rcases g.nw b u e with z | z
   ·rw [aO hb] at z; exact .inl z
   ·exact .inr z
section
variable {X:Cx} {e:Expr} {pos:Pos}
def nh (i j:Nat):FS:=fun τ=>some (.nx ((τ.set i (some (.own []))).set j (some (.own []))))
theorem zX {i j:Nat} {x y:Str} {px py pt pa pb:Pos} {kt k2 pt2} (hc:X.calm=true) (hN:X.N.Nodup) (hi:X.N[i]? = some x) (hj:X.N[j]? = some y) (hij:i ≠ j)
  (hx:X.env.scope.names.lookup x=some .local) (hy:X.env.scope.names.lookup y=some .local)
  (hw:swappedStores [.Tuple [.Name x px,.Name y py] kt pt] (.Tuple [.List [] pa,.List [] pb] k2 pt2) X.env=pure (some [x,y]))
  (hs:swapsWithSole [.Tuple [.Name x px,.Name y py] kt pt] (.Tuple [.List [] pa,.List [] pb] k2 pt2) pos.line X.env=pure false:=by rfl) :
  SS X (.Assign [.Tuple [.Name x px,.Name y py] kt pt] (.Tuple [.List [] pa,.List [] pb] k2 pt2) pos) (nh i j):=fun F₀ H₀=>PS.weak (BS hc hN hi hj hij hx hy (k8 (tB oQ) (k8 (tB oQ) oQ)) hw hs) fun D σ H hq__=>by
 obtain ⟨F,τ,r,E,e1,q⟩:=hq__
 cases e1
 have r0:aV X.K F [] []:=rfl
 exact ⟨Nat.zero_le _,fun p hp=>⟨Nat.zero_le _,fun p2 hp2=>⟨_,_,rfl,q F _ _ ((E.setOwn hp r0).setOwn hp2 r0) (aS.refl _)⟩⟩⟩
end
open PySem PySem.Spec PyProof.Rows L2
def Jb (K:PySem.W.Frag) (l:Addr):It:=
  ⟨fun i H=>∃ xs x,fF K H l xs /\ xs[i]? = some x,
   fun i H v H'=>∃ p x,v=.ref p /\ H p=none /\ H'=upd H p (.tup [.int i,x]) /\ ∀ xs,fF K H l xs -> xs[i]? = some x,
   fun i H=>∃ xs,fF K H l xs /\ xs.length ≤ i⟩
structure J5 (e it l:Addr) (i:Nat) (h:Heap):Prop where
 he:∃ old,IsEnum h e it (i:Int) old
 hi:h.IsListIter it l i
theorem z9 {P:Program} {w:World} {K:PySem.W.Frag} {elts:List Expr} {kx:Nat} {px:Pos} {e it l:Addr} (hei:e ≠ it) :
  Turn P w K (.Tuple elts kx px) (Jb K l) [e,it] e (J5 e it l) where
 mem:=by simp
 obj:=fun i h st b hb=>by
  simp only [List.mem_cons,List.not_mem_nil,or_false] at hb
  rcases hb with rfl | rfl
  ·obtain ⟨old,q⟩:=st.he
   exact ⟨_,q,fun v q=>nomatch (show Data.fields _=Data.cell v from q)⟩
  ·obtain ⟨o,ho,hc,hd⟩:=st.hi
   exact ⟨o,ho,fun v q=>by rw [hd] at q; cases q⟩
 keep:=fun i h h' st k=>by
  obtain ⟨old,q⟩:=st.he
  exact ⟨⟨old,k e (by simp) _ q⟩,st.hi.at fun o x=>k it (by simp) o x⟩
 item:=fun X hP hw hK hc i pins s σ H E I hf st hg=>by
  subst hP hw hK
  obtain ⟨xs,x,q1,g1⟩:=hg
  obtain ⟨its,r1,p1⟩:=gK (b:=true) I q1
  obtain ⟨u,e1,ru⟩:=r1.get g1
  obtain ⟨old,he⟩:=st.he
  refine wpAny_pyNext_enum_item he st.hi p1 (x:=u) (by simpa using e1) hei fun h' ho hit' hT hsz hk=>⟨_,rfl,?_⟩
  refine wpAny_letOwnedTupleGo_enum (s:={ s with heap:=h',toks:=s.toks + 1 }) ho fun h2 b1 b2=>?_
  have le:e < s.heap.objs.size:=Heap.lt_size he
  have li:it < s.heap.objs.size:=by obtain ⟨_,x,_⟩:=st.hi; exact Heap.lt_size x
  have kp:∀ b o,b ∉ [e,it] -> s.heap.get? b=some o -> h2.get? b=some o:=fun b o hb z=>by
   simp only [List.mem_cons,List.not_mem_nil,or_false,not_or] at hb
   exact (b2.2 b hb.1).trans (hk b o hb.1 hb.2 z)
  have pr:h2.get? s.heap.objs.size=some { cls:=.type "tuple", data:=.seq #[.int i s.toks,u] }:=(b2.2 _ (Nat.ne_of_gt le)).trans hT
  have fr:H s.heap.objs.size=none:=I.hok.fresh (Nat.le_refl _)
  have hokA:mQ X.prog X.w (upd H s.heap.objs.size (.tup [.int i,x])) h2:=by
   intro c o z
   by_cases hcz:c=s.heap.objs.size
   ·subst hcz
    rw [aX] at z; cases z
    exact ⟨by show 2 ≤ sizeLine; decide,[.int i s.toks,u],.cons ⟨_,rfl⟩ (.cons ru .nil),_,pr,rfl,_,rfl⟩
   ·rw [aO hcz] at z
    have nf:∀ d o',H d=some o' -> d ∉ [e,it]:=fun d o' ed hd=>by rw [(hf d hd).1] at ed; cases ed
    have up:∀ d o',H d=some o' -> upd H s.heap.objs.size (.tup [.int i,x]) d=some o':=fun d o' ed=>by rw [aO (bO ed fr)]; exact ed
    refine (I.hok c o z).stay (fun d v' hd q=>kp d v' ?_ q) (fun d q=>up d _ q) fun d xs q=>up d _ q
    rcases hd with rfl | hd
    ·exact nf _ o z
    ·exact nf d _ hd
  have J:Inv X pins σ (upd H s.heap.objs.size (.tup [.int i,x])) { s with heap:=h2,toks:=s.toks + 1 }:=by
   have ne:∀ b o,s.heap.get? b=some o -> b ≠ s.heap.objs.size:=fun b o e=>Nat.ne_of_lt (Heap.lt_size e)
   refine I.step (g':=s.gens) (d':=s.drawn) (t':=s.toks + 1) (ch:=[e,it]) (fun b hb=>?_) (fun b o _ _ hc e _=>kp b o hc e) (fun b o _ _ hc e _=>⟨o.slots,kp b o hc e⟩) (fun b o _ e n=>by rw [aO (ne b o e)]; exact n)
    (fun b o hc e=>⟨o,kp b o hc e⟩) (fun b xs e=>by rw [aO (bO e fr)]; exact e) (fun b o u e=>by rw [aO (bO e fr)]; exact e) (fun b ps e=>⟨#[],by rw [aO (bO e fr),e]; simp⟩) (fun m hm=>?_) hokA I.bare
   ·obtain ⟨_,f1,_,f3,f4,f5⟩:=hf b hb
    exact ⟨f3,f1,f4,f5⟩
   ·obtain ⟨o,es,ep,ho,r⟩:=hm
    exact ⟨o,es,ep,kp _ o (fun q=>(hf _ q).2.1 rfl) ho,r⟩
  refine ⟨.ref s.heap.objs.size,_,J,rfl,⟨_,x,rfl,fr,rfl,fun xs' h=>by rw [I.list_inj h q1]; exact g1⟩,⟨⟨u,by simpa using b1⟩,hit'.at fun o z=>(b2.2 it (Ne.symm hei)).trans z⟩,fun b hb=>?_⟩
  have:b ≠ s.heap.objs.size:=by
   simp only [List.mem_cons,List.not_mem_nil,or_false] at hb
   rcases hb with rfl | rfl
   ·exact Nat.ne_of_lt le
   ·exact Nat.ne_of_lt li
  rw [aO this]
  exact (hf b hb).1
 done:=fun X hP hw hK hc i pins s σ H E I hf st hg=>by
  subst hP hw hK
  obtain ⟨xs,q1,g⟩:=hg
  obtain ⟨its,r1,p1⟩:=gK (b:=true) I q1
  obtain ⟨old,he⟩:=st.he
  have n1:=r1.length
  refine wpAny_pyNext_enum_end (I.ok.hd hc) he st.hi p1 (by simp; omega) fun h' k=>⟨rfl,iS I hf fun b o hb e=>?_⟩
  simp only [List.mem_cons,List.not_mem_nil,or_false,not_or] at hb
  exact k b o hb.2 e
 self:=fun _ _ _ _ _ st h=>by
  obtain ⟨old,he⟩:=st.he
  exact wpAny_pyIter_enum he h
def xF (k:Nat):List T -> List T
 | []=>[]
 | t :: ts=>.tup [.int k,t] :: xF (k + 1) ts
theorem n9:∀ (ts:List T) (k:Nat),(xF k ts).length=ts.length
 | [],_=>rfl
 | t :: ts,k=>by simp [xF,n9 ts]
theorem rL:∀ (ts:List T) (k i:Nat) (t:T),(xF k ts)[i]? = some t -> ∃ u,ts[i]? = some u /\ t=.tup [.int ((k + i:Nat):Int),u]
 | [],_,_,_,h=>by simp [xF] at h
 | u :: ts,k,0,t,h=>by
  simp [xF] at h
  exact ⟨u,rfl,by simp [h]⟩
 | u :: ts,k,i + 1,t,h=>by
  obtain ⟨v,e1,e2⟩:=rL ts (k + 1) i t (by simpa [xF] using h)
  exact ⟨v,by simpa using e1,by rw [e2]; congr 4; omega⟩
theorem wZ {K:PySem.W.Frag} {F:Hp} {l:Addr} {xs:List V} {ts:List T} (h1:fF K F l xs) (h2:aV K F ts xs):Walks K F (xF 0 ts) (Jb K l):=by
 refine ⟨fun i t F1 H1 e s1 s2=>?_,fun i t F1 H1 x H2 e s1 s2 y=>?_,fun F1 H1 s1 s2=>⟨xs,(s1.trans s2).seq h1,by rw [n9,h2.length]; exact Nat.le_refl _⟩⟩
 ·obtain ⟨u,e1,_⟩:=rL ts 0 i t e
  obtain ⟨v,g1,_⟩:=h2.get e1
  exact ⟨xs,v,(s1.trans s2).seq h1,g1⟩
 ·obtain ⟨p,v,rfl,hp,rfl,q1⟩:=y
  obtain ⟨u,e1,rfl⟩:=rL ts 0 i t e
  obtain ⟨v',g1,k1⟩:=h2.get e1
  have m1:=q1 xs ((s1.trans s2).seq h1)
  rw [g1] at m1; cases m1
  have gr:=br.new (.tup [.int i,v]) s2 hp
  exact ⟨_,gr,p,_,rfl,jO.of aX,.int i,[v],rfl,by show V.int _=V.int _; rw [Nat.zero_add],v,[],rfl,Rep.mono (s1.trans gr.sF) k1,rfl⟩
def j5 (g:FA):FA:=fun τ=>(g τ).bind fun p=>match p.1 with
 | [.lst ts]=>some (xF 0 ts,p.2)
 | _=>none
theorem yy {X:Cx} {a:Expr} {p pos:Pos} {ga:FA} {elts:List Expr} {kx:Nat} {px:Pos} (hg:Gl X "enumerate") (hm:X.mg "enumerate" = none) (ha:SA X [a] ga) (hs:starEach [a] X.env=[(false,eval a X.env)]:=by rfl) :
  SI X (.Tuple elts kx px) (.Call (.Name "enumerate" p) [a] [] pos) (j5 ga):=by
 intro F₀ H₀ pins s σ H R I ⟨F,τ,ts,τ',E,e1,q⟩
 obtain ⟨⟨x,τ1⟩,e2,e1⟩:=bind_some e1
 dsimp only at e1
 split at e1
 ·next us =>
  cases e1
  refine Call_ (iG I hg hm (show bootBuiltins "enumerate" = some (.type "enumerate") from rfl) (PyProof.Rows.callWith_type1 (dm (ha F₀ H₀ pos pins s σ H (fun vs H'=>∃ l xs,vs=[.ref l] /\ fF X.K H' l xs /\ R (Jb X.K l) H') I ⟨F,τ,_,_,E,e2,fun F' H' vs E' s' r'=>?_⟩) fun vs s1 ⟨ws',H1,I1,r1,q1⟩=>?_) hs rfl))
  ·obtain ⟨v1,r1,rfl,k1,rfl⟩:=r'
   obtain ⟨l,xs,rfl,h1,h2⟩:=k1
   exact ⟨l,xs,rfl,fF.of (E'.g.fh _ _ h1),q F' H' _ E' s' (wZ (fF.of h1) h2)⟩
  ·obtain ⟨l,xs,rfl,h1,q1⟩:=q1
   obtain ⟨u,rfl,ru⟩:=r1.one
   cases ru
   obtain ⟨its,_,p1⟩:=gK (b:=true) I1 h1
   refine call_enumerate_list p1 fun h' a1 a2 a3 kp=>wpAny_pyIter_enum (s:={ s1 with heap:=h' }) a1 ?_
   have J:Inv X pins σ H1 { s1 with heap:=h' }:=I1.kept (t':=s1.toks) kp
   refine ⟨_,[_,_],_,_,H1,rfl,J,z9 (e:=s1.heap.objs.size + 1) (it:=s1.heap.objs.size) (l:=l) ?_,⟨⟨_,a1⟩,a2⟩,fun b hb=>?_,q1⟩
   ·refine (?_:@Ne Nat _ _); omega
   ·have hb':s1.heap.objs.size ≤ b:=by
     simp only [List.mem_cons,List.not_mem_nil,or_false] at hb
     rcases hb with rfl | rfl
     ·exact Nat.le_succ _
     ·exact Nat.le_refl _
    exact I1.fpOk hb' (I1.hok.fresh hb')
 ·cases e1
open PySem PySem.Spec PyProof.Rows L2
def hide:aP -> aP
 | []=>[]
 | some (.own _) :: τ=>none :: hide τ
 | some (.sh t) :: τ=>some (.sh t) :: hide τ
 | none :: τ=>none :: hide τ
theorem fO:∀ τ:aP,(hide τ).length=τ.length
 | []=>rfl
 | some (.own _) :: τ=>by simp [hide,fO τ]
 | some (.sh t) :: τ=>by simp [hide,fO τ]
 | none :: τ=>by simp [hide,fO τ]
theorem kS:∀ {τ:aP} {j:Nat} {s:Sl},(hide τ)[j]? = some (some s) -> τ[j]? = some (some s) /\ ∃ t,s=.sh t
 | [],j,s,h=>by simp [hide] at h
 | some (.own _) :: τ,0,s,h=>by simp [hide] at h
 | some (.sh t) :: τ,0,s,h=>by simp [hide] at h; subst h; exact ⟨rfl,t,rfl⟩
 | none :: τ,0,s,h=>by simp [hide] at h
 | some (.own _) :: τ,j + 1,s,h=>by simpa using kS (τ:=τ) (j:=j) (by simpa [hide] using h)
 | some (.sh t) :: τ,j + 1,s,h=>by simpa using kS (τ:=τ) (j:=j) (by simpa [hide] using h)
 | none :: τ,j + 1,s,h=>by simpa using kS (τ:=τ) (j:=j) (by simpa [hide] using h)
section
variable {K:PySem.W.Frag} {F₀ H₀ F H F' H':Hp} {σ:L2.St} {τ:aP}
theorem aJ.look {i:Nat} {us:List T} {vs:List V} {a:Addr} (E:aJ K F₀ H₀ F H σ τ) (hs:σ[i]? = some (some (.ref a))) (h2:H a=some (.lst vs)) (h3:F a=none) (h5:aV K F us vs) :
  aJ K (upd F a (.lst vs)) H (upd F a (.lst vs)) H σ ((hide τ).set i (some (.sh (.lst us)))):=by
 have sF:aS F (upd F a (.lst vs)):=cX h3
 have sH:aS (upd F a (.lst vs)) H:=fun b o eb=>by
  by_cases hb:b=a
  ·rw [hb,aX] at eb; cases eb; rw [hb]; exact h2
  ·rw [aO hb] at eb; exact E.g.fh b o eb
 have rp:Rep K (upd F a (.lst vs)) (.lst us) (.ref a):=⟨a,vs,rfl,aX,aV.mono sF h5⟩
 have all:∀ {j:Nat} {s:Sl},((hide τ).set i (some (.sh (.lst us))))[j]? = some (some s) -> (∃ t,s=.sh t) /\ ∃ v,σ[j]? = some (some v) /\ yX K H (upd F a (.lst vs)) H s v:=fun {j s} e=>by
  by_cases hj:i=j
  ·subst hj
   by_cases hl:i < (hide τ).length
   ·rw [List.getElem?_set_self hl] at e; cases e
    exact ⟨⟨_,rfl⟩,_,hs,rp⟩
   ·rw [List.getElem?_eq_none (by simp; omega)] at e; cases e
  ·rw [List.getElem?_set_ne hj] at e
   obtain ⟨e1,t,rfl⟩:=kS e
   obtain ⟨v,k1,k2⟩:=E.sl j _ e1
   exact ⟨⟨t,rfl⟩,v,k1,Rep.mono sF k2⟩
 refine ⟨br.refl sH,by simp [fO,E.len],fun j s e=>(all e).2,fun j k ts ws p _ e1=>?_⟩
 obtain ⟨t,z⟩:=(all e1).1
 cases z
theorem aJ.setSh {i:Nat} {t:T} {v:V} (E:aJ K F₀ H₀ F H σ τ) (hs:σ[i]? = some (some v)) (r:Rep K F t v):aJ K F₀ H₀ F H σ (τ.set i (some (.sh t))):=by
 have:=E.set (i:=i) r
 rw [show σ.set i (some v)=σ from by
  have hi:i < σ.length:=(List.getElem?_eq_some_iff.mp hs).1
  apply List.ext_getElem?
  intro j
  by_cases hj:i=j
  ·subst hj; rw [List.getElem?_set_self hi,hs]
  ·rw [List.getElem?_set_ne hj]] at this
 exact this
theorem aJ.drop {i:Nat} (E:aJ K F₀ H₀ F H σ τ):aJ K F₀ H₀ F H σ (τ.set i none):=by
 have key:∀ {j:Nat} {s:Sl},(τ.set i none)[j]? = some (some s) -> τ[j]? = some (some s):=fun {j s} e=>by
  by_cases hj:i=j
  ·subst hj
   by_cases hl:i < τ.length
   ·rw [List.getElem?_set_self hl] at e; cases e
   ·rw [List.getElem?_eq_none (by simp; omega)] at e; cases e
  ·rw [List.getElem?_set_ne hj] at e; exact e
 exact ⟨E.g,by simp [E.len],fun j s e=>E.sl j s (key e),fun j k ts us p hjk e1 e2=>E.dj j k ts us p hjk (key e1) (key e2)⟩
theorem aJ.putOwn2 {i:Nat} {ts:List T} {vs:List V} {p:Addr} (E:aJ K F₀ H₀ F H σ τ) (hp:H p=some (.lst vs)) (fp:F p=none) (h0:H₀ p=none) (ap:Apart σ τ [p]) (r:aV K F ts vs) :
  aJ K F₀ H₀ F H (σ.set i (some (.ref p))) (τ.set i (some (.own ts))):=by
 refine ⟨E.g,by simp [E.len],fun j s e=>?_,fun j k ts' us q hjk e1 e2 e3 e4=>?_⟩
 ·by_cases hj:i=j
  ·subst hj
   by_cases hl:i < τ.length
   ·rw [List.getElem?_set_self hl] at e
    cases e
    exact ⟨.ref p,List.getElem?_set_self (by rw [E.len]; exact hl),p,vs,rfl,hp,fp,h0,r⟩
   ·rw [List.getElem?_eq_none (by simp; omega)] at e; cases e
  ·rw [List.getElem?_set_ne hj] at e
   rw [List.getElem?_set_ne hj]
   exact E.sl j s e
 ·by_cases hj:i=j
  ·subst hj
   rw [List.getElem?_set_ne hjk] at e2 e4
   by_cases hl:i < τ.length
   ·rw [List.getElem?_set_self (by rw [E.len]; exact hl)] at e3
    cases e3
    exact ap k us p e2 e4 (List.mem_singleton.mpr rfl)
   ·rw [List.getElem?_eq_none (by simp; omega)] at e1; cases e1
  ·rw [List.getElem?_set_ne hj] at e1 e3
   by_cases hk:i=k
   ·subst hk
    by_cases hl:i < τ.length
    ·rw [List.getElem?_set_self (by rw [E.len]; exact hl)] at e4
     cases e4
     exact ap j ts' p e1 e3 (List.mem_singleton.mpr rfl)
    ·rw [List.getElem?_eq_none (by simp; omega)] at e2; cases e2
   ·rw [List.getElem?_set_ne hk] at e2 e4
    exact E.dj j k ts' us q hjk e1 e2 e3 e4
end
section
variable {X:Cx} {e:Expr} {pos:Pos}
def cu (i:Nat) (f:FE):FE:=fun τ=>match τ[i]? with
 | some (some (.own us))=>(f ((hide τ).set i (some (.sh (.lst us))))).bind fun p=>some (p.1,if apart us p.1=true then τ else τ.set i (some (.sh (.lst us))))
 | _=>f τ
theorem gf (i:Nat) {f:FE} (h:SE X e f):SE X e (cu i f):=fun F₀ H₀=>PE.weak h.any fun σ H Q hq__=>by
 obtain ⟨F,τ,t,τ',E,e1,q⟩:=hq__
 unfold cu at e1
 split at e1
 ·next us e3 =>
  obtain ⟨⟨x,τ1⟩,e2,e1⟩:=bind_some e1
  obtain ⟨v,h1,a,vs,rfl,h2,h3,h4,h5⟩:=E.sl i _ e3
  have sF:aS F (upd F a (.lst vs)):=cX h3
  refine ⟨upd F a (.lst vs),H,upd F a (.lst vs),_,x,τ1,E.look h1 h2 h3 h5,e2,fun F' H' v' E' s' r'=>?_⟩
  have ha:F' a=some (.lst vs):=s' _ _ aX
  have hu:aV X.K F' us vs:=aV.mono (sF.trans s') h5
  dsimp only at e1
  by_cases hap:apart us x=true
  ·rw [if_pos hap] at e1
   cases e1
   have gl:=br.lent h3 E'.g
   exact q (jZ F' [a]) H' v' (E.grow gl) gl.sF (Rep.drop ha hu hap r')
  ·rw [if_neg hap] at e1
   cases e1
   have gl:=br.lent h3 E'.g
   have rp:Rep X.K F' (.lst us) (.ref a):=⟨a,vs,rfl,ha,hu⟩
   have E1:=E.grow gl
   have E2:aJ X.K F₀ H₀ F' H' σ (τ.set i (some (.sh (.lst us)))):=by
    have E3:aJ X.K F₀ H₀ F' H' σ (τ.set i none):=by
     refine ⟨⟨E.g.sF.trans (sF.trans s'),E1.g.sH,E'.g.fh,fun b o eb=>?_⟩,by simp [E.len],fun j s ej=>?_,(E.drop (i:=i)).dj⟩
     ·by_cases hb:b=a
      ·exact .inr (by rw [hb]; exact h4)
      ·rcases E'.g.nw b o eb with z | z
       ·rw [aO hb] at z
        rcases E.g.nw b o z with y | y
        ·exact .inl y
        ·exact .inr y
       ·exact .inr (E.g.sH.free z)
     ·obtain ⟨w,k1,k2⟩:=(E1.drop (i:=i)).sl j s ej
      refine ⟨w,k1,?_⟩
      have dS:aS (jZ F' [a]) F':=qq
      cases s with
      | sh t=>exact Rep.mono dS k2
      | own ts =>
       obtain ⟨p,ws,rfl,m2,m3,m4,m5⟩:=k2
       refine ⟨p,ws,rfl,m2,?_,m4,aV.mono dS m5⟩
       have hj:i ≠ j:=fun z=>by
        subst z
        by_cases hl:i < τ.length
        ·rw [List.getElem?_set_self hl] at ej; cases ej
        ·rw [List.getElem?_eq_none (by simp; omega)] at ej; cases ej
       rw [List.getElem?_set_ne hj] at ej
       have hpa:p ≠ a:=fun z=>by subst z; exact E.dj i j us ts p hj e3 ej h1 k1
       rw [dh (fun m=>hpa (List.mem_singleton.mp m))] at m3
       exact m3
    have:=E3.setSh (i:=i) h1 rp
    rwa [List.set_set] at this
   exact q F' H' v' E2 (sF.trans s') r'
 ·exact ⟨F₀,H₀,F,τ,t,τ',E,e1,q⟩
def gZ (i:Nat) (f:FE):FE:=fun τ=>match τ[i]? with
 | some (some _)=>(f τ).bind fun p=>match p.2[i]? with
  | some (some (.own us))=>(cR (.lst us) p.1).bind fun t=>some (t,p.2)
  | some (some (.sh (.lst us)))=>(cR (.lst us) p.1).bind fun t=>some (t,p.2)
  | _=>none
 | _=>none
theorem vd (i:Nat) {x:Str} {p1:Pos} {f:FE} (hv:PE X (.Name x p1) (wR i)) (he:SE X e f) (hs:q9 e):SE X (.Subscript (.Name x p1) e pos) (gZ i f):=fun F₀ H₀=>PE.weak (Ey sG hv (he F₀ H₀) hs) fun σ H Q hq__=>by
 obtain ⟨F,τ,t,τ',E,e1,q⟩:=hq__
 unfold gZ at e1
 split at e1
 ·next s e3 =>
  obtain ⟨⟨x,τ1⟩,e2,e1⟩:=bind_some e1
  obtain ⟨v0,h1,_⟩:=E.sl i _ e3
  dsimp only at e1
  refine ⟨v0,h1,F,τ,x,τ1,E,e2,fun F1 H1 v E1 s1 r1=>?_⟩
  split at e1
  ·next us e4 =>
   obtain ⟨u,e5,e1⟩:=bind_some e1
   cases e1
   obtain ⟨v',k1,p,vs,rfl,k2,k3,k4,k5⟩:=E1.sl i _ e4
   rw [h1] at k1; cases k1
   unfold cR at e5
   cases x with
   | int k =>
    cases r1
    obtain ⟨w,g1,g2⟩:=ky k5 e5
    exact ⟨p,vs,k,w,rfl,rfl,fF.of k2,g1,q F1 H1 w E1 s1 g2⟩
   | _=>cases e5
  ·next us e4 =>
   obtain ⟨u,e5,e1⟩:=bind_some e1
   cases e1
   obtain ⟨v',k1,p,vs,rfl,k2,k5⟩:=E1.sl i _ e4
   rw [h1] at k1; cases k1
   unfold cR at e5
   cases x with
   | int k =>
    cases r1
    obtain ⟨w,g1,g2⟩:=ky k5 e5
    exact ⟨p,vs,k,w,rfl,rfl,fF.of (E1.g.fh _ _ k2),g1,q F1 H1 w E1 s1 g2⟩
   | _=>cases e5
  ·cases e1
 ·cases e1
theorem aV.put {K:PySem.W.Frag} {F:Hp}:∀ {ts:List T} {vs:List V} {t:T} {v:V} (j:Nat),aV K F ts vs -> Rep K F t v -> aV K F (ts.set j t) (vs.set j v)
 | [],_,_,_,_,h,_=>by cases h; rfl
 | t :: ts,_,_,_,0,h,r=>by
  obtain ⟨v,rr,rfl,h2,h3⟩:=h
  exact ⟨_,rr,rfl,r,h3⟩
 | t :: ts,_,_,_,j + 1,h,r=>by
  obtain ⟨v,rr,rfl,h2,h3⟩:=h
  exact ⟨v,_,rfl,h2,aV.put j h3 r⟩
def jb (i:Nat) (f g:FE):FS:=fun τ=>(f τ).bind fun p=>match p.2[i]? with
 | some (some _)=>(g p.2).bind fun r=>match r.2[i]?,r.1 with
  | some (some (.own us)),.int k=>(wg us.length k).bind fun j=>some (.nx (r.2.set i (some (.own (us.set j p.1)))))
  | _,_=>none
 | _=>none
theorem vk (i:Nat) {x:Str} {p1 p2:Pos} {v:Expr} {f g:FE} (hv:PE X (.Name x p1) (wR i)) (hf:SE X v f) (hg:SE X e g)
  (ha:∀ u,assign (.Subscript (.Name x p1) e p2) X.env u=(do
   let ov <- holding [u] (eval (.Name x p1) X.env)
   let iv <- holding [u,ov] (eval e X.env)
   standAt p2
   holding [u,ov,iv] (setItem ov iv u)
   release [u,ov,iv] []):=by intro _; rfl)
  (hs:swapsWithSole [.Subscript (.Name x p1) e p2] v pos.line X.env=pure false:=by rfl) (hw:swappedStores [.Subscript (.Name x p1) e p2] v X.env=pure none:=by rfl)
  (h1:(assignEach [.Subscript (.Name x p1) e p2] X.env).map (·.2)=[assign (.Subscript (.Name x p1) e p2) X.env]:=by rfl) :
  SS X (.Assign [.Subscript (.Name x p1) e p2] v pos) (jb i f g):=fun F₀ H₀=>PS.weak (BQ (hf F₀ H₀) (Gf hv (hg F₀ H₀) set_list ha) hs hw h1) fun D σ H hq__=>by
 obtain ⟨F,τ,r,E,e1,q⟩:=hq__
 obtain ⟨⟨t,τ1⟩,e2,e1⟩:=bind_some e1
 refine ⟨F,τ,t,τ1,E,e2,fun F1 H1 w E1 s1 r1=>?_⟩
 dsimp only at e1
 split at e1
 ·next s e3 =>
  obtain ⟨⟨y,τ2⟩,e4,e1⟩:=bind_some e1
  obtain ⟨v0,g1,_⟩:=E1.sl i _ e3
  refine ⟨v0,g1,F1,τ1,y,τ2,E1,e4,fun F2 H2 w2 E2 s2 r2=>?_⟩
  dsimp only at e1
  split at e1
  ·next _ us k e5 =>
   obtain ⟨j,e7,e1⟩:=bind_some e1
   cases e1
   cases r2
   obtain ⟨v',k1,p,vs,rfl,k2,k3,k4,k5⟩:=E2.sl i _ e5
   rw [g1] at k1; cases k1
   exact ⟨p,vs,k,j,rfl,rfl,k2,by rw [k5.length]; exact e7,q F2 _ σ (E2.turnOwn e5 g1 (k5.put j (Rep.mono s2 r1))) (s1.trans s2)⟩
  ·cases e1
 ·cases e1
def qz (i:Nat):mP:=fun τ=>match τ[i]? with
 | some (some (.own us))=>some (.lst (us.map .val),τ.set i none)
 | _=>none
theorem B4 (i:Nat) {x:Str} {p1:Pos} (hv:PE X (.Name x p1) (wR i)):vC X (.Name x p1) (qz i):=fun F₀ H₀=>PE.weak hv fun σ H Q hq__=>by
 obtain ⟨F,τ,o,τ',E,e1,q⟩:=hq__
 unfold qz at e1
 split at e1
 ·next us e3 =>
  cases e1
  obtain ⟨v,g1,p,vs,rfl,g2,g3,g4,g5⟩:=E.sl i _ e3
  refine ⟨_,g1,q F H _ [p] E.drop (aS.refl _) ⟨p,vs,[],rfl,rfl,g2,g3,.vals g5⟩ (by simp) (fun b hb=>by rw [List.mem_singleton] at hb; subst hb; exact g4) fun j ws p' ej sj m=>?_⟩
  rw [List.mem_singleton] at m
  subst m
  have hj:i ≠ j:=fun z=>by
   subst z
   by_cases hl:i < τ.length
   ·rw [List.getElem?_set_self hl] at ej; cases ej
   ·rw [List.getElem?_eq_none (by simp; omega)] at ej; cases ej
  rw [List.getElem?_set_ne hj] at ej
  exact E.dj i j us ws p' hj e3 ej g1 sj
 ·cases e1
def qy (i:Nat) (f:mP):FS:=fun τ=>(f τ).bind fun p=>match p.1 with
 | .lst os=>some (.nx (p.2.set i (some (.own (O.trs os)))))
 | .val t=>some (.nx (p.2.set i (some (.sh t))))
theorem D1 (i:Nat) {x:Str} {pos':Pos} {f:mP} (hN:X.N.Nodup) (hi:X.N[i]? = some x) (hx:Loc X.env.scope x) (he:vC X e f) (hs:swapsWith e (some (.Name x pos')) pos.line X.env=pure false:=by rfl)
  (hf:X.fn x=true \/ X.env.scope.names.lookup x=some .local:=by first | exact .inl rfl | exact .inr rfl | assumption):SS X (.Assign [.Name x pos'] e pos) (qy i f):=fun F₀ H₀=>PS.weak (wF hN hi hx (he F₀ H₀) hs hf) fun D σ H hq__=>by
 obtain ⟨F,τ,r,E,e1,q⟩:=hq__
 obtain ⟨⟨o,τ1⟩,e2,e1⟩:=bind_some e1
 refine ⟨F,τ,o,τ1,E,e2,fun F' H' v A E' s' ro nd h0 ap=>?_⟩
 dsimp only at e1
 split at e1
 ·next os =>
  cases e1
  obtain ⟨p,vs,B,rfl,rfl,h1,h2,h3⟩:=ro
  have nd':=List.nodup_cons.mp nd
  have hF:∀ a ∈ B,F' a=none:=fun a ha=>(h3.at a ha).1
  have E1:=E'.frzO (A:=B) hF (fun a ha=>h0 a (List.mem_cons_of_mem _ ha)) (fun j us p' e1 e2 m=>ap j us p' e1 e2 (List.mem_cons_of_mem _ m))
  refine q _ H' _ (E1.putOwn2 (i:=i) h1 (by rw [fN nd'.1]; exact h2) (h0 p List.mem_cons_self) (fun j us p' e1 e2 m=>ap j us p' e1 e2 (by rw [List.mem_singleton.mp m]; exact List.mem_cons_self)) (bz.rep (eJ hF) (fun a ha=>kP ha) h3)) (s'.trans (eJ hF))
 ·cases e1
  exact q F' H' _ (E'.set ro.2) s'
end
def GD:O -> Option Sl
 | .lst os=>some (.own (O.trs os))
 | .val t=>some (.sh t)
def AJ (m n:Nat) (fb:FS):O -> List T -> Option T:=fun o ts=>if ts.length + 1=n then (fb (GD o :: (ts.map (fun t=>some (Sl.sh t)) ++ List.replicate (m - n) none))).bind fun r=>match r with
 | .rt t=>some t
 | .nx _=>some .non
 | _=>none else none
section
variable {P:Program} {w:World} {K:PySem.W.Frag} {mg:Str -> Option Value} {base:Heap}
theorem vP {F H:Hp} {N:List Str} {v:V} {ws:List V} {o:O} {ts:List T} {A:List Addr} (s:aS F H) (ro:dM K F H o v A) (nd:A.Nodup) (r:aV K F ts ws) :
  ∃ F1,aS F F1 /\ aJ K F (jZ H A) F1 H (start N (v :: ws)) (GD o :: (ts.map (fun t=>some (Sl.sh t)) ++ List.replicate (N.length - (ts.length + 1)) none)):=by
 have hl:=r.length
 have key:∀ (i:Nat) (sl:Sl),(ts.map (fun t=>some (Sl.sh t)) ++ List.replicate (N.length - (ts.length + 1)) none)[i]? = some (some sl) -> ∃ t,ts[i]? = some t /\ sl=.sh t:=fun i sl e=>by
  by_cases h:i < ts.length
  ·rw [List.getElem?_append_left (by simpa using h),List.getElem?_map,List.getElem?_eq_getElem h] at e
   simp at e
   exact ⟨ts[i],List.getElem?_eq_getElem h,e.symm⟩
  ·rw [List.getElem?_append_right (by simp; omega),List.getElem?_replicate] at e
   split at e <;> cases e
 have tail:∀ {i:Nat} {t:T},ts[i]? = some t -> ∃ u,(start N (v :: ws))[i + 1]? = some (some u) /\ Rep K F t u:=fun {i t} e1=>by
  obtain ⟨u,g1,g2⟩:=r.get e1
  refine ⟨u,?_,g2⟩
  have hi:i < ws.length:=(List.getElem?_eq_some_iff.mp g1).1
  unfold L2.start
  rw [List.getElem?_append_left (by simp; omega),List.getElem?_map,List.getElem?_cons_succ,g1]
  rfl
 have head:(start N (v :: ws))[0]? = some (some v):=by unfold L2.start; rfl
 have len:(start N (v :: ws)).length=(ts.map (fun t=>some (Sl.sh t)) ++ List.replicate (N.length - (ts.length + 1)) (none:Option Sl)).length + 1:=by
  simp [L2.start,hl] <;> omega
 cases o with
 | val t =>
  obtain ⟨rfl,rt⟩:=ro
  have hd:jZ H []=H:=funext fun a=>dh (by simp)
  rw [hd]
  refine ⟨F,aS.refl _,br.refl s,by simpa using len,fun i sl e=>?_,fun i j us zs p hij e1 e2=>?_⟩
  ·cases i with
   | zero=>simp [GD] at e; subst e; exact ⟨v,head,rt⟩
   | succ i =>
    obtain ⟨t,e1,rfl⟩:=key i sl (by simpa using e)
    exact tail e1
  ·cases i with
   | zero=>simp [GD] at e1
   | succ i=>obtain ⟨t,_,z⟩:=key i _ (by simpa using e1); cases z
 | lst os =>
  obtain ⟨p,vs,B,rfl,rfl,h1,h2,h3⟩:=ro
  have nd':=List.nodup_cons.mp nd
  have hF:∀ a ∈ B,F a=none:=fun a ha=>(h3.at a ha).1
  have sF:=eJ (F:=F) (H:=H) (A:=B) hF
  refine ⟨frzO F H B,sF,⟨sF,qq,fun a u e=>?_,fun a u e=>?_⟩,by simpa using len,fun i sl e=>?_,fun i j us zs q hij e1 e2=>?_⟩
  ·by_cases m:a ∈ B
   ·rw [kP m] at e; exact e
   ·rw [fN m] at e; exact s _ _ e
  ·by_cases m:a ∈ B
   ·exact .inr (kG (List.mem_cons_of_mem _ m))
   ·rw [fN m] at e; exact .inl e
  ·cases i with
   | zero =>
    simp [GD] at e; subst e
    exact ⟨.ref p,head,p,vs,rfl,h1,by rw [fN nd'.1]; exact h2,kG List.mem_cons_self,bz.rep sF (fun a ha=>kP ha) h3⟩
   | succ i =>
    obtain ⟨t,e1,rfl⟩:=key i sl (by simpa using e)
    obtain ⟨u,g1,g2⟩:=tail e1
    exact ⟨u,g1,Rep.mono sF g2⟩
  ·cases j with
   | zero =>
    cases i with
    | zero=>exact absurd rfl hij
    | succ i=>obtain ⟨t,_,z⟩:=key i _ (by simpa using e1); cases z
   | succ j=>obtain ⟨t,_,z⟩:=key j _ (by simpa using e2); cases z
theorem CS {x qual:Str} {st:Stmt} {f:Addr} {fd:FuncData} {N ps:List Str} {k:Nat} {fb:FS} (F:fV K x qual st f fd) (S:aU N ps (aF st)) (hb:Binds K fd ps []) (hm:mg x=some (.ref f))
  (h:∀ (cdv:Value) (A:Around) (outer:List Env) (s:Shared) (H:Hp) (E:XK),eY k (A.deeper (envOfC qual (aF st) s.heap.objs.size f cdv)) -> xj (pK qV P w K mg base N qual (aF st) f cdv A outer s H E).nox (d5 st) fb) :
  nG P w K mg base (k + 1) x ps.length (AJ N.length ps.length fb):=by
 refine ⟨f,fd,ps,F.ok S (fun vs H Q E z=>z.1) (fun cdv A outer s H vs Q E hr z=>?_),hb,F.kp,hm,rfl⟩
 obtain ⟨hl,F1,o,v,ws,ts,A1,t,sm,rfl,ro,nd,r,e,q⟩:=z
 unfold AJ at e
 split at e
 ·next hn =>
  obtain ⟨r',e1,e⟩:=bind_some e
  obtain ⟨F2,sF2,E0⟩:=vP (N:=N) sm ro nd r
  rw [hn] at E0
  refine ⟨_,h cdv A outer s H E hr F1 (jZ H A1),F2,_,r',E0,e1,?_⟩
  cases r' with
  | rt u=>cases e; exact fun F' H' v g r'=>q F' H' v g r'
  | nx τ=>cases e; exact fun F' H' σ' E' s'=>q F' H' .non E'.g rfl
  | bk τ=>cases e
  | ct τ=>cases e
 ·cases e
end
open PySem PySem.Spec PyProof.Rows L2
section
variable {prog:Program} {w:World} {A:Around} {E:Value -> Shared -> Prop} {s:Shared}
end
def EH (K:PySem.W.Frag) (l:Addr) (n:Nat):It:=
 ⟨fun i H=>i < n /\ ∃ xs,fF K H l xs /\ xs.length=n,fun i H v H'=>H'=H /\ ∀ xs,fF K H l xs -> xs[n - 1 - i]? = some v,fun i H=>n ≤ i /\ ∃ xs,fF K H l xs⟩
theorem Cd {P:Program} {w:World} {K:PySem.W.Frag} {tg:Expr} {it l:Addr} {n:Nat}:Turn P w K tg (EH K l n) [it] it (fun i h=>i ≤ n /\ h.IsRevIter it l ((n:Int) - 1 - (i:Int))) where
 mem:=List.mem_singleton_self _
 obj:=fun i h st b hb=>by
  cases List.mem_singleton.mp hb
  obtain ⟨_,o,ho,hc,hd⟩:=st
  exact ⟨o,ho,fun v q=>by rw [hd] at q; cases q⟩
 keep:=fun i h h' st k=>⟨st.1,st.2.at fun o x=>k it (List.mem_singleton_self _) o x⟩
 item:=fun X hP hw hK hc i pins s σ H E I hf st hg=>by
  subst hP hw hK
  obtain ⟨hi,xs,q1,hl⟩:=hg
  obtain ⟨its,r1,p1⟩:=gK (b:=true) I q1
  have hlt:n - 1 - i < xs.length:=by omega
  obtain ⟨u,e1,ru⟩:=r1.get (List.getElem?_eq_getElem hlt)
  have e0:((n:Int) - 1 - (i:Int))=((n - 1 - i:Nat):Int):=by omega
  have hit:=st.2
  rw [e0] at hit
  refine wpAny_pyNext_rev_item hit p1 (x:=u) (by simpa using e1) fun h' hit' hs'=>⟨_,rfl,?_⟩
  obtain ⟨o',ho',hc',hd'⟩:=id hit'
  refine xO (s:={ s with heap:=h' }) ho' hc' hd' (by decide) ?_
  have J:Inv X pins σ H { s with heap:=h' }:=iS I hf fun b o hb e=>hs'.extBut b o (fun z=>hb (List.mem_singleton.mpr z)) e
  have e2:((n - 1 - i:Nat):Int) - 1=(n:Int) - 1 - ((i + 1:Nat):Int):=by omega
  rw [e2] at hit'
  exact ⟨_,H,J,ru,⟨rfl,fun xs' h=>by rw [I.list_inj h q1]; exact List.getElem?_eq_getElem hlt⟩,⟨hi,hit'⟩,fun b hb=>(hf b hb).1⟩
 done:=fun X hP hw hK hc i pins s σ H E I hf st hg=>by
  subst hP hw hK
  obtain ⟨hi,xs,q1⟩:=hg
  have e0:((n:Int) - 1 - (i:Int)) = -1:=by have:=st.1; omega
  have hit:=st.2
  rw [e0] at hit
  exact wpAny_pyNext_rev_end (I.ok.hd hc) hit fun h' k=>⟨rfl,iS I hf fun b o hb e=>k b o (fun z=>hb (List.mem_singleton.mpr z)) e⟩
 self:=fun _ _ _ _ _ st h=>wpAny_pyIter_revIter st.2 h
theorem Ab {K:PySem.W.Frag} {F:Hp} {l:Addr} {xs:List V} {ts:List T} (h1:fF K F l xs) (h2:aV K F ts xs):Walks K F ts.reverse (EH K l xs.length):=by
 have hl:=h2.length
 have hg:∀ {i:Nat} {t:T},ts.reverse[i]? = some t -> i < ts.length /\ ts[ts.length - 1 - i]? = some t:=fun {i t} e=>by
  have hi:i < ts.length:=by simpa using (List.getElem?_eq_some_iff.mp e).1
  rw [List.getElem?_reverse hi] at e
  exact ⟨hi,e⟩
 refine ⟨fun i t F1 H1 e s1 s2=>⟨by rw [hl]; exact (hg e).1,xs,(s1.trans s2).seq h1,rfl⟩,fun i t F1 H1 x H2 e s1 s2 y=>?_,fun F1 H1 s1 s2=>⟨by rw [List.length_reverse,hl]; exact Nat.le_refl _,xs,(s1.trans s2).seq h1⟩⟩
 obtain ⟨rfl,y⟩:=y
 obtain ⟨_,e1⟩:=hg e
 obtain ⟨v,g1,g2⟩:=h2.get e1
 have m:=y xs ((s1.trans s2).seq h1)
 rw [hl,g1] at m; cases m
 exact ⟨F1,br.refl s2,Rep.mono s1 g2⟩
section
variable {X:Cx}
def xH (g:FA):FA:=fun τ=>(g τ).bind fun p=>match p.1 with
 | [.lst ts]=>some (ts.reverse,p.2)
 | _=>none
theorem GB {tg a:Expr} {p pos:Pos} {ga:FA} (hg:Gl X "reversed") (hm:X.mg "reversed" = none) (ha:SA X [a] ga) (hs:starEach [a] X.env=[(false,eval a X.env)]:=by rfl) :
  SI X tg (.Call (.Name "reversed" p) [a] [] pos) (xH ga):=by
 intro F₀ H₀ pins s σ H R I ⟨F,τ,ts,τ',E,e1,q⟩
 obtain ⟨⟨x,τ1⟩,e2,e1⟩:=bind_some e1
 dsimp only at e1
 split at e1
 ·next us =>
  cases e1
  refine Call_ (iG I hg hm boot_reversed (PyProof.Rows.callWith_type1 (dm (ha F₀ H₀ pos pins s σ H (fun vs H'=>∃ l xs,vs=[.ref l] /\ fF X.K H' l xs /\ R (EH X.K l xs.length) H') I ⟨F,τ,_,_,E,e2,fun F' H' vs E' s' r'=>?_⟩) fun vs s1 ⟨ws',H1,I1,r1,q1⟩=>?_) hs rfl))
  ·obtain ⟨v1,r1,rfl,k1,rfl⟩:=r'
   obtain ⟨l,xs,rfl,h1,h2⟩:=k1
   exact ⟨l,xs,rfl,fF.of (E'.g.fh _ _ h1),q F' H' _ E' s' (Ab (fF.of h1) h2)⟩
  ·obtain ⟨l,xs,rfl,h1,q1⟩:=q1
   obtain ⟨u,rfl,ru⟩:=r1.one
   cases ru
   obtain ⟨its,rv,p1⟩:=gK (b:=true) I1 h1
   have hlen:=rv.length
   refine call_reversed_list p1 ?_
   have hn:({ s1 with heap:=s1.heap.push (revObj l ((its.toArray.size:Int) - 1)) }:Shared).heap.IsRevIter s1.heap.objs.size l ((its.toArray.size:Int) - 1):=⟨_,Heap.get?_push_size _ rfl,rfl,rfl⟩
   refine wpAny_pyIter_revIter hn ?_
   have J:Inv X pins σ H1 { s1 with heap:=s1.heap.push (revObj l ((its.toArray.size:Int) - 1)) }:=I1.kept (t':=s1.toks) fun b o e=>Heap.get?_push_of_some _ e
   refine ⟨_,[_],_,_,H1,rfl,J,Cd (it:=s1.heap.objs.size) (l:=l) (n:=xs.length),⟨Nat.zero_le _,?_⟩,fun b hb=>?_,q1⟩
   ·have e0:((its.toArray.size:Int) - 1)=((xs.length:Int) - 1 - ((0:Nat):Int)):=by rw [List.size_toArray,<- hlen]; simp
    rw [<- e0]; exact hn
   ·have e:b=_:=List.mem_singleton.mp hb
    subst e
    exact I1.fpOk (Nat.le_refl _) (I1.hok.fresh (Nat.le_refl _))
 ·cases e1
end
open PySem PySem.Spec PyProof.Rows L2
section
variable {X:Cx}
def jc:T -> T -> Option T
 | a,.non=>some (.bl (!ot a))
 | _,_=>none
theorem uX:pI X (compareOp .IsNot) jc:=by
 intro pins s σ H x y v u Q I rx ry ⟨F,a,b,t,sm,ra,rb,e,q⟩
 unfold jc at e
 split at e
 ·cases e; cases rb
  exact DB pins s σ H _ _ v u Q I rx ry ⟨rfl,by rw [qB ra]; exact q F H _ (br.refl sm) rfl⟩
 ·cases e
def lO (g:FA):FA:=fun τ=>(g τ).bind fun p=>match p.1 with
 | [.int i,.int j]=>if (-(2 ^ 62) ≤ i /\ i < 2 ^ 62) /\ (-(2 ^ 62) ≤ j /\ j < 2 ^ 62) then some (upTo i (j - i).toNat,p.2) else none
 | _=>none
theorem DW {tg a b:Expr} {p pos:Pos} {ga:FA} (hg:Gl X "range") (hm:X.mg "range" = none) (ha:SA X [a,b] ga) (hs:starEach [a,b] X.env=[(false,eval a X.env),(false,eval b X.env)]:=by rfl)
  (hs2:starEach [b] X.env=[(false,eval b X.env)]:=by rfl):SI X tg (.Call (.Name "range" p) [a,b] [] pos) (lO ga):=
 fun F₀ H₀=>PI.weak (zJ hg hm (ha F₀ H₀) hs hs2) fun σ H R hh=>by
  obtain ⟨F,τ,ts,τ',E,e1,q⟩:=hh
  obtain ⟨⟨x,τ1⟩,e2,e1⟩:=bind_some e1
  dsimp only at e1
  split at e1
  ·split at e1
   ·next hb =>
    cases e1
    refine ⟨F,τ,_,τ',E,e2,fun F' H' vs E' s' r'=>?_⟩
    obtain ⟨v,r,rfl,q1,v2,r2,rfl,q2,rfl⟩:=r'
    cases q1; cases q2
    exact ⟨_,_,rfl,⟨hb.1.1,hb.1.2,hb.2.1,hb.2.2⟩,q F' H' _ E' s' (qR _ _)⟩
   ·cases e1
  ·cases e1
end
open PySem PySem.Spec PyProof.Rows L2
section
variable {X:Cx} {e:Expr} {es:List Expr} {pos:Pos}
end
structure yW (P:Program) (w:World) (K:PySem.W.Frag) (mg:Str -> Option Value) (base:Heap) (k:Nat) (C:Addr) (m:Str) (n:Nat) (d:List T -> Option T):Prop where
 cl:Hf K C
 ex:∃ f fd ps,ie P w K mg base qV k f fd ps (spT K n d) /\ Binds K fd ps [] /\ Meth K C m f /\ ps.length=n
section
variable {P:Program} {w:World} {K:PySem.W.Frag} {mg:Str -> Option Value} {base:Heap} {j k n:Nat} {C:Addr} {m:Str}
theorem yW.imp {d d':List T -> Option T} (D:yW P w K mg base k C m n d) (h:∀ ts t,d' ts=some t -> d ts=some t):yW P w K mg base k C m n d':=by
 obtain ⟨f,fd,ps,F,r⟩:=D.ex
 exact ⟨D.cl,f,fd,ps,F.imp fun vs H Q E z=>by
  obtain ⟨l,F,ts,t,a,b,c,q⟩:=z
  exact ⟨l,F,ts,t,a,b,h _ _ c,q⟩,r⟩
theorem yW.mono {d:List T -> Option T} (D:yW P w K mg base j C m n d) (h:j ≤ k):yW P w K mg base k C m n d:=by
 obtain ⟨f,fd,ps,F,r⟩:=D.ex
 exact ⟨D.cl,f,fd,ps,F.mono h,r⟩
end
section
variable {X:Cx} {o e:Expr} {es:List Expr} {pos apos:Pos} {g:FA} {fo:FE} {k n:Nat} {m:Str}
end
abbrev IG:=List Str × List T
def Kn (K:PySem.W.Frag) (C:Addr) (n:Nat) (d:List T -> Option IG):Sp:=fun vs H Q _=>vs.length=n + 1 /\ ∃ F x dx ws ts r,vs=.ref x :: ws /\ H x=some (.ins C dx []) /\ F x=none /\ aS F H /\ aV K F ts ws /\ d ts=some r /\
 ∀ F' H' us,br F (jZ H [x]) F' H' -> H' x=some (.ins C dx (r.1.zip us)) -> F' x=none -> us.length=r.1.length -> aV K F' r.2 us -> Q .non H'
structure yV (P:Program) (w:World) (K:PySem.W.Frag) (mg:Str -> Option Value) (base:Heap) (k:Nat) (x:Str) (C:Addr) (n:Nat) (d:List T -> Option IG):Prop where
 ex:∃ j f fd ps,k=j + 1 /\ Mk K C f /\ ie P w K mg base qV j f fd ps (Kn K C n d) /\ Binds K fd ps [] /\ mg x=some (.ref C) /\ ps.length=n + 1
theorem yV.mono {P:Program} {w:World} {K:PySem.W.Frag} {mg:Str -> Option Value} {base:Heap} {j k n:Nat} {x:Str} {C:Addr} {d:List T -> Option IG} (D:yV P w K mg base j x C n d) (h:j ≤ k):yV P w K mg base k x C n d:=by
 obtain ⟨i,f,fd,ps,hj,M,F,r⟩:=D.ex
 exact ⟨k - 1,f,fd,ps,by omega,M,F.mono (by omega),r⟩
theorem yV.imp {P:Program} {w:World} {K:PySem.W.Frag} {mg:Str -> Option Value} {base:Heap} {k n:Nat} {x:Str} {C:Addr} {d d':List T -> Option IG} (D:yV P w K mg base k x C n d) (h:∀ ts r,d' ts=some r -> d ts=some r):yV P w K mg base k x C n d':=by
 obtain ⟨i,f,fd,ps,hj,M,F,r⟩:=D.ex
 exact ⟨i,f,fd,ps,hj,M,F.imp fun vs H Q E z=>by
  obtain ⟨l,F,x,dx,ws,ts,r,a,b,c,dd,e,g,q⟩:=z
  exact ⟨l,F,x,dx,ws,ts,r,a,b,c,dd,e,h _ _ g,q⟩,r⟩
section
variable {X:Cx} {e:Expr} {es:List Expr} {pos:Pos} {g:FA}
end
section
variable {X:Cx} {C:Addr} {e:Expr} {rest:List Stmt} {pos:Pos}
end
open PySem PySem.Spec PyProof.Rows L2
structure JQ (K:PySem.W.Frag) (Ct C:Addr) (b:Bool):Prop where
 cl:Hf K C
 ha:PySem.W.findIn K (.ref C) "__class__" = some (some (.builtin "object.__class__"))
 hn:PySem.W.specialIn K (.builtin "object.__class__") "__get__" = some (some (.builtin "getset_descriptor.__get__"))
 htk:PySem.W.takesIn K (.builtin "object.__class__")=some true
 hm:PySem.W.mroIn K C (.type "object")=some true
 kit:PySem.W.kitOne K (.ref C) (.ref Ct)=some b
section
variable {X:Cx} {e:Expr} {pos:Pos}
structure J7 (K:PySem.W.Frag) (C:Addr):Prop where
 makes:PySem.W.makesIn K C=true
 init:PySem.W.findIn K (.ref C) "__init__" = some (some (.builtin "object.__init__"))
 kp:PySem.W.keepIn K (.ref C)=true
end
open PySem PySem.Spec PyProof.Rows L2
section
variable {X:Cx} {e:Expr} {pos:Pos} {f:FE}
def iC (i:Nat) (f:FE):FS:=fun τ=>match τ[i]? with
 | some (some (.sh (.int a)))=>(f τ).bind fun p=>match p.1 with
  | .int b=>if mx a b then some (.nx (p.2.set i (some (.sh (.int (a * b)))))) else none
  | _=>none
 | _=>none
def HJ:IK:=fun x y H Q=>∃ i j,x=.int i /\ y=.int j /\ mx i j /\ Q (.int (i * j)) H
theorem Fl:JT X .Mult HJ:=by
 intro pins s σ H x y v u Q I r1 r2 h
 obtain ⟨i,j,e1,e2,hc,q⟩:=h
 subst e1; subst e2
 obtain ⟨t,rfl⟩:=r1
 obtain ⟨t',rfl⟩:=r2
 exact imul_int ⟨.int _,H,I.tok _,⟨_,rfl⟩,q⟩ (Ew hc.1 hc.2)
theorem zW (i:Nat) {x:Str} {pos':Pos} (hN:X.N.Nodup) (hi:X.N[i]? = some x) (hx:Loc X.env.scope x) (he:SE X e f)
  (hf:X.fn x=true \/ X.env.scope.names.lookup x=some .local:=by first | exact .inl rfl | exact .inr rfl | assumption):SS X (.AugAssign (.Name x pos') .Mult e pos) (iC i f):=fun F₀ H₀=>PS.weak (Gj hN hi hx (he F₀ H₀) Fl hf) fun D σ H hq__=>by
 obtain ⟨F,τ,r,E,e1,q⟩:=hq__
 unfold iC at e1
 split at e1
 ·next a e2 =>
  obtain ⟨⟨y,τ1⟩,e3,e1⟩:=bind_some e1
  dsimp only at e1
  split at e1
  ·next b =>
   split at e1
   ·next hc =>
    cases e1
    obtain ⟨v,h1,h2⟩:=E.sl i _ e2
    cases h2
    refine ⟨_,h1,F,τ,_,τ1,E,e3,fun F' H' v' E' s' r'=>?_⟩
    cases r'
    exact ⟨a,b,rfl,rfl,hc,q F' H' _ (E'.set (t:=.int (a * b)) rfl) s'⟩
   ·cases e1
  ·cases e1
 ·cases e1
end
end TM
namespace My
open PySem PySem.Spec PyProof.Rows L2 TM
def top (i:Nat):Stmt:=PySem.Challenge.pw_echohouse_k14_whole_determinants.main.body.getD i (.Pass ⟨0,0,0,0⟩)
section
variable {P:Program} {w:World} {K:PySem.W.Frag} {mg:Str -> Option Value} {base:Heap} {k:Nat} {f:Addr} {fd:FuncData}
abbrev oT:Stmt:=top 5
def i5 (n:Nat) (d_half:List T -> Option T):FS:=
  (aE (rN 0 1 (aa (ai ud (aa (ae 0) ah)) (aa (ai ud (aa (ae 1) ah)) ah)))
  (aE (eE (dw (aD vW (mT gS (ae 1)) (fC (.int 4000)))) (aE (rN 0 1 (aa (ae 1) (aa (aD cg (ae 0) (ae 1)) ah)))
  (bE (dw (aD vW (mT gS (ae 1)) (fC (.int 4000)))) (oh (ai d_half (aa (ae 0) (aa (ae 1) ah))) (bp (ar (ak 0) (ar (ak 1) (ar (ak 2) bo))))) bf)) n)
  (aE (eE (dw (aD j6 (ae 1) (fC (.int 0)))) (rN 0 1 (aa (ae 1) (aa (aD cg (ae 0) (ae 1)) ah))) n)
  (a8 (ae 0)))))
theorem fz:aU ["one", "other", "factors"] ["one", "other"] (aF oT):=by walk_at "sc"
theorem zD {d_half:List T -> Option T} {t_SHORT:Tok} (n:Nat) (F:fV K "common" "common" oT f fd) (hb:Binds K fd ["one", "other"] []) (hm:mg "common" = some (.ref f)) (D_half:Def P w K mg base k "half" 2 d_half) (m_abs:mg "abs" = none) (g_SHORT:mg "SHORT" = some (.int 4000 t_SHORT)) :
  Def P w K mg base (k + 1) "common" 2 (cE 3 2 (i5 n d_half)):=
 bN F fz hb hm fun cdv A outer s H E hr=>(aq (tR rfl fz.nd rfl rfl (by decide) rfl rfl (ag (aZ rF rfl m_abs rfl (ag (af 0 (pv 0)) ao)) (ag (aZ rF rfl m_abs rfl (ag (af 1 (pv 1)) ao)) ao)) rfl)
  (aq (pq n PassesOwn.never (b9 qF (iR (af 1 (pv 1))) (lh rfl g_SHORT) (bM _)) (aq (tR rfl fz.nd rfl rfl (by decide) rfl rfl (ag (af 1 (pv 1)) (ag (aH cS (af 0 (pv 0)) (af 1 (pv 1))) ao)) rfl)
  (ax (dc (b9 qF (iR (af 1 (pv 1))) (lh rfl g_SHORT) (bM _)) (ax (pk (aB D_half hr rfl (ag (af 0 (pv 0)) (ag (af 1 (pv 1)) ao)) (aj (aj az))) (cL rfl (aI (aA 0 fz.nd rfl (Or.inl rfl)) (aI (aA 1 fz.nd rfl (Or.inl rfl)) (aI (aA 2 fz.nd rfl (Or.inl rfl)) bY))) (aL (aL (aL cI)))))) bH))))
  (aq (pq n PassesOwn.never (b9 (mL hr.units) (af 1 (pv 1)) av (bM _)) (ax (tR rfl fz.nd rfl rfl (by decide) rfl rfl (ag (af 1 (pv 1)) (ag (aH cS (af 0 (pv 0)) (af 1 (pv 1))) ao)) rfl)))
  (ax (aY (af 0 (pv 0)))))))
abbrev Gw:Stmt:=top 6
theorem sS:(["number", "by"]:List Str).Nodup:=by decide +kernel
abbrev l6:Stmt:=top 11
def ig:FS:=
  (aE (bE (dw (aD vx (mT gS (ae 1)) (fC (.int 8000)))) (a8 (bX 1 [1] (aW (ae 0)) (ak 0) ay (aD cQ (ae 0) (ae 1)))) bf)
  g8)
theorem wJ:aU ["numbers", "by", "bits", "shift", "inverse", "mask", "lows"] ["numbers", "by"] (aF l6):=by walk_at "sc"
theorem wu {t_SHORT_QUOTIENT:Tok} (F:fV K "divided" "divided" l6 f fd) (hb:Binds K fd ["numbers", "by"] []) (hm:mg "divided" = some (.ref f)) (g_SHORT_QUOTIENT:mg "SHORT_QUOTIENT" = some (.int 8000 t_SHORT_QUOTIENT)) :
  Def P w K mg base (k + 1) "divided" 2 (cE 7 2 (ig)):=
 bN F wJ hb hm fun cdv A outer s H E hr=>(aq (dc (b9 oO (iR (af 1 (pv 1))) (lh rfl g_SHORT_QUOTIENT) (bM _)) (ax (aY (cJ (N':=["number", "by"]) (no:=1) (cap:=[1]) rfl rfl (aQ rfl) rfl (ck rfl) (cD (af 0 (pv 0))) (fun _ _ _ _ _ _=>(aA 0 sS rfl (Or.inl rfl))) (fun _ _ _ _ _ _=>bV) (fun _ _ _ _ _ _=>(aH cC (af 0 (pv 0)) (af 1 (pv 1))))))) bH)
  qM)
abbrev wH:Stmt:=top 18
def nN (d_common:List T -> Option T):FS:=
  (aE (bE (dw (aD lD (ae 1) (fC (.int 0)))) g8 bf)
  (aE (aN 2 (ai d_common (aa (ae 0) (aa (ae 1) ah))))
  (aE (bE (dw (aD vx (ae 1) (fC (.int 0)))) (aN 2 (mT oo (ae 2))) bf)
  (aE (bE (dw (aD vx (mT gS (ae 2)) (fC (.int 8000)))) (a8 (b0 (aa (aD cQ (ae 0) (ae 2)) (aa (aD cQ (ae 1) (ae 2)) ah)))) bf)
  g8))))
theorem tK:aU ["top", "bottom", "shared"] ["top", "bottom"] (aF wH):=by walk_at "sc"
theorem Dx {d_common:List T -> Option T} {t_SHORT_QUOTIENT:Tok} (F:fV K "frac" "frac" wH f fd) (hb:Binds K fd ["top", "bottom"] []) (hm:mg "frac" = some (.ref f)) (D_common:Def P w K mg base k "common" 2 d_common) (g_SHORT_QUOTIENT:mg "SHORT_QUOTIENT" = some (.int 8000 t_SHORT_QUOTIENT)) :
  Def P w K mg base (k + 1) "frac" 2 (cE 3 2 (nN d_common)):=
 bN F tK hb hm fun cdv A outer s H E hr=>(aq (dc (b9 (oN hr.units) (af 1 (pv 1)) av (bM _)) (ax vj) bH)
  (aq (aT 2 tK.nd rfl (Or.inl rfl) (aB D_common hr rfl (ag (af 0 (pv 0)) (ag (af 1 (pv 1)) ao)) (aj (aj az))))
  (aq (dc (b9 oO (af 1 (pv 1)) av (bM _)) (ax (aT 2 tK.nd rfl (Or.inl rfl) (ym tX (af 2 (pv 2))))) bH)
  (aq (dc (b9 oO (iR (af 2 (pv 2))) (lh rfl g_SHORT_QUOTIENT) (bM _)) (ax (aY (cK (ag (aH cC (af 0 (pv 0)) (af 2 (pv 2))) (ag (aH cC (af 1 (pv 1)) (af 2 (pv 2))) ao))))) bH)
  qM))))
abbrev wI:Stmt:=top 19
def nO (d_common:List T -> Option T):FS:=
  (aE (aN 2 (ai d_common (aa (aD cR (ae 0) (fC (.int 1))) (aa (aD cR (ae 1) (fC (.int 1))) ah))))
  (aE (aN 3 (aD cH (aD bg (aD cR (ae 0) (fC (.int 0))) (aD cQ (aD cR (ae 1) (fC (.int 1))) (ae 2))) (aD bg (aD cR (ae 1) (fC (.int 0))) (aD cQ (aD cR (ae 0) (fC (.int 1))) (ae 2)))))
  (aE (aN 4 (ai d_common (aa (ae 3) (aa (ae 2) ah))))
  (a8 (b0 (aa (aD cQ (ae 3) (ae 4)) (aa (aD bg (aD cQ (aD cR (ae 0) (fC (.int 1))) (ae 2)) (aD cQ (aD cR (ae 1) (fC (.int 1))) (ae 4))) ah)))))))
theorem nB:aU ["one", "other", "shared", "top", "low"] ["one", "other"] (aF wI):=by walk_at "sc"
theorem Dy {d_common:List T -> Option T} (F:fV K "plus" "plus" wI f fd) (hb:Binds K fd ["one", "other"] []) (hm:mg "plus" = some (.ref f)) (D_common:Def P w K mg base k "common" 2 d_common) :
  Def P w K mg base (k + 1) "plus" 2 (cE 5 2 (nO d_common)):=
 bN F nB hb hm fun cdv A outer s H E hr=>(aq (aT 2 nB.nd rfl (Or.inl rfl) (aB D_common hr rfl (ag (bT bU (af 0 (pv 0)) av (fun _ _=>rfl)) (ag (bT bU (af 1 (pv 1)) av (fun _ _=>rfl)) ao)) (aj (aj az))))
  (aq (aT 3 nB.nd rfl (Or.inl rfl) (aH cW (aH bu (bT bU (af 0 (pv 0)) av (fun _ _=>rfl)) (aH cC (bT bU (af 1 (pv 1)) av (fun _ _=>rfl)) (af 2 (pv 2)))) (aH bu (bT bU (af 1 (pv 1)) av (fun _ _=>rfl)) (aH cC (bT bU (af 0 (pv 0)) av (fun _ _=>rfl)) (af 2 (pv 2))))))
  (aq (aT 4 nB.nd rfl (Or.inl rfl) (aB D_common hr rfl (ag (af 3 (pv 3)) (ag (af 2 (pv 2)) ao)) (aj (aj az))))
  (ax (aY (cK (ag (aH cC (af 3 (pv 3)) (af 4 (pv 4))) (ag (aH bu (aH cC (bT bU (af 0 (pv 0)) av (fun _ _=>rfl)) (af 2 (pv 2))) (aH cC (bT bU (af 1 (pv 1)) av (fun _ _=>rfl)) (af 4 (pv 4)))) ao))))))))
abbrev tH:Stmt:=top 20
def kB (d_common:List T -> Option T):FS:=
  (aE (aN 2 (ai d_common (aa (aD cR (ae 0) (fC (.int 0))) (aa (aD cR (ae 1) (fC (.int 1))) ah))))
  (aE (aN 3 (ai d_common (aa (aD cR (ae 1) (fC (.int 0))) (aa (aD cR (ae 0) (fC (.int 1))) ah))))
  (a8 (b0 (aa (aD bg (aD cQ (aD cR (ae 0) (fC (.int 0))) (ae 2)) (aD cQ (aD cR (ae 1) (fC (.int 0))) (ae 3))) (aa (aD bg (aD cQ (aD cR (ae 0) (fC (.int 1))) (ae 3)) (aD cQ (aD cR (ae 1) (fC (.int 1))) (ae 2))) ah))))))
theorem o8:aU ["one", "other", "left", "right"] ["one", "other"] (aF tH):=by walk_at "sc"
theorem BJ {d_common:List T -> Option T} (F:fV K "times" "times" tH f fd) (hb:Binds K fd ["one", "other"] []) (hm:mg "times" = some (.ref f)) (D_common:Def P w K mg base k "common" 2 d_common) :
  Def P w K mg base (k + 1) "times" 2 (cE 4 2 (kB d_common)):=
 bN F o8 hb hm fun cdv A outer s H E hr=>(aq (aT 2 o8.nd rfl (Or.inl rfl) (aB D_common hr rfl (ag (bT bU (af 0 (pv 0)) av (fun _ _=>rfl)) (ag (bT bU (af 1 (pv 1)) av (fun _ _=>rfl)) ao)) (aj (aj az))))
  (aq (aT 3 o8.nd rfl (Or.inl rfl) (aB D_common hr rfl (ag (bT bU (af 1 (pv 1)) av (fun _ _=>rfl)) (ag (bT bU (af 0 (pv 0)) av (fun _ _=>rfl)) ao)) (aj (aj az))))
  (ax (aY (cK (ag (aH bu (aH cC (bT bU (af 0 (pv 0)) av (fun _ _=>rfl)) (af 2 (pv 2))) (aH cC (bT bU (af 1 (pv 1)) av (fun _ _=>rfl)) (af 3 (pv 3)))) (ag (aH bu (aH cC (bT bU (af 0 (pv 0)) av (fun _ _=>rfl)) (af 3 (pv 3))) (aH cC (bT bU (af 1 (pv 1)) av (fun _ _=>rfl)) (af 2 (pv 2)))) ao)))))))
abbrev me:Stmt:=top 22
def ij (d_times d_plus:List T -> Option T):FS:=
  (aE (aN 2 (fC (.tup [.int 0,.int 1])))
  (aE (cG (c9 (aa (ae 0) (aa (ae 1) ah))) (bp (ar (ak 3) (ar (ak 4) bo))) (aN 2 (ai d_plus (aa (ae 2) (aa (ai d_times (aa (ae 3) (aa (ae 4) ah))) ah)))))
  (a8 (ae 2))))
theorem gH:aU ["one", "other", "total", "left", "right"] ["one", "other"] (aF me):=by walk_at "sc"
theorem wA {d_times:List T -> Option T} {d_plus:List T -> Option T} {a_NOUGHT:Addr} {od_NOUGHT:Option Addr} {t_NOUGHT u_NOUGHT:Tok} {n_NOUGHT:Nat} {sl_NOUGHT:Array (Option Value)} (F:fV K "weighed" "weighed" me f fd) (hb:Binds K fd ["one", "other"] []) (hm:mg "weighed" = some (.ref f)) (D_times:Def P w K mg base k "times" 2 d_times) (D_plus:Def P w K mg base k "plus" 2 d_plus) (m_zip:mg "zip" = none) (g_NOUGHT:mg "NOUGHT" = some (.ref a_NOUGHT)) (h_NOUGHT:K.lookup a_NOUGHT=some ⟨.type "tuple", od_NOUGHT,.seq #[.int 0 t_NOUGHT,.int 1 u_NOUGHT] n_NOUGHT,sl_NOUGHT⟩) :
  Def P w K mg base (k + 1) "weighed" 2 (cE 5 2 (ij d_times d_plus)):=
 bN F gH hb hm fun cdv A outer s H E hr=>(aq (aT 2 gH.nd rfl (Or.inl rfl) (vc rfl g_NOUGHT h_NOUGHT))
  (aq (c6 PassesOwn.never rfl (ki rfl m_zip (ag (af 0 (pv 0)) (ag (af 1 (pv 1)) ao))) (cL rfl (aI (aA 3 gH.nd rfl (Or.inl rfl)) (aI (aA 4 gH.nd rfl (Or.inl rfl)) bY)) (aL (aL cI))) (ax (aT 2 gH.nd rfl (Or.inl rfl) (aB D_plus hr rfl (ag (af 2 (pv 2)) (ag (aB D_times hr rfl (ag (af 3 (pv 3)) (ag (af 4 (pv 4)) ao)) (aj (aj az))) ao)) (aj (aj az))))))
  (ax (aY (af 2 (pv 2))))))
theorem sV:(["row"]:List Str).Nodup:=by decide +kernel
theorem sW:(["column"]:List Str).Nodup:=by decide +kernel
theorem sX:(["row", "lifted_columns"]:List Str).Nodup:=by decide +kernel
theorem sY:(["column", "row"]:List Str).Nodup:=by decide +kernel
abbrev l9:Stmt:=top 23
def fc (d_lifted d_turned d_weighed_lifted:List T -> Option T):Af:=
  (mF (d3 3 1 [] (aW (ae 0)) (ak 0) ay (ai d_lifted (aa (ae 0) ah)))
  (mF (aN 4 (bX 1 [] (aW (ai d_turned (aa (ae 1) (aa (ae 2) ah)))) (ak 0) ay (ai d_lifted (aa (ae 0) ah))))
  (kN (eO 1 [4] (aW (ae 3)) (ak 0) ay (eO 1 [0] (aW (ae 1)) (ak 0) ay (mU (ai d_weighed_lifted (aa (ae 1) (aa (ae 0) ah)))))))))
theorem kh:aU ["one", "other", "wide", "lifted_rows", "lifted_columns"] ["one", "other", "wide"] (aF l9):=by walk_at "sc"
theorem uT {d_lifted:List T -> Option T} {d_turned:List T -> Option T} {d_weighed_lifted:List T -> Option T} (F:fV K "product" "product" l9 f fd) (hb:Binds K fd ["one", "other", "wide"] []) (hm:mg "product" = some (.ref f)) (D_lifted:Def P w K mg base k "lifted" 1 d_lifted) (D_turned:Def P w K mg base k "turned" 2 d_turned) (D_weighed_lifted:Def P w K mg base k "weighed_lifted" 2 d_weighed_lifted) :
  iY P w K mg base (k + 1) "product" 3 (pL 5 3 (fc d_lifted d_turned d_weighed_lifted)):=
 rG F kh hb hm fun cdv A outer s H E hr=>(pz (kj kh.nd rfl rfl (N':=["row"]) (no:=1) (cap:=[]) rfl rfl (aQ rfl) rfl (ck rfl) (cD (af 0 (pv 0))) (fun _ _ _ _ _ _=>(aA 0 sV rfl (Or.inl rfl))) (fun _ _ _ _ _ _=>bV) (fun _ _ _ _ _ _=>(aB D_lifted hr rfl (ag (af 0 (pv 0)) ao) (aj az))))
  (pz (aT 4 kh.nd rfl (Or.inr rfl) (cJ (N':=["column"]) (no:=1) (cap:=[]) rfl rfl (aQ rfl) rfl (ck rfl) (cD (aB D_turned hr rfl (ag (af 1 (pv 1)) (ag (af 2 (pv 2)) ao)) (aj (aj az)))) (fun _ _ _ _ _ _=>(aA 0 sW rfl (Or.inl rfl))) (fun _ _ _ _ _ _=>bV) (fun _ _ _ _ _ _=>(aB D_lifted hr rfl (ag (af 0 (pv 0)) ao) (aj az)))))
  (tU (jw (N':=["row", "lifted_columns"]) (no:=1) (cap:=[4]) rfl rfl (aQ rfl) rfl (ck rfl) (cD (af 3 (pv 3))) (fun _ _ _ _ _ _=>(aA 0 sX rfl (Or.inr rfl))) (fun _ _ _ _ _ _=>bV) (fun _ _ _ _ _ _=>(jw (N':=["column", "row"]) (no:=1) (cap:=[0]) rfl rfl (aQ rfl) rfl (ck rfl) (cD (af 1 (pv 1))) (fun _ _ _ _ _ _=>(aA 0 sY rfl (Or.inl rfl))) (fun _ _ _ _ _ _=>bV) (fun _ _ _ _ _ _=>(SE.seo (aB D_weighed_lifted hr rfl (ag (af 1 (pv 1)) (ag (af 0 (pv 0)) ao)) (aj (aj az)))))))))))
theorem mI:(["top", "bottom"]:List Str).Nodup:=by decide +kernel
abbrev oU:Stmt:=top 24
def i6 (d_shared_bottom d_raised:List T -> Option T):FS:=
  (aE (aN 1 (ai d_shared_bottom (aa (ae 0) ah)))
  (a8 (b0 (aa (ae 0) (aa (ai d_raised (aa (ae 0) (aa (ae 1) ah))) (aa (ae 1) (aa (aD xM (bX 2 [] (aW (ae 0)) (bp (ar (ak 0) (ar (ak 1) bo))) ay (mT gS (ae 1))) (fC (.int 1))) ah)))))))
theorem qI:aU ["row", "low"] ["row"] (aF oU):=by walk_at "sc"
theorem zE {d_shared_bottom:List T -> Option T} {d_raised:List T -> Option T} (F:fV K "lifted" "lifted" oU f fd) (hb:Binds K fd ["row"] []) (hm:mg "lifted" = some (.ref f)) (D_shared_bottom:Def P w K mg base k "shared_bottom" 1 d_shared_bottom) (D_raised:Def P w K mg base k "raised" 2 d_raised) (m_max:mg "max" = none) :
  Def P w K mg base (k + 1) "lifted" 1 (cE 2 1 (i6 d_shared_bottom d_raised)):=
 bN F qI hb hm fun cdv A outer s H E hr=>(aq (aT 1 qI.nd rfl (Or.inl rfl) (aB D_shared_bottom hr rfl (ag (af 0 (pv 0)) ao) (aj az)))
  (ax (aY (cK (ag (af 0 (pv 0)) (ag (aB D_raised hr rfl (ag (af 0 (pv 0)) (ag (af 1 (pv 1)) ao)) (aj (aj az))) (ag (af 1 (pv 1)) (ag (DS rfl rfl m_max (cJ (N':=["top", "bottom"]) (no:=2) (cap:=[]) rfl rfl (aQ rfl) rfl (ck rfl) (cD (af 0 (pv 0))) (fun _ _ _ _ _ _=>(cL rfl (aI (aA 0 mI rfl (Or.inl rfl)) (aI (aA 1 mI rfl (Or.inl rfl)) bY)) (aL (aL cI)))) (fun _ _ _ _ _ _=>bV) (fun _ _ _ _ _ _=>(iR (af 1 (pv 1))))) av) ao))))))))
theorem fU:(["left", "right"]:List Str).Nodup:=by decide +kernel
abbrev fx:Stmt:=top 25
def dg (d_weighed d_frac:List T -> Option T):FS:=
  (aE (oh (ae 0) (bp (ar (ak 2) (ar (ak 3) (ar (ak 4) (ar (ak 5) bo))))))
  (aE (oh (ae 1) (bp (ar (ak 6) (ar (ak 7) (ar (ak 8) (ar (ak 9) bo))))))
  (aE (bE (dw (aD vW (aD cH (mT gS (ae 4)) (mT gS (ae 8))) (aD cH (aD bg (fC (.int 4)) (aD cH (ae 5) (ae 9))) (fC (.int 128))))) (a8 (ai d_weighed (aa (ae 2) (aa (ae 6) ah)))) bf)
  (a8 (ai d_frac (aa (ai vM (aa (bX 2 [] (c9 (aa (ae 3) (aa (ae 7) ah))) (bp (ar (ak 0) (ar (ak 1) bo))) ay (aD bg (ae 0) (ae 1))) ah)) (aa (aD bg (ae 4) (ae 8)) ah)))))))
theorem bG:aU ["one", "other", "row", "tops", "low", "longest", "other_row", "other_tops", "other_low", "other_longest"] ["one", "other"] (aF fx):=by walk_at "sc"
theorem k7 {d_weighed:List T -> Option T} {d_frac:List T -> Option T} (F:fV K "weighed_lifted" "weighed_lifted" fx f fd) (hb:Binds K fd ["one", "other"] []) (hm:mg "weighed_lifted" = some (.ref f)) (D_weighed:Def P w K mg base k "weighed" 2 d_weighed) (D_frac:Def P w K mg base k "frac" 2 d_frac) (m_zip:mg "zip" = none) (m_sum:mg "sum" = none) :
  Def P w K mg base (k + 1) "weighed_lifted" 2 (cE 10 2 (dg d_weighed d_frac)):=
 bN F bG hb hm fun cdv A outer s H E hr=>(aq (pk (af 0 (pv 0)) (cL rfl (aI (aA 2 bG.nd rfl (Or.inl rfl)) (aI (aA 3 bG.nd rfl (Or.inl rfl)) (aI (aA 4 bG.nd rfl (Or.inl rfl)) (aI (aA 5 bG.nd rfl (Or.inl rfl)) bY)))) (aL (aL (aL (aL cI))))))
  (aq (pk (af 1 (pv 1)) (cL rfl (aI (aA 6 bG.nd rfl (Or.inl rfl)) (aI (aA 7 bG.nd rfl (Or.inl rfl)) (aI (aA 8 bG.nd rfl (Or.inl rfl)) (aI (aA 9 bG.nd rfl (Or.inl rfl)) bY)))) (aL (aL (aL (aL cI))))))
  (aq (dc (b9 qF (aH cW (iR (af 4 (pv 4))) (iR (af 8 (pv 8)))) (aH cW (aH bu av (aH cW (af 5 (pv 5)) (af 9 (pv 9)))) av) (bM _)) (ax (aY (aB D_weighed hr rfl (ag (af 2 (pv 2)) (ag (af 6 (pv 6)) ao)) (aj (aj az))))) bH)
  (ax (aY (aB D_frac hr rfl (ag (aZ (AE rfl) rfl m_sum rfl (ag (cJ (N':=["left", "right"]) (no:=2) (cap:=[]) rfl rfl (aQ rfl) rfl (ck rfl) (ki rfl m_zip (ag (af 3 (pv 3)) (ag (af 7 (pv 7)) ao))) (fun _ _ _ _ _ _=>(cL rfl (aI (aA 0 fU rfl (Or.inl rfl)) (aI (aA 1 fU rfl (Or.inl rfl)) bY)) (aL (aL cI)))) (fun _ _ _ _ _ _=>bV) (fun _ _ _ _ _ _=>(aH bu (af 0 (pv 0)) (af 1 (pv 1))))) ao)) (ag (aH bu (af 4 (pv 4)) (af 8 (pv 8))) ao)) (aj (aj az))))))))
abbrev fR:Stmt:=top 26
def dr (d_common:List T -> Option T):FS:=
  (aE (aN 1 (fC (.int 1)))
  (aE (cG (aW (ae 0)) (bp (ar (ak 2) (ar (ak 3) bo))) (aN 1 (aD bg (aD cQ (ae 1) (ai d_common (aa (ae 1) (aa (ae 3) ah)))) (ae 3))))
  (a8 (ae 1))))
theorem dk:aU ["row", "low", "top", "bottom"] ["row"] (aF fR):=by walk_at "sc"
theorem lX {d_common:List T -> Option T} (F:fV K "shared_bottom" "shared_bottom" fR f fd) (hb:Binds K fd ["row"] []) (hm:mg "shared_bottom" = some (.ref f)) (D_common:Def P w K mg base k "common" 2 d_common) :
  Def P w K mg base (k + 1) "shared_bottom" 1 (cE 4 1 (dr d_common)):=
 bN F dk hb hm fun cdv A outer s H E hr=>(aq (aT 1 dk.nd rfl (Or.inl rfl) av)
  (aq (c6 PassesOwn.never rfl (cD (af 0 (pv 0))) (cL rfl (aI (aA 2 dk.nd rfl (Or.inl rfl)) (aI (aA 3 dk.nd rfl (Or.inl rfl)) bY)) (aL (aL cI))) (ax (aT 1 dk.nd rfl (Or.inl rfl) (aH bu (aH cC (af 1 (pv 1)) (aB D_common hr rfl (ag (af 1 (pv 1)) (ag (af 3 (pv 3)) ao)) (aj (aj az)))) (af 3 (pv 3))))))
  (ax (aY (af 1 (pv 1))))))
theorem mJ:(["top", "bottom", "low"]:List Str).Nodup:=by decide +kernel
abbrev oV:Stmt:=top 27
def kz:FS:=
  (a8 (bX 2 [1] (aW (ae 0)) (bp (ar (ak 0) (ar (ak 1) bo))) ay (aD bg (ae 0) (aD cQ (ae 2) (ae 1)))))
theorem zM:aU ["row", "low"] ["row", "low"] (aF oV):=by walk_at "sc"
theorem zF (F:fV K "raised" "raised" oV f fd) (hb:Binds K fd ["row", "low"] []) (hm:mg "raised" = some (.ref f)) :
  Def P w K mg base (k + 1) "raised" 2 (cE 2 2 (kz)):=
 bN F zM hb hm fun cdv A outer s H E hr=>(ax (aY (cJ (N':=["top", "bottom", "low"]) (no:=2) (cap:=[1]) rfl rfl (aQ rfl) rfl (ck rfl) (cD (af 0 (pv 0))) (fun _ _ _ _ _ _=>(cL rfl (aI (aA 0 mJ rfl (Or.inl rfl)) (aI (aA 1 mJ rfl (Or.inl rfl)) bY)) (aL (aL cI)))) (fun _ _ _ _ _ _=>bV) (fun _ _ _ _ _ _=>(aH bu (af 0 (pv 0)) (aH cC (af 2 (pv 2)) (af 1 (pv 1))))))))
theorem uQ:(["place", "table"]:List Str).Nodup:=by decide +kernel
theorem uR:(["row", "place"]:List Str).Nodup:=by decide +kernel
abbrev oX:Stmt:=top 28
def gA:Af:=
  (kN (eO 1 [0] (bS (aa (ae 1) ah)) (ak 0) ay (eO 1 [0] (aW (ae 1)) (ak 0) ay (mU (aD cR (ae 0) (ae 1))))))
theorem zN:aU ["table", "wide"] ["table", "wide"] (aF oX):=by walk_at "sc"
theorem wo (F:fV K "turned" "turned" oX f fd) (hb:Binds K fd ["table", "wide"] []) (hm:mg "turned" = some (.ref f)) (m_range:mg "range" = none) :
  iY P w K mg base (k + 1) "turned" 2 (pL 2 2 (gA)):=
 rG F zN hb hm fun cdv A outer s H E hr=>(tU (jw (N':=["place", "table"]) (no:=1) (cap:=[0]) rfl rfl (aQ rfl) rfl (ck rfl) (d9 rfl m_range (ag (af 1 (pv 1)) ao)) (fun _ _ _ _ _ _=>(aA 0 uQ rfl (Or.inr rfl))) (fun _ _ _ _ _ _=>bV) (fun _ _ _ _ _ _=>(jw (N':=["row", "place"]) (no:=1) (cap:=[0]) rfl rfl (aQ rfl) rfl (ck rfl) (cD (af 1 (pv 1))) (fun _ _ _ _ _ _=>(aA 0 uR rfl (Or.inl rfl))) (fun _ _ _ _ _ _=>bV) (fun _ _ _ _ _ _=>(SE.seo (bT bU (af 0 (pv 0)) (af 1 (pv 1)) (fun _ _=>rfl))))))))
theorem sT:(["column", "steps", "wide"]:List Str).Nodup:=by decide +kernel
abbrev l8:Stmt:=top 30
def jD (d_tracked d_cleared_rows d_kept_steps d_brought d_turned:List T -> Option T):FS:=
  (aE (aN 1 (ai cn (aa (ae 0) ah)))
  (aE (aN 2 (ai d_cleared_rows (aa (ai d_tracked (aa (ae 0) ah)) (aa (ae 1) ah))))
  (aE (bE (dw (aD vx (ai cn (aa (ai d_kept_steps (aa (ae 2) ah)) ah)) (ae 1))) g8 bf)
  (a8 (ai d_turned (aa (bX 1 [2,1] (bS (aa (ae 1) ah)) (ak 0) ay (ai d_brought (aa (ae 1) (aa (ae 2) (aa (aD cH (ae 2) (ae 0)) ah))))) (aa (ae 1) ah)))))))
theorem kg:aU ["table", "wide", "steps"] ["table"] (aF l8):=by walk_at "sc"
theorem wx {d_tracked:List T -> Option T} {d_cleared_rows:List T -> Option T} {d_kept_steps:List T -> Option T} {d_brought:List T -> Option T} {d_turned:List T -> Option T} (F:fV K "inverse" "inverse" l8 f fd) (hb:Binds K fd ["table"] []) (hm:mg "inverse" = some (.ref f)) (D_tracked:Def P w K mg base k "tracked" 1 d_tracked) (D_cleared_rows:Def P w K mg base k "cleared_rows" 2 d_cleared_rows) (D_kept_steps:Def P w K mg base k "kept_steps" 1 d_kept_steps) (D_brought:Def P w K mg base k "brought" 3 d_brought) (D_turned:Def P w K mg base k "turned" 2 d_turned) (m_len:mg "len" = none) (m_range:mg "range" = none) :
  Def P w K mg base (k + 1) "inverse" 1 (cE 3 1 (jD d_tracked d_cleared_rows d_kept_steps d_brought d_turned)):=
 bN F kg hb hm fun cdv A outer s H E hr=>(aq (aT 1 kg.nd rfl (Or.inr rfl) (aZ dF rfl m_len PySem.boot_len (ag (af 0 (pv 0)) ao)))
  (aq (aT 2 kg.nd rfl (Or.inr rfl) (aB D_cleared_rows hr rfl (ag (aB D_tracked hr rfl (ag (af 0 (pv 0)) ao) (aj az)) (ag (af 1 (pv 1)) ao)) (aj (aj az))))
  (aq (dc (b9 oO (aZ dF rfl m_len PySem.boot_len (ag (aB D_kept_steps hr rfl (ag (af 2 (pv 2)) ao) (aj az)) ao)) (af 1 (pv 1)) (bM _)) (ax vj) bH)
  (ax (aY (aB D_turned hr rfl (ag (cJ (N':=["column", "steps", "wide"]) (no:=1) (cap:=[2,1]) rfl rfl (aQ rfl) rfl (ck rfl) (d9 rfl m_range (ag (af 1 (pv 1)) ao)) (fun _ _ _ _ _ _=>(aA 0 sT rfl (Or.inl rfl))) (fun _ _ _ _ _ _=>bV) (fun _ _ _ _ _ _=>(aB D_brought hr rfl (ag (af 1 (pv 1)) (ag (af 2 (pv 2)) (ag (aH cW (af 2 (pv 2)) (af 0 (pv 0))) ao))) (aj (aj (aj az)))))) (ag (af 1 (pv 1)) ao)) (aj (aj az))))))))
theorem lW:(["row"]:List Str).Nodup:=by decide +kernel
theorem il:(["row", "low"]:List Str).Nodup:=by decide +kernel
theorem ip:(["place", "row"]:List Str).Nodup:=by decide +kernel
abbrev hJ:Stmt:=top 31
def c5 (d_shared_bottom d_raised d_cleared_rows d_kept_steps d_sign_of d_last_step d_frac:List T -> Option T):FS:=
  (aE (aN 1 (ai cn (aa (ae 0) ah)))
  (aE (d3 2 1 [] (aW (ae 0)) (ak 0) ay (ai d_shared_bottom (aa (ae 0) ah)))
  (aE (aN 3 (ai d_cleared_rows (aa (bX 2 [] (c9 (aa (ae 0) (aa (ae 2) ah))) (bp (ar (ak 0) (ar (ak 1) bo))) ay (ai d_raised (aa (ae 0) (aa (ae 1) ah)))) (aa (ae 1) ah))))
  (aE (bE (dw (aD vx (ai cn (aa (ai d_kept_steps (aa (ae 3) ah)) ah)) (ae 1))) (a8 (fC (.tup [.int 0,.int 1]))) bf)
  (aE (aN 4 (fC (.int 1)))
  (aE (cG (aW (ae 2)) (ak 5) (iC 4 (ae 5)))
  (a8 (ai d_frac (aa (aD bg (ai d_sign_of (aa (bX 2 [] (aW (ae 3)) (bp (ar (ak 0) (ar (ak 1) bo))) ay (ae 0)) ah)) (ai d_last_step (aa (ae 3) ah))) (aa (ae 4) ah))))))))))
theorem cT:aU ["table", "wide", "lows", "steps", "bottom", "low"] ["table"] (aF hJ):=by walk_at "sc"
theorem oK {d_shared_bottom:List T -> Option T} {d_raised:List T -> Option T} {d_cleared_rows:List T -> Option T} {d_kept_steps:List T -> Option T} {d_sign_of:List T -> Option T} {d_last_step:List T -> Option T} {d_frac:List T -> Option T} {a_NOUGHT:Addr} {od_NOUGHT:Option Addr} {t_NOUGHT u_NOUGHT:Tok} {n_NOUGHT:Nat} {sl_NOUGHT:Array (Option Value)} (F:fV K "determinant" "determinant" hJ f fd) (hb:Binds K fd ["table"] []) (hm:mg "determinant" = some (.ref f)) (D_shared_bottom:Def P w K mg base k "shared_bottom" 1 d_shared_bottom) (D_raised:Def P w K mg base k "raised" 2 d_raised) (D_cleared_rows:Def P w K mg base k "cleared_rows" 2 d_cleared_rows) (D_kept_steps:Def P w K mg base k "kept_steps" 1 d_kept_steps) (D_sign_of:Def P w K mg base k "sign_of" 1 d_sign_of) (D_last_step:Def P w K mg base k "last_step" 1 d_last_step) (D_frac:Def P w K mg base k "frac" 2 d_frac) (m_len:mg "len" = none) (m_zip:mg "zip" = none) (g_NOUGHT:mg "NOUGHT" = some (.ref a_NOUGHT)) (h_NOUGHT:K.lookup a_NOUGHT=some ⟨.type "tuple", od_NOUGHT,.seq #[.int 0 t_NOUGHT,.int 1 u_NOUGHT] n_NOUGHT,sl_NOUGHT⟩) :
  Def P w K mg base (k + 1) "determinant" 1 (cE 6 1 (c5 d_shared_bottom d_raised d_cleared_rows d_kept_steps d_sign_of d_last_step d_frac)):=
 bN F cT hb hm fun cdv A outer s H E hr=>(aq (aT 1 cT.nd rfl (Or.inl rfl) (aZ dF rfl m_len PySem.boot_len (ag (af 0 (pv 0)) ao)))
  (aq (kj cT.nd rfl rfl (N':=["row"]) (no:=1) (cap:=[]) rfl rfl (aQ rfl) rfl (ck rfl) (cD (af 0 (pv 0))) (fun _ _ _ _ _ _=>(aA 0 lW rfl (Or.inl rfl))) (fun _ _ _ _ _ _=>bV) (fun _ _ _ _ _ _=>(aB D_shared_bottom hr rfl (ag (af 0 (pv 0)) ao) (aj az))))
  (aq (aT 3 cT.nd rfl (Or.inl rfl) (aB D_cleared_rows hr rfl (ag (cJ (N':=["row", "low"]) (no:=2) (cap:=[]) rfl rfl (aQ rfl) rfl (ck rfl) (ki rfl m_zip (ag (af 0 (pv 0)) (ag (af 2 (pv 2)) ao))) (fun _ _ _ _ _ _=>(cL rfl (aI (aA 0 il rfl (Or.inl rfl)) (aI (aA 1 il rfl (Or.inl rfl)) bY)) (aL (aL cI)))) (fun _ _ _ _ _ _=>bV) (fun _ _ _ _ _ _=>(aB D_raised hr rfl (ag (af 0 (pv 0)) (ag (af 1 (pv 1)) ao)) (aj (aj az))))) (ag (af 1 (pv 1)) ao)) (aj (aj az))))
  (aq (dc (b9 oO (aZ dF rfl m_len PySem.boot_len (ag (aB D_kept_steps hr rfl (ag (af 3 (pv 3)) ao) (aj az)) ao)) (af 1 (pv 1)) (bM _)) (ax (aY (vc rfl g_NOUGHT h_NOUGHT))) bH)
  (aq (aT 4 cT.nd rfl (Or.inl rfl) av)
  (aq (c6 PassesOwn.never rfl (cD (af 2 (pv 2))) (aA 5 cT.nd rfl (Or.inl rfl)) (ax (zW 4 cT.nd rfl (Or.inl rfl) (af 5 (pv 5)))))
  (ax (aY (aB D_frac hr rfl (ag (aH bu (aB D_sign_of hr rfl (ag (cJ (N':=["place", "row"]) (no:=2) (cap:=[]) rfl rfl (aQ rfl) rfl (ck rfl) (cD (af 3 (pv 3))) (fun _ _ _ _ _ _=>(cL rfl (aI (aA 0 ip rfl (Or.inl rfl)) (aI (aA 1 ip rfl (Or.inl rfl)) bY)) (aL (aL cI)))) (fun _ _ _ _ _ _=>bV) (fun _ _ _ _ _ _=>(af 0 (pv 0)))) ao) (aj az)) (aB D_last_step hr rfl (ag (af 3 (pv 3)) ao) (aj az))) (ag (af 4 (pv 4)) ao)) (aj (aj az)))))))))))
abbrev tF:Stmt:=top 32
def m8 (d_stills:List T -> Option T):FS:=
  (aE (aN 2 (ai d_stills (aa (ae 0) (aa (ae 1) ah))))
  (a8 (En (eL (ae 2)) (aD cR (ae 2) (fC (.int 0))) (fC .non))))
theorem va:aU ["table", "wide", "found"] ["table", "wide"] (aF tF):=by walk_at "sc"
theorem BI {d_stills:List T -> Option T} (F:fV K "still" "still" tF f fd) (hb:Binds K fd ["table", "wide"] []) (hm:mg "still" = some (.ref f)) (D_stills:Def P w K mg base k "stills" 2 d_stills) :
  Def P w K mg base (k + 1) "still" 2 (cE 3 2 (m8 d_stills)):=
 bN F va hb hm fun cdv A outer s H E hr=>(aq (aT 2 va.nd rfl (Or.inl rfl) (aB D_stills hr rfl (ag (af 0 (pv 0)) (ag (af 1 (pv 1)) ao)) (aj (aj az))))
  (ax (aY (EA (h9 (af 2 (pv 2))) (bT bU (af 2 (pv 2)) av (fun _ _=>rfl)) jv))))
theorem mK:(["place", "row", "many"]:List Str).Nodup:=by decide +kernel
abbrev oW:Stmt:=top 33
def kA (d_turned d_tracked d_cleared_rows d_shortened:List T -> Option T):FS:=
  (aE (aN 2 (ai cn (aa (ae 0) ah)))
  (aE (aN 3 (ai d_cleared_rows (aa (ai d_tracked (aa (ai d_turned (aa (ae 0) (aa (ae 1) ah))) ah)) (aa (ae 2) ah))))
  (a8 (bX 2 [2] (aW (ae 3)) (bp (ar (ak 0) (ar (ak 1) bo))) (dw (aD xJ (ae 0) (fC .non))) (ai d_shortened (aa (Ai (ae 1) (d0 (ae 2)) eP) ah))))))
theorem mh:aU ["table", "wide", "many", "steps"] ["table", "wide"] (aF oW):=by walk_at "sc"
theorem zG {d_turned:List T -> Option T} {d_tracked:List T -> Option T} {d_cleared_rows:List T -> Option T} {d_shortened:List T -> Option T} (F:fV K "stills" "stills" oW f fd) (hb:Binds K fd ["table", "wide"] []) (hm:mg "stills" = some (.ref f)) (D_turned:Def P w K mg base k "turned" 2 d_turned) (D_tracked:Def P w K mg base k "tracked" 1 d_tracked) (D_cleared_rows:Def P w K mg base k "cleared_rows" 2 d_cleared_rows) (D_shortened:Def P w K mg base k "shortened" 1 d_shortened) (m_len:mg "len" = none) :
  Def P w K mg base (k + 1) "stills" 2 (cE 4 2 (kA d_turned d_tracked d_cleared_rows d_shortened)):=
 bN F mh hb hm fun cdv A outer s H E hr=>(aq (aT 2 mh.nd rfl (Or.inr rfl) (aZ dF rfl m_len PySem.boot_len (ag (af 0 (pv 0)) ao)))
  (aq (aT 3 mh.nd rfl (Or.inl rfl) (aB D_cleared_rows hr rfl (ag (aB D_tracked hr rfl (ag (aB D_turned hr rfl (ag (af 0 (pv 0)) (ag (af 1 (pv 1)) ao)) (aj (aj az))) ao) (aj az)) (ag (af 2 (pv 2)) ao)) (aj (aj az))))
  (ax (aY (cJ (N':=["place", "row", "many"]) (no:=2) (cap:=[2]) rfl rfl (aQ rfl) rfl (ck rfl) (cD (af 3 (pv 3))) (fun _ _ _ _ _ _=>(cL rfl (aI (aA 0 mK rfl (Or.inl rfl)) (aI (aA 1 mK rfl (Or.inl rfl)) bY)) (aL (aL cI)))) (fun _ _ _ _ _ _=>(yH (b9 yf (af 0 (pv 0)) jv (bM _)))) (fun _ _ _ _ _ _=>(aB D_shortened hr rfl (ag (lj (af 1 (pv 1)) (jK (af 2 (pv 2))) nD) ao) (aj az))))))))
theorem sZ:(["other", "at", "low"]:List Str).Nodup:=by decide +kernel
abbrev md:Stmt:=top 34
def jE (d_shared_bottom d_raised:List T -> Option T):FS:=
  (aE (aN 1 (ai cn (aa (ae 0) ah)))
  (aE (dq 2 ah)
  (aE (cG (j5 (aa (ae 0) ah)) (bp (ar (ak 3) (ar (ak 4) bo))) (aE (aN 5 (ai d_shared_bottom (aa (ae 4) ah)))
  (iB 2 (aD cH (ai d_raised (aa (ae 4) (aa (ae 5) ah))) (bX 1 [3,5] (bS (aa (ae 1) ah)) (ak 0) ay (En (dw (aD lD (ae 0) (ae 1))) (ae 2) (fC (.int 0))))))))
  (a8 (ae 2)))))
theorem fB:aU ["table", "many", "rows", "at", "row", "low"] ["table"] (aF md):=by walk_at "sc"
theorem wz {d_shared_bottom:List T -> Option T} {d_raised:List T -> Option T} (F:fV K "tracked" "tracked" md f fd) (hb:Binds K fd ["table"] []) (hm:mg "tracked" = some (.ref f)) (D_shared_bottom:Def P w K mg base k "shared_bottom" 1 d_shared_bottom) (D_raised:Def P w K mg base k "raised" 2 d_raised) (m_len:mg "len" = none) (m_enumerate:mg "enumerate" = none) (m_range:mg "range" = none) :
  Def P w K mg base (k + 1) "tracked" 1 (cE 6 1 (jE d_shared_bottom d_raised)):=
 bN F fB hb hm fun cdv A outer s H E hr=>(aq (aT 1 fB.nd rfl (Or.inl rfl) (aZ dF rfl m_len PySem.boot_len (ag (af 0 (pv 0)) ao)))
  (aq (fE 2 fB.nd rfl (Or.inl rfl) ao)
  (aq (c6 PassesOwn.never rfl (yy rfl m_enumerate (ag (af 0 (pv 0)) ao)) (cL rfl (aI (aA 3 fB.nd rfl (Or.inr rfl)) (aI (aA 4 fB.nd rfl (Or.inl rfl)) bY)) (aL (aL cI))) (aq (aT 5 fB.nd rfl (Or.inr rfl) (aB D_shared_bottom hr rfl (ag (af 4 (pv 4)) ao) (aj az)))
  (ax (gq 2 (pv 2) (aH cW (aB D_raised hr rfl (ag (af 4 (pv 4)) (ag (af 5 (pv 5)) ao)) (aj (aj az))) (cJ (N':=["other", "at", "low"]) (no:=1) (cap:=[3,5]) rfl rfl (aQ rfl) rfl (ck rfl) (d9 rfl m_range (ag (af 1 (pv 1)) ao)) (fun _ _ _ _ _ _=>(aA 0 sZ rfl (Or.inl rfl))) (fun _ _ _ _ _ _=>bV) (fun _ _ _ _ _ _=>(EA (b9 (oN hr.units) (af 0 (pv 0)) (af 1 (pv 1)) (bM _)) (af 2 (pv 2)) av))))))))
  (ax (aY (af 2 (pv 2)))))))
abbrev gG:Stmt:=top 35
def df (d_cleared d_first_place:List T -> Option T):FS:=
  (aE (nh 2 3)
  (aE (cG (aW (ae 0)) (ak 4) (aE (aN 5 (cu 3 (ai d_cleared (aa (ae 4) (aa (ae 3) ah)))))
  (aE (aN 6 (ai d_first_place (aa (ae 5) (aa (ae 1) ah))))
  (aE (iB 2 (b0 (aa (ae 6) (aa (ae 5) ah))))
  (bE (dw (aD jc (ae 6) (fC .non))) (iB 3 (b0 (aa (ae 6) (aa (ae 5) ah)))) bf)))))
  (a8 (ae 2))))
theorem dt:aU ["rows", "wide", "steps", "kept", "row", "left", "place"] ["rows", "wide"] (aF gG):=by walk_at "sc"
theorem mY {d_cleared:List T -> Option T} {d_first_place:List T -> Option T} (F:fV K "cleared_rows" "cleared_rows" gG f fd) (hb:Binds K fd ["rows", "wide"] []) (hm:mg "cleared_rows" = some (.ref f)) (D_cleared:Def P w K mg base k "cleared" 2 d_cleared) (D_first_place:Def P w K mg base k "first_place" 2 d_first_place) :
  Def P w K mg base (k + 1) "cleared_rows" 2 (cE 7 2 (df d_cleared d_first_place)):=
 bN F dt hb hm fun cdv A outer s H E hr=>(aq (zX rfl dt.nd rfl rfl (by decide) rfl rfl rfl)
  (aq (c6 PassesOwn.never rfl (cD (af 0 (pv 0))) (aA 4 dt.nd rfl (Or.inl rfl)) (aq (aT 5 dt.nd rfl (Or.inl rfl) (gf 3 (aB D_cleared hr rfl (ag (af 4 (pv 4)) (ag (af 3 (pv 3)) ao)) (aj (aj az)))))
  (aq (aT 6 dt.nd rfl (Or.inl rfl) (aB D_first_place hr rfl (ag (af 5 (pv 5)) (ag (af 1 (pv 1)) ao)) (aj (aj az))))
  (aq (gq 2 (pv 2) (cK (ag (af 6 (pv 6)) (ag (af 5 (pv 5)) ao))))
  (ax (dc (b9 uX (af 6 (pv 6)) jv (bM _)) (ax (gq 3 (pv 3) (cK (ag (af 6 (pv 6)) (ag (af 5 (pv 5)) ao))))) bH))))))
  (ax (aY (af 2 (pv 2))))))
theorem kZ:(["number", "less", "here", "there"]:List Str).Nodup:=by decide +kernel
abbrev l0:Stmt:=top 36
def eZ (d_divided:List T -> Option T):FS:=
  (aE (aN 2 (fC (.int 1)))
  (aE (cG (aW (ae 1)) (bp (ar (ak 3) (ar (ak 4) bo))) (aE (oh (b0 (aa (aD cR (ae 4) (ae 3)) (aa (aD cR (ae 0) (ae 3)) ah))) (bp (ar (ak 5) (ar (ak 6) bo))))
  (aE (aN 0 (ai d_divided (aa (bX 2 [5,6] (c9 (aa (ae 0) (aa (ae 4) ah))) (bp (ar (ak 0) (ar (ak 1) bo))) ay (aD gL (aD bg (ae 2) (ae 0)) (aD bg (ae 3) (ae 1)))) (aa (ae 2) ah))))
  (aN 2 (ae 5)))))
  (a8 (ae 0))))
theorem dH:aU ["row", "kept", "ahead", "place", "other", "here", "there"] ["row", "kept"] (aF l0):=by walk_at "sc"
theorem wt {d_divided:List T -> Option T} (F:fV K "cleared" "cleared" l0 f fd) (hb:Binds K fd ["row", "kept"] []) (hm:mg "cleared" = some (.ref f)) (D_divided:Def P w K mg base k "divided" 2 d_divided) (m_zip:mg "zip" = none) :
  Def P w K mg base (k + 1) "cleared" 2 (cE 7 2 (eZ d_divided)):=
 bN F dH hb hm fun cdv A outer s H E hr=>(aq (aT 2 dH.nd rfl (Or.inl rfl) av)
  (aq (c6 PassesOwn.never rfl (cD (af 1 (pv 1))) (cL rfl (aI (aA 3 dH.nd rfl (Or.inl rfl)) (aI (aA 4 dH.nd rfl (Or.inl rfl)) bY)) (aL (aL cI))) (aq (pk (cK (ag (bT bU (af 4 (pv 4)) (af 3 (pv 3)) (fun _ _=>rfl)) (ag (bT bU (af 0 (pv 0)) (af 3 (pv 3)) (fun _ _=>rfl)) ao))) (cL rfl (aI (aA 5 dH.nd rfl (Or.inr rfl)) (aI (aA 6 dH.nd rfl (Or.inr rfl)) bY)) (aL (aL cI))))
  (aq (aT 0 dH.nd rfl (Or.inl rfl) (aB D_divided hr rfl (ag (cJ (N':=["number", "less", "here", "there"]) (no:=2) (cap:=[5,6]) rfl rfl (aQ rfl) rfl (ck rfl) (ki rfl m_zip (ag (af 0 (pv 0)) (ag (af 4 (pv 4)) ao))) (fun _ _ _ _ _ _=>(cL rfl (aI (aA 0 kZ rfl (Or.inl rfl)) (aI (aA 1 kZ rfl (Or.inl rfl)) bY)) (aL (aL cI)))) (fun _ _ _ _ _ _=>bV) (fun _ _ _ _ _ _=>(aH jg (aH bu (af 2 (pv 2)) (af 0 (pv 0))) (aH bu (af 3 (pv 3)) (af 1 (pv 1)))))) (ag (af 2 (pv 2)) ao)) (aj (aj az))))
  (ax (aT 2 dH.nd rfl (Or.inl rfl) (af 5 (pv 5)))))))
  (ax (aY (af 0 (pv 0))))))
abbrev hU:Stmt:=top 37
def dv:FS:=
  (aE (cG (bS (aa (ae 1) ah)) (ak 2) (bE (dw (aD j6 (aD cR (ae 0) (ae 2)) (fC (.int 0)))) (a8 (ae 2)) bf))
  (a8 (fC .non)))
theorem ju:aU ["row", "wide", "place"] ["row", "wide"] (aF hU):=by walk_at "sc"
theorem oM (F:fV K "first_place" "first_place" hU f fd) (hb:Binds K fd ["row", "wide"] []) (hm:mg "first_place" = some (.ref f)) (m_range:mg "range" = none) :
  Def P w K mg base (k + 1) "first_place" 2 (cE 3 2 (dv)):=
 bN F ju hb hm fun cdv A outer s H E hr=>(aq (c6 PassesOwn.never rfl (d9 rfl m_range (ag (af 1 (pv 1)) ao)) (aA 2 ju.nd rfl (Or.inl rfl)) (ax (dc (b9 (mL hr.units) (bT bU (af 0 (pv 0)) (af 2 (pv 2)) (fun _ _=>rfl)) av (bM _)) (ax (aY (af 2 (pv 2)))) bH)))
  (ax (aY jv)))
theorem iW:(["place", "row"]:List Str).Nodup:=by decide +kernel
abbrev iN:Stmt:=top 38
def dQ:FS:=
  (a8 (bX 2 [] (aW (ae 0)) (bp (ar (ak 0) (ar (ak 1) bo))) (dw (aD jc (ae 0) (fC .non))) (b0 (aa (ae 0) (aa (ae 1) ah)))))
theorem p8:aU ["steps"] ["steps"] (aF iN):=by walk_at "sc"
theorem pX (F:fV K "kept_steps" "kept_steps" iN f fd) (hb:Binds K fd ["steps"] []) (hm:mg "kept_steps" = some (.ref f)) :
  Def P w K mg base (k + 1) "kept_steps" 1 (cE 1 1 (dQ)):=
 bN F p8 hb hm fun cdv A outer s H E hr=>(ax (aY (cJ (N':=["place", "row"]) (no:=2) (cap:=[]) rfl rfl (aQ rfl) rfl (ck rfl) (cD (af 0 (pv 0))) (fun _ _ _ _ _ _=>(cL rfl (aI (aA 0 iW rfl (Or.inl rfl)) (aI (aA 1 iW rfl (Or.inl rfl)) bY)) (aL (aL cI)))) (fun _ _ _ _ _ _=>(yH (b9 uX (af 0 (pv 0)) jv (bM _)))) (fun _ _ _ _ _ _=>(cK (ag (af 0 (pv 0)) (ag (af 1 (pv 1)) ao)))))))
abbrev jo:Stmt:=top 39
def eH:FS:=
  (aE (bE (gB (eL (ae 0))) (a8 (fC (.int 1))) bf)
  (aE (oh (aD cR (ae 0) (mT oo (fC (.int 1)))) (bp (ar (ak 1) (ar (ak 2) bo))))
  (a8 (aD cR (ae 2) (ae 1)))))
theorem iQ:aU ["kept", "place", "row"] ["kept"] (aF jo):=by walk_at "sc"
theorem tq (F:fV K "last_step" "last_step" jo f fd) (hb:Binds K fd ["kept"] []) (hm:mg "last_step" = some (.ref f)) :
  Def P w K mg base (k + 1) "last_step" 1 (cE 3 1 (eH)):=
 bN F iQ hb hm fun cdv A outer s H E hr=>(aq (dc (kl (h9 (af 0 (pv 0)))) (ax (aY av)) bH)
  (aq (pk (bT bU (af 0 (pv 0)) (ym tX av) (fun _ _=>rfl)) (cL rfl (aI (aA 1 iQ.nd rfl (Or.inl rfl)) (aI (aA 2 iQ.nd rfl (Or.inl rfl)) bY)) (aL (aL cI))))
  (ax (aY (bT bU (af 2 (pv 2)) (af 1 (pv 1)) (fun _ _=>rfl))))))
theorem sQ:(["place"]:List Str).Nodup:=by decide +kernel
theorem kY:(["left", "right"]:List Str).Nodup:=by decide +kernel
theorem sR:(["top", "low"]:List Str).Nodup:=by decide +kernel
abbrev lZ:Stmt:=top 40
def jC (d_last_step d_divided d_frac:List T -> Option T):FS:=
  (aE (aN 3 (ai d_last_step (aa (ae 0) ah)))
  (aE (d3 4 1 [] (bS (aa (ae 1) ah)) (ak 0) ay (fC (.int 0)))
  (aE (cG (xH (aa (ae 0) ah)) (bp (ar (ak 5) (ar (ak 6) bo))) (aE (aN 7 (aD gL (aD bg (ae 3) (aD cR (ae 6) (ae 2))) (cu 4 (ai vM (aa (bX 2 [] (c9 (aa (ae 6) (aa (ae 4) ah))) (bp (ar (ak 0) (ar (ak 1) bo))) ay (aD bg (ae 0) (ae 1))) ah)))))
  (jb 4 (aD cR (ai d_divided (aa (kM (aa (ae 7) ah)) (aa (aD cR (ae 6) (ae 5)) ah))) (fC (.int 0))) (ae 5))))
  (a8 (bX 1 [3] (aW (ae 4)) (ak 0) ay (ai d_frac (aa (ae 0) (aa (ae 1) ah))))))))
theorem fy:aU ["kept", "wide", "column", "low", "tops", "place", "row", "rest"] ["kept", "wide", "column"] (aF lZ):=by walk_at "sc"
theorem wq {d_last_step:List T -> Option T} {d_divided:List T -> Option T} {d_frac:List T -> Option T} (F:fV K "brought" "brought" lZ f fd) (hb:Binds K fd ["kept", "wide", "column"] []) (hm:mg "brought" = some (.ref f)) (D_last_step:Def P w K mg base k "last_step" 1 d_last_step) (D_divided:Def P w K mg base k "divided" 2 d_divided) (D_frac:Def P w K mg base k "frac" 2 d_frac) (m_range:mg "range" = none) (m_reversed:mg "reversed" = none) (m_zip:mg "zip" = none) (m_sum:mg "sum" = none) :
  Def P w K mg base (k + 1) "brought" 3 (cE 8 3 (jC d_last_step d_divided d_frac)):=
 bN F fy hb hm fun cdv A outer s H E hr=>(aq (aT 3 fy.nd rfl (Or.inr rfl) (aB D_last_step hr rfl (ag (af 0 (pv 0)) ao) (aj az)))
  (aq (kj fy.nd rfl rfl (N':=["place"]) (no:=1) (cap:=[]) rfl rfl (aQ rfl) rfl (ck rfl) (d9 rfl m_range (ag (af 1 (pv 1)) ao)) (fun _ _ _ _ _ _=>(aA 0 sQ rfl (Or.inl rfl))) (fun _ _ _ _ _ _=>bV) (fun _ _ _ _ _ _=>av))
  (aq (c6 PassesOwn.never rfl (GB rfl m_reversed (ag (af 0 (pv 0)) ao)) (cL rfl (aI (aA 5 fy.nd rfl (Or.inl rfl)) (aI (aA 6 fy.nd rfl (Or.inl rfl)) bY)) (aL (aL cI))) (aq (aT 7 fy.nd rfl (Or.inl rfl) (aH jg (aH bu (af 3 (pv 3)) (bT bU (af 6 (pv 6)) (af 2 (pv 2)) (fun _ _=>rfl))) (gf 4 (aZ (AE rfl) rfl m_sum rfl (ag (cJ (N':=["left", "right"]) (no:=2) (cap:=[]) rfl rfl (aQ rfl) rfl (ck rfl) (ki rfl m_zip (ag (af 6 (pv 6)) (ag (af 4 (pv 4)) ao))) (fun _ _ _ _ _ _=>(cL rfl (aI (aA 0 kY rfl (Or.inl rfl)) (aI (aA 1 kY rfl (Or.inl rfl)) bY)) (aL (aL cI)))) (fun _ _ _ _ _ _=>bV) (fun _ _ _ _ _ _=>(aH bu (af 0 (pv 0)) (af 1 (pv 1))))) ao)))))
  (ax (vk 4 (pv 4) (bT bU (aB D_divided hr rfl (ag (ml (ag (af 7 (pv 7)) ao)) (ag (bT bU (af 6 (pv 6)) (af 5 (pv 5)) (fun _ _=>rfl)) ao)) (aj (aj az))) av (fun _ _=>rfl)) (af 5 (pv 5))))))
  (ax (aY (cJ (N':=["top", "low"]) (no:=1) (cap:=[3]) rfl rfl (aQ rfl) rfl (ck rfl) (cD (af 4 (pv 4))) (fun _ _ _ _ _ _=>(aA 0 sR rfl (Or.inl rfl))) (fun _ _ _ _ _ _=>bV) (fun _ _ _ _ _ _=>(aB D_frac hr rfl (ag (af 0 (pv 0)) (ag (af 1 (pv 1)) ao)) (aj (aj az))))))))))
abbrev ma:Stmt:=top 41
def gh:FS:=
  (aE (aN 1 (fC (.int 1)))
  (aE (cG (j5 (aa (ae 0) ah)) (bp (ar (ak 2) (ar (ak 3) bo))) (cG (aW (Ai (ae 0) eP (d0 (ae 2)))) (ak 4) (bE (dw (aD vW (ae 4) (ae 3))) (aN 1 (mT oo (ae 1))) bf)))
  (a8 (ae 1))))
theorem fA:aU ["places", "sign", "at", "place", "ahead"] ["places"] (aF ma):=by walk_at "sc"
theorem wy (F:fV K "sign_of" "sign_of" ma f fd) (hb:Binds K fd ["places"] []) (hm:mg "sign_of" = some (.ref f)) (m_enumerate:mg "enumerate" = none) :
  Def P w K mg base (k + 1) "sign_of" 1 (cE 5 1 (gh)):=
 bN F fA hb hm fun cdv A outer s H E hr=>(aq (aT 1 fA.nd rfl (Or.inl rfl) av)
  (aq (c6 PassesOwn.never rfl (yy rfl m_enumerate (ag (af 0 (pv 0)) ao)) (cL rfl (aI (aA 2 fA.nd rfl (Or.inl rfl)) (aI (aA 3 fA.nd rfl (Or.inl rfl)) bY)) (aL (aL cI))) (ax (c6 PassesOwn.never rfl (cD (lj (af 0 (pv 0)) nD (jK (af 2 (pv 2))))) (aA 4 fA.nd rfl (Or.inl rfl)) (ax (dc (b9 qF (af 4 (pv 4)) (af 3 (pv 3)) (bM _)) (ax (aT 1 fA.nd rfl (Or.inl rfl) (ym tX (af 1 (pv 1))))) bH)))))
  (ax (aY (af 1 (pv 1))))))
theorem oD:(["number"]:List Str).Nodup:=by decide +kernel
abbrev jq:Stmt:=top 42
def gP (d_common d_divided:List T -> Option T):FS:=
  (aE (aN 1 (fC (.int 0)))
  (aE (cG (aW (ae 0)) (ak 2) (aN 1 (ai d_common (aa (ae 1) (aa (ae 2) ah)))))
  (a8 (bX 1 [] (aW (ai d_divided (aa (ae 0) (aa (ae 1) ah)))) (ak 0) ay (b0 (aa (ae 0) (aa (fC (.int 1)) ah)))))))
theorem gc:aU ["numbers", "shared", "number"] ["numbers"] (aF jq):=by walk_at "sc"
theorem tu {d_common:List T -> Option T} {d_divided:List T -> Option T} (F:fV K "shortened" "shortened" jq f fd) (hb:Binds K fd ["numbers"] []) (hm:mg "shortened" = some (.ref f)) (D_common:Def P w K mg base k "common" 2 d_common) (D_divided:Def P w K mg base k "divided" 2 d_divided) :
  Def P w K mg base (k + 1) "shortened" 1 (cE 3 1 (gP d_common d_divided)):=
 bN F gc hb hm fun cdv A outer s H E hr=>(aq (aT 1 gc.nd rfl (Or.inl rfl) av)
  (aq (c6 PassesOwn.never rfl (cD (af 0 (pv 0))) (aA 2 gc.nd rfl (Or.inl rfl)) (ax (aT 1 gc.nd rfl (Or.inl rfl) (aB D_common hr rfl (ag (af 1 (pv 1)) (ag (af 2 (pv 2)) ao)) (aj (aj az))))))
  (ax (aY (cJ (N':=["number"]) (no:=1) (cap:=[]) rfl rfl (aQ rfl) rfl (ck rfl) (cD (aB D_divided hr rfl (ag (af 0 (pv 0)) (ag (af 1 (pv 1)) ao)) (aj (aj az)))) (fun _ _ _ _ _ _=>(aA 0 oD rfl (Or.inl rfl))) (fun _ _ _ _ _ _=>bV) (fun _ _ _ _ _ _=>(cK (ag (af 0 (pv 0)) (ag av ao)))))))))
abbrev jk:Stmt:=top 44
def i0:FS:=
  (aE (bE (dw (aD vx (ae 1) (ai cn (aa (ae 0) ah)))) (a8 (aD cR (ae 0) (ae 1))) bf)
  (aE (aN 2 (aD cH (aD bg (fC (.int 7919)) (ae 1)) (fC (.int 5))))
  (aE (bE (dw (aD vW (ai cn (aa (ae 0) ah)) (fC (.int 0)))) (aN 2 (aD cg (aD cH (aD cR (ae 0) (aD cg (aD bg (fC (.int 7)) (ae 1)) (ai cn (aa (ae 0) ah)))) (aD bg (fC (.int 7919)) (ae 1))) (fC (.int 2147483647)))) bf)
  (a8 (aD cg (aD bg (ae 2) (ae 2)) (fC (.int 2147483629)))))))
theorem iO:aU ["_law_script", "_law_k", "_law_number"] ["_law_script", "_law_k"] (aF jk):=by walk_at "sc"
theorem tf (F:fV K "_law_cell" "_law_cell" jk f fd) (hb:Binds K fd ["_law_script", "_law_k"] []) (hm:mg "_law_cell" = some (.ref f)) (m_len:mg "len" = none) :
  Def P w K mg base (k + 1) "_law_cell" 2 (cE 3 2 (i0)):=
 bN F iO hb hm fun cdv A outer s H E hr=>(aq (dc (b9 oO (af 1 (pv 1)) (aZ dF rfl m_len PySem.boot_len (ag (af 0 (pv 0)) ao)) (bM _)) (ax (aY (bT bU (af 0 (pv 0)) (af 1 (pv 1)) (fun _ _=>rfl)))) bH)
  (aq (aT 2 iO.nd rfl (Or.inl rfl) (aH cW (aH bu av (af 1 (pv 1))) av))
  (aq (dc (b9 qF (aZ dF rfl m_len PySem.boot_len (ag (af 0 (pv 0)) ao)) av (bM _)) (ax (aT 2 iO.nd rfl (Or.inl rfl) (aH cS (aH cW (bT bU (af 0 (pv 0)) (aH cS (aH bu av (af 1 (pv 1))) (aZ dF rfl m_len PySem.boot_len (ag (af 0 (pv 0)) ao))) (fun _ _=>rfl)) (aH bu av (af 1 (pv 1)))) av))) bH)
  (ax (aY (aH cS (aH bu (af 2 (pv 2)) (af 2 (pv 2))) av))))))
abbrev kf:Stmt:=top 45
def jV:FS:=
  (aE (aN 2 (aD cg (aD cH (aD cH (ae 0) (aD bg (fC (.int 7919)) (ae 1))) (fC (.int 11))) (fC (.int 2147483647))))
  (aE (aN 2 (aD cg (aD cH (aD bg (ae 2) (ae 2)) (aD bg (fC (.int 48271)) (ae 1))) (fC (.int 2147483629))))
  (a8 (aD cg (aD cH (aD cH (aD bg (ae 2) (ae 2)) (aD bg (fC (.int 7)) (ae 2))) (ae 1)) (fC (.int 2147483587))))))
theorem jt:aU ["_law_cell_here", "_law_k", "_law_number"] ["_law_cell_here", "_law_k"] (aF kf):=by walk_at "sc"
theorem uV (F:fV K "_law_mix" "_law_mix" kf f fd) (hb:Binds K fd ["_law_cell_here", "_law_k"] []) (hm:mg "_law_mix" = some (.ref f)) :
  Def P w K mg base (k + 1) "_law_mix" 2 (cE 3 2 (jV)):=
 bN F jt hb hm fun cdv A outer s H E hr=>(aq (aT 2 jt.nd rfl (Or.inl rfl) (aH cS (aH cW (aH cW (af 0 (pv 0)) (aH bu av (af 1 (pv 1)))) av) av))
  (aq (aT 2 jt.nd rfl (Or.inl rfl) (aH cS (aH cW (aH bu (af 2 (pv 2)) (af 2 (pv 2))) (aH bu av (af 1 (pv 1)))) av))
  (ax (aY (aH cS (aH cW (aH cW (aH bu (af 2 (pv 2)) (af 2 (pv 2))) (aH bu av (af 2 (pv 2)))) (af 1 (pv 1))) av)))))
abbrev jm:Stmt:=top 46
def dE (d__law_same:List T -> Option T):FS:=
  (aE (bE (eL (ai bF (aa (ae 1) (aa (b0 (aa (fC (.ty "list")) (aa (fC (.ty "tuple")) ah))) ah)))) (aE (bE (AY (dw (aD j6 (ai bF (aa (ae 1) (aa (fC (.ty "list")) ah))) (ai bF (aa (ae 0) (aa (fC (.ty "list")) ah))))) (gB (eL (ai bF (aa (ae 0) (aa (b0 (aa (fC (.ty "list")) (aa (fC (.ty "tuple")) ah))) ah)))))) (a8 (fC (.bl false))) bf)
  (aE (bE (dw (aD j6 (ai cn (aa (ae 0) ah)) (ai cn (aa (ae 1) ah)))) (a8 (fC (.bl false))) bf)
  (aE (cG (c9 (aa (ae 0) (aa (ae 1) ah))) (bp (ar (ak 2) (ar (ak 3) bo))) (bE (gB (eL (ai d__law_same (aa (ae 2) (aa (ae 3) ah))))) (a8 (fC (.bl false))) bf))
  (a8 (fC (.bl true)))))) bf)
  (aE (bE (dw (aD xJ (ae 1) (fC .non))) (a8 (aD xJ (ae 0) (fC .non))) bf)
  (aE (bE (eL (ai bF (aa (ae 1) (aa (fC (.ty "str")) ah)))) (a8 (mE (ai bF (aa (ae 0) (aa (fC (.ty "str")) ah))) (aD lD (ae 0) (ae 1)))) bf)
  (a8 (mE (ai bF (aa (ae 0) (aa (fC (.ty "int")) ah))) (mE (mT Be (ai bF (aa (ae 0) (aa (fC (.ty "bool")) ah)))) (aD lD (ae 0) (ae 1))))))))
theorem iP:aU ["_law_found", "_law_due", "_law_one", "_law_other"] ["_law_found", "_law_due"] (aF jm):=by walk_at "sc"
theorem gb {d__law_same:List T -> Option T} (F:fV K "_law_same" "_law_same" jm f fd) (hb:Binds K fd ["_law_found", "_law_due"] []) (hm:mg "_law_same" = some (.ref f)) (D__law_same:Def P w K mg base k "_law_same" 2 d__law_same) (m_list:mg "list" = none) (m_tuple:mg "tuple" = none) (m_isinstance:mg "isinstance" = none) (m_len:mg "len" = none) (m_zip:mg "zip" = none) (m_str:mg "str" = none) (m_int:mg "int" = none) (m_bool:mg "bool" = none) :
  Def P w K mg base (k + 1) "_law_same" 2 (cE 4 2 (dE d__law_same)):=
 bN F iP hb hm fun cdv A outer s H E hr=>(aq (dc (h9 (aZ i9 rfl m_isinstance rfl (ag (af 1 (pv 1)) (ag (cK (ag (jT rfl m_list rfl) (ag (jT rfl m_tuple rfl) ao))) ao)))) (aq (dc (SW.st (B9 (b9 (mL hr.units) (aZ i9 rfl m_isinstance rfl (ag (af 1 (pv 1)) (ag (jT rfl m_list rfl) ao))) (aZ i9 rfl m_isinstance rfl (ag (af 0 (pv 0)) (ag (jT rfl m_list rfl) ao))) (bM _)) (wQ (kl (h9 (aZ i9 rfl m_isinstance rfl (ag (af 0 (pv 0)) (ag (cK (ag (jT rfl m_list rfl) (ag (jT rfl m_tuple rfl) ao))) ao)))))))) (ax (aY lg)) bH)
  (aq (dc (b9 (mL hr.units) (aZ dF rfl m_len PySem.boot_len (ag (af 0 (pv 0)) ao)) (aZ dF rfl m_len PySem.boot_len (ag (af 1 (pv 1)) ao)) (bM _)) (ax (aY lg)) bH)
  (aq (c6 PassesOwn.never rfl (ki rfl m_zip (ag (af 0 (pv 0)) (ag (af 1 (pv 1)) ao))) (cL rfl (aI (aA 2 iP.nd rfl (Or.inl rfl)) (aI (aA 3 iP.nd rfl (Or.inl rfl)) bY)) (aL (aL cI))) (ax (dc (kl (h9 (aB D__law_same hr rfl (ag (af 2 (pv 2)) (ag (af 3 (pv 3)) ao)) (aj (aj az))))) (ax (aY lg)) bH)))
  (ax (aY lg))))) bH)
  (aq (dc (b9 yf (af 1 (pv 1)) jv (bM _)) (ax (aY (o9 yf (af 0 (pv 0)) jv (bM _)))) bH)
  (aq (dc (h9 (aZ i9 rfl m_isinstance rfl (ag (af 1 (pv 1)) (ag (jT rfl m_str rfl) ao)))) (ax (aY (wK (aZ i9 rfl m_isinstance rfl (ag (af 0 (pv 0)) (ag (jT rfl m_str rfl) ao))) (B2 (o9 (oN hr.units) (af 0 (pv 0)) (af 1 (pv 1)) (bM _)))))) bH)
  (ax (aY (wK (aZ i9 rfl m_isinstance rfl (ag (af 0 (pv 0)) (ag (jT rfl m_int rfl) ao))) (wK (Gx (aZ i9 rfl m_isinstance rfl (ag (af 0 (pv 0)) (ag (jT rfl m_bool rfl) ao)))) (B2 (o9 (oN hr.units) (af 0 (pv 0)) (af 1 (pv 1)) (bM _))))))))))
abbrev g9:Stmt:=top 47
def dZ:FS:=
  (aE (dq 3 ah)
  (aE (cG (bS (aa (ae 2) ah)) (ak 4) (aE (iB 3 (aD cg (ae 0) (ae 1)))
  (aN 0 (aD cQ (ae 0) (ae 1)))))
  (a8 (ae 3))))
theorem eR:aU ["_law_number", "_law_by", "_law_many", "_law_found", "_law_k"] ["_law_number", "_law_by", "_law_many"] (aF g9):=by walk_at "sc"
theorem oI (F:fV K "_law_digits" "_law_digits" g9 f fd) (hb:Binds K fd ["_law_number", "_law_by", "_law_many"] []) (hm:mg "_law_digits" = some (.ref f)) (m_range:mg "range" = none) :
  Def P w K mg base (k + 1) "_law_digits" 3 (cE 5 3 (dZ)):=
 bN F eR hb hm fun cdv A outer s H E hr=>(aq (fE 3 eR.nd rfl (Or.inl rfl) ao)
  (aq (c6 PassesOwn.never rfl (d9 rfl m_range (ag (af 2 (pv 2)) ao)) (aA 4 eR.nd rfl (Or.inl rfl)) (aq (gq 3 (pv 3) (aH cS (af 0 (pv 0)) (af 1 (pv 1))))
  (ax (aT 0 eR.nd rfl (Or.inl rfl) (aH cC (af 0 (pv 0)) (af 1 (pv 1)))))))
  (ax (aY (af 3 (pv 3))))))
abbrev jl:Stmt:=top 48
def fI (n:Nat):FS:=
  (aE (aN 2 (ai ud (aa (ae 0) ah)))
  (aE (aN 3 (ai ud (aa (ae 1) ah)))
  (aE (eE (dw (aD vW (ae 3) (fC (.int 0)))) (rN 2 3 (aa (ae 3) (aa (aD cg (ae 2) (ae 3)) ah))) n)
  (aE (bE (dw (aD vx (ae 1) (fC (.int 0)))) (aN 2 (aD gL (fC (.int 0)) (ae 2))) bf)
  (a8 (b0 (aa (aD cQ (ae 0) (ae 2)) (aa (aD cQ (ae 1) (ae 2)) ah))))))))
theorem eU:aU ["_law_top", "_law_bottom", "_law_one", "_law_other"] ["_law_top", "_law_bottom"] (aF jl):=by walk_at "sc"
theorem tj (n:Nat) (F:fV K "_law_frac" "_law_frac" jl f fd) (hb:Binds K fd ["_law_top", "_law_bottom"] []) (hm:mg "_law_frac" = some (.ref f)) (m_abs:mg "abs" = none) :
  Def P w K mg base (k + 1) "_law_frac" 2 (cE 4 2 (fI n)):=
 bN F eU hb hm fun cdv A outer s H E hr=>(aq (aT 2 eU.nd rfl (Or.inl rfl) (aZ rF rfl m_abs rfl (ag (af 0 (pv 0)) ao)))
  (aq (aT 3 eU.nd rfl (Or.inl rfl) (aZ rF rfl m_abs rfl (ag (af 1 (pv 1)) ao)))
  (aq (pq n PassesOwn.never (b9 qF (af 3 (pv 3)) av (bM _)) (ax (tR rfl eU.nd rfl rfl (by decide) rfl rfl (ag (af 3 (pv 3)) (ag (aH cS (af 2 (pv 2)) (af 3 (pv 3))) ao)) rfl)))
  (aq (dc (b9 oO (af 1 (pv 1)) av (bM _)) (ax (aT 2 eU.nd rfl (Or.inl rfl) (aH jg av (af 2 (pv 2))))) bH)
  (ax (aY (cK (ag (aH cC (af 0 (pv 0)) (af 2 (pv 2))) (ag (aH cC (af 1 (pv 1)) (af 2 (pv 2))) ao)))))))))
theorem oC:(["_law_one"]:List Str).Nodup:=by decide +kernel
abbrev jn:Stmt:=top 49
def fJ (d__law_digits d__law_frac d__law_mix:List T -> Option T):FS:=
  (aE (bE (dw (aD lD (aD cg (ae 0) (fC (.int 2))) (fC (.int 1)))) (a8 (bX 1 [] (aW (ai d__law_digits (aa (aD cQ (ae 0) (fC (.int 2))) (aa (fC (.int 228)) (aa (ae 1) ah))))) (ak 0) ay (ai d__law_frac (aa (aD gL (aD cg (ae 0) (fC (.int 19))) (fC (.int 9))) (aa (aD cH (fC (.int 1)) (aD cQ (ae 0) (fC (.int 19)))) ah))))) bf)
  (aE (dq 2 ah)
  (aE (cG (bS (aa (ae 1) ah)) (ak 3) (aE (aN 4 (ai d__law_mix (aa (ae 0) (aa (ae 3) ah))))
  (aE (dq 5 (aa (b0 (aa (fC (.int 0)) (aa (fC (.int 1)) ah))) (aa (b0 (aa (aD gL (aD cg (aD cQ (ae 4) (fC (.int 4))) (fC (.int 5))) (fC (.int 2))) (aa (fC (.int 1)) ah))) (aa (ai d__law_frac (aa (aD gL (aD cg (aD cQ (ae 4) (fC (.int 4))) (fC (.int 19))) (fC (.int 9))) (aa (aD cH (fC (.int 1)) (aD cg (aD cQ (ae 4) (fC (.int 80))) (fC (.int 12)))) ah))) ah))))
  (iB 2 (aD cR (aD cH (ae 5) (kM (aa (b0 (aa (fC (.int 0)) (aa (fC (.int 1)) ah))) (aa (b0 (aa (fC (.int 1)) (aa (fC (.int 1)) ah))) ah)))) (aD cg (ae 4) (fC (.int 5))))))))
  (a8 (ae 2)))))
theorem eV:aU ["_law_cell_here", "_law_many", "_law_found", "_law_k", "_law_number", "_law_some_here"] ["_law_cell_here", "_law_many"] (aF jn):=by walk_at "sc"
theorem tm {d__law_digits:List T -> Option T} {d__law_frac:List T -> Option T} {d__law_mix:List T -> Option T} (F:fV K "_law_some" "_law_some" jn f fd) (hb:Binds K fd ["_law_cell_here", "_law_many"] []) (hm:mg "_law_some" = some (.ref f)) (D__law_digits:Def P w K mg base k "_law_digits" 3 d__law_digits) (D__law_frac:Def P w K mg base k "_law_frac" 2 d__law_frac) (D__law_mix:Def P w K mg base k "_law_mix" 2 d__law_mix) (m_range:mg "range" = none) :
  Def P w K mg base (k + 1) "_law_some" 2 (cE 6 2 (fJ d__law_digits d__law_frac d__law_mix)):=
 bN F eV hb hm fun cdv A outer s H E hr=>(aq (dc (b9 (oN hr.units) (aH cS (af 0 (pv 0)) av) av (bM _)) (ax (aY (cJ (N':=["_law_one"]) (no:=1) (cap:=[]) rfl rfl (aQ rfl) rfl (ck rfl) (cD (aB D__law_digits hr rfl (ag (aH cC (af 0 (pv 0)) av) (ag av (ag (af 1 (pv 1)) ao))) (aj (aj (aj az))))) (fun _ _ _ _ _ _=>(aA 0 oC rfl (Or.inl rfl))) (fun _ _ _ _ _ _=>bV) (fun _ _ _ _ _ _=>(aB D__law_frac hr rfl (ag (aH jg (aH cS (af 0 (pv 0)) av) av) (ag (aH cW av (aH cC (af 0 (pv 0)) av)) ao)) (aj (aj az))))))) bH)
  (aq (fE 2 eV.nd rfl (Or.inl rfl) ao)
  (aq (c6 PassesOwn.never rfl (d9 rfl m_range (ag (af 1 (pv 1)) ao)) (aA 3 eV.nd rfl (Or.inl rfl)) (aq (aT 4 eV.nd rfl (Or.inl rfl) (aB D__law_mix hr rfl (ag (af 0 (pv 0)) (ag (af 3 (pv 3)) ao)) (aj (aj az))))
  (aq (fE 5 eV.nd rfl (Or.inl rfl) (ag (cK (ag av (ag av ao))) (ag (cK (ag (aH jg (aH cS (aH cC (af 4 (pv 4)) av) av) av) (ag av ao))) (ag (aB D__law_frac hr rfl (ag (aH jg (aH cS (aH cC (af 4 (pv 4)) av) av) av) (ag (aH cW av (aH cS (aH cC (af 4 (pv 4)) av) av)) ao)) (aj (aj az))) ao))))
  (ax (gq 2 (pv 2) (bT bU (aH cW (af 5 (pv 5)) (ml (ag (cK (ag av (ag av ao))) (ag (cK (ag av (ag av ao))) ao)))) (aH cS (af 4 (pv 4)) av) (fun _ _=>rfl)))))))
  (ax (aY (af 2 (pv 2)))))))
abbrev kc:Stmt:=top 50
def gz (d__law_frac:List T -> Option T):FS:=
  (a8 (ai d__law_frac (aa (aD cH (aD bg (aD cR (ae 0) (fC (.int 0))) (aD cR (ae 1) (fC (.int 1)))) (aD bg (aD cR (ae 1) (fC (.int 0))) (aD cR (ae 0) (fC (.int 1))))) (aa (aD bg (aD cR (ae 0) (fC (.int 1))) (aD cR (ae 1) (fC (.int 1)))) ah))))
theorem u9:aU ["_law_one", "_law_other"] ["_law_one", "_law_other"] (aF kc):=by walk_at "sc"
theorem uU {d__law_frac:List T -> Option T} (F:fV K "_law_add" "_law_add" kc f fd) (hb:Binds K fd ["_law_one", "_law_other"] []) (hm:mg "_law_add" = some (.ref f)) (D__law_frac:Def P w K mg base k "_law_frac" 2 d__law_frac) :
  Def P w K mg base (k + 1) "_law_add" 2 (cE 2 2 (gz d__law_frac)):=
 bN F u9 hb hm fun cdv A outer s H E hr=>(ax (aY (aB D__law_frac hr rfl (ag (aH cW (aH bu (bT bU (af 0 (pv 0)) av (fun _ _=>rfl)) (bT bU (af 1 (pv 1)) av (fun _ _=>rfl))) (aH bu (bT bU (af 1 (pv 1)) av (fun _ _=>rfl)) (bT bU (af 0 (pv 0)) av (fun _ _=>rfl)))) (ag (aH bu (bT bU (af 0 (pv 0)) av (fun _ _=>rfl)) (bT bU (af 1 (pv 1)) av (fun _ _=>rfl))) ao)) (aj (aj az)))))
abbrev iM:Stmt:=top 51
def eN (d__law_frac:List T -> Option T):FS:=
  (a8 (ai d__law_frac (aa (aD bg (aD cR (ae 0) (fC (.int 0))) (aD cR (ae 1) (fC (.int 0)))) (aa (aD bg (aD cR (ae 0) (fC (.int 1))) (aD cR (ae 1) (fC (.int 1)))) ah))))
theorem pZ:aU ["_law_one", "_law_other"] ["_law_one", "_law_other"] (aF iM):=by walk_at "sc"
theorem pW {d__law_frac:List T -> Option T} (F:fV K "_law_times" "_law_times" iM f fd) (hb:Binds K fd ["_law_one", "_law_other"] []) (hm:mg "_law_times" = some (.ref f)) (D__law_frac:Def P w K mg base k "_law_frac" 2 d__law_frac) :
  Def P w K mg base (k + 1) "_law_times" 2 (cE 2 2 (eN d__law_frac)):=
 bN F pZ hb hm fun cdv A outer s H E hr=>(ax (aY (aB D__law_frac hr rfl (ag (aH bu (bT bU (af 0 (pv 0)) av (fun _ _=>rfl)) (bT bU (af 1 (pv 1)) av (fun _ _=>rfl))) (ag (aH bu (bT bU (af 0 (pv 0)) av (fun _ _=>rfl)) (bT bU (af 1 (pv 1)) av (fun _ _=>rfl))) ao)) (aj (aj az)))))
theorem mX:(["_law_k", "_law_numbers", "_law_wide"]:List Str).Nodup:=by decide +kernel
abbrev iL:Stmt:=top 53
def dP (d__law_some:List T -> Option T):Af:=
  (mF (aN 3 (ai d__law_some (aa (ae 0) (aa (aD bg (ae 1) (ae 2)) ah))))
  (kN (eO 1 [3,2] (bS (aa (ae 1) ah)) (ak 0) ay (AZ (ae 1) (d0 (aD bg (ae 0) (ae 2))) (d0 (aD cH (aD bg (ae 0) (ae 2)) (ae 2)))))))
theorem jS:aU ["_law_cell_here", "_law_many", "_law_wide", "_law_numbers"] ["_law_cell_here", "_law_many", "_law_wide"] (aF iL):=by walk_at "sc"
theorem oH {d__law_some:List T -> Option T} (F:fV K "_law_table" "_law_table" iL f fd) (hb:Binds K fd ["_law_cell_here", "_law_many", "_law_wide"] []) (hm:mg "_law_table" = some (.ref f)) (D__law_some:Def P w K mg base k "_law_some" 2 d__law_some) (m_range:mg "range" = none) :
  iY P w K mg base (k + 1) "_law_table" 3 (pL 4 3 (dP d__law_some)):=
 rG F jS hb hm fun cdv A outer s H E hr=>(pz (aT 3 jS.nd rfl (Or.inr rfl) (aB D__law_some hr rfl (ag (af 0 (pv 0)) (ag (aH bu (af 1 (pv 1)) (af 2 (pv 2))) ao)) (aj (aj az))))
  (tU (jw (N':=["_law_k", "_law_numbers", "_law_wide"]) (no:=1) (cap:=[3,2]) rfl rfl (aQ rfl) rfl (ck rfl) (d9 rfl m_range (ag (af 1 (pv 1)) ao)) (fun _ _ _ _ _ _=>(aA 0 mX rfl (Or.inl rfl))) (fun _ _ _ _ _ _=>bV) (fun _ _ _ _ _ _=>(zP (af 1 (pv 1)) (jK (aH bu (af 0 (pv 0)) (af 2 (pv 2)))) (jK (aH cW (aH bu (af 0 (pv 0)) (af 2 (pv 2))) (af 2 (pv 2)))))))))
theorem iV:(["_law_here", "_law_there", "_law_by"]:List Str).Nodup:=by decide +kernel
abbrev iK:Stmt:=top 54
def dO (d__law_mix d__law_times d__law_add:List T -> Option T):FS:=
  (aE (cG (lO (aa (fC (.int 2)) (aa (cu 0 (ai cn (aa (ae 0) ah))) ah))) (ak 2) (aE (aN 3 (ai d__law_mix (aa (ae 1) (aa (aD cH (fC (.int 40)) (ae 2)) ah))))
  (bE (dw (aD lD (aD cg (ae 3) (fC (.int 3))) (fC (.int 0)))) (aE (aN 4 (gZ 0 (aD cg (aD cQ (ae 3) (fC (.int 3))) (ae 2))))
  (aE (aN 5 (gZ 0 (aD cg (aD cQ (ae 3) (fC (.int 30))) (ae 2))))
  (aE (aN 6 (b0 (aa (aD gL (aD cg (aD cQ (ae 3) (fC (.int 300))) (fC (.int 7))) (fC (.int 3))) (aa (fC (.int 1)) ah))))
  (jb 0 (bX 2 [6] (c9 (aa (ae 4) (aa (ae 5) ah))) (bp (ar (ak 0) (ar (ak 1) bo))) ay (ai d__law_add (aa (ae 0) (aa (ai d__law_times (aa (ae 2) (aa (ae 1) ah))) ah)))) (ae 2))))) bf)))
  (a8 (ae 0)))
theorem dy:aU ["_law_table_here", "_law_cell_here", "_law_k", "_law_number", "_law_one", "_law_other", "_law_by"] ["_law_table_here", "_law_cell_here"] (aF iK):=by walk_at "sc"
theorem oG {d__law_mix:List T -> Option T} {d__law_times:List T -> Option T} {d__law_add:List T -> Option T} (F:fV K "_law_bound" "_law_bound" iK f fd) (hb:Binds K fd ["_law_table_here", "_law_cell_here"] []) (hm:mg "_law_bound" = some (.ref f)) (D__law_mix:Def P w K mg base k "_law_mix" 2 d__law_mix) (D__law_times:Def P w K mg base k "_law_times" 2 d__law_times) (D__law_add:Def P w K mg base k "_law_add" 2 d__law_add) (m_range:mg "range" = none) (m_len:mg "len" = none) (m_zip:mg "zip" = none) :
  nG P w K mg base (k + 1) "_law_bound" 2 (AJ 7 2 (dO d__law_mix d__law_times d__law_add)):=
 CS F dy hb hm fun cdv A outer s H E hr=>(aq (c6 PassesOwn.never rfl (DW rfl m_range (ag av (ag (gf 0 (aZ dF rfl m_len PySem.boot_len (ag (af 0 (pv 0)) ao))) ao))) (aA 2 dy.nd rfl (Or.inl rfl)) (aq (aT 3 dy.nd rfl (Or.inl rfl) (aB D__law_mix hr rfl (ag (af 1 (pv 1)) (ag (aH cW av (af 2 (pv 2))) ao)) (aj (aj az))))
  (ax (dc (b9 (oN hr.units) (aH cS (af 3 (pv 3)) av) av (bM _)) (aq (aT 4 dy.nd rfl (Or.inl rfl) (vd 0 (pv 0) (aH cS (aH cC (af 3 (pv 3)) av) (af 2 (pv 2))) (fun _ _=>rfl)))
  (aq (aT 5 dy.nd rfl (Or.inl rfl) (vd 0 (pv 0) (aH cS (aH cC (af 3 (pv 3)) av) (af 2 (pv 2))) (fun _ _=>rfl)))
  (aq (aT 6 dy.nd rfl (Or.inr rfl) (cK (ag (aH jg (aH cS (aH cC (af 3 (pv 3)) av) av) av) (ag av ao))))
  (ax (vk 0 (pv 0) (cJ (N':=["_law_here", "_law_there", "_law_by"]) (no:=2) (cap:=[6]) rfl rfl (aQ rfl) rfl (ck rfl) (ki rfl m_zip (ag (af 4 (pv 4)) (ag (af 5 (pv 5)) ao))) (fun _ _ _ _ _ _=>(cL rfl (aI (aA 0 iV rfl (Or.inl rfl)) (aI (aA 1 iV rfl (Or.inl rfl)) bY)) (aL (aL cI)))) (fun _ _ _ _ _ _=>bV) (fun _ _ _ _ _ _=>(aB D__law_add hr rfl (ag (af 0 (pv 0)) (ag (aB D__law_times hr rfl (ag (af 2 (pv 2)) (ag (af 1 (pv 1)) ao)) (aj (aj az))) ao)) (aj (aj az))))) (af 2 (pv 2))))))) bH))))
  (ax (aY (af 0 (pv 0)))))
abbrev hG:Stmt:=top 55
def fG:FS:=
  (aE (dq 1 (aa (b0 (aa (kM ah) (aa (fC (.int 1)) ah))) ah))
  (aE (cG (bS (aa (ae 0) ah)) (ak 2) (aE (dq 3 ah)
  (aE (cG (aW (ae 1)) (bp (ar (ak 4) (ar (ak 5) bo))) (cG (bS (aa (aD cH (ai cn (aa (ae 4) ah)) (fC (.int 1))) ah)) (ak 6) (iB 3 (b0 (aa (aD cH (aD cH (Ai (ae 4) eP (d0 (ae 6))) (kM (aa (ae 2) ah))) (Ai (ae 4) (d0 (ae 6)) eP)) (aa (aD bg (ae 5) (aD cR (kM (aa (fC (.int 1)) (aa (mT oo (fC (.int 1))) ah))) (aD cg (aD gL (ai cn (aa (ae 4) ah)) (ae 6)) (fC (.int 2))))) ah))))))
  (aN 1 (ae 3)))))
  (a8 (ae 1))))
theorem cw:aU ["_law_many", "_law_found", "_law_k", "_law_longer", "_law_order", "_law_sign", "_law_at"] ["_law_many"] (aF hG):=by walk_at "sc"
theorem oJ (F:fV K "_law_orders" "_law_orders" hG f fd) (hb:Binds K fd ["_law_many"] []) (hm:mg "_law_orders" = some (.ref f)) (m_range:mg "range" = none) (m_len:mg "len" = none) :
  Def P w K mg base (k + 1) "_law_orders" 1 (cE 7 1 (fG)):=
 bN F cw hb hm fun cdv A outer s H E hr=>(aq (fE 1 cw.nd rfl (Or.inl rfl) (ag (cK (ag (ml ao) (ag av ao))) ao))
  (aq (c6 PassesOwn.never rfl (d9 rfl m_range (ag (af 0 (pv 0)) ao)) (aA 2 cw.nd rfl (Or.inl rfl)) (aq (fE 3 cw.nd rfl (Or.inl rfl) ao)
  (aq (c6 PassesOwn.never rfl (cD (af 1 (pv 1))) (cL rfl (aI (aA 4 cw.nd rfl (Or.inl rfl)) (aI (aA 5 cw.nd rfl (Or.inl rfl)) bY)) (aL (aL cI))) (ax (c6 PassesOwn.never rfl (d9 rfl m_range (ag (aH cW (aZ dF rfl m_len PySem.boot_len (ag (af 4 (pv 4)) ao)) av) ao)) (aA 6 cw.nd rfl (Or.inl rfl)) (ax (gq 3 (pv 3) (cK (ag (aH cW (aH cW (lj (af 4 (pv 4)) nD (jK (af 6 (pv 6)))) (ml (ag (af 2 (pv 2)) ao))) (lj (af 4 (pv 4)) (jK (af 6 (pv 6))) nD)) (ag (aH bu (af 5 (pv 5)) (bT bU (ml (ag av (ag (ym tX av) ao))) (aH cS (aH jg (aZ dF rfl m_len PySem.boot_len (ag (af 4 (pv 4)) ao)) (af 6 (pv 6))) av) (fun _ _=>rfl))) ao))))))))
  (ax (aT 1 cw.nd rfl (Or.inl rfl) (af 3 (pv 3)))))))
  (ax (aY (af 1 (pv 1))))))
abbrev eD:Stmt:=top 56
def cN (d__law_orders d__law_times d__law_add:List T -> Option T):FS:=
  (aE (aN 1 (b0 (aa (fC (.int 0)) (aa (fC (.int 1)) ah))))
  (aE (cG (aW (ai d__law_orders (aa (ai cn (aa (ae 0) ah)) ah))) (bp (ar (ak 2) (ar (ak 3) bo))) (aE (aN 4 (b0 (aa (ae 3) (aa (fC (.int 1)) ah))))
  (aE (cG (bS (aa (ai cn (aa (ae 0) ah)) ah)) (ak 5) (aN 4 (ai d__law_times (aa (ae 4) (aa (aD cR (aD cR (ae 0) (ae 5)) (aD cR (ae 2) (ae 5))) ah)))))
  (aN 1 (ai d__law_add (aa (ae 1) (aa (ae 4) ah)))))))
  (a8 (ae 1))))
theorem bD:aU ["_law_table_here", "_law_total", "_law_order", "_law_sign", "_law_part", "_law_row"] ["_law_table_here"] (aF eD):=by walk_at "sc"
theorem jM {d__law_orders:List T -> Option T} {d__law_times:List T -> Option T} {d__law_add:List T -> Option T} (F:fV K "_law_determinant" "_law_determinant" eD f fd) (hb:Binds K fd ["_law_table_here"] []) (hm:mg "_law_determinant" = some (.ref f)) (D__law_orders:Def P w K mg base k "_law_orders" 1 d__law_orders) (D__law_times:Def P w K mg base k "_law_times" 2 d__law_times) (D__law_add:Def P w K mg base k "_law_add" 2 d__law_add) (m_len:mg "len" = none) (m_range:mg "range" = none) :
  Def P w K mg base (k + 1) "_law_determinant" 1 (cE 6 1 (cN d__law_orders d__law_times d__law_add)):=
 bN F bD hb hm fun cdv A outer s H E hr=>(aq (aT 1 bD.nd rfl (Or.inl rfl) (cK (ag av (ag av ao))))
  (aq (c6 PassesOwn.never rfl (cD (aB D__law_orders hr rfl (ag (aZ dF rfl m_len PySem.boot_len (ag (af 0 (pv 0)) ao)) ao) (aj az))) (cL rfl (aI (aA 2 bD.nd rfl (Or.inl rfl)) (aI (aA 3 bD.nd rfl (Or.inl rfl)) bY)) (aL (aL cI))) (aq (aT 4 bD.nd rfl (Or.inl rfl) (cK (ag (af 3 (pv 3)) (ag av ao))))
  (aq (c6 PassesOwn.never rfl (d9 rfl m_range (ag (aZ dF rfl m_len PySem.boot_len (ag (af 0 (pv 0)) ao)) ao)) (aA 5 bD.nd rfl (Or.inl rfl)) (ax (aT 4 bD.nd rfl (Or.inl rfl) (aB D__law_times hr rfl (ag (af 4 (pv 4)) (ag (bT bU (bT bU (af 0 (pv 0)) (af 5 (pv 5)) (fun _ _=>rfl)) (bT bU (af 2 (pv 2)) (af 5 (pv 5)) (fun _ _=>rfl)) (fun _ _=>rfl)) ao)) (aj (aj az))))))
  (ax (aT 1 bD.nd rfl (Or.inl rfl) (aB D__law_add hr rfl (ag (af 1 (pv 1)) (ag (af 4 (pv 4)) ao)) (aj (aj az))))))))
  (ax (aY (af 1 (pv 1))))))
end
open PySem PySem.Spec PyProof.Rows L2 TM
theorem BF:(["_law_row"]:List Str).Nodup:=by decide +kernel
theorem BG:(["_law_row"]:List Str).Nodup:=by decide +kernel
abbrev qH:Stmt:=top 57
def qc (d__law_cell d__law_mix d__law_table d__law_determinant d_determinant d__law_same d_turned d_product d__law_times d_still d_inverse:List T -> Option T) (dC__law_bound:O -> List T -> Option T) (dO__law_table:List T -> Option O):FS:=
  (aE (cG (bS (aa (ai vL (aa (fC (.int 2)) (aa (ai uf (aa (fC (.int 8)) (aa (ai cn (aa (ae 0) ah)) ah))) ah))) ah)) (ak 1) (aE (aN 2 (ai d__law_cell (aa (ae 0) (aa (ae 1) ah))))
  (aE (aN 3 (aD cg (ai d__law_mix (aa (ae 2) (aa (fC (.int 1)) ah))) (fC (.int 5))))
  (aE (qy 4 (j4 dO__law_table (aa (ae 2) (aa (ae 3) (aa (ae 3) ah)))))
  (aE (aN 5 (ai d__law_table (aa (ai d__law_mix (aa (ae 2) (aa (fC (.int 2)) ah))) (aa (ae 3) (aa (ae 3) ah)))))
  (aE (bE (dw (aD lD (aD cg (ai d__law_mix (aa (ae 2) (aa (fC (.int 3)) ah))) (fC (.int 2))) (fC (.int 0)))) (aN 4 (lM (qz 4) (aa (ai d__law_mix (aa (ae 2) (aa (fC (.int 4)) ah))) ah) dC__law_bound)) bf)
  (aE (dq 6 (aa (bX 1 [] (aW (ae 4)) (ak 0) ay (ai dList (aa (ae 0) ah))) (aa (bX 1 [] (aW (ae 5)) (ak 0) ay (ai dList (aa (ae 0) ah))) ah)))
  (aE (aN 7 (cu 4 (ai d__law_determinant (aa (ae 4) ah))))
  (aE (bE (AY (gB (eL (ai d__law_same (aa (cu 4 (ai d_determinant (aa (ae 4) ah))) (aa (ae 7) ah))))) (gB (eL (ai d__law_same (aa (ai d_determinant (aa (cu 4 (ai d_turned (aa (ae 4) (aa (ae 3) ah)))) ah)) (aa (ae 7) ah)))))) (a8 (fC (.bl false))) bf)
  (aE (aN 8 (ai d_determinant (aa (cu 4 (ai d_product (aa (ae 4) (aa (ae 5) (aa (ae 3) ah))))) ah)))
  (aE (bE (gB (eL (ai d__law_same (aa (ae 8) (aa (ai d__law_times (aa (ae 7) (aa (ai d__law_determinant (aa (ae 5) ah)) ah))) ah))))) (a8 (fC (.bl false))) bf)
  (aE (bE (AY (dw (aD j6 (aD xJ (cu 4 (ai d_still (aa (ae 4) (aa (ae 3) ah)))) (fC .non)) (aD j6 (ae 7) (b0 (aa (fC (.int 0)) (aa (fC (.int 1)) ah)))))) (dw (aD j6 (kM (aa (ae 4) (aa (ae 5) ah))) (ae 6)))) (a8 (fC (.bl false))) bf)
  (bE (zm (dw (aD j6 (ae 7) (b0 (aa (fC (.int 0)) (aa (fC (.int 1)) ah))))) (gB (eL (ai d__law_same (aa (ai d__law_times (aa (ai d_determinant (aa (cu 4 (ai d_inverse (aa (ae 4) ah))) ah)) (aa (ae 7) ah))) (aa (b0 (aa (fC (.int 1)) (aa (fC (.int 1)) ah))) ah)))))) (a8 (fC (.bl false))) bf)))))))))))))
  (a8 (fC (.bl true))))
theorem hZ:aU ["_law_script", "_law_k", "_law_cell_here", "_law_many", "_law_one", "_law_other", "_law_copies", "_law_due", "_law_both"] ["_law_script"] (aF qH):=by walk_at "sc"
theorem Fd {P:Program} {w:World} {K:PySem.W.Frag} {mg:Str -> Option Value} {base:Heap} {k:Nat} {f:Addr} {fd:FuncData} {d__law_cell:List T -> Option T} {d__law_mix:List T -> Option T} {d__law_table:List T -> Option T} {d__law_determinant:List T -> Option T} {d_determinant:List T -> Option T} {d__law_same:List T -> Option T} {d_turned:List T -> Option T} {d_product:List T -> Option T} {d__law_times:List T -> Option T} {d_still:List T -> Option T} {d_inverse:List T -> Option T} {dC__law_bound:O -> List T -> Option T} {dO__law_table:List T -> Option O} (F:fV K "law" "law" qH f fd) (D__law_cell:Def P w K mg base k "_law_cell" 2 d__law_cell) (D__law_mix:Def P w K mg base k "_law_mix" 2 d__law_mix) (D__law_table:Def P w K mg base k "_law_table" 3 d__law_table) (D__law_determinant:Def P w K mg base k "_law_determinant" 1 d__law_determinant) (D_determinant:Def P w K mg base k "determinant" 1 d_determinant) (D__law_same:Def P w K mg base k "_law_same" 2 d__law_same) (D_turned:Def P w K mg base k "turned" 2 d_turned) (D_product:Def P w K mg base k "product" 3 d_product) (D__law_times:Def P w K mg base k "_law_times" 2 d__law_times) (D_still:Def P w K mg base k "still" 2 d_still) (D_inverse:Def P w K mg base k "inverse" 1 d_inverse) (DC__law_bound:nG P w K mg base k "_law_bound" 2 dC__law_bound) (DO__law_table:iY P w K mg base k "_law_table" 3 dO__law_table) (m_range:mg "range" = none) (m_len:mg "len" = none) (m_min:mg "min" = none) (m_max:mg "max" = none) (m_list:mg "list" = none) :
  ie P w K mg base qV (k + 1) f fd ["_law_script"] (spT K 1 (cE 9 1 (qc d__law_cell d__law_mix d__law_table d__law_determinant d_determinant d__law_same d_turned d_product d__law_times d_still d_inverse dC__law_bound dO__law_table))):=
 C6 F hZ fun cdv A outer s H E hr=>(aq (c6 PassesOwn.never rfl (d9 rfl m_range (ag (aZ (EU rfl) rfl m_max rfl (ag av (ag (aZ (EV rfl) rfl m_min rfl (ag av (ag (aZ dF rfl m_len PySem.boot_len (ag (af 0 (pv 0)) ao)) ao))) ao))) ao)) (aA 1 hZ.nd rfl (Or.inl rfl)) (aq (aT 2 hZ.nd rfl (Or.inl rfl) (aB D__law_cell hr rfl (ag (af 0 (pv 0)) (ag (af 1 (pv 1)) ao)) (aj (aj az))))
  (aq (aT 3 hZ.nd rfl (Or.inl rfl) (aH cS (aB D__law_mix hr rfl (ag (af 2 (pv 2)) (ag av ao)) (aj (aj az))) av))
  (aq (D1 4 hZ.nd rfl (Or.inl rfl) (B3 DO__law_table hr rfl (ag (af 2 (pv 2)) (ag (af 3 (pv 3)) (ag (af 3 (pv 3)) ao))) (aj (aj (aj az)))))
  (aq (aT 5 hZ.nd rfl (Or.inl rfl) (aB D__law_table hr rfl (ag (aB D__law_mix hr rfl (ag (af 2 (pv 2)) (ag av ao)) (aj (aj az))) (ag (af 3 (pv 3)) (ag (af 3 (pv 3)) ao))) (aj (aj (aj az)))))
  (aq (dc (b9 (oN hr.units) (aH cS (aB D__law_mix hr rfl (ag (af 2 (pv 2)) (ag av ao)) (aj (aj az))) av) av (bM _)) (ax (aT 4 hZ.nd rfl (Or.inl rfl) (B0 DC__law_bound hr rfl (B4 4 (pv 4)) (ag (aB D__law_mix hr rfl (ag (af 2 (pv 2)) (ag av ao)) (aj (aj az))) ao) (fun τ ts τ' e=>congrArg (· + 1) ((aj az) τ ts τ' e))))) bH)
  (aq (fE 6 hZ.nd rfl (Or.inl rfl) (ag (cJ (N':=["_law_row"]) (no:=1) (cap:=[]) rfl rfl (aQ rfl) rfl (ck rfl) (cD (af 4 (pv 4))) (fun _ _ _ _ _ _=>(aA 0 BF rfl (Or.inl rfl))) (fun _ _ _ _ _ _=>bV) (fun _ _ _ _ _ _=>(qJ xv rfl m_list rfl (ag (af 0 (pv 0)) ao)))) (ag (cJ (N':=["_law_row"]) (no:=1) (cap:=[]) rfl rfl (aQ rfl) rfl (ck rfl) (cD (af 5 (pv 5))) (fun _ _ _ _ _ _=>(aA 0 BG rfl (Or.inl rfl))) (fun _ _ _ _ _ _=>bV) (fun _ _ _ _ _ _=>(qJ xv rfl m_list rfl (ag (af 0 (pv 0)) ao)))) ao)))
  (aq (aT 7 hZ.nd rfl (Or.inl rfl) (gf 4 (aB D__law_determinant hr rfl (ag (af 4 (pv 4)) ao) (aj az))))
  (aq (dc (SW.st (B9 (kl (h9 (aB D__law_same hr rfl (ag (gf 4 (aB D_determinant hr rfl (ag (af 4 (pv 4)) ao) (aj az))) (ag (af 7 (pv 7)) ao)) (aj (aj az))))) (wQ (kl (h9 (aB D__law_same hr rfl (ag (aB D_determinant hr rfl (ag (gf 4 (aB D_turned hr rfl (ag (af 4 (pv 4)) (ag (af 3 (pv 3)) ao)) (aj (aj az)))) ao) (aj az)) (ag (af 7 (pv 7)) ao)) (aj (aj az)))))))) (ax (aY lg)) bH)
  (aq (aT 8 hZ.nd rfl (Or.inl rfl) (aB D_determinant hr rfl (ag (gf 4 (aB D_product hr rfl (ag (af 4 (pv 4)) (ag (af 5 (pv 5)) (ag (af 3 (pv 3)) ao))) (aj (aj (aj az))))) ao) (aj az)))
  (aq (dc (kl (h9 (aB D__law_same hr rfl (ag (af 8 (pv 8)) (ag (aB D__law_times hr rfl (ag (af 7 (pv 7)) (ag (aB D__law_determinant hr rfl (ag (af 5 (pv 5)) ao) (aj az)) ao)) (aj (aj az))) ao)) (aj (aj az))))) (ax (aY lg)) bH)
  (aq (dc (SW.st (B9 (b9 (mL hr.units) (o9 yf (gf 4 (aB D_still hr rfl (ag (af 4 (pv 4)) (ag (af 3 (pv 3)) ao)) (aj (aj az)))) jv (bM _)) (o9 (mL hr.units) (af 7 (pv 7)) (cK (ag av (ag av ao))) (bM _)) (bM _)) (wQ (b9 (mL hr.units) (ml (ag (af 4 (pv 4)) (ag (af 5 (pv 5)) ao))) (af 6 (pv 6)) (bM _))))) (ax (aY lg)) bH)
  (ax (dc (SW.st (GU (b9 (mL hr.units) (af 7 (pv 7)) (cK (ag av (ag av ao))) (bM _)) (D2 (kl (h9 (aB D__law_same hr rfl (ag (aB D__law_times hr rfl (ag (aB D_determinant hr rfl (ag (gf 4 (aB D_inverse hr rfl (ag (af 4 (pv 4)) ao) (aj az))) ao) (aj az)) (ag (af 7 (pv 7)) ao)) (aj (aj az))) (ag (cK (ag av (ag av ao))) ao)) (aj (aj az)))))))) (ax (aY lg)) bH))))))))))))))
  (ax (aY lg)))
end My
namespace Qm
abbrev ib (a b:Int):Prop:=Int.gcd a b=1
theorem rE {a b:Int} (h:Nat.Coprime a.natAbs b.natAbs):ib a b:=h
theorem ib.symm {a b:Int} (h:ib a b):ib b a:=by unfold ib; rw [Int.gcd_comm]; exact h
theorem ib.mulL {a b c:Int} (h:ib a c) (h':ib b c):ib (a * b) c:=rE (by rw [Int.natAbs_mul]; exact Nat.Coprime.mul_left h h')
theorem ib.mulR {a b c:Int} (h:ib c a) (h':ib c b):ib c (a * b):=rE (by rw [Int.natAbs_mul]; exact Nat.Coprime.mul_right h h')
theorem ib.dvdL {a b c:Int} (h:ib b c) (d:a ∣ b):ib a c:=rE (Nat.Coprime.coprime_dvd_left (Int.natAbs_dvd_natAbs.mpr d) h)
theorem ib.dvdR {a b c:Int} (h:ib c b) (d:a ∣ b):ib c a:=rE (Nat.Coprime.coprime_dvd_right (Int.natAbs_dvd_natAbs.mpr d) h)
theorem ib.addL {a b c:Int} (h:ib a c):ib (a + b * c) c:=by unfold ib; rw [Int.gcd_add_mul_right_left]; exact h
theorem split {a b:Int} (h:b ≠ 0):∃ x y:Int,a=(Int.gcd a b:Int) * x /\ b=(Int.gcd a b:Int) * y /\ ib x y /\ (Int.gcd a b:Int) ≠ 0:=by
 have hg:(Int.gcd a b:Int) ≠ 0:=by
  intro z
  have:Int.gcd a b=0:=by omega
  rw [Int.gcd_eq_zero_iff] at this
  exact h this.2
 obtain ⟨x,hx⟩:=Int.gcd_dvd_left a b
 obtain ⟨y,hy⟩:=Int.gcd_dvd_right a b
 refine ⟨x,y,hx,hy,?_,hg⟩
 have e:Int.gcd a b=Int.gcd a b * Int.gcd x y:=by
  have:=Int.gcd_mul_left (Int.gcd a b:Int) x y
  rw [<- hx,<- hy] at this
  simpa using this
 have hp:0 < Int.gcd a b:=by omega
 have:=Nat.eq_of_mul_eq_mul_left hp (show Int.gcd a b * Int.gcd x y=Int.gcd a b * 1 by omega)
 exact this
theorem d6 {a g x:Int} (h:a=g * x) (hg:g ≠ 0):a.fdiv g=x:=by rw [h]; exact Int.mul_fdiv_cancel_left x hg
theorem Gi {a b c d:Int} (hb:0 < b) (hd:0 < d) (h1:ib a b) (h2:ib c d) (s top low:Int) (es:s=Int.gcd b d) (et:top=a * d.fdiv s + c * b.fdiv s) (el:low=Int.gcd top s) :
  top.fdiv low=(a * d + c * b).fdiv (Int.gcd (a * d + c * b) (b * d)) /\ b.fdiv s * d.fdiv low=(b * d).fdiv (Int.gcd (a * d + c * b) (b * d)) /\ s ≠ 0 /\ low ≠ 0:=by
 obtain ⟨x,y,hx,hy,hc,hs⟩:=split (a:=b) (b:=d) (by omega)
 rw [<- es] at hx hy hs
 have ex:b.fdiv s=x:=d6 hx hs
 have ey:d.fdiv s=y:=d6 hy hs
 rw [ex,ey] at et
 have cx:ib top x:=by
  have q1:ib (a * y) x:=ib.mulL (h1.dvdR ⟨s,by rw [hx,Int.mul_comm]⟩) hc.symm
  have q2:=q1.addL (b:=c)
  rw [<- et] at q2
  exact q2
 have cy:ib top y:=by
  have q1:ib (c * x) y:=ib.mulL (h2.dvdR ⟨s,by rw [hy,Int.mul_comm]⟩) hc
  have q2:=q1.addL (b:=a)
  rw [Int.add_comm,<- et] at q2
  exact q2
 obtain ⟨u,v,hu,hv,_,hl⟩:=split (a:=top) (b:=s) hs
 rw [<- el] at hu hv hl
 have e1:a * d + c * b=s * top:=by
  rw [et]
  calc a * d + c * b=a * (s * y) + c * (s * x):=by rw [<- hx,<- hy]
   _=s * (a * y + c * x):=by rw [Int.mul_add,Int.mul_left_comm,Int.mul_left_comm c]
 have e2:b * d=s * (x * (y * s)):=by
  calc b * d=(s * x) * (s * y):=by rw [<- hx,<- hy]
   _=s * (x * (y * s)):=by rw [Int.mul_assoc,Int.mul_comm y s]
 have sp:0 ≤ s:=by rw [es]; omega
 have lp:0 ≤ low:=by rw [el]; omega
 have eg:((Int.gcd (a * d + c * b) (b * d):Nat):Int)=s * low:=by
  rw [e1,e2,Int.gcd_mul_left]
  have k1:Int.gcd top (x * (y * s))=Int.gcd top s:=by
   show Nat.gcd top.natAbs (x * (y * s)).natAbs=Nat.gcd top.natAbs s.natAbs
   rw [Int.natAbs_mul,Int.natAbs_mul,Nat.Coprime.gcd_mul_left_cancel_right _ (Nat.Coprime.symm cx),Nat.Coprime.gcd_mul_left_cancel_right _ (Nat.Coprime.symm cy)]
  rw [k1,el]
  push_cast
  rw [Int.natAbs_of_nonneg sp]
 have hsl:s * low ≠ 0:=Int.mul_ne_zero hs hl
 have tl:top.fdiv low=u:=d6 hu hl
 have dl:d.fdiv low=v * y:=d6 (by rw [hy,hv,Int.mul_assoc]) hl
 refine ⟨?_,?_,hs,hl⟩
 ·rw [eg,tl,e1]
  exact (d6 (by rw [Int.mul_assoc,<- hu]) hsl).symm
 ·rw [eg,ex,dl,e2]
  refine (d6 ?_ hsl).symm
  calc s * (x * (y * s))=s * (x * (y * (low * v))):=by rw [<- hv]
   _=s * low * (x * (v * y)):=by
    rw [Int.mul_assoc s low]
    congr 1
    rw [Int.mul_left_comm y low v,Int.mul_left_comm x low,Int.mul_comm y v]
theorem D4 {a b c d:Int} (hb:0 < b) (hd:0 < d) (h1:ib a b) (h2:ib c d) (l r:Int) (el:l=Int.gcd a d) (er:r=Int.gcd c b) :
  a.fdiv l * c.fdiv r=(a * c).fdiv (Int.gcd (a * c) (b * d)) /\ b.fdiv r * d.fdiv l=(b * d).fdiv (Int.gcd (a * c) (b * d)) /\ l ≠ 0 /\ r ≠ 0:=by
 obtain ⟨a',d',ha,hd',c1,hl⟩:=split (a:=a) (b:=d) (by omega)
 obtain ⟨c',b',hc,hb',c2,hr⟩:=split (a:=c) (b:=b) (by omega)
 rw [<- el] at ha hd' hl
 rw [<- er] at hc hb' hr
 have k:ib (a' * c') (b' * d'):=by
  have ab:ib a' b':=(h1.dvdL ⟨l,by rw [Int.mul_comm]; exact ha⟩).dvdR ⟨r,by rw [Int.mul_comm]; exact hb'⟩
  have cd:ib c' d':=(h2.dvdL ⟨r,by rw [Int.mul_comm]; exact hc⟩).dvdR ⟨l,by rw [Int.mul_comm]; exact hd'⟩
  exact ib.mulR (ib.mulL ab c2) (ib.mulL c1 cd)
 have e1:a * c=l * r * (a' * c'):=by
  calc a * c=(l * a') * (r * c'):=by rw [<- ha,<- hc]
   _=l * r * (a' * c'):=by rw [Int.mul_assoc,Int.mul_left_comm a' r c',Int.mul_assoc]
 have e2:b * d=l * r * (b' * d'):=by
  calc b * d=(r * b') * (l * d'):=by rw [<- hb',<- hd']
   _=l * r * (b' * d'):=by rw [Int.mul_assoc,Int.mul_left_comm b' l d',<- Int.mul_assoc,Int.mul_comm r l]
 have lp:0 ≤ l:=by rw [el]; omega
 have rp:0 ≤ r:=by rw [er]; omega
 have eg:((Int.gcd (a * c) (b * d):Nat):Int)=l * r:=by
  rw [e1,e2,Int.gcd_mul_left,k]
  push_cast
  rw [Int.mul_one,Int.natAbs_of_nonneg (Int.mul_nonneg lp rp)]
 have hlr:l * r ≠ 0:=Int.mul_ne_zero hl hr
 refine ⟨?_,?_,hl,hr⟩
 ·rw [eg,d6 ha hl,d6 hc hr]
  exact (d6 e1 hlr).symm
 ·rw [eg,d6 hb' hr,d6 hd' hl]
  exact (d6 e2 hlr).symm
end Qm
namespace Rq
def DD (k:Nat):Nat:=27720 ^ k
theorem gW (k:Nat):0 < DD k:=Nat.pow_pos (by decide)
theorem Aj (k j:Nat):DD (k + j)=DD k * DD j:=Nat.pow_add _ _ _
def Lq (k m:Nat) (q:Rat):Prop:=∃ n:Int,q=Rat.divInt n (DD k:Int) /\ n.natAbs ≤ m * DD k
theorem Lq.zero (k:Nat):Lq k 0 0:=⟨0,by rw [Rat.zero_divInt],by simp⟩
theorem uh (k:Nat):((DD k:Nat):Int) ≠ 0:=by have:=gW k; omega
theorem Lq.add {k m m':Nat} {x y:Rat} (hx:Lq k m x) (hy:Lq k m' y):Lq k (m + m') (x + y):=by
 obtain ⟨a,rfl,ha⟩:=hx
 obtain ⟨b,rfl,hb⟩:=hy
 refine ⟨a + b,?_,?_⟩
 ·rw [Rat.divInt_add_divInt _ _ (uh k) (uh k),<- Int.add_mul,Rat.divInt_mul_right (uh k)]
 ·rw [Nat.add_mul]
  have:=Int.natAbs_add_le a b
  omega
theorem Lq.mul {k k' m m':Nat} {x y:Rat} (hx:Lq k m x) (hy:Lq k' m' y):Lq (k + k') (m * m') (x * y):=by
 obtain ⟨a,rfl,ha⟩:=hx
 obtain ⟨b,rfl,hb⟩:=hy
 refine ⟨a * b,?_,?_⟩
 ·rw [Rat.divInt_mul_divInt,Aj]
  push_cast
  rfl
 ·rw [Int.natAbs_mul,Aj]
  calc a.natAbs * b.natAbs ≤ (m * DD k) * (m' * DD k'):=Nat.mul_le_mul ha hb
   _=m * m' * (DD k * DD k'):=by rw [Nat.mul_mul_mul_comm]
theorem Lq.mono {k m m':Nat} {x:Rat} (hx:Lq k m x) (h:m ≤ m'):Lq k m' x:=by
 obtain ⟨a,rfl,ha⟩:=hx
 exact ⟨a,rfl,Nat.le_trans ha (Nat.mul_le_mul_right _ h)⟩
theorem Lq.bd {k m:Nat} {x:Rat} (hx:Lq k m x):x.num.natAbs ≤ m * DD k /\ x.den ∣ DD k:=by
 obtain ⟨a,rfl,ha⟩:=hx
 have hp:=gW k
 rw [Rat.num_divInt,Rat.den_divInt,if_neg (uh k)]
 have hs:((DD k:Nat):Int).sign=1:=Int.sign_eq_one_of_pos (by omega)
 rw [hs,Int.one_mul]
 constructor
 ·rw [Int.natAbs_ediv_of_dvd (Int.gcd_dvd_right _ _)]
  exact Nat.le_trans (Nat.div_le_self _ _) ha
 ·rw [Int.natAbs_natCast]
  exact Nat.div_dvd_of_dvd (by have:=Int.gcd_dvd_left ((DD k:Nat):Int) a; exact Int.natCast_dvd_natCast.mp this)
theorem Lq.small {a b:Int} (ha:a.natAbs ≤ 9) (hb:0 < b) (hb':b ≤ 12):Lq 1 9 (Rat.divInt a b):=by
 have hd:b ∣ ((DD 1:Nat):Int):=by
  have e:((DD 1:Nat):Int)=27720:=by decide
  rw [e]
  have:b=1 \/ b=2 \/ b=3 \/ b=4 \/ b=5 \/ b=6 \/ b=7 \/ b=8 \/ b=9 \/ b=10 \/ b=11 \/ b=12:=by omega
  rcases this with rfl | rfl | rfl | rfl | rfl | rfl | rfl | rfl | rfl | rfl | rfl | rfl <;> decide
 obtain ⟨c,hc⟩:=hd
 have hc0:c ≠ 0:=fun z=>by rw [z,Int.mul_zero] at hc; exact uh 1 hc
 refine ⟨a * c,?_,?_⟩
 ·rw [hc,Rat.divInt_mul_right hc0]
 ·rw [Int.natAbs_mul]
  have h1:c.natAbs ≤ DD 1:=by
   have:((DD 1:Nat):Int).natAbs=b.natAbs * c.natAbs:=by rw [hc,Int.natAbs_mul]
   rw [Int.natAbs_natCast] at this
   rw [this]
   exact Nat.le_mul_of_pos_left _ (by omega)
  exact Nat.mul_le_mul ha h1
def wsum (r s:List Rat):Rat:=(List.zipWith (· * ·) r s).foldl (· + ·) 0
theorem foldl_add (l:List Rat):∀ a:Rat,l.foldl (· + ·) a=a + l.foldl (· + ·) 0:=by
 induction l with
 | nil=>intro a; rw [List.foldl_nil,List.foldl_nil,Rat.add_zero]
 | cons x l ih =>
  intro a
  rw [List.foldl_cons,List.foldl_cons,ih (a + x),ih (0 + x),Rat.zero_add,Rat.add_assoc]
theorem jL (x y:Rat) (r s:List Rat):wsum (x :: r) (y :: s)=x * y + wsum r s:=by
 unfold wsum
 rw [List.zipWith_cons_cons,List.foldl_cons,foldl_add,Rat.zero_add]
theorem tY {k k' m m':Nat}:∀ {r s:List Rat},(∀ x ∈ r,Lq k m x) -> (∀ y ∈ s,Lq k' m' y) -> Lq (k + k') (r.length * (m * m')) (wsum r s)
 | [],s,_,_=>by
  have:wsum [] s=0:=by unfold wsum; rw [List.zipWith_nil_left]; rfl
  rw [this,List.length_nil,Nat.zero_mul]
  exact Lq.zero _
 | x :: r,[],h1,h2=>by
  have:wsum (x :: r) []=0:=by unfold wsum; rw [List.zipWith_nil_right]; rfl
  rw [this]
  exact (Lq.zero _).mono (Nat.zero_le _)
 | x :: r,y :: s,h1,h2=>by
  rw [jL,List.length_cons,Nat.add_mul,Nat.one_mul,Nat.add_comm (r.length * (m * m'))]
  exact ((h1 x List.mem_cons_self).mul (h2 y List.mem_cons_self)).add (tY (fun z hz=>h1 z (List.mem_cons_of_mem _ hz)) (fun z hz=>h2 z (List.mem_cons_of_mem _ hz)))
theorem qT {D E:Int} (hD:D ≠ 0) (hE:E ≠ 0):∀ (a b:List Int),wsum (a.map fun n=>Rat.divInt n D) (b.map fun n=>Rat.divInt n E)=Rat.divInt (List.zipWith (· * ·) a b).sum (D * E)
 | [],b=>by
  unfold wsum
  rw [List.map_nil,List.zipWith_nil_left,List.zipWith_nil_left,List.sum_nil,Rat.zero_divInt]
  rfl
 | x :: a,[]=>by
  unfold wsum
  rw [List.map_nil,List.zipWith_nil_right,List.zipWith_nil_right,List.sum_nil,Rat.zero_divInt]
  rfl
 | x :: a,y :: b=>by
  rw [List.map_cons,List.map_cons,jL,qT hD hE a b,List.zipWith_cons_cons,List.sum_cons,Rat.divInt_mul_divInt]
  have hDE:D * E ≠ 0:=Int.mul_ne_zero hD hE
  rw [Rat.divInt_add_divInt _ _ hDE hDE,<- Int.add_mul,Rat.divInt_mul_right hDE]
def fK (B:List (List Rat)) (j:Nat):List Rat:=B.map fun r=>r.getD j 0
def pY (r:List Rat) (B:List (List Rat)) (w:Nat):List Rat:=(List.range w).map fun j=>wsum r (fK B j)
def mulM (A B:List (List Rat)) (w:Nat):List (List Rat):=A.map fun r=>pY r B w
theorem Ci (s:List Rat):wsum [] s=0:=by unfold wsum; rw [List.zipWith_nil_left]; rfl
theorem u6 (r:List Rat) (B:List (List Rat)) (w:Nat):(pY r B w).length=w:=by unfold pY; simp
def Sq (n:Nat) (A:List (List Rat)):Prop:=A.length=n /\ ∀ r ∈ A,r.length=n
theorem Sq.mul {n:Nat} {A B:List (List Rat)} (hA:Sq n A):Sq n (mulM A B n):=by
 refine ⟨by unfold mulM; rw [List.length_map]; exact hA.1,fun r hr=>?_⟩
 obtain ⟨a,_,rfl⟩:=List.mem_map.mp hr
 exact u6 _ _ _
end Rq
namespace Dt
abbrev Row:=Nat -> Int
abbrev Fn:=List Nat -> Int
def E (x:Row):Fn -> List Nat -> Int
 | _,[]=>0
 | D,c :: cs=>x c * D cs - E x (fun l=>D (c :: l)) cs
def det:List Row -> Fn
 | []=>fun cs=>if cs=[] then 1 else 0
 | x :: R=>fun cs=>E x (det R) cs
theorem bI (x:Row) (R:List Row) (cs:List Nat):det (x :: R) cs=E x (det R) cs:=rfl
theorem a7 (x:Row) (D:Fn) (c:Nat) (cs:List Nat):E x D (c :: cs)=x c * D cs - E x (fun l=>D (c :: l)) cs:=rfl
theorem iw (x:Row):∀ cs,E x (fun _=>0) cs=0
 | []=>rfl
 | c :: cs=>by rw [a7,iw x cs,Int.mul_zero,Int.sub_self]
theorem ic (x:Row) (a b:Int) (D D':Fn):∀ cs,E x (fun l=>a * D l + b * D' l) cs=a * E x D cs + b * E x D' cs:=by
 intro cs
 induction cs generalizing D D' with
 | nil=>simp [E]
 | cons c cs ih =>
  rw [a7,a7,a7,ih (fun l=>D (c :: l)) (fun l=>D' (c :: l))]
  grind
theorem qb (a b:Int) (x y:Row) (D:Fn):∀ cs,E (fun c=>a * x c + b * y c) D cs=a * E x D cs + b * E y D cs:=by
 intro cs
 induction cs generalizing D with
 | nil=>simp [E]
 | cons c cs ih =>
  rw [a7,a7,a7,ih (fun l=>D (c :: l))]
  grind
theorem jU (x y:Row) (D:Fn):∀ cs,E x (E y D) cs = - E y (E x D) cs:=by
 intro cs
 induction cs generalizing D with
 | nil=>rfl
 | cons c cs ih =>
  have h1:E x (fun l=>E y D (c :: l)) cs=y c * E x D cs - E x (E y (fun l=>D (c :: l))) cs:=by
   have:=ic x (y c) (-1) D (E y fun l=>D (c :: l)) cs
   rw [show (fun l=>E y D (c :: l))=fun l=>y c * D l + (-1) * E y (fun l=>D (c :: l)) l from funext fun l=>by rw [a7]; grind,this]
   grind
  have h2:E y (fun l=>E x D (c :: l)) cs=x c * E y D cs - E y (E x (fun l=>D (c :: l))) cs:=by
   have:=ic y (x c) (-1) D (E x fun l=>D (c :: l)) cs
   rw [show (fun l=>E x D (c :: l))=fun l=>x c * D l + (-1) * E x (fun l=>D (c :: l)) l from funext fun l=>by rw [a7]; grind,this]
   grind
  rw [a7,a7,h1,h2,ih]
  grind
theorem m6 (x:Row) (D:Fn) (cs:List Nat):E x (E x D) cs=0:=by
 have:=jU x x D cs
 omega
theorem kH (x y:Row) (R:List Row) (cs:List Nat):det (x :: y :: R) cs = - det (y :: x :: R) cs:=jU x y (det R) cs
theorem kJ {x:Row}:∀ {R:List Row},x ∈ R -> ∀ cs,det (x :: R) cs=0
 | [],h,_=>by cases h
 | y :: R,h,cs=>by
  rcases List.mem_cons.mp h with rfl | h
  ·exact m6 x (det R) cs
  ·rw [kH,bI,show det (x :: R)=fun _=>0 from funext (kJ h),iw]; rfl
def Alt (D:Fn):Prop:=∀ pre a b cs,D (pre ++ a :: b :: cs) = - D (pre ++ b :: a :: cs)
theorem Alt.tl {D:Fn} (h:Alt D) (c:Nat):Alt (fun l=>D (c :: l)):=fun pre a b cs=>h (c :: pre) a b cs
theorem t7 (x:Row):∀ (pre:List Nat) (D:Fn),Alt D -> ∀ a b cs,E x D (pre ++ a :: b :: cs) = - E x D (pre ++ b :: a :: cs)
 | [],D,h,a,b,cs=>by
  show E x D (a :: b :: cs) = - E x D (b :: a :: cs)
  have e:∀ cs,E x (fun l=>D (a :: b :: l)) cs = - E x (fun l=>D (b :: a :: l)) cs:=fun cs=>by
   have:=ic x (-1) 0 (fun l=>D (b :: a :: l)) (fun _=>0) cs
   rw [show (fun l=>D (a :: b :: l))=fun l=>(-1) * D (b :: a :: l) + 0 * 0 from funext fun l=>by rw [show D (a :: b :: l) = - D (b :: a :: l) from h [] a b l]; omega,this]
   omega
  rw [a7,a7,a7,a7,e]
  grind
 | p :: pre,D,h,a,b,cs=>by
  show E x D (p :: (pre ++ a :: b :: cs)) = - E x D (p :: (pre ++ b :: a :: cs))
  rw [a7,a7,t7 x pre _ (h.tl p),h pre a b cs]
  grind
theorem fX:∀ R:List Row,Alt (det R)
 | []=>fun pre a b cs=>by simp [det]
 | x :: R=>fun pre a b cs=>t7 x pre (det R) (fX R) a b cs
theorem Alt.dup {D:Fn} (h:Alt D) (c:Nat) (cs:List Nat):∀ pre:List Nat,D (c :: pre ++ c :: cs)=0
 | []=>by
  have:=h [] c c cs
  show D (c :: c :: cs)=0
  have e:D (c :: c :: cs) = - D (c :: c :: cs):=this
  omega
 | p :: pre=>by
  have e:=h [] c p (pre ++ c :: cs)
  have e2:D (c :: p :: (pre ++ c :: cs)) = - D (p :: c :: (pre ++ c :: cs)):=e
  have e3:=Alt.dup (h.tl p) c cs pre
  show D (c :: p :: (pre ++ c :: cs))=0
  have e4:D (p :: c :: (pre ++ c :: cs))=0:=e3
  omega
theorem rJ (R:List Row) {c:Nat} {cs:List Nat} (h:c ∈ cs):det R (c :: cs)=0:=by
 obtain ⟨s,t,rfl⟩:=List.append_of_mem h
 exact (fX R).dup c t s
def F (f:Row -> Int):(List Row -> Int) -> List Row -> Int
 | _,[]=>0
 | G,x :: R=>f x * G R - F f (fun S=>G (x :: S)) R
theorem bZ (f:Row -> Int) (G:List Row -> Int) (x:Row) (R:List Row):F f G (x :: R)=f x * G R - F f (fun S=>G (x :: S)) R:=rfl
theorem xi (f:Row -> Int) (a b:Int) (G G':List Row -> Int):∀ R,F f (fun S=>a * G S + b * G' S) R=a * F f G R + b * F f G' R:=by
 intro R
 induction R generalizing G G' with
 | nil=>simp [F]
 | cons x R ih =>
  rw [bZ,bZ,bZ,ih (fun S=>G (x :: S)) (fun S=>G' (x :: S))]
  grind
theorem Ed (f g:Row -> Int) (a b:Int) (G:List Row -> Int):∀ R,F (fun x=>a * f x + b * g x) G R=a * F f G R + b * F g G R:=by
 intro R
 induction R generalizing G with
 | nil=>simp [F]
 | cons x R ih =>
  rw [bZ,bZ,bZ,ih (fun S=>G (x :: S))]
  grind
theorem qY (f:Row -> Int) (G:List Row -> Int):∀ R,(∀ x ∈ R,f x=0) -> F f G R=0:=by
 intro R
 induction R generalizing G with
 | nil=>intro _; rfl
 | cons x R ih =>
  intro h
  rw [bZ,h x List.mem_cons_self,ih _ fun y hy=>h y (List.mem_cons_of_mem _ hy)]
  omega
theorem I0 (x:Row) (f:Row -> Int) (g:List Row -> Fn):∀ (R:List Row) (cs:List Nat),E x (fun l=>F f (fun S=>g S l) R) cs=F f (fun S=>E x (g S) cs) R:=by
 intro R
 induction R generalizing g with
 | nil=>intro cs; exact iw x cs
 | cons y R ih =>
  intro cs
  have e:=ic x (f y) (-1) (g R) (fun l=>F f (fun S=>g (y :: S) l) R) cs
  rw [show (fun l=>F f (fun S=>g S l) (y :: R))=fun l=>f y * g R l + (-1) * F f (fun S=>g (y :: S) l) R from funext fun l=>by rw [bZ]; omega,e,ih (fun S=>g (y :: S)),bZ]
  omega
theorem fH (c:Nat) (cs:List Nat):∀ R:List Row,det R (c :: cs)=F (fun x=>x c) (fun S=>det S cs) R
 | []=>by simp [det,F]
 | x :: R=>by
  rw [bI,a7,bZ,show (fun l=>det R (c :: l))=fun l=>F (fun x=>x c) (fun S=>det S l) R from funext fun l=>fH c l R,I0]
  rfl
def Lk (cs:List Nat) (f:Row -> Int):Prop:=∃ ws:List (Int × Nat),(∀ w ∈ ws,w.2 ∈ cs) /\ ∀ x,f x=(ws.map fun w=>w.1 * x w.2).foldr (· + ·) 0
theorem Lk.zero (cs:List Nat):Lk cs (fun _=>0):=⟨[],(fun _ h=>by cases h),fun _=>rfl⟩
theorem jz (a:Int) (x:Row):∀ ws:List (Int × Nat),((ws.map fun w=>(a * w.1,w.2)).map fun w=>w.1 * x w.2).foldr (· + ·) 0=a * (ws.map fun w=>w.1 * x w.2).foldr (· + ·) 0
 | []=>by simp
 | w :: ws=>by
  have ih:=jz a x ws
  simp only [List.map_cons,List.foldr_cons] at ih ⊢
  rw [ih]
  grind
theorem yI (x:Row):∀ (ws us:List (Int × Nat)),((ws ++ us).map fun w=>w.1 * x w.2).foldr (· + ·) 0=(ws.map fun w=>w.1 * x w.2).foldr (· + ·) 0 + (us.map fun w=>w.1 * x w.2).foldr (· + ·) 0
 | [],us=>by simp
 | w :: ws,us=>by
  have ih:=yI x ws us
  simp only [List.cons_append,List.map_cons,List.foldr_cons] at ih ⊢
  rw [ih]
  omega
theorem Lk.lin {cs:List Nat} {f g:Row -> Int} (hf:Lk cs f) (hg:Lk cs g) (a b:Int):Lk cs (fun x=>a * f x + b * g x):=by
 obtain ⟨ws,h1,h2⟩:=hf
 obtain ⟨us,g1,g2⟩:=hg
 refine ⟨(ws.map fun w=>(a * w.1,w.2)) ++ us.map fun w=>(b * w.1,w.2),fun w hw=>?_,fun x=>?_⟩
 ·rcases List.mem_append.mp hw with hw | hw
  ·obtain ⟨z,hz,rfl⟩:=List.mem_map.mp hw; exact h1 z hz
  ·obtain ⟨z,hz,rfl⟩:=List.mem_map.mp hw; exact g1 z hz
 ·rw [yI,jz,jz]
  show a * f x + b * g x=_
  rw [h2,g2]
theorem Lk.col {cs:List Nat} {c:Nat} (h:c ∈ cs):Lk cs (fun x=>x c):=⟨[(1,c)],(fun w hw=>by rw [List.mem_singleton.mp hw]; exact h),fun x=>by simp⟩
theorem Lk.more {cs ds:List Nat} {f:Row -> Int} (h:Lk cs f) (hs:∀ c ∈ cs,c ∈ ds):Lk ds f:=by
 obtain ⟨ws,h1,h2⟩:=h
 exact ⟨ws,fun w hw=>hs _ (h1 w hw),h2⟩
theorem Lk.congr {cs:List Nat} {f g:Row -> Int} (h:Lk cs f) (e:∀ x,g x=f x):Lk cs g:=by rw [funext e]; exact h
theorem Cu:∀ (cs:List Nat) (D:Fn),Lk cs (fun x=>E x D cs)
 | [],D=>Lk.zero []
 | c :: cs,D=>by
  have h1:=(Cu cs fun l=>D (c :: l)).more (ds:=c :: cs) fun z hz=>List.mem_cons_of_mem _ hz
  have h2:=Lk.col (cs:=c :: cs) (c:=c) List.mem_cons_self
  refine (h2.lin h1 (D cs) (-1)).congr fun x=>?_
  rw [a7]
  grind
theorem Ja {cs:List Nat} {f:Row -> Int} (h:Lk cs f) (R:List Row):F f (fun S=>det S cs) R=0:=by
 obtain ⟨ws,h1,h2⟩:=h
 have key:∀ ws:List (Int × Nat),(∀ w ∈ ws,w.2 ∈ cs) -> F (fun x=>(ws.map fun w=>w.1 * x w.2).foldr (· + ·) 0) (fun S=>det S cs) R=0:=by
  intro ws
  induction ws with
  | nil=>intro _; exact qY _ _ R fun _ _=>rfl
  | cons w ws ih =>
   intro h
   have e:=Ed (fun x=>x w.2) (fun x=>(ws.map fun w=>w.1 * x w.2).foldr (· + ·) 0) w.1 1 (fun S=>det S cs) R
   rw [show (fun x:Row=>((w :: ws).map fun w=>w.1 * x w.2).foldr (· + ·) 0)=fun x=>w.1 * x w.2 + 1 * (ws.map fun w=>w.1 * x w.2).foldr (· + ·) 0 from funext fun x=>by simp,e,ih fun z hz=>h z (List.mem_cons_of_mem _ hz),<- fH,rJ R (h w List.mem_cons_self)]
   omega
 rw [show f=fun x=>(ws.map fun w=>w.1 * x w.2).foldr (· + ·) 0 from funext h2]
 exact key ws h1
theorem ET {R:List Row} {cs:List Nat} (hd:det R cs ≠ 0) {f:Row -> Int} (h:Lk cs f) (h0:∀ x ∈ R,f x=0) (x:Row):f x=0:=by
 have e:=Ja h (x :: R)
 rw [bZ,qY f _ R h0] at e
 have e2:f x * det R cs=0:=by omega
 rcases Int.mul_eq_zero.mp e2 with e2 | e2
 ·exact e2
 ·exact absurd e2 hd
def left (R:List Row) (ps:List Nat) (x:Row):Row:=fun j=>det (x :: R) (j :: ps)
theorem sM (R:List Row) (ps:List Nat) (x:Row) (j:Nat):left R ps x j=x j * det R ps - E x (fun l=>det R (j :: l)) ps:=rfl
theorem kU {R:List Row} {ps:List Nat} {x:Row} (h:x ∈ R) (j:Nat):left R ps x j=0:=kJ h _
theorem xZ {R:List Row} {ps:List Nat} {x:Row} {j:Nat} (h:j ∈ ps):left R ps x j=0:=rJ _ h
theorem xn {R:List Row} {ps:List Nat} {k:Row} {p:Nat} (hd:left R ps k p ≠ 0) (x:Row) (j:Nat) :
  det R ps * left (k :: R) (p :: ps) x j=left R ps k p * left R ps x j - left R ps x p * left R ps k j:=by
 have hd':det (k :: R) (p :: ps)=left R ps k p:=rfl
 have h1:Lk (p :: ps) (fun x=>det R ps * left (k :: R) (p :: ps) x j - left R ps k p * left R ps x j + left R ps x p * left R ps k j):=by
  have l1:=Cu (p :: ps) (fun l=>det (k :: R) (j :: l))
  have l2:=(Cu ps (fun l=>det R (j :: l))).more (ds:=p :: ps) fun z hz=>List.mem_cons_of_mem _ hz
  have l3:=(Cu ps (fun l=>det R (p :: l))).more (ds:=p :: ps) fun z hz=>List.mem_cons_of_mem _ hz
  have l4:=Lk.col (cs:=p :: ps) (c:=p) List.mem_cons_self
  have m1:=l1.lin l2 (- det R ps) (left R ps k p)
  have m2:=l4.lin l3 (det R ps * left R ps k j) (- left R ps k j)
  refine (m1.lin m2 1 1).congr fun x=>?_
  rw [sM (k :: R),sM R ps x j,sM R ps x p,hd']
  grind
 have h2:∀ y ∈ k :: R,det R ps * left (k :: R) (p :: ps) y j - left R ps k p * left R ps y j + left R ps y p * left R ps k j=0:=fun y hy=>by
  rw [kU hy]
  rcases List.mem_cons.mp hy with rfl | hy
  ·grind
  ·rw [kU hy,kU hy]; omega
 have h3:=ET (R:=k :: R) (cs:=p :: ps) (by rw [hd']; exact hd) h1 h2 x
 have h4:det R ps * left (k :: R) (p :: ps) x j - left R ps k p * left R ps x j + left R ps x p * left R ps k j=0:=h3
 omega
theorem qW {x y:Row} {D D':Fn}:∀ {cs:List Nat},(∀ j ∈ cs,x j=y j) -> (∀ l,(∀ j ∈ l,j ∈ cs) -> D l=D' l) -> E x D cs=E y D' cs:=by
 intro cs
 induction cs generalizing D D' with
 | nil=>intro _ _; rfl
 | cons c cs ih =>
  intro h1 h2
  rw [a7,a7,h1 c List.mem_cons_self,h2 cs fun j hj=>List.mem_cons_of_mem _ hj]
  rw [ih (D:=fun l=>D (c :: l)) (D':=fun l=>D' (c :: l)) (fun j hj=>h1 j (List.mem_cons_of_mem _ hj)) fun l hl=>h2 (c :: l) fun j hj=>by
   rcases List.mem_cons.mp hj with rfl | hj
   ·exact List.mem_cons_self
   ·exact List.mem_cons_of_mem _ (hl j hj)]
theorem fj {α:Type} {g h:α -> Row}:∀ (S:List α) (cs:List Nat),(∀ x ∈ S,∀ j ∈ cs,g x j=h x j) -> det (S.map g) cs=det (S.map h) cs
 | [],_,_=>rfl
 | x :: S,cs,e=>by
  rw [List.map_cons,List.map_cons,bI,bI]
  exact qW (e x List.mem_cons_self) fun l hl=>fj S l fun y hy j hj=>e y (List.mem_cons_of_mem _ hy) j (hl j hj)
theorem ku (a:Int) (x:Row) (D:Fn) (cs:List Nat):E (fun c=>a * x c) D cs=a * E x D cs:=by
 have:=qb a 0 x x D cs
 rw [show (fun c=>a * x c)=fun c=>a * x c + 0 * x c from funext fun c=>by omega,this]
 omega
theorem nH (a:Int) (x:Row) (D:Fn) (cs:List Nat):E x (fun l=>a * D l) cs=a * E x D cs:=by
 have:=ic x a 0 D D cs
 rw [show (fun l=>a * D l)=fun l=>a * D l + 0 * D l from funext fun l=>by omega,this]
 omega
theorem qw (a:Int):∀ (S:List Row) (cs:List Nat),det (S.map fun x=>fun c=>a * x c) cs=a ^ S.length * det S cs
 | [],cs=>by simp
 | x :: S,cs=>by
  rw [List.map_cons,bI,ku,show det (S.map fun x=>fun c=>a * x c)=fun l=>a ^ S.length * det S l from funext (qw a S),nH,bI,List.length_cons,Int.pow_succ]
  grind
inductive Sp:List Row -> Row -> Prop
 | nil {x:Row} (h:∀ c,x c=0):Sp [] x
 | cons {w:Row} {W:List Row} {x y:Row} (a:Int) (h:∀ c,x c=a * w c + y c) (hy:Sp W y):Sp (w :: W) x
theorem Sp.lin:∀ {W:List Row} {x y:Row} (a b:Int),Sp W x -> Sp W y -> Sp W (fun c=>a * x c + b * y c)
 | [],x,y,a,b,.nil h,.nil h'=>.nil fun c=>by rw [h,h']; omega
 | w :: W,x,y,a,b,.cons s h h1,.cons t h' h2=>.cons (a * s + b * t) (fun c=>by rw [h,h']; grind) (Sp.lin a b h1 h2)
theorem Sp.zero:∀ (W:List Row),Sp W (fun _=>0)
 | []=>.nil fun _=>rfl
 | w :: W=>.cons 0 (fun c=>by omega) (Sp.zero W)
theorem Al {x:Row} (h:∀ c,x c=0) (D:Fn) (cs:List Nat):E x D cs=0:=by
 have:=ku 0 x D cs
 rw [show (fun c=>0 * x c)=x from funext fun c=>by rw [h c]; omega] at this
 omega
theorem xg (x0:Row) (a:Int) (b:Row -> Int):∀ (S:List Row) (cs:List Nat),E x0 (det (S.map fun x=>fun c=>a * x c + b x * x0 c)) cs=a ^ S.length * E x0 (det S) cs
 | [],cs=>by simp
 | x :: S,cs=>by
  rw [List.map_cons]
  show E x0 (E _ (det _)) cs=_
  rw [jU,show E x0 (det (S.map fun x=>fun c=>a * x c + b x * x0 c))=fun l=>a ^ S.length * E x0 (det S) l from funext (xg x0 a b S),nH,qb,m6]
  show _=a ^ (S.length + 1) * E x0 (E x (det S)) cs
  rw [jU x0 x,Int.pow_succ]
  grind
theorem qu {x:Row}:∀ {S:List Row},x ∈ S -> ∃ S':List Row,S'.length + 1=S.length /\ (∀ y ∈ S',y ∈ S) /\ ∃ s:Int,∀ cs,det S cs=s * det (x :: S') cs
 | [],h=>by cases h
 | y :: S,h=>by
  rcases List.mem_cons.mp h with rfl | h
  ·exact ⟨S,rfl,fun z hz=>List.mem_cons_of_mem _ hz,1,fun cs=>by omega⟩
  ·obtain ⟨S',h1,h2,s,h3⟩:=qu h
   refine ⟨y :: S',by simp only [List.length_cons]; omega,fun z hz=>?_,-s,fun cs=>?_⟩
   ·rcases List.mem_cons.mp hz with rfl | hz
    ·exact List.mem_cons_self
    ·exact List.mem_cons_of_mem _ (h2 z hz)
   ·rw [bI,show det S=fun l=>s * det (x :: S') l from funext h3,nH,<- bI,kH]
    grind
theorem oP:∀ (W S:List Row),(∀ x ∈ S,Sp W x) -> W.length < S.length -> ∀ cs,det S cs=0
 | [],[],_,h=>by cases h
 | [],x :: S,h,_=>fun cs=>by
  cases h x List.mem_cons_self with
  | nil hx=>exact Al hx _ cs
 | w :: W,S,h,hl=>fun cs=>by
  by_cases hz:∀ x ∈ S,Sp W x
  ·exact oP W S hz (by simp only [List.length_cons] at hl; omega) cs
  ·obtain ⟨x0,hx0,hn⟩:∃ x0,x0 ∈ S /\ ¬ Sp W x0:=by
    apply Classical.byContradiction
    intro hc
    exact hz fun x hx=>Classical.byContradiction fun hs=>hc ⟨x,hx,hs⟩
   obtain ⟨a,y0,ha,hy0⟩:∃ a y,(∀ c,x0 c=a * w c + y c) /\ Sp W y:=by
    cases h x0 hx0 with
    | cons a h' hy=>exact ⟨a,_,h',hy⟩
   have a0:a ≠ 0:=fun e=>hn (by
    rw [show x0=y0 from funext fun c=>by rw [ha c,e]; omega]
    exact hy0)
   obtain ⟨S',l1,l2,s,l3⟩:=qu hx0
   have hco:∀ x:Row,∃ t:Int,x ∈ S -> Sp W (fun c=>a * x c + (-t) * x0 c):=fun x=>by
    by_cases hx:x ∈ S
    ·cases h x hx with
     | cons t h' hy =>
      rename_i y
      refine ⟨t,fun _=>?_⟩
      rw [show (fun c=>a * x c + (-t) * x0 c)=fun c=>a * y c + (-t) * y0 c from funext fun c=>by rw [h' c,ha c]; grind]
      exact hy.lin a (-t) hy0
    ·exact ⟨0,fun hx'=>absurd hx' hx⟩
   have e:=xg x0 a (fun x=>- Classical.choose (hco x)) S' cs
   have z:det (S'.map fun x=>fun c=>a * x c + (- Classical.choose (hco x)) * x0 c)=fun _=>0:=funext fun l=>oP W _ (fun y hy=>by
    obtain ⟨x,hx,rfl⟩:=List.mem_map.mp hy
    exact Classical.choose_spec (hco x) (l2 x hx)) (by rw [List.length_map]; simp only [List.length_cons] at hl; omega) l
   rw [z,iw] at e
   have e2:E x0 (det S') cs=0:=by
    rcases Int.mul_eq_zero.mp e.symm with e2 | e2
    ·exact absurd e2 (Int.pow_ne_zero a0)
    ·exact e2
   rw [l3,bI,e2]
   omega
theorem EF (f:Nat -> Row -> Int) (hf:∀ j x,f j x=x j):∀ (R:List Row) (G:List Row -> Int),Sp R (fun j=>F (f j) G R)
 | [],G=>.nil fun _=>rfl
 | r :: R,G=>.cons (G R) (y:=fun c=>-1 * F (f c) (fun S=>G (r :: S)) R + 0 * 0) (fun c=>by rw [bZ,hf]; grind) (by
   have:=Sp.lin (-1) 0 (EF f hf R fun S=>G (r :: S)) (Sp.zero R)
   exact this)
theorem Kg {R S:List Row} {ps cs:List Nat} (hd:det R ps ≠ 0) (h:∀ x ∈ S,∀ j ∈ cs,left R ps x j=0) (hl:R.length < S.length):det S cs=0:=by
 have e:=qw (det R ps) S cs
 have hc:=fj (g:=fun x=>fun c=>det R ps * x c) (h:=fun x=>fun j=>F (fun y=>y j) (fun Q=>det (x :: Q) ps) R) S cs fun x hx j hj=>by
  have e1:=h x hx j hj
  have e2:left R ps x j=F (fun y=>y j) (fun Q=>det Q ps) (x :: R):=fH j ps (x :: R)
  rw [e2,bZ] at e1
  show det R ps * x j=_
  have e3:x j * det R ps - F (fun y=>y j) (fun Q=>det (x :: Q) ps) R=0:=e1
  grind
 have z:=oP R (S.map fun x=>fun j=>F (fun y=>y j) (fun Q=>det (x :: Q) ps) R) (fun y hy=>by
  obtain ⟨x,_,rfl⟩:=List.mem_map.mp hy
  exact EF (fun j y=>y j) (fun _ _=>rfl) R _) (by rw [List.length_map]; exact hl) cs
 rw [hc,z] at e
 rcases Int.mul_eq_zero.mp e.symm with e2 | e2
 ·exact absurd e2 (Int.pow_ne_zero hd)
 ·exact e2
theorem nI {x:Row} {At:Nat -> Row} {f:Row -> Int}:∀ (cs:List Nat) (G:List Row -> Int),(∀ c ∈ cs,f (At c)=x c) -> E x (fun l=>G (l.map At)) cs=F f G (cs.map At)
 | [],G,_=>rfl
 | c :: cs,G,h=>by
  rw [a7,List.map_cons,bZ,h c List.mem_cons_self,<- nI cs (fun S=>G (At c :: S)) fun d hd=>h d (List.mem_cons_of_mem _ hd)]
  rfl
theorem fM (A:Nat -> Row):∀ (is cs:List Nat),det (is.map A) cs=det (cs.map fun c=>fun i=>A i c) is
 | [],[]=>rfl
 | [],c :: cs=>rfl
 | i :: is,cs=>by
  rw [List.map_cons,bI,fH i is (cs.map fun c=>fun i=>A i c),show det (is.map A)=fun l=>det (l.map fun c=>fun i=>A i c) is from funext (fM A is)]
  exact nI (f:=fun y=>y i) cs (fun S=>det S is) fun c _=>rfl
def rw (l:List Int):Row:=fun j=>l.getD j 0
def aR (w:Nat) (R:List Row) (ps:List Nat) (x:Row):List Int:=(List.range w).map (left R ps x)
theorem dR {w:Nat} {R:List Row} {ps:List Nat} {x:Row} {j:Nat} (h:j < w):rw (aR w R ps x) j=left R ps x j:=by
 unfold rw aR
 rw [List.getD_eq_getElem?_getD,List.getElem?_map,List.getElem?_range h]
 rfl
theorem di (w:Nat) (R:List Row) (ps:List Nat) (x:Row):(aR w R ps x).length=w:=by unfold aR; rw [List.length_map,List.length_range]
inductive Ch (w:Nat):List Row -> List Nat -> List (Nat × List Int) -> Prop
 | nil:Ch w [] [] []
 | cons {R:List Row} {ps:List Nat} {kr:List (Nat × List Int)} {x:Row} {p:Nat} (h:Ch w R ps kr) (hp:p < w) (hn:left R ps x p ≠ 0):Ch w (x :: R) (p :: ps) ((p,aR w R ps x) :: kr)
theorem Ch.det {w:Nat} {R:List Row} {ps:List Nat} {kr:List (Nat × List Int)}:Ch w R ps kr -> det R ps ≠ 0
 | .nil=>by decide
 | .cons h hp hn=>hn
theorem Ch.ps {w:Nat} {R:List Row} {ps:List Nat} {kr:List (Nat × List Int)}:Ch w R ps kr -> ∀ p ∈ ps,p < w
 | .nil,_,h=>by cases h
 | .cons h hp hn,q,hq=>by
  rcases List.mem_cons.mp hq with rfl | hq
  ·exact hp
  ·exact h.ps q hq
theorem Ch.len {w:Nat} {R:List Row} {ps:List Nat} {kr:List (Nat × List Int)}:Ch w R ps kr -> R.length=kr.length /\ ps.length=kr.length
 | .nil=>⟨rfl,rfl⟩
 | .cons h hp hn=>by have:=h.len; simp only [List.length_cons]; omega
theorem Bs (x:Row) (j:Nat):left [] [] x j=x j:=by
 show E x (det []) [j]=x j
 simp [E,Dt.det]
theorem oy {w:Nat} {row:List Int} (h:row.length=w):row=aR w [] [] (rw row):=by
 apply List.ext_getElem?
 intro i
 unfold aR
 rw [List.getElem?_map]
 by_cases hi:i < w
 ·rw [List.getElem?_range hi]
  show row[i]? = some (left [] [] (rw row) i)
  rw [Bs]
  unfold rw
  rw [List.getD_eq_getElem?_getD,List.getElem?_eq_getElem (by omega)]
  rfl
 ·rw [List.getElem?_eq_none (by omega),List.getElem?_eq_none (by rw [List.length_range]; omega)]
  rfl
theorem Ae {w:Nat} {R:List Row} {ps:List Nat} {x y:Row} (f:Int -> Int -> Int):List.zipWith f (aR w R ps x) (aR w R ps y)=(List.range w).map fun j=>f (left R ps x j) (left R ps y j):=by
 unfold aR
 rw [List.zipWith_map_left,List.zipWith_map_right,List.zipWith_self]
theorem wj {w:Nat} {R:List Row} {ps:List Nat} {k x:Row} {p:Nat} (hd:Dt.det R ps ≠ 0) (hn:left R ps k p ≠ 0) (hp:p < w) (h:∀ j < w,left R ps x j=0):∀ j < w,left (k :: R) (p :: ps) x j=0:=fun j hj=>by
 have hb:=xn hn x j
 rw [h j hj,h p hp] at hb
 have:Dt.det R ps * left (k :: R) (p :: ps) x j=0:=by rw [hb]; omega
 rcases Int.mul_eq_zero.mp this with e | e
 ·exact absurd e hd
 ·exact e
def Eg (w:Nat) (r:Row) (l:Row):Prop:=∃ a b:Int,a ≠ 0 /\ b ≠ 0 /\ ∀ j < w,a * r j=b * l j
theorem Eg.zero {w:Nat} {r l:Row} (h:Eg w r l) {j:Nat} (hj:j < w):r j=0 ↔ l j=0:=by
 obtain ⟨a,b,ha,hb,e⟩:=h
 have ej:=e j hj
 constructor
 ·intro h0
  rw [h0,Int.mul_zero] at ej
  rcases Int.mul_eq_zero.mp ej.symm with z | z
  ·exact absurd z hb
  ·exact z
 ·intro h0
  rw [h0,Int.mul_zero] at ej
  rcases Int.mul_eq_zero.mp ej with z | z
  ·exact absurd z ha
  ·exact z
def fp (w:Nat) (x:Row):Option Nat:=(List.range w).find? fun j=>x j != 0
theorem C7 {w:Nat} {x:Row} (h:fp w x=none):∀ j < w,x j=0:=fun j hj=>by
 have:=List.find?_eq_none.mp h j (List.mem_range.mpr hj)
 simpa using this
theorem jG {w:Nat} {x:Row} {p:Nat} (h:fp w x=some p):p < w /\ x p ≠ 0:=by
 refine ⟨List.mem_range.mp (List.mem_of_find?_eq_some h),?_⟩
 have:=List.find?_some h
 simpa using this
theorem A5 {w:Nat} {x y:Row} (h:∀ j < w,(x j=0 ↔ y j=0)):fp w x=fp w y:=by
 unfold fp
 have:∀ l:List Nat,(∀ j ∈ l,j < w) -> l.find? (fun j=>x j != 0)=l.find? fun j=>y j != 0:=by
  intro l
  induction l with
  | nil=>intro _; rfl
  | cons j l ih =>
   intro hl
   have hj:=h j (hl j List.mem_cons_self)
   rw [List.find?_cons,List.find?_cons,ih fun k hk=>hl k (List.mem_cons_of_mem _ hk)]
   by_cases e:x j=0
   ·rw [e,hj.mp e]
   ·rw [show (x j != 0)=true by simpa using e,show (y j != 0)=true by simpa using fun z=>e (hj.mpr z)]
 exact this _ fun j hj=>List.mem_range.mp hj
def fr (w:Nat):List Row -> Nat -> List Row -> List Nat -> List Nat
 | [],_,_,_=>[]
 | x :: rest,i,R,ps=>match fp w (left R ps x) with
  | none=>fr w rest (i + 1) R ps
  | some p=>i :: fr w rest (i + 1) (x :: R) (p :: ps)
theorem vV {w:Nat}:∀ (rest:List Row) (i:Nat) (R:List Row) (ps:List Nat),det R ps ≠ 0 -> (∀ p ∈ ps,p < w) -> ps.length=R.length ->
  ∃ R' ps',det R' ps' ≠ 0 /\ (∀ p ∈ ps',p < w) /\ ps'.length=R'.length /\ R'.length=R.length + (fr w rest i R ps).length /\ (∀ x ∈ R',x ∈ R \/ x ∈ rest) /\ (∀ x ∈ rest,∀ j < w,left R' ps' x j=0) /\ ∀ x:Row,(∀ j < w,left R ps x j=0) -> ∀ j < w,left R' ps' x j=0
 | [],i,R,ps,h1,h2,h3=>⟨R,ps,h1,h2,h3,rfl,fun x hx=>.inl hx,(fun x hx=>by cases hx),fun x hx=>hx⟩
 | x :: rest,i,R,ps,h1,h2,h3=>by
  cases e:fp w (left R ps x) with
  | none =>
   obtain ⟨R',ps',g1,g2,g3,g4,g5,g6,g7⟩:=vV rest (i + 1) R ps h1 h2 h3
   refine ⟨R',ps',g1,g2,g3,?_,fun y hy=>?_,fun y hy=>?_,g7⟩
   ·rw [g4,fr,e]
   ·rcases g5 y hy with z | z
    ·exact .inl z
    ·exact .inr (List.mem_cons_of_mem _ z)
   ·rcases List.mem_cons.mp hy with rfl | hy
    ·exact g7 _ (C7 e)
    ·exact g6 y hy
  | some p =>
   obtain ⟨hp,hn⟩:=jG e
   obtain ⟨R',ps',g1,g2,g3,g4,g5,g6,g7⟩:=vV rest (i + 1) (x :: R) (p :: ps) hn (fun q hq=>by
    rcases List.mem_cons.mp hq with rfl | hq
    ·exact hp
    ·exact h2 q hq) (by simp only [List.length_cons]; omega)
   refine ⟨R',ps',g1,g2,g3,?_,fun y hy=>?_,fun y hy=>?_,fun y hy=>g7 y (wj h1 hn hp hy)⟩
   ·rw [g4,fr,e]; simp only [List.length_cons]; omega
   ·rcases g5 y hy with z | z
    ·rcases List.mem_cons.mp z with rfl | z
     ·exact .inr List.mem_cons_self
     ·exact .inl z
    ·exact .inr (List.mem_cons_of_mem _ z)
   ·rcases List.mem_cons.mp hy with rfl | hy
    ·exact g7 _ fun j _=>kU List.mem_cons_self j
    ·exact g6 y hy
def rank (w:Nat) (A:List Row):Nat:=(fr w A 0 [] []).length
theorem BX (w:Nat) (A:List Row):∃ R ps,det R ps ≠ 0 /\ (∀ p ∈ ps,p < w) /\ ps.length=R.length /\ R.length=rank w A /\ (∀ x ∈ R,x ∈ A) /\ ∀ x ∈ A,∀ j < w,left R ps x j=0:=by
 obtain ⟨R,ps,h1,h2,h3,h4,h5,h6,_⟩:=vV (w:=w) A 0 [] [] (by decide) (fun _ h=>by cases h) rfl
 refine ⟨R,ps,h1,h2,h3,by rw [h4]; simp [rank],fun x hx=>?_,h6⟩
 rcases h5 x hx with z | z
 ·cases z
 ·exact z
theorem BY {w:Nat} {A S:List Row} {cs:List Nat} (hS:∀ x ∈ S,x ∈ A) (hc:∀ c ∈ cs,c < w) (hd:det S cs ≠ 0):S.length ≤ rank w A:=by
 obtain ⟨R,ps,h1,h2,h3,h4,h5,h6⟩:=BX w A
 apply Classical.byContradiction
 intro hn
 exact hd (Kg h1 (fun x hx j hj=>h6 x (hS x hx) j (hc j hj)) (by omega))
theorem fY {α:Type} (g:α -> Row) (u:α -> Int):∀ (S:List α) (cs:List Nat),det (S.map fun x=>fun c=>u x * g x c) cs=(S.map u).foldr (· * ·) 1 * det (S.map g) cs
 | [],cs=>by simp
 | x :: S,cs=>by
  rw [List.map_cons,bI,ku,show det (S.map fun x=>fun c=>u x * g x c)=fun l=>(S.map u).foldr (· * ·) 1 * det (S.map g) l from funext (fY g u S),nH,List.map_cons,List.foldr_cons]
  show _=_ * E (g x) (det (S.map g)) cs
  grind
theorem index {α:Type} {l:List α}:∀ {S:List α},(∀ x ∈ S,x ∈ l) -> ∀ d,∃ is:List Nat,(∀ i ∈ is,i < l.length) /\ S=is.map fun i=>l.getD i d
 | [],_,d=>⟨[],(fun _ h=>by cases h),rfl⟩
 | x :: S,h,d=>by
  obtain ⟨is,h1,h2⟩:=index (S:=S) (fun y hy=>h y (List.mem_cons_of_mem _ hy)) d
  obtain ⟨i,hi,e⟩:=List.getElem_of_mem (h x List.mem_cons_self)
  refine ⟨i :: is,fun j hj=>?_,?_⟩
  ·rcases List.mem_cons.mp hj with rfl | hj
   ·exact hi
   ·exact h1 j hj
  ·rw [List.map_cons,<- h2,List.getD_eq_getElem?_getD,List.getElem?_eq_getElem hi,e]; rfl
theorem Hi {M N:Nat}:∀ (cs:List Nat) (x:Row) (D:Fn),(∀ j,(x j).natAbs ≤ M) -> (∀ l:List Nat,l.length < cs.length -> (D l).natAbs ≤ N) -> (E x D cs).natAbs ≤ cs.length * (M * N)
 | [],x,D,_,_=>by simp [E]
 | c :: cs,x,D,hx,hD=>by
  rw [a7,List.length_cons,Nat.succ_mul]
  have h1:(x c * D cs).natAbs ≤ M * N:=by
   rw [Int.natAbs_mul]
   exact Nat.mul_le_mul (hx c) (hD cs (by simp))
  have h2:=Hi (M:=M) (N:=N) cs x (fun l=>D (c :: l)) hx fun l hl=>hD (c :: l) (by simp only [List.length_cons]; omega)
  omega
theorem vN {M n:Nat}:∀ (R:List Row) (cs:List Nat),(∀ x ∈ R,∀ j,(x j).natAbs ≤ M) -> cs.length ≤ n -> (det R cs).natAbs ≤ (n * M + 1) ^ R.length
 | [],cs,_,_=>by
  cases cs with
  | nil=>simp [det]
  | cons c cs=>simp [det]
 | x :: R,cs,hR,hn=>by
  rw [bI,List.length_cons,Nat.pow_succ]
  have ih:∀ l:List Nat,l.length < cs.length -> (det R l).natAbs ≤ (n * M + 1) ^ R.length:=fun l hl=>vN R l (fun y hy=>hR y (List.mem_cons_of_mem _ hy)) (by omega)
  refine Nat.le_trans (Hi cs x (det R) (hR x List.mem_cons_self) ih) ?_
  calc cs.length * (M * (n * M + 1) ^ R.length) ≤ n * (M * (n * M + 1) ^ R.length):=Nat.mul_le_mul_right _ hn
   _=(n * M) * (n * M + 1) ^ R.length:=by rw [Nat.mul_assoc]
   _ ≤ (n * M + 1) * (n * M + 1) ^ R.length:=Nat.mul_le_mul_right _ (Nat.le_succ _)
   _=(n * M + 1) ^ R.length * (n * M + 1):=Nat.mul_comm _ _
inductive Fw (w:Nat):List Row -> List Nat -> List (Nat × List Int) -> List Row -> List Nat -> Prop
 | nil {R:List Row} {ps:List Nat}:Fw w R ps [] R ps
 | cons {R R':List Row} {ps ps':List Nat} {ks:List (Nat × List Int)} {x:Row} {p:Nat} (hp:p < w) (hn:left R ps x p ≠ 0) (h:Fw w (x :: R) (p :: ps) ks R' ps'):Fw w R ps ((p,aR w R ps x) :: ks) R' ps'
theorem Fw.snoc {w:Nat} {R R':List Row} {ps ps':List Nat} {ks:List (Nat × List Int)} (h:Fw w R ps ks R' ps') {x:Row} {p:Nat} (hp:p < w) (hn:left R' ps' x p ≠ 0):Fw w R ps (ks ++ [(p,aR w R' ps' x)]) (x :: R') (p :: ps'):=by
 induction h with
 | nil=>exact .cons hp hn .nil
 | cons hp' hn' h ih=>exact .cons hp' hn' (ih hn)
theorem z0 {w:Nat} {R:List Row} {ps:List Nat} {k x:Row} {p:Nat} (hd:det R ps ≠ 0) (hn:left R ps k p ≠ 0) :
  List.zipWith (fun n l=>(left R ps k p * n - left R ps x p * l).fdiv (det R ps)) (aR w R ps x) (aR w R ps k)=aR w (k :: R) (p :: ps) x:=by
 rw [Ae]
 unfold aR
 apply List.map_congr_left
 intro j _
 rw [<- xn hn x j]
 exact Int.mul_fdiv_cancel_left _ hd
end Dt
namespace Dq
abbrev Row:=Nat -> Rat
abbrev Fn:=List Nat -> Rat
def E (x:Row):Fn -> List Nat -> Rat
 | _,[]=>0
 | D,c :: cs=>x c * D cs - E x (fun l=>D (c :: l)) cs
def det:List Row -> Fn
 | []=>fun cs=>if cs=[] then 1 else 0
 | x :: R=>fun cs=>E x (det R) cs
theorem bI (x:Row) (R:List Row) (cs:List Nat):det (x :: R) cs=E x (det R) cs:=rfl
theorem a7 (x:Row) (D:Fn) (c:Nat) (cs:List Nat):E x D (c :: cs)=x c * D cs - E x (fun l=>D (c :: l)) cs:=rfl
theorem iw (x:Row):∀ cs,E x (fun _=>0) cs=0
 | []=>rfl
 | c :: cs=>by rw [a7,iw x cs,Rat.mul_zero,Rat.sub_self]
theorem ic (x:Row) (a b:Rat) (D D':Fn):∀ cs,E x (fun l=>a * D l + b * D' l) cs=a * E x D cs + b * E x D' cs:=by
 intro cs
 induction cs generalizing D D' with
 | nil=>simp only [E]; grind
 | cons c cs ih =>
  rw [a7,a7,a7,ih (fun l=>D (c :: l)) (fun l=>D' (c :: l))]
  grind
theorem qb (a b:Rat) (x y:Row) (D:Fn):∀ cs,E (fun c=>a * x c + b * y c) D cs=a * E x D cs + b * E y D cs:=by
 intro cs
 induction cs generalizing D with
 | nil=>simp only [E]; grind
 | cons c cs ih =>
  rw [a7,a7,a7,ih (fun l=>D (c :: l))]
  grind
theorem jU (x y:Row) (D:Fn):∀ cs,E x (E y D) cs = - E y (E x D) cs:=by
 intro cs
 induction cs generalizing D with
 | nil=>rfl
 | cons c cs ih =>
  have h1:E x (fun l=>E y D (c :: l)) cs=y c * E x D cs - E x (E y (fun l=>D (c :: l))) cs:=by
   have:=ic x (y c) (-1) D (E y fun l=>D (c :: l)) cs
   rw [show (fun l=>E y D (c :: l))=fun l=>y c * D l + (-1) * E y (fun l=>D (c :: l)) l from funext fun l=>by rw [a7]; grind,this]
   grind
  have h2:E y (fun l=>E x D (c :: l)) cs=x c * E y D cs - E y (E x (fun l=>D (c :: l))) cs:=by
   have:=ic y (x c) (-1) D (E x fun l=>D (c :: l)) cs
   rw [show (fun l=>E x D (c :: l))=fun l=>x c * D l + (-1) * E x (fun l=>D (c :: l)) l from funext fun l=>by rw [a7]; grind,this]
   grind
  rw [a7,a7,h1,h2,ih]
  grind
theorem m6 (x:Row) (D:Fn) (cs:List Nat):E x (E x D) cs=0:=by
 have:=jU x x D cs
 grind
theorem kH (x y:Row) (R:List Row) (cs:List Nat):det (x :: y :: R) cs = - det (y :: x :: R) cs:=jU x y (det R) cs
theorem kJ {x:Row}:∀ {R:List Row},x ∈ R -> ∀ cs,det (x :: R) cs=0
 | [],h,_=>by cases h
 | y :: R,h,cs=>by
  rcases List.mem_cons.mp h with rfl | h
  ·exact m6 x (det R) cs
  ·rw [kH,bI,show det (x :: R)=fun _=>0 from funext (kJ h),iw]; rfl
def Alt (D:Fn):Prop:=∀ pre a b cs,D (pre ++ a :: b :: cs) = - D (pre ++ b :: a :: cs)
theorem Alt.tl {D:Fn} (h:Alt D) (c:Nat):Alt (fun l=>D (c :: l)):=fun pre a b cs=>h (c :: pre) a b cs
theorem t7 (x:Row):∀ (pre:List Nat) (D:Fn),Alt D -> ∀ a b cs,E x D (pre ++ a :: b :: cs) = - E x D (pre ++ b :: a :: cs)
 | [],D,h,a,b,cs=>by
  show E x D (a :: b :: cs) = - E x D (b :: a :: cs)
  have e:∀ cs,E x (fun l=>D (a :: b :: l)) cs = - E x (fun l=>D (b :: a :: l)) cs:=fun cs=>by
   have:=ic x (-1) 0 (fun l=>D (b :: a :: l)) (fun _=>0) cs
   rw [show (fun l=>D (a :: b :: l))=fun l=>(-1) * D (b :: a :: l) + 0 * 0 from funext fun l=>by rw [show D (a :: b :: l) = - D (b :: a :: l) from h [] a b l]; grind,this]
   grind
  rw [a7,a7,a7,a7,e]
  grind
 | p :: pre,D,h,a,b,cs=>by
  show E x D (p :: (pre ++ a :: b :: cs)) = - E x D (p :: (pre ++ b :: a :: cs))
  rw [a7,a7,t7 x pre _ (h.tl p),h pre a b cs]
  grind
theorem fX:∀ R:List Row,Alt (det R)
 | []=>fun pre a b cs=>by simp [det]
 | x :: R=>fun pre a b cs=>t7 x pre (det R) (fX R) a b cs
theorem Alt.dup {D:Fn} (h:Alt D) (c:Nat) (cs:List Nat):∀ pre:List Nat,D (c :: pre ++ c :: cs)=0
 | []=>by
  have:=h [] c c cs
  show D (c :: c :: cs)=0
  have e:D (c :: c :: cs) = - D (c :: c :: cs):=this
  grind
 | p :: pre=>by
  have e:=h [] c p (pre ++ c :: cs)
  have e2:D (c :: p :: (pre ++ c :: cs)) = - D (p :: c :: (pre ++ c :: cs)):=e
  have e3:=Alt.dup (h.tl p) c cs pre
  show D (c :: p :: (pre ++ c :: cs))=0
  have e4:D (p :: c :: (pre ++ c :: cs))=0:=e3
  grind
theorem rJ (R:List Row) {c:Nat} {cs:List Nat} (h:c ∈ cs):det R (c :: cs)=0:=by
 obtain ⟨s,t,rfl⟩:=List.append_of_mem h
 exact (fX R).dup c t s
def F (f:Row -> Rat):(List Row -> Rat) -> List Row -> Rat
 | _,[]=>0
 | G,x :: R=>f x * G R - F f (fun S=>G (x :: S)) R
theorem bZ (f:Row -> Rat) (G:List Row -> Rat) (x:Row) (R:List Row):F f G (x :: R)=f x * G R - F f (fun S=>G (x :: S)) R:=rfl
theorem xi (f:Row -> Rat) (a b:Rat) (G G':List Row -> Rat):∀ R,F f (fun S=>a * G S + b * G' S) R=a * F f G R + b * F f G' R:=by
 intro R
 induction R generalizing G G' with
 | nil=>simp only [F]; grind
 | cons x R ih =>
  rw [bZ,bZ,bZ,ih (fun S=>G (x :: S)) (fun S=>G' (x :: S))]
  grind
theorem Ed (f g:Row -> Rat) (a b:Rat) (G:List Row -> Rat):∀ R,F (fun x=>a * f x + b * g x) G R=a * F f G R + b * F g G R:=by
 intro R
 induction R generalizing G with
 | nil=>simp only [F]; grind
 | cons x R ih =>
  rw [bZ,bZ,bZ,ih (fun S=>G (x :: S))]
  grind
theorem qY (f:Row -> Rat) (G:List Row -> Rat):∀ R,(∀ x ∈ R,f x=0) -> F f G R=0:=by
 intro R
 induction R generalizing G with
 | nil=>intro _; rfl
 | cons x R ih =>
  intro h
  rw [bZ,h x List.mem_cons_self,ih _ fun y hy=>h y (List.mem_cons_of_mem _ hy)]
  grind
theorem I0 (x:Row) (f:Row -> Rat) (g:List Row -> Fn):∀ (R:List Row) (cs:List Nat),E x (fun l=>F f (fun S=>g S l) R) cs=F f (fun S=>E x (g S) cs) R:=by
 intro R
 induction R generalizing g with
 | nil=>intro cs; exact iw x cs
 | cons y R ih =>
  intro cs
  have e:=ic x (f y) (-1) (g R) (fun l=>F f (fun S=>g (y :: S) l) R) cs
  rw [show (fun l=>F f (fun S=>g S l) (y :: R))=fun l=>f y * g R l + (-1) * F f (fun S=>g (y :: S) l) R from funext fun l=>by rw [bZ]; grind,e,ih (fun S=>g (y :: S)),bZ]
  grind
theorem fH (c:Nat) (cs:List Nat):∀ R:List Row,det R (c :: cs)=F (fun x=>x c) (fun S=>det S cs) R
 | []=>by simp [det,F]
 | x :: R=>by
  rw [bI,a7,bZ,show (fun l=>det R (c :: l))=fun l=>F (fun x=>x c) (fun S=>det S l) R from funext fun l=>fH c l R,I0]
  rfl
theorem nI {x:Row} {At:Nat -> Row} {f:Row -> Rat}:∀ (cs:List Nat) (G:List Row -> Rat),(∀ c ∈ cs,f (At c)=x c) -> E x (fun l=>G (l.map At)) cs=F f G (cs.map At)
 | [],G,_=>rfl
 | c :: cs,G,h=>by
  rw [a7,List.map_cons,bZ,h c List.mem_cons_self,<- nI cs (fun S=>G (At c :: S)) fun d hd=>h d (List.mem_cons_of_mem _ hd)]
  rfl
theorem fM (A:Nat -> Row):∀ (is cs:List Nat),det (is.map A) cs=det (cs.map fun c=>fun i=>A i c) is
 | [],[]=>rfl
 | [],c :: cs=>rfl
 | i :: is,cs=>by
  rw [List.map_cons,bI,fH i is (cs.map fun c=>fun i=>A i c),show det (is.map A)=fun l=>det (l.map fun c=>fun i=>A i c) is from funext (fM A is)]
  exact nI (f:=fun y=>y i) cs (fun S=>det S is) fun c _=>rfl
theorem qW {x y:Row} {D D':Fn}:∀ {cs:List Nat},(∀ j ∈ cs,x j=y j) -> (∀ l,(∀ j ∈ l,j ∈ cs) -> D l=D' l) -> E x D cs=E y D' cs:=by
 intro cs
 induction cs generalizing D D' with
 | nil=>intro _ _; rfl
 | cons c cs ih =>
  intro h1 h2
  rw [a7,a7,h1 c List.mem_cons_self,h2 cs fun j hj=>List.mem_cons_of_mem _ hj]
  rw [ih (D:=fun l=>D (c :: l)) (D':=fun l=>D' (c :: l)) (fun j hj=>h1 j (List.mem_cons_of_mem _ hj)) fun l hl=>h2 (c :: l) fun j hj=>by
   rcases List.mem_cons.mp hj with rfl | hj
   ·exact List.mem_cons_self
   ·exact List.mem_cons_of_mem _ (hl j hj)]
theorem fj {α:Type} {g h:α -> Row}:∀ (S:List α) (cs:List Nat),(∀ x ∈ S,∀ j ∈ cs,g x j=h x j) -> det (S.map g) cs=det (S.map h) cs
 | [],_,_=>rfl
 | x :: S,cs,e=>by
  rw [List.map_cons,List.map_cons,bI,bI]
  exact qW (e x List.mem_cons_self) fun l hl=>fj S l fun y hy j hj=>e y (List.mem_cons_of_mem _ hy) j (hl j hj)
theorem ku (a:Rat) (x:Row) (D:Fn) (cs:List Nat):E (fun c=>a * x c) D cs=a * E x D cs:=by
 have:=qb a 0 x x D cs
 rw [show (fun c=>a * x c)=fun c=>a * x c + 0 * x c from funext fun c=>by grind,this]
 grind
theorem nH (a:Rat) (x:Row) (D:Fn) (cs:List Nat):E x (fun l=>a * D l) cs=a * E x D cs:=by
 have:=ic x a 0 D D cs
 rw [show (fun l=>a * D l)=fun l=>a * D l + 0 * D l from funext fun l=>by grind,this]
 grind
theorem fY {α:Type} (g:α -> Row) (u:α -> Rat):∀ (S:List α) (cs:List Nat),det (S.map fun x=>fun c=>u x * g x c) cs=(S.map u).foldr (· * ·) 1 * det (S.map g) cs
 | [],cs=>by simp
 | x :: S,cs=>by
  rw [List.map_cons,bI,ku,show det (S.map fun x=>fun c=>u x * g x c)=fun l=>(S.map u).foldr (· * ·) 1 * det (S.map g) l from funext (fY g u S),nH,List.map_cons,List.foldr_cons]
  show _=_ * E (g x) (det (S.map g)) cs
  grind
def sm (cs:List Nat) (f:Nat -> Rat):Rat:=(cs.map f).foldr (· + ·) 0
theorem GH (f:Nat -> Rat):sm [] f=0:=rfl
theorem gg (c:Nat) (cs:List Nat) (f:Nat -> Rat):sm (c :: cs) f=f c + sm cs f:=rfl
theorem wL (a b:Rat) (f g:Nat -> Rat):∀ cs,sm cs (fun k=>a * f k + b * g k)=a * sm cs f + b * sm cs g
 | []=>by simp only [GH]; grind
 | c :: cs=>by rw [gg,gg,gg,wL a b f g cs]; grind
def Ph (cs:List Nat):List Row -> Fn -> Rat
 | [],H=>H []
 | x :: X,H=>sm cs fun k=>x k * Ph cs X (fun l=>H (k :: l))
theorem gO (cs:List Nat) (x:Row) (X:List Row) (H:Fn):Ph cs (x :: X) H=sm cs fun k=>x k * Ph cs X (fun l=>H (k :: l)):=rfl
theorem vB (cs:List Nat) (a b:Rat):∀ (X:List Row) (H H':Fn),Ph cs X (fun l=>a * H l + b * H' l)=a * Ph cs X H + b * Ph cs X H'
 | [],H,H'=>rfl
 | x :: X,H,H'=>by
  rw [gO,gO,gO,<- wL]
  congr 1
  funext k
  rw [vB cs a b X]
  grind
theorem Cv (cs:List Nat) (X:List Row):Ph cs X (fun _=>0)=0:=by
 have:=vB cs 0 0 X (fun _=>0) (fun _=>0)
 simp only [Rat.zero_mul,Rat.add_zero] at this
 exact this
theorem vA (f:Row -> Rat) (R:List Row):F f (fun _=>0) R=0:=by
 have:=xi f 0 0 (fun _=>0) (fun _=>0) R
 simp only [Rat.zero_mul,Rat.add_zero] at this
 exact this
theorem Hk (f:Row -> Rat) (g:Nat -> List Row -> Rat) (R:List Row):∀ cs,F f (fun S=>sm cs fun k=>g k S) R=sm cs fun k=>F f (g k) R
 | []=>vA f R
 | c :: cs=>by
  have:=xi f 1 1 (g c) (fun S=>sm cs fun k=>g k S) R
  simp only [Rat.one_mul] at this
  rw [gg,<- Hk f g R cs,<- this]
  rfl
theorem Am (f:Row -> Rat) (a:Rat) (G:List Row -> Rat) (R:List Row):F f (fun S=>a * G S) R=a * F f G R:=by
 have:=xi f a 0 G G R
 simp only [Rat.zero_mul,Rat.add_zero] at this
 exact this
theorem qX (f:Row -> Rat):∀ (R:List Row) {G G':List Row -> Rat},(∀ S,S.length + 1=R.length -> G S=G' S) -> F f G R=F f G' R
 | [],_,_,_=>rfl
 | x :: R,G,G',h=>by
  rw [bZ,bZ,h R rfl,qX f R (G:=fun S=>G (x :: S)) (G':=fun S=>G' (x :: S)) fun S hS=>h (x :: S) (by rw [List.length_cons,List.length_cons,hS])]
theorem kv (c:Nat) (cs:List Nat):∀ (X:List Row) (H:Fn),Alt H -> Ph (c :: cs) X H=Ph cs X H + F (fun x=>x c) (fun S=>Ph cs S (fun l=>H (c :: l))) X
 | [],H,_=>by
  show H []=H [] + 0
  grind
 | x :: X,H,hH=>by
  have hz:(fun l=>H (c :: c :: l))=fun _=>0:=funext fun l=>hH.dup c l []
  rw [gO,gg,kv c cs X _ (hH.tl c),hz]
  have e0:(fun S=>Ph cs S (fun _=>0))=fun _=>0:=funext fun S=>Cv cs S
  rw [e0,vA]
  have e1:(sm cs fun k=>x k * Ph (c :: cs) X (fun l=>H (k :: l)))=Ph cs (x :: X) H - F (fun y=>y c) (fun S=>Ph cs (x :: S) (fun l=>H (c :: l))) X:=by
   have e2:∀ k,x k * Ph (c :: cs) X (fun l=>H (k :: l))=x k * Ph cs X (fun l=>H (k :: l)) + (-1) * F (fun y=>y c) (fun S=>x k * Ph cs S (fun l=>H (c :: k :: l))) X:=fun k=>by
    rw [kv c cs X _ (hH.tl k)]
    have e3:(fun S=>Ph cs S (fun l=>H (k :: c :: l)))=fun S=>(-1) * Ph cs S (fun l=>H (c :: k :: l)):=funext fun S=>by
     have e4:=vB cs (-1) 0 S (fun l=>H (c :: k :: l)) (fun _=>0)
     rw [show (fun l=>H (k :: c :: l))=fun l=>(-1) * H (c :: k :: l) + 0 * 0 from funext fun l=>by rw [show H (k :: c :: l) = - H (c :: k :: l) from hH [] k c l]; grind,e4]
     grind
    rw [e3,Am,Am]
    grind
   rw [show (fun k=>x k * Ph (c :: cs) X (fun l=>H (k :: l)))=_ from funext e2]
   have e5:=wL 1 (-1) (fun k=>x k * Ph cs X (fun l=>H (k :: l))) (fun k=>F (fun y=>y c) (fun S=>x k * Ph cs S (fun l=>H (c :: k :: l))) X) cs
   simp only [Rat.one_mul] at e5
   rw [e5,<- Hk,gO]
   simp only [gO]
   grind
  rw [e1,bZ]
  grind
theorem q8:∀ (cs:List Nat) (X:List Row) (H:Fn),Alt H -> cs.length < X.length -> Ph cs X H=0
 | [],[],_,_,h=>by simp at h
 | [],x :: X,H,_,_=>rfl
 | c :: cs,X,H,hH,h=>by
  rw [List.length_cons] at h
  rw [kv c cs X H hH,q8 cs X H hH (by omega),qX (G':=fun _=>0) _ X fun S hS=>q8 cs S _ (hH.tl c) (by omega),vA]
  grind
theorem Ef:∀ (cs:List Nat) (X:List Row) (H:Fn),Alt H -> cs.length=X.length -> Ph cs X H=det X cs * H cs
 | [],[],H,_,_=>by
  show H []=1 * H []
  grind
 | [],x :: X,_,_,h=>by simp at h
 | c :: cs,X,H,hH,h=>by
  rw [List.length_cons] at h
  rw [kv c cs X H hH,q8 cs X H hH (by omega),qX (G':=fun S=>H (c :: cs) * det S cs) _ X fun S hS=>by rw [Ef cs S _ (hH.tl c) (by omega)]; grind,Am,fH]
  grind
theorem Hj (y:Row) (g:Nat -> Fn) (ds:List Nat):∀ cs,E y (fun l=>sm cs fun k=>g k l) ds=sm cs fun k=>E y (g k) ds
 | []=>iw y ds
 | c :: cs=>by
  have:=ic y 1 1 (g c) (fun l=>sm cs fun k=>g k l) ds
  simp only [Rat.one_mul] at this
  rw [gg,<- Hj y g ds cs,<- this]
  rfl
theorem xh (x:Row) (B:Nat -> Row) (D:Fn) (ds:List Nat):∀ cs,E (fun j=>sm cs fun k=>x k * B k j) D ds=sm cs fun k=>x k * E (B k) D ds
 | []=>by
  have:=qb 0 0 (fun _=>0) (fun _=>0) D ds
  simp only [Rat.zero_mul,Rat.add_zero] at this
  exact this
 | c :: cs=>by
  have:=qb (x c) 1 (B c) (fun j=>sm cs fun k=>x k * B k j) D ds
  simp only [Rat.one_mul] at this
  rw [gg,<- xh x B D ds cs,<- this]
  rfl
theorem Hg (y:Row) (ds cs:List Nat):∀ (X:List Row) (g:List Nat -> Fn),E y (fun l=>Ph cs X (fun ks=>g ks l)) ds=Ph cs X (fun ks=>E y (g ks) ds)
 | [],g=>rfl
 | x :: X,g=>by
  have e:=Hj y (fun k l=>x k * Ph cs X (fun ks=>g (k :: ks) l)) ds cs
  rw [gO]
  refine Eq.trans e ?_
  congr 1
  funext k
  rw [nH,Hg y ds cs X (fun ks=>g (k :: ks))]
def sP (cs:List Nat) (B:Nat -> Row) (x:Row):Row:=fun j=>sm cs fun k=>x k * B k j
theorem AO (cs:List Nat) (B:Nat -> Row):∀ (X:List Row) (ds:List Nat),det (X.map (sP cs B)) ds=Ph cs X (fun ks=>det (ks.map B) ds)
 | [],ds=>rfl
 | x :: X,ds=>by
  rw [List.map_cons,bI,gO,show det (X.map (sP cs B))=fun l=>Ph cs X (fun ks=>det (ks.map B) l) from funext (AO cs B X)]
  refine Eq.trans (xh x B _ ds cs) ?_
  congr 1
  funext k
  rw [Hg]
  rfl
theorem xB (cs ds:List Nat) (B:Nat -> Row) (X:List Row) (h:cs.length=X.length):det (X.map (sP cs B)) ds=det X cs * det (cs.map B) ds:=by
 rw [AO,show (fun ks=>det (ks.map B) ds)=det (ds.map fun c=>fun i=>B i c) from funext fun ks=>fM B ks ds,Ef cs X _ (fX _) h,fM B cs ds]
theorem Ak (x:Nat -> Int):∀ (cs:List Nat) (D:List Nat -> Int) (D':Fn),(∀ l,D' l=((D l:Int):Rat)) -> E (fun j=>((x j:Int):Rat)) D' cs=((Dt.E x D cs:Int):Rat)
 | [],D,D',_=>rfl
 | c :: cs,D,D',h=>by
  rw [a7,Dt.a7,Ak x cs (fun l=>D (c :: l)) (fun l=>D' (c :: l)) (fun l=>h _),h cs,Rat.intCast_sub,Rat.intCast_mul]
theorem uj:∀ (R:List (Nat -> Int)) (cs:List Nat),det (R.map fun x=>fun j=>((x j:Int):Rat)) cs=((Dt.det R cs:Int):Rat)
 | [],cs=>by
  show (if cs=[] then (1:Rat) else 0)=(((if cs=[] then (1:Int) else 0):Int):Rat)
  split <;> rfl
 | x :: R,cs=>by
  rw [List.map_cons,bI,Dt.bI]
  exact Ak x cs _ _ (uj R)
end Dq
namespace Dt
def ko (a b:Nat):Int:=if b < a then -1 else 1
def nC (a:Nat):List Nat -> Int
 | []=>1
 | b :: l=>ko a b * nC a l
def sgn:List Nat -> Int
 | []=>1
 | a :: l=>nC a l * sgn l
def ins (a:Nat):List Nat -> List Nat
 | []=>[a]
 | b :: l=>if b < a then b :: ins a l else a :: b :: l
def srt:List Nat -> List Nat
 | []=>[]
 | a :: l=>ins a (srt l)
theorem yp (a c:Nat):∀ l,nC c (ins a l)=ko c a * nC c l
 | []=>rfl
 | b :: l=>by
  unfold ins
  split
  ·show ko c b * nC c (ins a l)=_
   rw [yp a c l]
   show _=ko c a * (ko c b * nC c l)
   grind
  ·rfl
theorem yq (c:Nat):∀ l,nC c (srt l)=nC c l
 | []=>rfl
 | a :: l=>by
  show nC c (ins a (srt l))=ko c a * nC c l
  rw [yp,yq c l]
inductive Up:List Nat -> Prop
 | nil:Up []
 | cons {a:Nat} {l:List Nat} (h:∀ b ∈ l,a ≤ b) (u:Up l):Up (a :: l)
theorem rQ {a:Nat}:∀ {l:List Nat} {x:Nat},x ∈ ins a l ↔ x=a \/ x ∈ l
 | [],x=>by simp [ins]
 | b :: l,x=>by
  unfold ins
  split
  ·rw [List.mem_cons,rQ,List.mem_cons]
   grind
  ·simp
theorem Up.ins {a:Nat}:∀ {l:List Nat},Up l -> Up (ins a l)
 | [],_=>.cons (fun _ h=>by cases h) .nil
 | b :: l,.cons h u=>by
  unfold Dt.ins
  split
  ·next hb =>
   refine .cons (fun x hx=>?_) u.ins
   rcases rQ.mp hx with rfl | hx
   ·omega
   ·exact h x hx
  ·next hb =>
   refine .cons (fun x hx=>?_) (.cons h u)
   rcases List.mem_cons.mp hx with rfl | hx
   ·omega
   ·have:=h x hx
    omega
theorem Up.srt:∀ l:List Nat,Up (srt l)
 | []=>.nil
 | _ :: l=>(Up.srt l).ins
theorem qK {a:Nat}:∀ {l:List Nat},(∀ b ∈ l,a ≤ b) -> nC a l=1
 | [],_=>rfl
 | b :: l,h=>by
  show ko a b * nC a l=1
  rw [qK fun x hx=>h x (List.mem_cons_of_mem _ hx)]
  have:=h b List.mem_cons_self
  unfold ko
  rw [if_neg (by omega)]
  rfl
theorem xm (a:Nat):∀ {l:List Nat},Up l -> ∀ D:Fn,Alt D -> D (a :: l)=nC a l * D (ins a l)
 | [],_,D,_=>by
  show D [a]=1 * D [a]
  omega
 | b :: l,.cons hb u,D,h=>by
  unfold ins
  split
  ·next hlt =>
   have e:=xm a u (fun l=>D (b :: l)) (h.tl b)
   show D (a :: b :: l)=ko a b * nC a l * D (b :: ins a l)
   rw [show D (a :: b :: l) = - D (b :: a :: l) from h [] a b l,show D (b :: a :: l)=_ from e]
   unfold ko
   rw [if_pos hlt]
   grind
  ·next hlt =>
   rw [qK (a:=a) (l:=b :: l) fun x hx=>by
    rcases List.mem_cons.mp hx with rfl | hx
    ·omega
    ·have:=hb x hx
     omega]
   omega
theorem rd:∀ (l:List Nat) (D:Fn),Alt D -> D l=sgn l * D (srt l)
 | [],D,_=>by
  show D []=1 * D []
  omega
 | a :: l,D,h=>by
  have e:=rd l (fun l=>D (a :: l)) (h.tl a)
  show D (a :: l)=nC a l * sgn l * D (ins a (srt l))
  rw [show D (a :: l)=_ from e,xm a (Up.srt l) D h,yq]
  grind
def Ord (n:Nat) (ps:List Nat):Prop:=ps.length=n /\ (∀ p ∈ ps,p < n) /\ ps.Nodup
def EL (n:Nat):Nat -> List (List Nat)
 | 0=>[[]]
 | k + 1=>(EL n k).flatMap fun l=>(List.range n).map fun a=>a :: l
theorem gE {n:Nat}:∀ {k:Nat} {l:List Nat},l.length=k -> (∀ p ∈ l,p < n) -> l ∈ EL n k
 | 0,[],_,_=>List.mem_singleton.mpr rfl
 | k + 1,a :: l,h,hp=>by
  refine List.mem_flatMap.mpr ⟨l,gE (by simpa using h) fun p m=>hp p (List.mem_cons_of_mem _ m),?_⟩
  exact List.mem_map.mpr ⟨a,List.mem_range.mpr (hp a List.mem_cons_self),rfl⟩
theorem gp:∀ n ≤ 4,∀ l ∈ EL n n,l.Nodup -> srt l=List.range n /\ sgn l * sgn l.reverse=sgn (List.range n).reverse:=by decide +kernel
theorem vO {n:Nat} (hn:n ≤ 4) {R:Nat -> Row} {ps:List Nat} (h:Ord n ps) :
  sgn ps.reverse * det ((List.range n).reverse.map R) ps=det ((List.range n).map R) (List.range n):=by
 obtain ⟨h1,h2,h3⟩:=h
 obtain ⟨e1,e2⟩:=gp n hn ps (gE h1 h2) h3
 obtain ⟨f1,f2⟩:=gp n hn (List.range n) (gE List.length_range fun p hp=>List.mem_range.mp hp) List.nodup_range
 have f3:srt (List.range n).reverse=List.range n:=(gp n hn (List.range n).reverse (gE (by rw [List.length_reverse,List.length_range]) fun p hp=>List.mem_range.mp (List.mem_reverse.mp hp)) ((List.reverse_perm _).nodup_iff.mpr List.nodup_range)).1
 rw [rd ps _ (fX _),e1,fM R,rd (List.range n).reverse _ (fX _),f3,<- fM R]
 have:sgn (List.range n).reverse * sgn (List.range n).reverse=1:=by
  have:n=0 \/ n=1 \/ n=2 \/ n=3 \/ n=4:=by omega
  rcases this with rfl | rfl | rfl | rfl | rfl <;> decide
 have e3:sgn ps.reverse * sgn ps=sgn (List.range n).reverse:=by rw [<- e2]; grind
 grind
def kq (l:List Nat) (f:Nat -> Int):Int:=(l.map f).foldr (· + ·) 0
theorem cZ (p:Nat) (l:List Nat) (f:Nat -> Int):kq (p :: l) f=f p + kq l f:=rfl
theorem jJ {f g:Nat -> Int}:∀ {l:List Nat},(∀ p ∈ l,f p=g p) -> kq l f=kq l g
 | [],_=>rfl
 | p :: l,h=>by rw [cZ,cZ,h p List.mem_cons_self,jJ fun q hq=>h q (List.mem_cons_of_mem _ hq)]
theorem tP (f:Nat -> Int):∀ (l m:List Nat),kq (l ++ m) f=kq l f + kq m f
 | [],m=>by show kq m f=0 + kq m f; omega
 | p :: l,m=>by rw [List.cons_append,cZ,cZ,tP f l m]; omega
theorem pj {f:Nat -> Int}:∀ {l:List Nat},(∀ p ∈ l,f p=0) -> kq l f=0
 | [],_=>rfl
 | p :: l,h=>by rw [cZ,h p List.mem_cons_self,pj fun q hq=>h q (List.mem_cons_of_mem _ hq)]; omega
def put (ps:List Nat) (c p:Nat):List Nat:=ps.map fun q=>if q=p then c else q
theorem yi {c p:Nat}:∀ {ps:List Nat},p ∉ ps -> put ps c p=ps
 | [],_=>rfl
 | q :: ps,h=>by
  show (if q=p then c else q) :: put ps c p=_
  rw [yi fun m=>h (List.mem_cons_of_mem _ m),if_neg (fun e:q=p=>h (e ▸ List.mem_cons_self))]
theorem Eb (x:Row) (c:Nat):∀ (ps:List Nat) (D:Fn),Alt D -> ps.Nodup -> E x (fun l=>D (c :: l)) ps=kq ps fun p=>x p * D (put ps c p)
 | [],D,_,_=>rfl
 | p :: ps,D,h,hn=>by
  obtain ⟨h1,h2⟩:=List.nodup_cons.mp hn
  have ih:=Eb x c ps (fun l=>D (p :: l)) (h.tl p) h2
  have e1:(fun l=>D (c :: p :: l))=fun l=>(-1) * D (p :: c :: l) + 0 * 0:=funext fun l=>by rw [show D (c :: p :: l) = - D (p :: c :: l) from h [] c p l]; omega
  rw [a7,e1,ic x (-1) 0 (fun l=>D (p :: c :: l)) (fun _=>0) ps,ih,cZ]
  have e2:put (p :: ps) c p=c :: ps:=by
   show (if p=p then c else p) :: put ps c p=_
   rw [if_pos rfl,yi h1]
  have e3:(kq ps fun q=>x q * D (put (p :: ps) c q))=kq ps fun q=>x q * D (p :: put ps c q):=jJ fun q hq=>by
   have:put (p :: ps) c q=p :: put ps c q:=by
    show (if p=q then c else p) :: put ps c q=_
    rw [if_neg (fun e:p=q=>h1 (e ▸ hq))]
   rw [this]
  rw [e2,e3]
  omega
theorem nV {R:List Row} {ps:List Nat} (hn:ps.Nodup) (c:Nat) {x:Row} (hx:x ∈ R):(kq ps fun p=>x p * det R (put ps c p))=det R ps * x c:=by
 have h0:=kJ hx (c :: ps)
 rw [bI,a7,Eb x c ps (det R) (fX R) hn] at h0
 grind
theorem yC (a:Int) (f g:Nat -> Int):∀ l:List Nat,(kq l fun p=>a * f p + g p)=a * kq l f + kq l g
 | []=>by show (0:Int)=a * 0 + 0; omega
 | p :: l=>by rw [cZ,cZ,cZ,yC a f g l]; grind
theorem qo {R:List Row} {ps:List Nat} (hn:ps.Nodup) (c:Nat):∀ {W:List Row} {y:Row},(∀ x ∈ W,x ∈ R) -> Sp W y -> (kq ps fun p=>y p * det R (put ps c p))=det R ps * y c
 | [],y,_,.nil h=>by
  rw [h c,pj fun p _=>by rw [h p,Int.zero_mul]]
  omega
 | w :: W,y,hW,.cons a h hy=>by
  rename_i y'
  have ih:=qo hn c (fun x hx=>hW x (List.mem_cons_of_mem _ hx)) hy
  have hw:=nV hn c (hW w List.mem_cons_self)
  have e:(kq ps fun p=>y p * det R (put ps c p))=kq ps fun p=>a * (w p * det R (put ps c p)) + y' p * det R (put ps c p):=jJ fun p _=>by rw [h p]; grind
  rw [e,yC,ih,hw,h c]
  grind
theorem Dg (R:List Row) (ps:List Nat) (x:Row):Sp (x :: R) (left R ps x):=by
 have h:=EF (fun j y=>y j) (fun _ _=>rfl) (x :: R) (fun S=>det S ps)
 have e:left R ps x=fun j=>F (fun y=>y j) (fun S=>det S ps) (x :: R):=funext fun j=>fH j ps (x :: R)
 rw [e]
 exact h
theorem yZ {R0:List Row} {ps0:List Nat} (hn:ps0.Nodup) (c:Nat) {R:List Row} {ps Q:List Nat} {x:Row} {p:Nat} (hq:ps0=Q ++ p :: ps) (hR:∀ y ∈ x :: R,y ∈ R0) :
  det R0 ps0 * left R ps x c - (kq Q fun q=>left R ps x q * det R0 (put ps0 c q))=left R ps x p * det R0 (put ps0 c p):=by
 have h:=qo hn c hR (Dg R ps x)
 have e:(kq ps0 fun q=>left R ps x q * det R0 (put ps0 c q))=(kq Q fun q=>left R ps x q * det R0 (put ps0 c q)) + (left R ps x p * det R0 (put ps0 c p) + 0):=by
  conv=>lhs; rw [hq]
  rw [tP,cZ,pj (l:=ps) fun q hq'=>by rw [xZ hq',Int.zero_mul],<- hq]
 rw [e] at h
 omega
end Dt
namespace My
open PySem PySem.Spec PyProof.Rows L2 TM
theorem Jr:(17:Nat) ≤ sizeLine:=du (by decide)
theorem Kk:(6:Nat) < sizeLine:=dz (by decide)
theorem A8 {a b c d:Int}:lD (.tup [.int a,.int b]) (.tup [.int c,.int d])=some (.bl (decide (a=c) && decide (b=d))):=by
 have e:lD (.tup [.int a,.int b]) (.tup [.int c,.int d])=some (.bl ((a == c) && ((b == d) && true))):=rfl
 rw [e,Bool.and_true,Bool.beq_eq_decide_eq,Bool.beq_eq_decide_eq]
theorem zq {x y:Bool}:lD (.lst [.bl x,.bl y]) (.lst [.bl x,.bl y])=some (.bl true):=by
 have e:lD (.lst [.bl x,.bl y]) (.lst [.bl x,.bl y])=some (.bl ((x == x) && ((y == y) && true))):=rfl
 rw [e,beq_self_eq_true,beq_self_eq_true]
 rfl
theorem lB:∀ (n:Nat) (u:Option Sl) (x y:Nat),y < n -> eE (dw (aD j6 (ae 1) (fC (.int 0)))) (rN 0 1 (aa (ae 1) (aa (aD cg (ae 0) (ae 1)) ah))) n [some (.sh (.int x)),some (.sh (.int y)),u]
  = some (.nx [some (.sh (.int (Nat.gcd x y))),some (.sh (.int 0)),u])
 | 0,_,_,_,h=>by omega
 | n + 1,u,x,y,h=>by
  unfold eE
  by_cases hy:y=0
  ·subst hy
   have h0:((0:Nat):Int)=0:=rfl
   walk_at "ev"
   simp
  ·have hy':¬ ((y:Int)=0):=by omega
   have hm:Int.fmod (x:Int) (y:Int)=((x % y:Nat):Int):=by rw [Int.fmod_eq_emod_of_nonneg _ (by omega)]; rfl
   have hg:Nat.gcd x y=Nat.gcd y (x % y):=by rw [Nat.gcd_comm x y,Nat.gcd_rec y x,Nat.gcd_comm]
   have ih:=lB n u y (x % y) (by have:=Nat.mod_lt x (Nat.pos_of_ne_zero hy); omega)
   rw [hg]
   clear hg h hy
   walk_at "ev"
theorem qS:∀ (n:Nat) (u v:Option Sl) (x y:Nat),y < n -> eE (dw (aD vW (ae 3) (fC (.int 0)))) (rN 2 3 (aa (ae 3) (aa (aD cg (ae 2) (ae 3)) ah))) n [u,v,some (.sh (.int x)),some (.sh (.int y))]
  = some (.nx [u,v,some (.sh (.int (Nat.gcd x y))),some (.sh (.int 0))])
 | 0,_,_,_,_,h=>by omega
 | n + 1,u,v,x,y,h=>by
  unfold eE
  by_cases hy:y=0
  ·subst hy
   have h0:((0:Nat):Int)=0:=rfl
   walk_at "ev"
   simp
  ·have hy':¬ ((y:Int)=0):=by omega
   have hy2:(0:Int) < y:=by omega
   have hm:Int.fmod (x:Int) (y:Int)=((x % y:Nat):Int):=by rw [Int.fmod_eq_emod_of_nonneg _ (by omega)]; rfl
   have hg:Nat.gcd x y=Nat.gcd y (x % y):=by rw [Nat.gcd_comm x y,Nat.gcd_rec y x,Nat.gcd_comm]
   have ih:=qS n u v y (x % y) (by have:=Nat.mod_lt x (Nat.pos_of_ne_zero hy); omega)
   rw [hg]
   clear hg h hy
   walk_at "ev"
theorem Cg {ft:FT} {fb:FS} {τ τ':aP} {n:Nat} (h:ft τ=some (false,τ')) (hn:0 < n):eE ft fb n τ=some (.nx τ'):=by
 obtain ⟨m,rfl⟩:∃ m,n=m + 1:=⟨n - 1,by omega⟩
 unfold eE
 rw [h]
 rfl
theorem Hb:0 < B:=by decide +kernel
theorem bits_le {x:Int} (h:x.natAbs < B):¬ ((Builtin.Int.intBits x:Int) > 4000):=by
 unfold Builtin.Int.intBits
 by_cases h0:x=0
 ·subst h0; decide
 ·rw [if_neg (by simpa using h0)]
  have:x.natAbs.log2 < 4000:=(Nat.log2_lt (by omega)).mpr h
  omega
def d8:List T -> Option T
 | [.int a,.int b]=>if a.natAbs < B /\ b.natAbs < B then some (.int (Int.gcd a b)) else none
 | _=>none
theorem eu {a b:Int} (ha:a.natAbs < B) (hb:b.natAbs < B):d8 [.int a,.int b]=some (.int (Int.gcd a b)):=if_pos ⟨ha,hb⟩
theorem zS (ts:List T) (t:T) (h:d8 ts=some t):cE 3 2 (i5 B (fun _=>none)) ts=some t:=by
 unfold d8 at h
 split at h
 ·next a b =>
  split at h
  ·next hb =>
   cases h
   have hw:=lB B none a.natAbs b.natAbs (hb.2)
   have hbits:=bits_le (x:=((b.natAbs:Nat):Int)) (by simpa using hb.2)
   have hgt:vW (.int (Builtin.Int.intBits ((b.natAbs:Nat):Int))) (.int 4000)=some (.bl false):=by
    show some (T.bl (decide _))=_
    rw [decide_eq_false hbits]
   have hno:eE (dw (aD vW (mT gS (ae 1)) (fC (.int 4000)))) (aE (rN 0 1 (aa (ae 1) (aa (aD cg (ae 0) (ae 1)) ah))) (bE (dw (aD vW (mT gS (ae 1)) (fC (.int 4000)))) (oh (ai (fun _=>none) (aa (ae 0) (aa (ae 1) ah))) (bp (ar (ak 0) (ar (ak 1) (ar (ak 2) bo))))) bf)) B [some (.sh (.int (a.natAbs:Nat))),some (.sh (.int (b.natAbs:Nat))),none]
     = some (.nx [some (.sh (.int (a.natAbs:Nat))),some (.sh (.int (b.natAbs:Nat))),none]):=Cg (by
      clear hw hbits
      walk_at "ev") Hb
   unfold cE i5
   clear hb hbits hgt
   walk_at "ev"
   rfl
  ·cases h
 ·cases h
def sg (a b:Int):Int:=if b < 0 then -(Int.gcd a b:Int) else (Int.gcd a b:Int)
def mV (a b:Int):T:=.tup [.int (a.fdiv (sg a b)),.int (b.fdiv (sg a b))]
def dG:List T -> Option T
 | [.int a,.int b]=>if a.natAbs < B /\ b.natAbs < B /\ b ≠ 0 then some (mV a b) else none
 | _=>none
theorem gD {a b:Int} (ha:a.natAbs < B) (hb:b.natAbs < B) (h0:b ≠ 0):dG [.int a,.int b]=some (mV a b):=if_pos ⟨ha,hb,h0⟩
theorem Bg {a b:Int} (h0:b ≠ 0):¬ ((Int.gcd a b:Nat):Int)=0:=by
 intro h
 have:Int.gcd a b=0:=by omega
 rw [Int.gcd_eq_zero_iff] at this
 exact h0 this.2
theorem qA {a b:Int} (hb:b.natAbs < B) (h0:b ≠ 0):Int.gcd a b < B:=by
 have h1:Int.gcd a b ∣ b.natAbs:=Int.gcd_dvd_natAbs_right a b
 have:=Nat.le_of_dvd (by omega) h1
 omega
theorem vF {x:Int} (h:x.natAbs < B):vx (.int (Builtin.Int.intBits x)) (.int 8000)=some (.bl true):=by
 show some (T.bl (decide _))=_
 rw [decide_eq_true (by have:=bits_le h; omega)]
theorem DZ (ts:List T) (t:T) (h:dG ts=some t):cE 3 2 (nN d8) ts=some t:=by
 unfold dG at h
 split at h
 ·next a b =>
  split at h
  ·next hb =>
   cases h
   obtain ⟨ha,hb,h0⟩:=hb
   have h1:=eu ha hb
   have h2:=Bg (a:=a) h0
   have h3:=qA (a:=a) hb h0
   have h4:((Int.gcd a b:Nat):Int).natAbs < B:=by omega
   have h5:¬ -((Int.gcd a b:Nat):Int)=0:=by omega
   have h6:(-((Int.gcd a b:Nat):Int)).natAbs < B:=by omega
   have h7:=vF h4
   have h8:=vF h6
   unfold cE nN
   by_cases hs:b < 0
   ·have e:mV a b=.tup [.int (a.fdiv (-(Int.gcd a b:Int))),.int (b.fdiv (-(Int.gcd a b:Int)))]:=by unfold mV sg; rw [if_pos hs]
    walk_at "ev"
   ·have e:mV a b=.tup [.int (a.fdiv (Int.gcd a b:Int)),.int (b.fdiv (Int.gcd a b:Int))]:=by unfold mV sg; rw [if_neg hs]
    walk_at "ev"
  ·cases h
 ·cases h
theorem vi (ts:List T) (t:T) (h:dG ts=some t):cE 4 2 (fI B) ts=some t:=by
 unfold dG at h
 split at h
 ·next a b =>
  split at h
  ·next hb =>
   cases h
   obtain ⟨ha,hb,h0⟩:=hb
   have h2:=Bg (a:=a) h0
   have h3:=qA (a:=a) hb h0
   have h4:((Int.gcd a b:Nat):Int).natAbs < B:=by omega
   have h5:¬ -((Int.gcd a b:Nat):Int)=0:=by omega
   have h6:(-((Int.gcd a b:Nat):Int)).natAbs < B:=by omega
   have hz:∀ i:Int,0 - i = -i:=fun i=>by omega
   have hw:=qS B (some (.sh (.int a))) (some (.sh (.int b))) a.natAbs b.natAbs hb
   have hg:Nat.gcd a.natAbs b.natAbs=Int.gcd a b:=rfl
   unfold cE fI
   by_cases hs:b < 0
   ·have e:mV a b=.tup [.int (a.fdiv (-(Int.gcd a b:Int))),.int (b.fdiv (-(Int.gcd a b:Int)))]:=by unfold mV sg; rw [if_pos hs]
    walk_at "ev"
   ·have e:mV a b=.tup [.int (a.fdiv (Int.gcd a b:Int)),.int (b.fdiv (Int.gcd a b:Int))]:=by unfold mV sg; rw [if_neg hs]
    walk_at "ev"
  ·cases h
 ·cases h
open PySem PySem.Spec PyProof.Rows L2 TM Qm
def C:Nat:=2 ^ 1000
theorem JP:C * C + C * C < B:=by decide +kernel
theorem CB:C < B:=by decide +kernel
theorem ltB {a:Int} (h:a.natAbs < C):a.natAbs < B:=Nat.lt_trans h CB
theorem mulC {a b:Int} (ha:a.natAbs < C) (hb:b.natAbs < C):(a * b).natAbs < C * C:=by
 rw [Int.natAbs_mul]
 exact Nat.mul_lt_mul'' ha hb
theorem BD {a b:Int} (ha:a.natAbs < C) (hb:b.natAbs < C):(a * b).natAbs < B:=by
 have h1:=mulC ha hb
 have h2:=JP
 omega
theorem Hs {a b c d:Int} (ha:a.natAbs < C) (hb:b.natAbs < C) (hc:c.natAbs < C) (hd:d.natAbs < C):(a * b + c * d).natAbs < B:=by
 have h1:=mulC ha hb
 have h2:=mulC hc hd
 have h3:=JP
 omega
theorem iD {a g:Int} (h:g ∣ a) (hg:g ≠ 0):(a.fdiv g).natAbs ≤ a.natAbs:=by
 obtain ⟨x,rfl⟩:=h
 rw [Int.mul_fdiv_cancel_left x hg,Int.natAbs_mul]
 exact Nat.le_mul_of_pos_left _ (by omega)
structure Fr (a b:Int):Prop where
 pos:0 < b
 cop:ib a b
 ba:a.natAbs < C
 bb:b.natAbs < C
theorem ni {a b:Int} (h:0 < b):mV a b=.tup [.int (a.fdiv (Int.gcd a b)),.int (b.fdiv (Int.gcd a b))]:=by
 unfold mV sg
 rw [if_neg (by omega)]
def two:List T -> Option (Int × Int × Int × Int)
 | [.tup [.int a,.int b],.tup [.int c,.int d]]=>some (a,b,c,d)
 | _=>none
theorem GZ {ts:List T} {a b c d:Int} (h:two ts=some (a,b,c,d)):ts=[.tup [.int a,.int b],.tup [.int c,.int d]]:=by
 unfold two at h
 split at h
 ·cases h; rfl
 ·cases h
instance (a b:Int):Decidable (Fr a b):=decidable_of_iff (0 < b /\ Int.gcd a b=1 /\ a.natAbs < C /\ b.natAbs < C) ⟨fun h=>⟨h.1,h.2.1,h.2.2.1,h.2.2.2⟩,fun h=>⟨h.pos,h.cop,h.ba,h.bb⟩⟩
def Dj (C:Int -> Int -> Int -> Int -> Bool) (g:Int -> Int -> Int -> Int -> T):List T -> Option T:=fun ts=>(two ts).bind fun p=>if Fr p.1 p.2.1 /\ Fr p.2.2.1 p.2.2.2 /\ C p.1 p.2.1 p.2.2.1 p.2.2.2=true then some (g p.1 p.2.1 p.2.2.1 p.2.2.2) else none
theorem kX {C:Int -> Int -> Int -> Int -> Bool} {g:Int -> Int -> Int -> Int -> T} {ts:List T} {t:T} (h:Dj C g ts=some t):∃ a b c d,ts=[.tup [.int a,.int b],.tup [.int c,.int d]] /\ Fr a b /\ Fr c d /\ C a b c d=true /\ t=g a b c d:=by
 obtain ⟨⟨a,b,c,d⟩,e,h⟩:=bind_some h
 dsimp only at h
 split at h
 ·next k=>cases h; exact ⟨a,b,c,d,GZ e,k.1,k.2.1,k.2.2,rfl⟩
 ·cases h
theorem yb {C:Int -> Int -> Int -> Int -> Bool} {g:Int -> Int -> Int -> Int -> T} {a b c d:Int} (h1:Fr a b) (h2:Fr c d) (h3:C a b c d=true):Dj C g [.tup [.int a,.int b],.tup [.int c,.int d]]=some (g a b c d):=if_pos ⟨h1,h2,h3⟩
abbrev vy:=Dj (fun _ _ _ _=>true) fun a b c d=>mV (a * d + c * b) (b * d)
abbrev oB:=Dj (fun _ _ _ _=>true) fun a b c d=>mV (a * c) (b * d)
theorem D0 (ts:List T) (t:T) (h:vy ts=some t):cE 5 2 (nO d8) ts=some t:=by
 obtain ⟨a,b,c,d,rfl,h1,h2,_,rfl⟩:=kX h
 clear h
 obtain ⟨pb,cb,ba,bb⟩:=h1
 obtain ⟨pd,cd,bc,bd⟩:=h2
 obtain ⟨q1,q2,q3,q4⟩:=Gi pb pd cb cd _ _ _ rfl rfl rfl
 have v1:((Int.gcd b d:Nat):Int) ∣ b:=Int.gcd_dvd_left b d
 have v2:((Int.gcd b d:Nat):Int) ∣ d:=Int.gcd_dvd_right b d
 have n1:=iD v1 q3
 have n2:=iD v2 q3
 have g1:Int.gcd b d < B:=qA (ltB bd) (by omega)
 have g1':((Int.gcd b d:Nat):Int).natAbs < B:=by omega
 generalize hs:((Int.gcd b d:Nat):Int)=s at *
 have tb:(a * d.fdiv s + c * b.fdiv s).natAbs < B:=Hs ba (by omega) bc (by omega)
 have g2:Int.gcd (a * d.fdiv s + c * b.fdiv s) s < B:=qA g1' q3
 have v3:((Int.gcd (a * d.fdiv s + c * b.fdiv s) s:Nat):Int) ∣ d:=Int.dvd_trans (Int.gcd_dvd_right _ _) v2
 have n3:=iD v3 q4
 have k1:=eu (ltB bb) (ltB bd)
 have k2:=eu tb g1'
 rw [hs] at k1
 have e:mV (a * d + c * b) (b * d)=.tup [.int ((a * d.fdiv s + c * b.fdiv s).fdiv (Int.gcd (a * d.fdiv s + c * b.fdiv s) s:Nat)),.int (b.fdiv s * d.fdiv (Int.gcd (a * d.fdiv s + c * b.fdiv s) s:Nat))]:=by
  rw [ni (Int.mul_pos pb pd),q1,q2]
 have g2':((Int.gcd (a * d.fdiv s + c * b.fdiv s) s:Nat):Int).natAbs < B:=by omega
 generalize hl:((Int.gcd (a * d.fdiv s + c * b.fdiv s) s:Nat):Int)=l at *
 have w1:=ltB ba
 have w2:=ltB bc
 have cb':=CB
 have w3:(d.fdiv s).natAbs < B:=by omega
 have w4:(b.fdiv s).natAbs < B:=by omega
 have w5:(d.fdiv l).natAbs < B:=by omega
 clear q1 q2 v1 v2 n1 n2 n3 v3 cb cd ba bb bc bd pb pd hs hl g1 g2 cb'
 unfold cE nO
 walk_at "ev"
theorem B6 (ts:List T) (t:T) (h:oB ts=some t):cE 4 2 (kB d8) ts=some t:=by
 obtain ⟨a,b,c,d,rfl,h1,h2,_,rfl⟩:=kX h
 clear h
 obtain ⟨pb,cb,ba,bb⟩:=h1
 obtain ⟨pd,cd,bc,bd⟩:=h2
 obtain ⟨q1,q2,q3,q4⟩:=D4 pb pd cb cd _ _ rfl rfl
 have n1:=iD (Int.gcd_dvd_left a d) q3
 have n2:=iD (Int.gcd_dvd_right a d) q3
 have n3:=iD (Int.gcd_dvd_left c b) q4
 have n4:=iD (Int.gcd_dvd_right c b) q4
 have g1:Int.gcd a d < B:=qA (ltB bd) (by omega)
 have g2:Int.gcd c b < B:=qA (ltB bb) (by omega)
 have k1:=eu (ltB ba) (ltB bd)
 have k2:=eu (ltB bc) (ltB bb)
 have e:mV (a * c) (b * d)=.tup [.int (a.fdiv (Int.gcd a d:Nat) * c.fdiv (Int.gcd c b:Nat)),.int (b.fdiv (Int.gcd c b:Nat) * d.fdiv (Int.gcd a d:Nat))]:=by
  rw [ni (Int.mul_pos pb pd),q1,q2]
 have g1':((Int.gcd a d:Nat):Int).natAbs < B:=by omega
 have g2':((Int.gcd c b:Nat):Int).natAbs < B:=by omega
 generalize ((Int.gcd a d:Nat):Int)=l at *
 generalize ((Int.gcd c b:Nat):Int)=r at *
 have cb':=CB
 have w1:(a.fdiv l).natAbs < B:=by omega
 have w2:(d.fdiv l).natAbs < B:=by omega
 have w3:(c.fdiv r).natAbs < B:=by omega
 have w4:(b.fdiv r).natAbs < B:=by omega
 clear q1 q2 n1 n2 n3 n4 cb cd ba bb bc bd pb pd g1 g2 cb'
 unfold cE kB
 walk_at "ev"
open Rq
def bq (q:Rat):T:=.tup [.int q.num,.int (q.den:Int)]
theorem gR {a b:Int} (hb:0 < b):mV a b=bq (Rat.divInt a b):=by
 have hs:b.sign=1:=Int.sign_eq_one_of_pos hb
 have hg:(Int.gcd b a:Int)=(Int.gcd a b:Int):=by rw [Int.gcd_comm]
 rw [ni hb]
 unfold bq
 rw [Rat.num_divInt,Rat.den_divInt,if_neg (by omega),hs,Int.one_mul,hg,Int.fdiv_eq_ediv_of_nonneg _ (by omega),Int.fdiv_eq_ediv_of_nonneg _ (by omega)]
 congr 3
 rw [Int.natCast_ediv,Int.natAbs_of_nonneg (by omega),hg]
structure Sm (q:Rat):Prop where
 n:q.num.natAbs < C
 d:q.den < C
theorem Sm.fr {q:Rat} (h:Sm q):Fr q.num q.den:=⟨by have:=q.den_nz; omega,by
 have:=q.reduced
 show Int.gcd q.num q.den=1
 exact this,h.n,by have:=h.d; omega⟩
theorem gF (q:Rat):Rat.divInt q.num q.den=q:=Rat.num_divInt_den q
theorem den_pos (q:Rat):(0:Int) < (q.den:Int):=by have:=q.den_nz; omega
theorem add_eq (x y:Rat):mV (x.num * y.den + y.num * x.den) (x.den * y.den)=bq (x + y):=by
 rw [gR (Int.mul_pos (den_pos x) (den_pos y))]
 congr 1
 rw [<- Rat.divInt_add_divInt _ _ (Int.ne_of_gt (den_pos x)) (Int.ne_of_gt (den_pos y)),gF,gF]
theorem mul_eq (x y:Rat):mV (x.num * y.num) (x.den * y.den)=bq (x * y):=by
 rw [gR (Int.mul_pos (den_pos x) (den_pos y))]
 congr 1
 rw [<- Rat.divInt_mul_divInt,gF,gF]
theorem By {x y:Rat} (hx:Sm x) (hy:Sm y):vy [bq x,bq y]=some (bq (x + y)):=by
 have h:=yb (C:=fun _ _ _ _=>true) (g:=fun a b c d=>mV (a * d + c * b) (b * d)) hx.fr hy.fr rfl
 rw [add_eq] at h
 exact h
theorem uP {x y:Rat} (hx:Sm x) (hy:Sm y):oB [bq x,bq y]=some (bq (x * y)):=by
 have h:=yb (C:=fun _ _ _ _=>true) (g:=fun a b c d=>mV (a * c) (b * d)) hx.fr hy.fr rfl
 rw [mul_eq] at h
 exact h
theorem J4:2 ^ 100 * DD 12 < C:=by decide +kernel
theorem gJ {k m:Nat} {q:Rat} (h:Lq k m q) (hk:k ≤ 12) (hm:m ≤ 2 ^ 100):Sm q:=by
 obtain ⟨h1,h2⟩:=h.bd
 have hd:DD k ≤ DD 12:=Nat.pow_le_pow_right (by decide) hk
 have hp:=gW k
 have h3:q.den ≤ DD k:=Nat.le_of_dvd hp h2
 have h4:m * DD k ≤ 2 ^ 100 * DD 12:=Nat.mul_le_mul hm hd
 have h5:DD k ≤ 2 ^ 100 * DD 12:=Nat.le_trans hd (Nat.le_mul_of_pos_left _ (by decide))
 have:=J4
 exact ⟨by omega,by omega⟩
open PySem PySem.Spec PyProof.Rows L2 TM Qm Rq
open Classical in
def mk {α:Type} (R:List T -> α -> Prop):List T -> Option α:=fun ts=>if h:∃ t,R ts t then some (Classical.choose h) else none
theorem j9 {α:Type} {R:List T -> α -> Prop} {ts:List T} {t:α} (h:mk R ts=some t):R ts t:=by
 unfold mk at h
 split at h
 ·next hh=>cases h; exact Classical.choose_spec hh
 ·cases h
theorem mk_eq {α:Type} {R:List T -> α -> Prop} {ts:List T} {t:α} (h:R ts t) (u:∀ t',R ts t' -> t'=t):mk R ts=some t:=by
 unfold mk
 rw [dif_pos ⟨t,h⟩]
 congr 1
 exact u _ (Classical.choose_spec (⟨t,h⟩:∃ t,R ts t))
theorem DP {x y:Rat} (h:bq x=bq y):x=y:=by
 unfold bq at h
 injection h with h
 injection h with h1 h2
 injection h2 with h2 _
 injection h1 with h1
 injection h2 with h2
 exact Rat.ext h1 (by omega)
theorem map_inj {α β:Type} {f:α -> β} (hf:∀ x y,f x=f y -> x=y):∀ {a b:List α},a.map f=b.map f -> a=b
 | [],[],_=>rfl
 | [],_ :: _,h=>by cases h
 | _ :: _,[],h=>by cases h
 | x :: a,y :: b,h=>by
  rw [List.map_cons,List.map_cons] at h
  injection h with h1 h2
  rw [hf _ _ h1,map_inj hf h2]
def aG (r:List Rat):T:=.lst (r.map bq)
def au (A:List (List Rat)):T:=.lst (A.map aG)
def jj (r:List Rat):O:=Ik (r.map bq)
def mZ (A:List (List Rat)):O:=.lst (A.map jj)
theorem iq {r s:List Rat} (h:aG r=aG s):r=s:=by
 unfold aG at h
 injection h with h
 exact map_inj (fun _ _=>DP) h
theorem pC {r s:List (List Rat)} (h:au r=au s):r=s:=by
 unfold au at h
 injection h with h
 exact map_inj (fun _ _=>iq) h
theorem nz (r:List Rat):(jj r).tr=aG r:=by
 show T.lst (O.trs ((r.map bq).map O.val))=_
 rw [iu]
 rfl
theorem lu {α:Type} {f:α -> O} {g:α -> T} (h:∀ x,(f x).tr=g x):∀ l:List α,O.trs (l.map f)=l.map g
 | []=>rfl
 | x :: l=>by rw [List.map_cons,O.trs,lu h l,h x]; rfl
theorem nE (A:List (List Rat)):(mZ A).tr=au A:=by
 show T.lst (O.trs (A.map jj))=_
 rw [lu nz]
 rfl
theorem cM {α:Type} {φ:α -> T} {fe:FE} {g:α -> T} {ρ:aP} (hr:cz ρ=true):∀ (l:List α) (u:Option Sl) (acc:List T),(∀ x ∈ l,fe (some (.sh (φ x)) :: ρ)=some (g x,some (.sh (φ x)) :: ρ)) -> acc.length + l.length ≤ sizeLine -> c8 (ak 0) ay fe (l.map φ) (u :: ρ) acc=some (acc ++ l.map g)
 | [],u,acc,_,_=>by simp [c8]
 | x :: l,u,acc,h,hl=>by
  have hl':acc.length + (l.length + 1) ≤ sizeLine:=hl
  rw [List.map_cons,c8,show ak 0 (φ x) (u :: ρ)=some (some (.sh (φ x)) :: ρ) from rfl,Option.bind_some,show ay (some (.sh (φ x)) :: ρ)=some (true,some (.sh (φ x)) :: ρ) from rfl,Option.bind_some,if_pos rfl,h x List.mem_cons_self,Option.bind_some,if_pos ⟨hr,by omega⟩,
   cM hr l _ _ (fun z hz=>h z (List.mem_cons_of_mem _ hz)) (by rw [List.length_append]; simp; omega),List.map_cons,List.append_assoc]
  rfl
theorem ff {α:Type} {φ:α -> T} {fe:mP} {g:α -> O} {ρ:aP} (hr:cz ρ=true):∀ (l:List α) (u:Option Sl) (acc:List O),(∀ x ∈ l,fe (some (.sh (φ x)) :: ρ)=some (g x,some (.sh (φ x)) :: ρ)) -> acc.length + l.length ≤ sizeLine -> gY (ak 0) ay fe (l.map φ) (u :: ρ) acc=some (acc ++ l.map g)
 | [],u,acc,_,_=>by simp [gY]
 | x :: l,u,acc,h,hl=>by
  have hl':acc.length + (l.length + 1) ≤ sizeLine:=hl
  rw [List.map_cons,gY,show ak 0 (φ x) (u :: ρ)=some (some (.sh (φ x)) :: ρ) from rfl,Option.bind_some,show ay (some (.sh (φ x)) :: ρ)=some (true,some (.sh (φ x)) :: ρ) from rfl,Option.bind_some,if_pos rfl,h x List.mem_cons_self,Option.bind_some,if_pos ⟨hr,by omega⟩,
   ff hr l _ _ (fun z hz=>h z (List.mem_cons_of_mem _ hz)) (by rw [List.length_append]; simp; omega),List.map_cons,List.append_assoc]
  rfl
abbrev fm:FG:=bp (ar (ak 0) (ar (ak 1) bo))
theorem Dd (x y:T) (u v:Option Sl) (ρ:aP):fm (.tup [x,y]) (u :: v :: ρ)=some (some (.sh x) :: some (.sh y) :: ρ):=rfl
theorem fL {α:Type} {φ ψ:α -> T} {fe:FE} {g:α -> T} {ρ:aP} (hr:cz ρ=true):∀ (l:List α) (u v:Option Sl) (acc:List T),(∀ x ∈ l,fe (some (.sh (φ x)) :: some (.sh (ψ x)) :: ρ)=some (g x,some (.sh (φ x)) :: some (.sh (ψ x)) :: ρ)) -> acc.length + l.length ≤ sizeLine ->
  c8 fm ay fe (l.map fun x=>.tup [φ x,ψ x]) (u :: v :: ρ) acc=some (acc ++ l.map g)
 | [],u,v,acc,_,_=>by simp [c8]
 | x :: l,u,v,acc,h,hl=>by
  have hl':acc.length + (l.length + 1) ≤ sizeLine:=hl
  rw [List.map_cons,c8,Dd,Option.bind_some,show ay (some (.sh (φ x)) :: some (.sh (ψ x)) :: ρ)=some (true,some (.sh (φ x)) :: some (.sh (ψ x)) :: ρ) from rfl,Option.bind_some,if_pos rfl,h x List.mem_cons_self,Option.bind_some,if_pos ⟨hr,by omega⟩,
   fL hr l _ _ _ (fun z hz=>h z (List.mem_cons_of_mem _ hz)) (by rw [List.length_append]; simp; omega),List.map_cons,List.append_assoc]
  rfl
theorem jB {α β:Type} (φ:α -> T) (ψ:β -> T):∀ (r:List α) (s:List β),gM (r.map φ) (s.map ψ)=(List.zip r s).map fun p=>.tup [φ p.1,ψ p.2]
 | [],s=>by simp [gM]
 | x :: r,[]=>by simp [gM]
 | x :: r,y :: s=>by simp [gM,jB φ ψ r s]
theorem wX:∀ (n:Nat) (lo:Int),TM.upTo lo n=(List.range n).map fun (i:Nat)=>T.int (lo + i):=by
 intro n lo
 apply List.ext_getElem?
 intro i
 by_cases h:i < n
 ·rw [pF n lo i h,List.getElem?_map,List.getElem?_range h]; rfl
 ·rw [List.getElem?_eq_none (by rw [gU]; omega),List.getElem?_eq_none (by simp; omega)]
theorem vp (n:Nat):TM.upTo 0 n=(List.range n).map fun (i:Nat)=>T.int i:=by
 rw [wX]
 congr 1
 funext i
 congr 1
 omega
theorem cF {no:Nat} {cap:List Nat} {fi:FA} {fg:FG} {ft:FT} {fe:FE} {τ:aP} {ts us:List T} (h1:fi τ=some (ts,τ)) (h2:frzAll cap τ=τ) (h3:cz (cq no cap τ)=true) (h4:c8 fg ft fe ts (cq no cap τ) []=some us):bX no cap fi fg ft fe τ=some (.lst us,τ):=by
 unfold bX
 rw [h1,Option.bind_some]
 dsimp only
 rw [h2,if_pos h3,h4]
 rfl
theorem jF {no:Nat} {cap:List Nat} {fi:FA} {fg:FG} {ft:FT} {fe:mP} {τ:aP} {ts:List T} {us:List O} (h1:fi τ=some (ts,τ)) (h2:frzAll cap τ=τ) (h3:cz (cq no cap τ)=true) (h4:gY fg ft fe ts (cq no cap τ) []=some us):eO no cap fi fg ft fe τ=some (.lst us,τ):=by
 unfold eO
 rw [h1,Option.bind_some]
 dsimp only
 rw [h2,if_pos h3,h4]
 rfl
theorem bQ {fg:FG} {fb:FS} {t:T} {ts:List T} {τ τ1 τ2:aP} (h1:fg t τ=some τ1) (h2:fb τ1=some (.nx τ2)):bP fg fb (t :: ts) τ=bP fg fb ts τ2:=by
 rw [bP,h1,Option.bind_some,h2]
 rfl
theorem ji {f:FE} {τ:aP} {n:Int} (h:f τ=some (.int n,τ)) (h0:0 ≤ n) (h1:n ≤ 1000):bS (aa f ah) τ=some (TM.upTo 0 n.toNat,τ):=by
 unfold bS aa ah
 rw [h]
 show (if _ then _ else _)=_
 rw [if_pos (by omega)]
theorem jH {f:FE} {τ:aP} {n:Nat} (h:f τ=some (.int n,τ)) (h1:n ≤ 1000):bS (aa f ah) τ=some ((List.range n).map fun (i:Nat)=>T.int i,τ):=by
 have e:=ji h (by omega) (by omega)
 rw [Int.toNat_natCast,vp] at e
 exact e
structure Gd (k m:Nat) (r:List Rat):Prop where
 len:r.length ≤ 8
 lq:∀ x ∈ r,Lq k m x
def my (k m:Nat):Prop:=k ≤ 6 /\ m ≤ 2 ^ 40
theorem Gd.sm {k m:Nat} {r:List Rat} (h:Gd k m r) (f:my k m) {x:Rat} (hx:x ∈ r):Sm x:=gJ (h.lq x hx) (by have:=f.1; omega) (Nat.le_trans f.2 (by decide))
open PySem PySem.Spec PyProof.Rows L2 TM Qm Rq
theorem Fb {k m k' m' n:Nat} (f:my k m) (f':my k' m') (hn:n ≤ 8):k + k' ≤ 12 /\ n * (m * m') ≤ 2 ^ 84:=by
 refine ⟨by have:=f.1; have:=f'.1; omega,?_⟩
 calc n * (m * m') ≤ 8 * (2 ^ 40 * 2 ^ 40):=Nat.mul_le_mul hn (Nat.mul_le_mul f.2 f'.2)
  _ ≤ 2 ^ 84:=by decide
def yO:FS:=aN 2 (ai vy (aa (ae 2) (aa (ai oB (aa (ae 3) (aa (ae 4) ah))) ah)))
theorem vq {k m k' m':Nat} (f:my k m) (f':my k' m') (x0 x1:Option Sl):∀ (r s:List Rat) (a:Rat) (M:Nat) (u v:Option Sl),(∀ x ∈ r,Lq k m x) -> (∀ y ∈ s,Lq k' m' y) -> Lq (k + k') M a -> M + r.length * (m * m') ≤ 2 ^ 90 ->
  ∃ u' v',bP (bp (ar (ak 3) (ar (ak 4) bo))) yO ((List.zip r s).map fun p=>T.tup [bq p.1,bq p.2]) [x0,x1,some (.sh (bq a)),u,v]=some (.nx [x0,x1,some (.sh (bq (a + wsum r s))),u',v'])
 | [],s,a,M,u,v,_,_,_,_=>⟨u,v,by rw [Ci,Rat.add_zero]; simp [bP]⟩
 | x :: r,[],a,M,u,v,_,_,_,_=>⟨u,v,by
   have z:wsum (x :: r) []=0:=by unfold wsum; rw [List.zipWith_nil_right]; rfl
   rw [z,Rat.add_zero]; simp [bP]⟩
 | x :: r,y :: s,a,M,u,v,h1,h2,h3,h4=>by
  have hx:=h1 x List.mem_cons_self
  have hy:=h2 y List.mem_cons_self
  have hk:k ≤ 6:=f.1
  have hk':k' ≤ 6:=f'.1
  have lx:=hx.mul hy
  have la:=h3.add lx
  have hm1:m * m' ≤ 2 ^ 80:=Nat.le_trans (Nat.mul_le_mul (f.2:m ≤ 2 ^ 40) (f'.2:m' ≤ 2 ^ 40)) (by decide)
  rw [List.length_cons,Nat.add_mul,Nat.one_mul] at h4
  obtain ⟨u',v',ih⟩:=vq f f' x0 x1 r s (a + x * y) (M + m * m') (some (.sh (bq x))) (some (.sh (bq y))) (fun z hz=>h1 z (List.mem_cons_of_mem _ hz)) (fun z hz=>h2 z (List.mem_cons_of_mem _ hz)) la (by omega)
  refine ⟨u',v',?_⟩
  have k1:=uP (gJ hx (by omega) (Nat.le_trans f.2 (by decide))) (gJ hy (by omega) (Nat.le_trans f'.2 (by decide)))
  have k2:=By (gJ h3 (by omega) (by omega)) (gJ lx (by omega) (by omega))
  have hb:yO [x0,x1,some (.sh (bq a)),some (.sh (bq x)),some (.sh (bq y))]=some (.nx [x0,x1,some (.sh (bq (a + x * y))),some (.sh (bq x)),some (.sh (bq y))]):=by
   clear ih h1 h2 h3 h4 hx hy lx la hm1 hk hk'
   unfold yO
   walk_at "ev"
  rw [List.zip_cons_cons,List.map_cons,bQ (τ1:=[x0,x1,some (.sh (bq a)),some (.sh (bq x)),some (.sh (bq y))]) rfl hb,ih,jL,Rat.add_assoc]
def Jg (ts:List T) (t:T):Prop:=∃ r s k m k' m',ts=[aG r,aG s] /\ Gd k m r /\ Gd k' m' s /\ my k m /\ my k' m' /\ t=bq (wsum r s)
def Dk:List T -> Option T:=mk Jg
theorem Dl {r s:List Rat} {k m k' m':Nat} (h1:Gd k m r) (h2:Gd k' m' s) (f:my k m) (f':my k' m'):Dk [aG r,aG s]=some (bq (wsum r s)):=
 mk_eq ⟨r,s,k,m,k',m',rfl,h1,h2,f,f',rfl⟩ fun t' hq__=>by
  obtain ⟨r',s',_,_,_,_,e,_,_,_,_,e2⟩:=hq__
  injection e with e3 e4
  injection e4 with e4 _
  rw [e2,iq e3,iq e4]
theorem wO (ts:List T) (t:T) (h:Dk ts=some t):cE 5 2 (ij oB vy) ts=some t:=by
 obtain ⟨r,s,k,m,k',m',rfl,h1,h2,f,f',rfl⟩:=j9 h
 clear h
 have hz:=Fb f f' h1.len
 obtain ⟨u,v,hl⟩:=vq f f' (some (.sh (aG r))) (some (.sh (aG s))) r s 0 0 none none h1.lq h2.lq (Lq.zero _) (by have:=hz.2; omega)
 rw [Rat.zero_add] at hl
 have hi:c9 (aa (ae 0) (aa (ae 1) ah)) [some (.sh (aG r)),some (.sh (aG s)),some (.sh (bq 0)),none,none]=some ((List.zip r s).map fun p=>T.tup [bq p.1,bq p.2],[some (.sh (aG r)),some (.sh (aG s)),some (.sh (bq 0)),none,none]):=by
  rw [<- jB]
  rfl
 have e:cE 5 2 (ij oB vy) [aG r,aG s]=(((cG (c9 (aa (ae 0) (aa (ae 1) ah))) (bp (ar (ak 3) (ar (ak 4) bo))) yO [some (.sh (aG r)),some (.sh (aG s)),some (.sh (bq 0)),none,none]).bind fun r=>match r with | .nx τ'=>a8 (ae 2) τ' | r=>some r).bind fun r=>match r with | .rt t=>some t | .nx _=>some .non | _=>none):=rfl
 rw [e]
 unfold cG
 rw [hi,Option.bind_some]
 dsimp only
 rw [hl]
 rfl
theorem IE {g:List T -> Option T} {f:FA} {ρ:aP} {t:T} (ts:List T) (h1:f ρ=some (ts,ρ)) (h2:g ts=some t):mU (ai g f) ρ=some (.val t,ρ):=by
 unfold mU ai
 rw [h1,Option.bind_some]
 dsimp only
 rw [h2]
 rfl
theorem ph {n:Nat} (h:n ≤ 8):([]:List O).length + n ≤ sizeLine:=by rw [List.length_nil,Nat.zero_add]; exact du (by omega)
theorem cU {n:Nat} (h:n ≤ 8):([]:List T).length + n ≤ sizeLine:=by rw [List.length_nil,Nat.zero_add]; exact du (by omega)
theorem iU {α β:Type} (r:List α) (s:List β) (h:r.length ≤ 8):(List.zip r s).length ≤ 8:=by rw [List.length_zip]; omega
theorem dU {α β:Type} {r:List α} {s:List β} {p:α × β} (h:p ∈ List.zip r s):p.1 ∈ r /\ p.2 ∈ s:=⟨(List.of_mem_zip h).1,(List.of_mem_zip h).2⟩
def Ht (r s:List Rat):List Rat:=(List.zip r s).map fun p=>p.1 + p.2
def mulR (b:Rat) (r:List Rat):List Rat:=r.map (b * ·)
structure Tb (k m:Nat) (A:List (List Rat)):Prop where
 len:A.length ≤ 8
 row:∀ r ∈ A,Gd k m r
def Hu (A B:List (List Rat)):List (List Rat):=(List.zip A B).map fun p=>Ht p.1 p.2
theorem CJ {g:List T -> Option O} {f:FA} {ρ:aP} {t:O} (ts:List T) (h1:f ρ=some (ts,ρ)) (h2:g ts=some t):j4 g f ρ=some (t,ρ):=by
 unfold j4
 rw [h1,Option.bind_some]
 dsimp only
 rw [h2]
 rfl
theorem aM {g:List T -> Option T} {f:FA} {ρ:aP} {t:T} (ts:List T) (h1:f ρ=some (ts,ρ)) (h2:g ts=some t):ai g f ρ=some (t,ρ):=by
 unfold ai
 rw [h1,Option.bind_some]
 dsimp only
 rw [h2]
 rfl
open PySem PySem.Spec PyProof.Rows L2 TM Qm Rq
def aw (r:List Rat):Nat:=r.foldl (fun l x=>Nat.lcm l x.den) 1
theorem x9 {k:Nat}:∀ (r:List Rat) (l:Nat),l ∣ DD k -> (∀ x ∈ r,x.den ∣ DD k) -> r.foldl (fun l x=>Nat.lcm l x.den) l ∣ DD k
 | [],l,h,_=>h
 | x :: r,l,h,hx=>x9 r _ (Nat.lcm_dvd h (hx x List.mem_cons_self)) fun z hz=>hx z (List.mem_cons_of_mem _ hz)
theorem uN:∀ (r:List Rat) (l:Nat),l ∣ r.foldl (fun l x=>Nat.lcm l x.den) l
 | [],l=>Nat.dvd_refl l
 | x :: r,l=>Nat.dvd_trans (Nat.dvd_lcm_left _ _) (uN r _)
theorem rH:∀ (r:List Rat) (l:Nat) (x:Rat),x ∈ r -> x.den ∣ r.foldl (fun l x=>Nat.lcm l x.den) l
 | y :: r,l,x,h=>by
  rcases List.mem_cons.mp h with rfl | h
  ·exact Nat.dvd_trans (Nat.dvd_lcm_right _ _) (uN r _)
  ·exact rH r _ x h
theorem J3 {k:Nat} (h:k ≤ 12):DD k < B:=by
 have hd:DD k ≤ DD 12:=Nat.pow_le_pow_right (by decide) h
 have:DD 12 < B:=by decide +kernel
 omega
theorem Bp {l b:Nat} (hl:0 < l) (hb:0 < b):((l:Int).fdiv (Int.gcd (l:Int) (b:Int):Nat)) * (b:Int)=(Nat.lcm l b:Nat):=by
 have hg:Int.gcd (l:Int) (b:Int)=Nat.gcd l b:=rfl
 rw [hg,Int.fdiv_eq_ediv_of_nonneg _ (by omega)]
 have:(l:Int) / (Nat.gcd l b:Nat)=((l / Nat.gcd l b:Nat):Int):=by rw [Int.natCast_ediv]
 rw [this,<- Int.natCast_mul]
 congr 1
 unfold Nat.lcm
 rw [Nat.div_mul_right_comm (Nat.gcd_dvd_left l b)]
def oZ:FS:=aN 1 (aD bg (aD cQ (ae 1) (ai d8 (aa (ae 1) (aa (ae 3) ah)))) (ae 3))
theorem yl {D:Nat} (hB:D < B) (hp:0 < D) (x0:Option Sl):∀ (r:List Rat) (l:Nat) (u v:Option Sl),l ∣ D -> (∀ x ∈ r,x.den ∣ D) -> ∃ u' v',bP (bp (ar (ak 2) (ar (ak 3) bo))) oZ (r.map bq) [x0,some (.sh (.int l)),u,v]
  = some (.nx [x0,some (.sh (.int (r.foldl (fun l x=>Nat.lcm l x.den) l:Nat))),u',v'])
 | [],l,u,v,_,_=>⟨u,v,by simp [bP]⟩
 | x :: r,l,u,v,h1,h2=>by
  have hl0:0 < l:=Nat.pos_of_dvd_of_pos h1 hp
  have hl:l ≤ D:=Nat.le_of_dvd hp h1
  have hd:=h2 x List.mem_cons_self
  have hd0:0 < x.den:=Nat.pos_of_ne_zero x.den_nz
  have hdl:x.den ≤ D:=Nat.le_of_dvd hp hd
  obtain ⟨u',v',ih⟩:=yl hB hp x0 r (Nat.lcm l x.den) (some (.sh (.int x.num))) (some (.sh (.int x.den))) (Nat.lcm_dvd h1 hd) fun z hz=>h2 z (List.mem_cons_of_mem _ hz)
  refine ⟨u',v',?_⟩
  have k1:=eu (a:=(l:Int)) (b:=(x.den:Int)) (by omega) (by omega)
  have e1:=Bp hl0 hd0
  have hg:Int.gcd (l:Int) (x.den:Int) ≤ l:=by
   show Nat.gcd l x.den ≤ l
   exact Nat.le_of_dvd hl0 (Nat.gcd_dvd_left _ _)
  have hg0:0 < Int.gcd (l:Int) (x.den:Int):=by
   show 0 < Nat.gcd l x.den
   exact Nat.gcd_pos_of_pos_left _ hl0
  have n1:¬ ((Int.gcd (l:Int) (x.den:Int):Nat):Int)=0:=by omega
  have n2:((Int.gcd (l:Int) (x.den:Int):Nat):Int).natAbs < B:=by omega
  have n3:((l:Int).fdiv ((Int.gcd (l:Int) (x.den:Int):Nat):Int)).natAbs < B:=by
   rw [Int.fdiv_eq_ediv_of_nonneg _ (by omega)]
   have:=Int.ediv_le_self ((Int.gcd (l:Int) (x.den:Int):Nat):Int) (show (0:Int) ≤ (l:Int) by omega)
   have:=Int.ediv_nonneg (show (0:Int) ≤ (l:Int) by omega) (show (0:Int) ≤ ((Int.gcd (l:Int) (x.den:Int):Nat):Int) by omega)
   omega
  have n4:(x.den:Int).natAbs < B:=by omega
  have hb:oZ [x0,some (.sh (.int l)),some (.sh (.int x.num)),some (.sh (.int x.den))]=some (.nx [x0,some (.sh (.int (Nat.lcm l x.den:Nat))),some (.sh (.int x.num)),some (.sh (.int x.den))]):=by
   rw [<- e1]
   clear ih h1 h2 hB hp hl0 hl hd hd0 hdl e1 hg hg0
   unfold oZ
   walk_at "ev"
  rw [List.map_cons,bQ (τ1:=[x0,some (.sh (.int l)),some (.sh (.int x.num)),some (.sh (.int x.den))]) rfl hb,ih]
  rfl
structure Gn (D N:Nat) (r:List Rat):Prop where
 len:r.length ≤ 8
 den:∀ x ∈ r,x.den ∣ D
 num:∀ x ∈ r,x.num.natAbs ≤ N
 dp:0 < D
 db:D < B
 nb:N < B
theorem EN:2 ^ 40 * DD 6 < B:=by decide +kernel
theorem Gn.of {k m:Nat} {r:List Rat} (h:Gd k m r) (f:my k m):Gn (DD k) (m * DD k) r:=by
 have hd:DD k ≤ DD 6:=Nat.pow_le_pow_right (by decide) f.1
 exact ⟨h.len,fun x hx=>(h.lq x hx).bd.2,fun x hx=>(h.lq x hx).bd.1,gW k,J3 (by have:=f.1; omega),Nat.lt_of_le_of_lt (Nat.mul_le_mul f.2 hd) EN⟩
def Kb (ts:List T) (t:T):Prop:=∃ r D N,ts=[aG r] /\ Gn D N r /\ t=.int (aw r:Nat)
def zB:List T -> Option T:=mk Kb
theorem u5 {r r':List Rat} (e:([aG r]:List T)=[aG r']):r=r':=by
 injection e with e _
 exact iq e
theorem BA {r:List Rat} {D N:Nat} (h1:Gn D N r):zB [aG r]=some (.int (aw r:Nat)):=
 mk_eq ⟨r,D,N,rfl,h1,rfl⟩ fun t' ⟨r',_,_,e,_,e2⟩=>by rw [e2,u5 e]
theorem FH {r:List Rat} {k m:Nat} (h1:Gd k m r) (f:my k m):zB [aG r]=some (.int (aw r:Nat)):=BA (Gn.of h1 f)
theorem mw (ts:List T) (t:T) (h:zB ts=some t):cE 4 1 (dr d8) ts=some t:=by
 obtain ⟨r,D,N,rfl,h1,rfl⟩:=j9 h
 clear h
 obtain ⟨u,v,hl⟩:=yl h1.db h1.dp (some (.sh (aG r))) r 1 none none (Nat.one_dvd _) h1.den
 have e:cE 4 1 (dr d8) [aG r]=(((bP (bp (ar (ak 2) (ar (ak 3) bo))) oZ (r.map bq) [some (.sh (aG r)),some (.sh (.int 1)),none,none]).bind fun r=>match r with | .nx τ'=>a8 (ae 1) τ' | r=>some r).bind fun r=>match r with | .rt t=>some t | .nx _=>some .non | _=>none):=rfl
 have hl':bP (bp (ar (ak 2) (ar (ak 3) bo))) oZ (r.map bq) [some (.sh (aG r)),some (.sh (.int 1)),none,none]=_:=hl
 rw [e,hl']
 rfl
def bC (L:Nat) (x:Rat):Int:=x.num * ((L:Int).fdiv x.den)
theorem Cb {L:Nat} {x:Rat} (hL:0 < L) (h:x.den ∣ L):Rat.divInt (bC L x) L=x:=by
 obtain ⟨c,hc⟩:=h
 have hc0:(c:Int) ≠ 0:=fun z=>by
  have:c=0:=by omega
  rw [this,Nat.mul_zero] at hc
  omega
 have hd:=den_pos x
 have e:(L:Int).fdiv x.den=c:=by
  rw [hc,Int.natCast_mul]
  exact Int.mul_fdiv_cancel_left _ (by omega)
 unfold bC
 rw [e,hc,Int.natCast_mul,Rat.divInt_mul_right hc0]
 exact gF x
theorem GX {k m:Nat} {x:Rat} {L:Nat} (hx:Lq k m x) (hL:L ∣ DD k):(bC L x).natAbs ≤ m * DD k * DD k:=by
 have hp:=gW k
 have hl:L ≤ DD k:=Nat.le_of_dvd hp hL
 have hd:=den_pos x
 unfold bC
 rw [Int.natAbs_mul,Int.fdiv_eq_ediv_of_nonneg _ (by omega)]
 refine Nat.mul_le_mul hx.bd.1 ?_
 have:=Int.ediv_le_self (x.den:Int) (show (0:Int) ≤ (L:Int) by omega)
 have:=Int.ediv_nonneg (show (0:Int) ≤ (L:Int) by omega) (show (0:Int) ≤ (x.den:Int) by omega)
 omega
theorem yK {k m:Nat} {x:Rat} {L:Nat} (hx:Lq k m x) (f:my k m) (hL:L ∣ DD k):(bC L x).natAbs < 2 ^ 40 * DD 6 * DD 6 + 1:=by
 have h:=GX hx hL
 have hd:DD k ≤ DD 6:=Nat.pow_le_pow_right (by decide) f.1
 have:m * DD k * DD k ≤ 2 ^ 40 * DD 6 * DD 6:=Nat.mul_le_mul (Nat.mul_le_mul f.2 hd) hd
 omega
def Ka (ts:List T) (t:T):Prop:=∃ r D N,ts=[aG r,.int (aw r:Nat)] /\ Gn D N r /\ t=.lst (r.map fun x=>T.int (bC (aw r) x))
def zA:List T -> Option T:=mk Ka
theorem Bz {r:List Rat} {D N:Nat} (h1:Gn D N r):zA [aG r,.int (aw r:Nat)]=some (.lst (r.map fun x=>T.int (bC (aw r) x))):=
 mk_eq ⟨r,D,N,rfl,h1,rfl⟩ fun t' hq__=>by
  obtain ⟨r',_,_,e,_,e2⟩:=hq__
  injection e with e3 e4
  rw [e2,iq e3]
theorem FF {r:List Rat} {k m:Nat} (h1:Gd k m r) (f:my k m):zA [aG r,.int (aw r:Nat)]=some (.lst (r.map fun x=>T.int (bC (aw r) x))):=Bz (Gn.of h1 f)
theorem uM {D:Nat}:∀ (r:List Rat) (l:Nat),l ∣ D -> (∀ x ∈ r,x.den ∣ D) -> r.foldl (fun l x=>Nat.lcm l x.den) l ∣ D
 | [],l,h,_=>h
 | x :: r,l,h,hx=>uM r _ (Nat.lcm_dvd h (hx x List.mem_cons_self)) fun z hz=>hx z (List.mem_cons_of_mem _ hz)
theorem je {r:List Rat} {D N:Nat} (h1:Gn D N r):aw r ∣ D /\ 0 < aw r /\ ∀ x ∈ r,x.den ∣ aw r:=by
 have h:aw r ∣ D:=uM r 1 (Nat.one_dvd _) h1.den
 exact ⟨h,Nat.pos_of_dvd_of_pos h h1.dp,fun x hx=>rH r 1 x hx⟩
theorem EE {D N:Nat} {x:Rat} {L:Nat} (hx:x.num.natAbs ≤ N) (hp:0 < D) (hL:L ∣ D):(bC L x).natAbs ≤ N * D:=by
 have hl:L ≤ D:=Nat.le_of_dvd hp hL
 have hd:=den_pos x
 unfold bC
 rw [Int.natAbs_mul,Int.fdiv_eq_ediv_of_nonneg _ (by omega)]
 refine Nat.mul_le_mul hx ?_
 have:=Int.ediv_le_self (x.den:Int) (show (0:Int) ≤ (L:Int) by omega)
 have:=Int.ediv_nonneg (show (0:Int) ≤ (L:Int) by omega) (show (0:Int) ≤ (x.den:Int) by omega)
 omega
theorem lT {r:List Rat} {k m:Nat} (h1:Gd k m r):aw r ∣ DD k /\ 0 < aw r /\ ∀ x ∈ r,x.den ∣ aw r:=by
 have h:aw r ∣ DD k:=x9 r 1 (Nat.one_dvd _) fun x hx=>(h1.lq x hx).bd.2
 exact ⟨h,Nat.pos_of_dvd_of_pos h (gW k),fun x hx=>rH r 1 x hx⟩
theorem zU (ts:List T) (t:T) (h:zA ts=some t):cE 2 2 kz ts=some t:=by
 obtain ⟨r,D,N,rfl,h1,rfl⟩:=j9 h
 clear h
 obtain ⟨q1,q2,q3⟩:=je h1
 have hB:=h1.db
 have hN:=h1.nb
 have hLk:aw r ≤ D:=Nat.le_of_dvd h1.dp q1
 have hc:=fL (φ:=fun x:Rat=>T.int x.num) (ψ:=fun x=>T.int x.den) (fe:=aD bg (ae 0) (aD cQ (ae 2) (ae 1))) (g:=fun x=>T.int (bC (aw r) x)) (ρ:=[some (.sh (.int (aw r:Nat)))]) rfl r none none [] (fun x hx=>by
  have hd:=den_pos x
  have hxd:x.den ≤ aw r:=Nat.le_of_dvd q2 (q3 x hx)
  have n1:¬ ((x.den:Int)=0):=by omega
  have n2:(x.den:Int).natAbs < B:=by omega
  have n3:x.num.natAbs < B:=by have:=h1.num x hx; omega
  have n4:((aw r:Nat):Int).fdiv (x.den:Int)=((aw r:Nat):Int) / (x.den:Int):=Int.fdiv_eq_ediv_of_nonneg _ (by omega)
  have n5:(((aw r:Nat):Int).fdiv (x.den:Int)).natAbs < B:=by
   rw [n4]
   have:=Int.ediv_le_self (x.den:Int) (show (0:Int) ≤ ((aw r:Nat):Int) by omega)
   have:=Int.ediv_nonneg (show (0:Int) ≤ ((aw r:Nat):Int) by omega) (show (0:Int) ≤ (x.den:Int) by omega)
   omega
  have e:bC (aw r) x=x.num * ((aw r:Nat):Int).fdiv (x.den:Int):=rfl
  rw [e]
  clear e n4 hd hxd q1 q2 q3 hB hN hLk h1 hx
  walk_at "ev") (cU h1.len)
 have e:=cF (no:=2) (cap:=[1]) (fi:=aW (ae 0)) (fg:=fm) (ft:=ay) (τ:=[some (.sh (aG r)),some (.sh (.int (aw r:Nat)))]) (h1:=rfl) rfl rfl hc
 show (((bX 2 [1] _ fm ay _ [some (.sh (aG r)),some (.sh (.int (aw r:Nat)))]).bind fun p=>some (R.rt p.1)).bind _)=_
 rw [e]
 rfl
open PySem PySem.Spec PyProof.Rows L2 TM Qm Rq
def bitsQ (r:List Rat):List Int:=r.map fun x=>(Builtin.Int.intBits (x.den:Int):Int)
def longest (r:List Rat):Int:=if bitsQ r=[] then 1 else bestOf (bitsQ r)
def liftT (r:List Rat):T:=.tup [aG r,.lst (r.map fun x=>T.int (bC (aw r) x)),.int (aw r:Nat),.int (longest r)]
theorem qD {r s:List Rat} (h:liftT r=liftT s):r=s:=by
 unfold liftT at h
 injection h with h
 injection h with h _
 exact iq h
theorem oz {r:List Rat} {k m:Nat} (h:Gd k m r) (f:my k m):0 ≤ longest r /\ longest r ≤ 4000:=by
 have hb:∀ n ∈ bitsQ r,0 ≤ n /\ n ≤ 4000:=fun n hn=>by
  obtain ⟨x,hx,rfl⟩:=List.mem_map.mp hn
  have h1:(x.den:Int).natAbs < B:=by have:=(h.sm f hx).d; have:=CB; omega
  have:=vG h1
  omega
 unfold longest
 split
 ·omega
 ·unfold bestOf
  rw [List.getD_eq_getElem?_getD]
  cases e:(bitsQ r)[argBest (fun i j=>decide ((bitsQ r).getD i 0 > (bitsQ r).getD j 0)) ((bitsQ r).length - 1)]? with
  | none=>show (0:Int) ≤ 0 /\ (0:Int) ≤ 4000; omega
  | some n=>exact hb n (List.mem_of_getElem? e)
def J8 (ts:List T) (t:T):Prop:=∃ r k m,ts=[aG r] /\ Gd k m r /\ my k m /\ t=liftT r
def Cp:List T -> Option T:=mk J8
theorem Bx {r:List Rat} {k m:Nat} (h1:Gd k m r) (f:my k m):Cp [aG r]=some (liftT r):=
 mk_eq ⟨r,k,m,rfl,h1,f,rfl⟩ fun t' ⟨r',_,_,e,_,_,e2⟩=>by rw [e2,u5 e]
theorem zT (ts:List T) (t:T) (h:Cp ts=some t):cE 2 1 (i6 zB zA) ts=some t:=by
 obtain ⟨r,k,m,rfl,h1,f,rfl⟩:=j9 h
 clear h
 have k1:=FH h1 f
 have k2:=FF h1 f
 have hc:=fL (φ:=fun x:Rat=>T.int x.num) (ψ:=fun x=>T.int x.den) (fe:=mT gS (ae 1)) (g:=fun x=>T.int (Builtin.Int.intBits (x.den:Int):Int)) (ρ:=[]) rfl r none none [] (fun x hx=>rfl) (cU h1.len)
 have e:=cF (no:=2) (cap:=[]) (fi:=aW (ae 0)) (fg:=fm) (ft:=ay) (τ:=[some (.sh (aG r)),some (.sh (.int (aw r:Nat)))]) (h1:=rfl) rfl rfl hc
 rw [List.nil_append] at e
 have e2:(r.map fun x:Rat=>T.int (Builtin.Int.intBits (x.den:Int):Int))=(bitsQ r).map T.int:=by unfold bitsQ; rw [List.map_map]; rfl
 rw [e2] at e
 have e3:xM (.lst ((bitsQ r).map T.int)) (.int 1)=some (.int (longest r)):=by
  show ((intsOf ((bitsQ r).map T.int)).bind fun ns=>some (T.int (if ns=[] then 1 else bestOf ns)))=_
  rw [gC]
  rfl
 have l4:=JY
 clear h1 f hc e2
 unfold cE i6 liftT
 walk_at "ev"
theorem D9 {r s:List Rat} (f g:Rat -> Int):(List.zip r s).map (fun p=>f p.1 * g p.2)=List.zipWith (· * ·) (r.map f) (s.map g):=by
 rw [List.zipWith_map]
 induction r generalizing s with
 | nil=>simp
 | cons x r ih =>
  cases s with
  | nil=>simp
  | cons y s=>simp [ih]
theorem B8 {M:Nat}:∀ l:List Int,(∀ n ∈ l,n.natAbs ≤ M) -> l.sum.natAbs ≤ l.length * M
 | [],_=>by simp
 | n :: l,h=>by
  rw [List.sum_cons,List.length_cons,Nat.add_mul,Nat.one_mul]
  have h1:=h n List.mem_cons_self
  have h2:=B8 l fun z hz=>h z (List.mem_cons_of_mem _ hz)
  have:=Int.natAbs_add_le n l.sum
  omega
def Kd (ts:List T) (t:T):Prop:=∃ r s k m k' m',ts=[liftT r,liftT s] /\ Gd k m r /\ Gd k' m' s /\ my k m /\ my k' m' /\ t=bq (wsum r s)
def Dm:List T -> Option T:=mk Kd
theorem FJ {r s:List Rat} {k m k' m':Nat} (h1:Gd k m r) (h2:Gd k' m' s) (f:my k m) (f':my k' m'):Dm [liftT r,liftT s]=some (bq (wsum r s)):=
 mk_eq ⟨r,s,k,m,k',m',rfl,h1,h2,f,f',rfl⟩ fun t' hq__=>by
  obtain ⟨r',s',_,_,_,_,e,_,_,_,_,e2⟩:=hq__
  injection e with e3 e4
  injection e4 with e4 _
  rw [e2,qD e3,qD e4]
theorem qO {r:List Rat} {k m:Nat} (h:Gd k m r):(r.map (bC (aw r))).map (fun n=>Rat.divInt n (aw r:Nat))=r:=by
 obtain ⟨q1,q2,q3⟩:=lT h
 rw [List.map_map]
 have:r.map ((fun n=>Rat.divInt n (aw r:Nat)) ∘ bC (aw r))=r.map id:=List.map_congr_left fun x hx=>Cb q2 (q3 x hx)
 rw [this,List.map_id]
theorem J1:8 * ((2 ^ 40 * DD 6 * DD 6) * (2 ^ 40 * DD 6 * DD 6)) < B:=by decide +kernel
theorem IY:DD 6 * DD 6 < B:=by decide +kernel
theorem J2:2 ^ 40 * DD 6 * DD 6 + 1 < B:=by decide +kernel
theorem ll (ts:List T) (t:T) (h:Dm ts=some t):cE 10 2 (dg Dk dG) ts=some t:=by
 obtain ⟨r,s,k,m,k',m',rfl,h1,h2,f,f',rfl⟩:=j9 h
 clear h
 obtain ⟨q1,q2,q3⟩:=lT h1
 obtain ⟨p1,p2,p3⟩:=lT h2
 have kW:=Dl h1 h2 f f'
 have bl:=oz h1 f
 have bl':=oz h2 f'
 have hL:aw r ≤ DD 6:=Nat.le_trans (Nat.le_of_dvd (gW k) q1) (Nat.pow_le_pow_right (by decide) f.1)
 have hL':aw s ≤ DD 6:=Nat.le_trans (Nat.le_of_dvd (gW k') p1) (Nat.pow_le_pow_right (by decide) f'.1)
 have hc:=fL (φ:=fun p:Rat × Rat=>T.int (bC (aw r) p.1)) (ψ:=fun p=>T.int (bC (aw s) p.2)) (fe:=aD bg (ae 0) (ae 1)) (g:=fun p=>T.int (bC (aw r) p.1 * bC (aw s) p.2)) (ρ:=[]) rfl (List.zip r s) none none [] (fun p hp=>by
  have t1:=yK (h1.lq _ (dU hp).1) f q1
  have t2:=yK (h2.lq _ (dU hp).2) f' p1
  have b3:=J2
  have n1:(bC (aw r) p.1).natAbs < B:=by omega
  have n2:(bC (aw s) p.2).natAbs < B:=by omega
  clear t1 t2 b3 hL hL' bl bl' kW q1 q2 q3 p1 p2 p3 h1 h2 hp
  walk_at "ev") (cU (iU r s h1.len))
 rw [List.nil_append] at hc
 have hsum:(List.zip r s).map (fun p=>bC (aw r) p.1 * bC (aw s) p.2)=List.zipWith (· * ·) (r.map (bC (aw r))) (s.map (bC (aw s))):=D9 _ _
 have hlst:((List.zip r s).map fun p:Rat × Rat=>T.int (bC (aw r) p.1 * bC (aw s) p.2))=(List.zipWith (· * ·) (r.map (bC (aw r))) (s.map (bC (aw s)))).map T.int:=by rw [<- hsum,List.map_map]; rfl
 rw [hlst] at hc
 have hbs:(List.zipWith (· * ·) (r.map (bC (aw r))) (s.map (bC (aw s)))).sum.natAbs < B:=by
  have hM:∀ n ∈ List.zipWith (· * ·) (r.map (bC (aw r))) (s.map (bC (aw s))),n.natAbs ≤ (2 ^ 40 * DD 6 * DD 6) * (2 ^ 40 * DD 6 * DD 6):=fun n hn=>by
   rw [<- hsum] at hn
   obtain ⟨p,hp,rfl⟩:=List.mem_map.mp hn
   rw [Int.natAbs_mul]
   exact Nat.mul_le_mul (Nat.le_of_lt_succ (yK (h1.lq _ (dU hp).1) f q1)) (Nat.le_of_lt_succ (yK (h2.lq _ (dU hp).2) f' p1))
  have h3:=B8 _ hM
  have h4:(List.zipWith (· * ·) (r.map (bC (aw r))) (s.map (bC (aw s)))).length ≤ 8:=by
   rw [List.length_zipWith,List.length_map]
   have:=h1.len
   omega
  have h5:=Nat.mul_le_mul_right ((2 ^ 40 * DD 6 * DD 6) * (2 ^ 40 * DD 6 * DD 6)) h4
  exact Nat.lt_of_le_of_lt (Nat.le_trans h3 h5) J1
 have hbl:(((aw r:Nat):Int) * ((aw s:Nat):Int)).natAbs < B:=by
  rw [Int.natAbs_mul,Int.natAbs_natCast,Int.natAbs_natCast]
  exact Nat.lt_of_le_of_lt (Nat.mul_le_mul hL hL') IY
 have hpos:(0:Int) < ((aw r:Nat):Int) * ((aw s:Nat):Int):=Int.mul_pos (by omega) (by omega)
 have kF:=gD hbs hbl (Int.ne_of_gt hpos)
 rw [gR hpos,<- qT (by omega) (by omega),qO h1,qO h2] at kF
 have hi:c9 (aa (ae 3) (aa (ae 7) ah)) [some (.sh (liftT r)),some (.sh (liftT s)),some (.sh (aG r)),some (.sh (.lst (r.map fun x=>T.int (bC (aw r) x)))),some (.sh (.int (aw r:Nat))),some (.sh (.int (longest r))),some (.sh (aG s)),some (.sh (.lst (s.map fun x=>T.int (bC (aw s) x)))),some (.sh (.int (aw s:Nat))),some (.sh (.int (longest s)))]
   = some ((List.zip r s).map fun p=>T.tup [T.int (bC (aw r) p.1),T.int (bC (aw s) p.2)],[some (.sh (liftT r)),some (.sh (liftT s)),some (.sh (aG r)),some (.sh (.lst (r.map fun x=>T.int (bC (aw r) x)))),some (.sh (.int (aw r:Nat))),some (.sh (.int (longest r))),some (.sh (aG s)),some (.sh (.lst (s.map fun x=>T.int (bC (aw s) x)))),some (.sh (.int (aw s:Nat))),some (.sh (.int (longest s)))]):=by
  have z:=jB (fun x:Rat=>T.int (bC (aw r) x)) (fun x:Rat=>T.int (bC (aw s) x)) r s
  rw [<- z]
  rfl
 have e:=cF (no:=2) (cap:=[]) (fg:=fm) (ft:=ay) hi rfl rfl hc
 have eS:vM [.lst ((List.zipWith (· * ·) (r.map (bC (aw r))) (s.map (bC (aw s)))).map T.int)]=some (.int (List.zipWith (· * ·) (r.map (bC (aw r))) (s.map (bC (aw s)))).sum):=by
  show ((intsOf _).bind fun ns=>some (T.int ns.sum))=_
  rw [gC]
  rfl
 have b4:(4:Int).natAbs < B:=by decide +kernel
 have bL:(longest r + longest s).natAbs < B:=by
  have:(8000:Nat) < B:=by decide +kernel
  omega
 have c1:((aw r:Nat):Int).natAbs < B:=by have:=IY; have hd:=gW 6; have:=Nat.le_mul_of_pos_left (DD 6) hd; omega
 have c2:((aw s:Nat):Int).natAbs < B:=by have:=IY; have hd:=gW 6; have:=Nat.le_mul_of_pos_left (DD 6) hd; omega
 have hgt:∃ b,vW (.int ((Builtin.Int.intBits ((aw r:Nat):Int):Int) + (Builtin.Int.intBits ((aw s:Nat):Int):Int))) (.int (4 * (longest r + longest s) + 128))=some (.bl b):=⟨_,rfl⟩
 obtain ⟨b,hgt⟩:=hgt
 have hl1:liftT r=.tup [aG r,.lst (r.map fun x=>T.int (bC (aw r) x)),.int (aw r:Nat),.int (longest r)]:=rfl
 have hl2:liftT s=.tup [aG s,.lst (s.map fun x=>T.int (bC (aw s) x)),.int (aw s:Nat),.int (longest s)]:=rfl
 have e':bX 2 [] (c9 (aa (ae 3) (aa (ae 7) ah))) (bp (ar (ak 0) (ar (ak 1) bo))) ay (aD bg (ae 0) (ae 1)) _=_:=e
 rw [hl1,hl2] at e' ⊢
 clear e hl1 hl2
 generalize wsum r s=W at *
 generalize (List.zipWith (· * ·) (r.map (bC (aw r))) (s.map (bC (aw s))))=zw at *
 clear hc hlst hsum hi hbs hbl hpos bl bl' hL hL' q1 q2 q3 p1 p2 p3 h1 h2
 unfold cE dg
 cases b with
 | true=>walk_at "ev"
 | false=>walk_at "ev"
open PySem PySem.Spec PyProof.Rows L2 TM Qm Rq
theorem vT {no:Nat} {cap:List Nat} {fi:FA} {fg:FG} {ft:FT} {fe:mP} {τ τ1:aP} {ts:List T} {us:List O} (h1:fi τ=some (ts,τ1)) (h2:frzAll cap τ1=τ1) (h3:cz (cq no cap τ1)=true) (h4:gY fg ft fe ts (cq no cap τ1) []=some us):eO no cap fi fg ft fe τ=some (.lst us,τ1):=by
 unfold eO
 rw [h1,Option.bind_some]
 dsimp only
 rw [h2,if_pos h3,h4]
 rfl
theorem Bj {r:List Rat} {j:Nat} (h:j < r.length):cR (aG r) (.int (j:Nat))=some (bq (r.getD j 0)):=by
 have e:(r.map bq)[j]? = some (bq (r.getD j 0)):=by
  rw [List.getElem?_map,List.getD_eq_getElem?_getD,List.getElem?_eq_getElem h]
  rfl
 exact rh e
def Wd (w:Nat) (A:List (List Rat)):Prop:=∀ r ∈ A,r.length=w
def bJ (A:List (List Rat)) (w:Nat):List (List Rat):=(List.range w).map fun j=>fK A j
theorem nc {k m:Nat} {A:List (List Rat)} (h:Tb k m A) (j:Nat):Gd k m (fK A j):=by
 refine ⟨by unfold fK; rw [List.length_map]; exact h.len,fun x hx=>?_⟩
 obtain ⟨r,hr,rfl⟩:=List.mem_map.mp hx
 rw [List.getD_eq_getElem?_getD]
 cases e:r[j]? with
 | none=>exact (Lq.zero k).mono (Nat.zero_le _)
 | some y=>exact (h.row r hr).lq y (List.mem_of_getElem? e)
def Kc (ts:List T) (o:O):Prop:=∃ A,∃ w:Nat,ts=[au A,.int (w:Nat)] /\ A.length ≤ 8 /\ Wd w A /\ w ≤ 8 /\ o=mZ (bJ A w)
def Et:List T -> Option O:=mk Kc
theorem xQ {a b:Nat} (h:T.int (a:Nat)=T.int (b:Nat)):a=b:=by
 injection h with h
 omega
theorem Eu {A:List (List Rat)} {w:Nat} (h1:A.length ≤ 8) (h2:Wd w A) (h3:w ≤ 8):Et [au A,.int (w:Nat)]=some (mZ (bJ A w)):=
 mk_eq ⟨A,w,rfl,h1,h2,h3,rfl⟩ fun t' hq__=>by
  obtain ⟨A',w',e,_,_,_,e2⟩:=hq__
  injection e with e3 e4
  injection e4 with e4 _
  rw [e2,pC e3,xQ e4]
theorem FI {A:List (List Rat)} {k m w:Nat} (h1:Tb k m A) (h2:Wd w A) (h3:w ≤ 8):Et [au A,.int (w:Nat)]=some (mZ (bJ A w)):=Eu h1.len h2 h3
theorem zV (ts:List T) (o:O) (h:Et ts=some o):pL 2 2 gA ts=some o:=by
 obtain ⟨A,w,rfl,h1,h2,h3,rfl⟩:=j9 h
 clear h
 have inner:∀ j:Nat,j < w -> eO 1 [0] (aW (ae 1)) (ak 0) ay (mU (aD cR (ae 0) (ae 1))) [some (.sh (.int (j:Nat))),some (.sh (au A))]=some (jj (fK A j),[some (.sh (.int (j:Nat))),some (.sh (au A))]):=fun j hj=>by
  have hc:=ff (φ:=aG) (fe:=mU (aD cR (ae 0) (ae 1))) (g:=fun r=>O.val (bq (r.getD j 0))) (ρ:=[some (.sh (.int (j:Nat)))]) rfl A none [] (fun r hr=>by
   have e:=Bj (r:=r) (j:=j) (by rw [h2 r hr]; exact hj)
   show (((cR (aG r) (.int (j:Nat))).bind fun t=>some (t,[some (Sl.sh (aG r)),some (Sl.sh (T.int (j:Nat)))])).bind fun p=>some (O.val p.1,p.2))=_
   rw [e]
   rfl) (ph h1)
  have e:=jF (no:=1) (cap:=[0]) (fi:=aW (ae 1)) (fg:=ak 0) (ft:=ay) (τ:=[some (.sh (.int (j:Nat))),some (.sh (au A))]) rfl rfl rfl hc
  rw [e]
  show some (O.lst (A.map fun r=>O.val (bq (r.getD j 0))),_)=some (O.lst (((fK A j).map bq).map O.val),_)
  unfold fK
  rw [List.map_map,List.map_map]
  rfl
 have hc:=ff (φ:=fun j:Nat=>T.int (j:Nat)) (fe:=eO 1 [0] (aW (ae 1)) (ak 0) ay (mU (aD cR (ae 0) (ae 1)))) (g:=fun j=>jj (fK A j)) (ρ:=[some (.sh (au A))]) rfl (List.range w) none [] (fun j hj=>inner j (List.mem_range.mp hj)) (ph (by rw [List.length_range]; exact h3))
 have e:=jF (no:=1) (cap:=[0]) (fi:=bS (aa (ae 1) ah)) (fg:=ak 0) (ft:=ay) (τ:=[some (.sh (au A)),some (.sh (.int (w:Nat)))]) (jH (f:=ae 1) rfl (by omega)) rfl rfl hc
 have e0:pL 2 2 gA [au A,.int (w:Nat)]=gA [some (.sh (au A)),some (.sh (.int (w:Nat)))]:=rfl
 rw [e0]
 unfold gA kN
 rw [e]
 show some (O.lst ((List.range w).map fun j=>jj (fK A j)))=some (O.lst ((bJ A w).map jj))
 unfold bJ
 rw [List.map_map]
 rfl
abbrev iI:List T -> Option T:=fun ts=>(Et ts).bind fun o=>some o.tr
theorem wk {A:List (List Rat)} {w:Nat} (h1:A.length ≤ 8) (h2:Wd w A) (h3:w ≤ 8):iI [au A,.int (w:Nat)]=some (au (bJ A w)):=by
 show (Et _).bind _=_
 rw [Eu h1 h2 h3]
 show some (mZ _).tr=_
 rw [nE]
theorem Di {A:List (List Rat)} {k m w:Nat} (h1:Tb k m A) (h2:Wd w A) (h3:w ≤ 8):iI [au A,.int (w:Nat)]=some (au (bJ A w)):=by
 show (Et _).bind _=_
 rw [FI h1 h2 h3]
 show some (mZ _).tr=_
 rw [nE]
def J9 (ts:List T) (o:O):Prop:=∃ A B k m k' m',∃ w:Nat,ts=[au A,au B,.int (w:Nat)] /\ Tb k m A /\ Tb k' m' B /\ Wd w B /\ w ≤ 8 /\ my k m /\ my k' m' /\ o=mZ (mulM A B w)
def G6:List T -> Option O:=mk J9
theorem FD {A B:List (List Rat)} {k m k' m' w:Nat} (h1:Tb k m A) (h2:Tb k' m' B) (h3:Wd w B) (h4:w ≤ 8) (f:my k m) (f':my k' m'):G6 [au A,au B,.int (w:Nat)]=some (mZ (mulM A B w)):=
 mk_eq ⟨A,B,k,m,k',m',w,rfl,h1,h2,h3,h4,f,f',rfl⟩ fun t' hq__=>by
  obtain ⟨A',B',_,_,_,_,w',e,_,_,_,_,_,_,e2⟩:=hq__
  injection e with e3 e4
  injection e4 with e4 e5
  injection e5 with e5 _
  rw [e2,pC e3,pC e4,xQ e5]
theorem wN (ts:List T) (o:O) (h:G6 ts=some o):pL 5 3 (fc Cp iI Dm) ts=some o:=by
 obtain ⟨A,B,k,m,k',m',w,rfl,h1,h2,h3,h4,f,f',rfl⟩:=j9 h
 clear h
 have cA:=cM (φ:=aG) (fe:=ai Cp (aa (ae 0) ah)) (g:=liftT) (ρ:=[]) rfl A none [] (fun r hr=>aM [aG r] rfl (Bx (h1.row r hr) f)) (cU h1.len)
 have cB:=cM (φ:=aG) (fe:=ai Cp (aa (ae 0) ah)) (g:=liftT) (ρ:=[]) rfl (bJ B w) none [] (fun r hr=>by
  obtain ⟨j,_,rfl⟩:=List.mem_map.mp hr
  exact aM [aG (fK B j)] rfl (Bx (nc h2 j) f')) (cU (by unfold bJ; rw [List.length_map,List.length_range]; exact h4))
 rw [List.nil_append] at cA cB
 have kT:=Di h2 h3 h4
 have eA:d3 3 1 [] (aW (ae 0)) (ak 0) ay (ai Cp (aa (ae 0) ah)) [some (.sh (au A)),some (.sh (au B)),some (.sh (.int (w:Nat))),none,none]
   = some (.nx [some (.sh (au A)),some (.sh (au B)),some (.sh (.int (w:Nat))),some (.own (A.map liftT)),none]):=by
  show (if cz [none]=true then (c8 (ak 0) ay (ai Cp (aa (ae 0) ah)) (A.map aG) [none] []).bind _ else none)=_
  rw [if_pos (show cz [none]=true from rfl),cA]
  rfl
 have eI:aW (ai iI (aa (ae 1) (aa (ae 2) ah))) [some (.sh (au A)),some (.sh (au B)),some (.sh (.int (w:Nat))),some (.own (A.map liftT)),none]=some ((bJ B w).map aG,[some (.sh (au A)),some (.sh (au B)),some (.sh (.int (w:Nat))),some (.own (A.map liftT)),none]):=by
  have q:ai iI (aa (ae 1) (aa (ae 2) ah)) [some (.sh (au A)),some (.sh (au B)),some (.sh (.int (w:Nat))),some (.own (A.map liftT)),none]=some (au (bJ B w),[some (.sh (au A)),some (.sh (au B)),some (.sh (.int (w:Nat))),some (.own (A.map liftT)),none]):=aM [au B,.int (w:Nat)] rfl kT
  unfold aW
  rw [q]
  rfl
 have eB:=cF (no:=1) (cap:=[]) (fg:=ak 0) (ft:=ay) eI rfl rfl cB
 have inner:∀ r ∈ A,eO 1 [0] (aW (ae 1)) (ak 0) ay (mU (ai Dm (aa (ae 1) (aa (ae 0) ah)))) [some (.sh (liftT r)),some (.sh (.lst ((bJ B w).map liftT)))]=some (jj (pY r B w),[some (.sh (liftT r)),some (.sh (.lst ((bJ B w).map liftT)))]):=fun r hr=>by
  have hc:=ff (φ:=fun j:Nat=>liftT (fK B j)) (fe:=mU (ai Dm (aa (ae 1) (aa (ae 0) ah)))) (g:=fun j=>O.val (bq (wsum r (fK B j)))) (ρ:=[some (.sh (liftT r))]) rfl (List.range w) none [] (fun j hj=>IE [liftT r,liftT (fK B j)] rfl (FJ (h1.row r hr) (nc h2 j) f f')) (ph (by rw [List.length_range]; exact h4))
  have hm:(List.range w).map (fun j=>liftT (fK B j))=(bJ B w).map liftT:=by unfold bJ; rw [List.map_map]; rfl
  rw [hm] at hc
  have e:=jF (no:=1) (cap:=[0]) (fi:=aW (ae 1)) (fg:=ak 0) (ft:=ay) (τ:=[some (.sh (liftT r)),some (.sh (.lst ((bJ B w).map liftT)))]) rfl rfl rfl hc
  rw [e]
  show some (O.lst ((List.range w).map fun j=>O.val (bq (wsum r (fK B j)))),_)=some (O.lst (((pY r B w).map bq).map O.val),_)
  unfold pY
  rw [List.map_map,List.map_map]
  rfl
 have hc:=ff (φ:=liftT) (fe:=eO 1 [0] (aW (ae 1)) (ak 0) ay (mU (ai Dm (aa (ae 1) (aa (ae 0) ah))))) (g:=fun r=>jj (pY r B w)) (ρ:=[some (.sh (.lst ((bJ B w).map liftT)))]) rfl A none [] inner (ph h1.len)
 have eC:=vT (no:=1) (cap:=[4]) (fi:=aW (ae 3)) (fg:=ak 0) (ft:=ay) (τ:=[some (.sh (au A)),some (.sh (au B)),some (.sh (.int (w:Nat))),some (.own (A.map liftT)),some (.sh (.lst ((bJ B w).map liftT)))]) (τ1:=[some (.sh (au A)),some (.sh (au B)),some (.sh (.int (w:Nat))),some (.sh (.lst (A.map liftT))),some (.sh (.lst ((bJ B w).map liftT)))]) rfl rfl rfl hc
 have e1:pL 5 3 (fc Cp iI Dm) [au A,au B,.int (w:Nat)]=fc Cp iI Dm [some (.sh (au A)),some (.sh (au B)),some (.sh (.int (w:Nat))),none,none]:=rfl
 rw [e1]
 unfold fc mF
 rw [eA,Option.bind_some]
 dsimp only
 unfold aN
 rw [eB]
 show kN _ [some (.sh (au A)),some (.sh (au B)),some (.sh (.int (w:Nat))),some (.own (A.map liftT)),some (.sh (.lst ((bJ B w).map liftT)))]=_
 unfold kN
 rw [eC]
 show some (O.lst (A.map fun r=>jj (pY r B w)))=some (O.lst ((mulM A B w).map jj))
 unfold mulM
 rw [List.map_map]
 rfl
open PySem PySem.Spec PyProof.Rows L2 TM Qm Rq
theorem wM (ts:List T) (t:T) (h:vy ts=some t):cE 2 2 (gz dG) ts=some t:=by
 obtain ⟨a,b,c,d,rfl,h1,h2,_,rfl⟩:=kX h
 clear h
 have hbd:b * d ≠ 0:=Int.ne_of_gt (Int.mul_pos h1.pos h2.pos)
 have q1:=gD (Hs h1.ba h2.bb h2.ba h1.bb) (BD h1.bb h2.bb) hbd
 have w1:=ltB h1.ba
 have w2:=ltB h1.bb
 have w3:=ltB h2.ba
 have w4:=ltB h2.bb
 clear h1 h2 hbd
 unfold cE gz
 walk_at "ev"
theorem tQ (ts:List T) (t:T) (h:oB ts=some t):cE 2 2 (eN dG) ts=some t:=by
 obtain ⟨a,b,c,d,rfl,h1,h2,_,rfl⟩:=kX h
 clear h
 have hbd:b * d ≠ 0:=Int.ne_of_gt (Int.mul_pos h1.pos h2.pos)
 have q1:=gD (BD h1.ba h2.ba) (BD h1.bb h2.bb) hbd
 have w1:=ltB h1.ba
 have w2:=ltB h1.bb
 have w3:=ltB h2.ba
 have w4:=ltB h2.bb
 clear h1 h2 hbd
 unfold cE eN
 walk_at "ev"
open PySem PySem.Spec PyProof.Rows L2 TM Qm Rq
mutual
theorem eqv_refl:∀ d:PyData,d.canLay0=true -> PyData.eqv d d=true
 | .none,_=>by simp [PyData.eqv]
 | .bool _,_=>by simp [PyData.eqv]
 | .int _,_=>by simp [PyData.eqv]
 | .str _,_=>by simp [PyData.eqv]
 | .list xs,h=>by
  simp only [PyData.canLay0] at h
  simp only [PyData.eqv]
  exact eqvAll_refl xs h
 | .tuple xs,h=>by
  simp only [PyData.canLay0] at h
  simp only [PyData.eqv]
  exact eqvAll_refl xs h
 | .dict _,h=>by simp [PyData.canLay0] at h
theorem eqvAll_refl:∀ ds:List PyData,PyData.canLayAll0 ds=true -> PyData.eqvAll ds ds=true
 | [],_=>by simp [PyData.eqvAll]
 | d :: ds,h=>by
  simp only [PyData.canLayAll0,Bool.and_eq_true] at h
  simp only [PyData.eqvAll,eqv_refl d h.1,eqvAll_refl ds h.2,Bool.and_self]
end
def GA (n:Nat) (t:T):Prop:=∃ d,Cq t=some d /\ d.canLay0=true /\ d.depth ≤ n
theorem yw {n:Nat}:∀ {ts:List T},(∀ x ∈ ts,GA n x) -> ∃ ds,pD ts=some ds /\ PyData.canLayAll0 ds=true /\ PyData.depthAll ds ≤ n
 | [],_=>⟨[],rfl,rfl,Nat.zero_le _⟩
 | t :: ts,h=>by
  obtain ⟨d,h1,h2,h3⟩:=h t List.mem_cons_self
  obtain ⟨ds,g1,g2,g3⟩:=yw fun x hx=>h x (List.mem_cons_of_mem _ hx)
  refine ⟨d :: ds,by simp only [pD,h1,g1,Option.bind_some],by simp only [PyData.canLayAll0,h2,g2,Bool.and_self],by simp only [PyData.depthAll]; omega⟩
theorem tM {n:Nat} {ts:List T} (h:∀ x ∈ ts,GA n x):GA (n + 1) (.lst ts):=by
 obtain ⟨ds,h1,h2,h3⟩:=yw h
 exact ⟨.list ds,by simp only [Cq,h1,Option.map_some],by simp only [PyData.canLay0,h2],by simp only [PyData.depth]; omega⟩
theorem ED (q:Rat):GA 1 (bq q):=⟨.tuple [.int q.num,.int q.den],rfl,rfl,Nat.le_of_ble_eq_true rfl⟩
theorem DV (r:List Rat):GA 2 (aG r):=tM fun x hx=>by
 obtain ⟨q,_,rfl⟩:=List.mem_map.mp hx
 exact ED q
theorem yx (A:List (List Rat)):GA 3 (au A):=tM fun x hx=>by
 obtain ⟨q,_,rfl⟩:=List.mem_map.mp hx
 exact DV q
theorem cmp_self {neg:Bool} {t:T} {n:Nat} (h:GA n t) (hn:n ≤ 60):zp neg t t=some (.bl (!neg)):=by
 obtain ⟨d,h1,h2,h3⟩:=h
 have hs:SeqAt.shaped d=true:=by
  unfold SeqAt.shaped
  rw [h2,Bool.true_and]
  exact decide_eq_true (by omega)
 unfold zp
 rw [h1,Option.bind_some,Option.bind_some,if_pos ⟨hs,hs⟩,eqv_refl d h2]
 cases neg <;> rfl
theorem Jt (n:Nat) (q:Rat):oY (n + 1) (bq q)=true:=by unfold bq; simp [oY,jI]
theorem tJ (q:Rat):dW 4 [bq q,bq q]=some (.bl true):=AK 3 _ (Jt 2 q)
open PySem PySem.Spec PyProof.Rows L2 TM Qm Rq
structure JU (n:Nat) (A:List (List Rat)):Prop where
 sq:Sq n A
 n4:n ≤ 4
 lq:∀ r ∈ A,∀ x ∈ r,Lq 1 9 x
theorem JU.tb {n:Nat} {A:List (List Rat)} (h:JU n A):Tb 1 9 A:=⟨by have:=h.sq.1; have:=h.n4; omega,fun r hr=>⟨by have:=h.sq.2 r hr; have:=h.n4; omega,h.lq r hr⟩⟩
theorem bh {t u:FS} {τ τ':aP} (h:t τ=some (.nx τ')):aE t u τ=u τ':=by
 unfold aE
 rw [h]
 rfl
theorem dY {f:FE} {τ:aP} {t:T} (h:f τ=some (t,τ)):aa f ah τ=some ([t],τ):=by
 unfold aa
 rw [h]
 rfl
theorem dN {f g:FE} {τ:aP} {t u:T} (h:f τ=some (t,τ)) (h':g τ=some (u,τ)):aa f (aa g ah) τ=some ([t,u],τ):=by
 unfold aa
 rw [h,Option.bind_some]
 dsimp only
 rw [h']
 rfl
theorem Tb.add {k m m':Nat} {A B:List (List Rat)} (h1:Tb k m A) (h2:Tb k m' B):Tb k (m + m') (Hu A B):=by
 refine ⟨by unfold Hu; rw [List.length_map]; exact iU A B h1.len,fun r hr=>?_⟩
 obtain ⟨p,hp,rfl⟩:=List.mem_map.mp hr
 refine ⟨by unfold Ht; rw [List.length_map]; exact iU _ _ (h1.row _ (dU hp).1).len,fun x hx=>?_⟩
 obtain ⟨q,hq,rfl⟩:=List.mem_map.mp hx
 exact ((h1.row _ (dU hp).1).lq _ (dU hq).1).add ((h2.row _ (dU hp).2).lq _ (dU hq).2)
theorem Tb.turn {k m w:Nat} {A:List (List Rat)} (h:Tb k m A) (hw:w ≤ 8):Tb k m (bJ A w):=by
 refine ⟨by unfold bJ; rw [List.length_map,List.length_range]; exact hw,fun r hr=>?_⟩
 obtain ⟨j,_,rfl⟩:=List.mem_map.mp hr
 exact nc h j
theorem Tb.mul {k m k' m' w:Nat} {A B:List (List Rat)} (h1:Tb k m A) (h2:Tb k' m' B) (hw:w ≤ 8):Tb (k + k') (8 * (m * m')) (mulM A B w):=by
 refine ⟨by unfold mulM; rw [List.length_map]; exact h1.len,fun r hr=>?_⟩
 obtain ⟨p,hp,rfl⟩:=List.mem_map.mp hr
 refine ⟨by rw [u6]; exact hw,fun x hx=>?_⟩
 obtain ⟨j,_,rfl⟩:=List.mem_map.mp hx
 exact (tY (h1.row p hp).lq (nc h2 j).lq).mono (Nat.mul_le_mul_right _ (h1.row p hp).len)
open PySem PySem.Spec PyProof.Rows L2 TM Qm Rq
structure Dr (w:Nat) (A:List (List Rat)):Prop where
 len:A.length ≤ 4
 wd:Wd w A
 w4:w ≤ 4
 lq:∀ r ∈ A,∀ x ∈ r,Lq 1 9 x
theorem Dr.tb {w:Nat} {A:List (List Rat)} (h:Dr w A):Tb 1 9 A:=⟨by have:=h.len; omega,fun r hr=>⟨by have:=h.wd r hr; have:=h.w4; omega,h.lq r hr⟩⟩
theorem FL:Lq 1 9 (1:Rat):=by
 have h:=Lq.small (a:=1) (b:=1) (by decide) (by decide) (by decide)
 rwa [show Rat.divInt 1 1=1 from rfl] at h
theorem gQ {fi:FA} {fg:FG} {fb:FS} {τ:aP} {ts:List T} {r:R} (h1:fi τ=some (ts,τ)) (h2:bP fg fb ts τ=some r):cG fi fg fb τ=some r:=by
 unfold cG
 rw [h1,Option.bind_some]
 exact h2
theorem mN {f:FE} {τ τ':aP} {t:T} (h:f τ=some (t,τ')):a8 f τ=some (.rt t):=by
 unfold a8
 rw [h]
 rfl
open PySem PySem.Spec PyProof.Rows L2 TM Qm Rq
theorem CA {f g i:FE} {τ:aP} {t u v:T} (h:f τ=some (t,τ)) (h':g τ=some (u,τ)) (h'':i τ=some (v,τ)):aa f (aa g (aa i ah)) τ=some ([t,u,v],τ):=by
 have e:=dN h' h''
 generalize hg:aa g (aa i ah)=G at *
 unfold aa
 rw [h,Option.bind_some]
 dsimp only
 rw [e]
 rfl
theorem da {i:Nat} {f:FE} {τ τ1 τ2:aP} {t:T} (h:f τ=some (t,τ1)) (h2:aN i (fC t) τ1=some (.nx τ2)):aN i f τ=some (.nx τ2):=by
 unfold aN at *
 rw [h]
 exact h2
open PySem PySem.Spec PyProof.Rows L2 TM Qm Rq
theorem HL {L:List T} {i:Int} (h0:0 ≤ i) (h1:i < (L.length:Int)):∃ t,cR (.lst L) (.int i)=some t /\ t ∈ L:=by
 obtain ⟨j,rfl⟩:=Int.eq_ofNat_of_zero_le h0
 have hj:j < L.length:=by omega
 exact ⟨L[j],rh (List.getElem?_eq_getElem hj),List.getElem_mem hj⟩
theorem cm {i:Int} (h1 : -1000000 ≤ i) (h2:i ≤ 1000000):i.natAbs < B:=by
 have:=EM
 omega
abbrev fW:List T -> Option T:=cE 5 3 dZ
def kK:FS:=aE (iB 3 (aD cg (ae 0) (ae 1))) (aN 0 (aD cQ (ae 0) (ae 1)))
theorem um:∀ (m:Nat) (lo c n:Int) (ts:List T) (u:Option Sl),ts.length + m ≤ 1000 -> ∃ (c':Int) (ds:List Int) (u':Option Sl),bP (ak 4) kK (TM.upTo lo m) [some (.sh (.int c)),some (.sh (.int 228)),some (.sh (.int n)),some (.own ts),u]
  = some (.nx [some (.sh (.int c')),some (.sh (.int 228)),some (.sh (.int n)),some (.own (ts ++ ds.map T.int)),u']) /\ ds.length=m /\ ∀ d ∈ ds,0 ≤ d /\ d < 228
 | 0,lo,c,n,ts,u,_=>⟨c,[],u,by simp [TM.upTo,bP],rfl,fun d hd=>by cases hd⟩
 | m + 1,lo,c,n,ts,u,hl=>by
  obtain ⟨c',ds,u',h1,h2,h3⟩:=um m (lo + 1) (c.fdiv 228) n (ts ++ [.int (c.fmod 228)]) (some (.sh (.int lo))) (by simp; omega)
  refine ⟨c',c.fmod 228 :: ds,u',?_,by simp [h2],fun d hd=>?_⟩
  ·have hz:ts.length < sizeLine:=dz (by omega)
   have b1:(228:Int).natAbs < B:=jR (n:=228) (by decide)
   have n0:¬ (228:Int)=0:=by decide
   have hb:kK [some (.sh (.int c)),some (.sh (.int 228)),some (.sh (.int n)),some (.own ts),some (.sh (.int lo))]=some (.nx [some (.sh (.int (c.fdiv 228))),some (.sh (.int 228)),some (.sh (.int n)),some (.own (ts ++ [.int (c.fmod 228)])),some (.sh (.int lo))]):=by
    clear h1 h2 h3 hl
    unfold kK
    walk_at "ev"
   rw [show TM.upTo lo (m + 1)=T.int lo :: TM.upTo (lo + 1) m from rfl,bQ rfl hb,h1]
   simp
  ·rcases List.mem_cons.mp hd with rfl | hd
   ·exact cP c (by decide)
   ·exact h3 d hd
theorem CT (c n:Int) (N:Nat) (Y:List T) (x4 x0:Option Sl) (hfi:bS (aa (ae 2) ah) [some (.sh (.int c)),some (.sh (.int 228)),some (.sh (.int n)),some (.own []),none]=some (TM.upTo 0 N,[some (.sh (.int c)),some (.sh (.int 228)),some (.sh (.int n)),some (.own []),none]))
  (e1:bP (ak 4) kK (TM.upTo 0 N) [some (.sh (.int c)),some (.sh (.int 228)),some (.sh (.int n)),some (.own []),none]=some (.nx [x0,some (.sh (.int 228)),some (.sh (.int n)),some (.own Y),x4])):fW [.int c,.int 228,.int n]=some (.lst Y):=by
 have e:dZ=aE (dq 3 ah) (aE (cG (bS (aa (ae 2) ah)) (ak 4) kK) (a8 (ae 3))):=rfl
 unfold fW cE
 rw [e]
 clear e
 walk_at "ev"
theorem zl (c:Int) (n:Nat) (h1:n ≤ 900):∃ ds:List Int,fW [.int c,.int 228,.int (n:Nat)]=some (.lst (ds.map T.int)) /\ ds.length=n /\ ∀ d ∈ ds,0 ≤ d /\ d < 228:=by
 obtain ⟨c',ds,u',e1,e2,e3⟩:=um n 0 c (n:Nat) [] none (by simp; omega)
 refine ⟨ds,?_,e2,e3⟩
 have hr:=ji (f:=ae 2) (τ:=[some (.sh (.int c)),some (.sh (.int 228)),some (.sh (.int (n:Nat))),some (.own []),none]) (n:=(n:Int)) rfl (by omega) (by omega)
 rw [Int.toNat_natCast] at hr
 rw [List.nil_append] at e1
 exact CT c _ n _ _ _ hr e1
abbrev ja:List T -> Option T:=cE 6 2 (fJ fW dG fq)
def jx:FS:=(aE (aN 4 (ai fq (aa (ae 0) (aa (ae 3) ah))))
  (aE (dq 5 (aa (b0 (aa (fC (.int 0)) (aa (fC (.int 1)) ah))) (aa (b0 (aa (aD gL (aD cg (aD cQ (ae 4) (fC (.int 4))) (fC (.int 5))) (fC (.int 2))) (aa (fC (.int 1)) ah))) (aa (ai dG (aa (aD gL (aD cg (aD cQ (ae 4) (fC (.int 4))) (fC (.int 19))) (fC (.int 9))) (aa (aD cH (fC (.int 1)) (aD cg (aD cQ (ae 4) (fC (.int 80))) (fC (.int 12)))) ah))) ah))))
  (iB 2 (aD cR (aD cH (ae 5) (kM (aa (b0 (aa (fC (.int 0)) (aa (fC (.int 1)) ah))) (aa (b0 (aa (fC (.int 1)) (aa (fC (.int 1)) ah))) ah)))) (aD cg (ae 4) (fC (.int 5)))))))
theorem yQ (a:Int):T.tup [.int a,.int 1]=bq (Rat.divInt a 1):=by
 have e:=Rat.divInt_ofNat a 1
 rw [show ((1:Nat):Int)=1 from rfl] at e
 rw [e,Rat.mkRat_one]
 rfl
theorem zR (c n k:Int) (ts:List T) (x4 x5:Option Sl) (hk:0 ≤ k /\ k ≤ 1000) (hl:ts.length < 1000):∃ q:Rat,∃ y4 y5,Lq 1 9 q /\ jx [some (.sh (.int c)),some (.sh (.int n)),some (.own ts),some (.sh (.int k)),x4,x5]
  = some (.nx [some (.sh (.int c)),some (.sh (.int n)),some (.own (ts ++ [bq q])),some (.sh (.int k)),y4,y5]):=by
 have hm:=nu (c:=c) (k:=k) (cm (by omega) (by omega))
 have hr:=BB c k
 generalize iJ c k=m at *
 have r5:=cP (m.fdiv 4) (b:=5) (by decide)
 have r19:=cP (m.fdiv 4) (b:=19) (by decide)
 have r12:=cP (m.fdiv 80) (b:=12) (by decide)
 have rm:=cP m (b:=5) (by decide)
 have hf:=gD (a:=(m.fdiv 4).fmod 19 - 9) (b:=1 + (m.fdiv 80).fmod 12) (cm (by omega) (by omega)) (cm (by omega) (by omega)) (by omega)
 have hn:=Lq.small (a:=(m.fdiv 4).fmod 19 - 9) (b:=1 + (m.fdiv 80).fmod 12) (by omega) (by omega) (by omega)
 have hn2:=Lq.small (a:=(m.fdiv 4).fmod 5 - 2) (b:=1) (by omega) (by omega) (by omega)
 rw [gR (by omega)] at hf
 generalize Rat.divInt ((m.fdiv 4).fmod 19 - 9) (1 + (m.fdiv 80).fmod 12)=fr at *
 obtain ⟨t,ht,hmem⟩:=HL (L:=[.tup [.int 0,.int 1],.tup [.int ((m.fdiv 4).fmod 5 - 2),.int 1],bq fr,.tup [.int 0,.int 1],.tup [.int 1,.int 1]]) (i:=m.fmod 5) (by omega) (by simp; omega)
 have hq:∃ q,t=bq q /\ Lq 1 9 q:=by
  simp only [List.mem_cons,List.not_mem_nil,or_false] at hmem
  rcases hmem with rfl | rfl | rfl | rfl | rfl
  ·exact ⟨0,rfl,(Lq.zero 1).mono (Nat.zero_le _)⟩
  ·exact ⟨_,yQ _,hn2⟩
  ·exact ⟨_,rfl,hn⟩
  ·exact ⟨0,rfl,(Lq.zero 1).mono (Nat.zero_le _)⟩
  ·exact ⟨1,rfl,FL⟩
 obtain ⟨q,rfl,hq⟩:=hq
 refine ⟨q,some (.sh (.int m)),some (.sh (.lst [.tup [.int 0,.int 1],.tup [.int ((m.fdiv 4).fmod 5 - 2),.int 1],bq fr])),hq,?_⟩
 have hz:ts.length < sizeLine:=dz (by omega)
 have n4:¬ (4:Int)=0:=by decide
 have n5:¬ (5:Int)=0:=by decide
 have n19:¬ (19:Int)=0:=by decide
 have n80:¬ (80:Int)=0:=by decide
 have n12:¬ (12:Int)=0:=by decide
 have b4:(4:Int).natAbs < B:=cm (by decide) (by decide)
 have b5:(5:Int).natAbs < B:=cm (by decide) (by decide)
 have b19:(19:Int).natAbs < B:=cm (by decide) (by decide)
 have b80:(80:Int).natAbs < B:=cm (by decide) (by decide)
 have b12:(12:Int).natAbs < B:=cm (by decide) (by decide)
 have l5:(5:Nat) ≤ sizeLine:=du (by decide)
 have l3:=JX
 have l2:=G5
 clear hr r5 r19 r12 rm hn hn2 hmem hk hl hq
 generalize bq fr=F at *
 generalize bq q=Q at *
 unfold jx
 walk_at "ev"
theorem qL (c n:Int):∀ (m:Nat) (lo:Int) (ts:List T) (x3 x4 x5:Option Sl),0 ≤ lo -> lo + m ≤ 1000 -> ts.length + m < 1000 -> ∃ us:List Rat,∃ y3 y4 y5,(∀ t ∈ us,Lq 1 9 t) /\ us.length=m /\ bP (ak 3) jx (TM.upTo lo m) [some (.sh (.int c)),some (.sh (.int n)),some (.own ts),x3,x4,x5]
  = some (.nx [some (.sh (.int c)),some (.sh (.int n)),some (.own (ts ++ us.map bq)),y3,y4,y5])
 | 0,lo,ts,x3,x4,x5,_,_,_=>⟨[],x3,x4,x5,fun t ht=>(by cases ht),rfl,by simp [TM.upTo,bP]⟩
 | m + 1,lo,ts,x3,x4,x5,h0,h1,h2=>by
  obtain ⟨t,y4,y5,ht,hb⟩:=zR c n lo ts x4 x5 (by omega) (by omega)
  obtain ⟨us,z3,z4,z5,g1,g2,g3⟩:=qL c n m (lo + 1) (ts ++ [bq t]) (some (.sh (.int lo))) y4 y5 (by omega) (by omega) (by simp; omega)
  refine ⟨t :: us,z3,z4,z5,fun x hx=>?_,by simp [g2],?_⟩
  ·rcases List.mem_cons.mp hx with rfl | hx
   ·exact ht
   ·exact g1 x hx
  ·rw [show TM.upTo lo (m + 1)=T.int lo :: TM.upTo (lo + 1) m from rfl,bQ rfl hb,g3]
   simp
def drawn (d:Int):Rat:=Rat.divInt (d.fmod 19 - 9) (1 + d.fdiv 19)
def BH:FE:=bX 1 [] (aW (ai fW (aa (aD cQ (ae 0) (fC (.int 2))) (aa (fC (.int 228)) (aa (ae 1) ah))))) (ak 0) ay (ai dG (aa (aD gL (aD cg (ae 0) (fC (.int 19))) (fC (.int 9))) (aa (aD cH (fC (.int 1)) (aD cQ (ae 0) (fC (.int 19)))) ah)))
theorem qd:fJ fW dG fq=aE (bE (dw (aD lD (aD cg (ae 0) (fC (.int 2))) (fC (.int 1)))) (a8 BH) bf) (aE (dq 2 ah) (aE (cG (bS (aa (ae 1) ah)) (ak 3) jx) (a8 (ae 2)))):=rfl
theorem B5 (c n:Int) (V:T) (τ':aP) (hc:c.fmod 2=1) (h:BH [some (.sh (.int c)),some (.sh (.int n)),none,none,none,none]=some (V,τ')):ja [.int c,.int n]=some V:=by
 have n2:¬ (2:Int)=0:=by decide
 have b2:(2:Int).natAbs < B:=cm (by decide) (by decide)
 have g1:lD (.int 1) (.int 1)=some (.bl true):=rfl
 unfold ja cE
 rw [qd]
 walk_at "ev"
theorem zQ (c n:Int) (N:Nat) (Y:List T) (y3 y4 y5:Option Sl) (hd:decide (c.fmod 2=1)=false) (hr:bS (aa (ae 1) ah) [some (.sh (.int c)),some (.sh (.int n)),some (.own []),none,none,none]=some (TM.upTo 0 N,[some (.sh (.int c)),some (.sh (.int n)),some (.own []),none,none,none]))
  (g3:bP (ak 3) jx (TM.upTo 0 N) [some (.sh (.int c)),some (.sh (.int n)),some (.own []),none,none,none]=some (.nx [some (.sh (.int c)),some (.sh (.int n)),some (.own Y),y3,y4,y5])):ja [.int c,.int n]=some (.lst Y):=by
 have n2:¬ (2:Int)=0:=by decide
 have b2:(2:Int).natAbs < B:=cm (by decide) (by decide)
 unfold ja cE
 rw [qd]
 walk_at "ev"
theorem AR {d:Int} (h:0 ≤ d /\ d < 228):Lq 1 9 (drawn d):=by
 have q:=cP d (b:=19) (by decide)
 have s:=Int.mul_fdiv_add_fmod d 19
 exact Lq.small (by omega) (by omega) (by omega)
theorem CU {d:Int} (h:0 ≤ d /\ d < 228):ai dG (aa (aD gL (aD cg (ae 0) (fC (.int 19))) (fC (.int 9))) (aa (aD cH (fC (.int 1)) (aD cQ (ae 0) (fC (.int 19)))) ah)) [some (.sh (.int d))]=some (bq (drawn d),[some (.sh (.int d))]):=by
 have q:=cP d (b:=19) (by decide)
 have s:=Int.mul_fdiv_add_fmod d 19
 have hf:=gD (a:=d.fmod 19 - 9) (b:=1 + d.fdiv 19) (cm (by omega) (by omega)) (cm (by omega) (by omega)) (by omega)
 rw [gR (by omega)] at hf
 have n19:¬ (19:Int)=0:=by decide
 have b19:(19:Int).natAbs < B:=cm (by decide) (by decide)
 have e:drawn d=Rat.divInt (d.fmod 19 - 9) (1 + d.fdiv 19):=rfl
 rw [<- e] at hf
 clear h q s e
 generalize bq (drawn d)=F at *
 walk_at "ev"
theorem FK (c n:Int) (Y:List T) (h:fW [.int (c.fdiv 2),.int 228,.int n]=some (.lst Y)):aW (ai fW (aa (aD cQ (ae 0) (fC (.int 2))) (aa (fC (.int 228)) (aa (ae 1) ah)))) [some (.sh (.int c)),some (.sh (.int n)),none,none,none,none]=some (Y,[some (.sh (.int c)),some (.sh (.int n)),none,none,none,none]):=by
 have n2:¬ (2:Int)=0:=by decide
 have b2:(2:Int).natAbs < B:=cm (by decide) (by decide)
 walk_at "ev"
theorem E5 (c:Int) (n:Nat) (h1:n ≤ 100) (hc:c.fmod 2=1):∃ xs:List Rat,ja [.int c,.int (n:Nat)]=some (aG xs) /\ xs.length=n /\ ∀ x ∈ xs,Lq 1 9 x:=by
 obtain ⟨ds,e1,e2,e3⟩:=zl (c.fdiv 2) n (by omega)
 have hm:=cM (φ:=T.int) (g:=fun d=>bq (drawn d)) (ρ:=[]) rfl ds none [] (fun d hd=>CU (e3 d hd)) (by rw [List.length_nil,Nat.zero_add,e2]; exact du (by omega))
 have hcomp:=cF (no:=1) (cap:=[]) (fg:=ak 0) (ft:=ay) (FK c _ _ e1) rfl rfl hm
 refine ⟨ds.map drawn,?_,by rw [List.length_map]; exact e2,fun t ht=>?_⟩
 ·have e:=B5 c (n:Nat) _ _ hc hcomp
  rw [e]
  show some (T.lst (ds.map fun d=>bq (drawn d)))=some (T.lst ((ds.map drawn).map bq))
  rw [List.map_map]
  rfl
 ·obtain ⟨d,hd',rfl⟩:=List.mem_map.mp ht
  exact AR (e3 d hd')
theorem C5 (c:Int) (n:Nat) (h:n ≤ 100):bS (aa (ae 1) ah) [some (.sh (.int c)),some (.sh (.int (n:Nat))),some (.own []),none,none,none]=some (TM.upTo 0 n,[some (.sh (.int c)),some (.sh (.int (n:Nat))),some (.own []),none,none,none]):=by
 have hr:=ji (f:=ae 1) (τ:=[some (.sh (.int c)),some (.sh (.int (n:Nat))),some (.own []),none,none,none]) (n:=(n:Int)) rfl (by omega) (by omega)
 rw [Int.toNat_natCast] at hr
 exact hr
theorem CV (c:Int) (n:Nat) (h1:n ≤ 100) (hc:decide (c.fmod 2=1)=false):∃ xs:List Rat,ja [.int c,.int (n:Nat)]=some (aG xs) /\ xs.length=n /\ ∀ x ∈ xs,Lq 1 9 x:=by
 obtain ⟨us,y3,y4,y5,g1,g2,g3⟩:=qL c (n:Nat) n 0 [] none none none (Int.le_refl 0) (by omega) (by rw [List.length_nil]; omega)
 rw [List.nil_append] at g3
 exact ⟨us,zQ c _ n _ _ _ _ hc (C5 c n h1) g3,g2,g1⟩
theorem C4 (c:Int) (n:Nat) (h1:n ≤ 100):∃ xs:List Rat,ja [.int c,.int (n:Nat)]=some (aG xs) /\ xs.length=n /\ ∀ x ∈ xs,Lq 1 9 x:=by
 by_cases hc:c.fmod 2=1
 ·exact E5 c n h1 hc
 ·exact CV c n h1 (decide_eq_false hc)
def zj (xs:List Rat) (m w:Nat):List (List Rat):=(List.range m).map fun k=>(xs.drop (k * w)).take w
theorem Hy (xs:List Rat) (k w m:Nat) (hk:k < m) (hl:xs.length=m * w):lK (xs.map bq) (some ((k:Int) * (w:Int))) (some ((k:Int) * (w:Int) + (w:Int)))=((xs.drop (k * w)).take w).map bq:=by
 have hkw:k * w + w ≤ m * w:=by
  have:(k + 1) * w ≤ m * w:=Nat.mul_le_mul_right w hk
  rw [Nat.add_mul,Nat.one_mul] at this
  exact this
 have e1:(k:Int) * (w:Int)=((k * w:Nat):Int):=by rw [Int.natCast_mul]
 have e2:((k * w:Nat):Int) + (w:Int)=((k * w + w:Nat):Int):=by rw [Int.natCast_add]
 unfold lK
 rw [e1,e2,HT.nA,HT.nA,List.length_map,hl,Nat.min_eq_left (by omega),Nat.min_eq_left (by omega),<- List.map_drop,<- List.map_take,show k * w + w - k * w=w by omega]
open PySem PySem.Spec PyProof.Rows L2 TM Qm Rq
theorem mG {i no:Nat} {cap:List Nat} {fi:FA} {fg:FG} {ft:FT} {fe:FE} {τ:aP} {ts us:List T} (h1:fi τ=some (ts,τ)) (h2:frzAll cap τ=τ) (h3:cz (cq no cap τ)=true) (h4:c8 fg ft fe ts (cq no cap τ) []=some us):d3 i no cap fi fg ft fe τ=some (.nx (τ.set i (some (.own us)))):=by
 unfold d3
 rw [h1,Option.bind_some]
 dsimp only
 rw [h2,if_pos h3,h4]
 rfl
structure Drawn (ns:List Int) (A B C D:List (List Rat)) (b:Rat) (s0 s1 s2 m:Nat):Prop where
 ta:Dr s1 A
 tb:Dr s2 B
 tc:Dr s1 C
 td:Dr s2 D
 la:A.length=s0
 lb:B.length=s1
 lc:C.length=s0
 ld:D.length=s2
 by_:Lq 1 9 b
 m5:m ≤ 5
 mm:(iJ (i8 ns 0) 7).fmod 6=(m:Int)
open PySem PySem.Spec PyProof.Rows L2 TM Qm Rq
def iT (l:List Int):T:=.lst (l.map T.int)
def pT (e:Nat × List Int):T:=.tup [.int (e.1:Nat),iT e.2]
theorem lR {l:List Int} {p:Nat} (h:p < l.length):cR (iT l) (.int (p:Nat))=some (.int (l.getD p 0)):=by
 show mB (l.map T.int) (p:Int)=_
 unfold mB wg
 rw [if_pos (by omega),if_pos (by rw [List.length_map]; omega),Option.bind_some,Int.toNat_natCast,List.getElem?_map,List.getElem?_eq_getElem h,List.getD_eq_getElem?_getD,List.getElem?_eq_getElem h]
 rfl
def lF (M:Nat) (x:Dt.Row):Prop:=∀ j,(x j).natAbs ≤ M
theorem Br {M:Nat} {R:List Dt.Row} {ps:List Nat} {x:Dt.Row} (hx:lF M x) (hR:∀ y ∈ R,lF M y) (hr:R.length ≤ 4) (hp:ps.length ≤ 7) (j:Nat):(Dt.left R ps x j).natAbs ≤ (8 * M + 1) ^ 5:=by
 have h:=Dt.vN (M:=M) (n:=8) (x :: R) (j :: ps) (fun y hy=>by
  rcases List.mem_cons.mp hy with rfl | hy
  ·exact hx
  ·exact hR y hy) (by simp only [List.length_cons]; omega)
 exact Nat.le_trans h (Nat.pow_le_pow_right (by omega) (by simp only [List.length_cons]; omega))
theorem AM {M:Nat} {R:List Dt.Row} {ps:List Nat} (hR:∀ y ∈ R,lF M y) (hr:R.length ≤ 5) (hp:ps.length ≤ 7):(Dt.det R ps).natAbs ≤ (8 * M + 1) ^ 5:=by
 have h:=Dt.vN (M:=M) (n:=8) R ps hR (by omega)
 exact Nat.le_trans h (Nat.pow_le_pow_right (by omega) (by omega))
theorem Bq {M:Nat} (hM:(8 * M + 1) ^ 5 < B) {R:List Dt.Row} {ps:List Nat} {x:Dt.Row} (hx:lF M x) (hR:∀ y ∈ R,lF M y) (hr:R.length ≤ 4) (hp:ps.length ≤ 7) (j:Nat):(Dt.left R ps x j).natAbs < B:=Nat.lt_of_le_of_lt (Br hx hR hr hp j) hM
theorem AL {M:Nat} (hM:(8 * M + 1) ^ 5 < B) {R:List Dt.Row} {ps:List Nat} (hR:∀ y ∈ R,lF M y) (hr:R.length ≤ 5) (hp:ps.length ≤ 7):(Dt.det R ps).natAbs < B:=Nat.lt_of_le_of_lt (AM hR hr hp) hM
theorem kE {m n:Nat} {fb:FS} {ts:List T} {t:T} (hl:ts.length=n) (h:fb (ts.map (fun t=>some (Sl.sh t)) ++ List.replicate (m - n) none)=some (.rt t)):cE m n fb ts=some t:=by
 unfold cE
 rw [if_pos hl,h]
 rfl
abbrev vw:List T -> Option T:=cE 7 2 ig
def Em:FE:=bX 1 [1] (aW (ae 0)) (ak 0) ay (aD cQ (ae 0) (ae 1))
def rK:FT:=dw (aD vx (mT gS (ae 1)) (fC (.int 8000)))
theorem rk:ig=aE (bE rK (a8 Em) bf) g8:=rfl
theorem j3 {l:List Int} {d:Int} (h8:l.length ≤ 8) (hd:¬ d=0) (hb:d.natAbs < B):vw [iT l,.int d]=some (iT (l.map fun x=>x.fdiv d)):=by
 refine kE rfl ?_
 have hc:=cM (φ:=T.int) (fe:=aD cQ (ae 0) (ae 1)) (g:=fun x=>T.int (x.fdiv d)) (ρ:=[some (.sh (.int d))]) rfl l none [] (fun x _=>by walk_at "ev") (cU h8)
 have e1:=cF (no:=1) (cap:=[1]) (fi:=aW (ae 0)) (fg:=ak 0) (ft:=ay) (τ:=[some (.sh (iT l)),some (.sh (.int d)),none,none,none,none,none]) (h1:=rfl) rfl rfl hc
 have t1:rK [some (.sh (iT l)),some (.sh (.int d)),none,none,none,none,none]=some (true,[some (.sh (iT l)),some (.sh (.int d)),none,none,none,none,none]):=by
  have hq:=vF hb
  unfold rK
  walk_at "ev"
 have e2:bE rK (a8 Em) bf [some (.sh (iT l)),some (.sh (.int d)),none,none,none,none,none]=some (.rt (iT (l.map fun x=>x.fdiv d))):=by
  unfold bE
  rw [t1,Option.bind_some]
  refine (mN e1).trans ?_
  rw [List.nil_append]
  unfold iT
  rw [List.map_map]
  rfl
 rw [rk]
 unfold aE
 rw [show (List.map (fun t=>some (Sl.sh t)) [iT l,T.int d] ++ List.replicate (7 - 2) none)=[some (.sh (iT l)),some (.sh (.int d)),none,none,none,none,none] from rfl,e2]
 rfl
def AB:FE:=aD gL (aD bg (ae 2) (ae 0)) (aD bg (ae 3) (ae 1))
def AA:FE:=bX 2 [5,6] (c9 (aa (ae 0) (aa (ae 4) ah))) (bp (ar (ak 0) (ar (ak 1) bo))) ay AB
def lI:FS:=(aE (oh (b0 (aa (aD cR (ae 4) (ae 3)) (aa (aD cR (ae 0) (ae 3)) ah))) (bp (ar (ak 5) (ar (ak 6) bo))))
  (aE (aN 0 (ai vw (aa AA (aa (ae 2) ah))))
  (aN 2 (ae 5))))
theorem ES {K:T} {row:List Int} {p hk hx d:Int} {o1 o5 o6:Option Sl} (h1:cR K (.int p)=some (.int hk)) (h2:cR (iT row) (.int p)=some (.int hx)) :
  oh (b0 (aa (aD cR (ae 4) (ae 3)) (aa (aD cR (ae 0) (ae 3)) ah))) (bp (ar (ak 5) (ar (ak 6) bo))) [some (.sh (iT row)),o1,some (.sh (.int d)),some (.sh (.int p)),some (.sh K),o5,o6]
   = some (.nx [some (.sh (iT row)),o1,some (.sh (.int d)),some (.sh (.int p)),some (.sh K),some (.sh (.int hk)),some (.sh (.int hx))]):=by
 have l2:=G5
 walk_at "ev"
theorem Hx {n l h t:Int} (hn:n.natAbs < B) (hl:l.natAbs < B) (hh:h.natAbs < B) (ht:t.natAbs < B) :
  AB [some (.sh (.int n)),some (.sh (.int l)),some (.sh (.int h)),some (.sh (.int t))]=some (.int (h * n - t * l),[some (.sh (.int n)),some (.sh (.int l)),some (.sh (.int h)),some (.sh (.int t))]):=by
 unfold AB
 walk_at "ev"
theorem fS {α β γ:Type} (f:α -> β -> γ):∀ (r:List α) (s:List β),(List.zip r s).map (fun p=>f p.1 p.2)=List.zipWith f r s
 | [],_=>by simp
 | _ :: _,[]=>by simp
 | a :: r,b :: s=>by simp [fS f r s]
theorem oi {i j:Nat} {r s:List Int} {τ:aP} (h1:τ[i]? = some (some (.sh (iT r)))) (h2:τ[j]? = some (some (.sh (iT s)))):c9 (aa (ae i) (aa (ae j) ah)) τ=some ((List.zip r s).map fun p=>T.tup [T.int p.1,T.int p.2],τ):=by
 have e:c9 (aa (ae i) (aa (ae j) ah)) τ=some (gM (r.map T.int) (s.map T.int),τ):=by
  have l1:ae i τ=some (iT r,τ):=by unfold ae; rw [h1]
  have l2:ae j τ=some (iT s,τ):=by unfold ae; rw [h2]
  unfold c9 aa ah
  rw [l1,Option.bind_some,l2,Option.bind_some,Option.bind_some]
  rfl
 rw [e,jB]
theorem CN {w:Nat} {R:List Dt.Row} {ps:List Nat} {k x:Dt.Row} {p:Nat} (hw:w ≤ 8) (hd:Dt.det R ps ≠ 0) (hn:Dt.left R ps k p ≠ 0) (hp:p < w) (bd:(Dt.det R ps).natAbs < B) (bk:∀ j,(Dt.left R ps k j).natAbs < B) (bx:∀ j,(Dt.left R ps x j).natAbs < B)
  (o1 o5 o6:Option Sl) :
  lI [some (.sh (iT (Dt.aR w R ps x))),o1,some (.sh (.int (Dt.det R ps))),some (.sh (.int (p:Nat))),some (.sh (iT (Dt.aR w R ps k))),o5,o6]=some (.nx [some (.sh (iT (Dt.aR w (k :: R) (p :: ps) x))),o1,some (.sh (.int (Dt.left R ps k p))),some (.sh (.int (p:Nat))),some (.sh (iT (Dt.aR w R ps k))),some (.sh (.int (Dt.left R ps k p))),some (.sh (.int (Dt.left R ps x p)))]):=by
 have gk:(Dt.aR w R ps k).getD p 0=Dt.left R ps k p:=Dt.dR hp
 have gx:(Dt.aR w R ps x).getD p 0=Dt.left R ps x p:=Dt.dR hp
 have e1:=ES (d:=Dt.det R ps) (o1:=o1) (o5:=o5) (o6:=o6) (lR (l:=Dt.aR w R ps k) (by rw [Dt.di]; exact hp)) (lR (l:=Dt.aR w R ps x) (by rw [Dt.di]; exact hp))
 rw [gk,gx] at e1
 have mem:∀ {y:Dt.Row} {n:Int},n ∈ Dt.aR w R ps y -> ∃ j,n=Dt.left R ps y j:=fun {y n} h=>by
  obtain ⟨j,_,e⟩:=List.mem_map.mp h
  exact ⟨j,e.symm⟩
 have hc:=fL (φ:=fun p:Int × Int=>T.int p.1) (ψ:=fun p:Int × Int=>T.int p.2) (fe:=AB) (g:=fun q=>T.int (Dt.left R ps k p * q.1 - Dt.left R ps x p * q.2)) (ρ:=[some (.sh (.int (Dt.left R ps k p))),some (.sh (.int (Dt.left R ps x p)))]) rfl
  (List.zip (Dt.aR w R ps x) (Dt.aR w R ps k)) none none [] (fun q hq=>by
   obtain ⟨m1,m2⟩:=dU hq
   obtain ⟨i,ei⟩:=mem m1
   obtain ⟨j,ej⟩:=mem m2
   exact Hx (by rw [ei]; exact bx i) (by rw [ej]; exact bk j) (bk p) (bx p)) (cU (iU _ _ (by rw [Dt.di]; exact hw)))
 have e2:=cF (no:=2) (cap:=[5,6]) (fg:=fm) (ft:=ay) (fe:=AB) (oi (i:=0) (j:=4) (r:=Dt.aR w R ps x) (s:=Dt.aR w R ps k) (τ:=[some (.sh (iT (Dt.aR w R ps x))),o1,some (.sh (.int (Dt.det R ps))),some (.sh (.int (p:Nat))),some (.sh (iT (Dt.aR w R ps k))),some (.sh (.int (Dt.left R ps k p))),some (.sh (.int (Dt.left R ps x p)))]) rfl rfl) rfl rfl hc
 have e3:T.lst ([] ++ (List.zip (Dt.aR w R ps x) (Dt.aR w R ps k)).map (fun q=>T.int (Dt.left R ps k p * q.1 - Dt.left R ps x p * q.2)))=iT ((List.zip (Dt.aR w R ps x) (Dt.aR w R ps k)).map fun q=>Dt.left R ps k p * q.1 - Dt.left R ps x p * q.2):=by
  unfold iT
  rw [List.nil_append,List.map_map]
  rfl
 rw [e3] at e2
 have e4:((List.zip (Dt.aR w R ps x) (Dt.aR w R ps k)).map fun q=>Dt.left R ps k p * q.1 - Dt.left R ps x p * q.2).map (fun n=>n.fdiv (Dt.det R ps))=Dt.aR w (k :: R) (p :: ps) x:=by
  rw [List.map_map,<- Dt.z0 hd hn,<- fS]
  rfl
 have e5:=j3 (l:=(List.zip (Dt.aR w R ps x) (Dt.aR w R ps k)).map fun q=>Dt.left R ps k p * q.1 - Dt.left R ps x p * q.2) (by rw [List.length_map]; exact iU _ _ (by rw [Dt.di]; exact hw)) hd bd
 rw [e4] at e5
 unfold lI
 rw [bh e1,bh (da (i:=0) (aM (g:=vw) _ (dN (f:=AA) (g:=ae 2) e2 rfl) e5) rfl)]
 rfl
theorem CM {M:Nat} (hM:(8 * M + 1) ^ 5 < B) {w:Nat} {x:Dt.Row} (hw:w ≤ 8) (hx:lF M x) (o1:Option Sl):∀ {ks:List (Nat × List Int)} {R R':List Dt.Row} {ps ps':List Nat},Dt.Fw w R ps ks R' ps' -> Dt.det R ps ≠ 0 -> (∀ y ∈ R',lF M y) -> R'.length ≤ 4 -> ps'.length ≤ 4 -> ∀ (o3 o4 o5 o6:Option Sl),
  ∃ (o3' o4' o5' o6':Option Sl),bP (bp (ar (ak 3) (ar (ak 4) bo))) lI (ks.map pT) [some (.sh (iT (Dt.aR w R ps x))),o1,some (.sh (.int (Dt.det R ps))),o3,o4,o5,o6]=some (.nx [some (.sh (iT (Dt.aR w R' ps' x))),o1,some (.sh (.int (Dt.det R' ps'))),o3',o4',o5',o6']):=by
 intro ks R R' ps ps' h
 induction h with
 | nil=>exact fun _ _ _ _ o3 o4 o5 o6=>⟨o3,o4,o5,o6,rfl⟩
 | cons hp hn h ih =>
  rename_i R R' ps ps' ks k p
  intro hd hR hr hps o3 o4 o5 o6
  have sub:∀ {ks:List (Nat × List Int)} {A A':List Dt.Row} {b b':List Nat},Dt.Fw w A b ks A' b' -> (∀ y ∈ A,y ∈ A') /\ A.length ≤ A'.length /\ b.length ≤ b'.length:=fun h=>by
   induction h with
   | nil=>exact ⟨fun y hy=>hy,Nat.le_refl _,Nat.le_refl _⟩
   | cons _ _ _ ih=>exact ⟨fun y hy=>ih.1 y (List.mem_cons_of_mem _ hy),by have:=ih.2.1; simp only [List.length_cons] at this; omega,by have:=ih.2.2; simp only [List.length_cons] at this; omega⟩
  obtain ⟨s1,s2,s3⟩:=sub h
  simp only [List.length_cons] at s2 s3
  have bR:∀ y ∈ R,lF M y:=fun y hy=>hR y (s1 y (List.mem_cons_of_mem _ hy))
  have bK:lF M k:=hR k (s1 k List.mem_cons_self)
  have st:=CN (k:=k) (x:=x) hw hd hn hp (AL hM bR (by omega) (by omega)) (fun j=>Bq hM bK bR (by omega) (by omega) j) (fun j=>Bq hM hx bR (by omega) (by omega) j) o1 o5 o6
  obtain ⟨o3',o4',o5',o6',hL⟩:=ih hn hR hr hps (some (.sh (.int (p:Nat)))) (some (.sh (iT (Dt.aR w R ps k)))) (some (.sh (.int (Dt.left R ps k p)))) (some (.sh (.int (Dt.left R ps x p))))
  refine ⟨o3',o4',o5',o6',?_⟩
  rw [List.map_cons,bQ (τ1:=[some (.sh (iT (Dt.aR w R ps x))),o1,some (.sh (.int (Dt.det R ps))),some (.sh (.int (p:Nat))),some (.sh (iT (Dt.aR w R ps k))),o5,o6]) rfl st]
  exact hL
abbrev CQ:List T -> Option T:=cE 7 2 (eZ vw)
theorem rj:eZ vw=aE (aN 2 (fC (.int 1))) (aE (cG (aW (ae 1)) (bp (ar (ak 3) (ar (ak 4) bo))) lI) (a8 (ae 0))):=rfl
theorem vR {M:Nat} (hM:(8 * M + 1) ^ 5 < B) {w:Nat} {row:List Int} {ks:List (Nat × List Int)} {R:List Dt.Row} {ps:List Nat} (hl:row.length=w) (hw:w ≤ 8) (hx:lF M (Dt.rw row)) (h:Dt.Fw w [] [] ks R ps) (hR:∀ y ∈ R,lF M y) (hr:R.length ≤ 4) (hp:ps.length ≤ 4) :
  CQ [iT row,.lst (ks.map pT)]=some (iT (Dt.aR w R ps (Dt.rw row))):=by
 have e0:iT row=iT (Dt.aR w [] [] (Dt.rw row)):=by rw [<- Dt.oy hl]
 obtain ⟨o3,o4,o5,o6,hL⟩:=CM hM hw hx (some (.sh (.lst (ks.map pT)))) h (by decide) hR hr hp none none none none
 have hL':bP (bp (ar (ak 3) (ar (ak 4) bo))) lI (ks.map pT) [some (.sh (iT row)),some (.sh (.lst (ks.map pT))),some (.sh (.int 1)),none,none,none,none]=some (.nx [some (.sh (iT (Dt.aR w R ps (Dt.rw row)))),some (.sh (.lst (ks.map pT))),some (.sh (.int (Dt.det R ps))),o3,o4,o5,o6]):=by rw [e0]; exact hL
 have e1:cG (aW (ae 1)) (bp (ar (ak 3) (ar (ak 4) bo))) lI [some (.sh (iT row)),some (.sh (.lst (ks.map pT))),some (.sh (.int 1)),none,none,none,none]=_:=gQ rfl hL'
 have e2:aN 2 (fC (.int 1)) [some (.sh (iT row)),some (.sh (.lst (ks.map pT))),none,none,none,none,none]=some (.nx [some (.sh (iT row)),some (.sh (.lst (ks.map pT))),some (.sh (.int 1)),none,none,none,none]):=rfl
 have e3:eZ vw [some (.sh (iT row)),some (.sh (.lst (ks.map pT))),none,none,none,none,none]=some (.rt (iT (Dt.aR w R ps (Dt.rw row)))):=by
  rw [rj,bh e2,bh e1]
  rfl
 show ((eZ vw [some (.sh (iT row)),some (.sh (.lst (ks.map pT))),none,none,none,none,none]).bind fun r=>match r with | .rt t=>some t | .nx _=>some .non | _=>none)=_
 rw [e3]
 rfl
def kO:Option Nat -> T
 | none=>.non
 | some p=>.int (p:Nat)
def lP:FS:=bE (dw (aD j6 (aD cR (ae 0) (ae 2)) (fC (.int 0)))) (a8 (ae 2)) bf
theorem C8 {L:T} {o1:Option Sl} {k n:Int} (h:cR L (.int k)=some (.int n)):lP [some (.sh L),o1,some (.sh (.int k))]=if n=0 then some (.nx [some (.sh L),o1,some (.sh (.int k))]) else some (.rt (.int k)):=by
 unfold lP
 by_cases e:n=0
 ·subst e
  have e1:decide ((0:Int)=0)=true:=rfl
  rw [if_pos rfl]
  walk_at "ev"
 ·have e1:decide (n=0)=false:=by simpa using e
  rw [if_neg e]
  walk_at "ev"
theorem xI {l:List Int} {o1:Option Sl}:∀ (js:List Nat),(∀ j ∈ js,j < l.length) -> ∀ o2:Option Sl,(∃ o2',js.find? (fun j=>Dt.rw l j != 0)=none /\ bP (ak 2) lP (js.map fun (i:Nat)=>T.int i) [some (.sh (iT l)),o1,o2]=some (.nx [some (.sh (iT l)),o1,o2'])) \/ ∃ p:Nat,js.find? (fun j=>Dt.rw l j != 0)=some p /\ bP (ak 2) lP (js.map fun (i:Nat)=>T.int i) [some (.sh (iT l)),o1,o2]=some (.rt (.int (p:Nat)))
 | [],_,o2=>.inl ⟨o2,rfl,rfl⟩
 | j :: js,hj,o2=>by
  have ht:=C8 (o1:=o1) (lR (l:=l) (hj j List.mem_cons_self))
  by_cases e:l.getD j 0=0
  ·rw [if_pos e] at ht
   have ef:(Dt.rw l j != 0)=false:=by show (l.getD j 0 != 0)=false; rw [e]; rfl
   rcases xI js (fun i hi=>hj i (List.mem_cons_of_mem _ hi)) (some (.sh (.int (j:Nat)))) with ⟨o',h1,h2⟩ | ⟨p,h1,h2⟩
   ·refine .inl ⟨o',by rw [List.find?_cons,ef]; exact h1,?_⟩
    rw [List.map_cons,bQ (τ1:=[some (.sh (iT l)),o1,some (.sh (.int (j:Nat)))]) rfl ht]
    exact h2
   ·refine .inr ⟨p,by rw [List.find?_cons,ef]; exact h1,?_⟩
    rw [List.map_cons,bQ (τ1:=[some (.sh (iT l)),o1,some (.sh (.int (j:Nat)))]) rfl ht]
    exact h2
  ·rw [if_neg e] at ht
   have ef:(Dt.rw l j != 0)=true:=by show (l.getD j 0 != 0)=true; simpa using e
   refine .inr ⟨j,by rw [List.find?_cons,ef],?_⟩
   rw [List.map_cons]
   show (ak 2 (.int (j:Nat)) [some (.sh (iT l)),o1,o2]).bind _=_
   rw [show ak 2 (.int (j:Nat)) [some (.sh (iT l)),o1,o2]=some [some (.sh (iT l)),o1,some (.sh (.int (j:Nat)))] from rfl,Option.bind_some,ht]
   rfl
abbrev EX:List T -> Option T:=cE 3 2 dv
theorem oa {l:List Int} {w:Nat} (hl:w ≤ l.length) (hw:w ≤ 8):EX [iT l,.int (w:Nat)]=some (kO (Dt.fp w (Dt.rw l))):=by
 have er:=jH (f:=ae 1) (τ:=[some (.sh (iT l)),some (.sh (.int (w:Nat))),none]) (n:=w) rfl (by omega)
 have eb:dv=aE (cG (bS (aa (ae 1) ah)) (ak 2) lP) (a8 (fC .non)):=rfl
 show ((dv [some (.sh (iT l)),some (.sh (.int (w:Nat))),none]).bind fun r=>match r with | .rt t=>some t | .nx _=>some .non | _=>none)=_
 rw [eb]
 rcases xI (l:=l) (o1:=some (.sh (.int (w:Nat)))) (List.range w) (fun j hj=>Nat.lt_of_lt_of_le (List.mem_range.mp hj) hl) none with ⟨o',h1,h2⟩ | ⟨p,h1,h2⟩
 ·rw [bh (gQ er h2)]
  unfold Dt.fp
  rw [h1]
  rfl
 ·have e1:cG (bS (aa (ae 1) ah)) (ak 2) lP [some (.sh (iT l)),some (.sh (.int (w:Nat))),none]=some (.rt (.int (p:Nat))):=gQ er h2
  unfold aE
  rw [e1]
  unfold Dt.fp
  rw [h1]
  rfl
open PySem PySem.Spec PyProof.Rows L2 TM Qm Rq
theorem dX {i:Nat} {τ:aP} {t:T} (h:τ[i]? = some (some (.sh t))):ae i τ=some (t,τ):=by unfold ae; rw [h]
theorem nt:∀ {τ:aP} {j:Nat} {t:T},τ[j]? = some (some (.sh t)) -> (hide τ)[j]? = some (some (.sh t))
 | [],j,t,h=>by simp at h
 | some (.own _) :: τ,0,t,h=>by simp at h
 | some (.sh _) :: τ,0,t,h=>by simpa [hide] using h
 | none :: τ,0,t,h=>by simp at h
 | some (.own _) :: τ,j + 1,t,h=>by simpa [hide] using nt (τ:=τ) (j:=j) (by simpa using h)
 | some (.sh _) :: τ,j + 1,t,h=>by simpa [hide] using nt (τ:=τ) (j:=j) (by simpa using h)
 | none :: τ,j + 1,t,h=>by simpa [hide] using nt (τ:=τ) (j:=j) (by simpa using h)
theorem wY {i:Nat} {f:FE} {τ:aP} {us:List T} {t:T} (h:τ[i]? = some (some (.own us))) (hf:∀ τ':aP,τ'[i]? = some (some (.sh (.lst us))) -> (∀ (j:Nat) s,j ≠ i -> τ[j]? = some (some (.sh s)) -> τ'[j]? = some (some (.sh s))) -> f τ'=some (t,τ')) :
  cu i f τ=some (t,if apart us t=true then τ else τ.set i (some (.sh (.lst us)))):=by
 unfold cu
 rw [h]
 dsimp only
 rw [hf ((hide τ).set i (some (.sh (.lst us)))) (List.getElem?_set_self (by rw [fO]; exact (List.getElem?_eq_some_iff.mp h).1)) (fun j s hj e=>by rw [List.getElem?_set_ne (Ne.symm hj)]; exact nt e)]
 rfl
theorem yN {i:Nat} {f:FE} {τ:aP} {t:T} (h:τ[i]? = some (some (.sh t))):cu i f τ=f τ:=by
 unfold cu
 rw [h]
theorem mz (us:List T):∀ l:List Int,gy us (l.map T.int)=true
 | []=>by simp [gy]
 | a :: l=>by rw [List.map_cons,gy,mz us l]; simp [apart]
theorem vE {ks:List (Nat × List Int)} {l:List Int} (h:ks ≠ [] \/ l ≠ []):apart (ks.map pT) (iT l)=true:=by
 unfold iT
 rw [apart,mz,Bool.and_true]
 unfold HB
 cases ks with
 | nil =>
  cases l with
  | nil=>simp at h
  | cons a l=>simp
 | cons k ks =>
  cases l with
  | nil=>simp
  | cons a l=>simp [pT,kd]
theorem Aq {i:Nat} {f:FE} {τ:aP} {ts:List T} {t:T} (h:τ[i]? = some (some (.own ts))) (hf:f τ=some (t,τ)) (hl:ts.length < sizeLine):iB i f τ=some (.nx (τ.set i (some (.own (ts ++ [t]))))):=by
 unfold iB
 rw [h]
 dsimp only
 rw [hf,Option.bind_some]
 dsimp only
 rw [h]
 dsimp only
 rw [if_pos hl]
theorem wU {i j:Nat} {τ:aP} {a b:T} (h1:τ[i]? = some (some (.sh a))) (h2:τ[j]? = some (some (.sh b))):b0 (aa (ae i) (aa (ae j) ah)) τ=some (.tup [a,b],τ):=by
 have l2:=G5
 unfold b0 aa ah
 rw [dX h1,Option.bind_some,dX h2,Option.bind_some,Option.bind_some]
 show (if ([a,b]:List T).length ≤ sizeLine then some (T.tup [a,b],τ) else none)=_
 exact if_pos l2
def dJ (e:Option Nat × List Int):T:=.tup [kO e.1,iT e.2]
def aK (L w:Nat):List (List Int) -> List Dt.Row -> List Nat -> List (Option Nat × List Int)
 | [],_,_=>[]
 | row :: rest,R,ps=>match Dt.fp w (Dt.left R ps (Dt.rw row)) with
  | none=>(none,Dt.aR L R ps (Dt.rw row)) :: aK L w rest R ps
  | some p=>(some p,Dt.aR L R ps (Dt.rw row)) :: aK L w rest (Dt.rw row :: R) (p :: ps)
def jY:FS:=(aE (aN 5 (cu 3 (ai CQ (aa (ae 4) (aa (ae 3) ah)))))
  (aE (aN 6 (ai EX (aa (ae 5) (aa (ae 1) ah))))
  (aE (iB 2 (b0 (aa (ae 6) (aa (ae 5) ah))))
  (bE (dw (aD jc (ae 6) (fC .non))) (iB 3 (b0 (aa (ae 6) (aa (ae 5) ah)))) bf))))
theorem rf {i j:Nat} {d:List T -> Option T} {τ:aP} {a b t:T} (h1:τ[i]? = some (some (.sh a))) (h2:τ[j]? = some (some (.sh b))) (h:d [a,b]=some t):ai d (aa (ae i) (aa (ae j) ah)) τ=some (t,τ):=by
 unfold ai aa ah
 rw [dX h1,Option.bind_some,dX h2,Option.bind_some,Option.bind_some]
 show (d [a,b]).bind _=_
 rw [h]
 rfl
theorem xR {f:FE} {τ:aP} {t:T} (h:f τ=some (t,τ)):dw (aD jc f (fC .non)) τ=some (!ot t,τ):=by
 unfold dw aD
 rw [h]
 rfl
structure Cs (M L:Nat) (R:List Dt.Row) (ps:List Nat) (ks:List (Nat × List Int)):Prop where
 fw:Dt.Fw L [] [] ks R ps
 bd:∀ y ∈ R,lF M y
 lr:R.length ≤ 4
 lp:ps.length ≤ 4
def Hm (L:Nat) (ks:List (Nat × List Int)) (K3:Sl):Prop:=K3=.own (ks.map pT) \/ (L=0 /\ ks=[] /\ K3=.sh (.lst []))
theorem An {w:Nat} {ks:List (Nat × List Int)} {A A':List Dt.Row} {b b':List Nat} (h:Dt.Fw w A b ks A' b'):A'.length=A.length + ks.length /\ b'.length=b.length + ks.length:=by
 induction h with
 | nil=>exact ⟨rfl,rfl⟩
 | cons _ _ _ ih =>
  have:=ih.1
  have:=ih.2
  simp only [List.length_cons] at *
  omega
theorem CP {M L:Nat} (hM:(8 * M + 1) ^ 5 < B) {R:List Dt.Row} {ps:List Nat} {ks:List (Nat × List Int)} (C:Cs M L R ps ks) {row:List Int} (hl:row.length=L) (hw:L ≤ 8) (hb:lF M (Dt.rw row)) {K3:Sl} (hK:Hm L ks K3) {r0 r1 r2 o5 o6:Option Sl} :
  ∃ K3',Hm L ks K3' /\ (L ≠ 0 -> K3'=.own (ks.map pT)) /\ cu 3 (ai CQ (aa (ae 4) (aa (ae 3) ah))) [r0,r1,r2,some K3,some (.sh (iT row)),o5,o6]=some (iT (Dt.aR L R ps (Dt.rw row)),[r0,r1,r2,some K3',some (.sh (iT row)),o5,o6]):=by
 have ev:=vR hM hl hw hb C.fw C.bd (by have:=C.lr; omega) (by have:=C.lp; omega)
 rcases hK with rfl | ⟨h0,rfl,rfl⟩
 ·have hv:=wY (i:=3) (f:=ai CQ (aa (ae 4) (aa (ae 3) ah))) (τ:=[r0,r1,r2,some (.own (ks.map pT)),some (.sh (iT row)),o5,o6]) (us:=ks.map pT) rfl (fun τ' h1 h2=>rf (h2 4 (iT row) (by decide) rfl) h1 ev)
  by_cases hap:apart (ks.map pT) (iT (Dt.aR L R ps (Dt.rw row)))=true
  ·rw [if_pos hap] at hv
   exact ⟨_,.inl rfl,fun _=>rfl,hv⟩
  ·rw [if_neg hap] at hv
   have h1:¬ (ks ≠ [] \/ Dt.aR L R ps (Dt.rw row) ≠ []):=fun z=>hap (vE z)
   have h2:ks=[]:=Classical.byContradiction fun z=>h1 (.inl z)
   have h3:Dt.aR L R ps (Dt.rw row)=[]:=Classical.byContradiction fun z=>h1 (.inr z)
   have h4:L=0:=by have:=Dt.di L R ps (Dt.rw row); rw [h3] at this; simpa using this.symm
   subst h2
   exact ⟨.sh (.lst []),.inr ⟨h4,rfl,rfl⟩,fun z=>absurd h4 z,hv⟩
 ·refine ⟨.sh (.lst []),.inr ⟨h0,rfl,rfl⟩,fun z=>absurd h0 z,?_⟩
  rw [yN (t:=.lst []) rfl]
  exact rf rfl rfl ev
theorem A6 {L w:Nat} (hwL:w ≤ L) {R:List Dt.Row} {ps:List Nat} {x:Dt.Row}:Dt.fp w (Dt.rw (Dt.aR L R ps x))=Dt.fp w (Dt.left R ps x):=Dt.A5 fun j hj=>by rw [Dt.dR (by omega)]
theorem CO {M L w:Nat} (hM:(8 * M + 1) ^ 5 < B) (hwL:w ≤ L) {R:List Dt.Row} {ps:List Nat} {ks:List (Nat × List Int)} (C:Cs M L R ps ks) {row:List Int} (hl:row.length=L) (hw:L ≤ 8) (hb:lF M (Dt.rw row)) {K3:Sl} (hK:Hm L ks K3) {S:List T} (hS:S.length ≤ 20) (r0 o5 o6:Option Sl) :
  ∃ (K3':Sl) (ks':List (Nat × List Int)),Hm L ks' K3' /\ (∀ p,Dt.fp w (Dt.left R ps (Dt.rw row))=some p -> ks'=ks ++ [(p,Dt.aR L R ps (Dt.rw row))]) /\ (Dt.fp w (Dt.left R ps (Dt.rw row))=none -> ks'=ks) /\
   jY [r0,some (.sh (.int (w:Nat))),some (.own S),some K3,some (.sh (iT row)),o5,o6]=some (.nx [r0,some (.sh (.int (w:Nat))),some (.own (S ++ [dJ (Dt.fp w (Dt.left R ps (Dt.rw row)),Dt.aR L R ps (Dt.rw row))])),some K3',some (.sh (iT row)),some (.sh (iT (Dt.aR L R ps (Dt.rw row)))),some (.sh (kO (Dt.fp w (Dt.left R ps (Dt.rw row)))))]):=by
 obtain ⟨K4,hK4,hw0,hv⟩:=CP hM C hl hw hb hK (r0:=r0) (r1:=some (.sh (.int (w:Nat)))) (r2:=some (.own S)) (o5:=o5) (o6:=o6)
 have hf:=oa (l:=Dt.aR L R ps (Dt.rw row)) (w:=w) (by rw [Dt.di]; exact hwL) (by omega)
 rw [A6 hwL] at hf
 have hks:ks.length ≤ 4:=by have:=(An C.fw).1; have:=C.lr; simp only [List.length_nil] at *; omega
 generalize hq:Dt.fp w (Dt.left R ps (Dt.rw row))=q at hf
 generalize hL:Dt.aR L R ps (Dt.rw row)=L at hv hf
 have e1:aN 5 (cu 3 (ai CQ (aa (ae 4) (aa (ae 3) ah)))) [r0,some (.sh (.int (w:Nat))),some (.own S),some K3,some (.sh (iT row)),o5,o6]=some (.nx [r0,some (.sh (.int (w:Nat))),some (.own S),some K4,some (.sh (iT row)),some (.sh (iT L)),o6]):=da hv rfl
 have e2:aN 6 (ai EX (aa (ae 5) (aa (ae 1) ah))) [r0,some (.sh (.int (w:Nat))),some (.own S),some K4,some (.sh (iT row)),some (.sh (iT L)),o6]=some (.nx [r0,some (.sh (.int (w:Nat))),some (.own S),some K4,some (.sh (iT row)),some (.sh (iT L)),some (.sh (kO q))]):=da (rf rfl rfl hf) rfl
 have e3:iB 2 (b0 (aa (ae 6) (aa (ae 5) ah))) [r0,some (.sh (.int (w:Nat))),some (.own S),some K4,some (.sh (iT row)),some (.sh (iT L)),some (.sh (kO q))]=some (.nx [r0,some (.sh (.int (w:Nat))),some (.own (S ++ [dJ (q,L)])),some K4,some (.sh (iT row)),some (.sh (iT L)),some (.sh (kO q))]):=Aq rfl (wU rfl rfl) (dz (by omega))
 have t4:dw (aD jc (ae 6) (fC .non)) [r0,some (.sh (.int (w:Nat))),some (.own (S ++ [dJ (q,L)])),some K4,some (.sh (iT row)),some (.sh (iT L)),some (.sh (kO q))]=some (!ot (kO q),[r0,some (.sh (.int (w:Nat))),some (.own (S ++ [dJ (q,L)])),some K4,some (.sh (iT row)),some (.sh (iT L)),some (.sh (kO q))]):=xR rfl
 cases q with
 | none =>
  refine ⟨K4,ks,hK4,(fun p e=>by cases e),(fun _=>rfl),?_⟩
  unfold jY
  rw [bh e1,bh e2,bh e3]
  unfold bE
  rw [t4]
  rfl
 | some p =>
  have hpw:=(Dt.jG hq).1
  have hK5:K4=.own (ks.map pT):=hw0 (by omega)
  subst hK5
  refine ⟨.own ((ks ++ [(p,L)]).map pT),ks ++ [(p,L)],.inl rfl,(fun p' e=>by cases e; rfl),(fun e=>by cases e),?_⟩
  unfold jY
  rw [bh e1,bh e2,bh e3]
  unfold bE
  rw [t4]
  have e5:iB 3 (b0 (aa (ae 6) (aa (ae 5) ah))) [r0,some (.sh (.int (w:Nat))),some (.own (S ++ [dJ (some p,L)])),some (.own (ks.map pT)),some (.sh (iT row)),some (.sh (iT L)),some (.sh (kO (some p)))]=some (.nx [r0,some (.sh (.int (w:Nat))),some (.own (S ++ [dJ (some p,L)])),some (.own (ks.map pT ++ [pT (p,L)])),some (.sh (iT row)),some (.sh (iT L)),some (.sh (kO (some p)))]):=Aq rfl (wU rfl rfl) (dz (by rw [List.length_map]; omega))
  have e6:(ks ++ [(p,L)]).map pT=ks.map pT ++ [pT (p,L)]:=by rw [List.map_append]; rfl
  show iB 3 (b0 (aa (ae 6) (aa (ae 5) ah))) [r0,some (.sh (.int (w:Nat))),some (.own (S ++ [dJ (some p,L)])),some (.own (ks.map pT)),some (.sh (iT row)),some (.sh (iT L)),some (.sh (kO (some p)))]=_
  rw [e5,e6]
theorem xu {M L w:Nat} (hM:(8 * M + 1) ^ 5 < B) (hwL:w ≤ L) (hw:L ≤ 8) (r0:Option Sl):∀ (rows:List (List Int)) (R:List Dt.Row) (ps:List Nat) (ks:List (Nat × List Int)) (K3:Sl) (S:List T) (o4 o5 o6:Option Sl),Cs M L R ps ks -> R.length + rows.length ≤ 4 -> (∀ row ∈ rows,row.length=L /\ lF M (Dt.rw row)) -> Hm L ks K3 -> S.length + rows.length ≤ 20 ->
  ∃ K3' o4' o5' o6',bP (ak 4) jY (rows.map iT) [r0,some (.sh (.int (w:Nat))),some (.own S),some K3,o4,o5,o6]=some (.nx [r0,some (.sh (.int (w:Nat))),some (.own (S ++ (aK L w rows R ps).map dJ)),K3',o4',o5',o6'])
 | [],R,ps,ks,K3,S,o4,o5,o6,C,_,_,hK,_=>⟨some K3,o4,o5,o6,by simp [bP,aK]⟩
 | row :: rows,R,ps,ks,K3,S,o4,o5,o6,C,hr,hb,hK,hS=>by
  simp only [List.length_cons] at hr hS
  obtain ⟨b1,b2⟩:=hb row List.mem_cons_self
  obtain ⟨K3',ks',hK',h1,h2,ht⟩:=CO hM hwL C b1 hw b2 hK (S:=S) (by omega) r0 o5 o6
  have hln:=An C.fw
  simp only [List.length_nil,Nat.zero_add] at hln
  have hstep:∀ {R' ps'},Cs M L R' ps' ks' -> R'.length + rows.length ≤ 4 -> aK L w (row :: rows) R ps=(Dt.fp w (Dt.left R ps (Dt.rw row)),Dt.aR L R ps (Dt.rw row)) :: aK L w rows R' ps' -> ∃ K3' o4' o5' o6',bP (ak 4) jY ((row :: rows).map iT) [r0,some (.sh (.int (w:Nat))),some (.own S),some K3,o4,o5,o6]=some (.nx [r0,some (.sh (.int (w:Nat))),some (.own (S ++ (aK L w (row :: rows) R ps).map dJ)),K3',o4',o5',o6']):=fun {R' ps'} C' hr' es=>by
   obtain ⟨K4,p4,p5,p6,hL⟩:=xu hM hwL hw r0 rows R' ps' ks' K3' (S ++ [dJ (Dt.fp w (Dt.left R ps (Dt.rw row)),Dt.aR L R ps (Dt.rw row))]) (some (.sh (iT row))) (some (.sh (iT (Dt.aR L R ps (Dt.rw row))))) (some (.sh (kO (Dt.fp w (Dt.left R ps (Dt.rw row)))))) C' hr' (fun r hr=>hb r (List.mem_cons_of_mem _ hr)) hK' (by rw [List.length_append]; simp only [List.length_cons,List.length_nil]; omega)
   refine ⟨K4,p4,p5,p6,?_⟩
   rw [List.map_cons,bQ (τ1:=[r0,some (.sh (.int (w:Nat))),some (.own S),some K3,some (.sh (iT row)),o5,o6]) rfl ht,hL,es,List.map_cons,List.append_assoc]
   rfl
  cases e:Dt.fp w (Dt.left R ps (Dt.rw row)) with
  | none =>
   have hk:=h2 e
   subst hk
   exact hstep C (by omega) (by rw [aK,e])
  | some p =>
   have hk:=h1 p e
   obtain ⟨hp,hn⟩:=Dt.jG e
   refine hstep (R':=Dt.rw row :: R) (ps':=p :: ps) ⟨?_,?_,?_,?_⟩ (by simp only [List.length_cons]; omega) (by rw [aK,e])
   ·rw [hk]; exact C.fw.snoc (by omega) hn
   ·intro y hy
    rcases List.mem_cons.mp hy with rfl | hy
    ·exact b2
    ·exact C.bd y hy
   ·simp only [List.length_cons]; omega
   ·simp only [List.length_cons]; omega
abbrev zk:List T -> Option T:=cE 7 2 (df CQ EX)
theorem CD:df CQ EX=aE (nh 2 3) (aE (cG (aW (ae 0)) (ak 4) jY) (a8 (ae 2))):=rfl
theorem fQ {M L w:Nat} (hM:(8 * M + 1) ^ 5 < B) (hwL:w ≤ L) {rows:List (List Int)} (hw:L ≤ 8) (hr:rows.length ≤ 4) (hb:∀ row ∈ rows,row.length=L /\ lF M (Dt.rw row)):zk [.lst (rows.map iT),.int (w:Nat)]=some (.lst ((aK L w rows [] []).map dJ)):=by
 obtain ⟨K3',o4,o5,o6,hL⟩:=xu hM hwL hw (some (.sh (.lst (rows.map iT)))) rows [] [] [] (.own []) [] none none none ⟨.nil,(fun _ h=>by cases h),Nat.zero_le _,Nat.zero_le _⟩ (by simpa using hr) hb (.inl rfl) (by simp; omega)
 have e1:nh 2 3 [some (.sh (.lst (rows.map iT))),some (.sh (.int (w:Nat))),none,none,none,none,none]=some (.nx [some (.sh (.lst (rows.map iT))),some (.sh (.int (w:Nat))),some (.own []),some (.own []),none,none,none]):=rfl
 have e2:cG (aW (ae 0)) (ak 4) jY [some (.sh (.lst (rows.map iT))),some (.sh (.int (w:Nat))),some (.own []),some (.own []),none,none,none]=_:=gQ rfl hL
 show ((df CQ EX [some (.sh (.lst (rows.map iT))),some (.sh (.int (w:Nat))),none,none,none,none,none]).bind fun r=>match r with | .rt t=>some t | .nx _=>some .non | _=>none)=_
 rw [CD,bh e1,bh e2]
 rfl
open PySem PySem.Spec PyProof.Rows L2 TM Qm Rq
def HN:FT:=dw (aD jc (ae 0) (fC .non))
def G4:FE:=b0 (aa (ae 0) (aa (ae 1) ah))
def cV (st:List (Option Nat × List Int)):List (Option Nat × List Int):=st.filter fun e=>e.1.isSome
theorem sJ:∀ (st:List (Option Nat × List Int)) (u v:Option Sl) (acc:List T),acc.length + st.length ≤ 1000 -> c8 fm HN G4 (st.map dJ) [u,v] acc=some (acc ++ (cV st).map dJ)
 | [],u,v,acc,_=>by simp [c8,cV]
 | (q,l) :: st,u,v,acc,h=>by
  simp only [List.length_cons] at h
  have e1:fm (dJ (q,l)) [u,v]=some [some (.sh (kO q)),some (.sh (iT l))]:=rfl
  have e2:HN [some (.sh (kO q)),some (.sh (iT l))]=some (!ot (kO q),[some (.sh (kO q)),some (.sh (iT l))]):=xR rfl
  rw [List.map_cons,c8,e1,Option.bind_some,e2,Option.bind_some]
  cases q with
  | none =>
   show c8 fm HN G4 (st.map dJ) [some (.sh (kO none)),some (.sh (iT l))] acc=_
   rw [sJ st _ _ acc (by omega)]
   rfl
  | some p =>
   have e3:G4 [some (.sh (kO (some p))),some (.sh (iT l))]=some (dJ (some p,l),[some (.sh (kO (some p))),some (.sh (iT l))]):=wU rfl rfl
   show ((G4 [some (.sh (kO (some p))),some (.sh (iT l))]).bind fun q=>if cz q.2=true /\ acc.length < sizeLine then c8 fm HN G4 (st.map dJ) q.2 (acc ++ [q.1]) else none)=_
   rw [e3,Option.bind_some]
   refine (if_pos ⟨rfl,dz (by omega)⟩).trans ?_
   rw [sJ st _ _ _ (by rw [List.length_append]; simp only [List.length_cons,List.length_nil]; omega),show cV ((some p,l) :: st)=(some p,l) :: cV st from rfl,List.map_cons,List.append_assoc]
   rfl
abbrev Ag:List T -> Option T:=cE 1 1 dQ
theorem xG {st:List (Option Nat × List Int)} (h:st.length ≤ 100):Ag [.lst (st.map dJ)]=some (.lst ((cV st).map dJ)):=by
 have hc:=sJ st none none [] (by rw [List.length_nil]; omega)
 have e:=cF (no:=2) (cap:=[]) (fi:=aW (ae 0)) (fg:=fm) (ft:=HN) (fe:=G4) (τ:=[some (.sh (.lst (st.map dJ)))]) (h1:=rfl) rfl rfl hc
 show ((dQ [some (.sh (.lst (st.map dJ)))]).bind _)=_
 have e2:dQ [some (.sh (.lst (st.map dJ)))]=_:=mN e
 rw [e2]
 rfl
abbrev Cn:List T -> Option T:=cE 3 1 eH
theorem De {L:List T} {t:T}:cR (.lst (L ++ [t])) (.int (-1))=some t:=by
 show mB (L ++ [t]) (-1)=_
 unfold mB wg
 rw [if_neg (by decide),List.length_append,List.length_cons,List.length_nil]
 rw [if_pos (by omega)]
 rw [Option.bind_some,show (-1:Int) + ((L.length + (0 + 1):Nat):Int)=(L.length:Nat) by omega,Int.toNat_natCast,List.getElem?_append_right (Nat.le_refl _),Nat.sub_self]
 rfl
theorem CW {st:List (Option Nat × List Int)} {p:Nat} {l:List Int} (hp:p < l.length):Cn [.lst ((st ++ [(some p,l)]).map dJ)]=some (.int (l.getD p 0)):=by
 have e0:(st ++ [(some p,l)]).map dJ=st.map dJ ++ [.tup [.int (p:Nat),iT l]]:=by rw [List.map_append]; rfl
 have hx:=De (L:=st.map dJ) (t:=.tup [.int (p:Nat),iT l])
 have hi:=lR (l:=l) hp
 rw [e0]
 have hne:(st.map dJ ++ [T.tup [.int (p:Nat),iT l]]).isEmpty=false:=by cases st.map dJ <;> rfl
 generalize hL:st.map dJ ++ [T.tup [.int (p:Nat),iT l]]=L at hx hne
 have e1:bE (gB (eL (ae 0))) (a8 (fC (.int 1))) bf [some (.sh (.lst L)),none,none]=some (.nx [some (.sh (.lst L)),none,none]):=by
  show (if (!(!L.isEmpty))=true then _ else _)=_
  rw [hne]
  rfl
 have e2:oh (aD cR (ae 0) (mT oo (fC (.int 1)))) (bp (ar (ak 1) (ar (ak 2) bo))) [some (.sh (.lst L)),none,none]=some (.nx [some (.sh (.lst L)),some (.sh (.int (p:Nat))),some (.sh (iT l))]):=by
  have e3:aD cR (ae 0) (mT oo (fC (.int 1))) [some (.sh (.lst L)),none,none]=some (.tup [.int (p:Nat),iT l],[some (.sh (.lst L)),none,none]):=by
   show ((cR (.lst L) (.int (-1))).bind fun t=>some (t,_))=_
   rw [hx]
   rfl
  show ((aD cR (ae 0) (mT oo (fC (.int 1))) [some (.sh (.lst L)),none,none]).bind _)=_
  rw [e3]
  rfl
 have e4:a8 (aD cR (ae 2) (ae 1)) [some (.sh (.lst L)),some (.sh (.int (p:Nat))),some (.sh (iT l))]=some (.rt (.int (l.getD p 0))):=by
  show (((cR (iT l) (.int (p:Nat))).bind fun t=>some (t,_)).bind _)=_
  rw [hi]
  rfl
 show ((eH [some (.sh (.lst L)),none,none]).bind _)=_
 have e5:eH [some (.sh (.lst L)),none,none]=some (.rt (.int (l.getD p 0))):=by
  show aE _ (aE _ _) _=_
  rw [bh e1,bh e2,e4]
 rw [e5]
 rfl
def EB (l:List Nat) (b:Nat):Int:=l.foldl (fun s a=>s * Dt.ko a b) 1
theorem pe (b:Nat):∀ (l:List Nat) (s:Int),l.foldl (fun s a=>s * Dt.ko a b) s=s * EB l b
 | [],s=>by show s=s * 1; omega
 | a :: l,s=>by
  unfold EB
  rw [List.foldl_cons,List.foldl_cons,pe b l,pe b l]
  grind
theorem vf (a b:Nat) (l:List Nat):EB (a :: l) b=Dt.ko a b * EB l b:=by
 show (l.foldl (fun s a=>s * Dt.ko a b) (1 * Dt.ko a b))=_
 rw [pe]
 grind
theorem ve (a b:Nat):∀ l,Dt.nC a (l ++ [b])=Dt.nC a l * Dt.ko a b
 | []=>by show Dt.ko a b * 1=1 * Dt.ko a b; omega
 | c :: l=>by
  show Dt.ko a c * Dt.nC a (l ++ [b])=Dt.ko a c * Dt.nC a l * Dt.ko a b
  rw [ve a b l]
  grind
theorem vg (b:Nat):∀ l,Dt.sgn (l ++ [b])=Dt.sgn l * EB l b
 | []=>rfl
 | a :: l=>by
  show Dt.nC a (l ++ [b]) * Dt.sgn (l ++ [b])=Dt.nC a l * Dt.sgn l * EB (a :: l) b
  rw [ve,vg b l,vf]
  grind
def DU:FS:=bE (dw (aD vW (ae 4) (ae 3))) (aN 1 (mT oo (ae 1))) bf
theorem EC {o0 o2:Option Sl} {b:Nat}:∀ (l:List Nat) (s:Int) (o4:Option Sl),∃ o4',bP (ak 4) DU (l.map fun (i:Nat)=>T.int (i:Nat)) [o0,some (.sh (.int s)),o2,some (.sh (.int (b:Nat))),o4]=some (.nx [o0,some (.sh (.int (s * EB l b))),o2,some (.sh (.int (b:Nat))),o4'])
 | [],s,o4=>⟨o4,by rw [show s * EB [] b=s by show s * 1=s; omega]; rfl⟩
 | a :: l,s,o4=>by
  obtain ⟨o4',h⟩:=EC (o0:=o0) (o2:=o2) (b:=b) l (s * Dt.ko a b) (some (.sh (.int (a:Nat))))
  refine ⟨o4',?_⟩
  have ht:DU [o0,some (.sh (.int s)),o2,some (.sh (.int (b:Nat))),some (.sh (.int (a:Nat)))]=some (.nx [o0,some (.sh (.int (s * Dt.ko a b))),o2,some (.sh (.int (b:Nat))),some (.sh (.int (a:Nat)))]):=by
   have e1:dw (aD vW (ae 4) (ae 3)) [o0,some (.sh (.int s)),o2,some (.sh (.int (b:Nat))),some (.sh (.int (a:Nat)))]=some (decide ((a:Int) > (b:Int)),[o0,some (.sh (.int s)),o2,some (.sh (.int (b:Nat))),some (.sh (.int (a:Nat)))]):=rfl
   unfold DU bE
   rw [e1,Option.bind_some]
   by_cases hab:b < a
   ·have hd:decide ((a:Int) > (b:Int))=true:=by rw [decide_eq_true_iff]; omega
    rw [hd,show s * Dt.ko a b = -s by unfold Dt.ko; rw [if_pos hab]; omega]
    rfl
   ·have hd:decide ((a:Int) > (b:Int))=false:=by rw [decide_eq_false_iff_not]; omega
    rw [hd,show s * Dt.ko a b=s by unfold Dt.ko; rw [if_neg hab]; omega]
    rfl
  rw [List.map_cons,bQ (τ1:=[o0,some (.sh (.int s)),o2,some (.sh (.int (b:Nat))),some (.sh (.int (a:Nat)))]) rfl ht,h,vf,Int.mul_assoc]
def cj (l:List Nat):T:=.lst (l.map fun (i:Nat)=>T.int (i:Nat))
def yr:FS:=cG (aW (Ai (ae 0) eP (d0 (ae 2)))) (ak 4) DU
theorem Gz (l:List Nat) (k:Nat) (h:k ≤ l.length):G3 (cj l) none (some (k:Int))=some (cj (l.take k)):=by
 show some (T.lst (lK (l.map fun (i:Nat)=>T.int (i:Nat)) none (some (k:Int))))=_
 unfold lK
 rw [HT.nA,HT.u7,List.length_map,Nat.min_eq_left h,List.drop_zero,Nat.sub_zero,<- List.map_take]
 rfl
theorem yt:∀ (rest pre ps:List Nat) (o2 o3 o4:Option Sl),ps=pre ++ rest -> ∃ o2' o3' o4',bP (bp (ar (ak 2) (ar (ak 3) bo))) yr (xF pre.length (rest.map fun (i:Nat)=>T.int (i:Nat))) [some (.sh (cj ps)),some (.sh (.int (Dt.sgn pre))),o2,o3,o4]=some (.nx [some (.sh (cj ps)),some (.sh (.int (Dt.sgn ps))),o2',o3',o4'])
 | [],pre,ps,o2,o3,o4,h=>⟨o2,o3,o4,by rw [h,List.append_nil]; rfl⟩
 | b :: rest,pre,ps,o2,o3,o4,h=>by
  obtain ⟨o4a,hin⟩:=EC (o0:=some (.sh (cj ps))) (o2:=some (.sh (.int (pre.length:Nat)))) (b:=b) pre (Dt.sgn pre) o4
  have ht:yr [some (.sh (cj ps)),some (.sh (.int (Dt.sgn pre))),some (.sh (.int (pre.length:Nat))),some (.sh (.int (b:Nat))),o4]=some (.nx [some (.sh (cj ps)),some (.sh (.int (Dt.sgn (pre ++ [b])))),some (.sh (.int (pre.length:Nat))),some (.sh (.int (b:Nat))),o4a]):=by
   rw [vg]
   have hc:=Gz ps pre.length (by rw [h,List.length_append]; omega)
   rw [show ps.take pre.length=pre by rw [h]; exact List.take_left] at hc
   have e1:aW (Ai (ae 0) eP (d0 (ae 2))) [some (.sh (cj ps)),some (.sh (.int (Dt.sgn pre))),some (.sh (.int (pre.length:Nat))),some (.sh (.int (b:Nat))),o4]=some (pre.map fun (i:Nat)=>T.int (i:Nat),[some (.sh (cj ps)),some (.sh (.int (Dt.sgn pre))),some (.sh (.int (pre.length:Nat))),some (.sh (.int (b:Nat))),o4]):=by
    have e2:Ai (ae 0) eP (d0 (ae 2)) [some (.sh (cj ps)),some (.sh (.int (Dt.sgn pre))),some (.sh (.int (pre.length:Nat))),some (.sh (.int (b:Nat))),o4]=some (cj pre,[some (.sh (cj ps)),some (.sh (.int (Dt.sgn pre))),some (.sh (.int (pre.length:Nat))),some (.sh (.int (b:Nat))),o4]):=by
     show ((G3 (cj ps) none (some (pre.length:Int))).bind fun t=>some (t,_))=_
     rw [hc]
     rfl
    unfold aW
    rw [e2]
    rfl
   exact gQ e1 hin
  obtain ⟨o2',o3',o4',hr⟩:=yt rest (pre ++ [b]) ps (some (.sh (.int (pre.length:Nat)))) (some (.sh (.int (b:Nat)))) o4a (by rw [h,List.append_assoc]; rfl)
  refine ⟨o2',o3',o4',?_⟩
  rw [List.map_cons,xF,bQ (τ1:=[some (.sh (cj ps)),some (.sh (.int (Dt.sgn pre))),some (.sh (.int (pre.length:Nat))),some (.sh (.int (b:Nat))),o4]) rfl ht]
  rw [List.length_append] at hr
  exact hr
abbrev G2:List T -> Option T:=cE 5 1 gh
theorem C3 (ps:List Nat):G2 [cj ps]=some (.int (Dt.sgn ps)):=by
 obtain ⟨o2,o3,o4,h⟩:=yt ps [] ps none none none rfl
 have e1:cG (j5 (aa (ae 0) ah)) (bp (ar (ak 2) (ar (ak 3) bo))) yr [some (.sh (cj ps)),some (.sh (.int 1)),none,none,none]=_:=gQ rfl h
 have e2:gh [some (.sh (cj ps)),none,none,none,none]=some (.rt (.int (Dt.sgn ps))):=by
  show aE (aN 1 (fC (.int 1))) (aE (cG (j5 (aa (ae 0) ah)) (bp (ar (ak 2) (ar (ak 3) bo))) yr) (a8 (ae 1))) _=_
  rw [bh (τ':=[some (.sh (cj ps)),some (.sh (.int 1)),none,none,none]) rfl,bh e1]
  rfl
 show ((gh [some (.sh (cj ps)),none,none,none,none]).bind _)=_
 rw [e2]
 rfl
open PySem PySem.Spec PyProof.Rows L2 TM Qm Rq
theorem jd (st:List (Option Nat × List Int)):(cV st).length ≤ st.length:=List.length_filter_le _ _
theorem dI (L w:Nat):∀ (rows:List (List Int)) (R:List Dt.Row) (ps:List Nat),(aK L w rows R ps).length=rows.length
 | [],_,_=>rfl
 | row :: rows,R,ps=>by
  rw [aK]
  split
  ·rw [List.length_cons,dI L w rows,List.length_cons]
  ·rw [List.length_cons,dI L w rows,List.length_cons]
theorem sI (L w:Nat):∀ (rows:List (List Int)) (i:Nat) (R:List Dt.Row) (ps:List Nat),(cV (aK L w rows R ps)).length=(Dt.fr w (rows.map Dt.rw) i R ps).length
 | [],i,R,ps=>rfl
 | row :: rows,i,R,ps=>by
  rw [aK,List.map_cons,Dt.fr]
  cases e:Dt.fp w (Dt.left R ps (Dt.rw row)) with
  | none=>exact sI L w rows (i + 1) R ps
  | some p =>
   show (cV (aK L w rows (Dt.rw row :: R) (p :: ps))).length + 1=_
   rw [sI L w rows (i + 1)]
   rfl
theorem kn {L w:Nat} (hwL:w ≤ L):∀ (rows:List (List Int)) (R:List Dt.Row) (ps:List Nat),(cV (aK L w rows R ps)).length=rows.length -> ps.Nodup -> (∀ p ∈ ps,p < w) -> Dt.det R ps ≠ 0 ->
  ∃ qs:List Nat,qs.length=rows.length /\ (aK L w rows R ps).map (·.1)=qs.map some /\ (qs.reverse ++ ps).Nodup /\ (∀ p ∈ qs.reverse ++ ps,p < w) /\ Dt.det ((rows.map Dt.rw).reverse ++ R) (qs.reverse ++ ps) ≠ 0 /\
   (rows ≠ [] -> ∃ st p l,aK L w rows R ps=st ++ [(some p,l)] /\ p < l.length /\ l.getD p 0=Dt.det ((rows.map Dt.rw).reverse ++ R) (qs.reverse ++ ps))
 | [],R,ps,_,hn,hp,hd=>⟨[],rfl,rfl,hn,hp,hd,fun h=>absurd rfl h⟩
 | row :: rows,R,ps,hk,hn,hp,hd=>by
  cases e:Dt.fp w (Dt.left R ps (Dt.rw row)) with
  | none =>
   have e1:aK L w (row :: rows) R ps=(none,Dt.aR L R ps (Dt.rw row)) :: aK L w rows R ps:=by rw [aK,e]
   rw [e1] at hk
   have h2:(cV (aK L w rows R ps)).length=rows.length + 1:=hk
   have h3:=jd (aK L w rows R ps)
   rw [dI] at h3
   omega
  | some p =>
   have e1:aK L w (row :: rows) R ps=(some p,Dt.aR L R ps (Dt.rw row)) :: aK L w rows (Dt.rw row :: R) (p :: ps):=by rw [aK,e]
   obtain ⟨pw,pn⟩:=Dt.jG e
   have h2:(cV (aK L w rows (Dt.rw row :: R) (p :: ps))).length + 1=rows.length + 1:=by rw [e1] at hk; exact hk
   have pnot:p ∉ ps:=fun h=>pn (Dt.xZ h)
   obtain ⟨qs,q1,q2,q3,q4,q5,q6⟩:=kn hwL rows (Dt.rw row :: R) (p :: ps) (by omega) (List.nodup_cons.mpr ⟨pnot,hn⟩) (fun q hq=>by
    rcases List.mem_cons.mp hq with rfl | hq
    ·exact pw
    ·exact hp q hq) pn
   have ee:(p :: qs).reverse ++ ps=qs.reverse ++ (p :: ps):=by rw [List.reverse_cons,List.append_assoc]; rfl
   have er:((row :: rows).map Dt.rw).reverse ++ R=(rows.map Dt.rw).reverse ++ (Dt.rw row :: R):=by rw [List.map_cons,List.reverse_cons,List.append_assoc]; rfl
   rw [e1]
   refine ⟨p :: qs,by rw [List.length_cons,List.length_cons,q1],by rw [List.map_cons,q2,List.map_cons],?_⟩
   rw [ee,er]
   refine ⟨q3,q4,q5,fun _=>?_⟩
   by_cases hr:rows=[]
   ·subst hr
    have:qs=[]:=List.length_eq_zero_iff.mp q1
    subst this
    exact ⟨[],p,_,rfl,by rw [Dt.di]; omega,Dt.dR (by omega)⟩
   ·obtain ⟨st,p',l,s1,s2,s3⟩:=q6 hr
    exact ⟨_ :: st,p',l,by rw [s1]; rfl,s2,s3⟩
theorem map_range {α β:Type} (f:α -> β) (d:α) (l:List α):l.map f=(List.range l.length).map fun i=>f (l.getD i d):=by
 apply List.ext_getElem?
 intro i
 rw [List.getElem?_map,List.getElem?_map]
 by_cases h:i < l.length
 ·rw [List.getElem?_eq_getElem h,List.getElem?_range h,Option.map_some,Option.map_some,List.getD_eq_getElem?_getD,List.getElem?_eq_getElem h]
  rfl
 ·rw [List.getElem?_eq_none (by omega),List.getElem?_eq_none (by rw [List.length_range]; omega)]
  rfl
def j0 (rows:List (List Int)):Int:=Dt.det (rows.map Dt.rw) (List.range rows.length)
theorem kI {L:Nat} {rows:List (List Int)} (h4:rows.length ≤ 4) (hL:rows.length ≤ L) (hk:(cV (aK L rows.length rows [] [])).length=rows.length) :
  j0 rows ≠ 0 /\ ∃ qs:List Nat,qs.length=rows.length /\ (aK L rows.length rows [] []).map (·.1)=qs.map some /\ Cn [.lst ((aK L rows.length rows [] []).map dJ)]=some (.int (Dt.det (rows.map Dt.rw).reverse qs.reverse)) /\ Dt.sgn qs * Dt.det (rows.map Dt.rw).reverse qs.reverse=j0 rows:=by
 obtain ⟨qs,q1,q2,q3,q4,q5,q6⟩:=kn hL rows [] [] hk List.nodup_nil (fun _ h=>by cases h) (by decide)
 rw [List.append_nil] at q3 q4 q5
 rw [List.append_nil] at q5
 have hs:=Dt.vO (n:=rows.length) h4 (R:=fun i=>Dt.rw (rows.getD i [])) (ps:=qs.reverse) ⟨by rw [List.length_reverse,q1],q4,q3⟩
 rw [List.reverse_reverse,List.map_reverse,<- map_range Dt.rw [] rows] at hs
 have hsg:Dt.sgn qs * Dt.det (rows.map Dt.rw).reverse qs.reverse=j0 rows:=hs
 refine ⟨?_,qs,q1,q2,?_,hsg⟩
 ·intro z
  rw [z] at hsg
  rcases Int.mul_eq_zero.mp hsg with e | e
  ·have h5:Dt.sgn qs * Dt.sgn qs.reverse=Dt.sgn (List.range rows.length).reverse:=(Dt.gp rows.length h4 qs (Dt.gE q1 fun p hp=>q4 p (List.mem_reverse.mpr hp)) ((List.reverse_perm _).nodup_iff.mp q3)).2
   rw [e,Int.zero_mul] at h5
   have:rows.length=0 \/ rows.length=1 \/ rows.length=2 \/ rows.length=3 \/ rows.length=4:=by omega
   rcases this with k | k | k | k | k <;> rw [k] at h5 <;> revert h5 <;> decide
  ·exact q5 e
 ·by_cases hr:rows=[]
  ·subst hr
   have:qs=[]:=List.length_eq_zero_iff.mp q1
   subst this
   rfl
  ·obtain ⟨st,p,l,s1,s2,s3⟩:=q6 hr
   rw [List.append_nil,List.append_nil] at s3
   rw [s1,CW s2,s3]
theorem nX {L:Nat} {rows:List (List Int)} (hk:(cV (aK L rows.length rows [] [])).length < rows.length):j0 rows=0:=by
 apply Classical.byContradiction
 intro h
 have:=Dt.BY (w:=rows.length) (A:=rows.map Dt.rw) (S:=rows.map Dt.rw) (cs:=List.range rows.length) (fun x hx=>hx) (fun c hc=>List.mem_range.mp hc) h
 rw [List.length_map] at this
 have e:Dt.rank rows.length (rows.map Dt.rw)=(cV (aK L rows.length rows [] [])).length:=(sI L rows.length rows 0 [] []).symm
 omega
def Gu (r:List Rat):Dq.Row:=fun j=>r.getD j 0
def bB (A:List (List Rat)):Rat:=Dq.det (A.map Gu) (List.range A.length)
def a9 (r:List Rat):List Int:=r.map (bC (aw r))
def eQ (A:List (List Rat)):Nat:=A.foldl (fun b r=>b * aw r) 1
theorem j8:∀ (A:List (List Rat)) (b:Nat),A.foldl (fun b r=>b * aw r) b=b * eQ A
 | [],b=>by show b=b * 1; omega
 | r :: A,b=>by
  unfold eQ
  rw [List.foldl_cons,List.foldl_cons,j8 A,j8 A,Nat.one_mul,Nat.mul_assoc]
theorem iH (r:List Rat) (A:List (List Rat)):eQ (r :: A)=aw r * eQ A:=by
 show A.foldl (fun b r=>b * aw r) (1 * aw r)=_
 rw [j8,Nat.one_mul]
theorem yj {r:List Rat} {D N:Nat} (h:Gn D N r) (j:Nat):Gu r j=(1 / ((aw r:Nat):Rat)) * ((Dt.rw (a9 r) j:Int):Rat):=by
 obtain ⟨h1,h2,h3⟩:=je h
 unfold Gu Dt.rw a9
 rw [List.getD_eq_getElem?_getD,List.getD_eq_getElem?_getD,List.getElem?_map]
 by_cases hj:j < r.length
 ·rw [List.getElem?_eq_getElem hj,Option.map_some,Option.getD_some,Option.getD_some]
  have e:=Cb h2 (h3 _ (List.getElem_mem hj))
  rw [Rat.divInt_eq_div] at e
  have e2:(((aw r:Nat):Int):Rat)=((aw r:Nat):Rat):=Rat.intCast_natCast _
  rw [e2] at e
  rw [<- e]
  have:((aw r:Nat):Rat) ≠ 0:=fun z=>by
   have:aw r=0:=by exact_mod_cast z
   omega
  rw [e]
  grind
 ·rw [List.getElem?_eq_none (by omega)]
  show (0:Rat)=_ * (((0:Int)):Rat)
  rw [show ((0:Int):Rat)=0 from rfl,Rat.mul_zero]
theorem xy {A:List (List Rat)} {D N:Nat} (h:∀ r ∈ A,Gn D N r):bB A=Rat.divInt (j0 (A.map a9)) (eQ A:Nat):=by
 have e1:A.map Gu=A.map fun r=>fun c=>(fun r:List Rat=>1 / ((aw r:Nat):Rat)) r * (fun r:List Rat=>fun j=>((Dt.rw (a9 r) j:Int):Rat)) r c:=List.map_congr_left fun r hr=>funext fun j=>yj (h r hr) j
 unfold bB
 rw [e1,Dq.fY]
 have e2:(A.map fun r:List Rat=>fun j=>((Dt.rw (a9 r) j:Int):Rat))=((A.map a9).map Dt.rw).map fun x=>fun j=>((x j:Int):Rat):=by rw [List.map_map,List.map_map]; rfl
 rw [e2,Dq.uj]
 have e3:∀ A:List (List Rat),(∀ r ∈ A,Gn D N r) -> (A.map fun r:List Rat=>1 / ((aw r:Nat):Rat)).foldr (· * ·) 1=1 / ((eQ A:Nat):Rat) /\ ((eQ A:Nat):Rat) ≠ 0:=fun A=>by
  induction A with
  | nil=>intro _; exact ⟨by show (1:Rat)=1 / ((1:Nat):Rat); rw [show ((1:Nat):Rat)=1 from rfl]; grind,by show ((1:Nat):Rat) ≠ 0; decide⟩
  | cons r A ih =>
   intro h
   obtain ⟨i1,i2⟩:=ih fun x hx=>h x (List.mem_cons_of_mem _ hx)
   obtain ⟨h1,h2,h3⟩:=je (h r List.mem_cons_self)
   have:((aw r:Nat):Rat) ≠ 0:=fun z=>by
    have:aw r=0:=by exact_mod_cast z
    omega
   rw [List.map_cons,List.foldr_cons,i1,iH,Rat.natCast_mul]
   constructor
   ·grind
   ·exact fun z=>by rcases Rat.mul_eq_zero.mp z with e | e; exact this e; exact i2 e
 rw [(e3 A h).1,Rat.divInt_eq_div,Rat.intCast_natCast]
 unfold j0
 rw [List.length_map]
 have:=(e3 A h).2
 grind
open PySem PySem.Spec PyProof.Rows L2 TM Qm Rq
theorem CK {g:List T -> Option T} {f:FA} {ρ ρ':aP} {t:T} (ts:List T) (h1:f ρ=some (ts,ρ')) (h2:g ts=some t):ai g f ρ=some (t,ρ'):=by
 unfold ai
 rw [h1,Option.bind_some,h2]
 rfl
theorem AD {f:FE} {g:FA} {τ τ1 τ2:aP} {t:T} {ts:List T} (h1:f τ=some (t,τ1)) (h2:g τ1=some (ts,τ2)):aa f g τ=some (t :: ts,τ2):=by
 unfold aa
 rw [h1,Option.bind_some,h2]
 rfl
theorem lN {no:Nat} {cap:List Nat} {fi:FA} {fg:FG} {ft:FT} {fe:FE} {τ τ1:aP} {ts us:List T} (h1:fi τ=some (ts,τ1)) (h2:frzAll cap τ1=τ1) (h3:cz (cq no cap τ1)=true) (h4:c8 fg ft fe ts (cq no cap τ1) []=some us):bX no cap fi fg ft fe τ=some (.lst us,τ1):=by
 unfold bX
 rw [h1,Option.bind_some]
 dsimp only
 rw [h2,if_pos h3,h4]
 rfl
theorem qU {α:Type} (f g:α -> T):∀ l:List α,gM (l.map f) (l.map g)=l.map fun x=>T.tup [f x,g x]
 | []=>rfl
 | x :: l=>by
  show T.tup [f x,g x] :: gM (l.map f) (l.map g)=_
  rw [qU f g l]
  rfl
theorem fv {g:T -> T -> Option T} {fa fb:FE} {τ:aP} {a b t:T} (h1:fa τ=some (a,τ)) (h2:fb τ=some (b,τ)) (h:g a b=some t):aD g fa fb τ=some (t,τ):=by
 unfold aD
 rw [h1,Option.bind_some,h2,Option.bind_some]
 show (g a b).bind _=_
 rw [h]
 rfl
structure Sq (n D N:Nat) (A:List (List Rat)):Prop where
 len:A.length=n
 n4:n ≤ 4
 wd:∀ r ∈ A,r.length=n
 gn:∀ r ∈ A,Gn D N r
 hM:(8 * (N * D) + 1) ^ 5 < B
 d4:D ^ 4 < B
theorem Ez {l:List Int} {M:Nat} (h:∀ n ∈ l,n.natAbs ≤ M) (j:Nat):(Dt.rw l j).natAbs ≤ M:=by
 unfold Dt.rw
 rw [List.getD_eq_getElem?_getD]
 cases e:l[j]? with
 | none=>exact Nat.zero_le _
 | some n=>exact h n (List.mem_of_getElem? e)
theorem D5 {D N:Nat} {r:List Rat} (h:Gn D N r):lF (N * D) (Dt.rw (a9 r)):=fun j=>Ez (fun n hn=>by
 obtain ⟨x,hx,rfl⟩:=List.mem_map.mp hn
 exact EE (h.num x hx) h.dp (je h).1) j
theorem Sq.rows {n D N:Nat} {A:List (List Rat)} (h:Sq n D N A):∀ row ∈ A.map a9,row.length=n /\ lF (N * D) (Dt.rw row):=fun row hr=>by
 obtain ⟨r,hm,rfl⟩:=List.mem_map.mp hr
 exact ⟨by unfold a9; rw [List.length_map]; exact h.wd r hm,D5 (h.gn r hm)⟩
theorem len_tab (A:List (List Rat)):cn [au A]=some (.int (A.length:Nat)):=by
 show some (T.int ((A.map aG).length:Nat))=_
 rw [List.length_map]
abbrev kC:List T -> Option T:=cE 6 1 (c5 zB zA zk Ag G2 Cn dG)
theorem uO {D:Nat} (hD:0 < D) {o0 o1 o2 o3:Option Sl}:∀ (A:List (List Rat)) (b k:Nat) (o5:Option Sl),(∀ r ∈ A,aw r ∣ D) -> b ≤ D ^ k -> k + A.length ≤ 4 -> D ^ 4 < B -> ∃ o5',bP (ak 5) (iC 4 (ae 5)) (A.map fun r=>T.int (aw r:Nat)) [o0,o1,o2,o3,some (.sh (.int (b:Nat))),o5]=some (.nx [o0,o1,o2,o3,some (.sh (.int ((b * eQ A:Nat):Int))),o5'])
 | [],b,k,o5,_,_,_,_=>⟨o5,by rw [show eQ []=1 from rfl,Nat.mul_one]; rfl⟩
 | r :: A,b,k,o5,hl,hb,hk,h4=>by
  have hr:=Nat.le_of_dvd hD (hl r List.mem_cons_self)
  have d1:D ^ k ≤ D ^ 4:=Nat.pow_le_pow_right hD (by simp only [List.length_cons] at hk; omega)
  have d2:D ≤ D ^ 4:=by have:=Nat.pow_le_pow_right hD (show 1 ≤ 4 by decide); rwa [Nat.pow_one] at this
  obtain ⟨o5',h⟩:=uO hD (o0:=o0) (o1:=o1) (o2:=o2) (o3:=o3) A (b * aw r) (k + 1) (some (.sh (.int (aw r:Nat)))) (fun x hx=>hl x (List.mem_cons_of_mem _ hx)) (by rw [Nat.pow_succ]; exact Nat.mul_le_mul hb hr) (by simp only [List.length_cons] at hk; omega) h4
  refine ⟨o5',?_⟩
  have ht:iC 4 (ae 5) [o0,o1,o2,o3,some (.sh (.int (b:Nat))),some (.sh (.int (aw r:Nat)))]=some (.nx [o0,o1,o2,o3,some (.sh (.int ((b * aw r:Nat):Int))),some (.sh (.int (aw r:Nat)))]):=by
   have hc:mx (b:Int) (aw r:Int):=⟨by rw [Int.natAbs_natCast]; omega,by rw [Int.natAbs_natCast]; omega⟩
   show (if mx (b:Int) (aw r:Int) then _ else none)=_
   rw [if_pos hc,Int.natCast_mul]
   rfl
  rw [List.map_cons,bQ (τ1:=[o0,o1,o2,o3,some (.sh (.int (b:Nat))),some (.sh (.int (aw r:Nat)))]) rfl ht,h,iH,Nat.mul_assoc]
theorem HP {f g:FE} {τ:aP} {a b:Nat} (h1:f τ=some (.int (a:Nat),τ)) (h2:g τ=some (.int (b:Nat),τ)):dw (aD vx f g) τ=some (decide (a < b),τ):=by
 unfold dw aD
 rw [h1,Option.bind_some]
 dsimp only
 rw [h2,Option.bind_some]
 show some (decide ((a:Int) < (b:Int)),τ)=_
 congr 2
 simp only [Int.ofNat_lt]
theorem Im (l:List Nat):(Dt.sgn l).natAbs < B:=by
 have h1:∀ a b,(Dt.ko a b).natAbs=1:=fun a b=>by unfold Dt.ko; split <;> rfl
 have h2:∀ a l,(Dt.nC a l).natAbs=1:=fun a l=>by
  induction l with
  | nil=>rfl
  | cons b l ih=>show (Dt.ko a b * Dt.nC a l).natAbs=1; rw [Int.natAbs_mul,h1,ih]
 have h3:∀ l,(Dt.sgn l).natAbs=1:=fun l=>by
  induction l with
  | nil=>rfl
  | cons a l ih=>show (Dt.nC a l * Dt.sgn l).natAbs=1; rw [Int.natAbs_mul,h2,ih]
 rw [h3]
 decide +kernel
theorem mM:∀ (st:List (Option Nat × List Int)) (qs:List Nat),st.map (·.1)=qs.map some -> ∀ (u v:Option Sl) (acc:List T),acc.length + st.length ≤ 1000 -> c8 fm ay (ae 0) (st.map dJ) [u,v] acc=some (acc ++ qs.map fun (i:Nat)=>T.int (i:Nat))
 | [],[],_,u,v,acc,_=>by simp [c8]
 | [],q :: qs,h,_,_,_,_=>by simp at h
 | e :: st,[],h,_,_,_,_=>by simp at h
 | (q,l) :: st,p :: qs,h,u,v,acc,hl=>by
  rw [List.map_cons,List.map_cons] at h
  injection h with h1 h2
  dsimp only at h1
  subst h1
  simp only [List.length_cons] at hl
  have e1:fm (dJ (some p,l)) [u,v]=some [some (.sh (.int (p:Nat))),some (.sh (iT l))]:=rfl
  rw [List.map_cons,c8,e1,Option.bind_some]
  show ((ae 0 [some (.sh (.int (p:Nat))),some (.sh (iT l))]).bind fun q=>if cz q.2=true /\ acc.length < sizeLine then c8 fm ay (ae 0) (st.map dJ) q.2 (acc ++ [q.1]) else none)=_
  rw [show ae 0 [some (.sh (.int (p:Nat))),some (.sh (iT l))]=some (.int (p:Nat),[some (.sh (.int (p:Nat))),some (.sh (iT l))]) from rfl,Option.bind_some]
  refine (if_pos ⟨rfl,dz (by omega)⟩).trans ?_
  rw [mM st qs h2 _ _ _ (by rw [List.length_append]; simp only [List.length_cons,List.length_nil]; omega),List.map_cons,List.append_assoc]
  rfl
theorem rM {n D N:Nat} {A:List (List Rat)} (h:Sq n D N A):kC [au A]=some (bq (bB A)):=by
 have hlen:=h.len
 have h4:=h.n4
 have hdp:A=[] \/ 0 < D:=by
  cases A with
  | nil=>exact .inl rfl
  | cons r A=>exact .inr (h.gn r List.mem_cons_self).dp
 have hrl:(A.map a9).length=n:=by rw [List.length_map,hlen]
 have hcr:=fQ (M:=N * D) (L:=n) (w:=n) h.hM (Nat.le_refl _) (rows:=A.map a9) (by omega) (by omega) h.rows
 have hst:(aK n n (A.map a9) [] []).length=n:=by rw [dI,hrl]
 generalize hS:aK n n (A.map a9) [] []=S at hcr hst
 have a1:aN 1 (ai cn (aa (ae 0) ah)) [some (.sh (au A)),none,none,none,none,none]=some (.nx [some (.sh (au A)),some (.sh (.int (n:Nat))),none,none,none,none]):=da (aM [au A] (dY rfl) (by rw [len_tab,hlen])) rfl
 have c2:=cM (φ:=aG) (fe:=ai zB (aa (ae 0) ah)) (g:=fun r=>T.int (aw r:Nat)) (ρ:=[]) rfl A none [] (fun r hr=>aM [aG r] (dY rfl) (BA (h.gn r hr))) (cU (by omega))
 have a2:d3 2 1 [] (aW (ae 0)) (ak 0) ay (ai zB (aa (ae 0) ah)) [some (.sh (au A)),some (.sh (.int (n:Nat))),none,none,none,none]=some (.nx [some (.sh (au A)),some (.sh (.int (n:Nat))),some (.own (A.map fun r=>T.int (aw r:Nat))),none,none,none]):=
  mG (i:=2) (no:=1) (cap:=[]) (fi:=aW (ae 0)) (fg:=ak 0) (ft:=ay) (τ:=[some (.sh (au A)),some (.sh (.int (n:Nat))),none,none,none,none]) (h1:=rfl) rfl rfl c2
 have z3:c9 (aa (ae 0) (aa (ae 2) ah)) [some (.sh (au A)),some (.sh (.int (n:Nat))),some (.own (A.map fun r=>T.int (aw r:Nat))),none,none,none]=some (A.map fun r=>T.tup [aG r,.int (aw r:Nat)],[some (.sh (au A)),some (.sh (.int (n:Nat))),some (.sh (.lst (A.map fun r=>T.int (aw r:Nat)))),none,none,none]):=by
  rw [<- qU]
  rfl
 have c3:=fL (φ:=fun r:List Rat=>aG r) (ψ:=fun r:List Rat=>T.int (aw r:Nat)) (fe:=ai zA (aa (ae 0) (aa (ae 1) ah))) (g:=fun r=>iT (a9 r)) (ρ:=[]) rfl A none none [] (fun r hr=>aM [aG r,.int (aw r:Nat)] (dN rfl rfl) (by
  rw [Bz (h.gn r hr)]
  unfold iT a9
  rw [List.map_map]
  rfl)) (cU (by omega))
 have b3:=lN (no:=2) (cap:=[]) (fi:=c9 (aa (ae 0) (aa (ae 2) ah))) (fg:=fm) (ft:=ay) (h1:=z3) rfl rfl c3
 have a3:aN 3 (ai zk (aa (bX 2 [] (c9 (aa (ae 0) (aa (ae 2) ah))) fm ay (ai zA (aa (ae 0) (aa (ae 1) ah)))) (aa (ae 1) ah))) [some (.sh (au A)),some (.sh (.int (n:Nat))),some (.own (A.map fun r=>T.int (aw r:Nat))),none,none,none]=some (.nx [some (.sh (au A)),some (.sh (.int (n:Nat))),some (.sh (.lst (A.map fun r=>T.int (aw r:Nat)))),some (.sh (.lst (S.map dJ))),none,none]):=by
  exact da (CK [.lst ((A.map a9).map iT),.int (n:Nat)] (AD (by rw [List.map_map]; exact b3) (dY rfl)) hcr) rfl
 have k4:ai cn (aa (ai Ag (aa (ae 3) ah)) ah) [some (.sh (au A)),some (.sh (.int (n:Nat))),some (.sh (.lst (A.map fun r=>T.int (aw r:Nat)))),some (.sh (.lst (S.map dJ))),none,none]=some (.int ((cV S).length:Nat),[some (.sh (au A)),some (.sh (.int (n:Nat))),some (.sh (.lst (A.map fun r=>T.int (aw r:Nat)))),some (.sh (.lst (S.map dJ))),none,none]):=
  aM [.lst ((cV S).map dJ)] (dY (aM [.lst (S.map dJ)] (dY rfl) (xG (by omega)))) (by
   show some (T.int (((cV S).map dJ).length:Nat))=_
   rw [List.length_map])
 have t4:=HP (b:=n) (g:=ae 1) k4 rfl
 have hq:=xy h.gn
 show ((c5 zB zA zk Ag G2 Cn dG [some (.sh (au A)),none,none,none,none,none]).bind _)=_
 have goal:c5 zB zA zk Ag G2 Cn dG [some (.sh (au A)),none,none,none,none,none]=some (.rt (bq (bB A))):=by
  unfold c5
  rw [bh a1,bh a2,bh a3]
  by_cases hk:(cV S).length < n
  ·have z:=nX (L:=n) (rows:=A.map a9) (by rw [hrl,hS]; exact hk)
   rw [z,Rat.zero_divInt] at hq
   have i4:bE (dw (aD vx (ai cn (aa (ai Ag (aa (ae 3) ah)) ah)) (ae 1))) (a8 (fC (.tup [.int 0,.int 1]))) bf [some (.sh (au A)),some (.sh (.int (n:Nat))),some (.sh (.lst (A.map fun r=>T.int (aw r:Nat)))),some (.sh (.lst (S.map dJ))),none,none]=some (.rt (.tup [.int 0,.int 1])):=by
    unfold bE
    rw [t4,Option.bind_some,decide_eq_true hk]
    rfl
   unfold aE
   rw [i4,hq]
   rfl
  ·have hke:(cV S).length=n:=by have:=jd S; omega
   obtain ⟨_,qs,q1,q2,q3,q4⟩:=kI (L:=n) (rows:=A.map a9) (by omega) (by omega) (by rw [hrl,hS]; exact hke)
   rw [hrl,hS] at q2 q3
   have i4:bE (dw (aD vx (ai cn (aa (ai Ag (aa (ae 3) ah)) ah)) (ae 1))) (a8 (fC (.tup [.int 0,.int 1]))) bf [some (.sh (au A)),some (.sh (.int (n:Nat))),some (.sh (.lst (A.map fun r=>T.int (aw r:Nat)))),some (.sh (.lst (S.map dJ))),none,none]=some (.nx [some (.sh (au A)),some (.sh (.int (n:Nat))),some (.sh (.lst (A.map fun r=>T.int (aw r:Nat)))),some (.sh (.lst (S.map dJ))),none,none]):=by
    unfold bE
    rw [t4,Option.bind_some,decide_eq_false hk]
    rfl
   have a5:aN 4 (fC (.int 1)) [some (.sh (au A)),some (.sh (.int (n:Nat))),some (.sh (.lst (A.map fun r=>T.int (aw r:Nat)))),some (.sh (.lst (S.map dJ))),none,none]=some (.nx [some (.sh (au A)),some (.sh (.int (n:Nat))),some (.sh (.lst (A.map fun r=>T.int (aw r:Nat)))),some (.sh (.lst (S.map dJ))),some (.sh (.int (1:Nat))),none]):=rfl
   have hb:0 < eQ A /\ eQ A < B /\ ∃ o5',bP (ak 5) (iC 4 (ae 5)) (A.map fun r=>T.int (aw r:Nat)) [some (.sh (au A)),some (.sh (.int (n:Nat))),some (.sh (.lst (A.map fun r=>T.int (aw r:Nat)))),some (.sh (.lst (S.map dJ))),some (.sh (.int (1:Nat))),none]=some (.nx [some (.sh (au A)),some (.sh (.int (n:Nat))),some (.sh (.lst (A.map fun r=>T.int (aw r:Nat)))),some (.sh (.lst (S.map dJ))),some (.sh (.int ((eQ A:Nat):Int))),o5']):=by
    rcases hdp with e | hD
    ·rw [e]
     exact ⟨by decide,by decide +kernel,none,rfl⟩
    ·have hlow:∀ r ∈ A,0 < aw r /\ aw r ∣ D:=fun r hr=>⟨(je (h.gn r hr)).2.1,(je (h.gn r hr)).1⟩
     obtain ⟨o5',hl⟩:=uO hD (o0:=some (.sh (au A))) (o1:=some (.sh (.int (n:Nat)))) (o2:=some (.sh (.lst (A.map fun r=>T.int (aw r:Nat))))) (o3:=some (.sh (.lst (S.map dJ)))) A 1 0 none (fun r hr=>(hlow r hr).2) (by rw [Nat.pow_zero]; exact Nat.le_refl _) (by omega) h.d4
     rw [Nat.one_mul] at hl
     have hp:∀ A:List (List Rat),(∀ r ∈ A,0 < aw r /\ aw r ∣ D) -> 0 < eQ A /\ eQ A ≤ D ^ A.length:=fun A=>by
      induction A with
      | nil=>intro _; exact ⟨by decide,by show 1 ≤ D ^ 0; rw [Nat.pow_zero]; exact Nat.le_refl _⟩
      | cons r A ih =>
       intro hh
       obtain ⟨i1,i2⟩:=ih fun x hx=>hh x (List.mem_cons_of_mem _ hx)
       obtain ⟨j1,j2⟩:=hh r List.mem_cons_self
       rw [iH,List.length_cons,Nat.pow_succ,Nat.mul_comm (D ^ A.length)]
       exact ⟨Nat.mul_pos j1 i1,Nat.mul_le_mul (Nat.le_of_dvd hD j2) i2⟩
     obtain ⟨p1,p2⟩:=hp A hlow
     have p3:D ^ A.length ≤ D ^ 4:=Nat.pow_le_pow_right hD (by omega)
     have:=h.d4
     exact ⟨p1,by omega,o5',hl⟩
   obtain ⟨lp0,lpB,o5',hl⟩:=hb
   have a6:cG (aW (ae 2)) (ak 5) (iC 4 (ae 5)) [some (.sh (au A)),some (.sh (.int (n:Nat))),some (.sh (.lst (A.map fun r=>T.int (aw r:Nat)))),some (.sh (.lst (S.map dJ))),some (.sh (.int (1:Nat))),none]=_:=gQ rfl hl
   have c7:=mM S qs q2 none none [] (by rw [List.length_nil]; omega)
   have b7:=cF (no:=2) (cap:=[]) (fi:=aW (ae 3)) (fg:=fm) (ft:=ay) (fe:=ae 0) (τ:=[some (.sh (au A)),some (.sh (.int (n:Nat))),some (.sh (.lst (A.map fun r=>T.int (aw r:Nat)))),some (.sh (.lst (S.map dJ))),some (.sh (.int ((eQ A:Nat):Int))),o5']) (h1:=rfl) rfl rfl c7
   have d7:=aM (g:=G2) [cj qs] (dY b7) (C3 qs)
   have l7:=aM (g:=Cn) (f:=aa (ae 3) ah) (ρ:=[some (.sh (au A)),some (.sh (.int (n:Nat))),some (.sh (.lst (A.map fun r=>T.int (aw r:Nat)))),some (.sh (.lst (S.map dJ))),some (.sh (.int ((eQ A:Nat):Int))),o5']) [.lst (S.map dJ)] (dY rfl) q3
   have hdB:(Dt.det ((A.map a9).map Dt.rw).reverse qs.reverse).natAbs < B:=AL h.hM (fun y hy=>by
    obtain ⟨row,hr,rfl⟩:=List.mem_map.mp (List.mem_reverse.mp hy)
    exact (h.rows row hr).2) (by rw [List.length_reverse,List.length_map]; omega) (by rw [List.length_reverse]; omega)
   have hm:bg (.int (Dt.sgn qs)) (.int (Dt.det ((A.map a9).map Dt.rw).reverse qs.reverse))=some (.int (j0 (A.map a9))):=by
    rw [<- q4]
    exact if_pos ⟨Im qs,hdB⟩
   have hzB:(j0 (A.map a9)).natAbs < B:=AL h.hM (fun y hy=>by
    obtain ⟨row,hr,rfl⟩:=List.mem_map.mp hy
    exact (h.rows row hr).2) (by rw [List.length_map]; omega) (by rw [List.length_range]; omega)
   have m7:=fv d7 l7 hm
   have f7:=aM (g:=dG) _ (dN m7 (g:=ae 4) rfl) (gD hzB (by rw [Int.natAbs_natCast]; exact lpB) (by omega))
   rw [gR (by omega),<- hq] at f7
   rw [bh i4,bh a5,bh a6]
   exact mN f7
 rw [goal]
 rfl
open PySem PySem.Spec PyProof.Rows L2 TM Qm Rq
def iX:Nat -> List (List Nat × Int)
 | 0=>[([],1)]
 | k + 1=>(iX k).flatMap fun e=>(List.range (e.1.length + 1)).map fun at'=>(e.1.take at' ++ [k] ++ e.1.drop at',e.2 * [1,-1].getD ((e.1.length - at') % 2) 0)
abbrev AI:List T -> Option T:=cE 7 1 fG
def uW (e:List Nat × Int):T:=.tup [cj e.1,.int e.2]
theorem CY:AI [.int 0]=some (.lst ((iX 0).map uW)):=by rfl
theorem CZ:AI [.int 1]=some (.lst ((iX 1).map uW)):=by rfl
theorem C0:AI [.int 2]=some (.lst ((iX 2).map uW)):=by rfl
theorem C1:AI [.int 3]=some (.lst ((iX 3).map uW)):=by rfl
theorem C2:AI [.int 4]=some (.lst ((iX 4).map uW)):=by rfl
theorem E9 {n:Nat} (h:n ≤ 4):AI [.int (n:Nat)]=some (.lst ((iX n).map uW)):=by
 have:n=0 \/ n=1 \/ n=2 \/ n=3 \/ n=4:=by omega
 rcases this with rfl | rfl | rfl | rfl | rfl
 ·exact CY
 ·exact CZ
 ·exact C0
 ·exact C1
 ·exact C2
theorem FU:∀ n ≤ 4,(iX n).length ≤ 24 /\ ∀ e ∈ iX n,e.1.length=n /\ (∀ p ∈ e.1,p < n) /\ (e.2=1 \/ e.2 = -1):=by decide +kernel
def eK (a:Nat -> Nat -> Rat) (o:List Nat) (s:Rat) (is:List Nat):Rat:=is.foldl (fun p i=>p * a i (o.getD i 0)) s
def pB (n:Nat) (a:Nat -> Nat -> Rat):Rat:=(iX n).foldl (fun t e=>t + eK a e.1 ((e.2:Int):Rat) (List.range n)) 0
theorem GN (a:Nat -> Nat -> Rat):pB 0 a=Dq.det [] []:=by
 show (0:Rat) + 1=1
 grind
theorem GO (a:Nat -> Nat -> Rat):pB 1 a=Dq.det [a 0] [0]:=by
 have h:iX 1=[([0],1)]:=by decide
 unfold pB
 rw [h]
 simp only [eK,List.range,List.range.loop,List.foldl_cons,List.foldl_nil,List.getD_cons_zero,List.getD_cons_succ,Dq.det,Dq.E]
 grind
theorem GP (a:Nat -> Nat -> Rat):pB 2 a=Dq.det [a 0,a 1] [0,1]:=by
 have h:iX 2=[([1,0],-1),([0,1],1)]:=by decide
 unfold pB
 rw [h]
 simp only [eK,List.range,List.range.loop,List.foldl_cons,List.foldl_nil,List.getD_cons_zero,List.getD_cons_succ,Dq.det,Dq.E]
 grind
theorem GQ (a:Nat -> Nat -> Rat):pB 3 a=Dq.det [a 0,a 1,a 2] [0,1,2]:=by
 have h:iX 3=[([2,1,0],-1),([1,2,0],1),([1,0,2],-1),([2,0,1],1),([0,2,1],-1),([0,1,2],1)]:=by decide
 unfold pB
 rw [h]
 simp only [eK,List.range,List.range.loop,List.foldl_cons,List.foldl_nil,List.getD_cons_zero,List.getD_cons_succ,Dq.det,Dq.E]
 grind
theorem GR (a:Nat -> Nat -> Rat):pB 4 a=Dq.det [a 0,a 1,a 2,a 3] [0,1,2,3]:=by
 have h:iX 4=[([3,2,1,0],1),([2,3,1,0],-1),([2,1,3,0],1),([2,1,0,3],-1),([3,1,2,0],-1),([1,3,2,0],1),([1,2,3,0],-1),([1,2,0,3],1),([3,1,0,2],1),([1,3,0,2],-1),([1,0,3,2],1),([1,0,2,3],-1),([3,2,0,1],-1),([2,3,0,1],1),([2,0,3,1],-1),([2,0,1,3],1),([3,0,2,1],1),([0,3,2,1],-1),([0,2,3,1],1),([0,2,1,3],-1),([3,0,1,2],-1),([0,3,1,2],1),([0,1,3,2],-1),([0,1,2,3],1)]:=by decide
 unfold pB
 rw [h]
 simp only [eK,List.range,List.range.loop,List.foldl_cons,List.foldl_nil,List.getD_cons_zero,List.getD_cons_succ,Dq.det,Dq.E]
 grind
theorem B7 {n:Nat} (h:n ≤ 4) (a:Nat -> Nat -> Rat):pB n a=Dq.det ((List.range n).map a) (List.range n):=by
 have:n=0 \/ n=1 \/ n=2 \/ n=3 \/ n=4:=by omega
 rcases this with rfl | rfl | rfl | rfl | rfl
 ·exact GN a
 ·exact GO a
 ·exact GP a
 ·exact GQ a
 ·exact GR a
theorem GS {A:List (List Rat)} (h:A.length ≤ 4):pB A.length (fun i j=>(A.getD i []).getD j 0)=bB A:=by
 rw [B7 h]
 unfold bB
 rw [map_range Gu [] A]
 rfl
theorem Fq {A:List (List Rat)} {i:Nat} (h:i < A.length):cR (au A) (.int (i:Nat))=some (aG (A.getD i [])):=by
 show mB (A.map aG) (i:Int)=_
 unfold mB wg
 rw [if_pos (by omega),List.length_map,if_pos (by omega),Option.bind_some,Int.toNat_natCast,List.getElem?_map,List.getElem?_eq_getElem h,List.getD_eq_getElem?_getD,List.getElem?_eq_getElem h]
 rfl
theorem Fo {o:List Nat} {i:Nat} (h:i < o.length):cR (cj o) (.int (i:Nat))=some (.int (o.getD i 0:Nat)):=by
 show mB (o.map fun (i:Nat)=>T.int (i:Nat)) (i:Int)=_
 unfold mB wg
 rw [if_pos (by omega),List.length_map,if_pos (by omega),Option.bind_some,Int.toNat_natCast,List.getElem?_map,List.getElem?_eq_getElem h,List.getD_eq_getElem?_getD,List.getElem?_eq_getElem h]
 rfl
theorem lQ {l:List Rat} {c:Nat} (h:c < l.length):l.getD c 0 ∈ l:=by
 rw [List.getD_eq_getElem?_getD,List.getElem?_eq_getElem h]
 exact List.getElem_mem h
theorem gm {l:List (List Rat)} {c:Nat} (h:c < l.length):l.getD c [] ∈ l:=by
 rw [List.getD_eq_getElem?_getD,List.getElem?_eq_getElem h]
 exact List.getElem_mem h
structure vv (n:Nat) (A:List (List Rat)):Prop where
 len:A.length=n
 n4:n ≤ 4
 wd:∀ r ∈ A,r.length=n
 lq:∀ r ∈ A,∀ x ∈ r,Lq 1 2304 x
def iy (A:List (List Rat)):Nat -> Nat -> Rat:=fun i j=>(A.getD i []).getD j 0
def sN:FS:=aN 4 (ai oB (aa (ae 4) (aa (aD cR (aD cR (ae 0) (ae 5)) (aD cR (ae 2) (ae 5))) ah)))
theorem ya {n:Nat} {A:List (List Rat)} (h:vv n A) {o:List Nat} (ho:o.length=n) (hp:∀ p ∈ o,p < n) {o1 o3:Option Sl}:∀ (m k:Nat) (p:Rat) (o5:Option Sl),k + m=n -> Lq k (2304 ^ k) p -> ∃ o5',Lq n (2304 ^ n) (eK (iy A) o p (List.range' k m)) /\ bP (ak 5) sN (TM.upTo (k:Nat) m) [some (.sh (au A)),o1,some (.sh (cj o)),o3,some (.sh (bq p)),o5]=some (.nx [some (.sh (au A)),o1,some (.sh (cj o)),o3,some (.sh (bq (eK (iy A) o p (List.range' k m)))),o5'])
 | 0,k,p,o5,hk,hq=>⟨o5,by rw [show n=k by omega]; exact hq,rfl⟩
 | m + 1,k,p,o5,hk,hq=>by
  have hkn:k < n:=by omega
  have h4:=h.n4
  have hr:A.getD k [] ∈ A:=gm (by rw [h.len]; exact hkn)
  have hc:o.getD k 0 < n:=hp _ (by rw [List.getD_eq_getElem?_getD,List.getElem?_eq_getElem (by omega)]; exact List.getElem_mem (by omega))
  have hx:iy A k (o.getD k 0) ∈ A.getD k []:=lQ (by rw [h.wd _ hr]; exact hc)
  have hl:=h.lq _ hr _ hx
  have hq2:Lq (k + 1) (2304 ^ (k + 1)) (p * iy A k (o.getD k 0)):=by rw [Nat.pow_succ]; exact hq.mul hl
  obtain ⟨o5',e1,e2⟩:=ya h ho hp (o1:=o1) (o3:=o3) m (k + 1) (p * iy A k (o.getD k 0)) (some (.sh (.int (k:Nat)))) (by omega) hq2
  refine ⟨o5',e1,?_⟩
  have hs1:Sm p:=gJ hq (by omega) (Nat.le_trans (Nat.pow_le_pow_right (by decide) (show k ≤ 4 by omega)) (by decide))
  have hs2:Sm (iy A k (o.getD k 0)):=gJ hl (by omega) (by decide)
  have g1:=Fq (A:=A) (i:=k) (by rw [h.len]; exact hkn)
  have g2:=Fo (o:=o) (i:=k) (by omega)
  have g3:=Bj (r:=A.getD k []) (j:=o.getD k 0) (by rw [h.wd _ hr]; exact hc)
  have ht:sN [some (.sh (au A)),o1,some (.sh (cj o)),o3,some (.sh (bq p)),some (.sh (.int (k:Nat)))]=some (.nx [some (.sh (au A)),o1,some (.sh (cj o)),o3,some (.sh (bq (p * iy A k (o.getD k 0)))),some (.sh (.int (k:Nat)))]):=
   da (aM [bq p,bq (iy A k (o.getD k 0))] (dN rfl (fv (fv rfl rfl g1) (fv rfl rfl g2) g3)) (uP hs1 hs2)) rfl
  have e3:TM.upTo (k:Nat) (m + 1)=T.int (k:Nat) :: TM.upTo ((k + 1:Nat):Int) m:=by rw [TM.upTo]; rfl
  rw [e3,bQ (τ1:=[some (.sh (au A)),o1,some (.sh (cj o)),o3,some (.sh (bq p)),some (.sh (.int (k:Nat)))]) rfl ht]
  exact e2
open PySem PySem.Spec PyProof.Rows L2 TM Qm Rq
def ou:FS:=aE (aN 4 (b0 (aa (ae 3) (aa (fC (.int 1)) ah)))) (aE (cG (bS (aa (ai cn (aa (ae 0) ah)) ah)) (ak 5) sN) (aN 1 (ai vy (aa (ae 1) (aa (ae 4) ah)))))
theorem FC {s:Int} (h:s=1 \/ s = -1):Lq 0 1 ((s:Int):Rat):=⟨s,by
 show ((s:Int):Rat)=Rat.divInt s 1
 rcases h with rfl | rfl <;> decide,by rcases h with rfl | rfl <;> decide⟩
theorem oR (a:Nat -> Nat -> Rat) (o:List Nat) (s:Rat) (n:Nat):eK a o s (List.range n)=eK a o s (List.range' 0 n):=by rw [List.range_eq_range']
theorem xY {n:Nat} {A:List (List Rat)} (h:vv n A):∀ (es:List (List Nat × Int)) (t:Rat) (M:Nat) (o2 o3 o4 o5:Option Sl),(∀ e ∈ es,e.1.length=n /\ (∀ p ∈ e.1,p < n) /\ (e.2=1 \/ e.2 = -1)) -> Lq n M t -> M + es.length * 2304 ^ n ≤ 2 ^ 90 ->
  ∃ (M':Nat) (o2' o3' o4' o5':Option Sl),M' ≤ 2 ^ 90 /\ Lq n M' (es.foldl (fun t e=>t + eK (iy A) e.1 ((e.2:Int):Rat) (List.range n)) t) /\ bP (bp (ar (ak 2) (ar (ak 3) bo))) ou (es.map uW) [some (.sh (au A)),some (.sh (bq t)),o2,o3,o4,o5]=some (.nx [some (.sh (au A)),some (.sh (bq (es.foldl (fun t e=>t + eK (iy A) e.1 ((e.2:Int):Rat) (List.range n)) t))),o2',o3',o4',o5'])
 | [],t,M,o2,o3,o4,o5,_,hq,hM=>⟨M,o2,o3,o4,o5,by simpa using hM,hq,rfl⟩
 | (o,s) :: es,t,M,o2,o3,o4,o5,ho,hq,hM=>by
  obtain ⟨u1,u2,u3⟩:=ho (o,s) List.mem_cons_self
  dsimp only at u1 u2 u3
  have h4:=h.n4
  obtain ⟨o5a,e1,e2⟩:=ya h u1 u2 (o1:=some (.sh (bq t))) (o3:=some (.sh (.int s))) n 0 ((s:Int):Rat) o5 (by omega) (FC u3)
  have hb:M + 2304 ^ n + es.length * 2304 ^ n ≤ 2 ^ 90:=by rw [List.length_cons,Nat.add_mul,Nat.one_mul] at hM; omega
  have hsum:=hq.add e1
  obtain ⟨M',p2,p3,p4,p5,hM',hq',hl⟩:=xY h es (t + eK (iy A) o ((s:Int):Rat) (List.range n)) (M + 2304 ^ n) (some (.sh (cj o))) (some (.sh (.int s))) (some (.sh (bq (eK (iy A) o ((s:Int):Rat) (List.range n))))) o5a (fun e he=>ho e (List.mem_cons_of_mem _ he)) (by rw [oR]; exact hsum) hb
  refine ⟨M',p2,p3,p4,p5,hM',hq',?_⟩
  have s1:Sm t:=gJ hq (by omega) (Nat.le_trans (show M ≤ 2 ^ 90 by omega) (by decide))
  have s2:Sm (eK (iy A) o ((s:Int):Rat) (List.range' 0 n)):=gJ e1 (by omega) (Nat.le_trans (Nat.pow_le_pow_right (by decide) h4) (by decide))
  have a1:aN 4 (b0 (aa (ae 3) (aa (fC (.int 1)) ah))) [some (.sh (au A)),some (.sh (bq t)),some (.sh (cj o)),some (.sh (.int s)),o4,o5]=some (.nx [some (.sh (au A)),some (.sh (bq t)),some (.sh (cj o)),some (.sh (.int s)),some (.sh (bq ((s:Int):Rat))),o5]):=rfl
  have r2:bS (aa (ai cn (aa (ae 0) ah)) ah) [some (.sh (au A)),some (.sh (bq t)),some (.sh (cj o)),some (.sh (.int s)),some (.sh (bq ((s:Int):Rat))),o5]=some (TM.upTo 0 n,[some (.sh (au A)),some (.sh (bq t)),some (.sh (cj o)),some (.sh (.int s)),some (.sh (bq ((s:Int):Rat))),o5]):=by
   have:=ji (f:=ai cn (aa (ae 0) ah)) (τ:=[some (.sh (au A)),some (.sh (bq t)),some (.sh (cj o)),some (.sh (.int s)),some (.sh (bq ((s:Int):Rat))),o5]) (n:=(n:Nat)) (aM [au A] (dY rfl) (by rw [len_tab,h.len])) (by omega) (by omega)
   rw [Int.toNat_natCast] at this
   exact this
  have a2:=gQ (fg:=ak 5) (fb:=sN) r2 e2
  have a3:aN 1 (ai vy (aa (ae 1) (aa (ae 4) ah))) [some (.sh (au A)),some (.sh (bq t)),some (.sh (cj o)),some (.sh (.int s)),some (.sh (bq (eK (iy A) o ((s:Int):Rat) (List.range' 0 n)))),o5a]=some (.nx [some (.sh (au A)),some (.sh (bq (t + eK (iy A) o ((s:Int):Rat) (List.range' 0 n)))),some (.sh (cj o)),some (.sh (.int s)),some (.sh (bq (eK (iy A) o ((s:Int):Rat) (List.range' 0 n)))),o5a]):=
   da (aM _ (dN rfl rfl) (By s1 s2)) rfl
  have ht:ou [some (.sh (au A)),some (.sh (bq t)),some (.sh (cj o)),some (.sh (.int s)),o4,o5]=some (.nx [some (.sh (au A)),some (.sh (bq (t + eK (iy A) o ((s:Int):Rat) (List.range n)))),some (.sh (cj o)),some (.sh (.int s)),some (.sh (bq (eK (iy A) o ((s:Int):Rat) (List.range n)))),o5a]):=by
   rw [oR]
   unfold ou
   rw [bh a1,bh a2,a3]
  rw [List.map_cons,bQ (τ1:=[some (.sh (au A)),some (.sh (bq t)),some (.sh (cj o)),some (.sh (.int s)),o4,o5]) rfl ht,hl]
  rfl
abbrev Cm:List T -> Option T:=cE 6 1 (cN AI oB vy)
theorem qx {n:Nat} {A:List (List Rat)} (h:vv n A):Cm [au A]=some (bq (bB A)) /\ ∃ M,M ≤ 2 ^ 90 /\ Lq n M (bB A):=by
 have h4:=h.n4
 obtain ⟨k1,k2⟩:=FU n h4
 have hbig:0 + (iX n).length * 2304 ^ n ≤ 2 ^ 90:=by
  have:=Nat.mul_le_mul k1 (Nat.pow_le_pow_right (show 0 < 2304 by decide) h4)
  have:24 * 2304 ^ 4 ≤ 2 ^ 90:=by decide
  omega
 obtain ⟨M,o2,o3,o4,o5,hM,hq,hl⟩:=xY h (iX n) 0 0 none none none none k2 (Lq.zero n) hbig
 have hs:(iX n).foldl (fun t e=>t + eK (iy A) e.1 ((e.2:Int):Rat) (List.range n)) 0=bB A:=by
  have:=GS (A:=A) (by rw [h.len]; exact h4)
  rw [h.len] at this
  exact this
 rw [hs] at hq hl
 refine ⟨?_,M,hM,hq⟩
 have r1:aW (ai AI (aa (ai cn (aa (ae 0) ah)) ah)) [some (.sh (au A)),some (.sh (bq 0)),none,none,none,none]=some ((iX n).map uW,[some (.sh (au A)),some (.sh (bq 0)),none,none,none,none]):=by
  unfold aW
  rw [aM [.int (n:Nat)] (dY (aM [au A] (dY rfl) (by rw [len_tab,h.len]))) (E9 h4)]
  rfl
 have a2:=gQ (fg:=bp (ar (ak 2) (ar (ak 3) bo))) (fb:=ou) r1 hl
 have goal:cN AI oB vy [some (.sh (au A)),none,none,none,none,none]=some (.rt (bq (bB A))):=by
  show aE (aN 1 (b0 (aa (fC (.int 0)) (aa (fC (.int 1)) ah)))) (aE (cG (aW (ai AI (aa (ai cn (aa (ae 0) ah)) ah))) (bp (ar (ak 2) (ar (ak 3) bo))) ou) (a8 (ae 1))) _=_
  rw [bh (τ':=[some (.sh (au A)),some (.sh (bq 0)),none,none,none,none]) rfl,bh a2]
  rfl
 exact kE rfl goal
open PySem PySem.Spec PyProof.Rows L2 TM Qm Rq
theorem iA {n:Nat} {A:List (List Rat)} {a:Nat -> Nat -> Rat} (hl:A.length=n) (h:∀ i < n,∀ j < n,(A.getD i []).getD j 0=a i j):bB A=Dq.det ((List.range n).map a) (List.range n):=by
 unfold bB
 rw [map_range Gu [] A,hl]
 exact Dq.fj (List.range n) (List.range n) fun i hi j hj=>h i (List.mem_range.mp hi) j (List.mem_range.mp hj)
theorem ik {α:Type} {n:Nat} {f:Nat -> α} {i:Nat} (h:i < n) (d:α):((List.range n).map f).getD i d=f i:=by
 rw [List.getD_eq_getElem?_getD,List.getElem?_map,List.getElem?_range h]
 rfl
theorem rD {A:List (List Rat)} {i j:Nat} (h:i < A.length):(fK A j).getD i 0=(A.getD i []).getD j 0:=by
 unfold fK
 rw [List.getD_eq_getElem?_getD,List.getElem?_map,List.getElem?_eq_getElem h,List.getD_eq_getElem?_getD (l:=A),List.getElem?_eq_getElem h]
 rfl
theorem qr {n:Nat} {A:List (List Rat)} (hl:A.length=n):bB (bJ A n)=bB A:=by
 rw [iA (n:=n) (A:=bJ A n) (a:=fun c i=>iy A i c) (by unfold bJ; rw [List.length_map,List.length_range]) (fun i hi j hj=>by
  unfold bJ
  rw [ik hi,rD (by omega)]
  rfl),iA (n:=n) (A:=A) (a:=iy A) hl (fun _ _ _ _=>rfl)]
 exact (Dq.fM (iy A) (List.range n) (List.range n)).symm
theorem DX (f:Nat -> Rat):∀ (m k:Nat),Dq.sm (List.range' k (m + 1)) f=f k + Dq.sm (List.range' (k + 1) m) f:=fun m k=>by
 rw [List.range'_succ,Dq.gg]
theorem yR:∀ (r s:List Rat) (k:Nat) (f:Nat -> Rat),r.length=s.length -> (∀ i < r.length,f (k + i)=r.getD i 0 * s.getD i 0) -> wsum r s=Dq.sm (List.range' k r.length) f
 | [],[],k,f,_,_=>by
  unfold wsum
  rfl
 | [],s :: ss,_,_,h,_=>by simp at h
 | r :: rs,[],_,_,h,_=>by simp at h
 | x :: r,y :: s,k,f,h,hf=>by
  rw [jL,List.length_cons,DX,yR r s (k + 1) f (by simpa using h) fun i hi=>by
   have:=hf (i + 1) (by rw [List.length_cons]; omega)
   rw [show k + (i + 1)=k + 1 + i by omega] at this
   rw [this]
   rfl]
  have h0:=hf 0 (by rw [List.length_cons]; omega)
  rw [Nat.add_zero] at h0
  rw [h0]
  rfl
theorem AN {n:Nat} {A C:List (List Rat)} (hl:A.length=n) (hA:∀ r ∈ A,r.length=n) (hc:C.length=n):bB (mulM A C n)=bB A * bB C:=by
 have hm:=Dq.xB (List.range n) (List.range n) (iy C) ((List.range n).map (iy A)) (by rw [List.length_map])
 rw [<- iA (n:=n) (A:=A) (a:=iy A) hl (fun _ _ _ _=>rfl),<- iA (n:=n) (A:=C) (a:=iy C) hc (fun _ _ _ _=>rfl),List.map_map] at hm
 rw [<- hm]
 refine iA (n:=n) (A:=mulM A C n) (a:=Dq.sP (List.range n) (iy C) ∘ iy A) (by unfold mulM; rw [List.length_map,hl]) fun i hi j hj=>?_
 have hmem:A.getD i [] ∈ A:=gm (by omega)
 have e1:(mulM A C n).getD i []=(List.range n).map fun j=>wsum (A.getD i []) (fK C j):=by
  unfold mulM
  rw [List.getD_eq_getElem?_getD,List.getElem?_map,List.getElem?_eq_getElem (by omega),List.getD_eq_getElem?_getD,List.getElem?_eq_getElem (by omega)]
  rfl
 rw [e1,ik hj]
 have hlen:(A.getD i []).length=(fK C j).length:=by
  unfold fK
  rw [hA _ hmem,List.length_map,hc]
 rw [yR _ _ 0 (fun k=>iy A i k * iy C k j) hlen (fun k hk=>by
  rw [Nat.zero_add,rD (by rw [hA _ hmem] at hk; omega)]
  rfl),hA _ hmem,<- List.range_eq_range']
 rfl
open PySem PySem.Spec PyProof.Rows L2 TM Qm Rq
def kL (row a9:List Int):Int:=(List.zipWith (· * ·) row a9).sum
theorem xE:∀ (row a9:List Int) (p:Nat) (v:Int),p < a9.length -> a9.length ≤ row.length -> a9.getD p 0=0 -> kL row (a9.set p v)=kL row a9 + row.getD p 0 * v
 | _,[],p,v,h,_,_=>by simp at h
 | [],t :: a9,p,v,_,h,_=>by simp at h
 | r :: row,t :: a9,0,v,_,_,h0=>by
  have:t=0:=h0
  subst this
  show r * v + kL row a9=r * 0 + kL row a9 + r * v
  omega
 | r :: row,t :: a9,p + 1,v,h1,h2,h3=>by
  have ih:=xE row a9 p v (by simpa using h1) (by simpa using h2) h3
  show r * t + kL row (a9.set p v)=r * t + kL row a9 + row.getD p 0 * v
  rw [ih]
  omega
theorem yn {i:Nat} {f g:FE} {τ:aP} {us:List T} {k:Nat} {t:T} (h:τ[i]? = some (some (.own us))) (hf:f τ=some (t,τ)) (hg:g τ=some (.int (k:Nat),τ)) (hk:k < us.length):jb i f g τ=some (.nx (τ.set i (some (.own (us.set k t))))):=by
 unfold jb
 rw [hf,Option.bind_some]
 dsimp only
 rw [h]
 dsimp only
 rw [hg,Option.bind_some]
 dsimp only
 rw [h]
 dsimp only
 rw [show wg us.length ((k:Nat):Int)=some k from by unfold wg; rw [if_pos (by omega),if_pos (by omega),Int.toNat_natCast]]
 rfl
theorem El {N d:Int} (hd:¬ d=0) (bd:d.natAbs < B):cQ (.int N) (.int d)=some (.int (N.fdiv d)):=if_pos ⟨hd,bd⟩
theorem Ex {a b:Int} (h1:a.natAbs < B) (h2:b.natAbs < B):bg (.int a) (.int b)=some (.int (a * b)):=if_pos ⟨h1,h2⟩
theorem Ip {a b:Int}:gL (.int a) (.int b)=some (.int (a - b)):=rfl
def xp:FE:=aD bg (ae 0) (ae 1)
def vH:FE:=cu 4 (ai vM (aa (bX 2 [] (c9 (aa (ae 6) (aa (ae 4) ah))) fm ay xp) ah))
def Aw:FE:=aD cR (ai vw (aa (kM (aa (ae 7) ah)) (aa (aD cR (ae 6) (ae 5)) ah))) (fC (.int 0))
def nR:FS:=aE (aN 7 (aD gL (aD bg (ae 3) (aD cR (ae 6) (ae 2))) vH)) (jb 4 Aw (ae 5))
theorem CI {row a9:List Int} {τ:aP} (h4:τ[4]? = some (some (.own (a9.map T.int)))) (h6:τ[6]? = some (some (.sh (iT row)))) (hr:∀ j,(Dt.rw row j).natAbs < B) (ht:∀ j,(Dt.rw a9 j).natAbs < B) (hl:a9.length ≤ 8) (h8:row.length ≤ 8):vH τ=some (.int (kL row a9),τ):=by
 have mem:∀ {l:List Int} {n:Int},n ∈ l -> ∃ j,n=Dt.rw l j:=fun {l n} h=>by
  obtain ⟨j,hj,e⟩:=List.mem_iff_getElem.mp h
  refine ⟨j,?_⟩
  unfold Dt.rw
  rw [List.getD_eq_getElem?_getD,List.getElem?_eq_getElem hj]
  exact e.symm
 have hv:=wY (i:=4) (f:=ai vM (aa (bX 2 [] (c9 (aa (ae 6) (aa (ae 4) ah))) fm ay xp) ah)) (τ:=τ) (t:=.int (kL row a9)) h4 (fun τ' e1 e2=>by
  have z:=oi (i:=6) (j:=4) (r:=row) (s:=a9) (τ:=τ') (e2 6 _ (by decide) h6) e1
  have hc:=fL (φ:=fun p:Int × Int=>T.int p.1) (ψ:=fun p:Int × Int=>T.int p.2) (fe:=xp) (g:=fun q=>T.int (q.1 * q.2)) (ρ:=[]) rfl (List.zip row a9) none none [] (fun q hq=>by
   obtain ⟨m1,m2⟩:=dU hq
   obtain ⟨i,ei⟩:=mem m1
   obtain ⟨j,ej⟩:=mem m2
   exact fv rfl rfl (Ex (by rw [ei]; exact hr i) (by rw [ej]; exact ht j))) (cU (iU _ _ h8))
  have b:=cF (no:=2) (cap:=[]) (fg:=fm) (ft:=ay) (fe:=xp) (h1:=z) rfl rfl hc
  refine aM _ (dY b) ?_
  show (intsOf ([] ++ (List.zip row a9).map fun q=>T.int (q.1 * q.2))).bind _=_
  rw [List.nil_append,show ((List.zip row a9).map fun q=>T.int (q.1 * q.2))=(List.zipWith (· * ·) row a9).map T.int by rw [<- fS,List.map_map]; rfl,gC]
  rfl)
 exact hv
theorem CH {L c p n:Nat} {ell a9:List Int} {d v:Int} {o0 o1 o7:Option Sl} (hL:ell.length=L) (hL8:L ≤ 8) (hc:c < L) (hp:p < n) (hn:n ≤ L) (ht:a9.length=n) (hb:∀ j,(Dt.rw ell j).natAbs < B) (hb':∀ j,(Dt.rw a9 j).natAbs < B) (hd:d.natAbs < B) (h0:Dt.rw ell p ≠ 0) (he:d * Dt.rw ell c - kL ell a9=Dt.rw ell p * v) :
  ∃ o7',nR [o0,o1,some (.sh (.int (c:Nat))),some (.sh (.int d)),some (.own (a9.map T.int)),some (.sh (.int (p:Nat))),some (.sh (iT ell)),o7]=some (.nx [o0,o1,some (.sh (.int (c:Nat))),some (.sh (.int d)),some (.own ((a9.set p v).map T.int)),some (.sh (.int (p:Nat))),some (.sh (iT ell)),o7']):=by
 refine ⟨some (.sh (.int (Dt.rw ell p * v))),?_⟩
 have v1:=CI (row:=ell) (a9:=a9) (τ:=[o0,o1,some (.sh (.int (c:Nat))),some (.sh (.int d)),some (.own (a9.map T.int)),some (.sh (.int (p:Nat))),some (.sh (iT ell)),o7]) rfl rfl hb hb' (by omega) (by omega)
 have g1:=lR (l:=ell) (p:=c) (by omega)
 have g2:=lR (l:=ell) (p:=p) (by omega)
 have a1:aN 7 (aD gL (aD bg (ae 3) (aD cR (ae 6) (ae 2))) vH) [o0,o1,some (.sh (.int (c:Nat))),some (.sh (.int d)),some (.own (a9.map T.int)),some (.sh (.int (p:Nat))),some (.sh (iT ell)),o7]=some (.nx [o0,o1,some (.sh (.int (c:Nat))),some (.sh (.int d)),some (.own (a9.map T.int)),some (.sh (.int (p:Nat))),some (.sh (iT ell)),some (.sh (.int (Dt.rw ell p * v)))]):=by
  rw [<- he]
  exact da (fv (fv rfl (fv rfl rfl g1) (Ex hd (hb c))) v1 Ip) rfl
 have hdv:vw [iT [Dt.rw ell p * v],.int (Dt.rw ell p)]=some (iT [v]):=by
  have e:=j3 (l:=[Dt.rw ell p * v]) (by simp) h0 (hb p)
  rw [show [Dt.rw ell p * v].map (fun x=>x.fdiv (Dt.rw ell p))=[v] by simp only [List.map_cons,List.map_nil,Int.mul_fdiv_cancel_left _ h0]] at e
  exact e
 have hdiv:Aw [o0,o1,some (.sh (.int (c:Nat))),some (.sh (.int d)),some (.own (a9.map T.int)),some (.sh (.int (p:Nat))),some (.sh (iT ell)),some (.sh (.int (Dt.rw ell p * v)))]=some (.int v,[o0,o1,some (.sh (.int (c:Nat))),some (.sh (.int d)),some (.own (a9.map T.int)),some (.sh (.int (p:Nat))),some (.sh (iT ell)),some (.sh (.int (Dt.rw ell p * v)))]):=by
  have c1:kM (aa (ae 7) ah) [o0,o1,some (.sh (.int (c:Nat))),some (.sh (.int d)),some (.own (a9.map T.int)),some (.sh (.int (p:Nat))),some (.sh (iT ell)),some (.sh (.int (Dt.rw ell p * v)))]=some (iT [Dt.rw ell p * v],[o0,o1,some (.sh (.int (c:Nat))),some (.sh (.int d)),some (.own (a9.map T.int)),some (.sh (.int (p:Nat))),some (.sh (iT ell)),some (.sh (.int (Dt.rw ell p * v)))]):=by
   have l1:=JW
   unfold kM
   rw [show aa (ae 7) ah [o0,o1,some (.sh (.int (c:Nat))),some (.sh (.int d)),some (.own (a9.map T.int)),some (.sh (.int (p:Nat))),some (.sh (iT ell)),some (.sh (.int (Dt.rw ell p * v)))]=some ([.int (Dt.rw ell p * v)],[o0,o1,some (.sh (.int (c:Nat))),some (.sh (.int d)),some (.own (a9.map T.int)),some (.sh (.int (p:Nat))),some (.sh (iT ell)),some (.sh (.int (Dt.rw ell p * v)))]) from rfl,Option.bind_some]
   exact if_pos l1
  exact fv (aM (g:=vw) [iT [Dt.rw ell p * v],.int (Dt.rw ell p)] (dN c1 (fv rfl rfl g2)) hdv) rfl rfl
 have a2:=yn (i:=4) (f:=Aw) (g:=ae 5) (τ:=[o0,o1,some (.sh (.int (c:Nat))),some (.sh (.int d)),some (.own (a9.map T.int)),some (.sh (.int (p:Nat))),some (.sh (iT ell)),some (.sh (.int (Dt.rw ell p * v)))]) (us:=a9.map T.int) (k:=p) rfl hdiv rfl (by rw [List.length_map]; omega)
 unfold nR
 rw [bh a1,a2,List.map_set]
 rfl
theorem wG {l:List Int} {p:Nat} {v:Int} (h:p < l.length) (j:Nat):Dt.rw (l.set p v) j=if j=p then v else Dt.rw l j:=by
 unfold Dt.rw
 rw [List.getD_eq_getElem?_getD,List.getD_eq_getElem?_getD]
 by_cases e:j=p
 ·subst e
  rw [List.getElem?_set_self h,if_pos rfl]
  rfl
 ·rw [List.getElem?_set_ne (Ne.symm e),if_neg e]
theorem xq {M L n c:Nat} (hM:(8 * M + 1) ^ 5 < B) {R0:List Dt.Row} {ps0:List Nat} (hn0:ps0.Nodup) (hps:∀ p ∈ ps0,p < n) (hnL:n ≤ L) (hL8:L ≤ 8) (hc:c < L) (hR4:R0.length ≤ 4) (hp4:ps0.length ≤ 4) (hbd:∀ y ∈ R0,lF M y) {o0 o1:Option Sl} :
  ∀ {kr:List (Nat × List Int)} {R:List Dt.Row} {ps:List Nat},Dt.Ch L R ps kr -> ∀ (Q:List Nat) (a9:List Int) (o5 o6 o7:Option Sl),ps0=Q ++ ps -> (∀ y ∈ R,y ∈ R0) -> R.length ≤ 4 -> a9.length=n -> (∀ p ∈ ps,Dt.rw a9 p=0) -> (∀ q ∈ Q,Dt.rw a9 q=Dt.det R0 (Dt.put ps0 c q)) -> (∀ j,(Dt.rw a9 j).natAbs < B) ->
   (∀ row:List Int,n ≤ row.length -> kL row a9=Dt.kq Q fun q=>Dt.rw row q * Dt.det R0 (Dt.put ps0 c q)) ->
   ∃ (tops':List Int) (o5' o6' o7':Option Sl),tops'.length=n /\ (∀ q ∈ ps0,Dt.rw tops' q=Dt.det R0 (Dt.put ps0 c q)) /\
    bP (bp (ar (ak 5) (ar (ak 6) bo))) nR (kr.map pT) [o0,o1,some (.sh (.int (c:Nat))),some (.sh (.int (Dt.det R0 ps0))),some (.own (a9.map T.int)),o5,o6,o7]=some (.nx [o0,o1,some (.sh (.int (c:Nat))),some (.sh (.int (Dt.det R0 ps0))),some (.own (tops'.map T.int)),o5',o6',o7'])
 | _,_,_,.nil,Q,a9,o5,o6,o7,hq,_,_,ht,_,h2,_,_=>⟨a9,o5,o6,o7,ht,by rw [hq,List.append_nil] at *; exact h2,rfl⟩
 | _,_,_,.cons (R:=R) (ps:=ps) (kr:=kr) (x:=x) (p:=p) hch hp hne,Q,a9,o5,o6,o7,hq,hR,hr4,ht,h1,h2,h3,h4=>by
  have hpn:p < n:=hps p (by rw [hq]; exact List.mem_append_right _ List.mem_cons_self)
  simp only [List.length_cons] at hr4
  have hpl:ps.length ≤ 4:=by rw [hq,List.length_append,List.length_cons] at hp4; omega
  have hbR:∀ y ∈ R,lF M y:=fun y hy=>hbd y (hR y (List.mem_cons_of_mem _ hy))
  have hbx:lF M x:=hbd x (hR x List.mem_cons_self)
  have bl:∀ j,(Dt.rw (Dt.aR L R ps x) j).natAbs < B:=fun j=>by
   by_cases hj:j < L
   ·rw [Dt.dR hj]; exact Bq hM hbx hbR (by omega) (by omega) j
   ·have:Dt.rw (Dt.aR L R ps x) j=0:=by
     unfold Dt.rw
     rw [List.getD_eq_getElem?_getD,List.getElem?_eq_none (by rw [Dt.di]; omega)]
     rfl
    rw [this]
    decide +kernel
  have bd:(Dt.det R0 ps0).natAbs < B:=AL hM hbd (by omega) (by omega)
  have bs:=Dt.yZ hn0 c (R0:=R0) (R:=R) (ps:=ps) (Q:=Q) (x:=x) (p:=p) hq hR
  have hdot:=h4 (Dt.aR L R ps x) (by rw [Dt.di]; exact hnL)
  have hpsL:∀ q ∈ Q,q < L:=fun q hq'=>by have:=hps q (by rw [hq]; exact List.mem_append_left _ hq'); omega
  have e0:Dt.det R0 ps0 * Dt.rw (Dt.aR L R ps x) c - kL (Dt.aR L R ps x) a9=Dt.rw (Dt.aR L R ps x) p * Dt.det R0 (Dt.put ps0 c p):=by
   rw [hdot,Dt.dR hc,Dt.dR (by omega),Dt.jJ (g:=fun q=>Dt.left R ps x q * Dt.det R0 (Dt.put ps0 c q)) fun q hq'=>by rw [Dt.dR (hpsL q hq')]]
   exact bs
  obtain ⟨o7a,hturn⟩:=CH (L:=L) (c:=c) (p:=p) (n:=n) (ell:=Dt.aR L R ps x) (a9:=a9) (d:=Dt.det R0 ps0) (v:=Dt.det R0 (Dt.put ps0 c p)) (o0:=o0) (o1:=o1) (o7:=o7) (Dt.di _ _ _ _) hL8 hc hpn hnL ht bl h3 bd (by rw [Dt.dR (by omega)]; exact hne) e0
  have hpt:p < a9.length:=by omega
  have nd:=hn0
  rw [hq] at nd
  obtain ⟨nQ,nP,nd3⟩:=List.nodup_append.mp nd
  obtain ⟨nP1,nP2⟩:=List.nodup_cons.mp nP
  have bt:(Dt.det R0 (Dt.put ps0 c p)).natAbs < B:=AL hM hbd (by omega) (by unfold Dt.put; rw [List.length_map]; omega)
  obtain ⟨tops',p5,p6,p7,k1,k2,k3⟩:=xq hM hn0 hps hnL hL8 hc hR4 hp4 hbd (o0:=o0) (o1:=o1) hch (Q ++ [p]) (a9.set p (Dt.det R0 (Dt.put ps0 c p))) (some (.sh (.int (p:Nat)))) (some (.sh (iT (Dt.aR L R ps x)))) o7a (by rw [hq,List.append_assoc]; rfl) (fun y hy=>hR y (List.mem_cons_of_mem _ hy)) (by omega) (by rw [List.length_set]; exact ht)
   (fun q hq'=>by rw [wG hpt,if_neg (fun e:q=p=>nP1 (e ▸ hq'))]; exact h1 q (List.mem_cons_of_mem _ hq'))
   (fun q hq'=>by
    rw [wG hpt]
    rcases List.mem_append.mp hq' with hq' | hq'
    ·rw [if_neg (fun e:q=p=>nd3 q hq' p List.mem_cons_self e)]
     exact h2 q hq'
    ·rw [List.mem_singleton.mp hq',if_pos rfl])
   (fun j=>by
    rw [wG hpt]
    split
    ·exact bt
    ·exact h3 j)
   (fun row hrow=>by
    rw [xE row a9 p _ hpt (by omega) (h1 p List.mem_cons_self),h4 row hrow,Dt.tP]
    show _=_ + (Dt.rw row p * _ + 0)
    rw [Int.add_zero]
    rfl)
  refine ⟨tops',p5,p6,p7,k1,k2,?_⟩
  rw [List.map_cons,bQ (τ1:=[o0,o1,some (.sh (.int (c:Nat))),some (.sh (.int (Dt.det R0 ps0))),some (.own (a9.map T.int)),some (.sh (.int (p:Nat))),some (.sh (iT (Dt.aR L R ps x))),o7]) rfl hturn]
  exact k3
open PySem PySem.Spec PyProof.Rows L2 TM Qm Rq
theorem C9 {a b:Int} (hb:b ≠ 0):mV a b=bq (Rat.divInt a b):=by
 by_cases h:0 < b
 ·exact gR h
 ·have hn:0 < -b:=by omega
  have e1:mV a b=mV (-a) (-b):=by
   rw [ni hn]
   unfold mV sg
   rw [if_pos (by omega),Int.gcd_neg,Int.neg_gcd]
   have h1:∀ x g:Int,x.fdiv (-g)=(-x).fdiv g:=fun x g=>by
    rw [<- Int.neg_fdiv_neg]
    rw [Int.neg_neg]
   rw [h1,h1]
  rw [e1,gR hn,<- Rat.neg_divInt_neg,Int.neg_neg,Int.neg_neg]
theorem vm {L w:Nat} (hwL:w ≤ L):∀ (rows:List (List Int)) (R:List Dt.Row) (ps:List Nat) (kr:List (Nat × List Int)),(cV (aK L w rows R ps)).length=rows.length -> Dt.Ch L R ps kr ->
  ∃ (qs:List Nat) (kr':List (Nat × List Int)),(aK L w rows R ps).map (·.1)=qs.map some /\ Dt.Ch L ((rows.map Dt.rw).reverse ++ R) (qs.reverse ++ ps) kr' /\ (∀ q ∈ qs,q < w) /\ ((aK L w rows R ps).map dJ).reverse ++ kr.map pT=kr'.map pT
 | [],R,ps,kr,_,h=>⟨[],kr,rfl,h,(fun _ h=>by cases h),rfl⟩
 | row :: rows,R,ps,kr,hk,h=>by
  cases e:Dt.fp w (Dt.left R ps (Dt.rw row)) with
  | none =>
   have e1:aK L w (row :: rows) R ps=(none,Dt.aR L R ps (Dt.rw row)) :: aK L w rows R ps:=by rw [aK,e]
   rw [e1] at hk
   have h2:(cV (aK L w rows R ps)).length=rows.length + 1:=hk
   have h3:=jd (aK L w rows R ps)
   rw [dI] at h3
   omega
  | some p =>
   have e1:aK L w (row :: rows) R ps=(some p,Dt.aR L R ps (Dt.rw row)) :: aK L w rows (Dt.rw row :: R) (p :: ps):=by rw [aK,e]
   obtain ⟨pw,pn⟩:=Dt.jG e
   have h2:(cV (aK L w rows (Dt.rw row :: R) (p :: ps))).length + 1=rows.length + 1:=by rw [e1] at hk; exact hk
   obtain ⟨qs,kr',q1,q2,q3,q4⟩:=vm hwL rows (Dt.rw row :: R) (p :: ps) ((p,Dt.aR L R ps (Dt.rw row)) :: kr) (by omega) (.cons h (by omega) pn)
   have ee:(p :: qs).reverse ++ ps=qs.reverse ++ (p :: ps):=by rw [List.reverse_cons,List.append_assoc]; rfl
   have er:((row :: rows).map Dt.rw).reverse ++ R=(rows.map Dt.rw).reverse ++ (Dt.rw row :: R):=by rw [List.map_cons,List.reverse_cons,List.append_assoc]; rfl
   rw [e1]
   refine ⟨p :: qs,kr',by rw [List.map_cons,q1,List.map_cons],by rw [ee,er]; exact q2,fun q hq=>?_,?_⟩
   ·rcases List.mem_cons.mp hq with rfl | hq
    ·exact pw
    ·exact q3 q hq
   ·rw [List.map_cons,List.reverse_cons,List.append_assoc,<- q4]
    rfl
theorem yd {x:Nat}:∀ {l:List Nat},x ∈ Dt.srt l ↔ x ∈ l
 | []=>Iff.rfl
 | a :: l=>by
  show x ∈ Dt.ins a (Dt.srt l) ↔ _
  rw [Dt.rQ,yd,List.mem_cons]
theorem f9:∀ {l m:List Nat},l.map some=m.map some -> l=m
 | [],[],_=>rfl
 | [],b :: m,h=>by simp at h
 | a :: l,[],h=>by simp at h
 | a :: l,b :: m,h=>by
  rw [List.map_cons,List.map_cons] at h
  injection h with h1 h2
  injection h1 with h1
  rw [h1,f9 h2]
abbrev EW:List T -> Option T:=cE 8 3 (jC Cn vw dG)
theorem DR:∀ n:Nat,((List.range n).map fun (_:Nat)=>(0:Int))=List.replicate n 0:=fun n=>by
 rw [List.map_const',List.length_range]
theorem BZ (n j:Nat):Dt.rw (List.replicate n 0) j=0:=by
 unfold Dt.rw
 rw [List.getD_eq_getElem?_getD,List.getElem?_replicate]
 split <;> rfl
theorem xD:∀ (n:Nat) (row:List Int),kL row (List.replicate n 0)=0
 | 0,row=>by unfold kL; rw [List.replicate_zero,List.zipWith_nil_right]; rfl
 | n + 1,[]=>rfl
 | n + 1,r :: row=>by
  show r * 0 + kL row (List.replicate n 0)=0
  rw [xD n row]
  omega
theorem vQ {M L n c:Nat} (hM:(8 * M + 1) ^ 5 < B) {rows:List (List Int)} (hn:rows.length=n) (h4:n ≤ 4) (hnL:n ≤ L) (hL8:L ≤ 8) (hc:c < L) (hb:∀ row ∈ rows,row.length=L /\ lF M (Dt.rw row)) (hk:(cV (aK L n rows [] [])).length=n) :
  ∃ (R0:List Dt.Row) (ps0:List Nat),R0=(rows.map Dt.rw).reverse /\ ps0.Nodup /\ ps0.length=n /\ (∀ j,j < n ↔ j ∈ ps0) /\ Dt.det R0 ps0 ≠ 0 /\ (Dt.det R0 ps0).natAbs ≤ (8 * M + 1) ^ 5 /\ (∀ j,(Dt.det R0 (Dt.put ps0 c j)).natAbs ≤ (8 * M + 1) ^ 5) /\
   (∀ qs:List Nat,(aK L n rows [] []).map (·.1)=qs.map some -> ps0=qs.reverse) /\
   EW [.lst ((aK L n rows [] []).map dJ),.int (n:Nat),.int (c:Nat)]=some (aG ((List.range n).map fun j=>Rat.divInt (Dt.det R0 (Dt.put ps0 c j)) (Dt.det R0 ps0))):=by
 subst hn
 obtain ⟨hz,qs,q1,q2,q3,q4⟩:=kI (L:=L) (rows:=rows) h4 hnL hk
 obtain ⟨qs',kr,r1,r2,r3,r4⟩:=vm hnL rows [] [] [] hk .nil
 have hqq:qs'=qs:=f9 (r1.symm.trans q2)
 subst hqq
 rw [List.append_nil,List.append_nil] at r2
 rw [List.map_nil,List.append_nil] at r4
 obtain ⟨qf,f1,f2,f3,f4,f5,_⟩:=kn hnL rows [] [] hk List.nodup_nil (fun _ h=>by cases h) (by decide)
 have hqf:qf=qs':=f9 (f2.symm.trans q2)
 subst hqf
 rw [List.append_nil] at f3 f4
 rw [List.append_nil,List.append_nil] at f5
 have hlenp:qf.reverse.length=rows.length:=by rw [List.length_reverse,q1]
 have hbR:∀ y ∈ (rows.map Dt.rw).reverse,lF M y:=fun y hy=>by
  obtain ⟨row,hr,rfl⟩:=List.mem_map.mp (List.mem_reverse.mp hy)
  exact (hb row hr).2
 have hR4:(rows.map Dt.rw).reverse.length ≤ 4:=by rw [List.length_reverse,List.length_map]; omega
 have hall:∀ j,j < rows.length ↔ j ∈ qf.reverse:=fun j=>by
  obtain ⟨e1,_⟩:=Dt.gp rows.length h4 qf.reverse (Dt.gE hlenp f4) f3
  rw [<- yd,e1,List.mem_range]
 have bt:∀ j,(Dt.det (rows.map Dt.rw).reverse (Dt.put qf.reverse c j)).natAbs ≤ (8 * M + 1) ^ 5:=fun j=>AM hbR (by omega) (by unfold Dt.put; rw [List.length_map]; omega)
 have bd:(Dt.det (rows.map Dt.rw).reverse qf.reverse).natAbs ≤ (8 * M + 1) ^ 5:=AM hbR (by omega) (by omega)
 refine ⟨(rows.map Dt.rw).reverse,qf.reverse,rfl,f3,hlenp,hall,f5,bd,bt,(fun qs2 h2=>by rw [f9 (q2.symm.trans h2)]),?_⟩
 generalize hS:(aK L rows.length rows [] []).map dJ=S at *
 generalize hR0:(rows.map Dt.rw).reverse=R0 at *
 generalize hP0:qf.reverse=ps0 at *
 generalize hnn:rows.length=n at *
 obtain ⟨tops',o5,o6,o7,k1,k2,k3⟩:=xq (n:=n) hM f3 (fun p hp=>(hall p).mpr hp) hnL hL8 hc hR4 (by omega) hbR (o0:=some (.sh (.lst S))) (o1:=some (.sh (.int (n:Nat)))) r2 [] (List.replicate n 0) none none none rfl (fun y hy=>hy) hR4 (List.length_replicate) (fun p _=>BZ n p) (fun q hq=>by cases hq) (fun j=>by rw [BZ]; decide +kernel) (fun row _=>by rw [xD]; rfl)
 have ht:tops'=(List.range n).map fun j=>Dt.det R0 (Dt.put ps0 c j):=by
  apply List.ext_getElem
  ·rw [k1,List.length_map,List.length_range]
  ·intro j hj _
   have:=k2 j ((hall j).mp (by omega))
   unfold Dt.rw at this
   rw [List.getD_eq_getElem?_getD,List.getElem?_eq_getElem hj] at this
   rw [List.getElem_map,List.getElem_range]
   exact this
 have a1:aN 3 (ai Cn (aa (ae 0) ah)) [some (.sh (.lst S)),some (.sh (.int (n:Nat))),some (.sh (.int (c:Nat))),none,none,none,none,none]=some (.nx [some (.sh (.lst S)),some (.sh (.int (n:Nat))),some (.sh (.int (c:Nat))),some (.sh (.int (Dt.det R0 ps0))),none,none,none,none]):=da (aM [.lst S] (dY rfl) q3) rfl
 have c2:=cM (φ:=fun j:Nat=>T.int (j:Nat)) (fe:=fC (.int 0)) (g:=fun _=>T.int 0) (ρ:=[]) rfl (List.range n) none [] (fun j _=>rfl) (cU (by rw [List.length_range]; omega))
 have a2:d3 4 1 [] (bS (aa (ae 1) ah)) (ak 0) ay (fC (.int 0)) [some (.sh (.lst S)),some (.sh (.int (n:Nat))),some (.sh (.int (c:Nat))),some (.sh (.int (Dt.det R0 ps0))),none,none,none,none]=some (.nx [some (.sh (.lst S)),some (.sh (.int (n:Nat))),some (.sh (.int (c:Nat))),some (.sh (.int (Dt.det R0 ps0))),some (.own ((List.replicate n (0:Int)).map T.int)),none,none,none]):=by
  rw [<- DR,List.map_map]
  exact mG (i:=4) (no:=1) (cap:=[]) (fg:=ak 0) (ft:=ay) (τ:=[some (.sh (.lst S)),some (.sh (.int (n:Nat))),some (.sh (.int (c:Nat))),some (.sh (.int (Dt.det R0 ps0))),none,none,none,none]) (h1:=jH (f:=ae 1) rfl (by omega)) rfl rfl c2
 have r3':xH (aa (ae 0) ah) [some (.sh (.lst S)),some (.sh (.int (n:Nat))),some (.sh (.int (c:Nat))),some (.sh (.int (Dt.det R0 ps0))),some (.own ((List.replicate n (0:Int)).map T.int)),none,none,none]=some (kr.map pT,[some (.sh (.lst S)),some (.sh (.int (n:Nat))),some (.sh (.int (c:Nat))),some (.sh (.int (Dt.det R0 ps0))),some (.own ((List.replicate n (0:Int)).map T.int)),none,none,none]):=by
  rw [<- r4]
  rfl
 have a3:=gQ (fg:=bp (ar (ak 5) (ar (ak 6) bo))) (fb:=nR) r3' k3
 have c4:=cM (φ:=T.int) (fe:=ai dG (aa (ae 0) (aa (ae 1) ah))) (g:=fun t=>bq (Rat.divInt t (Dt.det R0 ps0))) (ρ:=[some (.sh (.int (Dt.det R0 ps0)))]) rfl tops' none [] (fun t ht'=>aM _ (dN rfl rfl) (by
  rw [ht] at ht'
  obtain ⟨j,_,rfl⟩:=List.mem_map.mp ht'
  rw [gD (Nat.lt_of_le_of_lt (bt j) hM) (Nat.lt_of_le_of_lt bd hM) f5,C9 f5])) (cU (by omega))
 have z4:aW (ae 4) [some (.sh (.lst S)),some (.sh (.int (n:Nat))),some (.sh (.int (c:Nat))),some (.sh (.int (Dt.det R0 ps0))),some (.own (tops'.map T.int)),o5,o6,o7]=some (tops'.map T.int,[some (.sh (.lst S)),some (.sh (.int (n:Nat))),some (.sh (.int (c:Nat))),some (.sh (.int (Dt.det R0 ps0))),some (.sh (.lst (tops'.map T.int))),o5,o6,o7]):=rfl
 have b4:=lN (no:=1) (cap:=[3]) (fg:=ak 0) (ft:=ay) (fe:=ai dG (aa (ae 0) (aa (ae 1) ah))) (h1:=z4) rfl rfl c4
 refine kE rfl ?_
 show aE (aN 3 (ai Cn (aa (ae 0) ah))) (aE (d3 4 1 [] (bS (aa (ae 1) ah)) (ak 0) ay (fC (.int 0))) (aE (cG (xH (aa (ae 0) ah)) (bp (ar (ak 5) (ar (ak 6) bo))) nR) (a8 (bX 1 [3] (aW (ae 4)) (ak 0) ay (ai dG (aa (ae 0) (aa (ae 1) ah))))))) [some (.sh (.lst S)),some (.sh (.int (n:Nat))),some (.sh (.int (c:Nat))),none,none,none,none,none]=_
 rw [bh a1,bh a2,bh a3,mN b4,List.nil_append,ht,List.map_map]
 show some (R.rt (.lst _))=some (R.rt (.lst _))
 rw [List.map_map]
 rfl
open PySem PySem.Spec PyProof.Rows L2 TM Qm Rq
def vo (m i:Nat) (low:Nat):List Int:=(List.range m).map fun o=>if o=i then (low:Int) else 0
def dB (m i:Nat) (r:List Rat):List Int:=a9 r ++ vo m i (aw r)
def ia (A:List (List Rat)):List (List Int):=(List.range A.length).map fun i=>dB A.length i (A.getD i [])
def Cc:FE:=En (dw (aD lD (ae 0) (ae 1))) (ae 2) (fC (.int 0))
def pE:FS:=aE (aN 5 (ai zB (aa (ae 4) ah))) (iB 2 (aD cH (ai zA (aa (ae 4) (aa (ae 5) ah))) (bX 1 [3,5] (bS (aa (ae 1) ah)) (ak 0) ay Cc)))
theorem ID (o i low:Nat):Cc [some (.sh (.int (o:Nat))),some (.sh (.int (i:Nat))),some (.sh (.int (low:Nat)))]=some (.int (if o=i then (low:Int) else 0),[some (.sh (.int (o:Nat))),some (.sh (.int (i:Nat))),some (.sh (.int (low:Nat)))]):=by
 have e:dw (aD lD (ae 0) (ae 1)) [some (.sh (.int (o:Nat))),some (.sh (.int (i:Nat))),some (.sh (.int (low:Nat)))]=some (decide ((o:Int)=(i:Int)),[some (.sh (.int (o:Nat))),some (.sh (.int (i:Nat))),some (.sh (.int (low:Nat)))]):=by
  have:=fv (g:=lD) (fa:=ae 0) (fb:=ae 1) (τ:=[some (.sh (.int (o:Nat))),some (.sh (.int (i:Nat))),some (.sh (.int (low:Nat)))]) rfl rfl (nj (o:Int) (i:Int))
  unfold dw
  rw [this]
  rfl
 unfold Cc En
 rw [e,Option.bind_some]
 by_cases h:o=i
 ·subst h
  rw [if_pos rfl,decide_eq_true rfl]
  rfl
 ·rw [if_neg h,decide_eq_false (by omega)]
  rfl
theorem D6 {m i D N:Nat} {r:List Rat} (hg:Gn D N r) (hm:m ≤ 4) {acc:List T} (ha:acc.length ≤ 20) {o0 o5:Option Sl} :
  pE [o0,some (.sh (.int (m:Nat))),some (.own acc),some (.sh (.int (i:Nat))),some (.sh (aG r)),o5]=some (.nx [o0,some (.sh (.int (m:Nat))),some (.own (acc ++ [iT (dB m i r)])),some (.sh (.int (i:Nat))),some (.sh (aG r)),some (.sh (.int (aw r:Nat)))]):=by
 have a1:aN 5 (ai zB (aa (ae 4) ah)) [o0,some (.sh (.int (m:Nat))),some (.own acc),some (.sh (.int (i:Nat))),some (.sh (aG r)),o5]=some (.nx [o0,some (.sh (.int (m:Nat))),some (.own acc),some (.sh (.int (i:Nat))),some (.sh (aG r)),some (.sh (.int (aw r:Nat)))]):=da (aM [aG r] (dY rfl) (BA hg)) rfl
 have c2:=cM (φ:=fun j:Nat=>T.int (j:Nat)) (fe:=Cc) (g:=fun o=>T.int (if o=i then (aw r:Int) else 0)) (ρ:=[some (.sh (.int (i:Nat))),some (.sh (.int (aw r:Nat)))]) rfl (List.range m) none [] (fun o _=>ID o i (aw r)) (cU (by rw [List.length_range]; omega))
 have b2:=cF (no:=1) (cap:=[3,5]) (fg:=ak 0) (ft:=ay) (fe:=Cc) (τ:=[o0,some (.sh (.int (m:Nat))),some (.own acc),some (.sh (.int (i:Nat))),some (.sh (aG r)),some (.sh (.int (aw r:Nat)))]) (h1:=jH (f:=ae 1) rfl (by omega)) rfl rfl c2
 have hl:r.length ≤ 8:=hg.len
 have g3:cH (.lst (r.map fun x=>T.int (bC (aw r) x))) (.lst ([] ++ (List.range m).map fun o=>T.int (if o=i then (aw r:Int) else 0)))=some (iT (dB m i r)):=by
  rw [uo (du (by rw [List.nil_append,List.length_map,List.length_map,List.length_range]; omega)),List.nil_append]
  unfold iT dB a9 vo
  rw [List.map_append,List.map_map,List.map_map]
  rfl
 have v3:=fv (aM (g:=zA) [aG r,.int (aw r:Nat)] (dN (f:=ae 4) (g:=ae 5) (τ:=[o0,some (.sh (.int (m:Nat))),some (.own acc),some (.sh (.int (i:Nat))),some (.sh (aG r)),some (.sh (.int (aw r:Nat)))]) rfl rfl) (Bz hg)) b2 g3
 unfold pE
 rw [bh a1]
 exact Aq rfl v3 (dz (by omega))
theorem yL {D N:Nat} {A:List (List Rat)} (hA:∀ r ∈ A,Gn D N r) (hm:A.length ≤ 4) {o0:Option Sl}:∀ (rest pre:List (List Rat)) (acc:List T) (o3 o4 o5:Option Sl),A=pre ++ rest -> acc.length + rest.length ≤ 20 ->
  ∃ o3' o4' o5',bP (bp (ar (ak 3) (ar (ak 4) bo))) pE (xF pre.length (rest.map aG)) [o0,some (.sh (.int (A.length:Nat))),some (.own acc),o3,o4,o5]=some (.nx [o0,some (.sh (.int (A.length:Nat))),some (.own (acc ++ (List.range' pre.length rest.length).map fun i=>iT (dB A.length i (A.getD i [])))),o3',o4',o5'])
 | [],pre,acc,o3,o4,o5,_,_=>⟨o3,o4,o5,by simp [xF,bP]⟩
 | r :: rest,pre,acc,o3,o4,o5,h,ha=>by
  simp only [List.length_cons] at ha
  have hr:r ∈ A:=by rw [h]; exact List.mem_append_right _ List.mem_cons_self
  have ht:=D6 (m:=A.length) (i:=pre.length) (hA r hr) hm (acc:=acc) (by omega) (o0:=o0) (o5:=o5)
  have hget:A.getD pre.length []=r:=by rw [h,List.getD_eq_getElem?_getD,List.getElem?_append_right (Nat.le_refl _),Nat.sub_self]; rfl
  obtain ⟨p3,p4,p5,hl⟩:=yL hA hm (o0:=o0) rest (pre ++ [r]) (acc ++ [iT (dB A.length pre.length r)]) (some (.sh (.int (pre.length:Nat)))) (some (.sh (aG r))) (some (.sh (.int (aw r:Nat)))) (by rw [h,List.append_assoc]; rfl) (by rw [List.length_append]; simp only [List.length_cons,List.length_nil]; omega)
  refine ⟨p3,p4,p5,?_⟩
  rw [List.map_cons,xF,bQ (τ1:=[o0,some (.sh (.int (A.length:Nat))),some (.own acc),some (.sh (.int (pre.length:Nat))),some (.sh (aG r)),o5]) rfl ht]
  rw [List.length_append] at hl
  refine hl.trans ?_
  rw [show (r :: rest).length=rest.length + 1 from rfl,List.range'_succ,List.map_cons,hget,List.append_assoc]
  rfl
abbrev Co:List T -> Option T:=cE 6 1 (jE zB zA)
theorem og {D N:Nat} {A:List (List Rat)} (hA:∀ r ∈ A,Gn D N r) (hm:A.length ≤ 4):Co [au A]=some (.lst ((ia A).map iT)):=by
 obtain ⟨o3,o4,o5,hl⟩:=yL hA hm (o0:=some (.sh (au A))) A [] [] none none none rfl (by simp; omega)
 have a1:aN 1 (ai cn (aa (ae 0) ah)) [some (.sh (au A)),none,none,none,none,none]=some (.nx [some (.sh (au A)),some (.sh (.int (A.length:Nat))),none,none,none,none]):=da (aM [au A] (dY rfl) (len_tab A)) rfl
 have a3:cG (j5 (aa (ae 0) ah)) (bp (ar (ak 3) (ar (ak 4) bo))) pE [some (.sh (au A)),some (.sh (.int (A.length:Nat))),some (.own []),none,none,none]=_:=gQ rfl hl
 refine kE rfl ?_
 show aE (aN 1 (ai cn (aa (ae 0) ah))) (aE (dq 2 ah) (aE (cG (j5 (aa (ae 0) ah)) (bp (ar (ak 3) (ar (ak 4) bo))) pE) (a8 (ae 2)))) [some (.sh (au A)),none,none,none,none,none]=_
 rw [bh a1,bh (τ':=[some (.sh (au A)),some (.sh (.int (A.length:Nat))),some (.own []),none,none,none]) rfl,bh a3]
 unfold ia
 rw [List.map_map,List.nil_append,List.range_eq_range']
 rfl
theorem tW (A:List (List Rat)):(ia A).length=A.length:=by unfold ia; rw [List.length_map,List.length_range]
theorem vn {n D N:Nat} {A:List (List Rat)} (hA:∀ r ∈ A,Gn D N r) (hl:A.length=n) (hw:∀ r ∈ A,r.length=n):∀ row ∈ ia A,row.length=n + n /\ lF (N * D + D) (Dt.rw row):=fun row hr=>by
 obtain ⟨i,hi,rfl⟩:=List.mem_map.mp hr
 have hi':=List.mem_range.mp hi
 have hm:=gm hi'
 have hg:=hA _ hm
 constructor
 ·unfold dB a9 vo
  rw [List.length_append,List.length_map,List.length_map,List.length_range,hw _ hm,hl]
 ·exact fun j=>Ez (fun z hz=>by
   rcases List.mem_append.mp hz with hz | hz
   ·obtain ⟨x,hx,rfl⟩:=List.mem_map.mp hz
    have:=EE (hg.num x hx) hg.dp (je hg).1
    omega
   ·obtain ⟨o,_,rfl⟩:=List.mem_map.mp hz
    have:=Nat.le_of_dvd hg.dp (je hg).1
    split
    ·rw [Int.natAbs_natCast]; omega
    ·exact Nat.zero_le _) j
theorem yk {l m:List Int} {j:Nat} (h:j < l.length):Dt.rw (l ++ m) j=Dt.rw l j:=by
 unfold Dt.rw
 rw [List.getD_eq_getElem?_getD,List.getD_eq_getElem?_getD,List.getElem?_append_left h]
theorem oS {l m:List Int} {k n:Nat} (h:l.length=n):Dt.rw (l ++ m) (n + k)=Dt.rw m k:=by
 unfold Dt.rw
 rw [List.getD_eq_getElem?_getD,List.getD_eq_getElem?_getD,List.getElem?_append_right (by omega),show n + k - l.length=k by omega]
theorem tD (m i low k:Nat):Dt.rw (vo m i low) k=if k=i /\ k < m then (low:Int) else 0:=by
 unfold Dt.rw vo
 rw [List.getD_eq_getElem?_getD,List.getElem?_map]
 by_cases h:k < m
 ·rw [List.getElem?_range h]
  show (if k=i then (low:Int) else 0)=_
  by_cases e:k=i
  ·rw [if_pos e,if_pos ⟨e,h⟩]
  ·rw [if_neg e,if_neg fun z=>e z.1]
 ·rw [List.getElem?_eq_none (by rw [List.length_range]; omega),if_neg fun z=>h z.2]
  rfl
theorem jA (r:List Rat):(a9 r).length=r.length:=by unfold a9; rw [List.length_map]
theorem ui {n:Nat} {A:List (List Rat)} (hl:A.length=n) (hw:∀ r ∈ A,r.length=n):j0 (ia A)=j0 (A.map a9):=by
 unfold j0
 rw [tW,List.length_map]
 unfold ia
 rw [List.map_map,List.map_map,map_range (Dt.rw ∘ a9) [] A]
 exact Dt.fj (List.range A.length) (List.range A.length) fun i hi j hj=>by
  show Dt.rw (dB A.length i (A.getD i [])) j=Dt.rw (a9 (A.getD i [])) j
  unfold dB
  exact yk (by rw [jA,hw _ (gm (List.mem_range.mp hi)),<- hl]; exact List.mem_range.mp hj)
open PySem PySem.Spec PyProof.Rows L2 TM Qm Rq
def Bf (l:List Int) (s:Nat):Nat:=l.foldl (fun s x=>Int.gcd (s:Int) x) s
theorem Fi {a:Nat} {b:Int} (ha:a < B) (hb:b.natAbs < B):Int.gcd (a:Int) b < B:=by
 show Nat.gcd ((a:Int)).natAbs b.natAbs < B
 rw [Int.natAbs_natCast]
 rcases Nat.eq_zero_or_pos a with h | h
 ·rw [h,Nat.gcd_zero_left]; exact hb
 ·exact Nat.lt_of_le_of_lt (Nat.gcd_le_left _ h) ha
theorem xN:∀ (l:List Int) (s:Nat),(s ≠ 0 \/ ∃ x ∈ l,x ≠ 0) -> Bf l s ≠ 0
 | [],s,h=>by
  rcases h with h | ⟨x,hx,_⟩
  ·exact h
  ·cases hx
 | y :: l,s,h=>by
  show Bf l (Int.gcd (s:Int) y) ≠ 0
  apply xN l
  rcases h with h | ⟨x,hx,h0⟩
  ·exact .inl fun z=>h (by have:=(Int.gcd_eq_zero_iff.mp z).1; omega)
  ·rcases List.mem_cons.mp hx with rfl | hx
   ·exact .inl fun z=>h0 (Int.gcd_eq_zero_iff.mp z).2
   ·exact .inr ⟨x,hx,h0⟩
def tL:FS:=aN 1 (ai d8 (aa (ae 1) (aa (ae 2) ah)))
theorem yu {o0:Option Sl}:∀ (l:List Int) (s:Nat) (o2:Option Sl),s < B -> (∀ x ∈ l,x.natAbs < B) -> Bf l s < B /\ ∃ o2',bP (ak 2) tL (l.map T.int) [o0,some (.sh (.int (s:Nat))),o2]=some (.nx [o0,some (.sh (.int (Bf l s:Nat))),o2'])
 | [],s,o2,hs,_=>⟨hs,o2,rfl⟩
 | x :: l,s,o2,hs,hx=>by
  have hb:=hx x List.mem_cons_self
  have hg:=Fi hs hb
  obtain ⟨h1,o2',h2⟩:=yu (o0:=o0) l (Int.gcd (s:Int) x) (some (.sh (.int x))) hg (fun y hy=>hx y (List.mem_cons_of_mem _ hy))
  refine ⟨h1,o2',?_⟩
  have ht:tL [o0,some (.sh (.int (s:Nat))),some (.sh (.int x))]=some (.nx [o0,some (.sh (.int (Int.gcd (s:Int) x:Nat))),some (.sh (.int x))]):=da (aM _ (dN rfl rfl) (eu (by rw [Int.natAbs_natCast]; exact hs) hb)) rfl
  rw [List.map_cons,bQ (τ1:=[o0,some (.sh (.int (s:Nat))),some (.sh (.int x))]) rfl ht,h2]
  rfl
abbrev EY:List T -> Option T:=cE 3 1 (gP d8 vw)
theorem AU {l:List Int} (h8:l.length ≤ 8) (hb:∀ x ∈ l,x.natAbs < B) (h0:∃ x ∈ l,x ≠ 0):∃ us,EY [iT l]=some (.lst us):=by
 obtain ⟨h1,o2,h2⟩:=yu (o0:=some (.sh (iT l))) l 0 none (by decide +kernel) hb
 have hn:=xN l 0 (.inr h0)
 generalize Bf l 0=s at h1 h2 hn
 have a2:cG (aW (ae 0)) (ak 2) tL [some (.sh (iT l)),some (.sh (.int (0:Nat))),none]=_:=gQ rfl h2
 have e3:=j3 (l:=l) (d:=(s:Int)) h8 (by omega) (by rw [Int.natAbs_natCast]; exact h1)
 have c3:=cM (φ:=T.int) (fe:=b0 (aa (ae 0) (aa (fC (.int 1)) ah))) (g:=fun x=>T.tup [.int x,.int 1]) (ρ:=[]) rfl (l.map fun x=>x.fdiv (s:Int)) none [] (fun x _=>by
  have l2:=G5
  walk_at "ev") (cU (by rw [List.length_map]; exact h8))
 have i3:aW (ai vw (aa (ae 0) (aa (ae 1) ah))) [some (.sh (iT l)),some (.sh (.int (s:Nat))),o2]=some ((l.map fun x=>x.fdiv (s:Int)).map T.int,[some (.sh (iT l)),some (.sh (.int (s:Nat))),o2]):=by
  unfold aW
  rw [aM (g:=vw) [iT l,.int (s:Int)] (dN rfl rfl) e3]
  rfl
 have b3:=cF (no:=1) (cap:=[]) (fg:=ak 0) (ft:=ay) (h1:=i3) rfl rfl c3
 refine ⟨[] ++ (l.map fun x=>x.fdiv (s:Int)).map fun x=>T.tup [.int x,.int 1],kE rfl ?_⟩
 ·show aE (aN 1 (fC (.int 0))) (aE (cG (aW (ae 0)) (ak 2) tL) (a8 (bX 1 [] (aW (ai vw (aa (ae 0) (aa (ae 1) ah)))) (ak 0) ay (b0 (aa (ae 0) (aa (fC (.int 1)) ah)))))) [some (.sh (iT l)),none,none]=_
  rw [bh (τ':=[some (.sh (iT l)),some (.sh (.int (0:Nat))),none]) rfl,bh a2,mN b3]
def xk (w:Nat):Nat -> List (List Int) -> Prop
 | _,[]=>True
 | i,row :: rows=>(Dt.rw row (w + i) ≠ 0 /\ ∀ k,i < k -> Dt.rw row (w + k)=0) /\ xk w (i + 1) rows
theorem Bu {R:List Dt.Row} {ps:List Nat} {x:Dt.Row} {c:Nat} (h:∀ y ∈ R,y c=0):Dt.left R ps x c=x c * Dt.det R ps:=by
 show Dt.det (x :: R) (c :: ps)=_
 rw [Dt.fH,Dt.bZ,Dt.qY _ _ R h]
 omega
theorem km {M L w:Nat} (hwL:w ≤ L):∀ (rows:List (List Int)) (i:Nat) (R:List Dt.Row) (ps:List Nat),Dt.det R ps ≠ 0 -> (∀ y ∈ R,lF M y /\ ∀ k,i ≤ k -> y (w + k)=0) -> xk w i rows -> (∀ row ∈ rows,lF M (Dt.rw row)) -> w + i + rows.length ≤ L -> R.length + rows.length ≤ 4 -> ps.length + rows.length ≤ 4 ->
  ∀ e ∈ aK L w rows R ps,e.2.length=L /\ (∀ y ∈ e.2.drop w,y.natAbs ≤ (8 * M + 1) ^ 5) /\ ∃ y ∈ e.2.drop w,y ≠ 0
 | [],_,_,_,_,_,_,_,_,_,_=>fun e he=>by cases he
 | row :: rows,i,R,ps,hd,hR,hs,hb,hL,h4,hp4=>by
  obtain ⟨⟨s1,s2⟩,s3⟩:=hs
  simp only [List.length_cons] at hL h4 hp4
  have here:(Dt.aR L R ps (Dt.rw row)).length=L /\ (∀ y ∈ (Dt.aR L R ps (Dt.rw row)).drop w,y.natAbs ≤ (8 * M + 1) ^ 5) /\ ∃ y ∈ (Dt.aR L R ps (Dt.rw row)).drop w,y ≠ 0:=by
   refine ⟨Dt.di _ _ _ _,fun y hy=>?_,Dt.left R ps (Dt.rw row) (w + i),?_,?_⟩
   ·obtain ⟨j,_,rfl⟩:=List.mem_map.mp (List.mem_of_mem_drop hy)
    exact Br (hb row List.mem_cons_self) (fun y hy=>(hR y hy).1) (by omega) (by omega) j
   ·rw [List.mem_iff_getElem?]
    refine ⟨i,?_⟩
    rw [List.getElem?_drop]
    unfold Dt.aR
    rw [List.getElem?_map,List.getElem?_range (by omega)]
    rfl
   ·rw [Bu fun y hy=>(hR y hy).2 i (Nat.le_refl _)]
    exact Int.mul_ne_zero s1 hd
  intro e he
  cases ef:Dt.fp w (Dt.left R ps (Dt.rw row)) with
  | none =>
   rw [aK,ef] at he
   rcases List.mem_cons.mp he with rfl | he
   ·exact here
   ·exact km hwL rows (i + 1) R ps hd (fun y hy=>⟨(hR y hy).1,fun k hk=>(hR y hy).2 k (by omega)⟩) s3 (fun r hr=>hb r (List.mem_cons_of_mem _ hr)) (by omega) (by omega) (by omega) e he
  | some p =>
   rw [aK,ef] at he
   obtain ⟨pw,pn⟩:=Dt.jG ef
   rcases List.mem_cons.mp he with rfl | he
   ·exact here
   ·exact km hwL rows (i + 1) (Dt.rw row :: R) (p :: ps) pn (fun y hy=>by
     rcases List.mem_cons.mp hy with rfl | hy
     ·exact ⟨hb row List.mem_cons_self,fun k hk=>s2 k (by omega)⟩
     ·exact ⟨(hR y hy).1,fun k hk=>(hR y hy).2 k (by omega)⟩) s3 (fun r hr=>hb r (List.mem_cons_of_mem _ hr)) (by omega) (by simp only [List.length_cons]; omega) (by simp only [List.length_cons]; omega) e he
theorem zZ {n D N:Nat} {A:List (List Rat)} (hA:∀ r ∈ A,Gn D N r) (hl:A.length=n) (hw:∀ r ∈ A,r.length=n):xk n 0 (ia A):=by
 have key:∀ (m i:Nat),i + m=n -> xk n i ((List.range' i m).map fun i=>dB A.length i (A.getD i [])):=fun m=>by
  induction m with
  | zero=>intro i _; exact True.intro
  | succ m ih =>
   intro i hi
   rw [List.range'_succ,List.map_cons]
   have hm:=gm (l:=A) (c:=i) (by omega)
   have hlow:=(je (hA _ hm)).2.1
   refine ⟨⟨?_,fun k hk=>?_⟩,ih (i + 1) (by omega)⟩
   ·unfold dB
    rw [oS (by rw [jA,hw _ hm]),tD,if_pos ⟨rfl,by omega⟩]
    omega
   ·unfold dB
    rw [oS (by rw [jA,hw _ hm]),tD,if_neg (by omega)]
 unfold ia
 rw [List.range_eq_range']
 exact key A.length 0 (by omega)
open PySem PySem.Spec PyProof.Rows L2 TM Qm Rq
theorem Bi {L:List T} {p:Nat} {t:T} (h:L[p]? = some t):cR (.lst L) (.int (p:Nat))=some t:=by
 have hp:=(List.getElem?_eq_some_iff.mp h).1
 show mB L (p:Int)=_
 unfold mB wg
 rw [if_pos (by omega),if_pos (by omega),Option.bind_some,Int.toNat_natCast,h]
theorem FV {f:FE} {τ:aP} {k:Int} (h:f τ=some (.int k,τ)):d0 f τ=some (some k,τ):=by
 unfold d0
 rw [h]
 rfl
theorem JB {f:FE} {fl fh:FO} {τ:aP} {a t:T} {lo hi:Option Int} (h:f τ=some (a,τ)) (h1:fl τ=some (lo,τ)) (h2:fh τ=some (hi,τ)) (h3:G3 a lo hi=some t):Ai f fl fh τ=some (t,τ):=by
 unfold Ai
 rw [h,Option.bind_some]
 dsimp only
 rw [h1,Option.bind_some]
 dsimp only
 rw [h2,Option.bind_some]
 dsimp only
 rw [h3]
 rfl
theorem AF (l:List Int) (k:Nat) (h:k ≤ l.length):G3 (iT l) (some (k:Int)) none=some (iT (l.drop k)):=by
 show some (T.lst (lK (l.map T.int) (some (k:Int)) none))=_
 unfold lK
 rw [HT.nA,HT.u7,List.length_map,Nat.min_eq_left h,<- List.map_drop,List.take_of_length_le (by rw [List.length_map,List.length_drop]; omega)]
 rfl
def zY:FE:=ai EY (aa (Ai (ae 1) (d0 (ae 2)) eP) ah)
def pA:FT:=dw (aD xJ (ae 0) (fC .non))
theorem HK {ρ:aP} {q:Option Nat}:pA (some (.sh (kO q)) :: ρ)=some (!q.isSome,some (.sh (kO q)) :: ρ):=by
 cases q <;> rfl
theorem tV {n:Nat}:∀ (S:List (Option Nat × List Int)) (u v:Option Sl) (acc:List T),(∀ e ∈ S,n ≤ e.2.length /\ ∃ us,EY [iT (e.2.drop n)]=some (.lst us)) -> acc.length + S.length ≤ 8 ->
  ∃ ts:List T,c8 fm pA zY (S.map dJ) [u,v,some (.sh (.int (n:Nat)))] acc=some (acc ++ ts) /\ (∀ t ∈ ts,∃ us,t=.lst us) /\ ((∀ e ∈ S,e.1.isSome=true) ↔ ts=[])
 | [],u,v,acc,_,_=>⟨[],by rw [List.append_nil]; rfl,(fun _ h=>by cases h),iff_of_true (fun _ h=>by cases h) rfl⟩
 | (q,l) :: S,u,v,acc,h,ha=>by
  simp only [List.length_cons] at ha
  obtain ⟨hl,us,hs⟩:=h (q,l) List.mem_cons_self
  have h':∀ e ∈ S,n ≤ e.2.length /\ ∃ us,EY [iT (e.2.drop n)]=some (.lst us):=fun e he=>h e (List.mem_cons_of_mem _ he)
  rw [List.map_cons,c8,show fm (dJ (q,l)) [u,v,some (.sh (.int (n:Nat)))]=some [some (.sh (kO q)),some (.sh (iT l)),some (.sh (.int (n:Nat)))] from rfl,Option.bind_some,HK,Option.bind_some]
  cases q with
  | some p =>
   obtain ⟨ts,h1,h2,h3⟩:=tV S (some (.sh (kO (some p)))) (some (.sh (iT l))) acc h' (by omega)
   refine ⟨ts,h1,h2,Iff.trans ⟨fun k e he=>k e (List.mem_cons_of_mem _ he),fun k e he=>?_⟩ h3⟩
   rcases List.mem_cons.mp he with rfl | he
   ·rfl
   ·exact k e he
  | none =>
   obtain ⟨ts,h1,h2,h3⟩:=tV S (some (.sh (kO none))) (some (.sh (iT l))) (acc ++ [.lst us]) h' (by simp only [List.length_append,List.length_cons,List.length_nil]; omega)
   have ef:zY [some (.sh (kO none)),some (.sh (iT l)),some (.sh (.int (n:Nat)))]=some (.lst us,[some (.sh (kO none)),some (.sh (iT l)),some (.sh (.int (n:Nat)))]):=aM _ (dY (JB (f:=ae 1) (fl:=d0 (ae 2)) (fh:=eP) rfl (FV rfl) rfl (AF l n hl))) hs
   refine ⟨.lst us :: ts,?_,fun t ht=>?_,?_⟩
   ·show ((zY [some (.sh (kO none)),some (.sh (iT l)),some (.sh (.int (n:Nat)))]).bind fun q=>if cz q.2=true /\ acc.length < sizeLine then c8 fm pA zY (S.map dJ) q.2 (acc ++ [q.1]) else none)=_
    rw [ef,Option.bind_some]
    refine (if_pos ⟨rfl,dz (by omega)⟩).trans ?_
    rw [h1,List.append_assoc]
    rfl
   ·rcases List.mem_cons.mp ht with rfl | ht
    ·exact ⟨us,rfl⟩
    ·exact h2 t ht
   ·refine iff_of_false (fun k=>?_) (fun k=>by cases k)
    have:=k (none,l) List.mem_cons_self
    cases this
theorem qE {D N:Nat}:∀ {A:List (List Rat)},(∀ r ∈ A,Gn D N r) -> 0 < eQ A
 | [],_=>by decide
 | r :: A,h=>by
  rw [iH]
  exact Nat.mul_pos (je (h r List.mem_cons_self)).2.1 (qE fun x hx=>h x (List.mem_cons_of_mem _ hx))
theorem qt {D N:Nat} {A:List (List Rat)} (h:∀ r ∈ A,Gn D N r):bB A=0 ↔ j0 (A.map a9)=0:=by
 have hp:=qE h
 rw [xy h]
 constructor
 ·intro z
  rw [Rat.divInt_eq_div] at z
  have hb:(((eQ A:Nat):Int):Rat) ≠ 0:=fun e=>by
   have:((eQ A:Nat):Int)=0:=by exact_mod_cast e
   omega
  have:((j0 (A.map a9):Int):Rat)=0:=by grind
  exact_mod_cast this
 ·intro z
  rw [z,Rat.zero_divInt]
structure jO (n D N:Nat) (A:List (List Rat)):Prop extends Sq n D N A where
 hT:(8 * (N * D + D) + 1) ^ 5 < B
theorem EG {n D N:Nat} {A:List (List Rat)} (h:Sq n D N A) {j:Nat} (hj:j < n):Gn D N (fK A j):=by
 have hne:A ≠ []:=fun e=>by have:=h.len; rw [e] at this; simp at this; omega
 obtain ⟨r0,hr0⟩:=List.exists_mem_of_ne_nil A hne
 have g0:=h.gn r0 hr0
 have hmem:∀ x ∈ fK A j,∃ r ∈ A,x ∈ r:=fun x hx=>by
  obtain ⟨r,hr,rfl⟩:=List.mem_map.mp hx
  exact ⟨r,hr,lQ (by rw [h.wd r hr]; exact hj)⟩
 refine ⟨by unfold fK; rw [List.length_map,h.len]; have:=h.n4; omega,fun x hx=>?_,fun x hx=>?_,g0.dp,g0.db,g0.nb⟩
 ·obtain ⟨r,hr,hx⟩:=hmem x hx
  exact (h.gn r hr).den x hx
 ·obtain ⟨r,hr,hx⟩:=hmem x hx
  exact (h.gn r hr).num x hx
theorem ly (A:List (List Rat)) (n:Nat):(bJ A n).length=n:=by unfold bJ; rw [List.length_map,List.length_range]
theorem Sq.turn {n D N:Nat} {A:List (List Rat)} (h:Sq n D N A):Sq n D N (bJ A n):=by
 refine ⟨ly A n,h.n4,fun r hr=>?_,fun r hr=>?_,h.hM,h.d4⟩
 ·obtain ⟨j,_,rfl⟩:=List.mem_map.mp hr
  unfold fK
  rw [List.length_map,h.len]
 ·obtain ⟨j,hj,rfl⟩:=List.mem_map.mp hr
  exact EG h (List.mem_range.mp hj)
abbrev HA:List T -> Option T:=cE 4 2 (kA iI Co zk EY)
abbrev Ah:List T -> Option T:=cE 3 2 (m8 HA)
theorem AV {n D N:Nat} {A:List (List Rat)} (h:jO n D N A):(bB A ≠ 0 -> Ah [au A,.int (n:Nat)]=some .non) /\ (bB A=0 -> ∃ us,Ah [au A,.int (n:Nat)]=some (.lst us)):=by
 have hT:=h.toSq.turn
 have h4:=h.n4
 have hlen:=h.len
 have hz:bB A=0 ↔ j0 (ia (bJ A n))=0:=by rw [<- qr h.len,qt hT.gn,ui hT.len hT.wd]
 have htl:(ia (bJ A n)).length=n:=by rw [tW,ly]
 have hrows:=vn hT.gn hT.len hT.wd
 have hcr:=fQ (M:=N * D + D) (L:=n + n) (w:=n) h.hT (by omega) (rows:=ia (bJ A n)) (by omega) (by omega) hrows
 have htr:=og hT.gn (by rw [hT.len]; exact h4)
 have htu:=wk (A:=A) (w:=n) (by omega) h.wd (by omega)
 have hSl:(aK (n + n) n (ia (bJ A n)) [] []).length=n:=by rw [dI,htl]
 have hea:=km (M:=N * D + D) (L:=n + n) (w:=n) (by omega) (ia (bJ A n)) 0 [] [] (by decide) (fun _ h=>by cases h) (zZ hT.gn hT.len hT.wd) (fun row hr=>(hrows row hr).2) (by omega) (by simp only [List.length_nil]; omega) (by simp only [List.length_nil]; omega)
 generalize hS:aK (n + n) n (ia (bJ A n)) [] []=S at *
 have hsh:∀ e ∈ S,n ≤ e.2.length /\ ∃ us,EY [iT (e.2.drop n)]=some (.lst us):=fun e he=>by
  obtain ⟨q1,q2,q3⟩:=hea e he
  exact ⟨by omega,AU (by rw [List.length_drop]; omega) (fun y hy=>Nat.lt_of_le_of_lt (q2 y hy) h.hT) q3⟩
 obtain ⟨ts,c1,c2,c3⟩:=tV (n:=n) S none none [] hsh (by rw [List.length_nil,hSl]; omega)
 have hall:(∀ e ∈ S,e.1.isSome=true) ↔ bB A ≠ 0:=by
  constructor
  ·intro hall h0
   have hk:(cV S).length=n:=by rw [<- hSl]; exact List.length_filter_eq_length_iff.mpr hall
   exact (kI (L:=n + n) (rows:=ia (bJ A n)) (by omega) (by omega) (by rw [htl,hS]; exact hk)).1 (hz.mp h0)
  ·intro hne
   have hk:(cV S).length=n:=by
    rcases Nat.lt_or_ge (cV S).length n with hlt | hge
    ·exact absurd (hz.mpr (nX (L:=n + n) (by rw [htl,hS]; exact hlt))) hne
    ·have:=jd S
     omega
   exact List.length_filter_eq_length_iff.mp (by rw [hSl]; exact hk)
 have a1:aN 2 (ai cn (aa (ae 0) ah)) [some (.sh (au A)),some (.sh (.int (n:Nat))),none,none]=some (.nx [some (.sh (au A)),some (.sh (.int (n:Nat))),some (.sh (.int (n:Nat))),none]):=da (aM [au A] (dY rfl) (by rw [len_tab,hlen])) rfl
 have e1:=aM (g:=iI) (f:=aa (ae 0) (aa (ae 1) ah)) (ρ:=[some (.sh (au A)),some (.sh (.int (n:Nat))),some (.sh (.int (n:Nat))),none]) [au A,.int (n:Nat)] (dN rfl rfl) htu
 have e2:=aM (g:=Co) [au (bJ A n)] (dY e1) htr
 have e3:=aM (g:=zk) _ (dN (g:=ae 2) e2 rfl) hcr
 have a2:aN 3 (ai zk (aa (ai Co (aa (ai iI (aa (ae 0) (aa (ae 1) ah))) ah)) (aa (ae 2) ah))) [some (.sh (au A)),some (.sh (.int (n:Nat))),some (.sh (.int (n:Nat))),none]=some (.nx [some (.sh (au A)),some (.sh (.int (n:Nat))),some (.sh (.int (n:Nat))),some (.sh (.lst (S.map dJ)))]):=da e3 rfl
 have b3:=cF (no:=2) (cap:=[2]) (fi:=aW (ae 3)) (fg:=fm) (ft:=pA) (fe:=zY) (τ:=[some (.sh (au A)),some (.sh (.int (n:Nat))),some (.sh (.int (n:Nat))),some (.sh (.lst (S.map dJ)))]) (h1:=rfl) rfl rfl c1
 rw [List.nil_append] at b3
 have hss:HA [au A,.int (n:Nat)]=some (.lst ts):=by
  refine kE rfl ?_
  show aE (aN 2 (ai cn (aa (ae 0) ah))) (aE (aN 3 (ai zk (aa (ai Co (aa (ai iI (aa (ae 0) (aa (ae 1) ah))) ah)) (aa (ae 2) ah)))) (a8 (bX 2 [2] (aW (ae 3)) fm pA zY))) [some (.sh (au A)),some (.sh (.int (n:Nat))),none,none]=_
  rw [bh a1,bh a2]
  exact mN b3
 have d1:aN 2 (ai HA (aa (ae 0) (aa (ae 1) ah))) [some (.sh (au A)),some (.sh (.int (n:Nat))),none]=some (.nx [some (.sh (au A)),some (.sh (.int (n:Nat))),some (.sh (.lst ts))]):=da (aM [au A,.int (n:Nat)] (dN rfl rfl) hss) rfl
 rw [<- hall,c3]
 have hst:∀ t:T,En (eL (ae 2)) (aD cR (ae 2) (fC (.int 0))) (fC .non) [some (.sh (au A)),some (.sh (.int (n:Nat))),some (.sh (.lst ts))]=some (t,[some (.sh (au A)),some (.sh (.int (n:Nat))),some (.sh (.lst ts))]) -> Ah [au A,.int (n:Nat)]=some t:=fun t ht=>by
  refine kE rfl ?_
  show aE (aN 2 (ai HA (aa (ae 0) (aa (ae 1) ah)))) (a8 (En (eL (ae 2)) (aD cR (ae 2) (fC (.int 0))) (fC .non))) [some (.sh (au A)),some (.sh (.int (n:Nat))),none]=_
  rw [bh d1]
  exact mN ht
 have hz':bB A=0 ↔ ¬ ts=[]:=by rw [<- c3,hall]; exact (Classical.not_not).symm
 rw [hz']
 cases ts with
 | nil=>exact ⟨fun _=>hst _ rfl,fun k=>absurd rfl k⟩
 | cons t ts =>
  obtain ⟨us,rfl⟩:=c2 t List.mem_cons_self
  exact ⟨(fun k=>by cases k),fun _=>⟨us,hst _ (by
   show aD cR (ae 2) (fC (.int 0)) [some (.sh (au A)),some (.sh (.int (n:Nat))),some (.sh (.lst (.lst us :: ts)))]=_
   exact fv rfl rfl (Bi (L:=.lst us :: ts) (p:=0) rfl))⟩⟩
open PySem PySem.Spec PyProof.Rows L2 TM Qm Rq
theorem yB (f:Nat -> Int) (a:Nat):∀ l:List Nat,Dt.kq (Dt.ins a l) f=f a + Dt.kq l f
 | []=>rfl
 | b :: l=>by
  unfold Dt.ins
  split
  ·rw [Dt.cZ,yB f a l,Dt.cZ]; omega
  ·rfl
theorem yE (f:Nat -> Int):∀ l:List Nat,Dt.kq (Dt.srt l) f=Dt.kq l f
 | []=>rfl
 | a :: l=>by
  show Dt.kq (Dt.ins a (Dt.srt l)) f=_
  rw [yB,yE f l,Dt.cZ]
theorem vh (f:Nat -> Int) (g:Nat -> Rat) (b:Rat):∀ l:List Nat,(∀ j ∈ l,g j=b * ((f j:Int):Rat)) -> Dq.sm l g=b * ((Dt.kq l f:Int):Rat)
 | [],_=>by
  show (0:Rat)=b * (((0:Int)):Rat)
  rw [show (((0:Int)):Rat)=0 from rfl,Rat.mul_zero]
 | j :: l,h=>by
  rw [Dq.gg,Dt.cZ,h j List.mem_cons_self,vh f g b l fun k hk=>h k (List.mem_cons_of_mem _ hk),Rat.intCast_add]
  grind
def yM:Nat -> Nat -> Rat:=fun i k=>if k=i then 1 else 0
theorem AQ {n:Nat} (h:n ≤ 4):Dq.det ((List.range n).map yM) (List.range n)=1:=by
 have:n=0 \/ n=1 \/ n=2 \/ n=3 \/ n=4:=by omega
 rcases this with rfl | rfl | rfl | rfl | rfl <;> simp [List.range,List.range.loop,Dq.det,Dq.E,yM] <;> grind
theorem nY {a b:Int} (hb:b ≠ 0):(Rat.divInt a b).den ∣ b.natAbs:=by
 rw [Rat.den_divInt,if_neg hb]
 exact Nat.div_dvd_of_dvd (by
  have:=Int.natAbs_dvd_natAbs.mpr (Int.gcd_dvd_left b a)
  rwa [Int.natAbs_natCast] at this)
theorem nZ {a b:Int} (hb:b ≠ 0):(Rat.divInt a b).num.natAbs ≤ a.natAbs:=by
 rw [Rat.num_divInt]
 have h1:((Int.gcd b a:Nat):Int) ∣ b.sign * a:=Int.dvd_mul_of_dvd_right (Int.gcd_dvd_right _ _)
 rw [Int.natAbs_ediv_of_dvd h1,Int.natAbs_mul]
 have h2:b.sign.natAbs=1:=by
  rcases Int.lt_or_gt_of_ne hb with h | h
  ·rw [Int.sign_eq_neg_one_of_neg h]; rfl
  ·rw [Int.sign_eq_one_of_pos h]; rfl
 rw [h2,Nat.one_mul]
 exact Nat.div_le_self _ _
abbrev ue:List T -> Option T:=cE 3 1 (jD Co zk Ag EW iI)
theorem vS {n D N:Nat} {A:List (List Rat)} (h:jO n D N A) (hne:bB A ≠ 0):∃ (V:List (List Rat)) (D':Nat),ue [au A]=some (au V) /\ bB A * bB V=1 /\ V.length=n /\ (∀ r ∈ V,r.length=n) /\ 0 < D' /\ D' ≤ (8 * (N * D + D) + 1) ^ 5 /\ ∀ r ∈ V,∀ x ∈ r,x.den ∣ D' /\ x.num.natAbs ≤ (8 * (N * D + D) + 1) ^ 5:=by
 have h4:=h.n4
 have hlen:=h.len
 have htl:(ia A).length=n:=by rw [tW,hlen]
 have hrows:=vn h.gn h.len h.wd
 have hz:j0 (ia A) ≠ 0:=by rw [ui h.len h.wd]; exact fun z=>hne ((qt h.gn).mpr z)
 have hk:(cV (aK (n + n) n (ia A) [] [])).length=n:=by
  rcases Nat.lt_or_ge (cV (aK (n + n) n (ia A) [] [])).length n with hlt | hge
  ·exact absurd (nX (L:=n + n) (by rw [htl]; exact hlt)) hz
  ·have:=jd (aK (n + n) n (ia A) [] [])
   rw [dI,htl] at this
   omega
 have hSl:(aK (n + n) n (ia A) [] []).length=n:=by rw [dI,htl]
 obtain ⟨_,qs,q1,q2,_,_⟩:=kI (L:=n + n) (rows:=ia A) (by omega) (by omega) (by rw [htl]; exact hk)
 rw [htl] at q2
 have hcr:=fQ (M:=N * D + D) (L:=n + n) (w:=n) h.hT (by omega) (rows:=ia A) (by omega) (by omega) hrows
 have htr:=og h.gn (by rw [hlen]; exact h4)
 have hbr:∀ k < n,_:=fun k (hkn:k < n)=>vQ (M:=N * D + D) (L:=n + n) (n:=n) (c:=n + k) h.hT htl h4 (by omega) (by omega) (by omega) hrows hk
 generalize hR0:((ia A).map Dt.rw).reverse=R0 at hbr
 have hbr2:∀ k < n,qs.reverse.Nodup /\ (∀ j,j < n ↔ j ∈ qs.reverse) /\ Dt.det R0 qs.reverse ≠ 0 /\ (Dt.det R0 qs.reverse).natAbs ≤ (8 * (N * D + D) + 1) ^ 5 /\ (∀ j,(Dt.det R0 (Dt.put qs.reverse (n + k) j)).natAbs ≤ (8 * (N * D + D) + 1) ^ 5) /\ EW [.lst ((aK (n + n) n (ia A) [] []).map dJ),.int (n:Nat),.int ((n + k:Nat):Int)]=some (aG ((List.range n).map fun j=>Rat.divInt (Dt.det R0 (Dt.put qs.reverse (n + k) j)) (Dt.det R0 qs.reverse))):=fun k hkn=>by
  obtain ⟨R1,ps1,e1,e2,e3,e4,e5,e6,e7,e8,e9⟩:=hbr k hkn
  have:=e8 qs q2
  subst this
  subst e1
  exact ⟨e2,e4,e5,e6,e7,e9⟩
 let Bt:List (List Rat):=(List.range n).map fun k=>(List.range n).map fun j=>Rat.divInt (Dt.det R0 (Dt.put qs.reverse (n + k) j)) (Dt.det R0 qs.reverse)
 have hBt:Bt=(List.range n).map fun k=>(List.range n).map fun j=>Rat.divInt (Dt.det R0 (Dt.put qs.reverse (n + k) j)) (Dt.det R0 qs.reverse):=rfl
 have hBl:Bt.length=n:=by rw [hBt,List.length_map,List.length_range]
 have hBw:∀ r ∈ Bt,r.length=n:=fun r hr=>by
  rw [hBt] at hr
  obtain ⟨k,_,rfl⟩:=List.mem_map.mp hr
  rw [List.length_map,List.length_range]
 have hV:∀ j < n,∀ k < n,iy (bJ Bt n) j k=Rat.divInt (Dt.det R0 (Dt.put qs.reverse (n + k) j)) (Dt.det R0 qs.reverse):=fun j hj k hkn=>by
  unfold iy bJ
  rw [ik hj,rD (by omega),hBt,ik hkn,ik hj]
 have hVw:∀ r ∈ bJ Bt n,r.length=n:=fun r hr=>by
  obtain ⟨j,_,rfl⟩:=List.mem_map.mp hr
  unfold fK
  rw [List.length_map,hBl]
 have hVm:∀ r ∈ bJ Bt n,∀ x ∈ r,∃ k j,k < n /\ x=Rat.divInt (Dt.det R0 (Dt.put qs.reverse (n + k) j)) (Dt.det R0 qs.reverse):=fun r hr x hx=>by
  obtain ⟨j,hj,rfl⟩:=List.mem_map.mp hr
  obtain ⟨b,hb,rfl⟩:=List.mem_map.mp hx
  rw [hBt] at hb
  obtain ⟨k,hk',rfl⟩:=List.mem_map.mp hb
  exact ⟨k,j,List.mem_range.mp hk',ik (List.mem_range.mp hj) 0⟩
 refine ⟨bJ Bt n,if n=0 then 1 else (Dt.det R0 qs.reverse).natAbs,?_,?_,ly _ _,hVw,?_,?_,?_⟩
 ·have a1:aN 1 (ai cn (aa (ae 0) ah)) [some (.sh (au A)),none,none]=some (.nx [some (.sh (au A)),some (.sh (.int (n:Nat))),none]):=da (aM [au A] (dY rfl) (by rw [len_tab,hlen])) rfl
  have a2:aN 2 (ai zk (aa (ai Co (aa (ae 0) ah)) (aa (ae 1) ah))) [some (.sh (au A)),some (.sh (.int (n:Nat))),none]=some (.nx [some (.sh (au A)),some (.sh (.int (n:Nat))),some (.sh (.lst ((aK (n + n) n (ia A) [] []).map dJ)))]):=da (aM _ (dN (g:=ae 1) (aM (g:=Co) [au A] (dY rfl) htr) rfl) hcr) rfl
  have k3:ai cn (aa (ai Ag (aa (ae 2) ah)) ah) [some (.sh (au A)),some (.sh (.int (n:Nat))),some (.sh (.lst ((aK (n + n) n (ia A) [] []).map dJ)))]=some (.int (n:Nat),[some (.sh (au A)),some (.sh (.int (n:Nat))),some (.sh (.lst ((aK (n + n) n (ia A) [] []).map dJ)))]):=
   aM [.lst ((cV (aK (n + n) n (ia A) [] [])).map dJ)] (dY (aM [.lst ((aK (n + n) n (ia A) [] []).map dJ)] (dY rfl) (xG (by omega)))) (by
    show some (T.int (((cV (aK (n + n) n (ia A) [] [])).map dJ).length:Nat))=_
    rw [List.length_map,hk])
  have t3:=HP (b:=n) (g:=ae 1) k3 rfl
  have a3:bE (dw (aD vx (ai cn (aa (ai Ag (aa (ae 2) ah)) ah)) (ae 1))) g8 bf [some (.sh (au A)),some (.sh (.int (n:Nat))),some (.sh (.lst ((aK (n + n) n (ia A) [] []).map dJ)))]=some (.nx [some (.sh (au A)),some (.sh (.int (n:Nat))),some (.sh (.lst ((aK (n + n) n (ia A) [] []).map dJ)))]):=by
   unfold bE
   rw [t3,Option.bind_some,decide_eq_false (Nat.lt_irrefl n)]
   rfl
  have c4:=cM (φ:=fun k:Nat=>T.int (k:Nat)) (fe:=ai EW (aa (ae 1) (aa (ae 2) (aa (aD cH (ae 2) (ae 0)) ah)))) (g:=fun k=>aG ((List.range n).map fun j=>Rat.divInt (Dt.det R0 (Dt.put qs.reverse (n + k) j)) (Dt.det R0 qs.reverse))) (ρ:=[some (.sh (.lst ((aK (n + n) n (ia A) [] []).map dJ))),some (.sh (.int (n:Nat)))]) rfl (List.range n) none [] (fun k hk'=>aM _ (CA rfl rfl (fv (g:=cH) (fa:=ae 2) (fb:=ae 0) rfl rfl om)) (by
   have:=(hbr2 k (List.mem_range.mp hk')).2.2.2.2.2
   rw [Int.natCast_add] at this
   exact this)) (cU (by rw [List.length_range]; omega))
  have b4:=cF (no:=1) (cap:=[2,1]) (fg:=ak 0) (ft:=ay) (fe:=ai EW (aa (ae 1) (aa (ae 2) (aa (aD cH (ae 2) (ae 0)) ah)))) (τ:=[some (.sh (au A)),some (.sh (.int (n:Nat))),some (.sh (.lst ((aK (n + n) n (ia A) [] []).map dJ)))]) (h1:=jH (f:=ae 1) rfl (by omega)) rfl rfl c4
  have e4:T.lst ([] ++ (List.range n).map fun k=>aG ((List.range n).map fun j=>Rat.divInt (Dt.det R0 (Dt.put qs.reverse (n + k) j)) (Dt.det R0 qs.reverse)))=au Bt:=by
   unfold au
   rw [hBt,List.map_map,List.nil_append]
   rfl
  rw [e4] at b4
  have f4:=aM (g:=iI) _ (dN (g:=ae 1) b4 rfl) (wk (A:=Bt) (w:=n) (by omega) hBw (by omega))
  refine kE rfl ?_
  show aE (aN 1 (ai cn (aa (ae 0) ah))) (aE (aN 2 (ai zk (aa (ai Co (aa (ae 0) ah)) (aa (ae 1) ah)))) (aE (bE (dw (aD vx (ai cn (aa (ai Ag (aa (ae 2) ah)) ah)) (ae 1))) g8 bf) (a8 (ai iI (aa (bX 1 [2,1] (bS (aa (ae 1) ah)) (ak 0) ay (ai EW (aa (ae 1) (aa (ae 2) (aa (aD cH (ae 2) (ae 0)) ah))))) (aa (ae 1) ah)))))) [some (.sh (au A)),none,none]=_
  rw [bh a1,bh a2,bh a3]
  exact mN f4
 ·have hm:=Dq.xB (List.range n) (List.range n) (iy (bJ Bt n)) ((List.range n).map (iy A)) (by rw [List.length_map])
  rw [<- iA (n:=n) (A:=A) (a:=iy A) hlen (fun _ _ _ _=>rfl),<- iA (n:=n) (A:=bJ Bt n) (a:=iy (bJ Bt n)) (ly _ _) (fun _ _ _ _=>rfl),List.map_map] at hm
  rw [<- hm,<- AQ h4]
  exact Dq.fj (List.range n) (List.range n) fun i hi k hk'=>by
   have hi':=List.mem_range.mp hi
   have hkn:=List.mem_range.mp hk'
   obtain ⟨e1,e2,e3,e4,e5,e6⟩:=hbr2 k hkn
   have hmem:A.getD i [] ∈ A:=gm (by omega)
   have hg:=h.gn _ hmem
   have hlow:=(je hg).2.1
   have hx:Dt.rw (dB n i (A.getD i [])) ∈ R0:=by
    rw [<- hR0,List.mem_reverse,List.mem_map]
    refine ⟨_,?_,rfl⟩
    unfold ia
    rw [hlen]
    exact List.mem_map.mpr ⟨i,hi,rfl⟩
   have hc:=Dt.nV e1 (n + k) hx
   have hs:Dt.srt qs.reverse=List.range n:=(Dt.gp n h4 qs.reverse (Dt.gE (by rw [List.length_reverse,q1,htl]) fun p hp=>(e2 p).mpr hp) e1).1
   rw [<- yE,hs] at hc
   have hxc:Dt.rw (dB n i (A.getD i [])) (n + k)=if k=i then (aw (A.getD i []):Int) else 0:=by
    unfold dB
    rw [oS (by rw [jA,h.wd _ hmem]),tD]
    by_cases e:k=i
    ·rw [if_pos ⟨e,hkn⟩,if_pos e]
    ·rw [if_neg fun z=>e z.1,if_neg e]
   rw [hxc] at hc
   have hl0:((aw (A.getD i []):Nat):Rat) ≠ 0:=fun z=>by
    have:aw (A.getD i [])=0:=by exact_mod_cast z
    omega
   have hd0:((Dt.det R0 qs.reverse:Int):Rat) ≠ 0:=fun z=>e3 (by exact_mod_cast z)
   show Dq.sm (List.range n) (fun j=>iy A i j * iy (bJ Bt n) j k)=yM i k
   rw [vh (fun j=>Dt.rw (dB n i (A.getD i [])) j * Dt.det R0 (Dt.put qs.reverse (n + k) j)) _ (1 / (((aw (A.getD i []):Nat):Rat) * ((Dt.det R0 qs.reverse:Int):Rat))) (List.range n) (fun j hj=>by
    have hj':=List.mem_range.mp hj
    have er:=yj hg j
    have ex:Dt.rw (dB n i (A.getD i [])) j=Dt.rw (a9 (A.getD i [])) j:=by
     unfold dB
     exact yk (by rw [jA,h.wd _ hmem]; exact hj')
    rw [hV j hj' k hkn,Rat.divInt_eq_div,show iy A i j=Gu (A.getD i []) j from rfl,er,ex,Rat.intCast_mul]
    grind),hc]
   unfold yM
   by_cases e:k=i
   ·rw [if_pos e,if_pos e,Rat.intCast_mul,Rat.intCast_natCast]
    grind
   ·rw [if_neg e,if_neg e,Int.mul_zero,show (((0:Int)):Rat)=0 from rfl,Rat.mul_zero]
 ·split
  ·decide
  ·have:=(hbr2 0 (by omega)).2.2.1
   omega
 ·split
  ·exact Nat.one_le_pow _ _ (by omega)
  ·exact (hbr2 0 (by omega)).2.2.2.1
 ·intro r hr x hx
  obtain ⟨k,j,hkn,rfl⟩:=hVm r hr x hx
  obtain ⟨e1,e2,e3,e4,e5,e6⟩:=hbr2 k hkn
  rw [if_neg (by omega)]
  exact ⟨nY e3,Nat.le_trans (nZ e3) (e5 j)⟩
open PySem PySem.Spec PyProof.Rows L2 TM Qm Rq
theorem Gy {t:FS} {u:Af} {τ τ':aP} (h:t τ=some (.nx τ')):mF t u τ=u τ':=by
 unfold mF
 rw [h]
 rfl
abbrev mS:List T -> Option O:=pL 4 3 (dP ja)
theorem GW {xs R1:T} {lo hi:Int} {k w:Int} {o:O} (bk:k.natAbs < B) (bw:w.natAbs < B) (h:Fh xs (some (k * w)) (some (k * w + w))=some o) :
  AZ (ae 1) (d0 (aD bg (ae 0) (ae 2))) (d0 (aD cH (aD bg (ae 0) (ae 2)) (ae 2))) [some (.sh (.int k)),some (.sh xs),some (.sh (.int w))]=some (o,[some (.sh (.int k)),some (.sh xs),some (.sh (.int w))]):=by
 have e1:d0 (aD bg (ae 0) (ae 2)) [some (.sh (.int k)),some (.sh xs),some (.sh (.int w))]=some (some (k * w),[some (.sh (.int k)),some (.sh xs),some (.sh (.int w))]):=by walk_at "ev"
 have e2:d0 (aD cH (aD bg (ae 0) (ae 2)) (ae 2)) [some (.sh (.int k)),some (.sh xs),some (.sh (.int w))]=some (some (k * w + w),[some (.sh (.int k)),some (.sh xs),some (.sh (.int w))]):=by walk_at "ev"
 unfold AZ
 rw [show ae 1 [some (.sh (.int k)),some (.sh xs),some (.sh (.int w))]=some (xs,[some (.sh (.int k)),some (.sh xs),some (.sh (.int w))]) from rfl,Option.bind_some]
 dsimp only
 rw [e1,Option.bind_some]
 dsimp only
 rw [e2,Option.bind_some]
 dsimp only
 rw [h]
 rfl
theorem AW (c:Int) (m w:Nat) (hm:m ≤ 6) (hw:w ≤ 6):∃ A:List (List Rat),mS [.int c,.int (m:Nat),.int (w:Nat)]=some (mZ A) /\ A.length=m /\ (∀ r ∈ A,r.length=w) /\ ∀ r ∈ A,∀ x ∈ r,Lq 1 9 x:=by
 have hmw:m * w ≤ 36:=Nat.le_trans (Nat.mul_le_mul hm hw) (by decide)
 obtain ⟨xs,e1,e2,e3⟩:=C4 c (m * w) (by omega)
 refine ⟨zj xs m w,?_,by unfold zj; rw [List.length_map,List.length_range],fun r hr=>?_,fun r hr x hx=>?_⟩
 ·have hc:=ff (φ:=fun j:Nat=>T.int (j:Nat)) (fe:=AZ (ae 1) (d0 (aD bg (ae 0) (ae 2))) (d0 (aD cH (aD bg (ae 0) (ae 2)) (ae 2)))) (g:=fun k=>jj ((xs.drop (k * w)).take w)) (ρ:=[some (.sh (aG xs)),some (.sh (.int (w:Nat)))]) rfl (List.range m) none [] (fun k hk=>by
   have hkm:=List.mem_range.mp hk
   have hcut:=Hy xs k w m hkm e2
   refine GW (R1:=.non) (lo:=0) (hi:=0) (jR (by omega)) (jR (by omega)) ?_
   show some (O.lst ((lK (xs.map bq) _ _).map .val))=_
   rw [hcut]
   rfl) (ph (by rw [List.length_range]; omega))
  have eS:ai ja (aa (ae 0) (aa (aD bg (ae 1) (ae 2)) ah)) [some (.sh (.int c)),some (.sh (.int (m:Nat))),some (.sh (.int (w:Nat))),none]=some (aG xs,[some (.sh (.int c)),some (.sh (.int (m:Nat))),some (.sh (.int (w:Nat))),none]):=by
   have bm:((m:Nat):Int).natAbs < B:=jR (by omega)
   have bw:((w:Nat):Int).natAbs < B:=jR (by omega)
   rw [Int.natCast_mul] at e1
   clear hc e2 e3 hmw
   generalize aG xs=R2 at *
   walk_at "ev"
  have e:=jF (no:=1) (cap:=[3,2]) (fi:=bS (aa (ae 1) ah)) (fg:=ak 0) (ft:=ay) (τ:=[some (.sh (.int c)),some (.sh (.int (m:Nat))),some (.sh (.int (w:Nat))),some (.sh (aG xs))]) (jH (f:=ae 1) (n:=m) rfl (by omega)) rfl rfl hc
  show dP ja [some (.sh (.int c)),some (.sh (.int (m:Nat))),some (.sh (.int (w:Nat))),none]=_
  unfold dP
  rw [Gy (τ':=[some (.sh (.int c)),some (.sh (.int (m:Nat))),some (.sh (.int (w:Nat))),some (.sh (aG xs))]) (da eS rfl)]
  unfold kN
  rw [e,Option.bind_some]
  show some (O.lst ([] ++ (List.range m).map fun k=>jj ((xs.drop (k * w)).take w)))=some (O.lst ((zj xs m w).map jj))
  unfold zj
  rw [List.map_map]
  rfl
 ·unfold zj at hr
  obtain ⟨k,hk,rfl⟩:=List.mem_map.mp hr
  have hkm:=List.mem_range.mp hk
  have hkw:k * w + w ≤ m * w:=by
   have:(k + 1) * w ≤ m * w:=Nat.mul_le_mul_right w hkm
   rw [Nat.add_mul,Nat.one_mul] at this
   exact this
  rw [List.length_take,List.length_drop,e2]
  omega
 ·unfold zj at hr
  obtain ⟨k,hk,rfl⟩:=List.mem_map.mp hr
  exact e3 x (List.mem_of_mem_drop (List.mem_of_mem_take hx))
theorem BC {N d:Int} (hd:¬ d=0):cg (.int N) (.int d)=some (.int (N.fmod d)):=if_pos hd
theorem Ep {N k d:Int} {τ:aP} (h3:τ[3]? = some (some (.sh (.int N)))) (h2:τ[2]? = some (some (.sh (.int k)))) (hd:¬ d=0) (bd:d.natAbs < B) (hk:¬ k=0):aD cg (aD cQ (ae 3) (fC (.int d))) (ae 2) τ=some (.int ((N.fdiv d).fmod k),τ):=
 fv (fv (dX h3) rfl (El hd bd)) (dX h2) (BC hk)
theorem xU {i:Nat} {f:FE} {τ:aP} {us:List T} {k t:T} (h:τ[i]? = some (some (.own us))) (hf:f τ=some (k,τ)) (hx:cR (.lst us) k=some t):gZ i f τ=some (t,τ):=by
 unfold gZ
 rw [h]
 dsimp only
 rw [hf,Option.bind_some]
 dsimp only
 rw [h]
 dsimp only
 rw [hx]
 rfl
def Au:FE:=ai vy (aa (ae 0) (aa (ai oB (aa (ae 2) (aa (ae 1) ah))) ah))
def Av:FS:=(aE (aN 4 (gZ 0 (aD cg (aD cQ (ae 3) (fC (.int 3))) (ae 2))))
  (aE (aN 5 (gZ 0 (aD cg (aD cQ (ae 3) (fC (.int 30))) (ae 2))))
  (aE (aN 6 (b0 (aa (aD gL (aD cg (aD cQ (ae 3) (fC (.int 300))) (fC (.int 7))) (fC (.int 3))) (aa (fC (.int 1)) ah))))
  (jb 0 (bX 2 [6] (c9 (aa (ae 4) (aa (ae 5) ah))) (bp (ar (ak 0) (ar (ak 1) bo))) ay Au) (ae 2)))))
def jW:FS:=(aE (aN 3 (ai fq (aa (ae 1) (aa (aD cH (fC (.int 40)) (ae 2)) ah))))
  (bE (dw (aD lD (aD cg (ae 3) (fC (.int 3))) (fC (.int 0)))) Av bf))
structure Bw (w M:Nat) (A:List (List Rat)):Prop where
 wd:∀ r ∈ A,r.length=w
 lq:∀ r ∈ A,∀ x ∈ r,Lq 1 M x
theorem Ek {b:Int} (h:b.natAbs ≤ 3):Lq 0 3 (Rat.divInt b 1):=⟨b,rfl,by show b.natAbs ≤ 3 * 27720 ^ 0; omega⟩
theorem Hw {x y:Rat} {b:Int} {M:Nat} (hM:M ≤ 2304) (hx:Lq 1 M x) (hy:Lq 1 M y) (hb:b.natAbs ≤ 3) :
  Au [some (.sh (bq x)),some (.sh (bq y)),some (.sh (bq (Rat.divInt b 1)))]=some (bq (x + Rat.divInt b 1 * y),[some (.sh (bq x)),some (.sh (bq y)),some (.sh (bq (Rat.divInt b 1)))]):=by
 have hby:=Ek hb
 have m1:=uP (gJ hby (by decide) (by decide)) (gJ hy (by decide) (Nat.le_trans hM (by decide)))
 have m2:=By (gJ hx (by decide) (Nat.le_trans hM (by decide))) (gJ (hby.mul hy) (by decide) (Nat.le_trans (Nat.mul_le_mul_left 3 hM) (by decide)))
 exact aM [bq x,bq (Rat.divInt b 1 * y)] (dN rfl (aM [bq (Rat.divInt b 1),bq y] (dN rfl rfl) m1)) m2
theorem zip_rows {i j:Nat} {r s:List Rat} {τ:aP} (h1:τ[i]? = some (some (.sh (aG r)))) (h2:τ[j]? = some (some (.sh (aG s)))):c9 (aa (ae i) (aa (ae j) ah)) τ=some ((List.zip r s).map fun p=>T.tup [bq p.1,bq p.2],τ):=by
 have e:c9 (aa (ae i) (aa (ae j) ah)) τ=some (gM (r.map bq) (s.map bq),τ):=by
  unfold c9 aa ah
  rw [dX h1,Option.bind_some,dX h2,Option.bind_some,Option.bind_some]
  rfl
 rw [e,jB]
theorem ER {A:List (List Rat)} {w M k:Nat} {c N:Int} (hA:Bw w M A) (hM:M ≤ 2304) (hw:w ≤ 8) (h0:0 < k) (hk:k < A.length) (hl:A.length ≤ 8) (o4 o5 o6:Option Sl) :
  ∃ (A':List (List Rat)) (o4' o5' o6':Option Sl),A'.length=A.length /\ Bw w (4 * M) A' /\ Av [some (.own (A.map aG)),some (.sh (.int c)),some (.sh (.int (k:Nat))),some (.sh (.int N)),o4,o5,o6]=some (.nx [some (.own (A'.map aG)),some (.sh (.int c)),some (.sh (.int (k:Nat))),some (.sh (.int N)),o4',o5',o6']):=by
 have nk:¬ ((k:Nat):Int)=0:=by omega
 have pick:∀ d:Int,∃ (i:Nat) (r:List Rat),(N.fdiv d).fmod (k:Nat)=(i:Nat) /\ A[i]? = some r /\ r ∈ A:=fun d=>by
  have hr:=cP (N.fdiv d) (b:=(k:Nat)) (by omega)
  refine ⟨((N.fdiv d).fmod (k:Nat)).toNat,A[((N.fdiv d).fmod (k:Nat)).toNat]'(by omega),by omega,List.getElem?_eq_getElem (by omega),List.getElem_mem _⟩
 obtain ⟨i,r,ei,hi,mi⟩:=pick 3
 obtain ⟨j,s,ej,hj,mj⟩:=pick 30
 have gi:cR (.lst (A.map aG)) (.int ((N.fdiv 3).fmod (k:Nat)))=some (aG r):=by rw [ei]; exact Bi (by rw [List.getElem?_map,hi]; rfl)
 have gj:cR (.lst (A.map aG)) (.int ((N.fdiv 30).fmod (k:Nat)))=some (aG s):=by rw [ej]; exact Bi (by rw [List.getElem?_map,hj]; rfl)
 have b7:=cP (N.fdiv 300) (b:=7) (by decide)
 have hb:((N.fdiv 300).fmod 7 - 3).natAbs ≤ 3:=by omega
 generalize hbb:(N.fdiv 300).fmod 7 - 3=b at hb
 have e1:aN 4 (gZ 0 (aD cg (aD cQ (ae 3) (fC (.int 3))) (ae 2))) [some (.own (A.map aG)),some (.sh (.int c)),some (.sh (.int (k:Nat))),some (.sh (.int N)),o4,o5,o6]=some (.nx [some (.own (A.map aG)),some (.sh (.int c)),some (.sh (.int (k:Nat))),some (.sh (.int N)),some (.sh (aG r)),o5,o6]):=
  da (xU rfl (Ep rfl rfl (by decide) (cm (by decide) (by decide)) nk) gi) rfl
 have e2:aN 5 (gZ 0 (aD cg (aD cQ (ae 3) (fC (.int 30))) (ae 2))) [some (.own (A.map aG)),some (.sh (.int c)),some (.sh (.int (k:Nat))),some (.sh (.int N)),some (.sh (aG r)),o5,o6]=some (.nx [some (.own (A.map aG)),some (.sh (.int c)),some (.sh (.int (k:Nat))),some (.sh (.int N)),some (.sh (aG r)),some (.sh (aG s)),o6]):=
  da (xU rfl (Ep rfl rfl (by decide) (cm (by decide) (by decide)) nk) gj) rfl
 have t6:aD gL (aD cg (aD cQ (ae 3) (fC (.int 300))) (fC (.int 7))) (fC (.int 3)) [some (.own (A.map aG)),some (.sh (.int c)),some (.sh (.int (k:Nat))),some (.sh (.int N)),some (.sh (aG r)),some (.sh (aG s)),o6]=some (.int b,[some (.own (A.map aG)),some (.sh (.int c)),some (.sh (.int (k:Nat))),some (.sh (.int N)),some (.sh (aG r)),some (.sh (aG s)),o6]):=by
  rw [<- hbb]
  exact fv (fv (fv rfl rfl (El (by decide) (cm (by decide) (by decide)))) rfl (BC (by decide))) rfl rfl
 have e3:aN 6 (b0 (aa (aD gL (aD cg (aD cQ (ae 3) (fC (.int 300))) (fC (.int 7))) (fC (.int 3))) (aa (fC (.int 1)) ah))) [some (.own (A.map aG)),some (.sh (.int c)),some (.sh (.int (k:Nat))),some (.sh (.int N)),some (.sh (aG r)),some (.sh (aG s)),o6]=some (.nx [some (.own (A.map aG)),some (.sh (.int c)),some (.sh (.int (k:Nat))),some (.sh (.int N)),some (.sh (aG r)),some (.sh (aG s)),some (.sh (bq (Rat.divInt b 1)))]):=by
  have l2:=G5
  rw [<- yQ]
  refine da (t:=.tup [.int b,.int 1]) (τ1:=[some (.own (A.map aG)),some (.sh (.int c)),some (.sh (.int (k:Nat))),some (.sh (.int N)),some (.sh (aG r)),some (.sh (aG s)),o6]) ?_ rfl
  unfold b0
  rw [dN t6 rfl,Option.bind_some]
  exact if_pos l2
 have hc:=fL (φ:=fun p:Rat × Rat=>bq p.1) (ψ:=fun p:Rat × Rat=>bq p.2) (fe:=Au) (g:=fun p=>bq (p.1 + Rat.divInt b 1 * p.2)) (ρ:=[some (.sh (bq (Rat.divInt b 1)))]) rfl (List.zip r s) none none [] (fun p hp=>by
  obtain ⟨m1,m2⟩:=dU hp
  exact Hw hM (hA.lq r mi p.1 m1) (hA.lq s mj p.2 m2) hb) (cU (iU _ _ (by have:=hA.wd r mi; omega)))
 have e4:=cF (no:=2) (cap:=[6]) (fg:=fm) (ft:=ay) (fe:=Au) (zip_rows (i:=4) (j:=5) (r:=r) (s:=s) (τ:=[some (.own (A.map aG)),some (.sh (.int c)),some (.sh (.int (k:Nat))),some (.sh (.int N)),some (.sh (aG r)),some (.sh (aG s)),some (.sh (bq (Rat.divInt b 1)))]) rfl rfl) rfl rfl hc
 have e5:T.lst ([] ++ (List.zip r s).map fun p=>bq (p.1 + Rat.divInt b 1 * p.2))=aG ((List.zip r s).map fun p=>p.1 + Rat.divInt b 1 * p.2):=by rw [List.nil_append]; unfold aG; rw [List.map_map]; rfl
 rw [e5] at e4
 generalize hn:(List.zip r s).map (fun p=>p.1 + Rat.divInt b 1 * p.2)=nr at e4
 have e6:jb 0 (bX 2 [6] (c9 (aa (ae 4) (aa (ae 5) ah))) (bp (ar (ak 0) (ar (ak 1) bo))) ay Au) (ae 2) [some (.own (A.map aG)),some (.sh (.int c)),some (.sh (.int (k:Nat))),some (.sh (.int N)),some (.sh (aG r)),some (.sh (aG s)),some (.sh (bq (Rat.divInt b 1)))]=some (.nx [some (.own ((A.map aG).set k (aG nr))),some (.sh (.int c)),some (.sh (.int (k:Nat))),some (.sh (.int N)),some (.sh (aG r)),some (.sh (aG s)),some (.sh (bq (Rat.divInt b 1)))]):=
  yn rfl e4 rfl (by rw [List.length_map]; exact hk)
 refine ⟨A.set k nr,some (.sh (aG r)),some (.sh (aG s)),some (.sh (bq (Rat.divInt b 1))),List.length_set,⟨fun t ht=>?_,fun t ht x hx=>?_⟩,?_⟩
 ·rcases List.mem_or_eq_of_mem_set ht with h | h
  ·exact hA.wd t h
  ·rw [h,<- hn,List.length_map,List.length_zip,hA.wd r mi,hA.wd s mj]; omega
 ·rcases List.mem_or_eq_of_mem_set ht with h | h
  ·exact (hA.lq t h x hx).mono (by omega)
  ·rw [h,<- hn] at hx
   obtain ⟨p,hp,rfl⟩:=List.mem_map.mp hx
   obtain ⟨m1,m2⟩:=dU hp
   have q1:=hA.lq r mi p.1 m1
   have q2:=(Ek hb).mul (hA.lq s mj p.2 m2)
   exact (q1.add q2).mono (by omega)
 ·unfold Av
  rw [bh e1,bh e2,bh e3,e6,List.map_set]
theorem CF {A:List (List Rat)} {w M k:Nat} {c:Int} (hA:Bw w M A) (hM:M ≤ 2304) (hw:w ≤ 8) (h0:0 < k) (hk:k < A.length) (hl:A.length ≤ 8) (o3 o4 o5 o6:Option Sl) :
  ∃ (A':List (List Rat)) (o3' o4' o5' o6':Option Sl),A'.length=A.length /\ Bw w (4 * M) A' /\ jW [some (.own (A.map aG)),some (.sh (.int c)),some (.sh (.int (k:Nat))),o3,o4,o5,o6]=some (.nx [some (.own (A'.map aG)),some (.sh (.int c)),some (.sh (.int (k:Nat))),o3',o4',o5',o6']):=by
 have bk:(40 + (k:Int)).natAbs < B:=cm (by omega) (by omega)
 have eM:ai fq (aa (ae 1) (aa (aD cH (fC (.int 40)) (ae 2)) ah)) [some (.own (A.map aG)),some (.sh (.int c)),some (.sh (.int (k:Nat))),o3,o4,o5,o6]=some (.int (iJ c (40 + (k:Int))),[some (.own (A.map aG)),some (.sh (.int c)),some (.sh (.int (k:Nat))),o3,o4,o5,o6]):=
  aM [.int c,.int (40 + (k:Int))] (dN rfl (fv rfl rfl om)) (nu bk)
 generalize iJ c (40 + (k:Int))=N at eM
 have e1:aN 3 (ai fq (aa (ae 1) (aa (aD cH (fC (.int 40)) (ae 2)) ah))) [some (.own (A.map aG)),some (.sh (.int c)),some (.sh (.int (k:Nat))),o3,o4,o5,o6]=some (.nx [some (.own (A.map aG)),some (.sh (.int c)),some (.sh (.int (k:Nat))),some (.sh (.int N)),o4,o5,o6]):=da eM rfl
 have e2:dw (aD lD (aD cg (ae 3) (fC (.int 3))) (fC (.int 0))) [some (.own (A.map aG)),some (.sh (.int c)),some (.sh (.int (k:Nat))),some (.sh (.int N)),o4,o5,o6]=some (decide (N.fmod 3=0),[some (.own (A.map aG)),some (.sh (.int c)),some (.sh (.int (k:Nat))),some (.sh (.int N)),o4,o5,o6]):=by
  unfold dw
  have t:aD lD (aD cg (ae 3) (fC (.int 3))) (fC (.int 0)) [some (.own (A.map aG)),some (.sh (.int c)),some (.sh (.int (k:Nat))),some (.sh (.int N)),o4,o5,o6]=some (.bl (decide (N.fmod 3=0)),[some (.own (A.map aG)),some (.sh (.int c)),some (.sh (.int (k:Nat))),some (.sh (.int N)),o4,o5,o6]):=fv (fv rfl rfl (BC (N:=N) (d:=3) (by decide))) rfl (nj _ _)
  rw [t]
  rfl
 by_cases h:N.fmod 3=0
 ·obtain ⟨A',o4',o5',o6',h1,h2,h3⟩:=ER (c:=c) (N:=N) hA hM hw h0 hk hl o4 o5 o6
  refine ⟨A',some (.sh (.int N)),o4',o5',o6',h1,h2,?_⟩
  unfold jW
  rw [bh e1]
  unfold bE
  rw [e2,Option.bind_some]
  refine (if_pos (decide_eq_true h)).trans h3
 ·refine ⟨A,some (.sh (.int N)),o4,o5,o6,rfl,⟨hA.wd,fun r hr x hx=>(hA.lq r hr x hx).mono (by omega)⟩,?_⟩
  unfold jW
  rw [bh e1]
  unfold bE
  rw [e2,Option.bind_some]
  exact if_neg (fun z=>h (of_decide_eq_true z))
theorem xo {w:Nat} {c:Int} (hw:w ≤ 8):∀ (n k:Nat) (A:List (List Rat)) (M:Nat) (o2 o3 o4 o5 o6:Option Sl),Bw w M A -> 0 < k -> k + n ≤ A.length -> A.length ≤ 8 -> M * 4 ^ n ≤ 2304 -> ∃ (A':List (List Rat)) (o2' o3' o4' o5' o6':Option Sl),A'.length=A.length /\ Bw w 2304 A' /\ bP (ak 2) jW (TM.upTo (k:Nat) n) [some (.own (A.map aG)),some (.sh (.int c)),o2,o3,o4,o5,o6]=some (.nx [some (.own (A'.map aG)),some (.sh (.int c)),o2',o3',o4',o5',o6'])
 | 0,k,A,M,o2,o3,o4,o5,o6,hA,_,_,_,hM=>⟨A,o2,o3,o4,o5,o6,rfl,⟨hA.wd,fun r hr x hx=>(hA.lq r hr x hx).mono (by simpa using hM)⟩,rfl⟩
 | n + 1,k,A,M,o2,o3,o4,o5,o6,hA,h0,hk,hl,hM=>by
  rw [Nat.pow_succ] at hM
  have hM':M ≤ 2304:=Nat.le_trans (Nat.le_mul_of_pos_right M (Nat.mul_pos (Nat.pow_pos (by decide)) (by decide))) hM
  obtain ⟨A1,p3,p4,p5,p6,l1,b1,t1⟩:=CF (c:=c) hA hM' hw h0 (by omega) hl o3 o4 o5 o6
  obtain ⟨A2,q2,q3,q4,q5,q6,l2,b2,t2⟩:=xo hw n (k + 1) A1 (4 * M) (some (.sh (.int (k:Nat)))) p3 p4 p5 p6 b1 (by omega) (by omega) (by omega) (by rw [Nat.mul_comm 4 M,Nat.mul_assoc,Nat.mul_comm 4]; exact hM)
  refine ⟨A2,q2,q3,q4,q5,q6,l2.trans l1,b2,?_⟩
  rw [TM.upTo,bQ (τ1:=[some (.own (A.map aG)),some (.sh (.int c)),some (.sh (.int (k:Nat))),o3,o4,o5,o6]) rfl t1]
  exact t2
abbrev AH:O -> List T -> Option T:=AJ 7 2 (dO fq oB vy)
theorem CC:dO fq oB vy=aE (cG (lO (aa (fC (.int 2)) (aa (cu 0 (ai cn (aa (ae 0) ah))) ah))) (ak 2) jW) (a8 (ae 0)):=rfl
theorem AS {A:List (List Rat)} {w:Nat} (c:Int) (hA:Bw w 9 A) (hw:w ≤ 8) (hl:A.length ≤ 6):∃ A':List (List Rat),A'.length=A.length /\ Bw w 2304 A' /\ AH (mZ A) [.int c]=some (au A'):=by
 have h0:O.trs (A.map jj)=A.map aG:=lu nz A
 have hv:cu 0 (ai cn (aa (ae 0) ah)) [some (.own (A.map aG)),some (.sh (.int c)),none,none,none,none,none]=some (.int (A.length:Nat),[some (.own (A.map aG)),some (.sh (.int c)),none,none,none,none,none]):=by
  have:=wY (i:=0) (f:=ai cn (aa (ae 0) ah)) (τ:=[some (.own (A.map aG)),some (.sh (.int c)),none,none,none,none,none]) (us:=A.map aG) (t:=.int (A.length:Nat)) rfl (fun τ' h1 _=>aM [au A] (dY (dX h1)) (by
   show some (T.int ((A.map aG).length:Nat))=_
   rw [List.length_map]))
  exact this
 have hr:lO (aa (fC (.int 2)) (aa (cu 0 (ai cn (aa (ae 0) ah))) ah)) [some (.own (A.map aG)),some (.sh (.int c)),none,none,none,none,none]=some (TM.upTo 2 (A.length - 2),[some (.own (A.map aG)),some (.sh (.int c)),none,none,none,none,none]):=by
  unfold lO
  rw [dN rfl hv,Option.bind_some]
  dsimp only
  rw [if_pos (by omega),show ((A.length:Int) - 2).toNat=A.length - 2 by omega]
 have key:∃ (A':List (List Rat)) (o2 o3 o4 o5 o6:Option Sl),A'.length=A.length /\ Bw w 2304 A' /\ bP (ak 2) jW (TM.upTo 2 (A.length - 2)) [some (.own (A.map aG)),some (.sh (.int c)),none,none,none,none,none]=some (.nx [some (.own (A'.map aG)),some (.sh (.int c)),o2,o3,o4,o5,o6]):=by
  by_cases h2:2 ≤ A.length
  ·exact xo hw (A.length - 2) 2 A 9 none none none none none hA (by decide) (by omega) (by omega) (Nat.le_trans (Nat.mul_le_mul_left 9 (Nat.pow_le_pow_right (by decide) (show A.length - 2 ≤ 4 by omega))) (by decide))
  ·refine ⟨A,none,none,none,none,none,rfl,⟨hA.wd,fun r hr x hx=>(hA.lq r hr x hx).mono (by decide)⟩,?_⟩
   rw [show A.length - 2=0 by omega]
   rfl
 obtain ⟨A',o2,o3,o4,o5,o6,l1,b1,t1⟩:=key
 refine ⟨A',l1,b1,?_⟩
 have e1:cG (lO (aa (fC (.int 2)) (aa (cu 0 (ai cn (aa (ae 0) ah))) ah))) (ak 2) jW [some (.own (A.map aG)),some (.sh (.int c)),none,none,none,none,none]=_:=gQ hr t1
 show ((dO fq oB vy [some (.own (O.trs (A.map jj))),some (.sh (.int c)),none,none,none,none,none]).bind fun r=>match r with | .rt t=>some t | .nx _=>some .non | _=>none)=_
 rw [h0,CC,bh e1]
 rfl
open PySem PySem.Spec PyProof.Rows L2 TM Qm Rq
theorem Il {i:Nat} {f:mP} {τ τ':aP} {os:List O} (h:f τ=some (.lst os,τ')):qy i f τ=some (.nx (τ'.set i (some (.own (O.trs os))))):=by
 unfold qy
 rw [h]
 rfl
theorem Er {c:FT} {s:FS} {τ τ':aP} (h:c τ=some (false,τ')):bE c s bf τ=some (.nx τ'):=by
 unfold bE
 rw [h]
 rfl
theorem iu:∀ ts:List T,O.trs (ts.map O.val)=ts
 | []=>rfl
 | t :: ts=>by rw [List.map_cons,O.trs,iu ts]; rfl
theorem CG {A:List (List Rat)} {c:Int}:AH (.lst ((A.map aG).map .val)) [.int c]=AH (mZ A) [.int c]:=by
 have s1:GD (.lst ((A.map aG).map .val))=some (.own (A.map aG)):=by
  show some (Sl.own (O.trs ((A.map aG).map .val)))=_
  rw [iu]
 have s2:GD (mZ A)=some (.own (A.map aG)):=by
  show some (Sl.own (O.trs (A.map jj)))=_
  rw [lu nz A]
 unfold AH AJ
 rw [s1,s2]
theorem HS:j6 (bq 0) (.tup [.int 0,.int 1])=some (.bl false):=cmp_self (neg:=true) (ED 0) (by decide)
theorem Js {q:Rat} (h:q ≠ 0):j6 (bq q) (.tup [.int 0,.int 1])=some (.bl true):=by
 have hn:(q.num == 0)=false:=by
  rw [beq_eq_false_iff_ne]
  exact fun z=>h (Rat.num_eq_zero.mp z)
 have e:j6 (bq q) (.tup [.int 0,.int 1])=some (.bl (!(q.num == 0 && ((q.den:Int) == 1 && true)))):=rfl
 rw [e,hn]
 rfl
theorem GG {x y:Rat} (h:x * y=1) (hx:Sm x):Sm y:=by
 have x0:x ≠ 0:=fun z=>by rw [z,Rat.zero_mul] at h; exact absurd h (by decide)
 have hn:x.num ≠ 0:=fun z=>x0 (Rat.num_eq_zero.mp z)
 have e:y=x⁻¹:=by grind
 have e2:y=Rat.divInt x.den x.num:=by rw [e,Rat.inv_def]
 rw [e2]
 have h1:=nZ (a:=(x.den:Int)) hn
 have h2:=Nat.le_of_dvd (by omega) (nY (a:=(x.den:Int)) hn)
 have:=hx.n
 have:=hx.d
 rw [Int.natAbs_natCast] at h1
 exact ⟨by omega,by omega⟩
abbrev ug:List T -> Option T:=fun ts=>(mS ts).bind fun o=>some o.tr
abbrev zy:List T -> Option T:=fun ts=>(G6 ts).bind fun o=>some o.tr
theorem rO:my 1 2304:=⟨by decide,by decide⟩
theorem HD:my 2 (4 * (2304 * 2304)):=⟨by decide,by decide⟩
theorem vv.gd {n:Nat} {A:List (List Rat)} (h:vv n A) {r:List Rat} (hr:r ∈ A):Gd 1 2304 r:=⟨by rw [h.wd r hr]; have:=h.n4; omega,h.lq r hr⟩
theorem vv.tb {n:Nat} {A:List (List Rat)} (h:vv n A):Tb 1 2304 A:=⟨by rw [h.len]; have:=h.n4; omega,fun r hr=>h.gd hr⟩
theorem b1:(8 * (2304 * DD 1 * DD 1) + 1) ^ 5 < B:=by decide +kernel
theorem b2:(8 * (2304 * DD 1 * DD 1 + DD 1) + 1) ^ 5 < B:=by decide +kernel
theorem b3:DD 1 ^ 4 < B:=by decide +kernel
theorem vv.sq {n:Nat} {A:List (List Rat)} (h:vv n A):jO n (DD 1) (2304 * DD 1) A:={ len:=h.len,n4:=h.n4,wd:=h.wd,gn:=fun r hr=>Gn.of (h.gd hr) rO,hM:=b1,d4:=b3,hT:=b2 }
theorem b4:(8 * (4 * (2304 * 2304) * DD 2 * DD 2) + 1) ^ 5 < B:=by decide +kernel
theorem b5:DD 2 ^ 4 < B:=by decide +kernel
theorem GL {n:Nat} {A C:List (List Rat)} (h:vv n A) (h':vv n C):Sq n (DD 2) (4 * (2304 * 2304) * DD 2) (mulM A C n):=by
 have h4:=h.n4
 have hg:∀ r ∈ mulM A C n,Gd 2 (4 * (2304 * 2304)) r:=fun r hr=>by
  obtain ⟨a,ha,rfl⟩:=List.mem_map.mp hr
  refine ⟨by unfold pY; rw [List.length_map,List.length_range]; omega,fun x hx=>?_⟩
  obtain ⟨j,hj,rfl⟩:=List.mem_map.mp hx
  have:=tY (k:=1) (k':=1) (m:=2304) (m':=2304) (r:=a) (s:=fK C j) (h.lq a ha) (fun y hy=>by
   obtain ⟨c,hc,rfl⟩:=List.mem_map.mp hy
   exact h'.lq c hc _ (lQ (by rw [h'.wd c hc]; exact List.mem_range.mp hj)))
  exact this.mono (Nat.mul_le_mul_right _ (by rw [h.wd a ha]; exact h4))
 refine ⟨by unfold mulM; rw [List.length_map,h.len],h4,fun r hr=>?_,fun r hr=>Gn.of (hg r hr) HD,b4,b5⟩
 obtain ⟨a,ha,rfl⟩:=List.mem_map.mp hr
 unfold pY
 rw [List.length_map,List.length_range]
def KA:Nat:=(8 * (2304 * DD 1 * DD 1 + DD 1) + 1) ^ 5
theorem b6:(8 * (KA * KA) + 1) ^ 5 < B:=by decide +kernel
theorem b7:KA ^ 4 < B:=by decide +kernel
theorem b8:KA < B:=by decide +kernel
theorem GK {n D':Nat} {V:List (List Rat)} (h4:n ≤ 4) (hl:V.length=n) (hw:∀ r ∈ V,r.length=n) (hD:0 < D') (hDK:D' ≤ KA) (hx:∀ r ∈ V,∀ x ∈ r,x.den ∣ D' /\ x.num.natAbs ≤ KA):Sq n D' KA V:=
 ⟨hl,h4,hw,fun r hr=>⟨by rw [hw r hr]; omega,fun x hm=>(hx r hr x hm).1,fun x hm=>(hx r hr x hm).2,hD,Nat.lt_of_le_of_lt hDK b8,b8⟩,Nat.lt_of_le_of_lt (Nat.pow_le_pow_left (Nat.add_le_add_right (Nat.mul_le_mul_left _ (Nat.mul_le_mul_left _ hDK)) 1) _) b6,Nat.lt_of_le_of_lt (Nat.pow_le_pow_left hDK _) b7⟩
open PySem PySem.Spec PyProof.Rows L2 TM Qm Rq
def lE (ns:List Int) (k c:Int) (n:Nat) (s4 s5 s6 s7 s8:Option Sl):aP:=[some (.sh (.scr (ns.map T.int))),some (.sh (.int k)),some (.sh (.int c)),some (.sh (.int (n:Nat))),s4,s5,s6,s7,s8]
theorem vv.of {n:Nat} {A:List (List Rat)} (hl:A.length=n) (h4:n ≤ 4) (h:Bw n 2304 A):vv n A:=⟨hl,h4,h.wd,h.lq⟩
theorem HR {j c d:Int} {τ:aP} (h:τ[2]? = some (some (.sh (.int c)))) (bj:j.natAbs < B) (hd:¬ d=0):aD cg (ai fq (aa (ae 2) (aa (fC (.int j)) ah))) (fC (.int d)) τ=some (.int ((iJ c j).fmod d),τ):=
 fv (aM [.int c,.int j] (dN (dX h) rfl) (nu bj)) rfl (if_pos hd)
theorem HQ {j c:Int} {τ:aP} (h:τ[2]? = some (some (.sh (.int c)))) (bj:j.natAbs < B):ai fq (aa (ae 2) (aa (fC (.int j)) ah)) τ=some (.int (iJ c j),τ):=aM [.int c,.int j] (dN (dX h) rfl) (nu bj)
def sL:FS:=bE (dw (aD lD (aD cg (ai fq (aa (ae 2) (aa (fC (.int 3)) ah))) (fC (.int 2))) (fC (.int 0)))) (aN 4 (lM (qz 4) (aa (ai fq (aa (ae 2) (aa (fC (.int 4)) ah))) ah) AH)) bf
def bW (x:Option T):Option Sl:=x.map Sl.sh
theorem Cz {ns:List Int} {k c:Int} {n:Nat} {t5:T} (x6 x7 x8:Option T):cz (lE ns k c n none (some (.sh t5)) (bW x6) (bW x7) (bW x8))=true:=by
 cases x6 <;> cases x7 <;> cases x8 <;> rfl
theorem Df {ns:List Int} {k c:Int} {n:Nat} {A:List (List Rat)} (hA:Bw n 9 A) (hl:A.length=n) (hn:n ≤ 4) {t5:T} (x6 x7 x8:Option T) :
  ∃ (A':List (List Rat)) (X:Sl),A'.length=n /\ Bw n 2304 A' /\ (X=.own (A'.map aG) \/ X=.sh (au A')) /\ sL (lE ns k c n (some (.own (A.map aG))) (some (.sh t5)) (bW x6) (bW x7) (bW x8))=some (.nx (lE ns k c n (some X) (some (.sh t5)) (bW x6) (bW x7) (bW x8))):=by
 have t0:=HR (j:=3) (c:=c) (d:=2) (τ:=lE ns k c n (some (.own (A.map aG))) (some (.sh t5)) (bW x6) (bW x7) (bW x8)) rfl (cm (by decide) (by decide)) (by decide)
 have t1:dw (aD lD (aD cg (ai fq (aa (ae 2) (aa (fC (.int 3)) ah))) (fC (.int 2))) (fC (.int 0))) (lE ns k c n (some (.own (A.map aG))) (some (.sh t5)) (bW x6) (bW x7) (bW x8))=some (decide ((iJ c 3).fmod 2=0),lE ns k c n (some (.own (A.map aG))) (some (.sh t5)) (bW x6) (bW x7) (bW x8)):=by
  have e:=fv (g:=lD) (fb:=fC (.int 0)) t0 rfl (nj _ _)
  unfold dw
  rw [e]
  rfl
 by_cases h:(iJ c 3).fmod 2=0
 ·obtain ⟨A',l1,b1,e1⟩:=AS (iJ c 4) hA (by omega) (by omega)
  rw [<- CG] at e1
  refine ⟨A',.sh (au A'),by omega,b1,.inr rfl,?_⟩
  have eT:qz 4 (lE ns k c n (some (.own (A.map aG))) (some (.sh t5)) (bW x6) (bW x7) (bW x8))=some (.lst ((A.map aG).map .val),lE ns k c n none (some (.sh t5)) (bW x6) (bW x7) (bW x8)):=rfl
  have eC:lM (qz 4) (aa (ai fq (aa (ae 2) (aa (fC (.int 4)) ah))) ah) AH (lE ns k c n (some (.own (A.map aG))) (some (.sh t5)) (bW x6) (bW x7) (bW x8))=some (au A',lE ns k c n none (some (.sh t5)) (bW x6) (bW x7) (bW x8)):=by
   unfold lM
   rw [eT,Option.bind_some]
   dsimp only
   have hs:=Cz (ns:=ns) (k:=k) (c:=c) (n:=n) (t5:=t5) x6 x7 x8
   rw [if_pos hs,dY (HQ (c:=c) (j:=4) rfl (cm (by decide) (by decide))),Option.bind_some]
   dsimp only
   rw [if_pos hs,e1]
   rfl
  unfold sL bE
  rw [t1,Option.bind_some]
  refine (if_pos (decide_eq_true h)).trans ?_
  exact da eC rfl
 ·refine ⟨A,.own (A.map aG),hl,⟨hA.wd,fun r hr x hx=>(hA.lq r hr x hx).mono (by decide)⟩,.inl rfl,?_⟩
  unfold sL bE
  rw [t1,Option.bind_some]
  exact if_neg (fun z=>h (of_decide_eq_true z))
def Bl:FS:=dq 6 (aa (bX 1 [] (aW (ae 4)) (ak 0) ay (ai dList (aa (ae 0) ah))) (aa (bX 1 [] (aW (ae 5)) (ak 0) ay (ai dList (aa (ae 0) ah))) ah))
theorem Fz {ns:List Int} {k c:Int} {n:Nat} {A C:List (List Rat)} (hl:A.length ≤ 8) (hl':C.length ≤ 8) {X:Sl} (hX:X=.own (A.map aG) \/ X=.sh (au A)) (s6 s7 s8:Option Sl) :
  Bl (lE ns k c n (some X) (some (.sh (au C))) s6 s7 s8)=some (.nx (lE ns k c n (some (.sh (au A))) (some (.sh (au C))) (some (.own [au A,au C])) s7 s8)):=by
 have hc:=cM (φ:=aG) (fe:=ai dList (aa (ae 0) ah)) (g:=aG) (ρ:=[]) rfl A none [] (fun r hr=>rfl) (cU hl)
 have hc':=cM (φ:=aG) (fe:=ai dList (aa (ae 0) ah)) (g:=aG) (ρ:=[]) rfl C none [] (fun r hr=>rfl) (cU hl')
 have h1:aW (ae 4) (lE ns k c n (some X) (some (.sh (au C))) s6 s7 s8)=some (A.map aG,lE ns k c n (some (.sh (au A))) (some (.sh (au C))) s6 s7 s8):=by
  rcases hX with rfl | rfl
  ·rfl
  ·rfl
 have h2:=lN (no:=1) (cap:=[]) (fg:=ak 0) (ft:=ay) (fe:=ai dList (aa (ae 0) ah)) h1 rfl rfl hc
 have h3:=cF (no:=1) (cap:=[]) (fi:=aW (ae 5)) (fg:=ak 0) (ft:=ay) (fe:=ai dList (aa (ae 0) ah)) (τ:=lE ns k c n (some (.sh (au A))) (some (.sh (au C))) s6 s7 s8) (h1:=rfl) rfl rfl hc'
 have h4:=AD h2 (dY h3)
 unfold Bl dq
 rw [h4]
 rfl
theorem BK {c1 c2:FT} {s:FS} {τ τ' τ'':aP} (h1:c1 τ=some (false,τ')) (h2:c2 τ'=some (false,τ'')):bE (AY c1 c2) s bf τ=some (.nx τ''):=by
 unfold bE AY
 rw [h1,Option.bind_some]
 dsimp only
 rw [if_neg (by decide),h2]
 rfl
theorem k6 {f:FE} {τ:aP} (h:f τ=some (.bl true,τ)):gB (eL f) τ=some (false,τ):=by
 unfold gB eL
 rw [h]
 rfl
def uK:FS:=(aE (aN 2 (ai jQ (aa (ae 0) (aa (ae 1) ah))))
  (aE (aN 3 (aD cg (ai fq (aa (ae 2) (aa (fC (.int 1)) ah))) (fC (.int 5))))
  (aE (qy 4 (j4 mS (aa (ae 2) (aa (ae 3) (aa (ae 3) ah)))))
  (aE (aN 5 (ai ug (aa (ai fq (aa (ae 2) (aa (fC (.int 2)) ah))) (aa (ae 3) (aa (ae 3) ah)))))
  (aE sL
  (aE Bl
  (aE (aN 7 (cu 4 (ai Cm (aa (ae 4) ah))))
  (aE (bE (AY (gB (eL (ai (dW 4) (aa (cu 4 (ai kC (aa (ae 4) ah))) (aa (ae 7) ah))))) (gB (eL (ai (dW 4) (aa (ai kC (aa (cu 4 (ai iI (aa (ae 4) (aa (ae 3) ah)))) ah)) (aa (ae 7) ah)))))) (a8 (fC (.bl false))) bf)
  (aE (aN 8 (ai kC (aa (cu 4 (ai zy (aa (ae 4) (aa (ae 5) (aa (ae 3) ah))))) ah)))
  (aE (bE (gB (eL (ai (dW 4) (aa (ae 8) (aa (ai oB (aa (ae 7) (aa (ai Cm (aa (ae 5) ah)) ah))) ah))))) (a8 (fC (.bl false))) bf)
  (aE (bE (AY (dw (aD j6 (aD xJ (cu 4 (ai Ah (aa (ae 4) (aa (ae 3) ah)))) (fC .non)) (aD j6 (ae 7) (b0 (aa (fC (.int 0)) (aa (fC (.int 1)) ah)))))) (dw (aD j6 (kM (aa (ae 4) (aa (ae 5) ah))) (ae 6)))) (a8 (fC (.bl false))) bf)
  (bE (zm (dw (aD j6 (ae 7) (b0 (aa (fC (.int 0)) (aa (fC (.int 1)) ah))))) (gB (eL (ai (dW 4) (aa (ai oB (aa (ai kC (aa (cu 4 (ai ue (aa (ae 4) ah))) ah)) (aa (ae 7) ah))) (aa (b0 (aa (fC (.int 1)) (aa (fC (.int 1)) ah))) ah)))))) (a8 (fC (.bl false))) bf))))))))))))
theorem Ar:qc jQ fq ug Cm kC (dW 4) iI zy oB Ah ue AH mS=aE (cG (bS (aa (ai vL (aa (fC (.int 2)) (aa (ai uf (aa (fC (.int 8)) (aa (ai cn (aa (ae 0) ah)) ah))) ah))) ah)) (ak 1) uK) (a8 (fC (.bl true))):=rfl
theorem qQ {f:FE} {τ:aP} {t u:T} (h:τ[4]? = some (some (.sh t))) (hf:f τ=some (u,τ)):cu 4 f τ=some (u,τ):=by rw [yN h]; exact hf
theorem Bo (ns:List Int) {k:Int} (h0:0 ≤ k) (h1:k < 1000000) (x2 x3 x4 x5 x6 x7 x8:Option T) :
  ∃ y2 y3 y4 y5 y6 y7 y8:Option T,uK [some (.sh (.scr (ns.map T.int))),some (.sh (.int k)),bW x2,bW x3,bW x4,bW x5,bW x6,bW x7,bW x8]=some (.nx [some (.sh (.scr (ns.map T.int))),some (.sh (.int k)),bW y2,bW y3,bW y4,bW y5,bW y6,bW y7,bW y8]):=by
 have rm:=cP (iJ (i8 ns k) 1) (b:=5) (by decide)
 obtain ⟨n,en⟩:∃ n:Nat,(iJ (i8 ns k) 1).fmod 5=(n:Nat):=⟨((iJ (i8 ns k) 1).fmod 5).toNat,by omega⟩
 have hn:n ≤ 4:=by omega
 obtain ⟨A0,eA0,lA0,wA0,qA0⟩:=AW (i8 ns k) n n (by omega) (by omega)
 obtain ⟨C,eC,lC,wC,qC⟩:=AW (iJ (i8 ns k) 2) n n (by omega) (by omega)
 have hC:vv n C:=⟨lC,hn,wC,fun r hr x hx=>(qC r hr x hx).mono (by decide)⟩
 generalize hc:i8 ns k=c at *
 obtain ⟨A,X,lA,bA,hX,eB⟩:=Df (ns:=ns) (k:=k) (c:=c) ⟨wA0,qA0⟩ lA0 hn (t5:=au C) x6 x7 x8
 have hA:vv n A:=vv.of lA hn bA
 have e1:aN 2 (ai jQ (aa (ae 0) (aa (ae 1) ah))) [some (.sh (.scr (ns.map T.int))),some (.sh (.int k)),bW x2,bW x3,bW x4,bW x5,bW x6,bW x7,bW x8]=some (.nx [some (.sh (.scr (ns.map T.int))),some (.sh (.int k)),some (.sh (.int c)),bW x3,bW x4,bW x5,bW x6,bW x7,bW x8]):=by
  rw [<- hc]
  exact da (aM [.scr (ns.map T.int),.int k] (dN rfl rfl) (Bv h0 h1)) rfl
 have e2:aN 3 (aD cg (ai fq (aa (ae 2) (aa (fC (.int 1)) ah))) (fC (.int 5))) [some (.sh (.scr (ns.map T.int))),some (.sh (.int k)),some (.sh (.int c)),bW x3,bW x4,bW x5,bW x6,bW x7,bW x8]=some (.nx (lE ns k c n (bW x4) (bW x5) (bW x6) (bW x7) (bW x8))):=by
  have:=da (i:=3) (HR (j:=1) (c:=c) (d:=5) (τ:=[some (.sh (.scr (ns.map T.int))),some (.sh (.int k)),some (.sh (.int c)),bW x3,bW x4,bW x5,bW x6,bW x7,bW x8]) rfl (cm (by decide) (by decide)) (by decide)) rfl
  rw [en] at this
  exact this
 have e3:qy 4 (j4 mS (aa (ae 2) (aa (ae 3) (aa (ae 3) ah)))) (lE ns k c n (bW x4) (bW x5) (bW x6) (bW x7) (bW x8))=some (.nx (lE ns k c n (some (.own (A0.map aG))) (bW x5) (bW x6) (bW x7) (bW x8))):=by
  have q:=CJ (g:=mS) (f:=aa (ae 2) (aa (ae 3) (aa (ae 3) ah))) (ρ:=lE ns k c n (bW x4) (bW x5) (bW x6) (bW x7) (bW x8)) [.int c,.int (n:Nat),.int (n:Nat)] (CA rfl rfl rfl) eA0
  have:=Il (i:=4) q
  rw [lu nz A0] at this
  exact this
 have e4:aN 5 (ai ug (aa (ai fq (aa (ae 2) (aa (fC (.int 2)) ah))) (aa (ae 3) (aa (ae 3) ah)))) (lE ns k c n (some (.own (A0.map aG))) (bW x5) (bW x6) (bW x7) (bW x8))=some (.nx (lE ns k c n (some (.own (A0.map aG))) (some (.sh (au C))) (bW x6) (bW x7) (bW x8))):=by
  refine da (aM [.int (iJ c 2),.int (n:Nat),.int (n:Nat)] (CA (HQ rfl (cm (by decide) (by decide))) rfl rfl) ?_) rfl
  show (mS _).bind _=_
  rw [eC,Option.bind_some,nE]
  rfl
 have e6:=Fz (ns:=ns) (k:=k) (c:=c) (n:=n) (A:=A) (C:=C) (by omega) (by omega) hX (bW x6) (bW x7) (bW x8)
 obtain ⟨dA,MA,hMA,lqA⟩:=qx hA
 obtain ⟨dC,MC,hMC,lqC⟩:=qx hC
 have smA:Sm (bB A):=gJ lqA (by omega) (Nat.le_trans hMA (by decide))
 have smC:Sm (bB C):=gJ lqC (by omega) (Nat.le_trans hMC (by decide))
 have e7:aN 7 (cu 4 (ai Cm (aa (ae 4) ah))) (lE ns k c n (some (.sh (au A))) (some (.sh (au C))) (some (.own [au A,au C])) (bW x7) (bW x8))=some (.nx (lE ns k c n (some (.sh (au A))) (some (.sh (au C))) (some (.own [au A,au C])) (some (.sh (bq (bB A)))) (bW x8))):=da (qQ rfl (aM [au A] (dY rfl) dA)) rfl
 have hsA:=hA.sq
 have v1:=rM hsA.toSq
 have v2:=rM hsA.toSq.turn
 rw [qr hA.len] at v2
 have v3:=rM (GL hA hC)
 rw [AN hA.len hA.wd hC.len] at v3
 have e8:bE (AY (gB (eL (ai (dW 4) (aa (cu 4 (ai kC (aa (ae 4) ah))) (aa (ae 7) ah))))) (gB (eL (ai (dW 4) (aa (ai kC (aa (cu 4 (ai iI (aa (ae 4) (aa (ae 3) ah)))) ah)) (aa (ae 7) ah)))))) (a8 (fC (.bl false))) bf (lE ns k c n (some (.sh (au A))) (some (.sh (au C))) (some (.own [au A,au C])) (some (.sh (bq (bB A)))) (bW x8))=some (.nx (lE ns k c n (some (.sh (au A))) (some (.sh (au C))) (some (.own [au A,au C])) (some (.sh (bq (bB A)))) (bW x8))):=
  BK (k6 (aM [bq (bB A),bq (bB A)] (dN (qQ rfl (aM [au A] (dY rfl) v1)) rfl) (tJ _))) (k6 (aM [bq (bB A),bq (bB A)] (dN (aM [au (bJ A n)] (dY (qQ rfl (aM [au A,.int (n:Nat)] (dN rfl rfl) (wk (by omega) hA.wd (by omega))))) v2) rfl) (tJ _)))
 have hpr:zy [au A,au C,.int (n:Nat)]=some (au (mulM A C n)):=by
  show (G6 _).bind _=_
  rw [FD hA.tb hC.tb hC.wd (by omega) rO rO,Option.bind_some,nE]
 have e9:aN 8 (ai kC (aa (cu 4 (ai zy (aa (ae 4) (aa (ae 5) (aa (ae 3) ah))))) ah)) (lE ns k c n (some (.sh (au A))) (some (.sh (au C))) (some (.own [au A,au C])) (some (.sh (bq (bB A)))) (bW x8))=some (.nx (lE ns k c n (some (.sh (au A))) (some (.sh (au C))) (some (.own [au A,au C])) (some (.sh (bq (bB A)))) (some (.sh (bq (bB A * bB C)))))):=da (aM [au (mulM A C n)] (dY (qQ rfl (aM [au A,au C,.int (n:Nat)] (CA rfl rfl rfl) hpr))) v3) rfl
 have e10:bE (gB (eL (ai (dW 4) (aa (ae 8) (aa (ai oB (aa (ae 7) (aa (ai Cm (aa (ae 5) ah)) ah))) ah))))) (a8 (fC (.bl false))) bf (lE ns k c n (some (.sh (au A))) (some (.sh (au C))) (some (.own [au A,au C])) (some (.sh (bq (bB A)))) (some (.sh (bq (bB A * bB C)))))=some (.nx (lE ns k c n (some (.sh (au A))) (some (.sh (au C))) (some (.own [au A,au C])) (some (.sh (bq (bB A)))) (some (.sh (bq (bB A * bB C)))))):=Er (k6 (aM [bq (bB A * bB C),bq (bB A * bB C)] (dN rfl (aM [bq (bB A),bq (bB C)] (dN rfl (aM [au C] (dY rfl) dC)) (uP smA smC))) (tJ _)))
 obtain ⟨st1,st2⟩:=AV hsA
 have lsts:dw (aD j6 (kM (aa (ae 4) (aa (ae 5) ah))) (ae 6)) (lE ns k c n (some (.sh (au A))) (some (.sh (au C))) (some (.own [au A,au C])) (some (.sh (bq (bB A)))) (some (.sh (bq (bB A * bB C)))))=some (false,lE ns k c n (some (.sh (au A))) (some (.sh (au C))) (some (.sh (.lst [au A,au C]))) (some (.sh (bq (bB A)))) (some (.sh (bq (bB A * bB C))))):=by
  have hs:j6 (.lst [au A,au C]) (.lst [au A,au C])=some (.bl false):=cmp_self (neg:=true) (tM (n:=3) fun x hx=>by
   rcases List.mem_cons.mp hx with rfl | hx
   ·exact yx A
   ·rw [List.mem_singleton.mp hx]; exact yx C) (by decide)
  unfold dw aD
  show (((j6 (.lst [au A,au C]) (.lst [au A,au C])).bind fun t=>some (t,lE ns k c n (some (.sh (au A))) (some (.sh (au C))) (some (.sh (.lst [au A,au C]))) (some (.sh (bq (bB A)))) (some (.sh (bq (bB A * bB C)))))).bind _)=_
  rw [hs]
  rfl
 generalize hE:lE ns k c n (some (.sh (au A))) (some (.sh (au C))) (some (.own [au A,au C])) (some (.sh (bq (bB A)))) (some (.sh (bq (bB A * bB C))))=E at e9 e10 lsts
 have g3:E[3]? = some (some (.sh (.int (n:Nat)))):=by rw [<- hE]; rfl
 have g4:E[4]? = some (some (.sh (au A))):=by rw [<- hE]; rfl
 have g7:E[7]? = some (some (.sh (bq (bB A)))):=by rw [<- hE]; rfl
 have nq:∀ τ:aP,τ[7]? = some (some (.sh (bq (bB A)))) -> aD j6 (ae 7) (b0 (aa (fC (.int 0)) (aa (fC (.int 1)) ah))) τ=some (.bl (!decide (bB A=0)),τ):=fun τ h7=>by
  refine fv (dX h7) (show b0 (aa (fC (.int 0)) (aa (fC (.int 1)) ah)) τ=some (.tup [.int 0,.int 1],τ) from rfl) ?_
  by_cases hz:bB A=0
  ·rw [hz]
   exact HS
  ·rw [decide_eq_false hz]
   exact Js hz
 have e11a:dw (aD j6 (aD xJ (cu 4 (ai Ah (aa (ae 4) (aa (ae 3) ah)))) (fC .non)) (aD j6 (ae 7) (b0 (aa (fC (.int 0)) (aa (fC (.int 1)) ah))))) E=some (false,E):=by
  have hst:∃ t,Ah [au A,.int (n:Nat)]=some t /\ xJ t .non=some (.bl (!decide (bB A=0))):=by
   by_cases hz:bB A=0
   ·obtain ⟨us,hus⟩:=st2 hz
    exact ⟨_,hus,by rw [decide_eq_true hz]; rfl⟩
   ·exact ⟨_,st1 hz,by rw [decide_eq_false hz]; rfl⟩
  obtain ⟨t,ht1,ht2⟩:=hst
  have o1:=fv (g:=xJ) (fb:=fC .non) (qQ g4 (aM (g:=Ah) (f:=aa (ae 4) (aa (ae 3) ah)) [au A,.int (n:Nat)] (dN (dX g4) (dX g3)) ht1)) rfl ht2
  have o2:=fv (g:=j6) o1 (nq E g7) (Bd _ _)
  unfold dw
  rw [o2]
  simp
 have e11:=BK (s:=a8 (fC (.bl false))) e11a lsts
 generalize hF:lE ns k c n (some (.sh (au A))) (some (.sh (au C))) (some (.sh (.lst [au A,au C]))) (some (.sh (bq (bB A)))) (some (.sh (bq (bB A * bB C))))=F at e11
 have f4:F[4]? = some (some (.sh (au A))):=by rw [<- hF]; rfl
 have f7:F[7]? = some (some (.sh (bq (bB A)))):=by rw [<- hF]; rfl
 have e12:bE (zm (dw (aD j6 (ae 7) (b0 (aa (fC (.int 0)) (aa (fC (.int 1)) ah))))) (gB (eL (ai (dW 4) (aa (ai oB (aa (ai kC (aa (cu 4 (ai ue (aa (ae 4) ah))) ah)) (aa (ae 7) ah))) (aa (b0 (aa (fC (.int 1)) (aa (fC (.int 1)) ah))) ah)))))) (a8 (fC (.bl false))) bf F=some (.nx F):=by
  have t1:dw (aD j6 (ae 7) (b0 (aa (fC (.int 0)) (aa (fC (.int 1)) ah)))) F=some (!decide (bB A=0),F):=by
   unfold dw
   rw [nq F f7]
   rfl
  refine Er ?_
  unfold zm
  rw [t1,Option.bind_some]
  by_cases hz:bB A=0
  ·rw [decide_eq_true hz]
   rfl
  ·rw [decide_eq_false hz]
   obtain ⟨V,D',w1,w2,w3,w4,w5,w6,w7⟩:=vS hsA hz
   have v4:=rM (GK hn w3 w4 w5 w6 w7)
   have smV:=GG w2 smA
   have hti:=uP smV smA
   rw [show bB V * bB A=1 by rw [Rat.mul_comm]; exact w2] at hti
   refine (if_pos rfl).trans ?_
   exact k6 (aM [bq 1,bq 1] (dN (aM [bq (bB V),bq (bB A)] (dN (aM [au V] (dY (qQ f4 (aM [au A] (dY (dX f4)) w1))) v4) (dX f7)) hti) rfl) (tJ 1))
 refine ⟨some (.int c),some (.int (n:Nat)),some (au A),some (au C),some (.lst [au A,au C]),some (bq (bB A)),some (bq (bB A * bB C)),?_⟩
 unfold uK
 rw [bh e1,bh e2,bh e3,bh e4,bh eB,bh e6,bh e7,bh e8,bh e9,bh e10,bh e11,e12,<- hF]
 rfl
theorem uL (ns:List Int):∀ (m:Nat) (k:Int) (x1 x2 x3 x4 x5 x6 x7 x8:Option T),0 ≤ k -> k + m < 1000 -> ∃ y1 y2 y3 y4 y5 y6 y7 y8:Option T,bP (ak 1) uK (TM.upTo k m) [some (.sh (.scr (ns.map T.int))),bW x1,bW x2,bW x3,bW x4,bW x5,bW x6,bW x7,bW x8]=some (.nx [some (.sh (.scr (ns.map T.int))),bW y1,bW y2,bW y3,bW y4,bW y5,bW y6,bW y7,bW y8])
 | 0,k,x1,x2,x3,x4,x5,x6,x7,x8,_,_=>⟨x1,x2,x3,x4,x5,x6,x7,x8,rfl⟩
 | m + 1,k,x1,x2,x3,x4,x5,x6,x7,x8,h0,h1=>by
  obtain ⟨y2,y3,y4,y5,y6,y7,y8,ht⟩:=Bo ns h0 (by omega) x2 x3 x4 x5 x6 x7 x8
  obtain ⟨z1,z2,z3,z4,z5,z6,z7,z8,hl⟩:=uL ns m (k + 1) (some (.int k)) y2 y3 y4 y5 y6 y7 y8 (by omega) (by omega)
  refine ⟨z1,z2,z3,z4,z5,z6,z7,z8,?_⟩
  rw [show TM.upTo k (m + 1)=T.int k :: TM.upTo (k + 1) m from rfl,bQ (τ1:=[some (.sh (.scr (ns.map T.int))),some (.sh (.int k)),bW x2,bW x3,bW x4,bW x5,bW x6,bW x7,bW x8]) rfl ht]
  exact hl
theorem Bn (ns:List Int) (hl:ns.length ≤ 63):cE 9 1 (qc jQ fq ug Cm kC (dW 4) iI zy oB Ah ue AH mS) [.scr (ns.map T.int)]=some (.bl true):=by
 have hk:∃ K:Int,0 ≤ K /\ K ≤ 100 /\ ai vL (aa (fC (.int 2)) (aa (ai uf (aa (fC (.int 8)) (aa (ai cn (aa (ae 0) ah)) ah))) ah)) [some (.sh (.scr (ns.map T.int))),none,none,none,none,none,none,none,none]=some (.int K,[some (.sh (.scr (ns.map T.int))),none,none,none,none,none,none,none,none]):=by
  have l1:cn [.scr (ns.map T.int)]=some (.int (ns.length:Nat)):=by
   show some (T.int ((ns.map T.int).length:Nat))=_
   rw [List.length_map]
  have c1:=aM (g:=cn) (f:=aa (ae 0) ah) (ρ:=[some (.sh (.scr (ns.map T.int))),none,none,none,none,none,none,none,none]) [.scr (ns.map T.int)] (dY rfl) l1
  have c2:=aM (g:=uf) (f:=aa (fC (.int 8)) (aa (ai cn (aa (ae 0) ah)) ah)) [.int 8,.int (ns.length:Nat)] (dN rfl c1) rfl
  have c3:=aM (g:=vL) (f:=aa (fC (.int 2)) (aa (ai uf (aa (fC (.int 8)) (aa (ai cn (aa (ae 0) ah)) ah))) ah)) _ (dN rfl c2) rfl
  refine ⟨_,?_,?_,c3⟩
  ·split <;> (try split) <;> omega
  ·split <;> (try split) <;> omega
 obtain ⟨K,k0,k1,ek⟩:=hk
 obtain ⟨y1,y2,y3,y4,y5,y6,y7,y8,hl⟩:=uL ns K.toNat 0 none none none none none none none none (by omega) (by omega)
 have r1:=ji ek k0 (by omega)
 have a1:=gQ (fg:=ak 1) (fb:=uK) r1 hl
 refine kE rfl ?_
 show qc jQ fq ug Cm kC (dW 4) iI zy oB Ah ue AH mS [some (.sh (.scr (ns.map T.int))),none,none,none,none,none,none,none,none]=_
 rw [Ar,bh a1]
 rfl
open PySem PySem.Spec PyProof.Rows L2 TM
theorem lS {α:Type} {us:List α} (h:us.length=1):∃ a,us=[a]:=List.length_eq_one_iff.mp h
theorem f6 {α:Type} {us:List α} (h:us.length=2):∃ a b,us=[a,b]:=by
 rcases us with _ | ⟨a,us⟩
 ·cases h
 ·obtain ⟨b,rfl⟩:=lS (us:=us) (by simpa using h)
  exact ⟨a,b,rfl⟩
theorem Dh {α:Type} {us:List α} (h:us.length=3):∃ a b c,us=[a,b,c]:=by
 rcases us with _ | ⟨a,us⟩
 ·cases h
 ·obtain ⟨b,c,rfl⟩:=f6 (us:=us) (by simpa using h)
  exact ⟨a,b,c,rfl⟩
def fo (s:Stmt) (nm:Str) (pm:Value) (c:Addr):Obj:=⟨.type "function", none,.func (PySem.W.fnOf nm nm (iz s) (d5 s) (aF s) .none .none .none pm none (.ref c) .none),#[]⟩
theorem fk {K:PySem.W.Frag} {st:Stmt} {f c:Addr} {nm:Str} {pm:Value} (l:K.lookup f=some (fo st nm pm c)) (h:PySem.W.codeIn K (.ref c) nm=true):fV K nm nm st f (PySem.W.fnOf nm nm (iz st) (d5 st) (aF st) .none .none .none pm none (.ref c) .none):=Fe l h (by unfold PySem.W.keepIn; dsimp only; rw [l]; rfl)
abbrev Hz:List T -> Option T:=(cE 9 1 (qc (jQ) (fq) (fun ts=>((mS) ts).bind fun o=>some o.tr) (Cm) (kC) (dW 4) (fun ts=>((Et) ts).bind fun o=>some o.tr) (fun ts=>((G6) ts).bind fun o=>some o.tr) (oB) (Ah) (ue) (AH) (mS)))
set_option maxHeartbeats 0 in
theorem all_mk {w:World} {h:Heap} {mg:Str -> Option Value} {fa:Addr} (X:(kk w.params).In h) (G:h.Ns mainGlobals mg) (hfa:mg "law" = some (.ref fa)) :
  ∃ fd:FuncData,(∀ (s:Shared) (v:Value),BindsTo s fd ⟨[v],[]⟩ [("_law_script", v)]) /\ ∀ base:Heap,(kk w.params).In base -> base.Ns mainGlobals mg -> ie pg w (kk w.params) mg base qV 6 fa fd ["_law_script"] (spT (kk w.params) 1 Hz):=by
 have mq:∀ (x:Str) (v:Value),PySem.W.nsIn (kk w.params) mainGlobals x=some (some v) -> mg x=some v:=fun x v e=>PySem.W.mg_of X G e
 have mn:∀ x:Str,PySem.W.nsIn (kk w.params) mainGlobals x=some none -> mg x=none:=fun x e=>PySem.W.mg_none_of X G e
 have e:=hfa.symm.trans (mq "law" (.ref 347) (by kernel_rfl))
 cases e
 have F__law_cell:=fk (K:=kk w.params) (st:=jk) (f:=264) (c:=263) (nm := "_law_cell") (pm:=lU) (by kernel_rfl) (by kernel_rfl)
 have i0:=F__law_cell.binds (ps:=["_law_script", "_law_k"]) fun _ _ _ _ _ _ us hl=>by obtain ⟨a,b,rfl⟩:=f6 hl; rfl
 have m__law_cell:=mq "_law_cell" (.ref 264) (by kernel_rfl)
 have F__law_mix:=fk (K:=kk w.params) (st:=kf) (f:=271) (c:=270) (nm := "_law_mix") (pm:=lU) (by kernel_rfl) (by kernel_rfl)
 have jV:=F__law_mix.binds (ps:=["_law_cell_here", "_law_k"]) fun _ _ _ _ _ _ us hl=>by obtain ⟨a,b,rfl⟩:=f6 hl; rfl
 have m__law_mix:=mq "_law_mix" (.ref 271) (by kernel_rfl)
 have F__law_digits:=fk (K:=kk w.params) (st:=g9) (f:=285) (c:=284) (nm := "_law_digits") (pm:=lU) (by kernel_rfl) (by kernel_rfl)
 have dZ:=F__law_digits.binds (ps:=["_law_number", "_law_by", "_law_many"]) fun _ _ _ _ _ _ us hl=>by obtain ⟨a,b,c,rfl⟩:=Dh hl; rfl
 have m__law_digits:=mq "_law_digits" (.ref 285) (by kernel_rfl)
 have F__law_frac:=fk (K:=kk w.params) (st:=jl) (f:=292) (c:=291) (nm := "_law_frac") (pm:=lU) (by kernel_rfl) (by kernel_rfl)
 have fI:=F__law_frac.binds (ps:=["_law_top", "_law_bottom"]) fun _ _ _ _ _ _ us hl=>by obtain ⟨a,b,rfl⟩:=f6 hl; rfl
 have m__law_frac:=mq "_law_frac" (.ref 292) (by kernel_rfl)
 have F__law_some:=fk (K:=kk w.params) (st:=jn) (f:=297) (c:=296) (nm := "_law_some") (pm:=lU) (by kernel_rfl) (by kernel_rfl)
 have fJ:=F__law_some.binds (ps:=["_law_cell_here", "_law_many"]) fun _ _ _ _ _ _ us hl=>by obtain ⟨a,b,rfl⟩:=f6 hl; rfl
 have m__law_some:=mq "_law_some" (.ref 297) (by kernel_rfl)
 have F__law_table:=fk (K:=kk w.params) (st:=iL) (f:=323) (c:=322) (nm := "_law_table") (pm:=lU) (by kernel_rfl) (by kernel_rfl)
 have dP:=F__law_table.binds (ps:=["_law_cell_here", "_law_many", "_law_wide"]) fun _ _ _ _ _ _ us hl=>by obtain ⟨a,b,c,rfl⟩:=Dh hl; rfl
 have m__law_table:=mq "_law_table" (.ref 323) (by kernel_rfl)
 have F__law_orders:=fk (K:=kk w.params) (st:=hG) (f:=335) (c:=334) (nm := "_law_orders") (pm:=lU) (by kernel_rfl) (by kernel_rfl)
 have fG:=F__law_orders.binds (ps:=["_law_many"]) fun _ _ _ _ _ _ us hl=>by obtain ⟨a,rfl⟩:=lS hl; rfl
 have m__law_orders:=mq "_law_orders" (.ref 335) (by kernel_rfl)
 have F__law_times:=fk (K:=kk w.params) (st:=iM) (f:=311) (c:=310) (nm := "_law_times") (pm:=lU) (by kernel_rfl) (by kernel_rfl)
 have eN:=F__law_times.binds (ps:=["_law_one", "_law_other"]) fun _ _ _ _ _ _ us hl=>by obtain ⟨a,b,rfl⟩:=f6 hl; rfl
 have m__law_times:=mq "_law_times" (.ref 311) (by kernel_rfl)
 have F__law_add:=fk (K:=kk w.params) (st:=kc) (f:=304) (c:=303) (nm := "_law_add") (pm:=lU) (by kernel_rfl) (by kernel_rfl)
 have gz:=F__law_add.binds (ps:=["_law_one", "_law_other"]) fun _ _ _ _ _ _ us hl=>by obtain ⟨a,b,rfl⟩:=f6 hl; rfl
 have m__law_add:=mq "_law_add" (.ref 304) (by kernel_rfl)
 have F__law_determinant:=fk (K:=kk w.params) (st:=eD) (f:=342) (c:=341) (nm := "_law_determinant") (pm:=lU) (by kernel_rfl) (by kernel_rfl)
 have cN:=F__law_determinant.binds (ps:=["_law_table_here"]) fun _ _ _ _ _ _ us hl=>by obtain ⟨a,rfl⟩:=lS hl; rfl
 have m__law_determinant:=mq "_law_determinant" (.ref 342) (by kernel_rfl)
 have F_half:=fk (K:=kk w.params) (st:=Gw) (f:=35) (c:=34) (nm := "half") (pm:=G7) (by kernel_rfl) (by kernel_rfl)
 have b_half:=F_half.binds (ps:=["one", "other"]) fun _ _ _ _ _ _ us hl=>by obtain ⟨a,b,rfl⟩:=f6 hl; rfl
 have m_half:=mq "half" (.ref 35) (by kernel_rfl)
 have F_common:=fk (K:=kk w.params) (st:=oT) (f:=28) (c:=27) (nm := "common") (pm:=G7) (by kernel_rfl) (by kernel_rfl)
 have i5:=F_common.binds (ps:=["one", "other"]) fun _ _ _ _ _ _ us hl=>by obtain ⟨a,b,rfl⟩:=f6 hl; rfl
 have m_common:=mq "common" (.ref 28) (by kernel_rfl)
 have F_shared_bottom:=fk (K:=kk w.params) (st:=fR) (f:=172) (c:=171) (nm := "shared_bottom") (pm:=yc) (by kernel_rfl) (by kernel_rfl)
 have dr:=F_shared_bottom.binds (ps:=["row"]) fun _ _ _ _ _ _ us hl=>by obtain ⟨a,rfl⟩:=lS hl; rfl
 have m_shared_bottom:=mq "shared_bottom" (.ref 172) (by kernel_rfl)
 have F_raised:=fk (K:=kk w.params) (st:=oV) (f:=177) (c:=176) (nm := "raised") (pm:=yc) (by kernel_rfl) (by kernel_rfl)
 have kz:=F_raised.binds (ps:=["row", "low"]) fun _ _ _ _ _ _ us hl=>by obtain ⟨a,b,rfl⟩:=f6 hl; rfl
 have m_raised:=mq "raised" (.ref 177) (by kernel_rfl)
 have F_divided:=fk (K:=kk w.params) (st:=l6) (f:=68) (c:=67) (nm := "divided") (pm:=G7) (by kernel_rfl) (by kernel_rfl)
 have ig:=F_divided.binds (ps:=["numbers", "by"]) fun _ _ _ _ _ _ us hl=>by obtain ⟨a,b,rfl⟩:=f6 hl; rfl
 have m_divided:=mq "divided" (.ref 68) (by kernel_rfl)
 have F_cleared:=fk (K:=kk w.params) (st:=l0) (f:=221) (c:=220) (nm := "cleared") (pm:=mH) (by kernel_rfl) (by kernel_rfl)
 have eZ:=F_cleared.binds (ps:=["row", "kept"]) fun _ _ _ _ _ _ us hl=>by obtain ⟨a,b,rfl⟩:=f6 hl; rfl
 have m_cleared:=mq "cleared" (.ref 221) (by kernel_rfl)
 have F_first_place:=fk (K:=kk w.params) (st:=hU) (f:=228) (c:=227) (nm := "first_place") (pm:=mH) (by kernel_rfl) (by kernel_rfl)
 have dv:=F_first_place.binds (ps:=["row", "wide"]) fun _ _ _ _ _ _ us hl=>by obtain ⟨a,b,rfl⟩:=f6 hl; rfl
 have m_first_place:=mq "first_place" (.ref 228) (by kernel_rfl)
 have F_cleared_rows:=fk (K:=kk w.params) (st:=gG) (f:=216) (c:=215) (nm := "cleared_rows") (pm:=mH) (by kernel_rfl) (by kernel_rfl)
 have df:=F_cleared_rows.binds (ps:=["rows", "wide"]) fun _ _ _ _ _ _ us hl=>by obtain ⟨a,b,rfl⟩:=f6 hl; rfl
 have m_cleared_rows:=mq "cleared_rows" (.ref 216) (by kernel_rfl)
 have F_kept_steps:=fk (K:=kk w.params) (st:=iN) (f:=233) (c:=232) (nm := "kept_steps") (pm:=mH) (by kernel_rfl) (by kernel_rfl)
 have dQ:=F_kept_steps.binds (ps:=["steps"]) fun _ _ _ _ _ _ us hl=>by obtain ⟨a,rfl⟩:=lS hl; rfl
 have m_kept_steps:=mq "kept_steps" (.ref 233) (by kernel_rfl)
 have F_sign_of:=fk (K:=kk w.params) (st:=ma) (f:=252) (c:=251) (nm := "sign_of") (pm:=mH) (by kernel_rfl) (by kernel_rfl)
 have gh:=F_sign_of.binds (ps:=["places"]) fun _ _ _ _ _ _ us hl=>by obtain ⟨a,rfl⟩:=lS hl; rfl
 have m_sign_of:=mq "sign_of" (.ref 252) (by kernel_rfl)
 have F_last_step:=fk (K:=kk w.params) (st:=jo) (f:=240) (c:=239) (nm := "last_step") (pm:=mH) (by kernel_rfl) (by kernel_rfl)
 have eH:=F_last_step.binds (ps:=["kept"]) fun _ _ _ _ _ _ us hl=>by obtain ⟨a,rfl⟩:=lS hl; rfl
 have m_last_step:=mq "last_step" (.ref 240) (by kernel_rfl)
 have F_frac:=fk (K:=kk w.params) (st:=wH) (f:=129) (c:=128) (nm := "frac") (pm:=G8) (by kernel_rfl) (by kernel_rfl)
 have nN:=F_frac.binds (ps:=["top", "bottom"]) fun _ _ _ _ _ _ us hl=>by obtain ⟨a,b,rfl⟩:=f6 hl; rfl
 have m_frac:=mq "frac" (.ref 129) (by kernel_rfl)
 have F_determinant:=fk (K:=kk w.params) (st:=hJ) (f:=192) (c:=191) (nm := "determinant") (pm:=mH) (by kernel_rfl) (by kernel_rfl)
 have c5:=F_determinant.binds (ps:=["table"]) fun _ _ _ _ _ _ us hl=>by obtain ⟨a,rfl⟩:=lS hl; rfl
 have m_determinant:=mq "determinant" (.ref 192) (by kernel_rfl)
 have F__law_same:=fk (K:=kk w.params) (st:=jm) (f:=278) (c:=277) (nm := "_law_same") (pm:=lU) (by kernel_rfl) (by kernel_rfl)
 have dE:=F__law_same.binds (ps:=["_law_found", "_law_due"]) fun _ _ _ _ _ _ us hl=>by obtain ⟨a,b,rfl⟩:=f6 hl; rfl
 have m__law_same:=mq "_law_same" (.ref 278) (by kernel_rfl)
 have F_turned:=fk (K:=kk w.params) (st:=oX) (f:=182) (c:=181) (nm := "turned") (pm:=yc) (by kernel_rfl) (by kernel_rfl)
 have gA:=F_turned.binds (ps:=["table", "wide"]) fun _ _ _ _ _ _ us hl=>by obtain ⟨a,b,rfl⟩:=f6 hl; rfl
 have m_turned:=mq "turned" (.ref 182) (by kernel_rfl)
 have F_lifted:=fk (K:=kk w.params) (st:=oU) (f:=160) (c:=159) (nm := "lifted") (pm:=yc) (by kernel_rfl) (by kernel_rfl)
 have i6:=F_lifted.binds (ps:=["row"]) fun _ _ _ _ _ _ us hl=>by obtain ⟨a,rfl⟩:=lS hl; rfl
 have m_lifted:=mq "lifted" (.ref 160) (by kernel_rfl)
 have F_times:=fk (K:=kk w.params) (st:=tH) (f:=143) (c:=142) (nm := "times") (pm:=G8) (by kernel_rfl) (by kernel_rfl)
 have kB:=F_times.binds (ps:=["one", "other"]) fun _ _ _ _ _ _ us hl=>by obtain ⟨a,b,rfl⟩:=f6 hl; rfl
 have m_times:=mq "times" (.ref 143) (by kernel_rfl)
 have F_plus:=fk (K:=kk w.params) (st:=wI) (f:=136) (c:=135) (nm := "plus") (pm:=G8) (by kernel_rfl) (by kernel_rfl)
 have nO:=F_plus.binds (ps:=["one", "other"]) fun _ _ _ _ _ _ us hl=>by obtain ⟨a,b,rfl⟩:=f6 hl; rfl
 have m_plus:=mq "plus" (.ref 136) (by kernel_rfl)
 have F_weighed:=fk (K:=kk w.params) (st:=me) (f:=150) (c:=149) (nm := "weighed") (pm:=yc) (by kernel_rfl) (by kernel_rfl)
 have ij:=F_weighed.binds (ps:=["one", "other"]) fun _ _ _ _ _ _ us hl=>by obtain ⟨a,b,rfl⟩:=f6 hl; rfl
 have m_weighed:=mq "weighed" (.ref 150) (by kernel_rfl)
 have F_weighed_lifted:=fk (K:=kk w.params) (st:=fx) (f:=165) (c:=164) (nm := "weighed_lifted") (pm:=yc) (by kernel_rfl) (by kernel_rfl)
 have dg:=F_weighed_lifted.binds (ps:=["one", "other"]) fun _ _ _ _ _ _ us hl=>by obtain ⟨a,b,rfl⟩:=f6 hl; rfl
 have m_weighed_lifted:=mq "weighed_lifted" (.ref 165) (by kernel_rfl)
 have F_product:=fk (K:=kk w.params) (st:=l9) (f:=155) (c:=154) (nm := "product") (pm:=yc) (by kernel_rfl) (by kernel_rfl)
 have fc:=F_product.binds (ps:=["one", "other", "wide"]) fun _ _ _ _ _ _ us hl=>by obtain ⟨a,b,c,rfl⟩:=Dh hl; rfl
 have m_product:=mq "product" (.ref 155) (by kernel_rfl)
 have F_tracked:=fk (K:=kk w.params) (st:=md) (f:=209) (c:=208) (nm := "tracked") (pm:=mH) (by kernel_rfl) (by kernel_rfl)
 have jE:=F_tracked.binds (ps:=["table"]) fun _ _ _ _ _ _ us hl=>by obtain ⟨a,rfl⟩:=lS hl; rfl
 have m_tracked:=mq "tracked" (.ref 209) (by kernel_rfl)
 have F_shortened:=fk (K:=kk w.params) (st:=jq) (f:=257) (c:=256) (nm := "shortened") (pm:=mH) (by kernel_rfl) (by kernel_rfl)
 have gP:=F_shortened.binds (ps:=["numbers"]) fun _ _ _ _ _ _ us hl=>by obtain ⟨a,rfl⟩:=lS hl; rfl
 have m_shortened:=mq "shortened" (.ref 257) (by kernel_rfl)
 have F_stills:=fk (K:=kk w.params) (st:=oW) (f:=204) (c:=203) (nm := "stills") (pm:=mH) (by kernel_rfl) (by kernel_rfl)
 have kA:=F_stills.binds (ps:=["table", "wide"]) fun _ _ _ _ _ _ us hl=>by obtain ⟨a,b,rfl⟩:=f6 hl; rfl
 have m_stills:=mq "stills" (.ref 204) (by kernel_rfl)
 have F_still:=fk (K:=kk w.params) (st:=tF) (f:=199) (c:=198) (nm := "still") (pm:=mH) (by kernel_rfl) (by kernel_rfl)
 have m8:=F_still.binds (ps:=["table", "wide"]) fun _ _ _ _ _ _ us hl=>by obtain ⟨a,b,rfl⟩:=f6 hl; rfl
 have m_still:=mq "still" (.ref 199) (by kernel_rfl)
 have F_brought:=fk (K:=kk w.params) (st:=lZ) (f:=245) (c:=244) (nm := "brought") (pm:=mH) (by kernel_rfl) (by kernel_rfl)
 have jC:=F_brought.binds (ps:=["kept", "wide", "column"]) fun _ _ _ _ _ _ us hl=>by obtain ⟨a,b,c,rfl⟩:=Dh hl; rfl
 have m_brought:=mq "brought" (.ref 245) (by kernel_rfl)
 have F_inverse:=fk (K:=kk w.params) (st:=l8) (f:=187) (c:=186) (nm := "inverse") (pm:=mH) (by kernel_rfl) (by kernel_rfl)
 have jD:=F_inverse.binds (ps:=["table"]) fun _ _ _ _ _ _ us hl=>by obtain ⟨a,rfl⟩:=lS hl; rfl
 have m_inverse:=mq "inverse" (.ref 187) (by kernel_rfl)
 have F__law_bound:=fk (K:=kk w.params) (st:=iK) (f:=328) (c:=327) (nm := "_law_bound") (pm:=lU) (by kernel_rfl) (by kernel_rfl)
 have dO:=F__law_bound.binds (ps:=["_law_table_here", "_law_cell_here"]) fun _ _ _ _ _ _ us hl=>by obtain ⟨a,b,rfl⟩:=f6 hl; rfl
 have m__law_bound:=mq "_law_bound" (.ref 328) (by kernel_rfl)
 have F_law:=fk (K:=kk w.params) (st:=qH) (f:=347) (c:=346) (nm := "law") (pm:=lU) (by kernel_rfl) (by kernel_rfl)
 have qc:=F_law.binds (ps:=["_law_script"]) fun _ _ _ _ _ _ us hl=>by obtain ⟨a,rfl⟩:=lS hl; rfl
 have m_law:=mq "law" (.ref 347) (by kernel_rfl)
 have m_len:=mn "len" (by kernel_rfl)
 have m_range:=mn "range" (by kernel_rfl)
 have m_abs:=mn "abs" (by kernel_rfl)
 have m_zip:=mn "zip" (by kernel_rfl)
 have m_enumerate:=mn "enumerate" (by kernel_rfl)
 have m_list:=mn "list" (by kernel_rfl)
 have m_tuple:=mn "tuple" (by kernel_rfl)
 have m_isinstance:=mn "isinstance" (by kernel_rfl)
 have m_str:=mn "str" (by kernel_rfl)
 have m_int:=mn "int" (by kernel_rfl)
 have m_bool:=mn "bool" (by kernel_rfl)
 have m_max:=mn "max" (by kernel_rfl)
 have m_sum:=mn "sum" (by kernel_rfl)
 have m_reversed:=mn "reversed" (by kernel_rfl)
 have m_min:=mn "min" (by kernel_rfl)
 have g_SHORT:=mq "SHORT" (.int (4000) 196) (by kernel_rfl)
 have g_SHORT_QUOTIENT:=mq "SHORT_QUOTIENT" (.int (8000) 200) (by kernel_rfl)
 have g_NOUGHT:=mq "NOUGHT" (.ref 122) (by kernel_rfl)
 have h_NOUGHT:(kk w.params).lookup 122=some ⟨.type "tuple", none,.seq #[.int (0) 359,.int (1) 360] 0,#[]⟩:=by kernel_rfl
 refine ⟨PySem.W.fnOf "law" "law" (iz qH) (d5 qH) (aF qH) .none .none .none lU none (.ref 346) .none,fun s v=>.of_eq rfl,fun base _ _=>?_⟩
 have D__law_cell:Def pg w (kk w.params) mg base 1 "_law_cell" 2 (jQ):=(tf (P:=pg) (w:=w) (base:=base) (k:=0) F__law_cell i0 m__law_cell  m_len).imp DY
 have D__law_mix:Def pg w (kk w.params) mg base 1 "_law_mix" 2 (fq):=(uV (P:=pg) (w:=w) (base:=base) (k:=0) F__law_mix jV m__law_mix  ).imp GJ
 have D__law_digits:Def pg w (kk w.params) mg base 1 "_law_digits" 3 (fW):=oI (P:=pg) (w:=w) (base:=base) (k:=0) F__law_digits dZ m__law_digits  m_range
 have D__law_frac:Def pg w (kk w.params) mg base 1 "_law_frac" 2 (dG):=(tj (P:=pg) (w:=w) (base:=base) (k:=0) B F__law_frac fI m__law_frac  m_abs).imp vi
 have D__law_some:Def pg w (kk w.params) mg base 2 "_law_some" 2 (ja):=tm (P:=pg) (w:=w) (base:=base) (k:=1) F__law_some fJ m__law_some (D__law_digits.mono (by decide:1 ≤ 1)) (D__law_frac.mono (by decide:1 ≤ 1)) (D__law_mix.mono (by decide:1 ≤ 1)) m_range
 have DO__law_table:iY pg w (kk w.params) mg base 3 "_law_table" 3 (mS):=oH (P:=pg) (w:=w) (base:=base) (k:=2) F__law_table dP m__law_table (D__law_some.mono (by decide:2 ≤ 2)) m_range
 have D__law_orders:Def pg w (kk w.params) mg base 1 "_law_orders" 1 (AI):=oJ (P:=pg) (w:=w) (base:=base) (k:=0) F__law_orders fG m__law_orders  m_range m_len
 have D__law_times:Def pg w (kk w.params) mg base 2 "_law_times" 2 (oB):=(pW (P:=pg) (w:=w) (base:=base) (k:=1) F__law_times eN m__law_times (D__law_frac.mono (by decide:1 ≤ 1)) ).imp tQ
 have D__law_add:Def pg w (kk w.params) mg base 2 "_law_add" 2 (vy):=(uU (P:=pg) (w:=w) (base:=base) (k:=1) F__law_add gz m__law_add (D__law_frac.mono (by decide:1 ≤ 1)) ).imp wM
 have D__law_determinant:Def pg w (kk w.params) mg base 3 "_law_determinant" 1 (Cm):=jM (P:=pg) (w:=w) (base:=base) (k:=2) F__law_determinant cN m__law_determinant (D__law_orders.mono (by decide:1 ≤ 2)) (D__law_times.mono (by decide:2 ≤ 2)) (D__law_add.mono (by decide:2 ≤ 2)) m_len m_range
 have D_half:Def pg w (kk w.params) mg base 0 "half" 2 (fun _=>none):=Def.zero F_half b_half m_half
 have D_common:Def pg w (kk w.params) mg base 1 "common" 2 (d8):=(zD (P:=pg) (w:=w) (base:=base) (k:=0) B F_common i5 m_common (D_half.mono (by decide:0 ≤ 0)) m_abs g_SHORT).imp zS
 have D_shared_bottom:Def pg w (kk w.params) mg base 2 "shared_bottom" 1 (zB):=(lX (P:=pg) (w:=w) (base:=base) (k:=1) F_shared_bottom dr m_shared_bottom (D_common.mono (by decide:1 ≤ 1)) ).imp mw
 have D_raised:Def pg w (kk w.params) mg base 1 "raised" 2 (zA):=(zF (P:=pg) (w:=w) (base:=base) (k:=0) F_raised kz m_raised  ).imp zU
 have D_divided:Def pg w (kk w.params) mg base 1 "divided" 2 (vw):=wu (P:=pg) (w:=w) (base:=base) (k:=0) F_divided ig m_divided  g_SHORT_QUOTIENT
 have D_cleared:Def pg w (kk w.params) mg base 2 "cleared" 2 (CQ):=wt (P:=pg) (w:=w) (base:=base) (k:=1) F_cleared eZ m_cleared (D_divided.mono (by decide:1 ≤ 1)) m_zip
 have D_first_place:Def pg w (kk w.params) mg base 1 "first_place" 2 (EX):=oM (P:=pg) (w:=w) (base:=base) (k:=0) F_first_place dv m_first_place  m_range
 have D_cleared_rows:Def pg w (kk w.params) mg base 3 "cleared_rows" 2 (zk):=mY (P:=pg) (w:=w) (base:=base) (k:=2) F_cleared_rows df m_cleared_rows (D_cleared.mono (by decide:2 ≤ 2)) (D_first_place.mono (by decide:1 ≤ 2)) 
 have D_kept_steps:Def pg w (kk w.params) mg base 1 "kept_steps" 1 (Ag):=pX (P:=pg) (w:=w) (base:=base) (k:=0) F_kept_steps dQ m_kept_steps  
 have D_sign_of:Def pg w (kk w.params) mg base 1 "sign_of" 1 (G2):=wy (P:=pg) (w:=w) (base:=base) (k:=0) F_sign_of gh m_sign_of  m_enumerate
 have D_last_step:Def pg w (kk w.params) mg base 1 "last_step" 1 (Cn):=tq (P:=pg) (w:=w) (base:=base) (k:=0) F_last_step eH m_last_step  
 have D_frac:Def pg w (kk w.params) mg base 2 "frac" 2 (dG):=(Dx (P:=pg) (w:=w) (base:=base) (k:=1) F_frac nN m_frac (D_common.mono (by decide:1 ≤ 1)) g_SHORT_QUOTIENT).imp DZ
 have D_determinant:Def pg w (kk w.params) mg base 4 "determinant" 1 (kC):=oK (P:=pg) (w:=w) (base:=base) (k:=3) F_determinant c5 m_determinant (D_shared_bottom.mono (by decide:2 ≤ 3)) (D_raised.mono (by decide:1 ≤ 3)) (D_cleared_rows.mono (by decide:3 ≤ 3)) (D_kept_steps.mono (by decide:1 ≤ 3)) (D_sign_of.mono (by decide:1 ≤ 3)) (D_last_step.mono (by decide:1 ≤ 3)) (D_frac.mono (by decide:2 ≤ 3)) m_len m_zip g_NOUGHT h_NOUGHT
 have D__law_same_0:Def pg w (kk w.params) mg base 0 "_law_same" 2 (dW 0):=Def.zero F__law_same dE m__law_same
 have D__law_same_1:Def pg w (kk w.params) mg base 1 "_law_same" 2 (dW 1):=gb (k:=0) F__law_same dE m__law_same D__law_same_0 m_list m_tuple m_isinstance m_len m_zip m_str m_int m_bool
 have D__law_same_2:Def pg w (kk w.params) mg base 2 "_law_same" 2 (dW 2):=gb (k:=1) F__law_same dE m__law_same D__law_same_1 m_list m_tuple m_isinstance m_len m_zip m_str m_int m_bool
 have D__law_same_3:Def pg w (kk w.params) mg base 3 "_law_same" 2 (dW 3):=gb (k:=2) F__law_same dE m__law_same D__law_same_2 m_list m_tuple m_isinstance m_len m_zip m_str m_int m_bool
 have D__law_same_4:Def pg w (kk w.params) mg base 4 "_law_same" 2 (dW 4):=gb (k:=3) F__law_same dE m__law_same D__law_same_3 m_list m_tuple m_isinstance m_len m_zip m_str m_int m_bool
 have D__law_same:=D__law_same_4
 have DO_turned:iY pg w (kk w.params) mg base 1 "turned" 2 (Et):=(wo (P:=pg) (w:=w) (base:=base) (k:=0) F_turned gA m_turned  m_range).imp zV
 have D_lifted:Def pg w (kk w.params) mg base 3 "lifted" 1 (Cp):=(zE (P:=pg) (w:=w) (base:=base) (k:=2) F_lifted i6 m_lifted (D_shared_bottom.mono (by decide:2 ≤ 2)) (D_raised.mono (by decide:1 ≤ 2)) m_max).imp zT
 have D_times:Def pg w (kk w.params) mg base 2 "times" 2 (oB):=(BJ (P:=pg) (w:=w) (base:=base) (k:=1) F_times kB m_times (D_common.mono (by decide:1 ≤ 1)) ).imp B6
 have D_plus:Def pg w (kk w.params) mg base 2 "plus" 2 (vy):=(Dy (P:=pg) (w:=w) (base:=base) (k:=1) F_plus nO m_plus (D_common.mono (by decide:1 ≤ 1)) ).imp D0
 have D_weighed:Def pg w (kk w.params) mg base 3 "weighed" 2 (Dk):=(wA (P:=pg) (w:=w) (base:=base) (k:=2) F_weighed ij m_weighed (D_times.mono (by decide:2 ≤ 2)) (D_plus.mono (by decide:2 ≤ 2)) m_zip g_NOUGHT h_NOUGHT).imp wO
 have D_weighed_lifted:Def pg w (kk w.params) mg base 4 "weighed_lifted" 2 (Dm):=(k7 (P:=pg) (w:=w) (base:=base) (k:=3) F_weighed_lifted dg m_weighed_lifted (D_weighed.mono (by decide:3 ≤ 3)) (D_frac.mono (by decide:2 ≤ 3)) m_zip m_sum).imp ll
 have DO_product:iY pg w (kk w.params) mg base 5 "product" 3 (G6):=(uT (P:=pg) (w:=w) (base:=base) (k:=4) F_product fc m_product (D_lifted.mono (by decide:3 ≤ 4)) (DO_turned.plain.mono (by decide:1 ≤ 4)) (D_weighed_lifted.mono (by decide:4 ≤ 4)) ).imp wN
 have D_tracked:Def pg w (kk w.params) mg base 3 "tracked" 1 (Co):=wz (P:=pg) (w:=w) (base:=base) (k:=2) F_tracked jE m_tracked (D_shared_bottom.mono (by decide:2 ≤ 2)) (D_raised.mono (by decide:1 ≤ 2)) m_len m_enumerate m_range
 have D_shortened:Def pg w (kk w.params) mg base 2 "shortened" 1 (EY):=tu (P:=pg) (w:=w) (base:=base) (k:=1) F_shortened gP m_shortened (D_common.mono (by decide:1 ≤ 1)) (D_divided.mono (by decide:1 ≤ 1)) 
 have D_stills:Def pg w (kk w.params) mg base 4 "stills" 2 (HA):=zG (P:=pg) (w:=w) (base:=base) (k:=3) F_stills kA m_stills (DO_turned.plain.mono (by decide:1 ≤ 3)) (D_tracked.mono (by decide:3 ≤ 3)) (D_cleared_rows.mono (by decide:3 ≤ 3)) (D_shortened.mono (by decide:2 ≤ 3)) m_len
 have D_still:Def pg w (kk w.params) mg base 5 "still" 2 (Ah):=BI (P:=pg) (w:=w) (base:=base) (k:=4) F_still m8 m_still (D_stills.mono (by decide:4 ≤ 4)) 
 have D_brought:Def pg w (kk w.params) mg base 3 "brought" 3 (EW):=wq (P:=pg) (w:=w) (base:=base) (k:=2) F_brought jC m_brought (D_last_step.mono (by decide:1 ≤ 2)) (D_divided.mono (by decide:1 ≤ 2)) (D_frac.mono (by decide:2 ≤ 2)) m_range m_reversed m_zip m_sum
 have D_inverse:Def pg w (kk w.params) mg base 4 "inverse" 1 (ue):=wx (P:=pg) (w:=w) (base:=base) (k:=3) F_inverse jD m_inverse (D_tracked.mono (by decide:3 ≤ 3)) (D_cleared_rows.mono (by decide:3 ≤ 3)) (D_kept_steps.mono (by decide:1 ≤ 3)) (D_brought.mono (by decide:3 ≤ 3)) (DO_turned.plain.mono (by decide:1 ≤ 3)) m_len m_range
 have DC__law_bound:nG pg w (kk w.params) mg base 3 "_law_bound" 2 (AH):=oG (P:=pg) (w:=w) (base:=base) (k:=2) F__law_bound dO m__law_bound (D__law_mix.mono (by decide:1 ≤ 2)) (D__law_times.mono (by decide:2 ≤ 2)) (D__law_add.mono (by decide:2 ≤ 2)) m_range m_len m_zip
 exact Fd (P:=pg) (w:=w) (base:=base) (k:=5) F_law (D__law_cell.mono (by decide:1 ≤ 5)) (D__law_mix.mono (by decide:1 ≤ 5)) (DO__law_table.plain.mono (by decide:3 ≤ 5)) (D__law_determinant.mono (by decide:3 ≤ 5)) (D_determinant.mono (by decide:4 ≤ 5)) (D__law_same.mono (by decide:4 ≤ 5)) (DO_turned.plain.mono (by decide:1 ≤ 5)) (DO_product.plain.mono (by decide:5 ≤ 5)) (D__law_times.mono (by decide:2 ≤ 5)) (D_still.mono (by decide:5 ≤ 5)) (D_inverse.mono (by decide:4 ≤ 5)) (DC__law_bound.mono (by decide:3 ≤ 5)) (DO__law_table.mono (by decide:3 ≤ 5)) m_range m_len m_min m_max m_list
theorem walk {q:Program} {loose:List Str} {XP:(Str -> Option Value) -> Heap -> Prop} {d:DefRec} (hn:d.name = "law") (hdf:d.params.defaults=[]):PySem.W.WalkO q loose XP hk.says lw.row.toRowW d [] (fun f vs=>PySem.call f vs):=
 L2.yP (n:=63) (k:=6) (x := "_law_script") (CX:=fun _=>qV) (K:=kk) (sp:=fun w=>spT (kk w.params) 1 Hz) rfl (by decide) hdf ⟨rfl,by decide,by decide⟩ (fun _ _ Y=>PySem.W.kIn_of Y) (fun w mg fa h KX G e=>all_mk KX G (by rw [hn] at e; exact e))
  (fun w H a ns hl _ hS=>⟨rfl,H,[.scr (ns.map T.int)],.bl true,aS.refl H,⟨_,[],rfl,⟨a,ns.map V.int,rfl,hS,qG ns⟩,rfl⟩,Bn ns hl,fun _ _ v _ r=>r⟩) fun _ _ _ _ _ z=>z
end My
open PySem PySem.W PyProof.Rows
set_option maxHeartbeats 0 in
theorem PySem.Challenge.cw_echohouse_k14_whole_determinants_holds : PySem.Challenge.rw_echohouse_k14_whole_determinants.Holds := by
 refine holds_law My.ws fun said=>?_
 refine holds_open (q:=My.qv) (loose:=[]) (Xt:=My.xt) (XP:=XL My.qv []) My.hl (Hook.of My.hk) (Hook.keeps My.hk)
  (fun s e=>xl_of s (Bool.and_eq_true_iff.mp e).1) XL.keeps (by rfl) (by rfl) (by rfl)
  (fun s e=>recFacts_of (Bool.and_eq_true_iff.mp e).2) (by rfl) said (by decide +kernel) ⟨rfl,rfl,rfl,rfl,rfl,by decide +kernel⟩ ?hw ?hc
 case hw=>w_witness2
 case hc=>exact My.walk rfl rfl
