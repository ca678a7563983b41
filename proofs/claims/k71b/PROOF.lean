import PyProof.Rows.All
import Wide.All
import OpenK.AllK
import Wide.FinOn
import Lean
import PyProof.EqAt
import PyProof.EqKinds
import PyProof.TupleCall
import KE.KRevIter
import KE.KMinKey
import PyProof.FactsAll.range_2
import PyProof.Rows.CallKwBuiltin
import PyProof.EnumMake
import PyProof.EnumFor
import PyProof.ListNew
import PyProof.CollectIter
import PySem.Challenge.RW_echohouse_k71_steps_of_tables
set_option Elab.async false
set_option linter.all false
set_option maxRecDepth 100000
local macro_rules | `(tactic| walk_at "ev") => do
    let ns : List Lean.Name := [`Bool.false_eq_true, `Bool.not_false, `Bool.not_true, `CDivB_iff, `CMulB_iff, `CNz_iff, `List.cons_append, `List.getElem?_cons_succ, `List.getElem?_cons_zero, `List.length_cons, `List.length_nil, `List.map_cons, `List.map_nil, `List.nil_append, `List.replicate_succ, `List.replicate_zero, `List.set_cons_succ, `List.set_cons_zero, `Nat.reduceAdd, `Nat.reduceLeDiff, `Nat.reduceSub, `Nat.sub_self, `Nat.zero_add, `Option.bind_none, `Option.bind_some, `and_self, `and_true, `beq_self_eq_true, `boolsOf, `dAbs_nat, `dAll, `dLen, `dMax, `dMin, `dTuple, `decide_false, `decide_true, `fAlways, `fAnd, `fAndV, `fApp, `fAsg, `fC, `fCall, `fCallC, `fCallO, `fCons, `fDic, `fDrop, `fDropApp, `fFor, `fIf, `fIfS, `fLst, `fNever, `fNext, `fNil, `fNoPart, `fNot, `fOp, `fOr, `fOrV, `fPar, `fPart, `fRet, `fRetO, `fSeq, `fSeqO, `fSet, `fSetOwn, `fSl, `fTB, `fTru, `fTup, `fUn, `fVal, `fVar, `fiSeq, `fiZip, `gAdd_int, `gAdd_lst, `gAdd_tup, `gBits, `gEq_bl, `gEq_bools, `gEq_int, `gEq_pair, `gI_int, `gIs, `gIx_lst0, `gIx_lst1, `gIx_tup0, `gIx_tup1, `gNe_bl, `gNe_int, `gNeg, `gNot, `gnCons, `gnName, `gnNil, `gnTup, `if_false, `if_true, `isNon, `isi_bl_bool, `isi_bl_dict, `isi_bl_int, `isi_bl_list, `isi_bl_lt, `isi_bl_str, `isi_bl_tuple, `isi_dic_bool, `isi_dic_dict, `isi_dic_int, `isi_dic_list, `isi_dic_lt, `isi_dic_str, `isi_dic_tuple, `isi_int_bool, `isi_int_dict, `isi_int_int, `isi_int_list, `isi_int_lt, `isi_int_str, `isi_int_tuple, `isi_lst_bool, `isi_lst_dict, `isi_lst_int, `isi_lst_list, `isi_lst_lt, `isi_lst_str, `isi_lst_tuple, `isi_non_bool, `isi_non_dict, `isi_non_int, `isi_non_list, `isi_non_lt, `isi_non_str, `isi_non_tuple, `isi_scr_bool, `isi_scr_dict, `isi_scr_int, `isi_scr_list, `isi_scr_lt, `isi_scr_str, `isi_scr_tuple, `isi_str_bool, `isi_str_dict, `isi_str_int, `isi_str_list, `isi_str_lt, `isi_str_str, `isi_str_tuple, `isi_tup_bool, `isi_tup_dict, `isi_tup_int, `isi_tup_list, `isi_tup_lt, `isi_tup_str, `isi_tup_tuple, `ite_false, `ite_true, `le0, `le1, `le17, `le2, `le3, `le4, `loopT, `lt6, `ne_eq, `not_false_eq_true, `not_true_eq_false, `reduceCtorEq, `reduceIte, `sqK, `tru, `true_and, `zipT]
    let mut ls : Array (Lean.TSyntax `Lean.Parser.Tactic.simpLemma) := #[]
    for n in ns do
      unless (← Lean.Macro.resolveGlobalName n).isEmpty do
        ls := ls.push (← `(Lean.Parser.Tactic.simpLemma| $(Lean.mkIdent n):ident))
    `(tactic| simp only [$[$ls],*, *])
namespace My
open PySem PySem.Spec PyProof.Rows
noncomputable def tp (i : Nat) : Stmt := PySem.Challenge.pw_echohouse_k71_steps_of_tables.main.body.getD i (.Pass ⟨0, 0, 0, 0⟩)
noncomputable def hA (s : Stmt) : Arguments := match s with
  | .FunctionDef _ a _ _ _ _ _ _ _ _ => a
  | _ => ⟨[], [], none, [], [], none, []⟩
noncomputable def hB (s : Stmt) : List Stmt := match s with
  | .FunctionDef _ _ b _ _ _ _ _ _ _ => b
  | _ => []
noncomputable def hS (s : Stmt) : Scope := match s with
  | .FunctionDef _ _ _ _ _ _ sc _ _ _ => sc
  | _ => { kind := .function, names := [], isGenerator := false, isCoroutine := false }
noncomputable abbrev pg : Program := PySem.Challenge.pw_echohouse_k71_steps_of_tables
noncomputable abbrev lw : PySem.W.OpenLaw := PySem.Challenge.rw_echohouse_k71_steps_of_tables
noncomputable def qv : Program := { pg with main := { pg.main with body := ([1, 2, 3, 4, 5, 6, 7, 8, 9, 10, 11, 13, 15, 16, 18, 20, 22, 23, 24, 25, 26, 27, 28, 29, 30, 31, 32, 33, 34, 35] : List Nat).map tp } }
noncomputable def cf : Str := "/claim/cut.py"
noncomputable def cO (nm : Str) (t l n k : Nat) (a b c d e : Value) : Obj := ⟨.type "code", none, .fields #[.str nm t, .str nm (t + 1), .str cf (t + 2), .int l 0, .int n 0, .int 0 0, .int 0 0, .int 3 0, a, .bool true, .int 181 0, b, .none, c, d, e, .int k 0, .int l 0, .str cf (k + 1)], #[]⟩
noncomputable def cA (c : Nat) (nm : Str) (t l n k : Nat) : Obj := cO nm t l n k (.ref (c - 5)) (.ref (c - 4)) (.ref (c - 3)) (.ref (c - 2)) (.ref (c - 1))
noncomputable def cB (c : Nat) (nm : Str) (t l n k : Nat) : Obj := cO nm t l n k (.ref (c - 3)) (.ref (c - 2)) .none .none (.ref (c - 1))
noncomputable def fh (s : Stmt) (nm : Str) (pm : Value) (c : Addr) : Obj := ⟨.type "function", none, .func (PySem.W.fnOf nm nm (hA s) (hB s) (hS s) .none .none .none pm none (.ref c) .none), #[]⟩
noncomputable def de (P : Params) (x : Str) (t : Tok) (v : Value) : DictEntry := ⟨PyData.keyHash P x, .str x t, v⟩
noncomputable def md0 : Value := .str "law_echohouse_k71_steps_of_tables" 344
noncomputable def md1 : Value := .str "echohouse.divisors" 187
noncomputable def md2 : Value := .str "echohouse.tables" 302
noncomputable def md3 : Value := .str "echohouse.solving" 320
noncomputable def md4 : Value := .str "echohouse.fracs" 291
noncomputable def md5 : Value := .str "echohouse.echo" 328
noncomputable def kk (P : Params) : PySem.W.Frag := [
(3, ⟨.type "dict", none, .dict #[de P "__name__" 165 (.str "law_echohouse_k71_steps_of_tables" 344), de P "__doc__" 166 (.none), de P "__package__" 167 (.none), de P "__loader__" 168 (.builtin "__main__.__loader__#opaque"), de P "__spec__" 169 (.none), de P "__annotations__" 170 (.ref 6), de P "__builtins__" 171 (.ref 4), de P "__file__" 173 (.str "/claim/cut.py" 172), de P "__cached__" 174 (.none), de P "SHORT" 190 (.int (4000) 189), de P "SHORT_HALF" 192 (.int (256) 191), de P "SHORT_QUOTIENT" 194 (.int (8000) 193), de P "common" 203 (.ref 21), de P "half" 215 (.ref 28), de P "stepped" 225 (.ref 35), de P "step" 240 (.ref 42), de P "upper_half" 257 (.ref 49), de P "factors_joined" 273 (.ref 56), de P "divided" 279 (.ref 61), de P "low_inverse" 290 (.ref 68), de P "frac" 301 (.ref 75), de P "shared_bottom" 313 (.ref 82), de P "raised" 319 (.ref 87), de P "cleared" 327 (.ref 92), de P "steps_of" 343 (.ref 99), de P "_law_cell" 354 (.ref 106), de P "_law_mix" 363 (.ref 113), de P "_law_same" 373 (.ref 120), de P "_law_digits" 384 (.ref 127), de P "_law_frac" 394 (.ref 134), de P "_law_some" 400 (.ref 139), de P "_law_add" 408 (.ref 146), de P "_law_times" 416 (.ref 153), de P "_law_weighed" 427 (.ref 160), de P "_law_minor" 433 (.ref 165), de P "_law_symmetric" 439 (.ref 170), de P "_law_squared" 445 (.ref 175), de P "_law_due" 456 (.ref 182), de P "law" 462 (.ref 187)] 39, #[]⟩),
(20, cA 20 "common" 195 5 2 201),
(21, fh (tp 4) "common" md1 20),
(27, cA 27 "half" 204 14 2 213),
(28, fh (tp 5) "half" md1 27),
(60, cB 60 "divided" 274 48 2 277),
(61, fh (tp 10) "divided" md1 60),
(74, cA 74 "frac" 293 67 2 299),
(75, fh (tp 13) "frac" md4 74),
(81, cA 81 "shared_bottom" 304 77 1 311),
(82, fh (tp 15) "shared_bottom" md2 81),
(86, cB 86 "raised" 314 82 2 317),
(87, fh (tp 16) "raised" md2 86),
(91, cB 91 "cleared" 322 85 2 325),
(92, fh (tp 18) "cleared" md3 91),
(98, cA 98 "steps_of" 330 93 1 341),
(99, fh (tp 20) "steps_of" md5 98),
(105, cA 105 "_law_cell" 346 106 2 352),
(106, fh (tp 22) "_law_cell" md0 105),
(112, cA 112 "_law_mix" 355 113 2 361),
(113, fh (tp 23) "_law_mix" md0 112),
(119, cA 119 "_law_same" 364 117 2 371),
(120, fh (tp 24) "_law_same" md0 119),
(126, cA 126 "_law_digits" 374 132 3 382),
(127, fh (tp 25) "_law_digits" md0 126),
(133, cA 133 "_law_frac" 385 138 2 392),
(134, fh (tp 26) "_law_frac" md0 133),
(138, cB 138 "_law_some" 395 146 2 398),
(139, fh (tp 27) "_law_some" md0 138),
(145, cA 145 "_law_add" 401 155 2 406),
(146, fh (tp 28) "_law_add" md0 145),
(152, cA 152 "_law_times" 409 157 2 414),
(153, fh (tp 29) "_law_times" md0 152),
(159, cA 159 "_law_weighed" 417 159 2 425),
(160, fh (tp 30) "_law_weighed" md0 159),
(164, cB 164 "_law_minor" 428 164 2 431),
(165, fh (tp 31) "_law_minor" md0 164),
(169, cB 169 "_law_symmetric" 434 179 2 437),
(170, fh (tp 32) "_law_symmetric" md0 169),
(174, cB 174 "_law_squared" 440 188 2 443),
(175, fh (tp 33) "_law_squared" md0 174),
(181, cA 181 "_law_due" 446 196 1 454),
(182, fh (tp 34) "_law_due" md0 181),
(186, cB 186 "law" 457 206 1 460),
(187, fh (tp 35) "law" md0 186)]
noncomputable def ka : List Addr := [3, 20, 21, 27, 28, 60, 61, 74, 75, 81, 82, 86, 87, 91, 92, 98, 99, 105, 106, 112, 113, 119, 120, 126, 127, 133, 134, 138, 139, 145, 146, 152, 153, 159, 160, 164, 165, 169, 170, 174, 175, 181, 182, 186, 187]
theorem kae (P : Params) : ka = (kk P).map (·.1) := by kernel_rfl
noncomputable abbrev hk : PySem.W.Hook := PySem.W.kHook kk ka kae
noncomputable abbrev xt (s : Shared) : Bool := PySem.W.xlAt qv [] s && PySem.W.recOk (PySem.W.RowW.records lw.row.toRowW) s
set_option maxHeartbeats 0 in
theorem hl : PySem.W.LeftO lw.row.prog qv [] xt hk.obs hk.val 1960 := fun w => by kernel_rfl
theorem ws : lw.wellSaid = true := by kernel_rfl
end My

namespace L2
open PySem PySem.Spec PyProof.Rows

noncomputable abbrev Key := Sum Int Str
noncomputable def keyIs : Key → Value → Bool
  | .inl k, v => Value.isInt k v
  | .inr x, v => Value.isStrOf x v
noncomputable def keyH (w : World) : Key → Int
  | .inl k => hashInt k
  | .inr x => hashStr w x
theorem keyIs_shape : ∀ {k : Key} {v : Value}, keyIs k v = true → (∃ i t, k = Sum.inl i ∧ v = Value.int i t) ∨ (∃ x t, k = Sum.inr x ∧ v = Value.str x t)
  | .inl i, v, h => by
    obtain ⟨t, e⟩ := Value.isInt_shape (k := i) (v := v) h
    exact .inl ⟨i, t, rfl, e⟩
  | .inr x, v, h => by
    obtain ⟨t, e⟩ := Value.isStrOf_shape (x := x) (v := v) h
    exact .inr ⟨x, t, rfl, e⟩
theorem key_ll (a b : Int) : decide ((Sum.inl a : Key) = Sum.inl b) = (a == b) := by
  by_cases e : a = b
  · subst e; simp
  · have h : ¬ (Sum.inl a : Key) = Sum.inl b := fun q => e (Sum.inl.inj q)
    rw [decide_eq_false h]
    exact (beq_eq_false_iff_ne.mpr e).symm
theorem key_rr (a b : Str) : decide ((Sum.inr a : Key) = Sum.inr b) = decide (a = b) := by
  by_cases e : a = b
  · subst e; simp
  · have h : ¬ (Sum.inr a : Key) = Sum.inr b := fun q => e (Sum.inr.inj q)
    rw [decide_eq_false h, decide_eq_false e]
theorem key_lr (a : Int) (b : Str) : decide ((Sum.inl a : Key) = Sum.inr b) = false := decide_eq_false (fun q => nomatch q)
theorem key_rl (a : Str) (b : Int) : decide ((Sum.inr a : Key) = Sum.inl b) = false := decide_eq_false (fun q => nomatch q)

noncomputable def mixKind (prog : Program) (w : World) : PySem.KeyKind prog w Key where
  is := keyIs
  hash := keyH w
  inj := fun v a b ha hb => by
    rcases keyIs_shape ha with ⟨i, t, rfl, rfl⟩ | ⟨x, t, rfl, rfl⟩
    · rcases keyIs_shape hb with ⟨j, u, rfl, e⟩ | ⟨y, u, rfl, e⟩
      · injection e with e1 _; rw [e1]
      · exact nomatch e
    · rcases keyIs_shape hb with ⟨j, u, rfl, e⟩ | ⟨y, u, rfl, e⟩
      · exact nomatch e
      · injection e with e1 _; rw [e1]
  byValue := fun k v h => by
    rcases keyIs_shape h with ⟨i, t, rfl, rfl⟩ | ⟨x, t, rfl, rfl⟩ <;> rfl
  pyHash := fun hv h => by
    rcases keyIs_shape hv with ⟨i, t, rfl, rfl⟩ | ⟨x, t, rfl, rfl⟩
    · exact wpAny_pyHash_int h
    · exact wpAny_pyHash_str h
  eqBool := fun hu hv h => by
    rcases keyIs_shape hu with ⟨i, t, rfl, rfl⟩ | ⟨x, t, rfl, rfl⟩
    · rcases keyIs_shape hv with ⟨j, u, rfl, rfl⟩ | ⟨y, u, rfl, rfl⟩
      · rw [key_ll] at h; exact wpAny_eqBool_int h
      · rw [key_lr] at h; exact SeqAt.EqAt.int_str i t y u _ _ _ _ h
    · rcases keyIs_shape hv with ⟨j, u, rfl, rfl⟩ | ⟨y, u, rfl, rfl⟩
      · rw [key_rl] at h; exact SeqAt.EqAt.str_int x t j u _ _ _ _ h
      · rw [key_rr] at h; exact wpAny_eqBool_str h
  «strs» := fun k x t v h => by
    rcases keyIs_shape h with ⟨i, u, rfl, e⟩ | ⟨y, u, rfl, e⟩
    · exact nomatch e
    · injection e with e1 _
      subst e1
      cases v <;> rfl

end L2

namespace L2
open PySem PySem.Spec PyProof.Rows

inductive V where
  | non | bl (b : Bool) | int (i : Int) | str (x : Str) | byt (b : Array UInt8) | flt (b : UInt64) | ref (a : Addr) | ty (n : String)
  deriving DecidableEq

noncomputable def RelV : V → Value → Prop
  | .non, u => u = Value.none
  | .bl b, u => u = Value.bool b
  | .int i, u => ∃ t, u = Value.int i t
  | .str x, u => ∃ t, u = Value.str x t
  | .byt b, u => ∃ t, u = Value.bytes b t
  | .flt b, u => ∃ t, u = Value.float b t
  | .ref a, u => u = Value.ref a
  | .ty n, u => u = Value.type n

noncomputable abbrev Vals : List V → List Value → Prop := Paired RelV
theorem Vals.length {xs : List V} {us : List Value} (r : Vals xs us) : xs.length = us.length := Paired.length r
theorem Vals.get : ∀ {xs : List V} {us : List Value} {i : Nat} {x : V}, Vals xs us → xs[i]? = some x → ∃ u, us[i]? = some u ∧ RelV x u
  | _, _, _, _, .nil, e => by simp at e
  | _, _, 0, _, .cons r _, e => by simp at e; subst e; exact ⟨_, rfl, r⟩
  | _, _, i + 1, x, .cons _ t, e => by
    obtain ⟨u, h1, h2⟩ := Vals.get (i := i) (x := x) t (by simpa using e)
    exact ⟨u, by simpa using h1, h2⟩
theorem Vals.set {x : V} {u : Value} (r : RelV x u) : ∀ {xs : List V} {us : List Value} (i : Nat), Vals xs us → Vals (xs.set i x) (us.set i u)
  | _, _, _, .nil => .nil
  | _, _, 0, .cons _ t => .cons r t
  | _, _, i + 1, .cons q t => .cons q (Vals.set r i t)
theorem Vals.append : ∀ {xs ys : List V} {us ws : List Value}, Vals xs us → Vals ys ws → Vals (xs ++ ys) (us ++ ws)
  | _, _, _, _, .nil, s => s
  | _, _, _, _, .cons r t, s => .cons r (Vals.append t s)
theorem Vals.take : ∀ {xs : List V} {us : List Value} (n : Nat), Vals xs us → Vals (xs.take n) (us.take n)
  | _, _, 0, _ => .nil
  | _, _, _ + 1, .nil => .nil
  | _, _, n + 1, .cons r t => .cons r (Vals.take n t)
theorem Vals.drop : ∀ {xs : List V} {us : List Value} (n : Nat), Vals xs us → Vals (xs.drop n) (us.drop n)
  | _, _, 0, r => r
  | _, _, _ + 1, .nil => .nil
  | _, _, n + 1, .cons _ t => Vals.drop n t
noncomputable def RelO : Option V → Option Value → Prop
  | some v, some u => RelV v u
  | none, none => True
  | _, _ => False
noncomputable def KV {κ : Type} : List (κ × V) → List (κ × Value) → Prop := Paired fun (p : κ × V) (q : κ × Value) => p.1 = q.1 ∧ RelV p.2 q.2

noncomputable def kV : Key → V
  | .inl i => .int i
  | .inr x => .str x

inductive HO where
    | lst (xs : List V)
    | tup (xs : List V)
    | dK (kvs : List (Key × V)) | dT (kvs : List (List Key × V))
    | set (S : Int → Bool) (n : Nat)
    | ins (C dx : Addr) (fs : List (Str × V))
    | own (x : Addr)
    | xd (fs : List (Str × V))
    | met (f x : Addr)
    | rng (lo hi : Int)
    | frz (o : Obj) (u : HO)
    | tbl (ps : Array Value)
    | ext (φ : Heap → Prop)

noncomputable abbrev Hp := Addr → Option HO
noncomputable def upd (H : Hp) (a : Addr) (o : HO) : Hp := fun b => if b = a then some o else H b
theorem upd_same {H : Hp} {a : Addr} {o : HO} : upd H a o a = some o := by unfold upd; rw [if_pos rfl]
theorem upd_ne {H : Hp} {a b : Addr} {o : HO} (h : b ≠ a) : upd H a o b = H b := by unfold upd; rw [if_neg h]
theorem ne_of_none {H : Hp} {a b : Addr} {o : HO} (h : H a = some o) (h' : H b = none) : a ≠ b := by
  intro e; subst e; rw [h] at h'; cases h'

section
variable (P : Program) (w : World)
noncomputable def ObjOk (H : Hp) (h : Heap) (a : Addr) : HO → Prop
  | .lst xs => xs.length ≤ sizeLine ∧ ∃ (its : List Value) (n : Nat), Vals xs its ∧ h.get? a = some { cls := .type "list", data := .seq its.toArray n }
  | .tup xs => xs.length ≤ sizeLine ∧ ∃ its : List Value, Vals xs its ∧ IsTup h a its.toArray
  | .dK kvs => kvs.length ≤ sizeLine ∧ (a == sysModules) = false ∧ ∃ vs, KV kvs vs ∧ h.DictOf (mixKind P w) a vs
  | .dT kvs => kvs.length ≤ sizeLine ∧ (a == sysModules) = false ∧ ∃ xs : List (List Key × Addr × Value),
      Paired (fun (p : List Key × V) (q : List Key × Addr × Value) => p.1 = q.1 ∧ H q.2.1 = some (.tup (p.1.map kV)) ∧ RelV p.2 q.2.2) kvs xs ∧
      ∃ o es ep, h.get? a = some o ∧ o.ExactDict ∧ o.data = .dict es ep ∧ es.toList = xs.map (entryOfKey (tupleKind (mixKind P w))) ∧ (xs.map (·.1)).Nodup
  | .set S n => h.SetOf (intKind P w) a S n
  | .ins C dx fs => H dx = some (.own a) ∧ fs.length ≤ 1000 ∧ dx ≠ a ∧ h.get? a = some (PySem.W.instObj C dx) ∧
      ∃ mA, h.Ns1 dx mA ∧ (∀ f, RelO (fs.lookup f) (mA f)) ∧ PySem.Within mA (fs.map (·.1))
  | .own _ => ∃ o, h.get? a = some o
  | .xd fs => ∃ mA, h.Ns1 a mA ∧ ∀ f, RelO (fs.lookup f) (mA f)
  | .rng lo hi => ∃ t u v, h.get? a = some { cls := .type "range", data := .fields #[.int lo t, .int hi u, .int 1 v] }
  | .frz o u => h.get? a = some o ∧ ObjOk H h a u
  | .tbl ps => h.get? a = some { cls := .none, data := .fields ps }
  | .met f x => h.get? a = some (PySem.W.methodObj (.ref f) (.ref x))
  | .ext φ => φ h ∧ (∃ o, h.get? a = some o) ∧ ∀ h1 h2 : Heap, φ h1 → (∀ o, h1.get? a = some o → h2.get? a = some o) → φ h2
noncomputable def HOk (H : Hp) (h : Heap) : Prop := ∀ a o, H a = some o → ObjOk P w H h a o
end

section
variable {P : Program} {w : World} {H H' : Hp} {h h' : Heap} {a : Addr} {o : HO}
theorem ObjOk.lt (x : ObjOk P w H h a o) : a < h.objs.size := by
  cases o with
  | lst xs => obtain ⟨_, _, _, _, e⟩ := x; exact Heap.lt_size e
  | tup xs => obtain ⟨_, _, _, p⟩ := x; exact p.lt
  | dK kvs => obtain ⟨_, _, _, _, o, _, _, e, _⟩ := x; exact Heap.lt_size e
  | dT kvs => obtain ⟨_, _, _, _, o, _, _, e, _⟩ := x; exact Heap.lt_size e
  | set S n => obtain ⟨o, _, _, _, e, _⟩ := x; exact Heap.lt_size e
  | ins C dx fs => obtain ⟨_, _, _, e, _⟩ := x; exact Heap.lt_size e
  | own y => obtain ⟨_, e⟩ := x; exact Heap.lt_size e
  | xd fs => obtain ⟨_, ⟨_, _, _, e, _⟩, _⟩ := x; exact Heap.lt_size e
  | rng lo hi => obtain ⟨_, _, _, e⟩ := x; exact Heap.lt_size e
  | frz ob u => obtain ⟨e, _⟩ := x; exact Heap.lt_size e
  | tbl ps => exact Heap.lt_size (show h.get? a = some _ from x)
  | met f y => exact Heap.lt_size (show h.get? a = some _ from x)
  | ext φ => obtain ⟨_, ⟨_, e⟩, _⟩ := x; exact Heap.lt_size e
theorem Paired.mapP {α β : Type} {F G : α → β → Prop} : ∀ {l₁ : List α} {l₂ : List β}, Paired F l₁ l₂ → (∀ a b, F a b → G a b) → Paired G l₁ l₂
  | _, _, .nil, _ => .nil
  | _, _, .cons r t, f => .cons (f _ _ r) (Paired.mapP t f)
theorem ObjOk.stay (x : ObjOk P w H h a o) (k : ∀ b u, (b = a ∨ H b = some (.own a)) → h.get? b = some u → h'.get? b = some u)
    (ho : ∀ b, H b = some (.own a) → H' b = some (.own a)) (ht : ∀ b xs, H b = some (.tup xs) → H' b = some (.tup xs)) : ObjOk P w H' h' a o := by
  induction o with
  | lst xs => obtain ⟨z, its, n, r, e⟩ := x; exact ⟨z, its, n, r, k _ _ (.inl rfl) e⟩
  | tup xs => obtain ⟨z, its, r, ob, e, c⟩ := x; exact ⟨z, its, r, ob, k _ _ (.inl rfl) e, c⟩
  | dK kvs => obtain ⟨z, y, vs, r, ob, es, ep, e, c⟩ := x; exact ⟨z, y, vs, r, ob, es, ep, k _ _ (.inl rfl) e, c⟩
  | dT kvs =>
    obtain ⟨z, y, xs, r, ob, es, ep, e, c⟩ := x
    exact ⟨z, y, xs, Paired.mapP r fun p q z => ⟨z.1, ht _ _ z.2.1, z.2.2⟩, ob, es, ep, k _ _ (.inl rfl) e, c⟩
  | set S n => obtain ⟨ob, es, ep, t, e, c⟩ := x; exact ⟨ob, es, ep, t, k _ _ (.inl rfl) e, c⟩
  | ins C dx fs =>
    obtain ⟨d, z, ne, e, mA, ⟨od, es, ep, e2, c⟩, r⟩ := x
    exact ⟨ho _ d, z, ne, k _ _ (.inl rfl) e, mA, ⟨od, es, ep, k _ _ (.inr d) e2, c⟩, r⟩
  | own y => obtain ⟨ob, e⟩ := x; exact ⟨ob, k _ _ (.inl rfl) e⟩
  | xd fs => obtain ⟨mA, ⟨od, es, ep, e, c⟩, r⟩ := x; exact ⟨mA, ⟨od, es, ep, k _ _ (.inl rfl) e, c⟩, r⟩
  | rng lo hi => obtain ⟨t, u, v, e⟩ := x; exact ⟨t, u, v, k _ _ (.inl rfl) e⟩
  | frz ob u ih => obtain ⟨e, q⟩ := x; exact ⟨k _ _ (.inl rfl) e, ih q⟩
  | tbl ps =>
    have e : h.get? a = some { cls := .none, data := .fields ps } := x
    show h'.get? a = some { cls := .none, data := .fields ps }
    exact k a _ (.inl rfl) e
  | met f y =>
    have e : h.get? a = some (PySem.W.methodObj (.ref f) (.ref y)) := x
    show h'.get? a = some (PySem.W.methodObj (.ref f) (.ref y))
    exact k a _ (.inl rfl) e
  | ext φ => obtain ⟨p, ⟨o, e⟩, st⟩ := x; exact ⟨st _ _ p fun o q => k _ _ (.inl rfl) q, ⟨o, k _ _ (.inl rfl) e⟩, st⟩
theorem HOk.lt (x : HOk P w H h) (e : H a = some o) : a < h.objs.size := (x a o e).lt
theorem HOk.fresh (x : HOk P w H h) (e : h.objs.size ≤ a) : H a = none := by
  cases q : H a with
  | none => rfl
  | some u => exact absurd (Nat.lt_of_lt_of_le (x.lt q) e) (Nat.lt_irrefl _)
theorem HOk.kept (x : HOk P w H h) (k : ∀ b u, h.get? b = some u → h'.get? b = some u) : HOk P w H h' := fun a o e =>
  (x a o e).stay (fun b u _ q => k b u q) (fun _ q => q) fun _ _ q => q
theorem HOk.laid (x : HOk P w H h) (k : ∀ b u, h.get? b = some u → h'.get? b = some u) (hp : h.objs.size ≤ a) (new : ObjOk P w (upd H a o) h' a o) : HOk P w (upd H a o) h' := fun b u e => by
  have hn := x.fresh hp
  by_cases hb : b = a
  · subst hb; rw [upd_same] at e; cases e; exact new
  · rw [upd_ne hb] at e
    exact (x b u e).stay (fun c v _ q => k c v q) (fun c q => by rw [upd_ne (ne_of_none q hn)]; exact q) fun c xs q => by rw [upd_ne (ne_of_none q hn)]; exact q
end

noncomputable def Rd (H : Hp) (a : Addr) (u : HO) : Prop := H a = some u ∨ ∃ o, H a = some (.frz o u)
theorem Rd.of {H : Hp} {a : Addr} {u : HO} (h : H a = some u) : Rd H a u := .inl h
theorem Rd.ok {P : Program} {w : World} {H : Hp} {h : Heap} {a : Addr} {u : HO} (r : Rd H a u) (x : HOk P w H h) : ObjOk P w H h a u := by
  rcases r with r | ⟨o, r⟩
  · exact x a u r
  · obtain ⟨_, q⟩ := x a _ r
    exact q
noncomputable def Mut : Option HO → Prop
  | some (.lst _) => True
  | some (.dK _) => True
  | some (.dT _) => True
  | some (.set _ _) => True
  | some (.ins _ _ _) => True
  | some (.ext _) => True
  | _ => False
section
variable {P : Program} {w : World} {H : Hp} {h h' : Heap} {x e : Addr} {o' : HO}
theorem HOk.write (ok : HOk P w H h) (mu : Mut (H x)) (he : e = x ∨ H e = some (.own x)) (k : ∀ b u, b ≠ e → h.get? b = some u → h'.get? b = some u) (heo : ∃ u, h'.get? e = some u)
    (new : ObjOk P w (upd H x o') h' x o') : HOk P w (upd H x o') h' := fun b u q => by
  have nown : ∀ c y, H c = some (.own y) → c ≠ x := fun c y r z => by subst z; rw [r] at mu; exact mu
  have ntup : ∀ c xs, H c = some (.tup xs) → c ≠ x := fun c xs r z => by subst z; rw [r] at mu; exact mu
  by_cases hb : b = x
  · subst hb; rw [upd_same] at q; cases q; exact new
  · rw [upd_ne hb] at q
    by_cases hbe : b = e
    · have q' : H b = some (.own x) := by
        rcases he with z | z
        · exact absurd (hbe.trans z) hb
        · rw [hbe]; exact z
      rw [q] at q'; cases q'
      obtain ⟨v, hv⟩ := heo
      exact ⟨v, by rw [hbe]; exact hv⟩
    · refine (ok b u q).stay (fun c v hc r => k c v ?_ r) (fun c r => by rw [upd_ne (nown c b r)]; exact r) fun c xs r => by rw [upd_ne (ntup c xs r)]; exact r
      rcases hc with rfl | hc
      · exact hbe
      · rintro rfl
        rcases he with z | z
        · exact nown c b hc z
        · rw [hc] at z; cases z; exact hb rfl
end

structure Un (fs ex : List Addr) (H H' : Hp) (h h' : Heap) : Prop where
  keep : ∀ b o, h.get? b = some o → H b = none → b ∉ fs → b ∉ ex → h'.get? b = some o
  slot : ∀ b o, h.get? b = some o → H b = none → b ∈ fs → b ∉ ex → ∃ sl, h'.get? b = some { o with slots := sl }
  free : ∀ b o, h.get? b = some o → H b = none → b ∉ ex → H' b = none
  there : ∀ b o, h.get? b = some o → b ∉ ex → ∃ o', h'.get? b = some o'
  tups : ∀ b xs, H b = some (.tup xs) → H' b = some (.tup xs)
  frzs : ∀ b o u, H b = some (.frz o u) → H' b = some (.frz o u)
  tbls : ∀ b ps, H b = some (.tbl ps) → ∃ more, H' b = some (.tbl (ps ++ more))
section
variable {fs fs' ex ex' : List Addr} {H H1 H2 : Hp} {h h1 h2 h' : Heap} {a x e : Addr} {o : HO}
theorem Un.any (u : Un fs ex H H1 h h1) {b : Addr} {ob : Obj} (q : h.get? b = some ob) (n : H b = none) (hx : b ∉ ex) : ∃ sl, h1.get? b = some { ob with slots := sl } := by
  by_cases hb : b ∈ fs
  · exact u.slot b ob q n hb hx
  · exact ⟨ob.slots, u.keep b ob q n hb hx⟩
theorem Un.trans (a : Un fs ex H H1 h h1) (b : Un fs ex H1 H2 h1 h2) : Un fs ex H H2 h h2 where
  keep := fun c ob q n hc hx => b.keep c ob (a.keep c ob q n hc hx) (a.free c ob q n hx) hc hx
  slot := fun c ob q n hc hx => by
    obtain ⟨sl, e1⟩ := a.slot c ob q n hc hx
    obtain ⟨sl', e2⟩ := b.slot c _ e1 (a.free c ob q n hx) hc hx
    exact ⟨sl', e2⟩
  free := fun c ob q n hx => by
    obtain ⟨o', e1⟩ := a.there c ob q hx
    exact b.free c o' e1 (a.free c ob q n hx) hx
  there := fun c ob q hx => by
    obtain ⟨o', e1⟩ := a.there c ob q hx
    exact b.there c o' e1 hx
  tups := fun c xs q => b.tups c xs (a.tups c xs q)
  frzs := fun c ob xs q => b.frzs c ob xs (a.frzs c ob xs q)
  tbls := fun c ps q => by
    obtain ⟨m1, e1⟩ := a.tbls c ps q
    obtain ⟨m2, e2⟩ := b.tbls c _ e1
    exact ⟨m1 ++ m2, by rw [e2, Array.append_assoc]⟩
theorem Un.kept (k : ∀ b u, h.get? b = some u → h'.get? b = some u) : Un fs ex H H h h' :=
  ⟨fun b ob q _ _ _ => k b ob q, fun b ob q _ _ _ => ⟨ob.slots, k b ob q⟩, fun _ _ _ n _ => n, fun b ob q _ => ⟨ob, k b ob q⟩, fun _ _ q => q, fun _ _ _ q => q, fun _ ps q => ⟨#[], by rw [q]; simp⟩⟩
theorem Un.refl : Un fs ex H H h h := Un.kept fun _ _ q => q
theorem Un.laid (k : ∀ b u, h.get? b = some u → h'.get? b = some u) (hp : h.objs.size ≤ a) (hn : H a = none) : Un fs ex H (upd H a o) h h' where
  keep := fun b u q _ _ _ => k b u q
  slot := fun b u q _ _ _ => ⟨u.slots, k b u q⟩
  free := fun b u q n _ => by rw [upd_ne (Nat.ne_of_lt (Nat.lt_of_lt_of_le (Heap.lt_size q) hp))]; exact n
  there := fun b u q _ => ⟨u, k b u q⟩
  tups := fun b xs q => by rw [upd_ne (ne_of_none q hn)]; exact q
  frzs := fun b u xs q => by rw [upd_ne (ne_of_none q hn)]; exact q
  tbls := fun b ps q => ⟨#[], by rw [upd_ne (ne_of_none q hn), q]; simp⟩
theorem Un.write (mu : Mut (H x)) (he : e = x ∨ H e = some (.own x)) (k : ∀ b u, b ≠ e → h.get? b = some u → h'.get? b = some u) (heo : ∃ u, h'.get? e = some u) : Un fs ex H (upd H x o) h h' := by
  have hx : ∀ b, H b = none → b ≠ x := fun b n z => by subst z; rw [n] at mu; exact mu
  have hb : ∀ b, H b = none → b ≠ e := fun b n z => by
    subst z
    rcases he with r | r
    · exact hx b n r
    · rw [n] at r; cases r
  have hm : ∀ b u, H b = some u → ¬ Mut (some u) → b ≠ x := fun b u q nm z => by subst z; rw [q] at mu; exact nm mu
  refine ⟨fun b u q n _ _ => k b u (hb b n) q, fun b u q n _ _ => ⟨u.slots, k b u (hb b n) q⟩, fun b u q n _ => by rw [upd_ne (hx b n)]; exact n, fun b u q _ => ?_,
    fun b xs q => by rw [upd_ne (hm b _ q fun z => z)]; exact q, fun b u xs q => by rw [upd_ne (hm b _ q fun z => z)]; exact q, fun b ps q => ⟨#[], by rw [upd_ne (hm b _ q fun z => z), q]; simp⟩⟩
  by_cases hbe : b = e
  · subst hbe; exact heo
  · exact ⟨u, k b u hbe q⟩
theorem Un.mono (u : Un fs ex H H1 h h1) (hs : ∀ b ∈ fs, b ∈ fs') (hx : ∀ b ∈ ex, b ∈ ex') : Un fs' ex' H H1 h h1 :=
  ⟨fun b ob q n hb he => u.keep b ob q n (fun z => hb (hs b z)) fun z => he (hx b z), fun _ _ q n _ he => u.any q n fun z => he (hx _ z), fun b ob q n he => u.free b ob q n fun z => he (hx b z), fun b ob q he => u.there b ob q fun z => he (hx b z), u.tups, u.frzs, u.tbls⟩
end

noncomputable def trk (h : Heap) (H : Hp) : List Addr := (List.range h.objs.size).filter fun a => (H a).isSome
noncomputable def hidT (h : Heap) (H : Hp) : Heap := PySem.W.hideAll h (trk h H)
theorem hidT_size (h : Heap) (H : Hp) : (hidT h H).objs.size = h.objs.size := PySem.W.hideAll_size _ _
theorem hidT_get {h : Heap} {H : Hp} {b : Addr} {o : Obj} (e : h.get? b = some o) (n : H b = none) : (hidT h H).get? b = some o :=
  PySem.W.hideAll_get _ e fun hm => by
    have q : (H b).isSome = true := (List.mem_filter.mp hm).2
    rw [n] at q; simp at q
theorem of_hidT {h : Heap} {H : Hp} {b : Addr} {o : Obj} (e : (hidT h H).get? b = some o) : h.get? b = some o ∧ H b = none := by
  have e' : h.get? b = some o := PySem.W.of_hideAll (trk h H) e
  refine ⟨e', ?_⟩
  cases q : H b with
  | none => rfl
  | some x =>
    have hm : b ∈ trk h H := List.mem_filter.mpr ⟨List.mem_range.mpr (Heap.lt_size e'), by simp [q]⟩
    have z : (hidT h H).get? b = none := PySem.W.hideAll_none (trk h H) hm
    rw [z] at e; cases e

noncomputable def allNews (g h : Heap) (L : Addr) : List (Addr × Obj) := (List.range h.objs.size).filterMap fun a => if a = L ∨ (g.get? a).isSome = true then none else (h.get? a).map fun o => (a, o)
noncomputable def rest (g h : Heap) (L d : Addr) : List (Addr × Obj) := (allNews g h L).filter fun p => decide (p.1 ≠ d)
end L2

namespace L2
open PySem PySem.Spec PyProof.Rows

structure Mod (K : PySem.W.Frag) (mg : Str → Option Value) (base : Heap) : Prop where
  kin : K.In base
  glob : base.Ns mainGlobals mg
  blt : ∃ mb, base.Ns builtinsNs mb ∧ ∀ x : Str, x ≠ "__name__" → mb x = bootBuiltins x
  nolimit : base.NoLimit

structure Cx where
  prog : Program
  w : World
  K : PySem.W.Frag
  mg : Str → Option Value
  base : Heap
  A : Around
  N : List Str
  s₀ : Shared
  H₀ : Hp
  env : Env
  outer : List Env
  stack : List Env
  ex : List Addr
  fn : Str → Bool
  calm : Bool
  pn : List (Addr × Obj)
  xe : Value → Shared → Prop
noncomputable def frs (l : List Env) : List Addr := l.filterMap (·.frame)
noncomputable abbrev Cx.fs (X : Cx) : List Addr := frs X.outer

noncomputable def Vis (sc : Scope) (x : Str) : Prop := sc.names.lookup x = some .local ∨ sc.names.lookup x = some .cell ∨ sc.names.lookup x = some .free
noncomputable def Loc (sc : Scope) (x : Str) : Prop := sc.names.lookup x = some .local ∨ sc.names.lookup x = some .cell
noncomputable def Look (env : Env) (h : Heap) (m : Str → Option Value) (x : Str) (u : Value) : Prop :=
  (env.kindOf x = some .local ∧ m x = some u) ∨ ((env.kindOf x = some .cell ∨ env.kindOf x = some .free) ∧ ∃ c, env.cells.lookup x = some c ∧ h.IsCell c (some u))

structure Cx.Ok (X : Cx) : Prop where
  mod : Mod X.K X.mg X.base
  kind : X.env.scope.kind = .function
  glob : X.env.globals = mainGlobals
  blt : X.env.builtins = builtinsNs
  above : X.s₀.heap.objs.size ≤ X.env.locals
  inj : ∀ x y c, X.env.cells.lookup x = some c → X.env.cells.lookup y = some c → x = y
  has : ∀ x, (X.env.kindOf x = some .cell ∨ X.env.kindOf x = some .free) → ∃ c, X.env.cells.lookup x = some c
  cab : ∀ x c, X.fn x = true → X.env.cells.lookup x = some c → X.s₀.heap.objs.size ≤ c
  hd : X.calm = true → X.A.handled = none
  frames : X.A.frames = some X.stack
  stk : X.stack = X.outer ∨ (X.stack = X.env :: X.outer ∧ X.env.frame = some X.env.locals)
  exf : ∀ b ∈ X.ex, b ≠ X.env.locals ∧ ∀ x c, X.env.cells.lookup x = some c → c ≠ b
  bs : ∀ b o, X.base.get? b = some o → X.s₀.heap.get? b = some o ∧ X.H₀ b = none
  bsz : X.base.objs.size ≤ X.s₀.heap.objs.size
  noex : ∀ b o, X.base.get? b = some o → b ∉ X.ex
  exfs : ∀ b ∈ X.ex, b ∉ X.fs
  funs : X.s₀.heap.FunFrames X.base X.outer
  frf : ∀ b ∈ X.fs, X.H₀ b = none

structure Inv (X : Cx) (pins : List (Addr × Obj)) (σ : List (Option V)) (H : Hp) (s : Shared) : Prop where
  ok : X.Ok
  os : s.os = X.s₀.os
  bare : AllBare s.gens
  base : Un X.fs X.ex X.H₀ H X.s₀.heap s.heap
  loc : ∃ m, s.heap.Ns X.env.locals m ∧ ∀ (i : Nat) (x : Str) (v : V), X.N[i]? = some x → σ[i]? = some (some v) → Vis X.env.scope x → ∃ u, RelV v u ∧ Look X.env s.heap m x u
  cell : ∀ x c, X.env.cells.lookup x = some c → ∃ v, s.heap.IsCell c v
  free : H X.env.locals = none
  freeC : ∀ x c, X.env.cells.lookup x = some c → H c = none
  pin : ∀ p ∈ X.pn ++ pins, s.heap.get? p.1 = some p.2 ∧ H p.1 = none ∧ p.1 ≠ X.env.locals ∧ p.1 ∉ X.fs ∧ ∀ v, p.2.data ≠ .cell v
  hok : HOk X.prog X.w H s.heap
  len : σ.length = X.N.length

section
variable {X : Cx} {pins : List (Addr × Obj)} {σ : List (Option V)} {H H' : Hp} {s : Shared} {h' : Heap}

theorem Cx.Ok.nofr (ok : X.Ok) {b : Addr} {o : Obj} (e : X.base.get? b = some o) : b ∉ X.fs := fun hb => by
  have := (ok.funs.mem hb).1
  rw [e] at this; cases this
theorem Inv.bs (I : Inv X pins σ H s) : ∀ b o, X.base.get? b = some o → s.heap.get? b = some o ∧ H b = none := fun b o e =>
  ⟨I.base.keep b o (I.ok.bs b o e).1 (I.ok.bs b o e).2 (I.ok.nofr e) (I.ok.noex b o e), I.base.free b o (I.ok.bs b o e).1 (I.ok.bs b o e).2 (I.ok.noex b o e)⟩
theorem Inv.bk (I : Inv X pins σ H s) : ∀ b o, X.base.get? b = some o → s.heap.get? b = some o := fun b o e => (I.bs b o e).1
theorem Inv.mod (I : Inv X pins σ H s) : Mod X.K X.mg X.base := I.ok.mod
theorem Inv.kIn (I : Inv X pins σ H s) : X.K.In s.heap := I.ok.mod.kin.keeps I.bk
theorem Inv.nolimit (I : Inv X pins σ H s) : s.heap.NoLimit := I.ok.mod.nolimit.keeps I.bk
theorem Inv.fr (I : Inv X pins σ H s) : ∃ m, Fr X.base X.env.locals s.heap m :=
  let ⟨m, hn, _⟩ := I.loc
  ⟨m, hn, I.bk, Nat.le_trans I.ok.bsz I.ok.above⟩
theorem Inv.lt (I : Inv X pins σ H s) : X.env.locals < s.heap.objs.size := let ⟨_, hn, _⟩ := I.loc; hn.lt
theorem Inv.sz (I : Inv X pins σ H s) : X.s₀.heap.objs.size ≤ s.heap.objs.size := Nat.le_trans I.ok.above (Nat.le_of_lt I.lt)
theorem Inv.nofs (I : Inv X pins σ H s) {a : Addr} (h : s.heap.objs.size ≤ a) : a ∉ X.fs := fun hb => by
  obtain ⟨_, o, ho, _⟩ := I.ok.funs.mem hb
  exact absurd (Nat.lt_of_lt_of_le (Heap.lt_size ho) (Nat.le_trans I.sz h)) (Nat.lt_irrefl _)
theorem Inv.cne (I : Inv X pins σ H s) : ∀ x c, X.env.cells.lookup x = some c → c ≠ X.env.locals := fun x c e z => by
  obtain ⟨v, o, ho, hd⟩ := I.cell x c e
  obtain ⟨m, ⟨o', es, ep, ho', hd', _⟩, _⟩ := I.loc
  rw [z, ho'] at ho; cases ho; rw [hd'] at hd; cases hd
theorem Inv.funs (I : Inv X pins σ H s) : s.heap.FunFrames X.base X.outer := by
  have all : ∀ (l : List Env), (∀ b ∈ frs l, b ∈ X.fs) → X.s₀.heap.FunFrames X.base l → s.heap.FunFrames X.base l := by
    intro l
    induction l with
    | nil => intro _ _; trivial
    | cons env r ih =>
      intro hs hl
      obtain ⟨hk, ⟨L, o, hf, hn, ho, hd⟩, hr⟩ := hl
      have hL : L ∈ X.fs := hs L (by unfold frs; rw [List.filterMap_cons, hf]; exact List.mem_cons_self)
      obtain ⟨sl, e⟩ := I.base.slot L o ho (I.ok.frf L hL) hL fun z => I.ok.exfs L z hL
      exact ⟨hk, ⟨L, _, hf, hn, e, hd⟩, ih (fun b hb => hs b (by unfold frs; rw [List.filterMap_cons, hf]; exact List.mem_cons_of_mem _ hb)) hr⟩
  exact all X.outer (fun _ hb => hb) I.ok.funs

theorem Inv.stack (I : Inv X pins σ H s) : s.heap.FunFrames X.base X.stack := by
  rcases I.ok.stk with e | ⟨e, hf⟩
  · rw [e]; exact I.funs
  · rw [e]
    obtain ⟨m, hn, _⟩ := I.loc
    refine .cons (by rw [I.ok.kind]; decide) hf hn ?_ I.funs
    exact Heap.get?_none_of_le (Nat.le_trans I.ok.bsz I.ok.above)
theorem Inv.stkSub (I : Inv X pins σ H s) : ∀ b ∈ frs X.stack, b ∈ X.env.locals :: X.fs := fun b hb => by
  rcases I.ok.stk with e | ⟨e, hf⟩
  · rw [e] at hb; exact List.mem_cons_of_mem _ hb
  · rw [e] at hb
    unfold frs at hb
    rw [List.filterMap_cons, hf] at hb
    exact hb
theorem Inv.stkFree (I : Inv X pins σ H s) : ∀ b ∈ frs X.stack, H b = none := fun b hb => by
  rcases List.mem_cons.mp (I.stkSub b hb) with e | hb
  · rw [e]; exact I.free
  · obtain ⟨_, o, ho, _⟩ := I.ok.funs.mem hb
    exact I.base.free b o ho (I.ok.frf b hb) fun z => I.ok.exfs b z hb

theorem Inv.step {g' : Array GenState} {t' : Nat} {d' : Drawn} {ch : List Addr} (I : Inv X pins σ H s)
    (hch : ∀ b ∈ ch, (b ∈ X.ex ∨ X.s₀.heap.objs.size ≤ b) ∧ b ≠ X.env.locals ∧ (∀ x c, X.env.cells.lookup x = some c → c ≠ b) ∧ ∀ p ∈ X.pn ++ pins, p.1 ≠ b)
    (keep : ∀ b o, b ≠ X.env.locals → b ∉ X.fs → b ∉ ch → s.heap.get? b = some o → H b = none → h'.get? b = some o)
    (slot : ∀ b o, b ≠ X.env.locals → b ∈ X.fs → b ∉ ch → s.heap.get? b = some o → H b = none → ∃ sl, h'.get? b = some { o with slots := sl }) (free : ∀ b o, b ∉ ch → s.heap.get? b = some o → H b = none → H' b = none)
    (there : ∀ b o, b ∉ ch → s.heap.get? b = some o → ∃ o', h'.get? b = some o')
    (tups : ∀ b xs, H b = some (.tup xs) → H' b = some (.tup xs)) (frzs : ∀ b o u, H b = some (.frz o u) → H' b = some (.frz o u)) (tbls : ∀ b ps, H b = some (.tbl ps) → ∃ more, H' b = some (.tbl (ps ++ more)))
    (ns : ∀ m, s.heap.Ns X.env.locals m → h'.Ns X.env.locals m) (hok : HOk X.prog X.w H' h') (hg : AllBare g') :
    Inv X pins σ H' { s with heap := h', gens := g', drawn := d', toks := t' } := by
  have neL : ∀ b o, X.s₀.heap.get? b = some o → b ≠ X.env.locals := fun b o e => Nat.ne_of_lt (Nat.lt_of_lt_of_le (Heap.lt_size e) I.ok.above)
  have neC : ∀ b o, X.s₀.heap.get? b = some o → b ∉ X.ex → b ∉ ch := fun b o e hx hb => by
    rcases (hch b hb).1 with z | z
    · exact hx z
    · exact absurd (Nat.lt_of_lt_of_le (Heap.lt_size e) z) (Nat.lt_irrefl _)
  have cellK : ∀ x c, X.env.cells.lookup x = some c → ∀ v, s.heap.IsCell c v → h'.IsCell c v := fun x c e v hq__ => by
    obtain ⟨o, ho, hd⟩ := hq__
    have nch : c ∉ ch := fun z => (hch c z).2.2.1 x c e rfl
    by_cases hc : c ∈ X.fs
    · obtain ⟨sl, q⟩ := slot c o (I.cne x c e) hc nch ho (I.freeC x c e)
      exact ⟨_, q, hd⟩
    · exact ⟨o, keep c o (I.cne x c e) hc nch ho (I.freeC x c e), hd⟩
  refine ⟨I.ok, I.os, hg, ⟨fun b o e n hb hx => ?_, fun b o e n hb hx => ?_, fun b o e n hx => ?_, fun b o e hx => ?_, fun b xs e => tups b xs (I.base.tups b xs e), fun b o xs e => frzs b o xs (I.base.frzs b o xs e), fun b ps e => ?_⟩, ?_, fun x c e => ?_, ?_, fun x c e => ?_, fun p hp => ?_, hok, I.len⟩
  · exact keep b o (neL b o e) hb (neC b o e hx) (I.base.keep b o e n hb hx) (I.base.free b o e n hx)
  · obtain ⟨sl, e1⟩ := I.base.slot b o e n hb hx
    obtain ⟨sl', e2⟩ := slot b _ (neL b o e) hb (neC b o e hx) e1 (I.base.free b o e n hx)
    exact ⟨sl', e2⟩
  · obtain ⟨o', e1⟩ := I.base.there b o e hx
    exact free b o' (neC b o e hx) e1 (I.base.free b o e n hx)
  · obtain ⟨o', e1⟩ := I.base.there b o e hx
    exact there b o' (neC b o e hx) e1
  · obtain ⟨m1, e1⟩ := I.base.tbls b ps e
    obtain ⟨m2, e2⟩ := tbls b _ e1
    exact ⟨m1 ++ m2, by rw [e2, Array.append_assoc]⟩
  · obtain ⟨m, hn, hl⟩ := I.loc
    refine ⟨m, ns m hn, fun i x v e1 e2 e3 => ?_⟩
    obtain ⟨u, r, l⟩ := hl i x v e1 e2 e3
    refine ⟨u, r, ?_⟩
    rcases l with l | ⟨k, c, e, z⟩
    · exact .inl l
    · exact .inr ⟨k, c, e, cellK x c e _ z⟩
  · obtain ⟨v, z⟩ := I.cell x c e
    exact ⟨v, cellK x c e v z⟩
  · obtain ⟨m, ⟨o, _, _, ho, _⟩, _⟩ := I.loc
    exact free _ o (fun z => (hch _ z).2.1 rfl) ho I.free
  · obtain ⟨v, o, ho, hd⟩ := I.cell x c e
    exact free c o (fun z => (hch c z).2.2.1 x c e rfl) ho (I.freeC x c e)
  · obtain ⟨e, n, ne, nf, d⟩ := I.pin p hp
    have nch : p.1 ∉ ch := fun z => (hch p.1 z).2.2.2 p hp rfl
    exact ⟨keep p.1 p.2 ne nf nch e n, free p.1 p.2 nch e n, ne, nf, d⟩
theorem Inv.un {t' : Nat} (I : Inv X pins σ H s) (u : Un X.fs [] H H' s.heap h') (hok : HOk X.prog X.w H' h') : Inv X pins σ H' { s with heap := h', toks := t' } := by
  obtain ⟨m, ⟨o, es, ep, ho, r⟩, _⟩ := id I.loc
  obtain ⟨sl, hL⟩ := u.any ho I.free (by simp)
  exact I.step (g' := s.gens) (d' := s.drawn) (ch := []) (fun _ z => nomatch z) (fun b o _ hb _ e n => u.keep b o e n hb (by simp)) (fun b o _ hb _ e n => u.slot b o e n hb (by simp)) (fun b o _ e n => u.free b o e n (by simp)) (fun b o _ e => u.there b o e (by simp)) u.tups u.frzs u.tbls (fun m' hm => by
    obtain ⟨o', es', ep', ho', r'⟩ := hm
    rw [ho] at ho'; cases ho'
    exact ⟨_, es', ep', hL, r'⟩) hok I.bare
theorem Inv.call {g' : Array GenState} {t' : Nat} {d' : Drawn} {ch : List Addr} (I : Inv X pins σ H s) (u : Un (frs X.stack) ch H H' s.heap h') (hok : HOk X.prog X.w H' h') (hg : AllBare g')
    (hch : ∀ b ∈ ch, (b ∈ X.ex ∨ X.s₀.heap.objs.size ≤ b) ∧ b ≠ X.env.locals ∧ (∀ x c, X.env.cells.lookup x = some c → c ≠ b) ∧ ∀ p ∈ X.pn ++ pins, p.1 ≠ b) :
    Inv X pins σ H' { s with heap := h', gens := g', drawn := d', toks := t' } := by
  obtain ⟨m, ⟨o, es, ep, ho, r⟩, _⟩ := id I.loc
  obtain ⟨sl, hL⟩ := u.any ho I.free fun z => (hch _ z).2.1 rfl
  exact I.step (ch := ch) hch (fun b o hL hb hc e n => u.keep b o e n (fun z => (List.mem_cons.mp (I.stkSub b z)).elim hL hb) hc) (fun b o _ _ hc e n => u.any e n hc) (fun b o hc e n => u.free b o e n hc) (fun b o hc e => u.there b o e hc) u.tups u.frzs u.tbls (fun m' hm => by
    obtain ⟨o', es', ep', ho', r'⟩ := hm
    rw [ho] at ho'; cases ho'
    exact ⟨_, es', ep', hL, r'⟩) hok hg
theorem Inv.turned {t' : Nat} {it : Addr} (I : Inv X pins σ H s) (k : ∀ b o, b ≠ it → s.heap.get? b = some o → h'.get? b = some o) (hn : H it = none) (hL : it ≠ X.env.locals)
    (h1 : it ∈ X.ex ∨ X.s₀.heap.objs.size ≤ it) (h2 : ∀ x c, X.env.cells.lookup x = some c → c ≠ it) (h3 : ∀ p ∈ X.pn ++ pins, p.1 ≠ it) : Inv X pins σ H { s with heap := h', toks := t' } := by
  have nit : ∀ b u, H b = some u → b ≠ it := fun b u e z => by rw [z, hn] at e; cases e
  refine I.step (g' := s.gens) (d' := s.drawn) (ch := [it]) (fun b hb => ?_) (fun b o _ _ hc e _ => k b o (fun z => hc (by simp [z])) e) (fun b o _ _ hc e _ => ⟨o.slots, k b o (fun z => hc (by simp [z])) e⟩) (fun _ _ _ _ n => n)
    (fun b o hc e => ⟨o, k b o (fun z => hc (by simp [z])) e⟩) (fun _ _ e => e) (fun _ _ _ e => e) (fun b ps e => ⟨#[], by rw [e]; simp⟩) (fun m hm => ?_) (fun b u e => ?_) I.bare
  · have e : b = it := by simpa using hb
    subst e
    exact ⟨h1, hL, h2, h3⟩
  · obtain ⟨o, es, ep, ho, r⟩ := hm
    exact ⟨o, es, ep, k _ o (Ne.symm hL) ho, r⟩
  · refine (I.hok b u e).stay (fun c v hc q => k c v ?_ q) (fun _ q => q) fun _ _ q => q
    rcases hc with z | z
    · rw [z]; exact nit b u e
    · exact nit c _ z
theorem Inv.tok (I : Inv X pins σ H s) (t : Nat) : Inv X pins σ H { s with toks := t } := I.un (h' := s.heap) (t' := t) Un.refl I.hok
theorem Inv.kept {t' : Nat} (I : Inv X pins σ H s) (k : ∀ b u, s.heap.get? b = some u → h'.get? b = some u) : Inv X pins σ H { s with heap := h', toks := t' } := I.un (Un.kept k) (I.hok.kept k)
theorem Inv.laid {a : Addr} {o : HO} {t' : Nat} (I : Inv X pins σ H s) (k : ∀ b u, s.heap.get? b = some u → h'.get? b = some u) (hp : s.heap.objs.size ≤ a) (new : ObjOk X.prog X.w (upd H a o) h' a o) :
    Inv X pins σ (upd H a o) { s with heap := h', toks := t' } := I.un (Un.laid k hp (I.hok.fresh hp)) (I.hok.laid k hp new)
theorem Inv.write {x e : Addr} {o : HO} {t' : Nat} (I : Inv X pins σ H s) (mu : Mut (H x)) (he : e = x ∨ H e = some (.own x)) (k : ∀ b u, b ≠ e → s.heap.get? b = some u → h'.get? b = some u) (heo : ∃ u, h'.get? e = some u)
    (new : ObjOk X.prog X.w (upd H x o) h' x o) : Inv X pins σ (upd H x o) { s with heap := h', toks := t' } := I.un (Un.write mu he k heo) (I.hok.write mu he k heo new)
theorem Inv.weak {σ' : List (Option V)} (I : Inv X pins σ H s) (hl : σ'.length = σ.length) (w : ∀ (i : Nat) v, σ'[i]? = some (some v) → σ[i]? = some (some v)) : Inv X pins σ' H s :=
  ⟨I.ok, I.os, I.bare, I.base, let ⟨m, hn, hl'⟩ := I.loc; ⟨m, hn, fun i x v e1 e2 e3 => hl' i x v e1 (w i v e2) e3⟩, I.cell, I.free, I.freeC, I.pin, I.hok, hl.trans I.len⟩
theorem Inv.pins_of {pins' : List (Addr × Obj)} (I : Inv X pins σ H s) (h : ∀ p ∈ pins', s.heap.get? p.1 = some p.2 ∧ H p.1 = none ∧ p.1 ≠ X.env.locals ∧ p.1 ∉ X.fs ∧ ∀ v, p.2.data ≠ .cell v) : Inv X pins' σ H s :=
  ⟨I.ok, I.os, I.bare, I.base, I.loc, I.cell, I.free, I.freeC, fun p hp => (List.mem_append.mp hp).elim (fun z => I.pin p (List.mem_append_left _ z)) (h p), I.hok, I.len⟩

theorem nodup_ix {N : List Str} (hN : N.Nodup) {i j : Nat} {x : Str} (a : N[i]? = some x) (b : N[j]? = some x) : i = j := by
  obtain ⟨h1, e1⟩ := List.getElem?_eq_some_iff.mp a
  obtain ⟨h2, e2⟩ := List.getElem?_eq_some_iff.mp b
  exact (List.getElem_inj hN).mp (e1.trans e2.symm)

theorem store_ok2 {M : Model} {A : Around} {E : Value → Shared → Prop} {i : Nat} {x : Str} {v : V} {u : Value} {Q : Unit → Shared → Prop} (I : Inv X pins σ H s) (hN : X.N.Nodup) (hi : X.N[i]? = some x) (hx : Loc X.env.scope x) (r : RelV v u)
    (h : ∀ s', Inv X pins (σ.set i (some v)) H s' → (∃ a, Heap.SameBut a s.heap s'.heap ∧ (a = X.env.locals ∨ X.env.cells.lookup x = some a)) → Q () s') (hf : X.fn x = true ∨ X.env.scope.names.lookup x = some .local := by first | exact .inl rfl | exact .inr rfl | assumption) : wpAny M A (storeName X.env x u) Q E s := by
  obtain ⟨m, hn, hl⟩ := id I.loc
  have hcls : (X.env.scope.kind == .class || (X.env.scope.kind == .module && X.env.locals != X.env.globals)) = false := by rw [I.ok.kind]; rfl
  have hiσ : i < σ.length := by rw [I.len]; exact (List.getElem?_eq_some_iff.mp hi).1
  have cne := I.cne
  have tracked : ∀ {a : Addr} {h' : Heap}, (∃ o, s.heap.get? a = some o ∧ H a = none) → Heap.SameBut a s.heap h' → HOk X.prog X.w H h' := fun {a h'} ha hs b ob e => by
    obtain ⟨_, _, hfree⟩ := ha
    refine (I.hok b ob e).stay (fun c w' hc q => (hs.2 c ?_).trans q) (fun _ q => q) fun _ _ q => q
    rintro rfl
    rcases hc with rfl | hc
    · rw [hfree] at e; cases e
    · rw [hfree] at hc; cases hc
  rcases hx with hk | hk
  · refine wpAny_storeName_local hk hn (fun h' hn' hs => ?_) hcls
    obtain ⟨oL, _, _, hoL, _⟩ := id hn
    refine h _ ⟨I.ok, I.os, I.bare, ⟨fun b o e n hb hx => ?_, fun b o e n hb hx => ?_, I.base.free, fun b o e hx => ?_, I.base.tups, I.base.frzs, I.base.tbls⟩, ⟨_, hn', fun j y v' e1 e2 e3 => ?_⟩, fun y c e => ?_, I.free, I.freeC, fun p hp => ?_, tracked ⟨oL, hoL, I.free⟩ hs, by simpa using I.len⟩ ⟨_, hs, .inl rfl⟩
    · exact (hs.2 b (Nat.ne_of_lt (Nat.lt_of_lt_of_le (Heap.lt_size e) I.ok.above))).trans (I.base.keep b o e n hb hx)
    · obtain ⟨sl, e1⟩ := I.base.slot b o e n hb hx
      exact ⟨sl, (hs.2 b (Nat.ne_of_lt (Nat.lt_of_lt_of_le (Heap.lt_size e) I.ok.above))).trans e1⟩
    · obtain ⟨o', e1⟩ := I.base.there b o e hx
      exact ⟨o', (hs.2 b (Nat.ne_of_lt (Nat.lt_of_lt_of_le (Heap.lt_size e) I.ok.above))).trans e1⟩
    · by_cases hj : j = i
      · subst hj
        rw [hi] at e1; cases e1
        rw [List.getElem?_set_self hiσ] at e2
        cases e2
        exact ⟨u, r, .inl ⟨hk, by simp⟩⟩
      · rw [List.getElem?_set_ne (Ne.symm hj)] at e2
        obtain ⟨u', r', q⟩ := hl j y v' e1 e2 e3
        refine ⟨u', r', ?_⟩
        rcases q with ⟨k, e⟩ | ⟨k, c, e, z⟩
        · refine .inl ⟨k, ?_⟩
          have : y ≠ x := fun e => hj (nodup_ix hN e1 (e ▸ hi))
          simp [this, e]
        · exact .inr ⟨k, c, e, z.sameBut hs (cne y c e)⟩
    · obtain ⟨w', z⟩ := I.cell y c e
      exact ⟨w', z.sameBut hs (cne y c e)⟩
    · obtain ⟨e, n, ne, nf, d⟩ := I.pin p hp
      exact ⟨(hs.2 p.1 ne).trans e, n, ne, nf, d⟩
  · have hfn : X.fn x = true := by
      rcases hf with z | z
      · exact z
      · rw [z] at hk; cases hk
    obtain ⟨c, hc⟩ := I.ok.has x (.inl hk)
    obtain ⟨w', z⟩ := I.cell x c hc
    refine wpAny_storeName_cell I.ok.kind hk hc z (fun h' hc' hs => ?_)
    obtain ⟨oc, hoc, hocd⟩ := id z
    refine h { s with heap := h' } ⟨I.ok, I.os, I.bare, ⟨fun b o e n hb hx => ?_, fun b o e n hb hx => ?_, I.base.free, fun b o e hx => ?_, I.base.tups, I.base.frzs, I.base.tbls⟩, ⟨m, hn.sameBut hs (Ne.symm (cne x c hc)), fun j y v' e1 e2 e3 => ?_⟩, fun y c' e => ?_, I.free, I.freeC, fun p hp => ?_, tracked ⟨oc, hoc, I.freeC x c hc⟩ hs, by simpa using I.len⟩ ⟨c, hs, .inr hc⟩
    · exact (hs.2 b (Nat.ne_of_lt (Nat.lt_of_lt_of_le (Heap.lt_size e) (I.ok.cab x c hfn hc)))).trans (I.base.keep b o e n hb hx)
    · obtain ⟨sl, e1⟩ := I.base.slot b o e n hb hx
      exact ⟨sl, (hs.2 b (Nat.ne_of_lt (Nat.lt_of_lt_of_le (Heap.lt_size e) (I.ok.cab x c hfn hc)))).trans e1⟩
    · obtain ⟨o', e1⟩ := I.base.there b o e hx
      exact ⟨o', (hs.2 b (Nat.ne_of_lt (Nat.lt_of_lt_of_le (Heap.lt_size e) (I.ok.cab x c hfn hc)))).trans e1⟩
    · by_cases hj : j = i
      · subst hj
        rw [hi] at e1; cases e1
        rw [List.getElem?_set_self hiσ] at e2
        cases e2
        exact ⟨u, r, .inr ⟨.inl hk, c, hc, hc'⟩⟩
      · rw [List.getElem?_set_ne (Ne.symm hj)] at e2
        obtain ⟨u', r', q⟩ := hl j y v' e1 e2 e3
        refine ⟨u', r', ?_⟩
        rcases q with q | ⟨k, c', e, z'⟩
        · exact .inl q
        · refine .inr ⟨k, c', e, z'.sameBut hs ?_⟩
          rintro rfl
          exact hj (nodup_ix hN e1 (I.ok.inj _ _ _ e hc ▸ hi))
    · by_cases hcc : c' = c
      · subst hcc; exact ⟨_, hc'⟩
      · obtain ⟨w2, z2⟩ := I.cell y c' e
        exact ⟨w2, z2.sameBut hs hcc⟩
    · obtain ⟨e, n, ne, nf, d⟩ := I.pin p hp
      refine ⟨(hs.2 p.1 ?_).trans e, n, ne, nf, d⟩
      intro q
      rw [q, hoc] at e
      have q' : oc = p.2 := Option.some.inj e
      exact d w' (by rw [← q']; exact hocd)
theorem store_ok {M : Model} {A : Around} {E : Value → Shared → Prop} {i : Nat} {x : Str} {v : V} {u : Value} {Q : Unit → Shared → Prop} (I : Inv X pins σ H s) (hN : X.N.Nodup) (hi : X.N[i]? = some x) (hx : Loc X.env.scope x) (r : RelV v u)
    (h : ∀ s', Inv X pins (σ.set i (some v)) H s' → Q () s') (hf : X.fn x = true ∨ X.env.scope.names.lookup x = some .local := by first | exact .inl rfl | exact .inr rfl | assumption) : wpAny M A (storeName X.env x u) Q E s :=
  store_ok2 I hN hi hx r (fun s' I' _ => h s' I') hf
theorem Inv.call' {s' : Shared} {ch : List Addr} (I : Inv X pins σ H s) (ho : s'.os = s.os) (u : Un (frs X.stack) ch H H' s.heap s'.heap) (hok : HOk X.prog X.w H' s'.heap) (hg : AllBare s'.gens)
    (hch : ∀ b ∈ ch, (b ∈ X.ex ∨ X.s₀.heap.objs.size ≤ b) ∧ b ≠ X.env.locals ∧ (∀ x c, X.env.cells.lookup x = some c → c ≠ b) ∧ ∀ p ∈ X.pn ++ pins, p.1 ≠ b) : Inv X pins σ H' s' := by
  obtain ⟨h', g', d', t', o'⟩ := s'
  have e : o' = s.os := ho
  subst e
  exact I.call (g' := g') (t' := t') (d' := d') u hok hg hch
end

noncomputable abbrev XK := Value → Option Addr → Hp → Prop
noncomputable abbrev St := List (Option V)
noncomputable abbrev VK := V → Hp → Prop
noncomputable abbrev TE := St → Hp → VK → Prop
noncomputable abbrev TT := St → Hp → (Bool → Hp → Prop) → Prop
noncomputable abbrev TA := St → Hp → (List V → Hp → Prop) → Prop
structure Ends where
  nx : St → Hp → Prop
  rt : VK
  bk : St → Hp → Prop := fun _ _ => False
  ct : St → Hp → Prop := fun _ _ => False
noncomputable abbrev TS := Ends → St → Hp → Prop

noncomputable def EP (X : Cx) (pins : List (Addr × Obj)) (σ : St) (Q : VK) (u : Value) (s' : Shared) : Prop := ∃ v H', Inv X pins σ H' s' ∧ RelV v u ∧ Q v H'
noncomputable def TP (X : Cx) (pins : List (Addr × Obj)) (σ : St) (Q : Bool → Hp → Prop) (b : Bool) (s' : Shared) : Prop := ∃ H', Inv X pins σ H' s' ∧ Q b H'
noncomputable def AP (X : Cx) (pins : List (Addr × Obj)) (σ : St) (Q : List V → Hp → Prop) (us : List Value) (s' : Shared) : Prop := ∃ vs H', Inv X pins σ H' s' ∧ Vals vs us ∧ Q vs H'
noncomputable def SP (X : Cx) (pins : List (Addr × Obj)) (D : Ends) (f : Flow) (s' : Shared) : Prop :=
  match f with
  | .next => ∃ σ' H', Inv X pins σ' H' s' ∧ D.nx σ' H'
  | .brk => ∃ σ' H', Inv X pins σ' H' s' ∧ D.bk σ' H'
  | .cont => ∃ σ' H', Inv X pins σ' H' s' ∧ D.ct σ' H'
  | .ret u => ∃ v σ' H', Inv X pins σ' H' s' ∧ RelV v u ∧ D.rt v H'

noncomputable def PE (X : Cx) (e : Expr) (t : TE) : Prop :=
  ∀ (pins : List (Addr × Obj)) (s : Shared) (σ : St) (H : Hp) (Q : VK), Inv X pins σ H s → t σ H Q → wpAny (model X.prog X.w) X.A (eval e X.env) (EP X pins σ Q) X.xe s
noncomputable def PT (X : Cx) (e : Expr) (t : TT) : Prop :=
  ∀ (pins : List (Addr × Obj)) (s : Shared) (σ : St) (H : Hp) (Q : Bool → Hp → Prop), Inv X pins σ H s → t σ H Q → wpAny (model X.prog X.w) X.A (isTrue e X.env (eval e X.env)) (TP X pins σ Q) X.xe s
noncomputable def PW (X : Cx) (e : Expr) (t : TT) : Prop :=
  ∀ (whole : Sem Value) (pins : List (Addr × Obj)) (s : Shared) (σ : St) (H : Hp) (Q : Bool → Hp → Prop), Inv X pins σ H s → t σ H Q → wpAny (model X.prog X.w) X.A (isTrue e X.env whole) (TP X pins σ Q) X.xe s
theorem PW.pt {X : Cx} {e : Expr} {t : TT} (h : PW X e t) : PT X e t := h _
noncomputable def PA (X : Cx) (es : List Expr) (t : TA) : Prop :=
  ∀ (pos : Pos) (pins : List (Addr × Obj)) (s : Shared) (σ : St) (H : Hp) (Q : List V → Hp → Prop), Inv X pins σ H s → t σ H Q → wpAny (model X.prog X.w) X.A (spliced (backTo pos (starEach es X.env))) (AP X pins σ Q) X.xe s
noncomputable def PS (X : Cx) (st : Stmt) (t : TS) : Prop :=
  ∀ (pins : List (Addr × Obj)) (s : Shared) (σ : St) (H : Hp) (D : Ends), Inv X pins σ H s → t D σ H → wpAny (model X.prog X.w) X.A (exec st X.env) (SP X pins D) X.xe s
noncomputable def PSs (X : Cx) (st : List Stmt) (t : TS) : Prop :=
  ∀ (pins : List (Addr × Obj)) (s : Shared) (σ : St) (H : Hp) (D : Ends), Inv X pins σ H s → t D σ H → wpAny (model X.prog X.w) X.A (execs st X.env) (SP X pins D) X.xe s
theorem thn {α : Type} {t : Sem α} {Q Q' : α → Shared → Prop} {M : Model} {A : Around} {E : Value → Shared → Prop} {s : Shared} (h : wpAny M A t Q E s) (hQ : ∀ a s, Q a s → Q' a s) : wpAny M A t Q' E s := wpAny_mono h hQ fun _ _ x => x
end L2

namespace L2
open PySem PySem.Spec PyProof.Rows
section
variable {X : Cx}

noncomputable def tVar (i : Nat) : TE := fun σ H Q => ∃ v, σ[i]? = some (some v) ∧ Q v H
noncomputable def tC (v : V) : TE := fun _ H Q => Q v H
theorem pe_var {i : Nat} {x : Str} {pos : Pos} (hN : X.N[i]? = some x) (hv : Vis X.env.scope x) (hd : (x == ("__debug__" : Str)) = false := by decide) (hcd : (x == ("__classdict__" : Str)) = false := by decide) : PE X (.Name x pos) (tVar i) := by
  intro pins s σ H Q I h
  obtain ⟨v, e, h⟩ := h
  obtain ⟨m, hn, hl⟩ := I.loc
  obtain ⟨u, r, l⟩ := hl i x v hN e hv
  have fin : EP X pins σ Q u s := ⟨v, H, I, r, h⟩
  rcases l with ⟨hk, hm⟩ | ⟨hk, c, hc, hcell⟩
  · exact wpAny_Name (wpAny_loadName_local I.ok.kind hk hn hm fin) hd
  · rcases hk with hk | hk
    · exact wpAny_Name (wpAny_loadName_cell I.ok.kind hk hc hcell fin) hd
    · exact wpAny_Name (wpAny_loadName_free I.ok.kind hk hc hcell fin hcd) hd
theorem pe_int {i j pos} : PE X (.Constant (.int i) j pos) (tC (.int i)) := fun _ _ _ H _ I h => wpAny_Constant_int ⟨.int i, H, I.tok _, ⟨_, rfl⟩, h⟩
theorem pe_bl {b j pos} : PE X (.Constant (.bool b) j pos) (tC (.bl b)) := fun _ _ _ H _ I h => Constant_bool ⟨.bl b, H, I, rfl, h⟩
theorem pe_non {j pos} : PE X (.Constant .none j pos) (tC .non) := fun _ _ _ H _ I h => Constant_none ⟨.non, H, I, rfl, h⟩
noncomputable def Gl (X : Cx) (x : Str) : Prop := X.env.kindOf x = some .globalImplicit
theorem ld_glob {E : Value → Shared → Prop} {pins : List (Addr × Obj)} {s : Shared} {σ : St} {H : Hp} {x : Str} {u : Value} {pos : Pos} {Q : Value → Shared → Prop} (I : Inv X pins σ H s) (hg : Gl X x) (hm : X.mg x = some u) (h : Q u s)
    (hd : (x == ("__debug__" : Str)) = false := by decide) : wpAny (model X.prog X.w) X.A (eval (.Name x pos) X.env) Q E s :=
  Calls.Name_function_global I.ok.kind hg (Calls.loadGlobal_global (by rw [I.ok.glob]; exact I.mod.glob.keeps I.bk) hm h) hd
theorem ld_blt {E : Value → Shared → Prop} {pins : List (Addr × Obj)} {s : Shared} {σ : St} {H : Hp} {x : Str} {u : Value} {pos : Pos} {Q : Value → Shared → Prop} (I : Inv X pins σ H s) (hg : Gl X x) (hm : X.mg x = none) (hv : bootBuiltins x = some u) (h : Q u s)
    (hn : x ≠ "__name__" := by decide) (hd : (x == ("__debug__" : Str)) = false := by decide) : wpAny (model X.prog X.w) X.A (eval (.Name x pos) X.env) Q E s := by
  obtain ⟨mb, h1, h2⟩ := I.mod.blt
  exact Calls.Name_function_global I.ok.kind hg (Calls.loadGlobal_builtin (by rw [I.ok.glob]; exact I.mod.glob.keeps I.bk) hm (by rw [I.ok.blt]; exact h1.keeps I.bk) ((h2 x hn).trans hv) h) hd
theorem pe_glob {x : Str} {v : V} {u : Value} {pos : Pos} (hg : Gl X x) (hm : X.mg x = some u) (r : RelV v u) (hd : (x == ("__debug__" : Str)) = false := by decide) : PE X (.Name x pos) (tC v) :=
  fun _ _ _ H _ I h => ld_glob I hg hm ⟨v, H, I, r, h⟩ hd
theorem pe_bltn {x : Str} {v : V} {u : Value} {pos : Pos} (hg : Gl X x) (hm : X.mg x = none) (hv : bootBuiltins x = some u) (r : RelV v u) (hn : x ≠ "__name__" := by decide) (hd : (x == ("__debug__" : Str)) = false := by decide) : PE X (.Name x pos) (tC v) :=
  fun _ _ _ H _ I h => ld_blt I hg hm hv ⟨v, H, I, r, h⟩ hn hd

variable {a b : Expr} {ta tb : TE} {pos : Pos}
variable {tA tB' : TT} {rest : List Expr}
noncomputable def tOr (t u : TT) : TT := fun σ H Q => t σ H fun c H1 => if c = true then Q true H1 else u σ H1 Q
noncomputable def tNot (t : TT) : TT := fun σ H Q => t σ H fun c H1 => Q (!c) H1
theorem pw_or1 (ha : PT X a tA) : PW X (.BoolOp .Or [a] pos) tA := by
  intro wh pins s σ H Q I h
  refine isTrue_or (thn (ha pins s σ H Q I h) fun c s1 e => ?_)
  cases c with
  | false => exact isTrue_or_nil e
  | true => exact e
theorem pw_or (ha : PT X a tA) (hb : PW X (.BoolOp .Or (b :: rest) pos) tB') : PW X (.BoolOp .Or (a :: b :: rest) pos) (tOr tA tB') := by
  intro wh pins s σ H Q I h
  refine isTrue_or (thn (ha pins s σ H _ I h) fun c s1 ⟨H1, I1, q1⟩ => ?_)
  cases c with
  | true => exact ⟨H1, I1, q1⟩
  | false => exact hb wh pins s1 σ H1 Q I1 q1
theorem pt_not (ha : PT X a tA) : PT X (.UnaryOp .Not a pos) (tNot tA) := by
  intro pins s σ H Q I h
  exact isTrue_not (ha pins s σ H (fun c H1 => Q (!c) H1) I h)
noncomputable def tAndV (ta tb : TE) : TE := fun σ H Q => ta σ H fun x H1 => ∃ c, x = .bl c ∧ if c = true then tb σ H1 Q else Q (.bl false) H1
noncomputable def tNotV (ta : TE) : TE := fun σ H Q => ta σ H fun x H1 => ∃ c, x = .bl c ∧ Q (.bl (!c)) H1
theorem pe_one {op} {t : TE} (h : PE X a t) : PE X (.BoolOp op [a] pos) t := fun pins s σ H Q I hw => BoolOp_one (h pins s σ H Q I hw)
theorem pe_and (ha : PE X a ta) (hb : PE X (.BoolOp .And (b :: rest) pos) tb) : PE X (.BoolOp .And (a :: b :: rest) pos) (tAndV ta tb) := by
  intro pins s σ H Q I h
  refine BoolOp_and (thn (ha pins s σ H _ I h) fun v s1 ⟨x, H1, I1, r1, q1⟩ => ?_)
  obtain ⟨c, rfl, q1⟩ := q1
  cases r1
  refine wpAny_truthy_bool ?_
  cases c with
  | true => exact hb pins s1 σ H1 Q I1 q1
  | false => exact ⟨.bl false, H1, I1, rfl, q1⟩
theorem pe_not (ha : PE X a ta) : PE X (.UnaryOp .Not a pos) (tNotV ta) := by
  intro pins s σ H Q I h
  refine UnaryOp_ (thn (ha pins s σ H _ I h) fun v s1 ⟨x, H1, I1, r1, q1⟩ => ?_)
  obtain ⟨c, rfl, q1⟩ := q1
  cases r1
  exact not_of (wpAny_truthy_bool ⟨.bl (!c), H1, I1, rfl, q1⟩)
end
end L2

namespace L2
open PySem PySem.Spec PyProof.Rows

noncomputable def SqL (K : PySem.W.Frag) (H : Hp) (a : Addr) (xs : List V) : Prop :=
  Rd H a (.lst xs) ∨
    ∃ (o : Obj) (its : Array Value) (n : Nat), K.lookup a = some o ∧ o.cls = .type "list" ∧ o.dict = none ∧ o.data = .seq its n ∧ its.size ≤ sizeLine ∧ Vals xs its.toList
noncomputable def SqT (K : PySem.W.Frag) (H : Hp) (a : Addr) (xs : List V) : Prop :=
  Rd H a (.tup xs) ∨
    ∃ (o : Obj) (its : Array Value) (n : Nat), K.lookup a = some o ∧ o.cls = .type "tuple" ∧ o.data = .seq its n ∧ its.size ≤ sizeLine ∧ Vals xs its.toList
noncomputable def absV : Value → Option V
  | .none => some .non
  | .bool b => some (.bl b)
  | .int i _ => some (.int i)
  | .str x _ => some (.str x)
  | .bytes b _ => some (.byt b)
  | .float b _ => some (.flt b)
  | .ref a => some (.ref a)
  | .type n => some (.ty n)
  | _ => none
theorem RelV.abs {x : V} {u : Value} (r : RelV x u) : absV u = some x := by
  cases x with
  | non => cases r; rfl
  | bl _ => cases r; rfl
  | int _ => obtain ⟨t, rfl⟩ := r; rfl
  | str _ => obtain ⟨t, rfl⟩ := r; rfl
  | byt _ => obtain ⟨t, rfl⟩ := r; rfl
  | flt _ => obtain ⟨t, rfl⟩ := r; rfl
  | ref _ => cases r; rfl
  | ty _ => cases r; rfl
theorem RelV.inj {x y : V} {u : Value} (r : RelV x u) (q : RelV y u) : x = y := Option.some.inj (r.abs.symm.trans q.abs)
theorem Vals.inj : ∀ {xs ys : List V} {us : List Value}, Vals xs us → Vals ys us → xs = ys
  | _, _, _, .nil, .nil => rfl
  | _, _, _, .cons r t, .cons r' t' => by rw [r.inj r', Vals.inj t t']
section
variable {X : Cx} {pins : List (Addr × Obj)} {σ : St} {H : Hp} {s : Shared} {a : Addr} {xs ys : List V}
theorem SqL.of {K : PySem.W.Frag} (h : H a = some (.lst xs)) : SqL K H a xs := .inl (.inl h)
theorem SqT.of {K : PySem.W.Frag} (h : H a = some (.tup xs)) : SqT K H a xs := .inl (.inl h)
theorem Inv.list (I : Inv X pins σ H s) (h : SqL X.K H a xs) : ∃ its : List Value, Vals xs its ∧ PlainL s.heap a its.toArray ∧ xs.length ≤ sizeLine := by
  rcases h with h | ⟨o, its, n, hk, hc, hd, hs, hz, r⟩
  · obtain ⟨z, its, n, r, e⟩ := h.ok I.hok
    exact ⟨its, r, ⟨_, n, e, rfl, rfl, rfl⟩, z⟩
  · refine ⟨its.toList, r, ⟨o, n, I.kIn a o hk, hc, hd, by simpa using hs⟩, ?_⟩
    have e := r.length
    simp only [Array.length_toList] at e
    omega
theorem Inv.tuple (I : Inv X pins σ H s) (h : SqT X.K H a xs) : ∃ its : List Value, Vals xs its ∧ IsTup s.heap a its.toArray ∧ xs.length ≤ sizeLine := by
  rcases h with h | ⟨o, its, n, hk, hc, hs, hz, r⟩
  · obtain ⟨z, its, r, p⟩ := h.ok I.hok
    exact ⟨its, r, p, z⟩
  · refine ⟨its.toList, r, ⟨o, I.kIn a o hk, hc, n, by simpa using hs⟩, ?_⟩
    have e := r.length
    simp only [Array.length_toList] at e
    omega
theorem Inv.list_inj (I : Inv X pins σ H s) (h : SqL X.K H a xs) (h' : SqL X.K H a ys) : xs = ys := by
  obtain ⟨its, r, ⟨o, n, e, _, _, d⟩, _⟩ := I.list h
  obtain ⟨its', r', ⟨o', n', e', _, _, d'⟩, _⟩ := I.list h'
  rw [e] at e'; cases e'
  rw [d] at d'
  injection d' with d1 _
  have : its = its' := by simpa using congrArg Array.toList d1
  subst this
  exact r.inj r'
theorem Inv.tuple_inj (I : Inv X pins σ H s) (h : SqT X.K H a xs) (h' : SqT X.K H a ys) : xs = ys := by
  obtain ⟨its, r, ⟨o, e, _, n, d⟩, _⟩ := I.tuple h
  obtain ⟨its', r', ⟨o', e', _, n', d'⟩, _⟩ := I.tuple h'
  rw [e] at e'; cases e'
  rw [d] at d'
  injection d' with d1 _
  have : its = its' := by simpa using congrArg Array.toList d1
  subst this
  exact r.inj r'
end

noncomputable abbrev Cx.wish (X : Cx) (E : Value → Shared → Prop) : Cx := { X with xe := E }
noncomputable abbrev Cx.nox (X : Cx) : Cx := X.wish fun _ _ => False
theorem Cx.Ok.wish {X : Cx} (ok : X.Ok) (E : Value → Shared → Prop) : (X.wish E).Ok :=
  ⟨ok.mod, ok.kind, ok.glob, ok.blt, ok.above, ok.inj, ok.has, ok.cab, ok.hd, ok.frames, ok.stk, ok.exf, ok.bs, ok.bsz, ok.noex, ok.exfs, ok.funs, ok.frf⟩
theorem Cx.Ok.unwish {X : Cx} {E : Value → Shared → Prop} (ok : (X.wish E).Ok) : X.Ok :=
  ⟨ok.mod, ok.kind, ok.glob, ok.blt, ok.above, ok.inj, ok.has, ok.cab, ok.hd, ok.frames, ok.stk, ok.exf, ok.bs, ok.bsz, ok.noex, ok.exfs, ok.funs, ok.frf⟩
section
variable {X : Cx} {pins : List (Addr × Obj)} {σ : St} {H : Hp} {s : Shared} {E : Value → Shared → Prop}
theorem Inv.wish (I : Inv X pins σ H s) (E : Value → Shared → Prop) : Inv (X.wish E) pins σ H s := ⟨I.ok.wish E, I.os, I.bare, I.base, I.loc, I.cell, I.free, I.freeC, I.pin, I.hok, I.len⟩
theorem Inv.unwish (I : Inv (X.wish E) pins σ H s) : Inv X pins σ H s := ⟨I.ok.unwish, I.os, I.bare, I.base, I.loc, I.cell, I.free, I.freeC, I.pin, I.hok, I.len⟩
theorem SP.unwish {D : Ends} {f : Flow} {s' : Shared} (h : SP (X.wish E) pins D f s') : SP X pins D f s' := by
  cases f with
  | next => obtain ⟨σ', H', I, q⟩ := h; exact ⟨σ', H', I.unwish, q⟩
  | brk => obtain ⟨σ', H', I, q⟩ := h; exact ⟨σ', H', I.unwish, q⟩
  | cont => obtain ⟨σ', H', I, q⟩ := h; exact ⟨σ', H', I.unwish, q⟩
  | ret u => obtain ⟨v, σ', H', I, r, q⟩ := h; exact ⟨v, σ', H', I.unwish, r, q⟩
theorem PE.nox {e : Expr} {t : TE} (h : PE X.nox e t) : PE X e t := fun pins s σ H Q I hw =>
  wpAny_mono (h pins s σ H Q (I.wish _) hw) (fun _ _ ⟨v, H', I', r, q⟩ => ⟨v, H', I'.unwish, r, q⟩) fun _ _ z => False.elim z
theorem PT.nox {e : Expr} {t : TT} (h : PT X.nox e t) : PT X e t := fun pins s σ H Q I hw =>
  wpAny_mono (h pins s σ H Q (I.wish _) hw) (fun _ _ ⟨H', I', q⟩ => ⟨H', I'.unwish, q⟩) fun _ _ z => False.elim z
theorem PSs.nox {st : List Stmt} {t : TS} (h : PSs X.nox st t) : PSs X st t := fun pins s σ H D I hw =>
  wpAny_mono (h pins s σ H D (I.wish _) hw) (fun _ _ q => q.unwish) fun _ _ z => False.elim z
end

section
variable {X : Cx} {st : Stmt} {rest : List Stmt} {t u : TS} {e : Expr} {te : TE} {pos : Pos}
noncomputable def tNext : TS := fun D σ H => D.nx σ H
noncomputable def tSeq (t u : TS) : TS := fun D σ H => t { D with nx := u D } σ H
theorem pss_nil : PSs X [] tNext := fun _ _ σ H _ I h => wpAny_execs_nil ⟨σ, H, I, h⟩
theorem pss_cons (h1 : PS X st t) (h2 : PSs X rest u) : PSs X (st :: rest) (tSeq t u) := by
  intro pins s σ H D I h
  refine wpAny_execs_cons (thn (h1 pins s σ H { D with nx := u D } I h) fun f s1 q => ?_)
  cases f with
  | next =>
    obtain ⟨σ', H', I', q⟩ := q
    exact h2 pins s1 σ' H' D I' q
  | ret v => exact q
  | brk => exact q
  | cont => exact q
theorem pss_one (h1 : PS X st t) : PSs X [st] t := by
  intro pins s σ H D I h
  refine wpAny_execs_cons (thn (h1 pins s σ H D I h) fun f s1 q => ?_)
  cases f with
  | next => exact wpAny_execs_nil q
  | ret v => exact q
  | brk => exact q
  | cont => exact q
theorem Inv.quiet {pins : List (Addr × Obj)} {σ : St} {H : Hp} {s : Shared} (I : Inv X pins σ H s) : interactive X.env = false := by simp [interactive, I.ok.kind]
noncomputable def tDrop (te : TE) : TS := fun D σ H => te σ H fun _ H1 => D.nx σ H1
theorem ps_expr (he : PE X e te) (hs : swapsWith e none pos.line X.env = pure false := by rfl) : PS X (.Expr e pos) (tDrop te) := by
  intro pins s σ H D I h
  exact wpAny_Expr_any (thn (he pins s σ H _ I h) fun v s1 ⟨x, H1, I1, r1, q1⟩ => ⟨σ, H1, I1, q1⟩) I.quiet hs
noncomputable def tRet (te : TE) : TS := fun D σ H => te σ H D.rt
theorem ps_ret (he : PE X e te) : PS X (.Return (some e) pos) (tRet te) := by
  intro pins s σ H D I h
  exact wpAny_Return_some (thn (he pins s σ H _ I h) fun v s1 ⟨x, H1, I1, r1, q1⟩ => ⟨x, σ, H1, I1, r1, q1⟩)
noncomputable def tIfS (c : TT) (t u : TS) : TS := fun D σ H => c σ H fun b H1 => if b = true then t D σ H1 else u D σ H1
theorem ps_if {c : Expr} {a b : List Stmt} {tc : TT} (hc : PT X c tc) (ha : PSs X a t) (hb : PSs X b u) : PS X (.If c a b pos) (tIfS tc t u) := by
  intro pins s σ H D I h
  refine wpAny_If (thn (hc pins s σ H _ I h) fun d s1 ⟨H1, I1, q1⟩ => ?_)
  cases d with
  | true => exact ha pins s1 σ H1 D I1 q1
  | false => exact hb pins s1 σ H1 D I1 q1
noncomputable def tNever : TS := fun _ _ _ => False
theorem ps_never : PS X st tNever := fun _ _ _ _ _ _ h => h.elim
theorem pss_never {sts : List Stmt} : PSs X sts tNever := fun _ _ _ _ _ _ h => h.elim
end

noncomputable abbrev TG := V → St → Hp → (St → Hp → Prop) → Prop
noncomputable abbrev TGs := List V → St → Hp → (St → Hp → Prop) → Prop
noncomputable def PG (X : Cx) (target : Expr) (t : TG) : Prop :=
  ∀ (pins : List (Addr × Obj)) (s : Shared) (σ : St) (H : Hp) (v : V) (u : Value) (Q : St → Hp → Prop), Inv X pins σ H s → RelV v u → t v σ H Q →
    wpAny (model X.prog X.w) X.A (assign target X.env u) (fun _ s' => ∃ σ' H', Inv X pins σ' H' s' ∧ Q σ' H') X.xe s
noncomputable def PGs (X : Cx) (ts : List Expr) (t : TGs) : Prop :=
  ∀ (pins : List (Addr × Obj)) (s : Shared) (σ : St) (H : Hp) (vs : List V) (us : List Value) (Q : St → Hp → Prop), Inv X pins σ H s → Vals vs us → t vs σ H Q →
    wpAny (model X.prog X.w) X.A (assignInOrder ((assignEach ts X.env).map (·.2)) us) (fun _ s' => ∃ σ' H', Inv X pins σ' H' s' ∧ Q σ' H') X.xe s
noncomputable abbrev TSet := V → V → V → Hp → (Hp → Prop) → Prop
noncomputable def PSet (X : Cx) (t : TSet) : Prop :=
  ∀ (pins : List (Addr × Obj)) (s : Shared) (σ : St) (H : Hp) (o i v : V) (ov iv u : Value) (Q : Hp → Prop), Inv X pins σ H s → RelV o ov → RelV i iv → RelV v u → t o i v H Q →
    wpAny (model X.prog X.w) X.A (setItem ov iv u) (fun _ s' => ∃ H', Inv X pins σ H' s' ∧ Q H') X.xe s
section
variable {X : Cx} {pos : Pos}
noncomputable def gName (i : Nat) : TG := fun v σ H Q => Q (σ.set i (some v)) H
theorem pg_name {i : Nat} {x : Str} (hN : X.N.Nodup) (hi : X.N[i]? = some x) (hx : Loc X.env.scope x) (hf : X.fn x = true ∨ X.env.scope.names.lookup x = some .local := by first | exact .inl rfl | exact .inr rfl | assumption) : PG X (.Name x pos) (gName i) := by
  intro pins s σ H v u Q I r h
  exact wpAny_assign_Name (store_ok I hN hi hx r (fun s' I' => ⟨_, H, I', h⟩) hf)
noncomputable def gNil : TGs := fun vs σ H Q => vs = [] ∧ Q σ H
noncomputable def gCons (t : TG) (u : TGs) : TGs := fun vs σ H Q => ∃ v r, vs = v :: r ∧ t v σ H fun σ' H' => u r σ' H' Q
theorem pgs_nil : PGs X [] gNil := by
  intro pins s σ H vs us Q I r h
  obtain ⟨e, h⟩ := h
  subst e
  cases r
  exact assignInOrder_nil ⟨σ, H, I, h⟩
theorem pgs_cons {e : Expr} {es : List Expr} {t : TG} {u : TGs} (h1 : PG X e t) (h2 : PGs X es u)
    (hs : (assignEach (e :: es) X.env).map (·.2) = assign e X.env :: (assignEach es X.env).map (·.2) := by rfl) : PGs X (e :: es) (gCons t u) := by
  intro pins s σ H vs us Q I r h
  obtain ⟨v, vr, e1, h⟩ := h
  subst e1
  cases r with
  | cons r rr =>
    rw [hs]
    refine assignInOrder_cons (thn (h1 pins s σ H _ _ _ I r h) fun _ s1 ⟨σ1, H1, I1, q1⟩ => ?_)
    exact h2 pins s1 σ1 H1 _ _ Q I1 rr q1
noncomputable def gTup (K : PySem.W.Frag) (n : Nat) (t : TGs) : TG := fun v σ H Q => ∃ a xs, v = .ref a ∧ SqT K H a xs ∧ xs.length = n ∧ t xs σ H Q
theorem pg_tup {es : List Expr} {k : Nat} {t : TGs} {n : Nat} (hc : X.calm = true) (h : PGs X es t)
    (hn : (assignEach es X.env).length = n := by rfl) (hst : (assignEach es X.env).findIdx? (·.1) = none := by rfl) : PG X (.Tuple es k pos) (gTup X.K n t) := by
  intro pins s σ H v u Q I r hw
  obtain ⟨a, xs, e1, hq, hl, hw⟩ := hw
  subst e1
  cases r
  obtain ⟨its, rv, ht, hz⟩ := I.tuple hq
  refine assign_Tuple_tuple (I.ok.hd hc) ht (by simp [hn, ← hl, rv.length]) hst fun h' hx => ?_
  have I1 : Inv X pins σ H { s with heap := h' } := I.kept (t' := s.toks) fun b o e => hx b o (Nat.ne_of_lt (Heap.lt_size e)) e
  exact h pins _ σ H xs _ Q I1 (by simpa using rv) hw
noncomputable def gSub (to ti : TE) (t : TSet) : TG := fun v σ H Q => to σ H fun o H1 => ti σ H1 fun i H2 => t o i v H2 fun H3 => Q σ H3
theorem pg_sub {o i : Expr} {to ti : TE} {t : TSet} (ho : PE X o to) (hi : PE X i ti) (hs : PSet X t)
    (ha : ∀ v, assign (.Subscript o i pos) X.env v = (do
      let ov ← holding [v] (eval o X.env)
      let iv ← holding [v, ov] (eval i X.env)
      standAt pos
      holding [v, ov, iv] (setItem ov iv v)
      release [v, ov, iv] []) := by intro _; rfl) : PG X (.Subscript o i pos) (gSub to ti t) := by
  intro pins s σ H v u Q I r h
  rw [ha]
  refine wpAny_bind (wpAny_holding (thn (ho pins s σ H _ I h) fun ov s1 ⟨x, H1, I1, r1, q1⟩ => ?_))
  refine wpAny_bind (wpAny_holding (thn (hi pins s1 σ H1 _ I1 q1) fun iv s2 ⟨y, H2, I2, r2, q2⟩ => ?_))
  refine wpAny_bind (wpAny_standAt (wpAny_bind (wpAny_holding (thn (hs pins s2 σ H2 x y v ov iv u _ I2 r1 r2 r q2) fun _ s3 ⟨H3, I3, q3⟩ => ?_))))
  exact wpAny_release ⟨σ, H3, I3, q3⟩
noncomputable def tAsg (te : TE) (g : TG) : TS := fun D σ H => te σ H fun x H1 => g x σ H1 D.nx
theorem ps_asg {tg e : Expr} {te : TE} {g : TG} (he : PE X e te) (hg : PG X tg g) (hs : swapsWithSole [tg] e pos.line X.env = pure false := by rfl) (hw : swappedStores [tg] e X.env = pure none := by rfl)
    (h1 : (assignEach [tg] X.env).map (·.2) = [assign tg X.env] := by rfl) : PS X (.Assign [tg] e pos) (tAsg te g) := by
  intro pins s σ H D I h
  refine wpAny_Assign_stores (thn (he pins s σ H _ I h) fun v s1 ⟨x, H1, I1, r1, q1⟩ => ?_) hs hw
  rw [h1]
  exact thn (hg pins s1 σ H1 x v _ I1 r1 q1) fun _ s2 q => q
theorem ps_set {i : Nat} {x : Str} {e : Expr} {te : TE} {pos' : Pos} (hN : X.N.Nodup) (hi : X.N[i]? = some x) (hx : Loc X.env.scope x) (he : PE X e te) (hs : swapsWith e (some (.Name x pos')) pos.line X.env = pure false := by rfl) (hf : X.fn x = true ∨ X.env.scope.names.lookup x = some .local := by first | exact .inl rfl | exact .inr rfl | assumption) :
    PS X (.Assign [.Name x pos'] e pos) (tAsg te (gName i)) := by
  intro pins s σ H D I h
  refine wpAny_Assign_Name (thn (he pins s σ H _ I h) fun v s1 ⟨y, H1, I1, r1, q1⟩ => ?_) hs
  exact store_ok I1 hN hi hx r1 (fun s2 I2 => ⟨_, H1, I2, q1⟩) hf
noncomputable def tPar (i j : Nat) (ta : TA) : TS := fun D σ H => ta σ H fun vs H1 => ∃ v w, vs = [v, w] ∧ D.nx ((σ.set i (some v)).set j (some w)) H1
theorem ps_par {i j : Nat} {x y : Str} {a b : Expr} {ta : TA} {px py pt : Pos} {kt k2 pt2} (hc : X.calm = true) (hN : X.N.Nodup) (hi : X.N[i]? = some x) (hj : X.N[j]? = some y) (hij : i ≠ j)
    (hx : X.env.scope.names.lookup x = some .local) (hy : X.env.scope.names.lookup y = some .local) (ha : PA X [a, b] ta)
    (hw : swappedStores [.Tuple [.Name x px, .Name y py] kt pt] (.Tuple [a, b] k2 pt2) X.env = pure (some [x, y]))
    (hs : swapsWithSole [.Tuple [.Name x px, .Name y py] kt pt] (.Tuple [a, b] k2 pt2) pos.line X.env = pure false := by rfl) :
    PS X (.Assign [.Tuple [.Name x px, .Name y py] kt pt] (.Tuple [a, b] k2 pt2) pos) (tPar i j ta) := by
  intro pins s σ H D I h
  rw [exec_Assign_arm]
  refine wpAny_bind (wpAny_standAt ?_)
  rw [hs]
  refine wpAny_bind (wpAny_pure ?_)
  rw [if_neg (by decide)]
  refine wpAny_bind (Tuple_ (thn (ha _ pins s σ H _ I h) fun us s1 ⟨vs, H1, I1, r1, q1⟩ => ?_))
  obtain ⟨v, w, e1, q1⟩ := q1
  subst e1
  obtain ⟨u1, u2, rfl, rv, rw'⟩ : ∃ u1 u2, us = [u1, u2] ∧ RelV v u1 ∧ RelV w u2 := by
    cases r1 with
    | cons p q =>
      cases q with
      | cons p' q' =>
        cases q'
        exact ⟨_, _, rfl, p, p'⟩
  refine wpAny_newObj_type ?_ (by show 2 ≤ sizeLine; decide)
  have I2 : Inv X pins σ H1 { s1 with heap := s1.heap.push { cls := .type "tuple", data := .seq [u1, u2].toArray } } := I1.kept (t' := s1.toks) fun b o e => Heap.get?_push_of_some _ e
  rw [hw]
  refine wpAny_bind (wpAny_pure ?_)
  show wpAny (model X.prog X.w) X.A (do rule "assign.swapped-stores"; let items ← unpackItems (.ref s1.heap.objs.size) 2 none; assignInOrder [fun v => bindName X.env y v, fun v => bindName X.env x v] items.reverse; pure Flow.next) _ _ _
  refine wpAny_bind (wpAny_rule (wpAny_bind (unpackItems_tuple (items := #[u1, u2]) (I.ok.hd hc) (IsTup.new s1.heap _) fun h' hx' => ?_)))
  have I3 := I2.kept (h' := h') (t' := s1.toks) fun b o e => hx' b o (Nat.ne_of_lt (Heap.lt_size e)) e
  show wpAny _ _ (assignInOrder [fun v => bindName X.env y v, fun v => bindName X.env x v] [u2, u1] >>= fun _ => pure Flow.next) _ _ _
  refine wpAny_bind (assignInOrder_cons (wpAny_bindName (store_ok I3 hN hj (.inl hy) rw' (fun s2 I4 => ?_) (.inr hy))))
  refine assignInOrder_cons (wpAny_bindName (store_ok I4 hN hi (.inl hx) rv (fun s3 I5 => assignInOrder_nil (wpAny_pure ?_)) (.inr hx)))
  rw [List.set_comm _ _ (Ne.symm hij)] at I5
  exact ⟨_, H1, I5, q1⟩
end

section
variable {X : Cx} {pos : Pos}
noncomputable def tWhile (c : TT) (tb : TS) : TS := fun D σ H => ∃ W : Nat → St → Hp → Prop, (∃ m, W m σ H) ∧ ∀ m σ H, W m σ H →
  c σ H fun b H1 => if b = true then ∃ N : St → Hp → Prop, (∀ σ' H', N σ' H' → ∃ m', m' < m ∧ W m' σ' H') ∧ tb { D with nx := N, ct := N, bk := D.nx } σ H1 else D.nx σ H1
theorem ps_while {c : Expr} {body : List Stmt} {tc : TT} {tb : TS} (hp : PassesOwn (model X.prog X.w) X.A X.env X.xe) (hc : PT X c tc) (hb : PSs X body tb) : PS X (.While c body [] pos) (tWhile tc tb) := by
  intro pins s σ H D I h
  obtain ⟨W, ⟨m0, w0⟩, turn⟩ := h
  refine wpAny_While (codeAny_whileLoop (fun n s' => ∃ σ' H', Inv X pins σ' H' s' ∧ W n σ' H') ?_ m0 ⟨σ, H, I, w0⟩)
  rintro n s1 ⟨σ1, H1, I1, w1⟩
  refine wpAny_passesOwn hp (thn (hc pins s1 σ1 H1 _ I1 (turn n σ1 H1 w1)) fun b s2 ⟨H2, I2, q2⟩ => ?_)
  cases b with
  | true =>
    obtain ⟨N, hN, q2⟩ := q2
    rw [if_pos rfl]
    refine wpAny_passesOwn hp (thn (hb pins s2 σ1 H2 _ I2 q2) fun f s3 q3 => ?_)
    cases f with
    | next =>
      obtain ⟨σ3, H3, I3, n3⟩ := q3
      obtain ⟨m', hm, w3⟩ := hN σ3 H3 n3
      exact ⟨m', hm, σ3, H3, I3, w3⟩
    | cont =>
      obtain ⟨σ3, H3, I3, n3⟩ := q3
      obtain ⟨m', hm, w3⟩ := hN σ3 H3 n3
      exact ⟨m', hm, σ3, H3, I3, w3⟩
    | brk => exact q3
    | ret v => exact q3
  | false =>
    rw [if_neg Bool.false_ne_true]
    exact wpAny_execs_nil ⟨σ1, H2, I2, q2⟩
end

structure It where
  go : Nat → Hp → Prop
  yld : Nat → Hp → V → Hp → Prop
  stop : Nat → Hp → Prop
noncomputable def FpOk (X : Cx) (pins : List (Addr × Obj)) (H : Hp) (b : Addr) : Prop :=
  H b = none ∧ b ≠ X.env.locals ∧ b ∉ X.fs ∧ (b ∈ X.ex ∨ X.s₀.heap.objs.size ≤ b) ∧ (∀ x c, X.env.cells.lookup x = some c → c ≠ b) ∧ ∀ p ∈ X.pn ++ pins, p.1 ≠ b
theorem Inv.fpOk {X : Cx} {pins : List (Addr × Obj)} {σ : St} {H H' : Hp} {s : Shared} {b : Addr} (I : Inv X pins σ H s) (hb : s.heap.objs.size ≤ b) (hn : H' b = none) : FpOk X pins H' b := by
  refine ⟨hn, Nat.ne_of_gt (Nat.lt_of_lt_of_le I.lt hb), I.nofs hb, .inr (Nat.le_trans I.sz hb), fun x c e z => ?_, fun p hp z => ?_⟩
  · obtain ⟨v, q⟩ := I.cell x c e
    exact absurd (Nat.lt_of_lt_of_le q.lt (by rw [z]; exact hb)) (Nat.lt_irrefl _)
  · exact absurd (Nat.lt_of_lt_of_le (Heap.lt_size (I.pin p hp).1) (by rw [z]; exact hb)) (Nat.lt_irrefl _)
structure Turn (P : Program) (w : World) (K : PySem.W.Frag) (tg : Expr) (J : It) (fp : List Addr) (it : Addr) (tn : Nat → Heap → Prop) : Prop where
  mem : it ∈ fp
  obj : ∀ i h, tn i h → ∀ b ∈ fp, ∃ o, h.get? b = some o ∧ ∀ v, o.data ≠ .cell v
  keep : ∀ i h h', tn i h → (∀ b ∈ fp, ∀ o, h.get? b = some o → h'.get? b = some o) → tn i h'
  item : ∀ (X : Cx), X.prog = P → X.w = w → X.K = K → X.calm = true → ∀ (i : Nat) (pins : List (Addr × Obj)) (s : Shared) (σ : St) (H : Hp) (E : Value → Shared → Prop), Inv X pins σ H s → (∀ b ∈ fp, FpOk X pins H b) → tn i s.heap → J.go i H →
    wpAny (model P w) X.A (pyNext (.ref it)) (fun r s1 => ∃ u, r = some u ∧
      wpAny (model P w) X.A (letOwnedTupleGo tg (.ref it) u) (fun _ s2 => ∃ x H', Inv X pins σ H' s2 ∧ RelV x u ∧ J.yld i H x H' ∧ tn (i + 1) s2.heap ∧ ∀ b ∈ fp, H' b = none) E s1) E s
  done : ∀ (X : Cx), X.prog = P → X.w = w → X.K = K → X.calm = true → ∀ (i : Nat) (pins : List (Addr × Obj)) (s : Shared) (σ : St) (H : Hp) (E : Value → Shared → Prop), Inv X pins σ H s → (∀ b ∈ fp, FpOk X pins H b) → tn i s.heap → J.stop i H →
    wpAny (model P w) X.A (pyNext (.ref it)) (fun r s1 => r = none ∧ Inv X pins σ H s1) E s
  self : ∀ (A : Around) (i : Nat) (s : Shared) (Q : Value → Shared → Prop) (E : Value → Shared → Prop), tn i s.heap → Q (.ref it) s → wpAny (model P w) A (pyIter (.ref it)) Q E s
noncomputable abbrev TI := St → Hp → (It → Hp → Prop) → Prop
noncomputable def PIE (X : Cx) (pins : List (Addr × Obj)) (σ : St) (tg : Expr) (R : It → Hp → Prop) (itv : Value) (s2 : Shared) : Prop :=
  ∃ (it : Addr) (fp : List Addr) (tn : Nat → Heap → Prop) (J : It) (H' : Hp), itv = .ref it ∧ Inv X pins σ H' s2 ∧ Turn X.prog X.w X.K tg J fp it tn ∧ tn 0 s2.heap ∧ (∀ b ∈ fp, FpOk X pins H' b) ∧ R J H'
noncomputable def PI (X : Cx) (tg iter : Expr) (wi : TI) : Prop :=
  ∀ (pins : List (Addr × Obj)) (s : Shared) (σ : St) (H : Hp) (R : It → Hp → Prop), Inv X pins σ H s → wi σ H R →
    wpAny (model X.prog X.w) X.A (eval iter X.env) (fun v s1 => wpAny (model X.prog X.w) X.A (pyIter v) (PIE X pins σ tg R) X.xe s1) X.xe s

theorem go_of {M : Model} {A : Around} {E : Value → Shared → Prop} {s : Shared} {tg : Expr} {it : Addr} {u : Value} {o : Obj} {n : String} {vs : Array Value} {Q : Unit → Shared → Prop} (ho : s.heap.get? it = some o) (hc : o.cls = .type n) (hd : o.data = .fields vs)
    (hn : ["enumerate", "zip", "dict_itemiterator", "dict_reverseitemiterator", "odict_iterator", "itertools.zip_longest", "itertools.pairwise"].contains n = false) (hQ : Q () s) : wpAny M A (letOwnedTupleGo tg (.ref it) u) Q E s := by
  unfold letOwnedTupleGo
  cases tg <;> first
    | exact wpAny_pure hQ
    | (cases u <;> first
        | exact wpAny_pure hQ
        | (refine wpAny_bind (wpAny_load ho ?_)
           rw [hc, hd]
           show wpAny M A (if (["enumerate", "zip", "dict_itemiterator", "dict_reverseitemiterator", "odict_iterator", "itertools.zip_longest", "itertools.pairwise"].contains n && vs[0]? == some (rawInt _)) = true then _ else _) Q E s
           rw [if_neg (by intro h; rw [hn, Bool.false_and] at h; cases h)]
           exact wpAny_pure hQ))

noncomputable def Itl (K : PySem.W.Frag) (a : Addr) : It :=
  ⟨fun i H => ∃ xs x, SqL K H a xs ∧ xs[i]? = some x, fun i H x H' => H' = H ∧ ∀ xs, SqL K H a xs → xs[i]? = some x, fun i H => ∃ xs, SqL K H a xs ∧ xs.length ≤ i⟩
noncomputable def Itt (K : PySem.W.Frag) (a : Addr) : It :=
  ⟨fun i H => ∃ xs x, SqT K H a xs ∧ xs[i]? = some x, fun i H x H' => H' = H ∧ ∀ xs, SqT K H a xs → xs[i]? = some x, fun i H => ∃ xs, SqT K H a xs ∧ xs.length ≤ i⟩
noncomputable def Itr (lo : Int) (n : Nat) : It := ⟨fun i _ => i < n, fun i H x H' => H' = H ∧ x = .int (lo + i), fun i _ => n ≤ i⟩
theorem turn_list {P : Program} {w : World} {K : PySem.W.Frag} {tg : Expr} (a it : Addr) : Turn P w K tg (Itl K a) [it] it (fun i h => h.IsListIter it a i) where
  mem := by simp
  obj := fun i h st b hb => by
    have e : b = it := by simpa using hb
    subst e
    obtain ⟨o, e, c, d⟩ := st
    exact ⟨o, e, fun v z => by rw [d] at z; cases z⟩
  keep := fun i h h' st k => st.at fun o e => k it (by simp) o e
  item := by
    intro X hP hw hK hc i pins s σ H E I hf st hg
    subst hP hw hK
    obtain ⟨xs, x, hq, hx⟩ := hg
    obtain ⟨its, rv, p, hz⟩ := I.list hq
    obtain ⟨u, hu, ru⟩ := rv.get hx
    obtain ⟨f0, f1, f2, f3, f4, f5⟩ := hf it (by simp)
    refine wpAny_pyNext_list_item st p.isList (x := u) (by simpa using hu) fun h' st' sb => ?_
    have I1 : Inv X pins σ H { s with heap := h' } := I.turned (t' := s.toks) (fun b o hb e => (sb.2 b hb).trans e) f0 f1 f3 f4 f5
    obtain ⟨o, e, c, d⟩ := id st'
    exact ⟨u, rfl, go_of (s := { s with heap := h' }) e c d (by decide) ⟨x, H, I1, ru, ⟨rfl, fun ys hy => by rw [I.list_inj hy hq]; exact hx⟩, st', fun b hb => (hf b hb).1⟩⟩
  done := by
    intro X hP hw hK hc i pins s σ H E I hf st hg
    subst hP hw hK
    obtain ⟨xs, hq, hx⟩ := hg
    obtain ⟨its, rv, p, hz⟩ := I.list hq
    obtain ⟨f0, f1, f2, f3, f4, f5⟩ := hf it (by simp)
    have hl := rv.length
    exact wpAny_pyNext_list_end (I.ok.hd hc) st p.isList (by simp; omega) fun h' eb => ⟨rfl, I.turned (t' := s.toks) (fun b o hb e => eb b o hb e) f0 f1 f3 f4 f5⟩
  self := fun _ _ _ _ _ st h => wpAny_pyIter_listiter st h
theorem turn_tuple {P : Program} {w : World} {K : PySem.W.Frag} {tg : Expr} (a it : Addr) : Turn P w K tg (Itt K a) [it] it (fun i h => h.IsTupleIter it a i) where
  mem := by simp
  obj := fun i h st b hb => by
    have e : b = it := by simpa using hb
    subst e
    obtain ⟨o, e, c, d⟩ := st
    exact ⟨o, e, fun v z => by rw [d] at z; cases z⟩
  keep := fun i h h' st k => st.at fun o e => k it (by simp) o e
  item := by
    intro X hP hw hK hc i pins s σ H E I hf st hg
    subst hP hw hK
    obtain ⟨xs, x, hq, hx⟩ := hg
    obtain ⟨its, rv, p, hz⟩ := I.tuple hq
    obtain ⟨u, hu, ru⟩ := rv.get hx
    obtain ⟨f0, f1, f2, f3, f4, f5⟩ := hf it (by simp)
    refine wpAny_pyNext_tuple_item st (show s.heap.IsTuple a its.toArray from p) (x := u) (by simpa using hu) fun h' st' sb => ?_
    have I1 : Inv X pins σ H { s with heap := h' } := I.turned (t' := s.toks) (fun b o hb e => (sb.2 b hb).trans e) f0 f1 f3 f4 f5
    obtain ⟨o, e, c, d⟩ := id st'
    exact ⟨u, rfl, go_of (s := { s with heap := h' }) e c d (by decide) ⟨x, H, I1, ru, ⟨rfl, fun ys hy => by rw [I.tuple_inj hy hq]; exact hx⟩, st', fun b hb => (hf b hb).1⟩⟩
  done := by
    intro X hP hw hK hc i pins s σ H E I hf st hg
    subst hP hw hK
    obtain ⟨xs, hq, hx⟩ := hg
    obtain ⟨its, rv, p, hz⟩ := I.tuple hq
    obtain ⟨f0, f1, f2, f3, f4, f5⟩ := hf it (by simp)
    have hl := rv.length
    exact wpAny_pyNext_tuple_end (I.ok.hd hc) st (show s.heap.IsTuple a its.toArray from p) (by simp; omega) fun h' eb => ⟨rfl, I.turned (t' := s.toks) (fun b o hb e => eb b o hb e) f0 f1 f3 f4 f5⟩
  self := fun _ _ _ _ _ st h => wpAny_pyIter_tupleiter st h
theorem turn_range {P : Program} {w : World} {K : PySem.W.Frag} {tg : Expr} (it : Addr) (lo : Int) (n : Nat) : Turn P w K tg (Itr lo n) [it] it (fun i h => IsRangeIter h it (lo + (i : Nat) * 1) ((n : Int) - (i : Nat)) 1) where
  mem := by simp
  obj := fun i h st b hb => by
    have e : b = it := by simpa using hb
    subst e
    exact ⟨_, st, fun v z => by
      have z' : Data.fields _ = Data.cell v := z
      cases z'⟩
  keep := fun i h h' st k => k it (by simp) _ st
  item := by
    intro X hP hw hK hc i pins s σ H E I hf st hg
    subst hP hw hK
    obtain ⟨f0, f1, f2, f3, f4, f5⟩ := hf it (by simp)
    have W := Walks.range (prog := X.prog) (w := X.w) (I.ok.hd hc) it lo 1 n
    refine W.item i s _ _ hg st fun v h' tk hv st' kk => ?_
    obtain ⟨t, rfl⟩ := hv
    have I1 : Inv X pins σ H { s with heap := h', toks := tk } := I.turned (fun b o hb e => kk b o (by simpa using hb) e) f0 f1 f3 f4 f5
    refine ⟨_, rfl, go_of (s := { s with heap := h', toks := tk }) (n := "range_iterator") st' rfl rfl (by decide) ⟨.int (lo + i), H, I1, ⟨t, ?_⟩, ⟨rfl, rfl⟩, st', fun b hb => (hf b hb).1⟩⟩
    rw [Int.mul_one]
  done := by
    intro X hP hw hK hc i pins s σ H E I hf st hg
    subst hP hw hK
    obtain ⟨f0, f1, f2, f3, f4, f5⟩ := hf it (by simp)
    exact wpAny_pyNext_range_end (I.ok.hd hc) st (by have : n ≤ i := hg; omega) fun h' eb => ⟨rfl, I.turned (t' := s.toks) (fun b o hb e => eb b o hb e) f0 f1 f3 f4 f5⟩
  self := fun _ _ _ _ _ st h => wpAny_pyIter_rangeiter st h
end L2

namespace L2
open PySem PySem.Spec PyProof.Rows
section
variable {X : Cx} {tg : Expr}
noncomputable def iList (K : PySem.W.Frag) (tl : TE) : TI := fun σ H R => tl σ H fun x H1 => ∃ a, x = .ref a ∧ (∃ xs, SqL K H1 a xs) ∧ R (Itl K a) H1
noncomputable def iTup (K : PySem.W.Frag) (tl : TE) : TI := fun σ H R => tl σ H fun x H1 => ∃ a, x = .ref a ∧ (∃ xs, SqT K H1 a xs) ∧ R (Itt K a) H1
theorem pi_list {l : Expr} {tl : TE} (hl : PE X l tl) : PI X tg l (iList X.K tl) := by
  intro pins s σ H R I h
  refine thn (hl pins s σ H _ I h) fun v s1 ⟨x, H1, I1, r1, q1⟩ => ?_
  obtain ⟨a, e, ⟨xs, hq⟩, q⟩ := q1
  subst e
  cases r1
  obtain ⟨its, rv, p, hz⟩ := I1.list hq
  refine wpAny_pyIter_list p.isList ?_
  refine ⟨s1.heap.objs.size, [s1.heap.objs.size], _, _, H1, rfl, I1.kept (t' := s1.toks) fun b o e => Heap.get?_push_of_some _ e, turn_list a _, ⟨_, Heap.get?_push_size _ rfl, rfl, rfl⟩, fun b hb => ?_, q⟩
  have e : b = s1.heap.objs.size := by simpa using hb
  subst e
  exact I1.fpOk (Nat.le_refl _) (I1.hok.fresh (Nat.le_refl _))
theorem pi_tup {l : Expr} {tl : TE} (hl : PE X l tl) : PI X tg l (iTup X.K tl) := by
  intro pins s σ H R I h
  refine thn (hl pins s σ H _ I h) fun v s1 ⟨x, H1, I1, r1, q1⟩ => ?_
  obtain ⟨a, e, ⟨xs, hq⟩, q⟩ := q1
  subst e
  cases r1
  obtain ⟨its, rv, p, hz⟩ := I1.tuple hq
  refine wpAny_pyIter_tuple (show s1.heap.IsTuple a its.toArray from p) ?_
  refine ⟨s1.heap.objs.size, [s1.heap.objs.size], _, _, H1, rfl, I1.kept (t' := s1.toks) fun b o e => Heap.get?_push_of_some _ e, turn_tuple a _, ⟨_, Heap.get?_push_size _ rfl, rfl, rfl⟩, fun b hb => ?_, q⟩
  have e : b = s1.heap.objs.size := by simpa using hb
  subst e
  exact I1.fpOk (Nat.le_refl _) (I1.hok.fresh (Nat.le_refl _))
theorem range_it {pins : List (Addr × Obj)} {σ : St} {H : Hp} {s : Shared} {R : It → Hp → Prop} {E : Value → Shared → Prop} {lo hi : Int} {t u v : Tok} {tk : Nat} (I : Inv X pins σ H s) (h1 : -(2 ^ 62) ≤ lo) (h2 : lo < 2 ^ 62) (h3 : -(2 ^ 62) ≤ hi) (h4 : hi < 2 ^ 62)
    (q : R (Itr lo (hi - lo).toNat) H) : wpAny (model X.prog X.w) X.A (pyIter (.ref s.heap.objs.size)) (PIE X pins σ tg R) E { s with heap := s.heap.push { cls := .type "range", data := .fields #[.int lo t, .int hi u, .int 1 v] }, toks := tk } := by
  refine wpAny_pyIter_range (IsRange.new ..) (small_one h1 h2 h3 h4) ?_
  have I1 : Inv X pins σ H { s with heap := s.heap.push { cls := .type "range", data := .fields #[.int lo t, .int hi u, .int 1 v] }, toks := tk } := I.kept fun b o e => Heap.get?_push_of_some _ e
  refine ⟨(s.heap.push { cls := .type "range", data := .fields #[.int lo t, .int hi u, .int 1 v] }).objs.size, [(s.heap.push { cls := .type "range", data := .fields #[.int lo t, .int hi u, .int 1 v] }).objs.size], _, _, H, rfl,
    I1.kept (t' := tk) fun b o e => Heap.get?_push_of_some _ e, turn_range _ lo (hi - lo).toNat, ?_, fun b hb => ?_, q⟩
  · have e1 : lo + ((0 : Nat) : Int) * 1 = lo := by simp
    have e2 : (((hi - lo).toNat : Nat) : Int) - ((0 : Nat) : Int) = Builtin.Range.rangeSize lo hi 1 := by rw [rangeSize_one]; split <;> omega
    show IsRangeIter _ _ (lo + ((0 : Nat) : Int) * 1) ((((hi - lo).toNat : Nat) : Int) - ((0 : Nat) : Int)) 1
    rw [e1, e2]
    exact Heap.get?_push_size _ rfl
  · have e : b = (s.heap.push { cls := .type "range", data := .fields #[.int lo t, .int hi u, .int 1 v] }).objs.size := by simpa using hb
    subst e
    exact I1.fpOk (Nat.le_refl _) (I1.hok.fresh (Nat.le_refl _))
noncomputable def iRng1 (ta : TA) : TI := fun σ H R => ta σ H fun vs H1 => ∃ j : Int, vs = [.int j] ∧ -(2 ^ 62) ≤ j ∧ j < 2 ^ 62 ∧ R (Itr 0 j.toNat) H1
noncomputable def iRng2 (ta : TA) : TI := fun σ H R => ta σ H fun vs H1 => ∃ i j : Int, vs = [.int i, .int j] ∧ (-(2 ^ 62) ≤ i ∧ i < 2 ^ 62 ∧ -(2 ^ 62) ≤ j ∧ j < 2 ^ 62) ∧ R (Itr i (j - i).toNat) H1
theorem pi_range1 {a : Expr} {ta : TA} {p pos : Pos} (hg : Gl X "range") (hm : X.mg "range" = none) (ha : PA X [a] ta) (hs : starEach [a] X.env = [(false, eval a X.env)] := by rfl) : PI X tg (.Call (.Name "range" p) [a] [] pos) (iRng1 ta) := by
  intro pins s σ H R I h
  refine Call_ (ld_blt I hg hm boot_range (PyProof.Rows.callWith_type1 (thn (ha pos pins s σ H _ I h) fun us s1 ⟨vs, H1, I1, r1, q1⟩ => ?_) hs rfl))
  obtain ⟨j, e, q1, q2, q⟩ := q1
  subst e
  cases r1 with
  | cons r rr =>
    cases rr
    obtain ⟨t, rfl⟩ := r
    exact call_range_1 (range_it I1 (by omega) (by omega) q1 q2 (by simpa using q))
theorem pi_range2 {a b : Expr} {ta : TA} {p pos : Pos} (hg : Gl X "range") (hm : X.mg "range" = none) (ha : PA X [a, b] ta) (hs : starEach [a, b] X.env = [(false, eval a X.env), (false, eval b X.env)] := by rfl) (hs2 : starEach [b] X.env = [(false, eval b X.env)] := by rfl) :
    PI X tg (.Call (.Name "range" p) [a, b] [] pos) (iRng2 ta) := by
  intro pins s σ H R I h
  refine Call_ (ld_blt I hg hm boot_range (PyProof.Rows.callWith_type1 (thn (ha pos pins s σ H _ I h) fun us s1 ⟨vs, H1, I1, r1, q1⟩ => ?_) (by rw [hs, hs2]) (by rw [hs2]; rfl)))
  obtain ⟨i, j, e, ⟨q1, q2, q3, q4⟩, q⟩ := q1
  subst e
  cases r1 with
  | cons r rr =>
    cases rr with
    | cons r' rr =>
      cases rr
      obtain ⟨t, rfl⟩ := r
      obtain ⟨t', rfl⟩ := r'
      exact call_range_2 (range_it I1 q1 q2 q3 q4 q)

noncomputable def tFor (wi : TI) (g : TG) (tb : TS) : TS := fun D σ H => wi σ H fun J H1 => ∃ W : Nat → Nat → St → Hp → Prop, (∃ m, W 0 m σ H1) ∧ ∀ i m σ H, W i m σ H →
  (J.stop i H ∧ D.nx σ H) ∨ (J.go i H ∧ ∃ N : St → Hp → Prop, (∀ σ' H', N σ' H' → ∃ m', m' < m ∧ W (i + 1) m' σ' H') ∧ ∀ x H', J.yld i H x H' → g x σ H' fun σ2 H2 => tb { D with nx := N, ct := N, bk := D.nx } σ2 H2)
noncomputable def pinsAt (fp : List Addr) (h : Heap) : List (Addr × Obj) := fp.filterMap fun b => (h.get? b).map fun o => (b, o)
theorem mem_pinsAt {fp : List Addr} {h : Heap} {b : Addr} {o : Obj} (hb : b ∈ fp) (e : h.get? b = some o) : (b, o) ∈ pinsAt fp h := List.mem_filterMap.mpr ⟨b, hb, by rw [e]; rfl⟩
theorem of_pinsAt {fp : List Addr} {h : Heap} {p : Addr × Obj} (hp : p ∈ pinsAt fp h) : p.1 ∈ fp ∧ h.get? p.1 = some p.2 := by
  obtain ⟨b, hb, e⟩ := List.mem_filterMap.mp hp
  cases q : h.get? b with
  | none => rw [q] at e; cases e
  | some o =>
    rw [q] at e
    have e' : (b, o) = p := Option.some.inj e
    subst e'
    exact ⟨hb, q⟩
theorem Inv.pinned {pins : List (Addr × Obj)} {σ : St} {H : Hp} {s : Shared} {fp : List Addr} (I : Inv X pins σ H s) (hf : ∀ b ∈ fp, FpOk X pins H b) (ho : ∀ b ∈ fp, ∃ o, s.heap.get? b = some o ∧ ∀ v, o.data ≠ .cell v) : Inv X (pins ++ pinsAt fp s.heap) σ H s :=
  I.pins_of fun p hp => (List.mem_append.mp hp).elim (fun z => I.pin p (List.mem_append_right _ z)) fun z => by
    obtain ⟨hb, e⟩ := of_pinsAt z
    obtain ⟨f0, f1, f2, _⟩ := hf p.1 hb
    obtain ⟨o, e', d⟩ := ho p.1 hb
    rw [e] at e'; cases e'
    exact ⟨e, f0, f1, f2, d⟩
theorem Inv.unpinned {pins pl : List (Addr × Obj)} {σ : St} {H : Hp} {s : Shared} (I : Inv X (pins ++ pl) σ H s) : Inv X pins σ H s := I.pins_of fun p hp => I.pin p (List.mem_append_right _ (List.mem_append_left _ hp))
theorem ps_for {iter : Expr} {body : List Stmt} {wi : TI} {g : TG} {tb : TS} {pos : Pos} (hp : PassesOwn (model X.prog X.w) X.A X.env X.xe) (hc : X.calm = true) (hi : PI X tg iter wi) (hg : PG X tg g) (hb : PSs X body tb)
    (hs : ∀ x, foldedSetIterable iter X.env x = pure x := by intro _; rfl) : PS X (.For tg iter body [] pos) (tFor wi g tb) := by
  intro pins s σ H D I h
  refine wpAny_For (thn (hi pins s σ H _ I h) fun v s1 h1 => thn h1 fun itv s2 h2 => ?_) hs
  obtain ⟨it, fp, tn, J, H2, e, I2, T, st2, f2, W, ⟨m0, w0⟩, turn⟩ := h2
  subst e
  -- what stays true of the iterator's objects through the loop
  have stat : ∀ {H' : Hp}, (∀ b ∈ fp, H' b = none) → ∀ b ∈ fp, FpOk X pins H' b := fun hn b hb => ⟨hn b hb, (f2 b hb).2⟩
  refine codeAny_forLoop_any (fun n s' => ∃ i σ' H', Inv X pins σ' H' s' ∧ tn i s'.heap ∧ (∀ b ∈ fp, H' b = none) ∧ W i n σ' H') ?_ m0 ⟨0, σ, H2, I2, st2, fun b hb => (f2 b hb).1, w0⟩
  rintro n s3 ⟨i, σ3, H3, I3, st3, fr3, w3⟩
  rcases turn i n σ3 H3 w3 with ⟨stop, qn⟩ | ⟨go, N, hN, step⟩
  · refine wpAny_passesOwn hp (thn (T.done X rfl rfl rfl hc i pins s3 σ3 H3 X.xe I3 (stat fr3) st3 stop) fun r s4 ⟨hr, I4⟩ => ?_)
    subst hr
    exact wpAny_execs_nil ⟨σ3, H3, I4, qn⟩
  · refine wpAny_passesOwn hp (thn (T.item X rfl rfl rfl hc i pins s3 σ3 H3 X.xe I3 (stat fr3) st3 go) fun r s4 ⟨u, hr, h4⟩ => ?_)
    subst hr
    refine wpAny_passesOwn hp (thn h4 fun _ s5 ⟨x, H5, I5, r5, y5, st5, fr5⟩ => ?_)
    have I5' := I5.pinned (stat fr5) (T.obj _ _ st5)
    refine wpAny_passesOwn hp (thn (hg _ s5 σ3 H5 x u _ I5' r5 (step x H5 y5)) fun _ s6 ⟨σ6, H6, I6, q6⟩ => ?_)
    refine wpAny_passesOwn hp (thn (hb _ s6 σ6 H6 _ I6 q6) fun f s7 q7 => ?_)
    have again : ∀ {σ7 : St} {H7 : Hp}, Inv X (pins ++ pinsAt fp s5.heap) σ7 H7 s7 → N σ7 H7 → ∃ m, m < n ∧ ∃ i σ' H', Inv X pins σ' H' s7 ∧ tn i s7.heap ∧ (∀ b ∈ fp, H' b = none) ∧ W i m σ' H' := fun {σ7 H7} I7 n7 => by
      obtain ⟨m', hm, w7⟩ := hN σ7 H7 n7
      refine ⟨m', hm, i + 1, σ7, H7, I7.unpinned, T.keep _ _ _ st5 fun b hb o e => (I7.pin (b, o) (List.mem_append_right _ (List.mem_append_right _ (mem_pinsAt hb e)))).1, fun b hb => ?_, w7⟩
      obtain ⟨o, e, d⟩ := T.obj _ _ st5 b hb
      exact (I7.pin (b, o) (List.mem_append_right _ (List.mem_append_right _ (mem_pinsAt hb e)))).2.1
    cases f with
    | next => obtain ⟨σ7, H7, I7, n7⟩ := q7; exact again I7 n7
    | cont => obtain ⟨σ7, H7, I7, n7⟩ := q7; exact again I7 n7
    | brk => obtain ⟨σ7, H7, I7, q7⟩ := q7; exact ⟨σ7, H7, I7.unpinned, q7⟩
    | ret v => obtain ⟨x7, σ7, H7, I7, r7, q7⟩ := q7; exact ⟨x7, σ7, H7, I7.unpinned, r7, q7⟩
end

end L2

namespace L2
open PySem PySem.Spec PyProof.Rows

noncomputable abbrev R2 := V → V → Hp → VK → Prop
noncomputable def OpR (X : Cx) (f : Value → Value → Sem Value) (r : R2) : Prop :=
  ∀ (pins : List (Addr × Obj)) (s : Shared) (σ : St) (H : Hp) (x y : V) (v u : Value) (Q : VK), Inv X pins σ H s → RelV x v → RelV y u → r x y H Q →
    wpAny (model X.prog X.w) X.A (f v u) (EP X pins σ Q) X.xe s
noncomputable def UnR (X : Cx) (f : Value → Sem Value) (r : V → Hp → VK → Prop) : Prop :=
  ∀ (pins : List (Addr × Obj)) (s : Shared) (σ : St) (H : Hp) (x : V) (v : Value) (Q : VK), Inv X pins σ H s → RelV x v → r x H Q →
    wpAny (model X.prog X.w) X.A (f v) (EP X pins σ Q) X.xe s
noncomputable def CallR (X : Cx) (f : Value) (r : List V → Hp → VK → Prop) : Prop :=
  ∀ (pins : List (Addr × Obj)) (s : Shared) (σ : St) (H : Hp) (xs : List V) (us : List Value) (Q : VK), Inv X pins σ H s → Vals xs us → r xs H Q →
    wpAny (model X.prog X.w) X.A (call f us) (EP X pins σ Q) X.xe s
noncomputable def TruR (X : Cx) (r : V → Hp → (Bool → Hp → Prop) → Prop) : Prop :=
  ∀ (pins : List (Addr × Obj)) (s : Shared) (σ : St) (H : Hp) (x : V) (v : Value) (Q : Bool → Hp → Prop), Inv X pins σ H s → RelV x v → r x H Q →
    wpAny (model X.prog X.w) X.A (truthy v) (TP X pins σ Q) X.xe s

noncomputable def tOp (r : R2) (ta tb : TE) : TE := fun σ H Q => ta σ H fun x H1 => tb σ H1 fun y H2 => r x y H2 Q
noncomputable def tUn (r : V → Hp → VK → Prop) (ta : TE) : TE := fun σ H Q => ta σ H fun x H1 => r x H1 Q
noncomputable def rI (C : Int → Int → Prop) (g : Int → Int → V) : R2 := fun x y H Q => ∃ i j, x = .int i ∧ y = .int j ∧ C i j ∧ Q (g i j) H
noncomputable def rI0 (g : Int → Int → V) : R2 := fun x y H Q => ∃ i j, x = .int i ∧ y = .int j ∧ Q (g i j) H
noncomputable def rU (g : Int → V) : V → Hp → VK → Prop := fun x H Q => ∃ i, x = .int i ∧ Q (g i) H

section
variable {X : Cx} {a b c : Expr} {ta tb tc : TE} {pos : Pos}

theorem binT (ha : PE X a ta) (hb : PE X b tb) {pins : List (Addr × Obj)} {s : Shared} {σ : St} {H : Hp} {R : V → V → Hp → Prop} (I : Inv X pins σ H s)
    (h : ta σ H fun x H1 => tb σ H1 fun y H2 => R x y H2) {Q : Value → Shared → Prop} {f : Value → Value → Sem Value}
    (hf : ∀ v u s2 x y H2, Inv X pins σ H2 s2 → RelV x v → RelV y u → R x y H2 → wpAny (model X.prog X.w) X.A (f v u) Q X.xe s2) :
    wpAny (model X.prog X.w) X.A (eval a X.env) (fun v s₁ => wpAny (model X.prog X.w) X.A (eval b X.env) (fun u s₂ => wpAny (model X.prog X.w) X.A (f v u) Q X.xe s₂) X.xe s₁) X.xe s := by
  refine thn (ha pins s σ H _ I h) fun v s1 ⟨x, H1, I1, r1, q1⟩ => ?_
  refine thn (hb pins s1 σ H1 _ I1 q1) fun u s2 ⟨y, H2, I2, r2, q2⟩ => ?_
  exact hf v u s2 x y H2 I2 r1 r2 q2

theorem pe_op {op : Operator} {r : R2} (ho : OpR X (binaryOp op) r) (ha : PE X a ta) (hb : PE X b tb) : PE X (.BinOp a op b pos) (tOp r ta tb) := by
  intro pins s σ H Q I h
  exact wpAny_BinOp (binT ha hb I h fun v u s2 x y H2 I2 rx ry q => ho pins s2 σ H2 x y v u Q I2 rx ry q)
theorem pe_un {op : UnaryOp} {r : V → Hp → VK → Prop} (ho : UnR X (unaryOp op) r) (ha : PE X a ta) : PE X (.UnaryOp op a pos) (tUn r ta) := by
  intro pins s σ H Q I h
  exact UnaryOp_ (thn (ha pins s σ H _ I h) fun v s1 ⟨x, H1, I1, r1, q1⟩ => ho pins s1 σ H1 x v Q I1 r1 q1)
theorem opI {f : Value → Value → Sem Value} {C : Int → Int → Prop} {g : Int → Int → Int}
    (rule : ∀ (i j : Int) (t u : Tok) (s : Shared) (Q : Value → Shared → Prop) (E : Value → Shared → Prop), C i j → Q (.int (g i j) s.toks) { s with toks := s.toks + 1 } → wpAny (model X.prog X.w) X.A (f (.int i t) (.int j u)) Q E s) :
    OpR X f (rI C fun i j => .int (g i j)) := by
  intro pins s σ H x y v u Q I rx ry h
  obtain ⟨i, j, rfl, rfl, hc, q⟩ := h
  obtain ⟨t, rfl⟩ := rx
  obtain ⟨t', rfl⟩ := ry
  exact rule i j t t' s _ _ hc ⟨.int (g i j), H, I.tok _, ⟨_, rfl⟩, q⟩
theorem opI0 {f : Value → Value → Sem Value} {g : Int → Int → Int}
    (rule : ∀ (i j : Int) (t u : Tok) (s : Shared) (Q : Value → Shared → Prop) (E : Value → Shared → Prop), Q (.int (g i j) s.toks) { s with toks := s.toks + 1 } → wpAny (model X.prog X.w) X.A (f (.int i t) (.int j u)) Q E s) :
    OpR X f (rI0 fun i j => .int (g i j)) := by
  intro pins s σ H x y v u Q I rx ry h
  obtain ⟨i, j, rfl, rfl, q⟩ := h
  obtain ⟨t, rfl⟩ := rx
  obtain ⟨t', rfl⟩ := ry
  exact rule i j t t' s _ _ ⟨.int (g i j), H, I.tok _, ⟨_, rfl⟩, q⟩
theorem opB0 {f : Value → Value → Sem Value} {g : Int → Int → Bool}
    (rule : ∀ (i j : Int) (t u : Tok) (s : Shared) (Q : Value → Shared → Prop) (E : Value → Shared → Prop), Q (.bool (g i j)) s → wpAny (model X.prog X.w) X.A (f (.int i t) (.int j u)) Q E s) :
    OpR X f (rI0 fun i j => .bl (g i j)) := by
  intro pins s σ H x y v u Q I rx ry h
  obtain ⟨i, j, rfl, rfl, q⟩ := h
  obtain ⟨t, rfl⟩ := rx
  obtain ⟨t', rfl⟩ := ry
  exact rule i j t t' s _ _ ⟨.bl (g i j), H, I, rfl, q⟩

noncomputable def CPow (i j : Int) : Prop := 0 ≤ j ∧ j ≤ 1000000 ∧ i.natAbs < 2 ^ 64
noncomputable def CMul (i j : Int) : Prop := (-(2 ^ 64) < i ∧ i < 2 ^ 64) ∨ (-(2 ^ 64) < j ∧ j < 2 ^ 64)
theorem CMul.ok {i j : Int} (h : CMul i j) : IntMulOk i j := by
  rcases h with ⟨h1, h2⟩ | ⟨h1, h2⟩
  · exact .of_left (intBits_le_64 h1 h2)
  · exact .of_right (intBits_le_64 h1 h2)
theorem op_add : OpR X (binaryOp .Add) (rI0 fun i j => .int (i + j)) := opI0 fun _ _ _ _ _ _ _ q => add_int q
theorem op_sub : OpR X (binaryOp .Sub) (rI0 fun i j => .int (i - j)) := opI0 fun _ _ _ _ _ _ _ q => sub_int q
theorem op_modN : OpR X (binaryOp .Mod) (rI (fun _ j => j ≠ 0) fun i j => .int (i.fmod j)) := opI fun _ _ _ _ _ _ _ hc q => mod_int' hc q
theorem unI {f : Value → Sem Value} {g : Int → Int}
    (rule : ∀ (i : Int) (t : Tok) (s : Shared) (Q : Value → Shared → Prop) (E : Value → Shared → Prop), Q (.int (g i) s.toks) { s with toks := s.toks + 1 } → wpAny (model X.prog X.w) X.A (f (.int i t)) Q E s) :
    UnR X f (rU fun i => .int (g i)) := by
  intro pins s σ H x v Q I rx h
  obtain ⟨i, rfl, q⟩ := h
  obtain ⟨t, rfl⟩ := rx
  exact rule i t s _ _ ⟨.int (g i), H, I.tok _, ⟨_, rfl⟩, q⟩
theorem un_neg : UnR X (unaryOp .USub) (rU fun i => .int (-i)) := unI fun _ _ _ _ _ q => neg_int q
end

section
variable {X : Cx} {a b c : Expr} {ta tb tc : TE} {pos : Pos}
theorem fin_bl {pins : List (Addr × Obj)} {σ : St} {H : Hp} {s : Shared} {Q : VK} {k k' : Bool} (I : Inv X pins σ H s) (q : Q (.bl k) H) (e : k = k') : EP X pins σ Q (.bool k') s := by
  subst e
  exact ⟨.bl k, H, I, rfl, q⟩
theorem op_lt : OpR X (compareOp .Lt) (rI0 fun i j => .bl (decide (i < j))) := opB0 fun _ _ _ _ _ _ _ q => lt_int q
theorem op_le : OpR X (compareOp .LtE) (rI0 fun i j => .bl (decide (i ≤ j))) := opB0 fun _ _ _ _ _ _ _ q => le_int q
theorem op_gt : OpR X (compareOp .Gt) (rI0 fun i j => .bl (decide (j < i))) := opB0 fun _ _ _ _ _ _ _ q => gt_int q
theorem op_isN : OpR X (compareOp .Is) (fun x y H Q => y = .non ∧ Q (.bl (decide (x = .non))) H) := by
  intro pins s σ H x y v u Q I rx ry h
  obtain ⟨rfl, q⟩ := h
  cases ry
  refine is_none_gen (fin_bl I q ?_)
  cases x <;> first
    | (cases rx; rfl)
    | (obtain ⟨t, rfl⟩ := rx; rfl)
theorem OpR.or {f : Value → Value → Sem Value} {r r' : R2} (h : OpR X f r) (h' : OpR X f r') : OpR X f (fun x y H Q => r x y H Q ∨ r' x y H Q) := by
  intro pins s σ H x y v u Q I rx ry q
  rcases q with q | q
  · exact h pins s σ H x y v u Q I rx ry q
  · exact h' pins s σ H x y v u Q I rx ry q

theorem nomark (b : Expr) {op : CmpOp} (h : op ≠ .In := by decide) (h2 : op ≠ .NotIn := by decide) : behindInMarks op b = false := by
  have e1 : (op == CmpOp.In) = false := by cases op <;> first | rfl | exact absurd rfl h
  have e2 : (op == CmpOp.NotIn) = false := by cases op <;> first | rfl | exact absurd rfl h2
  cases b <;> simp [behindInMarks, e1, e2]
theorem pe_cmpR {op : CmpOp} {r : R2} (ho : OpR X (compareOp op) r) (ha : PE X a ta) (hb : PE X b tb) (hm : behindInMarks op b = false) : PE X (.Compare a [op] [b] pos) (tOp r ta tb) := by
  intro pins s σ H Q I h
  exact wpAny_Compare1 (binT ha hb I h fun v u s2 x y H2 I2 rx ry q => ho pins s2 σ H2 x y v u Q I2 rx ry q) hm
noncomputable def tTest (t : TE) : TT := fun σ H Q => t σ H fun x H' => ∃ k, x = .bl k ∧ Q k H'
theorem pt_cmpR {op : CmpOp} {r : R2} (ho : OpR X (compareOp op) r) (ha : PE X a ta) (hb : PE X b tb) (hm : behindInMarks op b = false) : PT X (.Compare a [op] [b] pos) (tTest (tOp r ta tb)) := by
  intro pins s σ H Q I h
  refine wpAny_isTrue_Compare1 (thn (ha pins s σ H _ I h) fun v s1 ⟨x, H1, I1, r1, q1⟩ => thn (hb pins s1 σ H1 _ I1 q1) fun u s2 ⟨y, H2, I2, r2, q2⟩ =>
    thn (ho pins s2 σ H2 x y v u _ I2 r1 r2 q2) fun c s3 ⟨z, H3, I3, r3, k, e, q3⟩ => ?_) hm
  subst e
  cases r3
  exact wpAny_truthy_bool ⟨H3, I3, q3⟩
noncomputable def TruV (K : PySem.W.Frag) (x : V) (H : Hp) (k : Bool) : Prop :=
  match x with
  | .non => k = false
  | .bl b => k = b
  | .int i => k = (i != 0)
  | .str y => y.length ≤ sizeLine ∧ k = ((y.length : Int) != 0)
  | .byt y => y.size ≤ sizeLine ∧ k = ((y.size : Int) != 0)
  | .ref p => (∃ xs, SqL K H p xs ∧ k = !xs.isEmpty) ∨ (∃ xs, SqT K H p xs ∧ k = !xs.isEmpty) ∨ ∃ kvs, H p = some (.dK kvs) ∧ k = !kvs.isEmpty
  | _ => False
theorem isEmpty_kv {κ : Type} {kvs : List (κ × V)} {vs : List (κ × Value)} (r : KV kvs vs) : (!vs.isEmpty) = !kvs.isEmpty := by
  cases r <;> rfl
theorem isEmpty_of {xs : List V} {its : List Value} (r : Vals xs its) : (!its.toArray.isEmpty) = !xs.isEmpty := by
  cases r <;> simp
theorem line63 : (sizeLine : Nat) < 2 ^ 63 := by rw [sizeLine_eq]; decide
theorem tru_ok : TruR X (fun x H Q => ∃ k, TruV X.K x H k ∧ Q k H) := by
  intro pins s σ H x v Q I rx h
  obtain ⟨k, e, q⟩ := h
  have hl := line63
  have hs : sizeLine = 16777216 := sizeLine_eq
  cases x with
  | non =>
    cases rx
    have e' : k = false := e
    subst e'
    exact truthy_none ⟨H, I, q⟩
  | bl b =>
    cases rx
    have e' : k = b := e
    subst e'
    exact wpAny_truthy_bool ⟨H, I, q⟩
  | int i =>
    obtain ⟨t, rfl⟩ := rx
    have e' : k = (i != 0) := e
    subst e'
    exact PySem.P.truthy_int ⟨H, I, q⟩
  | str y =>
    obtain ⟨t, rfl⟩ := rx
    obtain ⟨hy, e'⟩ : y.length ≤ sizeLine ∧ k = ((y.length : Int) != 0) := e
    subst e'
    exact PySem.P.truthy_str (by omega) ⟨H, I.tok _, q⟩
  | byt y =>
    obtain ⟨t, rfl⟩ := rx
    obtain ⟨hy, e'⟩ : y.size ≤ sizeLine ∧ k = ((y.size : Int) != 0) := e
    subst e'
    exact PySem.W.truthy_bytes (by omega) ⟨H, I.tok _, q⟩
  | ref p =>
    cases rx
    have e' : (∃ xs, SqL X.K H p xs ∧ k = !xs.isEmpty) ∨ (∃ xs, SqT X.K H p xs ∧ k = !xs.isEmpty) ∨ ∃ kvs, H p = some (.dK kvs) ∧ k = !kvs.isEmpty := e
    rcases e' with ⟨xs, hx, e'⟩ | ⟨xs, hx, e'⟩ | ⟨kvs, hx, e'⟩
    · subst e'
      obtain ⟨its, r, pl, hz⟩ := I.list hx
      have hlen := r.length
      exact wpAny_truthy_list pl.isList (by simp only [List.size_toArray]; omega) ⟨H, I.tok _, by rw [isEmpty_of r]; exact q⟩
    · subst e'
      obtain ⟨its, r, pl, hz⟩ := I.tuple hx
      have hlen := r.length
      exact truthy_tuple pl (by simp only [List.size_toArray]; omega) ⟨H, I.tok _, by rw [isEmpty_of r]; exact q⟩
    · subst e'
      obtain ⟨hz, hS, vs, r, m⟩ : kvs.length ≤ sizeLine ∧ (p == sysModules) = false ∧ ∃ vs, KV kvs vs ∧ s.heap.DictOf (mixKind X.prog X.w) p vs := I.hok p _ hx
      have hlen : kvs.length = vs.length := Paired.length r
      exact wpAny_truthy_dict hS m (by omega) ⟨H, I.tok _, by rw [isEmpty_kv r]; exact q⟩
  | _ => exact (show False from e).elim
theorem pt_truth (ha : PE X a ta) (he : ∀ whole, isTrue a X.env whole = (do let v ← whole; standAt a.pos; holding [v] (truthy v))) :
    PT X a (fun σ H Q => ta σ H fun x H' => ∃ k, TruV X.K x H' k ∧ Q k H') := by
  intro pins s σ H Q I h
  exact isTrue_plain (thn (ha pins s σ H _ I h) fun v s1 ⟨x, H1, I1, r1, q1⟩ => tru_ok pins s1 σ H1 x v Q I1 r1 q1) (he _)

theorem op_add_str : OpR X (binaryOp .Add) (fun x y H Q => ∃ i j, x = .str i ∧ y = .str j ∧ i.length + j.length ≤ sizeLine ∧ Q (.str (i ++ j)) H) := by
  intro pins s σ H x y v u Q I rx ry h
  obtain ⟨i, j, rfl, rfl, hz, q⟩ := h
  obtain ⟨t, rfl⟩ := rx
  obtain ⟨t', rfl⟩ := ry
  exact add_str (fun t' tk => ⟨.str (i ++ j), H, I.tok _, ⟨_, rfl⟩, q⟩) hz
theorem vals1 {x : V} {us : List Value} (r : Vals [x] us) : ∃ u, us = [u] ∧ RelV x u := by
  cases r with
  | cons r1 r2 => cases r2; exact ⟨_, rfl, r1⟩
theorem vals2 {x y : V} {us : List Value} (r : Vals [x, y] us) : ∃ u w', us = [u, w'] ∧ RelV x u ∧ RelV y w' := by
  cases r with
  | cons r1 r2 =>
    cases r2 with
    | cons r3 r4 => cases r4; exact ⟨_, _, rfl, r1, r3⟩
theorem call_abs : CallR X (.builtin "abs") (fun xs H Q => ∃ i, xs = [.int i] ∧ Q (.int (if i < 0 then -i else i)) H) := by
  intro pins s σ H xs us Q I r h
  obtain ⟨i, rfl, q⟩ := h
  obtain ⟨u, rfl, t, rfl⟩ := vals1 r
  exact call_abs_int fun u tk => ⟨.int (if i < 0 then -i else i), H, I.tok _, ⟨_, rfl⟩, q⟩
theorem call_max2 (hc : X.calm = true) : CallR X (.builtin "max") (fun xs H Q => ∃ i j, xs = [.int i, .int j] ∧ Q (.int (if j > i then j else i)) H) := by
  intro pins s σ H xs us Q I r h
  obtain ⟨i, j, rfl, q⟩ := h
  obtain ⟨u, w', rfl, ⟨t, rfl⟩, ⟨t', rfl⟩⟩ := vals2 r
  refine max_two_ints (I.ok.hd hc) fun h' tk k => ⟨_, H, I.kept k, ?_, q⟩
  by_cases hj : j > i
  · rw [if_pos hj, if_pos hj]; exact ⟨_, rfl⟩
  · rw [if_neg hj, if_neg hj]; exact ⟨_, rfl⟩
theorem call_min2 (hc : X.calm = true) : CallR X (.builtin "min") (fun xs H Q => ∃ i j, xs = [.int i, .int j] ∧ Q (.int (if j < i then j else i)) H) := by
  intro pins s σ H xs us Q I r h
  obtain ⟨i, j, rfl, q⟩ := h
  obtain ⟨u, w', rfl, ⟨t, rfl⟩, ⟨t', rfl⟩⟩ := vals2 r
  refine min_two_ints (I.ok.hd hc) fun h' tk k => ⟨_, H, I.kept k, ?_, q⟩
  by_cases hj : j < i
  · rw [if_pos hj, if_pos hj]; exact ⟨_, rfl⟩
  · rw [if_neg hj, if_neg hj]; exact ⟨_, rfl⟩
end
end L2

namespace L2
open PySem PySem.Spec PyProof.Rows

structure ObjM (h : Heap) (x dx C : Addr) (mA : Str → Option Value) : Prop where
  obj : h.get? x = some (PySem.W.instObj C dx)
  ns : h.Ns1 dx mA
  ne : dx ≠ x

theorem lookIn_ns {h : Heap} {dx : Addr} {mA : Str → Option Value} (n : h.Ns1 dx mA) : ∃ od, h.get? dx = some od ∧ ∀ name, PySem.W.lookIn name od = some (mA name) := by
  obtain ⟨o, es, ep, ho, hd, hk, _, hm⟩ := n
  refine ⟨o, ho, fun name => ?_⟩
  have e := hm name
  unfold nsFind findBy at e
  rw [← Array.find?_toList] at e
  unfold PySem.W.lookIn
  rw [hd]
  dsimp only
  split
  · rename_i y q
    rw [q] at e
    exact congrArg some e
  · rename_i q
    rw [q] at e
    have a : es.toList.any (·.refKey) = false := by
      rw [List.any_eq_false]
      intro y hy
      obtain ⟨z, t, hkey⟩ := hk y (Array.mem_toList_iff.mp hy)
      simp [DictEntry.refKey, hkey]
    have a' : ¬ es.toList.any (·.refKey) = true := by rw [a]; exact Bool.false_ne_true
    rw [if_neg a']
    exact congrArg some e

theorem ObjM.look {h : Heap} {x dx C : Addr} {mA : Str → Option Value} (I : ObjM h x dx C mA) : ∃ od, PySem.W.InstAt h x (PySem.W.instObj C dx) C (some od) ∧ ∀ name, PySem.W.lookIn name od = some (mA name) :=
  let ⟨od, ho, hl⟩ := lookIn_ns I.ns
  ⟨od, ⟨I.obj, rfl, rfl, ho⟩, hl⟩

section
variable {prog : Program} {w : World} {A : Around} {E : Value → Shared → Prop} {s : Shared} {K : PySem.W.Frag} {x dx C f : Addr} {mA : Str → Option Value} {name : Str} {v : Value}

end

section
variable {P : Program} {w : World} {H H' : Hp} {h h' : Heap} {a C dx : Addr} {fs fs' : List (Str × V)}
end

structure Cls (K : PySem.W.Frag) (C : Addr) : Prop where
  pg : PySem.W.plainGet K C Str.empty = true
  hd : PySem.W.hasDictIn K C = true
  po : PySem.W.plainOver K C = true
  sa : PySem.W.findIn K (.ref C) "__setattr__" = some (some (.builtin "object.__setattr__"))
theorem Cls.get {K : PySem.W.Frag} {C : Addr} (c : Cls K C) (f : Str) : PySem.W.plainGet K C f = true := c.pg
structure Con (K : PySem.W.Frag) (C : Addr) (f : Str) (v : V) (u : Value) : Prop where
  at_ : PySem.W.findIn K (.ref C) f = some (some u)
  rel : RelV v u
  get : PySem.W.specialIn K u "__get__" = some none
  cp : PySem.W.copiedNames.contains f = false
structure Meth (K : PySem.W.Frag) (C : Addr) (m : Str) (f : Addr) : Prop where
  at_ : PySem.W.findIn K (.ref C) m = some (some (.ref f))
  fn : PySem.W.isFn K (.ref f) = true
  kp : PySem.W.keepIn K (.ref f) = true

section
variable {X : Cx} {pins : List (Addr × Obj)} {σ : St} {H : Hp} {s : Shared} {a C dx : Addr} {fs : List (Str × V)} {f : Str} {v : V} {A : Around} {E : Value → Shared → Prop}

end

section
variable {X : Cx} {o e value : Expr} {f : Str} {pos pos' tpos : Pos} {ta tv : TE}
end

section
variable {X : Cx} {pins : List (Addr × Obj)} {σ : St} {H : Hp} {s : Shared} {A : Around} {E : Value → Shared → Prop} {Q : Value → Shared → Prop} {c : Value} {b : Bool}
inductive TyOf (K : PySem.W.Frag) (H : Hp) : V → Value → Prop where
  | non : TyOf K H .non (.type "NoneType")
  | bl (x : Bool) : TyOf K H (.bl x) (.type "bool")
  | int (i : Int) : TyOf K H (.int i) (.type "int")
  | str (x : Str) : TyOf K H (.str x) (.type "str")
  | flt (x : UInt64) : TyOf K H (.flt x) (.type "float")
  | lst {a : Addr} {xs : List V} (e : H a = some (.lst xs)) : TyOf K H (.ref a) (.type "list")
  | frz {a : Addr} {o : Obj} {xs : List V} (e : H a = some (.frz o (.lst xs))) : TyOf K H (.ref a) (.type "list")
  | tup {a : Addr} {xs : List V} (e : H a = some (.tup xs)) : TyOf K H (.ref a) (.type "tuple")
  | dK {a : Addr} {kvs : List (Key × V)} (e : H a = some (.dK kvs)) : TyOf K H (.ref a) (.type "dict")
  | dT {a : Addr} {kvs : List (List Key × V)} (e : H a = some (.dT kvs)) : TyOf K H (.ref a) (.type "dict")
  | ins {a C dx : Addr} {fs : List (Str × V)} (e : H a = some (.ins C dx fs)) (cl : Cls K C) (ha : PySem.W.findIn K (.ref C) "__class__" = some (some (.builtin "object.__class__")))
      (hn : PySem.W.specialIn K (.builtin "object.__class__") "__get__" = some (some (.builtin "getset_descriptor.__get__"))) (htk : PySem.W.takesIn K (.builtin "object.__class__") = some true)
      (hm : PySem.W.mroIn K C (.type "object") = some true) : TyOf K H (.ref a) (.ref C)
end
end L2

namespace L2
open PySem PySem.Spec PyProof.Rows

structure Room (k : Nat) (A : Around) : Prop where
  hd : A.handled = none
  dp : A.depth + 3 * k + 5 < recursionLimit
  un : A.units + 16 * k + 200 < cLine
theorem Room.mono {j k : Nat} {A : Around} (r : Room k A) (h : j ≤ k) : Room j A := ⟨r.hd, by have := r.dp; omega, by have := r.un; omega⟩
theorem Room.deeper {k : Nat} {A : Around} (r : Room (k + 1) A) (env : Env) : Room k (A.deeper env) :=
  ⟨r.hd, by have := r.dp; show A.depth + 1 + 3 * k + 5 < _; omega, by have := r.un; show A.units + 3 + 16 * k + 200 < _; omega⟩
theorem Room.in1 {k : Nat} {A : Around} (r : Room (k + 1) A) : Room k A.in1 :=
  ⟨r.hd, by have := r.dp; show A.depth + 3 * k + 5 < _; omega, by have := r.un; show A.units + 1 + 16 * k + 200 < _; omega⟩
theorem Room.depth {k : Nat} {A : Around} (r : Room k A) : A.depth < recursionLimit := by have := r.dp; omega
theorem Room.units {k : Nat} {A : Around} (r : Room k A) : A.units + 64 < cLine := by have := r.un; omega
noncomputable def tNil : TA := fun _ H Q => Q [] H
noncomputable def tCons (ta : TE) (tr : TA) : TA := fun σ H Q => ta σ H fun x H1 => tr σ H1 fun xs H2 => Q (x :: xs) H2
section
variable {X : Cx} {e : Expr} {es : List Expr} {te : TE} {t : TA} {pos : Pos}
theorem pa_nil : PA X [] tNil := fun _ _ _ _ H Q I h => Calls.spliced_nil ⟨[], H, I, .nil, h⟩
theorem pa_cons (ha : PE X e te) (hr : PA X es t) (hs : starEach (e :: es) X.env = (false, eval e X.env) :: starEach es X.env := by rfl) : PA X (e :: es) (tCons te t) := by
  intro pos pins s σ H Q I h
  rw [hs]
  show wpAny _ _ (spliced ((false, eval e X.env) :: backTo pos (starEach es X.env))) _ _ s
  refine Calls.spliced_cons (thn (ha pins s σ H _ I h) fun u s1 ⟨x, H1, I1, r1, q1⟩ => ?_)
  exact thn (hr pos pins s1 σ H1 _ I1 q1) fun us s2 ⟨xs, H2, I2, r2, q2⟩ => ⟨x :: xs, H2, I2, .cons r1 r2, q2⟩

noncomputable def tTup (t : TA) : TE := fun σ H Q => t σ H fun xs H1 => xs.length ≤ sizeLine ∧ ∀ p, H1 p = none → Q (.ref p) (upd H1 p (.tup xs))
noncomputable def tLst (t : TA) : TE := fun σ H Q => t σ H fun xs H1 => xs.length ≤ sizeLine ∧ ∀ p, H1 p = none → Q (.ref p) (upd H1 p (.lst xs))
theorem pe_tup {x1} (h : PA X es t) : PE X (.Tuple es x1 pos) (tTup t) := by
  intro pins s σ H Q I hq
  refine wpAny_Tuple_spliced (thn (h pos pins s σ H _ I hq) fun us s1 ⟨xs, H1, I1, r, z, q⟩ => ⟨by rw [← r.length]; exact z, ?_⟩)
  have hf : H1 s1.heap.objs.size = none := I1.hok.fresh (Nat.le_refl _)
  refine ⟨.ref s1.heap.objs.size, upd H1 s1.heap.objs.size (.tup xs), I1.laid (t' := s1.toks) (fun b u e => Heap.get?_push_of_some _ e) (Nat.le_refl _) ?_, rfl, q _ hf⟩
  exact ⟨z, us, r, ⟨_, Heap.get?_push_size _ rfl, rfl, _, rfl⟩⟩
theorem pe_lst (h : PA X es t) : PE X (.List es pos) (tLst t) := by
  intro pins s σ H Q I hq
  refine wpAny_List_spliced (thn (h pos pins s σ H _ I hq) fun us s1 ⟨xs, H1, I1, r, z, q⟩ => ⟨by rw [← r.length]; exact z, ?_⟩)
  have hf : H1 s1.heap.objs.size = none := I1.hok.fresh (Nat.le_refl _)
  refine ⟨.ref s1.heap.objs.size, upd H1 s1.heap.objs.size (.lst xs), I1.laid (t' := s1.toks) (fun b u e => Heap.get?_push_of_some _ e) (Nat.le_refl _) ?_, rfl, q _ hf⟩
  exact ⟨z, us, 0, r, Heap.get?_push_size _ rfl⟩
end

noncomputable abbrev Sp := List V → Hp → VK → XK → Prop
noncomputable abbrev CXT := List Env → Hp → Shared → XK → Value → Shared → Prop

structure Env0 (P : Program) (w : World) (K : PySem.W.Frag) (mg : Str → Option Value) (base : Heap) (A : Around) (outer : List Env) (s : Shared) (H : Hp) : Prop where
  frames : A.frames = some outer
  mod : Mod K mg base
  bs : ∀ b o, base.get? b = some o → s.heap.get? b = some o ∧ H b = none
  bsz : base.objs.size ≤ s.heap.objs.size
  funs : s.heap.FunFrames base outer
  frf : ∀ b ∈ frs outer, H b = none
  hok : HOk P w H s.heap
  bare : AllBare s.gens
noncomputable def CE (outer : List Env) (P : Program) (w : World) (H : Hp) (s : Shared) (Q : VK) (u : Value) (s' : Shared) : Prop :=
  ∃ v H', s'.os = s.os ∧ AllBare s'.gens ∧ Un (frs outer) [] H H' s.heap s'.heap ∧ HOk P w H' s'.heap ∧ RelV v u ∧ Q v H'
noncomputable def CR (CX : CXT) (outer : List Env) (P : Program) (w : World) (H : Hp) (s : Shared) (Q : VK) (E : XK) (r : Result) (s' : Shared) : Prop :=
  match r with
  | .ok (.ret u) => CE outer P w H s Q u s'
  | .ok _ => False
  | .error e => CX outer H s E e s'
structure FnOk (P : Program) (w : World) (K : PySem.W.Frag) (mg : Str → Option Value) (base : Heap) (CX : CXT) (k : Nat) (f : Addr) (fd : FuncData) (ps : List Str) (sp : Sp) : Prop where
  len : ∀ vs H Q E, sp vs H Q E → vs.length = ps.length
  run : ∀ (A : Around) (outer : List Env) (s : Shared) (H : Hp) (args : Args) (us : List Value) (vs : List V) (Q : VK) (E : XK), Room k A → Env0 P w K mg base A outer s H → BindsTo s fd args (ps.zip us) → Vals vs us → sp vs H Q E →
    codeAny (model P w) A (.call (.ref f) args) (CR CX outer P w H s Q E) s
theorem FnOk.mono {P : Program} {w : World} {K : PySem.W.Frag} {mg : Str → Option Value} {base : Heap} {CX : CXT} {j k : Nat} {f : Addr} {fd : FuncData} {ps : List Str} {sp : Sp} (F : FnOk P w K mg base CX j f fd ps sp) (h : j ≤ k) :
    FnOk P w K mg base CX k f fd ps sp := ⟨F.len, fun A outer s H args us vs Q E hr => F.run A outer s H args us vs Q E (hr.mono h)⟩
theorem FnOk.imp {P : Program} {w : World} {K : PySem.W.Frag} {mg : Str → Option Value} {base : Heap} {CX : CXT} {k : Nat} {f : Addr} {fd : FuncData} {ps : List Str} {sp sp' : Sp} (F : FnOk P w K mg base CX k f fd ps sp)
    (h : ∀ vs H Q E, sp' vs H Q E → sp vs H Q E) : FnOk P w K mg base CX k f fd ps sp' :=
  ⟨fun vs H Q E q => F.len vs H Q E (h _ _ _ _ q), fun A outer s H args us vs Q E hr he hb hv hs => F.run A outer s H args us vs Q E hr he hb hv (h _ _ _ _ hs)⟩

theorem Env0.in1 {P : Program} {w : World} {K : PySem.W.Frag} {mg : Str → Option Value} {base : Heap} {A : Around} {outer : List Env} {s : Shared} {H : Hp} (e : Env0 P w K mg base A outer s H) :
    Env0 P w K mg base A.in1 outer s H := ⟨e.frames, e.mod, e.bs, e.bsz, e.funs, e.frf, e.hok, e.bare⟩

section
variable {X : Cx} {pins : List (Addr × Obj)} {σ : St} {H : Hp} {s s' : Shared}
theorem Inv.env0 (I : Inv X pins σ H s) : Env0 X.prog X.w X.K X.mg X.base X.A X.stack s H :=
  ⟨I.ok.frames, I.ok.mod, I.bs, Nat.le_trans I.ok.bsz I.sz, I.stack, I.stkFree, I.hok, I.bare⟩
theorem Inv.after {Q : VK} {u : Value} (I : Inv X pins σ H s) (h : CE X.stack X.prog X.w H s Q u s') : EP X pins σ Q u s' := by
  obtain ⟨v, H', os, bare, un, hok, r, q⟩ := h
  obtain ⟨hh, g, d, t, os'⟩ := s'
  obtain rfl : os' = s.os := os
  exact ⟨v, H', I.call (h' := hh) (g' := g) (d' := d) (t' := t) (ch := []) un hok bare (fun b z => absurd z (by simp)), r, q⟩
end

noncomputable def tCall (sp : Sp) (dvs : List V) (E : XK) (t : TA) : TE := fun σ H Q => t σ H fun vs H1 => sp (vs ++ dvs) H1 Q E
noncomputable def Binds (K : PySem.W.Frag) (fd : FuncData) (ps : List Str) (ds : List Value) : Prop :=
  ∀ (s : Shared) (us : List Value), K.In s.heap → (us ++ ds).length = ps.length → BindsTo s fd ⟨us, []⟩ (ps.zip (us ++ ds))
theorem Binds.all {K : PySem.W.Frag} {fd : FuncData} {ps : List Str} (h : ∀ us : List Value, us.length = ps.length → bindArgs fd ⟨us, []⟩ = pure (ps.zip us)) : Binds K fd ps [] := fun s us _ hl => by
  rw [List.append_nil] at hl ⊢
  exact .of_eq (h us hl)

noncomputable def Passes (CX : CXT) (X : Cx) (E : XK) : Prop := ∀ (pins : List (Addr × Obj)) (σ : St) (H : Hp) (s : Shared) (e : Value) (s' : Shared), Inv X pins σ H s → CX X.stack H s E e s' → X.xe e s'

section
variable {X : Cx} {CX : CXT} {k : Nat} {f C : Addr} {fd : FuncData} {ps : List Str} {sp : Sp} {dvs : List V} {ds : List Value} {E : XK} {x m : Str} {p pos apos : Pos} {e o : Expr} {es : List Expr} {ta : TE} {t : TA}

theorem run_fn {pins : List (Addr × Obj)} {σ : St} {H : Hp} {s : Shared} {Q : VK} {us : List Value} {vs : List V} (F : FnOk X.prog X.w X.K X.mg X.base CX k f fd ps sp) (hr : Room k X.A) (hb : Binds X.K fd ps ds) (hd : Vals dvs ds) (hx : Passes CX X E)
    (I : Inv X pins σ H s) (r : Vals vs us) (h : sp (vs ++ dvs) H Q E) : wpAny (model X.prog X.w) X.A (call (.ref f) us) (EP X pins σ Q) X.xe s := by
  have r2 : Vals (vs ++ dvs) (us ++ ds) := r.append hd
  have hl : (us ++ ds).length = ps.length := by rw [← r2.length]; exact F.len _ _ _ _ h
  refine wpAny_call (codeAny_mono (F.run X.A X.stack s H ⟨us, []⟩ (us ++ ds) (vs ++ dvs) Q E hr I.env0 (hb s us I.kIn hl) r2 h) fun r s' hq => ?_)
  cases r with
  | error e => exact hx pins σ H s e s' I hq
  | ok fl =>
    cases fl with
    | ret u => exact I.after hq
    | next => exact False.elim hq
    | brk => exact False.elim hq
    | cont => exact False.elim hq

theorem pe_call (F : FnOk X.prog X.w X.K X.mg X.base CX k f fd ps sp) (hr : Room k X.A) (hg : Gl X x) (hm : X.mg x = some (.ref f)) (hk : PySem.W.keepIn X.K (.ref f) = true) (hb : Binds X.K fd ps ds) (hd : Vals dvs ds) (hx : Passes CX X E)
    (ha : PA X (e :: es) t) (hdb : (x == ("__debug__" : Str)) = false := by decide) (he : starEach (e :: es) X.env = (false, eval e X.env) :: starEach es X.env := by rfl) (hpl : (backTo pos (starEach es X.env)).any (·.1) = false := by rfl) :
    PE X (.Call (.Name x p) (e :: es) [] pos) (tCall sp dvs E t) := by
  intro pins s σ H Q I h
  refine wpAny_Call_Name_kw (ld_glob I hg hm ?_ hdb)
  refine PySem.W.callWith_K (h₀ := X.base) I.ok.mod.kin hk (thn (ha pos pins s σ H _ I h) fun us s1 ⟨vs, H1, I1, r, q⟩ => ⟨I1.kIn, ?_⟩) he hpl
  exact run_fn F hr hb hd hx I1 r q
structure Mk (K : PySem.W.Frag) (C f : Addr) : Prop where
  makes : PySem.W.makesIn K C = true
  init : PySem.W.findIn K (.ref C) "__init__" = some (some (.ref f))
  fn : PySem.W.isFn K (.ref f) = true
  kp : PySem.W.keepIn K (.ref C) = true

end

section
variable {X : Cx} {CX : CXT} {k : Nat} {f C : Addr} {fd : FuncData} {ps ks : List Str} {sp : Sp} {E : XK} {x m : Str} {p pos apos kpos : Pos} {e o : Expr} {es : List Expr} {kws : List Keyword} {te ta : TE} {t tk : TA} {nm : Option Str}
structure KBinds (K : PySem.W.Frag) (fd : FuncData) (ps ks : List Str) (g : List Value → List Value → List Value) (gV : List V → List V → List V) : Prop where
  to : ∀ (s : Shared) (us ws : List Value), K.In s.heap → (g us ws).length = ps.length → BindsTo s fd ⟨us, ks.zip ws⟩ (ps.zip (g us ws))
  rel : ∀ {vs : List V} {us : List Value} {zs : List V} {ws : List Value}, Vals vs us → Vals zs ws → Vals (gV vs zs) (g us ws)
variable {g : List Value → List Value → List Value} {gV : List V → List V → List V}
end

structure FnScope (N P : List Str) (sc : Scope) : Prop where
  kind : sc.kind = .function
  co : sc.isCoroutine = false
  gen : sc.isGenerator = false
  nd : N.Nodup
  pre : N.take P.length = P
  par : ∀ x ∈ P, sc.names.lookup x = some .local ∨ sc.names.lookup x = some .cell
  nofree : ∀ y ∈ sc.names, y.2 ≠ .free

theorem bindL_out {kindOf : Str → Option NameKind} {x : Str} : ∀ {binds : List (Str × Value)} {m : Str → Option Value}, (∀ v, (x, v) ∉ binds) → bindL kindOf binds m x = m x
  | [], _, _ => rfl
  | (n, v) :: r, m, h => by
    unfold bindL
    rw [bindL_out fun w hw => h w (List.mem_cons_of_mem _ hw)]
    split
    · have : x ≠ n := by rintro rfl; exact h v List.mem_cons_self
      simp [this]
    · rfl
theorem bindC_out {kindOf : Str → Option NameKind} {x : Str} : ∀ {binds : List (Str × Value)} {m : Str → Option Value}, (∀ v, (x, v) ∉ binds) → bindC kindOf binds m x = m x
  | [], _, _ => rfl
  | (n, v) :: r, m, h => by
    unfold bindC
    rw [bindC_out fun w hw => h w (List.mem_cons_of_mem _ hw)]
    split
    · rfl
    · have : x ≠ n := by rintro rfl; exact h v List.mem_cons_self
      simp [this]
theorem bindL_get {kindOf : Str → Option NameKind} {x : Str} {v : Value} : ∀ {P : List Str} {vs : List Value} {i : Nat} {m : Str → Option Value}, P.Nodup → P[i]? = some x → vs[i]? = some v → kindOf x = some .local →
    bindL kindOf (P.zip vs) m x = some v
  | [], _, _, _, _, h, _, _ => by simp at h
  | _ :: _, [], _, _, _, _, h, _ => by simp at h
  | p :: P, w :: vs, 0, m, nd, h1, h2, hk => by
    simp at h1 h2; subst h1; subst h2
    show bindL kindOf ((p, w) :: P.zip vs) m p = _
    unfold bindL
    rw [bindL_out fun v hv => (List.nodup_cons.mp nd).1 (List.of_mem_zip hv).1, if_pos hk]
    simp
  | p :: P, w :: vs, i + 1, m, nd, h1, h2, hk => by
    show bindL kindOf ((p, w) :: P.zip vs) m x = _
    unfold bindL
    exact bindL_get (i := i) (List.nodup_cons.mp nd).2 (by simpa using h1) (by simpa using h2) hk
theorem bindC_get {kindOf : Str → Option NameKind} {x : Str} {v : Value} : ∀ {P : List Str} {vs : List Value} {i : Nat} {m : Str → Option Value}, P.Nodup → P[i]? = some x → vs[i]? = some v → kindOf x ≠ some .local →
    bindC kindOf (P.zip vs) m x = some v
  | [], _, _, _, _, h, _, _ => by simp at h
  | _ :: _, [], _, _, _, _, h, _ => by simp at h
  | p :: P, w :: vs, 0, m, nd, h1, h2, hk => by
    simp at h1 h2; subst h1; subst h2
    show bindC kindOf ((p, w) :: P.zip vs) m p = _
    unfold bindC
    rw [bindC_out fun v hv => (List.nodup_cons.mp nd).1 (List.of_mem_zip hv).1, if_neg hk]
    simp
  | p :: P, w :: vs, i + 1, m, nd, h1, h2, hk => by
    show bindC kindOf ((p, w) :: P.zip vs) m x = _
    unfold bindC
    exact bindC_get (i := i) (List.nodup_cons.mp nd).2 (by simpa using h1) (by simpa using h2) hk

noncomputable def start (N : List Str) (vs : List V) : St := vs.map some ++ List.replicate (N.length - vs.length) none

noncomputable def cxOf (CX : CXT) (P : Program) (w : World) (K : PySem.W.Frag) (mg : Str → Option Value) (base : Heap) (N : List Str) (qual : Str) (scope : Scope) (f : Addr) (cd : Value) (A : Around) (outer : List Env) (s : Shared) (H : Hp) (E : XK) : Cx where
  prog := P
  w := w
  K := K
  mg := mg
  base := base
  A := A.deeper (envOfC qual scope s.heap.objs.size f cd)
  N := N
  s₀ := s
  H₀ := H
  env := envOfC qual scope s.heap.objs.size f cd
  outer := outer
  stack := envOfC qual scope s.heap.objs.size f cd :: outer
  ex := []
  calm := true
  fn := fun _ => true
  pn := []
  xe := fun e s' => wpAny (model P w) (A.deeper (envOfC qual scope s.heap.objs.size f cd)) (leaving (envOfC qual scope s.heap.objs.size f cd) e) (fun _ s'' => CX outer H s E e s'') (fun e' s'' => CX outer H s E e' s'') s'

theorem cell_has {sc : Scope} {n : Nat} {x : Str} (h : sc.names.lookup x = some .cell) : ∃ c, (cellsFrom n sc.names []).lookup x = some c := by
  have q := PySem.W.cellsFrom_some sc.names n [] (.inl h)
  exact Option.isSome_iff_exists.mp q

theorem inv_start {CX : CXT} {P : Program} {w : World} {K : PySem.W.Frag} {mg : Str → Option Value} {base : Heap} {N ps : List Str} {qual : Str} {scope : Scope} {f : Addr} {cd : Value} {A : Around} {outer : List Env} {s s1 : Shared} {H : Hp} {E : XK} {us : List Value} {vs : List V}
    (S : FnScope N ps scope) (hd : A.handled = none) (e0 : Env0 P w K mg base A outer s H) (hl : vs.length = ps.length) (r : Vals vs us)
    (x : InCallC s s.heap.objs.size (bindL (envOfC qual scope s.heap.objs.size f cd).kindOf (ps.zip us) fun _ => none) (cellsFrom (s.heap.objs.size + 1) scope.names []) (bindC (envOfC qual scope s.heap.objs.size f cd).kindOf (ps.zip us) fun _ => none) s1) :
    Inv (cxOf CX P w K mg base N qual scope f cd A outer s H E) [] (start N vs) H s1 := by
  have hpl : ps.length ≤ N.length := by have := congrArg List.length S.pre; rw [List.length_take] at this; omega
  obtain ⟨h1, tk, rfl, hk⟩ := x.done
  have noA : ∀ b : Addr, b ∉ (cxOf CX P w K mg base N qual scope f cd A outer s H E).ex := fun b z => absurd (show b ∈ ([] : List Addr) from z) (by simp)
  refine ⟨⟨e0.mod, S.kind, rfl, rfl, Nat.le_refl _, fun y z c h1 h2 => ?_, fun y hy => ?_, fun y c _ h => ?_, fun _ => hd, Around.frames_deeper e0.frames, .inr ⟨rfl, rfl⟩, fun b z => absurd z (noA b), e0.bs, e0.bsz, fun b _ _ => noA b, fun b z => absurd z (noA b), e0.funs, e0.frf⟩,
    rfl, e0.bare, Un.kept hk, ⟨_, x.toInCall.ns, fun i y v h1 h2 h3 => ?_⟩, fun y c h => ⟨_, x.cell y c h⟩, e0.hok.fresh (Nat.le_refl _), fun y c h => ?_, fun p hp => absurd (show p ∈ ([] : List (Addr × Obj)) from hp) (by simp), e0.hok.kept hk, ?_⟩
  · exact name_of_addr x.apart (PySem.mem_of_lookup h1) (PySem.mem_of_lookup h2)
  · have hy : scope.names.lookup y = some .cell ∨ scope.names.lookup y = some .free := hy
    rcases hy with hy | hy
    · exact cell_has hy
    · exact absurd rfl (S.nofree _ (PySem.mem_of_lookup hy))
  · exact Nat.le_of_lt (x.above y c (PySem.mem_of_lookup h))
  · have hi : i < vs.length := by
      unfold start at h2
      by_cases hi : i < vs.length
      · exact hi
      · rw [List.getElem?_append_right (by simpa using hi)] at h2
        rw [List.getElem?_replicate] at h2
        split at h2 <;> cases h2
    have ha : vs[i]? = some v := by
      unfold start at h2
      rw [List.getElem?_append_left (by simpa using hi), List.getElem?_map] at h2
      cases e : vs[i]? with
      | none => rw [e] at h2; cases h2
      | some a => rw [e] at h2; cases h2; rfl
    obtain ⟨u, hu, rv⟩ := r.get ha
    have hp : ps[i]? = some y := by
      rw [← S.pre, List.getElem?_take_of_lt (by omega)]; exact h1
    have ndP : ps.Nodup := by rw [← S.pre]; exact S.nd.sublist (List.take_sublist _ _)
    refine ⟨u, rv, ?_⟩
    rcases S.par y (List.mem_of_getElem? hp) with k | k
    · exact .inl ⟨k, bindL_get ndP hp hu k⟩
    · obtain ⟨c, e⟩ := cell_has (n := s.heap.objs.size + 1) k
      refine .inr ⟨.inl k, c, e, ?_⟩
      have q := x.cell y c e
      rw [bindC_get ndP hp hu (by show scope.names.lookup y ≠ _; rw [k]; decide)] at q
      exact q
  · exact e0.hok.fresh (Nat.le_of_lt (x.above y c (PySem.mem_of_lookup h)))
  · unfold start
    show _ = N.length
    rw [List.length_append, List.length_map, List.length_replicate]
    omega

theorem fn_of {CX : CXT} {P : Program} {w : World} {K : PySem.W.Frag} {mg : Str → Option Value} {base : Heap} {k : Nat} {f : Addr} {name qual : Str} {params : Arguments} {body : List Stmt} {scope : Scope} {dV kV doc pm cdv ct oc : Value} {an od : Option Addr}
    {osl : Array (Option Value)} {N ps : List Str} {sp : Sp} (lk : K.lookup f = some ⟨oc, od, .func (PySem.W.fnOf name qual params body scope dV kV doc pm an cdv ct), osl⟩) (hcd : PySem.W.codeIn K cdv qual = true) (S : FnScope N ps scope)
    (len : ∀ vs H Q E, sp vs H Q E → vs.length = ps.length)
    (hbody : ∀ (A : Around) (outer : List Env) (s : Shared) (H : Hp) (vs : List V) (Q : VK) (E : XK), Room k (A.deeper (envOfC qual scope s.heap.objs.size f cdv)) → sp vs H Q E →
      ∃ t, PSs (cxOf CX P w K mg base N qual scope f cdv A outer s H E) body t ∧ t { nx := fun _ H' => Q .non H', rt := Q } (start N vs) H) :
    FnOk P w K mg base CX (k + 1) f (PySem.W.fnOf name qual params body scope dV kV doc pm an cdv ct) ps sp := by
  refine ⟨len, fun A outer s H args us vs Q E hr e0 hb r hsp => ?_⟩
  have hl := len _ _ _ _ hsp
  have KX : K.In s.heap := e0.mod.kin.keeps fun b o e => (e0.bs b o e).1
  have lim : s.heap.NoLimit := e0.mod.nolimit.keeps fun b o e => (e0.bs b o e).1
  have hkind : ∀ y ∈ ps.zip us, scope.names.lookup y.1 = some .local ∨ (scope.names.lookup y.1 = some .cell ∧ ((cellsFrom (s.heap.objs.size + 1) scope.names []).lookup y.1).isSome = true) := fun ⟨n, v⟩ hy => by
    rcases S.par n (List.of_mem_zip hy).1 with q | q
    · exact .inl q
    · exact .inr ⟨q, PySem.W.cellsFrom_some _ _ _ (.inl q)⟩
  refine codeAny_call_function hr.depth (KX _ _ lk) rfl S.co S.gen rfl (PySem.W.codeRec_of KX hcd) (hb _ _ _ _ ?_)
  refine wpAny_newFunctionEnv_cells S.kind hkind fun env he s1 x => ?_
  subst he
  refine ⟨lim.keeps x.toInCall.keep, codeAny_func ?_⟩
  obtain ⟨t, ht, hq⟩ := hbody A outer s H vs Q E (hr.deeper _) hsp
  have I : Inv (cxOf CX P w K mg base N qual scope f cdv A outer s H E) [] (start N vs) H s1 := inv_start S hr.hd e0 hl r x
  refine wpAny_mono (ht [] s1 (start N vs) H _ I hq) (fun fl s' hs => ?_) fun e s' hs => hs
  have fin : ∀ {σ' : St} {H' : Hp} {v : V} {u : Value}, Inv (cxOf CX P w K mg base N qual scope f cdv A outer s H E) [] σ' H' s' → RelV v u → Q v H' → CE outer P w H s Q u s' :=
    fun {σ' H' v u} J rv q => ⟨v, H', J.os, J.bare, J.base, J.hok, rv, q⟩
  cases fl with
  | ret u =>
    obtain ⟨v, σ', H', J, rv, q⟩ := hs
    exact fin J rv q
  | next =>
    obtain ⟨σ', H', J, q⟩ := hs
    exact fin (v := V.non) (u := Value.none) J rfl q
  | brk =>
    obtain ⟨_, _, _, q⟩ := hs
    exact False.elim q
  | cont =>
    obtain ⟨_, _, _, q⟩ := hs
    exact False.elim q
end L2

namespace L2
open PySem PySem.Spec PyProof.Rows
section
variable {X : Cx} {x : Str} {p pos : Pos} {e : Expr} {es : List Expr} {t : TA} {id T : String} {r : List V → Hp → VK → Prop}

noncomputable def tCB (r : List V → Hp → VK → Prop) (t : TA) : TE := fun σ H Q => t σ H fun vs H1 => r vs H1 Q
theorem pe_callB (hc : CallR X (.builtin id) r) (hg : Gl X x) (hm : X.mg x = none) (hv : bootBuiltins x = some (.builtin id)) (ha : PA X (e :: es) t) (hn : x ≠ "__name__" := by decide) (hdb : (x == ("__debug__" : Str)) = false := by decide)
    (he : starEach (e :: es) X.env = (false, eval e X.env) :: starEach es X.env := by rfl) (hpl : (backTo pos (starEach es X.env)).any (·.1) = false := by rfl) : PE X (.Call (.Name x p) (e :: es) [] pos) (tCB r t) := by
  intro pins s σ H Q I h
  refine wpAny_Call_Name_kw (ld_blt I hg hm hv ?_ hn hdb)
  exact PyProof.Rows.callWith_builtin1 (thn (ha pos pins s σ H _ I h) fun us s1 ⟨vs, H1, I1, r1, q1⟩ => hc pins s1 σ H1 vs us Q I1 r1 q1) he hpl
theorem pe_callTy (hc : CallR X (.type T) r) (hg : Gl X x) (hm : X.mg x = none) (hv : bootBuiltins x = some (.type T)) (ha : PA X (e :: es) t) (hn : x ≠ "__name__" := by decide) (hdb : (x == ("__debug__" : Str)) = false := by decide)
    (he : starEach (e :: es) X.env = (false, eval e X.env) :: starEach es X.env := by rfl) (hpl : (backTo pos (starEach es X.env)).any (·.1) = false := by rfl) : PE X (.Call (.Name x p) (e :: es) [] pos) (tCB r t) := by
  intro pins s σ H Q I h
  refine wpAny_Call_Name_kw (ld_blt I hg hm hv ?_ hn hdb)
  exact PyProof.Rows.callWith_type1 (thn (ha pos pins s σ H _ I h) fun us s1 ⟨vs, H1, I1, r1, q1⟩ => hc pins s1 σ H1 vs us Q I1 r1 q1) he hpl
end
end L2

namespace HT
open PySem PyProof.Rows

section
open PySem.SeqAt
open PySem.AutoSeq1 (wpAny_loadPart')
open PySem.MeetsSeq PySem.MeetsSeq2 PySem.MeetsSeq3

end

section
variable {prog : Program} {w : World} {A : Around} {E : Value → Shared → Prop} {s : Shared}

theorem cat_tup {t b : Addr} {vs ws : List Value} {Q : Value → Shared → Prop} (ht : IsTup s.heap t vs.toArray) (hb : IsTup s.heap b ws.toArray) (hv : vs ≠ [])
    (h1 : ws = [] → Q (.ref t) s) (h2 : ws ≠ [] → Q (.ref s.heap.objs.size) { s with heap := s.heap.push { cls := .type "tuple", data := .seq (vs ++ ws).toArray } })
    (hsz : vs.length + ws.length ≤ sizeLine) : wpAny (model prog w) A (binaryOp .Add (.ref t) (.ref b)) Q E s := by
  obtain ⟨⟨cls, dd, data, sl⟩, ho, hc, n, hd⟩ := id ht
  obtain ⟨⟨cls2, dd2, data2, sl2⟩, ho2, hc2, n2, hd2⟩ := id hb
  simp only at hc hd hc2 hd2
  subst hc hd hc2 hd2
  have e : vs.toArray ++ ws.toArray = (vs ++ ws).toArray := by simp
  by_cases hw : ws = []
  · exact concat_meets ⟨_, ho, rfl⟩ ⟨_, ho2, rfl⟩ noFill_tuple_add seq_tuple_add PySem.F.slot_tuple_add PySem.F.entry_tuple_add (PySem.F.args_tuple_add_2 _ _)
      (tuple_addW1 t b vs.toArray ws.toArray n n2 dd dd2 sl sl2 (by simpa using hv) (by simp [hw])) ⟨ho, ho2, h1 hw⟩
  · refine concat_meets ⟨_, ho, rfl⟩ ⟨_, ho2, rfl⟩ noFill_tuple_add seq_tuple_add PySem.F.slot_tuple_add PySem.F.entry_tuple_add (PySem.F.args_tuple_add_2 _ _)
      (tuple_addW2 t b vs.toArray ws.toArray n n2 dd dd2 sl sl2 (by simpa using hv) (by simpa using hw) (by rw [List.size_toArray, List.size_toArray]; exact hsz)) ⟨ho, ho2, ?_⟩
    rw [e]
    exact h2 hw

noncomputable def sIx (n d : Nat) : Option Int → Nat
  | none => d
  | some v => if v < 0 then (v + (n : Int)).toNat else min v.toNat n
theorem sIx_none (n d : Nat) : sIx n d none = d := rfl
theorem sIx_nat (n d k : Nat) : sIx n d (some (k : Int)) = min k n := by
  show (if (k : Int) < 0 then ((k : Int) + (n : Int)).toNat else min (k : Int).toNat n) = min k n
  rw [if_neg (by omega), Int.toNat_natCast]
theorem sIx_le (n d : Nat) (hd : d ≤ n) (o : Option Int) : sIx n d o ≤ n := by
  cases o with
  | none => exact hd
  | some v =>
    show (if v < 0 then (v + (n : Int)).toNat else min v.toNat n) ≤ n
    by_cases hv : v < 0
    · rw [if_pos hv]; omega
    · rw [if_neg hv]; exact Nat.min_le_right _ _
theorem clip_eq (v : Int) (n d : Nat) : (if v < 0 then max (v + (n : Int)) 0 else min v (n : Int)) = ((sIx n d (some v) : Nat) : Int) := by
  show (if v < 0 then max (v + (n : Int)) 0 else min v (n : Int)) = (((if v < 0 then (v + (n : Int)).toNat else min v.toNat n) : Nat) : Int)
  by_cases hv : v < 0
  · simp only [if_pos hv]; omega
  · simp only [if_neg hv]; omega
theorem adjust_gen (lo hi : Option Int) (n : Nat) : Builtin.Slice.sliceAdjust lo hi 1 (n : Int) = (((sIx n 0 lo : Nat) : Int), ((sIx n n hi : Nat) : Int)) := by
  have h1 : ¬ ((1 : Int) < 0) := by omega
  unfold Builtin.Slice.sliceAdjust
  simp only [h1, if_false]
  refine Prod.ext ?_ ?_
  · cases lo with
    | none => rfl
    | some v => exact clip_eq v n 0
  · cases hi with
    | none => rfl
    | some v => exact clip_eq v n n
theorem places_gen (i j : Nat) : Builtin.Slice.slicePlaces (i : Int) (j : Int) 1 = j - i := by
  unfold Builtin.Slice.slicePlaces
  have h1 : (1 : Int) > 0 := by omega
  simp only [h1, if_true, Int.ediv_one]
  split <;> omega
theorem slicePart_ {v : Value} {o : Option Int} {Q : Option Int → Shared → Prop} (p : IsPart v o) (h : Q o s) : wpAny (model prog w) A (Builtin.Slice.slicePartIndex v) Q E s := by
  cases p with
  | none => exact slicePart_none h
  | int i t => exact slicePart_int h
theorem sliceApplied_gen {sl : Addr} {vl vu : Value} {lo hi : Option Int} {n : Nat} {Q : Int × Int × Nat → Shared → Prop} (hs : s.heap.IsSliceOf sl vl vu .none) (pl : IsPart vl lo) (pu : IsPart vu hi)
    (h : Q (((sIx n 0 lo : Nat) : Int), 1, sIx n n hi - sIx n 0 lo) s) : wpAny (model prog w) A (Builtin.Slice.sliceApplied (.ref sl) (pure (n : Int))) Q E s := by
  obtain ⟨os, hos, hcs, hds⟩ := id hs
  unfold Builtin.Slice.sliceApplied Builtin.Slice.sliceFields
  refine wpAny_bind (wpAny_bind (wpAny_field hos hds (x := vl) rfl (wpAny_bind (wpAny_field hos hds (x := vu) rfl (wpAny_bind (wpAny_field hos hds (x := .none) rfl (wpAny_pure ?_)))))))
  refine wpAny_bind (slicePart_none ?_)
  show wpAny _ _ (if ((1 : Int) == 0) = true then _ else _) _ _ s
  rw [if_neg (by decide)]
  refine wpAny_bind (slicePart_ pl (wpAny_bind (slicePart_ pu (wpAny_bind (wpAny_pure ?_)))))
  show wpAny _ _ (match Builtin.Slice.sliceAdjust lo hi 1 (n : Int) with | (lo, hi) => pure (lo, (1 : Int), Builtin.Slice.slicePlaces lo hi 1)) _ _ s
  rw [adjust_gen lo hi n]
  show wpAny _ _ (pure (((sIx n 0 lo : Nat) : Int), (1 : Int), Builtin.Slice.slicePlaces ((sIx n 0 lo : Nat) : Int) ((sIx n n hi : Nat) : Int) 1)) _ _ s
  rw [places_gen]
  exact wpAny_pure h
theorem pick_gen (xs : Array Value) (i k : Nat) : ((List.range k).filterMap fun (m : Nat) => xs[((i : Int) + (m : Int) * 1).toNat]?).toArray = ((xs.toList.drop i).take k).toArray := by
  have e : (fun (m : Nat) => xs[((i : Int) + (m : Int) * 1).toNat]?) = fun m => xs[i + m]? := by
    funext m
    have : ((i : Int) + (m : Int) * 1).toNat = i + m := by omega
    rw [this]
  rw [e]
  have := pick_run xs i k
  rw [List.filterMap_map] at this
  have e2 : ((fun x => xs[x]?) ∘ fun x => i + x) = fun m => xs[i + m]? := rfl
  rw [e2] at this
  rw [this]

theorem getItem_tuple_cut {t sl : Addr} {items : Array Value} {vl vu : Value} {lo hi : Option Int} {Q : Value → Shared → Prop} (ht : IsTup s.heap t items) (hs : s.heap.IsSliceOf sl vl vu .none) (pl : IsPart vl lo) (pu : IsPart vu hi)
    (hw : ¬ (sIx items.size 0 lo = 0 ∧ sIx items.size items.size hi = items.size))
    (h : Q (.ref s.heap.objs.size) { s with heap := s.heap.push { cls := .type "tuple", data := .seq ((items.toList.drop (sIx items.size 0 lo)).take (sIx items.size items.size hi - sIx items.size 0 lo)).toArray } })
    (hsz : items.size ≤ sizeLine) : wpAny (model prog w) A (getItem (.ref t) (.ref sl)) Q E s := by
  have htake : sizeOk (.seq ((items.toList.drop (sIx items.size 0 lo)).take (sIx items.size items.size hi - sIx items.size 0 lo)).toArray) := by
    show ((items.toList.drop (sIx items.size 0 lo)).take (sIx items.size items.size hi - sIx items.size 0 lo)).toArray.size ≤ sizeLine
    rw [List.size_toArray, List.length_take, List.length_drop, Array.length_toList]
    omega
  have hj : sIx items.size items.size hi ≤ items.size := sIx_le _ _ (Nat.le_refl _) hi
  obtain ⟨os, hos, hcs, hds⟩ := id hs
  have hTs : s.TypeIs (.ref sl) "slice" := ⟨os, hos, hcs⟩
  unfold getItem
  try with_reducible refine wpAny_holding ?_
  first | refine wpAny_bind (wpAny_pure ?_) | skip
  refine wpAny_bind (wpAny_sequenceKey ht.typeIs (by decide) ?_)
  refine wpAny_bind (wpAny_callSpecial?_slot (name := Str.ofString "__getitem__") ht.typeIs PyProof.Rows.slot_tuple_getitem
    (wpAny_call_entry PyProof.Rows.slot_tuple_getitem ht.typeIs entry_tuple_getitem ?_ (args_tuple_getitem _ _)))
  show wpAny _ _ (Builtin.Tuple.tupleItemsOf (.ref t) >>= _) _ _ s
  refine wpAny_bind (tupleItemsOf_ ht ?_)
  refine wpAny_bind (wpAny_typeOf hTs ?_)
  rw [if_pos (by decide)]
  refine wpAny_bind (sliceApplied_gen hs pl pu ?_)
  have hno : ¬ ((((sIx items.size 0 lo : Nat) : Int) == 0 && (1 : Int) == 1 && (sIx items.size items.size hi - sIx items.size 0 lo) == items.size) = true) := by
    intro q
    rw [Bool.and_eq_true, Bool.and_eq_true] at q
    have q1 : ((sIx items.size 0 lo : Nat) : Int) = 0 := eq_of_beq q.1.1
    have q2 : sIx items.size items.size hi - sIx items.size 0 lo = items.size := eq_of_beq q.2
    exact hw ⟨by omega, by omega⟩
  show wpAny _ _ (if (((sIx items.size 0 lo : Nat) : Int) == 0 && (1 : Int) == 1 && (sIx items.size items.size hi - sIx items.size 0 lo) == items.size) = true then _ else _) _ _ s
  rw [if_neg hno, pick_gen]
  first
    | exact wpAny_bind (m := Builtin.Tuple.tupleExact _) (wpAny_newObj_type (wpAny_pure ⟨_, rfl, wpAny_pure h⟩) htake)
    | exact wpAny_bind (m := Builtin.Tuple.tupleExact _) (wpAny_newObj_type (wpAny_bind (wpAny_pure (wpAny_pure ⟨_, rfl, wpAny_pure h⟩))) htake)
    | exact wpAny_bind (wpAny_bind (m := Builtin.Tuple.tupleExact _) (wpAny_newObj_type (wpAny_pure (wpAny_pure ⟨_, rfl, wpAny_pure h⟩)) htake))
    | exact wpAny_bind (wpAny_bind (m := Builtin.Tuple.tupleExact _) (wpAny_newObj_type (wpAny_pure ⟨_, rfl, wpAny_pure h⟩) htake))
end
end HT

namespace L2
open PySem PySem.Spec PyProof.Rows

noncomputable abbrev TO := St → Hp → (Option Int → Hp → Prop) → Prop
noncomputable def PO (X : Cx) (e : Option Expr) (t : TO) : Prop :=
  ∀ (pins : List (Addr × Obj)) (s : Shared) (σ : St) (H : Hp) (Q : Option Int → Hp → Prop), Inv X pins σ H s → t σ H Q →
    wpAny (model X.prog X.w) X.A (evalPart e X.env) (fun u s' => ∃ o H', Inv X pins σ H' s' ∧ IsPart u o ∧ Q o H') X.xe s
noncomputable def tNoPart : TO := fun _ H Q => Q none H
noncomputable def tPart (t : TE) : TO := fun σ H Q => t σ H fun x H1 => ∃ i, x = .int i ∧ Q (some i) H1

section
variable {X : Cx} {e : Expr} {te : TE} {lo hi : Option Expr} {tl th : TO} {pos p2 : Pos}

theorem po_none : PO X none tNoPart := by
  intro pins s σ H Q I h
  rw [evalPart_none]
  exact wpAny_pure ⟨none, H, I, .none, h⟩
theorem po_some (h : PE X e te) : PO X (some e) (tPart te) := by
  intro pins s σ H Q I hw
  rw [evalPart_some]
  refine thn (h pins s σ H _ I hw) fun u s1 ⟨x, H1, I1, r1, q1⟩ => ?_
  obtain ⟨i, rfl, q⟩ := q1
  obtain ⟨t, rfl⟩ := r1
  exact ⟨some i, H1, I1, .int i t, q⟩

noncomputable def SlR (X : Cx) (r : V → Option Int → Option Int → Hp → VK → Prop) : Prop :=
  ∀ (pins : List (Addr × Obj)) (s : Shared) (σ : St) (H : Hp) (x : V) (v vl vu : Value) (lo hi : Option Int) (sl : Addr) (Q : VK), Inv X pins σ H s → RelV x v → s.heap.IsSliceOf sl vl vu .none → IsPart vl lo → IsPart vu hi → r x lo hi H Q →
    ∃ T id, typeLookup (.type T) "__getitem__" = pure (some (.builtin id)) ∧ s.TypeIs v T ∧ wpAny (model X.prog X.w) X.A (getItem v (.ref sl)) (EP X pins σ Q) X.xe s
theorem SlR.or {r r' : V → Option Int → Option Int → Hp → VK → Prop} (h : SlR X r) (h' : SlR X r') : SlR X (fun x lo hi H Q => r x lo hi H Q ∨ r' x lo hi H Q) := by
  intro pins s σ H x v vl vu lo hi sl Q I rx hs pl pu q
  rcases q with q | q
  · exact h pins s σ H x v vl vu lo hi sl Q I rx hs pl pu q
  · exact h' pins s σ H x v vl vu lo hi sl Q I rx hs pl pu q
noncomputable def tSl (r : V → Option Int → Option Int → Hp → VK → Prop) (te : TE) (tl th : TO) : TE := fun σ H Q => te σ H fun x H1 => tl σ H1 fun l H2 => th σ H2 fun u H3 => r x l u H3 Q
theorem pe_slice {r : V → Option Int → Option Int → Hp → VK → Prop} (hr : SlR X r) (he : PE X e te) (hl : PO X lo tl) (hu : PO X hi th) : PE X (.Subscript e (.Slice lo hi none p2) pos) (tSl r te tl th) := by
  intro pins s σ H Q I h
  refine Subscript_ (thn (he pins s σ H _ I h) fun v s1 ⟨x, H1, I1, r1, q1⟩ => ?_)
  refine wpAny_Slice (thn (hl pins s1 σ H1 _ I1 q1) fun vl s2 ⟨l, H2, I2, pl, q2⟩ => thn (hu pins s2 σ H2 _ I2 q2) fun vu s3 ⟨u, H3, I3, pu, q3⟩ => ?_)
  rw [evalPart_none]
  refine wpAny_pure ?_
  have I4 : Inv X pins σ H3 { s3 with heap := s3.heap.push { cls := .type "slice", data := .fields #[vl, vu, .none] } } := I3.kept (t' := s3.toks) fun b ob q => Heap.get?_push_of_some _ q
  obtain ⟨T, id, hT, ht, hg⟩ := hr pins { s3 with heap := s3.heap.push { cls := .type "slice", data := .fields #[vl, vu, .none] } } σ H3 x v vl vu l u s3.heap.objs.size Q I4 r1 (Heap.IsSliceOf.new ..) pl pu q3
  show wpAny (model X.prog X.w) X.A (subscriptTail e (.Slice lo hi none p2) v (.ref s3.heap.objs.size)) (EP X pins σ Q) X.xe { s3 with heap := s3.heap.push { cls := .type "slice", data := .fields #[vl, vu, .none] } }
  exact tail_any (ops := [.ref s3.heap.objs.size, v]) ht hT hg (by with_unfolding_all rfl)

noncomputable def cutV (xs : List V) (lo hi : Option Int) : List V := (xs.drop (HT.sIx xs.length 0 lo)).take (HT.sIx xs.length xs.length hi - HT.sIx xs.length 0 lo)
theorem cutV_length (xs : List V) (lo hi : Option Int) : (cutV xs lo hi).length ≤ xs.length := by
  unfold cutV
  rw [List.length_take, List.length_drop]
  omega
noncomputable def rSlT (K : PySem.W.Frag) : V → Option Int → Option Int → Hp → VK → Prop := fun x lo hi H Q => ∃ a xs, x = .ref a ∧ SqT K H a xs ∧
  ¬ (HT.sIx xs.length 0 lo = 0 ∧ HT.sIx xs.length xs.length hi = xs.length) ∧ ∀ p, H p = none → Q (.ref p) (upd H p (.tup (cutV xs lo hi)))
theorem sl_tup : SlR X (rSlT X.K) := by
  intro pins s σ H x v vl vu lo hi sl Q I rx hs pl pu h
  obtain ⟨a, xs, rfl, hx, hw, q⟩ := h
  cases rx
  obtain ⟨its, r, ht, hz⟩ := I.tuple hx
  have hlen : its.toArray.size = xs.length := by rw [List.size_toArray]; exact r.length.symm
  refine ⟨"tuple", _, PyProof.Rows.slot_tuple_getitem.lookup, ht.typeIs, ?_⟩
  refine HT.getItem_tuple_cut ht hs pl pu (by rw [hlen]; exact hw) ?_ (by rw [hlen]; exact hz)
  rw [hlen]
  refine ⟨.ref s.heap.objs.size, _, I.laid (t' := s.toks) (o := .tup (cutV xs lo hi)) (fun b ob q => Heap.get?_push_of_some _ q) (Nat.le_refl _) ?_, rfl, q _ (I.hok.fresh (Nat.le_refl _))⟩
  exact ⟨Nat.le_trans (cutV_length xs lo hi) hz, _, (r.drop (HT.sIx xs.length 0 lo)).take (HT.sIx xs.length xs.length hi - HT.sIx xs.length 0 lo), IsTup.new _ _⟩

noncomputable def rCatT (K : PySem.W.Frag) : R2 := fun x y H Q => ∃ a b xs ys, x = .ref a ∧ y = .ref b ∧ SqT K H a xs ∧ SqT K H b ys ∧ xs ≠ [] ∧ xs.length + ys.length ≤ sizeLine ∧
  (ys = [] → Q (.ref a) H) ∧ (ys ≠ [] → ∀ p, H p = none → Q (.ref p) (upd H p (.tup (xs ++ ys))))
theorem Vals.nil_iff {xs : List V} {us : List Value} (r : Vals xs us) : us = [] ↔ xs = [] := by
  cases r with
  | nil => simp
  | cons _ _ => simp
theorem op_catT : OpR X (binaryOp .Add) (rCatT X.K) := by
  intro pins s σ H x y v u Q I rx ry h
  obtain ⟨a, b, xs, ys, rfl, rfl, ha, hb, hx, hz, q1, q2⟩ := h
  cases rx
  cases ry
  obtain ⟨its, r1, p1, _⟩ := I.tuple ha
  obtain ⟨its2, r2, p2, _⟩ := I.tuple hb
  refine HT.cat_tup p1 p2 (fun z => hx (r1.nil_iff.mp z)) (fun z => ⟨.ref a, H, I, rfl, q1 (r2.nil_iff.mp z)⟩) (fun z => ?_) (by rw [← r1.length, ← r2.length]; exact hz)
  refine ⟨.ref s.heap.objs.size, _, I.laid (t' := s.toks) (o := .tup (xs ++ ys)) (fun b ob q => Heap.get?_push_of_some _ q) (Nat.le_refl _) ?_, rfl, q2 (fun w => z (r2.nil_iff.mpr w)) _ (I.hok.fresh (Nat.le_refl _))⟩
  exact ⟨by rw [List.length_append]; exact hz, _, r1.append r2, IsTup.new _ _⟩
end
end L2

namespace L2
open PySem PySem.Spec PyProof.Rows

noncomputable def ixN (n : Nat) (i : Int) : Option Nat := if 0 ≤ i then (if i < n then some i.toNat else none) else if -(n : Int) ≤ i then some (i + n).toNat else none
noncomputable def atI {α : Type} (xs : List α) (i : Int) : Option α := (ixN xs.length i).bind fun j => xs[j]?
theorem ixN_seq {n : Nat} {i : Int} {j : Nat} (h : ixN n i = some j) : seqIndex? i n = some j ∧ j < n ∧ -(n : Int) ≤ i ∧ i < n := by
  unfold ixN at h
  by_cases h0 : 0 ≤ i
  · rw [if_pos h0] at h
    by_cases h1 : i < n
    · rw [if_pos h1] at h
      have e : i.toNat = j := Option.some.inj h
      exact ⟨by rw [seqIndex_of h0 h1, e], by omega, by omega, h1⟩
    · rw [if_neg h1] at h; cases h
  · rw [if_neg h0] at h
    by_cases h1 : -(n : Int) ≤ i
    · rw [if_pos h1] at h
      have e : (i + n).toNat = j := Option.some.inj h
      exact ⟨by rw [seqIndex_neg (by omega) h1, e], by omega, h1, by omega⟩
    · rw [if_neg h1] at h; cases h
theorem atI_get {α : Type} {xs : List α} {i : Int} {v : α} (h : atI xs i = some v) : ∃ j, seqIndex? i xs.length = some j ∧ xs[j]? = some v ∧ j < xs.length ∧ -(xs.length : Int) ≤ i ∧ i < xs.length := by
  unfold atI at h
  cases e : ixN xs.length i with
  | none => rw [e] at h; cases h
  | some j =>
    rw [e] at h
    obtain ⟨h1, h2, h3, h4⟩ := ixN_seq e
    exact ⟨j, h1, h, h2, h3, h4⟩
theorem atI_nat {α : Type} {xs : List α} {j : Nat} {v : α} (h : xs[j]? = some v) : atI xs (j : Int) = some v := by
  have hj : j < xs.length := (List.getElem?_eq_some_iff.mp h).1
  have e : ixN xs.length (j : Int) = some j := by
    unfold ixN
    rw [if_pos (by omega), if_pos (by omega)]; simp
  unfold atI; rw [e]; exact h
noncomputable def PlainIx (b : Expr) : Prop := ∀ o i, subscripted b false o i = operate [o, i] (getItem o i)
noncomputable def IxR (X : Cx) (r : R2) : Prop :=
  ∀ (value slice : Expr) (pins : List (Addr × Obj)) (s : Shared) (σ : St) (H : Hp) (x y : V) (v u : Value) (Q : VK), Inv X pins σ H s → RelV x v → RelV y u → r x y H Q →
    subscripted slice false v u = operate [v, u] (getItem v u) → wpAny (model X.prog X.w) X.A (subscriptTail value slice v u) (EP X pins σ Q) X.xe s
noncomputable def MtR (X : Cx) (id : String) (r : V → List V → Hp → VK → Prop) : Prop :=
  ∀ (pins : List (Addr × Obj)) (s : Shared) (σ : St) (H : Hp) (x : V) (xs : List V) (v : Value) (us : List Value) (Q : VK), Inv X pins σ H s → RelV x v → Vals xs us → r x xs H Q →
    wpAny (model X.prog X.w) X.A (call (.builtin id) (v :: us)) (EP X pins σ Q) X.xe s
section
variable {X : Cx} {a b : Expr} {ta tb : TE} {pos : Pos}
theorem IxR.or {r r' : R2} (h : IxR X r) (h' : IxR X r') : IxR X (fun x y H Q => r x y H Q ∨ r' x y H Q) := by
  intro value slice pins s σ H x y v u Q I rx ry q hs
  rcases q with q | q
  · exact h value slice pins s σ H x y v u Q I rx ry q hs
  · exact h' value slice pins s σ H x y v u Q I rx ry q hs
theorem MtR.or {id : String} {r r' : V → List V → Hp → VK → Prop} (h : MtR X id r) (h' : MtR X id r') : MtR X id (fun x xs H Q => r x xs H Q ∨ r' x xs H Q) := by
  intro pins s σ H x xs v us Q I rx rs q
  rcases q with q | q
  · exact h pins s σ H x xs v us Q I rx rs q
  · exact h' pins s σ H x xs v us Q I rx rs q
theorem pe_ix {r : R2} (hr : IxR X r) (ha : PE X a ta) (hb : PE X b tb) (hs : PlainIx b) : PE X (.Subscript a b pos) (tOp r ta tb) := by
  intro pins s σ H Q I h
  exact Subscript_ (binT ha hb I h fun v u s2 x y H2 I2 rx ry q => hr a b pins s2 σ H2 x y v u Q I2 rx ry q (hs _ _))

noncomputable def rIxL (K : PySem.W.Frag) : R2 := fun x y H Q => ∃ p xs i v, x = .ref p ∧ y = .int i ∧ SqL K H p xs ∧ atI xs i = some v ∧ Q v H
noncomputable def rIxT (K : PySem.W.Frag) : R2 := fun x y H Q => ∃ p xs i v, x = .ref p ∧ y = .int i ∧ SqT K H p xs ∧ atI xs i = some v ∧ Q v H
noncomputable def rIxS : R2 := fun x y H Q => ∃ z i c, x = .str z ∧ y = .int i ∧ z.length ≤ sizeLine ∧ atI z.cps.toList i = some c ∧ Q (.str ⟨#[c]⟩) H
theorem ix_list : IxR X (rIxL X.K) := by
  intro value slice pins s σ H x y v u Q I rx ry h hs
  obtain ⟨p, xs, i, z, rfl, rfl, hq, he, q⟩ := h
  cases rx
  obtain ⟨t, rfl⟩ := ry
  obtain ⟨its, r, pl, hz⟩ := I.list hq
  obtain ⟨j, h1, h2, h3, h4, h5⟩ := atI_get he
  obtain ⟨w, ew, rw'⟩ := r.get h2
  have hl := r.length
  have hn := line63
  have fin : EP X pins σ Q w s := ⟨z, H, I, rw', q⟩
  by_cases h0 : 0 ≤ i
  · have hj : i.toNat = j := by
      rw [seqIndex_of h0 h5] at h1
      exact Option.some.inj h1
    exact item_listR pl.isList h0 (by omega) (by rw [hj]; simpa using ew) fin hs
  · have hj : (i + (its.toArray.size : Int)).toNat = j := by
      rw [seqIndex_neg (by omega) h4] at h1
      rw [List.size_toArray, ← hl]
      exact Option.some.inj h1
    exact subscriptTail_builtinR (x := w) pl.isList.typeIs slot_list_getitem.lookup
      (wpAny_getItem_list_neg (Q := fun r s' => r = w ∧ EP X pins σ Q r s') pl.isList (by omega) (by rw [List.size_toArray] <;> omega) (by omega) (by rw [hj]; simpa using ew) ⟨rfl, fin⟩) hs
theorem ix_tup : IxR X (rIxT X.K) := by
  intro value slice pins s σ H x y v u Q I rx ry h hs
  obtain ⟨p, xs, i, z, rfl, rfl, hq, he, q⟩ := h
  cases rx
  obtain ⟨t, rfl⟩ := ry
  obtain ⟨its, r, pl, hz⟩ := I.tuple hq
  obtain ⟨j, h1, h2, h3, h4, h5⟩ := atI_get he
  obtain ⟨w, ew, rw'⟩ := r.get h2
  have hl := r.length
  have hn := line63
  have fin : EP X pins σ Q w s := ⟨z, H, I, rw', q⟩
  exact subscriptTail_builtinR (x := w) pl.typeIs slot_tuple_getitem.lookup
    (getItem_tuple (j := j) (Q := fun r s' => r = w ∧ EP X pins σ Q r s') pl (by omega) (by omega) (by rw [List.size_toArray, ← hl]; exact h1) (by simpa using ew) ⟨rfl, fin⟩) hs
theorem ix_str : IxR X rIxS := by
  intro value slice pins s σ H x y v u Q I rx ry h hs
  obtain ⟨z, i, c, rfl, rfl, hz, he, q⟩ := h
  obtain ⟨t, rfl⟩ := rx
  obtain ⟨t', rfl⟩ := ry
  obtain ⟨j, h1, h2, h3, h4, h5⟩ := atI_get he
  have hl : z.cps.toList.length = z.length := by simp [Str.length]
  rw [hl] at h1 h4 h5
  have hn := line63
  exact tail_any (typeIs_str s z t) slot_str_getitem.lookup (getItem_str (c := c) (by
    have e1 : decide (i < -(2 ^ 63 : Int)) = false := decide_eq_false (by omega)
    have e2 : decide (i ≥ 2 ^ 63) = false := decide_eq_false (by omega)
    rw [e1, e2, Bool.or_false]) (by rw [h1]; simpa using h2) ⟨.str ⟨#[c]⟩, H, I.tok _, ⟨_, rfl⟩, q⟩) hs
theorem mapSeq_set (its : List Value) (n j : Nat) (u : Value) : Obj.mapSeq (·.setIfInBounds j u) { cls := .type "list", data := .seq its.toArray n } = { cls := .type "list", data := .seq (its.set j u).toArray n } := by
  simp [Obj.mapSeq]
theorem Inv.lst {pins : List (Addr × Obj)} {σ : St} {H : Hp} {s : Shared} {p : Addr} {xs : List V} (I : Inv X pins σ H s) (h : H p = some (.lst xs)) :
    ∃ (its : List Value) (n : Nat), Vals xs its ∧ s.heap.get? p = some { cls := .type "list", data := .seq its.toArray n } ∧ xs.length ≤ sizeLine := by
  obtain ⟨z, its, n, r, e⟩ := I.hok p _ h
  exact ⟨its, n, r, e, z⟩
theorem Inv.lstUpd {pins : List (Addr × Obj)} {σ : St} {H : Hp} {s : Shared} {p : Addr} {xs ys : List V} {its its' : List Value} {n n' : Nat} {f : Obj → Obj} (I : Inv X pins σ H s) (h : H p = some (.lst xs))
    (ho : s.heap.get? p = some { cls := .type "list", data := .seq its.toArray n }) (hf : f { cls := .type "list", data := .seq its.toArray n } = { cls := .type "list", data := .seq its'.toArray n' }) (r : Vals ys its') (hz : ys.length ≤ sizeLine) (t : Nat) :
    Inv X pins σ (upd H p (.lst ys)) { s with heap := s.heap.update p f, toks := t } := by
  have e : (s.heap.update p f).get? p = some { cls := .type "list", data := .seq its'.toArray n' } := by
    rw [Heap.get?_update_self f ho (by rw [hf] <;> rfl), hf]
  refine I.write (x := p) (e := p) (by rw [h]; trivial) (.inl rfl) (fun b u hb q => (Heap.get?_update_other _ _ (Ne.symm hb)).trans q) ⟨_, e⟩ ?_
  exact ⟨hz, its', n', r, e⟩
noncomputable def rSetL : V → V → V → Hp → (Hp → Prop) → Prop := fun o i v H Q => ∃ p xs k j, o = .ref p ∧ i = .int k ∧ H p = some (.lst xs) ∧ ixN xs.length k = some j ∧ Q (upd H p (.lst (xs.set j v)))
theorem set_list : PSet X rSetL := by
  intro pins s σ H o i v ov iv u Q I ro ri rv h
  obtain ⟨p, xs, k, j, rfl, rfl, hp, hj, q⟩ := h
  cases ro
  obtain ⟨t, rfl⟩ := ri
  obtain ⟨its, n, r, ho, hz⟩ := I.lst hp
  obtain ⟨h1, h2, h3, h4⟩ := ixN_seq hj
  have hl := r.length
  have hn := line63
  have I' : Inv X pins σ (upd H p (.lst (xs.set j v))) { s with heap := s.heap.update p (Obj.mapSeq (·.setIfInBounds j u)) } :=
    I.lstUpd hp ho (mapSeq_set its n j u) (r.set rv j) (by rw [List.length_set]; exact hz) s.toks
  by_cases h0 : 0 ≤ k
  · have hk : k.toNat = j := by
      rw [seqIndex_of h0 h4] at h1
      exact Option.some.inj h1
    exact PySem.W.ki_setAt ho h0 (by omega) (by rw [List.size_toArray, ← hl]; exact h4) (by rw [hk]; exact ⟨_, I', q⟩)
  · have hk : (k + (its.toArray.size : Int)).toNat = j := by
      rw [seqIndex_neg (by omega) h3] at h1
      rw [List.size_toArray, ← hl]
      exact Option.some.inj h1
    exact PySem.W.ki_setBack ho (by omega) (by rw [List.size_toArray, ← hl]; exact h3) (by omega) (by rw [hk]; exact ⟨_, I', q⟩)

theorem slice_bounds (lo hi : Option Int) (n : Nat) : (sliceBounds lo hi none n).1 = ((HT.sIx n 0 lo : Nat) : Int) ∧ (sliceBounds lo hi none n).2.1 = ((HT.sIx n n hi : Nat) : Int) ∧ (sliceBounds lo hi none n).2.2 = 1 := by
  refine ⟨?_, ?_, rfl⟩
  · cases lo with
    | none => simp [sliceBounds, HT.sIx]
    | some i =>
      simp only [sliceBounds, HT.sIx, Option.getD_none, show (1 : Int) > 0 by decide, if_true]
      by_cases h : i < 0
      · simp only [h, if_true] <;> omega
      · simp only [h, if_false] <;> omega
  · cases hi with
    | none => simp [sliceBounds, HT.sIx]
    | some i =>
      simp only [sliceBounds, HT.sIx, Option.getD_none, show (1 : Int) > 0 by decide, if_true]
      by_cases h : i < 0
      · simp only [h, if_true] <;> omega
      · simp only [h, if_false] <;> omega
theorem slicePick_cut (its : List Value) (lo hi : Option Int) : slicePick its.toArray lo hi none = ((its.drop (HT.sIx its.length 0 lo)).take (HT.sIx its.length its.length hi - HT.sIx its.length 0 lo)).toArray := by
  obtain ⟨h1, h2, h3⟩ := slice_bounds lo hi its.toArray.size
  unfold slicePick
  rw [h1, h2, h3]
  simp only [sliceRange_one, pick_run, List.size_toArray] <;> rfl
noncomputable def rSlL (K : PySem.W.Frag) : V → Option Int → Option Int → Hp → VK → Prop := fun x lo hi H Q => ∃ a xs, x = .ref a ∧ SqL K H a xs ∧ ∀ p, H p = none → Q (.ref p) (upd H p (.lst (cutV xs lo hi)))
theorem sl_list : SlR X (rSlL X.K) := by
  intro pins s σ H x v vl vu lo hi sl Q I rx hs pl pu h
  obtain ⟨a, xs, rfl, hx, q⟩ := h
  cases rx
  obtain ⟨its, r, ht, hz⟩ := I.list hx
  have hlen := r.length
  refine ⟨"list", _, slot_list_getitem.lookup, ht.isList.typeIs, ?_⟩
  refine wpAny_getItem_list_slice ht.isList hs pl pu .none (by simp) ?_ (by rw [List.size_toArray] <;> omega)
  rw [slicePick_cut, ← hlen]
  refine ⟨.ref s.heap.objs.size, _, I.laid (t' := s.toks) (o := .lst (cutV xs lo hi)) (fun b ob q => Heap.get?_push_of_some _ q) (Nat.le_refl _) ?_, rfl, q _ (I.hok.fresh (Nat.le_refl _))⟩
  exact ⟨Nat.le_trans (cutV_length xs lo hi) hz, _, 0, (r.drop (HT.sIx xs.length 0 lo)).take (HT.sIx xs.length xs.length hi - HT.sIx xs.length 0 lo), Heap.get?_push_size _ rfl⟩

theorem call_len_seq : CallR X (.builtin "len") (fun xs H Q => ∃ p ys, xs = [.ref p] ∧ (SqL X.K H p ys ∨ SqT X.K H p ys) ∧ Q (.int ys.length) H) := by
  intro pins s σ H xs us Q I r h
  obtain ⟨p, ys, rfl, hq, q⟩ := h
  obtain ⟨u, rfl, rx⟩ := vals1 r
  cases rx
  have hn := line63
  rcases hq with hq | hq
  · obtain ⟨its, r', pl, hz⟩ := I.list hq
    have hlen := r'.length
    exact Calls.call_len_list pl.isList (by simp only [List.size_toArray] <;> omega) ⟨.int ys.length, H, I.tok _, ⟨s.toks + 1, by rw [List.size_toArray, hlen]⟩, q⟩
  · obtain ⟨its, r', pl, hz⟩ := I.tuple hq
    have hlen := r'.length
    exact len_tuple pl (by simp only [List.size_toArray] <;> omega) ⟨.int ys.length, H, I.tok _, ⟨s.toks + 1, by rw [List.size_toArray, hlen]⟩, q⟩
theorem call_len_str : CallR X (.builtin "len") (fun xs H Q => ∃ z, xs = [.str z] ∧ z.length ≤ sizeLine ∧ Q (.int z.length) H) := by
  intro pins s σ H xs us Q I r h
  obtain ⟨z, rfl, hz, q⟩ := h
  obtain ⟨u, rfl, t, rfl⟩ := vals1 r
  have hn := line63
  exact len_str (by omega) ⟨.int z.length, H, I.tok _, ⟨_, rfl⟩, q⟩
theorem CallR.or {f : Value} {r r' : List V → Hp → VK → Prop} (h : CallR X f r) (h' : CallR X f r') : CallR X f (fun xs H Q => r xs H Q ∨ r' xs H Q) := by
  intro pins s σ H xs us Q I rs q
  rcases q with q | q
  · exact h pins s σ H xs us Q I rs q
  · exact h' pins s σ H xs us Q I rs q
theorem call_list_of : CallR X (.type "list") (fun xs H Q => ∃ p ys, xs = [.ref p] ∧ (SqL X.K H p ys ∨ SqT X.K H p ys) ∧ ∀ l, H l = none → Q (.ref l) (upd H l (.lst ys))) := by
  intro pins s σ H xs us Q I r h
  obtain ⟨p, ys, rfl, hq, q⟩ := h
  obtain ⟨u, rfl, rx⟩ := vals1 r
  cases rx
  have fin : ∀ (its : List Value), Vals ys its → ys.length ≤ sizeLine → ∀ (h' : Heap) (c' : Nat), (∀ b o', s.heap.get? b = some o' → h'.get? b = some o') →
      h'.get? s.heap.objs.size = some { cls := .type "list", dict := none, data := .seq its.toArray c', slots := #[] } → EP X pins σ Q (.ref s.heap.objs.size) { s with heap := h' } := fun its r' hz h' c' kp e =>
    ⟨.ref s.heap.objs.size, _, I.laid (t' := s.toks) kp (Nat.le_refl _) (show ObjOk X.prog X.w _ h' _ (.lst ys) from ⟨hz, its, c', r', e⟩), rfl, q _ (I.hok.fresh (Nat.le_refl _))⟩
  rcases hq with hq | hq
  · obtain ⟨its, r', pl, hz⟩ := I.list hq
    have hlen := r'.length
    obtain ⟨o, ho, hc, n, hd⟩ := pl.isList
    exact call_list_seq p (.inl rfl) ho hc hd (fun h' c' kp e => fin its r' hz h' c' kp e) (by simp only [List.size_toArray] <;> omega)
  · obtain ⟨its, r', pl, hz⟩ := I.tuple hq
    have hlen := r'.length
    obtain ⟨o, ho, hc, n, hd⟩ := pl
    exact call_list_seq p (.inr rfl) ho hc hd (fun h' c' kp e => fin its r' hz h' c' kp e) (by simp only [List.size_toArray] <;> omega)
noncomputable def tyV (K : PySem.W.Frag) (T : String) (x : V) (H : Hp) : Prop := match x with
  | .str _ => T = "str"
  | .int _ => T = "int"
  | .ref p => (T = "list" ∧ ∃ xs, SqL K H p xs) ∨ (T = "tuple" ∧ ∃ o, K.lookup p = some o ∧ o.cls = .type "tuple" ∧ o.dict = none) ∨
      (T = "dict" ∧ ((∃ kvs, H p = some (.dK kvs)) ∨ ∃ kvs, H p = some (.dT kvs))) ∨ (T = "set" ∧ ∃ S n, H p = some (.set S n))
  | _ => False
theorem tyV_is {pins : List (Addr × Obj)} {σ : St} {H : Hp} {s : Shared} {T : String} {x : V} {v : Value} (I : Inv X pins σ H s) (r : RelV x v) (ty : tyV X.K T x H) :
    s.TypeIs v T ∧ ∀ a, v = .ref a → ∃ ob, s.heap.get? a = some ob ∧ ob.dict = none := by
  cases x with
  | str z =>
    obtain ⟨t, rfl⟩ := r
    cases (show T = "str" from ty)
    exact ⟨typeIs_str s z t, fun _ e => nomatch e⟩
  | int i =>
    obtain ⟨t, rfl⟩ := r
    cases (show T = "int" from ty)
    exact ⟨typeIs_int s i t, fun _ e => nomatch e⟩
  | ref p =>
    cases r
    rcases ty with ⟨rfl, xs, hq⟩ | ⟨rfl, o, hk, hc, hd⟩ | ⟨rfl, hk⟩ | ⟨rfl, S, n, hk⟩
    · obtain ⟨its, _, pl, _⟩ := I.list hq
      refine ⟨pl.isList.typeIs, fun a e => ?_⟩
      cases e
      obtain ⟨o, n, e, c, hd, _⟩ := pl
      exact ⟨o, e, hd⟩
    · refine ⟨⟨o, I.kIn p o hk, hc⟩, fun a e => ?_⟩
      cases e
      exact ⟨o, I.kIn _ o hk, hd⟩
    · have z : ∃ o, s.heap.get? p = some o ∧ o.ExactDict := by
        rcases hk with ⟨kvs, hk⟩ | ⟨kvs, hk⟩
        · obtain ⟨_, _, _, _, o, _, _, e, ex, _⟩ := I.hok p _ hk
          exact ⟨o, e, ex⟩
        · obtain ⟨_, _, _, _, o, _, _, e, ex, _⟩ := I.hok p _ hk
          exact ⟨o, e, ex⟩
      obtain ⟨o, e, ex⟩ := z
      refine ⟨⟨o, e, ex.1⟩, fun a e2 => ?_⟩
      cases e2
      exact ⟨o, e, ex.2.1⟩
    · obtain ⟨o, _, _, _, e, ex, _⟩ := I.hok p _ hk
      refine ⟨⟨o, e, ex.1⟩, fun a e2 => ?_⟩
      cases e2
      exact ⟨o, e, ex.2.1⟩
  | _ => exact False.elim ty
noncomputable def tBM0 (K : PySem.W.Frag) (T : String) (r : V → List V → Hp → VK → Prop) (to : TE) : TE := fun σ H Q => to σ H fun x H1 => tyV K T x H1 ∧ r x [] H1 Q
noncomputable def tBM (K : PySem.W.Frag) (T : String) (r : V → List V → Hp → VK → Prop) (to : TE) (t : TA) : TE := fun σ H Q => to σ H fun x H1 => tyV K T x H1 ∧ t σ H1 fun xs H2 => r x xs H2 Q
variable {o e : Expr} {es : List Expr} {to : TE} {t : TA} {name : Str} {apos cpos : Pos} {T id : String} {r : V → List V → Hp → VK → Prop}
theorem pe_bm0 (pa : PlainAttrs T) (slot : Slot T name id) (hty : typeOf (.builtin id) = pure (.type "method_descriptor")) (hm : MtR X id r) (ho : PE X o to)
    (hbase : attributeBase o name X.env (eval o X.env) = eval o X.env := by rfl) (hline : (apos.endLine == cpos.line) = true := by rfl) : PE X (.Call (.Attribute o name apos) [] [] cpos) (tBM0 X.K T r to) := by
  intro pins s σ H Q I h
  refine wpAny_Call_method0_late hbase hline (thn (ho pins s σ H _ I h) fun v s1 ⟨x, H1, I1, r1, ty, q1⟩ => ?_)
  obtain ⟨h1, h2⟩ := tyV_is I1 r1 ty
  exact ⟨T, id, pa, slot, hty, h1, h2, Calls.callWith_builtin rfl (PySem.evalArgs_none (hm pins s1 σ H1 x [] v [] Q I1 r1 .nil q1))⟩
theorem pe_bm (pa : PlainAttrs T) (slot : Slot T name id) (hty : typeOf (.builtin id) = pure (.type "method_descriptor")) (hm : MtR X id r) (ho : PE X o to) (ha : PA X (e :: es) t)
    (hbase : attributeBase o name X.env (eval o X.env) = eval o X.env := by rfl)
    (hfew : ((backTo cpos (starEach (e :: es) X.env)).all (fun x => !x.1) && (backToKw cpos (keywordEach [] X.env)).all (fun x => x.1.isSome)
      && decide ((e :: es).length + ([] : List Keyword).length + (if ([] : List Keyword).isEmpty then 0 else 1) < 30)) = true := by rfl)
    (hline : (apos.endLine == cpos.line) = true := by rfl) (hs : starEach (e :: es) X.env = (false, eval e X.env) :: starEach es X.env := by rfl) (hplain : (backTo cpos (starEach es X.env)).any (·.1) = false := by rfl) :
    PE X (.Call (.Attribute o name apos) (e :: es) [] cpos) (tBM X.K T r to t) := by
  intro pins s σ H Q I h
  refine wpAny_Call_method_late hbase hfew hline rfl (thn (ho pins s σ H _ I h) fun v s1 ⟨x, H1, I1, r1, ty, q1⟩ => ?_)
  obtain ⟨h1, h2⟩ := tyV_is I1 r1 ty
  refine ⟨T, id, pa, slot, hty, h1, h2, ?_⟩
  have hA := ha cpos pins s1 σ H1 _ I1 q1
  rw [hs] at hA ⊢
  refine Calls.callWith_builtin (by show (false || (backTo cpos (starEach es X.env)).any (·.1)) = false; rw [hplain] <;> rfl) (Calls.evalArgs_plain ?_)
  exact thn hA fun us s2 ⟨vs, H2, I2, r2, q2⟩ => hm pins s2 σ H2 x vs v us Q I2 r1 r2 q2
/- xs.append(e), list.index on a module's tuple .. are MtR facts of 06m -/
end
end L2

namespace L2
open PySem PySem.Spec PyProof.Rows

noncomputable def MtM (X : Cx) (id : String) (r : V → List V → Hp → VK → Prop) : Prop :=
  ∀ (pins : List (Addr × Obj)) (s : Shared) (σ : St) (H : Hp) (x : V) (xs : List V) (v : Value) (us : List Value) (Q : VK), Inv X pins σ H s → RelV x v → Vals xs us → r x xs H Q →
    wpAny (model X.prog X.w) X.A (call (.builtin id) (v :: us)) (EP X pins σ Q) X.xe s

theorem Vals.one : ∀ {x : V} {us : List Value}, Vals [x] us → ∃ u, us = [u] ∧ RelV x u
  | _, _, .cons r .nil => ⟨_, rfl, r⟩
theorem Vals.two : ∀ {x y : V} {us : List Value}, Vals [x, y] us → ∃ u v, us = [u, v] ∧ RelV x u ∧ RelV y v
  | _, _, _, .cons r (.cons q .nil) => ⟨_, _, rfl, r, q⟩
theorem Vals.zero : ∀ {us : List Value}, Vals [] us → us = []
  | _, .nil => rfl
theorem Vals.dropLast {xs : List V} {us : List Value} (h : Vals xs us) : Vals xs.dropLast us.dropLast := by
  induction h with
  | nil => exact .nil
  | cons r t ih =>
    cases t with
    | nil => exact .nil
    | cons q t' => exact .cons r ih
theorem Vals.eraseIdx : ∀ {xs : List V} {us : List Value} (i : Nat), Vals xs us → Vals (xs.eraseIdx i) (us.eraseIdx i)
  | _, _, _, .nil => .nil
  | _, _, 0, .cons _ t => t
  | _, _, i + 1, .cons r t => .cons r (Vals.eraseIdx i t)
theorem Vals.reverse {xs : List V} {us : List Value} (h : Vals xs us) : Vals xs.reverse us.reverse := by
  induction h with
  | nil => exact .nil
  | cons r t ih => rw [List.reverse_cons, List.reverse_cons]; exact Vals.append ih (.cons r .nil)
theorem Vals.rep {xs : List V} {us : List Value} (h : Vals xs us) : ∀ k : Nat, Vals (List.replicate k xs).flatten (List.replicate k us).flatten
  | 0 => .nil
  | k + 1 => by
    rw [List.replicate_succ, List.replicate_succ, List.flatten_cons, List.flatten_cons]
    exact Vals.append h (Vals.rep h k)
theorem erase_last {α : Type} (l : List α) : l.eraseIdx (l.length - 1) = l.dropLast := by
  induction l with
  | nil => rfl
  | cons a r ih =>
    cases r with
    | nil => rfl
    | cons b r =>
      have e : (a :: b :: r).length - 1 = ((b :: r).length - 1) + 1 := by
        have h1 : (a :: b :: r).length = r.length + 2 := rfl
        have h2 : (b :: r).length = r.length + 1 := rfl
        omega
      rw [e, List.eraseIdx_cons_succ, ih]
      all_goals rfl
theorem len_erase {α : Type} : ∀ (l : List α) (i : Nat), (l.eraseIdx i).length ≤ l.length
  | [], _ => Nat.le_refl _
  | _ :: _, 0 => Nat.le_succ _
  | _ :: r, i + 1 => Nat.succ_le_succ (len_erase r i)
theorem foldl_rep (its : List Value) : ∀ (k : Nat) (acc : List Value),
    List.foldl (fun x1 x2 => x1 ++ x2) acc.toArray (List.replicate k its.toArray) = (acc ++ (List.replicate k its).flatten).toArray
  | 0, acc => by simp
  | k + 1, acc => by
    have e : acc.toArray ++ its.toArray = (acc ++ its).toArray := by simp
    have e2 : (acc ++ its) ++ (List.replicate k its).flatten = acc ++ (List.replicate (k + 1) its).flatten := by
      rw [List.replicate_succ, List.flatten_cons, List.append_assoc]
    rw [← e2, ← foldl_rep its k (acc ++ its), ← e, List.replicate_succ, List.foldl_cons]

section
variable {X : Cx} {pins : List (Addr × Obj)} {σ : St} {H : Hp} {s : Shared} {l b : Addr} {xs ys zs : List V}

theorem Inv.lset {its its' : List Value} {n : Nat} {f : Array Value → Array Value} {t' : Nat} (I : Inv X pins σ H s) (hH : H l = some (.lst xs))
    (e : s.heap.get? l = some { cls := .type "list", data := .seq its.toArray n }) (hf : f its.toArray = its'.toArray) (hv : Vals ys its') (hz : ys.length ≤ sizeLine) :
    Inv X pins σ (upd H l (.lst ys)) { s with heap := s.heap.update l (Obj.mapSeq f), toks := t' } := by
  have q := PySem.IsL.update e f
  rw [hf] at q
  refine I.write (x := l) (e := l) (by rw [hH]; exact trivial) (.inl rfl) (fun b' u hb hu => (Heap.get?_update_other s.heap (Obj.mapSeq f) (Ne.symm hb)).trans hu) ⟨_, q⟩ ?_
  exact ⟨hz, its', _, hv, q⟩
theorem Inv.lnew {its : List Value} {t' : Nat} (I : Inv X pins σ H s) (hv : Vals ys its) (hz : ys.length ≤ sizeLine) :
    Inv X pins σ (upd H s.heap.objs.size (.lst ys)) { s with heap := s.heap.push { cls := .type "list", data := .seq its.toArray }, toks := t' } :=
  I.laid (fun _ _ q => Heap.get?_push_of_some _ q) (Nat.le_refl _) ⟨hz, its, 0, hv, Heap.get?_push_size _ rfl⟩
theorem Inv.fresh (I : Inv X pins σ H s) : H s.heap.objs.size = none := I.hok.fresh (Nat.le_refl _)
theorem Inv.lstM (I : Inv X pins σ H s) (hH : H l = some (.lst xs)) : xs.length ≤ sizeLine ∧ ∃ (its : List Value) (n : Nat), Vals xs its ∧ xs.length = its.length ∧ s.heap.get? l = some { cls := .type "list", data := .seq its.toArray n } := by
  obtain ⟨z, its, n, r, e⟩ := I.hok l _ hH
  exact ⟨z, its, n, r, r.length, e⟩

theorem notLongL {n : Nat} (h : n ≤ sizeLine) : Builtin.List.listTooLong n = false := by
  unfold Builtin.List.listTooLong
  exact decide_eq_false (by omega)
end

section
variable {X : Cx}

noncomputable def rAppend : V → List V → Hp → VK → Prop := fun x vs H Q => ∃ l xs y, x = .ref l ∧ vs = [y] ∧ H l = some (.lst xs) ∧ xs.length < sizeLine ∧ Q .non (upd H l (.lst (xs ++ [y])))
theorem mt_append : MtM X "list.append" rAppend := by
  intro pins s σ H x vs v us Q I rx rv h
  obtain ⟨l, xs, y, rfl, rfl, hH, hz, q⟩ := h
  cases rx
  obtain ⟨u, rfl, ru⟩ := rv.one
  obtain ⟨z, its, n, r, hl, e⟩ := I.lstM hH
  refine call_meets F.slot_list_append ⟨_, e, rfl⟩ F.entry_list_append (F.args_list_append_2 _ _) (PySem.list_append l its.toArray n u (by rw [List.size_toArray]; omega)) ⟨e, ?_⟩
  refine ⟨.non, _, I.lset (its' := its ++ [u]) hH e (by simp) (r.append (.cons ru .nil)) ?_, rfl, q⟩
  rw [List.length_append, List.length_singleton]
  omega

noncomputable def rPop : V → List V → Hp → VK → Prop := fun x vs H Q => ∃ l xs y, x = .ref l ∧ vs = [] ∧ H l = some (.lst xs) ∧ xs[xs.length - 1]? = some y ∧ Q y (upd H l (.lst xs.dropLast))
theorem mt_pop : MtM X "list.pop" rPop := by
  intro pins s σ H x vs v us Q I rx rv h
  obtain ⟨l, xs, y, rfl, rfl, hH, hy, q⟩ := h
  cases rx
  have hus := rv.zero
  subst hus
  obtain ⟨z, its, n, r, hl, e⟩ := I.lstM hH
  obtain ⟨u, hu, ru⟩ := r.get hy
  have hy' : its.toArray[its.toArray.size - 1]? = some u := by
    show its.toArray[its.length - 1]? = some u
    rw [← Array.getElem?_toList, ← hl]
    exact hu
  refine call_meets F.slot_list_pop ⟨_, e, rfl⟩ F.entry_list_pop (F.args_list_pop_1 _) (MeetsSeq.list_pop_last l its.toArray n u hy' (by rw [List.size_toArray]; omega)) ⟨e, ?_⟩
  refine ⟨y, _, I.lset (its' := its.dropLast) hH e ?_ r.dropLast ?_, ru, q⟩
  · show its.toArray.eraseIdxIfInBounds (its.toArray.size - 1) = its.dropLast.toArray
    rw [List.size_toArray, List.eraseIdxIfInBounds_toArray, erase_last]
  · rw [List.length_dropLast]
    omega

noncomputable def rPopAt : V → List V → Hp → VK → Prop := fun x vs H Q => ∃ l xs i k y, x = .ref l ∧ vs = [.int i] ∧ H l = some (.lst xs) ∧ -(2 ^ 63) ≤ i ∧ i < 2 ^ 63 ∧ seqIndex? i xs.length = some k ∧ xs[k]? = some y ∧ Q y (upd H l (.lst (xs.eraseIdx k)))
theorem mt_popAt : MtM X "list.pop" rPopAt := by
  intro pins s σ H x vs v us Q I rx rv h
  obtain ⟨l, xs, i, k, y, rfl, rfl, hH, h1, h2, hk, hy, q⟩ := h
  cases rx
  obtain ⟨u, rfl, ru⟩ := rv.one
  obtain ⟨t, rfl⟩ := ru
  obtain ⟨z, its, n, r, hl, e⟩ := I.lstM hH
  obtain ⟨w, hw, rw'⟩ := r.get hy
  refine call_meets F.slot_list_pop ⟨_, e, rfl⟩ F.entry_list_pop (F.args_list_pop_2 _ _)
    (MeetsSeq.list_pop_at l its.toArray n i t k w (fitsIndex_both h1 h2) (by rw [List.size_toArray, ← hl]; exact hk) (by rw [← Array.getElem?_toList]; exact hw) (by rw [List.size_toArray]; omega)) ⟨e, ?_⟩
  refine ⟨y, _, I.lset (its' := its.eraseIdx k) hH e ?_ (r.eraseIdx k) ?_, rw', q⟩
  · show its.toArray.eraseIdxIfInBounds k = (its.eraseIdx k).toArray
    rw [List.eraseIdxIfInBounds_toArray]
  · have := len_erase xs k
    omega

noncomputable def rClear : V → List V → Hp → VK → Prop := fun x vs H Q => ∃ l xs, x = .ref l ∧ vs = [] ∧ H l = some (.lst xs) ∧ Q .non (upd H l (.lst []))
theorem mt_clear : MtM X "list.clear" rClear := by
  intro pins s σ H x vs v us Q I rx rv h
  obtain ⟨l, xs, rfl, rfl, hH, q⟩ := h
  cases rx
  have hus := rv.zero
  subst hus
  obtain ⟨z, its, n, r, hl, e⟩ := I.lstM hH
  refine call_meets F.slot_list_clear ⟨_, e, rfl⟩ F.entry_list_clear (F.args_list_clear_1 _) (AutoSeq1.list_clear_list_0 l its.toArray n (by rw [List.size_toArray]; omega)) ⟨e, ?_⟩
  exact ⟨.non, _, I.lset (its' := []) (ys := []) hH e rfl .nil (Nat.zero_le _), rfl, q⟩

noncomputable def rCat : R2 := fun x y H Q => ∃ l b xs zs, x = .ref l ∧ y = .ref b ∧ H l = some (.lst xs) ∧ H b = some (.lst zs) ∧ xs.length + zs.length ≤ sizeLine ∧ ∀ p, H p = none → Q (.ref p) (upd H p (.lst (xs ++ zs)))
theorem op_cat : OpR X (binaryOp .Add) rCat := by
  intro pins s σ H x y v u Q I rx ry h
  obtain ⟨l, b, xs, zs, rfl, rfl, hH, hB, hz, q⟩ := h
  cases rx
  cases ry
  obtain ⟨z, its, n, r, hl, e⟩ := I.lstM hH
  obtain ⟨z2, its2, n2, r2, hl2, e2⟩ := I.lstM hB
  refine PySem.P.add_list e e2 ?_ (by rw [List.size_toArray, List.size_toArray]; omega)
  have ea : its.toArray ++ its2.toArray = (its ++ its2).toArray := by simp
  rw [ea]
  exact ⟨.ref _, _, I.lnew (t' := s.toks) (r.append r2) (by rw [List.length_append]; omega), rfl, q _ I.fresh⟩
noncomputable def rRep : R2 := fun x y H Q => ∃ l k xs, x = .ref l ∧ y = .int k ∧ H l = some (.lst xs) ∧ -(2 ^ 63) ≤ k ∧ k < 2 ^ 63 ∧ xs.length * k.toNat ≤ sizeLine ∧
  ∀ p, H p = none → Q (.ref p) (upd H p (.lst (List.replicate k.toNat xs).flatten))
theorem len_rep {α : Type} (xs : List α) (k : Nat) : (List.replicate k xs).flatten.length = k * xs.length := by
  induction k with
  | zero => simp
  | succ k ih => rw [List.replicate_succ, List.flatten_cons, List.length_append, ih, Nat.succ_mul, Nat.add_comm]
theorem op_rep : OpR X (binaryOp .Mult) rRep := by
  intro pins s σ H x y v u Q I rx ry h
  obtain ⟨l, k, xs, rfl, rfl, hH, h1, h2, hz, q⟩ := h
  cases rx
  obtain ⟨t, rfl⟩ := ry
  obtain ⟨z, its, n, r, hl, e⟩ := I.lstM hH
  have hlen : its.toArray.size * k.toNat ≤ sizeLine := by rw [List.size_toArray, ← hl]; exact hz
  have hcap : ¬ its.toArray.size * k.toNat > (2 ^ 63 - 1) / 8 := by
    have : (sizeLine : Nat) ≤ (2 ^ 63 - 1) / 8 := by decide
    omega
  have hfit : ¬ (!Builtin.List.listFitsIndex k) = true := by
    rw [fitsIndex_both h1 h2]
    exact Bool.false_ne_true
  have hlong : ¬ Builtin.List.listTooLong (its.toArray.size * k.toNat) = true := by
    rw [notLongL hlen]
    exact Bool.false_ne_true
  have hnew : List.foldl (fun x1 x2 => x1 ++ x2) #[] (List.replicate (if its.toArray.isEmpty = true then 0 else k.toNat) its.toArray) = (List.replicate k.toNat its).flatten.toArray := by
    have f0 : ∀ m : Nat, List.foldl (fun x1 x2 => x1 ++ x2) #[] (List.replicate m its.toArray) = (List.replicate m its).flatten.toArray := fun m => by
      have := foldl_rep its m []
      rw [List.nil_append] at this
      exact this
    rw [f0]
    cases its with
    | nil => simp
    | cons a r' => rw [if_neg (by simp)]
  refine wpAny_binaryOp_repeat_ref (T := "list") (U := "int") (by decide) ⟨_, e, rfl⟩ (fun s' => typeIs_int s' k t) noFill_list_mul F.fills_int_mul F.slot_int_rmul repeat_list F.slot_int_index.lookup
    (call_meets F.slot_int_rmul (typeIs_int s k t) F.entry_int_rmul (F.args_int_rmul_2 _ _) (int___rmul___int_list k t l its.toArray n)
      ⟨e, rfl, ⟨_, e, rfl⟩, call_meets F.slot_list_mul ⟨_, e, rfl⟩ F.entry_list_mul (F.args_list_mul_2 _ _) (AutoListH.list___mul___list_int_3 l its.toArray n k t hfit hcap hlong) ⟨e, ?_⟩⟩)
  rw [hnew]
  exact ⟨.ref _, _, I.lnew (t' := s.toks) (r.rep k.toNat) (by rw [len_rep, Nat.mul_comm]; exact hz), rfl, q _ I.fresh⟩

end

section
variable {prog : Program} {w : World} {A : Around} {E : Value → Shared → Prop} {s : Shared}
end

section
variable {X : Cx}
end
end L2

namespace Att
open PySem PySem.W PySem.Calls PyProof.Rows

theorem ints_of_wellAll {P : Params} {h : Heap} : ∀ (ns : List Int) (vs : List Value), WellAll P h vs (ns.map WData.int) → IntsAre vs ns := by
  intro ns
  induction ns with
  | nil =>
    intro vs w
    rw [List.map_nil] at w
    cases w
    exact .nil
  | cons n ns ih =>
    intro vs w
    rw [List.map_cons] at w
    cases w with
    | cons a b =>
      cases a
      exact .cons _ _ (ih _ b)

theorem script_of {l : OpenLaw} {n : Nat} (hn : l.most = some n) {P : Params} {h : Heap} {args : List WData} {vals : List Value}
    (hpre : l.row.toRowW.claim.pre args = true) (hwl : WellAll P h vals args) :
    ∃ a vs ns, vals = [Value.ref a] ∧ args = [WData.list (ns.map WData.int)] ∧ h.get? a = some { cls := .type "list", data := .seq vs.toArray } ∧ IntsAre vs ns ∧ ns.length ≤ n := by
  have hsh : WShape.hasAll [] args [.list .int] = true := (pre_splitW hpre).1
  have hc : l.pre.holds [] { args := args } = true := (pre_splitW hpre).2
  obtain ⟨d, r, rfl, h1, h2⟩ := hasAllW_cons hsh
  obtain rfl := hasAllW_nil h2
  obtain ⟨xs, rfl, h3⟩ := hasW_list h1
  obtain ⟨ns, rfl⟩ := items_int h3
  have hlen : ns.length ≤ n := by
    unfold OpenLaw.pre at hc
    have h4 : (WTm.not (.lt (.lit (.int (n : Int))) (.len (.arg 0)))).holds [] { args := [.list (ns.map .int)] } = true := by
      have h4 := (holds_andW hc).1
      rw [hn] at h4
      exact h4
    have h5 := condW_of h4 (w_not (w_lt w_lit (w_len_list (w_arg rfl))))
    rw [List.length_map] at h5
    refine Nat.le_of_not_lt fun q => ?_
    have q' : (n : Int) < ((ns.length : Nat) : Int) := by omega
    first
      | (rw [decide_eq_true q'] at h5; exact absurd h5 (by decide))
      | (simp at h5; omega)
  cases hwl with
  | cons w1 w2 =>
    cases w2
    cases w1 with
    | list ho hall => exact ⟨_, _, ns, rfl, rfl, ho, ints_of_wellAll ns _ hall, hlen⟩

theorem post_true (l : OpenLaw) (args : List WData) : l.row.toRowW.claim.post args (.bool true) args = true :=
  postW_of (r := l.row.toRowW) (X := (true == true))
    (show WShape.has [] (.bool true) .bool = true by first | rfl | decide | simp [WShape.has, WShape.arms, WShape.armsAll])
    (show (WTm.eq .res (.lit (.bool true))).value [] { args := args, res := some (.bool true), after := args } = some (.bool (true == true)) from w_eq_bool (w_res rfl) w_lit) rfl

theorem attach_call {l : OpenLaw} {n : Nat} {q : Program} {loose : List Str} {XP : (Str → Option Value) → Heap → Prop} {YP : World → Heap → Prop} {d : DefRec}
    (hn : l.most = some n) (hdf : d.params.defaults = [])
    (call : ∀ (w : World) (s₀ s₁ : Shared) (mg mb : Str → Option Value) (fa : Addr) (o : Obj) (pm cd doc : Value) (a : Addr) (vs : List Value) (ns : List Int),
      Ground q loose [] XP w s₀ mg mb s₁.heap → YP w s₁.heap →
      s₁.heap.get? fa = some o → o.data = .func (docDef d.name d.params d.body d.scope pm cd doc) → s₁.heap.CodeRec cd d.name → mg d.name = some (.ref fa) →
      s₁.heap.get? a = some { cls := .type "list", data := .seq vs.toArray } → IntsAre vs ns → ns.length ≤ n → s₁.gens = #[] →
      codeAny (model l.prog w) callerA (.call (.ref fa) ⟨[.ref a], []⟩) (fun r s' => r = .ok (.ret (.bool true)) ∧ OldK s₁.heap s'.heap ∧ s'.os = s₁.os ∧ AllBare s'.gens) s₁) :
    WalkO q loose XP YP l.row.toRowW d [] (fun f vs => PySem.call f vs) := by
  intro w s₀ s₁ mg mb G Y fa o pm cd doc dV kV ho hd hcd hD hmg hg args vals as hpre hlay hrd hwl hlo
  obtain rfl : dV = .none := Dflts.none hD hdf
  obtain rfl : kV = .none := Dflts.noKw hD
  obtain ⟨a, vs, ns, rfl, rfl, hobj, hints, hlen⟩ := script_of hn hpre hwl
  refine enter_call (codeAny_mono (call w s₀ s₁ mg mb fa o pm cd doc a vs ns G Y ho (fd_plain hd) hcd hmg hobj hints hlen hg) fun r s' hq => ?_)
  obtain ⟨rfl, h2, h3, h4⟩ := hq
  exact ⟨.inl ⟨.bool true, .bool true, [], rfl, fun _ => rfl, .bool true, post_true l _, fun _ => ⟨List.Pairwise.nil, fun _ hm => (nomatch hm)⟩⟩, h2, h3, h4⟩

section
variable {prog : Program} {w : World} {A : Around} {E : Value → Shared → Prop} {s : Shared} {K : Frag}

end
end Att

namespace L2
open PySem PySem.Spec PyProof.Rows

theorem vals_ints : ∀ {vs : List Value} {ns : List Int}, IntsAre vs ns → Vals (ns.map V.int) vs
  | _, _, .nil => .nil
  | _, _, .cons n t h => .cons ⟨t, rfl⟩ (vals_ints h)

noncomputable def Only (H : Hp) : Prop := ∀ b, H b = none ∨ ∃ o xs, H b = some (.frz o (.lst xs))

theorem law_call {P : Program} {w : World} {K : PySem.W.Frag} {mg mb : Str → Option Value} {CX : CXT} {k : Nat} {fa a : Addr} {fd : FuncData} {x : Str} {sp : Sp} {s₁ : Shared} {vs : List Value} {ns : List Int}
    (KX : K.In s₁.heap) (hns : s₁.heap.Ns mainGlobals mg) (hb : s₁.heap.Ns builtinsNs mb) (hbb : ∀ x : Str, x ≠ "__name__" → mb x = bootBuiltins x) (hlim : s₁.heap.NoLimit) (hg : s₁.gens = #[])
    (ha : s₁.heap.get? a = some { cls := .type "list", data := .seq vs.toArray }) (hi : IntsAre vs ns) (hl : ns.length ≤ sizeLine) (hr : Room k callerA)
    (F : ∀ base : Heap, K.In base → base.Ns mainGlobals mg → FnOk P w K mg base CX k fa fd [x] sp) (hbind : ∀ (s : Shared) (u : Value), BindsTo s fd ⟨[u], []⟩ [(x, u)])
    (hsp : ∀ H : Hp, Only H → SqL K H a (ns.map V.int) → sp [.ref a] H (fun v _ => v = .bl true) fun _ _ _ => False)
    (hCX : ∀ H e s', CX [] H s₁ (fun _ _ _ => False) e s' → False) :
    codeAny (model P w) callerA (.call (.ref fa) ⟨[.ref a], []⟩) (fun r s' => r = .ok (.ret (.bool true)) ∧ OldK s₁.heap s'.heap ∧ s'.os = s₁.os ∧ AllBare s'.gens) s₁ := by
  have rv := vals_ints hi
  have lenV := hi.length
  -- from an abstract heap in which nothing but the script may be tracked
  have core : ∀ H : Hp, Only H → SqL K H a (ns.map V.int) → HOk P w H s₁.heap → (∀ b, H b ≠ none → b = a) → (H a ≠ none → K.lookup a = none) →
      codeAny (model P w) callerA (.call (.ref fa) ⟨[.ref a], []⟩) (fun r s' => r = .ok (.ret (.bool true)) ∧ OldK s₁.heap s'.heap ∧ s'.os = s₁.os ∧ AllBare s'.gens) s₁ := by
    intro H hO hS hok hA hK
    have base_of : ∀ {b : Addr} {o : Obj}, s₁.heap.get? b = some o → H b = none → (hidT s₁.heap H).get? b = some o := fun e n => hidT_get e n
    have noA : ∀ {b : Addr} {o : Obj} {es : Array DictEntry} {ep : Nat}, s₁.heap.get? b = some o → o.data = .dict es ep → H b = none := fun {b o es ep} e d => by
      cases q : H b with
      | none => rfl
      | some u =>
        have e' : b = a := hA b (by rw [q]; simp)
        subst e'
        rw [ha] at e; cases e
        have d' : Data.seq vs.toArray _ = Data.dict es ep := d
        cases d'
    have nsK : ∀ {b : Addr} {m : Str → Option Value}, s₁.heap.Ns b m → (hidT s₁.heap H).Ns b m := fun {b m} ⟨o, es, ep, e, d, r⟩ => ⟨o, es, ep, base_of e (noA e d), d, r⟩
    have hKb : K.In (hidT s₁.heap H) := fun b o e => base_of (KX b o e) (by
      cases q : H b with
      | none => rfl
      | some u =>
        have e' : b = a := hA b (by rw [q]; simp)
        subst e'
        rw [hK (by rw [q]; simp)] at e; cases e)
    have hM : Mod K mg (hidT s₁.heap H) := ⟨hKb, nsK hns, ⟨mb, nsK hb, hbb⟩, let ⟨mc, h1, h2⟩ := hlim; ⟨mc, nsK h1, h2⟩⟩
    have e0 : Env0 P w K mg (hidT s₁.heap H) callerA [] s₁ H := ⟨rfl, hM, fun b o e => of_hidT e, Nat.le_of_eq (hidT_size _ _), trivial, fun b hb => absurd (show b ∈ ([] : List Addr) from hb) (by simp), hok, .of_eq hg⟩
    refine codeAny_mono ((F _ hKb (nsK hns)).run callerA [] s₁ H ⟨[.ref a], []⟩ [.ref a] [.ref a] _ _ hr e0 (hbind s₁ (.ref a)) (.cons rfl .nil) (hsp H hO hS)) fun r s' h => ?_
    cases r with
    | error e => exact (hCX H e s' h).elim
    | ok fl =>
      cases fl with
      | next => exact False.elim h
      | brk => exact False.elim h
      | cont => exact False.elim h
      | ret u =>
        obtain ⟨v, H', os, bare, un, hok', r', q⟩ := h
        have q' : v = .bl true := q
        subst q'
        obtain rfl : u = Value.bool true := r'
        refine ⟨rfl, OldK.of_keep fun b o e => ?_, os, bare⟩
        cases q : H b with
        | none => exact un.keep b o e q (by intro z; exact absurd (show b ∈ ([] : List Addr) from z) (by simp)) (by simp)
        | some u =>
          rcases hO b with z | ⟨ob, xs, z⟩
          · rw [q] at z; cases z
          · have z2 := un.frzs b ob _ z
            obtain ⟨e1, _⟩ := hok b _ z
            obtain ⟨e2, _⟩ := hok' b _ z2
            rw [e] at e1; cases e1
            exact e2
  cases hk : K.lookup a with
  | some o =>
    -- the script is one of the module's own objects
    have e := KX a o hk
    rw [ha] at e
    cases e
    refine core (fun _ => none) (fun _ => .inl rfl) (.inr ⟨_, vs.toArray, _, hk, rfl, rfl, rfl, by rw [List.size_toArray, lenV]; exact hl, by simpa using rv⟩) (fun b u z => by have z' : (none : Option HO) = some u := z; cases z') (fun b z => absurd rfl z) fun z => absurd rfl z
  | none =>
    refine core (fun b => if b = a then some (.frz { cls := .type "list", data := .seq vs.toArray } (.lst (ns.map V.int))) else none) (fun b => ?_) (.inl (.inr ⟨{ cls := .type "list", data := .seq vs.toArray }, if_pos rfl⟩)) (fun b u z => ?_) (fun b z => ?_) fun _ => hk
    · by_cases hb : b = a
      · exact .inr ⟨_, _, if_pos hb⟩
      · exact .inl (if_neg hb)
    · by_cases hb : b = a
      · have z' := (if_pos hb).symm.trans z
        cases z'
        subst hb
        exact ⟨ha, by rw [List.length_map]; exact hl, vs, _, rv, ha⟩
      · have z' := (if_neg hb).symm.trans z
        cases z'
    · by_cases hb : b = a
      · exact hb
      · exact absurd (if_neg hb) z
end L2

namespace L2
open PySem PySem.Spec PyProof.Rows

noncomputable abbrev KOf {K : PySem.W.Frag} {h : Heap} (_ : K.In h) : PySem.W.Frag := K

theorem walk_of {l : PySem.W.OpenLaw} {n k : Nat} {q : Program} {loose : List Str} {XP : (Str → Option Value) → Heap → Prop} {YP : World → Heap → Prop} {d : DefRec} {K : Params → PySem.W.Frag} {CX : World → CXT} {sp : World → Sp} {x : Str}
    (hn : l.most = some n) (hn2 : n ≤ sizeLine) (hdf : d.params.defaults = []) (hr : Room k callerA)
    (hY : ∀ (w : World) (h : Heap), YP w h → (K w.params).In h)
    (F : ∀ (w : World) (mg : Str → Option Value) (fa : Addr) (h : Heap), (K w.params).In h → h.Ns mainGlobals mg → mg d.name = some (.ref fa) →
      ∃ fd : FuncData, (∀ (s : Shared) (u : Value), BindsTo s fd ⟨[u], []⟩ [(x, u)]) ∧
        ∀ base : Heap, (K w.params).In base → base.Ns mainGlobals mg → FnOk l.prog w (K w.params) mg base (CX w) k fa fd [x] (sp w))
    (hsp : ∀ (w : World) (H : Hp) (a : Addr) (ns : List Int), ns.length ≤ n → Only H → SqL (K w.params) H a (ns.map V.int) → sp w [.ref a] H (fun v _ => v = .bl true) fun _ _ _ => False)
    (hCX : ∀ (w : World) (H : Hp) (s : Shared) (e : Value) (s' : Shared), CX w [] H s (fun _ _ _ => False) e s' → False) :
    PySem.W.WalkO q loose XP YP l.row.toRowW d [] (fun f vs => PySem.call f vs) := by
  refine Att.attach_call hn hdf fun w s₀ s₁ mg mb fa o pm cd doc a vs ns G Y ho hd hcd hmg hobj hints hlen hg => ?_
  have KX := hY w _ Y
  obtain ⟨fd, hb, hF⟩ := F w mg fa _ KX G.T.g hmg
  exact law_call KX G.T.g G.T.b G.T.builtins G.T.nolimit hg hobj hints (Nat.le_trans hlen hn2) hr hF hb (fun H hO hS => hsp w H a ns hlen hO hS) fun H e s' => hCX w H s₁ e s'
end L2

/- THE LAST THEOREM (shape; LID, My.* are yours):
   My.Adr: a structure of the addresses that your layer names (classes, functions); My.Txt K t: a structure (Prop) of the equations over K;
   My.txt_mk : {K} {implicit addresses ..} (e1 : nsIn K mainGlobals "law" = some (some (.ref f))) (e2 : K.lookup f = some ⟨oc, od, .func (fnOf "law" "law" params body scope dV kV doc pm an cdv ct), sl⟩) (e3 : codeIn K cdv "law" = true) .. : ∃ t, My.Txt K t

set_option maxRecDepth 100000 in
set_option maxHeartbeats 0 in
theorem PySem.Challenge.cw_LID_holds : PySem.Challenge.rw_LID.Holds := by
  w_on; o_law; k_head; (case hw => w_witness2)
  k_fill
  refine L2.walk_of (l := PySem.Challenge.rw_LID) (n := 63) (k := 40) (x := "script") (CX := fun w => ..) (sp := fun _ => My.sp_law) rfl (by decide) rfl ⟨rfl, by decide, by decide⟩ (fun w h Y => PySem.W.kIn_of Y) ?F ?S ?C
  case F =>
    intro w mg fa h KX G hmg
    have T : ∃ t, My.Txt (L2.KOf KX) t := by
      dsimp only [L2.KOf]                          -- K must stand as «<heap const> w.params» for k_is
      refine' My.txt_mk ?e1 ?e2 ?e3 ..
      (case e1 => PySem.W.k_is)                    -- in the order: a name -> its address -> its object -> its parts
      (case e2 => PySem.W.k_is)
      ..
    obtain ⟨t, T⟩ := T
    have e0 := hmg.symm.trans (PySem.W.mg_of KX G T.law)
    cases e0                                       -- fa is the law's own address
    exact ⟨_, fun s u => .of_eq rfl, fun base kb nb => My.law_fn T kb nb⟩     -- if «.of_eq rfl» comes too early: refine' ⟨_, ?b, fun base kb nb => My.law_fn T kb nb⟩; exact fun s u => .of_eq rfl
  case S => exact fun w H a ns hl hO hS => ..
  case C => exact ..
(the tactic k_is has no namespace: write k_is) -/

namespace L2
open PySem PySem.Spec PyProof.Rows

noncomputable def defArgs (s : Stmt) : Arguments := match s with
  | .FunctionDef _ a _ _ _ _ _ _ _ _ => a
  | _ => { posonlyargs := [], args := [], vararg := none, kwonlyargs := [], kw_defaults := [], kwarg := none, defaults := [] }
noncomputable def defBody (s : Stmt) : List Stmt := match s with
  | .FunctionDef _ _ b _ _ _ _ _ _ _ => b
  | _ => []
noncomputable def defScope (s : Stmt) : Scope := match s with
  | .FunctionDef _ _ _ _ _ _ sc _ _ _ => sc
  | _ => { kind := .function, names := [], isGenerator := false, isCoroutine := false }

noncomputable abbrev CX0 : CXT := fun _ _ _ _ _ _ => False
noncomputable abbrev E0 : XK := fun _ _ _ => False
theorem pass0 {X : Cx} : Passes CX0 X E0 := fun _ _ _ _ _ _ _ h => h.elim

structure Fun (K : PySem.W.Frag) (x qual : Str) (st : Stmt) (f : Addr) (fd : FuncData) : Prop where
  ex : ∃ (oc : Value) (od : Option Addr) (kV doc pm : Value) (an : Option Addr) (cdv ct : Value) (osl : Array (Option Value)),
    fd = PySem.W.fnOf x qual (defArgs st) (defBody st) (defScope st) .none kV doc pm an cdv ct ∧ K.lookup f = some ⟨oc, od, .func fd, osl⟩ ∧ PySem.W.codeIn K cdv qual = true
  kp : PySem.W.keepIn K (.ref f) = true
section
variable {P : Program} {w : World} {K : PySem.W.Frag} {mg : Str → Option Value} {base : Heap}
theorem Fun.ok {x qual : Str} {st : Stmt} {f : Addr} {fd : FuncData} {N ps : List Str} {k : Nat} {sp : Sp} (F : Fun K x qual st f fd) (S : FnScope N ps (defScope st)) (len : ∀ vs H Q E, sp vs H Q E → vs.length = ps.length)
    (hbody : ∀ (cdv : Value) (A : Around) (outer : List Env) (s : Shared) (H : Hp) (vs : List V) (Q : VK) (E : XK), Room k (A.deeper (envOfC qual (defScope st) s.heap.objs.size f cdv)) → sp vs H Q E →
      ∃ t, PSs (cxOf CX0 P w K mg base N qual (defScope st) f cdv A outer s H E).nox (defBody st) t ∧ t { nx := fun _ H' => Q .non H', rt := Q } (start N vs) H) : FnOk P w K mg base CX0 (k + 1) f fd ps sp := by
  obtain ⟨oc, od, kV, doc, pm, an, cdv, ct, osl, rfl, lk, hcd⟩ := F.ex
  refine fn_of lk hcd S len fun A outer s H vs Q E hr hsp => ?_
  obtain ⟨t, h, q⟩ := hbody cdv A outer s H vs Q E hr hsp
  exact ⟨t, h.nox, q⟩
theorem Fun.binds {x qual : Str} {st : Stmt} {f : Addr} {fd : FuncData} {ps : List Str} (F : Fun K x qual st f fd)
    (h : ∀ (kV doc pm : Value) (an : Option Addr) (cdv ct : Value) (us : List Value), us.length = ps.length → bindArgs (PySem.W.fnOf x qual (defArgs st) (defBody st) (defScope st) .none kV doc pm an cdv ct) ⟨us, []⟩ = pure (ps.zip us)) : Binds K fd ps [] := by
  obtain ⟨oc, od, kV, doc, pm, an, cdv, ct, osl, rfl, lk, hcd⟩ := F.ex
  exact .all (h kV doc pm an cdv ct)
theorem fun_mk {x qual : Str} {st : Stmt} {f : Addr} {oc : Value} {od an : Option Addr} {osl : Array (Option Value)} {kV doc pm cdv ct : Value} (l : K.lookup f = some ⟨oc, od, .func (PySem.W.fnOf x qual (defArgs st) (defBody st) (defScope st) .none kV doc pm an cdv ct), osl⟩)
    (c : PySem.W.codeIn K cdv qual = true) (k : PySem.W.keepIn K (.ref f) = true) : Fun K x qual st f (PySem.W.fnOf x qual (defArgs st) (defBody st) (defScope st) .none kV doc pm an cdv ct) := ⟨⟨oc, od, kV, doc, pm, an, cdv, ct, osl, rfl, l, c⟩, k⟩
end
theorem small1000 {n : Nat} (h : n ≤ 1000) : n < sizeLine := Nat.lt_of_le_of_lt h (by decide)

section
variable {X : Cx}
theorem pv (i : Nat) {x : Str} {pos : Pos} (hN : X.N[i]? = some x := by rfl) (hv : Vis X.env.scope x := by first | exact Or.inl rfl | exact Or.inr (Or.inl rfl) | exact Or.inr (Or.inr rfl)) (hd : (x == ("__debug__" : Str)) = false := by decide)
    (hcd : (x == ("__classdict__" : Str)) = false := by decide) : PE X (.Name x pos) (tVar i) := pe_var hN hv hd hcd
end

noncomputable def Same (H H' : Hp) : Prop := ∀ b o, H b = some o → H' b = some o
theorem Same.refl (H : Hp) : Same H H := fun _ _ h => h
theorem Same.trans {H H1 H2 : Hp} (a : Same H H1) (b : Same H1 H2) : Same H H2 := fun c o h => b c o (a c o h)
theorem Same.free {H H' : Hp} (e : Same H H') {l : Addr} (h : H' l = Option.none) : H l = Option.none := by
  cases q : H l with
  | none => rfl
  | some o =>
    rw [e l o q] at h
    cases h
theorem Same.seq {K : PySem.W.Frag} {H H' : Hp} {a : Addr} {xs : List V} (e : Same H H') (h : SqL K H a xs) : SqL K H' a xs := by
  rcases h with (h | ⟨o, h⟩) | h
  · exact .inl (.inl (e _ _ h))
  · exact .inl (.inr ⟨o, e _ _ h⟩)
  · exact .inr h

end L2

namespace TM
open PySem PySem.Spec PyProof.Rows L2

inductive T where
  | non | bl (b : Bool) | int (i : Int) | str (x : Str) | ty (n : String) | tup (ts : List T) | lst (ts : List T) | scr (ts : List T) | dic | obj (C : Addr) (ns : List Str) (ts : List T) | ptr (a : Addr)

mutual
noncomputable def Rep (K : PySem.W.Frag) (F : Hp) : T → V → Prop
  | .non, v => v = .non
  | .bl b, v => v = .bl b
  | .int i, v => v = .int i
  | .str x, v => v = .str x
  | .ty n, v => v = .ty n
  | .tup ts, v => ∃ a xs, v = .ref a ∧ SqT K F a xs ∧ Reps K F ts xs
  | .lst ts, v => ∃ a xs, v = .ref a ∧ F a = some (.lst xs) ∧ Reps K F ts xs
  | .scr ts, v => ∃ a xs, v = .ref a ∧ SqL K F a xs ∧ Reps K F ts xs
  | .dic, v => ∃ a, v = .ref a ∧ F a = some (.dK [])
  | .obj C ns ts, v => ∃ a dx vs, v = .ref a ∧ F a = some (.ins C dx (ns.zip vs)) ∧ vs.length = ns.length ∧ Reps K F ts vs
  | .ptr a, v => v = .ref a
noncomputable def Reps (K : PySem.W.Frag) (F : Hp) : List T → List V → Prop
  | [], xs => xs = []
  | t :: ts, xs => ∃ v r, xs = v :: r ∧ Rep K F t v ∧ Reps K F ts r
end

theorem same_sqT {K : PySem.W.Frag} {H H' : Hp} {a : Addr} {xs : List V} (e : Same H H') (h : SqT K H a xs) : SqT K H' a xs := by
  rcases h with (h | ⟨o, h⟩) | h
  · exact .inl (.inl (e _ _ h))
  · exact .inl (.inr ⟨o, e _ _ h⟩)
  · exact .inr h

mutual
theorem Rep.mono {K : PySem.W.Frag} {F F' : Hp} (e : Same F F') : ∀ {t : T} {v : V}, Rep K F t v → Rep K F' t v
  | .non, _, h => h
  | .bl _, _, h => h
  | .int _, _, h => h
  | .str _, _, h => h
  | .ty _, _, h => h
  | .tup ts, _, h => by
    obtain ⟨a, xs, h1, h2, h3⟩ := h
    exact ⟨a, xs, h1, same_sqT e h2, Reps.mono e h3⟩
  | .lst ts, _, h => by
    obtain ⟨a, xs, h1, h2, h3⟩ := h
    exact ⟨a, xs, h1, e _ _ h2, Reps.mono e h3⟩
  | .scr ts, _, h => by
    obtain ⟨a, xs, h1, h2, h3⟩ := h
    exact ⟨a, xs, h1, e.seq h2, Reps.mono e h3⟩
  | .dic, _, h => by
    obtain ⟨a, h1, h2⟩ := h
    exact ⟨a, h1, e _ _ h2⟩
  | .obj C ns ts, _, h => by
    obtain ⟨a, dx, vs, h1, h2, h3, h4⟩ := h
    exact ⟨a, dx, vs, h1, e _ _ h2, h3, Reps.mono e h4⟩
  | .ptr _, _, h => h
theorem Reps.mono {K : PySem.W.Frag} {F F' : Hp} (e : Same F F') : ∀ {ts : List T} {vs : List V}, Reps K F ts vs → Reps K F' ts vs
  | [], _, h => h
  | t :: ts, _, h => by
    obtain ⟨v, r, h1, h2, h3⟩ := h
    exact ⟨v, r, h1, Rep.mono e h2, Reps.mono e h3⟩
end

section
variable {K : PySem.W.Frag} {F : Hp}
theorem Reps.length : ∀ {ts : List T} {vs : List V}, Reps K F ts vs → vs.length = ts.length
  | [], _, h => by cases h; rfl
  | t :: ts, _, h => by
    obtain ⟨v, r, rfl, h2, h3⟩ := h
    simp [Reps.length h3]
theorem Reps.get : ∀ {ts : List T} {vs : List V} {i : Nat} {t : T}, Reps K F ts vs → ts[i]? = some t → ∃ v, vs[i]? = some v ∧ Rep K F t v
  | [], _, _, _, h, e => by simp at e
  | t :: ts, _, 0, _, h, e => by
    obtain ⟨v, r, rfl, h2, h3⟩ := h
    simp at e; subst e
    exact ⟨v, rfl, h2⟩
  | t :: ts, _, i + 1, u, h, e => by
    obtain ⟨v, r, rfl, h2, h3⟩ := h
    obtain ⟨w, h4, h5⟩ := Reps.get (i := i) (t := u) h3 (by simpa using e)
    exact ⟨w, by simpa using h4, h5⟩
theorem Reps.append : ∀ {ts us : List T} {vs ws : List V}, Reps K F ts vs → Reps K F us ws → Reps K F (ts ++ us) (vs ++ ws)
  | [], _, _, _, h, h' => by cases h; exact h'
  | t :: ts, _, _, _, h, h' => by
    obtain ⟨v, r, rfl, h2, h3⟩ := h
    exact ⟨v, r ++ _, rfl, h2, Reps.append h3 h'⟩
theorem Reps.one {t : T} {v : V} (h : Rep K F t v) : Reps K F [t] [v] := ⟨v, [], rfl, h, rfl⟩
theorem Reps.take : ∀ {ts : List T} {vs : List V} (n : Nat), Reps K F ts vs → Reps K F (ts.take n) (vs.take n)
  | _, _, 0, _ => rfl
  | [], _, n + 1, h => by cases h; rfl
  | t :: ts, _, n + 1, h => by
    obtain ⟨v, r, rfl, h2, h3⟩ := h
    exact ⟨v, r.take n, rfl, h2, Reps.take n h3⟩
theorem Reps.drop : ∀ {ts : List T} {vs : List V} (n : Nat), Reps K F ts vs → Reps K F (ts.drop n) (vs.drop n)
  | _, _, 0, h => h
  | [], _, n + 1, h => by cases h; rfl
  | t :: ts, _, n + 1, h => by
    obtain ⟨v, r, rfl, h2, h3⟩ := h
    exact Reps.drop n h3
theorem reps_ints : ∀ ns : List Int, Reps K F (ns.map T.int) (ns.map V.int)
  | [] => rfl
  | n :: ns => ⟨.int n, ns.map V.int, rfl, rfl, reps_ints ns⟩
end

structure Grow (F H F' H' : Hp) : Prop where
  sF : Same F F'
  sH : Same H H'
  fh : Same F' H'
  nw : ∀ a o, F' a = some o → F a = some o ∨ H a = none
theorem Grow.refl {F H : Hp} (h : Same F H) : Grow F H F H := ⟨Same.refl _, Same.refl _, h, fun _ _ e => .inl e⟩
theorem Grow.trans {F H F1 H1 F2 H2 : Hp} (a : Grow F H F1 H1) (b : Grow F1 H1 F2 H2) : Grow F H F2 H2 :=
  ⟨a.sF.trans b.sF, a.sH.trans b.sH, b.fh, fun x o e => by
    rcases b.nw x o e with e | e
    · exact a.nw x o e
    · exact .inr (a.sH.free e)⟩
theorem same_updN {H : Hp} {p : Addr} {o : HO} (h : H p = none) : Same H (upd H p o) := fun b u q => by rw [upd_ne (ne_of_none q h)]; exact q
theorem Grow.new {F H : Hp} {p : Addr} (o : HO) (h : Same F H) (n : H p = none) : Grow F H (upd F p o) (upd H p o) := by
  refine ⟨same_updN (h.free n), same_updN n, fun b u q => ?_, fun a u q => ?_⟩
  · by_cases e : b = p
    · subst e; rw [upd_same] at q ⊢; exact q
    · rw [upd_ne e] at q ⊢; exact h _ _ q
  · by_cases e : a = p
    · subst e; exact .inr n
    · rw [upd_ne e] at q; exact .inl q

inductive Sl where
  | sh (t : T) | own (ts : List T)
noncomputable abbrev TEnv := List (Option Sl)
noncomputable def SlOk (K : PySem.W.Frag) (H₀ F H : Hp) : Sl → V → Prop
  | .sh t, v => Rep K F t v
  | .own ts, v => ∃ p vs, v = .ref p ∧ H p = some (.lst vs) ∧ F p = none ∧ H₀ p = none ∧ Reps K F ts vs
structure EnvOk (K : PySem.W.Frag) (F₀ H₀ F H : Hp) (σ : L2.St) (τ : TEnv) : Prop where
  g : Grow F₀ H₀ F H
  len : σ.length = τ.length
  sl : ∀ (i : Nat) (s : Sl), τ[i]? = some (some s) → ∃ v, σ[i]? = some (some v) ∧ SlOk K H₀ F H s v
  dj : ∀ (i j : Nat) (ts us : List T) (p : Addr), i ≠ j → τ[i]? = some (some (.own ts)) → τ[j]? = some (some (.own us)) → σ[i]? = some (some (.ref p)) → σ[j]? ≠ some (some (.ref p))
section
variable {K : PySem.W.Frag} {F₀ H₀ F H F' H' : Hp} {σ : L2.St} {τ : TEnv}
theorem SlOk.grow {s : Sl} {v : V} (g : Grow F H F' H') (h : SlOk K H₀ F H s v) : SlOk K H₀ F' H' s v := by
  cases s with
  | sh t => exact Rep.mono g.sF h
  | own ts =>
    obtain ⟨p, vs, h1, h2, h3, h4, h5⟩ := h
    refine ⟨p, vs, h1, g.sH _ _ h2, ?_, h4, Reps.mono g.sF h5⟩
    cases e : F' p with
    | none => rfl
    | some o =>
      rcases g.nw p o e with q | q
      · rw [q] at h3; cases h3
      · rw [q] at h2; cases h2
theorem EnvOk.grow (E : EnvOk K F₀ H₀ F H σ τ) (g : Grow F H F' H') : EnvOk K F₀ H₀ F' H' σ τ := by
  refine ⟨E.g.trans g, E.len, fun i s e => ?_, E.dj⟩
  obtain ⟨v, h1, h2⟩ := E.sl i s e
  exact ⟨v, h1, h2.grow g⟩
theorem EnvOk.set {i : Nat} {t : T} {v : V} (E : EnvOk K F₀ H₀ F H σ τ) (r : Rep K F t v) : EnvOk K F₀ H₀ F H (σ.set i (some v)) (τ.set i (some (.sh t))) := by
  refine ⟨E.g, by simp [E.len], fun j s e => ?_, fun j k ts us p hjk e1 e2 e3 => ?_⟩
  · by_cases hj : i = j
    · subst hj
      by_cases hl : i < τ.length
      · rw [List.getElem?_set_self hl] at e
        cases e
        exact ⟨v, List.getElem?_set_self (by rw [E.len]; exact hl), r⟩
      · rw [List.getElem?_eq_none (by simp; omega)] at e; cases e
    · rw [List.getElem?_set_ne hj] at e
      rw [List.getElem?_set_ne hj]
      exact E.sl j s e
  · have n1 : i ≠ j := fun z => by
      subst z
      by_cases hl : i < τ.length
      · rw [List.getElem?_set_self hl] at e1; cases e1
      · rw [List.getElem?_eq_none (by simp; omega)] at e1; cases e1
    have n2 : i ≠ k := fun z => by
      subst z
      by_cases hl : i < τ.length
      · rw [List.getElem?_set_self hl] at e2; cases e2
      · rw [List.getElem?_eq_none (by simp; omega)] at e2; cases e2
    rw [List.getElem?_set_ne n1] at e1 e3
    rw [List.getElem?_set_ne n2] at e2 ⊢
    exact E.dj j k ts us p hjk e1 e2 e3
theorem EnvOk.freeze {i : Nat} {ts : List T} (E : EnvOk K F₀ H₀ F H σ τ) (e : τ[i]? = some (some (.own ts))) :
    ∃ F' v, σ[i]? = some (some v) ∧ EnvOk K F₀ H₀ F' H σ (τ.set i (some (.sh (.lst ts)))) ∧ Same F F' ∧ Rep K F' (.lst ts) v := by
  obtain ⟨v, h1, p, vs, rfl, h2, h3, h4, h5⟩ := E.sl i _ e
  have sF : Same F (upd F p (.lst vs)) := same_updN h3
  have rp : Rep K (upd F p (.lst vs)) (.lst ts) (.ref p) := ⟨p, vs, rfl, upd_same, Reps.mono sF h5⟩
  refine ⟨upd F p (.lst vs), .ref p, h1, ⟨⟨E.g.sF.trans sF, E.g.sH, fun b o q => ?_, fun b o q => ?_⟩, by simp [E.len], fun j s q => ?_, fun j k us ws r hjk e1 e2 e3 => ?_⟩, sF, rp⟩
  · by_cases z : b = p
    · subst z; rw [upd_same] at q; cases q; exact h2
    · rw [upd_ne z] at q; exact E.g.fh _ _ q
  · by_cases z : b = p
    · subst z; exact .inr h4
    · rw [upd_ne z] at q; exact E.g.nw _ _ q
  · by_cases hj : i = j
    · subst hj
      have hl : i < τ.length := by
        have := (List.getElem?_eq_some_iff.mp e).1
        exact this
      rw [List.getElem?_set_self hl] at q
      cases q
      exact ⟨_, h1, rp⟩
    · rw [List.getElem?_set_ne hj] at q
      obtain ⟨v, g1, g2⟩ := E.sl j s q
      refine ⟨v, g1, ?_⟩
      cases s with
      | sh t => exact Rep.mono sF g2
      | own us =>
        obtain ⟨r, ws, rfl, k2, k3, k4, k5⟩ := g2
        have hne : r ≠ p := fun z => by
          subst z
          exact E.dj i j ts us r hj e q h1 g1
        exact ⟨r, ws, rfl, k2, by rw [upd_ne hne]; exact k3, k4, Reps.mono sF k5⟩
  · have hl : i < τ.length := (List.getElem?_eq_some_iff.mp e).1
    have n1 : i ≠ j := fun z => by subst z; rw [List.getElem?_set_self hl] at e1; cases e1
    have n2 : i ≠ k := fun z => by subst z; rw [List.getElem?_set_self hl] at e2; cases e2
    rw [List.getElem?_set_ne n1] at e1
    rw [List.getElem?_set_ne n2] at e2
    exact E.dj j k us ws r hjk e1 e2 e3
theorem EnvOk.setOwn {i : Nat} {ts : List T} {vs : List V} {p : Addr} (E : EnvOk K F₀ H₀ F H σ τ) (n : H p = none) (r : Reps K F ts vs) : EnvOk K F₀ H₀ F (upd H p (.lst vs)) (σ.set i (some (.ref p))) (τ.set i (some (.own ts))) := by
  have sH : Same H (upd H p (.lst vs)) := same_updN n
  have fp : F p = none := E.g.fh.free n
  have old : ∀ {j : Nat} {s : Sl}, i ≠ j → τ[j]? = some (some s) → ∃ v, σ[j]? = some (some v) ∧ SlOk K H₀ F (upd H p (.lst vs)) s v := fun {j s} hj q => by
    obtain ⟨v, g1, g2⟩ := E.sl j s q
    refine ⟨v, g1, ?_⟩
    cases s with
    | sh t => exact g2
    | own us =>
      obtain ⟨r, ws, rfl, k2, k3, k4, k5⟩ := g2
      exact ⟨r, ws, rfl, sH _ _ k2, k3, k4, k5⟩
  refine ⟨⟨E.g.sF, E.g.sH.trans sH, E.g.fh.trans sH, E.g.nw⟩, by simp [E.len], fun j s e => ?_, fun j k ts' us q hjk e1 e2 e3 e4 => ?_⟩
  · by_cases hj : i = j
    · subst hj
      by_cases hl : i < τ.length
      · rw [List.getElem?_set_self hl] at e
        cases e
        exact ⟨.ref p, List.getElem?_set_self (by rw [E.len]; exact hl), p, vs, rfl, upd_same, fp, E.g.sH.free n, r⟩
      · rw [List.getElem?_eq_none (by simp; omega)] at e; cases e
    · rw [List.getElem?_set_ne hj] at e
      rw [List.getElem?_set_ne hj]
      exact old hj e
  · by_cases hj : i = j
    · subst hj
      have n2 : i ≠ k := hjk
      rw [List.getElem?_set_ne n2] at e2 e4
      by_cases hl : i < τ.length
      · rw [List.getElem?_set_self (by rw [E.len]; exact hl)] at e3
        cases e3
        obtain ⟨v, g1, r', ws, rfl, k2, _⟩ := E.sl k _ e2
        rw [g1] at e4; cases e4
        rw [n] at k2; cases k2
      · rw [List.getElem?_eq_none (by simp; omega)] at e1; cases e1
    · rw [List.getElem?_set_ne hj] at e1 e3
      by_cases hk : i = k
      · subst hk
        by_cases hl : i < τ.length
        · rw [List.getElem?_set_self (by rw [E.len]; exact hl)] at e4
          cases e4
          obtain ⟨v, g1, r', ws, rfl, k2, _⟩ := E.sl j _ e1
          rw [g1] at e3; cases e3
          rw [n] at k2; cases k2
        · rw [List.getElem?_eq_none (by simp; omega)] at e2; cases e2
      · rw [List.getElem?_set_ne hk] at e2 e4
        exact E.dj j k ts' us q hjk e1 e2 e3 e4
theorem EnvOk.turnOwn {i : Nat} {ts us : List T} {vs : List V} {p : Addr} (E : EnvOk K F₀ H₀ F H σ τ) (e : τ[i]? = some (some (.own ts))) (hp : σ[i]? = some (some (.ref p))) (r : Reps K F us vs) :
    EnvOk K F₀ H₀ F (upd H p (.lst vs)) σ (τ.set i (some (.own us))) := by
  obtain ⟨v, h1, p', vs', rfl, h2, h3, h4, h5⟩ := E.sl i _ e
  rw [hp] at h1; cases h1
  have hl : i < τ.length := (List.getElem?_eq_some_iff.mp e).1
  refine ⟨⟨E.g.sF, fun b o q => ?_, fun b o q => ?_, E.g.nw⟩, by simp [E.len], fun j s q => ?_, fun j k ts' us' q hjk e1 e2 e3 => ?_⟩
  · rw [upd_ne (fun z => by subst z; rw [h4] at q; cases q)]; exact E.g.sH _ _ q
  · rw [upd_ne (fun z => by subst z; rw [h3] at q; cases q)]; exact E.g.fh _ _ q
  · by_cases hj : i = j
    · subst hj
      rw [List.getElem?_set_self hl] at q; cases q
      exact ⟨_, hp, p, vs, rfl, upd_same, h3, h4, r⟩
    · rw [List.getElem?_set_ne hj] at q
      obtain ⟨v, g1, g2⟩ := E.sl j s q
      refine ⟨v, g1, ?_⟩
      cases s with
      | sh t => exact g2
      | own us' =>
        obtain ⟨r', ws, rfl, k2, k3, k4, k5⟩ := g2
        have hne : r' ≠ p := fun z => by subst z; exact E.dj i j ts us' r' hj e q hp g1
        exact ⟨r', ws, rfl, by rw [upd_ne hne]; exact k2, k3, k4, k5⟩
  · have q1 : ∃ zs, τ[j]? = some (some (.own zs)) := by
      by_cases hj : i = j
      · subst hj; exact ⟨_, e⟩
      · rw [List.getElem?_set_ne hj] at e1; exact ⟨_, e1⟩
    have q2 : ∃ zs, τ[k]? = some (some (.own zs)) := by
      by_cases hj : i = k
      · subst hj; exact ⟨_, e⟩
      · rw [List.getElem?_set_ne hj] at e2; exact ⟨_, e2⟩
    obtain ⟨z1, q1⟩ := q1
    obtain ⟨z2, q2⟩ := q2
    exact E.dj j k z1 z2 q hjk q1 q2 e3
end
end TM

namespace TM
open PySem PySem.Spec PyProof.Rows L2

noncomputable abbrev FE := TEnv → Option (T × TEnv)
noncomputable abbrev FA := TEnv → Option (List T × TEnv)
noncomputable abbrev FT := TEnv → Option (Bool × TEnv)
inductive R where
  | nx (τ : TEnv) | rt (t : T) | bk (τ : TEnv) | ct (τ : TEnv)
noncomputable abbrev FS := TEnv → Option R
noncomputable abbrev FG := T → TEnv → Option TEnv

section
variable (K : PySem.W.Frag) (F₀ H₀ : Hp)
noncomputable def tE (f : FE) : TE := fun σ H Q => ∃ F τ t τ', EnvOk K F₀ H₀ F H σ τ ∧ f τ = some (t, τ') ∧ ∀ F' H' v, EnvOk K F₀ H₀ F' H' σ τ' → Same F F' → Rep K F' t v → Q v H'
noncomputable def tA (f : FA) : TA := fun σ H Q => ∃ F τ ts τ', EnvOk K F₀ H₀ F H σ τ ∧ f τ = some (ts, τ') ∧ ∀ F' H' vs, EnvOk K F₀ H₀ F' H' σ τ' → Same F F' → Reps K F' ts vs → Q vs H'
noncomputable def tT (f : FT) : TT := fun σ H Q => ∃ F τ b τ', EnvOk K F₀ H₀ F H σ τ ∧ f τ = some (b, τ') ∧ ∀ F' H', EnvOk K F₀ H₀ F' H' σ τ' → Same F F' → Q b H'
noncomputable def FlowOk (F : Hp) (D : Ends) : R → Prop
  | .nx τ' => ∀ F' H' σ', EnvOk K F₀ H₀ F' H' σ' τ' → Same F F' → D.nx σ' H'
  | .rt t => ∀ F' H' v, Grow F₀ H₀ F' H' → Rep K F' t v → D.rt v H'
  | .bk τ' => ∀ F' H' σ', EnvOk K F₀ H₀ F' H' σ' τ' → Same F F' → D.bk σ' H'
  | .ct τ' => ∀ F' H' σ', EnvOk K F₀ H₀ F' H' σ' τ' → Same F F' → D.ct σ' H'
noncomputable def tS (f : FS) : TS := fun D σ H => ∃ F τ r, EnvOk K F₀ H₀ F H σ τ ∧ f τ = some r ∧ FlowOk K F₀ H₀ F D r
end
noncomputable def SE (X : Cx) (e : Expr) (f : FE) : Prop := ∀ F₀ H₀, PE X e (tE X.K F₀ H₀ f)
noncomputable def SA (X : Cx) (es : List Expr) (f : FA) : Prop := ∀ F₀ H₀, PA X es (tA X.K F₀ H₀ f)
noncomputable def ST (X : Cx) (e : Expr) (f : FT) : Prop := ∀ F₀ H₀, PT X e (tT X.K F₀ H₀ f)
noncomputable def SW (X : Cx) (e : Expr) (f : FT) : Prop := ∀ F₀ H₀, PW X e (tT X.K F₀ H₀ f)
noncomputable def SS (X : Cx) (st : Stmt) (f : FS) : Prop := ∀ F₀ H₀, PS X st (tS X.K F₀ H₀ f)
noncomputable def SSs (X : Cx) (st : List Stmt) (f : FS) : Prop := ∀ F₀ H₀, PSs X st (tS X.K F₀ H₀ f)

section
variable {X : Cx} {e a b : Expr} {pos : Pos} {f fa fb : FE}
theorem PE.weak {t t' : TE} (h : PE X e t) (i : ∀ σ H Q, t' σ H Q → t σ H Q) : PE X e t' := fun pins s σ H Q I q => h pins s σ H Q I (i σ H Q q)
theorem PT.weak {t t' : TT} (h : PT X e t) (i : ∀ σ H Q, t' σ H Q → t σ H Q) : PT X e t' := fun pins s σ H Q I q => h pins s σ H Q I (i σ H Q q)
theorem PW.weak {t t' : TT} (h : PW X e t) (i : ∀ σ H Q, t' σ H Q → t σ H Q) : PW X e t' := fun wh pins s σ H Q I q => h wh pins s σ H Q I (i σ H Q q)
theorem PA.weak {es : List Expr} {t t' : TA} (h : PA X es t) (i : ∀ σ H Q, t' σ H Q → t σ H Q) : PA X es t' := fun p pins s σ H Q I q => h p pins s σ H Q I (i σ H Q q)
theorem PS.weak {st : Stmt} {t t' : TS} (h : PS X st t) (i : ∀ D σ H, t' D σ H → t D σ H) : PS X st t' := fun pins s σ H D I q => h pins s σ H D I (i D σ H q)
theorem PSs.weak {st : List Stmt} {t t' : TS} (h : PSs X st t) (i : ∀ D σ H, t' D σ H → t D σ H) : PSs X st t' := fun pins s σ H D I q => h pins s σ H D I (i D σ H q)

noncomputable def fC (t : T) : FE := fun τ => some (t, τ)
noncomputable def fVar (i : Nat) : FE := fun τ => match τ[i]? with
  | some (some (.sh t)) => some (t, τ)
  | some (some (.own ts)) => some (.lst ts, τ.set i (some (.sh (.lst ts))))
  | _ => none
theorem se_const {t : T} {v : V} (h : PE X e (tC v)) (r : ∀ F, Rep X.K F t v) : SE X e (fC t) := fun F₀ H₀ => PE.weak h fun σ H Q hq__ => by
  obtain ⟨F, τ, t', τ', E, e1, q⟩ := hq__
  cases e1
  exact q F H v E (Same.refl _) (r F)
theorem se_int {i : Int} {j} : SE X (.Constant (.int i) j pos) (fC (.int i)) := se_const pe_int fun _ => rfl
theorem se_bl {c : Bool} {j} : SE X (.Constant (.bool c) j pos) (fC (.bl c)) := se_const pe_bl fun _ => rfl
theorem se_non {j} : SE X (.Constant .none j pos) (fC .non) := se_const pe_non fun _ => rfl
theorem se_var (i : Nat) {x : Str} (h : PE X (.Name x pos) (tVar i)) : SE X (.Name x pos) (fVar i) := fun F₀ H₀ => PE.weak h fun σ H Q hq__ => by
  obtain ⟨F, τ, t, τ', E, e1, q⟩ := hq__
  unfold fVar at e1
  split at e1
  · next t' e2 =>
    cases e1
    obtain ⟨v, h1, h2⟩ := E.sl i _ e2
    exact ⟨v, h1, q F H v E (Same.refl _) h2⟩
  · next ts e2 =>
    cases e1
    obtain ⟨F', v, h1, E', sF, r⟩ := E.freeze e2
    exact ⟨v, h1, q F' H v E' sF r⟩
  · cases e1
theorem se_ty {x : Str} {n : String} (hg : Gl X x) (hm : X.mg x = none) (hv : bootBuiltins x = some (.type n)) (hn : x ≠ "__name__" := by decide) (hd : (x == ("__debug__" : Str)) = false := by decide) : SE X (.Name x pos) (fC (.ty n)) :=
  se_const (pe_bltn (v := .ty n) hg hm hv rfl hn hd) fun _ => rfl

noncomputable def rT2 (K : PySem.W.Frag) (g : T → T → Option T) : R2 := fun x y H Q => ∃ F a b t, Same F H ∧ Rep K F a x ∧ Rep K F b y ∧ g a b = some t ∧ ∀ F' H' v, Grow F H F' H' → Rep K F' t v → Q v H'
noncomputable def rT1 (K : PySem.W.Frag) (g : T → Option T) : V → Hp → VK → Prop := fun x H Q => ∃ F a t, Same F H ∧ Rep K F a x ∧ g a = some t ∧ ∀ F' H' v, Grow F H F' H' → Rep K F' t v → Q v H'
noncomputable def rTs (K : PySem.W.Frag) (g : List T → Option T) : List V → Hp → VK → Prop := fun xs H Q => ∃ F ts t, Same F H ∧ Reps K F ts xs ∧ g ts = some t ∧ ∀ F' H' v, Grow F H F' H' → Rep K F' t v → Q v H'
noncomputable abbrev OpT (X : Cx) (f : Value → Value → Sem Value) (g : T → T → Option T) : Prop := OpR X f (rT2 X.K g)
noncomputable abbrev UnT (X : Cx) (f : Value → Sem Value) (g : T → Option T) : Prop := UnR X f (rT1 X.K g)
noncomputable abbrev CallT (X : Cx) (f : Value) (g : List T → Option T) : Prop := CallR X f (rTs X.K g)

noncomputable def fOp (g : T → T → Option T) (fa fb : FE) : FE := fun τ => (fa τ).bind fun p => (fb p.2).bind fun q => (g p.1 q.1).bind fun t => some (t, q.2)
noncomputable def fUn (g : T → Option T) (fa : FE) : FE := fun τ => (fa τ).bind fun p => (g p.1).bind fun t => some (t, p.2)
theorem bind_some {α β : Type} {o : Option α} {f : α → Option β} {z : β} (h : o.bind f = some z) : ∃ x, o = some x ∧ f x = some z := by
  cases o with
  | none => cases h
  | some x => exact ⟨x, rfl, h⟩
theorem op_core {g : T → T → Option T} {F₀ H₀ : Hp} {σ : L2.St} {H : Hp} {Q : VK} (h : tE X.K F₀ H₀ (fOp g fa fb) σ H Q) : tOp (rT2 X.K g) (tE X.K F₀ H₀ fa) (tE X.K F₀ H₀ fb) σ H Q := by
  obtain ⟨F, τ, t, τ', E, e1, q⟩ := h
  obtain ⟨⟨x, τ1⟩, e2, e1⟩ := bind_some e1
  obtain ⟨⟨y, τ2⟩, e3, e1⟩ := bind_some e1
  obtain ⟨z, e4, e1⟩ := bind_some e1
  cases e1
  refine ⟨F, τ, x, τ1, E, e2, fun F1 H1 v1 E1 s1 r1 => ⟨F1, τ1, y, _, E1, e3, fun F2 H2 v2 E2 s2 r2 => ?_⟩⟩
  exact ⟨F2, x, y, t, E2.g.fh, Rep.mono s2 r1, r2, e4, fun F3 H3 v3 g3 r3 => q F3 H3 v3 (E2.grow g3) ((s1.trans s2).trans g3.sF) r3⟩
theorem se_op {op : Operator} {g : T → T → Option T} (ho : OpT X (binaryOp op) g) (ha : SE X a fa) (hb : SE X b fb) : SE X (.BinOp a op b pos) (fOp g fa fb) :=
  fun F₀ H₀ => PE.weak (pe_op ho (ha F₀ H₀) (hb F₀ H₀)) fun _ _ _ => op_core
theorem se_un {op : UnaryOp} {g : T → Option T} (ho : UnT X (unaryOp op) g) (ha : SE X a fa) : SE X (.UnaryOp op a pos) (fUn g fa) :=
  fun F₀ H₀ => PE.weak (pe_un ho (ha F₀ H₀)) fun σ H Q hq__ => by
    obtain ⟨F, τ, t, τ', E, e1, q⟩ := hq__
    obtain ⟨⟨x, τ1⟩, e2, e1⟩ := bind_some e1
    obtain ⟨z, e4, e1⟩ := bind_some e1
    cases e1
    exact ⟨F, τ, x, _, E, e2, fun F1 H1 v1 E1 s1 r1 => ⟨F1, x, t, E1.g.fh, r1, e4, fun F3 H3 v3 g3 r3 => q F3 H3 v3 (E1.grow g3) (s1.trans g3.sF) r3⟩⟩
theorem se_cmp {op : CmpOp} {g : T → T → Option T} (ho : OpT X (compareOp op) g) (ha : SE X a fa) (hb : SE X b fb) (hm : behindInMarks op b = false) : SE X (.Compare a [op] [b] pos) (fOp g fa fb) :=
  fun F₀ H₀ => PE.weak (pe_cmpR ho (ha F₀ H₀) (hb F₀ H₀) hm) fun _ _ _ => op_core
theorem se_ix {g : T → T → Option T} (ho : IxR X (rT2 X.K g)) (ha : SE X a fa) (hb : SE X b fb) (hs : PlainIx b) : SE X (.Subscript a b pos) (fOp g fa fb) :=
  fun F₀ H₀ => PE.weak (pe_ix ho (ha F₀ H₀) (hb F₀ H₀) hs) fun _ _ _ => op_core

noncomputable def fTB (f : FE) : FT := fun τ => (f τ).bind fun p => match p.1 with | .bl c => some (c, p.2) | _ => none
noncomputable def tru : T → Option Bool
  | .non => some false
  | .bl c => some c
  | .int i => some (i != 0)
  | .str x => if x.length ≤ sizeLine then some ((x.length : Int) != 0) else none
  | .tup ts => some (!ts.isEmpty)
  | .lst ts => some (!ts.isEmpty)
  | .scr ts => some (!ts.isEmpty)
  | .dic => some false
  | .obj _ _ _ => none
  | .ptr _ => none
  | .ty _ => none
noncomputable def fTru (f : FE) : FT := fun τ => (f τ).bind fun p => (tru p.1).bind fun c => some (c, p.2)
theorem st_cmp {op : CmpOp} {g : T → T → Option T} (ho : OpT X (compareOp op) g) (ha : SE X a fa) (hb : SE X b fb) (hm : behindInMarks op b = false) : ST X (.Compare a [op] [b] pos) (fTB (fOp g fa fb)) :=
  fun F₀ H₀ => PT.weak (pt_cmpR ho (ha F₀ H₀) (hb F₀ H₀) hm) fun σ H Q hq__ => by
    obtain ⟨F, τ, c, τ', E, e1, q⟩ := hq__
    obtain ⟨⟨x, τ1⟩, e2, e1⟩ := bind_some e1
    dsimp only at e1
    split at e1
    · cases e1
      refine op_core (Q := fun x H' => ∃ k, x = V.bl k ∧ Q k H') ⟨F, τ, _, _, E, e2, fun F' H' v E' s' r' => ?_⟩
      exact ⟨c, r', q F' H' E' s'⟩
    · cases e1
theorem isEmpty_reps {K : PySem.W.Frag} {F : Hp} {ts : List T} {vs : List V} (h : Reps K F ts vs) : vs.isEmpty = ts.isEmpty := by
  cases ts with
  | nil => cases h; rfl
  | cons t ts => obtain ⟨v, r, rfl, _⟩ := h; rfl
theorem tru_rep {K : PySem.W.Frag} {F H : Hp} {t : T} {v : V} {c : Bool} (s : Same F H) (r : Rep K F t v) (e : tru t = some c) : TruV K v H c := by
  cases t with
  | non => cases r; cases e; exact rfl
  | bl _ => cases r; cases e; exact rfl
  | int _ => cases r; cases e; exact rfl
  | str x =>
    cases r
    simp only [tru] at e
    split at e
    · next h => cases e; exact ⟨h, rfl⟩
    · cases e
  | ty _ => cases e
  | tup ts =>
    obtain ⟨p, xs, rfl, h1, h2⟩ := r
    cases e
    exact .inr (.inl ⟨xs, same_sqT s h1, by rw [isEmpty_reps h2]⟩)
  | lst ts =>
    obtain ⟨p, xs, rfl, h1, h2⟩ := r
    cases e
    exact .inl ⟨xs, SqL.of (s _ _ h1), by rw [isEmpty_reps h2]⟩
  | scr ts =>
    obtain ⟨p, xs, rfl, h1, h2⟩ := r
    cases e
    exact .inl ⟨xs, s.seq h1, by rw [isEmpty_reps h2]⟩
  | dic =>
    obtain ⟨p, rfl, h1⟩ := r
    cases e
    exact .inr (.inr ⟨[], s _ _ h1, rfl⟩)
  | obj _ _ _ => cases e
  | ptr _ => cases e
theorem st_val (h : SE X e f) (he : ∀ whole, isTrue e X.env whole = (do let v ← whole; standAt e.pos; holding [v] (truthy v)) := by intro _; rfl) : ST X e (fTru f) :=
  fun F₀ H₀ => PT.weak (pt_truth (h F₀ H₀) he) fun σ H Q hq__ => by
    obtain ⟨F, τ, c, τ', E, e1, q⟩ := hq__
    obtain ⟨⟨x, τ1⟩, e2, e1⟩ := bind_some e1
    obtain ⟨z, e4, e1⟩ := bind_some e1
    cases e1
    exact ⟨F, τ, x, _, E, e2, fun F1 H1 v1 E1 s1 r1 => ⟨c, tru_rep E1.g.fh r1 e4, q F1 H1 E1 s1⟩⟩
variable {ta tb : FT} {rest : List Expr}
noncomputable def fAnd (ta tb : FT) : FT := fun τ => (ta τ).bind fun p => if p.1 = true then tb p.2 else some (false, p.2)
noncomputable def fOr (ta tb : FT) : FT := fun τ => (ta τ).bind fun p => if p.1 = true then some (true, p.2) else tb p.2
noncomputable def fNot (ta : FT) : FT := fun τ => (ta τ).bind fun p => some (!p.1, p.2)
theorem st_not (h : ST X a ta) : ST X (.UnaryOp .Not a pos) (fNot ta) := fun F₀ H₀ => PT.weak (pt_not (h F₀ H₀)) fun σ H Q hq__ => by
  obtain ⟨F, τ, c, τ', E, e1, q⟩ := hq__
  obtain ⟨⟨x, τ1⟩, e2, e1⟩ := bind_some e1
  cases e1
  exact ⟨F, τ, x, _, E, e2, fun F1 H1 E1 s1 => q F1 H1 E1 s1⟩
theorem sw_or1 (h : ST X a ta) : SW X (.BoolOp .Or [a] pos) ta := fun F₀ H₀ => pw_or1 (h F₀ H₀)
theorem sw_or (ha : ST X a ta) (hb : SW X (.BoolOp .Or (b :: rest) pos) tb) : SW X (.BoolOp .Or (a :: b :: rest) pos) (fOr ta tb) := fun F₀ H₀ => PW.weak (pw_or (ha F₀ H₀) (hb F₀ H₀)) fun σ H Q hq__ => by
  obtain ⟨F, τ, c, τ', E, e1, q⟩ := hq__
  obtain ⟨⟨x, τ1⟩, e2, e1⟩ := bind_some e1
  refine ⟨F, τ, x, τ1, E, e2, fun F1 H1 E1 s1 => ?_⟩
  dsimp only at e1
  split at e1
  · next h => rw [if_pos h]; cases e1; exact q F1 H1 E1 s1
  · next h => rw [if_neg h]; exact ⟨F1, τ1, c, τ', E1, e1, fun F2 H2 E2 s2 => q F2 H2 E2 (s1.trans s2)⟩
theorem SW.st (h : SW X e ta) : ST X e ta := fun F₀ H₀ => (h F₀ H₀).pt
noncomputable def fAndV (fa fb : FE) : FE := fun τ => (fa τ).bind fun p => match p.1 with | .bl true => fb p.2 | .bl false => some (.bl false, p.2) | _ => none
noncomputable def fOrV (fa fb : FE) : FE := fun τ => (fa τ).bind fun p => match p.1 with | .bl true => some (.bl true, p.2) | .bl false => fb p.2 | _ => none
noncomputable def gNot : T → Option T
  | .bl c => some (.bl (!c))
  | _ => none
theorem se_one {op} (h : SE X a fa) : SE X (.BoolOp op [a] pos) fa := fun F₀ H₀ => pe_one (h F₀ H₀)
theorem se_and (ha : SE X a fa) (hb : SE X (.BoolOp .And (b :: rest) pos) fb) : SE X (.BoolOp .And (a :: b :: rest) pos) (fAndV fa fb) := fun F₀ H₀ => PE.weak (pe_and (ha F₀ H₀) (hb F₀ H₀)) fun σ H Q hq__ => by
  obtain ⟨F, τ, c, τ', E, e1, q⟩ := hq__
  obtain ⟨⟨x, τ1⟩, e2, e1⟩ := bind_some e1
  dsimp only at e1
  refine ⟨F, τ, x, τ1, E, e2, fun F1 H1 v E1 s1 r1 => ?_⟩
  split at e1
  · cases r1; exact ⟨true, rfl, by rw [if_pos rfl]; exact ⟨F1, τ1, c, τ', E1, e1, fun F2 H2 v2 E2 s2 => q F2 H2 v2 E2 (s1.trans s2)⟩⟩
  · cases r1; cases e1; exact ⟨false, rfl, by rw [if_neg (by decide)]; exact q F1 H1 _ E1 s1 rfl⟩
  · cases e1
theorem se_not (ha : SE X a fa) : SE X (.UnaryOp .Not a pos) (fUn gNot fa) := fun F₀ H₀ => PE.weak (pe_not (ha F₀ H₀)) fun σ H Q hq__ => by
  obtain ⟨F, τ, c, τ', E, e1, q⟩ := hq__
  obtain ⟨⟨x, τ1⟩, e2, e1⟩ := bind_some e1
  obtain ⟨z, e4, e1⟩ := bind_some e1
  cases e1
  refine ⟨F, τ, x, _, E, e2, fun F1 H1 v E1 s1 r1 => ?_⟩
  dsimp only at e4
  unfold gNot at e4
  split at e4
  · cases r1; cases e4; exact ⟨_, rfl, q F1 H1 _ E1 s1 rfl⟩
  · cases e4
noncomputable def fIf (t : FT) (fa fb : FE) : FE := fun τ => (t τ).bind fun p => if p.1 = true then fa p.2 else fb p.2
variable {es : List Expr} {g : FA}
noncomputable def fNil : FA := fun τ => some ([], τ)
noncomputable def fCons (f : FE) (g : FA) : FA := fun τ => (f τ).bind fun p => (g p.2).bind fun q => some (p.1 :: q.1, q.2)
theorem sa_nil : SA X [] fNil := fun F₀ H₀ => PA.weak pa_nil fun σ H Q hq__ => by
  obtain ⟨F, τ, c, τ', E, e1, q⟩ := hq__
  cases e1
  exact q F H [] E (Same.refl _) rfl
theorem sa_cons (ha : SE X e f) (hr : SA X es g) (hs : starEach (e :: es) X.env = (false, eval e X.env) :: starEach es X.env := by rfl) : SA X (e :: es) (fCons f g) := fun F₀ H₀ => PA.weak (pa_cons (ha F₀ H₀) (hr F₀ H₀) hs) fun σ H Q hq__ => by
  obtain ⟨F, τ, c, τ', E, e1, q⟩ := hq__
  obtain ⟨⟨x, τ1⟩, e2, e1⟩ := bind_some e1
  obtain ⟨⟨y, τ2⟩, e3, e1⟩ := bind_some e1
  cases e1
  exact ⟨F, τ, x, τ1, E, e2, fun F1 H1 v E1 s1 r1 => ⟨F1, τ1, y, _, E1, e3, fun F2 H2 vs E2 s2 r2 => q F2 H2 _ E2 (s1.trans s2) ⟨v, vs, rfl, Rep.mono s2 r1, r2⟩⟩⟩
noncomputable def fTup (g : FA) : FE := fun τ => (g τ).bind fun p => if p.1.length ≤ sizeLine then some (.tup p.1, p.2) else none
noncomputable def fLst (g : FA) : FE := fun τ => (g τ).bind fun p => if p.1.length ≤ sizeLine then some (.lst p.1, p.2) else none
theorem se_tup {k} (h : SA X es g) : SE X (.Tuple es k pos) (fTup g) := fun F₀ H₀ => PE.weak (pe_tup (h F₀ H₀)) fun σ H Q hq__ => by
  obtain ⟨F, τ, c, τ', E, e1, q⟩ := hq__
  obtain ⟨⟨x, τ1⟩, e2, e1⟩ := bind_some e1
  dsimp only at e1
  split at e1
  · next hl =>
    cases e1
    refine ⟨F, τ, x, _, E, e2, fun F1 H1 vs E1 s1 r1 => ⟨by rw [r1.length]; exact hl, fun p hp => ?_⟩⟩
    have gr := Grow.new (.tup vs) E1.g.fh hp
    exact q _ _ _ (E1.grow gr) (s1.trans gr.sF) ⟨p, vs, rfl, SqT.of upd_same, Reps.mono gr.sF r1⟩
  · cases e1
theorem se_lst (h : SA X es g) : SE X (.List es pos) (fLst g) := fun F₀ H₀ => PE.weak (pe_lst (h F₀ H₀)) fun σ H Q hq__ => by
  obtain ⟨F, τ, c, τ', E, e1, q⟩ := hq__
  obtain ⟨⟨x, τ1⟩, e2, e1⟩ := bind_some e1
  dsimp only at e1
  split at e1
  · next hl =>
    cases e1
    refine ⟨F, τ, x, _, E, e2, fun F1 H1 vs E1 s1 r1 => ⟨by rw [r1.length]; exact hl, fun p hp => ?_⟩⟩
    have gr := Grow.new (.lst vs) E1.g.fh hp
    exact q _ _ _ (E1.grow gr) (s1.trans gr.sF) ⟨p, vs, rfl, upd_same, Reps.mono gr.sF r1⟩
  · cases e1
noncomputable def fCall (d : List T → Option T) (g : FA) : FE := fun τ => (g τ).bind fun p => (d p.1).bind fun t => some (t, p.2)
theorem call_core {d : List T → Option T} {F₀ H₀ : Hp} {σ : L2.St} {H : Hp} {Q : VK} (h : tE X.K F₀ H₀ (fCall d g) σ H Q) : tA X.K F₀ H₀ g σ H fun vs H1 => rTs X.K d vs H1 Q := by
  obtain ⟨F, τ, c, τ', E, e1, q⟩ := h
  obtain ⟨⟨x, τ1⟩, e2, e1⟩ := bind_some e1
  obtain ⟨z, e4, e1⟩ := bind_some e1
  cases e1
  exact ⟨F, τ, x, _, E, e2, fun F1 H1 vs E1 s1 r1 => ⟨F1, x, c, E1.g.fh, r1, e4, fun F3 H3 v3 g3 r3 => q F3 H3 v3 (E1.grow g3) (s1.trans g3.sF) r3⟩⟩
theorem se_callB {d : List T → Option T} {id : String} {x : Str} {p : Pos} (hc : CallT X (.builtin id) d) (hg : Gl X x) (hm : X.mg x = none) (hv : bootBuiltins x = some (.builtin id)) (ha : SA X (e :: es) g) (hn : x ≠ "__name__" := by decide) (hdb : (x == ("__debug__" : Str)) = false := by decide)
    (he : starEach (e :: es) X.env = (false, eval e X.env) :: starEach es X.env := by rfl) (hpl : (backTo pos (starEach es X.env)).any (·.1) = false := by rfl) : SE X (.Call (.Name x p) (e :: es) [] pos) (fCall d g) :=
  fun F₀ H₀ => PE.weak (pe_callB hc hg hm hv (ha F₀ H₀) hn hdb he hpl) fun _ _ _ => call_core
theorem se_callTy {d : List T → Option T} {id : String} {x : Str} {p : Pos} (hc : CallT X (.type id) d) (hg : Gl X x) (hm : X.mg x = none) (hv : bootBuiltins x = some (.type id)) (ha : SA X (e :: es) g) (hn : x ≠ "__name__" := by decide) (hdb : (x == ("__debug__" : Str)) = false := by decide)
    (he : starEach (e :: es) X.env = (false, eval e X.env) :: starEach es X.env := by rfl) (hpl : (backTo pos (starEach es X.env)).any (·.1) = false := by rfl) : SE X (.Call (.Name x p) (e :: es) [] pos) (fCall d g) :=
  fun F₀ H₀ => PE.weak (pe_callTy hc hg hm hv (ha F₀ H₀) hn hdb he hpl) fun _ _ _ => call_core
end

noncomputable def spT (K : PySem.W.Frag) (n : Nat) (d : List T → Option T) : Sp := fun vs H Q _ => vs.length = n ∧ rTs K d vs H Q
structure Def (P : Program) (w : World) (K : PySem.W.Frag) (mg : Str → Option Value) (base : Heap) (k : Nat) (x : Str) (n : Nat) (d : List T → Option T) : Prop where
  ex : ∃ f fd ps, FnOk P w K mg base CX0 k f fd ps (spT K n d) ∧ Binds K fd ps [] ∧ PySem.W.keepIn K (.ref f) = true ∧ mg x = some (.ref f) ∧ ps.length = n
theorem Def.imp {P : Program} {w : World} {K : PySem.W.Frag} {mg : Str → Option Value} {base : Heap} {k n : Nat} {x : Str} {d d' : List T → Option T} (D : Def P w K mg base k x n d) (h : ∀ ts t, d' ts = some t → d ts = some t) : Def P w K mg base k x n d' := by
  obtain ⟨f, fd, ps, F, r⟩ := D.ex
  exact ⟨f, fd, ps, F.imp fun vs H Q E ⟨l, F, ts, t, a, b, c, q⟩ => ⟨l, F, ts, t, a, b, h _ _ c, q⟩, r⟩
theorem Def.mono {P : Program} {w : World} {K : PySem.W.Frag} {mg : Str → Option Value} {base : Heap} {j k n : Nat} {x : Str} {d : List T → Option T} (D : Def P w K mg base j x n d) (h : j ≤ k) : Def P w K mg base k x n d := by
  obtain ⟨f, fd, ps, F, r⟩ := D.ex
  exact ⟨f, fd, ps, F.mono h, r⟩
theorem Def.zero {P : Program} {w : World} {K : PySem.W.Frag} {mg : Str → Option Value} {base : Heap} {x qual : Str} {st : Stmt} {f : Addr} {fd : FuncData} {ps : List Str} (F : Fun K x qual st f fd) (hb : Binds K fd ps []) (hm : mg x = some (.ref f)) : Def P w K mg base 0 x ps.length (fun _ => none) :=
  ⟨f, fd, ps, ⟨fun vs H Q E h => h.1, fun A outer s H args us vs Q E _ _ _ _ h => by obtain ⟨_, F, ts, t, _, _, e, _⟩ := h; cases e⟩, hb, F.kp, hm, rfl⟩
section
variable {X : Cx} {e : Expr} {es : List Expr} {pos : Pos} {g : FA}
theorem se_call {k n : Nat} {x : Str} {p : Pos} {d : List T → Option T} (D : Def X.prog X.w X.K X.mg X.base k x n d) (hr : Room k X.A) (hg : Gl X x) (ha : SA X (e :: es) g) (hl : ∀ τ ts τ', g τ = some (ts, τ') → ts.length = n) (hdb : (x == ("__debug__" : Str)) = false := by decide)
    (he : starEach (e :: es) X.env = (false, eval e X.env) :: starEach es X.env := by rfl) (hpl : (backTo pos (starEach es X.env)).any (·.1) = false := by rfl) : SE X (.Call (.Name x p) (e :: es) [] pos) (fCall d g) := by
  obtain ⟨f, fd, ps, F, hb, hk, hm, hn⟩ := D.ex
  intro F₀ H₀
  refine PE.weak (pe_call (E := E0) (CX := CX0) F hr hg hm hk hb .nil pass0 (ha F₀ H₀) hdb he hpl) fun σ H Q h => ?_
  obtain ⟨F, τ, c, τ', E, e1, q⟩ := h
  obtain ⟨⟨z, τ1⟩, e2, e1⟩ := bind_some e1
  have hz := hl _ _ _ e2
  obtain ⟨u, e4, e1⟩ := bind_some e1
  cases e1
  refine ⟨F, τ, z, _, E, e2, fun F1 H1 vs E1 s1 r1 => ⟨by rw [List.append_nil, r1.length]; exact hz, F1, z, c, E1.g.fh, by rw [List.append_nil]; exact r1, e4, fun F3 H3 v3 g3 r3 => q F3 H3 v3 (E1.grow g3) (s1.trans g3.sF) r3⟩⟩
theorem len_nil : ∀ τ ts τ', fNil τ = some (ts, τ') → ts.length = 0 := fun _ _ _ h => by cases h; rfl
theorem len_cons {f : FE} {g : FA} {n : Nat} (h : ∀ τ ts τ', g τ = some (ts, τ') → ts.length = n) : ∀ τ ts τ', fCons f g τ = some (ts, τ') → ts.length = n + 1 := fun τ ts τ' e => by
  obtain ⟨⟨x, τ1⟩, e2, e1⟩ := bind_some e
  obtain ⟨⟨y, τ2⟩, e3, e1⟩ := bind_some e1
  cases e1
  simp [h _ _ _ e3]
end
end TM

namespace TM
open PySem PySem.Spec PyProof.Rows L2
section
variable {X : Cx} {e a b : Expr} {pos : Pos} {f fa fb : FE} {ga : FA} {es : List Expr}

noncomputable def fNever : FS := fun _ => none
noncomputable def fNext : FS := fun τ => some (.nx τ)
noncomputable def fRet (f : FE) : FS := fun τ => (f τ).bind fun p => some (.rt p.1)
noncomputable def fDrop (f : FE) : FS := fun τ => (f τ).bind fun p => some (.nx p.2)
noncomputable def fIfS (c : FT) (t u : FS) : FS := fun τ => (c τ).bind fun p => if p.1 = true then t p.2 else u p.2
noncomputable def fSeq (t u : FS) : FS := fun τ => (t τ).bind fun r => match r with | .nx τ' => u τ' | r => some r
theorem FlowOk.mono {K : PySem.W.Frag} {F₀ H₀ F F' : Hp} {D : Ends} {r : R} (s : Same F F') (h : FlowOk K F₀ H₀ F D r) : FlowOk K F₀ H₀ F' D r := by
  cases r with
  | nx τ => exact fun F1 H1 σ1 E1 s1 => h F1 H1 σ1 E1 (s.trans s1)
  | rt t => exact h
  | bk τ => exact fun F1 H1 σ1 E1 s1 => h F1 H1 σ1 E1 (s.trans s1)
  | ct τ => exact fun F1 H1 σ1 E1 s1 => h F1 H1 σ1 E1 (s.trans s1)
theorem ss_never {st : Stmt} : SS X st fNever := fun F₀ H₀ => PS.weak ps_never fun D σ H ⟨F, τ, r, E, e1, q⟩ => by cases e1
theorem ss_ret (h : SE X e f) : SS X (.Return (some e) pos) (fRet f) := fun F₀ H₀ => PS.weak (ps_ret (h F₀ H₀)) fun D σ H hq__ => by
  obtain ⟨F, τ, r, E, e1, q⟩ := hq__
  obtain ⟨⟨x, τ1⟩, e2, e1⟩ := bind_some e1
  cases e1
  exact ⟨F, τ, x, τ1, E, e2, fun F' H' v E' s' r' => q F' H' v E'.g r'⟩
theorem ss_if {c : Expr} {ss us : List Stmt} {tc : FT} {t u : FS} (hc : ST X c tc) (ha : SSs X ss t) (hb : SSs X us u) : SS X (.If c ss us pos) (fIfS tc t u) := fun F₀ H₀ => PS.weak (ps_if (hc F₀ H₀) (ha F₀ H₀) (hb F₀ H₀)) fun D σ H hq__ => by
  obtain ⟨F, τ, r, E, e1, q⟩ := hq__
  obtain ⟨⟨x, τ1⟩, e2, e1⟩ := bind_some e1
  refine ⟨F, τ, x, τ1, E, e2, fun F' H' E' s' => ?_⟩
  dsimp only at e1
  split at e1
  · next h => rw [if_pos h]; exact ⟨F', τ1, r, E', e1, q.mono s'⟩
  · next h => rw [if_neg h]; exact ⟨F', τ1, r, E', e1, q.mono s'⟩
theorem sss_nil : SSs X [] fNext := fun F₀ H₀ => PSs.weak pss_nil fun D σ H hq__ => by
  obtain ⟨F, τ, r, E, e1, q⟩ := hq__
  cases e1
  exact q F H σ E (Same.refl _)
theorem sss_cons {st : Stmt} {rest : List Stmt} {t u : FS} (h1 : SS X st t) (h2 : SSs X rest u) : SSs X (st :: rest) (fSeq t u) := fun F₀ H₀ => PSs.weak (pss_cons (h1 F₀ H₀) (h2 F₀ H₀)) fun D σ H hq__ => by
  obtain ⟨F, τ, r, E, e1, q⟩ := hq__
  obtain ⟨x, e2, e1⟩ := bind_some e1
  refine ⟨F, τ, x, E, e2, ?_⟩
  cases x with
  | nx τ1 => exact fun F1 H1 σ1 E1 s1 => ⟨F1, τ1, r, E1, e1, q.mono s1⟩
  | rt t => cases e1; exact q
  | bk t => cases e1; exact q
  | ct t => cases e1; exact q
theorem sss_one {st : Stmt} {t : FS} (h1 : SS X st t) : SSs X [st] t := fun F₀ H₀ => pss_one (h1 F₀ H₀)
theorem sss_never {st : List Stmt} : SSs X st fNever := fun F₀ H₀ => PSs.weak pss_never fun D σ H ⟨F, τ, r, E, e1, q⟩ => by cases e1
noncomputable def fSet (i : Nat) (f : FE) : FS := fun τ => (f τ).bind fun p => some (.nx (p.2.set i (some (.sh p.1))))
noncomputable def fSetOwn (i : Nat) (g : FA) : FS := fun τ => (g τ).bind fun p => if p.1.length ≤ sizeLine then some (.nx (p.2.set i (some (.own p.1)))) else none
theorem ss_set (i : Nat) {x : Str} {pos' : Pos} (hN : X.N.Nodup) (hi : X.N[i]? = some x) (hx : Loc X.env.scope x) (he : SE X e f) (hs : swapsWith e (some (.Name x pos')) pos.line X.env = pure false := by rfl)
    (hf : X.fn x = true ∨ X.env.scope.names.lookup x = some .local := by first | exact .inl rfl | exact .inr rfl | assumption) : SS X (.Assign [.Name x pos'] e pos) (fSet i f) := fun F₀ H₀ => PS.weak (ps_set hN hi hx (he F₀ H₀) hs hf) fun D σ H hq__ => by
  obtain ⟨F, τ, r, E, e1, q⟩ := hq__
  obtain ⟨⟨y, τ1⟩, e2, e1⟩ := bind_some e1
  cases e1
  exact ⟨F, τ, y, τ1, E, e2, fun F' H' v E' s' r' => q F' H' _ (E'.set r') s'⟩
theorem ss_setOwn (i : Nat) {x : Str} {pos' : Pos} {p2 : Pos} (hN : X.N.Nodup) (hi : X.N[i]? = some x) (hx : Loc X.env.scope x) (he : SA X es ga) (hs : swapsWith (.List es p2) (some (.Name x pos')) pos.line X.env = pure false := by rfl)
    (hf : X.fn x = true ∨ X.env.scope.names.lookup x = some .local := by first | exact .inl rfl | exact .inr rfl | assumption) : SS X (.Assign [.Name x pos'] (.List es p2) pos) (fSetOwn i ga) := fun F₀ H₀ => PS.weak (ps_set hN hi hx (pe_lst (he F₀ H₀)) hs hf) fun D σ H hq__ => by
  obtain ⟨F, τ, r, E, e1, q⟩ := hq__
  obtain ⟨⟨y, τ1⟩, e2, e1⟩ := bind_some e1
  dsimp only at e1
  split at e1
  · next hl =>
    cases e1
    exact ⟨F, τ, y, τ1, E, e2, fun F' H' vs E' s' r' => ⟨by rw [r'.length]; exact hl, fun p hp => q F' _ _ (E'.setOwn hp r') s'⟩⟩
  · cases e1
noncomputable def tG (K : PySem.W.Frag) (F₀ H₀ : Hp) (fg : FG) : TG := fun v σ H Q => ∃ F τ t τ', EnvOk K F₀ H₀ F H σ τ ∧ Rep K F t v ∧ fg t τ = some τ' ∧ ∀ F' H' σ', EnvOk K F₀ H₀ F' H' σ' τ' → Same F F' → Q σ' H'
noncomputable def tGs (K : PySem.W.Frag) (F₀ H₀ : Hp) (fg : List T → TEnv → Option TEnv) : TGs := fun vs σ H Q => ∃ F τ ts τ', EnvOk K F₀ H₀ F H σ τ ∧ Reps K F ts vs ∧ fg ts τ = some τ' ∧ ∀ F' H' σ', EnvOk K F₀ H₀ F' H' σ' τ' → Same F F' → Q σ' H'
noncomputable def SG (X : Cx) (tg : Expr) (fg : FG) : Prop := ∀ F₀ H₀, PG X tg (tG X.K F₀ H₀ fg)
noncomputable def SGs (X : Cx) (tg : List Expr) (fg : List T → TEnv → Option TEnv) : Prop := ∀ F₀ H₀, PGs X tg (tGs X.K F₀ H₀ fg)
noncomputable def gnName (i : Nat) : FG := fun t τ => some (τ.set i (some (.sh t)))
noncomputable def gnNil : List T → TEnv → Option TEnv
  | [], τ => some τ
  | _ :: _, _ => none
noncomputable def gnCons (g : FG) (gs : List T → TEnv → Option TEnv) : List T → TEnv → Option TEnv
  | [], _ => none
  | t :: ts, τ => (g t τ).bind fun τ1 => gs ts τ1
noncomputable def gnTup (gs : List T → TEnv → Option TEnv) : FG := fun t τ => match t with
  | .tup ts => gs ts τ
  | _ => none
theorem sg_name (i : Nat) {x : Str} (hN : X.N.Nodup) (hi : X.N[i]? = some x) (hx : Loc X.env.scope x) (hf : X.fn x = true ∨ X.env.scope.names.lookup x = some .local := by first | exact .inl rfl | exact .inr rfl | assumption) : SG X (.Name x pos) (gnName i) :=
  fun F₀ H₀ pins s σ H v u Q I r h => pg_name hN hi hx hf pins s σ H v u Q I r (by
    obtain ⟨F, τ, t, τ', E, rt, e1, q⟩ := h
    cases e1
    exact q F H _ (E.set rt) (Same.refl _))
theorem sgs_nil : SGs X [] gnNil := fun F₀ H₀ pins s σ H vs us Q I r h => pgs_nil pins s σ H vs us Q I r (by
  obtain ⟨F, τ, ts, τ', E, rt, e1, q⟩ := h
  cases ts with
  | nil => cases e1; cases rt; exact ⟨rfl, q F H σ E (Same.refl _)⟩
  | cons t ts => cases e1)
theorem sgs_cons {g : FG} {gs : List T → TEnv → Option TEnv} (h1 : SG X e g) (h2 : SGs X es gs) (hs : (assignEach (e :: es) X.env).map (·.2) = assign e X.env :: (assignEach es X.env).map (·.2) := by rfl) : SGs X (e :: es) (gnCons g gs) :=
  fun F₀ H₀ pins s σ H vs us Q I r h => pgs_cons (h1 F₀ H₀) (h2 F₀ H₀) hs pins s σ H vs us Q I r (by
    obtain ⟨F, τ, ts, τ', E, rt, e1, q⟩ := h
    cases ts with
    | nil => cases e1
    | cons t ts =>
      obtain ⟨v, rr, rfl, r1, r2⟩ := rt
      obtain ⟨τ1, e2, e1⟩ := bind_some e1
      exact ⟨v, rr, rfl, F, τ, t, τ1, E, r1, e2, fun F' H' σ' E' s' => ⟨F', τ1, ts, τ', E', Reps.mono s' r2, e1, fun F2 H2 σ2 E2 s2 => q F2 H2 σ2 E2 (s'.trans s2)⟩⟩)
theorem gl_nil : ∀ ts τ τ', gnNil ts τ = some τ' → ts.length = 0 := fun ts τ τ' h => by cases ts <;> first | rfl | cases h
theorem gl_cons {g : FG} {gs : List T → TEnv → Option TEnv} {n : Nat} (h : ∀ ts τ τ', gs ts τ = some τ' → ts.length = n) : ∀ ts τ τ', gnCons g gs ts τ = some τ' → ts.length = n + 1 := fun ts τ τ' e => by
  cases ts with
  | nil => cases e
  | cons t ts =>
    obtain ⟨τ1, e2, e1⟩ := bind_some e
    simp [h _ _ _ e1]
theorem sg_tup {gs : List T → TEnv → Option TEnv} {k : Nat} {n : Nat} (hc : X.calm = true) (h : SGs X es gs) (hl : ∀ ts τ τ', gs ts τ = some τ' → ts.length = n)
    (hn : (assignEach es X.env).length = n := by rfl) (hst : (assignEach es X.env).findIdx? (·.1) = none := by rfl) : SG X (.Tuple es k pos) (gnTup gs) :=
  fun F₀ H₀ pins s σ H v u Q I r h' => pg_tup hc (h F₀ H₀) hn hst pins s σ H v u Q I r (by
    obtain ⟨F, τ, t, τ', E, rt, e1, q⟩ := h'
    unfold gnTup at e1
    split at e1
    · next ts =>
      obtain ⟨p, xs, rfl, h1, h2⟩ := rt
      exact ⟨p, xs, rfl, same_sqT E.g.fh h1, by rw [h2.length]; exact hl _ _ _ e1, F, τ, ts, τ', E, h2, e1, q⟩
    · cases e1)
noncomputable def fAsg (f : FE) (g : FG) : FS := fun τ => (f τ).bind fun p => (g p.1 p.2).bind fun τ' => some (.nx τ')
theorem ss_asg {tg : Expr} {g : FG} (he : SE X e f) (hg : SG X tg g) (hs : swapsWithSole [tg] e pos.line X.env = pure false := by rfl) (hw : swappedStores [tg] e X.env = pure none := by rfl)
    (h1 : (assignEach [tg] X.env).map (·.2) = [assign tg X.env] := by rfl) : SS X (.Assign [tg] e pos) (fAsg f g) := fun F₀ H₀ => PS.weak (ps_asg (he F₀ H₀) (hg F₀ H₀) hs hw h1) fun D σ H hq__ => by
  obtain ⟨F, τ, r, E, e1, q⟩ := hq__
  obtain ⟨⟨y, τ1⟩, e2, e1⟩ := bind_some e1
  obtain ⟨τ2, e3, e1⟩ := bind_some e1
  cases e1
  exact ⟨F, τ, y, τ1, E, e2, fun F' H' v E' s' r' => ⟨F', τ1, y, τ2, E', r', e3, fun F2 H2 σ2 E2 s2 => q F2 H2 σ2 E2 (s'.trans s2)⟩⟩
noncomputable def fPar (i j : Nat) (g : FA) : FS := fun τ => (g τ).bind fun p => match p.1 with
  | [v, w] => some (.nx ((p.2.set i (some (.sh v))).set j (some (.sh w))))
  | _ => none
theorem ss_par {i j : Nat} {x y : Str} {px py pt : Pos} {kt k2 pt2} (hc : X.calm = true) (hN : X.N.Nodup) (hi : X.N[i]? = some x) (hj : X.N[j]? = some y) (hij : i ≠ j)
    (hx : X.env.scope.names.lookup x = some .local) (hy : X.env.scope.names.lookup y = some .local) (ha : SA X [a, b] ga)
    (hw : swappedStores [.Tuple [.Name x px, .Name y py] kt pt] (.Tuple [a, b] k2 pt2) X.env = pure (some [x, y]))
    (hs : swapsWithSole [.Tuple [.Name x px, .Name y py] kt pt] (.Tuple [a, b] k2 pt2) pos.line X.env = pure false := by rfl) :
    SS X (.Assign [.Tuple [.Name x px, .Name y py] kt pt] (.Tuple [a, b] k2 pt2) pos) (fPar i j ga) := fun F₀ H₀ => PS.weak (ps_par hc hN hi hj hij hx hy (ha F₀ H₀) hw hs) fun D σ H hq__ => by
  obtain ⟨F, τ, r, E, e1, q⟩ := hq__
  obtain ⟨⟨ts, τ1⟩, e2, e1⟩ := bind_some e1
  dsimp only at e1
  split at e1
  · next v w =>
    cases e1
    refine ⟨F, τ, _, τ1, E, e2, fun F' H' vs E' s' r' => ?_⟩
    obtain ⟨v1, r1, rfl, q1, v2, r2, rfl, q2, rfl⟩ := r'
    exact ⟨v1, v2, rfl, q F' H' _ ((E'.set q1).set q2) s'⟩
  · cases e1

structure Walks (K : PySem.W.Frag) (F : Hp) (ts : List T) (J : It) : Prop where
  go : ∀ (i : Nat) t F1 H1, ts[i]? = some t → Same F F1 → Same F1 H1 → J.go i H1
  yld : ∀ (i : Nat) t F1 H1 x H2, ts[i]? = some t → Same F F1 → Same F1 H1 → J.yld i H1 x H2 → ∃ F2, Grow F1 H1 F2 H2 ∧ Rep K F2 t x
  stop : ∀ F1 H1, Same F F1 → Same F1 H1 → J.stop ts.length H1
noncomputable def tI (K : PySem.W.Frag) (F₀ H₀ : Hp) (fi : FA) : TI := fun σ H R => ∃ F τ ts τ', EnvOk K F₀ H₀ F H σ τ ∧ fi τ = some (ts, τ') ∧ ∀ F' H' J, EnvOk K F₀ H₀ F' H' σ τ' → Same F F' → Walks K F' ts J → R J H'
noncomputable def SI (X : Cx) (tg iter : Expr) (fi : FA) : Prop := ∀ F₀ H₀, PI X tg iter (tI X.K F₀ H₀ fi)
noncomputable def loopT (fg : FG) (fb : FS) : List T → FS
  | [], τ => some (.nx τ)
  | t :: ts, τ => (fg t τ).bind fun τ1 => (fb τ1).bind fun r => match r with
    | .nx τ2 => loopT fg fb ts τ2
    | .ct τ2 => loopT fg fb ts τ2
    | .bk τ2 => some (.nx τ2)
    | .rt v => some (.rt v)
noncomputable def fFor (fi : FA) (fg : FG) (fb : FS) : FS := fun τ => (fi τ).bind fun p => loopT fg fb p.1 p.2
theorem ss_for {tg iter : Expr} {body : List Stmt} {fi : FA} {fg : FG} {fb : FS} (hp : PassesOwn (model X.prog X.w) X.A X.env X.xe) (hc : X.calm = true) (hi : SI X tg iter fi) (hg : SG X tg fg) (hb : SSs X body fb)
    (hs : ∀ x, foldedSetIterable iter X.env x = pure x := by intro _; rfl) : SS X (.For tg iter body [] pos) (fFor fi fg fb) := fun F₀ H₀ => PS.weak (ps_for hp hc (hi F₀ H₀) (hg F₀ H₀) (hb F₀ H₀) hs) fun D σ H hq__ => by
  obtain ⟨F, τ, r, E, e1, q⟩ := hq__
  obtain ⟨⟨ts, τ1⟩, e2, e1⟩ := bind_some e1
  refine ⟨F, τ, ts, τ1, E, e2, fun F' H' J E' s' W => ?_⟩
  refine ⟨fun i m σ H => m = ts.length - i ∧ i ≤ ts.length ∧ ∃ F1 τ1, EnvOk X.K F₀ H₀ F1 H σ τ1 ∧ Same F' F1 ∧ loopT fg fb (ts.drop i) τ1 = some r, ⟨_, rfl, Nat.zero_le _, F', τ1, E', Same.refl _, e1⟩, ?_⟩
  rintro i m σ1 H1 ⟨rfl, hi, F1, τ2, E1, s1, e3⟩
  by_cases hlt : i < ts.length
  · have hd : ts.drop i = ts[i] :: ts.drop (i + 1) := List.drop_eq_getElem_cons hlt
    have hg : ts[i]? = some ts[i] := List.getElem?_eq_getElem hlt
    rw [hd] at e3
    obtain ⟨τ3, e4, e3⟩ := bind_some e3
    obtain ⟨r', e5, e3⟩ := bind_some e3
    refine .inr ⟨W.go i _ F1 H1 hg s1 E1.g.fh, fun σ H => ∃ F1 τ1, EnvOk X.K F₀ H₀ F1 H σ τ1 ∧ Same F' F1 ∧ loopT fg fb (ts.drop (i + 1)) τ1 = some r, fun σ' H' n => ⟨_, by omega, rfl, hlt, n⟩, fun x H2 y => ?_⟩
    obtain ⟨F2, gr, rx⟩ := W.yld i _ F1 H1 x H2 hg s1 E1.g.fh y
    refine ⟨F2, τ2, ts[i], τ3, E1.grow gr, rx, e4, fun F3 H3 σ3 E3 s3 => ⟨F3, τ3, r', E3, e5, ?_⟩⟩
    have s03 : Same F' F3 := s1.trans (gr.sF.trans s3)
    cases r' with
    | nx τ4 => exact fun F4 H4 σ4 E4 s4 => ⟨F4, τ4, E4, s03.trans s4, e3⟩
    | ct τ4 => exact fun F4 H4 σ4 E4 s4 => ⟨F4, τ4, E4, s03.trans s4, e3⟩
    | bk τ4 => cases e3; exact fun F4 H4 σ4 E4 s4 => q F4 H4 σ4 E4 (s'.trans (s03.trans s4))
    | rt v => cases e3; exact q
  · have he : i = ts.length := by omega
    subst he
    rw [List.drop_length] at e3
    cases e3
    exact .inl ⟨W.stop F1 H1 s1 E1.g.fh, q F1 H1 σ1 E1 (s'.trans s1)⟩
noncomputable def fiSeqL (f : FE) : FA := fun τ => (f τ).bind fun p => match p.1 with | .lst ts => some (ts, p.2) | .scr ts => some (ts, p.2) | _ => none
noncomputable def fiSeqT (f : FE) : FA := fun τ => (f τ).bind fun p => match p.1 with | .tup ts => some (ts, p.2) | _ => none
theorem walks_list {K : PySem.W.Frag} {F : Hp} {p : Addr} {xs : List V} {ts : List T} (h1 : SqL K F p xs) (h2 : Reps K F ts xs) : Walks K F ts (Itl K p) := by
  refine ⟨fun i t F1 H1 e s1 s2 => ?_, fun i t F1 H1 x H2 e s1 s2 y => ?_, fun F1 H1 s1 s2 => ⟨xs, (s1.trans s2).seq h1, by rw [h2.length]; exact Nat.le_refl _⟩⟩
  · obtain ⟨v, g1, _⟩ := h2.get e
    exact ⟨xs, v, (s1.trans s2).seq h1, g1⟩
  · obtain ⟨rfl, y⟩ := y
    obtain ⟨v, g1, g2⟩ := h2.get e
    have := y xs ((s1.trans s2).seq h1)
    rw [g1] at this; cases this
    exact ⟨F1, Grow.refl s2, Rep.mono s1 g2⟩
theorem walks_tup {K : PySem.W.Frag} {F : Hp} {p : Addr} {xs : List V} {ts : List T} (h1 : SqT K F p xs) (h2 : Reps K F ts xs) : Walks K F ts (Itt K p) := by
  refine ⟨fun i t F1 H1 e s1 s2 => ?_, fun i t F1 H1 x H2 e s1 s2 y => ?_, fun F1 H1 s1 s2 => ⟨xs, same_sqT (s1.trans s2) h1, by rw [h2.length]; exact Nat.le_refl _⟩⟩
  · obtain ⟨v, g1, _⟩ := h2.get e
    exact ⟨xs, v, same_sqT (s1.trans s2) h1, g1⟩
  · obtain ⟨rfl, y⟩ := y
    obtain ⟨v, g1, g2⟩ := h2.get e
    have := y xs (same_sqT (s1.trans s2) h1)
    rw [g1] at this; cases this
    exact ⟨F1, Grow.refl s2, Rep.mono s1 g2⟩
theorem PI.weak {tg it : Expr} {t t' : TI} (h : PI X tg it t) (i : ∀ σ H R, t' σ H R → t σ H R) : PI X tg it t' := fun pins s σ H R I q => h pins s σ H R I (i σ H R q)
theorem si_list {tg l : Expr} (h : SE X l f) : SI X tg l (fiSeqL f) := fun F₀ H₀ => PI.weak (pi_list (h F₀ H₀)) fun σ H R hq__ => by
  obtain ⟨F, τ, ts, τ', E, e1, q⟩ := hq__
  obtain ⟨⟨x, τ1⟩, e2, e1⟩ := bind_some e1
  dsimp only at e1
  split at e1
  · cases e1
    refine ⟨F, τ, _, τ', E, e2, fun F' H' v E' s' r' => ?_⟩
    obtain ⟨p, xs, rfl, h1, h2⟩ := r'
    exact ⟨p, rfl, ⟨xs, SqL.of (E'.g.fh _ _ h1)⟩, q F' H' _ E' s' (walks_list (SqL.of h1) h2)⟩
  · cases e1
    refine ⟨F, τ, _, τ', E, e2, fun F' H' v E' s' r' => ?_⟩
    obtain ⟨p, xs, rfl, h1, h2⟩ := r'
    exact ⟨p, rfl, ⟨xs, E'.g.fh.seq h1⟩, q F' H' _ E' s' (walks_list h1 h2)⟩
  · cases e1
theorem si_tup {tg l : Expr} (h : SE X l f) : SI X tg l (fiSeqT f) := fun F₀ H₀ => PI.weak (pi_tup (h F₀ H₀)) fun σ H R hq__ => by
  obtain ⟨F, τ, ts, τ', E, e1, q⟩ := hq__
  obtain ⟨⟨x, τ1⟩, e2, e1⟩ := bind_some e1
  dsimp only at e1
  split at e1
  · cases e1
    refine ⟨F, τ, _, τ', E, e2, fun F' H' v E' s' r' => ?_⟩
    obtain ⟨p, xs, rfl, h1, h2⟩ := r'
    exact ⟨p, rfl, ⟨xs, same_sqT E'.g.fh h1⟩, q F' H' _ E' s' (walks_tup h1 h2)⟩
  · cases e1
noncomputable def upTo (lo : Int) : Nat → List T
  | 0 => []
  | n + 1 => .int lo :: upTo (lo + 1) n
theorem upTo_length : ∀ (n : Nat) (lo : Int), (upTo lo n).length = n
  | 0, _ => rfl
  | n + 1, lo => by simp [upTo, upTo_length n]
theorem upTo_get : ∀ (n : Nat) (lo : Int) (i : Nat), i < n → (upTo lo n)[i]? = some (.int (lo + i))
  | 0, _, _, h => by omega
  | n + 1, lo, 0, _ => by simp [upTo]
  | n + 1, lo, i + 1, h => by
    simp only [upTo, List.getElem?_cons_succ]
    rw [upTo_get n (lo + 1) i (by omega)]
    congr 2
    push_cast
    omega
noncomputable def fiRng1 (g : FA) : FA := fun τ => (g τ).bind fun p => match p.1 with
  | [.int j] => if -(2 ^ 62) ≤ j ∧ j < 2 ^ 62 then some (upTo 0 j.toNat, p.2) else none
  | _ => none
theorem walks_rng {K : PySem.W.Frag} {F : Hp} (lo : Int) (n : Nat) : Walks K F (upTo lo n) (Itr lo n) := by
  have hl : ∀ {i : Nat} {t : T}, (upTo lo n)[i]? = some t → i < n := fun {i t} e => by
    have := (List.getElem?_eq_some_iff.mp e).1
    rwa [upTo_length] at this
  refine ⟨fun i t F1 H1 e s1 s2 => hl e, fun i t F1 H1 x H2 e s1 s2 y => ?_, fun F1 H1 s1 s2 => by show n ≤ _; rw [upTo_length]; exact Nat.le_refl _⟩
  obtain ⟨rfl, rfl⟩ := y
  rw [upTo_get n lo i (hl e)] at e
  cases e
  exact ⟨F1, Grow.refl s2, rfl⟩
theorem si_rng1 {tg : Expr} {p : Pos} (hg : Gl X "range") (hm : X.mg "range" = none) (ha : SA X [a] ga) (hs : starEach [a] X.env = [(false, eval a X.env)] := by rfl) : SI X tg (.Call (.Name "range" p) [a] [] pos) (fiRng1 ga) :=
  fun F₀ H₀ => PI.weak (pi_range1 hg hm (ha F₀ H₀) hs) fun σ H R hq__ => by
    obtain ⟨F, τ, ts, τ', E, e1, q⟩ := hq__
    obtain ⟨⟨x, τ1⟩, e2, e1⟩ := bind_some e1
    dsimp only at e1
    split at e1
    · split at e1
      · next hb =>
        cases e1
        refine ⟨F, τ, _, τ', E, e2, fun F' H' vs E' s' r' => ?_⟩
        obtain ⟨v, r, rfl, q1, rfl⟩ := r'
        cases q1
        exact ⟨_, rfl, hb.1, hb.2, q F' H' _ E' s' (walks_rng 0 _)⟩
      · cases e1
    · cases e1
noncomputable def whileT (ft : FT) (fb : FS) : Nat → FS
  | 0, _ => none
  | n + 1, τ => (ft τ).bind fun p => if p.1 = true then (fb p.2).bind fun r => match r with
    | .nx τ2 => whileT ft fb n τ2
    | .ct τ2 => whileT ft fb n τ2
    | .bk τ2 => some (.nx τ2)
    | .rt v => some (.rt v) else some (.nx p.2)
theorem ss_while (n : Nat) {c : Expr} {body : List Stmt} {ft : FT} {fb : FS} (hp : PassesOwn (model X.prog X.w) X.A X.env X.xe) (hc : ST X c ft) (hb : SSs X body fb) : SS X (.While c body [] pos) (whileT ft fb n) := fun F₀ H₀ => PS.weak (ps_while hp (hc F₀ H₀) (hb F₀ H₀)) fun D σ H hq__ => by
  obtain ⟨F, τ, r, E, e1, q⟩ := hq__
  refine ⟨fun m σ H => ∃ F1 τ1, EnvOk X.K F₀ H₀ F1 H σ τ1 ∧ Same F F1 ∧ whileT ft fb m τ1 = some r, ⟨n, F, τ, E, Same.refl _, e1⟩, ?_⟩
  rintro m σ1 H1 ⟨F1, τ1, E1, s1, e2⟩
  cases m with
  | zero => cases e2
  | succ m =>
    obtain ⟨⟨x, τ2⟩, e3, e2⟩ := bind_some e2
    refine ⟨F1, τ1, x, τ2, E1, e3, fun F2 H2 E2 s2 => ?_⟩
    dsimp only at e2
    split at e2
    · next h =>
      rw [if_pos h]
      obtain ⟨r', e4, e2⟩ := bind_some e2
      refine ⟨fun σ H => ∃ F1 τ1, EnvOk X.K F₀ H₀ F1 H σ τ1 ∧ Same F F1 ∧ whileT ft fb m τ1 = some r, fun σ' H' n => ⟨m, Nat.lt_succ_self m, n⟩, F2, τ2, r', E2, e4, ?_⟩
      cases r' with
      | nx τ4 => exact fun F4 H4 σ4 E4 s4 => ⟨F4, τ4, E4, (s1.trans s2).trans s4, e2⟩
      | ct τ4 => exact fun F4 H4 σ4 E4 s4 => ⟨F4, τ4, E4, (s1.trans s2).trans s4, e2⟩
      | bk τ4 => cases e2; exact fun F4 H4 σ4 E4 s4 => q F4 H4 σ4 E4 ((s1.trans s2).trans s4)
      | rt v => cases e2; exact q
    · next h =>
      rw [if_neg h]
      cases e2
      exact q F2 H2 σ1 E2 (s1.trans s2)
noncomputable def fApp (i : Nat) (f : FE) : FS := fun τ => match τ[i]? with
  | some (some (.own _)) => (f τ).bind fun p => match p.2[i]? with
    | some (some (.own ts)) => if ts.length < sizeLine then some (.nx (p.2.set i (some (.own (ts ++ [p.1]))))) else none
    | _ => none
  | _ => none
end
noncomputable def dOf (m n : Nat) (fb : FS) : List T → Option T := fun ts => if ts.length = n then (fb (ts.map (fun t => some (Sl.sh t)) ++ List.replicate (m - n) none)).bind fun r => match r with
  | .rt t => some t
  | .nx _ => some .non
  | _ => none else none
theorem env_start {K : PySem.W.Frag} {F H : Hp} {N : List Str} {vs : List V} {ts : List T} (s : Same F H) (r : Reps K F ts vs) : EnvOk K F H F H (start N vs) (ts.map (fun t => some (Sl.sh t)) ++ List.replicate (N.length - ts.length) none) := by
  have hl := r.length
  have key : ∀ (i : Nat) (sl : Sl), (ts.map (fun t => some (Sl.sh t)) ++ List.replicate (N.length - ts.length) none)[i]? = some (some sl) → ∃ t, ts[i]? = some t ∧ sl = .sh t := fun i sl e => by
    by_cases h : i < ts.length
    · rw [List.getElem?_append_left (by simpa using h), List.getElem?_map, List.getElem?_eq_getElem h] at e
      simp at e
      exact ⟨ts[i], List.getElem?_eq_getElem h, e.symm⟩
    · rw [List.getElem?_append_right (by simp; omega), List.getElem?_replicate] at e
      split at e <;> cases e
  refine ⟨Grow.refl s, by simp [L2.start, hl], fun i sl e => ?_, fun i j us ws p _ e1 _ _ => ?_⟩
  · obtain ⟨t, e1, rfl⟩ := key i sl e
    obtain ⟨v, g1, g2⟩ := r.get e1
    refine ⟨v, ?_, g2⟩
    have hi : i < vs.length := (List.getElem?_eq_some_iff.mp g1).1
    unfold L2.start
    rw [List.getElem?_append_left (by simpa using hi), List.getElem?_map, g1]
    rfl
  · obtain ⟨t, _, e⟩ := key i _ e1
    cases e
section
variable {P : Program} {w : World} {K : PySem.W.Frag} {mg : Str → Option Value} {base : Heap}
theorem def_of {x qual : Str} {st : Stmt} {f : Addr} {fd : FuncData} {N ps : List Str} {k : Nat} {fb : FS} (F : Fun K x qual st f fd) (S : FnScope N ps (defScope st)) (hb : Binds K fd ps []) (hm : mg x = some (.ref f))
    (h : ∀ (cdv : Value) (A : Around) (outer : List Env) (s : Shared) (H : Hp) (E : XK), Room k (A.deeper (envOfC qual (defScope st) s.heap.objs.size f cdv)) → SSs (cxOf CX0 P w K mg base N qual (defScope st) f cdv A outer s H E).nox (defBody st) fb) :
    Def P w K mg base (k + 1) x ps.length (dOf N.length ps.length fb) := by
  refine ⟨f, fd, ps, F.ok S (fun vs H Q E z => z.1) (fun cdv A outer s H vs Q E hr z => ?_), hb, F.kp, hm, rfl⟩
  obtain ⟨hl, F1, ts, t, sm, r, e, q⟩ := z
  unfold dOf at e
  split at e
  · next hn =>
    obtain ⟨r', e1, e⟩ := bind_some e
    refine ⟨_, h cdv A outer s H E hr F1 H, F1, _, r', ?_, e1, ?_⟩
    · have := env_start (N := N) sm r
      rw [hn] at this
      exact this
    · cases r' with
      | rt u => cases e; exact fun F' H' v g r' => q F' H' v g r'
      | nx τ => cases e; exact fun F' H' σ' E' s' => q F' H' .non E'.g rfl
      | bk τ => cases e
      | ct τ => cases e
  · cases e
end
end TM

namespace TM
open PySem PySem.Spec PyProof.Rows L2
noncomputable def B : Nat := 2 ^ 4000
theorem B_log {n : Nat} (h : n < B) : n.log2 < 4000 := by
  rcases Nat.eq_zero_or_pos n with h0 | hp
  · rw [h0]; decide
  · exact (Nat.log2_lt (Nat.ne_of_gt hp)).mpr h
theorem bits_B {i : Int} (h : i.natAbs < B) : Builtin.Int.intBits i ≤ 4000 := by
  unfold Builtin.Int.intBits
  split
  · omega
  · have := B_log h
    omega
theorem mul_B {i j : Int} (hi : i.natAbs < B) (hj : j.natAbs < B) : IntMulOk i j := by
  have h1 := bits_B hi
  have h2 := bits_B hj
  unfold IntMulOk
  have h3 : Builtin.Int.intTooBig (Builtin.Int.intBits i + Builtin.Int.intBits j) = false := by
    unfold Builtin.Int.intTooBig
    have hb : ((bitsLine : Nat) : Int) = 134217728 := by decide
    rw [decide_eq_false]
    show ¬ ((Builtin.Int.intBits i : Int) + (Builtin.Int.intBits j : Int) > ((bitsLine : Nat) : Int))
    rw [hb]
    omega
  rw [h3]
  simp
section
variable {X : Cx}
noncomputable def gI (C : Int → Int → Prop) [∀ i j, Decidable (C i j)] (g : Int → Int → T) : T → T → Option T := fun a b => match a, b with
  | .int i, .int j => if C i j then some (g i j) else none
  | _, _ => none
theorem gI_int {C : Int → Int → Prop} [∀ i j, Decidable (C i j)] {g : Int → Int → T} {i j : Int} : gI C g (.int i) (.int j) = if C i j then some (g i j) else none := rfl
theorem opT_I {f : Value → Value → Sem Value} {C : Int → Int → Prop} [∀ i j, Decidable (C i j)] {g : Int → Int → T} {gv : Int → Int → V} (h : OpR X f (rI C gv)) (hg : ∀ K F i j, Rep K F (g i j) (gv i j)) : OpT X f (gI C g) := by
  intro pins s σ H x y v u Q I rx ry ⟨F, a, b, t, sm, ra, rb, e, q⟩
  unfold gI at e
  split at e
  · cases ra
    cases rb
    split at e
    · next hc =>
      cases e
      exact h pins s σ H _ _ v u Q I rx ry ⟨_, _, rfl, rfl, hc, q F H _ (Grow.refl sm) (hg _ _ _ _)⟩
    · cases e
  · cases e
theorem opT_I0 {f : Value → Value → Sem Value} {g : Int → Int → T} {gv : Int → Int → V} (h : OpR X f (rI0 gv)) (hg : ∀ K F i j, Rep K F (g i j) (gv i j)) : OpT X f (gI (fun _ _ => True) g) :=
  opT_I (fun pins s σ H x y v u Q I rx ry ⟨i, j, e1, e2, _, q⟩ => h pins s σ H x y v u Q I rx ry ⟨i, j, e1, e2, q⟩) hg
noncomputable def gOr (g g' : T → T → Option T) : T → T → Option T := fun a b => match g a b with
  | some t => some t
  | none => g' a b
theorem OpT.or {f : Value → Value → Sem Value} {g g' : T → T → Option T} (h : OpT X f g) (h' : OpT X f g') : OpT X f (gOr g g') := by
  intro pins s σ H x y v u Q I rx ry ⟨F, a, b, t, sm, ra, rb, e, q⟩
  unfold gOr at e
  split at e
  · next t' e' => cases e; exact h pins s σ H x y v u Q I rx ry ⟨F, a, b, _, sm, ra, rb, e', q⟩
  · exact h' pins s σ H x y v u Q I rx ry ⟨F, a, b, t, sm, ra, rb, e, q⟩
noncomputable def CMulB (i j : Int) : Prop := i.natAbs < B ∧ j.natAbs < B
noncomputable instance (i j : Int) : Decidable (CMulB i j) := inferInstanceAs (Decidable (_ ∧ _))
noncomputable def CDivB (i j : Int) : Prop := j ≠ 0 ∧ j.natAbs < B
noncomputable instance (i j : Int) : Decidable (CDivB i j) := inferInstanceAs (Decidable (_ ∧ _))
noncomputable def CNz (i j : Int) : Prop := j ≠ 0
noncomputable instance (i j : Int) : Decidable (CNz i j) := inferInstanceAs (Decidable (_ ≠ _))
noncomputable instance (i j : Int) : Decidable (CPow i j) := inferInstanceAs (Decidable (_ ∧ _ ∧ _))
noncomputable abbrev gSub := gI (fun _ _ => True) fun i j => .int (i - j)
noncomputable abbrev gMulI := gI CMulB fun i j => .int (i * j)
noncomputable abbrev gDiv := gI CDivB fun i j => .int (i.fdiv j)
noncomputable abbrev gMod := gI CNz fun i j => .int (i.fmod j)
noncomputable abbrev gLt := gI (fun _ _ => True) fun i j => .bl (decide (i < j))
noncomputable abbrev gLe := gI (fun _ _ => True) fun i j => .bl (decide (i ≤ j))
noncomputable abbrev gGt := gI (fun _ _ => True) fun i j => .bl (decide (j < i))
theorem ot_sub : OpT X (binaryOp .Sub) gSub := opT_I0 op_sub fun _ _ _ _ => rfl
theorem ot_mulI : OpT X (binaryOp .Mult) gMulI := opT_I (C := CMulB) (gv := fun i j => .int (i * j)) (opI fun _ _ _ _ _ _ _ hc q => mul_int q (mul_B hc.1 hc.2)) fun _ _ _ _ => rfl
theorem ot_div : OpT X (binaryOp .FloorDiv) gDiv := opT_I (C := CDivB) (gv := fun i j => .int (i.fdiv j)) (opI fun _ _ _ _ _ _ _ hc q => floordiv_int hc.1 q (.inl (PyProof.noPylong_of_log2 (Nat.lt_trans (B_log hc.2) (by decide : 4000 < 9000))))) fun _ _ _ _ => rfl
theorem ot_mod : OpT X (binaryOp .Mod) gMod := opT_I (C := CNz) (gv := fun i j => .int (i.fmod j)) op_modN fun _ _ _ _ => rfl
theorem ot_lt : OpT X (compareOp .Lt) gLt := opT_I0 op_lt fun _ _ _ _ => rfl
theorem ot_le : OpT X (compareOp .LtE) gLe := opT_I0 op_le fun _ _ _ _ => rfl
theorem ot_gt : OpT X (compareOp .Gt) gGt := opT_I0 op_gt fun _ _ _ _ => rfl
noncomputable def gAddS : T → T → Option T
  | .str x, .str y => if x.length + y.length ≤ sizeLine then some (.str (x ++ y)) else none
  | .lst xs, .lst ys => if xs.length + ys.length ≤ sizeLine then some (.lst (xs ++ ys)) else none
  | .tup (x :: xs), .tup (y :: ys) => if (x :: xs).length + (y :: ys).length ≤ sizeLine then some (.tup (x :: xs ++ y :: ys)) else none
  | _, _ => none
theorem ot_addS : OpT X (binaryOp .Add) gAddS := by
  intro pins s σ H x y v u Q I rx ry ⟨F, a, b, t, sm, ra, rb, e, q⟩
  unfold gAddS at e
  split at e
  · split at e
    · next hl =>
      cases e; cases ra; cases rb
      exact op_add_str pins s σ H _ _ v u Q I rx ry ⟨_, _, rfl, rfl, hl, q F H _ (Grow.refl sm) rfl⟩
    · cases e
  · split at e
    · next hl =>
      cases e
      obtain ⟨p1, x1, rfl, h1, h2⟩ := ra
      obtain ⟨p2, x2, rfl, h3, h4⟩ := rb
      refine op_cat pins s σ H _ _ v u Q I rx ry ⟨p1, p2, x1, x2, rfl, rfl, sm _ _ h1, sm _ _ h3, by rw [h2.length, h4.length]; exact hl, fun p hp => ?_⟩
      have gr := Grow.new (.lst (x1 ++ x2)) sm hp
      exact q _ _ _ gr ⟨p, _, rfl, upd_same, Reps.mono gr.sF (h2.append h4)⟩
    · cases e
  · split at e
    · next hl =>
      cases e
      obtain ⟨p1, x1, rfl, h1, h2⟩ := ra
      obtain ⟨p2, x2, rfl, h3, h4⟩ := rb
      refine op_catT pins s σ H _ _ v u Q I rx ry ⟨p1, p2, x1, x2, rfl, rfl, same_sqT sm h1, same_sqT sm h3, fun z => ?_, by rw [h2.length, h4.length]; exact hl, fun z => ?_, fun _ p hp => ?_⟩
      · subst z; have := h2.length; simp at this
      · subst z; have := h4.length; simp at this
      · have gr := Grow.new (.tup (x1 ++ x2)) sm hp
        exact q _ _ _ gr ⟨p, _, rfl, SqT.of upd_same, Reps.mono gr.sF (h2.append h4)⟩
    · cases e
  · cases e
noncomputable def gAdd : T → T → Option T := gOr (gI (fun _ _ => True) fun i j => .int (i + j)) gAddS
theorem ot_add : OpT X (binaryOp .Add) gAdd := OpT.or (opT_I0 op_add fun _ _ _ _ => rfl) ot_addS
theorem gAdd_int {i j : Int} : gAdd (.int i) (.int j) = some (.int (i + j)) := rfl
theorem gAdd_lst {xs ys : List T} (h : xs.length + ys.length ≤ sizeLine) : gAdd (.lst xs) (.lst ys) = some (.lst (xs ++ ys)) := by
  show gAddS (.lst xs) (.lst ys) = _
  simp only [gAddS, if_pos h]
theorem gAdd_tup {x y : T} {xs ys : List T} (h : (x :: xs).length + (y :: ys).length ≤ sizeLine) : gAdd (.tup (x :: xs)) (.tup (y :: ys)) = some (.tup (x :: xs ++ y :: ys)) := by
  show gAddS (.tup (x :: xs)) (.tup (y :: ys)) = _
  simp only [gAddS, if_pos h]
noncomputable def gNeg : T → Option T
  | .int i => some (.int (-i))
  | _ => none
theorem ut_neg : UnT X (unaryOp .USub) gNeg := by
  intro pins s σ H x v Q I rx ⟨F, a, t, sm, ra, e, q⟩
  unfold gNeg at e
  split at e
  · cases e; cases ra
    exact un_neg pins s σ H _ v Q I rx ⟨_, rfl, q F H _ (Grow.refl sm) rfl⟩
  · cases e
mutual
noncomputable def toP : T → Option PyData
  | .non => some .none
  | .bl b => some (.bool b)
  | .int i => some (.int i)
  | .str x => some (.str x)
  | .tup ts => (toPs ts).map .tuple
  | .lst ts => (toPs ts).map .list
  | .scr ts => (toPs ts).map .list
  | .ty _ => none
  | .dic => none
  | .obj _ _ _ => none
  | .ptr _ => none
noncomputable def toPs : List T → Option (List PyData)
  | [] => some []
  | t :: ts => (toP t).bind fun d => (toPs ts).bind fun ds => some (d :: ds)
end
mutual
theorem reads_of {pins : List (Addr × Obj)} {σ : L2.St} {H F : Hp} {s : Shared} (I : Inv X pins σ H s) (sm : Same F H) : ∀ {t : T} {d : PyData} {v : V} {u : Value}, toP t = some d → Rep X.K F t v → RelV v u → ∃ as, Reads s.heap u d as
  | .non, d, v, u, e, r, ru => by cases r; cases e; cases ru; exact ⟨_, .none⟩
  | .bl b, d, v, u, e, r, ru => by cases r; cases e; cases ru; exact ⟨_, .bool _⟩
  | .int i, d, v, u, e, r, ru => by cases r; cases e; obtain ⟨t, rfl⟩ := ru; exact ⟨_, .int _ _⟩
  | .str x, d, v, u, e, r, ru => by cases r; cases e; obtain ⟨t, rfl⟩ := ru; exact ⟨_, .str _ _⟩
  | .ty _, d, v, u, e, r, ru => by cases e
  | .dic, d, v, u, e, r, ru => by cases e
  | .obj _ _ _, d, v, u, e, r, ru => by cases e
  | .ptr _, d, v, u, e, r, ru => by cases e
  | .tup ts, d, v, u, e, r, ru => by
    obtain ⟨p, xs, rfl, h1, h2⟩ := r
    cases ru
    simp only [toP] at e
    cases e1 : toPs ts with
    | none => rw [e1] at e; cases e
    | some ds =>
      rw [e1] at e; cases e
      obtain ⟨its, rv, ⟨o, g1, g2, n, g3⟩, _⟩ := I.tuple (same_sqT sm h1)
      obtain ⟨as, q⟩ := readsAll_of I sm e1 h2 rv
      exact ⟨_, .tuple g1 g2 g3 q⟩
  | .lst ts, d, v, u, e, r, ru => by
    obtain ⟨p, xs, rfl, h1, h2⟩ := r
    cases ru
    simp only [toP] at e
    cases e1 : toPs ts with
    | none => rw [e1] at e; cases e
    | some ds =>
      rw [e1] at e; cases e
      obtain ⟨its, rv, ⟨o, n, g1, g2, _, g3⟩, _⟩ := I.list (SqL.of (sm _ _ h1))
      obtain ⟨as, q⟩ := readsAll_of I sm e1 h2 rv
      exact ⟨_, .list g1 g2 g3 q⟩
  | .scr ts, d, v, u, e, r, ru => by
    obtain ⟨p, xs, rfl, h1, h2⟩ := r
    cases ru
    simp only [toP] at e
    cases e1 : toPs ts with
    | none => rw [e1] at e; cases e
    | some ds =>
      rw [e1] at e; cases e
      obtain ⟨its, rv, ⟨o, n, g1, g2, _, g3⟩, _⟩ := I.list (sm.seq h1)
      obtain ⟨as, q⟩ := readsAll_of I sm e1 h2 rv
      exact ⟨_, .list g1 g2 g3 q⟩
theorem readsAll_of {pins : List (Addr × Obj)} {σ : L2.St} {H F : Hp} {s : Shared} (I : Inv X pins σ H s) (sm : Same F H) : ∀ {ts : List T} {ds : List PyData} {vs : List V} {us : List Value}, toPs ts = some ds → Reps X.K F ts vs → Vals vs us → ∃ as, ReadsAll s.heap us ds as
  | [], ds, vs, us, e, r, ru => by cases r; cases ru; cases e; exact ⟨_, .nil⟩
  | t :: ts, ds, vs, us, e, r, ru => by
    obtain ⟨v, rr, rfl, h1, h2⟩ := r
    cases ru with
    | cons r1 r2 =>
      simp only [toPs] at e
      obtain ⟨d, e1, e⟩ := bind_some e
      obtain ⟨ds', e2, e⟩ := bind_some e
      cases e
      obtain ⟨as, q1⟩ := reads_of I sm e1 h1 r1
      obtain ⟨bs, q2⟩ := readsAll_of I sm e2 h2 r2
      exact ⟨_, .cons q1 q2⟩
end
noncomputable def gEqW (neg : Bool) (a b : T) : Option T := (toP a).bind fun p => (toP b).bind fun q => if SeqAt.shaped p = true ∧ SeqAt.shaped q = true then some (.bl (if neg then !PyData.eqv p q else PyData.eqv p q)) else none
noncomputable abbrev gEq := gEqW false
noncomputable abbrev gNe := gEqW true
theorem ot_eq (hu : X.A.units + 64 < cLine) : OpT X (compareOp .Eq) gEq := by
  intro pins s σ H x y v u Q I rx ry ⟨F, a, b, t, sm, ra, rb, e, q⟩
  obtain ⟨d1, e1, e⟩ := bind_some e
  obtain ⟨d2, e2, e⟩ := bind_some e
  split at e
  · next hs =>
    cases e
    obtain ⟨as, q1⟩ := reads_of I sm e1 ra rx
    obtain ⟨bs, q2⟩ := reads_of I sm e2 rb ry
    exact SeqAt.compareEq_shaped q1 q2 hs.1 hs.2 hu ⟨.bl _, H, I, rfl, q F H _ (Grow.refl sm) rfl⟩
  · cases e
theorem ot_ne (hu : X.A.units + 64 < cLine) : OpT X (compareOp .NotEq) gNe := by
  intro pins s σ H x y v u Q I rx ry ⟨F, a, b, t, sm, ra, rb, e, q⟩
  obtain ⟨d1, e1, e⟩ := bind_some e
  obtain ⟨d2, e2, e⟩ := bind_some e
  split at e
  · next hs =>
    cases e
    obtain ⟨as, q1⟩ := reads_of I sm e1 ra rx
    obtain ⟨bs, q2⟩ := reads_of I sm e2 rb ry
    exact SeqAt.compareNe_shaped q1 q2 hs.1 hs.2 hu ⟨.bl _, H, I, rfl, q F H _ (Grow.refl sm) rfl⟩
  · cases e
noncomputable def isNon : T → Bool
  | .non => true
  | _ => false
noncomputable def gIs : T → T → Option T
  | a, .non => some (.bl (isNon a))
  | .bl c, .bl d => some (.bl (c == d))
  | _, _ => none
theorem isNon_rep {K : PySem.W.Frag} {F : Hp} {t : T} {v : V} (r : Rep K F t v) : decide (v = .non) = isNon t := by
  cases t with
  | non => cases r; rfl
  | bl _ => cases r; rfl
  | int _ => cases r; rfl
  | str _ => cases r; rfl
  | ty _ => cases r; rfl
  | tup _ => obtain ⟨p, xs, rfl, _⟩ := r; rfl
  | lst _ => obtain ⟨p, xs, rfl, _⟩ := r; rfl
  | scr _ => obtain ⟨p, xs, rfl, _⟩ := r; rfl
  | dic => obtain ⟨p, rfl, _⟩ := r; rfl
  | obj _ _ _ => obtain ⟨p, _, _, rfl, _⟩ := r; rfl
  | ptr _ => rw [show v = _ from r]; rfl
theorem ot_is : OpT X (compareOp .Is) gIs := by
  intro pins s σ H x y v u Q I rx ry ⟨F, a, b, t, sm, ra, rb, e, q⟩
  unfold gIs at e
  split at e
  · cases e; cases rb
    exact op_isN pins s σ H _ _ v u Q I rx ry ⟨rfl, by rw [isNon_rep ra]; exact q F H _ (Grow.refl sm) rfl⟩
  · cases e; cases ra; cases rb; cases rx; cases ry
    exact is_bool ⟨.bl _, H, I, rfl, q F H _ (Grow.refl sm) rfl⟩
  · cases e
noncomputable def gIx : T → T → Option T
  | .lst ts, .int i => atI ts i
  | .scr ts, .int i => atI ts i
  | .tup ts, .int i => atI ts i
  | .str x, .int i => if x.length ≤ sizeLine then (atI x.cps.toList i).map fun c => .str ⟨#[c]⟩ else none
  | _, _ => none
theorem atI_rep {K : PySem.W.Frag} {F : Hp} {ts : List T} {vs : List V} {i : Int} {t : T} (r : Reps K F ts vs) (e : atI ts i = some t) : ∃ v, atI vs i = some v ∧ Rep K F t v := by
  unfold atI at e ⊢
  rw [r.length]
  obtain ⟨j, e1, e2⟩ := bind_some e
  obtain ⟨v, g1, g2⟩ := r.get e2
  exact ⟨v, by rw [e1]; exact g1, g2⟩
theorem xt_ix : IxR X (rT2 X.K gIx) := by
  intro value slice pins s σ H x y v u Q I rx ry ⟨F, a, b, t, sm, ra, rb, e, q⟩ hs
  unfold gIx at e
  split at e
  · obtain ⟨p, xs, rfl, h1, h2⟩ := ra
    cases rb
    obtain ⟨w, g1, g2⟩ := atI_rep h2 e
    exact ix_list value slice pins s σ H _ _ v u Q I rx ry ⟨p, xs, _, w, rfl, rfl, SqL.of (sm _ _ h1), g1, q F H _ (Grow.refl sm) g2⟩ hs
  · obtain ⟨p, xs, rfl, h1, h2⟩ := ra
    cases rb
    obtain ⟨w, g1, g2⟩ := atI_rep h2 e
    exact ix_list value slice pins s σ H _ _ v u Q I rx ry ⟨p, xs, _, w, rfl, rfl, sm.seq h1, g1, q F H _ (Grow.refl sm) g2⟩ hs
  · obtain ⟨p, xs, rfl, h1, h2⟩ := ra
    cases rb
    obtain ⟨w, g1, g2⟩ := atI_rep h2 e
    exact ix_tup value slice pins s σ H _ _ v u Q I rx ry ⟨p, xs, _, w, rfl, rfl, same_sqT sm h1, g1, q F H _ (Grow.refl sm) g2⟩ hs
  · split at e
    · next hl =>
      cases ra; cases rb
      cases e1 : atI (Str.cps _).toList _ with
      | none => rw [e1] at e; cases e
      | some c =>
        rw [e1] at e; cases e
        exact ix_str value slice pins s σ H _ _ v u Q I rx ry ⟨_, _, c, rfl, rfl, hl, e1, q F H _ (Grow.refl sm) rfl⟩ hs
    · cases e
  · cases e
theorem callT_of {f : Value} {r : List V → Hp → VK → Prop} {g : List T → Option T} (h : CallR X f r) (i : ∀ vs H Q, rTs X.K g vs H Q → r vs H Q) : CallT X f g := fun pins s σ H xs us Q I rx q => h pins s σ H xs us Q I rx (i _ _ _ q)
noncomputable def dLen : List T → Option T
  | [.lst ts] => some (.int ts.length)
  | [.scr ts] => some (.int ts.length)
  | [.tup ts] => some (.int ts.length)
  | [.str x] => if x.length ≤ sizeLine then some (.int x.length) else none
  | _ => none
theorem ct_len : CallT X (.builtin "len") dLen := callT_of (CallR.or call_len_seq call_len_str) fun vs H Q hq__ => by
  obtain ⟨F, ts, t, sm, r, e, q⟩ := hq__
  unfold dLen at e
  split at e
  · obtain ⟨v, rr, rfl, ⟨p, xs, rfl, h1, h2⟩, rfl⟩ := r
    cases e
    exact .inl ⟨p, xs, rfl, .inl (SqL.of (sm _ _ h1)), by rw [h2.length]; exact q F H _ (Grow.refl sm) rfl⟩
  · obtain ⟨v, rr, rfl, ⟨p, xs, rfl, h1, h2⟩, rfl⟩ := r
    cases e
    exact .inl ⟨p, xs, rfl, .inl (sm.seq h1), by rw [h2.length]; exact q F H _ (Grow.refl sm) rfl⟩
  · obtain ⟨v, rr, rfl, ⟨p, xs, rfl, h1, h2⟩, rfl⟩ := r
    cases e
    exact .inl ⟨p, xs, rfl, .inr (same_sqT sm h1), by rw [h2.length]; exact q F H _ (Grow.refl sm) rfl⟩
  · split at e
    · next hl =>
      obtain ⟨v, rr, rfl, h1, rfl⟩ := r
      cases h1; cases e
      exact .inr ⟨_, rfl, hl, q F H _ (Grow.refl sm) rfl⟩
    · cases e
  · cases e
noncomputable def dAbs : List T → Option T
  | [.int i] => some (.int (if i < 0 then -i else i))
  | _ => none
theorem ct_abs : CallT X (.builtin "abs") dAbs := callT_of call_abs fun vs H Q hq__ => by
  obtain ⟨F, ts, t, sm, r, e, q⟩ := hq__
  unfold dAbs at e
  split at e
  · obtain ⟨v, rr, rfl, h1, rfl⟩ := r
    cases h1; cases e
    exact ⟨_, rfl, q F H _ (Grow.refl sm) rfl⟩
  · cases e
noncomputable def dMax : List T → Option T
  | [.int i, .int j] => some (.int (if j > i then j else i))
  | _ => none
noncomputable def dMin : List T → Option T
  | [.int i, .int j] => some (.int (if j < i then j else i))
  | _ => none
theorem ct_max (hc : X.calm = true) : CallT X (.builtin "max") dMax := callT_of (call_max2 hc) fun vs H Q hq__ => by
  obtain ⟨F, ts, t, sm, r, e, q⟩ := hq__
  unfold dMax at e
  split at e
  · obtain ⟨v, rr, rfl, h1, v2, r2, rfl, h2, rfl⟩ := r
    cases h1; cases h2; cases e
    exact ⟨_, _, rfl, q F H _ (Grow.refl sm) rfl⟩
  · cases e
theorem ct_min (hc : X.calm = true) : CallT X (.builtin "min") dMin := callT_of (call_min2 hc) fun vs H Q hq__ => by
  obtain ⟨F, ts, t, sm, r, e, q⟩ := hq__
  unfold dMin at e
  split at e
  · obtain ⟨v, rr, rfl, h1, v2, r2, rfl, h2, rfl⟩ := r
    cases h1; cases h2; cases e
    exact ⟨_, _, rfl, q F H _ (Grow.refl sm) rfl⟩
  · cases e
noncomputable def dList : List T → Option T
  | [.lst ts] => some (.lst ts)
  | [.scr ts] => some (.lst ts)
  | [.tup ts] => some (.lst ts)
  | _ => none
theorem ct_list : CallT X (.type "list") dList := callT_of call_list_of fun vs H Q hq__ => by
  obtain ⟨F, ts, t, sm, r, e, q⟩ := hq__
  unfold dList at e
  split at e
  · obtain ⟨v, rr, rfl, ⟨p, xs, rfl, h1, h2⟩, rfl⟩ := r
    cases e
    refine ⟨p, xs, rfl, .inl (SqL.of (sm _ _ h1)), fun l hl => ?_⟩
    have gr := Grow.new (.lst xs) sm hl
    exact q _ _ _ gr ⟨l, xs, rfl, upd_same, Reps.mono gr.sF h2⟩
  · obtain ⟨v, rr, rfl, ⟨p, xs, rfl, h1, h2⟩, rfl⟩ := r
    cases e
    refine ⟨p, xs, rfl, .inl (sm.seq h1), fun l hl => ?_⟩
    have gr := Grow.new (.lst xs) sm hl
    exact q _ _ _ gr ⟨l, xs, rfl, upd_same, Reps.mono gr.sF h2⟩
  · obtain ⟨v, rr, rfl, ⟨p, xs, rfl, h1, h2⟩, rfl⟩ := r
    cases e
    refine ⟨p, xs, rfl, .inr (same_sqT sm h1), fun l hl => ?_⟩
    have gr := Grow.new (.lst xs) sm hl
    exact q _ _ _ gr ⟨l, xs, rfl, upd_same, Reps.mono gr.sF h2⟩
  · cases e
noncomputable def tyN : T → Option String
  | .non => some "NoneType"
  | .bl _ => some "bool"
  | .int _ => some "int"
  | .str _ => some "str"
  | .tup _ => some "tuple"
  | .lst _ => some "list"
  | .scr _ => some "list"
  | .dic => some "dict"
  | .obj _ _ _ => none
  | .ptr _ => none
  | .ty _ => none
noncomputable def kinds : List String := ["int", "bool", "str", "list", "tuple", "dict"]
noncomputable def isK (a c : String) : Option Bool := if c ∈ kinds then some (a == c || (a == "bool" && c == "int")) else none
noncomputable def isKs (a : String) : List T → Option Bool
  | [] => some false
  | .ty c :: r => (isK a c).bind fun b => if b = true then some true else isKs a r
  | _ :: _ => none
theorem kit_of {K : PySem.W.Frag} {t : T} {a c : String} {b : Bool} (ha : tyN t = some a) (h : isK a c = some b) : PySem.W.kitOne K (.type a) (.type c) = some b := by
  have ha : a ∈ ["NoneType", "bool", "int", "str", "tuple", "list", "dict"] := by
    cases t <;> simp only [tyN] at ha <;> cases ha <;> simp
  unfold isK at h
  split at h
  · next hc =>
    cases h
    simp only [kinds, List.mem_cons, List.not_mem_nil, or_false] at hc ha
    rcases ha with rfl | rfl | rfl | rfl | rfl | rfl | rfl <;> rcases hc with rfl | rfl | rfl | rfl | rfl | rfl <;> rfl
  · cases h
theorem kits_of {K : PySem.W.Frag} {F : Hp} {t : T} {a : String} (ha : tyN t = some a) : ∀ {cs : List T} {vs : List V} {us : List Value} {b : Bool}, isKs a cs = some b → Reps K F cs vs → Vals vs us → PySem.W.kitAny K (.type a) us = some b
  | [], vs, us, b, h, r, ru => by cases r; cases ru; cases h; rfl
  | .ty c :: cs, vs, us, b, h, r, ru => by
    obtain ⟨v, rr, rfl, h1, h2⟩ := r
    cases h1
    cases ru with
    | cons r1 r2 =>
      cases r1
      obtain ⟨b', e1, h⟩ := bind_some h
      unfold PySem.W.kitAny
      rw [kit_of ha e1]
      cases b' with
      | true => rw [if_pos rfl] at h; exact h
      | false => rw [if_neg (by decide)] at h; exact kits_of ha h h2 r2
  | .non :: cs, vs, us, b, h, r, ru => by cases h
  | .bl _ :: cs, vs, us, b, h, r, ru => by cases h
  | .int _ :: cs, vs, us, b, h, r, ru => by cases h
  | .str _ :: cs, vs, us, b, h, r, ru => by cases h
  | .tup _ :: cs, vs, us, b, h, r, ru => by cases h
  | .lst _ :: cs, vs, us, b, h, r, ru => by cases h
  | .scr _ :: cs, vs, us, b, h, r, ru => by cases h
  | .dic :: cs, vs, us, b, h, r, ru => by cases h
  | .obj _ _ _ :: cs, vs, us, b, h, r, ru => by cases h
  | .ptr _ :: cs, vs, us, b, h, r, ru => by cases h
theorem kitx_rep {pins : List (Addr × Obj)} {σ : L2.St} {H F : Hp} {s : Shared} {t : T} {v : V} {u : Value} {a : String} (I : Inv X pins σ H s) (sm : Same F H) (r : Rep X.K F t v) (ru : RelV v u) (ha : tyN t = some a) :
    ∃ Hh : Heap → Prop, PySem.W.KitX X.K u (.type a) Hh ∧ Hh s.heap ∧ u ≠ .builtin "__main__.__loader__#opaque" := by
  cases t with
  | non => cases r; cases ru; cases ha; exact ⟨_, PySem.W.kitx_none, True.intro, fun z => nomatch z⟩
  | bl _ => cases r; cases ru; cases ha; exact ⟨_, PySem.W.kitx_bool, True.intro, fun z => nomatch z⟩
  | int _ => cases r; obtain ⟨t, rfl⟩ := ru; cases ha; exact ⟨_, PySem.W.kitx_int, True.intro, fun z => nomatch z⟩
  | str _ => cases r; obtain ⟨t, rfl⟩ := ru; cases ha; exact ⟨_, PySem.W.kitx_str, True.intro, fun z => nomatch z⟩
  | ty _ => cases ha
  | tup _ =>
    obtain ⟨p, xs, rfl, h1, h2⟩ := r
    cases ru; cases ha
    obtain ⟨its, rv, ⟨o, g1, g2, n, g3⟩, _⟩ := I.tuple (same_sqT sm h1)
    exact ⟨_, PySem.W.kitx_tuple, ⟨o, g1, g2⟩, fun z => nomatch z⟩
  | lst _ =>
    obtain ⟨p, xs, rfl, h1, h2⟩ := r
    cases ru; cases ha
    obtain ⟨its, rv, ⟨o, n, g1, g2, _, g3⟩, _⟩ := I.list (SqL.of (sm _ _ h1))
    exact ⟨_, PySem.W.kitx_list, ⟨o, g1, g2⟩, fun z => nomatch z⟩
  | scr _ =>
    obtain ⟨p, xs, rfl, h1, h2⟩ := r
    cases ru; cases ha
    obtain ⟨its, rv, ⟨o, n, g1, g2, _, g3⟩, _⟩ := I.list (sm.seq h1)
    exact ⟨_, PySem.W.kitx_list, ⟨o, g1, g2⟩, fun z => nomatch z⟩
  | dic =>
    obtain ⟨p, rfl, h1⟩ := r
    cases ru; cases ha
    obtain ⟨_, _, vs, _, o, es, ep, h1, h2, _⟩ := (show ObjOk X.prog X.w H s.heap p (.dK []) from I.hok p _ (sm _ _ h1))
    exact ⟨_, PySem.W.kitx_dict, ⟨o, h1, h2.1⟩, fun z => nomatch z⟩
  | obj _ _ _ => cases ha
  | ptr _ => cases ha
noncomputable def dIsi : List T → Option T
  | [t, .ty c] => (tyN t).bind fun a => (isK a c).bind fun b => some (.bl b)
  | [t, .tup cs] => (tyN t).bind fun a => (isKs a cs).bind fun b => some (.bl b)
  | _ => none
theorem ct_isi : CallT X (.builtin "isinstance") dIsi := by
  intro pins s σ H xs us Q I rx ⟨F, ts, t, sm, r, e, q⟩
  unfold dIsi at e
  split at e
  · obtain ⟨a, e1, e⟩ := bind_some e
    obtain ⟨b, e2, e⟩ := bind_some e
    cases e
    obtain ⟨v, rr, rfl, h1, v2, r2, rfl, h2, rfl⟩ := r
    cases h2
    obtain ⟨u1, u2, rfl, ra, rb⟩ := Vals.two rx
    cases rb
    obtain ⟨Hh, Z, hh, hn⟩ := kitx_rep I sm h1 ra e1
    exact PySem.W.kia_one Z I.kIn hh (kit_of e1 e2) hn fun tk => ⟨.bl b, H, I.tok tk, rfl, q F H _ (Grow.refl sm) rfl⟩
  · obtain ⟨a, e1, e⟩ := bind_some e
    obtain ⟨b, e2, e⟩ := bind_some e
    cases e
    obtain ⟨v, rr, rfl, h1, v2, r2, rfl, ⟨p, xs, rfl, h3, h4⟩, rfl⟩ := r
    obtain ⟨u1, u2, rfl, ra, rb⟩ := Vals.two rx
    cases rb
    obtain ⟨Hh, Z, hh, hn⟩ := kitx_rep I sm h1 ra e1
    obtain ⟨its, rv, ⟨o, g1, g2, n, g3⟩, _⟩ := I.tuple (same_sqT sm h3)
    obtain ⟨oc, od, odt, osl⟩ := o
    dsimp only at g2 g3
    subst g2 g3
    exact PySem.W.kia_tup Z I.kIn hh g1 (kits_of e1 e2 h4 rv) hn fun tk => ⟨.bl b, H, I.tok tk, rfl, q F H _ (Grow.refl sm) rfl⟩
  · cases e
end
end TM

namespace TM
open PySem PySem.Spec PyProof.Rows L2

section
variable {X : Cx} {pos : Pos}
noncomputable def fDic : FE := fun τ => some (.dic, τ)
noncomputable abbrev FO := TEnv → Option (Option Int × TEnv)
noncomputable def tO (K : PySem.W.Frag) (F₀ H₀ : Hp) (f : FO) : TO := fun σ H Q => ∃ F τ o τ', EnvOk K F₀ H₀ F H σ τ ∧ f τ = some (o, τ') ∧ ∀ F' H', EnvOk K F₀ H₀ F' H' σ τ' → Same F F' → Q o H'
noncomputable def SO (X : Cx) (e : Option Expr) (f : FO) : Prop := ∀ F₀ H₀, PO X e (tO X.K F₀ H₀ f)
noncomputable def fNoPart : FO := fun τ => some (none, τ)
noncomputable def fPart (f : FE) : FO := fun τ => (f τ).bind fun p => match p.1 with | .int i => some (some i, p.2) | _ => none
theorem PO.weak {e : Option Expr} {t t' : TO} (h : PO X e t) (i : ∀ σ H Q, t' σ H Q → t σ H Q) : PO X e t' := fun pins s σ H Q I q => h pins s σ H Q I (i σ H Q q)
theorem so_none : SO X none fNoPart := fun F₀ H₀ => PO.weak po_none fun σ H Q hq__ => by
  obtain ⟨F, τ, t, τ', E, e1, q⟩ := hq__
  cases e1
  exact q F H E (Same.refl _)
theorem so_some {e : Expr} {f : FE} (h : SE X e f) : SO X (some e) (fPart f) := fun F₀ H₀ => PO.weak (po_some (h F₀ H₀)) fun σ H Q hq__ => by
  obtain ⟨F, τ, t, τ', E, e1, q⟩ := hq__
  obtain ⟨⟨x, τ1⟩, e2, e1⟩ := bind_some e1
  dsimp only at e1
  split at e1
  · cases e1
    exact ⟨F, τ, _, _, E, e2, fun F' H' v E' s' r' => by cases r'; exact ⟨_, rfl, q F' H' E' s'⟩⟩
  · cases e1
noncomputable def cutT (xs : List T) (lo hi : Option Int) : List T := (xs.drop (HT.sIx xs.length 0 lo)).take (HT.sIx xs.length xs.length hi - HT.sIx xs.length 0 lo)
noncomputable def gSl (t : T) (lo hi : Option Int) : Option T := match t with
  | .lst xs => some (.lst (cutT xs lo hi))
  | .scr xs => some (.lst (cutT xs lo hi))
  | .tup xs => if HT.sIx xs.length 0 lo = 0 ∧ HT.sIx xs.length xs.length hi = xs.length then none else some (.tup (cutT xs lo hi))
  | _ => none
theorem cut_rep {K : PySem.W.Frag} {F : Hp} {ts : List T} {vs : List V} (r : Reps K F ts vs) (lo hi : Option Int) : Reps K F (cutT ts lo hi) (cutV vs lo hi) := by
  unfold cutT cutV
  rw [r.length]
  exact (r.drop _).take _
noncomputable def fSl (f : FE) (fl fh : FO) : FE := fun τ => (f τ).bind fun p => (fl p.2).bind fun q => (fh q.2).bind fun r => (gSl p.1 q.1 r.1).bind fun t => some (t, r.2)
theorem se_slice {e : Expr} {lo hi : Option Expr} {f : FE} {fl fh : FO} {p2 : Pos} (he : SE X e f) (hl : SO X lo fl) (hh : SO X hi fh) : SE X (.Subscript e (.Slice lo hi none p2) pos) (fSl f fl fh) :=
  fun F₀ H₀ => PE.weak (pe_slice (SlR.or sl_list sl_tup) (he F₀ H₀) (hl F₀ H₀) (hh F₀ H₀)) fun σ H Q hq__ => by
    obtain ⟨F, τ, t, τ', E, e1, q⟩ := hq__
    obtain ⟨⟨x, τ1⟩, e2, e1⟩ := bind_some e1
    obtain ⟨⟨l, τ2⟩, e3, e1⟩ := bind_some e1
    obtain ⟨⟨h, τ3⟩, e4, e1⟩ := bind_some e1
    obtain ⟨y, e5, e1⟩ := bind_some e1
    cases e1
    refine ⟨F, τ, x, τ1, E, e2, fun F1 H1 v E1 s1 r1 => ⟨F1, τ1, l, τ2, E1, e3, fun F2 H2 E2 s2 => ⟨F2, τ2, h, _, E2, e4, fun F3 H3 E3 s3 => ?_⟩⟩⟩
    have r3 := Rep.mono (s2.trans s3) r1
    have sm := E3.g.fh
    dsimp only at e5
    unfold gSl at e5
    split at e5
    · cases e5
      obtain ⟨p, xs, rfl, h1, h2⟩ := r3
      refine .inl ⟨p, xs, rfl, SqL.of (sm _ _ h1), fun a ha => ?_⟩
      have gr := Grow.new (.lst (cutV xs l h)) sm ha
      exact q _ _ _ (E3.grow gr) (((s1.trans s2).trans s3).trans gr.sF) ⟨a, _, rfl, upd_same, Reps.mono gr.sF (cut_rep h2 l h)⟩
    · cases e5
      obtain ⟨p, xs, rfl, h1, h2⟩ := r3
      refine .inl ⟨p, xs, rfl, sm.seq h1, fun a ha => ?_⟩
      have gr := Grow.new (.lst (cutV xs l h)) sm ha
      exact q _ _ _ (E3.grow gr) (((s1.trans s2).trans s3).trans gr.sF) ⟨a, _, rfl, upd_same, Reps.mono gr.sF (cut_rep h2 l h)⟩
    · split at e5
      · cases e5
      · next hn =>
        cases e5
        obtain ⟨p, xs, rfl, h1, h2⟩ := r3
        refine .inr ⟨p, xs, rfl, same_sqT sm h1, by rw [h2.length]; exact hn, fun a ha => ?_⟩
        have gr := Grow.new (.tup (cutV xs l h)) sm ha
        exact q _ _ _ (E3.grow gr) (((s1.trans s2).trans s3).trans gr.sF) ⟨a, _, rfl, SqT.of upd_same, Reps.mono gr.sF (cut_rep h2 l h)⟩
    · cases e5

theorem ss_append (i : Nat) {x : Str} {p1 p2 p3 : Pos} {e : Expr} {f : FE} (hv : PE X (.Name x p1) (tVar i)) (he : SE X e f)
    (hbase : attributeBase (.Name x p1) "append" X.env (eval (.Name x p1) X.env) = eval (.Name x p1) X.env := by rfl)
    (hfew : ((backTo p3 (starEach [e] X.env)).all (fun x => !x.1) && (backToKw p3 (keywordEach [] X.env)).all (fun x => x.1.isSome) && decide ([e].length + ([] : List Keyword).length + (if ([] : List Keyword).isEmpty then 0 else 1) < 30)) = true := by rfl)
    (hline : (p2.endLine == p3.line) = true := by rfl) (hs : starEach [e] X.env = (false, eval e X.env) :: starEach [] X.env := by rfl) (hpl : (backTo p3 (starEach [] X.env)).any (·.1) = false := by rfl)
    (hsw : swapsWith (.Call (.Attribute (.Name x p1) "append" p2) [e] [] p3) none pos.line X.env = pure false := by rfl) :
    SS X (.Expr (.Call (.Attribute (.Name x p1) "append" p2) [e] [] p3) pos) (fApp i f) := fun F₀ H₀ =>
  PS.weak (ps_expr (pe_bm PySem.F.plainAttrs_list PySem.F.slot_list_append PySem.F.type_list_append mt_append hv (pa_cons (he F₀ H₀) pa_nil hs) hbase hfew hline hs hpl) hsw) fun D σ H hq__ => by
    obtain ⟨F, τ, r, E, e1, q⟩ := hq__
    unfold fApp at e1
    split at e1
    · next ts0 h0 =>
      obtain ⟨⟨t, τ1⟩, e2, e1⟩ := bind_some e1
      dsimp only at e1
      split at e1
      · next ts h1 =>
        split at e1
        · next hz =>
          cases e1
          obtain ⟨v, g1, p, vs, rfl, g2, g3, g4, g5⟩ := E.sl i _ h0
          refine ⟨_, g1, .inl ⟨rfl, vs, SqL.of g2⟩, F, τ, t, τ1, E, e2, fun F' H' w E' s' r' => ?_⟩
          obtain ⟨v', k1, p', vs', rfl, k2, k3, k4, k5⟩ := E'.sl i _ h1
          rw [g1] at k1; cases k1
          exact ⟨p, vs', w, rfl, rfl, k2, by rw [k5.length]; exact hz, q F' _ σ (E'.turnOwn h1 g1 (k5.append (.one r'))) s'⟩
        · cases e1
      · cases e1
    · cases e1

noncomputable def smallR (a b c : Int) : Prop := (0 ≤ a ∧ a < 2 ^ 62) ∧ (0 ≤ b ∧ b < 2 ^ 62) ∧ (1 ≤ c ∧ c < 2 ^ 29)
noncomputable instance (a b c : Int) : Decidable (smallR a b c) := inferInstanceAs (Decidable ((_ ∧ _) ∧ (_ ∧ _) ∧ _ ∧ _))
end
end TM

namespace TM
open PySem PySem.Spec PyProof.Rows L2
noncomputable def ItAt (b : Bool) (h : Heap) (it a : Addr) (i : Nat) : Prop := match b with
  | true => h.IsListIter it a i
  | false => h.IsTupleIter it a i
noncomputable def SqAt (b : Bool) (h : Heap) (a : Addr) (xs : Array Value) : Prop := match b with
  | true => h.IsList a xs
  | false => h.IsTuple a xs
theorem ItAt.ext {b : Bool} {h h' : Heap} {it a : Addr} {i : Nat} (x : ItAt b h it a i) (k : ∀ o, h.get? it = some o → h'.get? it = some o) : ItAt b h' it a i := by
  cases b with
  | true => obtain ⟨o, e, r⟩ := x; exact ⟨o, k o e, r⟩
  | false => obtain ⟨o, e, r⟩ := x; exact ⟨o, k o e, r⟩
theorem SqAt.ext {b : Bool} {h h' : Heap} {a : Addr} {xs : Array Value} (x : SqAt b h a xs) (k : ∀ o, h.get? a = some o → h'.get? a = some o) : SqAt b h' a xs := by
  cases b with
  | true => obtain ⟨o, e, r⟩ := x; exact ⟨o, k o e, r⟩
  | false => obtain ⟨o, e, r⟩ := x; exact ⟨o, k o e, r⟩
theorem ItAt.obj {b : Bool} {h : Heap} {it a : Addr} {i : Nat} (x : ItAt b h it a i) : ∃ o, h.get? it = some o ∧ ∀ v, o.data ≠ .cell v := by
  cases b with
  | true => obtain ⟨o, e, _, d⟩ := x; exact ⟨o, e, fun v z => by rw [d] at z; cases z⟩
  | false => obtain ⟨o, e, _, d⟩ := x; exact ⟨o, e, fun v z => by rw [d] at z; cases z⟩
section
variable {prog : Program} {w : World} {A : Around} {E : Value → Shared → Prop} {s : Shared}
theorem nextOf_item {b : Bool} {it a : Addr} {i : Nat} {xs : Array Value} {x : Value} {Q : Value → Shared → Prop} (h1 : ItAt b s.heap it a i) (h2 : SqAt b s.heap a xs) (hx : xs[i]? = some x)
    (hQ : ∀ h', ItAt b h' it a (i + 1) → Heap.SameBut it s.heap h' → Q x { s with heap := h' }) : wpAny (model prog w) A (Builtin.SmallTypes.nextOf (.ref it)) Q E s := by
  cases b with
  | true => exact wpAny_nextOf_list_item h1 h2 hx hQ
  | false =>
    have h1' : s.heap.IsTupleIter it a i := h1
    obtain ⟨o, ho, hc, hd⟩ := id h1'
    obtain ⟨ol, hol, _, nl, hdl⟩ := (show s.heap.IsTuple a xs from h2)
    unfold Builtin.SmallTypes.nextOf
    refine wpAny_bind (wpAny_callSpecial?_slot (name := Str.ofString "__next__") h1'.typeIs F.slot_tuple_iterator_next (wpAny_call_entry F.slot_tuple_iterator_next h1'.typeIs F.entry_tuple_iterator_next (?_ : wpAny _ _ (field (.ref it) 0 >>= _) _ _ s) (F.args_tuple_iterator_next_1 _)))
    refine wpAny_bind (wpAny_field ho hd (x := .ref a) rfl (?_ : wpAny _ _ (if (Value.ref a == Value.none) = true then _ else _) _ _ s))
    rw [if_neg (show ¬ ((Value.ref a == Value.none) = true) from Bool.false_ne_true)]
    refine (wpAny_bind (wpAny_field ho hd (x := .int i 0) rfl ?_) : wpAny _ _ (field (.ref it) 1 >>= _) _ _ s)
    refine wpAny_bind (wpAny_seqItems (a := a) hol hdl ?_)
    simp only [Int.toNat_natCast, hx]
    refine wpAny_bind (wpAny_setField ho hd (by simp) (wpAny_pure ⟨x, rfl, wpAny_pure (hQ _ ⟨_, Heap.get?_update_self _ ho (Obj.isFreed_of_fields (Obj.data_mapFields hd _)), (Obj.cls_mapFields ..).trans hc, ?_⟩ (Heap.SameBut.update ..))⟩))
    rw [Obj.data_mapFields hd] <;> simp [rawInt]
theorem nextOf_end {b : Bool} {it a : Addr} {i : Nat} {xs : Array Value} {Q : Value → Shared → Prop} (hh : A.handled = none) (h1 : ItAt b s.heap it a i) (h2 : SqAt b s.heap a xs) (hx : xs[i]? = none)
    (hE : ∀ h' e, Heap.ExtBut it s.heap h' → (∃ o, h'.get? e = some o ∧ o.cls = .type "StopIteration") → E (.ref e) { s with heap := h' }) : wpAny (model prog w) A (Builtin.SmallTypes.nextOf (.ref it)) Q E s := by
  cases b with
  | true => exact wpAny_nextOf_list_end hh h1 h2 hx hE
  | false =>
    have h1' : s.heap.IsTupleIter it a i := h1
    obtain ⟨o, ho, hc, hd⟩ := id h1'
    obtain ⟨ol, hol, _, nl, hdl⟩ := (show s.heap.IsTuple a xs from h2)
    unfold Builtin.SmallTypes.nextOf
    refine wpAny_bind (wpAny_callSpecial?_slot (name := Str.ofString "__next__") h1'.typeIs F.slot_tuple_iterator_next (wpAny_call_entry F.slot_tuple_iterator_next h1'.typeIs F.entry_tuple_iterator_next (?_ : wpAny _ _ (field (.ref it) 0 >>= _) _ _ s) (F.args_tuple_iterator_next_1 _)))
    refine wpAny_bind (wpAny_field ho hd (x := .ref a) rfl (?_ : wpAny _ _ (if (Value.ref a == Value.none) = true then _ else _) _ _ s))
    rw [if_neg (show ¬ ((Value.ref a == Value.none) = true) from Bool.false_ne_true)]
    refine (wpAny_bind (wpAny_field ho hd (x := .int i 0) rfl ?_) : wpAny _ _ (field (.ref it) 1 >>= _) _ _ s)
    refine wpAny_bind (wpAny_seqItems (a := a) hol hdl ?_)
    simp only [Int.toNat_natCast, hx]
    refine wpAny_bind (wpAny_rule (wpAny_bind (wpAny_setField ho hd (by simp) (wpAny_bind (m := newExc (.type "StopIteration") []) ?_))))
    simp only [newExc, newTuple]
    refine wpAny_bind (wpAny_newObj_type (wpAny_bind (m := firstArgMember _ _) (wpAny_of_eq (a := Value.none) (by first | rfl | (simp only [firstArgMember]; rfl)) (wpAny_newObj_type ?_ (by size_fits)))) (by size_fits))
    simp only [raiseNew]
    refine wpAny_bind (wpAny_handled ?_)
    first | rw [show A.in1.handled = none from hh] | rw [hh]
    exact wpAny_bind (wpAny_pure (wpAny_throw (hE _ _ (((Heap.SameBut.update ..).extBut.push _).push _) ⟨_, Heap.get?_push_size _ rfl, rfl⟩)))

variable {z TI TO i1 i2 l1 l2 : Addr} {k : Nat} {xs ys : Array Value} {x y a b : Value} {c1 c2 : Bool}
theorem zip_item {Q : Value → Shared → Prop} (D : ZipApart z TI TO i1 i2 l1 l2) (hz : IsZip s.heap z TI TO .none) (hI : IsPair s.heap TI (.ref i1) (.ref i2)) (hO : IsPair s.heap TO a b)
    (h1 : ItAt c1 s.heap i1 l1 k) (h2 : ItAt c2 s.heap i2 l2 k) (g1 : SqAt c1 s.heap l1 xs) (g2 : SqAt c2 s.heap l2 ys) (hx : xs[k]? = some x) (hy : ys[k]? = some y)
    (hQ : ∀ h', IsZip h' z TI TO (rawInt s.heap.objs.size) → IsPair h' TO x y → ItAt c1 h' i1 l1 (k + 1) → ItAt c2 h' i2 l2 (k + 1) → IsPair h' s.heap.objs.size x y →
      (∀ c o, c ≠ z → c ≠ TO → c ≠ i1 → c ≠ i2 → s.heap.get? c = some o → h'.get? c = some o) → Q (.ref s.heap.objs.size) { s with heap := h' }) :
    wpAny (model prog w) A (Builtin.«zip.__next__» ⟨[.ref z], []⟩) (fun fin s' => ∃ v, fin = .done (.ret v) ∧ Q v s') E s := by
  refine (wpAny_bind (wpAny_field hz rfl (x := .bool false) rfl ?_) : wpAny _ _ (field (.ref z) 2 >>= _) _ _ _)
  refine (wpAny_bind (wpAny_field hz rfl (x := .ref TI) rfl ?_) : wpAny _ _ (field (.ref z) 3 >>= _) _ _ _)
  refine wpAny_bind (wpAny_seqItems hI rfl ?_)
  refine (wpAny_bind ?_ : wpAny _ _ (Builtin.SmallTypes.ownedTupleIsFree (.ref z) >>= _) _ _ _)
  unfold Builtin.SmallTypes.ownedTupleIsFree
  refine wpAny_bind (wpAny_field hz rfl (x := .none) rfl (wpAny_pure ?_))
  simp only [if_true]
  refine wpAny_bind (wpAny_rule (wpAny_bind (wpAny_field hz rfl (x := .ref TO) rfl (wpAny_bind (wpAny_setField_rec hz (by simp) fun ha za sa => ?_)))))
  replace za : IsZip ha z TI TO .ellipsis := za
  refine wpAny_bind ?_
  simp only [List.zipIdx_cons, List.zipIdx_nil, List.forIn_cons, List.forIn_nil]
  refine wpAny_bind (wpAny_bind (wpAny_onRaise (?_ : wpAny _ _ (Builtin.SmallTypes.nextOf (.ref i1) >>= _) _ _ _)))
  refine wpAny_bind (nextOf_item (h1.ext fun o e => sa.extBut _ _ D.i1z e) (g1.ext fun o e => sa.extBut _ _ D.l1z e) hx fun hb kb sb => wpAny_pure ?_)
  have Ob : IsPair hb TO a b := sb.extBut _ _ D.TOi1 (sa.extBut _ _ D.TOz hO)
  refine wpAny_bind (wpAny_seqItems Ob rfl (wpAny_bind (wpAny_updateSeq_pair Ob fun hc Oc sc => wpAny_bind (wpAny_letGo (wpAny_pure ?_)))))
  replace Oc : IsPair hc TO x b := Oc
  refine wpAny_bind (wpAny_bind (wpAny_onRaise (?_ : wpAny _ _ (Builtin.SmallTypes.nextOf (.ref i2) >>= _) _ _ _)))
  refine wpAny_bind (nextOf_item (h2.ext fun o e => sc.extBut _ _ D.TOi2.symm (sb.extBut _ _ D.i12.symm (sa.extBut _ _ D.i2z e))) (g2.ext fun o e => sc.extBut _ _ D.l2TO (sb.extBut _ _ D.l2i1 (sa.extBut _ _ D.l2z e))) hy fun hd kd sd => wpAny_pure ?_)
  have Od : IsPair hd TO x b := sd.extBut _ _ D.TOi2 Oc
  refine wpAny_bind (wpAny_seqItems Od rfl (wpAny_bind (wpAny_updateSeq_pair Od fun he Oe se => wpAny_bind (wpAny_letGo (wpAny_pure (wpAny_pure ?_))))))
  replace Oe : IsPair he TO x y := Oe
  refine wpAny_bind (wpAny_seqItems Oe rfl (wpAny_bind (wpAny_newTuple ?_)))
  have ez : he.objs.size = s.heap.objs.size := by rw [se.1, sd.1, sc.1, sb.1, sa.1]
  have ze : IsZip he z TI TO .ellipsis := se.extBut _ _ D.TOz.symm (sd.extBut _ _ D.i2z.symm (sc.extBut _ _ D.TOz.symm (sb.extBut _ _ D.i1z.symm za)))
  have ke : ∀ c o, c ≠ z → c ≠ TO → c ≠ i1 → c ≠ i2 → s.heap.get? c = some o → he.get? c = some o := fun c o n1 n2 n3 n4 e => se.extBut _ _ n2 (sd.extBut _ _ n4 (sc.extBut _ _ n2 (sb.extBut _ _ n3 (sa.extBut _ _ n1 e))))
  have i1e : ItAt c1 he i1 l1 (k + 1) := kb.ext fun o e => se.extBut _ _ D.TOi1.symm (sd.extBut _ _ D.i12 (sc.extBut _ _ D.TOi1.symm e))
  have i2e : ItAt c2 he i2 l2 (k + 1) := kd.ext fun o e => se.extBut _ _ D.TOi2.symm e
  have zlt : z < he.objs.size := Heap.lt_size ze
  refine (wpAny_bind ?_ : wpAny _ _ (Builtin.SmallTypes.ownedTupleHandOut (.ref z) (.ref he.objs.size) >>= _) _ _ _)
  unfold Builtin.SmallTypes.ownedTupleHandOut
  have zf : IsZip (he.push { cls := .type "tuple", data := .seq #[x, y] }) z TI TO .ellipsis := Heap.get?_push_of_some _ ze
  refine wpAny_bind (wpAny_setField_rec zf (by simp) fun hg zg sg => ?_)
  replace zg : IsZip hg z TI TO (rawInt he.objs.size) := zg
  refine wpAny_setField_rec zg (by simp) fun hh zh sh => ?_
  replace zh : IsZip hh z TI TO (rawInt he.objs.size) := zh
  have up : ∀ c o, c ≠ z → he.get? c = some o → hh.get? c = some o := fun c o n e => sh.extBut _ _ n (sg.extBut _ _ n (Heap.get?_push_of_some _ e))
  have tp : IsPair hh he.objs.size x y := sh.extBut _ _ (Nat.ne_of_gt zlt) (sg.extBut _ _ (Nat.ne_of_gt zlt) (Heap.get?_push_size _ rfl))
  rw [ez] at zh tp
  refine wpAny_pure ⟨_, rfl, (?_ : Q (.ref he.objs.size) _)⟩
  rw [ez]
  exact hQ hh zh (up _ _ D.TOz Oe) (i1e.ext fun o e => up _ o D.i1z e) (i2e.ext fun o e => up _ o D.i2z e) tp fun c o n1 n2 n3 n4 e => up c o n1 (ke c o n1 n2 n3 n4 e)
theorem zip_end {Q : Fin → Shared → Prop} (hh : A.handled = none) (D : ZipApart z TI TO i1 i2 l1 l2) (hz : IsZip s.heap z TI TO .none) (hI : IsPair s.heap TI (.ref i1) (.ref i2)) (hO : IsPair s.heap TO a b)
    (h1 : ItAt c1 s.heap i1 l1 k) (h2 : ItAt c2 s.heap i2 l2 k) (g1 : SqAt c1 s.heap l1 xs) (g2 : SqAt c2 s.heap l2 ys) (hend : xs[k]? = none ∨ ys[k]? = none)
    (hE : ∀ h' e, (∀ c o, c ≠ z → c ≠ TO → c ≠ i1 → c ≠ i2 → s.heap.get? c = some o → h'.get? c = some o) → (∃ o, h'.get? e = some o ∧ o.cls = .type "StopIteration") → E (.ref e) { s with heap := h' }) :
    wpAny (model prog w) A (Builtin.«zip.__next__» ⟨[.ref z], []⟩) Q E s := by
  refine (wpAny_bind (wpAny_field hz rfl (x := .bool false) rfl ?_) : wpAny _ _ (field (.ref z) 2 >>= _) _ _ _)
  refine (wpAny_bind (wpAny_field hz rfl (x := .ref TI) rfl ?_) : wpAny _ _ (field (.ref z) 3 >>= _) _ _ _)
  refine wpAny_bind (wpAny_seqItems hI rfl ?_)
  refine (wpAny_bind ?_ : wpAny _ _ (Builtin.SmallTypes.ownedTupleIsFree (.ref z) >>= _) _ _ _)
  unfold Builtin.SmallTypes.ownedTupleIsFree
  refine wpAny_bind (wpAny_field hz rfl (x := .none) rfl (wpAny_pure ?_))
  simp only [if_true]
  refine wpAny_bind (wpAny_rule (wpAny_bind (wpAny_field hz rfl (x := .ref TO) rfl (wpAny_bind (wpAny_setField_rec hz (by simp) fun ha za sa => ?_)))))
  replace za : IsZip ha z TI TO .ellipsis := za
  refine wpAny_bind ?_
  simp only [List.zipIdx_cons, List.zipIdx_nil, List.forIn_cons, List.forIn_nil]
  refine wpAny_bind (wpAny_bind (wpAny_onRaise (?_ : wpAny _ _ (Builtin.SmallTypes.nextOf (.ref i1) >>= _) _ _ _)))
  cases hx : xs[k]? with
  | none =>
    refine wpAny_bind (nextOf_end hh (h1.ext fun o e => sa.extBut _ _ D.i1z e) (g1.ext fun o e => sa.extBut _ _ D.l1z e) hx fun hb e sb eo => ?_)
    obtain ⟨oe, ho, hc⟩ := eo
    have zb : IsZip hb z TI TO .ellipsis := sb _ _ D.i1z.symm za
    have ne : e ≠ z := fun q => by subst q; rw [zb] at ho; cases ho; simp at hc
    exact wpAny_setField_rec zb (by simp) fun hd _ sd => hE hd e (fun c o n1 _ n3 _ q => sd.extBut _ _ n1 (sb _ _ n3 (sa.extBut _ _ n1 q))) ⟨oe, sd.extBut _ _ ne ho, hc⟩
  | some x =>
    have hy : ys[k]? = none := by rcases hend with h | h; rw [hx] at h; cases h; exact h
    refine wpAny_bind (nextOf_item (h1.ext fun o e => sa.extBut _ _ D.i1z e) (g1.ext fun o e => sa.extBut _ _ D.l1z e) hx fun hb kb sb => wpAny_pure ?_)
    have Ob : IsPair hb TO a b := sb.extBut _ _ D.TOi1 (sa.extBut _ _ D.TOz hO)
    refine wpAny_bind (wpAny_seqItems Ob rfl (wpAny_bind (wpAny_updateSeq_pair Ob fun hc Oc sc => wpAny_bind (wpAny_letGo (wpAny_pure ?_)))))
    refine wpAny_bind (wpAny_bind (wpAny_onRaise (?_ : wpAny _ _ (Builtin.SmallTypes.nextOf (.ref i2) >>= _) _ _ _)))
    refine wpAny_bind (nextOf_end hh (h2.ext fun o e => sc.extBut _ _ D.TOi2.symm (sb.extBut _ _ D.i12.symm (sa.extBut _ _ D.i2z e))) (g2.ext fun o e => sc.extBut _ _ D.l2TO (sb.extBut _ _ D.l2i1 (sa.extBut _ _ D.l2z e))) hy fun hd e sd eo => ?_)
    obtain ⟨oe, ho, hk⟩ := eo
    have zd : IsZip hd z TI TO .ellipsis := sd _ _ D.i2z.symm (sc.extBut _ _ D.TOz.symm (sb.extBut _ _ D.i1z.symm za))
    have ne : e ≠ z := fun q => by subst q; rw [zd] at ho; cases ho; simp at hk
    exact wpAny_setField_rec zd (by simp) fun hf _ sf => hE hf e (fun c o n1 n2 n3 n4 q => sf.extBut _ _ n1 (sd _ _ n4 (sc.extBut _ _ n2 (sb.extBut _ _ n3 (sa.extBut _ _ n1 q))))) ⟨oe, sf.extBut _ _ ne ho, hk⟩
theorem zipNext_item {Q : Option Value → Shared → Prop} (D : ZipApart z TI TO i1 i2 l1 l2) (hz : IsZip s.heap z TI TO .none) (hI : IsPair s.heap TI (.ref i1) (.ref i2)) (hO : IsPair s.heap TO a b)
    (h1 : ItAt c1 s.heap i1 l1 k) (h2 : ItAt c2 s.heap i2 l2 k) (g1 : SqAt c1 s.heap l1 xs) (g2 : SqAt c2 s.heap l2 ys) (hx : xs[k]? = some x) (hy : ys[k]? = some y)
    (hQ : ∀ h', IsZip h' z TI TO (rawInt s.heap.objs.size) → IsPair h' TO x y → ItAt c1 h' i1 l1 (k + 1) → ItAt c2 h' i2 l2 (k + 1) → IsPair h' s.heap.objs.size x y →
      (∀ c o, c ≠ z → c ≠ TO → c ≠ i1 → c ≠ i2 → s.heap.get? c = some o → h'.get? c = some o) → Q (some (.ref s.heap.objs.size)) { s with heap := h' }) : wpAny (model prog w) A (pyNext (.ref z)) Q E s := by
  have hT : s.TypeIs (.ref z) "zip" := ⟨_, hz, rfl⟩
  unfold pyNext
  exact wpAny_bind (wpAny_attempt (wpAny_callSpecial?_slot (name := Str.ofString "__next__") hT F.slot_zip_next (wpAny_call_entry F.slot_zip_next hT F.entry_zip_next
    (zip_item D hz hI hO h1 h2 g1 g2 hx hy fun h' a1 a2 a3 a4 a5 a6 => wpAny_pure (hQ h' a1 a2 a3 a4 a5 a6)) (F.args_zip_next_1 _))))
theorem zipNext_end {Q : Option Value → Shared → Prop} (hh : A.handled = none) (D : ZipApart z TI TO i1 i2 l1 l2) (hz : IsZip s.heap z TI TO .none) (hI : IsPair s.heap TI (.ref i1) (.ref i2)) (hO : IsPair s.heap TO a b)
    (h1 : ItAt c1 s.heap i1 l1 k) (h2 : ItAt c2 s.heap i2 l2 k) (g1 : SqAt c1 s.heap l1 xs) (g2 : SqAt c2 s.heap l2 ys) (hend : xs[k]? = none ∨ ys[k]? = none)
    (hQ : ∀ h', (∀ c o, c ≠ z → c ≠ TO → c ≠ i1 → c ≠ i2 → s.heap.get? c = some o → h'.get? c = some o) → Q none { s with heap := h' }) : wpAny (model prog w) A (pyNext (.ref z)) Q E s := by
  have hT : s.TypeIs (.ref z) "zip" := ⟨_, hz, rfl⟩
  unfold pyNext
  refine wpAny_bind (wpAny_attempt (wpAny_callSpecial?_slot (name := Str.ofString "__next__") hT F.slot_zip_next (wpAny_call_entry F.slot_zip_next hT F.entry_zip_next
    (zip_end hh D hz hI hO h1 h2 g1 g2 hend fun h' e hk eo => ?_) (F.args_zip_next_1 _))))
  obtain ⟨o, ho, hc⟩ := eo
  exact wpAny_bind (wpAny_isInstance (T := "StopIteration") (b := true) ⟨o, ho, hc⟩ isSubtype_stop (wpAny_pure (hQ _ hk)))
end
end TM

namespace TM
open PySem PySem.Spec PyProof.Rows L2
noncomputable def itOb (b : Bool) (l : Addr) : Obj := match b with
  | true => { cls := .type "list_iterator", data := .fields #[.ref l, .int 0 0] }
  | false => { cls := .type "tuple_iterator", data := .fields #[.ref l, .int 0 0] }
theorem itOb_at {b : Bool} {l it : Addr} {h : Heap} (e : h.get? it = some (itOb b l)) : ItAt b h it l 0 := by
  cases b with
  | true => exact ⟨_, e, rfl, rfl⟩
  | false => exact ⟨_, e, rfl, rfl⟩
noncomputable abbrev zh1 (h : Heap) (c1 : Bool) (l1 : Addr) : Heap := h.push (itOb c1 l1)
noncomputable abbrev zh2 (h : Heap) (c1 c2 : Bool) (l1 l2 : Addr) : Heap := (zh1 h c1 l1).push (itOb c2 l2)
noncomputable abbrev zh3 (h : Heap) (c1 c2 : Bool) (l1 l2 : Addr) : Heap := (zh2 h c1 c2 l1 l2).push { cls := .type "tuple", data := .seq #[.ref h.objs.size, .ref (zh1 h c1 l1).objs.size] }
noncomputable abbrev zh4 (h : Heap) (c1 c2 : Bool) (l1 l2 : Addr) : Heap := (zh3 h c1 c2 l1 l2).push { cls := .type "tuple", data := .seq #[.none, .none] }
noncomputable abbrev zh5 (h : Heap) (c1 c2 : Bool) (l1 l2 : Addr) : Heap := (zh4 h c1 c2 l1 l2).push { cls := .type "zip", data := .fields #[.none, .bool false, .bool false, .ref (zh2 h c1 c2 l1 l2).objs.size, .ref (zh3 h c1 c2 l1 l2).objs.size] }
noncomputable abbrev ZNew (c1 c2 : Bool) (l1 l2 : Addr) (xs ys : Array Value) : Prop := Meets (Builtin.«zip.__new__» ⟨[.type "zip", .ref l1, .ref l2], []⟩) (fun _ R s => SqAt c1 s.heap l1 xs ∧ SqAt c2 s.heap l2 ys ∧
      R (.ok (.ret (.ref (zh4 s.heap c1 c2 l1 l2).objs.size))) { s with heap := zh5 s.heap c1 c2 l1 l2 })
set_option maxHeartbeats 4000000 in
theorem zip_new_tt (l1 l2 : Addr) (xs ys : Array Value) : ZNew true true l1 l2 xs ys := .of_wp fun prog w A R s h => by
  obtain ⟨hp, g, d, tk, os⟩ := s
  obtain ⟨q1, q2, h⟩ := h
  have hsub := sub_zip
  have p1 : Heap.IsList (Shared.heap ⟨hp, g, d, tk, os⟩) l1 xs := q1
  have p2 : Heap.IsList (Shared.heap ⟨hp.push { cls := .type "list_iterator", data := .fields #[.ref l1, .int 0 0] }, g, d, tk, os⟩) l2 ys := Heap.IsList.push q2 _
  wp_walk using wpAny_pyIter_list p1, wpAny_pyIter_list p2
  exact ⟨_, rfl, h⟩
set_option maxHeartbeats 4000000 in
theorem zip_new_tf (l1 l2 : Addr) (xs ys : Array Value) : ZNew true false l1 l2 xs ys := .of_wp fun prog w A R s h => by
  obtain ⟨hp, g, d, tk, os⟩ := s
  obtain ⟨q1, q2, h⟩ := h
  have hsub := sub_zip
  have p1 : Heap.IsList (Shared.heap ⟨hp, g, d, tk, os⟩) l1 xs := q1
  have p2 : Heap.IsTuple (Shared.heap ⟨hp.push { cls := .type "list_iterator", data := .fields #[.ref l1, .int 0 0] }, g, d, tk, os⟩) l2 ys := Heap.IsTuple.push q2 _
  wp_walk using wpAny_pyIter_list p1, wpAny_pyIter_tuple p2
  exact ⟨_, rfl, h⟩
set_option maxHeartbeats 4000000 in
theorem zip_new_ft (l1 l2 : Addr) (xs ys : Array Value) : ZNew false true l1 l2 xs ys := .of_wp fun prog w A R s h => by
  obtain ⟨hp, g, d, tk, os⟩ := s
  obtain ⟨q1, q2, h⟩ := h
  have hsub := sub_zip
  have p1 : Heap.IsTuple (Shared.heap ⟨hp, g, d, tk, os⟩) l1 xs := q1
  have p2 : Heap.IsList (Shared.heap ⟨hp.push { cls := .type "tuple_iterator", data := .fields #[.ref l1, .int 0 0] }, g, d, tk, os⟩) l2 ys := Heap.IsList.push q2 _
  wp_walk using wpAny_pyIter_tuple p1, wpAny_pyIter_list p2
  exact ⟨_, rfl, h⟩
set_option maxHeartbeats 4000000 in
theorem zip_new_ff (l1 l2 : Addr) (xs ys : Array Value) : ZNew false false l1 l2 xs ys := .of_wp fun prog w A R s h => by
  obtain ⟨hp, g, d, tk, os⟩ := s
  obtain ⟨q1, q2, h⟩ := h
  have hsub := sub_zip
  have p1 : Heap.IsTuple (Shared.heap ⟨hp, g, d, tk, os⟩) l1 xs := q1
  have p2 : Heap.IsTuple (Shared.heap ⟨hp.push { cls := .type "tuple_iterator", data := .fields #[.ref l1, .int 0 0] }, g, d, tk, os⟩) l2 ys := Heap.IsTuple.push q2 _
  wp_walk using wpAny_pyIter_tuple p1, wpAny_pyIter_tuple p2
  exact ⟨_, rfl, h⟩
theorem zip_new_meets (c1 c2 : Bool) (l1 l2 : Addr) (xs ys : Array Value) : ZNew c1 c2 l1 l2 xs ys := by
  cases c1 <;> cases c2
  · exact zip_new_ff l1 l2 xs ys
  · exact zip_new_ft l1 l2 xs ys
  · exact zip_new_tf l1 l2 xs ys
  · exact zip_new_tt l1 l2 xs ys
section
variable {prog : Program} {w : World} {A : Around} {E : Value → Shared → Prop} {s : Shared}
theorem call_zip {c1 c2 : Bool} {l1 l2 : Addr} {xs ys : Array Value} {Q : Value → Shared → Prop} (q1 : SqAt c1 s.heap l1 xs) (q2 : SqAt c2 s.heap l2 ys)
    (h : ∀ h', IsZip h' (s.heap.objs.size + 4) (s.heap.objs.size + 2) (s.heap.objs.size + 3) .none → IsPair h' (s.heap.objs.size + 2) (.ref s.heap.objs.size) (.ref (s.heap.objs.size + 1)) →
      IsPair h' (s.heap.objs.size + 3) .none .none → ItAt c1 h' s.heap.objs.size l1 0 → ItAt c2 h' (s.heap.objs.size + 1) l2 0 → (∀ c o, s.heap.get? c = some o → h'.get? c = some o) → Q (.ref (s.heap.objs.size + 4)) { s with heap := h' }) :
    wpAny (model prog w) A (call (.type "zip") [.ref l1, .ref l2]) Q E s := by
  refine callType_new F.called_zip (by decide) (F.typeCall_zip_2 _ _) (F.newCall_zip_2 _ _) (fun obj => F.args_object_init_3 obj _ _) F.entry_zip_new (zip_new_meets c1 c2 l1 l2 xs ys) ⟨q1, q2, ?_⟩
  have z1 : (zh1 s.heap c1 l1).objs.size = s.heap.objs.size + 1 := Heap.size_push ..
  have z2 : (zh2 s.heap c1 c2 l1 l2).objs.size = s.heap.objs.size + 2 := by rw [Heap.size_push, z1]
  have z3 : (zh3 s.heap c1 c2 l1 l2).objs.size = s.heap.objs.size + 3 := by rw [Heap.size_push, z2]
  have z4 : (zh4 s.heap c1 c2 l1 l2).objs.size = s.heap.objs.size + 4 := by rw [Heap.size_push, z3]
  have p : ∀ {h : Heap} {o : Obj} {c : Addr} {u : Obj}, h.get? c = some u → (h.push o).get? c = some u := fun e => Heap.get?_push_of_some _ e
  have n1 : (itOb c1 l1).isFreed = false := by cases c1 <;> rfl
  have n2 : (itOb c2 l2).isFreed = false := by cases c2 <;> rfl
  have g5 : (zh5 s.heap c1 c2 l1 l2).get? (zh4 s.heap c1 c2 l1 l2).objs.size = some _ := Heap.get?_push_size _ rfl
  have g4 : (zh5 s.heap c1 c2 l1 l2).get? (zh3 s.heap c1 c2 l1 l2).objs.size = some _ := p (Heap.get?_push_size _ rfl)
  have g3 : (zh5 s.heap c1 c2 l1 l2).get? (zh2 s.heap c1 c2 l1 l2).objs.size = some _ := p (p (Heap.get?_push_size _ rfl))
  have g2 : (zh5 s.heap c1 c2 l1 l2).get? (zh1 s.heap c1 l1).objs.size = some (itOb c2 l2) := p (p (p (Heap.get?_push_size _ n2)))
  have g1 : (zh5 s.heap c1 c2 l1 l2).get? s.heap.objs.size = some (itOb c1 l1) := p (p (p (p (Heap.get?_push_size _ n1))))
  show _ ∧ _
  rw [z2, z3, z4] at g5
  rw [z1, z2] at g3
  rw [z3] at g4
  rw [z1] at g2
  rw [z4]
  exact ⟨⟨_, g5, rfl⟩, h _ g5 g3 g4 (itOb_at g1) (itOb_at g2) fun c o x => p (p (p (p (p x))))⟩
end
noncomputable def SqV (b : Bool) (K : PySem.W.Frag) (H : Hp) (a : Addr) (xs : List V) : Prop := match b with
  | true => SqL K H a xs
  | false => SqT K H a xs
noncomputable def Itz (K : PySem.W.Frag) (c1 c2 : Bool) (l1 l2 : Addr) : It :=
  ⟨fun i H => ∃ xs ys x y, SqV c1 K H l1 xs ∧ SqV c2 K H l2 ys ∧ xs[i]? = some x ∧ ys[i]? = some y,
   fun i H v H' => ∃ p x y, v = .ref p ∧ H p = none ∧ H' = upd H p (.tup [x, y]) ∧ (∀ xs, SqV c1 K H l1 xs → xs[i]? = some x) ∧ ∀ ys, SqV c2 K H l2 ys → ys[i]? = some y,
   fun i H => ∃ xs ys, SqV c1 K H l1 xs ∧ SqV c2 K H l2 ys ∧ (xs.length ≤ i ∨ ys.length ≤ i)⟩
section
variable {X : Cx} {pins : List (Addr × Obj)} {σ : L2.St} {H : Hp} {s : Shared}
theorem sqv_at {b : Bool} {a : Addr} {xs : List V} (I : Inv X pins σ H s) (h : SqV b X.K H a xs) : ∃ its : List Value, Vals xs its ∧ SqAt b s.heap a its.toArray := by
  cases b with
  | true => obtain ⟨its, r, p, _⟩ := I.list h; exact ⟨its, r, p.isList⟩
  | false => obtain ⟨its, r, p, _⟩ := I.tuple h; exact ⟨its, r, p⟩
theorem sqv_inj {b : Bool} {a : Addr} {xs ys : List V} (I : Inv X pins σ H s) (h : SqV b X.K H a xs) (h' : SqV b X.K H a ys) : xs = ys := by
  cases b with
  | true => exact I.list_inj h h'
  | false => exact I.tuple_inj h h'
end
structure ZTn (c1 c2 : Bool) (z TI TO i1 i2 l1 l2 : Addr) (i : Nat) (h : Heap) : Prop where
  hz : IsZip h z TI TO .none
  hI : IsPair h TI (.ref i1) (.ref i2)
  hO : ∃ a b, IsPair h TO a b
  h1 : ItAt c1 h i1 l1 i
  h2 : ItAt c2 h i2 l2 i
theorem turned_all {X : Cx} {pins : List (Addr × Obj)} {σ : L2.St} {H : Hp} {s : Shared} {h' : Heap} {fp : List Addr} (I : Inv X pins σ H s) (hf : ∀ b ∈ fp, FpOk X pins H b) (k : ∀ b o, b ∉ fp → s.heap.get? b = some o → h'.get? b = some o) : Inv X pins σ H { s with heap := h' } := by
  have nit : ∀ b u, H b = some u → b ∉ fp := fun b u e z => by rw [(hf b z).1] at e; cases e
  refine I.step (g' := s.gens) (d' := s.drawn) (t' := s.toks) (ch := fp) (fun b hb => ?_) (fun b o _ _ hc e _ => k b o hc e) (fun b o _ _ hc e _ => ⟨o.slots, k b o hc e⟩) (fun _ _ _ _ n => n)
    (fun b o hc e => ⟨o, k b o hc e⟩) (fun _ _ e => e) (fun _ _ _ e => e) (fun b ps e => ⟨#[], by rw [e]; simp⟩) (fun m hm => ?_) (fun b u e => ?_) I.bare
  · obtain ⟨_, f1, _, f3, f4, f5⟩ := hf b hb
    exact ⟨f3, f1, f4, f5⟩
  · obtain ⟨o, es, ep, ho, r⟩ := hm
    exact ⟨o, es, ep, k _ o (fun z => (hf _ z).2.1 rfl) ho, r⟩
  · refine (I.hok b u e).stay (fun c v hc q => k c v ?_ q) (fun _ q => q) fun _ _ q => q
    rcases hc with z | z
    · rw [z]; exact nit b u e
    · exact nit c _ z
theorem turn_zip {P : Program} {w : World} {K : PySem.W.Frag} {elts : List Expr} {kx : Nat} {px : Pos} {c1 c2 : Bool} {z TI TO i1 i2 l1 l2 : Addr} (D : ZipApart z TI TO i1 i2 l1 l2) :
    Turn P w K (.Tuple elts kx px) (Itz K c1 c2 l1 l2) [z, TI, TO, i1, i2] z (ZTn c1 c2 z TI TO i1 i2 l1 l2) where
  mem := by simp
  obj := fun i h st b hb => by
    simp only [List.mem_cons, List.not_mem_nil, or_false] at hb
    rcases hb with rfl | rfl | rfl | rfl | rfl
    · exact ⟨_, st.hz, fun v q => nomatch (show Data.fields _ = Data.cell v from q)⟩
    · exact ⟨_, st.hI, fun v q => nomatch (show Data.seq _ _ = Data.cell v from q)⟩
    · obtain ⟨a, b, e⟩ := st.hO
      exact ⟨_, e, fun v q => nomatch (show Data.seq _ _ = Data.cell v from q)⟩
    · exact st.h1.obj
    · exact st.h2.obj
  keep := fun i h h' st k => by
    obtain ⟨a, b, e⟩ := st.hO
    exact ⟨k z (by simp) _ st.hz, k TI (by simp) _ st.hI, ⟨a, b, k TO (by simp) _ e⟩, st.h1.ext fun o e => k i1 (by simp) o e, st.h2.ext fun o e => k i2 (by simp) o e⟩
  item := fun X hP hw hK hc i pins s σ H E I hf st hg => by
    subst hP hw hK
    obtain ⟨xs, ys, x, y, q1, q2, g1, g2⟩ := hg
    obtain ⟨its, r1, p1⟩ := sqv_at I q1
    obtain ⟨jts, r2, p2⟩ := sqv_at I q2
    obtain ⟨u, e1, ru⟩ := r1.get g1
    obtain ⟨v, e2, rv⟩ := r2.get g2
    obtain ⟨a, b, hO⟩ := st.hO
    refine zipNext_item D st.hz st.hI hO st.h1 st.h2 p1 p2 (x := u) (y := v) (by simpa using e1) (by simpa using e2) fun h' a1 a2 a3 a4 a5 a6 => ⟨_, rfl, ?_⟩
    refine wpAny_letOwnedTupleGo_zip (s := { s with heap := h' }) a1 fun h2 b1 b2 => ?_
    have kp : ∀ b o, b ∉ [z, TI, TO, i1, i2] → s.heap.get? b = some o → h2.get? b = some o := fun b o hb e => by
      simp only [List.mem_cons, List.not_mem_nil, or_false, not_or] at hb
      exact b2.extBut _ _ hb.1 (a6 b o hb.1 hb.2.2.1 hb.2.2.2.1 hb.2.2.2.2 e)
    have lz : z < s.heap.objs.size := Heap.lt_size st.hz
    have pr : IsPair h2 s.heap.objs.size u v := b2.extBut _ _ (Nat.ne_of_gt lz) a5
    have fr : H s.heap.objs.size = none := I.hok.fresh (Nat.le_refl _)
    have hokA : HOk X.prog X.w (upd H s.heap.objs.size (.tup [x, y])) h2 := by
      intro c o e
      by_cases hcz : c = s.heap.objs.size
      · subst hcz
        rw [upd_same] at e; cases e
        exact ⟨by show 2 ≤ sizeLine; decide, [u, v], .cons ru (.cons rv .nil), _, pr, rfl, _, rfl⟩
      · rw [upd_ne hcz] at e
        have nf : ∀ d o', H d = some o' → d ∉ [z, TI, TO, i1, i2] := fun d o' ed hd => by rw [(hf d hd).1] at ed; cases ed
        have up : ∀ d o', H d = some o' → upd H s.heap.objs.size (.tup [x, y]) d = some o' := fun d o' ed => by rw [upd_ne (ne_of_none ed fr)]; exact ed
        refine (I.hok c o e).stay (fun d v' hd q => kp d v' ?_ q) (fun d q => up d _ q) fun d xs q => up d _ q
        rcases hd with rfl | hd
        · exact nf _ o e
        · exact nf d _ hd
    have J : Inv X pins σ (upd H s.heap.objs.size (.tup [x, y])) { s with heap := h2 } := by
      have ne : ∀ b o, s.heap.get? b = some o → b ≠ s.heap.objs.size := fun b o e => Nat.ne_of_lt (Heap.lt_size e)
      refine I.step (g' := s.gens) (d' := s.drawn) (t' := s.toks) (ch := [z, TI, TO, i1, i2]) (fun b hb => ?_) (fun b o _ _ hc e _ => kp b o hc e) (fun b o _ _ hc e _ => ⟨o.slots, kp b o hc e⟩) (fun b o _ e n => by rw [upd_ne (ne b o e)]; exact n)
        (fun b o hc e => ⟨o, kp b o hc e⟩) (fun b xs e => by rw [upd_ne (ne_of_none e fr)]; exact e) (fun b o u e => by rw [upd_ne (ne_of_none e fr)]; exact e) (fun b ps e => ⟨#[], by rw [upd_ne (ne_of_none e fr), e]; simp⟩) (fun m hm => ?_) hokA I.bare
      · obtain ⟨_, f1, _, f3, f4, f5⟩ := hf b hb
        exact ⟨f3, f1, f4, f5⟩
      · obtain ⟨o, es, ep, ho, r⟩ := hm
        exact ⟨o, es, ep, kp _ o (fun q => (hf _ q).2.1 rfl) ho, r⟩
    refine ⟨.ref s.heap.objs.size, _, J, rfl, ⟨_, x, y, rfl, fr, rfl, fun xs' h => by rw [sqv_inj I h q1]; exact g1, fun ys' h => by rw [sqv_inj I h q2]; exact g2⟩, ?_, fun b hb => ?_⟩
    · exact ⟨b1, b2.extBut _ _ D.TIz (a6 _ _ D.TIz D.TITO D.TIi1 D.TIi2 st.hI), ⟨_, _, b2.extBut _ _ D.TOz a2⟩, a3.ext fun o e => b2.extBut _ _ D.i1z e, a4.ext fun o e => b2.extBut _ _ D.i2z e⟩
    · obtain ⟨o, e, _⟩ : ∃ o, s.heap.get? b = some o ∧ True := by
        simp only [List.mem_cons, List.not_mem_nil, or_false] at hb
        rcases hb with rfl | rfl | rfl | rfl | rfl
        · exact ⟨_, st.hz, trivial⟩
        · exact ⟨_, st.hI, trivial⟩
        · exact ⟨_, hO, trivial⟩
        · obtain ⟨o, e, _⟩ := st.h1.obj; exact ⟨o, e, trivial⟩
        · obtain ⟨o, e, _⟩ := st.h2.obj; exact ⟨o, e, trivial⟩
      rw [upd_ne (Nat.ne_of_lt (Heap.lt_size e))]
      exact (hf b hb).1
  done := fun X hP hw hK hc i pins s σ H E I hf st hg => by
    subst hP hw hK
    obtain ⟨xs, ys, q1, q2, g⟩ := hg
    obtain ⟨its, r1, p1⟩ := sqv_at I q1
    obtain ⟨jts, r2, p2⟩ := sqv_at I q2
    obtain ⟨a, b, hO⟩ := st.hO
    have n1 := r1.length
    have n2 := r2.length
    refine zipNext_end (I.ok.hd hc) D st.hz st.hI hO st.h1 st.h2 p1 p2 ?_ fun h' k => ⟨rfl, turned_all I hf fun b o hb e => ?_⟩
    · rcases g with g | g
      · exact .inl (by simp; omega)
      · exact .inr (by simp; omega)
    · simp only [List.mem_cons, List.not_mem_nil, or_false, not_or] at hb
      exact k b o hb.1 hb.2.2.1 hb.2.2.2.1 hb.2.2.2.2 e
  self := fun _ _ _ _ _ st h => wpAny_pyIter_zip st.hz h
end TM

namespace TM
open PySem PySem.Spec PyProof.Rows L2
noncomputable def sqK : T → Option (Bool × List T)
  | .lst ts => some (true, ts)
  | .scr ts => some (true, ts)
  | .tup ts => some (false, ts)
  | _ => none
theorem sqK_rep {K : PySem.W.Frag} {F : Hp} {t : T} {v : V} {b : Bool} {ts : List T} (r : Rep K F t v) (e : sqK t = some (b, ts)) : ∃ a xs, v = .ref a ∧ SqV b K F a xs ∧ Reps K F ts xs := by
  cases t <;> simp only [sqK] at e <;> cases e
  · exact r
  · obtain ⟨a, xs, h1, h2, h3⟩ := r
    exact ⟨a, xs, h1, SqL.of h2, h3⟩
  · exact r
theorem SqV.same {b : Bool} {K : PySem.W.Frag} {H H' : Hp} {a : Addr} {xs : List V} (s : Same H H') (h : SqV b K H a xs) : SqV b K H' a xs := by
  cases b with
  | true => exact s.seq h
  | false => exact same_sqT s h
noncomputable def zipT : List T → List T → List T
  | x :: xs, y :: ys => .tup [x, y] :: zipT xs ys
  | _, _ => []
theorem zipT_length : ∀ (xs ys : List T), (zipT xs ys).length = min xs.length ys.length
  | [], _ => by simp [zipT]
  | _ :: _, [] => by simp [zipT]
  | x :: xs, y :: ys => by simp [zipT, zipT_length xs ys]
theorem zipT_get : ∀ (xs ys : List T) (i : Nat) (t : T), (zipT xs ys)[i]? = some t → ∃ x y, xs[i]? = some x ∧ ys[i]? = some y ∧ t = .tup [x, y]
  | [], _, i, t, e => by simp [zipT] at e
  | _ :: _, [], i, t, e => by simp [zipT] at e
  | x :: xs, y :: ys, 0, t, e => by simp [zipT] at e; exact ⟨x, y, rfl, rfl, e.symm⟩
  | x :: xs, y :: ys, i + 1, t, e => by
    obtain ⟨a, b, h1, h2, h3⟩ := zipT_get xs ys i t (by simpa [zipT] using e)
    exact ⟨a, b, by simpa using h1, by simpa using h2, h3⟩
theorem walks_zip {K : PySem.W.Frag} {F : Hp} {c1 c2 : Bool} {l1 l2 : Addr} {xs ys : List V} {ts us : List T} (h1 : SqV c1 K F l1 xs) (r1 : Reps K F ts xs) (h2 : SqV c2 K F l2 ys) (r2 : Reps K F us ys) : Walks K F (zipT ts us) (Itz K c1 c2 l1 l2) := by
  refine ⟨fun i t F1 H1 e s1 s2 => ?_, fun i t F1 H1 x H2 e s1 s2 y => ?_, fun F1 H1 s1 s2 => ⟨xs, ys, h1.same (s1.trans s2), h2.same (s1.trans s2), ?_⟩⟩
  · obtain ⟨a, b, e1, e2, rfl⟩ := zipT_get ts us i t e
    obtain ⟨v, g1, _⟩ := r1.get e1
    obtain ⟨w, g2, _⟩ := r2.get e2
    exact ⟨xs, ys, v, w, h1.same (s1.trans s2), h2.same (s1.trans s2), g1, g2⟩
  · obtain ⟨p, v, w, rfl, hp, rfl, q1, q2⟩ := y
    obtain ⟨a, b, e1, e2, rfl⟩ := zipT_get ts us i t e
    obtain ⟨v', g1, k1⟩ := r1.get e1
    obtain ⟨w', g2, k2⟩ := r2.get e2
    have m1 := q1 xs (h1.same (s1.trans s2))
    have m2 := q2 ys (h2.same (s1.trans s2))
    rw [g1] at m1; cases m1
    rw [g2] at m2; cases m2
    have gr := Grow.new (.tup [v, w]) s2 hp
    exact ⟨_, gr, p, _, rfl, SqT.of upd_same, v, [w], rfl, Rep.mono (s1.trans gr.sF) k1, w, [], rfl, Rep.mono (s1.trans gr.sF) k2, rfl⟩
  · rw [zipT_length, r1.length, r2.length]
    omega
noncomputable def fiZip (g : FA) : FA := fun τ => (g τ).bind fun p => match p.1 with
  | [a, b] => (sqK a).bind fun x => (sqK b).bind fun y => some (zipT x.2 y.2, p.2)
  | _ => none
theorem si_zip {X : Cx} {a b : Expr} {p pos : Pos} {ga : FA} {elts : List Expr} {kx : Nat} {px : Pos} (hg : Gl X "zip") (hm : X.mg "zip" = none) (ha : SA X [a, b] ga) (hs : starEach [a, b] X.env = (false, eval a X.env) :: starEach [b] X.env := by rfl)
    (hs2 : (backTo pos (starEach [b] X.env)).any (·.1) = false := by rfl) : SI X (.Tuple elts kx px) (.Call (.Name "zip" p) [a, b] [] pos) (fiZip ga) := by
  intro F₀ H₀ pins s σ H R I ⟨F, τ, ts, τ', E, e1, q⟩
  obtain ⟨⟨x, τ1⟩, e2, e1⟩ := bind_some e1
  dsimp only at e1
  split at e1
  · next t u =>
    obtain ⟨⟨c1, us⟩, e3, e1⟩ := bind_some e1
    obtain ⟨⟨c2, ws⟩, e4, e1⟩ := bind_some e1
    cases e1
    refine Call_ (ld_blt I hg hm (show bootBuiltins "zip" = some (.type "zip") from rfl) (PyProof.Rows.callWith_type1 (thn (ha F₀ H₀ pos pins s σ H (fun vs H' => ∃ l1 l2 xs ys, vs = [.ref l1, .ref l2] ∧ SqV c1 X.K H' l1 xs ∧ SqV c2 X.K H' l2 ys ∧ R (Itz X.K c1 c2 l1 l2) H') I ⟨F, τ, _, _, E, e2, fun F' H' vs E' s' r' => ?_⟩) fun vs s1 ⟨ws', H1, I1, r1, q1⟩ => ?_) hs hs2))
    · obtain ⟨v1, r1, rfl, k1, v2, r2, rfl, k2, rfl⟩ := r'
      obtain ⟨l1, xs, rfl, h1, h2⟩ := sqK_rep k1 e3
      obtain ⟨l2, ys, rfl, h3, h4⟩ := sqK_rep k2 e4
      exact ⟨l1, l2, xs, ys, rfl, h1.same E'.g.fh, h3.same E'.g.fh, q F' H' _ E' s' (walks_zip h1 h2 h3 h4)⟩
    · obtain ⟨l1, l2, xs, ys, rfl, h1, h2, q1⟩ := q1
      cases r1 with
      | cons ra rr =>
        cases rr with
        | cons rb rr =>
          cases rr; cases ra; cases rb
          obtain ⟨its, _, p1⟩ := sqv_at I1 h1
          obtain ⟨jts, _, p2⟩ := sqv_at I1 h2
          refine call_zip p1 p2 fun h' a1 a2 a3 a4 a5 kp => wpAny_pyIter_zip (s := { s1 with heap := h' }) a1 ?_
          have lt : ∀ {c : Bool} {l : Addr} {zs : Array Value}, SqAt c s1.heap l zs → l < s1.heap.objs.size := fun {c l zs} h => by
            cases c with
            | true => obtain ⟨o, e, _⟩ := h; exact Heap.lt_size e
            | false => obtain ⟨o, e, _⟩ := h; exact Heap.lt_size e
          have n1 : @LT.lt Nat _ l1 s1.heap.objs.size := lt p1
          have n2 : @LT.lt Nat _ l2 s1.heap.objs.size := lt p2
          have J : Inv X pins σ H1 { s1 with heap := h' } := I1.kept (t' := s1.toks) kp
          refine ⟨_, [_, _, _, _, _], _, _, H1, rfl, J, turn_zip (c1 := c1) (c2 := c2) (z := s1.heap.objs.size + 4) (TI := s1.heap.objs.size + 2) (TO := s1.heap.objs.size + 3) (i1 := s1.heap.objs.size) (i2 := s1.heap.objs.size + 1) (l1 := l1) (l2 := l2) ?_, ⟨a1, a2, ⟨_, _, a3⟩, a4, a5⟩, fun b hb => ?_, q1⟩
          · constructor <;> (refine (?_ : @Ne Nat _ _); omega)
          · have hb' : s1.heap.objs.size ≤ b := by
              simp only [List.mem_cons, List.not_mem_nil, or_false] at hb
              rcases hb with rfl | rfl | rfl | rfl | rfl <;> omega
            exact I1.fpOk hb' (I1.hok.fresh hb')
  · cases e1
end TM

namespace TM
open PySem PySem.Spec PyProof.Rows L2
theorem isi_non_int : dIsi [.non, .ty "int"] = some (.bl false) := rfl
theorem isi_non_bool : dIsi [.non, .ty "bool"] = some (.bl false) := rfl
theorem isi_non_str : dIsi [.non, .ty "str"] = some (.bl false) := rfl
theorem isi_non_list : dIsi [.non, .ty "list"] = some (.bl false) := rfl
theorem isi_non_tuple : dIsi [.non, .ty "tuple"] = some (.bl false) := rfl
theorem isi_non_dict : dIsi [.non, .ty "dict"] = some (.bl false) := rfl
theorem isi_non_lt : dIsi [.non, .tup [.ty "list", .ty "tuple"]] = some (.bl false) := rfl
theorem isi_bl_int {b : Bool} : dIsi [(.bl b), .ty "int"] = some (.bl true) := rfl
theorem isi_bl_bool {b : Bool} : dIsi [(.bl b), .ty "bool"] = some (.bl true) := rfl
theorem isi_bl_str {b : Bool} : dIsi [(.bl b), .ty "str"] = some (.bl false) := rfl
theorem isi_bl_list {b : Bool} : dIsi [(.bl b), .ty "list"] = some (.bl false) := rfl
theorem isi_bl_tuple {b : Bool} : dIsi [(.bl b), .ty "tuple"] = some (.bl false) := rfl
theorem isi_bl_dict {b : Bool} : dIsi [(.bl b), .ty "dict"] = some (.bl false) := rfl
theorem isi_bl_lt {b : Bool} : dIsi [(.bl b), .tup [.ty "list", .ty "tuple"]] = some (.bl false) := rfl
theorem isi_int_int {i : Int} : dIsi [(.int i), .ty "int"] = some (.bl true) := rfl
theorem isi_int_bool {i : Int} : dIsi [(.int i), .ty "bool"] = some (.bl false) := rfl
theorem isi_int_str {i : Int} : dIsi [(.int i), .ty "str"] = some (.bl false) := rfl
theorem isi_int_list {i : Int} : dIsi [(.int i), .ty "list"] = some (.bl false) := rfl
theorem isi_int_tuple {i : Int} : dIsi [(.int i), .ty "tuple"] = some (.bl false) := rfl
theorem isi_int_dict {i : Int} : dIsi [(.int i), .ty "dict"] = some (.bl false) := rfl
theorem isi_int_lt {i : Int} : dIsi [(.int i), .tup [.ty "list", .ty "tuple"]] = some (.bl false) := rfl
theorem isi_str_int {x : Str} : dIsi [(.str x), .ty "int"] = some (.bl false) := rfl
theorem isi_str_bool {x : Str} : dIsi [(.str x), .ty "bool"] = some (.bl false) := rfl
theorem isi_str_str {x : Str} : dIsi [(.str x), .ty "str"] = some (.bl true) := rfl
theorem isi_str_list {x : Str} : dIsi [(.str x), .ty "list"] = some (.bl false) := rfl
theorem isi_str_tuple {x : Str} : dIsi [(.str x), .ty "tuple"] = some (.bl false) := rfl
theorem isi_str_dict {x : Str} : dIsi [(.str x), .ty "dict"] = some (.bl false) := rfl
theorem isi_str_lt {x : Str} : dIsi [(.str x), .tup [.ty "list", .ty "tuple"]] = some (.bl false) := rfl
theorem isi_tup_int {ts : List T} : dIsi [(.tup ts), .ty "int"] = some (.bl false) := rfl
theorem isi_tup_bool {ts : List T} : dIsi [(.tup ts), .ty "bool"] = some (.bl false) := rfl
theorem isi_tup_str {ts : List T} : dIsi [(.tup ts), .ty "str"] = some (.bl false) := rfl
theorem isi_tup_list {ts : List T} : dIsi [(.tup ts), .ty "list"] = some (.bl false) := rfl
theorem isi_tup_tuple {ts : List T} : dIsi [(.tup ts), .ty "tuple"] = some (.bl true) := rfl
theorem isi_tup_dict {ts : List T} : dIsi [(.tup ts), .ty "dict"] = some (.bl false) := rfl
theorem isi_tup_lt {ts : List T} : dIsi [(.tup ts), .tup [.ty "list", .ty "tuple"]] = some (.bl true) := rfl
theorem isi_lst_int {ts : List T} : dIsi [(.lst ts), .ty "int"] = some (.bl false) := rfl
theorem isi_lst_bool {ts : List T} : dIsi [(.lst ts), .ty "bool"] = some (.bl false) := rfl
theorem isi_lst_str {ts : List T} : dIsi [(.lst ts), .ty "str"] = some (.bl false) := rfl
theorem isi_lst_list {ts : List T} : dIsi [(.lst ts), .ty "list"] = some (.bl true) := rfl
theorem isi_lst_tuple {ts : List T} : dIsi [(.lst ts), .ty "tuple"] = some (.bl false) := rfl
theorem isi_lst_dict {ts : List T} : dIsi [(.lst ts), .ty "dict"] = some (.bl false) := rfl
theorem isi_lst_lt {ts : List T} : dIsi [(.lst ts), .tup [.ty "list", .ty "tuple"]] = some (.bl true) := rfl
theorem isi_scr_int {ts : List T} : dIsi [(.scr ts), .ty "int"] = some (.bl false) := rfl
theorem isi_scr_bool {ts : List T} : dIsi [(.scr ts), .ty "bool"] = some (.bl false) := rfl
theorem isi_scr_str {ts : List T} : dIsi [(.scr ts), .ty "str"] = some (.bl false) := rfl
theorem isi_scr_list {ts : List T} : dIsi [(.scr ts), .ty "list"] = some (.bl true) := rfl
theorem isi_scr_tuple {ts : List T} : dIsi [(.scr ts), .ty "tuple"] = some (.bl false) := rfl
theorem isi_scr_dict {ts : List T} : dIsi [(.scr ts), .ty "dict"] = some (.bl false) := rfl
theorem isi_scr_lt {ts : List T} : dIsi [(.scr ts), .tup [.ty "list", .ty "tuple"]] = some (.bl true) := rfl
theorem isi_dic_int : dIsi [.dic, .ty "int"] = some (.bl false) := rfl
theorem isi_dic_bool : dIsi [.dic, .ty "bool"] = some (.bl false) := rfl
theorem isi_dic_str : dIsi [.dic, .ty "str"] = some (.bl false) := rfl
theorem isi_dic_list : dIsi [.dic, .ty "list"] = some (.bl false) := rfl
theorem isi_dic_tuple : dIsi [.dic, .ty "tuple"] = some (.bl false) := rfl
theorem isi_dic_dict : dIsi [.dic, .ty "dict"] = some (.bl true) := rfl
theorem isi_dic_lt : dIsi [.dic, .tup [.ty "list", .ty "tuple"]] = some (.bl false) := rfl
theorem gEq_int (i j : Int) : gEq (.int i) (.int j) = some (.bl (decide (i = j))) := by
  show some (T.bl (i == j)) = _
  rw [Bool.beq_eq_decide_eq]
theorem gNe_int (i j : Int) : gNe (.int i) (.int j) = some (.bl (!decide (i = j))) := by
  show some (T.bl (!(i == j))) = _
  rw [Bool.beq_eq_decide_eq]
theorem gEq_bl (i j : Bool) : gEq (.bl i) (.bl j) = some (.bl (i == j)) := rfl
theorem gNe_bl (i j : Bool) : gNe (.bl i) (.bl j) = some (.bl (!(i == j))) := rfl
theorem CDivB_iff (i j : Int) : CDivB i j ↔ (¬ j = 0 ∧ j.natAbs < B) := Iff.rfl
theorem CMulB_iff (i j : Int) : CMulB i j ↔ (i.natAbs < B ∧ j.natAbs < B) := Iff.rfl
theorem CNz_iff (i j : Int) : CNz i j ↔ ¬ j = 0 := Iff.rfl
theorem small_le {n : Nat} (h : n ≤ 1000) : n ≤ sizeLine := Nat.le_of_lt (small1000 h)
theorem le0 : (0 : Nat) ≤ sizeLine := small_le (by decide)
theorem le1 : (1 : Nat) ≤ sizeLine := small_le (by decide)
theorem le2 : (2 : Nat) ≤ sizeLine := small_le (by decide)
theorem le3 : (3 : Nat) ≤ sizeLine := small_le (by decide)
theorem le4 : (4 : Nat) ≤ sizeLine := small_le (by decide)
theorem gIx_tup0 {x y : T} : gIx (.tup [x, y]) (.int 0) = some x := rfl
theorem gIx_tup1 {x y : T} : gIx (.tup [x, y]) (.int 1) = some y := rfl
theorem gIx_lst0 {x y : T} : gIx (.lst [x, y]) (.int 0) = some x := rfl
theorem gIx_lst1 {x y : T} : gIx (.lst [x, y]) (.int 1) = some y := rfl
theorem dAbs_nat (a : Int) : dAbs [.int a] = some (.int (a.natAbs : Int)) := by
  have e : (if a < 0 then -a else a) = (a.natAbs : Int) := by split <;> omega
  simp only [dAbs, e]
theorem bigB : (2 ^ 64 : Nat) < B := by decide +kernel
theorem ltB_of {a : Int} (h1 : -(2 ^ 64) < a) (h2 : a < 2 ^ 64) : a.natAbs < B := by have := bigB; omega
theorem gEq_str_self {x : Str} (h : SeqAt.shaped (.str x) = true) : gEq (.str x) (.str x) = some (.bl true) := by
  show gEqW false (.str x) (.str x) = _
  simp [gEqW, toP, h, PyData.eqv]
noncomputable def bSame (d__law_same : List T → Option T) : FS :=
    (fSeq (fIfS (fTru (fCall dIsi (fCons (fVar 1) (fCons (fTup (fCons (fC (.ty "list")) (fCons (fC (.ty "tuple")) fNil))) fNil)))) (fSeq (fIfS (fOr (fTB (fOp gNe (fCall dIsi (fCons (fVar 1) (fCons (fC (.ty "list")) fNil))) (fCall dIsi (fCons (fVar 0) (fCons (fC (.ty "list")) fNil))))) (fNot (fTru (fCall dIsi (fCons (fVar 0) (fCons (fTup (fCons (fC (.ty "list")) (fCons (fC (.ty "tuple")) fNil))) fNil)))))) (fRet (fC (.bl false))) fNext)
    (fSeq (fIfS (fTB (fOp gNe (fCall dLen (fCons (fVar 0) fNil)) (fCall dLen (fCons (fVar 1) fNil)))) (fRet (fC (.bl false))) fNext)
    (fSeq (fFor (fiZip (fCons (fVar 0) (fCons (fVar 1) fNil))) (gnTup (gnCons (gnName 2) (gnCons (gnName 3) gnNil))) (fIfS (fNot (fTru (fCall d__law_same (fCons (fVar 2) (fCons (fVar 3) fNil))))) (fRet (fC (.bl false))) fNext))
    (fRet (fC (.bl true)))))) fNext)
    (fSeq (fIfS (fTB (fOp gIs (fVar 1) (fC .non))) (fRet (fOp gIs (fVar 0) (fC .non))) fNext)
    (fSeq (fIfS (fTru (fCall dIsi (fCons (fVar 1) (fCons (fC (.ty "str")) fNil)))) (fRet (fAndV (fCall dIsi (fCons (fVar 0) (fCons (fC (.ty "str")) fNil))) (fOp gEq (fVar 0) (fVar 1)))) fNext)
    (fRet (fAndV (fCall dIsi (fCons (fVar 0) (fCons (fC (.ty "int")) fNil))) (fAndV (fUn gNot (fCall dIsi (fCons (fVar 0) (fCons (fC (.ty "bool")) fNil)))) (fOp gEq (fVar 0) (fVar 1))))))))

noncomputable def dSame : Nat → List T → Option T
  | 0 => fun _ => none
  | n + 1 => dOf 4 2 (bSame (dSame n))
mutual
noncomputable def sameOk : Nat → T → Bool
  | _, .int _ => true
  | _, .non => true
  | _, .str x => SeqAt.shaped (.str x)
  | n + 1, .tup ts => sameOks n ts
  | n + 1, .lst ts => sameOks n ts
  | _, _ => false
noncomputable def sameOks : Nat → List T → Bool
  | _, [] => true
  | n, t :: ts => sameOk n t && sameOks n ts
end
noncomputable def sameBody (d : List T → Option T) : FS := (fIfS (fNot (fTru (fCall d (fCons (fVar 2) (fCons (fVar 3) fNil))))) (fRet (fC (.bl false))) fNext)
theorem same_loop {d : List T → Option T} : ∀ (ts : List T) (x y u v : Option Sl), (∀ t ∈ ts, d [t, t] = some (.bl true)) → ∃ u' v', loopT (gnTup (gnCons (gnName 2) (gnCons (gnName 3) gnNil))) (sameBody d) (zipT ts ts) [x, y, u, v] = some (.nx [x, y, u', v'])
  | [], x, y, u, v, _ => ⟨u, v, rfl⟩
  | t :: ts, x, y, u, v, h => by
    have h1 := h t (List.mem_cons_self ..)
    obtain ⟨u', v', h2⟩ := same_loop ts x y (some (.sh t)) (some (.sh t)) fun z hz => h z (List.mem_cons_of_mem _ hz)
    refine ⟨u', v', ?_⟩
    rw [← h2]
    clear h2 h
    unfold sameBody
    walk_at "ev"
theorem sameOks_mem {n : Nat} : ∀ {ts : List T}, sameOks n ts = true → ∀ t ∈ ts, sameOk n t = true
  | t :: ts, h, u, hu => by
    simp only [sameOks, Bool.and_eq_true] at h
    rcases List.mem_cons.mp hu with rfl | hu
    · exact h.1
    · exact sameOks_mem h.2 u hu
theorem dSame_eq : ∀ (n : Nat) (t : T), sameOk n t = true → dSame (n + 1) [t, t] = some (.bl true) := by
  intro n
  induction n with
  | zero =>
    intro t h
    show dOf 4 2 (bSame (dSame 0)) [t, t] = _
    cases t with
    | int i => clear h; unfold dOf bSame; walk_at "ev"
    | non => clear h; unfold dOf bSame; walk_at "ev"
    | str x =>
      have h : SeqAt.shaped (.str x) = true := h
      have e := gEq_str_self h
      clear h
      unfold dOf bSame
      walk_at "ev"
    | bl b => cases h
    | ty b => cases h
    | tup b => cases h
    | lst b => cases h
    | scr b => cases h
    | dic => cases h
    | obj _ _ _ => cases h
    | ptr _ => cases h
  | succ n ih =>
    intro t h
    show dOf 4 2 (bSame (dSame (n + 1))) [t, t] = _
    cases t with
    | int i => clear h ih; unfold dOf bSame; walk_at "ev"
    | non => clear h ih; unfold dOf bSame; walk_at "ev"
    | str x =>
      have h : SeqAt.shaped (.str x) = true := h
      have e := gEq_str_self h
      clear h ih
      unfold dOf bSame
      walk_at "ev"
    | bl b => cases h
    | ty b => cases h
    | scr b => cases h
    | dic => cases h
    | obj _ _ _ => cases h
    | ptr _ => cases h
    | tup ts =>
      have hm := fun t ht => ih t (sameOks_mem h t ht)
      obtain ⟨u, v, hl⟩ := same_loop ts (some (.sh (.tup ts))) (some (.sh (.tup ts))) none none hm
      clear h ih hm
      unfold sameBody at hl
      unfold dOf bSame
      walk_at "ev"
    | lst ts =>
      have hm := fun t ht => ih t (sameOks_mem h t ht)
      obtain ⟨u, v, hl⟩ := same_loop ts (some (.sh (.lst ts))) (some (.sh (.lst ts))) none none hm
      clear h ih hm
      unfold sameBody at hl
      unfold dOf bSame
      walk_at "ev"
end TM

namespace TM
open PySem PySem.Spec PyProof.Rows L2
noncomputable def bMix : FS :=
    (fSeq (fSet 2 (fOp gMod (fOp gAdd (fOp gAdd (fVar 0) (fOp gMulI (fC (.int 7919)) (fVar 1))) (fC (.int 11))) (fC (.int 2147483647))))
    (fSeq (fSet 2 (fOp gMod (fOp gAdd (fOp gMulI (fVar 2) (fVar 2)) (fOp gMulI (fC (.int 48271)) (fVar 1))) (fC (.int 2147483629))))
    (fRet (fOp gMod (fOp gAdd (fOp gAdd (fOp gMulI (fVar 2) (fVar 2)) (fOp gMulI (fC (.int 7)) (fVar 2))) (fVar 1)) (fC (.int 2147483587))))))
noncomputable def bCell : FS :=
    (fSeq (fIfS (fTB (fOp gLt (fVar 1) (fCall dLen (fCons (fVar 0) fNil)))) (fRet (fOp gIx (fVar 0) (fVar 1))) fNext)
    (fSeq (fSet 2 (fOp gAdd (fOp gMulI (fC (.int 7919)) (fVar 1)) (fC (.int 5))))
    (fSeq (fIfS (fTB (fOp gGt (fCall dLen (fCons (fVar 0) fNil)) (fC (.int 0)))) (fSet 2 (fOp gMod (fOp gAdd (fOp gIx (fVar 0) (fOp gMod (fOp gMulI (fC (.int 7)) (fVar 1)) (fCall dLen (fCons (fVar 0) fNil)))) (fOp gMulI (fC (.int 7919)) (fVar 1))) (fC (.int 2147483647)))) fNext)
    (fRet (fOp gMod (fOp gMulI (fVar 2) (fVar 2)) (fC (.int 2147483629)))))))
theorem fmod_rng (a : Int) {b : Int} (h : 0 < b) : 0 ≤ a.fmod b ∧ a.fmod b < b := ⟨Int.fmod_nonneg_of_pos _ h, Int.fmod_lt_of_pos _ h⟩
noncomputable def mixA (c k : Int) : Int := (c + 7919 * k + 11).fmod 2147483647
noncomputable def mixB (c k : Int) : Int := (mixA c k * mixA c k + 48271 * k).fmod 2147483629
noncomputable def mixF (c k : Int) : Int := (mixB c k * mixB c k + 7 * mixB c k + k).fmod 2147483587
theorem mixF_rng (c k : Int) : 0 ≤ mixF c k ∧ mixF c k < 2147483587 := fmod_rng _ (by decide)
noncomputable def mMix : List T → Option T
  | [.int c, .int k] => if k.natAbs < B then some (.int (mixF c k)) else none
  | _ => none
theorem mMix_eq {c k : Int} (h : k.natAbs < B) : mMix [.int c, .int k] = some (.int (mixF c k)) := if_pos h
theorem num_B {n : Nat} (h : n < 2 ^ 64) : ((n : Int)).natAbs < B := by have := bigB; omega
theorem sp_mix (ts : List T) (t : T) (h : mMix ts = some t) : dOf 3 2 bMix ts = some t := by
  unfold mMix at h
  split at h
  · next c k =>
    split at h
    · next hk =>
      cases h
      have b1 : ((7919 : Int)).natAbs < B := num_B (n := 7919) (by decide)
      have b2 : ((48271 : Int)).natAbs < B := num_B (n := 48271) (by decide)
      have b3 : ((7 : Int)).natAbs < B := num_B (n := 7) (by decide)
      have r1 : (mixA c k).natAbs < B := by have := fmod_rng (c + 7919 * k + 11) (b := 2147483647) (by decide); exact ltB_of (by unfold mixA; omega) (by unfold mixA; omega)
      have r2 : (mixB c k).natAbs < B := by have := fmod_rng (mixA c k * mixA c k + 48271 * k) (b := 2147483629) (by decide); exact ltB_of (by unfold mixB; omega) (by unfold mixB; omega)
      have e1 : (c + 7919 * k + 11).fmod 2147483647 = mixA c k := rfl
      have e2 : (mixA c k * mixA c k + 48271 * k).fmod 2147483629 = mixB c k := rfl
      have e3 : (mixB c k * mixB c k + 7 * mixB c k + k).fmod 2147483587 = mixF c k := rfl
      have n1 : ¬ (2147483647 : Int) = 0 := by decide
      have n2 : ¬ (2147483629 : Int) = 0 := by decide
      have n3 : ¬ (2147483587 : Int) = 0 := by decide
      unfold dOf bMix
      walk_at "ev"
    · cases h
  · cases h
noncomputable def intsOf : List T → Option (List Int)
  | [] => some []
  | .int i :: ts => (intsOf ts).bind fun ns => some (i :: ns)
  | _ :: _ => none
theorem intsOf_map : ∀ ns : List Int, intsOf (ns.map T.int) = some ns
  | [] => rfl
  | n :: ns => by simp [intsOf, intsOf_map ns]
theorem intsOf_inv : ∀ {ts : List T} {ns : List Int}, intsOf ts = some ns → ts = ns.map T.int
  | [], ns, h => by cases h; rfl
  | .int i :: ts, ns, h => by
    obtain ⟨ms, e, h⟩ := bind_some h
    cases h
    rw [intsOf_inv e]; rfl
  | .non :: _, _, h => by cases h
  | .bl _ :: _, _, h => by cases h
  | .str _ :: _, _, h => by cases h
  | .ty _ :: _, _, h => by cases h
  | .tup _ :: _, _, h => by cases h
  | .lst _ :: _, _, h => by cases h
  | .scr _ :: _, _, h => by cases h
  | .dic :: _, _, h => by cases h
  | .obj _ _ _ :: _, _, h => by cases h
  | .ptr _ :: _, _, h => by cases h
noncomputable def cellN (ns : List Int) (k : Int) : Int := if 0 < ns.length then (ns.getD ((7 * k).fmod (ns.length : Int)).toNat 0 + 7919 * k).fmod 2147483647 else 7919 * k + 5
noncomputable def cellF (ns : List Int) (k : Int) : Int := if k < (ns.length : Int) then ns.getD k.toNat 0 else (cellN ns k * cellN ns k).fmod 2147483629
noncomputable def mCell : List T → Option T
  | [.scr ts, .int k] => (intsOf ts).bind fun ns => if 0 ≤ k ∧ k < 1000000 then some (.int (cellF ns k)) else none
  | _ => none
theorem mCell_eq {ns : List Int} {k : Int} (h0 : 0 ≤ k) (h1 : k < 1000000) : mCell [.scr (ns.map T.int), .int k] = some (.int (cellF ns k)) := by
  show (intsOf (ns.map T.int)).bind _ = _
  rw [intsOf_map]
  exact if_pos ⟨h0, h1⟩
theorem ix_ints {ns : List Int} {k : Int} (h0 : 0 ≤ k) (h1 : k < (ns.length : Int)) : gIx (.scr (ns.map T.int)) (.int k) = some (.int (ns.getD k.toNat 0)) := by
  show atI (ns.map T.int) k = _
  obtain ⟨j, rfl⟩ := Int.eq_ofNat_of_zero_le h0
  have hk : j < ns.length := by omega
  refine atI_nat ?_
  rw [List.getElem?_map, List.getElem?_eq_getElem hk]
  simp [List.getD, List.getElem?_eq_getElem hk]
theorem sp_cell (ts : List T) (t : T) (h : mCell ts = some t) : dOf 3 2 bCell ts = some t := by
  unfold mCell at h
  split at h
  · next us k =>
    obtain ⟨ns, e, h⟩ := bind_some h
    rw [intsOf_inv e]
    clear e
    split at h
    · next hk =>
      cases h
      obtain ⟨h0, h1⟩ := hk
      have b1 : ((7919 : Int)).natAbs < B := num_B (n := 7919) (by decide)
      have b3 : ((7 : Int)).natAbs < B := num_B (n := 7) (by decide)
      have bk : k.natAbs < B := ltB_of (by omega) (by omega)
      have n1 : ¬ (2147483647 : Int) = 0 := by decide
      have n2 : ¬ (2147483629 : Int) = 0 := by decide
      have hl : (ns.map T.int).length = ns.length := List.length_map ..
      unfold dOf bCell
      by_cases hc : k < (ns.length : Int)
      · have e1 := ix_ints h0 hc
        have e2 : cellF ns k = ns.getD k.toNat 0 := if_pos hc
        walk_at "ev"
      · have e2 : cellF ns k = (cellN ns k * cellN ns k).fmod 2147483629 := if_neg hc
        by_cases hn : (0 : Int) < (ns.length : Int)
        · have e3 : cellN ns k = (ns.getD ((7 * k).fmod (ns.length : Int)).toNat 0 + 7919 * k).fmod 2147483647 := if_pos (by omega)
          have r := fmod_rng (7 * k) hn
          have e4 := ix_ints (ns := ns) r.1 r.2
          have n3 : ¬ (ns.length : Int) = 0 := by omega
          have r2 : (cellN ns k).natAbs < B := by rw [e3]; have := fmod_rng (ns.getD ((7 * k).fmod (ns.length : Int)).toNat 0 + 7919 * k) (b := 2147483647) (by decide); exact ltB_of (by omega) (by omega)
          rw [e3] at r2 e2
          clear e3 r
          walk_at "ev"
        · have e3 : cellN ns k = 7919 * k + 5 := if_neg (by omega)
          have r2 : (7919 * k + 5).natAbs < B := ltB_of (by omega) (by omega)
          rw [e3] at e2
          clear e3
          walk_at "ev"
    · cases h
  · cases h
end TM

namespace TM
open PySem PySem.Spec PyProof.Rows L2
noncomputable def clF (env : Env) : List (Str × NameKind) → List (Str × Addr) → List (Str × Addr)
  | [], acc => acc
  | (x, k) :: r, acc => if k == .free then clF env r ((x, (env.cells.lookup x).getD 0) :: acc) else clF env r acc
theorem closure_key {env : Env} (f : Str × NameKind → List (Str × Addr) → Sem (ForInStep (List (Str × Addr)))) (hf : ∀ x k cs, f (x, k) cs = if k == .free then (do let a ← cellOf env x; pure (.yield ((x, a) :: cs))) else pure (.yield cs)) :
    ∀ (names : List (Str × NameKind)) (acc : List (Str × Addr)), (∀ y ∈ names, y.2 = .free → ∃ c, env.cells.lookup y.1 = some c) → forIn names acc f = pure (clF env names acc)
  | [], acc, _ => by rw [List.forIn_nil]; rfl
  | (x, k) :: r, acc, hy => by
    rw [List.forIn_cons, hf]
    have ih := closure_key f hf r
    have hr : ∀ y ∈ r, y.2 = .free → ∃ c, env.cells.lookup y.1 = some c := fun z hz => hy z (List.mem_cons_of_mem _ hz)
    cases hk : (k == NameKind.free) with
    | true =>
      obtain ⟨c, hc⟩ := hy (x, k) List.mem_cons_self (beq_iff_eq.mp hk)
      dsimp only at hc
      simp only [if_true, clF, hc, cellOf, pure_bind, Option.getD_some, hk]
      exact ih _ hr
    | false =>
      simp only [Bool.false_eq_true, if_false, clF, pure_bind, hk]
      exact ih _ hr
theorem closure_eq {env : Env} {scope : Scope} (h : ∀ y ∈ scope.names, y.2 = .free → ∃ c, env.cells.lookup y.1 = some c) : closureFor scope env = pure (clF env scope.names []) := by
  simp only [closureFor]
  rw [closure_key (env := env) _ (fun x k cs => by cases hk : k == NameKind.free <;> simp [hk]) scope.names [] h]
  rfl
theorem clF_mem {env : Env} : ∀ (names : List (Str × NameKind)) (acc : List (Str × Addr)) (x : Str) (c : Addr), (∀ y ∈ names, y.2 = .free → ∃ c, env.cells.lookup y.1 = some c) → (x, c) ∈ clF env names acc → (x, c) ∈ acc ∨ (env.cells.lookup x = some c ∧ (x, NameKind.free) ∈ names)
  | [], acc, x, c, _, h => .inl h
  | (y, k) :: r, acc, x, c, hy, h => by
    unfold clF at h
    have hr : ∀ z ∈ r, z.2 = .free → ∃ c, env.cells.lookup z.1 = some c := fun z hz => hy z (List.mem_cons_of_mem _ hz)
    cases hk : (k == NameKind.free) with
    | true =>
      rw [if_pos hk] at h
      rcases clF_mem r _ x c hr h with h | h
      · rcases List.mem_cons.mp h with h | h
        · cases h
          obtain ⟨c, hc⟩ := hy (y, k) List.mem_cons_self (beq_iff_eq.mp hk)
          dsimp only at hc
          refine .inr ⟨by rw [hc]; rfl, ?_⟩
          rw [beq_iff_eq.mp hk]
          exact List.mem_cons_self
        · exact .inl h
      · exact .inr ⟨h.1, List.mem_cons_of_mem _ h.2⟩
    | false =>
      rw [if_neg (by rw [hk]; decide)] at h
      rcases clF_mem r _ x c hr h with h | h
      · exact .inl h
      · exact .inr ⟨h.1, List.mem_cons_of_mem _ h.2⟩
theorem lookup_some_of_mem : ∀ {l : List (Str × Addr)} {x : Str} {c : Addr}, (x, c) ∈ l → ∃ d, l.lookup x = some d
  | (y, d) :: r, x, c, h => by
    rw [List.lookup_cons]
    cases hb : x == y with
    | true => exact ⟨d, rfl⟩
    | false =>
      rcases List.mem_cons.mp h with h | h
      · cases h; simp at hb
      · exact lookup_some_of_mem h
theorem clF_has {env : Env} : ∀ (names : List (Str × NameKind)) (acc : List (Str × Addr)) (x : Str), ((x, NameKind.free) ∈ names ∨ ∃ c, (x, c) ∈ acc) → ∃ c, (x, c) ∈ clF env names acc
  | [], acc, x, h => by
    rcases h with h | h
    · cases h
    · exact h
  | (y, k) :: r, acc, x, h => by
    unfold clF
    cases hk : (k == NameKind.free) with
    | true =>
      rw [if_pos rfl]
      refine clF_has r _ x ?_
      rcases h with h | ⟨c, h⟩
      · rcases List.mem_cons.mp h with h | h
        · cases h; exact .inr ⟨_, List.mem_cons_self⟩
        · exact .inl h
      · exact .inr ⟨c, List.mem_cons_of_mem _ h⟩
    | false =>
      rw [if_neg (by decide)]
      refine clF_has r _ x ?_
      rcases h with h | h
      · rcases List.mem_cons.mp h with h | h
        · cases h; cases hk
        · exact .inl h
      · exact .inr h
theorem cf_mem : ∀ (names : List (Str × NameKind)) (n : Nat) (acc : List (Str × Addr)) (x : Str) (c : Addr), (x, c) ∈ cellsFrom n names acc → (x, c) ∈ acc ∨ (n ≤ c ∧ (x, NameKind.cell) ∈ names)
  | [], n, acc, x, c, h => .inl h
  | (y, k) :: r, n, acc, x, c, h => by
    unfold cellsFrom at h
    cases hk : (k == NameKind.cell) with
    | true =>
      rw [if_pos hk] at h
      rcases cf_mem r _ _ x c h with h | ⟨h1, h2⟩
      · rcases List.mem_cons.mp h with h | h
        · cases h
          refine .inr ⟨Nat.le_refl _, ?_⟩
          rw [beq_iff_eq.mp hk]
          exact List.mem_cons_self
        · exact .inl h
      · exact .inr ⟨Nat.le_of_succ_le h1, List.mem_cons_of_mem _ h2⟩
    | false =>
      rw [if_neg (by rw [hk]; decide)] at h
      rcases cf_mem r _ _ x c h with h | ⟨h1, h2⟩
      · exact .inl h
      · exact .inr ⟨h1, List.mem_cons_of_mem _ h2⟩
theorem cf_inj : ∀ (names : List (Str × NameKind)) (n : Nat) (acc : List (Str × Addr)), (∀ x y c, (x, c) ∈ acc → (y, c) ∈ acc → x = y) → (∀ x c, (x, c) ∈ acc → @LT.lt Nat _ c n) → ∀ x y c, (x, c) ∈ cellsFrom n names acc → (y, c) ∈ cellsFrom n names acc → x = y
  | [], n, acc, h1, _, x, y, c, h, h' => h1 x y c h h'
  | (z, k) :: r, n, acc, h1, h2, x, y, c, h, h' => by
    unfold cellsFrom at h h'
    cases hk : (k == NameKind.cell) with
    | true =>
      rw [if_pos hk] at h h'
      refine cf_inj r (n + 1) _ (fun a b d ha hb => ?_) (fun a d ha => ?_) x y c h h'
      · rcases List.mem_cons.mp ha with ha | ha <;> rcases List.mem_cons.mp hb with hb | hb
        · cases ha; cases hb; rfl
        · cases ha; exact absurd (h2 _ _ hb) (Nat.lt_irrefl _)
        · cases hb; exact absurd (h2 _ _ ha) (Nat.lt_irrefl _)
        · exact h1 a b d ha hb
      · rcases List.mem_cons.mp ha with ha | ha
        · cases ha; exact Nat.lt_succ_self _
        · exact Nat.lt_succ_of_lt (h2 _ _ ha)
    | false =>
      rw [if_neg (by rw [hk]; decide)] at h h'
      exact cf_inj r n acc h1 h2 x y c h h'
theorem cf_has : ∀ (names : List (Str × NameKind)) (n : Nat) (acc : List (Str × Addr)) (x : Str), ((x, NameKind.cell) ∈ names ∨ ∃ c, (x, c) ∈ acc) → ∃ c, (x, c) ∈ cellsFrom n names acc
  | [], n, acc, x, h => by
    rcases h with h | h
    · cases h
    · exact h
  | (y, k) :: r, n, acc, x, h => by
    unfold cellsFrom
    cases hk : (k == NameKind.cell) with
    | true =>
      rw [if_pos rfl]
      refine cf_has r _ _ x ?_
      rcases h with h | ⟨c, h⟩
      · rcases List.mem_cons.mp h with h | h
        · cases h; exact .inr ⟨_, List.mem_cons_self⟩
        · exact .inl h
      · exact .inr ⟨c, List.mem_cons_of_mem _ h⟩
    | false =>
      rw [if_neg (by decide)]
      refine cf_has r _ _ x ?_
      rcases h with h | h
      · rcases List.mem_cons.mp h with h | h
        · cases h; cases hk
        · exact .inl h
      · exact .inr h
theorem cf_cell : ∀ (names : List (Str × NameKind)) (h : Heap) (acc : List (Str × Addr)) (x : Str) (c : Addr), (x, c) ∈ cellsFrom h.objs.size names acc → (x, c) ∈ acc ∨ (pushCells h names).IsCell c none
  | [], h, acc, x, c, m => .inl m
  | (y, k) :: r, h, acc, x, c, m => by
    unfold cellsFrom at m
    unfold pushCells
    cases hk : (k == NameKind.cell) with
    | true =>
      rw [if_pos hk] at m
      rw [if_pos rfl]
      have m' : (x, c) ∈ cellsFrom (h.push { cls := .type "cell", data := .cell none }).objs.size r ((y, h.objs.size) :: acc) := by rw [Heap.size_push]; exact m
      rcases cf_cell r _ _ x c m' with m | m
      · rcases List.mem_cons.mp m with m | m
        · cases m
          refine .inr ?_
          have q : (h.push { cls := .type "cell", data := .cell none }).IsCell h.objs.size none := ⟨_, Heap.get?_push_size _ rfl, rfl⟩
          exact q.keeps fun b o e => pushCells_keeps r _ b o e
        · exact .inl m
      · exact .inr m
    | false =>
      rw [if_neg (by rw [hk]; decide)] at m
      rw [if_neg (by decide)]
      exact cf_cell r h acc x c m
end TM

namespace TM
open PySem PySem.Spec PyProof.Rows L2
noncomputable def blkEnv (X : Cx) (scope : Scope) (C : Addr) (cs : List (Str × Addr)) : Env :=
  { newEnv scope C X.env.globals cs X.env.qual none .none (some X.env) builtinsNs with scope := relabel scope X.env }
noncomputable def blk (X : Cx) (scope : Scope) (N' : List Str) (C : Addr) (cs : List (Str × Addr)) (s₀ : Shared) (H₀ : Hp) (fp : List Addr) (pins : List (Addr × Obj)) : Cx :=
  { X with N := N', s₀ := s₀, H₀ := H₀, env := blkEnv X scope C cs, outer := X.stack, stack := X.stack, ex := fp, fn := fun x => scope.names.lookup x == some .cell, pn := X.pn ++ pins, xe := fun _ _ => False }
structure BlkScope (X : Cx) (scope : Scope) : Prop where
  kind : scope.kind = .function
  names : ∀ y ∈ scope.names, y.2 = .local → scope.names.lookup y.1 = some .local
  free : ∀ y ∈ scope.names, y.2 = .free → (X.env.kindOf y.1 = some .cell ∨ X.env.kindOf y.1 = some .free) ∧ (y.1, NameKind.cell) ∉ scope.names ∧ scope.names.lookup y.1 = some .free
theorem mem_of_lookupK : ∀ {l : List (Str × NameKind)} {x : Str} {k : NameKind}, l.lookup x = some k → (x, k) ∈ l
  | (y, d) :: r, x, k, h => by
    rw [List.lookup_cons] at h
    cases hb : x == y with
    | true => rw [hb] at h; cases h; rw [beq_iff_eq.mp hb]; exact List.mem_cons_self
    | false => rw [hb] at h; exact List.mem_cons_of_mem _ (mem_of_lookupK h)
theorem lookup_relabel_free {env : Env} : ∀ {names : List (Str × NameKind)} {x : Str}, names.lookup x = some .free →
    ((names.map fun (n, k) => if (k == NameKind.free && env.scope.kind == .function && env.kindOf n == some .cell) then (n, NameKind.cell) else (n, k)).lookup x = some .cell ∨
     (names.map fun (n, k) => if (k == NameKind.free && env.scope.kind == .function && env.kindOf n == some .cell) then (n, NameKind.cell) else (n, k)).lookup x = some .free)
  | (n, k) :: r, x, h => by
    rw [List.lookup_cons] at h
    have en : ∀ y : Str × NameKind, y = (if (k == NameKind.free && env.scope.kind == .function && env.kindOf n == some .cell) = true then (n, NameKind.cell) else (n, k)) → y.1 = n ∧ (y.2 = .cell ∨ y.2 = k) := fun y e => by
      subst e
      split
      · exact ⟨rfl, .inl rfl⟩
      · exact ⟨rfl, .inr rfl⟩
    rw [List.map_cons]
    dsimp only
    generalize hy : (if (k == NameKind.free && env.scope.kind == .function && env.kindOf n == some .cell) = true then (n, NameKind.cell) else (n, k)) = y
    obtain ⟨e1, e2⟩ := en y hy.symm
    obtain ⟨a, b⟩ := y
    dsimp only at e1 e2
    subst e1
    rw [List.lookup_cons]
    cases hb : x == a with
    | true =>
      rw [hb] at h
      cases h
      rcases e2 with rfl | rfl
      · exact .inl rfl
      · exact .inr rfl
    | false =>
      rw [hb] at h
      exact lookup_relabel_free h
theorem relabel_mem {X : Cx} {scope : Scope} {x : Str} (h : (blkEnv X scope C cs).kindOf x = some .cell ∨ (blkEnv X scope C cs).kindOf x = some .free) : (x, NameKind.cell) ∈ scope.names ∨ (x, NameKind.free) ∈ scope.names := by
  have key : ∀ k, (blkEnv X scope C cs).kindOf x = some k → (k = .cell ∨ k = .free) → (x, NameKind.cell) ∈ scope.names ∨ (x, NameKind.free) ∈ scope.names := fun k h hk => by
    have m := mem_of_lookupK (show (relabel scope X.env).names.lookup x = some k from h)
    unfold relabel at m
    obtain ⟨⟨y, j⟩, m1, m2⟩ := List.mem_map.mp m
    dsimp only at m2
    split at m2
    · next hc =>
      cases m2
      simp only [Bool.and_eq_true, beq_iff_eq] at hc
      rw [hc.1.1] at m1
      exact .inr m1
    · cases m2
      rcases hk with rfl | rfl
      · exact .inl m1
      · exact .inr m1
  rcases h with h | h
  · exact key _ h (.inl rfl)
  · exact key _ h (.inr rfl)
section
variable {X : Cx} {pins : List (Addr × Obj)} {σ : L2.St} {H : Hp} {s : Shared} {scope : Scope} {fp : List Addr} {N' : List Str} {σ' : L2.St}
noncomputable abbrev accOb : Obj := { cls := .type "list", dict := none, data := .seq ([] : List Value).toArray }
noncomputable abbrev dicOb : Obj := { cls := .type "dict", data := .dict #[] }
noncomputable def h0 (h : Heap) (scope : Scope) : Heap := pushCells ((h.push accOb).push dicOb) scope.names
theorem h0_keep {h : Heap} {b : Addr} {o : Obj} (e : h.get? b = some o) : (h0 h scope).get? b = some o := pushCells_keeps _ _ _ _ (Heap.get?_push_of_some _ (Heap.get?_push_of_some _ e))
theorem h0_acc (h : Heap) : (h0 h scope).get? h.objs.size = some accOb := pushCells_keeps _ _ _ _ (Heap.get?_push_of_some _ (Heap.get?_push_size _ rfl))
theorem blk_start (I : Inv X pins σ H s) (B : BlkScope X scope) (hf : ∀ b ∈ fp, FpOk X pins H b) (ho : ∀ b ∈ fp, ∃ o, s.heap.get? b = some o) (hl : σ'.length = N'.length)
    (cap : ∀ (i : Nat) (x : Str) (v : V), N'[i]? = some x → σ'[i]? = some (some v) → ((x, NameKind.free) ∈ scope.names ∧ ∃ j : Nat, X.N[j]? = some x ∧ σ[j]? = some (some v)) ∨ ¬ Vis (relabel scope X.env) x) {tk : Nat} :
    Inv (blk X scope N' (s.heap.objs.size + 1) (cellsFrom (s.heap.objs.size + 2) scope.names (clF X.env scope.names [])) s H fp pins) [] σ' (upd H s.heap.objs.size (.lst [])) { s with heap := h0 s.heap scope, toks := tk } := by
  have hz1 : (s.heap.push accOb).objs.size = s.heap.objs.size + 1 := Heap.size_push ..
  have hz2 : ((s.heap.push accOb).push dicOb).objs.size = s.heap.objs.size + 2 := by rw [Heap.size_push, hz1]
  have hfree : ∀ y ∈ scope.names, y.2 = .free → ∃ c, X.env.cells.lookup y.1 = some c := fun y hy hk => I.ok.has y.1 (B.free y hy hk).1
  have clm : ∀ x c, (x, c) ∈ clF X.env scope.names [] → X.env.cells.lookup x = some c ∧ (x, NameKind.free) ∈ scope.names := fun x c h => by
    rcases clF_mem _ _ x c hfree h with h | h
    · cases h
    · exact h
  have cl_lt : ∀ x c, (x, c) ∈ clF X.env scope.names [] → @LT.lt Nat _ c s.heap.objs.size := fun x c h => by
    obtain ⟨v, q⟩ := I.cell x c (clm x c h).1
    exact q.lt
  have csm : ∀ x c, (x, c) ∈ cellsFrom (s.heap.objs.size + 2) scope.names (clF X.env scope.names []) → (X.env.cells.lookup x = some c ∧ (x, NameKind.free) ∈ scope.names ∧ @LT.lt Nat _ c s.heap.objs.size) ∨ (@LE.le Nat _ (s.heap.objs.size + 2) c ∧ (x, NameKind.cell) ∈ scope.names) := fun x c h => by
    rcases cf_mem _ _ _ x c h with h | h
    · exact .inl ⟨(clm x c h).1, (clm x c h).2, cl_lt x c h⟩
    · exact .inr h
  have hD : H s.heap.objs.size = none := I.fresh
  have up : ∀ b : Addr, @LT.lt Nat _ b s.heap.objs.size → upd H s.heap.objs.size (.lst []) b = H b := fun b hb => upd_ne (Nat.ne_of_lt hb)
  have upF : ∀ b : Addr, @LT.lt Nat _ s.heap.objs.size b → upd H s.heap.objs.size (.lst []) b = none := fun b hb => by rw [upd_ne (Nat.ne_of_gt hb)]; exact I.hok.fresh (Nat.le_of_lt hb)
  have flt : ∀ b ∈ fp, @LT.lt Nat _ b s.heap.objs.size := fun b hb => by obtain ⟨o, e⟩ := ho b hb; exact Heap.lt_size e
  refine ⟨⟨I.ok.mod, B.kind, I.ok.glob, I.ok.blt, Nat.le_succ _, fun x y c h1 h2 => ?_, fun x hx => ?_, fun x c hx h => ?_, I.ok.hd, I.ok.frames, .inl rfl, fun b hb => ⟨?_, fun x c h => ?_⟩, I.bs, Nat.le_trans I.ok.bsz I.sz, fun b o e hb => ?_, fun b hb z => ?_, I.stack, I.stkFree⟩,
    rfl, I.bare, ?_, ⟨fun _ => none, ?_, fun i x v e1 e2 e3 => ?_⟩, fun x c h => ?_, upF _ (Nat.lt_succ_self _), fun x c h => ?_, fun p hp => ?_, ?_, hl⟩
  · exact cf_inj _ _ _ (fun a b d ha hb => I.ok.inj a b d (clm a d ha).1 (clm b d hb).1) (fun a d ha => Nat.lt_of_lt_of_le (cl_lt a d ha) (Nat.le_add_right _ 2)) x y c (PySem.mem_of_lookup h1) (PySem.mem_of_lookup h2)
  · have hm : ∃ c, (x, c) ∈ cellsFrom (s.heap.objs.size + 2) scope.names (clF X.env scope.names []) := by
      rcases relabel_mem hx with h | h
      · exact cf_has _ _ _ x (.inl h)
      · exact cf_has _ _ _ x (.inr (clF_has _ _ x (.inl h)))
    obtain ⟨c, hm⟩ := hm
    exact lookup_some_of_mem hm
  · have hx' : scope.names.lookup x = some .cell := beq_iff_eq.mp hx
    rcases csm x c (PySem.mem_of_lookup h) with ⟨_, h2, _⟩ | ⟨h1, _⟩
    · exact absurd (mem_of_lookupK hx') (B.free _ h2 rfl).2.1
    · exact Nat.le_trans (Nat.le_add_right _ 2) h1
  · exact Nat.ne_of_lt (Nat.lt_succ_of_lt (flt b hb))
  · rcases csm x c (PySem.mem_of_lookup h) with ⟨h1, _, _⟩ | ⟨h1, _⟩
    · exact (hf b hb).2.2.2.2.1 x c h1
    · exact Nat.ne_of_gt (Nat.lt_of_lt_of_le (flt b hb) (Nat.le_trans (Nat.le_add_right _ 2) h1))
  · rcases (hf b hb).2.2.2.1 with z | z
    · exact I.ok.noex b o e z
    · exact absurd (Nat.lt_of_lt_of_le (Heap.lt_size e) (Nat.le_trans I.ok.bsz z)) (Nat.lt_irrefl _)
  · rcases List.mem_cons.mp (I.stkSub b z) with z | z
    · exact (hf b hb).2.1 z
    · exact (hf b hb).2.2.1 z
  · exact Un.laid (fun b o e => h0_keep e) (Nat.le_refl _) hD
  · have q := Heap.Ns.new (s.heap.push accOb) (.type "dict")
    rw [hz1] at q
    exact q.keeps fun b o e => pushCells_keeps _ _ b o e
  · rcases cap i x v e1 e2 with ⟨hx, j, hj, hv⟩ | hn
    · obtain ⟨m, hm, hlk⟩ := I.loc
      have hk := (B.free _ hx rfl).1
      have vis : Vis X.env.scope x := by
        rcases hk with hk | hk
        · exact .inr (.inl hk)
        · exact .inr (.inr hk)
      obtain ⟨u, r, l⟩ := hlk j x v hj hv vis
      refine ⟨u, r, .inr ?_⟩
      rcases l with ⟨z, _⟩ | ⟨_, c, hc, hcell⟩
      · rcases hk with hk | hk <;> (rw [show X.env.kindOf x = X.env.scope.names.lookup x from rfl] at hk z; rw [hk] at z; cases z)
      · obtain ⟨c', hc'⟩ := lookup_some_of_mem (Classical.choose_spec (cf_has scope.names (s.heap.objs.size + 2) (clF X.env scope.names []) x (.inr (clF_has _ _ x (.inl hx)))))
        have ec : c' = c := by
          rcases csm x c' (PySem.mem_of_lookup hc') with ⟨h1, _, _⟩ | ⟨_, h2⟩
          · rw [hc] at h1; exact (Option.some.inj h1).symm
          · exact absurd h2 (B.free _ hx rfl).2.1
        subst ec
        refine ⟨?_, c', hc', hcell.keeps fun b o e => h0_keep e⟩
        rcases e3 with e3 | e3 | e3
        · rcases lookup_relabel_free (env := X.env) (B.free _ hx rfl).2.2 with q | q
          · exact .inl q
          · exact .inr q
        · exact .inl e3
        · exact .inr e3
    · exact absurd e3 hn
  · rcases cf_cell scope.names ((s.heap.push accOb).push dicOb) (clF X.env scope.names []) x c (by rw [hz2]; exact PySem.mem_of_lookup h) with m | m
    · obtain ⟨v, q⟩ := I.cell x c (clm x c m).1
      exact ⟨v, q.keeps fun b o e => h0_keep e⟩
    · exact ⟨none, m⟩
  · rcases csm x c (PySem.mem_of_lookup h) with ⟨h1, _, h3⟩ | ⟨h1, _⟩
    · rw [up c h3]; exact I.freeC x c h1
    · exact upF c (Nat.lt_of_lt_of_le (Nat.lt_add_of_pos_right (by decide)) h1)
  · have hp' : p ∈ X.pn ++ pins := by simpa [blk] using hp
    obtain ⟨e, n, ne, nf, d⟩ := I.pin p hp'
    have lt : @LT.lt Nat _ p.1 s.heap.objs.size := Heap.lt_size e
    refine ⟨h0_keep e, by rw [up _ lt]; exact n, Nat.ne_of_lt (Nat.lt_succ_of_lt lt), fun z => ?_, d⟩
    rcases List.mem_cons.mp (I.stkSub _ z) with z | z
    · exact ne z
    · exact nf z
  · exact I.hok.laid (fun b o e => h0_keep e) (Nat.le_refl _) ⟨Nat.zero_le _, [], 0, .nil, h0_acc s.heap⟩
end
end TM

namespace TM
open PySem PySem.Spec PyProof.Rows L2
noncomputable abbrev testsOf (ifs : List Expr) (env : Env) : Sem Bool := forIn ifs true fun c r => if r = true then do let ok ← isTrue c env (eval c env); pure (ForInStep.yield ok) else pure (ForInStep.yield r)
theorem comp_loop {prog : Program} {w : World} {A : Around} {R : Result → Shared → Prop} {s : Shared} {elt target iter : Expr} {ifs : List Expr} {scope : Scope} {pos : Pos} {it acc : Value} {env : Env} (I : Nat → Shared → Prop)
    (turn : ∀ n s, I n s → wpAny (model prog w) A (pyNext it) (fun r s₁ => match r with
      | none => R (.ok .next) s₁
      | some v => wpAny (model prog w) A (letOwnedTupleGo target it v) (fun _ s₂ => wpAny (model prog w) A (assign target env v) (fun _ s₃ => wpAny (model prog w) A (testsOf ifs env) (fun ok s₄ =>
          if ok = true then wpAny (model prog w) A (eval elt env) (fun x s₅ => wpAny (model prog w) A (call (.builtin "list.append") [acc, x]) (fun _ s₆ => ∃ m, m < n ∧ I m s₆) (fun _ _ => False) s₅) (fun _ _ => False) s₄
          else ∃ m, m < n ∧ I m s₄) (fun _ _ => False) s₃) (fun _ _ => False) s₂) (fun _ _ => False) s₁) (fun _ _ => False) s)
    (n : Nat) (h : I n s) : codeAny (model prog w) A (.compLoop (.ListComp elt [⟨target, iter, ifs, 0⟩] scope pos) 0 it acc env) R s := by
  have no : ∀ {α : Type} {m : Sem α} {Q : α → Shared → Prop} {E : Value → Shared → Prop} {s : Shared}, wpAny (model prog w) A m Q (fun _ _ => False) s → wpAny (model prog w) A m Q E s := fun h => wpAny_mono h (fun _ _ q => q) fun _ _ z => z.elim
  refine codeAny_loop rfl I (fun n s hI => ?_) n h
  refine (wpAny_noted ?_ : wpAny _ A ((compTurn (.ListComp elt [⟨target, iter, ifs, 0⟩] scope pos) 0 it acc env).onRaise (fun x => do noteFrame x env; theTreesLotGoes x)) _ _ s)
  rw [compTurn_list]
  refine wpAny_bind (wpAny_standAt (wpAny_bind (wpAny_mono (no (turn n s hI)) (fun r s₁ h₁ => ?_) fun _ _ z => z)))
  cases r with
  | none => exact wpAny_pure h₁
  | some v =>
    refine wpAny_bind (wpAny_mono (no h₁) (fun _ s₂ h₂ => wpAny_bind (wpAny_mono (no h₂) (fun _ s₃ h₃ => wpAny_bind (wpAny_mono (no h₃) (fun ok s₄ h₄ => ?_) fun _ _ z => z)) fun _ _ z => z)) fun _ _ z => z)
    cases ok with
    | false => exact wpAny_pure ⟨rfl, h₄⟩
    | true => exact wpAny_bind (wpAny_bind (wpAny_mono (no h₄) (fun x s₅ h₅ => wpAny_bind (wpAny_mono (no h₅) (fun _ s₆ h₆ => wpAny_pure (wpAny_pure ⟨rfl, h₆⟩)) fun _ _ z => z)) fun _ _ z => z))
noncomputable def allSh : TEnv → Bool
  | [] => true
  | some (.own _) :: _ => false
  | _ :: r => allSh r
theorem allSh_get : ∀ {τ : TEnv} {i : Nat} {ts : List T}, allSh τ = true → τ[i]? ≠ some (some (.own ts))
  | [], i, ts, _ => by simp
  | some (.own _) :: _, i, ts, h => by cases h
  | some (.sh t) :: r, 0, ts, h => by simp
  | none :: r, 0, ts, h => by simp
  | some (.sh t) :: r, i + 1, ts, h => by rw [List.getElem?_cons_succ]; exact allSh_get (τ := r) h
  | none :: r, i + 1, ts, h => by rw [List.getElem?_cons_succ]; exact allSh_get (τ := r) h
noncomputable def compT (fg : FG) (ft : FT) (fe : FE) : List T → TEnv → List T → Option (List T)
  | [], _, acc => some acc
  | t :: ts, τ, acc => (fg t τ).bind fun τ1 => (ft τ1).bind fun p => if p.1 = true then (fe p.2).bind fun q => if allSh q.2 = true ∧ acc.length < sizeLine then compT fg ft fe ts q.2 (acc ++ [q.1]) else none
    else if allSh p.2 = true then compT fg ft fe ts p.2 acc else none
noncomputable def frz1 (j : Nat) (τ : TEnv) : TEnv := match τ[j]? with
  | some (some (.own ts)) => τ.set j (some (.sh (.lst ts)))
  | _ => τ
noncomputable def frzAll : List Nat → TEnv → TEnv
  | [], τ => τ
  | j :: r, τ => frzAll r (frz1 j τ)
noncomputable def capOf {α : Type} (l : List (Option α)) (j : Nat) : Option α := match l[j]? with
  | some x => x
  | none => none
noncomputable def blkOf {α : Type} (no : Nat) (cap : List Nat) (l : List (Option α)) : List (Option α) := List.replicate no none ++ cap.map (capOf l)
noncomputable def fComp (no : Nat) (cap : List Nat) (fi : FA) (fg : FG) (ft : FT) (fe : FE) : FE := fun τ => (fi τ).bind fun p =>
  if allSh (blkOf no cap (frzAll cap p.2)) = true then (compT fg ft fe p.1 (blkOf no cap (frzAll cap p.2)) []).bind fun us => some (.lst us, frzAll cap p.2) else none
noncomputable def fAlways : FT := fun τ => some (true, τ)
noncomputable def STs (X : Cx) (ifs : List Expr) (ft : FT) : Prop := ∀ F₀ H₀ pins s σ H Q, Inv X pins σ H s → tT X.K F₀ H₀ ft σ H Q → wpAny (model X.prog X.w) X.A (testsOf ifs X.env) (TP X pins σ Q) X.xe s
theorem sts_nil {X : Cx} : STs X [] fAlways := fun F₀ H₀ pins s σ H Q I hq__ => by
  obtain ⟨F, τ, b, τ', E, e, q⟩ := hq__
  cases e
  exact wpAny_tests_nil ⟨H, I, q F H E (Same.refl _)⟩
theorem sts_one {X : Cx} {c : Expr} {ft : FT} (h : ST X c ft) : STs X [c] ft := fun F₀ H₀ pins s σ H Q I q => wpAny_tests_one (h F₀ H₀ pins s σ H Q I q)
section
variable {K : PySem.W.Frag} {F₀ H₀ F H : Hp} {σ : L2.St} {τ : TEnv}
theorem EnvOk.frz1 (E : EnvOk K F₀ H₀ F H σ τ) (j : Nat) : ∃ F', EnvOk K F₀ H₀ F' H σ (TM.frz1 j τ) ∧ Same F F' := by
  unfold TM.frz1
  split
  · next ts e =>
    obtain ⟨F', v, _, E', s', _⟩ := E.freeze e
    exact ⟨F', E', s'⟩
  · exact ⟨F, E, Same.refl _⟩
theorem EnvOk.frzAll : ∀ (cap : List Nat) {F : Hp} {τ : TEnv}, EnvOk K F₀ H₀ F H σ τ → ∃ F', EnvOk K F₀ H₀ F' H σ (TM.frzAll cap τ) ∧ Same F F'
  | [], F, τ, E => ⟨F, E, Same.refl _⟩
  | j :: r, F, τ, E => by
    obtain ⟨F1, E1, s1⟩ := E.frz1 j
    obtain ⟨F2, E2, s2⟩ := EnvOk.frzAll r E1
    exact ⟨F2, E2, s1.trans s2⟩
theorem EnvOk.rebase {H' : Hp} (E : EnvOk K F₀ H₀ F H σ τ) (ha : allSh τ = true) (s : Same F H') : EnvOk K F H' F H' σ τ := by
  refine ⟨Grow.refl s, E.len, fun i sl e => ?_, fun i j ts us p _ e1 => absurd e1 (allSh_get ha)⟩
  obtain ⟨v, h1, h2⟩ := E.sl i sl e
  cases sl with
  | sh t => exact ⟨v, h1, h2⟩
  | own ts => exact absurd e (allSh_get ha)
theorem blkOf_get {α : Type} {no : Nat} {cap : List Nat} {l : List (Option α)} {i : Nat} {x : α} (h : (blkOf no cap l)[i]? = some (some x)) : ∃ k j : Nat, i = no + k ∧ cap[k]? = some j ∧ l[j]? = some (some x) := by
  unfold blkOf at h
  by_cases hi : i < no
  · rw [List.getElem?_append_left (by simpa using hi), List.getElem?_replicate] at h
    split at h <;> cases h
  · rw [List.getElem?_append_right (by simpa using hi), List.length_replicate, List.getElem?_map] at h
    cases e : cap[i - no]? with
    | none => rw [e] at h; cases h
    | some j =>
      rw [e] at h
      have h' : capOf l j = some x := Option.some.inj h
      unfold capOf at h'
      split at h'
      · next y ey => exact ⟨i - no, j, by omega, e, by rw [ey, h']⟩
      · cases h'
theorem blkOf_set {α : Type} {no : Nat} {cap : List Nat} {l : List (Option α)} {k j : Nat} {x : α} (h1 : cap[k]? = some j) (h2 : l[j]? = some (some x)) : (blkOf no cap l)[no + k]? = some (some x) := by
  unfold blkOf
  rw [List.getElem?_append_right (by simp), List.length_replicate, Nat.add_sub_cancel_left, List.getElem?_map, h1]
  show some (capOf l j) = _
  unfold capOf
  rw [h2]
theorem EnvOk.block {H' : Hp} {no : Nat} {cap : List Nat} (E : EnvOk K F₀ H₀ F H σ τ) (ha : allSh (blkOf no cap τ) = true) (s : Same F H') : EnvOk K F H' F H' (blkOf no cap σ) (blkOf no cap τ) := by
  refine ⟨Grow.refl s, by simp [blkOf], fun i sl e => ?_, fun i j ts us p _ e1 => absurd e1 (allSh_get ha)⟩
  obtain ⟨k, j, rfl, hk, hj⟩ := blkOf_get e
  obtain ⟨v, h1, h2⟩ := E.sl j sl hj
  refine ⟨v, blkOf_set hk h1, ?_⟩
  cases sl with
  | sh t => exact h2
  | own ts => exact absurd e (allSh_get ha)
end
section
variable {X : Cx}
structure CompEnd (X : Cx) (pins : List (Addr × Obj)) (σ : L2.St) (F₀ H₀ F : Hp) (τ : TEnv) (rs : List T) (D C : Addr) (s : Shared) : Prop where
  ex : ∃ (H F3 : Hp) (vs : List V), Inv X pins σ H s ∧ EnvOk X.K F₀ H₀ F3 H σ τ ∧ Same F F3 ∧ F3 D = none ∧ H D = some (.lst vs) ∧ H₀ D = none ∧ Reps X.K F3 rs vs ∧ H C = none
  ns : ∃ m, s.heap.Ns C m
  cl : C ≠ X.env.locals
  c0 : X.s₀.heap.objs.size ≤ C
  cc : ∀ x c, X.env.cells.lookup x = some c → c ≠ C
  cp : ∀ p ∈ X.pn ++ pins, p.1 ≠ C
  ow : ∀ (j : Nat) us p, τ[j]? = some (some (.own us)) → σ[j]? = some (some (.ref p)) → p ≠ D
theorem comp_core {elt tg iter : Expr} {ifs : List Expr} {scope : Scope} {pos : Pos} {N' : List Str} {no : Nat} {cap : List Nat} {fi : FA} {fg : FG} {ft : FT} {fe : FE} (hx : X.xe = fun _ _ => False) (hc : X.calm = true) (B : BlkScope X scope) (hN : N'.length = no + cap.length)
    (hcap : ∀ (k j : Nat), cap[k]? = some j → ∃ x, N'[no + k]? = some x ∧ X.N[j]? = some x ∧ (x, NameKind.free) ∈ scope.names) (hi : SI X tg iter fi)
    (hg : ∀ C cs s₀ H₀ fp pins, SG (blk X scope N' C cs s₀ H₀ fp pins) tg fg) (ht : ∀ C cs s₀ H₀ fp pins, STs (blk X scope N' C cs s₀ H₀ fp pins) ifs ft) (he : ∀ C cs s₀ H₀ fp pins, SE (blk X scope N' C cs s₀ H₀ fp pins) elt fe)
    {F₀ H₀ F H : Hp} {pins : List (Addr × Obj)} {s : Shared} {σ : L2.St} {τ τ1 : TEnv} {ts rs : List T} (I : Inv X pins σ H s) (E : EnvOk X.K F₀ H₀ F H σ τ) (e2 : fi τ = some (ts, τ1)) (ha : allSh (blkOf no cap (frzAll cap τ1)) = true) (e3 : compT fg ft fe ts (blkOf no cap (frzAll cap τ1)) [] = some rs)
    {post : Value → Addr → Result → Shared → Prop} (hpost : ∀ D C s', CompEnd X pins σ F₀ H₀ F (frzAll cap τ1) rs D C s' → post (.ref D) C (.ok .next) s') :
    wpAny (model X.prog X.w) X.A (eval iter X.env) (fun x s₁ => wpAny (model X.prog X.w) X.A (pyIter x) (fun it s₂ => wpAny (model X.prog X.w) X.A (newList []) (fun acc s₃ =>
      wpAny (model X.prog X.w) X.A (newFunctionEnv scope X.env.globals (clF X.env scope.names []) [] X.env.qual none .none (some X.env)) (fun cenv s₄ =>
        codeAny (model X.prog X.w) X.A (.compStart (.ListComp elt [⟨tg, iter, ifs, 0⟩] scope pos) 0 it acc { cenv with scope := relabel scope X.env }) (post acc cenv.locals) s₄) X.xe s₃) X.xe s₂) X.xe s₁) X.xe s := by
  refine thn (hi F₀ H₀ pins s σ H (fun J H1 => ∃ F1, EnvOk X.K F₀ H₀ F1 H1 σ τ1 ∧ Same F F1 ∧ Walks X.K F1 ts J) I ⟨F, τ, ts, τ1, E, e2, fun F1 H1 J E1 s1 W => ⟨F1, E1, s1, W⟩⟩) fun v s1 h1 => thn h1 fun itv s2 h2 => ?_
  obtain ⟨it, fp, tn, J, H1, rfl, I2, Tn, st2, f2, F1, E1, sF1, W⟩ := h2
  obtain ⟨F2, E2, sF2⟩ := E1.frzAll cap
  have W2 : Walks X.K F2 ts J := ⟨fun i t F3 H3 e a b => W.go i t F3 H3 e (sF2.trans a) b, fun i t F3 H3 x H4 e a b y => W.yld i t F3 H3 x H4 e (sF2.trans a) b y, fun F3 H3 a b => W.stop F3 H3 (sF2.trans a) b⟩
  refine wpAny_newObj_type ?_
  have hz : (s2.heap.push accOb).objs.size = s2.heap.objs.size + 1 := Heap.size_push ..
  have hz2 : ((s2.heap.push accOb).push dicOb).objs.size = s2.heap.objs.size + 2 := by rw [Heap.size_push, hz]
  simp only [newFunctionEnv, Option.isSome_some, if_true]
  refine wpAny_bind (wpAny_alloc ?_)
  refine wpAny_bind (wpAny_layCells _ (fun name kind cells => by cases hkc : kind == NameKind.cell <;> simp [hkc]) _ _ _ _ ?_)
  simp only [List.forIn_nil]
  refine wpAny_bind (wpAny_pure (wpAny_pure ?_))
  have loop : codeAny (model X.prog X.w) X.A (.compLoop (.ListComp elt [⟨tg, iter, ifs, 0⟩] scope pos) 0 (.ref it) (.ref s2.heap.objs.size) (blkEnv X scope (s2.heap.objs.size + 1) (cellsFrom (s2.heap.objs.size + 2) scope.names (clF X.env scope.names []))))
      (post (.ref s2.heap.objs.size) (s2.heap.objs.size + 1)) { s2 with heap := h0 s2.heap scope } := by
    have Ib := blk_start (N' := N') (σ' := blkOf no cap σ) (tk := s2.toks) I2 B f2 (fun b hb => by obtain ⟨o, e, _⟩ := Tn.obj 0 _ st2 b hb; exact ⟨o, e⟩) (by simp [blkOf, hN]) (fun i x v a1 a2 => by
      obtain ⟨k, j, rfl, hk, hj⟩ := blkOf_get a2
      obtain ⟨x', b1, b2, b3⟩ := hcap k j hk
      rw [a1] at b1; cases b1
      exact .inl ⟨b3, j, b2, hj⟩)
    generalize hX' : blk X scope N' (s2.heap.objs.size + 1) (cellsFrom (s2.heap.objs.size + 2) scope.names (clF X.env scope.names [])) s2 H1 fp pins = X' at Ib
    have hg' : SG X' tg fg := by rw [← hX']; exact hg _ _ _ _ _ _
    have ht' : STs X' ifs ft := by rw [← hX']; exact ht _ _ _ _ _ _
    have he' : SE X' elt fe := by rw [← hX']; exact he _ _ _ _ _ _
    have xP : X'.prog = X.prog := by rw [← hX']; rfl
    have xw : X'.w = X.w := by rw [← hX']; rfl
    have xK : X'.K = X.K := by rw [← hX']; rfl
    have xA : X'.A = X.A := by rw [← hX']; rfl
    have xc : X'.calm = true := by rw [← hX']; exact hc
    have xx : X'.xe = fun _ _ => False := by rw [← hX']; rfl
    have xe' : X'.env = blkEnv X scope (s2.heap.objs.size + 1) (cellsFrom (s2.heap.objs.size + 2) scope.names (clF X.env scope.names [])) := by rw [← hX']; rfl
    have xex : X'.ex = fp := by rw [← hX']; rfl
    have xfs : X'.fs = frs X.stack := by rw [← hX']; rfl
    have xpn : X'.pn = X.pn ++ pins := by rw [← hX']; rfl
    have xs0 : X'.s₀ = s2 := by rw [← hX']; rfl
    have xH0 : X'.H₀ = H1 := by rw [← hX']; rfl
    have xl : X'.env.locals = s2.heap.objs.size + 1 := by rw [← hX']; rfl
    rw [← xe', ← xP, ← xw, ← xA]
    have hD1 : H1 s2.heap.objs.size = none := I2.fresh
    have fpk : ∀ {Hc : Hp} {σc : L2.St} {pc : List (Addr × Obj)} {sc : Shared}, Inv X' pc σc Hc sc → (∀ b ∈ fp, Hc b = none) → ∀ b ∈ fp, FpOk X' [] Hc b := fun {Hc σc pc sc} Ic hn b hb => by
      have q1 := Ic.ok.exf b (by rw [xex]; exact hb)
      have q2 := Ic.ok.exfs b (by rw [xex]; exact hb)
      refine ⟨hn b hb, q1.1, q2, .inl (by rw [xex]; exact hb), q1.2, fun p hp => ?_⟩
      rw [xpn, List.append_nil] at hp
      exact (f2 b hb).2.2.2.2.2 p hp
    refine comp_loop (fun n s3 => ∃ i σ3 H3 F3 τ3 us vs, Inv X' [] σ3 H3 s3 ∧ tn i s3.heap ∧ (∀ b ∈ fp, H3 b = none) ∧ EnvOk X.K F3 H3 F3 H3 σ3 τ3 ∧ allSh τ3 = true ∧ F3 s2.heap.objs.size = none ∧ H3 s2.heap.objs.size = some (.lst vs) ∧ Reps X.K F3 us vs ∧ Same F2 F3 ∧ Same H1 H3 ∧
      (∀ a o, F3 a = some o → F2 a = some o ∨ H1 a = none) ∧ i ≤ ts.length ∧ n = ts.length - i ∧ compT fg ft fe (ts.drop i) τ3 us = some rs) ?_ ts.length ?_
    · rintro n s3 ⟨i, σ3, H3, F3, τ3, us, vs, I3, st3, fr3, E3, ha3, fD, hD, rv, sF, sH, nw, hi', rfl, ec⟩
      by_cases hlt : i < ts.length
      · have hgi : ts[i]? = some ts[i] := List.getElem?_eq_getElem hlt
        rw [List.drop_eq_getElem_cons hlt] at ec
        obtain ⟨τ4, e4, ec⟩ := bind_some ec
        obtain ⟨⟨b, τ5⟩, e5, ec⟩ := bind_some ec
        have go := W2.go i _ F3 H3 hgi sF E3.g.fh
        have itm := (xP ▸ xw ▸ xK ▸ Tn : Turn X'.prog X'.w X'.K tg J fp it tn).item X' rfl rfl rfl xc i [] s3 σ3 H3 (fun _ _ => False) I3 (fpk I3 fr3) st3 go
        refine thn itm fun r s4 ⟨u, hr, h4⟩ => ?_
        subst hr
        refine thn h4 fun _ s5 ⟨x, H5, I5, r5, y5, st5, fr5⟩ => ?_
        have I5' := I5.pinned (fpk I5 fr5) (Tn.obj _ _ st5)
        obtain ⟨F5, gr, rx⟩ := W2.yld i _ F3 H3 x H5 hgi sF E3.g.fh y5
        have a1 := hg' F3 H3 _ s5 σ3 H5 x u (fun σ6 H6 => ∃ F6, EnvOk X.K F3 H3 F6 H6 σ6 τ4 ∧ Same F5 F6) I5' r5 (by rw [xK]; exact ⟨F5, τ3, ts[i], τ4, E3.grow gr, rx, e4, fun F6 H6 σ6 E6 s6 => ⟨F6, E6, s6⟩⟩)
        rw [xx] at a1
        refine thn a1 fun _ s6 ⟨σ6, H6, I6, F6, E6, sF6⟩ => ?_
        have a2 := ht' F3 H3 _ s6 σ6 H6 (fun b' H7 => b' = b ∧ ∃ F7, EnvOk X.K F3 H3 F7 H7 σ6 τ5 ∧ Same F6 F7) I6 (by rw [xK]; exact ⟨F6, τ4, b, τ5, E6, e5, fun F7 H7 E7 s7 => ⟨rfl, F7, E7, s7⟩⟩)
        rw [xx] at a2
        refine thn a2 fun ok s7 ⟨H7, I7, hok, F7, E7, sF7⟩ => ?_
        subst hok
        have tail : ∀ {σc : L2.St} {Hc : Hp} {sc : Shared}, Inv X' ([] ++ pinsAt fp s5.heap) σc Hc sc → tn (i + 1) sc.heap ∧ ∀ b ∈ fp, Hc b = none := fun {σc Hc sc} Ic => by
          refine ⟨Tn.keep _ _ _ st5 fun b hb o e => (Ic.pin (b, o) (List.mem_append_right _ (List.mem_append_right _ (mem_pinsAt hb e)))).1, fun b hb => ?_⟩
          obtain ⟨o, e, d⟩ := Tn.obj _ _ st5 b hb
          exact (Ic.pin (b, o) (List.mem_append_right _ (List.mem_append_right _ (mem_pinsAt hb e)))).2.1
        have keepD : ∀ {Fc Hc : Hp} {σc : L2.St} {τc : TEnv}, EnvOk X.K F3 H3 Fc Hc σc τc → Fc s2.heap.objs.size = none := fun {Fc Hc σc τc} Ec => by
          cases eF : Fc s2.heap.objs.size with
          | none => rfl
          | some o =>
            rcases Ec.g.nw _ o eF with z | z
            · rw [fD] at z; cases z
            · rw [hD] at z; cases z
        have newF : ∀ {Fc Hc : Hp} {σc : L2.St} {τc : TEnv}, EnvOk X.K F3 H3 Fc Hc σc τc → ∀ a o, Fc a = some o → F2 a = some o ∨ H1 a = none := fun {Fc Hc σc τc} Ec a o eF => by
          rcases Ec.g.nw a o eF with z | z
          · exact nw a o z
          · exact .inr (sH.free z)
        cases b' : ok with
        | false =>
          subst b'
          dsimp only at ec
          rw [if_neg (by decide)] at ec
          split at ec
          · next ha =>
            rw [if_neg (by decide)]
            obtain ⟨t1, t2⟩ := tail I7
            exact ⟨ts.length - (i + 1), by omega, i + 1, σ6, H7, F7, τ5, us, vs, I7.unpinned, t1, t2, E7.rebase ha E7.g.fh, ha, keepD E7, E7.g.sH _ _ hD, Reps.mono E7.g.sF rv, sF.trans E7.g.sF, sH.trans E7.g.sH, newF E7, hlt, rfl, ec⟩
          · cases ec
        | true =>
          subst b'
          dsimp only at ec
          rw [if_pos rfl] at ec
          rw [if_pos rfl]
          obtain ⟨⟨y0, τ6⟩, e6, ec⟩ := bind_some ec
          dsimp only at ec
          split at ec
          · next ha =>
            have a3 := he' F3 H3 _ s7 σ6 H7 (fun y H8 => ∃ F8, EnvOk X.K F3 H3 F8 H8 σ6 τ6 ∧ Rep X.K F8 y0 y) I7 (by rw [xK]; exact ⟨F7, τ5, y0, τ6, E7, e6, fun F8 H8 y E8 s8 r8 => ⟨F8, E8, r8⟩⟩)
            rw [xx] at a3
            refine thn a3 fun yv s8 ⟨y, H8, I8, ry, F8, E8, rp⟩ => ?_
            have dD : H8 s2.heap.objs.size = some (.lst vs) := E8.g.sH _ _ hD
            have a4 := mt_append (X := X') _ s8 σ6 H8 (.ref s2.heap.objs.size) [y] (.ref s2.heap.objs.size) [yv] (fun _ H9 => H9 = upd H8 s2.heap.objs.size (.lst (vs ++ [y]))) I8 rfl (.cons ry .nil) ⟨s2.heap.objs.size, vs, y, rfl, rfl, dD, by rw [rv.length]; exact ha.2, rfl⟩
            rw [xx] at a4
            refine thn a4 fun _ s9 ⟨_, H9, I9, _, e9⟩ => ?_
            subst e9
            obtain ⟨t1, t2⟩ := tail I9
            have kD := keepD E8
            have sm : Same F8 (upd H8 s2.heap.objs.size (.lst (vs ++ [y]))) := fun c o z => by rw [upd_ne (fun w => by subst w; rw [kD] at z; cases z)]; exact E8.g.fh _ _ z
            have sm1 : Same H1 (upd H8 s2.heap.objs.size (.lst (vs ++ [y]))) := fun c o z => by rw [upd_ne (fun w => by subst w; rw [hD1] at z; cases z)]; exact E8.g.sH _ _ (sH _ _ z)
            exact ⟨ts.length - (i + 1), by omega, i + 1, σ6, _, F8, τ6, us ++ [y0], vs ++ [y], I9.unpinned, t1, t2, E8.rebase ha.1 sm, ha.1, kD, upd_same, (Reps.mono E8.g.sF rv).append (.one rp), sF.trans E8.g.sF, sm1, newF E8, hlt, rfl, ec⟩
          · cases ec
      · have hie : i = ts.length := by omega
        subst hie
        rw [List.drop_length] at ec
        cases ec
        have dn := (xP ▸ xw ▸ xK ▸ Tn : Turn X'.prog X'.w X'.K tg J fp it tn).done X' rfl rfl rfl xc ts.length [] s3 σ3 H3 (fun _ _ => False) I3 (fpk I3 fr3) st3 (W2.stop F3 H3 sF E3.g.fh)
        refine thn dn fun r s4 ⟨hr, I4⟩ => ?_
        subst hr
        obtain ⟨m4, hm4, _⟩ := I4.loc
        rw [xl] at hm4
        have un := I4.base
        rw [xfs, xex, xH0, xs0] at un
        have ox := I4.os
        rw [xs0] at ox
        have hok4 := I4.hok
        rw [xP, xw] at hok4
        have IX : Inv X pins σ H3 s4 := I2.call' ox un hok4 I4.bare fun b hb => ⟨(f2 b hb).2.2.2.1, (f2 b hb).2.1, (f2 b hb).2.2.2.2.1, (f2 b hb).2.2.2.2.2⟩
        have hC : H3 (s2.heap.objs.size + 1) = none := by have := I4.free; rw [xl] at this; exact this
        have lC : @LT.lt Nat _ X.env.locals s2.heap.objs.size := I2.lt
        have gr : Grow F2 H1 F3 H3 := ⟨sF, sH, E3.g.fh, nw⟩
        refine hpost _ _ _ ⟨⟨H3, F3, vs, IX, E2.grow gr, (sF1.trans sF2).trans sF, fD, hD, E2.g.sH.free hD1, rv, hC⟩, ⟨m4, hm4⟩, Nat.ne_of_gt (Nat.lt_succ_of_lt lC), Nat.le_trans I2.sz (Nat.le_succ _),
          fun x c hxc => by obtain ⟨v, z⟩ := I2.cell x c hxc; exact Nat.ne_of_lt (Nat.lt_succ_of_lt z.lt), fun p hp => Nat.ne_of_lt (Nat.lt_succ_of_lt (Heap.lt_size (I2.pin p hp).1)), fun j us p j1 j2 => ?_⟩
        obtain ⟨v, k1, p', vs', rfl, k2, _⟩ := E2.sl j _ j1
        rw [j2] at k1; cases k1
        exact ne_of_none k2 hD1
    · refine ⟨0, blkOf no cap σ, upd H1 s2.heap.objs.size (.lst []), F2, blkOf no cap (frzAll cap τ1), [], [], Ib, Tn.keep _ _ _ st2 fun b hb o e => h0_keep e, fun b hb => ?_, E2.block ha (E2.g.fh.trans (same_updN hD1)), ha, E2.g.fh.free hD1, upd_same, rfl, Same.refl _, same_updN hD1, fun a o z => .inl z, Nat.zero_le _, rfl, e3⟩
      obtain ⟨o, e, _⟩ := Tn.obj 0 _ st2 b hb
      rw [upd_ne (Nat.ne_of_lt (Heap.lt_size e))]
      exact (f2 b hb).1
  have fin : ∀ {C : Addr} {cs : List (Str × Addr)}, C = s2.heap.objs.size + 1 → cs = cellsFrom (s2.heap.objs.size + 2) scope.names (clF X.env scope.names []) →
      codeAny (model X.prog X.w) X.A (.compStart (.ListComp elt [⟨tg, iter, ifs, 0⟩] scope pos) 0 (.ref it) (.ref s2.heap.objs.size) (blkEnv X scope C cs)) (post (.ref s2.heap.objs.size) C) { s2 with heap := h0 s2.heap scope } := fun {C cs} h1 h2 => by
    subst h1 h2
    exact codeAny_compStart_list loop (Tn.self _ 0 _ _ _ (Tn.keep _ _ _ st2 fun b hb o e => h0_keep e) loop)
  exact fin hz (by rw [← hz2])
theorem se_comp {elt tg iter : Expr} {ifs : List Expr} {scope : Scope} {pos : Pos} {N' : List Str} {no : Nat} {cap : List Nat} {fi : FA} {fg : FG} {ft : FT} {fe : FE} (hx : X.xe = fun _ _ => False) (hc : X.calm = true) (B : BlkScope X scope) (hN : N'.length = no + cap.length)
    (hcap : ∀ (k j : Nat), cap[k]? = some j → ∃ x, N'[no + k]? = some x ∧ X.N[j]? = some x ∧ (x, NameKind.free) ∈ scope.names) (hi : SI X tg iter fi)
    (hg : ∀ C cs s₀ H₀ fp pins, SG (blk X scope N' C cs s₀ H₀ fp pins) tg fg) (ht : ∀ C cs s₀ H₀ fp pins, STs (blk X scope N' C cs s₀ H₀ fp pins) ifs ft) (he : ∀ C cs s₀ H₀ fp pins, SE (blk X scope N' C cs s₀ H₀ fp pins) elt fe)
    (hs : ∀ x, foldedSetIterable iter X.env x = pure x := by intro _; rfl) : SE X (.ListComp elt [⟨tg, iter, ifs, 0⟩] scope pos) (fComp no cap fi fg ft fe) := by
  intro F₀ H₀ pins s σ H Q I ⟨F, τ, t, τ', E, e1, q⟩
  obtain ⟨⟨ts, τ1⟩, e2, e1⟩ := bind_some e1
  dsimp only at e1
  split at e1
  · next ha =>
    obtain ⟨rs, e3, e1⟩ := bind_some e1
    cases e1
    have hfree : ∀ y ∈ scope.names, y.2 = .free → ∃ c, X.env.cells.lookup y.1 = some c := fun y hy hk => I.ok.has y.1 (B.free y hy hk).1
    rw [eval_ListComp]
    refine wpAny_comprehension_free (use := none) rfl hs (closure_eq hfree) B.kind B.names (comp_core hx hc B hN hcap hi hg ht he I E e2 ha e3 fun D C s' Z => ?_)
    obtain ⟨H3, F3, vs, IX, E3, sF, fD, hD, h0D, rv, hC⟩ := Z.ex
    obtain ⟨m, hm⟩ := Z.ns
    refine ⟨m, hm, fun h' sb => ⟨.ref D, H3, IX.turned (t' := s'.toks) (it := C) (fun b o hb e => (sb.2 b hb).trans e) hC Z.cl (.inr Z.c0) Z.cc Z.cp, rfl, ?_⟩⟩
    have gr : Grow F3 H3 (upd F3 D (.lst vs)) H3 ∨ True := .inr trivial
    have sU : Same F3 (upd F3 D (.lst vs)) := same_updN fD
    refine q (upd F3 D (.lst vs)) H3 (.ref D) ⟨⟨E3.g.sF.trans sU, E3.g.sH, fun c o z => ?_, fun c o z => ?_⟩, E3.len, fun j sl ej => ?_, E3.dj⟩ (sF.trans sU) ⟨D, vs, rfl, upd_same, Reps.mono sU rv⟩
    · by_cases w : c = D
      · subst w; rw [upd_same] at z; cases z; exact hD
      · rw [upd_ne w] at z; exact E3.g.fh _ _ z
    · by_cases w : c = D
      · subst w; exact .inr h0D
      · rw [upd_ne w] at z; exact E3.g.nw _ _ z
    · obtain ⟨v, k1, k2⟩ := E3.sl j sl ej
      refine ⟨v, k1, ?_⟩
      cases sl with
      | sh t => exact Rep.mono sU k2
      | own us =>
        obtain ⟨p, ws, rfl, g2, g3, g4, g5⟩ := k2
        exact ⟨p, ws, rfl, g2, by rw [upd_ne (Z.ow j us p ej k1)]; exact g3, g4, Reps.mono sU g5⟩
  · cases e1
theorem EnvOk.putOwn {K : PySem.W.Frag} {F₀ H₀ F H : Hp} {σ : L2.St} {τ : TEnv} {i : Nat} {rs : List T} {vs : List V} {D : Addr} (E : EnvOk K F₀ H₀ F H σ τ) (fD : F D = none) (hD : H D = some (.lst vs)) (h0 : H₀ D = none) (r : Reps K F rs vs)
    (ow : ∀ (j : Nat) us p, τ[j]? = some (some (.own us)) → σ[j]? = some (some (.ref p)) → p ≠ D) : EnvOk K F₀ H₀ F H (σ.set i (some (.ref D))) (τ.set i (some (.own rs))) := by
  refine ⟨E.g, by simp [E.len], fun j s e => ?_, fun j k ts' us q hjk e1 e2 e3 e4 => ?_⟩
  · by_cases hj : i = j
    · subst hj
      by_cases hl : i < τ.length
      · rw [List.getElem?_set_self hl] at e
        cases e
        exact ⟨.ref D, List.getElem?_set_self (by rw [E.len]; exact hl), D, vs, rfl, hD, fD, h0, r⟩
      · rw [List.getElem?_eq_none (by simp; omega)] at e; cases e
    · rw [List.getElem?_set_ne hj] at e
      rw [List.getElem?_set_ne hj]
      exact E.sl j s e
  · by_cases hj : i = j
    · subst hj
      rw [List.getElem?_set_ne hjk] at e2 e4
      by_cases hl : i < τ.length
      · rw [List.getElem?_set_self (by rw [E.len]; exact hl)] at e3
        cases e3
        exact ow k us _ e2 e4 rfl
      · rw [List.getElem?_eq_none (by simp; omega)] at e1; cases e1
    · rw [List.getElem?_set_ne hj] at e1 e3
      by_cases hk : i = k
      · subst hk
        by_cases hl : i < τ.length
        · rw [List.getElem?_set_self (by rw [E.len]; exact hl)] at e4
          cases e4
          exact ow j ts' _ e1 e3 rfl
        · rw [List.getElem?_eq_none (by simp; omega)] at e2; cases e2
      · rw [List.getElem?_set_ne hk] at e2 e4
        exact E.dj j k ts' us q hjk e1 e2 e3 e4
noncomputable def fSetComp (i no : Nat) (cap : List Nat) (fi : FA) (fg : FG) (ft : FT) (fe : FE) : FS := fun τ => (fi τ).bind fun p =>
  if allSh (blkOf no cap (frzAll cap p.2)) = true then (compT fg ft fe p.1 (blkOf no cap (frzAll cap p.2)) []).bind fun us => some (.nx ((frzAll cap p.2).set i (some (.own us)))) else none
theorem ss_setComp {i : Nat} {y : Str} {py spos : Pos} {elt tg iter : Expr} {ifs : List Expr} {scope : Scope} {pos : Pos} {N' : List Str} {no : Nat} {cap : List Nat} {fi : FA} {fg : FG} {ft : FT} {fe : FE} (hNd : X.N.Nodup) (hiy : X.N[i]? = some y) (hy : X.env.scope.names.lookup y = some .local)
    (hx : X.xe = fun _ _ => False) (hc : X.calm = true) (B : BlkScope X scope) (hN : N'.length = no + cap.length)
    (hcap : ∀ (k j : Nat), cap[k]? = some j → ∃ x, N'[no + k]? = some x ∧ X.N[j]? = some x ∧ (x, NameKind.free) ∈ scope.names) (hi : SI X tg iter fi)
    (hg : ∀ C cs s₀ H₀ fp pins, SG (blk X scope N' C cs s₀ H₀ fp pins) tg fg) (ht : ∀ C cs s₀ H₀ fp pins, STs (blk X scope N' C cs s₀ H₀ fp pins) ifs ft) (he : ∀ C cs s₀ H₀ fp pins, SE (blk X scope N' C cs s₀ H₀ fp pins) elt fe)
    (hsw : swapsWith (.ListComp elt [⟨tg, iter, ifs, 0⟩] scope pos) (some (.Name y py)) spos.line X.env = pure true := by rfl) (hs : ∀ x, foldedSetIterable iter X.env x = pure x := by intro _; rfl) :
    SS X (.Assign [.Name y py] (.ListComp elt [⟨tg, iter, ifs, 0⟩] scope pos) spos) (fSetComp i no cap fi fg ft fe) := by
  intro F₀ H₀ pins s σ H Dn I ⟨F, τ, r, E, e1, q⟩
  obtain ⟨⟨ts, τ1⟩, e2, e1⟩ := bind_some e1
  dsimp only at e1
  split at e1
  · next ha =>
    obtain ⟨rs, e3, e1⟩ := bind_some e1
    cases e1
    have hfree : ∀ y ∈ scope.names, y.2 = .free → ∃ c, X.env.cells.lookup y.1 = some c := fun y hy hk => I.ok.has y.1 (B.free y hy hk).1
    rw [exec_Assign_Name_used _ _ _ _ hsw]
    refine wpAny_bind (wpAny_standAt (wpAny_bind (?_ : wpAny _ X.A (do let _ ← comprehension (.ListComp elt [⟨tg, iter, ifs, 0⟩] scope pos) scope X.env _ (newList []) false (eval iter X.env) (some (assign (.Name y py) X.env))) _ _ s)))
    refine wpAny_bind (thn (wpAny_comprehension_free (use := some (assign (.Name y py) X.env)) (Q := fun _ s' => SP X pins Dn .next s') rfl hs (closure_eq hfree) B.kind B.names (comp_core hx hc B hN hcap hi hg ht he I E e2 ha e3 fun D C s' Z => ?_)) fun _ s' hq => wpAny_pure (wpAny_pure hq))
    obtain ⟨H3, F3, vs, IX, E3, sF, fD, hD, h0D, rv, hC⟩ := Z.ex
    obtain ⟨m, hm⟩ := Z.ns
    refine (wpAny_assign_Name (store_ok2 IX hNd hiy (.inl hy) (v := .ref D) rfl (fun s'' I'' w => ?_) (.inr hy)) : wpAny _ X.A (assign (.Name y py) X.env (.ref D)) _ _ _)
    obtain ⟨a, sb, hab⟩ := w
    have aC : C ≠ a := fun z => by
      subst z
      rcases hab with z | z
      · exact Z.cl z
      · exact Z.cc _ _ z rfl
    refine ⟨m, hm.sameBut sb aC, fun h' sb' => ⟨_, H3, I''.turned (t' := s''.toks) (it := C) (fun b o hb e => (sb'.2 b hb).trans e) hC Z.cl (.inr Z.c0) Z.cc Z.cp, ?_⟩⟩
    exact q F3 H3 _ (E3.putOwn fD hD h0D rv Z.ow) sF
  · cases e1
end
noncomputable def blkCheck (sc scope : Scope) : Bool := scope.kind == .function && scope.names.all fun y => (y.2 != .local || scope.names.lookup y.1 == some .local) &&
  (y.2 != .free || ((sc.names.lookup y.1 == some .cell || sc.names.lookup y.1 == some .free) && scope.names.all (fun z => !(z.1 == y.1 && z.2 == .cell)) && scope.names.lookup y.1 == some .free))
theorem blkScope_of {X : Cx} {scope : Scope} (h : blkCheck X.env.scope scope = true) : BlkScope X scope := by
  unfold blkCheck at h
  simp only [Bool.and_eq_true, List.all_eq_true, Bool.or_eq_true, bne_iff_ne, beq_iff_eq, Bool.not_eq_true', Bool.and_eq_false_iff, ne_eq] at h
  refine ⟨h.1, fun y hy hk => ?_, fun y hy hk => ?_⟩
  · rcases (h.2 y hy).1 with z | z
    · exact absurd hk z
    · exact z
  · rcases (h.2 y hy).2 with z | ⟨⟨z1, z2⟩, z3⟩
    · exact absurd hk z
    · refine ⟨z1, fun m => ?_, z3⟩
      rcases z2 _ m with w | w
      · simp at w
      · simp at w
noncomputable def capCheck (N N' : List Str) (scope : Scope) (no : Nat) : List Nat → Bool
  | [] => true
  | j :: r => (match N'[no]?, N[j]? with | some x, some y => x == y && scope.names.any (fun z => z.1 == x && z.2 == .free) | _, _ => false) && capCheck N N' scope (no + 1) r
theorem cap_of {N N' : List Str} {scope : Scope} : ∀ {no : Nat} {cap : List Nat}, capCheck N N' scope no cap = true → ∀ (k j : Nat), cap[k]? = some j → ∃ x, N'[no + k]? = some x ∧ N[j]? = some x ∧ (x, NameKind.free) ∈ scope.names
  | no, [], _, k, j, e => by simp at e
  | no, c :: r, h, k, j, e => by
    simp only [capCheck, Bool.and_eq_true] at h
    cases k with
    | zero =>
      simp at e
      subst e
      have h1 := h.1
      split at h1
      · next x y ex ey =>
        simp only [Bool.and_eq_true, beq_iff_eq, List.any_eq_true] at h1
        obtain ⟨rfl, z, hz, z1, z2⟩ := h1
        refine ⟨x, ex, ey, ?_⟩
        obtain ⟨a, b⟩ := z
        dsimp only at z1 z2
        subst z1 z2
        exact hz
      · cases h1
    | succ k =>
      obtain ⟨x, h1, h2, h3⟩ := cap_of h.2 k j (by simpa using e)
      exact ⟨x, by rw [show no + (k + 1) = no + 1 + k by omega]; exact h1, h2, h3⟩
end TM

namespace TM
open PySem PySem.Spec PyProof.Rows L2
inductive O where
  | val (t : T) | lst (os : List O)
mutual
noncomputable def ORep (K : PySem.W.Frag) (F H : Hp) : O → V → List Addr → Prop
  | .val t, v, A => A = [] ∧ Rep K F t v
  | .lst os, v, A => ∃ p vs B, v = .ref p ∧ A = p :: B ∧ H p = some (.lst vs) ∧ F p = none ∧ OReps K F H os vs B
noncomputable def OReps (K : PySem.W.Frag) (F H : Hp) : List O → List V → List Addr → Prop
  | [], vs, A => vs = [] ∧ A = []
  | o :: os, vs, A => ∃ v r B C, vs = v :: r ∧ A = B ++ C ∧ ORep K F H o v B ∧ OReps K F H os r C
end
mutual
noncomputable def O.tr : O → T
  | .val t => t
  | .lst os => .lst (O.trs os)
noncomputable def O.trs : List O → List T
  | [] => []
  | o :: os => o.tr :: O.trs os
end
section
variable {K : PySem.W.Frag} {F H F' H' : Hp}
mutual
theorem ORep.move (sF : Same F F') : ∀ {o : O} {v : V} {A : List Addr}, (∀ a ∈ A, H' a = H a ∧ F' a = none) → ORep K F H o v A → ORep K F' H' o v A
  | .val t, v, A, _, h => ⟨h.1, Rep.mono sF h.2⟩
  | .lst os, v, A, hA, h => by
    obtain ⟨p, vs, B, rfl, rfl, h1, h2, h3⟩ := h
    have hp := hA p List.mem_cons_self
    exact ⟨p, vs, B, rfl, rfl, hp.1.trans h1, hp.2, OReps.move sF (fun a ha => hA a (List.mem_cons_of_mem _ ha)) h3⟩
theorem OReps.move (sF : Same F F') : ∀ {os : List O} {vs : List V} {A : List Addr}, (∀ a ∈ A, H' a = H a ∧ F' a = none) → OReps K F H os vs A → OReps K F' H' os vs A
  | [], vs, A, _, h => h
  | o :: os, vs, A, hA, h => by
    obtain ⟨v, r, B, C, rfl, rfl, h1, h2⟩ := h
    exact ⟨v, r, B, C, rfl, rfl, ORep.move sF (fun a ha => hA a (List.mem_append_left _ ha)) h1, OReps.move sF (fun a ha => hA a (List.mem_append_right _ ha)) h2⟩
end
mutual
theorem ORep.at : ∀ {o : O} {v : V} {A : List Addr}, ORep K F H o v A → ∀ a ∈ A, F a = none ∧ ∃ vs, H a = some (.lst vs)
  | .val t, v, A, h, a, ha => by rw [h.1] at ha; cases ha
  | .lst os, v, A, h, a, ha => by
    obtain ⟨p, vs, B, rfl, rfl, h1, h2, h3⟩ := h
    rcases List.mem_cons.mp ha with rfl | ha
    · exact ⟨h2, vs, h1⟩
    · exact OReps.at h3 a ha
theorem OReps.at : ∀ {os : List O} {vs : List V} {A : List Addr}, OReps K F H os vs A → ∀ a ∈ A, F a = none ∧ ∃ vs, H a = some (.lst vs)
  | [], vs, A, h, a, ha => by rw [h.2] at ha; cases ha
  | o :: os, vs, A, h, a, ha => by
    obtain ⟨v, r, B, C, rfl, rfl, h1, h2⟩ := h
    rcases List.mem_append.mp ha with ha | ha
    · exact ORep.at h1 a ha
    · exact OReps.at h2 a ha
end
mutual
theorem ORep.rep (sF : Same F F') : ∀ {o : O} {v : V} {A : List Addr}, (∀ a ∈ A, F' a = H a) → ORep K F H o v A → Rep K F' o.tr v
  | .val t, v, A, _, h => Rep.mono sF h.2
  | .lst os, v, A, hA, h => by
    obtain ⟨p, vs, B, rfl, rfl, h1, h2, h3⟩ := h
    exact ⟨p, vs, rfl, (hA p List.mem_cons_self).trans h1, OReps.rep sF (fun a ha => hA a (List.mem_cons_of_mem _ ha)) h3⟩
theorem OReps.rep (sF : Same F F') : ∀ {os : List O} {vs : List V} {A : List Addr}, (∀ a ∈ A, F' a = H a) → OReps K F H os vs A → Reps K F' (O.trs os) vs
  | [], vs, A, _, h => h.1
  | o :: os, vs, A, hA, h => by
    obtain ⟨v, r, B, C, rfl, rfl, h1, h2⟩ := h
    exact ⟨v, r, rfl, ORep.rep sF (fun a ha => hA a (List.mem_append_left _ ha)) h1, OReps.rep sF (fun a ha => hA a (List.mem_append_right _ ha)) h2⟩
end
theorem OReps.app : ∀ {os us : List O} {vs ws : List V} {A B : List Addr}, OReps K F H os vs A → OReps K F H us ws B → OReps K F H (os ++ us) (vs ++ ws) (A ++ B)
  | [], _, _, _, _, _, h, h' => by obtain ⟨rfl, rfl⟩ := h; exact h'
  | o :: os, _, _, _, _, _, h, h' => by
    obtain ⟨v, r, B, C, rfl, rfl, h1, h2⟩ := h
    exact ⟨v, r ++ _, B, C ++ _, rfl, by rw [List.append_assoc], h1, OReps.app h2 h'⟩
theorem OReps.one {o : O} {v : V} {A : List Addr} (h : ORep K F H o v A) : OReps K F H [o] [v] A := ⟨v, [], A, [], rfl, by simp, h, rfl, rfl⟩
theorem OReps.length : ∀ {os : List O} {vs : List V} {A : List Addr}, OReps K F H os vs A → vs.length = os.length
  | [], _, _, h => by rw [h.1]; rfl
  | o :: os, _, _, h => by
    obtain ⟨v, r, B, C, rfl, rfl, h1, h2⟩ := h
    simp [OReps.length h2]
theorem OReps.split : ∀ {os : List O} {vs : List V} {A : List Addr} {k : Nat} {o : O}, OReps K F H os vs A → os[k]? = some o →
    ∃ (ws : List V) (v : V) (xs : List V) (B C D : List Addr), vs = ws ++ v :: xs ∧ ws.length = k ∧ A = B ++ (C ++ D) ∧ OReps K F H (os.take k) ws B ∧ ORep K F H o v C ∧ OReps K F H (os.drop (k + 1)) xs D
  | [], _, _, k, o, h, e => by simp at e
  | o :: os, _, _, 0, o', h, e => by
    obtain ⟨v, r, B, C, rfl, rfl, h1, h2⟩ := h
    simp at e; subst e
    exact ⟨[], v, r, [], B, C, rfl, rfl, rfl, ⟨rfl, rfl⟩, h1, by simpa using h2⟩
  | o :: os, _, _, k + 1, o', h, e => by
    obtain ⟨v, r, B, C, rfl, rfl, h1, h2⟩ := h
    obtain ⟨ws, w, xs, B', C', D', rfl, rfl, rfl, g1, g2, g3⟩ := OReps.split (k := k) h2 (by simpa using e)
    exact ⟨v :: ws, w, xs, B ++ B', C', D', rfl, rfl, by simp [List.append_assoc], ⟨v, ws, B, B', rfl, rfl, h1, g1⟩, g2, by simpa using g3⟩
noncomputable def frzO (F H : Hp) (A : List Addr) : Hp := fun a => if a ∈ A then H a else F a
theorem frzO_in {A : List Addr} {a : Addr} (h : a ∈ A) : frzO F H A a = H a := if_pos h
theorem frzO_out {A : List Addr} {a : Addr} (h : a ∉ A) : frzO F H A a = F a := if_neg h
theorem frzO_same {A : List Addr} (h : ∀ a ∈ A, F a = none) : Same F (frzO F H A) := fun a o e => by
  rw [frzO_out (fun m => by rw [h a m] at e; cases e)]; exact e
theorem ORep.frz {o : O} {v : V} {A : List Addr} (h : ORep K F H o v A) : Rep K (frzO F H A) o.tr v := ORep.rep (frzO_same fun a ha => (h.at a ha).1) (fun a ha => frzO_in ha) h
theorem Grow.frzO {F₀ H₀ : Hp} {A : List Addr} (g : Grow F₀ H₀ F H) (h : ∀ a ∈ A, F a = none) (h0 : ∀ a ∈ A, H₀ a = none) : Grow F₀ H₀ (frzO F H A) H := by
  refine ⟨g.sF.trans (frzO_same h), g.sH, fun a o e => ?_, fun a o e => ?_⟩
  · by_cases m : a ∈ A
    · rw [frzO_in m] at e; exact e
    · rw [frzO_out m] at e; exact g.fh _ _ e
  · by_cases m : a ∈ A
    · exact .inr (h0 a m)
    · rw [frzO_out m] at e; exact g.nw _ _ e
end
section
variable {K : PySem.W.Frag} {F₀ H₀ F H F' H' : Hp} {σ : L2.St} {τ : TEnv} {A : List Addr}
noncomputable def Apart (σ : L2.St) (τ : TEnv) (A : List Addr) : Prop := ∀ (j : Nat) us p, τ[j]? = some (some (.own us)) → σ[j]? = some (some (.ref p)) → p ∉ A
theorem EnvOk.frzO (E : EnvOk K F₀ H₀ F H σ τ) (h : ∀ a ∈ A, F a = none) (h0 : ∀ a ∈ A, H₀ a = none) (ow : Apart σ τ A) : EnvOk K F₀ H₀ (TM.frzO F H A) H σ τ := by
  refine ⟨E.g.frzO h h0, E.len, fun i s e => ?_, E.dj⟩
  obtain ⟨v, h1, h2⟩ := E.sl i s e
  refine ⟨v, h1, ?_⟩
  cases s with
  | sh t => exact Rep.mono (frzO_same h) h2
  | own ts =>
    obtain ⟨p, vs, rfl, k2, k3, k4, k5⟩ := h2
    exact ⟨p, vs, rfl, k2, by rw [frzO_out (ow i ts p e h1)]; exact k3, k4, Reps.mono (frzO_same h) k5⟩
theorem EnvOk.hp (E : EnvOk K F₀ H₀ F H σ τ) (s : Same H H') : EnvOk K F₀ H₀ F H' σ τ := by
  refine ⟨⟨E.g.sF, E.g.sH.trans s, E.g.fh.trans s, E.g.nw⟩, E.len, fun i sl e => ?_, E.dj⟩
  obtain ⟨v, h1, h2⟩ := E.sl i sl e
  refine ⟨v, h1, ?_⟩
  cases sl with
  | sh t => exact h2
  | own ts =>
    obtain ⟨p, vs, rfl, k2, k3, k4, k5⟩ := h2
    exact ⟨p, vs, rfl, s _ _ k2, k3, k4, k5⟩
end
noncomputable abbrev FO' := TEnv → Option (O × TEnv)
noncomputable def tEo (K : PySem.W.Frag) (F₀ H₀ : Hp) (f : FO') : TE := fun σ H Q => ∃ F τ o τ', EnvOk K F₀ H₀ F H σ τ ∧ f τ = some (o, τ') ∧
  ∀ F' H' v A, EnvOk K F₀ H₀ F' H' σ τ' → Same F F' → ORep K F' H' o v A → A.Nodup → (∀ a ∈ A, H₀ a = none) → Apart σ τ' A → Q v H'
noncomputable def SEo (X : Cx) (e : Expr) (f : FO') : Prop := ∀ F₀ H₀, PE X e (tEo X.K F₀ H₀ f)
section
variable {X : Cx} {e : Expr} {pos : Pos}
noncomputable def fTr (f : FO') : FE := fun τ => (f τ).bind fun p => some (p.1.tr, p.2)
theorem SEo.se {f : FO'} (h : SEo X e f) : SE X e (fTr f) := fun F₀ H₀ => PE.weak (h F₀ H₀) fun σ H Q hq__ => by
  obtain ⟨F, τ, t, τ', E, e1, q⟩ := hq__
  obtain ⟨⟨o, τ1⟩, e2, e1⟩ := bind_some e1
  cases e1
  refine ⟨F, τ, o, τ1, E, e2, fun F' H' v A E' s' r nd h0 ow => ?_⟩
  have hF : ∀ a ∈ A, F' a = none := fun a ha => (r.at a ha).1
  exact q _ H' v (E'.frzO hF h0 ow) (s'.trans (frzO_same hF)) r.frz
noncomputable def fVal (f : FE) : FO' := fun τ => (f τ).bind fun p => some (.val p.1, p.2)
theorem SE.seo {f : FE} (h : SE X e f) : SEo X e (fVal f) := fun F₀ H₀ => PE.weak (h F₀ H₀) fun σ H Q hq__ => by
  obtain ⟨F, τ, t, τ', E, e1, q⟩ := hq__
  obtain ⟨⟨o, τ1⟩, e2, e1⟩ := bind_some e1
  cases e1
  exact ⟨F, τ, o, τ1, E, e2, fun F' H' v E' s' r => q F' H' v [] E' s' ⟨rfl, r⟩ List.nodup_nil (fun a ha => by cases ha) (fun j us p _ _ m => by cases m)⟩
theorem OReps.vals {K : PySem.W.Frag} {F H : Hp} : ∀ {ts : List T} {vs : List V}, Reps K F ts vs → OReps K F H (ts.map O.val) vs []
  | [], _, h => ⟨h, rfl⟩
  | t :: ts, _, h => by
    obtain ⟨v, r, rfl, h2, h3⟩ := h
    exact ⟨v, r, [], [], rfl, rfl, ⟨rfl, h2⟩, OReps.vals h3⟩
theorem ORep.new {K : PySem.W.Frag} {F H : Hp} {p : Addr} {ts : List T} {vs : List V} (s : Same F H) (n : H p = none) (r : Reps K F ts vs) : ORep K F (upd H p (.lst vs)) (.lst (ts.map O.val)) (.ref p) [p] :=
  ⟨p, vs, [], rfl, rfl, upd_same, s.free n, .vals r⟩
theorem apart_new {K : PySem.W.Frag} {F₀ H₀ F H : Hp} {σ : L2.St} {τ : TEnv} {p : Addr} (E : EnvOk K F₀ H₀ F H σ τ) (n : H p = none) : Apart σ τ [p] := fun j us q e1 e2 m => by
  rw [List.mem_singleton] at m
  subst m
  obtain ⟨v, k1, p', vs', rfl, k2, _⟩ := E.sl j _ e1
  rw [e2] at k1; cases k1
  rw [n] at k2; cases k2
noncomputable def gSlo (t : T) (l h : Option Int) : Option O := match t with
  | .lst ts => some (.lst ((cutT ts l h).map .val))
  | _ => none
noncomputable def fSlo (f : FE) (fl fh : FO) : FO' := fun τ => (f τ).bind fun p => (fl p.2).bind fun q => (fh q.2).bind fun r => (gSlo p.1 q.1 r.1).bind fun t => some (t, r.2)
theorem seo_slice {e : Expr} {lo hi : Option Expr} {f : FE} {fl fh : FO} {p2 : Pos} (he : SE X e f) (hl : SO X lo fl) (hh : SO X hi fh) : SEo X (.Subscript e (.Slice lo hi none p2) pos) (fSlo f fl fh) :=
  fun F₀ H₀ => PE.weak (pe_slice sl_list (he F₀ H₀) (hl F₀ H₀) (hh F₀ H₀)) fun σ H Q hq__ => by
    obtain ⟨F, τ, t, τ', E, e1, q⟩ := hq__
    obtain ⟨⟨x, τ1⟩, e2, e1⟩ := bind_some e1
    obtain ⟨⟨l, τ2⟩, e3, e1⟩ := bind_some e1
    obtain ⟨⟨h, τ3⟩, e4, e1⟩ := bind_some e1
    obtain ⟨y, e5, e1⟩ := bind_some e1
    cases e1
    refine ⟨F, τ, x, τ1, E, e2, fun F1 H1 v E1 s1 r1 => ⟨F1, τ1, l, τ2, E1, e3, fun F2 H2 E2 s2 => ⟨F2, τ2, h, _, E2, e4, fun F3 H3 E3 s3 => ?_⟩⟩⟩
    have r3 := Rep.mono (s2.trans s3) r1
    have sm := E3.g.fh
    dsimp only at e5
    unfold gSlo at e5
    split at e5
    · cases e5
      obtain ⟨p, xs, rfl, h1, h2⟩ := r3
      refine ⟨p, xs, rfl, SqL.of (sm _ _ h1), fun a ha => ?_⟩
      exact q F3 _ _ [a] (E3.hp (same_updN ha)) ((s1.trans s2).trans s3) (ORep.new sm ha (cut_rep h2 l h)) (by simp) (fun b hb => by rw [List.mem_singleton] at hb; subst hb; exact E3.g.sH.free ha) (apart_new E3 ha)
    · cases e5
end
end TM

namespace TM
open PySem PySem.Spec PyProof.Rows L2
noncomputable def compTo (fg : FG) (ft : FT) (fe : FO') : List T → TEnv → List O → Option (List O)
  | [], _, acc => some acc
  | t :: ts, τ, acc => (fg t τ).bind fun τ1 => (ft τ1).bind fun p => if p.1 = true then (fe p.2).bind fun q => if allSh q.2 = true ∧ acc.length < sizeLine then compTo fg ft fe ts q.2 (acc ++ [q.1]) else none
    else if allSh p.2 = true then compTo fg ft fe ts p.2 acc else none
section
variable {X : Cx}
structure CompEndO (X : Cx) (pins : List (Addr × Obj)) (σ : L2.St) (F₀ H₀ F : Hp) (τ : TEnv) (rs : List O) (D C : Addr) (s : Shared) : Prop where
  ex : ∃ (H F3 : Hp) (vs : List V) (As : List Addr), Inv X pins σ H s ∧ EnvOk X.K F₀ H₀ F3 H σ τ ∧ Same F F3 ∧ F3 D = none ∧ H D = some (.lst vs) ∧ H₀ D = none ∧ OReps X.K F3 H rs vs As ∧ As.Nodup ∧ (∀ a ∈ As, H₀ a = none ∧ a ≠ D) ∧ Apart σ τ As ∧ H C = none
  ns : ∃ m, s.heap.Ns C m
  cl : C ≠ X.env.locals
  c0 : X.s₀.heap.objs.size ≤ C
  cc : ∀ x c, X.env.cells.lookup x = some c → c ≠ C
  cp : ∀ p ∈ X.pn ++ pins, p.1 ≠ C
  ow : ∀ (j : Nat) us p, τ[j]? = some (some (.own us)) → σ[j]? = some (some (.ref p)) → p ≠ D
theorem comp_coreO {elt tg iter : Expr} {ifs : List Expr} {scope : Scope} {pos : Pos} {N' : List Str} {no : Nat} {cap : List Nat} {fi : FA} {fg : FG} {ft : FT} {fe : FO'} (hx : X.xe = fun _ _ => False) (hc : X.calm = true) (B : BlkScope X scope) (hN : N'.length = no + cap.length)
    (hcap : ∀ (k j : Nat), cap[k]? = some j → ∃ x, N'[no + k]? = some x ∧ X.N[j]? = some x ∧ (x, NameKind.free) ∈ scope.names) (hi : SI X tg iter fi)
    (hg : ∀ C cs s₀ H₀ fp pins, SG (blk X scope N' C cs s₀ H₀ fp pins) tg fg) (ht : ∀ C cs s₀ H₀ fp pins, STs (blk X scope N' C cs s₀ H₀ fp pins) ifs ft) (he : ∀ C cs s₀ H₀ fp pins, SEo (blk X scope N' C cs s₀ H₀ fp pins) elt fe)
    {F₀ H₀ F H : Hp} {pins : List (Addr × Obj)} {s : Shared} {σ : L2.St} {τ τ1 : TEnv} {ts : List T} {rs : List O} (I : Inv X pins σ H s) (E : EnvOk X.K F₀ H₀ F H σ τ) (e2 : fi τ = some (ts, τ1)) (ha : allSh (blkOf no cap (frzAll cap τ1)) = true) (e3 : compTo fg ft fe ts (blkOf no cap (frzAll cap τ1)) [] = some rs)
    {post : Value → Addr → Result → Shared → Prop} (hpost : ∀ D C s', CompEndO X pins σ F₀ H₀ F (frzAll cap τ1) rs D C s' → post (.ref D) C (.ok .next) s') :
    wpAny (model X.prog X.w) X.A (eval iter X.env) (fun x s₁ => wpAny (model X.prog X.w) X.A (pyIter x) (fun it s₂ => wpAny (model X.prog X.w) X.A (newList []) (fun acc s₃ =>
      wpAny (model X.prog X.w) X.A (newFunctionEnv scope X.env.globals (clF X.env scope.names []) [] X.env.qual none .none (some X.env)) (fun cenv s₄ =>
        codeAny (model X.prog X.w) X.A (.compStart (.ListComp elt [⟨tg, iter, ifs, 0⟩] scope pos) 0 it acc { cenv with scope := relabel scope X.env }) (post acc cenv.locals) s₄) X.xe s₃) X.xe s₂) X.xe s₁) X.xe s := by
  refine thn (hi F₀ H₀ pins s σ H (fun J H1 => ∃ F1, EnvOk X.K F₀ H₀ F1 H1 σ τ1 ∧ Same F F1 ∧ Walks X.K F1 ts J) I ⟨F, τ, ts, τ1, E, e2, fun F1 H1 J E1 s1 W => ⟨F1, E1, s1, W⟩⟩) fun v s1 h1 => thn h1 fun itv s2 h2 => ?_
  obtain ⟨it, fp, tn, J, H1, rfl, I2, Tn, st2, f2, F1, E1, sF1, W⟩ := h2
  obtain ⟨F2, E2, sF2⟩ := E1.frzAll cap
  have W2 : Walks X.K F2 ts J := ⟨fun i t F3 H3 e a b => W.go i t F3 H3 e (sF2.trans a) b, fun i t F3 H3 x H4 e a b y => W.yld i t F3 H3 x H4 e (sF2.trans a) b y, fun F3 H3 a b => W.stop F3 H3 (sF2.trans a) b⟩
  refine wpAny_newObj_type ?_
  have hz : (s2.heap.push accOb).objs.size = s2.heap.objs.size + 1 := Heap.size_push ..
  have hz2 : ((s2.heap.push accOb).push dicOb).objs.size = s2.heap.objs.size + 2 := by rw [Heap.size_push, hz]
  simp only [newFunctionEnv, Option.isSome_some, if_true]
  refine wpAny_bind (wpAny_alloc ?_)
  refine wpAny_bind (wpAny_layCells _ (fun name kind cells => by cases hkc : kind == NameKind.cell <;> simp [hkc]) _ _ _ _ ?_)
  simp only [List.forIn_nil]
  refine wpAny_bind (wpAny_pure (wpAny_pure ?_))
  have loop : codeAny (model X.prog X.w) X.A (.compLoop (.ListComp elt [⟨tg, iter, ifs, 0⟩] scope pos) 0 (.ref it) (.ref s2.heap.objs.size) (blkEnv X scope (s2.heap.objs.size + 1) (cellsFrom (s2.heap.objs.size + 2) scope.names (clF X.env scope.names []))))
      (post (.ref s2.heap.objs.size) (s2.heap.objs.size + 1)) { s2 with heap := h0 s2.heap scope } := by
    have Ib := blk_start (N' := N') (σ' := blkOf no cap σ) (tk := s2.toks) I2 B f2 (fun b hb => by obtain ⟨o, e, _⟩ := Tn.obj 0 _ st2 b hb; exact ⟨o, e⟩) (by simp [blkOf, hN]) (fun i x v a1 a2 => by
      obtain ⟨k, j, rfl, hk, hj⟩ := blkOf_get a2
      obtain ⟨x', b1, b2, b3⟩ := hcap k j hk
      rw [a1] at b1; cases b1
      exact .inl ⟨b3, j, b2, hj⟩)
    generalize hX' : blk X scope N' (s2.heap.objs.size + 1) (cellsFrom (s2.heap.objs.size + 2) scope.names (clF X.env scope.names [])) s2 H1 fp pins = X' at Ib
    have hg' : SG X' tg fg := by rw [← hX']; exact hg _ _ _ _ _ _
    have ht' : STs X' ifs ft := by rw [← hX']; exact ht _ _ _ _ _ _
    have he' : SEo X' elt fe := by rw [← hX']; exact he _ _ _ _ _ _
    have xP : X'.prog = X.prog := by rw [← hX']; rfl
    have xw : X'.w = X.w := by rw [← hX']; rfl
    have xK : X'.K = X.K := by rw [← hX']; rfl
    have xA : X'.A = X.A := by rw [← hX']; rfl
    have xc : X'.calm = true := by rw [← hX']; exact hc
    have xx : X'.xe = fun _ _ => False := by rw [← hX']; rfl
    have xe' : X'.env = blkEnv X scope (s2.heap.objs.size + 1) (cellsFrom (s2.heap.objs.size + 2) scope.names (clF X.env scope.names [])) := by rw [← hX']; rfl
    have xex : X'.ex = fp := by rw [← hX']; rfl
    have xfs : X'.fs = frs X.stack := by rw [← hX']; rfl
    have xpn : X'.pn = X.pn ++ pins := by rw [← hX']; rfl
    have xs0 : X'.s₀ = s2 := by rw [← hX']; rfl
    have xH0 : X'.H₀ = H1 := by rw [← hX']; rfl
    have xl : X'.env.locals = s2.heap.objs.size + 1 := by rw [← hX']; rfl
    rw [← xe', ← xP, ← xw, ← xA]
    have hD1 : H1 s2.heap.objs.size = none := I2.fresh
    have fpk : ∀ {Hc : Hp} {σc : L2.St} {pc : List (Addr × Obj)} {sc : Shared}, Inv X' pc σc Hc sc → (∀ b ∈ fp, Hc b = none) → ∀ b ∈ fp, FpOk X' [] Hc b := fun {Hc σc pc sc} Ic hn b hb => by
      have q1 := Ic.ok.exf b (by rw [xex]; exact hb)
      have q2 := Ic.ok.exfs b (by rw [xex]; exact hb)
      refine ⟨hn b hb, q1.1, q2, .inl (by rw [xex]; exact hb), q1.2, fun p hp => ?_⟩
      rw [xpn, List.append_nil] at hp
      exact (f2 b hb).2.2.2.2.2 p hp
    refine comp_loop (fun n s3 => ∃ i σ3 H3 F3 τ3 us vs As, Inv X' [] σ3 H3 s3 ∧ tn i s3.heap ∧ (∀ b ∈ fp, H3 b = none) ∧ EnvOk X.K F3 H3 F3 H3 σ3 τ3 ∧ allSh τ3 = true ∧ F3 s2.heap.objs.size = none ∧ H3 s2.heap.objs.size = some (.lst vs) ∧ (OReps X.K F3 H3 us vs As ∧ As.Nodup ∧ ∀ a ∈ As, H1 a = none ∧ a ≠ s2.heap.objs.size) ∧ Same F2 F3 ∧ Same H1 H3 ∧
      (∀ a o, F3 a = some o → F2 a = some o ∨ H1 a = none) ∧ i ≤ ts.length ∧ n = ts.length - i ∧ compTo fg ft fe (ts.drop i) τ3 us = some rs) ?_ ts.length ?_
    · rintro n s3 ⟨i, σ3, H3, F3, τ3, us, vs, As, I3, st3, fr3, E3, ha3, fD, hD, ⟨rv, nd, fr⟩, sF, sH, nw, hi', rfl, ec⟩
      by_cases hlt : i < ts.length
      · have hgi : ts[i]? = some ts[i] := List.getElem?_eq_getElem hlt
        rw [List.drop_eq_getElem_cons hlt] at ec
        obtain ⟨τ4, e4, ec⟩ := bind_some ec
        obtain ⟨⟨b, τ5⟩, e5, ec⟩ := bind_some ec
        have go := W2.go i _ F3 H3 hgi sF E3.g.fh
        have itm := (xP ▸ xw ▸ xK ▸ Tn : Turn X'.prog X'.w X'.K tg J fp it tn).item X' rfl rfl rfl xc i [] s3 σ3 H3 (fun _ _ => False) I3 (fpk I3 fr3) st3 go
        refine thn itm fun r s4 ⟨u, hr, h4⟩ => ?_
        subst hr
        refine thn h4 fun _ s5 ⟨x, H5, I5, r5, y5, st5, fr5⟩ => ?_
        have I5' := I5.pinned (fpk I5 fr5) (Tn.obj _ _ st5)
        obtain ⟨F5, gr, rx⟩ := W2.yld i _ F3 H3 x H5 hgi sF E3.g.fh y5
        have a1 := hg' F3 H3 _ s5 σ3 H5 x u (fun σ6 H6 => ∃ F6, EnvOk X.K F3 H3 F6 H6 σ6 τ4 ∧ Same F5 F6) I5' r5 (by rw [xK]; exact ⟨F5, τ3, ts[i], τ4, E3.grow gr, rx, e4, fun F6 H6 σ6 E6 s6 => ⟨F6, E6, s6⟩⟩)
        rw [xx] at a1
        refine thn a1 fun _ s6 ⟨σ6, H6, I6, F6, E6, sF6⟩ => ?_
        have a2 := ht' F3 H3 _ s6 σ6 H6 (fun b' H7 => b' = b ∧ ∃ F7, EnvOk X.K F3 H3 F7 H7 σ6 τ5 ∧ Same F6 F7) I6 (by rw [xK]; exact ⟨F6, τ4, b, τ5, E6, e5, fun F7 H7 E7 s7 => ⟨rfl, F7, E7, s7⟩⟩)
        rw [xx] at a2
        refine thn a2 fun ok s7 ⟨H7, I7, hok, F7, E7, sF7⟩ => ?_
        subst hok
        have tail : ∀ {σc : L2.St} {Hc : Hp} {sc : Shared}, Inv X' ([] ++ pinsAt fp s5.heap) σc Hc sc → tn (i + 1) sc.heap ∧ ∀ b ∈ fp, Hc b = none := fun {σc Hc sc} Ic => by
          refine ⟨Tn.keep _ _ _ st5 fun b hb o e => (Ic.pin (b, o) (List.mem_append_right _ (List.mem_append_right _ (mem_pinsAt hb e)))).1, fun b hb => ?_⟩
          obtain ⟨o, e, d⟩ := Tn.obj _ _ st5 b hb
          exact (Ic.pin (b, o) (List.mem_append_right _ (List.mem_append_right _ (mem_pinsAt hb e)))).2.1
        have keepD : ∀ {Fc Hc : Hp} {σc : L2.St} {τc : TEnv}, EnvOk X.K F3 H3 Fc Hc σc τc → Fc s2.heap.objs.size = none := fun {Fc Hc σc τc} Ec => by
          cases eF : Fc s2.heap.objs.size with
          | none => rfl
          | some o =>
            rcases Ec.g.nw _ o eF with z | z
            · rw [fD] at z; cases z
            · rw [hD] at z; cases z
        have newF : ∀ {Fc Hc : Hp} {σc : L2.St} {τc : TEnv}, EnvOk X.K F3 H3 Fc Hc σc τc → ∀ a o, Fc a = some o → F2 a = some o ∨ H1 a = none := fun {Fc Hc σc τc} Ec a o eF => by
          rcases Ec.g.nw a o eF with z | z
          · exact nw a o z
          · exact .inr (sH.free z)
        have mv : ∀ {Fc Hc Hd : Hp} {σc : L2.St} {τc : TEnv}, EnvOk X.K F3 H3 Fc Hc σc τc → (∀ a, a ≠ s2.heap.objs.size → Hd a = Hc a) → OReps X.K Fc Hd us vs As := fun {Fc Hc Hd σc τc} Ec hd => by
          refine OReps.move Ec.g.sF (fun a ha => ?_) rv
          obtain ⟨f1, ws, f2⟩ := rv.at a ha
          refine ⟨by rw [hd a (fr a ha).2, Ec.g.sH _ _ f2, f2], ?_⟩
          cases eF : Fc a with
          | none => rfl
          | some o =>
            rcases Ec.g.nw _ o eF with z | z
            · rw [f1] at z; cases z
            · rw [f2] at z; cases z
        cases b' : ok with
        | false =>
          subst b'
          dsimp only at ec
          rw [if_neg (by decide)] at ec
          split at ec
          · next ha =>
            rw [if_neg (by decide)]
            obtain ⟨t1, t2⟩ := tail I7
            exact ⟨ts.length - (i + 1), by omega, i + 1, σ6, H7, F7, τ5, us, vs, As, I7.unpinned, t1, t2, E7.rebase ha E7.g.fh, ha, keepD E7, E7.g.sH _ _ hD, ⟨mv E7 (fun _ _ => rfl), nd, fr⟩, sF.trans E7.g.sF, sH.trans E7.g.sH, newF E7, hlt, rfl, ec⟩
          · cases ec
        | true =>
          subst b'
          dsimp only at ec
          rw [if_pos rfl] at ec
          rw [if_pos rfl]
          obtain ⟨⟨y0, τ6⟩, e6, ec⟩ := bind_some ec
          dsimp only at ec
          split at ec
          · next ha =>
            have a3 := he' F3 H3 _ s7 σ6 H7 (fun y H8 => ∃ F8 Ay, EnvOk X.K F3 H3 F8 H8 σ6 τ6 ∧ ORep X.K F8 H8 y0 y Ay ∧ Ay.Nodup ∧ ∀ a ∈ Ay, H3 a = none) I7 (by rw [xK]; exact ⟨F7, τ5, y0, τ6, E7, e6, fun F8 H8 y Ay E8 s8 r8 n8 h8 _ => ⟨F8, Ay, E8, r8, n8, h8⟩⟩)
            rw [xx] at a3
            refine thn a3 fun yv s8 ⟨y, H8, I8, ry, F8, Ay, E8, rp, ndy, hy8⟩ => ?_
            have dD : H8 s2.heap.objs.size = some (.lst vs) := E8.g.sH _ _ hD
            have a4 := mt_append (X := X') _ s8 σ6 H8 (.ref s2.heap.objs.size) [y] (.ref s2.heap.objs.size) [yv] (fun _ H9 => H9 = upd H8 s2.heap.objs.size (.lst (vs ++ [y]))) I8 rfl (.cons ry .nil) ⟨s2.heap.objs.size, vs, y, rfl, rfl, dD, by rw [rv.length]; exact ha.2, rfl⟩
            rw [xx] at a4
            refine thn a4 fun _ s9 ⟨_, H9, I9, _, e9⟩ => ?_
            subst e9
            obtain ⟨t1, t2⟩ := tail I9
            have kD := keepD E8
            have sm : Same F8 (upd H8 s2.heap.objs.size (.lst (vs ++ [y]))) := fun c o z => by rw [upd_ne (fun w => by subst w; rw [kD] at z; cases z)]; exact E8.g.fh _ _ z
            have sm1 : Same H1 (upd H8 s2.heap.objs.size (.lst (vs ++ [y]))) := fun c o z => by rw [upd_ne (fun w => by subst w; rw [hD1] at z; cases z)]; exact E8.g.sH _ _ (sH _ _ z)
            have yD : ∀ a ∈ Ay, a ≠ s2.heap.objs.size := fun a ha z => by have := hy8 a ha; rw [z, hD] at this; cases this
            have rp9 : ORep X.K F8 (upd H8 s2.heap.objs.size (.lst (vs ++ [y]))) y0 y Ay := ORep.move (Same.refl _) (fun a ha => ⟨upd_ne (yD a ha), (rp.at a ha).1⟩) rp
            have all9 : OReps X.K F8 (upd H8 s2.heap.objs.size (.lst (vs ++ [y]))) (us ++ [y0]) (vs ++ [y]) (As ++ Ay) := (mv E8 (fun a ha => upd_ne ha)).app (.one rp9)
            have nd9 : (As ++ Ay).Nodup := List.nodup_append.mpr ⟨nd, ndy, fun a ha b hb z => by subst z; obtain ⟨_, ws, f2⟩ := rv.at a ha; rw [hy8 a hb] at f2; cases f2⟩
            have fr9 : ∀ a ∈ As ++ Ay, H1 a = none ∧ a ≠ s2.heap.objs.size := fun a ha => by
              rcases List.mem_append.mp ha with ha | ha
              · exact fr a ha
              · exact ⟨sH.free (hy8 a ha), yD a ha⟩
            exact ⟨ts.length - (i + 1), by omega, i + 1, σ6, _, F8, τ6, us ++ [y0], vs ++ [y], As ++ Ay, I9.unpinned, t1, t2, E8.rebase ha.1 sm, ha.1, kD, upd_same, ⟨all9, nd9, fr9⟩, sF.trans E8.g.sF, sm1, newF E8, hlt, rfl, ec⟩
          · cases ec
      · have hie : i = ts.length := by omega
        subst hie
        rw [List.drop_length] at ec
        cases ec
        have dn := (xP ▸ xw ▸ xK ▸ Tn : Turn X'.prog X'.w X'.K tg J fp it tn).done X' rfl rfl rfl xc ts.length [] s3 σ3 H3 (fun _ _ => False) I3 (fpk I3 fr3) st3 (W2.stop F3 H3 sF E3.g.fh)
        refine thn dn fun r s4 ⟨hr, I4⟩ => ?_
        subst hr
        obtain ⟨m4, hm4, _⟩ := I4.loc
        rw [xl] at hm4
        have un := I4.base
        rw [xfs, xex, xH0, xs0] at un
        have ox := I4.os
        rw [xs0] at ox
        have hok4 := I4.hok
        rw [xP, xw] at hok4
        have IX : Inv X pins σ H3 s4 := I2.call' ox un hok4 I4.bare fun b hb => ⟨(f2 b hb).2.2.2.1, (f2 b hb).2.1, (f2 b hb).2.2.2.2.1, (f2 b hb).2.2.2.2.2⟩
        have hC : H3 (s2.heap.objs.size + 1) = none := by have := I4.free; rw [xl] at this; exact this
        have lC : @LT.lt Nat _ X.env.locals s2.heap.objs.size := I2.lt
        have gr : Grow F2 H1 F3 H3 := ⟨sF, sH, E3.g.fh, nw⟩
        have ap3 : Apart σ (frzAll cap τ1) As := fun j us p j1 j2 m => by
          obtain ⟨v, k1, p', vs', rfl, k2, _⟩ := E2.sl j _ j1
          rw [j2] at k1; cases k1
          rw [(fr _ m).1] at k2; cases k2
        refine hpost _ _ _ ⟨⟨H3, F3, vs, As, IX, E2.grow gr, (sF1.trans sF2).trans sF, fD, hD, E2.g.sH.free hD1, rv, nd, fun a ha => ⟨E2.g.sH.free (fr a ha).1, (fr a ha).2⟩, ap3, hC⟩, ⟨m4, hm4⟩, Nat.ne_of_gt (Nat.lt_succ_of_lt lC), Nat.le_trans I2.sz (Nat.le_succ _),
          fun x c hxc => by obtain ⟨v, z⟩ := I2.cell x c hxc; exact Nat.ne_of_lt (Nat.lt_succ_of_lt z.lt), fun p hp => Nat.ne_of_lt (Nat.lt_succ_of_lt (Heap.lt_size (I2.pin p hp).1)), fun j us p j1 j2 => ?_⟩
        obtain ⟨v, k1, p', vs', rfl, k2, _⟩ := E2.sl j _ j1
        rw [j2] at k1; cases k1
        exact ne_of_none k2 hD1
    · refine ⟨0, blkOf no cap σ, upd H1 s2.heap.objs.size (.lst []), F2, blkOf no cap (frzAll cap τ1), [], [], [], Ib, Tn.keep _ _ _ st2 fun b hb o e => h0_keep e, fun b hb => ?_, E2.block ha (E2.g.fh.trans (same_updN hD1)), ha, E2.g.fh.free hD1, upd_same, ⟨⟨rfl, rfl⟩, List.nodup_nil, fun a ha => by cases ha⟩, Same.refl _, same_updN hD1, fun a o z => .inl z, Nat.zero_le _, rfl, e3⟩
      obtain ⟨o, e, _⟩ := Tn.obj 0 _ st2 b hb
      rw [upd_ne (Nat.ne_of_lt (Heap.lt_size e))]
      exact (f2 b hb).1
  have fin : ∀ {C : Addr} {cs : List (Str × Addr)}, C = s2.heap.objs.size + 1 → cs = cellsFrom (s2.heap.objs.size + 2) scope.names (clF X.env scope.names []) →
      codeAny (model X.prog X.w) X.A (.compStart (.ListComp elt [⟨tg, iter, ifs, 0⟩] scope pos) 0 (.ref it) (.ref s2.heap.objs.size) (blkEnv X scope C cs)) (post (.ref s2.heap.objs.size) C) { s2 with heap := h0 s2.heap scope } := fun {C cs} h1 h2 => by
    subst h1 h2
    exact codeAny_compStart_list loop (Tn.self _ 0 _ _ _ (Tn.keep _ _ _ st2 fun b hb o e => h0_keep e) loop)
  exact fin hz (by rw [← hz2])

noncomputable def fCompO (no : Nat) (cap : List Nat) (fi : FA) (fg : FG) (ft : FT) (fe : FO') : FO' := fun τ => (fi τ).bind fun p =>
  if allSh (blkOf no cap (frzAll cap p.2)) = true then (compTo fg ft fe p.1 (blkOf no cap (frzAll cap p.2)) []).bind fun us => some (.lst us, frzAll cap p.2) else none
theorem CompEndO.fin {pins : List (Addr × Obj)} {σ : L2.St} {F₀ H₀ F : Hp} {τ : TEnv} {rs : List O} {D C : Addr} {s : Shared} (Z : CompEndO X pins σ F₀ H₀ F τ rs D C s) :
    ∃ (H F3 : Hp) (As : List Addr), Inv X pins σ H s ∧ EnvOk X.K F₀ H₀ F3 H σ τ ∧ Same F F3 ∧ ORep X.K F3 H (.lst rs) (.ref D) As ∧ As.Nodup ∧ (∀ a ∈ As, H₀ a = none) ∧ Apart σ τ As ∧ H C = none := by
  obtain ⟨H, F3, vs, As, IX, E3, sF, fD, hD, h0D, rv, nd, h0, ap, hC⟩ := Z.ex
  refine ⟨H, F3, D :: As, IX, E3, sF, ⟨D, vs, As, rfl, rfl, hD, fD, rv⟩, List.nodup_cons.mpr ⟨fun m => (h0 D m).2 rfl, nd⟩, fun a ha => ?_, fun j us p e1 e2 m => ?_, hC⟩
  · rcases List.mem_cons.mp ha with rfl | ha
    · exact h0D
    · exact (h0 a ha).1
  · rcases List.mem_cons.mp m with rfl | m
    · exact Z.ow j us _ e1 e2 rfl
    · exact ap j us p e1 e2 m
theorem seo_comp {elt tg iter : Expr} {ifs : List Expr} {scope : Scope} {pos : Pos} {N' : List Str} {no : Nat} {cap : List Nat} {fi : FA} {fg : FG} {ft : FT} {fe : FO'} (hx : X.xe = fun _ _ => False) (hc : X.calm = true) (B : BlkScope X scope) (hN : N'.length = no + cap.length)
    (hcap : ∀ (k j : Nat), cap[k]? = some j → ∃ x, N'[no + k]? = some x ∧ X.N[j]? = some x ∧ (x, NameKind.free) ∈ scope.names) (hi : SI X tg iter fi)
    (hg : ∀ C cs s₀ H₀ fp pins, SG (blk X scope N' C cs s₀ H₀ fp pins) tg fg) (ht : ∀ C cs s₀ H₀ fp pins, STs (blk X scope N' C cs s₀ H₀ fp pins) ifs ft) (he : ∀ C cs s₀ H₀ fp pins, SEo (blk X scope N' C cs s₀ H₀ fp pins) elt fe)
    (hs : ∀ x, foldedSetIterable iter X.env x = pure x := by intro _; rfl) : SEo X (.ListComp elt [⟨tg, iter, ifs, 0⟩] scope pos) (fCompO no cap fi fg ft fe) := by
  intro F₀ H₀ pins s σ H Q I ⟨F, τ, t, τ', E, e1, q⟩
  obtain ⟨⟨ts, τ1⟩, e2, e1⟩ := bind_some e1
  dsimp only at e1
  split at e1
  · next ha =>
    obtain ⟨rs, e3, e1⟩ := bind_some e1
    cases e1
    have hfree : ∀ y ∈ scope.names, y.2 = .free → ∃ c, X.env.cells.lookup y.1 = some c := fun y hy hk => I.ok.has y.1 (B.free y hy hk).1
    rw [eval_ListComp]
    refine wpAny_comprehension_free (use := none) rfl hs (closure_eq hfree) B.kind B.names (comp_coreO hx hc B hN hcap hi hg ht he I E e2 ha e3 fun D C s' Z => ?_)
    obtain ⟨H3, F3, As, IX, E3, sF, ro, nd, h0, ap, hC⟩ := Z.fin
    obtain ⟨m, hm⟩ := Z.ns
    refine ⟨m, hm, fun h' sb => ⟨.ref D, H3, IX.turned (t' := s'.toks) (it := C) (fun b o hb e => (sb.2 b hb).trans e) hC Z.cl (.inr Z.c0) Z.cc Z.cp, rfl, ?_⟩⟩
    exact q F3 H3 (.ref D) As E3 sF ro nd h0 ap
  · cases e1
noncomputable def tSetO (K : PySem.W.Frag) (F₀ H₀ : Hp) (i : Nat) (f : FO') : TS := fun D σ H => ∃ F τ o τ', EnvOk K F₀ H₀ F H σ τ ∧ f τ = some (o, τ') ∧
  ∀ F' H' v A, EnvOk K F₀ H₀ F' H' σ τ' → Same F F' → ORep K F' H' o v A → A.Nodup → (∀ a ∈ A, H₀ a = none) → Apart σ τ' A → D.nx (σ.set i (some v)) H'
theorem pso_setComp (i : Nat) {y : Str} {py spos : Pos} {elt tg iter : Expr} {ifs : List Expr} {scope : Scope} {pos : Pos} {N' : List Str} {no : Nat} {cap : List Nat} {fi : FA} {fg : FG} {ft : FT} {fe : FO'} (hNd : X.N.Nodup) (hiy : X.N[i]? = some y) (hy : X.env.scope.names.lookup y = some .local)
    (hx : X.xe = fun _ _ => False) (hc : X.calm = true) (B : BlkScope X scope) (hN : N'.length = no + cap.length)
    (hcap : ∀ (k j : Nat), cap[k]? = some j → ∃ x, N'[no + k]? = some x ∧ X.N[j]? = some x ∧ (x, NameKind.free) ∈ scope.names) (hi : SI X tg iter fi)
    (hg : ∀ C cs s₀ H₀ fp pins, SG (blk X scope N' C cs s₀ H₀ fp pins) tg fg) (ht : ∀ C cs s₀ H₀ fp pins, STs (blk X scope N' C cs s₀ H₀ fp pins) ifs ft) (he : ∀ C cs s₀ H₀ fp pins, SEo (blk X scope N' C cs s₀ H₀ fp pins) elt fe)
    (hsw : swapsWith (.ListComp elt [⟨tg, iter, ifs, 0⟩] scope pos) (some (.Name y py)) spos.line X.env = pure true := by rfl) (hs : ∀ x, foldedSetIterable iter X.env x = pure x := by intro _; rfl) (F₀ H₀ : Hp) :
    PS X (.Assign [.Name y py] (.ListComp elt [⟨tg, iter, ifs, 0⟩] scope pos) spos) (tSetO X.K F₀ H₀ i (fCompO no cap fi fg ft fe)) := by
  intro pins s σ H Dn I ⟨F, τ, r, τ', E, e1, q⟩
  obtain ⟨⟨ts, τ1⟩, e2, e1⟩ := bind_some e1
  dsimp only at e1
  split at e1
  · next ha =>
    obtain ⟨rs, e3, e1⟩ := bind_some e1
    cases e1
    have hfree : ∀ y ∈ scope.names, y.2 = .free → ∃ c, X.env.cells.lookup y.1 = some c := fun y hy hk => I.ok.has y.1 (B.free y hy hk).1
    rw [exec_Assign_Name_used _ _ _ _ hsw]
    refine wpAny_bind (wpAny_standAt (wpAny_bind (?_ : wpAny _ X.A (do let _ ← comprehension (.ListComp elt [⟨tg, iter, ifs, 0⟩] scope pos) scope X.env _ (newList []) false (eval iter X.env) (some (assign (.Name y py) X.env))) _ _ s)))
    refine wpAny_bind (thn (wpAny_comprehension_free (use := some (assign (.Name y py) X.env)) (Q := fun _ s' => SP X pins Dn .next s') rfl hs (closure_eq hfree) B.kind B.names (comp_coreO hx hc B hN hcap hi hg ht he I E e2 ha e3 fun D C s' Z => ?_)) fun _ s' hq => wpAny_pure (wpAny_pure hq))
    obtain ⟨H3, F3, As, IX, E3, sF, ro, nd, h0, ap, hC⟩ := Z.fin
    obtain ⟨m, hm⟩ := Z.ns
    refine (wpAny_assign_Name (store_ok2 IX hNd hiy (.inl hy) (v := .ref D) rfl (fun s'' I'' w => ?_) (.inr hy)) : wpAny _ X.A (assign (.Name y py) X.env (.ref D)) _ _ _)
    obtain ⟨a, sb, hab⟩ := w
    have aC : C ≠ a := fun z => by
      subst z
      rcases hab with z | z
      · exact Z.cl z
      · exact Z.cc _ _ z rfl
    refine ⟨m, hm.sameBut sb aC, fun h' sb' => ⟨_, H3, I''.turned (t' := s''.toks) (it := C) (fun b o hb e => (sb'.2 b hb).trans e) hC Z.cl (.inr Z.c0) Z.cc Z.cp, ?_⟩⟩
    exact q F3 H3 _ As E3 sF ro nd h0 ap
  · cases e1
end
end TM

namespace TM
open PySem PySem.Spec PyProof.Rows L2
noncomputable def delA (H : Hp) (A : List Addr) : Hp := fun a => if a ∈ A then none else H a
theorem delA_in {H : Hp} {A : List Addr} {a : Addr} (h : a ∈ A) : delA H A a = none := if_pos h
theorem delA_out {H : Hp} {A : List Addr} {a : Addr} (h : a ∉ A) : delA H A a = H a := if_neg h
theorem delA_same {H : Hp} {A : List Addr} : Same (delA H A) H := fun a o e => by
  by_cases m : a ∈ A
  · rw [delA_in m] at e; cases e
  · rw [delA_out m] at e; exact e
noncomputable def spC (K : PySem.W.Frag) (n : Nat) (d : O → List T → Option T) : Sp := fun vs H Q _ => vs.length = n ∧ ∃ F o v ws ts A t, Same F H ∧ vs = v :: ws ∧ ORep K F H o v A ∧ A.Nodup ∧ Reps K F ts ws ∧ d o ts = some t ∧
  ∀ F' H' v', Grow F (delA H A) F' H' → Rep K F' t v' → Q v' H'
structure DefC (P : Program) (w : World) (K : PySem.W.Frag) (mg : Str → Option Value) (base : Heap) (k : Nat) (x : Str) (n : Nat) (d : O → List T → Option T) : Prop where
  ex : ∃ f fd ps, FnOk P w K mg base CX0 k f fd ps (spC K n d) ∧ Binds K fd ps [] ∧ PySem.W.keepIn K (.ref f) = true ∧ mg x = some (.ref f) ∧ ps.length = n
theorem DefC.imp {P : Program} {w : World} {K : PySem.W.Frag} {mg : Str → Option Value} {base : Heap} {k n : Nat} {x : Str} {d d' : O → List T → Option T} (D : DefC P w K mg base k x n d) (h : ∀ o ts t, d' o ts = some t → d o ts = some t) : DefC P w K mg base k x n d' := by
  obtain ⟨f, fd, ps, F, r⟩ := D.ex
  exact ⟨f, fd, ps, F.imp fun vs H Q E ⟨l, F, o, v, ws, ts, A, t, a, b, c, nd, r, e, q⟩ => ⟨l, F, o, v, ws, ts, A, t, a, b, c, nd, r, h _ _ _ e, q⟩, r⟩
theorem DefC.mono {P : Program} {w : World} {K : PySem.W.Frag} {mg : Str → Option Value} {base : Heap} {j k n : Nat} {x : Str} {d : O → List T → Option T} (D : DefC P w K mg base j x n d) (h : j ≤ k) : DefC P w K mg base k x n d := by
  obtain ⟨f, fd, ps, F, r⟩ := D.ex
  exact ⟨f, fd, ps, F.mono h, r⟩
section
variable {K : PySem.W.Frag} {F₀ H₀ F₁ H₁ F H F' H' : Hp} {σ : L2.St} {τ : TEnv}
theorem EnvOk.back (E : EnvOk K F₁ H₁ F H σ τ) (ha : allSh τ = true) (g : Grow F₀ H₀ F₁ H₁) : EnvOk K F₀ H₀ F H σ τ := by
  refine ⟨g.trans E.g, E.len, fun i sl e => ?_, fun i j ts us p _ e1 => absurd e1 (allSh_get ha)⟩
  obtain ⟨v, h1, h2⟩ := E.sl i sl e
  cases sl with
  | sh t => exact ⟨v, h1, h2⟩
  | own ts => exact absurd e (allSh_get ha)
theorem EnvOk.to (E : EnvOk K F₁ H₁ F H σ τ) (ha : allSh τ = true) (sF : Same F F') (g : Grow F₀ H₀ F' H') : EnvOk K F₀ H₀ F' H' σ τ := by
  refine ⟨g, E.len, fun i sl e => ?_, fun i j ts us p _ e1 => absurd e1 (allSh_get ha)⟩
  obtain ⟨v, h1, h2⟩ := E.sl i sl e
  cases sl with
  | sh t => exact ⟨v, h1, Rep.mono sF h2⟩
  | own ts => exact absurd e (allSh_get ha)
theorem ORep.over {o : O} {v : V} {A : List Addr} (g : Grow F H F' H') (h : ORep K F H o v A) : ORep K F' H' o v A := by
  refine ORep.move g.sF (fun a ha => ?_) h
  obtain ⟨f1, ws, f2⟩ := h.at a ha
  refine ⟨by rw [g.sH _ _ f2, f2], ?_⟩
  cases eF : F' a with
  | none => rfl
  | some o =>
    rcases g.nw _ o eF with z | z
    · rw [f1] at z; cases z
    · rw [f2] at z; cases z
end
section
variable {X : Cx} {e : Expr} {f : FE} {ft : FT} {es : List Expr} {g : FA}
theorem SE.any (h : SE X e f) : PE X e (fun σ H Q => ∃ F₀ H₀, tE X.K F₀ H₀ f σ H Q) := fun pins s σ H Q I ⟨F₀, H₀, q⟩ => h F₀ H₀ pins s σ H Q I q
theorem ST.any (h : ST X e ft) : PT X e (fun σ H Q => ∃ F₀ H₀, tT X.K F₀ H₀ ft σ H Q) := fun pins s σ H Q I ⟨F₀, H₀, q⟩ => h F₀ H₀ pins s σ H Q I q
theorem SA.any (h : SA X es g) : PA X es (fun σ H Q => ∃ F₀ H₀, tA X.K F₀ H₀ g σ H Q) := fun p pins s σ H Q I ⟨F₀, H₀, q⟩ => h F₀ H₀ p pins s σ H Q I q
theorem SSs.any {ss : List Stmt} {fs : FS} (h : SSs X ss fs) : PSs X ss (fun D σ H => ∃ F₀ H₀, tS X.K F₀ H₀ fs D σ H) := fun pins s σ H D I ⟨F₀, H₀, q⟩ => h F₀ H₀ pins s σ H D I q
noncomputable def PSo (X : Cx) (S : Stmt) (i : Nat) (fo : FO') : Prop := ∀ F₀ H₀, PS X S (tSetO X.K F₀ H₀ i fo)
theorem sso_setComp {i : Nat} {y : Str} {py spos : Pos} {elt tg iter : Expr} {ifs : List Expr} {scope : Scope} {pos : Pos} {N' : List Str} {no : Nat} {cap : List Nat} {fi : FA} {fg : FG} {ft : FT} {fe : FO'} (hNd : X.N.Nodup) (hiy : X.N[i]? = some y) (hy : X.env.scope.names.lookup y = some .local)
    (hx : X.xe = fun _ _ => False) (hc : X.calm = true) (B : BlkScope X scope) (hN : N'.length = no + cap.length)
    (hcap : ∀ (k j : Nat), cap[k]? = some j → ∃ x, N'[no + k]? = some x ∧ X.N[j]? = some x ∧ (x, NameKind.free) ∈ scope.names) (hi : SI X tg iter fi)
    (hg : ∀ C cs s₀ H₀ fp pins, SG (blk X scope N' C cs s₀ H₀ fp pins) tg fg) (ht : ∀ C cs s₀ H₀ fp pins, STs (blk X scope N' C cs s₀ H₀ fp pins) ifs ft) (he : ∀ C cs s₀ H₀ fp pins, SEo (blk X scope N' C cs s₀ H₀ fp pins) elt fe)
    (hsw : swapsWith (.ListComp elt [⟨tg, iter, ifs, 0⟩] scope pos) (some (.Name y py)) spos.line X.env = pure true := by rfl) (hs : ∀ x, foldedSetIterable iter X.env x = pure x := by intro _; rfl) :
    PSo X (.Assign [.Name y py] (.ListComp elt [⟨tg, iter, ifs, 0⟩] scope pos) spos) i (fCompO no cap fi fg ft fe) :=
  fun F₀ H₀ => pso_setComp i hNd hiy hy hx hc B hN hcap hi hg ht he hsw hs F₀ H₀
end
end TM

namespace TM
open PySem PySem.Spec PyProof.Rows L2
section
variable {X : Cx}
noncomputable def boolsOf : List T → Option (List Bool)
  | [] => some []
  | .bl b :: r => (boolsOf r).bind fun bs => some (b :: bs)
  | _ => none
noncomputable def dAll : List T → Option T
  | [.lst ts] => (boolsOf ts).bind fun bs => some (.bl (bs.all id))
  | _ => none
noncomputable def dTuple : List T → Option T
  | [.lst ts] => some (.tup ts)
  | [.tup ts] => some (.tup ts)
  | _ => none
theorem mt_bits : MtR X "int.bit_length" (fun x vs H Q => ∃ i, x = .int i ∧ vs = [] ∧ Q (.int (Builtin.Int.intBits i)) H) := by
  intro pins s σ H x vs v us Q I rx rv ⟨i, hx, hvs, q⟩
  subst hx; subst hvs
  obtain ⟨t, rfl⟩ := rx
  have := rv.zero
  subst this
  exact PyProof.Rows.call_int_bit_length ⟨.int _, H, I.tok _, ⟨_, rfl⟩, q⟩
noncomputable def gBits : T → Option T
  | .int i => some (.int (Builtin.Int.intBits i))
  | _ => none
theorem se_bits {e : Expr} {f : FE} {p2 p3 : Pos} (he : SE X e f) (hbase : attributeBase e "bit_length" X.env (eval e X.env) = eval e X.env := by rfl) (hline : (p2.endLine == p3.line) = true := by rfl) :
    SE X (.Call (.Attribute e "bit_length" p2) [] [] p3) (fUn gBits f) := fun F₀ H₀ =>
  PE.weak (pe_bm0 PySem.F.plainAttrs_int PySem.F.slot_int_bit_length PySem.F.type_int_bit_length mt_bits (he F₀ H₀) hbase hline) fun σ H Q hq__ => by
    obtain ⟨F, τ, t, τ', E, e1, q⟩ := hq__
    obtain ⟨⟨x, τ1⟩, e2, e1⟩ := bind_some e1
    obtain ⟨z, e4, e1⟩ := bind_some e1
    cases e1
    refine ⟨F, τ, x, _, E, e2, fun F1 H1 v1 E1 s1 r1 => ?_⟩
    dsimp only at e4
    unfold gBits at e4
    split at e4
    · cases e4; cases r1
      exact ⟨rfl, _, rfl, rfl, q F1 H1 _ E1 s1 rfl⟩
    · cases e4
theorem se_globI {x : Str} {i : Int} {t : Tok} {pos : Pos} (hg : Gl X x) (hm : X.mg x = some (.int i t)) (hd : (x == ("__debug__" : Str)) = false := by decide) : SE X (.Name x pos) (fC (.int i)) := se_const (pe_glob (v := .int i) hg hm ⟨_, rfl⟩ hd) fun _ => rfl
noncomputable def fiSeq (f : FE) : FA := fun τ => (f τ).bind fun p => match p.1 with | .lst ts => some (ts, p.2) | .scr ts => some (ts, p.2) | .tup ts => some (ts, p.2) | _ => none
theorem si_seq {tg l : Expr} {f : FE} (h : SE X l f) : SI X tg l (fiSeq f) := by
  intro F₀ H₀ pins s σ H R I ⟨F, τ, ts, τ', E, e1, q⟩
  obtain ⟨⟨x, τ1⟩, e2, e1⟩ := bind_some e1
  dsimp only at e1
  split at e1
  · exact si_list h F₀ H₀ pins s σ H R I ⟨F, τ, ts, τ', E, by unfold fiSeqL; rw [e2]; exact e1, q⟩
  · exact si_list h F₀ H₀ pins s σ H R I ⟨F, τ, ts, τ', E, by unfold fiSeqL; rw [e2]; exact e1, q⟩
  · exact si_tup h F₀ H₀ pins s σ H R I ⟨F, τ, ts, τ', E, by unfold fiSeqT; rw [e2]; exact e1, q⟩
  · cases e1
end
theorem fnok_of {P : Program} {w : World} {K : PySem.W.Frag} {mg : Str → Option Value} {base : Heap} {x qual : Str} {st : Stmt} {f : Addr} {fd : FuncData} {N ps : List Str} {k : Nat} {fb : FS} (F : Fun K x qual st f fd) (S : FnScope N ps (defScope st))
    (h : ∀ (cdv : Value) (A : Around) (outer : List Env) (s : Shared) (H : Hp) (E : XK), Room k (A.deeper (envOfC qual (defScope st) s.heap.objs.size f cdv)) → SSs (cxOf CX0 P w K mg base N qual (defScope st) f cdv A outer s H E).nox (defBody st) fb) :
    FnOk P w K mg base CX0 (k + 1) f fd ps (spT K ps.length (dOf N.length ps.length fb)) := by
  refine F.ok S (fun vs H Q E z => z.1) (fun cdv A outer s H vs Q E hr z => ?_)
  obtain ⟨hl, F1, ts, t, sm, r, e, q⟩ := z
  unfold dOf at e
  split at e
  · next hn =>
    obtain ⟨r', e1, e⟩ := bind_some e
    refine ⟨_, h cdv A outer s H E hr F1 H, F1, _, r', ?_, e1, ?_⟩
    · have := env_start (N := N) sm r
      rw [hn] at this
      exact this
    · cases r' with
      | rt u => cases e; exact fun F' H' v g r' => q F' H' v g r'
      | nx τ => cases e; exact fun F' H' σ' E' s' => q F' H' .non E'.g rfl
      | bk τ => cases e
      | ct τ => cases e
  · cases e
end TM

namespace TM
open PySem PySem.Spec PyProof.Rows L2
theorem SS.any {X : Cx} {st : Stmt} {fs : FS} (h : SS X st fs) : PS X st (fun D σ H => ∃ F₀ H₀, tS X.K F₀ H₀ fs D σ H) := fun pins s σ H D I ⟨F₀, H₀, q⟩ => h F₀ H₀ pins s σ H D I q
structure Held (K : PySem.W.Frag) (F0 H0 F H : Hp) (p : Addr) (os : List O) (A : List Addr) : Prop where
  g : Grow F0 H0 F H
  r : ORep K F H (.lst os) (.ref p) A
  nd : A.Nodup
  h0 : ∀ a ∈ A, H0 a = none
section
variable {K : PySem.W.Frag} {F0 H0 F H F1 H1 : Hp} {p : Addr} {os : List O} {A : List Addr}
theorem Held.hp (S : Held K F0 H0 F H p os A) (s : Same H H1) : Held K F0 H0 F H1 p os A :=
  ⟨⟨S.g.sF, S.g.sH.trans s, S.g.fh.trans s, S.g.nw⟩, ORep.move (Same.refl _) (fun a ha => by obtain ⟨f1, ws, f2⟩ := S.r.at a ha; exact ⟨by rw [s _ _ f2, f2], f1⟩) S.r, S.nd, S.h0⟩
theorem Held.over (S : Held K F0 H0 F H p os A) (g : Grow F H F1 H1) : Held K F0 H0 F1 H1 p os A := ⟨S.g.trans g, S.r.over g, S.nd, S.h0⟩
theorem Held.root (S : Held K F0 H0 F H p os A) : ∃ vs B, A = p :: B ∧ H p = some (.lst vs) ∧ F p = none ∧ OReps K F H os vs B := by
  obtain ⟨p', vs, B, e, rfl, h1, h2, h3⟩ := S.r
  cases e
  exact ⟨vs, B, rfl, h1, h2, h3⟩
theorem Held.fin (S : Held K F0 H0 F H p os A) : ∃ F', Grow F0 H0 F' H ∧ Rep K F' (.lst (O.trs os)) (.ref p) :=
  ⟨frzO F H A, S.g.frzO (fun a ha => (S.r.at a ha).1) S.h0, S.r.frz⟩
theorem set_mid {α : Type} (a : List α) (x y : α) (b : List α) : (a ++ x :: b).set a.length y = a ++ y :: b := by
  rw [List.set_append_right _ _ (Nat.le_refl _), Nat.sub_self, List.set_cons_zero]
theorem set_cut {os : List O} {j : Nat} {o : O} (o' : O) (e : os[j]? = some o) : os.set j o' = os.take j ++ ([o'] ++ os.drop (j + 1)) := by
  rw [List.set_eq_take_append_cons_drop, if_pos (List.getElem?_eq_some_iff.mp e).1]
  rfl
theorem Held.put (S : Held K F0 H0 F H p os A) {j : Nat} {o : O} {vs : List V} {t : T} {v : V} (e : os[j]? = some o) (hp : H p = some (.lst vs)) (r : Rep K F t v) : ∃ A', Held K F0 H0 F (upd H p (.lst (vs.set j v))) p (os.set j (.val t)) A' := by
  obtain ⟨vs', B, rfl, h1, h2, h3⟩ := S.root
  rw [hp] at h1; cases h1
  obtain ⟨ws, v0, xs, B1, C, D, rfl, rfl, rfl, g1, g2, g3⟩ := h3.split e
  have nd := List.nodup_cons.mp S.nd
  have mv : ∀ {us : List O} {zs : List V} {E : List Addr}, (∀ a ∈ E, a ∈ B1 ++ (C ++ D)) → OReps K F H us zs E → OReps K F (upd H p (.lst ((ws ++ v0 :: xs).set ws.length v))) us zs E := fun sub h => OReps.move (Same.refl _) (fun a ha => ⟨upd_ne (fun z => nd.1 (z ▸ sub a ha)), (h.at a ha).1⟩) h
  have s1 : ∀ a ∈ B1, a ∈ B1 ++ (C ++ D) := fun a ha => List.mem_append_left _ ha
  have s2 : ∀ a ∈ D, a ∈ B1 ++ (C ++ D) := fun a ha => List.mem_append_right _ (List.mem_append_right _ ha)
  have p0 : H0 p = none := S.h0 p List.mem_cons_self
  refine ⟨p :: (B1 ++ ([] ++ D)), ⟨⟨S.g.sF, fun a o' ha => ?_, fun a o' ha => ?_, S.g.nw⟩, ⟨p, _, _, rfl, rfl, upd_same, h2, ?_⟩, ?_, fun a ha => ?_⟩⟩
  · rw [upd_ne (fun z => by subst z; rw [p0] at ha; cases ha)]; exact S.g.sH _ _ ha
  · rw [upd_ne (fun z => by subst z; rw [h2] at ha; cases ha)]; exact S.g.fh _ _ ha
  · rw [set_cut (.val t) e]
    have all := (mv s1 g1).app ((OReps.one (K := K) (F := F) (H := upd H p (.lst ((ws ++ v0 :: xs).set ws.length v))) (o := .val t) ⟨rfl, r⟩).app (mv s2 g3))
    have e2 : (ws ++ v0 :: xs).set ws.length v = ws ++ ([v] ++ xs) := set_mid ws v0 v xs
    rw [← e2] at all
    exact all
  · refine List.nodup_cons.mpr ⟨fun m => nd.1 ?_, ?_⟩
    · rcases List.mem_append.mp m with m | m
      · exact s1 _ m
      · exact s2 _ m
    · rw [List.nil_append]
      obtain ⟨n1, n2, n3⟩ := List.nodup_append.mp nd.2
      obtain ⟨n4, n5, n6⟩ := List.nodup_append.mp n2
      exact List.nodup_append.mpr ⟨n1, n5, fun a ha b hb => n3 a ha b (List.mem_append_right _ hb)⟩
  · rcases List.mem_cons.mp ha with rfl | ha
    · exact p0
    · refine S.h0 a (List.mem_cons_of_mem _ ?_)
      rcases List.mem_append.mp ha with m | m
      · exact s1 _ m
      · exact s2 _ m
theorem Held.more (S : Held K F0 H0 F H p os A) {vs : List V} {t : T} {v : V} (hp : H p = some (.lst vs)) (r : Rep K F t v) : Held K F0 H0 F (upd H p (.lst (vs ++ [v]))) p (os ++ [.val t]) A := by
  obtain ⟨vs', B, rfl, h1, h2, h3⟩ := S.root
  rw [hp] at h1; cases h1
  have nd := List.nodup_cons.mp S.nd
  have p0 : H0 p = none := S.h0 p List.mem_cons_self
  refine ⟨⟨S.g.sF, fun a o' ha => ?_, fun a o' ha => ?_, S.g.nw⟩, ⟨p, _, _, rfl, rfl, upd_same, h2, ?_⟩, S.nd, S.h0⟩
  · rw [upd_ne (fun z => by subst z; rw [p0] at ha; cases ha)]; exact S.g.sH _ _ ha
  · rw [upd_ne (fun z => by subst z; rw [h2] at ha; cases ha)]; exact S.g.fh _ _ ha
  · have m1 : OReps K F (upd H p (.lst (vs ++ [v]))) os vs B := OReps.move (Same.refl _) (fun a ha => ⟨upd_ne (fun z => nd.1 (z ▸ ha)), (h3.at a ha).1⟩) h3
    have all := m1.app (OReps.one (K := K) (F := F) (H := upd H p (.lst (vs ++ [v]))) (o := .val t) ⟨rfl, r⟩)
    rw [List.append_nil] at all
    exact all
noncomputable def allVal : List O → Bool
  | [] => true
  | .val _ :: r => allVal r
  | _ :: _ => false
theorem OReps.plain : ∀ {ro : List O} {ws : List V} {C : List Addr}, allVal ro = true → OReps K F H ro ws C → C = [] ∧ Reps K F (O.trs ro) ws
  | [], ws, C, _, h => ⟨h.2, h.1⟩
  | .val t :: r, ws, C, ha, h => by
    obtain ⟨v, q, B, D, rfl, rfl, ⟨rfl, h1⟩, h2⟩ := h
    obtain ⟨rfl, h3⟩ := OReps.plain (ro := r) ha h2
    exact ⟨rfl, v, q, rfl, h1, h3⟩
  | .lst _ :: r, ws, C, ha, h => by cases ha
theorem Held.row (S : Held K F0 H0 F H p os A) {j : Nat} {ro : List O} (e : os[j]? = some (.lst ro)) (ha : allVal ro = true) : ∃ vs q ws, H p = some (.lst vs) ∧ vs[j]? = some (.ref q) ∧ H q = some (.lst ws) ∧ Reps K F (O.trs ro) ws ∧ vs.length = os.length := by
  obtain ⟨vs, B, rfl, h1, h2, h3⟩ := S.root
  have hl := h3.length
  obtain ⟨ws, v0, xs, B1, C, D, rfl, rfl, rfl, g1, ⟨q, zs, C', rfl, rfl, k1, k2, k3⟩, g3⟩ := h3.split e
  obtain ⟨rfl, k4⟩ := k3.plain ha
  exact ⟨_, q, zs, h1, by rw [List.getElem?_append_right (Nat.le_refl _), Nat.sub_self, List.getElem?_cons_zero], k1, k4, hl⟩
theorem Held.turn (S : Held K F0 H0 F H p os A) {j : Nat} {ro : List O} {vs : List V} {q : Addr} {ts : List T} {ws : List V} (e : os[j]? = some (.lst ro)) (ha : allVal ro = true) (hp : H p = some (.lst vs)) (hq : vs[j]? = some (.ref q)) (r : Reps K F ts ws) :
    Held K F0 H0 F (upd H q (.lst ws)) p (os.set j (.lst (ts.map O.val))) A := by
  obtain ⟨vs', B, rfl, h1, h2, h3⟩ := S.root
  rw [hp] at h1; cases h1
  obtain ⟨us, v0, xs, B1, C, D, rfl, rfl, rfl, g1, ⟨q', zs, C', rfl, rfl, k1, k2, k3⟩, g3⟩ := h3.split e
  rw [List.getElem?_append_right (Nat.le_refl _), Nat.sub_self, List.getElem?_cons_zero] at hq
  cases hq
  obtain ⟨rfl, k4⟩ := k3.plain ha
  have nd := List.nodup_cons.mp S.nd
  obtain ⟨n1, n2, n3⟩ := List.nodup_append.mp nd.2
  obtain ⟨n4, n5, n6⟩ := List.nodup_append.mp n2
  have q0 : H0 q = none := S.h0 q (List.mem_cons_of_mem _ (List.mem_append_right _ (List.mem_append_left _ List.mem_cons_self)))
  have qp : p ≠ q := fun z => nd.1 (z ▸ (List.mem_append_right _ (List.mem_append_left _ List.mem_cons_self)))
  have mv : ∀ {us : List O} {zs : List V} {E : List Addr}, (∀ a ∈ E, a ≠ q) → OReps K F H us zs E → OReps K F (upd H q (.lst ws)) us zs E := fun sub h => OReps.move (Same.refl _) (fun a ha => ⟨upd_ne (sub a ha), (h.at a ha).1⟩) h
  have s1 : ∀ a ∈ B1, a ≠ q := fun a ha => n3 a ha q (List.mem_append_left _ List.mem_cons_self)
  have s2 : ∀ a ∈ D, a ≠ q := fun a ha z => n6 q List.mem_cons_self a ha z.symm
  refine ⟨⟨S.g.sF, fun a o' ha => ?_, fun a o' ha => ?_, S.g.nw⟩, ⟨p, _, _, rfl, rfl, (upd_ne qp).trans hp, h2, ?_⟩, S.nd, S.h0⟩
  · rw [upd_ne (fun z => by subst z; rw [q0] at ha; cases ha)]; exact S.g.sH _ _ ha
  · rw [upd_ne (fun z => by subst z; rw [k2] at ha; cases ha)]; exact S.g.fh _ _ ha
  · rw [set_cut _ e]
    exact (mv s1 g1).app ((OReps.one (K := K) (F := F) (H := upd H q (.lst ws)) (o := .lst (ts.map O.val)) ⟨q, ws, [], rfl, rfl, upd_same, k2, .vals r⟩).app (mv s2 g3))
theorem trs_vals : ∀ (ts : List T), O.trs (ts.map O.val) = ts
  | [] => rfl
  | t :: ts => by rw [List.map_cons, O.trs, trs_vals ts]; rfl
end
end TM

namespace TM
open PySem PySem.Spec PyProof.Rows L2
noncomputable def spO (K : PySem.W.Frag) (n : Nat) (d : List T → Option O) : Sp := fun vs H Q _ => vs.length = n ∧ ∃ F ts o, Same F H ∧ Reps K F ts vs ∧ d ts = some o ∧
  ∀ F' H' v A, Grow F H F' H' → ORep K F' H' o v A → A.Nodup → (∀ a ∈ A, H a = none) → Q v H'
structure DefO (P : Program) (w : World) (K : PySem.W.Frag) (mg : Str → Option Value) (base : Heap) (k : Nat) (x : Str) (n : Nat) (d : List T → Option O) : Prop where
  ex : ∃ f fd ps, FnOk P w K mg base CX0 k f fd ps (spO K n d) ∧ Binds K fd ps [] ∧ PySem.W.keepIn K (.ref f) = true ∧ mg x = some (.ref f) ∧ ps.length = n
section
variable {P : Program} {w : World} {K : PySem.W.Frag} {mg : Str → Option Value} {base : Heap} {j k n : Nat} {x : Str}
theorem DefO.imp {d d' : List T → Option O} (D : DefO P w K mg base k x n d) (h : ∀ ts o, d' ts = some o → d ts = some o) : DefO P w K mg base k x n d' := by
  obtain ⟨f, fd, ps, F, r⟩ := D.ex
  exact ⟨f, fd, ps, F.imp fun vs H Q E ⟨l, F, ts, o, a, b, c, q⟩ => ⟨l, F, ts, o, a, b, h _ _ c, q⟩, r⟩
theorem DefO.mono {d : List T → Option O} (D : DefO P w K mg base j x n d) (h : j ≤ k) : DefO P w K mg base k x n d := by
  obtain ⟨f, fd, ps, F, r⟩ := D.ex
  exact ⟨f, fd, ps, F.mono h, r⟩
theorem DefO.plain {d : List T → Option O} (D : DefO P w K mg base k x n d) : Def P w K mg base k x n (fun ts => (d ts).bind fun o => some o.tr) := by
  obtain ⟨f, fd, ps, F, r⟩ := D.ex
  refine ⟨f, fd, ps, F.imp fun vs H Q E ⟨l, F, ts, t, a, b, c, q⟩ => ?_, r⟩
  obtain ⟨o, e1, e2⟩ := bind_some c
  cases e2
  exact ⟨l, F, ts, o, a, b, e1, fun F' H' v A g ro nd h0 => q _ H' v (g.frzO (fun a ha => (ro.at a ha).1) h0) ro.frz⟩
end
section
variable {X : Cx} {e : Expr} {es : List Expr} {pos : Pos} {g : FA}
noncomputable def fCallO (d : List T → Option O) (g : FA) : FO' := fun τ => (g τ).bind fun p => (d p.1).bind fun o => some (o, p.2)
theorem apart_of {K : PySem.W.Frag} {F₀ H₀ F H : Hp} {σ : L2.St} {τ : TEnv} {A : List Addr} (E : EnvOk K F₀ H₀ F H σ τ) (n : ∀ a ∈ A, H a = none) : Apart σ τ A := fun j us q e1 e2 m => by
  obtain ⟨v, k1, p', vs', rfl, k2, _⟩ := E.sl j _ e1
  rw [e2] at k1; cases k1
  rw [n _ m] at k2; cases k2
theorem seo_call {k n : Nat} {x : Str} {p : Pos} {d : List T → Option O} (D : DefO X.prog X.w X.K X.mg X.base k x n d) (hr : Room k X.A) (hg : Gl X x) (ha : SA X (e :: es) g) (hl : ∀ τ ts τ', g τ = some (ts, τ') → ts.length = n) (hdb : (x == ("__debug__" : Str)) = false := by decide)
    (he : starEach (e :: es) X.env = (false, eval e X.env) :: starEach es X.env := by rfl) (hpl : (backTo pos (starEach es X.env)).any (·.1) = false := by rfl) : SEo X (.Call (.Name x p) (e :: es) [] pos) (fCallO d g) := by
  obtain ⟨f, fd, ps, F, hb, hk, hm, hn⟩ := D.ex
  intro F₀ H₀
  refine PE.weak (pe_call (E := E0) (CX := CX0) F hr hg hm hk hb .nil pass0 (ha F₀ H₀) hdb he hpl) fun σ H Q h => ?_
  obtain ⟨F, τ, c, τ', E, e1, q⟩ := h
  obtain ⟨⟨z, τ1⟩, e2, e1⟩ := bind_some e1
  have hz := hl _ _ _ e2
  obtain ⟨u, e4, e1⟩ := bind_some e1
  cases e1
  refine ⟨F, τ, z, _, E, e2, fun F1 H1 vs E1 s1 r1 => ⟨by rw [List.append_nil, r1.length]; exact hz, F1, z, c, E1.g.fh, by rw [List.append_nil]; exact r1, e4, fun F3 H3 v3 A g3 r3 nd h0 => ?_⟩⟩
  exact q F3 H3 v3 A (E1.grow g3) (s1.trans g3.sF) r3 nd (fun a ha => E1.g.sH.free (h0 a ha)) (apart_of E1 h0)
noncomputable abbrev FSO := TEnv → Option O
noncomputable def tSo (K : PySem.W.Frag) (F₀ H₀ : Hp) (f : FSO) : TS := fun D σ H => ∃ F τ o, EnvOk K F₀ H₀ F H σ τ ∧ f τ = some o ∧ ∀ F' H' v A, Grow F₀ H₀ F' H' → ORep K F' H' o v A → A.Nodup → (∀ a ∈ A, H₀ a = none) → D.rt v H'
noncomputable def SSo (X : Cx) (ss : List Stmt) (f : FSO) : Prop := ∀ F₀ H₀, PSs X ss (tSo X.K F₀ H₀ f)
noncomputable def fRetO (f : FO') : FSO := fun τ => (f τ).bind fun p => some p.1
noncomputable def fSeqO (t : FS) (u : FSO) : FSO := fun τ => (t τ).bind fun r => match r with | .nx τ' => u τ' | _ => none
theorem sso_cons {st : Stmt} {rest : List Stmt} {t : FS} {u : FSO} (h1 : SS X st t) (h2 : SSo X rest u) : SSo X (st :: rest) (fSeqO t u) := fun F₀ H₀ => PSs.weak (pss_cons (h1 F₀ H₀) (h2 F₀ H₀)) fun D σ H hq__ => by
  obtain ⟨F, τ, o, E, e1, q⟩ := hq__
  obtain ⟨x, e2, e1⟩ := bind_some e1
  refine ⟨F, τ, x, E, e2, ?_⟩
  cases x with
  | nx τ1 => exact fun F1 H1 σ1 E1 s1 => ⟨F1, τ1, o, E1, e1, q⟩
  | rt t => cases e1
  | bk t => cases e1
  | ct t => cases e1
end
noncomputable def dOfO (m n : Nat) (fb : FSO) : List T → Option O := fun ts => if ts.length = n then fb (ts.map (fun t => some (Sl.sh t)) ++ List.replicate (m - n) none) else none
section
variable {P : Program} {w : World} {K : PySem.W.Frag} {mg : Str → Option Value} {base : Heap}
theorem defO_of {x qual : Str} {st : Stmt} {f : Addr} {fd : FuncData} {N ps : List Str} {k : Nat} {fb : FSO} (F : Fun K x qual st f fd) (S : FnScope N ps (defScope st)) (hb : Binds K fd ps []) (hm : mg x = some (.ref f))
    (h : ∀ (cdv : Value) (A : Around) (outer : List Env) (s : Shared) (H : Hp) (E : XK), Room k (A.deeper (envOfC qual (defScope st) s.heap.objs.size f cdv)) → SSo (cxOf CX0 P w K mg base N qual (defScope st) f cdv A outer s H E).nox (defBody st) fb) :
    DefO P w K mg base (k + 1) x ps.length (dOfO N.length ps.length fb) := by
  refine ⟨f, fd, ps, F.ok S (fun vs H Q E z => z.1) (fun cdv A outer s H vs Q E hr z => ?_), hb, F.kp, hm, rfl⟩
  obtain ⟨hl, F1, ts, o, sm, r, e, q⟩ := z
  unfold dOfO at e
  split at e
  · next hn =>
    refine ⟨_, h cdv A outer s H E hr F1 H, F1, _, o, ?_, e, fun F' H' v A g ro nd h0 => q F' H' v A g ro nd h0⟩
    have := env_start (N := N) sm r
    rw [hn] at this
    exact this
  · cases e
end
section
variable {X : Cx} {e : Expr} {es : List Expr} {pos : Pos} {g : FA}
noncomputable def fCallC (fo : FO') (g : FA) (d : O → List T → Option T) : FE := fun τ => (fo τ).bind fun p => if allSh p.2 = true then (g p.2).bind fun r => if allSh r.2 = true then (d p.1 r.1).bind fun t => some (t, r.2) else none else none
noncomputable def fDropApp (fo : FO') (f : FE) : FS := fun τ => (fo τ).bind fun p => match p.1 with
  | .lst os => if allSh p.2 = true ∧ os.length < sizeLine then (f p.2).bind fun r => if allSh r.2 = true then some (.nx r.2) else none else none
  | _ => none
theorem reps_rep {K : PySem.W.Frag} {F : Hp} {ts : List T} {vs : List V} (h : Reps K F ts vs) : ∀ k : Nat, Reps K F (List.replicate k ts).flatten (List.replicate k vs).flatten
  | 0 => rfl
  | k + 1 => by
    rw [List.replicate_succ, List.replicate_succ, List.flatten_cons, List.flatten_cons]
    exact h.append (reps_rep h k)
end
end TM

namespace TM
open PySem PySem.Spec PyProof.Rows L2
section
variable {X : Cx}
end
end TM

namespace TM
open PySem PySem.Spec PyProof.Rows L2
section
variable {prog : Program} {w : World} {A : Around} {E : Value → Shared → Prop} {s : Shared}
end
section
variable {X : Cx}
end
end TM

namespace TM
open PySem PySem.Spec PyProof.Rows L2
section
variable {prog : Program} {w : World} {A : Around} {R : Result → Shared → Prop} {I : Addr} {fp wr : List Addr} {n : Nat} {P : Nat → Value → Prop} {St : Nat → Heap → Prop} {kw : List (Str × Value)}
end
section
variable {prog : Program} {w : World} {A : Around} {E : Value → Shared → Prop} {s : Shared}
end
section
variable {X : Cx}
end
end TM
namespace TM
open PySem PySem.Spec PyProof.Rows L2
section
variable {X : Cx}
end
end TM

namespace TM
open PySem PySem.Spec PyProof.Rows L2
noncomputable def Fits (K : PySem.W.Frag) (F : Hp) : L2.St → TEnv → Prop
  | [], [] => True
  | _ :: σ, none :: τ => Fits K F σ τ
  | some v :: σ, some (.sh t) :: τ => Rep K F t v ∧ Fits K F σ τ
  | _, _ => False
theorem Fits.len {K : PySem.W.Frag} {F : Hp} : ∀ {σ : L2.St} {τ : TEnv}, Fits K F σ τ → σ.length = τ.length
  | [], [], _ => rfl
  | [], _ :: _, h => by cases h
  | _ :: _, [], h => by cases h
  | _ :: σ, none :: τ, h => by have : Fits K F σ τ := h; simp [this.len]
  | some v :: σ, some (.sh t) :: τ, h => by simp [(h.2 : Fits K F σ τ).len]
  | none :: σ, some (.sh t) :: τ, h => by cases h
  | none :: σ, some (.own t) :: τ, h => by cases h
  | some v :: σ, some (.own t) :: τ, h => by cases h
theorem Fits.get {K : PySem.W.Frag} {F : Hp} : ∀ {σ : L2.St} {τ : TEnv} {i : Nat} {s : Sl}, Fits K F σ τ → τ[i]? = some (some s) → ∃ t v, s = .sh t ∧ σ[i]? = some (some v) ∧ Rep K F t v
  | [], [], i, s, _, e => by simp at e
  | [], _ :: _, _, _, h, _ => by cases h
  | _ :: _, [], _, _, h, _ => by cases h
  | _ :: σ, none :: τ, 0, s, h, e => by simp at e
  | _ :: σ, none :: τ, i + 1, s, h, e => Fits.get (σ := σ) (τ := τ) (i := i) h (by simpa using e)
  | some v :: σ, some (.sh t) :: τ, 0, s, h, e => by simp at e; exact ⟨t, v, e.symm, rfl, h.1⟩
  | some v :: σ, some (.sh t) :: τ, i + 1, s, h, e => Fits.get (σ := σ) (τ := τ) (i := i) h.2 (by simpa using e)
  | none :: σ, some (.sh t) :: τ, _, _, h, _ => by cases h
  | none :: σ, some (.own t) :: τ, _, _, h, _ => by cases h
  | some v :: σ, some (.own t) :: τ, _, _, h, _ => by cases h
noncomputable abbrev rowO (ts : List T) : O := .lst (ts.map O.val)
theorem trs_rows : ∀ tss : List (List T), O.trs (tss.map rowO) = tss.map T.lst
  | [] => rfl
  | ts :: tss => by
    rw [List.map_cons, List.map_cons, O.trs, trs_rows tss]
    show T.lst (O.trs (ts.map O.val)) :: _ = _
    rw [trs_vals]
theorem allVal_map : ∀ ts : List T, allVal (ts.map O.val) = true
  | [] => rfl
  | _ :: ts => allVal_map ts
theorem Reps_set {K : PySem.W.Frag} {F : Hp} {t : T} {v : V} (h : Rep K F t v) : ∀ {ts : List T} {vs : List V} (m : Nat), Reps K F ts vs → Reps K F (ts.set m t) (vs.set m v)
  | [], _, _, r => by cases r; rfl
  | a :: ts, _, 0, r => by obtain ⟨w, q, rfl, h1, h2⟩ := r; exact ⟨v, q, rfl, h, h2⟩
  | a :: ts, _, m + 1, r => by obtain ⟨w, q, rfl, h1, h2⟩ := r; exact ⟨w, _, rfl, h1, Reps_set h m h2⟩
theorem Reps_dropLast {K : PySem.W.Frag} {F : Hp} {ts : List T} {vs : List V} (r : Reps K F ts vs) : Reps K F ts.dropLast vs.dropLast := by
  rw [List.dropLast_eq_take, List.dropLast_eq_take, r.length]
  exact r.take _

theorem SEo.any {X : Cx} {e : Expr} {f : FO'} (h : SEo X e f) : PE X e (fun σ H Q => ∃ F₀ H₀, tEo X.K F₀ H₀ f σ H Q) := fun pins s σ H Q I ⟨F₀, H₀, q⟩ => h F₀ H₀ pins s σ H Q I q
theorem SI.any {X : Cx} {tg e : Expr} {f : FA} (h : SI X tg e f) : PI X tg e (fun σ H R => ∃ F₀ H₀, tI X.K F₀ H₀ f σ H R) := fun pins s σ H R I ⟨F₀, H₀, q⟩ => h F₀ H₀ pins s σ H R I q
noncomputable def rowsOf : List O → Option (List (List T))
  | [] => some []
  | .lst ro :: r => if allVal ro = true then (rowsOf r).bind fun tss => some (O.trs ro :: tss) else none
  | _ => none
theorem vals_trs : ∀ {ro : List O}, allVal ro = true → ro = (O.trs ro).map O.val
  | [], _ => rfl
  | .val t :: r, h => by
    have := vals_trs (ro := r) h
    rw [O.trs, List.map_cons, ← this]
    rfl
  | .lst _ :: _, h => by cases h
theorem rowsOf_inv : ∀ {os : List O} {tss : List (List T)}, rowsOf os = some tss → os = tss.map rowO
  | [], tss, h => by cases h; rfl
  | .val _ :: r, tss, h => by cases h
  | .lst ro :: r, tss, h => by
    unfold rowsOf at h
    split at h
    · next ha =>
      obtain ⟨t, e1, e2⟩ := bind_some h
      cases e2
      rw [List.map_cons, ← rowsOf_inv e1]
      show O.lst ro :: r = O.lst ((O.trs ro).map O.val) :: r
      rw [← vals_trs ha]
    · cases h
theorem rowsOf_map : ∀ tss : List (List T), rowsOf (tss.map rowO) = some tss
  | [] => rfl
  | ts :: tss => by
    show (if allVal (ts.map O.val) = true then (rowsOf (tss.map rowO)).bind fun z => some (O.trs (ts.map O.val) :: z) else none) = _
    rw [if_pos (allVal_map ts), rowsOf_map tss, trs_vals]
    rfl
theorem Held.at {K : PySem.W.Frag} {F0 H0 F H : Hp} {p : Addr} {A : List Addr} {tss : List (List T)} (S : Held K F0 H0 F H p (tss.map rowO) A) {j : Nat} {ts : List T} (e : tss[j]? = some ts) :
    ∃ vs q ws, H p = some (.lst vs) ∧ vs[j]? = some (.ref q) ∧ H q = some (.lst ws) ∧ Reps K F ts ws ∧ vs.length = tss.length := by
  obtain ⟨vs, q, ws, h1, h2, h3, h4, h5⟩ := S.row (j := j) (ro := ts.map O.val) (by rw [List.getElem?_map, e]; rfl) (allVal_map ts)
  exact ⟨vs, q, ws, h1, h2, h3, by rw [trs_vals] at h4; exact h4, by rw [h5, List.length_map]⟩
theorem Held.turnRow {K : PySem.W.Frag} {F0 H0 F H : Hp} {p : Addr} {A : List Addr} {tss : List (List T)} (S : Held K F0 H0 F H p (tss.map rowO) A) {j : Nat} {ts us : List T} {vs ws : List V} {q : Addr} (e : tss[j]? = some ts) (hp : H p = some (.lst vs)) (hq : vs[j]? = some (.ref q)) (r : Reps K F us ws) :
    Held K F0 H0 F (upd H q (.lst ws)) p ((tss.set j us).map rowO) A := by
  have := S.turn (j := j) (ro := ts.map O.val) (ts := us) (ws := ws) (by rw [List.getElem?_map, e]; rfl) (allVal_map ts) hp hq r
  rw [List.map_set]
  exact this
theorem Held.len {K : PySem.W.Frag} {F0 H0 F H : Hp} {p : Addr} {A : List Addr} {os : List O} (S : Held K F0 H0 F H p os A) : ∃ vs, H p = some (.lst vs) ∧ vs.length = os.length := by
  obtain ⟨vs, B, _, h1, _, h3⟩ := S.root
  exact ⟨vs, h1, h3.length⟩
end TM

namespace TM
open PySem PySem.Spec PyProof.Rows L2
noncomputable def kd : T → Nat
  | .non => 1 | .bl _ => 2 | .int _ => 0 | .str _ => 3 | .ty _ => 4 | .tup _ => 5 | .lst _ => 5 | .scr _ => 5 | .dic => 5 | .obj _ _ _ => 5 | .ptr _ => 5
noncomputable def dif (us ts : List T) : Bool := us.length != ts.length || (List.zip us ts).any fun p => kd p.1 != kd p.2
mutual
noncomputable def apart (us : List T) : T → Bool
  | .tup ts => aparts us ts
  | .lst ts => dif us ts && aparts us ts
  | .scr _ => false
  | .obj _ _ ts => aparts us ts
  | _ => true
noncomputable def aparts (us : List T) : List T → Bool
  | [] => true
  | t :: ts => apart us t && aparts us ts
end
noncomputable def kdV : V → Nat
  | .non => 1 | .bl _ => 2 | .int _ => 0 | .str _ => 3 | .ty _ => 4 | .ref _ => 5 | _ => 6
theorem kd_v {K : PySem.W.Frag} {F : Hp} {t : T} {v : V} (h : Rep K F t v) : kd t = kdV v := by
  cases t with
  | non => rw [show v = _ from h]; rfl
  | bl b => rw [show v = _ from h]; rfl
  | int b => rw [show v = _ from h]; rfl
  | str b => rw [show v = _ from h]; rfl
  | ty b => rw [show v = _ from h]; rfl
  | tup ts => obtain ⟨a, xs, e, _⟩ := h; rw [e]; rfl
  | lst ts => obtain ⟨a, xs, e, _⟩ := h; rw [e]; rfl
  | scr ts => obtain ⟨a, xs, e, _⟩ := h; rw [e]; rfl
  | dic => obtain ⟨a, e, _⟩ := h; rw [e]; rfl
  | obj _ _ _ => obtain ⟨a, _, _, e, _⟩ := h; rw [e]; rfl
  | ptr _ => rw [show v = _ from h]; rfl
theorem kd_rep {K : PySem.W.Frag} {F : Hp} {t u : T} {v : V} (h : Rep K F t v) (h' : Rep K F u v) : kd t = kd u := (kd_v h).trans (kd_v h').symm
theorem dif_not {K : PySem.W.Frag} {F : Hp} : ∀ {us ts : List T} {vs : List V}, Reps K F us vs → Reps K F ts vs → dif us ts = false
  | [], [], _, _, _ => rfl
  | [], t :: ts, _, h, h' => by
    obtain ⟨v, r, e, _⟩ := h'
    rw [show _ = [] from h] at e; cases e
  | u :: us, [], _, h, h' => by
    obtain ⟨v, r, e, _⟩ := h
    rw [show _ = [] from h'] at e; cases e
  | u :: us, t :: ts, _, h, h' => by
    obtain ⟨v, r, rfl, h1, h2⟩ := h
    obtain ⟨v', r', e, h3, h4⟩ := h'
    cases e
    have ih := dif_not h2 h4
    unfold dif at ih ⊢
    simp only [List.length_cons, List.zip_cons_cons, List.any_cons, kd_rep h1 h3, bne_self_eq_false, Bool.false_or] at ih ⊢
    simpa using ih
mutual
theorem Rep.drop {K : PySem.W.Frag} {F : Hp} {a : Addr} {us : List T} {vs : List V} (ha : F a = some (.lst vs)) (hu : Reps K F us vs) : ∀ {t : T} {v : V}, apart us t = true → Rep K F t v → Rep K (delA F [a]) t v
  | .non, _, _, h => h
  | .bl _, _, _, h => h
  | .int _, _, _, h => h
  | .str _, _, _, h => h
  | .ty _, _, _, h => h
  | .tup ts, _, k, h => by
    obtain ⟨b, xs, h1, h2, h3⟩ := h
    refine ⟨b, xs, h1, ?_, Reps.drop' ha hu (by simpa [apart] using k) h3⟩
    rcases h2 with (h2 | ⟨o, h2⟩) | h2
    · refine .inl (.inl ?_)
      rw [delA_out (fun m => by rw [List.mem_singleton.mp m, ha] at h2; cases h2)]; exact h2
    · refine .inl (.inr ⟨o, ?_⟩)
      rw [delA_out (fun m => by rw [List.mem_singleton.mp m, ha] at h2; cases h2)]; exact h2
    · exact .inr h2
  | .lst ts, _, k, h => by
    obtain ⟨b, xs, h1, h2, h3⟩ := h
    have k' : dif us ts = true ∧ aparts us ts = true := by simpa [apart] using k
    refine ⟨b, xs, h1, ?_, Reps.drop' ha hu k'.2 h3⟩
    rw [delA_out (fun m => by
      rw [List.mem_singleton.mp m, ha] at h2
      cases h2
      rw [dif_not hu h3] at k'
      exact absurd k'.1 (by decide))]
    exact h2
  | .scr _, _, k, _ => by simp [apart] at k
  | .dic, _, _, h => by
    obtain ⟨b, h1, h2⟩ := h
    refine ⟨b, h1, ?_⟩
    rw [delA_out (fun m => by rw [List.mem_singleton.mp m, ha] at h2; cases h2)]
    exact h2
  | .obj C ns ts, _, k, h => by
    obtain ⟨b, dx, xs, h1, h2, h3, h4⟩ := h
    refine ⟨b, dx, xs, h1, ?_, h3, Reps.drop' ha hu (by simpa [apart] using k) h4⟩
    rw [delA_out (fun m => by rw [List.mem_singleton.mp m, ha] at h2; cases h2)]
    exact h2
  | .ptr _, _, _, h => h
theorem Reps.drop' {K : PySem.W.Frag} {F : Hp} {a : Addr} {us : List T} {vs : List V} (ha : F a = some (.lst vs)) (hu : Reps K F us vs) : ∀ {ts : List T} {ws : List V}, aparts us ts = true → Reps K F ts ws → Reps K (delA F [a]) ts ws
  | [], _, _, h => h
  | t :: ts, _, k, h => by
    obtain ⟨v, r, h1, h2, h3⟩ := h
    have k' : apart us t = true ∧ aparts us ts = true := by simpa [aparts] using k
    exact ⟨v, r, h1, Rep.drop ha hu k'.1 h2, Reps.drop' ha hu k'.2 h3⟩
end
theorem Grow.lent {F H F' H' : Hp} {a : Addr} {o : HO} (hF : F a = none) (g : Grow (upd F a o) H F' H') : Grow F H (delA F' [a]) H' := by
  have sF : Same F (delA F' [a]) := fun b u e => by
    have hb : b ≠ a := fun z => by rw [z, hF] at e; cases e
    rw [delA_out (fun m => hb (List.mem_singleton.mp m))]
    exact g.sF b u (by rw [upd_ne hb]; exact e)
  refine ⟨sF, g.sH, fun b u e => ?_, fun b u e => ?_⟩
  · by_cases hb : b = a
    · rw [hb, delA_in (List.mem_singleton.mpr rfl)] at e; cases e
    · rw [delA_out (fun m => hb (List.mem_singleton.mp m))] at e
      exact g.fh b u e
  · by_cases hb : b = a
    · rw [hb, delA_in (List.mem_singleton.mpr rfl)] at e; cases e
    · rw [delA_out (fun m => hb (List.mem_singleton.mp m))] at e
      rcases g.nw b u e with z | z
      · rw [upd_ne hb] at z; exact .inl z
      · exact .inr z
section
variable {X : Cx} {e : Expr} {pos : Pos}
noncomputable def fParOwn (i j : Nat) : FS := fun τ => some (.nx ((τ.set i (some (.own []))).set j (some (.own []))))
theorem ss_parOwn {i j : Nat} {x y : Str} {px py pt pa pb : Pos} {kt k2 pt2} (hc : X.calm = true) (hN : X.N.Nodup) (hi : X.N[i]? = some x) (hj : X.N[j]? = some y) (hij : i ≠ j)
    (hx : X.env.scope.names.lookup x = some .local) (hy : X.env.scope.names.lookup y = some .local)
    (hw : swappedStores [.Tuple [.Name x px, .Name y py] kt pt] (.Tuple [.List [] pa, .List [] pb] k2 pt2) X.env = pure (some [x, y]))
    (hs : swapsWithSole [.Tuple [.Name x px, .Name y py] kt pt] (.Tuple [.List [] pa, .List [] pb] k2 pt2) pos.line X.env = pure false := by rfl) :
    SS X (.Assign [.Tuple [.Name x px, .Name y py] kt pt] (.Tuple [.List [] pa, .List [] pb] k2 pt2) pos) (fParOwn i j) := fun F₀ H₀ => PS.weak (ps_par hc hN hi hj hij hx hy (pa_cons (pe_lst pa_nil) (pa_cons (pe_lst pa_nil) pa_nil)) hw hs) fun D σ H hq__ => by
  obtain ⟨F, τ, r, E, e1, q⟩ := hq__
  cases e1
  have r0 : Reps X.K F [] [] := rfl
  exact ⟨Nat.zero_le _, fun p hp => ⟨Nat.zero_le _, fun p2 hp2 => ⟨_, _, rfl, q F _ _ ((E.setOwn hp r0).setOwn hp2 r0) (Same.refl _)⟩⟩⟩
end
end TM

namespace TM
open PySem PySem.Spec PyProof.Rows L2
noncomputable def Ite (K : PySem.W.Frag) (l : Addr) : It :=
  ⟨fun i H => ∃ xs x, SqL K H l xs ∧ xs[i]? = some x,
   fun i H v H' => ∃ p x, v = .ref p ∧ H p = none ∧ H' = upd H p (.tup [.int i, x]) ∧ ∀ xs, SqL K H l xs → xs[i]? = some x,
   fun i H => ∃ xs, SqL K H l xs ∧ xs.length ≤ i⟩
structure ETn (e it l : Addr) (i : Nat) (h : Heap) : Prop where
  he : ∃ old, IsEnum h e it (i : Int) old
  hi : h.IsListIter it l i
theorem turn_enum {P : Program} {w : World} {K : PySem.W.Frag} {elts : List Expr} {kx : Nat} {px : Pos} {e it l : Addr} (hei : e ≠ it) :
    Turn P w K (.Tuple elts kx px) (Ite K l) [e, it] e (ETn e it l) where
  mem := by simp
  obj := fun i h st b hb => by
    simp only [List.mem_cons, List.not_mem_nil, or_false] at hb
    rcases hb with rfl | rfl
    · obtain ⟨old, q⟩ := st.he
      exact ⟨_, q, fun v q => nomatch (show Data.fields _ = Data.cell v from q)⟩
    · obtain ⟨o, ho, hc, hd⟩ := st.hi
      exact ⟨o, ho, fun v q => by rw [hd] at q; cases q⟩
  keep := fun i h h' st k => by
    obtain ⟨old, q⟩ := st.he
    exact ⟨⟨old, k e (by simp) _ q⟩, st.hi.at fun o x => k it (by simp) o x⟩
  item := fun X hP hw hK hc i pins s σ H E I hf st hg => by
    subst hP hw hK
    obtain ⟨xs, x, q1, g1⟩ := hg
    obtain ⟨its, r1, p1⟩ := sqv_at (b := true) I q1
    obtain ⟨u, e1, ru⟩ := r1.get g1
    obtain ⟨old, he⟩ := st.he
    refine wpAny_pyNext_enum_item he st.hi p1 (x := u) (by simpa using e1) hei fun h' ho hit' hT hsz hk => ⟨_, rfl, ?_⟩
    refine wpAny_letOwnedTupleGo_enum (s := { s with heap := h', toks := s.toks + 1 }) ho fun h2 b1 b2 => ?_
    have le : e < s.heap.objs.size := Heap.lt_size he
    have li : it < s.heap.objs.size := by obtain ⟨_, x, _⟩ := st.hi; exact Heap.lt_size x
    have kp : ∀ b o, b ∉ [e, it] → s.heap.get? b = some o → h2.get? b = some o := fun b o hb z => by
      simp only [List.mem_cons, List.not_mem_nil, or_false, not_or] at hb
      exact (b2.2 b hb.1).trans (hk b o hb.1 hb.2 z)
    have pr : h2.get? s.heap.objs.size = some { cls := .type "tuple", data := .seq #[.int i s.toks, u] } := (b2.2 _ (Nat.ne_of_gt le)).trans hT
    have fr : H s.heap.objs.size = none := I.hok.fresh (Nat.le_refl _)
    have hokA : HOk X.prog X.w (upd H s.heap.objs.size (.tup [.int i, x])) h2 := by
      intro c o z
      by_cases hcz : c = s.heap.objs.size
      · subst hcz
        rw [upd_same] at z; cases z
        exact ⟨by show 2 ≤ sizeLine; decide, [.int i s.toks, u], .cons ⟨_, rfl⟩ (.cons ru .nil), _, pr, rfl, _, rfl⟩
      · rw [upd_ne hcz] at z
        have nf : ∀ d o', H d = some o' → d ∉ [e, it] := fun d o' ed hd => by rw [(hf d hd).1] at ed; cases ed
        have up : ∀ d o', H d = some o' → upd H s.heap.objs.size (.tup [.int i, x]) d = some o' := fun d o' ed => by rw [upd_ne (ne_of_none ed fr)]; exact ed
        refine (I.hok c o z).stay (fun d v' hd q => kp d v' ?_ q) (fun d q => up d _ q) fun d xs q => up d _ q
        rcases hd with rfl | hd
        · exact nf _ o z
        · exact nf d _ hd
    have J : Inv X pins σ (upd H s.heap.objs.size (.tup [.int i, x])) { s with heap := h2, toks := s.toks + 1 } := by
      have ne : ∀ b o, s.heap.get? b = some o → b ≠ s.heap.objs.size := fun b o e => Nat.ne_of_lt (Heap.lt_size e)
      refine I.step (g' := s.gens) (d' := s.drawn) (t' := s.toks + 1) (ch := [e, it]) (fun b hb => ?_) (fun b o _ _ hc e _ => kp b o hc e) (fun b o _ _ hc e _ => ⟨o.slots, kp b o hc e⟩) (fun b o _ e n => by rw [upd_ne (ne b o e)]; exact n)
        (fun b o hc e => ⟨o, kp b o hc e⟩) (fun b xs e => by rw [upd_ne (ne_of_none e fr)]; exact e) (fun b o u e => by rw [upd_ne (ne_of_none e fr)]; exact e) (fun b ps e => ⟨#[], by rw [upd_ne (ne_of_none e fr), e]; simp⟩) (fun m hm => ?_) hokA I.bare
      · obtain ⟨_, f1, _, f3, f4, f5⟩ := hf b hb
        exact ⟨f3, f1, f4, f5⟩
      · obtain ⟨o, es, ep, ho, r⟩ := hm
        exact ⟨o, es, ep, kp _ o (fun q => (hf _ q).2.1 rfl) ho, r⟩
    refine ⟨.ref s.heap.objs.size, _, J, rfl, ⟨_, x, rfl, fr, rfl, fun xs' h => by rw [I.list_inj h q1]; exact g1⟩, ⟨⟨u, by simpa using b1⟩, hit'.at fun o z => (b2.2 it (Ne.symm hei)).trans z⟩, fun b hb => ?_⟩
    have : b ≠ s.heap.objs.size := by
      simp only [List.mem_cons, List.not_mem_nil, or_false] at hb
      rcases hb with rfl | rfl
      · exact Nat.ne_of_lt le
      · exact Nat.ne_of_lt li
    rw [upd_ne this]
    exact (hf b hb).1
  done := fun X hP hw hK hc i pins s σ H E I hf st hg => by
    subst hP hw hK
    obtain ⟨xs, q1, g⟩ := hg
    obtain ⟨its, r1, p1⟩ := sqv_at (b := true) I q1
    obtain ⟨old, he⟩ := st.he
    have n1 := r1.length
    refine wpAny_pyNext_enum_end (I.ok.hd hc) he st.hi p1 (by simp; omega) fun h' k => ⟨rfl, turned_all I hf fun b o hb e => ?_⟩
    simp only [List.mem_cons, List.not_mem_nil, or_false, not_or] at hb
    exact k b o hb.2 e
  self := fun _ _ _ _ _ st h => by
    obtain ⟨old, he⟩ := st.he
    exact wpAny_pyIter_enum he h
noncomputable def enT (k : Nat) : List T → List T
  | [] => []
  | t :: ts => .tup [.int k, t] :: enT (k + 1) ts
theorem enT_length : ∀ (ts : List T) (k : Nat), (enT k ts).length = ts.length
  | [], _ => rfl
  | t :: ts, k => by simp [enT, enT_length ts]
theorem enT_get : ∀ (ts : List T) (k i : Nat) (t : T), (enT k ts)[i]? = some t → ∃ u, ts[i]? = some u ∧ t = .tup [.int ((k + i : Nat) : Int), u]
  | [], _, _, _, h => by simp [enT] at h
  | u :: ts, k, 0, t, h => by
    simp [enT] at h
    exact ⟨u, rfl, by simp [h]⟩
  | u :: ts, k, i + 1, t, h => by
    obtain ⟨v, e1, e2⟩ := enT_get ts (k + 1) i t (by simpa [enT] using h)
    exact ⟨v, by simpa using e1, by rw [e2]; congr 4; omega⟩
theorem walks_enum {K : PySem.W.Frag} {F : Hp} {l : Addr} {xs : List V} {ts : List T} (h1 : SqL K F l xs) (h2 : Reps K F ts xs) : Walks K F (enT 0 ts) (Ite K l) := by
  refine ⟨fun i t F1 H1 e s1 s2 => ?_, fun i t F1 H1 x H2 e s1 s2 y => ?_, fun F1 H1 s1 s2 => ⟨xs, (s1.trans s2).seq h1, by rw [enT_length, h2.length]; exact Nat.le_refl _⟩⟩
  · obtain ⟨u, e1, _⟩ := enT_get ts 0 i t e
    obtain ⟨v, g1, _⟩ := h2.get e1
    exact ⟨xs, v, (s1.trans s2).seq h1, g1⟩
  · obtain ⟨p, v, rfl, hp, rfl, q1⟩ := y
    obtain ⟨u, e1, rfl⟩ := enT_get ts 0 i t e
    obtain ⟨v', g1, k1⟩ := h2.get e1
    have m1 := q1 xs ((s1.trans s2).seq h1)
    rw [g1] at m1; cases m1
    have gr := Grow.new (.tup [.int i, v]) s2 hp
    exact ⟨_, gr, p, _, rfl, SqT.of upd_same, .int i, [v], rfl, by show V.int _ = V.int _; rw [Nat.zero_add], v, [], rfl, Rep.mono (s1.trans gr.sF) k1, rfl⟩
noncomputable def fiEnum (g : FA) : FA := fun τ => (g τ).bind fun p => match p.1 with
  | [.lst ts] => some (enT 0 ts, p.2)
  | _ => none
theorem si_enum {X : Cx} {a : Expr} {p pos : Pos} {ga : FA} {elts : List Expr} {kx : Nat} {px : Pos} (hg : Gl X "enumerate") (hm : X.mg "enumerate" = none) (ha : SA X [a] ga) (hs : starEach [a] X.env = [(false, eval a X.env)] := by rfl) :
    SI X (.Tuple elts kx px) (.Call (.Name "enumerate" p) [a] [] pos) (fiEnum ga) := by
  intro F₀ H₀ pins s σ H R I ⟨F, τ, ts, τ', E, e1, q⟩
  obtain ⟨⟨x, τ1⟩, e2, e1⟩ := bind_some e1
  dsimp only at e1
  split at e1
  · next us =>
    cases e1
    refine Call_ (ld_blt I hg hm (show bootBuiltins "enumerate" = some (.type "enumerate") from rfl) (PyProof.Rows.callWith_type1 (thn (ha F₀ H₀ pos pins s σ H (fun vs H' => ∃ l xs, vs = [.ref l] ∧ SqL X.K H' l xs ∧ R (Ite X.K l) H') I ⟨F, τ, _, _, E, e2, fun F' H' vs E' s' r' => ?_⟩) fun vs s1 ⟨ws', H1, I1, r1, q1⟩ => ?_) hs rfl))
    · obtain ⟨v1, r1, rfl, k1, rfl⟩ := r'
      obtain ⟨l, xs, rfl, h1, h2⟩ := k1
      exact ⟨l, xs, rfl, SqL.of (E'.g.fh _ _ h1), q F' H' _ E' s' (walks_enum (SqL.of h1) h2)⟩
    · obtain ⟨l, xs, rfl, h1, q1⟩ := q1
      obtain ⟨u, rfl, ru⟩ := r1.one
      cases ru
      obtain ⟨its, _, p1⟩ := sqv_at (b := true) I1 h1
      refine call_enumerate_list p1 fun h' a1 a2 a3 kp => wpAny_pyIter_enum (s := { s1 with heap := h' }) a1 ?_
      have J : Inv X pins σ H1 { s1 with heap := h' } := I1.kept (t' := s1.toks) kp
      refine ⟨_, [_, _], _, _, H1, rfl, J, turn_enum (e := s1.heap.objs.size + 1) (it := s1.heap.objs.size) (l := l) ?_, ⟨⟨_, a1⟩, a2⟩, fun b hb => ?_, q1⟩
      · refine (?_ : @Ne Nat _ _); omega
      · have hb' : s1.heap.objs.size ≤ b := by
          simp only [List.mem_cons, List.not_mem_nil, or_false] at hb
          rcases hb with rfl | rfl
          · exact Nat.le_succ _
          · exact Nat.le_refl _
        exact I1.fpOk hb' (I1.hok.fresh hb')
  · cases e1
end TM

namespace TM
open PySem PySem.Spec PyProof.Rows L2
noncomputable def hide : TEnv → TEnv
  | [] => []
  | some (.own _) :: τ => none :: hide τ
  | some (.sh t) :: τ => some (.sh t) :: hide τ
  | none :: τ => none :: hide τ
theorem hide_length : ∀ τ : TEnv, (hide τ).length = τ.length
  | [] => rfl
  | some (.own _) :: τ => by simp [hide, hide_length τ]
  | some (.sh t) :: τ => by simp [hide, hide_length τ]
  | none :: τ => by simp [hide, hide_length τ]
theorem hide_get : ∀ {τ : TEnv} {j : Nat} {s : Sl}, (hide τ)[j]? = some (some s) → τ[j]? = some (some s) ∧ ∃ t, s = .sh t
  | [], j, s, h => by simp [hide] at h
  | some (.own _) :: τ, 0, s, h => by simp [hide] at h
  | some (.sh t) :: τ, 0, s, h => by simp [hide] at h; subst h; exact ⟨rfl, t, rfl⟩
  | none :: τ, 0, s, h => by simp [hide] at h
  | some (.own _) :: τ, j + 1, s, h => by simpa using hide_get (τ := τ) (j := j) (by simpa [hide] using h)
  | some (.sh t) :: τ, j + 1, s, h => by simpa using hide_get (τ := τ) (j := j) (by simpa [hide] using h)
  | none :: τ, j + 1, s, h => by simpa using hide_get (τ := τ) (j := j) (by simpa [hide] using h)
section
variable {K : PySem.W.Frag} {F₀ H₀ F H F' H' : Hp} {σ : L2.St} {τ : TEnv}
theorem EnvOk.look {i : Nat} {us : List T} {vs : List V} {a : Addr} (E : EnvOk K F₀ H₀ F H σ τ) (hs : σ[i]? = some (some (.ref a))) (h2 : H a = some (.lst vs)) (h3 : F a = none) (h5 : Reps K F us vs) :
    EnvOk K (upd F a (.lst vs)) H (upd F a (.lst vs)) H σ ((hide τ).set i (some (.sh (.lst us)))) := by
  have sF : Same F (upd F a (.lst vs)) := same_updN h3
  have sH : Same (upd F a (.lst vs)) H := fun b o eb => by
    by_cases hb : b = a
    · rw [hb, upd_same] at eb; cases eb; rw [hb]; exact h2
    · rw [upd_ne hb] at eb; exact E.g.fh b o eb
  have rp : Rep K (upd F a (.lst vs)) (.lst us) (.ref a) := ⟨a, vs, rfl, upd_same, Reps.mono sF h5⟩
  have all : ∀ {j : Nat} {s : Sl}, ((hide τ).set i (some (.sh (.lst us))))[j]? = some (some s) → (∃ t, s = .sh t) ∧ ∃ v, σ[j]? = some (some v) ∧ SlOk K H (upd F a (.lst vs)) H s v := fun {j s} e => by
    by_cases hj : i = j
    · subst hj
      by_cases hl : i < (hide τ).length
      · rw [List.getElem?_set_self hl] at e; cases e
        exact ⟨⟨_, rfl⟩, _, hs, rp⟩
      · rw [List.getElem?_eq_none (by simp; omega)] at e; cases e
    · rw [List.getElem?_set_ne hj] at e
      obtain ⟨e1, t, rfl⟩ := hide_get e
      obtain ⟨v, k1, k2⟩ := E.sl j _ e1
      exact ⟨⟨t, rfl⟩, v, k1, Rep.mono sF k2⟩
  refine ⟨Grow.refl sH, by simp [hide_length, E.len], fun j s e => (all e).2, fun j k ts ws p _ e1 => ?_⟩
  obtain ⟨t, z⟩ := (all e1).1
  cases z
theorem EnvOk.setSh {i : Nat} {t : T} {v : V} (E : EnvOk K F₀ H₀ F H σ τ) (hs : σ[i]? = some (some v)) (r : Rep K F t v) : EnvOk K F₀ H₀ F H σ (τ.set i (some (.sh t))) := by
  have := E.set (i := i) r
  rw [show σ.set i (some v) = σ from by
    have hi : i < σ.length := (List.getElem?_eq_some_iff.mp hs).1
    apply List.ext_getElem?
    intro j
    by_cases hj : i = j
    · subst hj; rw [List.getElem?_set_self hi, hs]
    · rw [List.getElem?_set_ne hj]] at this
  exact this
theorem EnvOk.drop {i : Nat} (E : EnvOk K F₀ H₀ F H σ τ) : EnvOk K F₀ H₀ F H σ (τ.set i none) := by
  have key : ∀ {j : Nat} {s : Sl}, (τ.set i none)[j]? = some (some s) → τ[j]? = some (some s) := fun {j s} e => by
    by_cases hj : i = j
    · subst hj
      by_cases hl : i < τ.length
      · rw [List.getElem?_set_self hl] at e; cases e
      · rw [List.getElem?_eq_none (by simp; omega)] at e; cases e
    · rw [List.getElem?_set_ne hj] at e; exact e
  exact ⟨E.g, by simp [E.len], fun j s e => E.sl j s (key e), fun j k ts us p hjk e1 e2 => E.dj j k ts us p hjk (key e1) (key e2)⟩
theorem EnvOk.putOwn2 {i : Nat} {ts : List T} {vs : List V} {p : Addr} (E : EnvOk K F₀ H₀ F H σ τ) (hp : H p = some (.lst vs)) (fp : F p = none) (h0 : H₀ p = none) (ap : Apart σ τ [p]) (r : Reps K F ts vs) :
    EnvOk K F₀ H₀ F H (σ.set i (some (.ref p))) (τ.set i (some (.own ts))) := by
  refine ⟨E.g, by simp [E.len], fun j s e => ?_, fun j k ts' us q hjk e1 e2 e3 e4 => ?_⟩
  · by_cases hj : i = j
    · subst hj
      by_cases hl : i < τ.length
      · rw [List.getElem?_set_self hl] at e
        cases e
        exact ⟨.ref p, List.getElem?_set_self (by rw [E.len]; exact hl), p, vs, rfl, hp, fp, h0, r⟩
      · rw [List.getElem?_eq_none (by simp; omega)] at e; cases e
    · rw [List.getElem?_set_ne hj] at e
      rw [List.getElem?_set_ne hj]
      exact E.sl j s e
  · by_cases hj : i = j
    · subst hj
      rw [List.getElem?_set_ne hjk] at e2 e4
      by_cases hl : i < τ.length
      · rw [List.getElem?_set_self (by rw [E.len]; exact hl)] at e3
        cases e3
        exact ap k us p e2 e4 (List.mem_singleton.mpr rfl)
      · rw [List.getElem?_eq_none (by simp; omega)] at e1; cases e1
    · rw [List.getElem?_set_ne hj] at e1 e3
      by_cases hk : i = k
      · subst hk
        by_cases hl : i < τ.length
        · rw [List.getElem?_set_self (by rw [E.len]; exact hl)] at e4
          cases e4
          exact ap j ts' p e1 e3 (List.mem_singleton.mpr rfl)
        · rw [List.getElem?_eq_none (by simp; omega)] at e2; cases e2
      · rw [List.getElem?_set_ne hk] at e2 e4
        exact E.dj j k ts' us q hjk e1 e2 e3 e4
end
section
variable {X : Cx} {e : Expr} {pos : Pos}
noncomputable def fView (i : Nat) (f : FE) : FE := fun τ => match τ[i]? with
  | some (some (.own us)) => (f ((hide τ).set i (some (.sh (.lst us))))).bind fun p => some (p.1, if apart us p.1 = true then τ else τ.set i (some (.sh (.lst us))))
  | _ => f τ
theorem se_view (i : Nat) {f : FE} (h : SE X e f) : SE X e (fView i f) := fun F₀ H₀ => PE.weak h.any fun σ H Q hq__ => by
  obtain ⟨F, τ, t, τ', E, e1, q⟩ := hq__
  unfold fView at e1
  split at e1
  · next us e3 =>
    obtain ⟨⟨x, τ1⟩, e2, e1⟩ := bind_some e1
    obtain ⟨v, h1, a, vs, rfl, h2, h3, h4, h5⟩ := E.sl i _ e3
    have sF : Same F (upd F a (.lst vs)) := same_updN h3
    refine ⟨upd F a (.lst vs), H, upd F a (.lst vs), _, x, τ1, E.look h1 h2 h3 h5, e2, fun F' H' v' E' s' r' => ?_⟩
    have ha : F' a = some (.lst vs) := s' _ _ upd_same
    have hu : Reps X.K F' us vs := Reps.mono (sF.trans s') h5
    dsimp only at e1
    by_cases hap : apart us x = true
    · rw [if_pos hap] at e1
      cases e1
      have gl := Grow.lent h3 E'.g
      exact q (delA F' [a]) H' v' (E.grow gl) gl.sF (Rep.drop ha hu hap r')
    · rw [if_neg hap] at e1
      cases e1
      have gl := Grow.lent h3 E'.g
      have rp : Rep X.K F' (.lst us) (.ref a) := ⟨a, vs, rfl, ha, hu⟩
      have E1 := E.grow gl
      have E2 : EnvOk X.K F₀ H₀ F' H' σ (τ.set i (some (.sh (.lst us)))) := by
        have E3 : EnvOk X.K F₀ H₀ F' H' σ (τ.set i none) := by
          refine ⟨⟨E.g.sF.trans (sF.trans s'), E1.g.sH, E'.g.fh, fun b o eb => ?_⟩, by simp [E.len], fun j s ej => ?_, (E.drop (i := i)).dj⟩
          · by_cases hb : b = a
            · exact .inr (by rw [hb]; exact h4)
            · rcases E'.g.nw b o eb with z | z
              · rw [upd_ne hb] at z
                rcases E.g.nw b o z with y | y
                · exact .inl y
                · exact .inr y
              · exact .inr (E.g.sH.free z)
          · obtain ⟨w, k1, k2⟩ := (E1.drop (i := i)).sl j s ej
            refine ⟨w, k1, ?_⟩
            have dS : Same (delA F' [a]) F' := delA_same
            cases s with
            | sh t => exact Rep.mono dS k2
            | own ts =>
              obtain ⟨p, ws, rfl, m2, m3, m4, m5⟩ := k2
              refine ⟨p, ws, rfl, m2, ?_, m4, Reps.mono dS m5⟩
              have hj : i ≠ j := fun z => by
                subst z
                by_cases hl : i < τ.length
                · rw [List.getElem?_set_self hl] at ej; cases ej
                · rw [List.getElem?_eq_none (by simp; omega)] at ej; cases ej
              rw [List.getElem?_set_ne hj] at ej
              have hpa : p ≠ a := fun z => by subst z; exact E.dj i j us ts p hj e3 ej h1 k1
              rw [delA_out (fun m => hpa (List.mem_singleton.mp m))] at m3
              exact m3
        have := E3.setSh (i := i) h1 rp
        rwa [List.set_set] at this
      exact q F' H' v' E2 (sF.trans s') r'
  · exact ⟨F₀, H₀, F, τ, t, τ', E, e1, q⟩
noncomputable def fViewT (i : Nat) (f : FT) : FT := fun τ => match τ[i]? with
  | some (some (.own us)) => (f ((hide τ).set i (some (.sh (.lst us))))).bind fun p => some (p.1, τ)
  | _ => f τ
theorem st_view (i : Nat) {f : FT} (h : ST X e f) : ST X e (fViewT i f) := fun F₀ H₀ => PT.weak h.any fun σ H Q hq__ => by
  obtain ⟨F, τ, t, τ', E, e1, q⟩ := hq__
  unfold fViewT at e1
  split at e1
  · next us e3 =>
    obtain ⟨⟨x, τ1⟩, e2, e1⟩ := bind_some e1
    cases e1
    obtain ⟨v, h1, a, vs, rfl, h2, h3, h4, h5⟩ := E.sl i _ e3
    refine ⟨upd F a (.lst vs), H, upd F a (.lst vs), _, _, τ1, E.look h1 h2 h3 h5, e2, fun F' H' E' s' => ?_⟩
    have gl := Grow.lent h3 E'.g
    exact q (delA F' [a]) H' (E.grow gl) gl.sF
  · exact ⟨F₀, H₀, F, τ, t, τ', E, e1, q⟩
noncomputable def fIxOwn (i : Nat) (f : FE) : FE := fun τ => match τ[i]? with
  | some (some _) => (f τ).bind fun p => match p.2[i]? with
    | some (some (.own us)) => (gIx (.lst us) p.1).bind fun t => some (t, p.2)
    | some (some (.sh (.lst us))) => (gIx (.lst us) p.1).bind fun t => some (t, p.2)
    | _ => none
  | _ => none
theorem se_ixOwn (i : Nat) {x : Str} {p1 : Pos} {f : FE} (hv : PE X (.Name x p1) (tVar i)) (he : SE X e f) (hs : PlainIx e) : SE X (.Subscript (.Name x p1) e pos) (fIxOwn i f) := fun F₀ H₀ => PE.weak (pe_ix ix_list hv (he F₀ H₀) hs) fun σ H Q hq__ => by
  obtain ⟨F, τ, t, τ', E, e1, q⟩ := hq__
  unfold fIxOwn at e1
  split at e1
  · next s e3 =>
    obtain ⟨⟨x, τ1⟩, e2, e1⟩ := bind_some e1
    obtain ⟨v0, h1, _⟩ := E.sl i _ e3
    dsimp only at e1
    refine ⟨v0, h1, F, τ, x, τ1, E, e2, fun F1 H1 v E1 s1 r1 => ?_⟩
    split at e1
    · next us e4 =>
      obtain ⟨u, e5, e1⟩ := bind_some e1
      cases e1
      obtain ⟨v', k1, p, vs, rfl, k2, k3, k4, k5⟩ := E1.sl i _ e4
      rw [h1] at k1; cases k1
      unfold gIx at e5
      cases x with
      | int k =>
        cases r1
        obtain ⟨w, g1, g2⟩ := atI_rep k5 e5
        exact ⟨p, vs, k, w, rfl, rfl, SqL.of k2, g1, q F1 H1 w E1 s1 g2⟩
      | _ => cases e5
    · next us e4 =>
      obtain ⟨u, e5, e1⟩ := bind_some e1
      cases e1
      obtain ⟨v', k1, p, vs, rfl, k2, k5⟩ := E1.sl i _ e4
      rw [h1] at k1; cases k1
      unfold gIx at e5
      cases x with
      | int k =>
        cases r1
        obtain ⟨w, g1, g2⟩ := atI_rep k5 e5
        exact ⟨p, vs, k, w, rfl, rfl, SqL.of (E1.g.fh _ _ k2), g1, q F1 H1 w E1 s1 g2⟩
      | _ => cases e5
    · cases e1
  · cases e1
theorem Reps.put {K : PySem.W.Frag} {F : Hp} : ∀ {ts : List T} {vs : List V} {t : T} {v : V} (j : Nat), Reps K F ts vs → Rep K F t v → Reps K F (ts.set j t) (vs.set j v)
  | [], _, _, _, _, h, _ => by cases h; rfl
  | t :: ts, _, _, _, 0, h, r => by
    obtain ⟨v, rr, rfl, h2, h3⟩ := h
    exact ⟨_, rr, rfl, r, h3⟩
  | t :: ts, _, _, _, j + 1, h, r => by
    obtain ⟨v, rr, rfl, h2, h3⟩ := h
    exact ⟨v, _, rfl, h2, Reps.put j h3 r⟩
noncomputable def fClear (i : Nat) : FS := fun τ => match τ[i]? with
  | some (some (.own _)) => some (.nx (τ.set i (some (.own []))))
  | _ => none
theorem ss_clear (i : Nat) {x : Str} {p1 p2 p3 : Pos} (hv : PE X (.Name x p1) (tVar i))
    (hbase : attributeBase (.Name x p1) "clear" X.env (eval (.Name x p1) X.env) = eval (.Name x p1) X.env := by rfl) (hline : (p2.endLine == p3.line) = true := by rfl)
    (hsw : swapsWith (.Call (.Attribute (.Name x p1) "clear" p2) [] [] p3) none pos.line X.env = pure false := by rfl) :
    SS X (.Expr (.Call (.Attribute (.Name x p1) "clear" p2) [] [] p3) pos) (fClear i) := fun F₀ H₀ =>
  PS.weak (ps_expr (pe_bm0 PySem.F.plainAttrs_list PySem.F.slot_list_clear PySem.F.type_list_clear mt_clear hv hbase hline) hsw) fun D σ H hq__ => by
    obtain ⟨F, τ, r, E, e1, q⟩ := hq__
    unfold fClear at e1
    split at e1
    · next us e3 =>
      cases e1
      obtain ⟨v, g1, p, vs, rfl, g2, g3, g4, g5⟩ := E.sl i _ e3
      exact ⟨_, g1, .inl ⟨rfl, vs, SqL.of g2⟩, p, vs, rfl, rfl, g2, q F _ σ (E.turnOwn e3 g1 (us := []) (vs := []) rfl) (Same.refl _)⟩
    · cases e1
noncomputable def fTake (i : Nat) : FO' := fun τ => match τ[i]? with
  | some (some (.own us)) => some (.lst (us.map .val), τ.set i none)
  | _ => none
theorem seo_take (i : Nat) {x : Str} {p1 : Pos} (hv : PE X (.Name x p1) (tVar i)) : SEo X (.Name x p1) (fTake i) := fun F₀ H₀ => PE.weak hv fun σ H Q hq__ => by
  obtain ⟨F, τ, o, τ', E, e1, q⟩ := hq__
  unfold fTake at e1
  split at e1
  · next us e3 =>
    cases e1
    obtain ⟨v, g1, p, vs, rfl, g2, g3, g4, g5⟩ := E.sl i _ e3
    refine ⟨_, g1, q F H _ [p] E.drop (Same.refl _) ⟨p, vs, [], rfl, rfl, g2, g3, .vals g5⟩ (by simp) (fun b hb => by rw [List.mem_singleton] at hb; subst hb; exact g4) fun j ws p' ej sj m => ?_⟩
    rw [List.mem_singleton] at m
    subst m
    have hj : i ≠ j := fun z => by
      subst z
      by_cases hl : i < τ.length
      · rw [List.getElem?_set_self hl] at ej; cases ej
      · rw [List.getElem?_eq_none (by simp; omega)] at ej; cases ej
    rw [List.getElem?_set_ne hj] at ej
    exact E.dj i j us ws p' hj e3 ej g1 sj
  · cases e1
noncomputable def fSetO (i : Nat) (f : FO') : FS := fun τ => (f τ).bind fun p => match p.1 with
  | .lst os => some (.nx (p.2.set i (some (.own (O.trs os)))))
  | .val t => some (.nx (p.2.set i (some (.sh t))))
theorem ss_setO (i : Nat) {x : Str} {pos' : Pos} {f : FO'} (hN : X.N.Nodup) (hi : X.N[i]? = some x) (hx : Loc X.env.scope x) (he : SEo X e f) (hs : swapsWith e (some (.Name x pos')) pos.line X.env = pure false := by rfl)
    (hf : X.fn x = true ∨ X.env.scope.names.lookup x = some .local := by first | exact .inl rfl | exact .inr rfl | assumption) : SS X (.Assign [.Name x pos'] e pos) (fSetO i f) := fun F₀ H₀ => PS.weak (ps_set hN hi hx (he F₀ H₀) hs hf) fun D σ H hq__ => by
  obtain ⟨F, τ, r, E, e1, q⟩ := hq__
  obtain ⟨⟨o, τ1⟩, e2, e1⟩ := bind_some e1
  refine ⟨F, τ, o, τ1, E, e2, fun F' H' v A E' s' ro nd h0 ap => ?_⟩
  dsimp only at e1
  split at e1
  · next os =>
    cases e1
    obtain ⟨p, vs, B, rfl, rfl, h1, h2, h3⟩ := ro
    have nd' := List.nodup_cons.mp nd
    have hF : ∀ a ∈ B, F' a = none := fun a ha => (h3.at a ha).1
    have E1 := E'.frzO (A := B) hF (fun a ha => h0 a (List.mem_cons_of_mem _ ha)) (fun j us p' e1 e2 m => ap j us p' e1 e2 (List.mem_cons_of_mem _ m))
    refine q _ H' _ (E1.putOwn2 (i := i) h1 (by rw [frzO_out nd'.1]; exact h2) (h0 p List.mem_cons_self) (fun j us p' e1 e2 m => ap j us p' e1 e2 (by rw [List.mem_singleton.mp m]; exact List.mem_cons_self)) (OReps.rep (frzO_same hF) (fun a ha => frzO_in ha) h3)) (s'.trans (frzO_same hF))
  · cases e1
    exact q F' H' _ (E'.set ro.2) s'
end
section
variable {P : Program} {w : World} {K : PySem.W.Frag} {mg : Str → Option Value} {base : Heap}
end
end TM

namespace TM
open PySem PySem.Spec PyProof.Rows L2
section
variable {prog : Program} {w : World} {A : Around} {E : Value → Shared → Prop} {s : Shared}
end
section
variable {X : Cx}
end
end TM

namespace TM
open PySem PySem.Spec PyProof.Rows L2
section
variable {X : Cx}
noncomputable def fiRng2 (g : FA) : FA := fun τ => (g τ).bind fun p => match p.1 with
  | [.int i, .int j] => if (-(2 ^ 62) ≤ i ∧ i < 2 ^ 62) ∧ (-(2 ^ 62) ≤ j ∧ j < 2 ^ 62) then some (upTo i (j - i).toNat, p.2) else none
  | _ => none
theorem si_rng2 {tg a b : Expr} {p pos : Pos} {ga : FA} (hg : Gl X "range") (hm : X.mg "range" = none) (ha : SA X [a, b] ga) (hs : starEach [a, b] X.env = [(false, eval a X.env), (false, eval b X.env)] := by rfl)
    (hs2 : starEach [b] X.env = [(false, eval b X.env)] := by rfl) : SI X tg (.Call (.Name "range" p) [a, b] [] pos) (fiRng2 ga) :=
  fun F₀ H₀ => PI.weak (pi_range2 hg hm (ha F₀ H₀) hs hs2) fun σ H R hh => by
    obtain ⟨F, τ, ts, τ', E, e1, q⟩ := hh
    obtain ⟨⟨x, τ1⟩, e2, e1⟩ := bind_some e1
    dsimp only at e1
    split at e1
    · split at e1
      · next hb =>
        cases e1
        refine ⟨F, τ, _, τ', E, e2, fun F' H' vs E' s' r' => ?_⟩
        obtain ⟨v, r, rfl, q1, v2, r2, rfl, q2, rfl⟩ := r'
        cases q1; cases q2
        exact ⟨_, _, rfl, ⟨hb.1.1, hb.1.2, hb.2.1, hb.2.2⟩, q F' H' _ E' s' (walks_rng _ _)⟩
      · cases e1
    · cases e1
end
end TM

namespace TM
open PySem PySem.Spec PyProof.Rows L2
section
variable {X : Cx} {e : Expr} {es : List Expr} {pos : Pos}
end
structure MDef (P : Program) (w : World) (K : PySem.W.Frag) (mg : Str → Option Value) (base : Heap) (k : Nat) (C : Addr) (m : Str) (n : Nat) (d : List T → Option T) : Prop where
  cl : Cls K C
  ex : ∃ f fd ps, FnOk P w K mg base CX0 k f fd ps (spT K n d) ∧ Binds K fd ps [] ∧ Meth K C m f ∧ ps.length = n
section
variable {P : Program} {w : World} {K : PySem.W.Frag} {mg : Str → Option Value} {base : Heap} {j k n : Nat} {C : Addr} {m : Str}
theorem MDef.imp {d d' : List T → Option T} (D : MDef P w K mg base k C m n d) (h : ∀ ts t, d' ts = some t → d ts = some t) : MDef P w K mg base k C m n d' := by
  obtain ⟨f, fd, ps, F, r⟩ := D.ex
  exact ⟨D.cl, f, fd, ps, F.imp fun vs H Q E z => by
    obtain ⟨l, F, ts, t, a, b, c, q⟩ := z
    exact ⟨l, F, ts, t, a, b, h _ _ c, q⟩, r⟩
theorem MDef.mono {d : List T → Option T} (D : MDef P w K mg base j C m n d) (h : j ≤ k) : MDef P w K mg base k C m n d := by
  obtain ⟨f, fd, ps, F, r⟩ := D.ex
  exact ⟨D.cl, f, fd, ps, F.mono h, r⟩
end
section
variable {X : Cx} {o e : Expr} {es : List Expr} {pos apos : Pos} {g : FA} {fo : FE} {k n : Nat} {m : Str}
end
noncomputable abbrev FlR := List Str × List T
noncomputable def spI (K : PySem.W.Frag) (C : Addr) (n : Nat) (d : List T → Option FlR) : Sp := fun vs H Q _ => vs.length = n + 1 ∧ ∃ F x dx ws ts r, vs = .ref x :: ws ∧ H x = some (.ins C dx []) ∧ F x = none ∧ Same F H ∧ Reps K F ts ws ∧ d ts = some r ∧
  ∀ F' H' us, Grow F (delA H [x]) F' H' → H' x = some (.ins C dx (r.1.zip us)) → F' x = none → us.length = r.1.length → Reps K F' r.2 us → Q .non H'
structure IDef (P : Program) (w : World) (K : PySem.W.Frag) (mg : Str → Option Value) (base : Heap) (k : Nat) (x : Str) (C : Addr) (n : Nat) (d : List T → Option FlR) : Prop where
  ex : ∃ j f fd ps, k = j + 1 ∧ Mk K C f ∧ FnOk P w K mg base CX0 j f fd ps (spI K C n d) ∧ Binds K fd ps [] ∧ mg x = some (.ref C) ∧ ps.length = n + 1
theorem IDef.mono {P : Program} {w : World} {K : PySem.W.Frag} {mg : Str → Option Value} {base : Heap} {j k n : Nat} {x : Str} {C : Addr} {d : List T → Option FlR} (D : IDef P w K mg base j x C n d) (h : j ≤ k) : IDef P w K mg base k x C n d := by
  obtain ⟨i, f, fd, ps, hj, M, F, r⟩ := D.ex
  exact ⟨k - 1, f, fd, ps, by omega, M, F.mono (by omega), r⟩
theorem IDef.imp {P : Program} {w : World} {K : PySem.W.Frag} {mg : Str → Option Value} {base : Heap} {k n : Nat} {x : Str} {C : Addr} {d d' : List T → Option FlR} (D : IDef P w K mg base k x C n d) (h : ∀ ts r, d' ts = some r → d ts = some r) : IDef P w K mg base k x C n d' := by
  obtain ⟨i, f, fd, ps, hj, M, F, r⟩ := D.ex
  exact ⟨i, f, fd, ps, hj, M, F.imp fun vs H Q E z => by
    obtain ⟨l, F, x, dx, ws, ts, r, a, b, c, dd, e, g, q⟩ := z
    exact ⟨l, F, x, dx, ws, ts, r, a, b, c, dd, e, h _ _ g, q⟩, r⟩
section
variable {X : Cx} {e : Expr} {es : List Expr} {pos : Pos} {g : FA}
end
section
variable {X : Cx} {C : Addr} {e : Expr} {rest : List Stmt} {pos : Pos}
end
end TM

namespace TM
open PySem PySem.Spec PyProof.Rows L2
structure IsiOk (K : PySem.W.Frag) (Ct C : Addr) (b : Bool) : Prop where
  cl : Cls K C
  ha : PySem.W.findIn K (.ref C) "__class__" = some (some (.builtin "object.__class__"))
  hn : PySem.W.specialIn K (.builtin "object.__class__") "__get__" = some (some (.builtin "getset_descriptor.__get__"))
  htk : PySem.W.takesIn K (.builtin "object.__class__") = some true
  hm : PySem.W.mroIn K C (.type "object") = some true
  kit : PySem.W.kitOne K (.ref C) (.ref Ct) = some b
section
variable {X : Cx} {e : Expr} {pos : Pos}
structure New0 (K : PySem.W.Frag) (C : Addr) : Prop where
  makes : PySem.W.makesIn K C = true
  init : PySem.W.findIn K (.ref C) "__init__" = some (some (.builtin "object.__init__"))
  kp : PySem.W.keepIn K (.ref C) = true
end
end TM

namespace TM
open PySem PySem.Spec PyProof.Rows L2
section
variable {X : Cx} {e : Expr} {pos : Pos} {f : FE}
end
end TM

namespace TM
open PySem PySem.Spec PyProof.Rows L2
structure DOk (K : PySem.W.Frag) (F₀ H₀ F H : Hp) (σ : L2.St) (τ : TEnv) (x : Nat) (p : Addr) (tss : List (List T)) (A : List Addr) : Prop where
  E : EnvOk K F₀ H₀ F H σ τ
  hx : τ[x]? = some (some (.sh (.ptr p)))
  r : ORep K F H (.lst (tss.map rowO)) (.ref p) A
  nd : A.Nodup
  h0 : ∀ a ∈ A, H₀ a = none
  ap : Apart σ τ A
section
variable {K : PySem.W.Frag} {F₀ H₀ F H F' H' : Hp} {σ σ' : L2.St} {τ τ' : TEnv} {x : Nat} {p : Addr} {tss : List (List T)} {A : List Addr}
theorem DOk.lies (D : DOk K F₀ H₀ F H σ τ x p tss A) {a : Addr} (ha : a ∈ A) : F a = none ∧ ∃ vs, H a = some (.lst vs) := D.r.at a ha
theorem DOk.lend (D : DOk K F₀ H₀ F H σ τ x p tss A) : EnvOk K F₀ (frzO H₀ H A) F H σ τ := by
  refine ⟨⟨D.E.g.sF, fun a o e => ?_, D.E.g.fh, fun a o e => ?_⟩, D.E.len, fun i s e => ?_, D.E.dj⟩
  · by_cases m : a ∈ A
    · rw [frzO_in m] at e; exact e
    · rw [frzO_out m] at e; exact D.E.g.sH _ _ e
  · have m : a ∉ A := fun m => by rw [(D.lies m).1] at e; cases e
    rcases D.E.g.nw a o e with z | z
    · exact .inl z
    · exact .inr (by rw [frzO_out m]; exact z)
  · obtain ⟨v, h1, h2⟩ := D.E.sl i s e
    refine ⟨v, h1, ?_⟩
    cases s with
    | sh t => exact h2
    | own ts =>
      obtain ⟨q, vs, rfl, k1, k2, k3, k4⟩ := h2
      exact ⟨q, vs, rfl, k1, k2, by rw [frzO_out (D.ap i ts q e h1)]; exact k3, k4⟩
theorem DOk.back (D : DOk K F₀ H₀ F H σ τ x p tss A) (E' : EnvOk K F₀ (frzO H₀ H A) F' H' σ' τ') (s : Same F F') (hx : τ'[x]? = some (some (.sh (.ptr p)))) : DOk K F₀ H₀ F' H' σ' τ' x p tss A := by
  have out : ∀ {a : Addr}, frzO H₀ H A a = none → a ∉ A ∧ H₀ a = none := fun {a} e => by
    have m : a ∉ A := fun m => by
      obtain ⟨vs, k⟩ := (D.lies m).2
      rw [frzO_in m, k] at e; cases e
    exact ⟨m, by rw [frzO_out m] at e; exact e⟩
  refine ⟨⟨⟨E'.g.sF, fun a o e => ?_, E'.g.fh, fun a o e => ?_⟩, E'.len, fun i s e => ?_, E'.dj⟩, hx, ORep.move s (fun a ha => ?_) D.r, D.nd, D.h0, fun j us q e1 e2 => ?_⟩
  · have m : a ∉ A := fun m => by rw [D.h0 a m] at e; cases e
    exact E'.g.sH _ _ (by rw [frzO_out m]; exact e)
  · rcases E'.g.nw a o e with z | z
    · exact .inl z
    · exact .inr (out z).2
  · obtain ⟨v, h1, h2⟩ := E'.sl i s e
    refine ⟨v, h1, ?_⟩
    cases s with
    | sh t => exact h2
    | own ts =>
      obtain ⟨q, vs, rfl, k1, k2, k3, k4⟩ := h2
      exact ⟨q, vs, rfl, k1, k2, (out k3).2, k4⟩
  · obtain ⟨f1, vs, f2⟩ := D.lies ha
    refine ⟨by rw [f2]; exact E'.g.sH _ _ (by rw [frzO_in ha]; exact f2), ?_⟩
    cases eF : F' a with
    | none => rfl
    | some o =>
      rcases E'.g.nw a o eF with z | z
      · rw [D.E.g.sF _ _ z] at f1; cases f1
      · exact absurd ha (out z).1
  · obtain ⟨v, h1, q', vs, rfl, k1, k2, k3, k4⟩ := E'.sl j _ e1
    rw [e2] at h1; cases h1
    exact (out k3).1
theorem DOk.grow (D : DOk K F₀ H₀ F H σ τ x p tss A) (g : Grow F H F' H') : DOk K F₀ H₀ F' H' σ τ x p tss A := ⟨D.E.grow g, D.hx, D.r.over g, D.nd, D.h0, D.ap⟩
theorem DOk.held (D : DOk K F₀ H₀ F H σ τ x p tss A) : Held K F₀ H₀ F H p (tss.map rowO) A := ⟨D.E.g, D.r, D.nd, D.h0⟩
theorem DOk.get (D : DOk K F₀ H₀ F H σ τ x p tss A) : σ[x]? = Option.some (Option.some (.ref p)) := by
  obtain ⟨v, h1, h2⟩ := D.E.sl x _ D.hx
  have : v = .ref p := h2
  rw [h1, this]
end
noncomputable abbrev FD := Addr → List (List T) → TEnv → Option (List (List T) × TEnv)
noncomputable def isPtr (x : Nat) (p : Addr) (τ : TEnv) : Bool := match τ[x]? with
  | some (some (.sh (.ptr q))) => Nat.beq q p
  | _ => false
theorem isPtr_of {x : Nat} {p : Addr} {τ : TEnv} (h : isPtr x p τ = true) : τ[x]? = some (some (.sh (.ptr p))) := by
  unfold isPtr at h
  split at h
  · next q e => rw [e, Nat.eq_of_beq_eq_true h]
  · cases h
theorem isPtr_self {x : Nat} {p : Addr} {τ : TEnv} (h : τ[x]? = some (some (.sh (.ptr p)))) : isPtr x p τ = true := by
  unfold isPtr
  rw [h]
  exact Nat.beq_refl p
noncomputable def tD (K : PySem.W.Frag) (F₀ H₀ : Hp) (x : Nat) (f : FD) : TS := fun D σ H => ∃ F τ p tss A r, DOk K F₀ H₀ F H σ τ x p tss A ∧ f p tss τ = some r ∧ ∀ F' H' σ' A', DOk K F₀ H₀ F' H' σ' r.2 x p r.1 A' → Same F F' → D.nx σ' H'
noncomputable def SD (X : Cx) (x : Nat) (st : Stmt) (f : FD) : Prop := ∀ F₀ H₀, PS X st (tD X.K F₀ H₀ x f)
noncomputable def SDs (X : Cx) (x : Nat) (ss : List Stmt) (f : FD) : Prop := ∀ F₀ H₀, PSs X ss (tD X.K F₀ H₀ x f)
theorem SG.any {X : Cx} {tg : Expr} {g : FG} (h : SG X tg g) : PG X tg (fun v σ H Q => ∃ F₀ H₀, tG X.K F₀ H₀ g v σ H Q) := fun pins s σ H v u Q I r ⟨F₀, H₀, q⟩ => h F₀ H₀ pins s σ H v u Q I r q
section
variable {X : Cx} {e : Expr} {pos : Pos} {x : Nat}
noncomputable def dLift (x : Nat) (f : FS) : FD := fun p tss τ => (f τ).bind fun r => match r with
  | .nx τ' => if isPtr x p τ' = true then some (tss, τ') else none
  | _ => none
theorem sd_lift {st : Stmt} {f : FS} (h : SS X st f) : SD X x st (dLift x f) := fun F₀ H₀ => PS.weak h.any fun D σ H hq__ => by
  obtain ⟨F, τ, p, tss, A, r, d, e1, q⟩ := hq__
  obtain ⟨r', e2, e1⟩ := bind_some e1
  cases r' with
  | nx τ' =>
    dsimp only at e1
    split at e1
    · next hp =>
      cases e1
      exact ⟨F₀, frzO H₀ H A, F, τ, .nx τ', d.lend, e2, fun F' H' σ' E' s' => q F' H' σ' A (d.back E' s' (isPtr_of hp)) s'⟩
    · cases e1
  | rt t => cases e1
  | bk t => cases e1
  | ct t => cases e1
noncomputable def dNext : FD := fun _ tss τ => some (tss, τ)
noncomputable def dSeq (f g : FD) : FD := fun p tss τ => (f p tss τ).bind fun r => g p r.1 r.2
theorem sds_nil : SDs X x [] dNext := fun F₀ H₀ => PSs.weak pss_nil fun D σ H hq__ => by
  obtain ⟨F, τ, p, tss, A, r, d, e1, q⟩ := hq__
  cases e1
  exact q F H σ A d (Same.refl _)
theorem sds_one {st : Stmt} {f : FD} (h : SD X x st f) : SDs X x [st] f := fun F₀ H₀ => pss_one (h F₀ H₀)
theorem sds_cons {st : Stmt} {rest : List Stmt} {f g : FD} (h1 : SD X x st f) (h2 : SDs X x rest g) : SDs X x (st :: rest) (dSeq f g) := fun F₀ H₀ => PSs.weak (pss_cons (h1 F₀ H₀) (h2 F₀ H₀)) fun D σ H hq__ => by
  obtain ⟨F, τ, p, tss, A, r, d, e1, q⟩ := hq__
  obtain ⟨r1, e2, e1⟩ := bind_some e1
  exact ⟨F, τ, p, tss, A, r1, d, e2, fun F1 H1 σ1 A1 d1 s1 => ⟨F1, r1.2, p, r1.1, A1, r, d1, e1, fun F2 H2 σ2 A2 d2 s2 => q F2 H2 σ2 A2 d2 (s1.trans s2)⟩⟩
noncomputable def dIf (x : Nat) (c : FT) (f g : FD) : FD := fun p tss τ => (c τ).bind fun q => if isPtr x p q.2 = true then (if q.1 = true then f p tss q.2 else g p tss q.2) else none
theorem sd_if {c : Expr} {ss us : List Stmt} {tc : FT} {f g : FD} (hc : ST X c tc) (ha : SDs X x ss f) (hb : SDs X x us g) : SD X x (.If c ss us pos) (dIf x tc f g) := fun F₀ H₀ => PS.weak (ps_if hc.any (ha F₀ H₀) (hb F₀ H₀)) fun D σ H hq__ => by
  obtain ⟨F, τ, p, tss, A, r, d, e1, q⟩ := hq__
  obtain ⟨⟨b, τ1⟩, e2, e1⟩ := bind_some e1
  dsimp only at e1
  split at e1
  · next hp =>
    refine ⟨F₀, frzO H₀ H A, F, τ, b, τ1, d.lend, e2, fun F' H' E' s' => ?_⟩
    have d1 := d.back E' s' (isPtr_of hp)
    split at e1
    · next h => dsimp only; rw [if_pos h]; exact ⟨F', τ1, p, tss, A, r, d1, e1, fun F2 H2 σ2 A2 d2 s2 => q F2 H2 σ2 A2 d2 (s'.trans s2)⟩
    · next h => dsimp only; rw [if_neg h]; exact ⟨F', τ1, p, tss, A, r, d1, e1, fun F2 H2 σ2 A2 d2 s2 => q F2 H2 σ2 A2 d2 (s'.trans s2)⟩
  · cases e1
noncomputable def loopD (x : Nat) (fg : FG) (fb : FD) : List T → FD
  | [], _, tss, τ => some (tss, τ)
  | t :: ts, p, tss, τ => (fg t τ).bind fun τ1 => if isPtr x p τ1 = true then (fb p tss τ1).bind fun r => loopD x fg fb ts p r.1 r.2 else none
noncomputable def dFor (x : Nat) (fi : FA) (fg : FG) (fb : FD) : FD := fun p tss τ => (fi τ).bind fun q => if isPtr x p q.2 = true then loopD x fg fb q.1 p tss q.2 else none
theorem sd_for {tg iter : Expr} {body : List Stmt} {fi : FA} {fg : FG} {fb : FD} (hp : PassesOwn (model X.prog X.w) X.A X.env X.xe) (hc : X.calm = true) (hi : SI X tg iter fi) (hg : SG X tg fg) (hb : SDs X x body fb)
    (hs : ∀ x, foldedSetIterable iter X.env x = pure x := by intro _; rfl) : SD X x (.For tg iter body [] pos) (dFor x fi fg fb) := fun F₀ H₀ => PS.weak (ps_for hp hc hi.any hg.any (hb F₀ H₀) hs) fun D σ H hq__ => by
  obtain ⟨F, τ, p, tss, A, r, d, e1, q⟩ := hq__
  obtain ⟨⟨ts, τ1⟩, e2, e1⟩ := bind_some e1
  dsimp only at e1
  split at e1
  · next hq =>
    refine ⟨F₀, frzO H₀ H A, F, τ, ts, τ1, d.lend, e2, fun F' H' J E' s' W => ?_⟩
    have d1 := d.back E' s' (isPtr_of hq)
    refine ⟨fun i m σ H => m = ts.length - i ∧ i ≤ ts.length ∧ ∃ F1 τ1 tss1 A1, DOk X.K F₀ H₀ F1 H σ τ1 x p tss1 A1 ∧ Same F' F1 ∧ loopD x fg fb (ts.drop i) p tss1 τ1 = some r, ⟨_, rfl, Nat.zero_le _, F', τ1, tss, A, d1, Same.refl _, e1⟩, ?_⟩
    rintro i m σ1 H1 ⟨rfl, hi, F1, τ2, tss1, A1, D1, s1, e3⟩
    by_cases hlt : i < ts.length
    · have hd : ts.drop i = ts[i] :: ts.drop (i + 1) := List.drop_eq_getElem_cons hlt
      have hg : ts[i]? = some ts[i] := List.getElem?_eq_getElem hlt
      rw [hd] at e3
      obtain ⟨τ3, e4, e3⟩ := bind_some e3
      split at e3
      · next h3 =>
        obtain ⟨r', e5, e3⟩ := bind_some e3
        refine .inr ⟨W.go i _ F1 H1 hg s1 D1.E.g.fh, fun σ H => ∃ F1 τ1 tss1 A1, DOk X.K F₀ H₀ F1 H σ τ1 x p tss1 A1 ∧ Same F' F1 ∧ loopD x fg fb (ts.drop (i + 1)) p tss1 τ1 = some r, fun σ' H' n => ⟨_, by omega, rfl, hlt, n⟩, fun y H2 z => ?_⟩
        obtain ⟨F2, gr, rx⟩ := W.yld i _ F1 H1 y H2 hg s1 D1.E.g.fh z
        have D2 := D1.grow gr
        refine ⟨F₀, frzO H₀ H2 A1, F2, τ2, ts[i], τ3, D2.lend, rx, e4, fun F3 H3 σ3 E3 s3 => ?_⟩
        have D3 := D2.back E3 s3 (isPtr_of h3)
        have s03 : Same F' F3 := s1.trans (gr.sF.trans s3)
        exact ⟨F3, τ3, p, tss1, A1, r', D3, e5, fun F4 H4 σ4 A4 D4 s4 => ⟨F4, r'.2, r'.1, A4, D4, s03.trans s4, e3⟩⟩
      · cases e3
    · have he : i = ts.length := by omega
      subst he
      rw [List.drop_length] at e3
      cases e3
      exact .inl ⟨W.stop F1 H1 s1 D1.E.g.fh, q F1 H1 σ1 A1 D1 (s'.trans s1)⟩
  · cases e1
end
theorem rows_mem {K : PySem.W.Frag} {F H : Hp} : ∀ {tss : List (List T)} {vs : List V} {B : List Addr} {k : Nat} {q : Addr} {row : List T}, OReps K F H (tss.map rowO) vs B → tss[k]? = some row → vs[k]? = some (.ref q) → q ∈ B
  | [], _, _, k, _, _, _, e, _ => by simp at e
  | r :: tss, vs, B, k, q, row, h, e, e' => by
    obtain ⟨v, r', B1, C, rfl, rfl, h1, h2⟩ := h
    cases k with
    | zero =>
      cases e'
      obtain ⟨q', ws, B2, hq, rfl, _⟩ := h1
      cases hq
      exact List.mem_append_left _ List.mem_cons_self
    | succ k => exact List.mem_append_right _ (rows_mem h2 e e')
section
variable {K : PySem.W.Frag} {F₀ H₀ F H F' H' : Hp} {σ σ' : L2.St} {τ τ' : TEnv} {x : Nat} {p : Addr} {tss : List (List T)} {A : List Addr}
theorem DOk.upd (D : DOk K F₀ H₀ F H σ τ x p tss A) {a : Addr} (ha : a ∈ A) (o : HO) : EnvOk K F₀ H₀ F (L2.upd H a o) σ τ := by
  refine ⟨⟨D.E.g.sF, fun b u e => ?_, fun b u e => ?_, D.E.g.nw⟩, D.E.len, fun i s e => ?_, D.E.dj⟩
  · rw [upd_ne (fun z => by rw [z, D.h0 a ha] at e; cases e)]; exact D.E.g.sH _ _ e
  · rw [upd_ne (fun z => by rw [z, (D.lies ha).1] at e; cases e)]; exact D.E.g.fh _ _ e
  · obtain ⟨v, h1, h2⟩ := D.E.sl i s e
    refine ⟨v, h1, ?_⟩
    cases s with
    | sh t => exact h2
    | own ts =>
      obtain ⟨q, vs, rfl, k1, k2, k3, k4⟩ := h2
      exact ⟨q, vs, rfl, by rw [upd_ne (show q ≠ a from fun z => D.ap i ts q e h1 (by rw [z]; exact ha))]; exact k1, k2, k3, k4⟩
theorem DOk.put (D : DOk K F₀ H₀ F H σ τ x p tss A) {k l : Nat} {row : List T} {t : T} {w : V} (er : tss[k]? = some row) (r : Rep K F t w) :
    ∃ vs qa ws, H p = some (.lst vs) ∧ vs[k]? = some (.ref qa) ∧ H qa = some (.lst ws) ∧ ws.length = row.length ∧ vs.length = tss.length ∧ DOk K F₀ H₀ F (L2.upd H qa (.lst (ws.set l w))) σ τ x p (tss.set k (row.set l t)) A := by
  obtain ⟨vs, qa, ws, h1, h2, h3, h4, h5⟩ := D.held.at er
  have S := D.held.turnRow (us := row.set l t) (ws := ws.set l w) er h1 h2 (Reps_set r l h4)
  obtain ⟨vs', B, hA, g1, g2, g3⟩ := D.held.root
  rw [h1] at g1; cases g1
  have m : qa ∈ A := by rw [hA]; exact List.mem_cons_of_mem _ (rows_mem g3 er h2)
  exact ⟨vs, qa, ws, h1, h2, h3, h4.length, h5, D.upd m _, D.hx, S.r, S.nd, S.h0, D.ap⟩
theorem DOk.look (D : DOk K F₀ H₀ F H σ τ x p tss A) : EnvOk K (frzO F H A) H (frzO F H A) H σ ((hide τ).set x (Option.some (.sh (.lst (tss.map T.lst))))) := by
  have sF : Same F (frzO F H A) := frzO_same fun a ha => (D.lies ha).1
  have sH : Same (frzO F H A) H := fun b o eb => by
    by_cases m : b ∈ A
    · rw [frzO_in m] at eb; exact eb
    · rw [frzO_out m] at eb; exact D.E.g.fh b o eb
  have rp : Rep K (frzO F H A) (.lst (tss.map T.lst)) (.ref p) := by
    have := D.r.frz
    rw [O.tr, trs_rows] at this
    exact this
  have all : ∀ {j : Nat} {s : Sl}, ((hide τ).set x (Option.some (.sh (.lst (tss.map T.lst)))))[j]? = Option.some (Option.some s) → (∃ t, s = .sh t) ∧ ∃ v, σ[j]? = Option.some (Option.some v) ∧ SlOk K H (frzO F H A) H s v := fun {j s} e => by
    by_cases hj : x = j
    · subst hj
      by_cases hl : x < (hide τ).length
      · rw [List.getElem?_set_self hl] at e; cases e
        exact ⟨⟨_, rfl⟩, _, D.get, rp⟩
      · rw [List.getElem?_eq_none (by simp; omega)] at e; cases e
    · rw [List.getElem?_set_ne hj] at e
      obtain ⟨e1, t, rfl⟩ := hide_get e
      obtain ⟨v, k1, k2⟩ := D.E.sl j _ e1
      exact ⟨⟨t, rfl⟩, v, k1, Rep.mono sF k2⟩
  refine ⟨Grow.refl sH, by simp [hide_length, D.E.len], fun j s e => (all e).2, fun j k ts ws p _ e1 => ?_⟩
  obtain ⟨t, z⟩ := (all e1).1
  cases z
theorem grow_lentA (hF : ∀ a ∈ A, F a = none) (g : Grow (frzO F H A) H F' H') : Grow F H (delA F' A) H' := by
  refine ⟨fun b u e => ?_, g.sH, fun b u e => ?_, fun b u e => ?_⟩
  · have m : b ∉ A := fun m => by rw [hF b m] at e; cases e
    rw [delA_out m]
    exact g.sF b u (by rw [frzO_out m]; exact e)
  · by_cases m : b ∈ A
    · rw [delA_in m] at e; cases e
    · rw [delA_out m] at e; exact g.fh b u e
  · by_cases m : b ∈ A
    · rw [delA_in m] at e; cases e
    · rw [delA_out m] at e
      rcases g.nw b u e with z | z
      · rw [frzO_out m] at z; exact .inl z
      · exact .inr z
theorem Rep.pairOut {a b : Int} {v : V} (h : Rep K F' (.tup [.int a, .int b]) v) (hA : ∀ q ∈ A, ∃ vs, F' q = Option.some (.lst vs)) : Rep K (delA F' A) (.tup [.int a, .int b]) v := by
  obtain ⟨q, xs, rfl, h1, h2⟩ := h
  refine ⟨q, xs, rfl, ?_, ?_⟩
  · rcases h1 with h1 | h1
    · have m : q ∉ A := fun m => by
        obtain ⟨vs, e⟩ := hA q m
        rcases h1 with h1 | ⟨o, h1⟩
        · rw [e] at h1; cases h1
        · rw [e] at h1; cases h1
      refine .inl ?_
      unfold Rd
      rw [delA_out m]
      exact h1
    · exact .inr h1
  · obtain ⟨v1, r1, rfl, k1, v2, r2, rfl, k2, k3⟩ := h2
    exact ⟨v1, _, rfl, k1, v2, r2, rfl, k2, k3⟩
end
section
variable {X : Cx} {e : Expr} {pos : Pos} {x : Nat}
noncomputable def dPut (i j : Nat) (t : T) (τ : TEnv) (tss : List (List T)) : Option (List (List T)) := match τ[i]?, τ[j]? with
  | some (some (.sh (.int a))), some (some (.sh (.int b))) => (ixN tss.length a).bind fun k => (tss[k]?).bind fun row => (ixN row.length b).bind fun l => some (tss.set k (row.set l t))
  | _, _ => none
noncomputable def dSet2 (x i j : Nat) (f : FE) : FD := fun p tss τ => (f τ).bind fun q => if isPtr x p q.2 = true then (dPut i j q.1 q.2 tss).bind fun z => some (z, q.2) else none
noncomputable def dSet2v (x i j : Nat) (f : FE) : FD := fun p tss τ => (f ((hide τ).set x (some (.sh (.lst (tss.map T.lst)))))).bind fun q => match q.1 with
  | .tup [.int a, .int b] => (dPut i j (.tup [.int a, .int b]) τ tss).bind fun z => some (z, τ)
  | _ => none
theorem sd_set2 {i j : Nat} {nx ni nj : Str} {q1 q2 q3 p1 p2 : Pos} {v : Expr} {f : FE} (hv : PE X (.Name nx q1) (tVar x)) (hi : PE X (.Name ni q2) (tVar i)) (hj : PE X (.Name nj q3) (tVar j)) (he : SE X v f)
    (ha : ∀ u, assign (.Subscript (.Subscript (.Name nx q1) (.Name ni q2) p1) (.Name nj q3) p2) X.env u = (do
      let ov ← holding [u] (eval (.Subscript (.Name nx q1) (.Name ni q2) p1) X.env)
      let iv ← holding [u, ov] (eval (.Name nj q3) X.env)
      standAt p2
      holding [u, ov, iv] (setItem ov iv u)
      release [u, ov, iv] []) := by intro _; rfl)
    (hs : swapsWithSole [.Subscript (.Subscript (.Name nx q1) (.Name ni q2) p1) (.Name nj q3) p2] v pos.line X.env = pure false := by rfl) (hw : swappedStores [.Subscript (.Subscript (.Name nx q1) (.Name ni q2) p1) (.Name nj q3) p2] v X.env = pure none := by rfl)
    (h1 : (assignEach [.Subscript (.Subscript (.Name nx q1) (.Name ni q2) p1) (.Name nj q3) p2] X.env).map (·.2) = [assign (.Subscript (.Subscript (.Name nx q1) (.Name ni q2) p1) (.Name nj q3) p2) X.env] := by rfl) :
    SD X x (.Assign [.Subscript (.Subscript (.Name nx q1) (.Name ni q2) p1) (.Name nj q3) p2] v pos) (dSet2 x i j f) ∧ SD X x (.Assign [.Subscript (.Subscript (.Name nx q1) (.Name ni q2) p1) (.Name nj q3) p2] v pos) (dSet2v x i j f) := by
  have base := ps_asg (pos := pos) he.any (pg_sub (pe_ix ix_list hv hi (fun _ _ => rfl)) hj set_list ha) hs hw h1
  have fin : ∀ {F₀ H₀ F1 H1 : Hp} {σ : L2.St} {τ1 : TEnv} {p : Addr} {tss z : List (List T)} {A : List Addr} {t : T} {w : V} {Q : L2.St → Hp → Prop}, DOk X.K F₀ H₀ F1 H1 σ τ1 x p tss A → dPut i j t τ1 tss = some z → Rep X.K F1 t w → (∀ H2, DOk X.K F₀ H₀ F1 H2 σ τ1 x p z A → Q σ H2) →
      L2.gSub (tOp (rIxL X.K) (tVar x) (tVar i)) (tVar j) (rSetL) w σ H1 Q := fun {F₀ H₀ F1 H1 σ τ1 p tss z A t w Q} d1 e1 r1 q => by
    unfold dPut at e1
    split at e1
    · next a b ea eb =>
      obtain ⟨k, ek, e1⟩ := bind_some e1
      obtain ⟨row, er, e1⟩ := bind_some e1
      obtain ⟨l, el, e1⟩ := bind_some e1
      cases e1
      obtain ⟨va, ga, ra⟩ := d1.E.sl i _ ea
      obtain ⟨vb, gb, rb⟩ := d1.E.sl j _ eb
      cases ra
      cases rb
      obtain ⟨vs, qa, ws, k1, k2, k3, k4, k5, d2⟩ := d1.put (l := l) er r1
      exact ⟨_, d1.get, _, ga, p, vs, a, .ref qa, rfl, rfl, SqL.of k1, by unfold atI; rw [k5, ek]; exact k2, _, gb, qa, ws, b, l, rfl, rfl, k3, by rw [k4]; exact el, q _ d2⟩
    · cases e1
  constructor
  · intro F₀ H₀
    refine PS.weak base fun D σ H ⟨F, τ, p, tss, A, r, d, e1, q⟩ => ?_
    obtain ⟨⟨t, τ1⟩, e2, e1⟩ := bind_some e1
    dsimp only at e1
    split at e1
    · next hp =>
      obtain ⟨z, e3, e1⟩ := bind_some e1
      cases e1
      exact ⟨F₀, frzO H₀ H A, F, τ, t, τ1, d.lend, e2, fun F1 H1 w E1 s1 r1 => fin (d.back E1 s1 (isPtr_of hp)) e3 r1 fun H2 d2 => q F1 H2 σ A d2 s1⟩
    · cases e1
  · intro F₀ H₀
    refine PS.weak base fun D σ H ⟨F, τ, p, tss, A, r, d, e1, q⟩ => ?_
    obtain ⟨⟨t, τ1⟩, e2, e1⟩ := bind_some e1
    dsimp only at e1
    split at e1
    · next a b =>
      obtain ⟨z, e3, e1⟩ := bind_some e1
      cases e1
      refine ⟨frzO F H A, H, frzO F H A, _, _, τ1, d.look, e2, fun F1 H1 w E1 s1 r1 => ?_⟩
      have gl := grow_lentA (fun a ha => (d.lies ha).1) E1.g
      have hA : ∀ y ∈ A, ∃ vs, F1 y = some (.lst vs) := fun y hy => by
        obtain ⟨vs, k⟩ := (d.lies hy).2
        exact ⟨vs, s1 _ _ (by rw [frzO_in hy]; exact k)⟩
      exact fin (d.grow gl) e3 (r1.pairOut hA) fun H2 d2 => q _ H2 σ A d2 gl.sF
    · cases e1
noncomputable def tDr (K : PySem.W.Frag) (F₀ H₀ : Hp) (x : Nat) (f : FD) : TS := fun D σ H => ∃ F τ p tss A r, DOk K F₀ H₀ F H σ τ x p tss A ∧ f p tss τ = some r ∧ ∀ F' H' σ' A', DOk K F₀ H₀ F' H' σ' r.2 x p r.1 A' → D.rt (.ref p) H'
noncomputable def SDr (X : Cx) (x : Nat) (ss : List Stmt) (f : FD) : Prop := ∀ F₀ H₀, PSs X ss (tDr X.K F₀ H₀ x f)
theorem sdr_ret {nx : Str} {q1 : Pos} (hv : PE X (.Name nx q1) (tVar x)) : SDr X x [.Return (some (.Name nx q1)) pos] dNext := fun F₀ H₀ => PSs.weak (pss_one (ps_ret hv)) fun D σ H hq__ => by
  obtain ⟨F, τ, p, tss, A, r, d, e1, q⟩ := hq__
  cases e1
  exact ⟨_, d.get, q F H σ A d⟩
theorem sdr_cons {st : Stmt} {rest : List Stmt} {f g : FD} (h1 : SD X x st f) (h2 : SDr X x rest g) : SDr X x (st :: rest) (dSeq f g) := fun F₀ H₀ => PSs.weak (pss_cons (h1 F₀ H₀) (h2 F₀ H₀)) fun D σ H hq__ => by
  obtain ⟨F, τ, p, tss, A, r, d, e1, q⟩ := hq__
  obtain ⟨r1, e2, e1⟩ := bind_some e1
  exact ⟨F, τ, p, tss, A, r1, d, e2, fun F1 H1 σ1 A1 d1 s1 => ⟨F1, r1.2, p, r1.1, A1, r, d1, e1, fun F2 H2 σ2 A2 d2 => q F2 H2 σ2 A2 d2⟩⟩
open Classical in
noncomputable def pickD (P : List (List T) → Prop) : Option O := if h : ∃ r, P r then some (.lst (h.choose.map rowO)) else none
theorem pickD_eq {P : List (List T) → Prop} {r : List (List T)} (h : P r) (u : ∀ r', P r' → r' = r) : pickD P = some (.lst (r.map rowO)) := by
  have e : ∃ r, P r := ⟨r, h⟩
  unfold pickD
  rw [dif_pos e, u _ e.choose_spec]
theorem pickD_some {P : List (List T) → Prop} {o : O} (h : pickD P = some o) : ∃ r, P r ∧ o = .lst (r.map rowO) := by
  unfold pickD at h
  split at h
  · next e => cases h; exact ⟨_, e.choose_spec, rfl⟩
  · cases h
noncomputable def fDeepO (x : Nat) (f : FO') (fd : FD) : FSO := fun τ => (f τ).bind fun q => match q.1 with
  | .lst os => if x < q.2.length then (rowsOf os).bind fun tss => pickD fun r => ∀ p, (fd p tss (q.2.set x (some (.sh (.ptr p))))).map (·.1) = some r else none
  | _ => none
end
end TM

namespace TM
open PySem PySem.Spec PyProof.Rows L2
section
variable {X : Cx} {e : Expr} {pos : Pos}
noncomputable def fPop (i : Nat) : FE := fun τ => match τ[i]? with
  | some (some (.own us)) => (us[us.length - 1]?).bind fun t => some (t, τ.set i (some (.own us.dropLast)))
  | _ => none
theorem se_pop (i : Nat) {x : Str} {p1 p2 p3 : Pos} (hv : PE X (.Name x p1) (tVar i))
    (hbase : attributeBase (.Name x p1) "pop" X.env (eval (.Name x p1) X.env) = eval (.Name x p1) X.env := by rfl) (hline : (p2.endLine == p3.line) = true := by rfl) :
    SE X (.Call (.Attribute (.Name x p1) "pop" p2) [] [] p3) (fPop i) := fun F₀ H₀ =>
  PE.weak (pe_bm0 PySem.F.plainAttrs_list PySem.F.slot_list_pop PySem.F.type_list_pop mt_pop hv hbase hline) fun σ H Q hq__ => by
    obtain ⟨F, τ, t, τ', E, e1, q⟩ := hq__
    unfold fPop at e1
    split at e1
    · next us e3 =>
      obtain ⟨y, e2, e1⟩ := bind_some e1
      cases e1
      obtain ⟨v, g1, p, vs, rfl, g2, g3, g4, g5⟩ := E.sl i _ e3
      obtain ⟨w, k1, k2⟩ := g5.get e2
      exact ⟨_, g1, .inl ⟨rfl, vs, SqL.of g2⟩, p, vs, w, rfl, rfl, g2, by rw [g5.length]; exact k1, q F _ w (E.turnOwn e3 g1 (Reps_dropLast g5)) (Same.refl _) k2⟩
    · cases e1
theorem Reps_erase {K : PySem.W.Frag} {F : Hp} : ∀ {ts : List T} {vs : List V} (k : Nat), Reps K F ts vs → Reps K F (ts.eraseIdx k) (vs.eraseIdx k)
  | [], vs, k, h => by have : vs = [] := h; subst this; simpa using h
  | t :: ts, vs, 0, h => by
    obtain ⟨v, r, rfl, h1, h2⟩ := h
    exact h2
  | t :: ts, vs, k + 1, h => by
    obtain ⟨v, r, rfl, h1, h2⟩ := h
    exact ⟨v, _, rfl, h1, Reps_erase k h2⟩
noncomputable def fPopAt (i : Nat) (f : FE) : FE := fun τ => match τ[i]? with
  | some (some (.own _)) => (f τ).bind fun q => match q.2[i]?, q.1 with
    | some (some (.own us)), .int k => if 0 ≤ k ∧ k < us.length ∧ us.length ≤ 1000 then (us[k.toNat]?).bind fun t => some (t, q.2.set i (some (.own (us.eraseIdx k.toNat)))) else none
    | _, _ => none
  | _ => none
theorem se_popAt (i : Nat) {x : Str} {p1 p2 p3 : Pos} {f : FE} (hv : PE X (.Name x p1) (tVar i)) (he : SE X e f)
    (hbase : attributeBase (.Name x p1) "pop" X.env (eval (.Name x p1) X.env) = eval (.Name x p1) X.env := by rfl)
    (hfew : ((backTo p3 (starEach [e] X.env)).all (fun x => !x.1) && (backToKw p3 (keywordEach [] X.env)).all (fun x => x.1.isSome) && decide ([e].length + ([] : List Keyword).length + (if ([] : List Keyword).isEmpty then 0 else 1) < 30)) = true := by rfl)
    (hline : (p2.endLine == p3.line) = true := by rfl) (hs : starEach [e] X.env = (false, eval e X.env) :: starEach [] X.env := by rfl) (hpl : (backTo p3 (starEach [] X.env)).any (·.1) = false := by rfl) :
    SE X (.Call (.Attribute (.Name x p1) "pop" p2) [e] [] p3) (fPopAt i f) := fun F₀ H₀ =>
  PE.weak (pe_bm PySem.F.plainAttrs_list PySem.F.slot_list_pop PySem.F.type_list_pop mt_popAt hv (pa_cons (he F₀ H₀) pa_nil hs) hbase hfew hline hs hpl) fun σ H Q hq__ => by
    obtain ⟨F, τ, t, τ', E, e1, q⟩ := hq__
    unfold fPopAt at e1
    split at e1
    · next us0 e3 =>
      obtain ⟨⟨y, τ1⟩, e2, e1⟩ := bind_some e1
      dsimp only at e1
      split at e1
      · next _ us k e4 =>
        split at e1
        · next hk =>
          obtain ⟨z, e5, e1⟩ := bind_some e1
          cases e1
          obtain ⟨v, g1, p, vs, rfl, g2, g3, g4, g5⟩ := E.sl i _ e3
          refine ⟨_, g1, .inl ⟨rfl, vs, SqL.of g2⟩, F, τ, _, τ1, E, e2, fun F' H' w E' s' r' => ?_⟩
          cases r'
          obtain ⟨v', k1, p', vs', rfl, k2, k3, k4, k5⟩ := E'.sl i _ e4
          rw [g1] at k1; cases k1
          obtain ⟨u, m1, m2⟩ := k5.get e5
          refine ⟨p, vs', k, k.toNat, u, rfl, rfl, k2, by omega, by omega, ?_, m1, q F' _ u (E'.turnOwn e4 g1 (Reps_erase _ k5)) s' m2⟩
          unfold seqIndex?
          rw [k5.length]
          have e0 : ¬ k < 0 := by omega
          simp only [if_neg e0]
          rw [if_pos (by simp only [Bool.and_eq_true, decide_eq_true_eq]; omega)]
        · cases e1
      · cases e1
    · cases e1
end
end TM

namespace TM
open PySem PySem.Spec PyProof.Rows L2
inductive R2 where
  | nx (τ : TEnv) | ro (o : O)
noncomputable abbrev FY := TEnv → Option R2
noncomputable def YOk (K : PySem.W.Frag) (F₀ H₀ F : Hp) (D : Ends) : R2 → Prop
  | .nx τ' => ∀ F' H' σ', EnvOk K F₀ H₀ F' H' σ' τ' → Same F F' → D.nx σ' H'
  | .ro o => ∀ F' H' v A, Grow F₀ H₀ F' H' → ORep K F' H' o v A → A.Nodup → (∀ a ∈ A, H₀ a = none) → D.rt v H'
theorem YOk.mono {K : PySem.W.Frag} {F₀ H₀ F F' : Hp} {D : Ends} : ∀ {r : R2}, Same F F' → YOk K F₀ H₀ F D r → YOk K F₀ H₀ F' D r
  | .nx _, s, h => fun F1 H1 σ1 E1 s1 => h F1 H1 σ1 E1 (s.trans s1)
  | .ro _, _, h => h
noncomputable def tY (K : PySem.W.Frag) (F₀ H₀ : Hp) (f : FY) : TS := fun D σ H => ∃ F τ r, EnvOk K F₀ H₀ F H σ τ ∧ f τ = some r ∧ YOk K F₀ H₀ F D r
noncomputable def SY (X : Cx) (st : Stmt) (f : FY) : Prop := ∀ F₀ H₀, PS X st (tY X.K F₀ H₀ f)
noncomputable def SYs (X : Cx) (ss : List Stmt) (f : FY) : Prop := ∀ F₀ H₀, PSs X ss (tY X.K F₀ H₀ f)
section
variable {X : Cx} {e : Expr} {pos : Pos}
noncomputable def yRet (f : FO') : FY := fun τ => (f τ).bind fun p => some (.ro p.1)
theorem sy_ret {f : FO'} (h : SEo X e f) : SY X (.Return (some e) pos) (yRet f) := fun F₀ H₀ => PS.weak (ps_ret (h F₀ H₀)) fun D σ H hq__ => by
  obtain ⟨F, τ, r, E, e1, q⟩ := hq__
  obtain ⟨⟨x, τ1⟩, e2, e1⟩ := bind_some e1
  cases e1
  exact ⟨F, τ, _, τ1, E, e2, fun F' H' v A E' _ r nd h0 _ => q F' H' v A E'.g r nd h0⟩
noncomputable def yLift (f : FS) : FY := fun τ => (f τ).bind fun r => match r with
  | .nx τ' => some (.nx τ')
  | _ => none
theorem sy_lift {st : Stmt} {f : FS} (h : SS X st f) : SY X st (yLift f) := fun F₀ H₀ => PS.weak (h F₀ H₀) fun D σ H hq__ => by
  obtain ⟨F, τ, r, E, e1, q⟩ := hq__
  obtain ⟨r', e2, e1⟩ := bind_some e1
  cases r' with
  | nx τ' => cases e1; exact ⟨F, τ, .nx τ', E, e2, q⟩
  | rt t => cases e1
  | bk t => cases e1
  | ct t => cases e1
noncomputable def yNext : FY := fun τ => some (.nx τ)
noncomputable def ySeq (f g : FY) : FY := fun τ => (f τ).bind fun r => match r with | .nx τ' => g τ' | .ro o => some (.ro o)
theorem sys_nil : SYs X [] yNext := fun F₀ H₀ => PSs.weak pss_nil fun D σ H hq__ => by
  obtain ⟨F, τ, r, E, e1, q⟩ := hq__
  cases e1
  exact q F H σ E (Same.refl _)
theorem sys_one {st : Stmt} {f : FY} (h : SY X st f) : SYs X [st] f := fun F₀ H₀ => pss_one (h F₀ H₀)
theorem sys_cons {st : Stmt} {rest : List Stmt} {f g : FY} (h1 : SY X st f) (h2 : SYs X rest g) : SYs X (st :: rest) (ySeq f g) := fun F₀ H₀ => PSs.weak (pss_cons (h1 F₀ H₀) (h2 F₀ H₀)) fun D σ H hq__ => by
  obtain ⟨F, τ, r, E, e1, q⟩ := hq__
  obtain ⟨b, e2, e1⟩ := bind_some e1
  cases b with
  | ro o => cases e1; exact ⟨F, τ, _, E, e2, q⟩
  | nx τ1 => exact ⟨F, τ, _, E, e2, fun F1 H1 σ1 E1 s1 => ⟨F1, τ1, r, E1, e1, q.mono s1⟩⟩
noncomputable def yIf (c : FT) (f g : FY) : FY := fun τ => (c τ).bind fun q => if q.1 = true then f q.2 else g q.2
theorem sy_if {c : Expr} {ss us : List Stmt} {tc : FT} {f g : FY} (hc : ST X c tc) (ha : SYs X ss f) (hb : SYs X us g) : SY X (.If c ss us pos) (yIf tc f g) := fun F₀ H₀ => PS.weak (ps_if (hc F₀ H₀) (ha F₀ H₀) (hb F₀ H₀)) fun D σ H hq__ => by
  obtain ⟨F, τ, r, E, e1, q⟩ := hq__
  obtain ⟨⟨x, τ1⟩, e2, e1⟩ := bind_some e1
  refine ⟨F, τ, x, τ1, E, e2, fun F' H' E' s' => ?_⟩
  dsimp only at e1
  split at e1
  · next h => rw [if_pos h]; exact ⟨F', τ1, r, E', e1, q.mono s'⟩
  · next h => rw [if_neg h]; exact ⟨F', τ1, r, E', e1, q.mono s'⟩
noncomputable def loopY (fg : FG) (fb : FY) : List T → FY
  | [], τ => some (.nx τ)
  | t :: ts, τ => (fg t τ).bind fun τ1 => (fb τ1).bind fun r => match r with | .nx τ2 => loopY fg fb ts τ2 | .ro o => some (.ro o)
noncomputable def yFor (fi : FA) (fg : FG) (fb : FY) : FY := fun τ => (fi τ).bind fun q => loopY fg fb q.1 q.2
theorem sy_for {tg iter : Expr} {body : List Stmt} {fi : FA} {fg : FG} {fb : FY} (hp : PassesOwn (model X.prog X.w) X.A X.env X.xe) (hc : X.calm = true) (hi : SI X tg iter fi) (hg : SG X tg fg) (hb : SYs X body fb)
    (hs : ∀ x, foldedSetIterable iter X.env x = pure x := by intro _; rfl) : SY X (.For tg iter body [] pos) (yFor fi fg fb) := fun F₀ H₀ => PS.weak (ps_for hp hc (hi F₀ H₀) (hg F₀ H₀) (hb F₀ H₀) hs) fun D σ H hq__ => by
  obtain ⟨F, τ, r, E, e1, q⟩ := hq__
  obtain ⟨⟨ts, τ1⟩, e2, e1⟩ := bind_some e1
  refine ⟨F, τ, ts, τ1, E, e2, fun F' H' J E' s' W => ?_⟩
  refine ⟨fun i m σ H => m = ts.length - i ∧ i ≤ ts.length ∧ ∃ F1 τ1, EnvOk X.K F₀ H₀ F1 H σ τ1 ∧ Same F' F1 ∧ loopY fg fb (ts.drop i) τ1 = some r, ⟨_, rfl, Nat.zero_le _, F', τ1, E', Same.refl _, e1⟩, ?_⟩
  rintro i m σ1 H1 ⟨rfl, hi, F1, τ2, E1, s1, e3⟩
  by_cases hlt : i < ts.length
  · have hd : ts.drop i = ts[i] :: ts.drop (i + 1) := List.drop_eq_getElem_cons hlt
    have hg : ts[i]? = some ts[i] := List.getElem?_eq_getElem hlt
    rw [hd] at e3
    obtain ⟨τ3, e4, e3⟩ := bind_some e3
    obtain ⟨b, e5, e3⟩ := bind_some e3
    refine .inr ⟨W.go i _ F1 H1 hg s1 E1.g.fh, fun σ H => ∃ F1 τ1, EnvOk X.K F₀ H₀ F1 H σ τ1 ∧ Same F' F1 ∧ loopY fg fb (ts.drop (i + 1)) τ1 = some r, fun σ' H' n => ⟨_, by omega, rfl, hlt, n⟩, fun x H2 z => ?_⟩
    obtain ⟨F2, gr, rx⟩ := W.yld i _ F1 H1 x H2 hg s1 E1.g.fh z
    refine ⟨F2, τ2, ts[i], τ3, E1.grow gr, rx, e4, fun F3 H3 σ3 E3 s3 => ⟨F3, τ3, _, E3, e5, ?_⟩⟩
    have s03 : Same F' F3 := s1.trans (gr.sF.trans s3)
    cases b with
    | ro o => cases e3; exact q
    | nx τ4 => exact fun F4 H4 σ4 E4 s4 => ⟨F4, τ4, E4, s03.trans s4, e3⟩
  · have he : i = ts.length := by omega
    subst he
    rw [List.drop_length] at e3
    cases e3
    exact .inl ⟨W.stop F1 H1 s1 E1.g.fh, q F1 H1 σ1 E1 (s'.trans s1)⟩
noncomputable def fYO (f : FY) : FSO := fun τ => (f τ).bind fun r => match r with | .ro o => some o | .nx _ => none
theorem sso_y {ss : List Stmt} {f : FY} (h : SYs X ss f) : SSo X ss (fYO f) := fun F₀ H₀ => PSs.weak (h F₀ H₀) fun D σ H hq__ => by
  obtain ⟨F, τ, o, E, e1, q⟩ := hq__
  obtain ⟨b, e2, e1⟩ := bind_some e1
  cases b with
  | nx τ1 => cases e1
  | ro o' => cases e1; exact ⟨F, τ, _, E, e2, q⟩
end
end TM

namespace TM
open PySem PySem.Spec PyProof.Rows L2
section
variable {X : Cx} {e : Expr} {pos : Pos} {x : Nat}
noncomputable def fRepO (fa fb : FE) : FO' := fun τ => (fa τ).bind fun p => (fb p.2).bind fun q => match p.1, q.1 with
  | .lst ts, .int k => if (-(2 ^ 63) ≤ k ∧ k < 2 ^ 63) ∧ ts.length * k.toNat ≤ sizeLine then some (.lst ((List.replicate k.toNat ts).flatten.map .val), q.2) else none
  | _, _ => none
theorem seo_rep {a b : Expr} {fa fb : FE} (ha : SE X a fa) (hb : SE X b fb) : SEo X (.BinOp a .Mult b pos) (fRepO fa fb) := by
  intro F₀ H₀
  refine PE.weak (pe_op op_rep (ha F₀ H₀) (hb F₀ H₀)) fun σ H Q ⟨F, τ, t, τ', E, e1, q⟩ => ?_
  obtain ⟨⟨y, τ1⟩, e2, e1⟩ := bind_some e1
  obtain ⟨⟨z, τ2⟩, e3, e1⟩ := bind_some e1
  dsimp only at e1
  split at e1
  · next ts k _ =>
    split at e1
    · next hc =>
      cases e1
      refine ⟨F, τ, _, τ1, E, e2, fun F1 H1 v1 E1 s1 r1 => ⟨F1, τ1, _, _, E1, e3, fun F2 H2 v2 E2 s2 r2 => ?_⟩⟩
      obtain ⟨p, xs, rfl, h1, h2⟩ := Rep.mono s2 r1
      cases r2
      refine ⟨p, k, xs, rfl, rfl, E2.g.fh _ _ h1, hc.1.1, hc.1.2, by rw [h2.length]; exact hc.2, fun l hl' => ?_⟩
      exact q F2 _ _ [l] (E2.hp (same_updN hl')) (s1.trans s2) (ORep.new E2.g.fh hl' (reps_rep h2 _)) (by simp) (fun a ha => by rw [List.mem_singleton.mp ha]; exact E2.g.sH.free hl') (apart_new E2 hl')
    · cases e1
  · cases e1
theorem sso_deepC {S : Stmt} {rest : List Stmt} {f : FO'} {fd : FD} (hS : PSo X S x f) (hd : SDr X x rest fd) : SSo X (S :: rest) (fDeepO x f fd) := fun F₀ H₀ => PSs.weak (pss_cons (hS F₀ H₀) (hd F₀ H₀)) fun D σ H hq__ => by
  obtain ⟨F, τ, o, E, e1, q⟩ := hq__
  obtain ⟨⟨o1, τ1⟩, e2, e1⟩ := bind_some e1
  dsimp only at e1
  split at e1
  · next os =>
    split at e1
    · next hl =>
      obtain ⟨tss, e3, e1⟩ := bind_some e1
      obtain ⟨r, hP, rfl⟩ := pickD_some e1
      have ho := rowsOf_inv e3
      subst ho
      refine ⟨F, τ, _, τ1, E, e2, fun F' H' v A E' s' ro nd h0 ap => ?_⟩
      obtain ⟨p, vs, B, hv, hA, _⟩ := id ro
      subst hv
      have hp := hP p
      cases e4 : fd p tss (τ1.set x (some (.sh (.ptr p)))) with
      | none => rw [e4] at hp; cases hp
      | some z =>
        rw [e4] at hp
        have hz : z.1 = r := by simpa using hp
        refine ⟨F', _, p, tss, A, z, ⟨E'.set (t := .ptr p) (v := .ref p) rfl, List.getElem?_set_self hl, ro, nd, h0, fun j us q' e5 e6 => ?_⟩, e4, fun F2 H2 σ2 A2 d2 => ?_⟩
        · by_cases hj : x = j
          · subst hj; rw [List.getElem?_set_self hl] at e5; cases e5
          · rw [List.getElem?_set_ne hj] at e5 e6; exact ap j us q' e5 e6
        · rw [hz] at d2
          exact q F2 H2 _ A2 d2.E.g d2.r d2.nd d2.h0
    · cases e1
  · cases e1
theorem sd_set2a {i j : Nat} {nx ni nj : Str} {q1 q2 q3 p1 p2 : Pos} {v : Expr} {f : FE} (hv : PE X (.Name nx q1) (tVar x)) (hi : PE X (.Name ni q2) (tVar i)) (hj : PE X (.Name nj q3) (tVar j)) (he : SE X v f)
    (ha : ∀ u, assign (.Subscript (.Subscript (.Name nx q1) (.Name ni q2) p1) (.Name nj q3) p2) X.env u = (do
      let ov ← holding [u] (eval (.Subscript (.Name nx q1) (.Name ni q2) p1) X.env)
      let iv ← holding [u, ov] (eval (.Name nj q3) X.env)
      standAt p2
      holding [u, ov, iv] (setItem ov iv u)
      release [u, ov, iv] []) := by intro _; rfl)
    (hs : swapsWithSole [.Subscript (.Subscript (.Name nx q1) (.Name ni q2) p1) (.Name nj q3) p2] v pos.line X.env = pure false := by rfl) (hw : swappedStores [.Subscript (.Subscript (.Name nx q1) (.Name ni q2) p1) (.Name nj q3) p2] v X.env = pure none := by rfl)
    (h1 : (assignEach [.Subscript (.Subscript (.Name nx q1) (.Name ni q2) p1) (.Name nj q3) p2] X.env).map (·.2) = [assign (.Subscript (.Subscript (.Name nx q1) (.Name ni q2) p1) (.Name nj q3) p2) X.env] := by rfl) :
    SD X x (.Assign [.Subscript (.Subscript (.Name nx q1) (.Name ni q2) p1) (.Name nj q3) p2] v pos) (dSet2 x i j f) := (sd_set2 hv hi hj he ha hs hw h1).1
theorem sd_set2b {i j : Nat} {nx ni nj : Str} {q1 q2 q3 p1 p2 : Pos} {v : Expr} {f : FE} (hv : PE X (.Name nx q1) (tVar x)) (hi : PE X (.Name ni q2) (tVar i)) (hj : PE X (.Name nj q3) (tVar j)) (he : SE X v f)
    (ha : ∀ u, assign (.Subscript (.Subscript (.Name nx q1) (.Name ni q2) p1) (.Name nj q3) p2) X.env u = (do
      let ov ← holding [u] (eval (.Subscript (.Name nx q1) (.Name ni q2) p1) X.env)
      let iv ← holding [u, ov] (eval (.Name nj q3) X.env)
      standAt p2
      holding [u, ov, iv] (setItem ov iv u)
      release [u, ov, iv] []) := by intro _; rfl)
    (hs : swapsWithSole [.Subscript (.Subscript (.Name nx q1) (.Name ni q2) p1) (.Name nj q3) p2] v pos.line X.env = pure false := by rfl) (hw : swappedStores [.Subscript (.Subscript (.Name nx q1) (.Name ni q2) p1) (.Name nj q3) p2] v X.env = pure none := by rfl)
    (h1 : (assignEach [.Subscript (.Subscript (.Name nx q1) (.Name ni q2) p1) (.Name nj q3) p2] X.env).map (·.2) = [assign (.Subscript (.Subscript (.Name nx q1) (.Name ni q2) p1) (.Name nj q3) p2) X.env] := by rfl) :
    SD X x (.Assign [.Subscript (.Subscript (.Name nx q1) (.Name ni q2) p1) (.Name nj q3) p2] v pos) (dSet2v x i j f) := (sd_set2 hv hi hj he ha hs hw h1).2
end
section
variable {X : Cx} {i j : Nat}
noncomputable def intsO : List O → Option (List Int)
  | [] => some []
  | .val (.int k) :: os => (intsO os).bind fun l => some (k :: l)
  | _ => none
theorem intsO_map : ∀ l : List Int, intsO (l.map fun k => O.val (.int k)) = some l
  | [] => rfl
  | k :: l => by
    show (intsO (l.map fun k => O.val (.int k))).bind _ = _
    rw [intsO_map l]
    rfl
theorem intsO_rep {K : PySem.W.Frag} {F F' H : Hp} : ∀ {os : List O} {l : List Int} {vs : List V} {B : List Addr}, intsO os = some l → OReps K F H os vs B → Reps K F' (l.map T.int) vs
  | [], l, vs, B, e, h => by cases e; exact h.1
  | o :: os, l, vs, B, e, h => by
    unfold intsO at e
    split at e
    · next e' => cases e'
    · next k os' e' =>
      cases e'
      obtain ⟨l', e1, e2⟩ := bind_some e
      cases e2
      obtain ⟨v, r, B1, C, rfl, rfl, h1, h2⟩ := h
      exact ⟨v, r, rfl, h1.2, intsO_rep e1 h2⟩
    · cases e
noncomputable def fSetV (i j : Nat) (f : FO') : FS := fun τ => match τ[i]? with
  | some (some (.own us)) => (f ((hide τ).set i (some (.sh (.lst us))))).bind fun q => match q.1 with
    | .lst os => (intsO os).bind fun l => some (.nx (τ.set j (some (.own (l.map T.int)))))
    | _ => none
  | _ => none
theorem ss_setV {S : Stmt} {f : FO'} (i : Nat) (hS : PSo X S j f) : SS X S (fSetV i j f) := fun F₀ H₀ => PS.weak (fun pins s σ H D I (h : ∃ F₀ H₀, tSetO X.K F₀ H₀ j f D σ H) => by
    obtain ⟨a, b, q⟩ := h
    exact hS a b pins s σ H D I q) fun D σ H hq__ => by
  obtain ⟨F, τ, r, E, e1, q⟩ := hq__
  unfold fSetV at e1
  split at e1
  · next us e3 =>
    obtain ⟨⟨o, τ1⟩, e2, e1⟩ := bind_some e1
    dsimp only at e1
    split at e1
    · next os =>
      obtain ⟨l, e4, e1⟩ := bind_some e1
      cases e1
      obtain ⟨v, h1, a, vs, rfl, h2, h3, h4, h5⟩ := E.sl i _ e3
      refine ⟨L2.upd F a (.lst vs), H, L2.upd F a (.lst vs), _, _, τ1, E.look h1 h2 h3 h5, e2, fun F' H' v' A E' s' ro nd h0 ap => ?_⟩
      have gl := Grow.lent h3 E'.g
      obtain ⟨p, ws, B, rfl, rfl, k1, k2, k3⟩ := ro
      have hp : H p = none := h0 p List.mem_cons_self
      have fp : delA F' [a] p = none := by
        by_cases m : p ∈ [a]
        · exact delA_in m
        · rw [delA_out m]; exact k2
      refine q _ H' _ ((E.grow gl).putOwn2 (i := j) k1 fp (E.g.sH.free hp) (fun k us' p' e5 e6 m => ?_) (intsO_rep e4 k3)) gl.sF
      rw [List.mem_singleton] at m
      subst m
      obtain ⟨v2, g1, q2, ws2, rfl, g2, g3⟩ := E.sl k _ e5
      rw [e6] at g1
      cases g1
      rw [hp] at g2
      cases g2
    · cases e1
  · cases e1
end
end TM

namespace My
open PySem PySem.Spec PyProof.Rows L2 TM
noncomputable def top (i : Nat) : Stmt := PySem.Challenge.pw_echohouse_k71_steps_of_tables.main.body.getD i (.Pass ⟨0, 0, 0, 0⟩)
noncomputable abbrev s_common : Stmt := top 4
noncomputable def b_common (n : Nat) (d_half : List T → Option T) : FS :=
    (fSeq (fPar 0 1 (fCons (fCall dAbs (fCons (fVar 0) fNil)) (fCons (fCall dAbs (fCons (fVar 1) fNil)) fNil)))
    (fSeq (whileT (fTB (fOp gGt (fUn gBits (fVar 1)) (fC (.int 4000)))) (fSeq (fPar 0 1 (fCons (fVar 1) (fCons (fOp gMod (fVar 0) (fVar 1)) fNil)))
    (fIfS (fTB (fOp gGt (fUn gBits (fVar 1)) (fC (.int 4000)))) (fAsg (fCall d_half (fCons (fVar 0) (fCons (fVar 1) fNil))) (gnTup (gnCons (gnName 0) (gnCons (gnName 1) (gnCons (gnName 2) gnNil))))) fNext)) n)
    (fSeq (whileT (fTB (fOp gNe (fVar 1) (fC (.int 0)))) (fPar 0 1 (fCons (fVar 1) (fCons (fOp gMod (fVar 0) (fVar 1)) fNil))) n)
    (fRet (fVar 0)))))
theorem sc_common : FnScope ["one", "other", "factors"] ["one", "other"] (defScope s_common) := ⟨rfl, rfl, rfl, by decide +kernel, rfl, by decide +kernel, by decide +kernel⟩
set_option maxHeartbeats 4000000 in
theorem ok_common {P : Program} {w : World} {K : PySem.W.Frag} {mg : Str → Option Value} {base : Heap} {k : Nat} {f : Addr} {fd : FuncData} {d_half : List T → Option T} {t_SHORT : Tok} (n : Nat) (F : Fun K "common" "common" s_common f fd) (hb : Binds K fd ["one", "other"] []) (hm : mg "common" = some (.ref f)) (D_half : Def P w K mg base k "half" 2 d_half) (m_abs : mg "abs" = none) (g_SHORT : mg "SHORT" = some (.int 4000 t_SHORT)) :
    Def P w K mg base (k + 1) "common" 2 (dOf 3 2 (b_common n d_half)) :=
  def_of F sc_common hb hm fun cdv A outer s H E hr => (sss_cons (ss_par rfl sc_common.nd rfl rfl (by decide) rfl rfl (sa_cons (se_callB ct_abs rfl m_abs rfl (sa_cons (se_var 0 (pv 0)) sa_nil)) (sa_cons (se_callB ct_abs rfl m_abs rfl (sa_cons (se_var 1 (pv 1)) sa_nil)) sa_nil)) rfl)
    (sss_cons (ss_while n PassesOwn.never (st_cmp ot_gt (se_bits (se_var 1 (pv 1))) (se_globI rfl g_SHORT) (nomark _)) (sss_cons (ss_par rfl sc_common.nd rfl rfl (by decide) rfl rfl (sa_cons (se_var 1 (pv 1)) (sa_cons (se_op ot_mod (se_var 0 (pv 0)) (se_var 1 (pv 1))) sa_nil)) rfl)
    (sss_one (ss_if (st_cmp ot_gt (se_bits (se_var 1 (pv 1))) (se_globI rfl g_SHORT) (nomark _)) (sss_one (ss_asg (se_call D_half hr rfl (sa_cons (se_var 0 (pv 0)) (sa_cons (se_var 1 (pv 1)) sa_nil)) (len_cons (len_cons len_nil))) (sg_tup rfl (sgs_cons (sg_name 0 sc_common.nd rfl (Or.inl rfl)) (sgs_cons (sg_name 1 sc_common.nd rfl (Or.inl rfl)) (sgs_cons (sg_name 2 sc_common.nd rfl (Or.inl rfl)) sgs_nil))) (gl_cons (gl_cons (gl_cons gl_nil)))))) sss_nil))))
    (sss_cons (ss_while n PassesOwn.never (st_cmp (ot_ne hr.units) (se_var 1 (pv 1)) se_int (nomark _)) (sss_one (ss_par rfl sc_common.nd rfl rfl (by decide) rfl rfl (sa_cons (se_var 1 (pv 1)) (sa_cons (se_op ot_mod (se_var 0 (pv 0)) (se_var 1 (pv 1))) sa_nil)) rfl)))
    (sss_one (ss_ret (se_var 0 (pv 0)))))))
noncomputable abbrev s_half : Stmt := top 5
theorem nd_divided_0 : (["number", "by"] : List Str).Nodup := by decide +kernel
noncomputable abbrev s_divided : Stmt := top 10
noncomputable def b_divided : FS :=
    (fSeq (fIfS (fTB (fOp gLt (fUn gBits (fVar 1)) (fC (.int 8000)))) (fRet (fComp 1 [1] (fiSeq (fVar 0)) (gnName 0) fAlways (fOp gDiv (fVar 0) (fVar 1)))) fNext)
    fNever)
theorem sc_divided : FnScope ["numbers", "by", "bits", "shift", "inverse", "mask", "lows"] ["numbers", "by"] (defScope s_divided) := ⟨rfl, rfl, rfl, by decide +kernel, rfl, by decide +kernel, by decide +kernel⟩
set_option maxHeartbeats 4000000 in
theorem ok_divided {P : Program} {w : World} {K : PySem.W.Frag} {mg : Str → Option Value} {base : Heap} {k : Nat} {f : Addr} {fd : FuncData} {t_SHORT_QUOTIENT : Tok} (F : Fun K "divided" "divided" s_divided f fd) (hb : Binds K fd ["numbers", "by"] []) (hm : mg "divided" = some (.ref f)) (g_SHORT_QUOTIENT : mg "SHORT_QUOTIENT" = some (.int 8000 t_SHORT_QUOTIENT)) :
    Def P w K mg base (k + 1) "divided" 2 (dOf 7 2 (b_divided)) :=
  def_of F sc_divided hb hm fun cdv A outer s H E hr => (sss_cons (ss_if (st_cmp ot_lt (se_bits (se_var 1 (pv 1))) (se_globI rfl g_SHORT_QUOTIENT) (nomark _)) (sss_one (ss_ret (se_comp (N' := ["number", "by"]) (no := 1) (cap := [1]) rfl rfl (blkScope_of rfl) rfl (cap_of rfl) (si_seq (se_var 0 (pv 0))) (fun _ _ _ _ _ _ => (sg_name 0 nd_divided_0 rfl (Or.inl rfl))) (fun _ _ _ _ _ _ => sts_nil) (fun _ _ _ _ _ _ => (se_op ot_div (se_var 0 (pv 0)) (se_var 1 (pv 1))))))) sss_nil)
    sss_never)
noncomputable abbrev s_frac : Stmt := top 13
noncomputable def b_frac (d_common : List T → Option T) : FS :=
    (fSeq (fIfS (fTB (fOp gEq (fVar 1) (fC (.int 0)))) fNever fNext)
    (fSeq (fSet 2 (fCall d_common (fCons (fVar 0) (fCons (fVar 1) fNil))))
    (fSeq (fIfS (fTB (fOp gLt (fVar 1) (fC (.int 0)))) (fSet 2 (fUn gNeg (fVar 2))) fNext)
    (fSeq (fIfS (fTB (fOp gLt (fUn gBits (fVar 2)) (fC (.int 8000)))) (fRet (fTup (fCons (fOp gDiv (fVar 0) (fVar 2)) (fCons (fOp gDiv (fVar 1) (fVar 2)) fNil)))) fNext)
    fNever))))
theorem sc_frac : FnScope ["top", "bottom", "shared"] ["top", "bottom"] (defScope s_frac) := ⟨rfl, rfl, rfl, by decide +kernel, rfl, by decide +kernel, by decide +kernel⟩
set_option maxHeartbeats 4000000 in
theorem ok_frac {P : Program} {w : World} {K : PySem.W.Frag} {mg : Str → Option Value} {base : Heap} {k : Nat} {f : Addr} {fd : FuncData} {d_common : List T → Option T} {t_SHORT_QUOTIENT : Tok} (F : Fun K "frac" "frac" s_frac f fd) (hb : Binds K fd ["top", "bottom"] []) (hm : mg "frac" = some (.ref f)) (D_common : Def P w K mg base k "common" 2 d_common) (g_SHORT_QUOTIENT : mg "SHORT_QUOTIENT" = some (.int 8000 t_SHORT_QUOTIENT)) :
    Def P w K mg base (k + 1) "frac" 2 (dOf 3 2 (b_frac d_common)) :=
  def_of F sc_frac hb hm fun cdv A outer s H E hr => (sss_cons (ss_if (st_cmp (ot_eq hr.units) (se_var 1 (pv 1)) se_int (nomark _)) (sss_one ss_never) sss_nil)
    (sss_cons (ss_set 2 sc_frac.nd rfl (Or.inl rfl) (se_call D_common hr rfl (sa_cons (se_var 0 (pv 0)) (sa_cons (se_var 1 (pv 1)) sa_nil)) (len_cons (len_cons len_nil))))
    (sss_cons (ss_if (st_cmp ot_lt (se_var 1 (pv 1)) se_int (nomark _)) (sss_one (ss_set 2 sc_frac.nd rfl (Or.inl rfl) (se_un ut_neg (se_var 2 (pv 2))))) sss_nil)
    (sss_cons (ss_if (st_cmp ot_lt (se_bits (se_var 2 (pv 2))) (se_globI rfl g_SHORT_QUOTIENT) (nomark _)) (sss_one (ss_ret (se_tup (sa_cons (se_op ot_div (se_var 0 (pv 0)) (se_var 2 (pv 2))) (sa_cons (se_op ot_div (se_var 1 (pv 1)) (se_var 2 (pv 2))) sa_nil))))) sss_nil)
    sss_never))))
noncomputable abbrev s_shared_bottom : Stmt := top 15
noncomputable def b_shared_bottom (d_common : List T → Option T) : FS :=
    (fSeq (fSet 1 (fC (.int 1)))
    (fSeq (fFor (fiSeq (fVar 0)) (gnTup (gnCons (gnName 2) (gnCons (gnName 3) gnNil))) (fSet 1 (fOp gMulI (fOp gDiv (fVar 1) (fCall d_common (fCons (fVar 1) (fCons (fVar 3) fNil)))) (fVar 3))))
    (fRet (fVar 1))))
theorem sc_shared_bottom : FnScope ["row", "low", "top", "bottom"] ["row"] (defScope s_shared_bottom) := ⟨rfl, rfl, rfl, by decide +kernel, rfl, by decide +kernel, by decide +kernel⟩
set_option maxHeartbeats 4000000 in
theorem ok_shared_bottom {P : Program} {w : World} {K : PySem.W.Frag} {mg : Str → Option Value} {base : Heap} {k : Nat} {f : Addr} {fd : FuncData} {d_common : List T → Option T} (F : Fun K "shared_bottom" "shared_bottom" s_shared_bottom f fd) (hb : Binds K fd ["row"] []) (hm : mg "shared_bottom" = some (.ref f)) (D_common : Def P w K mg base k "common" 2 d_common) :
    Def P w K mg base (k + 1) "shared_bottom" 1 (dOf 4 1 (b_shared_bottom d_common)) :=
  def_of F sc_shared_bottom hb hm fun cdv A outer s H E hr => (sss_cons (ss_set 1 sc_shared_bottom.nd rfl (Or.inl rfl) se_int)
    (sss_cons (ss_for PassesOwn.never rfl (si_seq (se_var 0 (pv 0))) (sg_tup rfl (sgs_cons (sg_name 2 sc_shared_bottom.nd rfl (Or.inl rfl)) (sgs_cons (sg_name 3 sc_shared_bottom.nd rfl (Or.inl rfl)) sgs_nil)) (gl_cons (gl_cons gl_nil))) (sss_one (ss_set 1 sc_shared_bottom.nd rfl (Or.inl rfl) (se_op ot_mulI (se_op ot_div (se_var 1 (pv 1)) (se_call D_common hr rfl (sa_cons (se_var 1 (pv 1)) (sa_cons (se_var 3 (pv 3)) sa_nil)) (len_cons (len_cons len_nil)))) (se_var 3 (pv 3))))))
    (sss_one (ss_ret (se_var 1 (pv 1))))))
theorem nd_raised_0 : (["top", "bottom", "low"] : List Str).Nodup := by decide +kernel
noncomputable abbrev s_raised : Stmt := top 16
noncomputable def b_raised : FS :=
    (fRet (fComp 2 [1] (fiSeq (fVar 0)) (gnTup (gnCons (gnName 0) (gnCons (gnName 1) gnNil))) fAlways (fOp gMulI (fVar 0) (fOp gDiv (fVar 2) (fVar 1)))))
theorem sc_raised : FnScope ["row", "low"] ["row", "low"] (defScope s_raised) := ⟨rfl, rfl, rfl, by decide +kernel, rfl, by decide +kernel, by decide +kernel⟩
set_option maxHeartbeats 4000000 in
theorem ok_raised {P : Program} {w : World} {K : PySem.W.Frag} {mg : Str → Option Value} {base : Heap} {k : Nat} {f : Addr} {fd : FuncData} (F : Fun K "raised" "raised" s_raised f fd) (hb : Binds K fd ["row", "low"] []) (hm : mg "raised" = some (.ref f)) :
    Def P w K mg base (k + 1) "raised" 2 (dOf 2 2 (b_raised)) :=
  def_of F sc_raised hb hm fun cdv A outer s H E hr => (sss_one (ss_ret (se_comp (N' := ["top", "bottom", "low"]) (no := 2) (cap := [1]) rfl rfl (blkScope_of rfl) rfl (cap_of rfl) (si_seq (se_var 0 (pv 0))) (fun _ _ _ _ _ _ => (sg_tup rfl (sgs_cons (sg_name 0 nd_raised_0 rfl (Or.inl rfl)) (sgs_cons (sg_name 1 nd_raised_0 rfl (Or.inl rfl)) sgs_nil)) (gl_cons (gl_cons gl_nil)))) (fun _ _ _ _ _ _ => sts_nil) (fun _ _ _ _ _ _ => (se_op ot_mulI (se_var 0 (pv 0)) (se_op ot_div (se_var 2 (pv 2)) (se_var 1 (pv 1))))))))
theorem nd_cleared_0 : (["number", "less", "here", "there"] : List Str).Nodup := by decide +kernel
noncomputable abbrev s_cleared : Stmt := top 18
noncomputable def b_cleared (d_divided : List T → Option T) : FS :=
    (fSeq (fSet 2 (fC (.int 1)))
    (fSeq (fFor (fiSeq (fVar 1)) (gnTup (gnCons (gnName 3) (gnCons (gnName 4) gnNil))) (fSeq (fAsg (fTup (fCons (fOp gIx (fVar 4) (fVar 3)) (fCons (fOp gIx (fVar 0) (fVar 3)) fNil))) (gnTup (gnCons (gnName 5) (gnCons (gnName 6) gnNil))))
    (fSeq (fSet 0 (fCall d_divided (fCons (fComp 2 [5, 6] (fiZip (fCons (fVar 0) (fCons (fVar 4) fNil))) (gnTup (gnCons (gnName 0) (gnCons (gnName 1) gnNil))) fAlways (fOp gSub (fOp gMulI (fVar 2) (fVar 0)) (fOp gMulI (fVar 3) (fVar 1)))) (fCons (fVar 2) fNil))))
    (fSet 2 (fVar 5)))))
    (fRet (fVar 0))))
theorem sc_cleared : FnScope ["row", "kept", "ahead", "place", "other", "here", "there"] ["row", "kept"] (defScope s_cleared) := ⟨rfl, rfl, rfl, by decide +kernel, rfl, by decide +kernel, by decide +kernel⟩
set_option maxHeartbeats 4000000 in
theorem ok_cleared {P : Program} {w : World} {K : PySem.W.Frag} {mg : Str → Option Value} {base : Heap} {k : Nat} {f : Addr} {fd : FuncData} {d_divided : List T → Option T} (F : Fun K "cleared" "cleared" s_cleared f fd) (hb : Binds K fd ["row", "kept"] []) (hm : mg "cleared" = some (.ref f)) (D_divided : Def P w K mg base k "divided" 2 d_divided) (m_zip : mg "zip" = none) :
    Def P w K mg base (k + 1) "cleared" 2 (dOf 7 2 (b_cleared d_divided)) :=
  def_of F sc_cleared hb hm fun cdv A outer s H E hr => (sss_cons (ss_set 2 sc_cleared.nd rfl (Or.inl rfl) se_int)
    (sss_cons (ss_for PassesOwn.never rfl (si_seq (se_var 1 (pv 1))) (sg_tup rfl (sgs_cons (sg_name 3 sc_cleared.nd rfl (Or.inl rfl)) (sgs_cons (sg_name 4 sc_cleared.nd rfl (Or.inl rfl)) sgs_nil)) (gl_cons (gl_cons gl_nil))) (sss_cons (ss_asg (se_tup (sa_cons (se_ix xt_ix (se_var 4 (pv 4)) (se_var 3 (pv 3)) (fun _ _ => rfl)) (sa_cons (se_ix xt_ix (se_var 0 (pv 0)) (se_var 3 (pv 3)) (fun _ _ => rfl)) sa_nil))) (sg_tup rfl (sgs_cons (sg_name 5 sc_cleared.nd rfl (Or.inr rfl)) (sgs_cons (sg_name 6 sc_cleared.nd rfl (Or.inr rfl)) sgs_nil)) (gl_cons (gl_cons gl_nil))))
    (sss_cons (ss_set 0 sc_cleared.nd rfl (Or.inl rfl) (se_call D_divided hr rfl (sa_cons (se_comp (N' := ["number", "less", "here", "there"]) (no := 2) (cap := [5, 6]) rfl rfl (blkScope_of rfl) rfl (cap_of rfl) (si_zip rfl m_zip (sa_cons (se_var 0 (pv 0)) (sa_cons (se_var 4 (pv 4)) sa_nil))) (fun _ _ _ _ _ _ => (sg_tup rfl (sgs_cons (sg_name 0 nd_cleared_0 rfl (Or.inl rfl)) (sgs_cons (sg_name 1 nd_cleared_0 rfl (Or.inl rfl)) sgs_nil)) (gl_cons (gl_cons gl_nil)))) (fun _ _ _ _ _ _ => sts_nil) (fun _ _ _ _ _ _ => (se_op ot_sub (se_op ot_mulI (se_var 2 (pv 2)) (se_var 0 (pv 0))) (se_op ot_mulI (se_var 3 (pv 3)) (se_var 1 (pv 1)))))) (sa_cons (se_var 2 (pv 2)) sa_nil)) (len_cons (len_cons len_nil))))
    (sss_one (ss_set 2 sc_cleared.nd rfl (Or.inl rfl) (se_var 5 (pv 5)))))))
    (sss_one (ss_ret (se_var 0 (pv 0))))))
noncomputable abbrev s_steps_of : Stmt := top 20
noncomputable def b_steps_of (d_shared_bottom d_raised d_cleared d_frac : List T → Option T) : FSO :=
    (fYO (ySeq (yLift (fParOwn 1 2))
    (ySeq (yLift (fSet 3 (fC (.int 1))))
    (ySeq (yFor (fiEnum (fCons (fVar 0) fNil)) (gnTup (gnCons (gnName 4) (gnCons (gnName 5) gnNil))) (ySeq (yLift (fSet 6 (fCall d_shared_bottom (fCons (fVar 5) fNil))))
    (ySeq (yLift (fSet 7 (fView 2 (fCall d_cleared (fCons (fCall d_raised (fCons (fVar 5) (fCons (fVar 6) fNil))) (fCons (fVar 2) fNil))))))
    (ySeq (yLift (fApp 1 (fCall d_frac (fCons (fOp gIx (fVar 7) (fVar 4)) (fCons (fOp gMulI (fVar 3) (fVar 6)) fNil)))))
    (ySeq (yIf (fTB (fOp gLe (fOp gIx (fVar 7) (fVar 4)) (fC (.int 0)))) (yRet (fTake 1)) yNext)
    (ySeq (yLift (fApp 2 (fTup (fCons (fVar 4) (fCons (fVar 7) fNil)))))
    (yLift (fSet 3 (fOp gIx (fVar 7) (fVar 4))))))))))
    (yRet (fTake 1))))))
theorem sc_steps_of : FnScope ["table", "steps", "kept", "ahead", "place", "row", "low", "left"] ["table"] (defScope s_steps_of) := ⟨rfl, rfl, rfl, by decide +kernel, rfl, by decide +kernel, by decide +kernel⟩
set_option maxHeartbeats 4000000 in
theorem okO_steps_of {P : Program} {w : World} {K : PySem.W.Frag} {mg : Str → Option Value} {base : Heap} {k : Nat} {f : Addr} {fd : FuncData} {d_shared_bottom : List T → Option T} {d_raised : List T → Option T} {d_cleared : List T → Option T} {d_frac : List T → Option T} (F : Fun K "steps_of" "steps_of" s_steps_of f fd) (hb : Binds K fd ["table"] []) (hm : mg "steps_of" = some (.ref f)) (D_shared_bottom : Def P w K mg base k "shared_bottom" 1 d_shared_bottom) (D_raised : Def P w K mg base k "raised" 2 d_raised) (D_cleared : Def P w K mg base k "cleared" 2 d_cleared) (D_frac : Def P w K mg base k "frac" 2 d_frac) (m_enumerate : mg "enumerate" = none) :
    DefO P w K mg base (k + 1) "steps_of" 1 (dOfO 8 1 (b_steps_of d_shared_bottom d_raised d_cleared d_frac)) :=
  defO_of F sc_steps_of hb hm fun cdv A outer s H E hr => (sso_y (sys_cons (sy_lift (ss_parOwn rfl sc_steps_of.nd rfl rfl (by decide) rfl rfl rfl))
    (sys_cons (sy_lift (ss_set 3 sc_steps_of.nd rfl (Or.inl rfl) se_int))
    (sys_cons (sy_for PassesOwn.never rfl (si_enum rfl m_enumerate (sa_cons (se_var 0 (pv 0)) sa_nil)) (sg_tup rfl (sgs_cons (sg_name 4 sc_steps_of.nd rfl (Or.inl rfl)) (sgs_cons (sg_name 5 sc_steps_of.nd rfl (Or.inl rfl)) sgs_nil)) (gl_cons (gl_cons gl_nil))) (sys_cons (sy_lift (ss_set 6 sc_steps_of.nd rfl (Or.inl rfl) (se_call D_shared_bottom hr rfl (sa_cons (se_var 5 (pv 5)) sa_nil) (len_cons len_nil))))
    (sys_cons (sy_lift (ss_set 7 sc_steps_of.nd rfl (Or.inl rfl) (se_view 2 (se_call D_cleared hr rfl (sa_cons (se_call D_raised hr rfl (sa_cons (se_var 5 (pv 5)) (sa_cons (se_var 6 (pv 6)) sa_nil)) (len_cons (len_cons len_nil))) (sa_cons (se_var 2 (pv 2)) sa_nil)) (len_cons (len_cons len_nil))))))
    (sys_cons (sy_lift (ss_append 1 (pv 1) (se_call D_frac hr rfl (sa_cons (se_ix xt_ix (se_var 7 (pv 7)) (se_var 4 (pv 4)) (fun _ _ => rfl)) (sa_cons (se_op ot_mulI (se_var 3 (pv 3)) (se_var 6 (pv 6))) sa_nil)) (len_cons (len_cons len_nil)))))
    (sys_cons (sy_if (st_cmp ot_le (se_ix xt_ix (se_var 7 (pv 7)) (se_var 4 (pv 4)) (fun _ _ => rfl)) se_int (nomark _)) (sys_one (sy_ret (seo_take 1 (pv 1)))) sys_nil)
    (sys_cons (sy_lift (ss_append 2 (pv 2) (se_tup (sa_cons (se_var 4 (pv 4)) (sa_cons (se_var 7 (pv 7)) sa_nil)))))
    (sys_one (sy_lift (ss_set 3 sc_steps_of.nd rfl (Or.inl rfl) (se_ix xt_ix (se_var 7 (pv 7)) (se_var 4 (pv 4)) (fun _ _ => rfl)))))))))))
    (sys_one (sy_ret (seo_take 1 (pv 1))))))))
noncomputable abbrev s__law_cell : Stmt := top 22
noncomputable def b__law_cell : FS :=
    (fSeq (fIfS (fTB (fOp gLt (fVar 1) (fCall dLen (fCons (fVar 0) fNil)))) (fRet (fOp gIx (fVar 0) (fVar 1))) fNext)
    (fSeq (fSet 2 (fOp gAdd (fOp gMulI (fC (.int 7919)) (fVar 1)) (fC (.int 5))))
    (fSeq (fIfS (fTB (fOp gGt (fCall dLen (fCons (fVar 0) fNil)) (fC (.int 0)))) (fSet 2 (fOp gMod (fOp gAdd (fOp gIx (fVar 0) (fOp gMod (fOp gMulI (fC (.int 7)) (fVar 1)) (fCall dLen (fCons (fVar 0) fNil)))) (fOp gMulI (fC (.int 7919)) (fVar 1))) (fC (.int 2147483647)))) fNext)
    (fRet (fOp gMod (fOp gMulI (fVar 2) (fVar 2)) (fC (.int 2147483629)))))))
theorem sc__law_cell : FnScope ["_law_script", "_law_k", "_law_number"] ["_law_script", "_law_k"] (defScope s__law_cell) := ⟨rfl, rfl, rfl, by decide +kernel, rfl, by decide +kernel, by decide +kernel⟩
set_option maxHeartbeats 4000000 in
theorem ok__law_cell {P : Program} {w : World} {K : PySem.W.Frag} {mg : Str → Option Value} {base : Heap} {k : Nat} {f : Addr} {fd : FuncData} (F : Fun K "_law_cell" "_law_cell" s__law_cell f fd) (hb : Binds K fd ["_law_script", "_law_k"] []) (hm : mg "_law_cell" = some (.ref f)) (m_len : mg "len" = none) :
    Def P w K mg base (k + 1) "_law_cell" 2 (dOf 3 2 (b__law_cell)) :=
  def_of F sc__law_cell hb hm fun cdv A outer s H E hr => (sss_cons (ss_if (st_cmp ot_lt (se_var 1 (pv 1)) (se_callB ct_len rfl m_len PySem.boot_len (sa_cons (se_var 0 (pv 0)) sa_nil)) (nomark _)) (sss_one (ss_ret (se_ix xt_ix (se_var 0 (pv 0)) (se_var 1 (pv 1)) (fun _ _ => rfl)))) sss_nil)
    (sss_cons (ss_set 2 sc__law_cell.nd rfl (Or.inl rfl) (se_op ot_add (se_op ot_mulI se_int (se_var 1 (pv 1))) se_int))
    (sss_cons (ss_if (st_cmp ot_gt (se_callB ct_len rfl m_len PySem.boot_len (sa_cons (se_var 0 (pv 0)) sa_nil)) se_int (nomark _)) (sss_one (ss_set 2 sc__law_cell.nd rfl (Or.inl rfl) (se_op ot_mod (se_op ot_add (se_ix xt_ix (se_var 0 (pv 0)) (se_op ot_mod (se_op ot_mulI se_int (se_var 1 (pv 1))) (se_callB ct_len rfl m_len PySem.boot_len (sa_cons (se_var 0 (pv 0)) sa_nil))) (fun _ _ => rfl)) (se_op ot_mulI se_int (se_var 1 (pv 1)))) se_int))) sss_nil)
    (sss_one (ss_ret (se_op ot_mod (se_op ot_mulI (se_var 2 (pv 2)) (se_var 2 (pv 2))) se_int))))))
noncomputable abbrev s__law_mix : Stmt := top 23
noncomputable def b__law_mix : FS :=
    (fSeq (fSet 2 (fOp gMod (fOp gAdd (fOp gAdd (fVar 0) (fOp gMulI (fC (.int 7919)) (fVar 1))) (fC (.int 11))) (fC (.int 2147483647))))
    (fSeq (fSet 2 (fOp gMod (fOp gAdd (fOp gMulI (fVar 2) (fVar 2)) (fOp gMulI (fC (.int 48271)) (fVar 1))) (fC (.int 2147483629))))
    (fRet (fOp gMod (fOp gAdd (fOp gAdd (fOp gMulI (fVar 2) (fVar 2)) (fOp gMulI (fC (.int 7)) (fVar 2))) (fVar 1)) (fC (.int 2147483587))))))
theorem sc__law_mix : FnScope ["_law_cell_here", "_law_k", "_law_number"] ["_law_cell_here", "_law_k"] (defScope s__law_mix) := ⟨rfl, rfl, rfl, by decide +kernel, rfl, by decide +kernel, by decide +kernel⟩
set_option maxHeartbeats 4000000 in
theorem ok__law_mix {P : Program} {w : World} {K : PySem.W.Frag} {mg : Str → Option Value} {base : Heap} {k : Nat} {f : Addr} {fd : FuncData} (F : Fun K "_law_mix" "_law_mix" s__law_mix f fd) (hb : Binds K fd ["_law_cell_here", "_law_k"] []) (hm : mg "_law_mix" = some (.ref f)) :
    Def P w K mg base (k + 1) "_law_mix" 2 (dOf 3 2 (b__law_mix)) :=
  def_of F sc__law_mix hb hm fun cdv A outer s H E hr => (sss_cons (ss_set 2 sc__law_mix.nd rfl (Or.inl rfl) (se_op ot_mod (se_op ot_add (se_op ot_add (se_var 0 (pv 0)) (se_op ot_mulI se_int (se_var 1 (pv 1)))) se_int) se_int))
    (sss_cons (ss_set 2 sc__law_mix.nd rfl (Or.inl rfl) (se_op ot_mod (se_op ot_add (se_op ot_mulI (se_var 2 (pv 2)) (se_var 2 (pv 2))) (se_op ot_mulI se_int (se_var 1 (pv 1)))) se_int))
    (sss_one (ss_ret (se_op ot_mod (se_op ot_add (se_op ot_add (se_op ot_mulI (se_var 2 (pv 2)) (se_var 2 (pv 2))) (se_op ot_mulI se_int (se_var 2 (pv 2)))) (se_var 1 (pv 1))) se_int)))))
noncomputable abbrev s__law_same : Stmt := top 24
noncomputable def b__law_same (d__law_same : List T → Option T) : FS :=
    (fSeq (fIfS (fTru (fCall dIsi (fCons (fVar 1) (fCons (fTup (fCons (fC (.ty "list")) (fCons (fC (.ty "tuple")) fNil))) fNil)))) (fSeq (fIfS (fOr (fTB (fOp gNe (fCall dIsi (fCons (fVar 1) (fCons (fC (.ty "list")) fNil))) (fCall dIsi (fCons (fVar 0) (fCons (fC (.ty "list")) fNil))))) (fNot (fTru (fCall dIsi (fCons (fVar 0) (fCons (fTup (fCons (fC (.ty "list")) (fCons (fC (.ty "tuple")) fNil))) fNil)))))) (fRet (fC (.bl false))) fNext)
    (fSeq (fIfS (fTB (fOp gNe (fCall dLen (fCons (fVar 0) fNil)) (fCall dLen (fCons (fVar 1) fNil)))) (fRet (fC (.bl false))) fNext)
    (fSeq (fFor (fiZip (fCons (fVar 0) (fCons (fVar 1) fNil))) (gnTup (gnCons (gnName 2) (gnCons (gnName 3) gnNil))) (fIfS (fNot (fTru (fCall d__law_same (fCons (fVar 2) (fCons (fVar 3) fNil))))) (fRet (fC (.bl false))) fNext))
    (fRet (fC (.bl true)))))) fNext)
    (fSeq (fIfS (fTB (fOp gIs (fVar 1) (fC .non))) (fRet (fOp gIs (fVar 0) (fC .non))) fNext)
    (fSeq (fIfS (fTru (fCall dIsi (fCons (fVar 1) (fCons (fC (.ty "str")) fNil)))) (fRet (fAndV (fCall dIsi (fCons (fVar 0) (fCons (fC (.ty "str")) fNil))) (fOp gEq (fVar 0) (fVar 1)))) fNext)
    (fRet (fAndV (fCall dIsi (fCons (fVar 0) (fCons (fC (.ty "int")) fNil))) (fAndV (fUn gNot (fCall dIsi (fCons (fVar 0) (fCons (fC (.ty "bool")) fNil)))) (fOp gEq (fVar 0) (fVar 1))))))))
theorem sc__law_same : FnScope ["_law_found", "_law_due_here", "_law_one", "_law_other"] ["_law_found", "_law_due_here"] (defScope s__law_same) := ⟨rfl, rfl, rfl, by decide +kernel, rfl, by decide +kernel, by decide +kernel⟩
set_option maxHeartbeats 4000000 in
theorem ok__law_same {P : Program} {w : World} {K : PySem.W.Frag} {mg : Str → Option Value} {base : Heap} {k : Nat} {f : Addr} {fd : FuncData} {d__law_same : List T → Option T} (F : Fun K "_law_same" "_law_same" s__law_same f fd) (hb : Binds K fd ["_law_found", "_law_due_here"] []) (hm : mg "_law_same" = some (.ref f)) (D__law_same : Def P w K mg base k "_law_same" 2 d__law_same) (m_list : mg "list" = none) (m_tuple : mg "tuple" = none) (m_isinstance : mg "isinstance" = none) (m_len : mg "len" = none) (m_zip : mg "zip" = none) (m_str : mg "str" = none) (m_int : mg "int" = none) (m_bool : mg "bool" = none) :
    Def P w K mg base (k + 1) "_law_same" 2 (dOf 4 2 (b__law_same d__law_same)) :=
  def_of F sc__law_same hb hm fun cdv A outer s H E hr => (sss_cons (ss_if (st_val (se_callB ct_isi rfl m_isinstance rfl (sa_cons (se_var 1 (pv 1)) (sa_cons (se_tup (sa_cons (se_ty rfl m_list rfl) (sa_cons (se_ty rfl m_tuple rfl) sa_nil))) sa_nil)))) (sss_cons (ss_if (SW.st (sw_or (st_cmp (ot_ne hr.units) (se_callB ct_isi rfl m_isinstance rfl (sa_cons (se_var 1 (pv 1)) (sa_cons (se_ty rfl m_list rfl) sa_nil))) (se_callB ct_isi rfl m_isinstance rfl (sa_cons (se_var 0 (pv 0)) (sa_cons (se_ty rfl m_list rfl) sa_nil))) (nomark _)) (sw_or1 (st_not (st_val (se_callB ct_isi rfl m_isinstance rfl (sa_cons (se_var 0 (pv 0)) (sa_cons (se_tup (sa_cons (se_ty rfl m_list rfl) (sa_cons (se_ty rfl m_tuple rfl) sa_nil))) sa_nil)))))))) (sss_one (ss_ret se_bl)) sss_nil)
    (sss_cons (ss_if (st_cmp (ot_ne hr.units) (se_callB ct_len rfl m_len PySem.boot_len (sa_cons (se_var 0 (pv 0)) sa_nil)) (se_callB ct_len rfl m_len PySem.boot_len (sa_cons (se_var 1 (pv 1)) sa_nil)) (nomark _)) (sss_one (ss_ret se_bl)) sss_nil)
    (sss_cons (ss_for PassesOwn.never rfl (si_zip rfl m_zip (sa_cons (se_var 0 (pv 0)) (sa_cons (se_var 1 (pv 1)) sa_nil))) (sg_tup rfl (sgs_cons (sg_name 2 sc__law_same.nd rfl (Or.inl rfl)) (sgs_cons (sg_name 3 sc__law_same.nd rfl (Or.inl rfl)) sgs_nil)) (gl_cons (gl_cons gl_nil))) (sss_one (ss_if (st_not (st_val (se_call D__law_same hr rfl (sa_cons (se_var 2 (pv 2)) (sa_cons (se_var 3 (pv 3)) sa_nil)) (len_cons (len_cons len_nil))))) (sss_one (ss_ret se_bl)) sss_nil)))
    (sss_one (ss_ret se_bl))))) sss_nil)
    (sss_cons (ss_if (st_cmp ot_is (se_var 1 (pv 1)) se_non (nomark _)) (sss_one (ss_ret (se_cmp ot_is (se_var 0 (pv 0)) se_non (nomark _)))) sss_nil)
    (sss_cons (ss_if (st_val (se_callB ct_isi rfl m_isinstance rfl (sa_cons (se_var 1 (pv 1)) (sa_cons (se_ty rfl m_str rfl) sa_nil)))) (sss_one (ss_ret (se_and (se_callB ct_isi rfl m_isinstance rfl (sa_cons (se_var 0 (pv 0)) (sa_cons (se_ty rfl m_str rfl) sa_nil))) (se_one (se_cmp (ot_eq hr.units) (se_var 0 (pv 0)) (se_var 1 (pv 1)) (nomark _)))))) sss_nil)
    (sss_one (ss_ret (se_and (se_callB ct_isi rfl m_isinstance rfl (sa_cons (se_var 0 (pv 0)) (sa_cons (se_ty rfl m_int rfl) sa_nil))) (se_and (se_not (se_callB ct_isi rfl m_isinstance rfl (sa_cons (se_var 0 (pv 0)) (sa_cons (se_ty rfl m_bool rfl) sa_nil)))) (se_one (se_cmp (ot_eq hr.units) (se_var 0 (pv 0)) (se_var 1 (pv 1)) (nomark _))))))))))
noncomputable abbrev s__law_digits : Stmt := top 25
noncomputable def b__law_digits : FS :=
    (fSeq (fSetOwn 3 fNil)
    (fSeq (fFor (fiRng1 (fCons (fVar 2) fNil)) (gnName 4) (fSeq (fApp 3 (fOp gMod (fVar 0) (fVar 1)))
    (fSet 0 (fOp gDiv (fVar 0) (fVar 1)))))
    (fRet (fVar 3))))
theorem sc__law_digits : FnScope ["_law_number", "_law_by", "_law_many", "_law_found", "_law_k"] ["_law_number", "_law_by", "_law_many"] (defScope s__law_digits) := ⟨rfl, rfl, rfl, by decide +kernel, rfl, by decide +kernel, by decide +kernel⟩
set_option maxHeartbeats 4000000 in
theorem ok__law_digits {P : Program} {w : World} {K : PySem.W.Frag} {mg : Str → Option Value} {base : Heap} {k : Nat} {f : Addr} {fd : FuncData} (F : Fun K "_law_digits" "_law_digits" s__law_digits f fd) (hb : Binds K fd ["_law_number", "_law_by", "_law_many"] []) (hm : mg "_law_digits" = some (.ref f)) (m_range : mg "range" = none) :
    Def P w K mg base (k + 1) "_law_digits" 3 (dOf 5 3 (b__law_digits)) :=
  def_of F sc__law_digits hb hm fun cdv A outer s H E hr => (sss_cons (ss_setOwn 3 sc__law_digits.nd rfl (Or.inl rfl) sa_nil)
    (sss_cons (ss_for PassesOwn.never rfl (si_rng1 rfl m_range (sa_cons (se_var 2 (pv 2)) sa_nil)) (sg_name 4 sc__law_digits.nd rfl (Or.inl rfl)) (sss_cons (ss_append 3 (pv 3) (se_op ot_mod (se_var 0 (pv 0)) (se_var 1 (pv 1))))
    (sss_one (ss_set 0 sc__law_digits.nd rfl (Or.inl rfl) (se_op ot_div (se_var 0 (pv 0)) (se_var 1 (pv 1)))))))
    (sss_one (ss_ret (se_var 3 (pv 3))))))
noncomputable abbrev s__law_frac : Stmt := top 26
noncomputable def b__law_frac (n : Nat) : FS :=
    (fSeq (fSet 2 (fCall dAbs (fCons (fVar 0) fNil)))
    (fSeq (fSet 3 (fCall dAbs (fCons (fVar 1) fNil)))
    (fSeq (whileT (fTB (fOp gGt (fVar 3) (fC (.int 0)))) (fPar 2 3 (fCons (fVar 3) (fCons (fOp gMod (fVar 2) (fVar 3)) fNil))) n)
    (fSeq (fIfS (fTB (fOp gLt (fVar 1) (fC (.int 0)))) (fSet 2 (fOp gSub (fC (.int 0)) (fVar 2))) fNext)
    (fRet (fTup (fCons (fOp gDiv (fVar 0) (fVar 2)) (fCons (fOp gDiv (fVar 1) (fVar 2)) fNil))))))))
theorem sc__law_frac : FnScope ["_law_top", "_law_bottom", "_law_one", "_law_other"] ["_law_top", "_law_bottom"] (defScope s__law_frac) := ⟨rfl, rfl, rfl, by decide +kernel, rfl, by decide +kernel, by decide +kernel⟩
set_option maxHeartbeats 4000000 in
theorem ok__law_frac {P : Program} {w : World} {K : PySem.W.Frag} {mg : Str → Option Value} {base : Heap} {k : Nat} {f : Addr} {fd : FuncData} (n : Nat) (F : Fun K "_law_frac" "_law_frac" s__law_frac f fd) (hb : Binds K fd ["_law_top", "_law_bottom"] []) (hm : mg "_law_frac" = some (.ref f)) (m_abs : mg "abs" = none) :
    Def P w K mg base (k + 1) "_law_frac" 2 (dOf 4 2 (b__law_frac n)) :=
  def_of F sc__law_frac hb hm fun cdv A outer s H E hr => (sss_cons (ss_set 2 sc__law_frac.nd rfl (Or.inl rfl) (se_callB ct_abs rfl m_abs rfl (sa_cons (se_var 0 (pv 0)) sa_nil)))
    (sss_cons (ss_set 3 sc__law_frac.nd rfl (Or.inl rfl) (se_callB ct_abs rfl m_abs rfl (sa_cons (se_var 1 (pv 1)) sa_nil)))
    (sss_cons (ss_while n PassesOwn.never (st_cmp ot_gt (se_var 3 (pv 3)) se_int (nomark _)) (sss_one (ss_par rfl sc__law_frac.nd rfl rfl (by decide) rfl rfl (sa_cons (se_var 3 (pv 3)) (sa_cons (se_op ot_mod (se_var 2 (pv 2)) (se_var 3 (pv 3))) sa_nil)) rfl)))
    (sss_cons (ss_if (st_cmp ot_lt (se_var 1 (pv 1)) se_int (nomark _)) (sss_one (ss_set 2 sc__law_frac.nd rfl (Or.inl rfl) (se_op ot_sub se_int (se_var 2 (pv 2))))) sss_nil)
    (sss_one (ss_ret (se_tup (sa_cons (se_op ot_div (se_var 0 (pv 0)) (se_var 2 (pv 2))) (sa_cons (se_op ot_div (se_var 1 (pv 1)) (se_var 2 (pv 2))) sa_nil)))))))))
theorem nd__law_some_0 : (["_law_one"] : List Str).Nodup := by decide +kernel
noncomputable abbrev s__law_some : Stmt := top 27
noncomputable def b__law_some (d__law_digits d__law_frac d__law_mix : List T → Option T) : FSO :=
    (fYO (ySeq (yIf (fTB (fOp gEq (fOp gMod (fVar 0) (fC (.int 2))) (fC (.int 1)))) (yRet (fCompO 1 [] (fiSeq (fCall d__law_digits (fCons (fOp gDiv (fVar 0) (fC (.int 2))) (fCons (fC (.int 228)) (fCons (fVar 1) fNil))))) (gnName 0) fAlways (fVal (fCall d__law_frac (fCons (fOp gSub (fOp gMod (fVar 0) (fC (.int 19))) (fC (.int 9))) (fCons (fOp gAdd (fC (.int 1)) (fOp gDiv (fVar 0) (fC (.int 19)))) fNil)))))) yNext)
    (ySeq (yLift (fSetOwn 2 fNil))
    (ySeq (yLift (fFor (fiRng1 (fCons (fVar 1) fNil)) (gnName 3) (fSeq (fSet 4 (fCall d__law_mix (fCons (fVar 0) (fCons (fVar 3) fNil))))
    (fSeq (fSetOwn 5 (fCons (fTup (fCons (fC (.int 0)) (fCons (fC (.int 1)) fNil))) (fCons (fTup (fCons (fOp gSub (fOp gMod (fOp gDiv (fVar 4) (fC (.int 4))) (fC (.int 5))) (fC (.int 2))) (fCons (fC (.int 1)) fNil))) (fCons (fCall d__law_frac (fCons (fOp gSub (fOp gMod (fOp gDiv (fVar 4) (fC (.int 4))) (fC (.int 19))) (fC (.int 9))) (fCons (fOp gAdd (fC (.int 1)) (fOp gMod (fOp gDiv (fVar 4) (fC (.int 80))) (fC (.int 12)))) fNil))) fNil))))
    (fApp 2 (fOp gIx (fOp gAdd (fVar 5) (fLst (fCons (fTup (fCons (fC (.int 0)) (fCons (fC (.int 1)) fNil))) (fCons (fTup (fCons (fC (.int 1)) (fCons (fC (.int 1)) fNil))) fNil)))) (fOp gMod (fVar 4) (fC (.int 5)))))))))
    (yRet (fTake 2))))))
theorem sc__law_some : FnScope ["_law_cell_here", "_law_many", "_law_found", "_law_k", "_law_number", "_law_some_here"] ["_law_cell_here", "_law_many"] (defScope s__law_some) := ⟨rfl, rfl, rfl, by decide +kernel, rfl, by decide +kernel, by decide +kernel⟩
set_option maxHeartbeats 4000000 in
theorem okO__law_some {P : Program} {w : World} {K : PySem.W.Frag} {mg : Str → Option Value} {base : Heap} {k : Nat} {f : Addr} {fd : FuncData} {d__law_digits : List T → Option T} {d__law_frac : List T → Option T} {d__law_mix : List T → Option T} (F : Fun K "_law_some" "_law_some" s__law_some f fd) (hb : Binds K fd ["_law_cell_here", "_law_many"] []) (hm : mg "_law_some" = some (.ref f)) (D__law_digits : Def P w K mg base k "_law_digits" 3 d__law_digits) (D__law_frac : Def P w K mg base k "_law_frac" 2 d__law_frac) (D__law_mix : Def P w K mg base k "_law_mix" 2 d__law_mix) (m_range : mg "range" = none) :
    DefO P w K mg base (k + 1) "_law_some" 2 (dOfO 6 2 (b__law_some d__law_digits d__law_frac d__law_mix)) :=
  defO_of F sc__law_some hb hm fun cdv A outer s H E hr => (sso_y (sys_cons (sy_if (st_cmp (ot_eq hr.units) (se_op ot_mod (se_var 0 (pv 0)) se_int) se_int (nomark _)) (sys_one (sy_ret (seo_comp (N' := ["_law_one"]) (no := 1) (cap := []) rfl rfl (blkScope_of rfl) rfl (cap_of rfl) (si_seq (se_call D__law_digits hr rfl (sa_cons (se_op ot_div (se_var 0 (pv 0)) se_int) (sa_cons se_int (sa_cons (se_var 1 (pv 1)) sa_nil))) (len_cons (len_cons (len_cons len_nil))))) (fun _ _ _ _ _ _ => (sg_name 0 nd__law_some_0 rfl (Or.inl rfl))) (fun _ _ _ _ _ _ => sts_nil) (fun _ _ _ _ _ _ => (SE.seo (se_call D__law_frac hr rfl (sa_cons (se_op ot_sub (se_op ot_mod (se_var 0 (pv 0)) se_int) se_int) (sa_cons (se_op ot_add se_int (se_op ot_div (se_var 0 (pv 0)) se_int)) sa_nil)) (len_cons (len_cons len_nil)))))))) sys_nil)
    (sys_cons (sy_lift (ss_setOwn 2 sc__law_some.nd rfl (Or.inl rfl) sa_nil))
    (sys_cons (sy_lift (ss_for PassesOwn.never rfl (si_rng1 rfl m_range (sa_cons (se_var 1 (pv 1)) sa_nil)) (sg_name 3 sc__law_some.nd rfl (Or.inl rfl)) (sss_cons (ss_set 4 sc__law_some.nd rfl (Or.inl rfl) (se_call D__law_mix hr rfl (sa_cons (se_var 0 (pv 0)) (sa_cons (se_var 3 (pv 3)) sa_nil)) (len_cons (len_cons len_nil))))
    (sss_cons (ss_setOwn 5 sc__law_some.nd rfl (Or.inl rfl) (sa_cons (se_tup (sa_cons se_int (sa_cons se_int sa_nil))) (sa_cons (se_tup (sa_cons (se_op ot_sub (se_op ot_mod (se_op ot_div (se_var 4 (pv 4)) se_int) se_int) se_int) (sa_cons se_int sa_nil))) (sa_cons (se_call D__law_frac hr rfl (sa_cons (se_op ot_sub (se_op ot_mod (se_op ot_div (se_var 4 (pv 4)) se_int) se_int) se_int) (sa_cons (se_op ot_add se_int (se_op ot_mod (se_op ot_div (se_var 4 (pv 4)) se_int) se_int)) sa_nil)) (len_cons (len_cons len_nil))) sa_nil))))
    (sss_one (ss_append 2 (pv 2) (se_ix xt_ix (se_op ot_add (se_var 5 (pv 5)) (se_lst (sa_cons (se_tup (sa_cons se_int (sa_cons se_int sa_nil))) (sa_cons (se_tup (sa_cons se_int (sa_cons se_int sa_nil))) sa_nil)))) (se_op ot_mod (se_var 4 (pv 4)) se_int) (fun _ _ => rfl))))))))
    (sys_one (sy_ret (seo_take 2 (pv 2))))))))
noncomputable abbrev s__law_add : Stmt := top 28
noncomputable def b__law_add (d__law_frac : List T → Option T) : FS :=
    (fRet (fCall d__law_frac (fCons (fOp gAdd (fOp gMulI (fOp gIx (fVar 0) (fC (.int 0))) (fOp gIx (fVar 1) (fC (.int 1)))) (fOp gMulI (fOp gIx (fVar 1) (fC (.int 0))) (fOp gIx (fVar 0) (fC (.int 1))))) (fCons (fOp gMulI (fOp gIx (fVar 0) (fC (.int 1))) (fOp gIx (fVar 1) (fC (.int 1)))) fNil))))
theorem sc__law_add : FnScope ["_law_one", "_law_other"] ["_law_one", "_law_other"] (defScope s__law_add) := ⟨rfl, rfl, rfl, by decide +kernel, rfl, by decide +kernel, by decide +kernel⟩
set_option maxHeartbeats 4000000 in
theorem ok__law_add {P : Program} {w : World} {K : PySem.W.Frag} {mg : Str → Option Value} {base : Heap} {k : Nat} {f : Addr} {fd : FuncData} {d__law_frac : List T → Option T} (F : Fun K "_law_add" "_law_add" s__law_add f fd) (hb : Binds K fd ["_law_one", "_law_other"] []) (hm : mg "_law_add" = some (.ref f)) (D__law_frac : Def P w K mg base k "_law_frac" 2 d__law_frac) :
    Def P w K mg base (k + 1) "_law_add" 2 (dOf 2 2 (b__law_add d__law_frac)) :=
  def_of F sc__law_add hb hm fun cdv A outer s H E hr => (sss_one (ss_ret (se_call D__law_frac hr rfl (sa_cons (se_op ot_add (se_op ot_mulI (se_ix xt_ix (se_var 0 (pv 0)) se_int (fun _ _ => rfl)) (se_ix xt_ix (se_var 1 (pv 1)) se_int (fun _ _ => rfl))) (se_op ot_mulI (se_ix xt_ix (se_var 1 (pv 1)) se_int (fun _ _ => rfl)) (se_ix xt_ix (se_var 0 (pv 0)) se_int (fun _ _ => rfl)))) (sa_cons (se_op ot_mulI (se_ix xt_ix (se_var 0 (pv 0)) se_int (fun _ _ => rfl)) (se_ix xt_ix (se_var 1 (pv 1)) se_int (fun _ _ => rfl))) sa_nil)) (len_cons (len_cons len_nil)))))
noncomputable abbrev s__law_times : Stmt := top 29
noncomputable def b__law_times (d__law_frac : List T → Option T) : FS :=
    (fRet (fCall d__law_frac (fCons (fOp gMulI (fOp gIx (fVar 0) (fC (.int 0))) (fOp gIx (fVar 1) (fC (.int 0)))) (fCons (fOp gMulI (fOp gIx (fVar 0) (fC (.int 1))) (fOp gIx (fVar 1) (fC (.int 1)))) fNil))))
theorem sc__law_times : FnScope ["_law_one", "_law_other"] ["_law_one", "_law_other"] (defScope s__law_times) := ⟨rfl, rfl, rfl, by decide +kernel, rfl, by decide +kernel, by decide +kernel⟩
set_option maxHeartbeats 4000000 in
theorem ok__law_times {P : Program} {w : World} {K : PySem.W.Frag} {mg : Str → Option Value} {base : Heap} {k : Nat} {f : Addr} {fd : FuncData} {d__law_frac : List T → Option T} (F : Fun K "_law_times" "_law_times" s__law_times f fd) (hb : Binds K fd ["_law_one", "_law_other"] []) (hm : mg "_law_times" = some (.ref f)) (D__law_frac : Def P w K mg base k "_law_frac" 2 d__law_frac) :
    Def P w K mg base (k + 1) "_law_times" 2 (dOf 2 2 (b__law_times d__law_frac)) :=
  def_of F sc__law_times hb hm fun cdv A outer s H E hr => (sss_one (ss_ret (se_call D__law_frac hr rfl (sa_cons (se_op ot_mulI (se_ix xt_ix (se_var 0 (pv 0)) se_int (fun _ _ => rfl)) (se_ix xt_ix (se_var 1 (pv 1)) se_int (fun _ _ => rfl))) (sa_cons (se_op ot_mulI (se_ix xt_ix (se_var 0 (pv 0)) se_int (fun _ _ => rfl)) (se_ix xt_ix (se_var 1 (pv 1)) se_int (fun _ _ => rfl))) sa_nil)) (len_cons (len_cons len_nil)))))
noncomputable abbrev s__law_weighed : Stmt := top 30
noncomputable def b__law_weighed (d__law_times d__law_add : List T → Option T) : FS :=
    (fSeq (fSet 2 (fTup (fCons (fC (.int 0)) (fCons (fC (.int 1)) fNil))))
    (fSeq (fFor (fiZip (fCons (fVar 0) (fCons (fVar 1) fNil))) (gnTup (gnCons (gnName 3) (gnCons (gnName 4) gnNil))) (fSet 2 (fCall d__law_add (fCons (fVar 2) (fCons (fCall d__law_times (fCons (fVar 3) (fCons (fVar 4) fNil))) fNil)))))
    (fRet (fVar 2))))
theorem sc__law_weighed : FnScope ["_law_one", "_law_other", "_law_total", "_law_here", "_law_there"] ["_law_one", "_law_other"] (defScope s__law_weighed) := ⟨rfl, rfl, rfl, by decide +kernel, rfl, by decide +kernel, by decide +kernel⟩
set_option maxHeartbeats 4000000 in
theorem ok__law_weighed {P : Program} {w : World} {K : PySem.W.Frag} {mg : Str → Option Value} {base : Heap} {k : Nat} {f : Addr} {fd : FuncData} {d__law_times : List T → Option T} {d__law_add : List T → Option T} (F : Fun K "_law_weighed" "_law_weighed" s__law_weighed f fd) (hb : Binds K fd ["_law_one", "_law_other"] []) (hm : mg "_law_weighed" = some (.ref f)) (D__law_times : Def P w K mg base k "_law_times" 2 d__law_times) (D__law_add : Def P w K mg base k "_law_add" 2 d__law_add) (m_zip : mg "zip" = none) :
    Def P w K mg base (k + 1) "_law_weighed" 2 (dOf 5 2 (b__law_weighed d__law_times d__law_add)) :=
  def_of F sc__law_weighed hb hm fun cdv A outer s H E hr => (sss_cons (ss_set 2 sc__law_weighed.nd rfl (Or.inl rfl) (se_tup (sa_cons se_int (sa_cons se_int sa_nil))))
    (sss_cons (ss_for PassesOwn.never rfl (si_zip rfl m_zip (sa_cons (se_var 0 (pv 0)) (sa_cons (se_var 1 (pv 1)) sa_nil))) (sg_tup rfl (sgs_cons (sg_name 3 sc__law_weighed.nd rfl (Or.inl rfl)) (sgs_cons (sg_name 4 sc__law_weighed.nd rfl (Or.inl rfl)) sgs_nil)) (gl_cons (gl_cons gl_nil))) (sss_one (ss_set 2 sc__law_weighed.nd rfl (Or.inl rfl) (se_call D__law_add hr rfl (sa_cons (se_var 2 (pv 2)) (sa_cons (se_call D__law_times hr rfl (sa_cons (se_var 3 (pv 3)) (sa_cons (se_var 4 (pv 4)) sa_nil)) (len_cons (len_cons len_nil))) sa_nil)) (len_cons (len_cons len_nil))))))
    (sss_one (ss_ret (se_var 2 (pv 2))))))
theorem nd__law_minor_0 : (["_law_row", "_law_many"] : List Str).Nodup := by decide +kernel
theorem nd__law_minor_1 : (["_law_k", "_law_rows"] : List Str).Nodup := by decide +kernel
theorem nd__law_minor_2 : (["_law_here", "_law_there", "_law_by"] : List Str).Nodup := by decide +kernel
noncomputable abbrev s__law_minor : Stmt := top 31
noncomputable def b__law_minor (n : Nat) (d__law_times d__law_frac d__law_add : List T → Option T) : FS :=
    (fSeq (fSetO 2 (fCompO 1 [1] (fiSeq (fSl (fVar 0) fNoPart (fPart (fVar 1)))) (gnName 0) fAlways (fSlo (fVar 0) fNoPart (fPart (fVar 1)))))
    (fSeq (fSet 3 (fTup (fCons (fC (.int 1)) (fCons (fC (.int 1)) fNil))))
    (fSeq (whileT (fViewT 2 (fTB (fOp gNe (fVar 2) (fLst fNil)))) (fSeq (fSetV 2 4 (fCompO 1 [2] (fiRng1 (fCons (fView 2 (fCall dLen (fCons (fVar 2) fNil))) fNil)) (gnName 0) (fTB (fOp gNe (fOp gIx (fOp gIx (fVar 1) (fVar 0)) (fC (.int 0))) (fTup (fCons (fC (.int 0)) (fCons (fC (.int 1)) fNil))))) (fVal (fVar 0))))
    (fSeq (fIfS (fTB (fOp gEq (fVar 4) (fLst fNil))) (fRet (fTup (fCons (fC (.int 0)) (fCons (fC (.int 1)) fNil)))) fNext)
    (fSeq (fSet 5 (fPopAt 2 (fOp gIx (fVar 4) (fC (.int 0)))))
    (fSeq (fSet 3 (fCall d__law_times (fCons (fVar 3) (fCons (fCall d__law_times (fCons (fOp gIx (fVar 5) (fC (.int 0))) (fCons (fTup (fCons (fOp gSub (fC (.int 1)) (fOp gMulI (fC (.int 2)) (fOp gMod (fOp gIx (fVar 4) (fC (.int 0))) (fC (.int 2))))) (fCons (fC (.int 1)) fNil))) fNil))) fNil))))
    (fSeq (fSetOwn 6 fNil)
    (fSeq (fFor (fiSeq (fVar 2)) (gnName 7) (fSeq (fSet 8 (fCall d__law_times (fCons (fOp gIx (fVar 7) (fC (.int 0))) (fCons (fCall d__law_frac (fCons (fOp gIx (fOp gIx (fVar 5) (fC (.int 0))) (fC (.int 1))) (fCons (fOp gIx (fOp gIx (fVar 5) (fC (.int 0))) (fC (.int 0))) fNil))) fNil))))
    (fApp 6 (fSl (fComp 2 [8] (fiZip (fCons (fVar 7) (fCons (fVar 5) fNil))) (gnTup (gnCons (gnName 0) (gnCons (gnName 1) gnNil))) fAlways (fCall d__law_add (fCons (fVar 0) (fCons (fCall d__law_times (fCons (fTup (fCons (fOp gSub (fC (.int 0)) (fOp gIx (fVar 2) (fC (.int 0)))) (fCons (fOp gIx (fVar 2) (fC (.int 1))) fNil))) (fCons (fVar 1) fNil))) fNil)))) (fPart (fC (.int 1))) fNoPart))))
    (fSetO 2 (fTake 6)))))))) n)
    (fRet (fVar 3)))))
theorem sc__law_minor : FnScope ["_law_table", "_law_many", "_law_rows", "_law_found", "_law_at", "_law_first", "_law_left", "_law_row", "_law_by"] ["_law_table", "_law_many"] (defScope s__law_minor) := ⟨rfl, rfl, rfl, by decide +kernel, rfl, by decide +kernel, by decide +kernel⟩
set_option maxHeartbeats 4000000 in
theorem ok__law_minor {P : Program} {w : World} {K : PySem.W.Frag} {mg : Str → Option Value} {base : Heap} {k : Nat} {f : Addr} {fd : FuncData} {d__law_times : List T → Option T} {d__law_frac : List T → Option T} {d__law_add : List T → Option T} (n : Nat) (F : Fun K "_law_minor" "_law_minor" s__law_minor f fd) (hb : Binds K fd ["_law_table", "_law_many"] []) (hm : mg "_law_minor" = some (.ref f)) (D__law_times : Def P w K mg base k "_law_times" 2 d__law_times) (D__law_frac : Def P w K mg base k "_law_frac" 2 d__law_frac) (D__law_add : Def P w K mg base k "_law_add" 2 d__law_add) (m_range : mg "range" = none) (m_len : mg "len" = none) (m_zip : mg "zip" = none) :
    Def P w K mg base (k + 1) "_law_minor" 2 (dOf 9 2 (b__law_minor n d__law_times d__law_frac d__law_add)) :=
  def_of F sc__law_minor hb hm fun cdv A outer s H E hr => (sss_cons (ss_setO 2 sc__law_minor.nd rfl (Or.inr rfl) (seo_comp (N' := ["_law_row", "_law_many"]) (no := 1) (cap := [1]) rfl rfl (blkScope_of rfl) rfl (cap_of rfl) (si_seq (se_slice (se_var 0 (pv 0)) so_none (so_some (se_var 1 (pv 1))))) (fun _ _ _ _ _ _ => (sg_name 0 nd__law_minor_0 rfl (Or.inl rfl))) (fun _ _ _ _ _ _ => sts_nil) (fun _ _ _ _ _ _ => (seo_slice (se_var 0 (pv 0)) so_none (so_some (se_var 1 (pv 1)))))))
    (sss_cons (ss_set 3 sc__law_minor.nd rfl (Or.inl rfl) (se_tup (sa_cons se_int (sa_cons se_int sa_nil))))
    (sss_cons (ss_while n PassesOwn.never (st_view 2 (st_cmp (ot_ne hr.units) (se_var 2 (pv 2)) (se_lst sa_nil) (nomark _))) (sss_cons (ss_setV 2 (sso_setComp sc__law_minor.nd rfl rfl (N' := ["_law_k", "_law_rows"]) (no := 1) (cap := [2]) rfl rfl (blkScope_of rfl) rfl (cap_of rfl) (si_rng1 rfl m_range (sa_cons (se_view 2 (se_callB ct_len rfl m_len PySem.boot_len (sa_cons (se_var 2 (pv 2)) sa_nil))) sa_nil)) (fun _ _ _ _ _ _ => (sg_name 0 nd__law_minor_1 rfl (Or.inl rfl))) (fun _ _ _ _ _ _ => (sts_one (st_cmp (ot_ne hr.units) (se_ix xt_ix (se_ix xt_ix (se_var 1 (pv 1)) (se_var 0 (pv 0)) (fun _ _ => rfl)) se_int (fun _ _ => rfl)) (se_tup (sa_cons se_int (sa_cons se_int sa_nil))) (nomark _)))) (fun _ _ _ _ _ _ => (SE.seo (se_var 0 (pv 0))))))
    (sss_cons (ss_if (st_cmp (ot_eq hr.units) (se_var 4 (pv 4)) (se_lst sa_nil) (nomark _)) (sss_one (ss_ret (se_tup (sa_cons se_int (sa_cons se_int sa_nil))))) sss_nil)
    (sss_cons (ss_set 5 sc__law_minor.nd rfl (Or.inl rfl) (se_popAt 2 (pv 2) (se_ix xt_ix (se_var 4 (pv 4)) se_int (fun _ _ => rfl))))
    (sss_cons (ss_set 3 sc__law_minor.nd rfl (Or.inl rfl) (se_call D__law_times hr rfl (sa_cons (se_var 3 (pv 3)) (sa_cons (se_call D__law_times hr rfl (sa_cons (se_ix xt_ix (se_var 5 (pv 5)) se_int (fun _ _ => rfl)) (sa_cons (se_tup (sa_cons (se_op ot_sub se_int (se_op ot_mulI se_int (se_op ot_mod (se_ix xt_ix (se_var 4 (pv 4)) se_int (fun _ _ => rfl)) se_int))) (sa_cons se_int sa_nil))) sa_nil)) (len_cons (len_cons len_nil))) sa_nil)) (len_cons (len_cons len_nil))))
    (sss_cons (ss_setOwn 6 sc__law_minor.nd rfl (Or.inl rfl) sa_nil)
    (sss_cons (ss_for PassesOwn.never rfl (si_seq (se_var 2 (pv 2))) (sg_name 7 sc__law_minor.nd rfl (Or.inl rfl)) (sss_cons (ss_set 8 sc__law_minor.nd rfl (Or.inr rfl) (se_call D__law_times hr rfl (sa_cons (se_ix xt_ix (se_var 7 (pv 7)) se_int (fun _ _ => rfl)) (sa_cons (se_call D__law_frac hr rfl (sa_cons (se_ix xt_ix (se_ix xt_ix (se_var 5 (pv 5)) se_int (fun _ _ => rfl)) se_int (fun _ _ => rfl)) (sa_cons (se_ix xt_ix (se_ix xt_ix (se_var 5 (pv 5)) se_int (fun _ _ => rfl)) se_int (fun _ _ => rfl)) sa_nil)) (len_cons (len_cons len_nil))) sa_nil)) (len_cons (len_cons len_nil))))
    (sss_one (ss_append 6 (pv 6) (se_slice (se_comp (N' := ["_law_here", "_law_there", "_law_by"]) (no := 2) (cap := [8]) rfl rfl (blkScope_of rfl) rfl (cap_of rfl) (si_zip rfl m_zip (sa_cons (se_var 7 (pv 7)) (sa_cons (se_var 5 (pv 5)) sa_nil))) (fun _ _ _ _ _ _ => (sg_tup rfl (sgs_cons (sg_name 0 nd__law_minor_2 rfl (Or.inl rfl)) (sgs_cons (sg_name 1 nd__law_minor_2 rfl (Or.inl rfl)) sgs_nil)) (gl_cons (gl_cons gl_nil)))) (fun _ _ _ _ _ _ => sts_nil) (fun _ _ _ _ _ _ => (se_call D__law_add hr rfl (sa_cons (se_var 0 (pv 0)) (sa_cons (se_call D__law_times hr rfl (sa_cons (se_tup (sa_cons (se_op ot_sub se_int (se_ix xt_ix (se_var 2 (pv 2)) se_int (fun _ _ => rfl))) (sa_cons (se_ix xt_ix (se_var 2 (pv 2)) se_int (fun _ _ => rfl)) sa_nil))) (sa_cons (se_var 1 (pv 1)) sa_nil)) (len_cons (len_cons len_nil))) sa_nil)) (len_cons (len_cons len_nil))))) (so_some se_int) so_none)))))
    (sss_one (ss_setO 2 sc__law_minor.nd rfl (Or.inr rfl) (seo_take 6 (pv 6)))))))))))
    (sss_one (ss_ret (se_var 3 (pv 3)))))))
theorem nd__law_symmetric_1 : (["_law_row", "_law_many"] : List Str).Nodup := by decide +kernel
noncomputable abbrev s__law_symmetric : Stmt := top 32
noncomputable def b__law_symmetric (dO__law_some : List T → Option O) : FSO :=
    (fSeqO (fSetO 2 (fCallO dO__law_some (fCons (fVar 0) (fCons (fOp gDiv (fOp gMulI (fVar 1) (fOp gAdd (fVar 1) (fC (.int 1)))) (fC (.int 2))) fNil))))
    (fDeepO 3 (fCompO 1 [1] (fiRng1 (fCons (fVar 1) fNil)) (gnName 0) fAlways (fRepO (fLst (fCons (fTup (fCons (fC (.int 0)) (fCons (fC (.int 1)) fNil))) fNil)) (fVar 1)))
    (dSeq (dFor 3 (fiRng1 (fCons (fVar 1) fNil)) (gnName 4) (dFor 3 (fiRng2 (fCons (fVar 4) (fCons (fVar 1) fNil))) (gnName 5) (dSeq (dLift 3 (fSet 6 (fPop 2)))
    (dSeq (dSet2 3 4 5 (fVar 6))
    (dSet2 3 5 4 (fVar 6))))))
    dNext)))
theorem sc__law_symmetric : FnScope ["_law_cell_here", "_law_many", "_law_numbers", "_law_table", "_law_row", "_law_place", "_law_number"] ["_law_cell_here", "_law_many"] (defScope s__law_symmetric) := ⟨rfl, rfl, rfl, by decide +kernel, rfl, by decide +kernel, by decide +kernel⟩
set_option maxHeartbeats 4000000 in
theorem okO__law_symmetric {P : Program} {w : World} {K : PySem.W.Frag} {mg : Str → Option Value} {base : Heap} {k : Nat} {f : Addr} {fd : FuncData} {dO__law_some : List T → Option O} (F : Fun K "_law_symmetric" "_law_symmetric" s__law_symmetric f fd) (hb : Binds K fd ["_law_cell_here", "_law_many"] []) (hm : mg "_law_symmetric" = some (.ref f)) (DO__law_some : DefO P w K mg base k "_law_some" 2 dO__law_some) (m_range : mg "range" = none) :
    DefO P w K mg base (k + 1) "_law_symmetric" 2 (dOfO 7 2 (b__law_symmetric dO__law_some)) :=
  defO_of F sc__law_symmetric hb hm fun cdv A outer s H E hr => (sso_cons (ss_setO 2 sc__law_symmetric.nd rfl (Or.inl rfl) (seo_call DO__law_some hr rfl (sa_cons (se_var 0 (pv 0)) (sa_cons (se_op ot_div (se_op ot_mulI (se_var 1 (pv 1)) (se_op ot_add (se_var 1 (pv 1)) se_int)) se_int) sa_nil)) (len_cons (len_cons len_nil))))
    (sso_deepC (sso_setComp sc__law_symmetric.nd rfl rfl (N' := ["_law_row", "_law_many"]) (no := 1) (cap := [1]) rfl rfl (blkScope_of rfl) rfl (cap_of rfl) (si_rng1 rfl m_range (sa_cons (se_var 1 (pv 1)) sa_nil)) (fun _ _ _ _ _ _ => (sg_name 0 nd__law_symmetric_1 rfl (Or.inl rfl))) (fun _ _ _ _ _ _ => sts_nil) (fun _ _ _ _ _ _ => (seo_rep (se_lst (sa_cons (se_tup (sa_cons se_int (sa_cons se_int sa_nil))) sa_nil)) (se_var 1 (pv 1)))))
    (sdr_cons (sd_for PassesOwn.never rfl (si_rng1 rfl m_range (sa_cons (se_var 1 (pv 1)) sa_nil)) (sg_name 4 sc__law_symmetric.nd rfl (Or.inl rfl)) (sds_one (sd_for PassesOwn.never rfl (si_rng2 rfl m_range (sa_cons (se_var 4 (pv 4)) (sa_cons (se_var 1 (pv 1)) sa_nil))) (sg_name 5 sc__law_symmetric.nd rfl (Or.inl rfl)) (sds_cons (sd_lift (ss_set 6 sc__law_symmetric.nd rfl (Or.inl rfl) (se_pop 2 (pv 2))))
    (sds_cons (sd_set2a (pv 3) (pv 4) (pv 5) (se_var 6 (pv 6)))
    (sds_one (sd_set2a (pv 3) (pv 5) (pv 4) (se_var 6 (pv 6)))))))))
    (sdr_ret (pv 3)))))
theorem nd__law_squared_0 : (["_law_k", "_law_numbers", "_law_many"] : List Str).Nodup := by decide +kernel
theorem nd__law_squared_3 : (["_law_row", "_law_rows"] : List Str).Nodup := by decide +kernel
theorem nd__law_squared_4 : (["_law_other", "_law_row"] : List Str).Nodup := by decide +kernel
noncomputable abbrev s__law_squared : Stmt := top 33
noncomputable def b__law_squared (d__law_some d__law_weighed d__law_mix d__law_add : List T → Option T) : FSO :=
    (fSeqO (fSet 2 (fCall d__law_some (fCons (fVar 0) (fCons (fOp gMulI (fVar 1) (fVar 1)) fNil))))
    (fSeqO (fSet 3 (fComp 1 [2, 1] (fiRng1 (fCons (fVar 1) fNil)) (gnName 0) fAlways (fSl (fVar 1) (fPart (fOp gMulI (fVar 0) (fVar 2))) (fPart (fOp gAdd (fOp gMulI (fVar 0) (fVar 2)) (fVar 2))))))
    (fDeepO 4 (fCompO 1 [3] (fiSeq (fVar 3)) (gnName 0) fAlways (fCompO 1 [0] (fiSeq (fVar 1)) (gnName 0) fAlways (fVal (fCall d__law_weighed (fCons (fVar 1) (fCons (fVar 0) fNil))))))
    (dSeq (dIf 4 (fTB (fOp gEq (fOp gMod (fCall d__law_mix (fCons (fVar 0) (fCons (fC (.int 77)) fNil))) (fC (.int 2))) (fC (.int 0)))) (dFor 4 (fiRng1 (fCons (fVar 1) fNil)) (gnName 5) (dSet2v 4 5 5 (fCall d__law_add (fCons (fOp gIx (fOp gIx (fVar 4) (fVar 5)) (fVar 5)) (fCons (fTup (fCons (fC (.int 1)) (fCons (fC (.int 1)) fNil))) fNil))))) dNext)
    dNext))))
theorem sc__law_squared : FnScope ["_law_cell_here", "_law_many", "_law_numbers", "_law_rows", "_law_table", "_law_k"] ["_law_cell_here", "_law_many"] (defScope s__law_squared) := ⟨rfl, rfl, rfl, by decide +kernel, rfl, by decide +kernel, by decide +kernel⟩
set_option maxHeartbeats 4000000 in
theorem okO__law_squared {P : Program} {w : World} {K : PySem.W.Frag} {mg : Str → Option Value} {base : Heap} {k : Nat} {f : Addr} {fd : FuncData} {d__law_some : List T → Option T} {d__law_weighed : List T → Option T} {d__law_mix : List T → Option T} {d__law_add : List T → Option T} (F : Fun K "_law_squared" "_law_squared" s__law_squared f fd) (hb : Binds K fd ["_law_cell_here", "_law_many"] []) (hm : mg "_law_squared" = some (.ref f)) (D__law_some : Def P w K mg base k "_law_some" 2 d__law_some) (D__law_weighed : Def P w K mg base k "_law_weighed" 2 d__law_weighed) (D__law_mix : Def P w K mg base k "_law_mix" 2 d__law_mix) (D__law_add : Def P w K mg base k "_law_add" 2 d__law_add) (m_range : mg "range" = none) :
    DefO P w K mg base (k + 1) "_law_squared" 2 (dOfO 6 2 (b__law_squared d__law_some d__law_weighed d__law_mix d__law_add)) :=
  defO_of F sc__law_squared hb hm fun cdv A outer s H E hr => (sso_cons (ss_set 2 sc__law_squared.nd rfl (Or.inr rfl) (se_call D__law_some hr rfl (sa_cons (se_var 0 (pv 0)) (sa_cons (se_op ot_mulI (se_var 1 (pv 1)) (se_var 1 (pv 1))) sa_nil)) (len_cons (len_cons len_nil))))
    (sso_cons (ss_set 3 sc__law_squared.nd rfl (Or.inr rfl) (se_comp (N' := ["_law_k", "_law_numbers", "_law_many"]) (no := 1) (cap := [2, 1]) rfl rfl (blkScope_of rfl) rfl (cap_of rfl) (si_rng1 rfl m_range (sa_cons (se_var 1 (pv 1)) sa_nil)) (fun _ _ _ _ _ _ => (sg_name 0 nd__law_squared_0 rfl (Or.inl rfl))) (fun _ _ _ _ _ _ => sts_nil) (fun _ _ _ _ _ _ => (se_slice (se_var 1 (pv 1)) (so_some (se_op ot_mulI (se_var 0 (pv 0)) (se_var 2 (pv 2)))) (so_some (se_op ot_add (se_op ot_mulI (se_var 0 (pv 0)) (se_var 2 (pv 2))) (se_var 2 (pv 2))))))))
    (sso_deepC (sso_setComp sc__law_squared.nd rfl rfl (N' := ["_law_row", "_law_rows"]) (no := 1) (cap := [3]) rfl rfl (blkScope_of rfl) rfl (cap_of rfl) (si_seq (se_var 3 (pv 3))) (fun _ _ _ _ _ _ => (sg_name 0 nd__law_squared_3 rfl (Or.inr rfl))) (fun _ _ _ _ _ _ => sts_nil) (fun _ _ _ _ _ _ => (seo_comp (N' := ["_law_other", "_law_row"]) (no := 1) (cap := [0]) rfl rfl (blkScope_of rfl) rfl (cap_of rfl) (si_seq (se_var 1 (pv 1))) (fun _ _ _ _ _ _ => (sg_name 0 nd__law_squared_4 rfl (Or.inl rfl))) (fun _ _ _ _ _ _ => sts_nil) (fun _ _ _ _ _ _ => (SE.seo (se_call D__law_weighed hr rfl (sa_cons (se_var 1 (pv 1)) (sa_cons (se_var 0 (pv 0)) sa_nil)) (len_cons (len_cons len_nil))))))))
    (sdr_cons (sd_if (st_cmp (ot_eq hr.units) (se_op ot_mod (se_call D__law_mix hr rfl (sa_cons (se_var 0 (pv 0)) (sa_cons se_int sa_nil)) (len_cons (len_cons len_nil))) se_int) se_int (nomark _)) (sds_one (sd_for PassesOwn.never rfl (si_rng1 rfl m_range (sa_cons (se_var 1 (pv 1)) sa_nil)) (sg_name 5 sc__law_squared.nd rfl (Or.inl rfl)) (sds_one (sd_set2b (pv 4) (pv 5) (pv 5) (se_call D__law_add hr rfl (sa_cons (se_ix xt_ix (se_ix xt_ix (se_var 4 (pv 4)) (se_var 5 (pv 5)) (fun _ _ => rfl)) (se_var 5 (pv 5)) (fun _ _ => rfl)) (sa_cons (se_tup (sa_cons se_int (sa_cons se_int sa_nil))) sa_nil)) (len_cons (len_cons len_nil))))))) sds_nil)
    (sdr_ret (pv 4))))))
noncomputable abbrev s__law_due : Stmt := top 34
noncomputable def b__law_due (d__law_minor d__law_frac d__law_times : List T → Option T) : FS :=
    (fSeq (fSetOwn 1 fNil)
    (fSeq (fSet 2 (fTup (fCons (fC (.int 1)) (fCons (fC (.int 1)) fNil))))
    (fSeq (fFor (fiRng1 (fCons (fCall dLen (fCons (fVar 0) fNil)) fNil)) (gnName 3) (fSeq (fSet 4 (fCall d__law_minor (fCons (fVar 0) (fCons (fOp gAdd (fVar 3) (fC (.int 1))) fNil))))
    (fSeq (fApp 1 (fCall d__law_times (fCons (fVar 4) (fCons (fCall d__law_frac (fCons (fOp gIx (fVar 2) (fC (.int 1))) (fCons (fOp gIx (fVar 2) (fC (.int 0))) fNil))) fNil))))
    (fSeq (fIfS (fTB (fOp gLe (fOp gIx (fIxOwn 1 (fUn gNeg (fC (.int 1)))) (fC (.int 0))) (fC (.int 0)))) (fRet (fVar 1)) fNext)
    (fSet 2 (fVar 4))))))
    (fRet (fVar 1)))))
theorem sc__law_due : FnScope ["_law_table", "_law_due_here", "_law_last", "_law_k", "_law_here"] ["_law_table"] (defScope s__law_due) := ⟨rfl, rfl, rfl, by decide +kernel, rfl, by decide +kernel, by decide +kernel⟩
set_option maxHeartbeats 4000000 in
theorem ok__law_due {P : Program} {w : World} {K : PySem.W.Frag} {mg : Str → Option Value} {base : Heap} {k : Nat} {f : Addr} {fd : FuncData} {d__law_minor : List T → Option T} {d__law_frac : List T → Option T} {d__law_times : List T → Option T} (F : Fun K "_law_due" "_law_due" s__law_due f fd) (hb : Binds K fd ["_law_table"] []) (hm : mg "_law_due" = some (.ref f)) (D__law_minor : Def P w K mg base k "_law_minor" 2 d__law_minor) (D__law_frac : Def P w K mg base k "_law_frac" 2 d__law_frac) (D__law_times : Def P w K mg base k "_law_times" 2 d__law_times) (m_range : mg "range" = none) (m_len : mg "len" = none) :
    Def P w K mg base (k + 1) "_law_due" 1 (dOf 5 1 (b__law_due d__law_minor d__law_frac d__law_times)) :=
  def_of F sc__law_due hb hm fun cdv A outer s H E hr => (sss_cons (ss_setOwn 1 sc__law_due.nd rfl (Or.inl rfl) sa_nil)
    (sss_cons (ss_set 2 sc__law_due.nd rfl (Or.inl rfl) (se_tup (sa_cons se_int (sa_cons se_int sa_nil))))
    (sss_cons (ss_for PassesOwn.never rfl (si_rng1 rfl m_range (sa_cons (se_callB ct_len rfl m_len PySem.boot_len (sa_cons (se_var 0 (pv 0)) sa_nil)) sa_nil)) (sg_name 3 sc__law_due.nd rfl (Or.inl rfl)) (sss_cons (ss_set 4 sc__law_due.nd rfl (Or.inl rfl) (se_call D__law_minor hr rfl (sa_cons (se_var 0 (pv 0)) (sa_cons (se_op ot_add (se_var 3 (pv 3)) se_int) sa_nil)) (len_cons (len_cons len_nil))))
    (sss_cons (ss_append 1 (pv 1) (se_call D__law_times hr rfl (sa_cons (se_var 4 (pv 4)) (sa_cons (se_call D__law_frac hr rfl (sa_cons (se_ix xt_ix (se_var 2 (pv 2)) se_int (fun _ _ => rfl)) (sa_cons (se_ix xt_ix (se_var 2 (pv 2)) se_int (fun _ _ => rfl)) sa_nil)) (len_cons (len_cons len_nil))) sa_nil)) (len_cons (len_cons len_nil))))
    (sss_cons (ss_if (st_cmp ot_le (se_ix xt_ix (se_ixOwn 1 (pv 1) (se_un ut_neg se_int) (fun _ _ => rfl)) se_int (fun _ _ => rfl)) se_int (nomark _)) (sss_one (ss_ret (se_var 1 (pv 1)))) sss_nil)
    (sss_one (ss_set 2 sc__law_due.nd rfl (Or.inl rfl) (se_var 4 (pv 4))))))))
    (sss_one (ss_ret (se_var 1 (pv 1)))))))
end My

namespace My
open PySem PySem.Spec PyProof.Rows L2 TM
theorem nd_law_0 : (["_law_row"] : List Str).Nodup := by decide +kernel
noncomputable abbrev s_law : Stmt := top 35
noncomputable def b_law (d__law_cell d__law_mix d__law_symmetric d__law_squared d__law_due d__law_same d_steps_of : List T → Option T) (dO_steps_of : List T → Option O) : FS :=
    (fSeq (fFor (fiRng1 (fCons (fCall dMax (fCons (fC (.int 3)) (fCons (fCall dMin (fCons (fC (.int 10)) (fCons (fCall dLen (fCons (fVar 0) fNil)) fNil))) fNil))) fNil)) (gnName 1) (fSeq (fSet 2 (fCall d__law_cell (fCons (fVar 0) (fCons (fVar 1) fNil))))
    (fSeq (fSet 3 (fOp gMod (fCall d__law_mix (fCons (fVar 2) (fCons (fC (.int 1)) fNil))) (fC (.int 5))))
    (fSeq (fSet 4 (fCall d__law_symmetric (fCons (fVar 2) (fCons (fVar 3) fNil))))
    (fSeq (fIfS (fTB (fOp gEq (fOp gMod (fCall d__law_mix (fCons (fVar 2) (fCons (fC (.int 2)) fNil))) (fC (.int 2))) (fC (.int 0)))) (fSet 4 (fCall d__law_squared (fCons (fVar 2) (fCons (fVar 3) fNil)))) fNext)
    (fSeq (fSetComp 5 1 [] (fiSeq (fVar 4)) (gnName 0) fAlways (fCall dList (fCons (fVar 0) fNil)))
    (fSeq (fSet 6 (fCall d__law_due (fCons (fVar 4) fNil)))
    (fSeq (fSetO 7 (fCallO dO_steps_of (fCons (fVar 4) fNil)))
    (fSeq (fIfS (fOr (fNot (fTru (fView 7 (fCall d__law_same (fCons (fVar 7) (fCons (fVar 6) fNil)))))) (fTB (fOp gNe (fVar 4) (fVar 5)))) (fRet (fC (.bl false))) fNext)
    (fSeq (fClear 7)
    (fIfS (fNot (fTru (fCall d__law_same (fCons (fCall d_steps_of (fCons (fVar 4) fNil)) (fCons (fVar 6) fNil))))) (fRet (fC (.bl false))) fNext)))))))))))
    (fRet (fC (.bl true))))
theorem sc_law : FnScope ["_law_script", "_law_k", "_law_cell_here", "_law_many", "_law_table", "_law_copy", "_law_due_here", "_law_found"] ["_law_script"] (defScope s_law) := ⟨rfl, rfl, rfl, by decide +kernel, rfl, by decide +kernel, by decide +kernel⟩
set_option maxHeartbeats 4000000 in
theorem fn_law {P : Program} {w : World} {K : PySem.W.Frag} {mg : Str → Option Value} {base : Heap} {k : Nat} {f : Addr} {fd : FuncData} {d__law_cell : List T → Option T} {d__law_mix : List T → Option T} {d__law_symmetric : List T → Option T} {d__law_squared : List T → Option T} {d__law_due : List T → Option T} {d__law_same : List T → Option T} {d_steps_of : List T → Option T} {dO_steps_of : List T → Option O} (F : Fun K "law" "law" s_law f fd) (D__law_cell : Def P w K mg base k "_law_cell" 2 d__law_cell) (D__law_mix : Def P w K mg base k "_law_mix" 2 d__law_mix) (D__law_symmetric : Def P w K mg base k "_law_symmetric" 2 d__law_symmetric) (D__law_squared : Def P w K mg base k "_law_squared" 2 d__law_squared) (D__law_due : Def P w K mg base k "_law_due" 1 d__law_due) (D__law_same : Def P w K mg base k "_law_same" 2 d__law_same) (D_steps_of : Def P w K mg base k "steps_of" 1 d_steps_of) (DO_steps_of : DefO P w K mg base k "steps_of" 1 dO_steps_of) (m_range : mg "range" = none) (m_len : mg "len" = none) (m_min : mg "min" = none) (m_max : mg "max" = none) (m_list : mg "list" = none) :
    FnOk P w K mg base CX0 (k + 1) f fd ["_law_script"] (spT K 1 (dOf 8 1 (b_law d__law_cell d__law_mix d__law_symmetric d__law_squared d__law_due d__law_same d_steps_of dO_steps_of))) :=
  fnok_of F sc_law fun cdv A outer s H E hr => (sss_cons (ss_for PassesOwn.never rfl (si_rng1 rfl m_range (sa_cons (se_callB (ct_max rfl) rfl m_max rfl (sa_cons se_int (sa_cons (se_callB (ct_min rfl) rfl m_min rfl (sa_cons se_int (sa_cons (se_callB ct_len rfl m_len PySem.boot_len (sa_cons (se_var 0 (pv 0)) sa_nil)) sa_nil))) sa_nil))) sa_nil)) (sg_name 1 sc_law.nd rfl (Or.inl rfl)) (sss_cons (ss_set 2 sc_law.nd rfl (Or.inl rfl) (se_call D__law_cell hr rfl (sa_cons (se_var 0 (pv 0)) (sa_cons (se_var 1 (pv 1)) sa_nil)) (len_cons (len_cons len_nil))))
    (sss_cons (ss_set 3 sc_law.nd rfl (Or.inl rfl) (se_op ot_mod (se_call D__law_mix hr rfl (sa_cons (se_var 2 (pv 2)) (sa_cons se_int sa_nil)) (len_cons (len_cons len_nil))) se_int))
    (sss_cons (ss_set 4 sc_law.nd rfl (Or.inl rfl) (se_call D__law_symmetric hr rfl (sa_cons (se_var 2 (pv 2)) (sa_cons (se_var 3 (pv 3)) sa_nil)) (len_cons (len_cons len_nil))))
    (sss_cons (ss_if (st_cmp (ot_eq hr.units) (se_op ot_mod (se_call D__law_mix hr rfl (sa_cons (se_var 2 (pv 2)) (sa_cons se_int sa_nil)) (len_cons (len_cons len_nil))) se_int) se_int (nomark _)) (sss_one (ss_set 4 sc_law.nd rfl (Or.inl rfl) (se_call D__law_squared hr rfl (sa_cons (se_var 2 (pv 2)) (sa_cons (se_var 3 (pv 3)) sa_nil)) (len_cons (len_cons len_nil))))) sss_nil)
    (sss_cons (ss_setComp sc_law.nd rfl rfl (N' := ["_law_row"]) (no := 1) (cap := []) rfl rfl (blkScope_of rfl) rfl (cap_of rfl) (si_seq (se_var 4 (pv 4))) (fun _ _ _ _ _ _ => (sg_name 0 nd_law_0 rfl (Or.inl rfl))) (fun _ _ _ _ _ _ => sts_nil) (fun _ _ _ _ _ _ => (se_callTy ct_list rfl m_list rfl (sa_cons (se_var 0 (pv 0)) sa_nil))))
    (sss_cons (ss_set 6 sc_law.nd rfl (Or.inl rfl) (se_call D__law_due hr rfl (sa_cons (se_var 4 (pv 4)) sa_nil) (len_cons len_nil)))
    (sss_cons (ss_setO 7 sc_law.nd rfl (Or.inl rfl) (seo_call DO_steps_of hr rfl (sa_cons (se_var 4 (pv 4)) sa_nil) (len_cons len_nil)))
    (sss_cons (ss_if (SW.st (sw_or (st_not (st_val (se_view 7 (se_call D__law_same hr rfl (sa_cons (se_var 7 (pv 7)) (sa_cons (se_var 6 (pv 6)) sa_nil)) (len_cons (len_cons len_nil)))))) (sw_or1 (st_cmp (ot_ne hr.units) (se_var 4 (pv 4)) (se_var 5 (pv 5)) (nomark _))))) (sss_one (ss_ret se_bl)) sss_nil)
    (sss_cons (ss_clear 7 (pv 7))
    (sss_one (ss_if (st_not (st_val (se_call D__law_same hr rfl (sa_cons (se_call D_steps_of hr rfl (sa_cons (se_var 4 (pv 4)) sa_nil) (len_cons len_nil)) (sa_cons (se_var 6 (pv 6)) sa_nil)) (len_cons (len_cons len_nil))))) (sss_one (ss_ret se_bl)) sss_nil))))))))))))
    (sss_one (ss_ret se_bl)))
end My

namespace Qm
noncomputable abbrev Cop (a b : Int) : Prop := Int.gcd a b = 1
theorem Cop.symm {a b : Int} (h : Cop a b) : Cop b a := by unfold Cop; rw [Int.gcd_comm]; exact h
theorem split {a b : Int} (h : b ≠ 0) : ∃ x y : Int, a = (Int.gcd a b : Int) * x ∧ b = (Int.gcd a b : Int) * y ∧ Cop x y ∧ (Int.gcd a b : Int) ≠ 0 := by
  have hg : (Int.gcd a b : Int) ≠ 0 := by
    intro z
    have : Int.gcd a b = 0 := by omega
    rw [Int.gcd_eq_zero_iff] at this
    exact h this.2
  obtain ⟨x, hx⟩ := Int.gcd_dvd_left a b
  obtain ⟨y, hy⟩ := Int.gcd_dvd_right a b
  refine ⟨x, y, hx, hy, ?_, hg⟩
  have e : Int.gcd a b = Int.gcd a b * Int.gcd x y := by
    have := Int.gcd_mul_left (Int.gcd a b : Int) x y
    rw [← hx, ← hy] at this
    simpa using this
  have hp : 0 < Int.gcd a b := by omega
  have := Nat.eq_of_mul_eq_mul_left hp (show Int.gcd a b * Int.gcd x y = Int.gcd a b * 1 by omega)
  exact this
end Qm

namespace Rq
noncomputable def DD (k : Nat) : Nat := 27720 ^ k
theorem DD_pos (k : Nat) : 0 < DD k := Nat.pow_pos (by decide)
theorem DD_add (k j : Nat) : DD (k + j) = DD k * DD j := Nat.pow_add _ _ _
noncomputable def Lq (k m : Nat) (q : Rat) : Prop := ∃ n : Int, q = Rat.divInt n (DD k : Int) ∧ n.natAbs ≤ m * DD k
theorem Lq.zero (k : Nat) : Lq k 0 0 := ⟨0, by rw [Rat.zero_divInt], by simp⟩
theorem dd_ne (k : Nat) : ((DD k : Nat) : Int) ≠ 0 := by have := DD_pos k; omega
theorem Lq.add {k m m' : Nat} {x y : Rat} (hx : Lq k m x) (hy : Lq k m' y) : Lq k (m + m') (x + y) := by
  obtain ⟨a, rfl, ha⟩ := hx
  obtain ⟨b, rfl, hb⟩ := hy
  refine ⟨a + b, ?_, ?_⟩
  · rw [Rat.divInt_add_divInt _ _ (dd_ne k) (dd_ne k), ← Int.add_mul, Rat.divInt_mul_right (dd_ne k)]
  · rw [Nat.add_mul]
    have := Int.natAbs_add_le a b
    omega
theorem Lq.mul {k k' m m' : Nat} {x y : Rat} (hx : Lq k m x) (hy : Lq k' m' y) : Lq (k + k') (m * m') (x * y) := by
  obtain ⟨a, rfl, ha⟩ := hx
  obtain ⟨b, rfl, hb⟩ := hy
  refine ⟨a * b, ?_, ?_⟩
  · rw [Rat.divInt_mul_divInt, DD_add]
    push_cast
    rfl
  · rw [Int.natAbs_mul, DD_add]
    calc a.natAbs * b.natAbs ≤ (m * DD k) * (m' * DD k') := Nat.mul_le_mul ha hb
      _ = m * m' * (DD k * DD k') := by rw [Nat.mul_mul_mul_comm]
theorem Lq.mono {k m m' : Nat} {x : Rat} (hx : Lq k m x) (h : m ≤ m') : Lq k m' x := by
  obtain ⟨a, rfl, ha⟩ := hx
  exact ⟨a, rfl, Nat.le_trans ha (Nat.mul_le_mul_right _ h)⟩
theorem Lq.bd {k m : Nat} {x : Rat} (hx : Lq k m x) : x.num.natAbs ≤ m * DD k ∧ x.den ∣ DD k := by
  obtain ⟨a, rfl, ha⟩ := hx
  have hp := DD_pos k
  rw [Rat.num_divInt, Rat.den_divInt, if_neg (dd_ne k)]
  have hs : ((DD k : Nat) : Int).sign = 1 := Int.sign_eq_one_of_pos (by omega)
  rw [hs, Int.one_mul]
  constructor
  · rw [Int.natAbs_ediv_of_dvd (Int.gcd_dvd_right _ _)]
    exact Nat.le_trans (Nat.div_le_self _ _) ha
  · rw [Int.natAbs_natCast]
    exact Nat.div_dvd_of_dvd (by have := Int.gcd_dvd_left ((DD k : Nat) : Int) a; exact Int.natCast_dvd_natCast.mp this)
theorem Lq.small {a b : Int} (ha : a.natAbs ≤ 9) (hb : 0 < b) (hb' : b ≤ 12) : Lq 1 9 (Rat.divInt a b) := by
  have hd : b ∣ ((DD 1 : Nat) : Int) := by
    have e : ((DD 1 : Nat) : Int) = 27720 := by decide
    rw [e]
    have : b = 1 ∨ b = 2 ∨ b = 3 ∨ b = 4 ∨ b = 5 ∨ b = 6 ∨ b = 7 ∨ b = 8 ∨ b = 9 ∨ b = 10 ∨ b = 11 ∨ b = 12 := by omega
    rcases this with rfl | rfl | rfl | rfl | rfl | rfl | rfl | rfl | rfl | rfl | rfl | rfl <;> decide
  obtain ⟨c, hc⟩ := hd
  have hc0 : c ≠ 0 := fun z => by rw [z, Int.mul_zero] at hc; exact dd_ne 1 hc
  refine ⟨a * c, ?_, ?_⟩
  · rw [hc, Rat.divInt_mul_right hc0]
  · rw [Int.natAbs_mul]
    have h1 : c.natAbs ≤ DD 1 := by
      have : ((DD 1 : Nat) : Int).natAbs = b.natAbs * c.natAbs := by rw [hc, Int.natAbs_mul]
      rw [Int.natAbs_natCast] at this
      rw [this]
      exact Nat.le_mul_of_pos_left _ (by omega)
    exact Nat.mul_le_mul ha h1
noncomputable def wsum (r s : List Rat) : Rat := (List.zipWith (· * ·) r s).foldl (· + ·) 0
theorem foldl_add (l : List Rat) : ∀ a : Rat, l.foldl (· + ·) a = a + l.foldl (· + ·) 0 := by
  induction l with
  | nil => intro a; rw [List.foldl_nil, List.foldl_nil, Rat.add_zero]
  | cons x l ih =>
    intro a
    rw [List.foldl_cons, List.foldl_cons, ih (a + x), ih (0 + x), Rat.zero_add, Rat.add_assoc]
theorem wsum_cons (x y : Rat) (r s : List Rat) : wsum (x :: r) (y :: s) = x * y + wsum r s := by
  unfold wsum
  rw [List.zipWith_cons_cons, List.foldl_cons, foldl_add, Rat.zero_add]
theorem wsum_lq {k k' m m' : Nat} : ∀ {r s : List Rat}, (∀ x ∈ r, Lq k m x) → (∀ y ∈ s, Lq k' m' y) → Lq (k + k') (r.length * (m * m')) (wsum r s)
  | [], s, _, _ => by
    have : wsum [] s = 0 := by unfold wsum; rw [List.zipWith_nil_left]; rfl
    rw [this, List.length_nil, Nat.zero_mul]
    exact Lq.zero _
  | x :: r, [], h1, h2 => by
    have : wsum (x :: r) [] = 0 := by unfold wsum; rw [List.zipWith_nil_right]; rfl
    rw [this]
    exact (Lq.zero _).mono (Nat.zero_le _)
  | x :: r, y :: s, h1, h2 => by
    rw [wsum_cons, List.length_cons, Nat.add_mul, Nat.one_mul, Nat.add_comm (r.length * (m * m'))]
    exact ((h1 x List.mem_cons_self).mul (h2 y List.mem_cons_self)).add (wsum_lq (fun z hz => h1 z (List.mem_cons_of_mem _ hz)) (fun z hz => h2 z (List.mem_cons_of_mem _ hz)))
noncomputable def colq (B : List (List Rat)) (j : Nat) : List Rat := B.map fun r => r.getD j 0
noncomputable def rowm (r : List Rat) (B : List (List Rat)) (w : Nat) : List Rat := (List.range w).map fun j => wsum r (colq B j)
noncomputable def mulM (A B : List (List Rat)) (w : Nat) : List (List Rat) := A.map fun r => rowm r B w
theorem wsum_nil (s : List Rat) : wsum [] s = 0 := by unfold wsum; rw [List.zipWith_nil_left]; rfl
theorem rowm_len (r : List Rat) (B : List (List Rat)) (w : Nat) : (rowm r B w).length = w := by unfold rowm; simp
noncomputable def Sq (n : Nat) (A : List (List Rat)) : Prop := A.length = n ∧ ∀ r ∈ A, r.length = n
theorem Sq.mul {n : Nat} {A B : List (List Rat)} (hA : Sq n A) : Sq n (mulM A B n) := by
  refine ⟨by unfold mulM; rw [List.length_map]; exact hA.1, fun r hr => ?_⟩
  obtain ⟨a, _, rfl⟩ := List.mem_map.mp hr
  exact rowm_len _ _ _
end Rq

namespace Dt
noncomputable abbrev Row := Nat → Int
noncomputable abbrev Fn := List Nat → Int
noncomputable def E (x : Row) : Fn → List Nat → Int
  | _, [] => 0
  | D, c :: cs => x c * D cs - E x (fun l => D (c :: l)) cs
noncomputable def det : List Row → Fn
  | [] => fun cs => if cs = [] then 1 else 0
  | x :: R => fun cs => E x (det R) cs
theorem det_cons (x : Row) (R : List Row) (cs : List Nat) : det (x :: R) cs = E x (det R) cs := rfl
theorem E_cons (x : Row) (D : Fn) (c : Nat) (cs : List Nat) : E x D (c :: cs) = x c * D cs - E x (fun l => D (c :: l)) cs := rfl
theorem E_zero (x : Row) : ∀ cs, E x (fun _ => 0) cs = 0
  | [] => rfl
  | c :: cs => by rw [E_cons, E_zero x cs, Int.mul_zero, Int.sub_self]
theorem E_lin (x : Row) (a b : Int) (D D' : Fn) : ∀ cs, E x (fun l => a * D l + b * D' l) cs = a * E x D cs + b * E x D' cs := by
  intro cs
  induction cs generalizing D D' with
  | nil => simp [E]
  | cons c cs ih =>
    rw [E_cons, E_cons, E_cons, ih (fun l => D (c :: l)) (fun l => D' (c :: l))]
    grind
theorem E_anti (x y : Row) (D : Fn) : ∀ cs, E x (E y D) cs = - E y (E x D) cs := by
  intro cs
  induction cs generalizing D with
  | nil => rfl
  | cons c cs ih =>
    have h1 : E x (fun l => E y D (c :: l)) cs = y c * E x D cs - E x (E y (fun l => D (c :: l))) cs := by
      have := E_lin x (y c) (-1) D (E y fun l => D (c :: l)) cs
      rw [show (fun l => E y D (c :: l)) = fun l => y c * D l + (-1) * E y (fun l => D (c :: l)) l from funext fun l => by rw [E_cons]; grind, this]
      grind
    have h2 : E y (fun l => E x D (c :: l)) cs = x c * E y D cs - E y (E x (fun l => D (c :: l))) cs := by
      have := E_lin y (x c) (-1) D (E x fun l => D (c :: l)) cs
      rw [show (fun l => E x D (c :: l)) = fun l => x c * D l + (-1) * E x (fun l => D (c :: l)) l from funext fun l => by rw [E_cons]; grind, this]
      grind
    rw [E_cons, E_cons, h1, h2, ih]
    grind
theorem E_twice (x : Row) (D : Fn) (cs : List Nat) : E x (E x D) cs = 0 := by
  have := E_anti x x D cs
  omega
theorem det_anti (x y : Row) (R : List Row) (cs : List Nat) : det (x :: y :: R) cs = - det (y :: x :: R) cs := E_anti x y (det R) cs
theorem det_mem {x : Row} : ∀ {R : List Row}, x ∈ R → ∀ cs, det (x :: R) cs = 0
  | [], h, _ => by cases h
  | y :: R, h, cs => by
    rcases List.mem_cons.mp h with rfl | h
    · exact E_twice x (det R) cs
    · rw [det_anti, det_cons, show det (x :: R) = fun _ => 0 from funext (det_mem h), E_zero]; rfl
noncomputable def Alt (D : Fn) : Prop := ∀ pre a b cs, D (pre ++ a :: b :: cs) = - D (pre ++ b :: a :: cs)
theorem Alt.tl {D : Fn} (h : Alt D) (c : Nat) : Alt (fun l => D (c :: l)) := fun pre a b cs => h (c :: pre) a b cs
theorem E_alt (x : Row) : ∀ (pre : List Nat) (D : Fn), Alt D → ∀ a b cs, E x D (pre ++ a :: b :: cs) = - E x D (pre ++ b :: a :: cs)
  | [], D, h, a, b, cs => by
    show E x D (a :: b :: cs) = - E x D (b :: a :: cs)
    have e : ∀ cs, E x (fun l => D (a :: b :: l)) cs = - E x (fun l => D (b :: a :: l)) cs := fun cs => by
      have := E_lin x (-1) 0 (fun l => D (b :: a :: l)) (fun _ => 0) cs
      rw [show (fun l => D (a :: b :: l)) = fun l => (-1) * D (b :: a :: l) + 0 * 0 from funext fun l => by rw [show D (a :: b :: l) = - D (b :: a :: l) from h [] a b l]; omega, this]
      omega
    rw [E_cons, E_cons, E_cons, E_cons, e]
    grind
  | p :: pre, D, h, a, b, cs => by
    show E x D (p :: (pre ++ a :: b :: cs)) = - E x D (p :: (pre ++ b :: a :: cs))
    rw [E_cons, E_cons, E_alt x pre _ (h.tl p), h pre a b cs]
    grind
theorem det_alt : ∀ R : List Row, Alt (det R)
  | [] => fun pre a b cs => by simp [det]
  | x :: R => fun pre a b cs => E_alt x pre (det R) (det_alt R) a b cs
theorem Alt.dup {D : Fn} (h : Alt D) (c : Nat) (cs : List Nat) : ∀ pre : List Nat, D (c :: pre ++ c :: cs) = 0
  | [] => by
    have := h [] c c cs
    show D (c :: c :: cs) = 0
    have e : D (c :: c :: cs) = - D (c :: c :: cs) := this
    omega
  | p :: pre => by
    have e := h [] c p (pre ++ c :: cs)
    have e2 : D (c :: p :: (pre ++ c :: cs)) = - D (p :: c :: (pre ++ c :: cs)) := e
    have e3 := Alt.dup (h.tl p) c cs pre
    show D (c :: p :: (pre ++ c :: cs)) = 0
    have e4 : D (p :: c :: (pre ++ c :: cs)) = 0 := e3
    omega
theorem det_dup (R : List Row) {c : Nat} {cs : List Nat} (h : c ∈ cs) : det R (c :: cs) = 0 := by
  obtain ⟨s, t, rfl⟩ := List.append_of_mem h
  exact (det_alt R).dup c t s
noncomputable def F (f : Row → Int) : (List Row → Int) → List Row → Int
  | _, [] => 0
  | G, x :: R => f x * G R - F f (fun S => G (x :: S)) R
theorem F_cons (f : Row → Int) (G : List Row → Int) (x : Row) (R : List Row) : F f G (x :: R) = f x * G R - F f (fun S => G (x :: S)) R := rfl
theorem F_fun (f g : Row → Int) (a b : Int) (G : List Row → Int) : ∀ R, F (fun x => a * f x + b * g x) G R = a * F f G R + b * F g G R := by
  intro R
  induction R generalizing G with
  | nil => simp [F]
  | cons x R ih =>
    rw [F_cons, F_cons, F_cons, ih (fun S => G (x :: S))]
    grind
theorem F_none (f : Row → Int) (G : List Row → Int) : ∀ R, (∀ x ∈ R, f x = 0) → F f G R = 0 := by
  intro R
  induction R generalizing G with
  | nil => intro _; rfl
  | cons x R ih =>
    intro h
    rw [F_cons, h x List.mem_cons_self, ih _ fun y hy => h y (List.mem_cons_of_mem _ hy)]
    omega
theorem E_F (x : Row) (f : Row → Int) (g : List Row → Fn) : ∀ (R : List Row) (cs : List Nat), E x (fun l => F f (fun S => g S l) R) cs = F f (fun S => E x (g S) cs) R := by
  intro R
  induction R generalizing g with
  | nil => intro cs; exact E_zero x cs
  | cons y R ih =>
    intro cs
    have e := E_lin x (f y) (-1) (g R) (fun l => F f (fun S => g (y :: S) l) R) cs
    rw [show (fun l => F f (fun S => g S l) (y :: R)) = fun l => f y * g R l + (-1) * F f (fun S => g (y :: S) l) R from funext fun l => by rw [F_cons]; omega, e, ih (fun S => g (y :: S)), F_cons]
    omega
theorem det_col (c : Nat) (cs : List Nat) : ∀ R : List Row, det R (c :: cs) = F (fun x => x c) (fun S => det S cs) R
  | [] => by simp [det, F]
  | x :: R => by
    rw [det_cons, E_cons, F_cons, show (fun l => det R (c :: l)) = fun l => F (fun x => x c) (fun S => det S l) R from funext fun l => det_col c l R, E_F]
    rfl
end Dt

namespace Dt
noncomputable def Lk (cs : List Nat) (f : Row → Int) : Prop := ∃ ws : List (Int × Nat), (∀ w ∈ ws, w.2 ∈ cs) ∧ ∀ x, f x = (ws.map fun w => w.1 * x w.2).foldr (· + ·) 0
theorem Lk.zero (cs : List Nat) : Lk cs (fun _ => 0) := ⟨[], (fun _ h => by cases h), fun _ => rfl⟩
theorem sum_map_mul (a : Int) (x : Row) : ∀ ws : List (Int × Nat), ((ws.map fun w => (a * w.1, w.2)).map fun w => w.1 * x w.2).foldr (· + ·) 0 = a * (ws.map fun w => w.1 * x w.2).foldr (· + ·) 0
  | [] => by simp
  | w :: ws => by
    have ih := sum_map_mul a x ws
    simp only [List.map_cons, List.foldr_cons] at ih ⊢
    rw [ih]
    grind
theorem sum_app (x : Row) : ∀ (ws us : List (Int × Nat)), ((ws ++ us).map fun w => w.1 * x w.2).foldr (· + ·) 0 = (ws.map fun w => w.1 * x w.2).foldr (· + ·) 0 + (us.map fun w => w.1 * x w.2).foldr (· + ·) 0
  | [], us => by simp
  | w :: ws, us => by
    have ih := sum_app x ws us
    simp only [List.cons_append, List.map_cons, List.foldr_cons] at ih ⊢
    rw [ih]
    omega
theorem Lk.lin {cs : List Nat} {f g : Row → Int} (hf : Lk cs f) (hg : Lk cs g) (a b : Int) : Lk cs (fun x => a * f x + b * g x) := by
  obtain ⟨ws, h1, h2⟩ := hf
  obtain ⟨us, g1, g2⟩ := hg
  refine ⟨(ws.map fun w => (a * w.1, w.2)) ++ us.map fun w => (b * w.1, w.2), fun w hw => ?_, fun x => ?_⟩
  · rcases List.mem_append.mp hw with hw | hw
    · obtain ⟨z, hz, rfl⟩ := List.mem_map.mp hw; exact h1 z hz
    · obtain ⟨z, hz, rfl⟩ := List.mem_map.mp hw; exact g1 z hz
  · rw [sum_app, sum_map_mul, sum_map_mul]
    show a * f x + b * g x = _
    rw [h2, g2]
theorem Lk.col {cs : List Nat} {c : Nat} (h : c ∈ cs) : Lk cs (fun x => x c) := ⟨[(1, c)], (fun w hw => by rw [List.mem_singleton.mp hw]; exact h), fun x => by simp⟩
theorem Lk.more {cs ds : List Nat} {f : Row → Int} (h : Lk cs f) (hs : ∀ c ∈ cs, c ∈ ds) : Lk ds f := by
  obtain ⟨ws, h1, h2⟩ := h
  exact ⟨ws, fun w hw => hs _ (h1 w hw), h2⟩
theorem Lk.congr {cs : List Nat} {f g : Row → Int} (h : Lk cs f) (e : ∀ x, g x = f x) : Lk cs g := by rw [funext e]; exact h
theorem Lk_E : ∀ (cs : List Nat) (D : Fn), Lk cs (fun x => E x D cs)
  | [], D => Lk.zero []
  | c :: cs, D => by
    have h1 := (Lk_E cs fun l => D (c :: l)).more (ds := c :: cs) fun z hz => List.mem_cons_of_mem _ hz
    have h2 := Lk.col (cs := c :: cs) (c := c) List.mem_cons_self
    refine (h2.lin h1 (D cs) (-1)).congr fun x => ?_
    rw [E_cons]
    grind
theorem F_Lk {cs : List Nat} {f : Row → Int} (h : Lk cs f) (R : List Row) : F f (fun S => det S cs) R = 0 := by
  obtain ⟨ws, h1, h2⟩ := h
  have key : ∀ ws : List (Int × Nat), (∀ w ∈ ws, w.2 ∈ cs) → F (fun x => (ws.map fun w => w.1 * x w.2).foldr (· + ·) 0) (fun S => det S cs) R = 0 := by
    intro ws
    induction ws with
    | nil => intro _; exact F_none _ _ R fun _ _ => rfl
    | cons w ws ih =>
      intro h
      have e := F_fun (fun x => x w.2) (fun x => (ws.map fun w => w.1 * x w.2).foldr (· + ·) 0) w.1 1 (fun S => det S cs) R
      rw [show (fun x : Row => ((w :: ws).map fun w => w.1 * x w.2).foldr (· + ·) 0) = fun x => w.1 * x w.2 + 1 * (ws.map fun w => w.1 * x w.2).foldr (· + ·) 0 from funext fun x => by simp, e, ih fun z hz => h z (List.mem_cons_of_mem _ hz), ← det_col, det_dup R (h w List.mem_cons_self)]
      omega
  rw [show f = fun x => (ws.map fun w => w.1 * x w.2).foldr (· + ·) 0 from funext h2]
  exact key ws h1
theorem cramer {R : List Row} {cs : List Nat} (hd : det R cs ≠ 0) {f : Row → Int} (h : Lk cs f) (h0 : ∀ x ∈ R, f x = 0) (x : Row) : f x = 0 := by
  have e := F_Lk h (x :: R)
  rw [F_cons, F_none f _ R h0] at e
  have e2 : f x * det R cs = 0 := by omega
  rcases Int.mul_eq_zero.mp e2 with e2 | e2
  · exact e2
  · exact absurd e2 hd
noncomputable def left (R : List Row) (ps : List Nat) (x : Row) : Row := fun j => det (x :: R) (j :: ps)
theorem left_eq (R : List Row) (ps : List Nat) (x : Row) (j : Nat) : left R ps x j = x j * det R ps - E x (fun l => det R (j :: l)) ps := rfl
theorem left_mem {R : List Row} {ps : List Nat} {x : Row} (h : x ∈ R) (j : Nat) : left R ps x j = 0 := det_mem h _
theorem bareiss {R : List Row} {ps : List Nat} {k : Row} {p : Nat} (hd : left R ps k p ≠ 0) (x : Row) (j : Nat) :
    det R ps * left (k :: R) (p :: ps) x j = left R ps k p * left R ps x j - left R ps x p * left R ps k j := by
  have hd' : det (k :: R) (p :: ps) = left R ps k p := rfl
  have h1 : Lk (p :: ps) (fun x => det R ps * left (k :: R) (p :: ps) x j - left R ps k p * left R ps x j + left R ps x p * left R ps k j) := by
    have l1 := Lk_E (p :: ps) (fun l => det (k :: R) (j :: l))
    have l2 := (Lk_E ps (fun l => det R (j :: l))).more (ds := p :: ps) fun z hz => List.mem_cons_of_mem _ hz
    have l3 := (Lk_E ps (fun l => det R (p :: l))).more (ds := p :: ps) fun z hz => List.mem_cons_of_mem _ hz
    have l4 := Lk.col (cs := p :: ps) (c := p) List.mem_cons_self
    have m1 := l1.lin l2 (- det R ps) (left R ps k p)
    have m2 := l4.lin l3 (det R ps * left R ps k j) (- left R ps k j)
    refine (m1.lin m2 1 1).congr fun x => ?_
    rw [left_eq (k :: R), left_eq R ps x j, left_eq R ps x p, hd']
    grind
  have h2 : ∀ y ∈ k :: R, det R ps * left (k :: R) (p :: ps) y j - left R ps k p * left R ps y j + left R ps y p * left R ps k j = 0 := fun y hy => by
    rw [left_mem hy]
    rcases List.mem_cons.mp hy with rfl | hy
    · grind
    · rw [left_mem hy, left_mem hy]; omega
  have h3 := cramer (R := k :: R) (cs := p :: ps) (by rw [hd']; exact hd) h1 h2 x
  have h4 : det R ps * left (k :: R) (p :: ps) x j - left R ps k p * left R ps x j + left R ps x p * left R ps k j = 0 := h3
  omega
end Dt

namespace Dt
inductive Sp : List Row → Row → Prop
  | nil {x : Row} (h : ∀ c, x c = 0) : Sp [] x
  | cons {w : Row} {W : List Row} {x y : Row} (a : Int) (h : ∀ c, x c = a * w c + y c) (hy : Sp W y) : Sp (w :: W) x
theorem Sp.lin : ∀ {W : List Row} {x y : Row} (a b : Int), Sp W x → Sp W y → Sp W (fun c => a * x c + b * y c)
  | [], x, y, a, b, .nil h, .nil h' => .nil fun c => by rw [h, h']; omega
  | w :: W, x, y, a, b, .cons s h h1, .cons t h' h2 => .cons (a * s + b * t) (fun c => by rw [h, h']; grind) (Sp.lin a b h1 h2)
theorem Sp.zero : ∀ (W : List Row), Sp W (fun _ => 0)
  | [] => .nil fun _ => rfl
  | w :: W => .cons 0 (fun c => by omega) (Sp.zero W)
end Dt

namespace Dt
noncomputable def rw (l : List Int) : Row := fun j => l.getD j 0
noncomputable def lefts (w : Nat) (R : List Row) (ps : List Nat) (x : Row) : List Int := (List.range w).map (left R ps x)
theorem lefts_get {w : Nat} {R : List Row} {ps : List Nat} {x : Row} {j : Nat} (h : j < w) : rw (lefts w R ps x) j = left R ps x j := by
  unfold rw lefts
  rw [List.getD_eq_getElem?_getD, List.getElem?_map, List.getElem?_range h]
  rfl
theorem lefts_len (w : Nat) (R : List Row) (ps : List Nat) (x : Row) : (lefts w R ps x).length = w := by unfold lefts; rw [List.length_map, List.length_range]
inductive Ch (w : Nat) : List Row → List Nat → List (Nat × List Int) → Prop
  | nil : Ch w [] [] []
  | cons {R : List Row} {ps : List Nat} {kr : List (Nat × List Int)} {x : Row} {p : Nat} (h : Ch w R ps kr) (hp : p < w) (hn : left R ps x p ≠ 0) : Ch w (x :: R) (p :: ps) ((p, lefts w R ps x) :: kr)
theorem Ch.det {w : Nat} {R : List Row} {ps : List Nat} {kr : List (Nat × List Int)} : Ch w R ps kr → det R ps ≠ 0
  | .nil => by decide
  | .cons h hp hn => hn
theorem Ch.ps {w : Nat} {R : List Row} {ps : List Nat} {kr : List (Nat × List Int)} : Ch w R ps kr → ∀ p ∈ ps, p < w
  | .nil, _, h => by cases h
  | .cons h hp hn, q, hq => by
    rcases List.mem_cons.mp hq with rfl | hq
    · exact hp
    · exact h.ps q hq
theorem Ch.len {w : Nat} {R : List Row} {ps : List Nat} {kr : List (Nat × List Int)} : Ch w R ps kr → R.length = kr.length ∧ ps.length = kr.length
  | .nil => ⟨rfl, rfl⟩
  | .cons h hp hn => by have := h.len; simp only [List.length_cons]; omega
noncomputable def clr (row : List Int) : List (Nat × List Int) → List Int × Int
  | [] => (row, 1)
  | (p, K) :: kr => (List.zipWith (fun n l => (K.getD p 0 * n - (clr row kr).1.getD p 0 * l).fdiv (clr row kr).2) (clr row kr).1 K, K.getD p 0)
theorem left_nil (x : Row) (j : Nat) : left [] [] x j = x j := by
  show E x (det []) [j] = x j
  simp [E, Dt.det]
theorem list_lefts_nil {w : Nat} {row : List Int} (h : row.length = w) : row = lefts w [] [] (rw row) := by
  apply List.ext_getElem?
  intro i
  unfold lefts
  rw [List.getElem?_map]
  by_cases hi : i < w
  · rw [List.getElem?_range hi]
    show row[i]? = some (left [] [] (rw row) i)
    rw [left_nil]
    unfold rw
    rw [List.getD_eq_getElem?_getD, List.getElem?_eq_getElem (by omega)]
    rfl
  · rw [List.getElem?_eq_none (by omega), List.getElem?_eq_none (by rw [List.length_range]; omega)]
    rfl
theorem zip_lefts {w : Nat} {R : List Row} {ps : List Nat} {x y : Row} (f : Int → Int → Int) : List.zipWith f (lefts w R ps x) (lefts w R ps y) = (List.range w).map fun j => f (left R ps x j) (left R ps y j) := by
  unfold lefts
  rw [List.zipWith_map_left, List.zipWith_map_right, List.zipWith_self]
noncomputable def Prop' (w : Nat) (r : Row) (l : Row) : Prop := ∃ a b : Int, a ≠ 0 ∧ b ≠ 0 ∧ ∀ j < w, a * r j = b * l j
theorem Prop'.zero {w : Nat} {r l : Row} (h : Prop' w r l) {j : Nat} (hj : j < w) : r j = 0 ↔ l j = 0 := by
  obtain ⟨a, b, ha, hb, e⟩ := h
  have ej := e j hj
  constructor
  · intro h0
    rw [h0, Int.mul_zero] at ej
    rcases Int.mul_eq_zero.mp ej.symm with z | z
    · exact absurd z hb
    · exact z
  · intro h0
    rw [h0, Int.mul_zero] at ej
    rcases Int.mul_eq_zero.mp ej with z | z
    · exact absurd z ha
    · exact z
end Dt

namespace Dt
noncomputable def fp (w : Nat) (x : Row) : Option Nat := (List.range w).find? fun j => x j != 0
noncomputable def fr (w : Nat) : List Row → Nat → List Row → List Nat → List Nat
  | [], _, _, _ => []
  | x :: rest, i, R, ps => match fp w (left R ps x) with
    | none => fr w rest (i + 1) R ps
    | some p => i :: fr w rest (i + 1) (x :: R) (p :: ps)
theorem index {α : Type} {l : List α} : ∀ {S : List α}, (∀ x ∈ S, x ∈ l) → ∀ d, ∃ is : List Nat, (∀ i ∈ is, i < l.length) ∧ S = is.map fun i => l.getD i d
  | [], _, d => ⟨[], (fun _ h => by cases h), rfl⟩
  | x :: S, h, d => by
    obtain ⟨is, h1, h2⟩ := index (S := S) (fun y hy => h y (List.mem_cons_of_mem _ hy)) d
    obtain ⟨i, hi, e⟩ := List.getElem_of_mem (h x List.mem_cons_self)
    refine ⟨i :: is, fun j hj => ?_, ?_⟩
    · rcases List.mem_cons.mp hj with rfl | hj
      · exact hi
      · exact h1 j hj
    · rw [List.map_cons, ← h2, List.getD_eq_getElem?_getD, List.getElem?_eq_getElem hi, e]; rfl
end Dt

namespace Dt
theorem E_bd {M N : Nat} : ∀ (cs : List Nat) (x : Row) (D : Fn), (∀ j, (x j).natAbs ≤ M) → (∀ l : List Nat, l.length < cs.length → (D l).natAbs ≤ N) → (E x D cs).natAbs ≤ cs.length * (M * N)
  | [], x, D, _, _ => by simp [E]
  | c :: cs, x, D, hx, hD => by
    rw [E_cons, List.length_cons, Nat.succ_mul]
    have h1 : (x c * D cs).natAbs ≤ M * N := by
      rw [Int.natAbs_mul]
      exact Nat.mul_le_mul (hx c) (hD cs (by simp))
    have h2 := E_bd (M := M) (N := N) cs x (fun l => D (c :: l)) hx fun l hl => hD (c :: l) (by simp only [List.length_cons]; omega)
    omega
theorem det_bd {M n : Nat} : ∀ (R : List Row) (cs : List Nat), (∀ x ∈ R, ∀ j, (x j).natAbs ≤ M) → cs.length ≤ n → (det R cs).natAbs ≤ (n * M + 1) ^ R.length
  | [], cs, _, _ => by
    cases cs with
    | nil => simp [det]
    | cons c cs => simp [det]
  | x :: R, cs, hR, hn => by
    rw [det_cons, List.length_cons, Nat.pow_succ]
    have ih : ∀ l : List Nat, l.length < cs.length → (det R l).natAbs ≤ (n * M + 1) ^ R.length := fun l hl => det_bd R l (fun y hy => hR y (List.mem_cons_of_mem _ hy)) (by omega)
    refine Nat.le_trans (E_bd cs x (det R) (hR x List.mem_cons_self) ih) ?_
    calc cs.length * (M * (n * M + 1) ^ R.length) ≤ n * (M * (n * M + 1) ^ R.length) := Nat.mul_le_mul_right _ hn
      _ = (n * M) * (n * M + 1) ^ R.length := by rw [Nat.mul_assoc]
      _ ≤ (n * M + 1) * (n * M + 1) ^ R.length := Nat.mul_le_mul_right _ (Nat.le_succ _)
      _ = (n * M + 1) ^ R.length * (n * M + 1) := Nat.mul_comm _ _
inductive Fw (w : Nat) : List Row → List Nat → List (Nat × List Int) → List Row → List Nat → Prop
  | nil {R : List Row} {ps : List Nat} : Fw w R ps [] R ps
  | cons {R R' : List Row} {ps ps' : List Nat} {ks : List (Nat × List Int)} {x : Row} {p : Nat} (hp : p < w) (hn : left R ps x p ≠ 0) (h : Fw w (x :: R) (p :: ps) ks R' ps') : Fw w R ps ((p, lefts w R ps x) :: ks) R' ps'
theorem Fw.snoc {w : Nat} {R R' : List Row} {ps ps' : List Nat} {ks : List (Nat × List Int)} (h : Fw w R ps ks R' ps') {x : Row} {p : Nat} (hp : p < w) (hn : left R' ps' x p ≠ 0) : Fw w R ps (ks ++ [(p, lefts w R' ps' x)]) (x :: R') (p :: ps') := by
  induction h with
  | nil => exact .cons hp hn .nil
  | cons hp' hn' h ih => exact .cons hp' hn' (ih hn)
theorem step_list {w : Nat} {R : List Row} {ps : List Nat} {k x : Row} {p : Nat} (hd : det R ps ≠ 0) (hn : left R ps k p ≠ 0) :
    List.zipWith (fun n l => (left R ps k p * n - left R ps x p * l).fdiv (det R ps)) (lefts w R ps x) (lefts w R ps k) = lefts w (k :: R) (p :: ps) x := by
  rw [zip_lefts]
  unfold lefts
  apply List.map_congr_left
  intro j _
  rw [← bareiss hn x j]
  exact Int.mul_fdiv_cancel_left _ hd
end Dt

namespace Dt
noncomputable def ins (a : Nat) : List Nat → List Nat
  | [] => [a]
  | b :: l => if b < a then b :: ins a l else a :: b :: l
inductive Up : List Nat → Prop
  | nil : Up []
  | cons {a : Nat} {l : List Nat} (h : ∀ b ∈ l, a ≤ b) (u : Up l) : Up (a :: l)
theorem ins_mem {a : Nat} : ∀ {l : List Nat} {x : Nat}, x ∈ ins a l ↔ x = a ∨ x ∈ l
  | [], x => by simp [ins]
  | b :: l, x => by
    unfold ins
    split
    · rw [List.mem_cons, ins_mem, List.mem_cons]
      grind
    · simp
theorem Up.ins {a : Nat} : ∀ {l : List Nat}, Up l → Up (ins a l)
  | [], _ => .cons (fun _ h => by cases h) .nil
  | b :: l, .cons h u => by
    unfold Dt.ins
    split
    · next hb =>
      refine .cons (fun x hx => ?_) u.ins
      rcases ins_mem.mp hx with rfl | hx
      · omega
      · exact h x hx
    · next hb =>
      refine .cons (fun x hx => ?_) (.cons h u)
      rcases List.mem_cons.mp hx with rfl | hx
      · omega
      · have := h x hx
        omega
end Dt

namespace Dq
noncomputable abbrev Row := Nat → Rat
noncomputable abbrev Fn := List Nat → Rat
noncomputable def E (x : Row) : Fn → List Nat → Rat
  | _, [] => 0
  | D, c :: cs => x c * D cs - E x (fun l => D (c :: l)) cs
noncomputable def det : List Row → Fn
  | [] => fun cs => if cs = [] then 1 else 0
  | x :: R => fun cs => E x (det R) cs
theorem det_cons (x : Row) (R : List Row) (cs : List Nat) : det (x :: R) cs = E x (det R) cs := rfl
theorem E_cons (x : Row) (D : Fn) (c : Nat) (cs : List Nat) : E x D (c :: cs) = x c * D cs - E x (fun l => D (c :: l)) cs := rfl
theorem E_zero (x : Row) : ∀ cs, E x (fun _ => 0) cs = 0
  | [] => rfl
  | c :: cs => by rw [E_cons, E_zero x cs, Rat.mul_zero, Rat.sub_self]
theorem E_lin (x : Row) (a b : Rat) (D D' : Fn) : ∀ cs, E x (fun l => a * D l + b * D' l) cs = a * E x D cs + b * E x D' cs := by
  intro cs
  induction cs generalizing D D' with
  | nil => simp only [E]; grind
  | cons c cs ih =>
    rw [E_cons, E_cons, E_cons, ih (fun l => D (c :: l)) (fun l => D' (c :: l))]
    grind
theorem E_anti (x y : Row) (D : Fn) : ∀ cs, E x (E y D) cs = - E y (E x D) cs := by
  intro cs
  induction cs generalizing D with
  | nil => rfl
  | cons c cs ih =>
    have h1 : E x (fun l => E y D (c :: l)) cs = y c * E x D cs - E x (E y (fun l => D (c :: l))) cs := by
      have := E_lin x (y c) (-1) D (E y fun l => D (c :: l)) cs
      rw [show (fun l => E y D (c :: l)) = fun l => y c * D l + (-1) * E y (fun l => D (c :: l)) l from funext fun l => by rw [E_cons]; grind, this]
      grind
    have h2 : E y (fun l => E x D (c :: l)) cs = x c * E y D cs - E y (E x (fun l => D (c :: l))) cs := by
      have := E_lin y (x c) (-1) D (E x fun l => D (c :: l)) cs
      rw [show (fun l => E x D (c :: l)) = fun l => x c * D l + (-1) * E x (fun l => D (c :: l)) l from funext fun l => by rw [E_cons]; grind, this]
      grind
    rw [E_cons, E_cons, h1, h2, ih]
    grind
theorem E_twice (x : Row) (D : Fn) (cs : List Nat) : E x (E x D) cs = 0 := by
  have := E_anti x x D cs
  grind
theorem det_anti (x y : Row) (R : List Row) (cs : List Nat) : det (x :: y :: R) cs = - det (y :: x :: R) cs := E_anti x y (det R) cs
theorem det_mem {x : Row} : ∀ {R : List Row}, x ∈ R → ∀ cs, det (x :: R) cs = 0
  | [], h, _ => by cases h
  | y :: R, h, cs => by
    rcases List.mem_cons.mp h with rfl | h
    · exact E_twice x (det R) cs
    · rw [det_anti, det_cons, show det (x :: R) = fun _ => 0 from funext (det_mem h), E_zero]; rfl
noncomputable def Alt (D : Fn) : Prop := ∀ pre a b cs, D (pre ++ a :: b :: cs) = - D (pre ++ b :: a :: cs)
theorem Alt.tl {D : Fn} (h : Alt D) (c : Nat) : Alt (fun l => D (c :: l)) := fun pre a b cs => h (c :: pre) a b cs
theorem E_alt (x : Row) : ∀ (pre : List Nat) (D : Fn), Alt D → ∀ a b cs, E x D (pre ++ a :: b :: cs) = - E x D (pre ++ b :: a :: cs)
  | [], D, h, a, b, cs => by
    show E x D (a :: b :: cs) = - E x D (b :: a :: cs)
    have e : ∀ cs, E x (fun l => D (a :: b :: l)) cs = - E x (fun l => D (b :: a :: l)) cs := fun cs => by
      have := E_lin x (-1) 0 (fun l => D (b :: a :: l)) (fun _ => 0) cs
      rw [show (fun l => D (a :: b :: l)) = fun l => (-1) * D (b :: a :: l) + 0 * 0 from funext fun l => by rw [show D (a :: b :: l) = - D (b :: a :: l) from h [] a b l]; grind, this]
      grind
    rw [E_cons, E_cons, E_cons, E_cons, e]
    grind
  | p :: pre, D, h, a, b, cs => by
    show E x D (p :: (pre ++ a :: b :: cs)) = - E x D (p :: (pre ++ b :: a :: cs))
    rw [E_cons, E_cons, E_alt x pre _ (h.tl p), h pre a b cs]
    grind
theorem det_alt : ∀ R : List Row, Alt (det R)
  | [] => fun pre a b cs => by simp [det]
  | x :: R => fun pre a b cs => E_alt x pre (det R) (det_alt R) a b cs
theorem Alt.dup {D : Fn} (h : Alt D) (c : Nat) (cs : List Nat) : ∀ pre : List Nat, D (c :: pre ++ c :: cs) = 0
  | [] => by
    have := h [] c c cs
    show D (c :: c :: cs) = 0
    have e : D (c :: c :: cs) = - D (c :: c :: cs) := this
    grind
  | p :: pre => by
    have e := h [] c p (pre ++ c :: cs)
    have e2 : D (c :: p :: (pre ++ c :: cs)) = - D (p :: c :: (pre ++ c :: cs)) := e
    have e3 := Alt.dup (h.tl p) c cs pre
    show D (c :: p :: (pre ++ c :: cs)) = 0
    have e4 : D (p :: c :: (pre ++ c :: cs)) = 0 := e3
    grind
theorem det_dup (R : List Row) {c : Nat} {cs : List Nat} (h : c ∈ cs) : det R (c :: cs) = 0 := by
  obtain ⟨s, t, rfl⟩ := List.append_of_mem h
  exact (det_alt R).dup c t s
noncomputable def F (f : Row → Rat) : (List Row → Rat) → List Row → Rat
  | _, [] => 0
  | G, x :: R => f x * G R - F f (fun S => G (x :: S)) R
theorem F_cons (f : Row → Rat) (G : List Row → Rat) (x : Row) (R : List Row) : F f G (x :: R) = f x * G R - F f (fun S => G (x :: S)) R := rfl
theorem F_fun (f g : Row → Rat) (a b : Rat) (G : List Row → Rat) : ∀ R, F (fun x => a * f x + b * g x) G R = a * F f G R + b * F g G R := by
  intro R
  induction R generalizing G with
  | nil => simp only [F]; grind
  | cons x R ih =>
    rw [F_cons, F_cons, F_cons, ih (fun S => G (x :: S))]
    grind
theorem F_none (f : Row → Rat) (G : List Row → Rat) : ∀ R, (∀ x ∈ R, f x = 0) → F f G R = 0 := by
  intro R
  induction R generalizing G with
  | nil => intro _; rfl
  | cons x R ih =>
    intro h
    rw [F_cons, h x List.mem_cons_self, ih _ fun y hy => h y (List.mem_cons_of_mem _ hy)]
    grind
theorem E_F (x : Row) (f : Row → Rat) (g : List Row → Fn) : ∀ (R : List Row) (cs : List Nat), E x (fun l => F f (fun S => g S l) R) cs = F f (fun S => E x (g S) cs) R := by
  intro R
  induction R generalizing g with
  | nil => intro cs; exact E_zero x cs
  | cons y R ih =>
    intro cs
    have e := E_lin x (f y) (-1) (g R) (fun l => F f (fun S => g (y :: S) l) R) cs
    rw [show (fun l => F f (fun S => g S l) (y :: R)) = fun l => f y * g R l + (-1) * F f (fun S => g (y :: S) l) R from funext fun l => by rw [F_cons]; grind, e, ih (fun S => g (y :: S)), F_cons]
    grind
theorem det_col (c : Nat) (cs : List Nat) : ∀ R : List Row, det R (c :: cs) = F (fun x => x c) (fun S => det S cs) R
  | [] => by simp [det, F]
  | x :: R => by
    rw [det_cons, E_cons, F_cons, show (fun l => det R (c :: l)) = fun l => F (fun x => x c) (fun S => det S l) R from funext fun l => det_col c l R, E_F]
    rfl
noncomputable def sm (cs : List Nat) (f : Nat → Rat) : Rat := (cs.map f).foldr (· + ·) 0
end Dq

namespace My
open PySem PySem.Spec PyProof.Rows L2 TM
theorem le17 : (17 : Nat) ≤ sizeLine := small_le (by decide)
theorem lt6 : (6 : Nat) < sizeLine := small1000 (by decide)
theorem gEq_pair {a b c d : Int} : gEq (.tup [.int a, .int b]) (.tup [.int c, .int d]) = some (.bl (decide (a = c) && decide (b = d))) := by
  have e : gEq (.tup [.int a, .int b]) (.tup [.int c, .int d]) = some (.bl ((a == c) && ((b == d) && true))) := rfl
  rw [e, Bool.and_true, Bool.beq_eq_decide_eq, Bool.beq_eq_decide_eq]
theorem gEq_bools {x y : Bool} : gEq (.lst [.bl x, .bl y]) (.lst [.bl x, .bl y]) = some (.bl true) := by
  have e : gEq (.lst [.bl x, .bl y]) (.lst [.bl x, .bl y]) = some (.bl ((x == x) && ((y == y) && true))) := rfl
  rw [e, beq_self_eq_true, beq_self_eq_true]
  rfl
theorem while_common : ∀ (n : Nat) (u : Option Sl) (x y : Nat), y < n → whileT (fTB (fOp gNe (fVar 1) (fC (.int 0)))) (fPar 0 1 (fCons (fVar 1) (fCons (fOp gMod (fVar 0) (fVar 1)) fNil))) n [some (.sh (.int x)), some (.sh (.int y)), u]
    = some (.nx [some (.sh (.int (Nat.gcd x y))), some (.sh (.int 0)), u])
  | 0, _, _, _, h => by omega
  | n + 1, u, x, y, h => by
    unfold whileT
    by_cases hy : y = 0
    · subst hy
      have h0 : ((0 : Nat) : Int) = 0 := rfl
      walk_at "ev"
      simp
    · have hy' : ¬ ((y : Int) = 0) := by omega
      have hm : Int.fmod (x : Int) (y : Int) = ((x % y : Nat) : Int) := by rw [Int.fmod_eq_emod_of_nonneg _ (by omega)]; rfl
      have hg : Nat.gcd x y = Nat.gcd y (x % y) := by rw [Nat.gcd_comm x y, Nat.gcd_rec y x, Nat.gcd_comm]
      have ih := while_common n u y (x % y) (by have := Nat.mod_lt x (Nat.pos_of_ne_zero hy); omega)
      rw [hg]
      clear hg h hy
      walk_at "ev"
theorem while_law : ∀ (n : Nat) (u v : Option Sl) (x y : Nat), y < n → whileT (fTB (fOp gGt (fVar 3) (fC (.int 0)))) (fPar 2 3 (fCons (fVar 3) (fCons (fOp gMod (fVar 2) (fVar 3)) fNil))) n [u, v, some (.sh (.int x)), some (.sh (.int y))]
    = some (.nx [u, v, some (.sh (.int (Nat.gcd x y))), some (.sh (.int 0))])
  | 0, _, _, _, _, h => by omega
  | n + 1, u, v, x, y, h => by
    unfold whileT
    by_cases hy : y = 0
    · subst hy
      have h0 : ((0 : Nat) : Int) = 0 := rfl
      walk_at "ev"
      simp
    · have hy' : ¬ ((y : Int) = 0) := by omega
      have hy2 : (0 : Int) < y := by omega
      have hm : Int.fmod (x : Int) (y : Int) = ((x % y : Nat) : Int) := by rw [Int.fmod_eq_emod_of_nonneg _ (by omega)]; rfl
      have hg : Nat.gcd x y = Nat.gcd y (x % y) := by rw [Nat.gcd_comm x y, Nat.gcd_rec y x, Nat.gcd_comm]
      have ih := while_law n u v y (x % y) (by have := Nat.mod_lt x (Nat.pos_of_ne_zero hy); omega)
      rw [hg]
      clear hg h hy
      walk_at "ev"
theorem while_no {ft : FT} {fb : FS} {τ τ' : TEnv} {n : Nat} (h : ft τ = some (false, τ')) (hn : 0 < n) : whileT ft fb n τ = some (.nx τ') := by
  obtain ⟨m, rfl⟩ : ∃ m, n = m + 1 := ⟨n - 1, by omega⟩
  unfold whileT
  rw [h]
  rfl
theorem B_pos : 0 < B := by decide +kernel
theorem bits_le {x : Int} (h : x.natAbs < B) : ¬ ((Builtin.Int.intBits x : Int) > 4000) := by
  unfold Builtin.Int.intBits
  by_cases h0 : x = 0
  · subst h0; decide
  · rw [if_neg (by simpa using h0)]
    have : x.natAbs.log2 < 4000 := (Nat.log2_lt (by omega)).mpr h
    omega
noncomputable def mCommon : List T → Option T
  | [.int a, .int b] => if a.natAbs < B ∧ b.natAbs < B then some (.int (Int.gcd a b)) else none
  | _ => none
theorem mCommon_eq {a b : Int} (ha : a.natAbs < B) (hb : b.natAbs < B) : mCommon [.int a, .int b] = some (.int (Int.gcd a b)) := if_pos ⟨ha, hb⟩
theorem sp_common (ts : List T) (t : T) (h : mCommon ts = some t) : dOf 3 2 (b_common B (fun _ => none)) ts = some t := by
  unfold mCommon at h
  split at h
  · next a b =>
    split at h
    · next hb =>
      cases h
      have hw := while_common B none a.natAbs b.natAbs (hb.2)
      have hbits := bits_le (x := ((b.natAbs : Nat) : Int)) (by simpa using hb.2)
      have hgt : gGt (.int (Builtin.Int.intBits ((b.natAbs : Nat) : Int))) (.int 4000) = some (.bl false) := by
        show some (T.bl (decide _)) = _
        rw [decide_eq_false hbits]
      have hno : whileT (fTB (fOp gGt (fUn gBits (fVar 1)) (fC (.int 4000)))) (fSeq (fPar 0 1 (fCons (fVar 1) (fCons (fOp gMod (fVar 0) (fVar 1)) fNil))) (fIfS (fTB (fOp gGt (fUn gBits (fVar 1)) (fC (.int 4000)))) (fAsg (fCall (fun _ => none) (fCons (fVar 0) (fCons (fVar 1) fNil))) (gnTup (gnCons (gnName 0) (gnCons (gnName 1) (gnCons (gnName 2) gnNil))))) fNext)) B [some (.sh (.int (a.natAbs : Nat))), some (.sh (.int (b.natAbs : Nat))), none]
          = some (.nx [some (.sh (.int (a.natAbs : Nat))), some (.sh (.int (b.natAbs : Nat))), none]) := while_no (by
            clear hw hbits
            walk_at "ev") B_pos
      unfold dOf b_common
      clear hb hbits hgt
      walk_at "ev"
      rfl
    · cases h
  · cases h
noncomputable def sg (a b : Int) : Int := if b < 0 then -(Int.gcd a b : Int) else (Int.gcd a b : Int)
noncomputable def frT (a b : Int) : T := .tup [.int (a.fdiv (sg a b)), .int (b.fdiv (sg a b))]
noncomputable def mFrac : List T → Option T
  | [.int a, .int b] => if a.natAbs < B ∧ b.natAbs < B ∧ b ≠ 0 then some (frT a b) else none
  | _ => none
theorem mFrac_eq {a b : Int} (ha : a.natAbs < B) (hb : b.natAbs < B) (h0 : b ≠ 0) : mFrac [.int a, .int b] = some (frT a b) := if_pos ⟨ha, hb, h0⟩
theorem gcd_ne {a b : Int} (h0 : b ≠ 0) : ¬ ((Int.gcd a b : Nat) : Int) = 0 := by
  intro h
  have : Int.gcd a b = 0 := by omega
  rw [Int.gcd_eq_zero_iff] at this
  exact h0 this.2
theorem gcd_B {a b : Int} (hb : b.natAbs < B) (h0 : b ≠ 0) : Int.gcd a b < B := by
  have h1 : Int.gcd a b ∣ b.natAbs := Int.gcd_dvd_natAbs_right a b
  have := Nat.le_of_dvd (by omega) h1
  omega
theorem bits_8 {x : Int} (h : x.natAbs < B) : gLt (.int (Builtin.Int.intBits x)) (.int 8000) = some (.bl true) := by
  show some (T.bl (decide _)) = _
  rw [decide_eq_true (by have := bits_le h; omega)]
theorem sp_frac (ts : List T) (t : T) (h : mFrac ts = some t) : dOf 3 2 (b_frac mCommon) ts = some t := by
  unfold mFrac at h
  split at h
  · next a b =>
    split at h
    · next hb =>
      cases h
      obtain ⟨ha, hb, h0⟩ := hb
      have h1 := mCommon_eq ha hb
      have h2 := gcd_ne (a := a) h0
      have h3 := gcd_B (a := a) hb h0
      have h4 : ((Int.gcd a b : Nat) : Int).natAbs < B := by omega
      have h5 : ¬ -((Int.gcd a b : Nat) : Int) = 0 := by omega
      have h6 : (-((Int.gcd a b : Nat) : Int)).natAbs < B := by omega
      have h7 := bits_8 h4
      have h8 := bits_8 h6
      unfold dOf b_frac
      by_cases hs : b < 0
      · have e : frT a b = .tup [.int (a.fdiv (-(Int.gcd a b : Int))), .int (b.fdiv (-(Int.gcd a b : Int)))] := by unfold frT sg; rw [if_pos hs]
        walk_at "ev"
      · have e : frT a b = .tup [.int (a.fdiv (Int.gcd a b : Int)), .int (b.fdiv (Int.gcd a b : Int))] := by unfold frT sg; rw [if_neg hs]
        walk_at "ev"
    · cases h
  · cases h
theorem sp_law_frac (ts : List T) (t : T) (h : mFrac ts = some t) : dOf 4 2 (b__law_frac B) ts = some t := by
  unfold mFrac at h
  split at h
  · next a b =>
    split at h
    · next hb =>
      cases h
      obtain ⟨ha, hb, h0⟩ := hb
      have h2 := gcd_ne (a := a) h0
      have h3 := gcd_B (a := a) hb h0
      have h4 : ((Int.gcd a b : Nat) : Int).natAbs < B := by omega
      have h5 : ¬ -((Int.gcd a b : Nat) : Int) = 0 := by omega
      have h6 : (-((Int.gcd a b : Nat) : Int)).natAbs < B := by omega
      have hz : ∀ i : Int, 0 - i = -i := fun i => by omega
      have hw := while_law B (some (.sh (.int a))) (some (.sh (.int b))) a.natAbs b.natAbs hb
      have hg : Nat.gcd a.natAbs b.natAbs = Int.gcd a b := rfl
      unfold dOf b__law_frac
      by_cases hs : b < 0
      · have e : frT a b = .tup [.int (a.fdiv (-(Int.gcd a b : Int))), .int (b.fdiv (-(Int.gcd a b : Int)))] := by unfold frT sg; rw [if_pos hs]
        walk_at "ev"
      · have e : frT a b = .tup [.int (a.fdiv (Int.gcd a b : Int)), .int (b.fdiv (Int.gcd a b : Int))] := by unfold frT sg; rw [if_neg hs]
        walk_at "ev"
    · cases h
  · cases h
end My

namespace My
open PySem PySem.Spec PyProof.Rows L2 TM Qm
noncomputable def C : Nat := 2 ^ 1000
theorem CCB : C * C + C * C < B := by decide +kernel
theorem CB : C < B := by decide +kernel
theorem ltB {a : Int} (h : a.natAbs < C) : a.natAbs < B := Nat.lt_trans h CB
theorem mulC {a b : Int} (ha : a.natAbs < C) (hb : b.natAbs < C) : (a * b).natAbs < C * C := by
  rw [Int.natAbs_mul]
  exact Nat.mul_lt_mul'' ha hb
theorem mulB' {a b : Int} (ha : a.natAbs < C) (hb : b.natAbs < C) : (a * b).natAbs < B := by
  have h1 := mulC ha hb
  have h2 := CCB
  omega
theorem addB {a b c d : Int} (ha : a.natAbs < C) (hb : b.natAbs < C) (hc : c.natAbs < C) (hd : d.natAbs < C) : (a * b + c * d).natAbs < B := by
  have h1 := mulC ha hb
  have h2 := mulC hc hd
  have h3 := CCB
  omega
structure Fr (a b : Int) : Prop where
  pos : 0 < b
  cop : Cop a b
  ba : a.natAbs < C
  bb : b.natAbs < C
theorem frT_pos {a b : Int} (h : 0 < b) : frT a b = .tup [.int (a.fdiv (Int.gcd a b)), .int (b.fdiv (Int.gcd a b))] := by
  unfold frT sg
  rw [if_neg (by omega)]
noncomputable def two : List T → Option (Int × Int × Int × Int)
  | [.tup [.int a, .int b], .tup [.int c, .int d]] => some (a, b, c, d)
  | _ => none
theorem two_eq {ts : List T} {a b c d : Int} (h : two ts = some (a, b, c, d)) : ts = [.tup [.int a, .int b], .tup [.int c, .int d]] := by
  unfold two at h
  split at h
  · cases h; rfl
  · cases h
noncomputable instance (a b : Int) : Decidable (Fr a b) := decidable_of_iff (0 < b ∧ Int.gcd a b = 1 ∧ a.natAbs < C ∧ b.natAbs < C) ⟨fun h => ⟨h.1, h.2.1, h.2.2.1, h.2.2.2⟩, fun h => ⟨h.pos, h.cop, h.ba, h.bb⟩⟩
noncomputable def mTwo (C : Int → Int → Int → Int → Bool) (g : Int → Int → Int → Int → T) : List T → Option T := fun ts => (two ts).bind fun p => if Fr p.1 p.2.1 ∧ Fr p.2.2.1 p.2.2.2 ∧ C p.1 p.2.1 p.2.2.1 p.2.2.2 = true then some (g p.1 p.2.1 p.2.2.1 p.2.2.2) else none
theorem mTwo_inv {C : Int → Int → Int → Int → Bool} {g : Int → Int → Int → Int → T} {ts : List T} {t : T} (h : mTwo C g ts = some t) : ∃ a b c d, ts = [.tup [.int a, .int b], .tup [.int c, .int d]] ∧ Fr a b ∧ Fr c d ∧ C a b c d = true ∧ t = g a b c d := by
  obtain ⟨⟨a, b, c, d⟩, e, h⟩ := bind_some h
  dsimp only at h
  split at h
  · next k => cases h; exact ⟨a, b, c, d, two_eq e, k.1, k.2.1, k.2.2, rfl⟩
  · cases h
theorem mTwo_eq {C : Int → Int → Int → Int → Bool} {g : Int → Int → Int → Int → T} {a b c d : Int} (h1 : Fr a b) (h2 : Fr c d) (h3 : C a b c d = true) : mTwo C g [.tup [.int a, .int b], .tup [.int c, .int d]] = some (g a b c d) := if_pos ⟨h1, h2, h3⟩
noncomputable abbrev mPl := mTwo (fun _ _ _ _ => true) fun a b c d => frT (a * d + c * b) (b * d)
noncomputable abbrev mTi := mTwo (fun _ _ _ _ => true) fun a b c d => frT (a * c) (b * d)
open Rq
noncomputable def q2t (q : Rat) : T := .tup [.int q.num, .int (q.den : Int)]
theorem frT_rat {a b : Int} (hb : 0 < b) : frT a b = q2t (Rat.divInt a b) := by
  have hs : b.sign = 1 := Int.sign_eq_one_of_pos hb
  have hg : (Int.gcd b a : Int) = (Int.gcd a b : Int) := by rw [Int.gcd_comm]
  rw [frT_pos hb]
  unfold q2t
  rw [Rat.num_divInt, Rat.den_divInt, if_neg (by omega), hs, Int.one_mul, hg, Int.fdiv_eq_ediv_of_nonneg _ (by omega), Int.fdiv_eq_ediv_of_nonneg _ (by omega)]
  congr 3
  rw [Int.natCast_ediv, Int.natAbs_of_nonneg (by omega), hg]
structure Sm (q : Rat) : Prop where
  n : q.num.natAbs < C
  d : q.den < C
theorem Sm.fr {q : Rat} (h : Sm q) : Fr q.num q.den := ⟨by have := q.den_nz; omega, by
  have := q.reduced
  show Int.gcd q.num q.den = 1
  exact this, h.n, by have := h.d; omega⟩
theorem q2t_divInt (q : Rat) : Rat.divInt q.num q.den = q := Rat.num_divInt_den q
theorem den_pos (q : Rat) : (0 : Int) < (q.den : Int) := by have := q.den_nz; omega
theorem add_eq (x y : Rat) : frT (x.num * y.den + y.num * x.den) (x.den * y.den) = q2t (x + y) := by
  rw [frT_rat (Int.mul_pos (den_pos x) (den_pos y))]
  congr 1
  rw [← Rat.divInt_add_divInt _ _ (Int.ne_of_gt (den_pos x)) (Int.ne_of_gt (den_pos y)), q2t_divInt, q2t_divInt]
theorem mul_eq (x y : Rat) : frT (x.num * y.num) (x.den * y.den) = q2t (x * y) := by
  rw [frT_rat (Int.mul_pos (den_pos x) (den_pos y))]
  congr 1
  rw [← Rat.divInt_mul_divInt, q2t_divInt, q2t_divInt]
theorem mPl_q {x y : Rat} (hx : Sm x) (hy : Sm y) : mPl [q2t x, q2t y] = some (q2t (x + y)) := by
  have h := mTwo_eq (C := fun _ _ _ _ => true) (g := fun a b c d => frT (a * d + c * b) (b * d)) hx.fr hy.fr rfl
  rw [add_eq] at h
  exact h
theorem mTi_q {x y : Rat} (hx : Sm x) (hy : Sm y) : mTi [q2t x, q2t y] = some (q2t (x * y)) := by
  have h := mTwo_eq (C := fun _ _ _ _ => true) (g := fun a b c d => frT (a * c) (b * d)) hx.fr hy.fr rfl
  rw [mul_eq] at h
  exact h
theorem DDC : 2 ^ 100 * DD 12 < C := by decide +kernel
theorem sm_lq {k m : Nat} {q : Rat} (h : Lq k m q) (hk : k ≤ 12) (hm : m ≤ 2 ^ 100) : Sm q := by
  obtain ⟨h1, h2⟩ := h.bd
  have hd : DD k ≤ DD 12 := Nat.pow_le_pow_right (by decide) hk
  have hp := DD_pos k
  have h3 : q.den ≤ DD k := Nat.le_of_dvd hp h2
  have h4 : m * DD k ≤ 2 ^ 100 * DD 12 := Nat.mul_le_mul hm hd
  have h5 : DD k ≤ 2 ^ 100 * DD 12 := Nat.le_trans hd (Nat.le_mul_of_pos_left _ (by decide))
  have := DDC
  exact ⟨by omega, by omega⟩
end My

namespace My
open PySem PySem.Spec PyProof.Rows L2 TM Qm Rq

open Classical in
noncomputable def mk {α : Type} (R : List T → α → Prop) : List T → Option α := fun ts => if h : ∃ t, R ts t then some (Classical.choose h) else none
theorem mk_inv {α : Type} {R : List T → α → Prop} {ts : List T} {t : α} (h : mk R ts = some t) : R ts t := by
  unfold mk at h
  split at h
  · next hh => cases h; exact Classical.choose_spec hh
  · cases h
theorem mk_eq {α : Type} {R : List T → α → Prop} {ts : List T} {t : α} (h : R ts t) (u : ∀ t', R ts t' → t' = t) : mk R ts = some t := by
  unfold mk
  rw [dif_pos ⟨t, h⟩]
  congr 1
  exact u _ (Classical.choose_spec (⟨t, h⟩ : ∃ t, R ts t))
theorem q2t_inj {x y : Rat} (h : q2t x = q2t y) : x = y := by
  unfold q2t at h
  injection h with h
  injection h with h1 h2
  injection h2 with h2 _
  injection h1 with h1
  injection h2 with h2
  exact Rat.ext h1 (by omega)
theorem map_inj {α β : Type} {f : α → β} (hf : ∀ x y, f x = f y → x = y) : ∀ {a b : List α}, a.map f = b.map f → a = b
  | [], [], _ => rfl
  | [], _ :: _, h => by cases h
  | _ :: _, [], h => by cases h
  | x :: a, y :: b, h => by
    rw [List.map_cons, List.map_cons] at h
    injection h with h1 h2
    rw [hf _ _ h1, map_inj hf h2]
noncomputable def rowT (r : List Rat) : T := .lst (r.map q2t)
noncomputable def tabT (A : List (List Rat)) : T := .lst (A.map rowT)
theorem rowT_inj {r s : List Rat} (h : rowT r = rowT s) : r = s := by
  unfold rowT at h
  injection h with h
  exact map_inj (fun _ _ => q2t_inj) h
theorem trs_map {α : Type} {f : α → O} {g : α → T} (h : ∀ x, (f x).tr = g x) : ∀ l : List α, O.trs (l.map f) = l.map g
  | [] => rfl
  | x :: l => by rw [List.map_cons, O.trs, trs_map h l, h x]; rfl
theorem comp_mapA {α : Type} {φ : α → T} {fe : FE} {g : α → T} {ρ : TEnv} (hr : allSh ρ = true) : ∀ (l : List α) (u : Option Sl) (acc : List T), (∀ x ∈ l, fe (some (.sh (φ x)) :: ρ) = some (g x, some (.sh (φ x)) :: ρ)) → acc.length + l.length ≤ sizeLine → compT (gnName 0) fAlways fe (l.map φ) (u :: ρ) acc = some (acc ++ l.map g)
  | [], u, acc, _, _ => by simp [compT]
  | x :: l, u, acc, h, hl => by
    have hl' : acc.length + (l.length + 1) ≤ sizeLine := hl
    rw [List.map_cons, compT, show gnName 0 (φ x) (u :: ρ) = some (some (.sh (φ x)) :: ρ) from rfl, Option.bind_some, show fAlways (some (.sh (φ x)) :: ρ) = some (true, some (.sh (φ x)) :: ρ) from rfl, Option.bind_some, if_pos rfl, h x List.mem_cons_self, Option.bind_some, if_pos ⟨hr, by omega⟩,
      comp_mapA hr l _ _ (fun z hz => h z (List.mem_cons_of_mem _ hz)) (by rw [List.length_append]; simp; omega), List.map_cons, List.append_assoc]
    rfl
theorem compo_mapA {α : Type} {φ : α → T} {fe : FO'} {g : α → O} {ρ : TEnv} (hr : allSh ρ = true) : ∀ (l : List α) (u : Option Sl) (acc : List O), (∀ x ∈ l, fe (some (.sh (φ x)) :: ρ) = some (g x, some (.sh (φ x)) :: ρ)) → acc.length + l.length ≤ sizeLine → compTo (gnName 0) fAlways fe (l.map φ) (u :: ρ) acc = some (acc ++ l.map g)
  | [], u, acc, _, _ => by simp [compTo]
  | x :: l, u, acc, h, hl => by
    have hl' : acc.length + (l.length + 1) ≤ sizeLine := hl
    rw [List.map_cons, compTo, show gnName 0 (φ x) (u :: ρ) = some (some (.sh (φ x)) :: ρ) from rfl, Option.bind_some, show fAlways (some (.sh (φ x)) :: ρ) = some (true, some (.sh (φ x)) :: ρ) from rfl, Option.bind_some, if_pos rfl, h x List.mem_cons_self, Option.bind_some, if_pos ⟨hr, by omega⟩,
      compo_mapA hr l _ _ (fun z hz => h z (List.mem_cons_of_mem _ hz)) (by rw [List.length_append]; simp; omega), List.map_cons, List.append_assoc]
    rfl
noncomputable abbrev gTwo : FG := gnTup (gnCons (gnName 0) (gnCons (gnName 1) gnNil))
theorem gTwo_eq (x y : T) (u v : Option Sl) (ρ : TEnv) : gTwo (.tup [x, y]) (u :: v :: ρ) = some (some (.sh x) :: some (.sh y) :: ρ) := rfl
theorem comp_two {α : Type} {φ ψ : α → T} {fe : FE} {g : α → T} {ρ : TEnv} (hr : allSh ρ = true) : ∀ (l : List α) (u v : Option Sl) (acc : List T), (∀ x ∈ l, fe (some (.sh (φ x)) :: some (.sh (ψ x)) :: ρ) = some (g x, some (.sh (φ x)) :: some (.sh (ψ x)) :: ρ)) → acc.length + l.length ≤ sizeLine →
    compT gTwo fAlways fe (l.map fun x => .tup [φ x, ψ x]) (u :: v :: ρ) acc = some (acc ++ l.map g)
  | [], u, v, acc, _, _ => by simp [compT]
  | x :: l, u, v, acc, h, hl => by
    have hl' : acc.length + (l.length + 1) ≤ sizeLine := hl
    rw [List.map_cons, compT, gTwo_eq, Option.bind_some, show fAlways (some (.sh (φ x)) :: some (.sh (ψ x)) :: ρ) = some (true, some (.sh (φ x)) :: some (.sh (ψ x)) :: ρ) from rfl, Option.bind_some, if_pos rfl, h x List.mem_cons_self, Option.bind_some, if_pos ⟨hr, by omega⟩,
      comp_two hr l _ _ _ (fun z hz => h z (List.mem_cons_of_mem _ hz)) (by rw [List.length_append]; simp; omega), List.map_cons, List.append_assoc]
    rfl
theorem zipT_map {α β : Type} (φ : α → T) (ψ : β → T) : ∀ (r : List α) (s : List β), zipT (r.map φ) (s.map ψ) = (List.zip r s).map fun p => .tup [φ p.1, ψ p.2]
  | [], s => by simp [zipT]
  | x :: r, [] => by simp [zipT]
  | x :: r, y :: s => by simp [zipT, zipT_map φ ψ r s]
theorem upTo_range : ∀ (n : Nat) (lo : Int), TM.upTo lo n = (List.range n).map fun (i : Nat) => T.int (lo + i) := by
  intro n lo
  apply List.ext_getElem?
  intro i
  by_cases h : i < n
  · rw [upTo_get n lo i h, List.getElem?_map, List.getElem?_range h]; rfl
  · rw [List.getElem?_eq_none (by rw [upTo_length]; omega), List.getElem?_eq_none (by simp; omega)]
theorem upTo_range0 (n : Nat) : TM.upTo 0 n = (List.range n).map fun (i : Nat) => T.int i := by
  rw [upTo_range]
  congr 1
  funext i
  congr 1
  omega
theorem fComp_eq {no : Nat} {cap : List Nat} {fi : FA} {fg : FG} {ft : FT} {fe : FE} {τ : TEnv} {ts us : List T} (h1 : fi τ = some (ts, τ)) (h2 : frzAll cap τ = τ) (h3 : allSh (blkOf no cap τ) = true) (h4 : compT fg ft fe ts (blkOf no cap τ) [] = some us) : fComp no cap fi fg ft fe τ = some (.lst us, τ) := by
  unfold fComp
  rw [h1, Option.bind_some]
  dsimp only
  rw [h2, if_pos h3, h4]
  rfl
theorem fCompO_eq {no : Nat} {cap : List Nat} {fi : FA} {fg : FG} {ft : FT} {fe : FO'} {τ : TEnv} {ts : List T} {us : List O} (h1 : fi τ = some (ts, τ)) (h2 : frzAll cap τ = τ) (h3 : allSh (blkOf no cap τ) = true) (h4 : compTo fg ft fe ts (blkOf no cap τ) [] = some us) : fCompO no cap fi fg ft fe τ = some (.lst us, τ) := by
  unfold fCompO
  rw [h1, Option.bind_some]
  dsimp only
  rw [h2, if_pos h3, h4]
  rfl
theorem loop_step {fg : FG} {fb : FS} {t : T} {ts : List T} {τ τ1 τ2 : TEnv} (h1 : fg t τ = some τ1) (h2 : fb τ1 = some (.nx τ2)) : loopT fg fb (t :: ts) τ = loopT fg fb ts τ2 := by
  rw [loopT, h1, Option.bind_some, h2]
  rfl
theorem rng1_eqI {f : FE} {τ : TEnv} {n : Int} (h : f τ = some (.int n, τ)) (h0 : 0 ≤ n) (h1 : n ≤ 1000) : fiRng1 (fCons f fNil) τ = some (TM.upTo 0 n.toNat, τ) := by
  unfold fiRng1 fCons fNil
  rw [h]
  show (if _ then _ else _) = _
  rw [if_pos (by omega)]
theorem rng1_eq {f : FE} {τ : TEnv} {n : Nat} (h : f τ = some (.int n, τ)) (h1 : n ≤ 1000) : fiRng1 (fCons f fNil) τ = some ((List.range n).map fun (i : Nat) => T.int i, τ) := by
  have e := rng1_eqI h (by omega) (by omega)
  rw [Int.toNat_natCast, upTo_range0] at e
  exact e
structure Gd (k m : Nat) (r : List Rat) : Prop where
  len : r.length ≤ 8
  lq : ∀ x ∈ r, Lq k m x
noncomputable def Few (k m : Nat) : Prop := k ≤ 6 ∧ m ≤ 2 ^ 40
theorem Gd.sm {k m : Nat} {r : List Rat} (h : Gd k m r) (f : Few k m) {x : Rat} (hx : x ∈ r) : Sm x := sm_lq (h.lq x hx) (by have := f.1; omega) (Nat.le_trans f.2 (by decide))
end My

namespace My
open PySem PySem.Spec PyProof.Rows L2 TM Qm Rq
theorem few100 {k m k' m' n : Nat} (f : Few k m) (f' : Few k' m') (hn : n ≤ 8) : k + k' ≤ 12 ∧ n * (m * m') ≤ 2 ^ 84 := by
  refine ⟨by have := f.1; have := f'.1; omega, ?_⟩
  calc n * (m * m') ≤ 8 * (2 ^ 40 * 2 ^ 40) := Nat.mul_le_mul hn (Nat.mul_le_mul f.2 f'.2)
    _ ≤ 2 ^ 84 := by decide
noncomputable def wBody : FS := fSet 2 (fCall mPl (fCons (fVar 2) (fCons (fCall mTi (fCons (fVar 3) (fCons (fVar 4) fNil))) fNil)))
theorem wei_loop {k m k' m' : Nat} (f : Few k m) (f' : Few k' m') (x0 x1 : Option Sl) : ∀ (r s : List Rat) (a : Rat) (M : Nat) (u v : Option Sl), (∀ x ∈ r, Lq k m x) → (∀ y ∈ s, Lq k' m' y) → Lq (k + k') M a → M + r.length * (m * m') ≤ 2 ^ 90 →
    ∃ u' v', loopT (gnTup (gnCons (gnName 3) (gnCons (gnName 4) gnNil))) wBody ((List.zip r s).map fun p => T.tup [q2t p.1, q2t p.2]) [x0, x1, some (.sh (q2t a)), u, v] = some (.nx [x0, x1, some (.sh (q2t (a + wsum r s))), u', v'])
  | [], s, a, M, u, v, _, _, _, _ => ⟨u, v, by rw [wsum_nil, Rat.add_zero]; simp [loopT]⟩
  | x :: r, [], a, M, u, v, _, _, _, _ => ⟨u, v, by
      have z : wsum (x :: r) [] = 0 := by unfold wsum; rw [List.zipWith_nil_right]; rfl
      rw [z, Rat.add_zero]; simp [loopT]⟩
  | x :: r, y :: s, a, M, u, v, h1, h2, h3, h4 => by
    have hx := h1 x List.mem_cons_self
    have hy := h2 y List.mem_cons_self
    have hk : k ≤ 6 := f.1
    have hk' : k' ≤ 6 := f'.1
    have lx := hx.mul hy
    have la := h3.add lx
    have hm1 : m * m' ≤ 2 ^ 80 := Nat.le_trans (Nat.mul_le_mul (f.2 : m ≤ 2 ^ 40) (f'.2 : m' ≤ 2 ^ 40)) (by decide)
    rw [List.length_cons, Nat.add_mul, Nat.one_mul] at h4
    obtain ⟨u', v', ih⟩ := wei_loop f f' x0 x1 r s (a + x * y) (M + m * m') (some (.sh (q2t x))) (some (.sh (q2t y))) (fun z hz => h1 z (List.mem_cons_of_mem _ hz)) (fun z hz => h2 z (List.mem_cons_of_mem _ hz)) la (by omega)
    refine ⟨u', v', ?_⟩
    have k1 := mTi_q (sm_lq hx (by omega) (Nat.le_trans f.2 (by decide))) (sm_lq hy (by omega) (Nat.le_trans f'.2 (by decide)))
    have k2 := mPl_q (sm_lq h3 (by omega) (by omega)) (sm_lq lx (by omega) (by omega))
    have hb : wBody [x0, x1, some (.sh (q2t a)), some (.sh (q2t x)), some (.sh (q2t y))] = some (.nx [x0, x1, some (.sh (q2t (a + x * y))), some (.sh (q2t x)), some (.sh (q2t y))]) := by
      clear ih h1 h2 h3 h4 hx hy lx la hm1 hk hk'
      unfold wBody
      walk_at "ev"
    rw [List.zip_cons_cons, List.map_cons, loop_step (τ1 := [x0, x1, some (.sh (q2t a)), some (.sh (q2t x)), some (.sh (q2t y))]) rfl hb, ih, wsum_cons, Rat.add_assoc]
theorem small8 {n : Nat} (h : n ≤ 8) : ([] : List O).length + n ≤ sizeLine := by rw [List.length_nil, Nat.zero_add]; exact small_le (by omega)
theorem small8t {n : Nat} (h : n ≤ 8) : ([] : List T).length + n ≤ sizeLine := by rw [List.length_nil, Nat.zero_add]; exact small_le (by omega)
theorem zip_len {α β : Type} (r : List α) (s : List β) (h : r.length ≤ 8) : (List.zip r s).length ≤ 8 := by rw [List.length_zip]; omega
theorem zip_mem {α β : Type} {r : List α} {s : List β} {p : α × β} (h : p ∈ List.zip r s) : p.1 ∈ r ∧ p.2 ∈ s := ⟨(List.of_mem_zip h).1, (List.of_mem_zip h).2⟩
noncomputable def addR (r s : List Rat) : List Rat := (List.zip r s).map fun p => p.1 + p.2
structure Tb (k m : Nat) (A : List (List Rat)) : Prop where
  len : A.length ≤ 8
  row : ∀ r ∈ A, Gd k m r
noncomputable def addT (A B : List (List Rat)) : List (List Rat) := (List.zip A B).map fun p => addR p.1 p.2
theorem callO_q {g : List T → Option O} {f : FA} {ρ : TEnv} {t : O} (ts : List T) (h1 : f ρ = some (ts, ρ)) (h2 : g ts = some t) : fCallO g f ρ = some (t, ρ) := by
  unfold fCallO
  rw [h1, Option.bind_some]
  dsimp only
  rw [h2]
  rfl
theorem call_q {g : List T → Option T} {f : FA} {ρ : TEnv} {t : T} (ts : List T) (h1 : f ρ = some (ts, ρ)) (h2 : g ts = some t) : fCall g f ρ = some (t, ρ) := by
  unfold fCall
  rw [h1, Option.bind_some]
  dsimp only
  rw [h2]
  rfl
end My

namespace My
open PySem PySem.Spec PyProof.Rows L2 TM Qm Rq
noncomputable def lowOf (r : List Rat) : Nat := r.foldl (fun l x => Nat.lcm l x.den) 1
theorem low_grow : ∀ (r : List Rat) (l : Nat), l ∣ r.foldl (fun l x => Nat.lcm l x.den) l
  | [], l => Nat.dvd_refl l
  | x :: r, l => Nat.dvd_trans (Nat.dvd_lcm_left _ _) (low_grow r _)
theorem den_low : ∀ (r : List Rat) (l : Nat) (x : Rat), x ∈ r → x.den ∣ r.foldl (fun l x => Nat.lcm l x.den) l
  | y :: r, l, x, h => by
    rcases List.mem_cons.mp h with rfl | h
    · exact Nat.dvd_trans (Nat.dvd_lcm_right _ _) (low_grow r _)
    · exact den_low r _ x h
theorem DDB {k : Nat} (h : k ≤ 12) : DD k < B := by
  have hd : DD k ≤ DD 12 := Nat.pow_le_pow_right (by decide) h
  have : DD 12 < B := by decide +kernel
  omega
theorem lcm_step {l b : Nat} (hl : 0 < l) (hb : 0 < b) : ((l : Int).fdiv (Int.gcd (l : Int) (b : Int) : Nat)) * (b : Int) = (Nat.lcm l b : Nat) := by
  have hg : Int.gcd (l : Int) (b : Int) = Nat.gcd l b := rfl
  rw [hg, Int.fdiv_eq_ediv_of_nonneg _ (by omega)]
  have : (l : Int) / (Nat.gcd l b : Nat) = ((l / Nat.gcd l b : Nat) : Int) := by rw [Int.natCast_ediv]
  rw [this, ← Int.natCast_mul]
  congr 1
  unfold Nat.lcm
  rw [Nat.div_mul_right_comm (Nat.gcd_dvd_left l b)]
noncomputable def sbBody : FS := fSet 1 (fOp gMulI (fOp gDiv (fVar 1) (fCall mCommon (fCons (fVar 1) (fCons (fVar 3) fNil)))) (fVar 3))
theorem sb_loop {D : Nat} (hB : D < B) (hp : 0 < D) (x0 : Option Sl) : ∀ (r : List Rat) (l : Nat) (u v : Option Sl), l ∣ D → (∀ x ∈ r, x.den ∣ D) → ∃ u' v', loopT (gnTup (gnCons (gnName 2) (gnCons (gnName 3) gnNil))) sbBody (r.map q2t) [x0, some (.sh (.int l)), u, v]
    = some (.nx [x0, some (.sh (.int (r.foldl (fun l x => Nat.lcm l x.den) l : Nat))), u', v'])
  | [], l, u, v, _, _ => ⟨u, v, by simp [loopT]⟩
  | x :: r, l, u, v, h1, h2 => by
    have hl0 : 0 < l := Nat.pos_of_dvd_of_pos h1 hp
    have hl : l ≤ D := Nat.le_of_dvd hp h1
    have hd := h2 x List.mem_cons_self
    have hd0 : 0 < x.den := Nat.pos_of_ne_zero x.den_nz
    have hdl : x.den ≤ D := Nat.le_of_dvd hp hd
    obtain ⟨u', v', ih⟩ := sb_loop hB hp x0 r (Nat.lcm l x.den) (some (.sh (.int x.num))) (some (.sh (.int x.den))) (Nat.lcm_dvd h1 hd) fun z hz => h2 z (List.mem_cons_of_mem _ hz)
    refine ⟨u', v', ?_⟩
    have k1 := mCommon_eq (a := (l : Int)) (b := (x.den : Int)) (by omega) (by omega)
    have e1 := lcm_step hl0 hd0
    have hg : Int.gcd (l : Int) (x.den : Int) ≤ l := by
      show Nat.gcd l x.den ≤ l
      exact Nat.le_of_dvd hl0 (Nat.gcd_dvd_left _ _)
    have hg0 : 0 < Int.gcd (l : Int) (x.den : Int) := by
      show 0 < Nat.gcd l x.den
      exact Nat.gcd_pos_of_pos_left _ hl0
    have n1 : ¬ ((Int.gcd (l : Int) (x.den : Int) : Nat) : Int) = 0 := by omega
    have n2 : ((Int.gcd (l : Int) (x.den : Int) : Nat) : Int).natAbs < B := by omega
    have n3 : ((l : Int).fdiv ((Int.gcd (l : Int) (x.den : Int) : Nat) : Int)).natAbs < B := by
      rw [Int.fdiv_eq_ediv_of_nonneg _ (by omega)]
      have := Int.ediv_le_self ((Int.gcd (l : Int) (x.den : Int) : Nat) : Int) (show (0 : Int) ≤ (l : Int) by omega)
      have := Int.ediv_nonneg (show (0 : Int) ≤ (l : Int) by omega) (show (0 : Int) ≤ ((Int.gcd (l : Int) (x.den : Int) : Nat) : Int) by omega)
      omega
    have n4 : (x.den : Int).natAbs < B := by omega
    have hb : sbBody [x0, some (.sh (.int l)), some (.sh (.int x.num)), some (.sh (.int x.den))] = some (.nx [x0, some (.sh (.int (Nat.lcm l x.den : Nat))), some (.sh (.int x.num)), some (.sh (.int x.den))]) := by
      rw [← e1]
      clear ih h1 h2 hB hp hl0 hl hd hd0 hdl e1 hg hg0
      unfold sbBody
      walk_at "ev"
    rw [List.map_cons, loop_step (τ1 := [x0, some (.sh (.int l)), some (.sh (.int x.num)), some (.sh (.int x.den))]) rfl hb, ih]
    rfl
structure Gn (D N : Nat) (r : List Rat) : Prop where
  len : r.length ≤ 8
  den : ∀ x ∈ r, x.den ∣ D
  num : ∀ x ∈ r, x.num.natAbs ≤ N
  dp : 0 < D
  db : D < B
  nb : N < B
theorem bigFew : 2 ^ 40 * DD 6 < B := by decide +kernel
theorem Gn.of {k m : Nat} {r : List Rat} (h : Gd k m r) (f : Few k m) : Gn (DD k) (m * DD k) r := by
  have hd : DD k ≤ DD 6 := Nat.pow_le_pow_right (by decide) f.1
  exact ⟨h.len, fun x hx => (h.lq x hx).bd.2, fun x hx => (h.lq x hx).bd.1, DD_pos k, DDB (by have := f.1; omega), Nat.lt_of_le_of_lt (Nat.mul_le_mul f.2 hd) bigFew⟩
noncomputable def Rsb (ts : List T) (t : T) : Prop := ∃ r D N, ts = [rowT r] ∧ Gn D N r ∧ t = .int (lowOf r : Nat)
noncomputable def mSb : List T → Option T := mk Rsb
theorem row1_inj {r r' : List Rat} (e : ([rowT r] : List T) = [rowT r']) : r = r' := by
  injection e with e _
  exact rowT_inj e
theorem mSb_n {r : List Rat} {D N : Nat} (h1 : Gn D N r) : mSb [rowT r] = some (.int (lowOf r : Nat)) :=
  mk_eq ⟨r, D, N, rfl, h1, rfl⟩ fun t' ⟨r', _, _, e, _, e2⟩ => by rw [e2, row1_inj e]
theorem sp_shared_bottom (ts : List T) (t : T) (h : mSb ts = some t) : dOf 4 1 (b_shared_bottom mCommon) ts = some t := by
  obtain ⟨r, D, N, rfl, h1, rfl⟩ := mk_inv h
  clear h
  obtain ⟨u, v, hl⟩ := sb_loop h1.db h1.dp (some (.sh (rowT r))) r 1 none none (Nat.one_dvd _) h1.den
  have e : dOf 4 1 (b_shared_bottom mCommon) [rowT r] = (((loopT (gnTup (gnCons (gnName 2) (gnCons (gnName 3) gnNil))) sbBody (r.map q2t) [some (.sh (rowT r)), some (.sh (.int 1)), none, none]).bind fun r => match r with | .nx τ' => fRet (fVar 1) τ' | r => some r).bind fun r => match r with | .rt t => some t | .nx _ => some .non | _ => none) := rfl
  have hl' : loopT (gnTup (gnCons (gnName 2) (gnCons (gnName 3) gnNil))) sbBody (r.map q2t) [some (.sh (rowT r)), some (.sh (.int 1)), none, none] = _ := hl
  rw [e, hl']
  rfl
noncomputable def topOf (L : Nat) (x : Rat) : Int := x.num * ((L : Int).fdiv x.den)
theorem top_eq {L : Nat} {x : Rat} (hL : 0 < L) (h : x.den ∣ L) : Rat.divInt (topOf L x) L = x := by
  obtain ⟨c, hc⟩ := h
  have hc0 : (c : Int) ≠ 0 := fun z => by
    have : c = 0 := by omega
    rw [this, Nat.mul_zero] at hc
    omega
  have hd := den_pos x
  have e : (L : Int).fdiv x.den = c := by
    rw [hc, Int.natCast_mul]
    exact Int.mul_fdiv_cancel_left _ (by omega)
  unfold topOf
  rw [e, hc, Int.natCast_mul, Rat.divInt_mul_right hc0]
  exact q2t_divInt x
noncomputable def Rra (ts : List T) (t : T) : Prop := ∃ r D N, ts = [rowT r, .int (lowOf r : Nat)] ∧ Gn D N r ∧ t = .lst (r.map fun x => T.int (topOf (lowOf r) x))
noncomputable def mRa : List T → Option T := mk Rra
theorem mRa_n {r : List Rat} {D N : Nat} (h1 : Gn D N r) : mRa [rowT r, .int (lowOf r : Nat)] = some (.lst (r.map fun x => T.int (topOf (lowOf r) x))) :=
  mk_eq ⟨r, D, N, rfl, h1, rfl⟩ fun t' hq__ => by
    obtain ⟨r', _, _, e, _, e2⟩ := hq__
    injection e with e3 e4
    rw [e2, rowT_inj e3]
theorem low_dvd' {D : Nat} : ∀ (r : List Rat) (l : Nat), l ∣ D → (∀ x ∈ r, x.den ∣ D) → r.foldl (fun l x => Nat.lcm l x.den) l ∣ D
  | [], l, h, _ => h
  | x :: r, l, h, hx => low_dvd' r _ (Nat.lcm_dvd h (hx x List.mem_cons_self)) fun z hz => hx z (List.mem_cons_of_mem _ hz)
theorem low_n {r : List Rat} {D N : Nat} (h1 : Gn D N r) : lowOf r ∣ D ∧ 0 < lowOf r ∧ ∀ x ∈ r, x.den ∣ lowOf r := by
  have h : lowOf r ∣ D := low_dvd' r 1 (Nat.one_dvd _) h1.den
  exact ⟨h, Nat.pos_of_dvd_of_pos h h1.dp, fun x hx => den_low r 1 x hx⟩
theorem top_n {D N : Nat} {x : Rat} {L : Nat} (hx : x.num.natAbs ≤ N) (hp : 0 < D) (hL : L ∣ D) : (topOf L x).natAbs ≤ N * D := by
  have hl : L ≤ D := Nat.le_of_dvd hp hL
  have hd := den_pos x
  unfold topOf
  rw [Int.natAbs_mul, Int.fdiv_eq_ediv_of_nonneg _ (by omega)]
  refine Nat.mul_le_mul hx ?_
  have := Int.ediv_le_self (x.den : Int) (show (0 : Int) ≤ (L : Int) by omega)
  have := Int.ediv_nonneg (show (0 : Int) ≤ (L : Int) by omega) (show (0 : Int) ≤ (x.den : Int) by omega)
  omega
theorem sp_raised (ts : List T) (t : T) (h : mRa ts = some t) : dOf 2 2 b_raised ts = some t := by
  obtain ⟨r, D, N, rfl, h1, rfl⟩ := mk_inv h
  clear h
  obtain ⟨q1, q2, q3⟩ := low_n h1
  have hB := h1.db
  have hN := h1.nb
  have hLk : lowOf r ≤ D := Nat.le_of_dvd h1.dp q1
  have hc := comp_two (φ := fun x : Rat => T.int x.num) (ψ := fun x => T.int x.den) (fe := fOp gMulI (fVar 0) (fOp gDiv (fVar 2) (fVar 1))) (g := fun x => T.int (topOf (lowOf r) x)) (ρ := [some (.sh (.int (lowOf r : Nat)))]) rfl r none none [] (fun x hx => by
    have hd := den_pos x
    have hxd : x.den ≤ lowOf r := Nat.le_of_dvd q2 (q3 x hx)
    have n1 : ¬ ((x.den : Int) = 0) := by omega
    have n2 : (x.den : Int).natAbs < B := by omega
    have n3 : x.num.natAbs < B := by have := h1.num x hx; omega
    have n4 : ((lowOf r : Nat) : Int).fdiv (x.den : Int) = ((lowOf r : Nat) : Int) / (x.den : Int) := Int.fdiv_eq_ediv_of_nonneg _ (by omega)
    have n5 : (((lowOf r : Nat) : Int).fdiv (x.den : Int)).natAbs < B := by
      rw [n4]
      have := Int.ediv_le_self (x.den : Int) (show (0 : Int) ≤ ((lowOf r : Nat) : Int) by omega)
      have := Int.ediv_nonneg (show (0 : Int) ≤ ((lowOf r : Nat) : Int) by omega) (show (0 : Int) ≤ (x.den : Int) by omega)
      omega
    have e : topOf (lowOf r) x = x.num * ((lowOf r : Nat) : Int).fdiv (x.den : Int) := rfl
    rw [e]
    clear e n4 hd hxd q1 q2 q3 hB hN hLk h1 hx
    walk_at "ev") (small8t h1.len)
  have e := fComp_eq (no := 2) (cap := [1]) (fi := fiSeq (fVar 0)) (fg := gTwo) (ft := fAlways) (τ := [some (.sh (rowT r)), some (.sh (.int (lowOf r : Nat)))]) (h1 := rfl) rfl rfl hc
  show (((fComp 2 [1] _ gTwo fAlways _ [some (.sh (rowT r)), some (.sh (.int (lowOf r : Nat)))]).bind fun p => some (R.rt p.1)).bind _) = _
  rw [e]
  rfl
end My

namespace My
open PySem PySem.Spec PyProof.Rows L2 TM Qm Rq
end My

namespace My
open PySem PySem.Spec PyProof.Rows L2 TM Qm Rq
noncomputable def Wd (w : Nat) (A : List (List Rat)) : Prop := ∀ r ∈ A, r.length = w
noncomputable def turnM (A : List (List Rat)) (w : Nat) : List (List Rat) := (List.range w).map fun j => colq A j
theorem colq_gd {k m : Nat} {A : List (List Rat)} (h : Tb k m A) (j : Nat) : Gd k m (colq A j) := by
  refine ⟨by unfold colq; rw [List.length_map]; exact h.len, fun x hx => ?_⟩
  obtain ⟨r, hr, rfl⟩ := List.mem_map.mp hx
  rw [List.getD_eq_getElem?_getD]
  cases e : r[j]? with
  | none => exact (Lq.zero k).mono (Nat.zero_le _)
  | some y => exact (h.row r hr).lq y (List.mem_of_getElem? e)
end My

namespace My
open PySem PySem.Spec PyProof.Rows L2 TM Qm Rq
theorem sp_law_add (ts : List T) (t : T) (h : mPl ts = some t) : dOf 2 2 (b__law_add mFrac) ts = some t := by
  obtain ⟨a, b, c, d, rfl, h1, h2, _, rfl⟩ := mTwo_inv h
  clear h
  have hbd : b * d ≠ 0 := Int.ne_of_gt (Int.mul_pos h1.pos h2.pos)
  have q1 := mFrac_eq (addB h1.ba h2.bb h2.ba h1.bb) (mulB' h1.bb h2.bb) hbd
  have w1 := ltB h1.ba
  have w2 := ltB h1.bb
  have w3 := ltB h2.ba
  have w4 := ltB h2.bb
  clear h1 h2 hbd
  unfold dOf b__law_add
  walk_at "ev"
theorem sp_law_times (ts : List T) (t : T) (h : mTi ts = some t) : dOf 2 2 (b__law_times mFrac) ts = some t := by
  obtain ⟨a, b, c, d, rfl, h1, h2, _, rfl⟩ := mTwo_inv h
  clear h
  have hbd : b * d ≠ 0 := Int.ne_of_gt (Int.mul_pos h1.pos h2.pos)
  have q1 := mFrac_eq (mulB' h1.ba h2.ba) (mulB' h1.bb h2.bb) hbd
  have w1 := ltB h1.ba
  have w2 := ltB h1.bb
  have w3 := ltB h2.ba
  have w4 := ltB h2.bb
  clear h1 h2 hbd
  unfold dOf b__law_times
  walk_at "ev"
end My

namespace My
open PySem PySem.Spec PyProof.Rows L2 TM Qm Rq
mutual
theorem eqv_refl : ∀ d : PyData, d.canLay0 = true → PyData.eqv d d = true
  | .none, _ => by simp [PyData.eqv]
  | .bool _, _ => by simp [PyData.eqv]
  | .int _, _ => by simp [PyData.eqv]
  | .str _, _ => by simp [PyData.eqv]
  | .list xs, h => by
    simp only [PyData.canLay0] at h
    simp only [PyData.eqv]
    exact eqvAll_refl xs h
  | .tuple xs, h => by
    simp only [PyData.canLay0] at h
    simp only [PyData.eqv]
    exact eqvAll_refl xs h
  | .dict _, h => by simp [PyData.canLay0] at h
theorem eqvAll_refl : ∀ ds : List PyData, PyData.canLayAll0 ds = true → PyData.eqvAll ds ds = true
  | [], _ => by simp [PyData.eqvAll]
  | d :: ds, h => by
    simp only [PyData.canLayAll0, Bool.and_eq_true] at h
    simp only [PyData.eqvAll, eqv_refl d h.1, eqvAll_refl ds h.2, Bool.and_self]
end
noncomputable def shp (n : Nat) (t : T) : Prop := ∃ d, toP t = some d ∧ d.canLay0 = true ∧ d.depth ≤ n
theorem shp_all {n : Nat} : ∀ {ts : List T}, (∀ x ∈ ts, shp n x) → ∃ ds, toPs ts = some ds ∧ PyData.canLayAll0 ds = true ∧ PyData.depthAll ds ≤ n
  | [], _ => ⟨[], rfl, rfl, Nat.zero_le _⟩
  | t :: ts, h => by
    obtain ⟨d, h1, h2, h3⟩ := h t List.mem_cons_self
    obtain ⟨ds, g1, g2, g3⟩ := shp_all fun x hx => h x (List.mem_cons_of_mem _ hx)
    refine ⟨d :: ds, by simp only [toPs, h1, g1, Option.bind_some], by simp only [PyData.canLayAll0, h2, g2, Bool.and_self], by simp only [PyData.depthAll]; omega⟩
theorem shp_lst {n : Nat} {ts : List T} (h : ∀ x ∈ ts, shp n x) : shp (n + 1) (.lst ts) := by
  obtain ⟨ds, h1, h2, h3⟩ := shp_all h
  exact ⟨.list ds, by simp only [toP, h1, Option.map_some], by simp only [PyData.canLay0, h2], by simp only [PyData.depth]; omega⟩
theorem shp_q (q : Rat) : shp 1 (q2t q) := ⟨.tuple [.int q.num, .int q.den], rfl, rfl, Nat.le_of_ble_eq_true rfl⟩
theorem shp_row (r : List Rat) : shp 2 (rowT r) := shp_lst fun x hx => by
  obtain ⟨q, _, rfl⟩ := List.mem_map.mp hx
  exact shp_q q
theorem shp_tab (A : List (List Rat)) : shp 3 (tabT A) := shp_lst fun x hx => by
  obtain ⟨q, _, rfl⟩ := List.mem_map.mp hx
  exact shp_row q
theorem cmp_self {neg : Bool} {t : T} {n : Nat} (h : shp n t) (hn : n ≤ 60) : gEqW neg t t = some (.bl (!neg)) := by
  obtain ⟨d, h1, h2, h3⟩ := h
  have hs : SeqAt.shaped d = true := by
    unfold SeqAt.shaped
    rw [h2, Bool.true_and]
    exact decide_eq_true (by omega)
  unfold gEqW
  rw [h1, Option.bind_some, Option.bind_some, if_pos ⟨hs, hs⟩, eqv_refl d h2]
  cases neg <;> rfl
theorem sameOks_map {α : Type} {f : α → T} {n : Nat} (h : ∀ x, sameOk n (f x) = true) : ∀ l : List α, sameOks n (l.map f) = true
  | [] => by simp [sameOks]
  | x :: l => by rw [List.map_cons, sameOks, h x, sameOks_map h l]; rfl
theorem ok_q (n : Nat) (q : Rat) : sameOk (n + 1) (q2t q) = true := by unfold q2t; simp [sameOk, sameOks]
theorem ok_row (n : Nat) (r : List Rat) : sameOk (n + 2) (rowT r) = true := by
  unfold rowT
  rw [sameOk]
  exact sameOks_map (ok_q n) r
theorem same_row (r : List Rat) : dSame 4 [rowT r, rowT r] = some (.bl true) := dSame_eq 3 _ (ok_row 1 r)
end My

namespace My
open PySem PySem.Spec PyProof.Rows L2 TM Qm Rq
structure Sqr (n : Nat) (A : List (List Rat)) : Prop where
  sq : Sq n A
  n4 : n ≤ 4
  lq : ∀ r ∈ A, ∀ x ∈ r, Lq 1 9 x
theorem Sqr.tb {n : Nat} {A : List (List Rat)} (h : Sqr n A) : Tb 1 9 A := ⟨by have := h.sq.1; have := h.n4; omega, fun r hr => ⟨by have := h.sq.2 r hr; have := h.n4; omega, h.lq r hr⟩⟩
theorem seq_q {t u : FS} {τ τ' : TEnv} (h : t τ = some (.nx τ')) : fSeq t u τ = u τ' := by
  unfold fSeq
  rw [h]
  rfl
theorem arg1 {f : FE} {τ : TEnv} {t : T} (h : f τ = some (t, τ)) : fCons f fNil τ = some ([t], τ) := by
  unfold fCons
  rw [h]
  rfl
theorem arg2 {f g : FE} {τ : TEnv} {t u : T} (h : f τ = some (t, τ)) (h' : g τ = some (u, τ)) : fCons f (fCons g fNil) τ = some ([t, u], τ) := by
  unfold fCons
  rw [h, Option.bind_some]
  dsimp only
  rw [h']
  rfl
theorem Tb.add {k m m' : Nat} {A B : List (List Rat)} (h1 : Tb k m A) (h2 : Tb k m' B) : Tb k (m + m') (addT A B) := by
  refine ⟨by unfold addT; rw [List.length_map]; exact zip_len A B h1.len, fun r hr => ?_⟩
  obtain ⟨p, hp, rfl⟩ := List.mem_map.mp hr
  refine ⟨by unfold addR; rw [List.length_map]; exact zip_len _ _ (h1.row _ (zip_mem hp).1).len, fun x hx => ?_⟩
  obtain ⟨q, hq, rfl⟩ := List.mem_map.mp hx
  exact ((h1.row _ (zip_mem hp).1).lq _ (zip_mem hq).1).add ((h2.row _ (zip_mem hp).2).lq _ (zip_mem hq).2)
theorem Tb.turn {k m w : Nat} {A : List (List Rat)} (h : Tb k m A) (hw : w ≤ 8) : Tb k m (turnM A w) := by
  refine ⟨by unfold turnM; rw [List.length_map, List.length_range]; exact hw, fun r hr => ?_⟩
  obtain ⟨j, _, rfl⟩ := List.mem_map.mp hr
  exact colq_gd h j
theorem Tb.mul {k m k' m' w : Nat} {A B : List (List Rat)} (h1 : Tb k m A) (h2 : Tb k' m' B) (hw : w ≤ 8) : Tb (k + k') (8 * (m * m')) (mulM A B w) := by
  refine ⟨by unfold mulM; rw [List.length_map]; exact h1.len, fun r hr => ?_⟩
  obtain ⟨p, hp, rfl⟩ := List.mem_map.mp hr
  refine ⟨by rw [rowm_len]; exact hw, fun x hx => ?_⟩
  obtain ⟨j, _, rfl⟩ := List.mem_map.mp hx
  exact (wsum_lq (h1.row p hp).lq (colq_gd h2 j).lq).mono (Nat.mul_le_mul_right _ (h1.row p hp).len)
end My

namespace My
open PySem PySem.Spec PyProof.Rows L2 TM Qm Rq
structure Dr (w : Nat) (A : List (List Rat)) : Prop where
  len : A.length ≤ 4
  wd : Wd w A
  w4 : w ≤ 4
  lq : ∀ r ∈ A, ∀ x ∈ r, Lq 1 9 x
theorem Dr.tb {w : Nat} {A : List (List Rat)} (h : Dr w A) : Tb 1 9 A := ⟨by have := h.len; omega, fun r hr => ⟨by have := h.wd r hr; have := h.w4; omega, h.lq r hr⟩⟩
theorem one_lq : Lq 1 9 (1 : Rat) := by
  have h := Lq.small (a := 1) (b := 1) (by decide) (by decide) (by decide)
  rwa [show Rat.divInt 1 1 = 1 from rfl] at h
theorem for_q {fi : FA} {fg : FG} {fb : FS} {τ : TEnv} {ts : List T} {r : R} (h1 : fi τ = some (ts, τ)) (h2 : loopT fg fb ts τ = some r) : fFor fi fg fb τ = some r := by
  unfold fFor
  rw [h1, Option.bind_some]
  exact h2
theorem ret_q {f : FE} {τ τ' : TEnv} {t : T} (h : f τ = some (t, τ')) : fRet f τ = some (.rt t) := by
  unfold fRet
  rw [h]
  rfl
end My

namespace My
open PySem PySem.Spec PyProof.Rows L2 TM Qm Rq
theorem set_q {i : Nat} {f : FE} {τ τ1 τ2 : TEnv} {t : T} (h : f τ = some (t, τ1)) (h2 : fSet i (fC t) τ1 = some (.nx τ2)) : fSet i f τ = some (.nx τ2) := by
  unfold fSet at *
  rw [h]
  exact h2
end My

namespace My
open PySem PySem.Spec PyProof.Rows L2 TM Qm Rq
theorem ix_in {L : List T} {i : Int} (h0 : 0 ≤ i) (h1 : i < (L.length : Int)) : ∃ t, gIx (.lst L) (.int i) = some t ∧ t ∈ L := by
  obtain ⟨j, rfl⟩ := Int.eq_ofNat_of_zero_le h0
  have hj : j < L.length := by omega
  exact ⟨L[j], atI_nat (List.getElem?_eq_getElem hj), List.getElem_mem hj⟩
theorem small_B {i : Int} (h1 : -1000000 ≤ i) (h2 : i ≤ 1000000) : i.natAbs < B := by
  have := bigB
  omega
noncomputable abbrev dDigits : List T → Option T := dOf 5 3 b__law_digits
noncomputable def digBody : FS := fSeq (fApp 3 (fOp gMod (fVar 0) (fVar 1))) (fSet 0 (fOp gDiv (fVar 0) (fVar 1)))
theorem dig_loop : ∀ (m : Nat) (lo c n : Int) (ts : List T) (u : Option Sl), ts.length + m ≤ 1000 → ∃ (c' : Int) (ds : List Int) (u' : Option Sl), loopT (gnName 4) digBody (TM.upTo lo m) [some (.sh (.int c)), some (.sh (.int 228)), some (.sh (.int n)), some (.own ts), u]
    = some (.nx [some (.sh (.int c')), some (.sh (.int 228)), some (.sh (.int n)), some (.own (ts ++ ds.map T.int)), u']) ∧ ds.length = m ∧ ∀ d ∈ ds, 0 ≤ d ∧ d < 228
  | 0, lo, c, n, ts, u, _ => ⟨c, [], u, by simp [TM.upTo, loopT], rfl, fun d hd => by cases hd⟩
  | m + 1, lo, c, n, ts, u, hl => by
    obtain ⟨c', ds, u', h1, h2, h3⟩ := dig_loop m (lo + 1) (c.fdiv 228) n (ts ++ [.int (c.fmod 228)]) (some (.sh (.int lo))) (by simp; omega)
    refine ⟨c', c.fmod 228 :: ds, u', ?_, by simp [h2], fun d hd => ?_⟩
    · have hz : ts.length < sizeLine := small1000 (by omega)
      have b1 : (228 : Int).natAbs < B := num_B (n := 228) (by decide)
      have n0 : ¬ (228 : Int) = 0 := by decide
      have hb : digBody [some (.sh (.int c)), some (.sh (.int 228)), some (.sh (.int n)), some (.own ts), some (.sh (.int lo))] = some (.nx [some (.sh (.int (c.fdiv 228))), some (.sh (.int 228)), some (.sh (.int n)), some (.own (ts ++ [.int (c.fmod 228)])), some (.sh (.int lo))]) := by
        clear h1 h2 h3 hl
        unfold digBody
        walk_at "ev"
      rw [show TM.upTo lo (m + 1) = T.int lo :: TM.upTo (lo + 1) m from rfl, loop_step rfl hb, h1]
      simp
    · rcases List.mem_cons.mp hd with rfl | hd
      · exact fmod_rng c (by decide)
      · exact h3 d hd
theorem dig_run (c n : Int) (N : Nat) (Y : List T) (x4 x0 : Option Sl) (hfi : fiRng1 (fCons (fVar 2) fNil) [some (.sh (.int c)), some (.sh (.int 228)), some (.sh (.int n)), some (.own []), none] = some (TM.upTo 0 N, [some (.sh (.int c)), some (.sh (.int 228)), some (.sh (.int n)), some (.own []), none]))
    (e1 : loopT (gnName 4) digBody (TM.upTo 0 N) [some (.sh (.int c)), some (.sh (.int 228)), some (.sh (.int n)), some (.own []), none] = some (.nx [x0, some (.sh (.int 228)), some (.sh (.int n)), some (.own Y), x4])) : dDigits [.int c, .int 228, .int n] = some (.lst Y) := by
  have e : b__law_digits = fSeq (fSetOwn 3 fNil) (fSeq (fFor (fiRng1 (fCons (fVar 2) fNil)) (gnName 4) digBody) (fRet (fVar 3))) := rfl
  unfold dDigits dOf
  rw [e]
  clear e
  walk_at "ev"
theorem ev_digits (c : Int) (n : Nat) (h1 : n ≤ 900) : ∃ ds : List Int, dDigits [.int c, .int 228, .int (n : Nat)] = some (.lst (ds.map T.int)) ∧ ds.length = n ∧ ∀ d ∈ ds, 0 ≤ d ∧ d < 228 := by
  obtain ⟨c', ds, u', e1, e2, e3⟩ := dig_loop n 0 c (n : Nat) [] none (by simp; omega)
  refine ⟨ds, ?_, e2, e3⟩
  have hr := rng1_eqI (f := fVar 2) (τ := [some (.sh (.int c)), some (.sh (.int 228)), some (.sh (.int (n : Nat))), some (.own []), none]) (n := (n : Int)) rfl (by omega) (by omega)
  rw [Int.toNat_natCast] at hr
  rw [List.nil_append] at e1
  exact dig_run c _ n _ _ _ hr e1
noncomputable def someBody : FS := (fSeq (fSet 4 (fCall mMix (fCons (fVar 0) (fCons (fVar 3) fNil))))
    (fSeq (fSetOwn 5 (fCons (fTup (fCons (fC (.int 0)) (fCons (fC (.int 1)) fNil))) (fCons (fTup (fCons (fOp gSub (fOp gMod (fOp gDiv (fVar 4) (fC (.int 4))) (fC (.int 5))) (fC (.int 2))) (fCons (fC (.int 1)) fNil))) (fCons (fCall mFrac (fCons (fOp gSub (fOp gMod (fOp gDiv (fVar 4) (fC (.int 4))) (fC (.int 19))) (fC (.int 9))) (fCons (fOp gAdd (fC (.int 1)) (fOp gMod (fOp gDiv (fVar 4) (fC (.int 80))) (fC (.int 12)))) fNil))) fNil))))
    (fApp 2 (fOp gIx (fOp gAdd (fVar 5) (fLst (fCons (fTup (fCons (fC (.int 0)) (fCons (fC (.int 1)) fNil))) (fCons (fTup (fCons (fC (.int 1)) (fCons (fC (.int 1)) fNil))) fNil)))) (fOp gMod (fVar 4) (fC (.int 5)))))))
theorem whole_q (a : Int) : T.tup [.int a, .int 1] = q2t (Rat.divInt a 1) := by
  have e := Rat.divInt_ofNat a 1
  rw [show ((1 : Nat) : Int) = 1 from rfl] at e
  rw [e, Rat.mkRat_one]
  rfl
theorem some_turn (c n k : Int) (ts : List T) (x4 x5 : Option Sl) (hk : 0 ≤ k ∧ k ≤ 1000) (hl : ts.length < 1000) : ∃ q : Rat, ∃ y4 y5, Lq 1 9 q ∧ someBody [some (.sh (.int c)), some (.sh (.int n)), some (.own ts), some (.sh (.int k)), x4, x5]
    = some (.nx [some (.sh (.int c)), some (.sh (.int n)), some (.own (ts ++ [q2t q])), some (.sh (.int k)), y4, y5]) := by
  have hm := mMix_eq (c := c) (k := k) (small_B (by omega) (by omega))
  have hr := mixF_rng c k
  generalize mixF c k = m at *
  have r5 := fmod_rng (m.fdiv 4) (b := 5) (by decide)
  have r19 := fmod_rng (m.fdiv 4) (b := 19) (by decide)
  have r12 := fmod_rng (m.fdiv 80) (b := 12) (by decide)
  have rm := fmod_rng m (b := 5) (by decide)
  have hf := mFrac_eq (a := (m.fdiv 4).fmod 19 - 9) (b := 1 + (m.fdiv 80).fmod 12) (small_B (by omega) (by omega)) (small_B (by omega) (by omega)) (by omega)
  have hn := Lq.small (a := (m.fdiv 4).fmod 19 - 9) (b := 1 + (m.fdiv 80).fmod 12) (by omega) (by omega) (by omega)
  have hn2 := Lq.small (a := (m.fdiv 4).fmod 5 - 2) (b := 1) (by omega) (by omega) (by omega)
  rw [frT_rat (by omega)] at hf
  generalize Rat.divInt ((m.fdiv 4).fmod 19 - 9) (1 + (m.fdiv 80).fmod 12) = fr at *
  obtain ⟨t, ht, hmem⟩ := ix_in (L := [.tup [.int 0, .int 1], .tup [.int ((m.fdiv 4).fmod 5 - 2), .int 1], q2t fr, .tup [.int 0, .int 1], .tup [.int 1, .int 1]]) (i := m.fmod 5) (by omega) (by simp; omega)
  have hq : ∃ q, t = q2t q ∧ Lq 1 9 q := by
    simp only [List.mem_cons, List.not_mem_nil, or_false] at hmem
    rcases hmem with rfl | rfl | rfl | rfl | rfl
    · exact ⟨0, rfl, (Lq.zero 1).mono (Nat.zero_le _)⟩
    · exact ⟨_, whole_q _, hn2⟩
    · exact ⟨_, rfl, hn⟩
    · exact ⟨0, rfl, (Lq.zero 1).mono (Nat.zero_le _)⟩
    · exact ⟨1, rfl, one_lq⟩
  obtain ⟨q, rfl, hq⟩ := hq
  refine ⟨q, some (.sh (.int m)), some (.sh (.lst [.tup [.int 0, .int 1], .tup [.int ((m.fdiv 4).fmod 5 - 2), .int 1], q2t fr])), hq, ?_⟩
  have hz : ts.length < sizeLine := small1000 (by omega)
  have n4 : ¬ (4 : Int) = 0 := by decide
  have n5 : ¬ (5 : Int) = 0 := by decide
  have n19 : ¬ (19 : Int) = 0 := by decide
  have n80 : ¬ (80 : Int) = 0 := by decide
  have n12 : ¬ (12 : Int) = 0 := by decide
  have b4 : (4 : Int).natAbs < B := small_B (by decide) (by decide)
  have b5 : (5 : Int).natAbs < B := small_B (by decide) (by decide)
  have b19 : (19 : Int).natAbs < B := small_B (by decide) (by decide)
  have b80 : (80 : Int).natAbs < B := small_B (by decide) (by decide)
  have b12 : (12 : Int).natAbs < B := small_B (by decide) (by decide)
  have l5 : (5 : Nat) ≤ sizeLine := small_le (by decide)
  have l3 := le3
  have l2 := le2
  clear hr r5 r19 r12 rm hn hn2 hmem hk hl hq
  generalize q2t fr = F at *
  generalize q2t q = Q at *
  unfold someBody
  walk_at "ev"
theorem some_loop (c n : Int) : ∀ (m : Nat) (lo : Int) (ts : List T) (x3 x4 x5 : Option Sl), 0 ≤ lo → lo + m ≤ 1000 → ts.length + m < 1000 → ∃ us : List Rat, ∃ y3 y4 y5, (∀ t ∈ us, Lq 1 9 t) ∧ us.length = m ∧ loopT (gnName 3) someBody (TM.upTo lo m) [some (.sh (.int c)), some (.sh (.int n)), some (.own ts), x3, x4, x5]
    = some (.nx [some (.sh (.int c)), some (.sh (.int n)), some (.own (ts ++ us.map q2t)), y3, y4, y5])
  | 0, lo, ts, x3, x4, x5, _, _, _ => ⟨[], x3, x4, x5, fun t ht => (by cases ht), rfl, by simp [TM.upTo, loopT]⟩
  | m + 1, lo, ts, x3, x4, x5, h0, h1, h2 => by
    obtain ⟨t, y4, y5, ht, hb⟩ := some_turn c n lo ts x4 x5 (by omega) (by omega)
    obtain ⟨us, z3, z4, z5, g1, g2, g3⟩ := some_loop c n m (lo + 1) (ts ++ [q2t t]) (some (.sh (.int lo))) y4 y5 (by omega) (by omega) (by simp; omega)
    refine ⟨t :: us, z3, z4, z5, fun x hx => ?_, by simp [g2], ?_⟩
    · rcases List.mem_cons.mp hx with rfl | hx
      · exact ht
      · exact g1 x hx
    · rw [show TM.upTo lo (m + 1) = T.int lo :: TM.upTo (lo + 1) m from rfl, loop_step rfl hb, g3]
      simp
noncomputable def drawn (d : Int) : Rat := Rat.divInt (d.fmod 19 - 9) (1 + d.fdiv 19)
theorem drawn_lq {d : Int} (h : 0 ≤ d ∧ d < 228) : Lq 1 9 (drawn d) := by
  have q := fmod_rng d (b := 19) (by decide)
  have s := Int.mul_fdiv_add_fmod d 19
  exact Lq.small (by omega) (by omega) (by omega)
theorem drawn_q {d : Int} (h : 0 ≤ d ∧ d < 228) : fCall mFrac (fCons (fOp gSub (fOp gMod (fVar 0) (fC (.int 19))) (fC (.int 9))) (fCons (fOp gAdd (fC (.int 1)) (fOp gDiv (fVar 0) (fC (.int 19)))) fNil)) [some (.sh (.int d))] = some (q2t (drawn d), [some (.sh (.int d))]) := by
  have q := fmod_rng d (b := 19) (by decide)
  have s := Int.mul_fdiv_add_fmod d 19
  have hf := mFrac_eq (a := d.fmod 19 - 9) (b := 1 + d.fdiv 19) (small_B (by omega) (by omega)) (small_B (by omega) (by omega)) (by omega)
  rw [frT_rat (by omega)] at hf
  have n19 : ¬ (19 : Int) = 0 := by decide
  have b19 : (19 : Int).natAbs < B := small_B (by decide) (by decide)
  have e : drawn d = Rat.divInt (d.fmod 19 - 9) (1 + d.fdiv 19) := rfl
  rw [← e] at hf
  clear h q s e
  generalize q2t (drawn d) = F at *
  walk_at "ev"
theorem odd_it (c n : Int) (Y : List T) (h : dDigits [.int (c.fdiv 2), .int 228, .int n] = some (.lst Y)) : fiSeq (fCall dDigits (fCons (fOp gDiv (fVar 0) (fC (.int 2))) (fCons (fC (.int 228)) (fCons (fVar 1) fNil)))) [some (.sh (.int c)), some (.sh (.int n)), none, none, none, none] = some (Y, [some (.sh (.int c)), some (.sh (.int n)), none, none, none, none]) := by
  have n2 : ¬ (2 : Int) = 0 := by decide
  have b2 : (2 : Int).natAbs < B := small_B (by decide) (by decide)
  walk_at "ev"
theorem even_it (c : Int) (n : Nat) (h : n ≤ 100) : fiRng1 (fCons (fVar 1) fNil) [some (.sh (.int c)), some (.sh (.int (n : Nat))), some (.own []), none, none, none] = some (TM.upTo 0 n, [some (.sh (.int c)), some (.sh (.int (n : Nat))), some (.own []), none, none, none]) := by
  have hr := rng1_eqI (f := fVar 1) (τ := [some (.sh (.int c)), some (.sh (.int (n : Nat))), some (.own []), none, none, none]) (n := (n : Int)) rfl (by omega) (by omega)
  rw [Int.toNat_natCast] at hr
  exact hr
noncomputable def cutM (xs : List Rat) (m w : Nat) : List (List Rat) := (List.range m).map fun k => (xs.drop (k * w)).take w
theorem cut_q (xs : List Rat) (k w m : Nat) (hk : k < m) (hl : xs.length = m * w) : cutT (xs.map q2t) (some ((k : Int) * (w : Int))) (some ((k : Int) * (w : Int) + (w : Int))) = ((xs.drop (k * w)).take w).map q2t := by
  have hkw : k * w + w ≤ m * w := by
    have : (k + 1) * w ≤ m * w := Nat.mul_le_mul_right w hk
    rw [Nat.add_mul, Nat.one_mul] at this
    exact this
  have e1 : (k : Int) * (w : Int) = ((k * w : Nat) : Int) := by rw [Int.natCast_mul]
  have e2 : ((k * w : Nat) : Int) + (w : Int) = ((k * w + w : Nat) : Int) := by rw [Int.natCast_add]
  unfold cutT
  rw [e1, e2, HT.sIx_nat, HT.sIx_nat, List.length_map, hl, Nat.min_eq_left (by omega), Nat.min_eq_left (by omega), ← List.map_drop, ← List.map_take, show k * w + w - k * w = w by omega]
end My

namespace My
open PySem PySem.Spec PyProof.Rows L2 TM Qm Rq
end My



namespace My
open PySem PySem.Spec PyProof.Rows L2 TM Qm Rq
noncomputable def iT (l : List Int) : T := .lst (l.map T.int)
noncomputable def pT (e : Nat × List Int) : T := .tup [.int (e.1 : Nat), iT e.2]
theorem ix_int {l : List Int} {p : Nat} (h : p < l.length) : gIx (iT l) (.int (p : Nat)) = some (.int (l.getD p 0)) := by
  show atI (l.map T.int) (p : Int) = _
  unfold atI ixN
  rw [if_pos (by omega), if_pos (by rw [List.length_map]; omega), Option.bind_some, Int.toNat_natCast, List.getElem?_map, List.getElem?_eq_getElem h, List.getD_eq_getElem?_getD, List.getElem?_eq_getElem h]
  rfl
noncomputable def BdM (M : Nat) (x : Dt.Row) : Prop := ∀ j, (x j).natAbs ≤ M
theorem leftM' {M : Nat} {R : List Dt.Row} {ps : List Nat} {x : Dt.Row} (hx : BdM M x) (hR : ∀ y ∈ R, BdM M y) (hr : R.length ≤ 4) (hp : ps.length ≤ 7) (j : Nat) : (Dt.left R ps x j).natAbs ≤ (8 * M + 1) ^ 5 := by
  have h := Dt.det_bd (M := M) (n := 8) (x :: R) (j :: ps) (fun y hy => by
    rcases List.mem_cons.mp hy with rfl | hy
    · exact hx
    · exact hR y hy) (by simp only [List.length_cons]; omega)
  exact Nat.le_trans h (Nat.pow_le_pow_right (by omega) (by simp only [List.length_cons]; omega))
theorem detM' {M : Nat} {R : List Dt.Row} {ps : List Nat} (hR : ∀ y ∈ R, BdM M y) (hr : R.length ≤ 5) (hp : ps.length ≤ 7) : (Dt.det R ps).natAbs ≤ (8 * M + 1) ^ 5 := by
  have h := Dt.det_bd (M := M) (n := 8) R ps hR (by omega)
  exact Nat.le_trans h (Nat.pow_le_pow_right (by omega) (by omega))
theorem leftM {M : Nat} (hM : (8 * M + 1) ^ 5 < B) {R : List Dt.Row} {ps : List Nat} {x : Dt.Row} (hx : BdM M x) (hR : ∀ y ∈ R, BdM M y) (hr : R.length ≤ 4) (hp : ps.length ≤ 7) (j : Nat) : (Dt.left R ps x j).natAbs < B := Nat.lt_of_le_of_lt (leftM' hx hR hr hp j) hM
theorem detM {M : Nat} (hM : (8 * M + 1) ^ 5 < B) {R : List Dt.Row} {ps : List Nat} (hR : ∀ y ∈ R, BdM M y) (hr : R.length ≤ 5) (hp : ps.length ≤ 7) : (Dt.det R ps).natAbs < B := Nat.lt_of_le_of_lt (detM' hR hr hp) hM
theorem dOf_q {m n : Nat} {fb : FS} {ts : List T} {t : T} (hl : ts.length = n) (h : fb (ts.map (fun t => some (Sl.sh t)) ++ List.replicate (m - n) none) = some (.rt t)) : dOf m n fb ts = some t := by
  unfold dOf
  rw [if_pos hl, h]
  rfl
noncomputable abbrev dDv : List T → Option T := dOf 7 2 b_divided
noncomputable def dvRet : FE := fComp 1 [1] (fiSeq (fVar 0)) (gnName 0) fAlways (fOp gDiv (fVar 0) (fVar 1))
noncomputable def dvTest : FT := fTB (fOp gLt (fUn gBits (fVar 1)) (fC (.int 8000)))
theorem b_divided_eq : b_divided = fSeq (fIfS dvTest (fRet dvRet) fNext) fNever := rfl
theorem ev_divided {l : List Int} {d : Int} (h8 : l.length ≤ 8) (hd : ¬ d = 0) (hb : d.natAbs < B) : dDv [iT l, .int d] = some (iT (l.map fun x => x.fdiv d)) := by
  refine dOf_q rfl ?_
  have hc := comp_mapA (φ := T.int) (fe := fOp gDiv (fVar 0) (fVar 1)) (g := fun x => T.int (x.fdiv d)) (ρ := [some (.sh (.int d))]) rfl l none [] (fun x _ => by walk_at "ev") (small8t h8)
  have e1 := fComp_eq (no := 1) (cap := [1]) (fi := fiSeq (fVar 0)) (fg := gnName 0) (ft := fAlways) (τ := [some (.sh (iT l)), some (.sh (.int d)), none, none, none, none, none]) (h1 := rfl) rfl rfl hc
  have t1 : dvTest [some (.sh (iT l)), some (.sh (.int d)), none, none, none, none, none] = some (true, [some (.sh (iT l)), some (.sh (.int d)), none, none, none, none, none]) := by
    have hq := bits_8 hb
    unfold dvTest
    walk_at "ev"
  have e2 : fIfS dvTest (fRet dvRet) fNext [some (.sh (iT l)), some (.sh (.int d)), none, none, none, none, none] = some (.rt (iT (l.map fun x => x.fdiv d))) := by
    unfold fIfS
    rw [t1, Option.bind_some]
    refine (ret_q e1).trans ?_
    rw [List.nil_append]
    unfold iT
    rw [List.map_map]
    rfl
  rw [b_divided_eq]
  unfold fSeq
  rw [show (List.map (fun t => some (Sl.sh t)) [iT l, T.int d] ++ List.replicate (7 - 2) none) = [some (.sh (iT l)), some (.sh (.int d)), none, none, none, none, none] from rfl, e2]
  rfl
noncomputable def clFe : FE := fOp gSub (fOp gMulI (fVar 2) (fVar 0)) (fOp gMulI (fVar 3) (fVar 1))
noncomputable def clComp : FE := fComp 2 [5, 6] (fiZip (fCons (fVar 0) (fCons (fVar 4) fNil))) (gnTup (gnCons (gnName 0) (gnCons (gnName 1) gnNil))) fAlways clFe
noncomputable def clBody : FS := (fSeq (fAsg (fTup (fCons (fOp gIx (fVar 4) (fVar 3)) (fCons (fOp gIx (fVar 0) (fVar 3)) fNil))) (gnTup (gnCons (gnName 5) (gnCons (gnName 6) gnNil))))
    (fSeq (fSet 0 (fCall dDv (fCons clComp (fCons (fVar 2) fNil))))
    (fSet 2 (fVar 5))))
theorem cl_asg {K : T} {row : List Int} {p hk hx d : Int} {o1 o5 o6 : Option Sl} (h1 : gIx K (.int p) = some (.int hk)) (h2 : gIx (iT row) (.int p) = some (.int hx)) :
    fAsg (fTup (fCons (fOp gIx (fVar 4) (fVar 3)) (fCons (fOp gIx (fVar 0) (fVar 3)) fNil))) (gnTup (gnCons (gnName 5) (gnCons (gnName 6) gnNil))) [some (.sh (iT row)), o1, some (.sh (.int d)), some (.sh (.int p)), some (.sh K), o5, o6]
      = some (.nx [some (.sh (iT row)), o1, some (.sh (.int d)), some (.sh (.int p)), some (.sh K), some (.sh (.int hk)), some (.sh (.int hx))]) := by
  have l2 := le2
  walk_at "ev"
theorem cl_fe {n l h t : Int} (hn : n.natAbs < B) (hl : l.natAbs < B) (hh : h.natAbs < B) (ht : t.natAbs < B) :
    clFe [some (.sh (.int n)), some (.sh (.int l)), some (.sh (.int h)), some (.sh (.int t))] = some (.int (h * n - t * l), [some (.sh (.int n)), some (.sh (.int l)), some (.sh (.int h)), some (.sh (.int t))]) := by
  unfold clFe
  walk_at "ev"
theorem zip_map_zipWith {α β γ : Type} (f : α → β → γ) : ∀ (r : List α) (s : List β), (List.zip r s).map (fun p => f p.1 p.2) = List.zipWith f r s
  | [], _ => by simp
  | _ :: _, [] => by simp
  | a :: r, b :: s => by simp [zip_map_zipWith f r s]
theorem fiZip_ints {i j : Nat} {r s : List Int} {τ : TEnv} (h1 : τ[i]? = some (some (.sh (iT r)))) (h2 : τ[j]? = some (some (.sh (iT s)))) : fiZip (fCons (fVar i) (fCons (fVar j) fNil)) τ = some ((List.zip r s).map fun p => T.tup [T.int p.1, T.int p.2], τ) := by
  have e : fiZip (fCons (fVar i) (fCons (fVar j) fNil)) τ = some (zipT (r.map T.int) (s.map T.int), τ) := by
    have l1 : fVar i τ = some (iT r, τ) := by unfold fVar; rw [h1]
    have l2 : fVar j τ = some (iT s, τ) := by unfold fVar; rw [h2]
    unfold fiZip fCons fNil
    rw [l1, Option.bind_some, l2, Option.bind_some, Option.bind_some]
    rfl
  rw [e, zipT_map]
theorem cl_step {w : Nat} {R : List Dt.Row} {ps : List Nat} {k x : Dt.Row} {p : Nat} (hw : w ≤ 8) (hd : Dt.det R ps ≠ 0) (hn : Dt.left R ps k p ≠ 0) (hp : p < w) (bd : (Dt.det R ps).natAbs < B) (bk : ∀ j, (Dt.left R ps k j).natAbs < B) (bx : ∀ j, (Dt.left R ps x j).natAbs < B)
    (o1 o5 o6 : Option Sl) :
    clBody [some (.sh (iT (Dt.lefts w R ps x))), o1, some (.sh (.int (Dt.det R ps))), some (.sh (.int (p : Nat))), some (.sh (iT (Dt.lefts w R ps k))), o5, o6] = some (.nx [some (.sh (iT (Dt.lefts w (k :: R) (p :: ps) x))), o1, some (.sh (.int (Dt.left R ps k p))), some (.sh (.int (p : Nat))), some (.sh (iT (Dt.lefts w R ps k))), some (.sh (.int (Dt.left R ps k p))), some (.sh (.int (Dt.left R ps x p)))]) := by
  have gk : (Dt.lefts w R ps k).getD p 0 = Dt.left R ps k p := Dt.lefts_get hp
  have gx : (Dt.lefts w R ps x).getD p 0 = Dt.left R ps x p := Dt.lefts_get hp
  have e1 := cl_asg (d := Dt.det R ps) (o1 := o1) (o5 := o5) (o6 := o6) (ix_int (l := Dt.lefts w R ps k) (by rw [Dt.lefts_len]; exact hp)) (ix_int (l := Dt.lefts w R ps x) (by rw [Dt.lefts_len]; exact hp))
  rw [gk, gx] at e1
  have mem : ∀ {y : Dt.Row} {n : Int}, n ∈ Dt.lefts w R ps y → ∃ j, n = Dt.left R ps y j := fun {y n} h => by
    obtain ⟨j, _, e⟩ := List.mem_map.mp h
    exact ⟨j, e.symm⟩
  have hc := comp_two (φ := fun p : Int × Int => T.int p.1) (ψ := fun p : Int × Int => T.int p.2) (fe := clFe) (g := fun q => T.int (Dt.left R ps k p * q.1 - Dt.left R ps x p * q.2)) (ρ := [some (.sh (.int (Dt.left R ps k p))), some (.sh (.int (Dt.left R ps x p)))]) rfl
    (List.zip (Dt.lefts w R ps x) (Dt.lefts w R ps k)) none none [] (fun q hq => by
      obtain ⟨m1, m2⟩ := zip_mem hq
      obtain ⟨i, ei⟩ := mem m1
      obtain ⟨j, ej⟩ := mem m2
      exact cl_fe (by rw [ei]; exact bx i) (by rw [ej]; exact bk j) (bk p) (bx p)) (small8t (zip_len _ _ (by rw [Dt.lefts_len]; exact hw)))
  have e2 := fComp_eq (no := 2) (cap := [5, 6]) (fg := gTwo) (ft := fAlways) (fe := clFe) (fiZip_ints (i := 0) (j := 4) (r := Dt.lefts w R ps x) (s := Dt.lefts w R ps k) (τ := [some (.sh (iT (Dt.lefts w R ps x))), o1, some (.sh (.int (Dt.det R ps))), some (.sh (.int (p : Nat))), some (.sh (iT (Dt.lefts w R ps k))), some (.sh (.int (Dt.left R ps k p))), some (.sh (.int (Dt.left R ps x p)))]) rfl rfl) rfl rfl hc
  have e3 : T.lst ([] ++ (List.zip (Dt.lefts w R ps x) (Dt.lefts w R ps k)).map (fun q => T.int (Dt.left R ps k p * q.1 - Dt.left R ps x p * q.2))) = iT ((List.zip (Dt.lefts w R ps x) (Dt.lefts w R ps k)).map fun q => Dt.left R ps k p * q.1 - Dt.left R ps x p * q.2) := by
    unfold iT
    rw [List.nil_append, List.map_map]
    rfl
  rw [e3] at e2
  have e4 : ((List.zip (Dt.lefts w R ps x) (Dt.lefts w R ps k)).map fun q => Dt.left R ps k p * q.1 - Dt.left R ps x p * q.2).map (fun n => n.fdiv (Dt.det R ps)) = Dt.lefts w (k :: R) (p :: ps) x := by
    rw [List.map_map, ← Dt.step_list hd hn, ← zip_map_zipWith]
    rfl
  have e5 := ev_divided (l := (List.zip (Dt.lefts w R ps x) (Dt.lefts w R ps k)).map fun q => Dt.left R ps k p * q.1 - Dt.left R ps x p * q.2) (by rw [List.length_map]; exact zip_len _ _ (by rw [Dt.lefts_len]; exact hw)) hd bd
  rw [e4] at e5
  unfold clBody
  rw [seq_q e1, seq_q (set_q (i := 0) (call_q (g := dDv) _ (arg2 (f := clComp) (g := fVar 2) e2 rfl) e5) rfl)]
  rfl
theorem cl_loop {M : Nat} (hM : (8 * M + 1) ^ 5 < B) {w : Nat} {x : Dt.Row} (hw : w ≤ 8) (hx : BdM M x) (o1 : Option Sl) : ∀ {ks : List (Nat × List Int)} {R R' : List Dt.Row} {ps ps' : List Nat}, Dt.Fw w R ps ks R' ps' → Dt.det R ps ≠ 0 → (∀ y ∈ R', BdM M y) → R'.length ≤ 4 → ps'.length ≤ 4 → ∀ (o3 o4 o5 o6 : Option Sl),
    ∃ (o3' o4' o5' o6' : Option Sl), loopT (gnTup (gnCons (gnName 3) (gnCons (gnName 4) gnNil))) clBody (ks.map pT) [some (.sh (iT (Dt.lefts w R ps x))), o1, some (.sh (.int (Dt.det R ps))), o3, o4, o5, o6] = some (.nx [some (.sh (iT (Dt.lefts w R' ps' x))), o1, some (.sh (.int (Dt.det R' ps'))), o3', o4', o5', o6']) := by
  intro ks R R' ps ps' h
  induction h with
  | nil => exact fun _ _ _ _ o3 o4 o5 o6 => ⟨o3, o4, o5, o6, rfl⟩
  | cons hp hn h ih =>
    rename_i R R' ps ps' ks k p
    intro hd hR hr hps o3 o4 o5 o6
    have sub : ∀ {ks : List (Nat × List Int)} {A A' : List Dt.Row} {b b' : List Nat}, Dt.Fw w A b ks A' b' → (∀ y ∈ A, y ∈ A') ∧ A.length ≤ A'.length ∧ b.length ≤ b'.length := fun h => by
      induction h with
      | nil => exact ⟨fun y hy => hy, Nat.le_refl _, Nat.le_refl _⟩
      | cons _ _ _ ih => exact ⟨fun y hy => ih.1 y (List.mem_cons_of_mem _ hy), by have := ih.2.1; simp only [List.length_cons] at this; omega, by have := ih.2.2; simp only [List.length_cons] at this; omega⟩
    obtain ⟨s1, s2, s3⟩ := sub h
    simp only [List.length_cons] at s2 s3
    have bR : ∀ y ∈ R, BdM M y := fun y hy => hR y (s1 y (List.mem_cons_of_mem _ hy))
    have bK : BdM M k := hR k (s1 k List.mem_cons_self)
    have st := cl_step (k := k) (x := x) hw hd hn hp (detM hM bR (by omega) (by omega)) (fun j => leftM hM bK bR (by omega) (by omega) j) (fun j => leftM hM hx bR (by omega) (by omega) j) o1 o5 o6
    obtain ⟨o3', o4', o5', o6', hL⟩ := ih hn hR hr hps (some (.sh (.int (p : Nat)))) (some (.sh (iT (Dt.lefts w R ps k)))) (some (.sh (.int (Dt.left R ps k p)))) (some (.sh (.int (Dt.left R ps x p))))
    refine ⟨o3', o4', o5', o6', ?_⟩
    rw [List.map_cons, loop_step (τ1 := [some (.sh (iT (Dt.lefts w R ps x))), o1, some (.sh (.int (Dt.det R ps))), some (.sh (.int (p : Nat))), some (.sh (iT (Dt.lefts w R ps k))), o5, o6]) rfl st]
    exact hL
noncomputable abbrev dCl : List T → Option T := dOf 7 2 (b_cleared dDv)
theorem b_cleared_eq : b_cleared dDv = fSeq (fSet 2 (fC (.int 1))) (fSeq (fFor (fiSeq (fVar 1)) (gnTup (gnCons (gnName 3) (gnCons (gnName 4) gnNil))) clBody) (fRet (fVar 0))) := rfl
theorem ev_cleared {M : Nat} (hM : (8 * M + 1) ^ 5 < B) {w : Nat} {row : List Int} {ks : List (Nat × List Int)} {R : List Dt.Row} {ps : List Nat} (hl : row.length = w) (hw : w ≤ 8) (hx : BdM M (Dt.rw row)) (h : Dt.Fw w [] [] ks R ps) (hR : ∀ y ∈ R, BdM M y) (hr : R.length ≤ 4) (hp : ps.length ≤ 4) :
    dCl [iT row, .lst (ks.map pT)] = some (iT (Dt.lefts w R ps (Dt.rw row))) := by
  have e0 : iT row = iT (Dt.lefts w [] [] (Dt.rw row)) := by rw [← Dt.list_lefts_nil hl]
  obtain ⟨o3, o4, o5, o6, hL⟩ := cl_loop hM hw hx (some (.sh (.lst (ks.map pT)))) h (by decide) hR hr hp none none none none
  have hL' : loopT (gnTup (gnCons (gnName 3) (gnCons (gnName 4) gnNil))) clBody (ks.map pT) [some (.sh (iT row)), some (.sh (.lst (ks.map pT))), some (.sh (.int 1)), none, none, none, none] = some (.nx [some (.sh (iT (Dt.lefts w R ps (Dt.rw row)))), some (.sh (.lst (ks.map pT))), some (.sh (.int (Dt.det R ps))), o3, o4, o5, o6]) := by rw [e0]; exact hL
  have e1 : fFor (fiSeq (fVar 1)) (gnTup (gnCons (gnName 3) (gnCons (gnName 4) gnNil))) clBody [some (.sh (iT row)), some (.sh (.lst (ks.map pT))), some (.sh (.int 1)), none, none, none, none] = _ := for_q rfl hL'
  have e2 : fSet 2 (fC (.int 1)) [some (.sh (iT row)), some (.sh (.lst (ks.map pT))), none, none, none, none, none] = some (.nx [some (.sh (iT row)), some (.sh (.lst (ks.map pT))), some (.sh (.int 1)), none, none, none, none]) := rfl
  have e3 : b_cleared dDv [some (.sh (iT row)), some (.sh (.lst (ks.map pT))), none, none, none, none, none] = some (.rt (iT (Dt.lefts w R ps (Dt.rw row)))) := by
    rw [b_cleared_eq, seq_q e2, seq_q e1]
    rfl
  show ((b_cleared dDv [some (.sh (iT row)), some (.sh (.lst (ks.map pT))), none, none, none, none, none]).bind fun r => match r with | .rt t => some t | .nx _ => some .non | _ => none) = _
  rw [e3]
  rfl
theorem var_sh {i : Nat} {τ : TEnv} {t : T} (h : τ[i]? = some (some (.sh t))) : fVar i τ = some (t, τ) := by unfold fVar; rw [h]
theorem hide_sh : ∀ {τ : TEnv} {j : Nat} {t : T}, τ[j]? = some (some (.sh t)) → (hide τ)[j]? = some (some (.sh t))
  | [], j, t, h => by simp at h
  | some (.own _) :: τ, 0, t, h => by simp at h
  | some (.sh _) :: τ, 0, t, h => by simpa [hide] using h
  | none :: τ, 0, t, h => by simp at h
  | some (.own _) :: τ, j + 1, t, h => by simpa [hide] using hide_sh (τ := τ) (j := j) (by simpa using h)
  | some (.sh _) :: τ, j + 1, t, h => by simpa [hide] using hide_sh (τ := τ) (j := j) (by simpa using h)
  | none :: τ, j + 1, t, h => by simpa [hide] using hide_sh (τ := τ) (j := j) (by simpa using h)
theorem view_q {i : Nat} {f : FE} {τ : TEnv} {us : List T} {t : T} (h : τ[i]? = some (some (.own us))) (hf : ∀ τ' : TEnv, τ'[i]? = some (some (.sh (.lst us))) → (∀ (j : Nat) s, j ≠ i → τ[j]? = some (some (.sh s)) → τ'[j]? = some (some (.sh s))) → f τ' = some (t, τ')) :
    fView i f τ = some (t, if apart us t = true then τ else τ.set i (some (.sh (.lst us)))) := by
  unfold fView
  rw [h]
  dsimp only
  rw [hf ((hide τ).set i (some (.sh (.lst us)))) (List.getElem?_set_self (by rw [hide_length]; exact (List.getElem?_eq_some_iff.mp h).1)) (fun j s hj e => by rw [List.getElem?_set_ne (Ne.symm hj)]; exact hide_sh e)]
  rfl
theorem view_sh {i : Nat} {f : FE} {τ : TEnv} {t : T} (h : τ[i]? = some (some (.sh t))) : fView i f τ = f τ := by
  unfold fView
  rw [h]
theorem aparts_ints (us : List T) : ∀ l : List Int, aparts us (l.map T.int) = true
  | [] => by simp [aparts]
  | a :: l => by rw [List.map_cons, aparts, aparts_ints us l]; simp [apart]
theorem apart_ints {ks : List (Nat × List Int)} {l : List Int} (h : ks ≠ [] ∨ l ≠ []) : apart (ks.map pT) (iT l) = true := by
  unfold iT
  rw [apart, aparts_ints, Bool.and_true]
  unfold dif
  cases ks with
  | nil =>
    cases l with
    | nil => simp at h
    | cons a l => simp
  | cons k ks =>
    cases l with
    | nil => simp
    | cons a l => simp [pT, kd]
theorem app_q {i : Nat} {f : FE} {τ : TEnv} {ts : List T} {t : T} (h : τ[i]? = some (some (.own ts))) (hf : f τ = some (t, τ)) (hl : ts.length < sizeLine) : fApp i f τ = some (.nx (τ.set i (some (.own (ts ++ [t]))))) := by
  unfold fApp
  rw [h]
  dsimp only
  rw [hf, Option.bind_some]
  dsimp only
  rw [h]
  dsimp only
  rw [if_pos hl]
theorem tup2_q {i j : Nat} {τ : TEnv} {a b : T} (h1 : τ[i]? = some (some (.sh a))) (h2 : τ[j]? = some (some (.sh b))) : fTup (fCons (fVar i) (fCons (fVar j) fNil)) τ = some (.tup [a, b], τ) := by
  have l2 := le2
  unfold fTup fCons fNil
  rw [var_sh h1, Option.bind_some, var_sh h2, Option.bind_some, Option.bind_some]
  show (if ([a, b] : List T).length ≤ sizeLine then some (T.tup [a, b], τ) else none) = _
  exact if_pos l2
theorem Fw_len {w : Nat} {ks : List (Nat × List Int)} {A A' : List Dt.Row} {b b' : List Nat} (h : Dt.Fw w A b ks A' b') : A'.length = A.length + ks.length ∧ b'.length = b.length + ks.length := by
  induction h with
  | nil => exact ⟨rfl, rfl⟩
  | cons _ _ _ ih =>
    have := ih.1
    have := ih.2
    simp only [List.length_cons] at *
    omega
noncomputable def rwQ (r : List Rat) : Dq.Row := fun j => r.getD j 0
noncomputable def tops (r : List Rat) : List Int := r.map (topOf (lowOf r))
theorem row_low {r : List Rat} {D N : Nat} (h : Gn D N r) (j : Nat) : rwQ r j = (1 / ((lowOf r : Nat) : Rat)) * ((Dt.rw (tops r) j : Int) : Rat) := by
  obtain ⟨h1, h2, h3⟩ := low_n h
  unfold rwQ Dt.rw tops
  rw [List.getD_eq_getElem?_getD, List.getD_eq_getElem?_getD, List.getElem?_map]
  by_cases hj : j < r.length
  · rw [List.getElem?_eq_getElem hj, Option.map_some, Option.getD_some, Option.getD_some]
    have e := top_eq h2 (h3 _ (List.getElem_mem hj))
    rw [Rat.divInt_eq_div] at e
    have e2 : (((lowOf r : Nat) : Int) : Rat) = ((lowOf r : Nat) : Rat) := Rat.intCast_natCast _
    rw [e2] at e
    rw [← e]
    have : ((lowOf r : Nat) : Rat) ≠ 0 := fun z => by
      have : lowOf r = 0 := by exact_mod_cast z
      omega
    rw [e]
    grind
  · rw [List.getElem?_eq_none (by omega)]
    show (0 : Rat) = _ * (((0 : Int)) : Rat)
    rw [show ((0 : Int) : Rat) = 0 from rfl, Rat.mul_zero]
theorem op_q {g : T → T → Option T} {fa fb : FE} {τ : TEnv} {a b t : T} (h1 : fa τ = some (a, τ)) (h2 : fb τ = some (b, τ)) (h : g a b = some t) : fOp g fa fb τ = some (t, τ) := by
  unfold fOp
  rw [h1, Option.bind_some, h2, Option.bind_some]
  show (g a b).bind _ = _
  rw [h]
  rfl
theorem rw_bd {l : List Int} {M : Nat} (h : ∀ n ∈ l, n.natAbs ≤ M) (j : Nat) : (Dt.rw l j).natAbs ≤ M := by
  unfold Dt.rw
  rw [List.getD_eq_getElem?_getD]
  cases e : l[j]? with
  | none => exact Nat.zero_le _
  | some n => exact h n (List.mem_of_getElem? e)
theorem tops_bd {D N : Nat} {r : List Rat} (h : Gn D N r) : BdM (N * D) (Dt.rw (tops r)) := fun j => rw_bd (fun n hn => by
  obtain ⟨x, hx, rfl⟩ := List.mem_map.mp hn
  exact top_n (h.num x hx) h.dp (low_n h).1) j
theorem div_q {N d : Int} (hd : ¬ d = 0) (bd : d.natAbs < B) : gDiv (.int N) (.int d) = some (.int (N.fdiv d)) := if_pos ⟨hd, bd⟩
theorem mul_q {a b : Int} (h1 : a.natAbs < B) (h2 : b.natAbs < B) : gMulI (.int a) (.int b) = some (.int (a * b)) := if_pos ⟨h1, h2⟩
theorem sub_q {a b : Int} : gSub (.int a) (.int b) = some (.int (a - b)) := rfl
theorem frT_any {a b : Int} (hb : b ≠ 0) : frT a b = q2t (Rat.divInt a b) := by
  by_cases h : 0 < b
  · exact frT_rat h
  · have hn : 0 < -b := by omega
    have e1 : frT a b = frT (-a) (-b) := by
      rw [frT_pos hn]
      unfold frT sg
      rw [if_pos (by omega), Int.gcd_neg, Int.neg_gcd]
      have h1 : ∀ x g : Int, x.fdiv (-g) = (-x).fdiv g := fun x g => by
        rw [← Int.neg_fdiv_neg]
        rw [Int.neg_neg]
      rw [h1, h1]
    rw [e1, frT_rat hn, ← Rat.neg_divInt_neg, Int.neg_neg, Int.neg_neg]
theorem tops_len (r : List Rat) : (tops r).length = r.length := by unfold tops; rw [List.length_map]
theorem ix_at {L : List T} {p : Nat} {t : T} (h : L[p]? = some t) : gIx (.lst L) (.int (p : Nat)) = some t := by
  have hp := (List.getElem?_eq_some_iff.mp h).1
  show atI L (p : Int) = _
  unfold atI ixN
  rw [if_pos (by omega), if_pos (by omega), Option.bind_some, Int.toNat_natCast, h]
theorem part_q {f : FE} {τ : TEnv} {k : Int} (h : f τ = some (.int k, τ)) : fPart f τ = some (some k, τ) := by
  unfold fPart
  rw [h]
  rfl
theorem sl_q {f : FE} {fl fh : FO} {τ : TEnv} {a t : T} {lo hi : Option Int} (h : f τ = some (a, τ)) (h1 : fl τ = some (lo, τ)) (h2 : fh τ = some (hi, τ)) (h3 : gSl a lo hi = some t) : fSl f fl fh τ = some (t, τ) := by
  unfold fSl
  rw [h, Option.bind_some]
  dsimp only
  rw [h1, Option.bind_some]
  dsimp only
  rw [h2, Option.bind_some]
  dsimp only
  rw [h3]
  rfl
theorem divInt_den {a b : Int} (hb : b ≠ 0) : (Rat.divInt a b).den ∣ b.natAbs := by
  rw [Rat.den_divInt, if_neg hb]
  exact Nat.div_dvd_of_dvd (by
    have := Int.natAbs_dvd_natAbs.mpr (Int.gcd_dvd_left b a)
    rwa [Int.natAbs_natCast] at this)
theorem divInt_num {a b : Int} (hb : b ≠ 0) : (Rat.divInt a b).num.natAbs ≤ a.natAbs := by
  rw [Rat.num_divInt]
  have h1 : ((Int.gcd b a : Nat) : Int) ∣ b.sign * a := Int.dvd_mul_of_dvd_right (Int.gcd_dvd_right _ _)
  rw [Int.natAbs_ediv_of_dvd h1, Int.natAbs_mul]
  have h2 : b.sign.natAbs = 1 := by
    rcases Int.lt_or_gt_of_ne hb with h | h
    · rw [Int.sign_eq_neg_one_of_neg h]; rfl
    · rw [Int.sign_eq_one_of_pos h]; rfl
  rw [h2, Nat.one_mul]
  exact Nat.div_le_self _ _
theorem set_o {i : Nat} {f : FO'} {τ τ' : TEnv} {os : List O} (h : f τ = some (.lst os, τ')) : fSetO i f τ = some (.nx (τ'.set i (some (.own (O.trs os))))) := by
  unfold fSetO
  rw [h]
  rfl
theorem if_go {c : FT} {s : FS} {τ τ' : TEnv} (h : c τ = some (false, τ')) : fIfS c s fNext τ = some (.nx τ') := by
  unfold fIfS
  rw [h]
  rfl
theorem ne_q0 : gNe (q2t 0) (.tup [.int 0, .int 1]) = some (.bl false) := cmp_self (neg := true) (shp_q 0) (by decide)
theorem ne_q {q : Rat} (h : q ≠ 0) : gNe (q2t q) (.tup [.int 0, .int 1]) = some (.bl true) := by
  have hn : (q.num == 0) = false := by
    rw [beq_eq_false_iff_ne]
    exact fun z => h (Rat.num_eq_zero.mp z)
  have e : gNe (q2t q) (.tup [.int 0, .int 1]) = some (.bl (!(q.num == 0 && ((q.den : Int) == 1 && true)))) := rfl
  rw [e, hn]
  rfl
theorem sm_inv {x y : Rat} (h : x * y = 1) (hx : Sm x) : Sm y := by
  have x0 : x ≠ 0 := fun z => by rw [z, Rat.zero_mul] at h; exact absurd h (by decide)
  have hn : x.num ≠ 0 := fun z => x0 (Rat.num_eq_zero.mp z)
  have e : y = x⁻¹ := by grind
  have e2 : y = Rat.divInt x.den x.num := by rw [e, Rat.inv_def]
  rw [e2]
  have h1 := divInt_num (a := (x.den : Int)) hn
  have h2 := Nat.le_of_dvd (by omega) (divInt_den (a := (x.den : Int)) hn)
  have := hx.n
  have := hx.d
  rw [Int.natAbs_natCast] at h1
  exact ⟨by omega, by omega⟩
end My

namespace My
open PySem PySem.Spec PyProof.Rows L2 TM Qm Rq
noncomputable def stp : List (List Rat) → Nat → List Dt.Row → List Nat → List Rat
  | [], _, _, _ => []
  | row :: rows, k, R, ps => Rat.divInt (Dt.left R ps (Dt.rw (tops row)) k) (Dt.det R ps * (lowOf row : Nat)) ::
      (if Dt.left R ps (Dt.rw (tops row)) k ≤ 0 then [] else stp rows (k + 1) (Dt.rw (tops row) :: R) (k :: ps))
noncomputable def stGo : FY := (ySeq (yLift (fApp 2 (fTup (fCons (fVar 4) (fCons (fVar 7) fNil))))) (yLift (fSet 3 (fOp gIx (fVar 7) (fVar 4)))))
noncomputable def stView : FE := fView 2 (fCall dCl (fCons (fCall mRa (fCons (fVar 5) (fCons (fVar 6) fNil))) (fCons (fVar 2) fNil)))
noncomputable def stFr : FE := fCall mFrac (fCons (fOp gIx (fVar 7) (fVar 4)) (fCons (fOp gMulI (fVar 3) (fVar 6)) fNil))
noncomputable def stLe : FT := fTB (fOp gLe (fOp gIx (fVar 7) (fVar 4)) (fC (.int 0)))
noncomputable def stBody : FY := ySeq (yLift (fSet 6 (fCall mSb (fCons (fVar 5) fNil)))) (ySeq (yLift (fSet 7 stView)) (ySeq (yLift (fApp 1 stFr)) (ySeq (yIf stLe (yRet (fTake 1)) yNext) stGo)))
noncomputable abbrev dSo : List T → Option O := dOfO 8 1 (b_steps_of mSb mRa dCl mFrac)
noncomputable abbrev gEn : FG := gnTup (gnCons (gnName 4) (gnCons (gnName 5) gnNil))
theorem b_so_eq : b_steps_of mSb mRa dCl mFrac = fYO (ySeq (yLift (fParOwn 1 2)) (ySeq (yLift (fSet 3 (fC (.int 1)))) (ySeq (yFor (fiEnum (fCons (fVar 0) fNil)) gEn stBody) (yRet (fTake 1))))) := rfl
theorem ys_q {f : FS} {g : FY} {τ τ' : TEnv} (h : f τ = some (.nx τ')) : ySeq (yLift f) g τ = g τ' := by
  unfold ySeq yLift
  rw [h]
  rfl
structure TbG (n D N : Nat) (A : List (List Rat)) : Prop where
  wd : ∀ r ∈ A, r.length = n
  gn : ∀ r ∈ A, Gn D N r
structure BdsG (n D N : Nat) : Prop where
  n4 : n ≤ 4
  hM : (8 * (N * D) + 1) ^ 5 < B
  hF : (8 * (N * D) + 1) ^ 5 * D < B
  hD : D < B
  dp : 0 < D
theorem tops_iT (r : List Rat) : T.lst (r.map fun x => T.int (topOf (lowOf r) x)) = iT (tops r) := by unfold iT tops; rw [List.map_map]; rfl
theorem le_q {a : Int} : gLe (.int a) (.int 0) = some (.bl (decide (a ≤ 0))) := rfl
theorem tb_q {f : FE} {τ : TEnv} {b : Bool} (h : f τ = some (.bl b, τ)) : fTB f τ = some (b, τ) := by
  unfold fTB
  rw [h]
  rfl
theorem st_turn {n D N : Nat} (G : BdsG n D N) {row : List Rat} (hw : row.length = n) (hg : Gn D N row) {k : Nat} (hk : k < n) {R : List Dt.Row} {ps : List Nat} {ks : List (Nat × List Int)} (hF : Dt.Fw n [] [] ks R ps) (hR : ∀ y ∈ R, BdM (N * D) y) (hr : R.length ≤ 3) (hp : ps.length ≤ 3) (hd : Dt.det R ps ≠ 0) (steps : List T) (hs : steps.length ≤ 8) (o0 o6 o7 : Option Sl) :
    stBody [o0, some (.own steps), some (.own (ks.map pT)), some (.sh (.int (Dt.det R ps))), some (.sh (.int (k : Nat))), some (.sh (rowT row)), o6, o7] =
      if Dt.left R ps (Dt.rw (tops row)) k ≤ 0 then some (.ro (.lst ((steps ++ [q2t (Rat.divInt (Dt.left R ps (Dt.rw (tops row)) k) (Dt.det R ps * (lowOf row : Nat)))]).map .val)))
      else some (.nx [o0, some (.own (steps ++ [q2t (Rat.divInt (Dt.left R ps (Dt.rw (tops row)) k) (Dt.det R ps * (lowOf row : Nat)))])), some (.own ((ks ++ [(k, Dt.lefts n R ps (Dt.rw (tops row)))]).map pT)), some (.sh (.int (Dt.left R ps (Dt.rw (tops row)) k))), some (.sh (.int (k : Nat))), some (.sh (rowT row)), some (.sh (.int (lowOf row : Nat))), some (.sh (iT (Dt.lefts n R ps (Dt.rw (tops row)))))]) := by
  obtain ⟨l1, l2, l3⟩ := low_n hg
  have hn4 := G.n4
  have hbx := tops_bd hg
  have ec := ev_cleared G.hM (row := tops row) (by rw [tops_len]; exact hw) (by omega) hbx hF hR (by omega) (by omega)
  have er := mRa_n hg
  rw [tops_iT] at er
  have bl := leftM' (ps := ps) hbx hR (by omega) (by omega) k
  have bd := detM' (M := N * D) (R := R) (ps := ps) hR (by omega) (by omega)
  have hlow : lowOf row ≤ D := Nat.le_of_dvd G.dp l1
  have bprod : (Dt.det R ps * ((lowOf row : Nat) : Int)).natAbs < B := by
    rw [Int.natAbs_mul, Int.natAbs_natCast]
    exact Nat.lt_of_le_of_lt (Nat.mul_le_mul bd hlow) G.hF
  have e1 : fSet 6 (fCall mSb (fCons (fVar 5) fNil)) [o0, some (.own steps), some (.own (ks.map pT)), some (.sh (.int (Dt.det R ps))), some (.sh (.int (k : Nat))), some (.sh (rowT row)), o6, o7] = some (.nx [o0, some (.own steps), some (.own (ks.map pT)), some (.sh (.int (Dt.det R ps))), some (.sh (.int (k : Nat))), some (.sh (rowT row)), some (.sh (.int (lowOf row : Nat))), o7]) := set_q (call_q [rowT row] (arg1 rfl) (mSb_n hg)) rfl
  have hne : Dt.lefts n R ps (Dt.rw (tops row)) ≠ [] := fun z => by
    have := Dt.lefts_len n R ps (Dt.rw (tops row))
    rw [z] at this
    simp at this
    omega
  have e2 : stView [o0, some (.own steps), some (.own (ks.map pT)), some (.sh (.int (Dt.det R ps))), some (.sh (.int (k : Nat))), some (.sh (rowT row)), some (.sh (.int (lowOf row : Nat))), o7] = some (iT (Dt.lefts n R ps (Dt.rw (tops row))), [o0, some (.own steps), some (.own (ks.map pT)), some (.sh (.int (Dt.det R ps))), some (.sh (.int (k : Nat))), some (.sh (rowT row)), some (.sh (.int (lowOf row : Nat))), o7]) := by
    have v := view_q (i := 2) (f := fCall dCl (fCons (fCall mRa (fCons (fVar 5) (fCons (fVar 6) fNil))) (fCons (fVar 2) fNil))) (τ := [o0, some (.own steps), some (.own (ks.map pT)), some (.sh (.int (Dt.det R ps))), some (.sh (.int (k : Nat))), some (.sh (rowT row)), some (.sh (.int (lowOf row : Nat))), o7]) (us := ks.map pT) (t := iT (Dt.lefts n R ps (Dt.rw (tops row)))) rfl (fun τ' h1 h2 => call_q (g := dCl) [iT (tops row), .lst (ks.map pT)] (arg2 (call_q (g := mRa) [rowT row, .int (lowOf row : Nat)] (arg2 (var_sh (h2 5 _ (by decide) rfl)) (var_sh (h2 6 _ (by decide) rfl))) er) (var_sh h1)) ec)
    rw [if_pos (apart_ints (.inr hne))] at v
    exact v
  have e3 : fSet 7 stView [o0, some (.own steps), some (.own (ks.map pT)), some (.sh (.int (Dt.det R ps))), some (.sh (.int (k : Nat))), some (.sh (rowT row)), some (.sh (.int (lowOf row : Nat))), o7] = some (.nx [o0, some (.own steps), some (.own (ks.map pT)), some (.sh (.int (Dt.det R ps))), some (.sh (.int (k : Nat))), some (.sh (rowT row)), some (.sh (.int (lowOf row : Nat))), some (.sh (iT (Dt.lefts n R ps (Dt.rw (tops row)))))]) := set_q e2 rfl
  have gk : (Dt.lefts n R ps (Dt.rw (tops row))).getD k 0 = Dt.left R ps (Dt.rw (tops row)) k := Dt.lefts_get hk
  have ix := ix_int (l := Dt.lefts n R ps (Dt.rw (tops row))) (p := k) (by rw [Dt.lefts_len]; exact hk)
  rw [gk] at ix
  have nz : Dt.det R ps * ((lowOf row : Nat) : Int) ≠ 0 := Int.mul_ne_zero hd (by omega)
  have e4 : stFr [o0, some (.own steps), some (.own (ks.map pT)), some (.sh (.int (Dt.det R ps))), some (.sh (.int (k : Nat))), some (.sh (rowT row)), some (.sh (.int (lowOf row : Nat))), some (.sh (iT (Dt.lefts n R ps (Dt.rw (tops row)))))] = some (q2t (Rat.divInt (Dt.left R ps (Dt.rw (tops row)) k) (Dt.det R ps * (lowOf row : Nat))), [o0, some (.own steps), some (.own (ks.map pT)), some (.sh (.int (Dt.det R ps))), some (.sh (.int (k : Nat))), some (.sh (rowT row)), some (.sh (.int (lowOf row : Nat))), some (.sh (iT (Dt.lefts n R ps (Dt.rw (tops row)))))]) := by
    rw [← frT_any nz]
    exact call_q (g := mFrac) [.int (Dt.left R ps (Dt.rw (tops row)) k), .int (Dt.det R ps * ((lowOf row : Nat) : Int))] (arg2 (op_q rfl rfl ix) (op_q rfl rfl (mul_q (Nat.lt_of_le_of_lt bd G.hM) (by rw [Int.natAbs_natCast]; exact Nat.lt_of_le_of_lt hlow G.hD)))) (mFrac_eq (Nat.lt_of_le_of_lt bl G.hM) bprod nz)
  have e5 := app_q (i := 1) (ts := steps) rfl e4 (small1000 (by omega))
  have e6 : stLe [o0, some (.own (steps ++ [q2t (Rat.divInt (Dt.left R ps (Dt.rw (tops row)) k) (Dt.det R ps * (lowOf row : Nat)))])), some (.own (ks.map pT)), some (.sh (.int (Dt.det R ps))), some (.sh (.int (k : Nat))), some (.sh (rowT row)), some (.sh (.int (lowOf row : Nat))), some (.sh (iT (Dt.lefts n R ps (Dt.rw (tops row)))))] = some (decide (Dt.left R ps (Dt.rw (tops row)) k ≤ 0), [o0, some (.own (steps ++ [q2t (Rat.divInt (Dt.left R ps (Dt.rw (tops row)) k) (Dt.det R ps * (lowOf row : Nat)))])), some (.own (ks.map pT)), some (.sh (.int (Dt.det R ps))), some (.sh (.int (k : Nat))), some (.sh (rowT row)), some (.sh (.int (lowOf row : Nat))), some (.sh (iT (Dt.lefts n R ps (Dt.rw (tops row)))))]) := tb_q (op_q (op_q rfl rfl ix) rfl le_q)
  have hkl : ks.length ≤ 8 := by
    have := (Fw_len hF).1
    simp only [List.length_nil, Nat.zero_add] at this
    omega
  unfold stBody
  rw [ys_q e1, ys_q e3, ys_q e5]
  have e7 : (([o0, some (.own steps), some (.own (ks.map pT)), some (.sh (.int (Dt.det R ps))), some (.sh (.int (k : Nat))), some (.sh (rowT row)), some (.sh (.int (lowOf row : Nat))), some (.sh (iT (Dt.lefts n R ps (Dt.rw (tops row)))))] : TEnv).set 1 (some (.own (steps ++ [q2t (Rat.divInt (Dt.left R ps (Dt.rw (tops row)) k) (Dt.det R ps * (lowOf row : Nat)))])))) = [o0, some (.own (steps ++ [q2t (Rat.divInt (Dt.left R ps (Dt.rw (tops row)) k) (Dt.det R ps * (lowOf row : Nat)))])), some (.own (ks.map pT)), some (.sh (.int (Dt.det R ps))), some (.sh (.int (k : Nat))), some (.sh (rowT row)), some (.sh (.int (lowOf row : Nat))), some (.sh (iT (Dt.lefts n R ps (Dt.rw (tops row)))))] := rfl
  rw [e7]
  generalize hS : steps ++ [q2t (Rat.divInt (Dt.left R ps (Dt.rw (tops row)) k) (Dt.det R ps * (lowOf row : Nat)))] = S at *
  by_cases hv : Dt.left R ps (Dt.rw (tops row)) k ≤ 0
  · rw [if_pos hv]
    rw [decide_eq_true hv] at e6
    unfold ySeq yIf
    rw [e6]
    rfl
  · rw [if_neg hv]
    rw [decide_eq_false hv] at e6
    have g1 := app_q (i := 2) (ts := ks.map pT) (f := fTup (fCons (fVar 4) (fCons (fVar 7) fNil))) (τ := [o0, some (.own S), some (.own (ks.map pT)), some (.sh (.int (Dt.det R ps))), some (.sh (.int (k : Nat))), some (.sh (rowT row)), some (.sh (.int (lowOf row : Nat))), some (.sh (iT (Dt.lefts n R ps (Dt.rw (tops row)))))]) rfl (tup2_q rfl rfl) (small1000 (by rw [List.length_map]; omega))
    have g2 : fSet 3 (fOp gIx (fVar 7) (fVar 4)) [o0, some (.own S), some (.own (ks.map pT ++ [T.tup [.int (k : Nat), iT (Dt.lefts n R ps (Dt.rw (tops row)))]])), some (.sh (.int (Dt.det R ps))), some (.sh (.int (k : Nat))), some (.sh (rowT row)), some (.sh (.int (lowOf row : Nat))), some (.sh (iT (Dt.lefts n R ps (Dt.rw (tops row)))))] = some (.nx [o0, some (.own S), some (.own (ks.map pT ++ [T.tup [.int (k : Nat), iT (Dt.lefts n R ps (Dt.rw (tops row)))]])), some (.sh (.int (Dt.left R ps (Dt.rw (tops row)) k))), some (.sh (.int (k : Nat))), some (.sh (rowT row)), some (.sh (.int (lowOf row : Nat))), some (.sh (iT (Dt.lefts n R ps (Dt.rw (tops row)))))]) := set_q (op_q rfl rfl ix) rfl
    have e8 : ySeq (yIf stLe (yRet (fTake 1)) yNext) stGo [o0, some (.own S), some (.own (ks.map pT)), some (.sh (.int (Dt.det R ps))), some (.sh (.int (k : Nat))), some (.sh (rowT row)), some (.sh (.int (lowOf row : Nat))), some (.sh (iT (Dt.lefts n R ps (Dt.rw (tops row)))))] = stGo [o0, some (.own S), some (.own (ks.map pT)), some (.sh (.int (Dt.det R ps))), some (.sh (.int (k : Nat))), some (.sh (rowT row)), some (.sh (.int (lowOf row : Nat))), some (.sh (iT (Dt.lefts n R ps (Dt.rw (tops row)))))] := by
      unfold ySeq yIf
      rw [e6]
      rfl
    rw [e8]
    unfold stGo
    rw [ys_q g1]
    rw [List.map_append]
    unfold yLift
    exact (congrArg (fun z => Option.bind z _) g2).trans rfl
theorem st_loop {n D N : Nat} (G : BdsG n D N) (o0 : Option Sl) : ∀ (rows : List (List Rat)) (k : Nat) (R : List Dt.Row) (ps : List Nat) (ks : List (Nat × List Int)) (steps : List T) (o4 o5 o6 o7 : Option Sl), TbG n D N rows → k + rows.length = n → R.length = k → ps.length = k → Dt.Fw n [] [] ks R ps → (∀ y ∈ R, BdM (N * D) y) → Dt.det R ps ≠ 0 → steps.length = k →
    ∃ r, loopY gEn stBody (enT k (rows.map rowT)) [o0, some (.own steps), some (.own (ks.map pT)), some (.sh (.int (Dt.det R ps))), o4, o5, o6, o7] = some r ∧ (r = .ro (.lst ((steps ++ (stp rows k R ps).map q2t).map .val)) ∨ ∃ τ', r = .nx τ' ∧ τ'[1]? = some (some (.own (steps ++ (stp rows k R ps).map q2t))))
  | [], k, R, ps, ks, steps, o4, o5, o6, o7, _, _, _, _, _, _, _, _ => ⟨_, rfl, .inr ⟨_, rfl, by show some (some (Sl.own steps)) = _; rw [stp, List.map_nil, List.append_nil]⟩⟩
  | row :: rows, k, R, ps, ks, steps, o4, o5, o6, o7, h, hk, hr, hp, hF, hR, hd, hs => by
    rw [List.length_cons] at hk
    have hn4 := G.n4
    have hg := h.gn row List.mem_cons_self
    have ht := st_turn G (h.wd row List.mem_cons_self) hg (k := k) (by omega) hF hR (by omega) (by omega) hd steps (by omega) o0 o6 o7
    have e0 : loopY gEn stBody (enT k ((row :: rows).map rowT)) [o0, some (.own steps), some (.own (ks.map pT)), some (.sh (.int (Dt.det R ps))), o4, o5, o6, o7] = (stBody [o0, some (.own steps), some (.own (ks.map pT)), some (.sh (.int (Dt.det R ps))), some (.sh (.int (k : Nat))), some (.sh (rowT row)), o6, o7]).bind fun r => match r with | .nx τ2 => loopY gEn stBody (enT (k + 1) (rows.map rowT)) τ2 | .ro o => some (.ro o) := rfl
    rw [e0, ht]
    by_cases hv : Dt.left R ps (Dt.rw (tops row)) k ≤ 0
    · rw [if_pos hv]
      refine ⟨_, rfl, .inl ?_⟩
      rw [stp, if_pos hv]
      rfl
    · rw [if_neg hv]
      have hn : Dt.left R ps (Dt.rw (tops row)) k ≠ 0 := by omega
      obtain ⟨r, h1, h2⟩ := st_loop G o0 rows (k + 1) (Dt.rw (tops row) :: R) (k :: ps) (ks ++ [(k, Dt.lefts n R ps (Dt.rw (tops row)))]) (steps ++ [q2t (Rat.divInt (Dt.left R ps (Dt.rw (tops row)) k) (Dt.det R ps * (lowOf row : Nat)))]) (some (.sh (.int (k : Nat)))) (some (.sh (rowT row))) (some (.sh (.int (lowOf row : Nat)))) (some (.sh (iT (Dt.lefts n R ps (Dt.rw (tops row))))))
        ⟨fun x hx => h.wd x (List.mem_cons_of_mem _ hx), fun x hx => h.gn x (List.mem_cons_of_mem _ hx)⟩ (by omega) (by rw [List.length_cons, hr]) (by rw [List.length_cons, hp]) (hF.snoc (by omega) hn) (fun y hy => by
          rcases List.mem_cons.mp hy with rfl | hy
          · exact tops_bd hg
          · exact hR y hy) hn (by rw [List.length_append, hs]; rfl)
      refine ⟨r, h1, ?_⟩
      rw [stp, if_neg hv]
      rw [List.append_assoc] at h2
      exact h2
theorem ev_steps {n D N : Nat} (G : BdsG n D N) {A : List (List Rat)} (h : TbG n D N A) (hl : A.length = n) : dSo [tabT A] = some (.lst (((stp A 0 [] []).map q2t).map .val)) := by
  obtain ⟨r, h1, h2⟩ := st_loop G (some (.sh (tabT A))) A 0 [] [] [] [] none none none none h (by omega) rfl rfl .nil (fun _ h => by cases h) (by decide) rfl
  have e1 : b_steps_of mSb mRa dCl mFrac [some (.sh (tabT A)), none, none, none, none, none, none, none] = some (.lst (((stp A 0 [] []).map q2t).map .val)) := by
    rw [b_so_eq]
    have e2 : ySeq (yLift (fParOwn 1 2)) (ySeq (yLift (fSet 3 (fC (.int 1)))) (ySeq (yFor (fiEnum (fCons (fVar 0) fNil)) gEn stBody) (yRet (fTake 1)))) [some (.sh (tabT A)), none, none, none, none, none, none, none] = (loopY gEn stBody (enT 0 (A.map rowT)) [some (.sh (tabT A)), some (.own []), some (.own []), some (.sh (.int 1)), none, none, none, none]).bind fun r => match r with | .nx τ' => yRet (fTake 1) τ' | .ro o => some (.ro o) := rfl
    unfold fYO
    rw [e2]
    have h1' : loopY gEn stBody (enT 0 (A.map rowT)) [some (.sh (tabT A)), some (.own []), some (.own []), some (.sh (.int 1)), none, none, none, none] = some r := h1
    rw [h1']
    rcases h2 with rfl | ⟨τ', rfl, h3⟩
    · rfl
    · show ((yRet (fTake 1) τ').bind _) = _
      unfold yRet fTake
      rw [h3]
      rfl
  exact e1
end My

namespace My
open PySem PySem.Spec PyProof.Rows L2 TM Qm Rq
noncomputable def atT : FT := fTB (fOp gNe (fOp gIx (fOp gIx (fVar 1) (fVar 0)) (fC (.int 0))) (fTup (fCons (fC (.int 0)) (fCons (fC (.int 1)) fNil))))
noncomputable def atC : FO' := fCompO 1 [2] (fiRng1 (fCons (fView 2 (fCall dLen (fCons (fVar 2) fNil))) fNil)) (gnName 0) atT (fVal (fVar 0))
theorem cut1 (x : Rat) (l : List Rat) : gSl (rowT (x :: l)) (some 1) none = some (rowT l) := by
  show some (T.lst (cutT ((x :: l).map q2t) (some ((1 : Nat) : Int)) none)) = _
  unfold cutT
  rw [HT.sIx_nat, HT.sIx_none, List.length_map, List.length_cons, Nat.min_eq_left (by omega)]
  show some (T.lst (List.take (l.length + 1 - 1) (l.map q2t))) = _
  rw [List.take_of_length_le (by rw [List.length_map]; omega)]
  rfl
theorem at_test {rows : List (List Rat)} {k : Nat} {r : List Rat} {a : Rat} (h : rows[k]? = some (a :: r)) : atT [some (.sh (.int (k : Nat))), some (.sh (tabT rows))] = some (!decide (a = 0), [some (.sh (.int (k : Nat))), some (.sh (tabT rows))]) := by
  have e1 : gIx (tabT rows) (.int (k : Nat)) = some (rowT (a :: r)) := ix_at (L := rows.map rowT) (by rw [List.getElem?_map, h]; rfl)
  have e2 : gIx (rowT (a :: r)) (.int 0) = some (q2t a) := ix_at (L := (a :: r).map q2t) (p := 0) rfl
  have e3 : fTup (fCons (fC (.int 0)) (fCons (fC (.int 1)) fNil)) [some (.sh (.int (k : Nat))), some (.sh (tabT rows))] = some (.tup [.int 0, .int 1], [some (.sh (.int (k : Nat))), some (.sh (tabT rows))]) := by
    have l2 := le2
    walk_at "ev"
  refine tb_q (op_q (op_q (op_q rfl rfl e1) rfl e2) e3 ?_)
  by_cases h0 : a = 0
  · subst h0; rw [decide_eq_true rfl]; exact ne_q0
  · rw [decide_eq_false h0]; exact ne_q h0
theorem at_comp {rows : List (List Rat)} (hr : ∀ r ∈ rows, r ≠ []) : ∀ (js : List Nat) (u : Option Sl) (acc : List O), (∀ j ∈ js, j < rows.length) → acc.length + js.length ≤ 900 →
    compTo (gnName 0) atT (fVal (fVar 0)) (js.map fun (i : Nat) => T.int i) [u, some (.sh (tabT rows))] acc = some (acc ++ (js.filter fun k => !decide ((rows.getD k []).headD 0 = 0)).map fun (k : Nat) => O.val (.int (k : Nat)))
  | [], u, acc, _, _ => by rw [List.map_nil, compTo, List.filter_nil, List.map_nil, List.append_nil]
  | j :: js, u, acc, hj, hl => by
    rw [List.length_cons] at hl
    have hjl := hj j List.mem_cons_self
    have hget : rows[j]? = some rows[j] := List.getElem?_eq_getElem hjl
    have hne := hr _ (List.getElem_mem hjl)
    obtain ⟨a, r, ear⟩ : ∃ a r, rows[j] = a :: r := by
      cases e : rows[j] with
      | nil => exact absurd e hne
      | cons a r => exact ⟨a, r, rfl⟩
    rw [ear] at hget
    have hd : (rows.getD j []).headD 0 = a := by rw [List.getD_eq_getElem?_getD, hget]; rfl
    have ih := fun u acc h => at_comp hr js u acc (fun x hx => hj x (List.mem_cons_of_mem _ hx)) h
    rw [List.map_cons, compTo, show gnName 0 (.int (j : Nat)) [u, some (.sh (tabT rows))] = some [some (.sh (.int (j : Nat))), some (.sh (tabT rows))] from rfl, Option.bind_some, at_test hget, Option.bind_some, List.filter_cons, hd]
    by_cases h0 : a = 0
    · rw [decide_eq_true h0]
      show compTo (gnName 0) atT (fVal (fVar 0)) (js.map fun (i : Nat) => T.int i) [some (.sh (.int (j : Nat))), some (.sh (tabT rows))] acc = _
      rw [ih _ _ (by omega)]
      rfl
    · rw [decide_eq_false h0]
      show ((fVal (fVar 0) [some (.sh (.int (j : Nat))), some (.sh (tabT rows))]).bind fun q => if allSh q.2 = true ∧ acc.length < sizeLine then compTo (gnName 0) atT (fVal (fVar 0)) (js.map fun (i : Nat) => T.int i) q.2 (acc ++ [q.1]) else none) = _
      rw [show fVal (fVar 0) [some (.sh (.int (j : Nat))), some (.sh (tabT rows))] = some (.val (.int (j : Nat)), [some (.sh (.int (j : Nat))), some (.sh (tabT rows))]) from rfl, Option.bind_some]
      refine (if_pos ⟨rfl, small1000 (by omega)⟩).trans ?_
      rw [ih _ _ (by rw [List.length_append]; simp only [List.length_cons, List.length_nil]; omega), List.append_assoc]
      rfl
noncomputable def atL (rows : List (List Rat)) : List Nat := (List.range rows.length).filter fun k => !decide ((rows.getD k []).headD 0 = 0)
theorem at_eq {rows : List (List Rat)} (hr : ∀ r ∈ rows, r ≠ []) (hl : rows.length ≤ 8) {τ : TEnv} (h : τ[2]? = some (some (.own (rows.map rowT)))) (h4 : 4 < τ.length) : fSetV 2 4 atC τ = some (.nx (τ.set 4 (some (.own ((atL rows).map fun (k : Nat) => T.int (k : Nat)))))) := by
  unfold fSetV
  rw [h]
  dsimp only
  have hlen : 2 < (hide τ).length := by rw [hide_length]; omega
  have g2 : ((hide τ).set 2 (some (.sh (.lst (rows.map rowT)))))[2]? = some (some (.sh (tabT rows))) := List.getElem?_set_self hlen
  generalize (hide τ).set 2 (some (.sh (.lst (rows.map rowT)))) = ρ at *
  have ev : fView 2 (fCall dLen (fCons (fVar 2) fNil)) ρ = some (.int (rows.length : Nat), ρ) := by
    rw [view_sh g2]
    exact call_q [tabT rows] (arg1 (var_sh g2)) (by show some (T.int ((rows.map rowT).length : Nat)) = _; rw [List.length_map])
  have ei := rng1_eq ev (by omega)
  have ec := at_comp hr (List.range rows.length) none [] (fun j hj => List.mem_range.mp hj) (by rw [List.length_nil, List.length_range]; omega)
  have hb : blkOf 1 [2] ρ = [none, some (.sh (tabT rows))] := by
    unfold blkOf
    show [none] ++ [capOf ρ 2] = _
    unfold capOf
    rw [g2]
    rfl
  have e := fCompO_eq (no := 1) (cap := [2]) (fg := gnName 0) (ft := atT) (fe := fVal (fVar 0)) ei (by
    show frzAll [] (frz1 2 ρ) = ρ
    unfold frz1
    rw [g2]
    rfl) (by rw [hb]; rfl) (by rw [hb]; exact ec)
  unfold atC
  rw [e, Option.bind_some, List.nil_append]
  dsimp only
  have ee : (((List.range rows.length).filter fun k => !decide ((rows.getD k []).headD 0 = 0)).map fun (k : Nat) => O.val (.int (k : Nat))) = ((atL rows).map fun (k : Nat) => ((k : Nat) : Int)).map fun k => O.val (.int k) := by
    unfold atL
    rw [List.map_map]
    rfl
  rw [ee, intsO_map, Option.bind_some, List.map_map]
  rfl
noncomputable def clr (a : Rat) (r0 row : List Rat) : List Rat := (List.zipWith (fun h t => h + -(row.headD 0 * Rat.divInt a.den a.num) * t) row (a :: r0)).tail
structure MiOk (a : Rat) (r0 row : List Rat) : Prop where
  len : row.length = r0.length + 1
  l8 : r0.length ≤ 7
  sb : Sm (row.headD 0)
  sby : Sm (row.headD 0 * Rat.divInt a.den a.num)
  sh : ∀ h ∈ row, Sm h
  st : ∀ t ∈ a :: r0, Sm t ∧ Sm (-(row.headD 0 * Rat.divInt a.den a.num) * t)
noncomputable def miBy : FE := fCall mTi (fCons (fOp gIx (fVar 7) (fC (.int 0))) (fCons (fCall mFrac (fCons (fOp gIx (fOp gIx (fVar 5) (fC (.int 0))) (fC (.int 1))) (fCons (fOp gIx (fOp gIx (fVar 5) (fC (.int 0))) (fC (.int 0))) fNil))) fNil))
noncomputable def miFe : FE := fCall mPl (fCons (fVar 0) (fCons (fCall mTi (fCons (fTup (fCons (fOp gSub (fC (.int 0)) (fOp gIx (fVar 2) (fC (.int 0)))) (fCons (fOp gIx (fVar 2) (fC (.int 1))) fNil))) (fCons (fVar 1) fNil))) fNil))
noncomputable def miComp : FE := fComp 2 [8] (fiZip (fCons (fVar 7) (fCons (fVar 5) fNil))) gTwo fAlways miFe
noncomputable def miIn : FS := fSeq (fSet 8 miBy) (fApp 6 (fSl miComp (fPart (fC (.int 1))) fNoPart))
theorem neg_q (q : Rat) : (T.tup [.int (0 - q.num), .int (q.den : Int)]) = q2t (-q) := by
  rw [Int.zero_sub]
  rfl
theorem mi_fe {h t b : Rat} (sh : Sm h) (st : Sm t) (sb : Sm (-b)) (sp : Sm (-b * t)) : miFe [some (.sh (q2t h)), some (.sh (q2t t)), some (.sh (q2t b))] = some (q2t (h + -b * t), [some (.sh (q2t h)), some (.sh (q2t t)), some (.sh (q2t b))]) := by
  have k1 := mTi_q sb st
  have k2 := mPl_q sh sp
  have l2 := le2
  have e0 : gIx (q2t b) (.int 0) = some (.int b.num) := rfl
  have e1 : gIx (q2t b) (.int 1) = some (.int (b.den : Int)) := rfl
  have e2 : fTup (fCons (fOp gSub (fC (.int 0)) (fOp gIx (fVar 2) (fC (.int 0)))) (fCons (fOp gIx (fVar 2) (fC (.int 1))) fNil)) [some (.sh (q2t h)), some (.sh (q2t t)), some (.sh (q2t b))] = some (q2t (-b), [some (.sh (q2t h)), some (.sh (q2t t)), some (.sh (q2t b))]) := by
    rw [← neg_q]
    have e3 := arg2 (f := fOp gSub (fC (.int 0)) (fOp gIx (fVar 2) (fC (.int 0)))) (g := fOp gIx (fVar 2) (fC (.int 1))) (τ := [some (.sh (q2t h)), some (.sh (q2t t)), some (.sh (q2t b))]) (op_q rfl (op_q rfl rfl e0) (sub_q (a := 0) (b := b.num))) (op_q rfl rfl e1)
    unfold fTup
    rw [e3, Option.bind_some]
    exact if_pos l2
  exact call_q (g := mPl) [q2t h, q2t (-b * t)] (arg2 rfl (call_q (g := mTi) [q2t (-b), q2t t] (arg2 e2 rfl) k1)) k2
theorem Sm.neg {q : Rat} (h : Sm q) : Sm (-q) := ⟨by show (-q.num).natAbs < C; rw [Int.natAbs_neg]; exact h.n, h.d⟩
theorem mi_in {a : Rat} {r0 row : List Rat} (ha : a ≠ 0) (sa : Sm a) (si : Sm (Rat.divInt a.den a.num)) (M : MiOk a r0 row) {ls : List T} (hl : ls.length ≤ 8) (o0 o1 o2 o3 o4 o8 : Option Sl) :
    miIn [o0, o1, o2, o3, o4, some (.sh (rowT (a :: r0))), some (.own ls), some (.sh (rowT row)), o8] = some (.nx [o0, o1, o2, o3, o4, some (.sh (rowT (a :: r0))), some (.own (ls ++ [rowT (clr a r0 row)])), some (.sh (rowT row)), some (.sh (q2t (row.headD 0 * Rat.divInt a.den a.num)))]) := by
  have hn : a.num ≠ 0 := fun z => ha (Rat.num_eq_zero.mp z)
  obtain ⟨b, r, er⟩ : ∃ b r, row = b :: r := by
    cases e : row with
    | nil => rw [e] at M; have := M.len; simp at this
    | cons b r => exact ⟨b, r, rfl⟩
  have hb : row.headD 0 = b := by rw [er]; rfl
  have i1 : gIx (rowT row) (.int 0) = some (q2t b) := by rw [er]; exact ix_at (L := (b :: r).map q2t) (p := 0) rfl
  have i2 : gIx (rowT (a :: r0)) (.int 0) = some (q2t a) := ix_at (L := (a :: r0).map q2t) (p := 0) rfl
  have i3 : gIx (q2t a) (.int 1) = some (.int (a.den : Int)) := rfl
  have i4 : gIx (q2t a) (.int 0) = some (.int a.num) := rfl
  have kf : mFrac [.int (a.den : Int), .int a.num] = some (q2t (Rat.divInt a.den a.num)) := by
    rw [← frT_any hn]
    exact mFrac_eq (by rw [Int.natAbs_natCast]; exact Nat.lt_trans sa.d CB) (Nat.lt_trans sa.n CB) hn
  have sb : Sm b := hb ▸ M.sb
  have kt := mTi_q sb si
  have e1 : fSet 8 miBy [o0, o1, o2, o3, o4, some (.sh (rowT (a :: r0))), some (.own ls), some (.sh (rowT row)), o8] = some (.nx [o0, o1, o2, o3, o4, some (.sh (rowT (a :: r0))), some (.own ls), some (.sh (rowT row)), some (.sh (q2t (b * Rat.divInt a.den a.num)))]) :=
    set_q (call_q (g := mTi) [q2t b, q2t (Rat.divInt a.den a.num)] (arg2 (op_q rfl rfl i1) (call_q (g := mFrac) [.int (a.den : Int), .int a.num] (arg2 (op_q (op_q rfl rfl i2) rfl i3) (op_q (op_q rfl rfl i2) rfl i4)) kf)) kt) rfl
  have hst := M.st
  have hsh := M.sh
  have hsby := M.sby
  rw [hb] at hst hsby
  have hc := comp_two (φ := fun p : Rat × Rat => q2t p.1) (ψ := fun p : Rat × Rat => q2t p.2) (fe := miFe) (g := fun p => q2t (p.1 + -(b * Rat.divInt a.den a.num) * p.2)) (ρ := [some (.sh (q2t (b * Rat.divInt a.den a.num)))]) rfl (List.zip row (a :: r0)) none none [] (fun p hp => by
    obtain ⟨m1, m2⟩ := zip_mem hp
    exact mi_fe (hsh _ m1) (hst _ m2).1 hsby.neg (hst _ m2).2) (small8t (zip_len _ _ (by have := M.len; have := M.l8; omega)))
  have ez : fiZip (fCons (fVar 7) (fCons (fVar 5) fNil)) [o0, o1, o2, o3, o4, some (.sh (rowT (a :: r0))), some (.own ls), some (.sh (rowT row)), some (.sh (q2t (b * Rat.divInt a.den a.num)))] = some ((List.zip row (a :: r0)).map fun p => T.tup [q2t p.1, q2t p.2], [o0, o1, o2, o3, o4, some (.sh (rowT (a :: r0))), some (.own ls), some (.sh (rowT row)), some (.sh (q2t (b * Rat.divInt a.den a.num)))]) := by
    rw [← zipT_map]
    rfl
  have e2 := fComp_eq (no := 2) (cap := [8]) (fg := gTwo) (ft := fAlways) (fe := miFe) ez rfl rfl hc
  have e3 : T.lst ([] ++ (List.zip row (a :: r0)).map fun p => q2t (p.1 + -(b * Rat.divInt a.den a.num) * p.2)) = rowT (List.zipWith (fun h t => h + -(b * Rat.divInt a.den a.num) * t) row (a :: r0)) := by
    rw [List.nil_append, ← zip_map_zipWith]
    unfold rowT
    rw [List.map_map]
    rfl
  rw [e3] at e2
  have e4 : gSl (rowT (List.zipWith (fun h t => h + -(b * Rat.divInt a.den a.num) * t) row (a :: r0))) (some 1) none = some (rowT (clr a r0 row)) := by
    unfold clr
    rw [hb, er, List.zipWith_cons_cons, List.tail_cons]
    exact cut1 _ _
  have e5 := app_q (i := 6) (ts := ls) (f := fSl miComp (fPart (fC (.int 1))) fNoPart) (τ := [o0, o1, o2, o3, o4, some (.sh (rowT (a :: r0))), some (.own ls), some (.sh (rowT row)), some (.sh (q2t (b * Rat.divInt a.den a.num)))]) (t := rowT (clr a r0 row)) rfl (sl_q (f := miComp) (fl := fPart (fC (.int 1))) (fh := fNoPart) (lo := some 1) (hi := none) e2 rfl rfl e4) (small1000 (by omega))
  unfold miIn
  rw [seq_q e1, e5, hb]
  rfl
theorem mi_for {a : Rat} {r0 : List Rat} (ha : a ≠ 0) (sa : Sm a) (si : Sm (Rat.divInt a.den a.num)) (o0 o1 o2 o3 o4 : Option Sl) : ∀ (rows : List (List Rat)) (ls : List T) (o7 o8 : Option Sl), (∀ row ∈ rows, MiOk a r0 row) → ls.length + rows.length ≤ 8 →
    ∃ o7' o8', loopT (gnName 7) miIn (rows.map rowT) [o0, o1, o2, o3, o4, some (.sh (rowT (a :: r0))), some (.own ls), o7, o8] = some (.nx [o0, o1, o2, o3, o4, some (.sh (rowT (a :: r0))), some (.own (ls ++ (rows.map (clr a r0)).map rowT)), o7', o8'])
  | [], ls, o7, o8, _, _ => ⟨o7, o8, by rw [List.map_nil, List.map_nil, List.map_nil, List.append_nil]; rfl⟩
  | row :: rows, ls, o7, o8, h, hl => by
    rw [List.length_cons] at hl
    have ht := mi_in ha sa si (h row List.mem_cons_self) (ls := ls) (by omega) o0 o1 o2 o3 o4 o8
    obtain ⟨p7, p8, ih⟩ := mi_for ha sa si o0 o1 o2 o3 o4 rows (ls ++ [rowT (clr a r0 row)]) (some (.sh (rowT row))) (some (.sh (q2t (row.headD 0 * Rat.divInt a.den a.num)))) (fun r hr => h r (List.mem_cons_of_mem _ hr)) (by rw [List.length_append]; simp only [List.length_cons, List.length_nil]; omega)
    refine ⟨p7, p8, ?_⟩
    rw [List.map_cons, loop_step (τ1 := [o0, o1, o2, o3, o4, some (.sh (rowT (a :: r0))), some (.own ls), some (.sh (rowT row)), o8]) rfl ht, ih, List.append_assoc]
    rfl
end My

namespace My
open PySem PySem.Spec PyProof.Rows L2 TM Qm Rq
noncomputable def miFound : FE := fCall mTi (fCons (fVar 3) (fCons (fCall mTi (fCons (fOp gIx (fVar 5) (fC (.int 0))) (fCons (fTup (fCons (fOp gSub (fC (.int 1)) (fOp gMulI (fC (.int 2)) (fOp gMod (fOp gIx (fVar 4) (fC (.int 0))) (fC (.int 2))))) (fCons (fC (.int 1)) fNil))) fNil))) fNil))
noncomputable def miGo : FS := fSeq (fSet 5 (fPopAt 2 (fOp gIx (fVar 4) (fC (.int 0))))) (fSeq (fSet 3 miFound) (fSeq (fSetOwn 6 fNil) (fSeq (fFor (fiSeq (fVar 2)) (gnName 7) miIn) (fSetO 2 (fTake 6)))))
noncomputable def miNo : FS := fIfS (fTB (fOp gEq (fVar 4) (fLst fNil))) (fRet (fTup (fCons (fC (.int 0)) (fCons (fC (.int 1)) fNil)))) fNext
noncomputable def miBody : FS := fSeq (fSetV 2 4 atC) (fSeq miNo miGo)
noncomputable def miTest : FT := fViewT 2 (fTB (fOp gNe (fVar 2) (fLst fNil)))
theorem atL_go {a : Rat} {r0 : List Rat} {rest : List (List Rat)} (ha : a ≠ 0) : ∃ L, atL ((a :: r0) :: rest) = 0 :: L := by
  unfold atL
  rw [List.length_cons, List.range_succ_eq_map, List.filter_cons]
  have : (!decide (((((a :: r0) :: rest).getD 0 []).headD 0) = 0)) = true := by
    show (!decide (a = 0)) = true
    rw [decide_eq_false ha]
    rfl
  rw [if_pos this]
  exact ⟨_, rfl⟩
theorem mod_q {N d : Int} (hd : ¬ d = 0) (bd : d.natAbs < B) : gMod (.int N) (.int d) = some (.int (N.fmod d)) := if_pos hd
theorem atL_no : atL [[0]] = [] := by decide
theorem cmp_nil {neg : Bool} {x : T} {xs : List T} {n : Nat} (h : shp n (.lst (x :: xs))) (hn : n ≤ 60) : gEqW neg (.lst (x :: xs)) (.lst []) = some (.bl neg) := by
  obtain ⟨d, h1, h2, h3⟩ := h
  have hs : SeqAt.shaped d = true := by
    unfold SeqAt.shaped
    rw [h2, Bool.true_and]
    exact decide_eq_true (by omega)
  have hd : PyData.eqv d (.list []) = false := by
    rw [toP] at h1
    obtain ⟨ds, e1, e2⟩ := Option.map_eq_some_iff.mp h1
    cases e2
    rw [toPs] at e1
    obtain ⟨d0, k1, e1⟩ := bind_some e1
    obtain ⟨d1, k2, e1⟩ := bind_some e1
    cases e1
    simp [PyData.eqv, PyData.eqvAll]
  have e0 : toP (.lst []) = some (.list []) := rfl
  have s0 : SeqAt.shaped (.list []) = true := by decide +kernel
  unfold gEqW
  rw [h1, e0, Option.bind_some, Option.bind_some, if_pos ⟨hs, s0⟩, hd]
  cases neg <;> rfl
theorem shp_nats (l : List Nat) : shp 1 (.lst (l.map fun (k : Nat) => T.int (k : Nat))) := shp_lst (n := 0) fun x hx => by
  obtain ⟨k, _, rfl⟩ := List.mem_map.mp hx
  exact ⟨.int k, rfl, rfl, Nat.le_refl _⟩
theorem mi_go {a f : Rat} {r0 : List Rat} {rest : List (List Rat)} (ha : a ≠ 0) (sf : Sm f) (sa : Sm a) (si : Sm (Rat.divInt a.den a.num)) (hl : rest.length ≤ 7) (hr : ∀ row ∈ rest, MiOk a r0 row) (o0 o1 o4 o5 o6 o7 o8 : Option Sl) :
    ∃ p4 p5 p7 p8, miBody [o0, o1, some (.own ((((a :: r0) :: rest)).map rowT)), some (.sh (q2t f)), o4, o5, o6, o7, o8] = some (.nx [o0, o1, some (.own ((rest.map (clr a r0)).map rowT)), some (.sh (q2t (f * a))), p4, p5, none, p7, p8]) := by
  obtain ⟨L, hL⟩ := atL_go (a := a) (r0 := r0) (rest := rest) ha
  have e1 := at_eq (rows := (a :: r0) :: rest) (fun r h => by
    rcases List.mem_cons.mp h with rfl | h
    · exact List.cons_ne_nil _ _
    · have := (hr r h).len
      intro z
      rw [z] at this
      simp at this) (by rw [List.length_cons]; omega) (τ := [o0, o1, some (.own ((((a :: r0) :: rest)).map rowT)), some (.sh (q2t f)), o4, o5, o6, o7, o8]) rfl (by show 4 < 9; decide)
  rw [hL] at e1
  have e2 : miNo [o0, o1, some (.own ((((a :: r0) :: rest)).map rowT)), some (.sh (q2t f)), some (.own ((0 :: L).map fun (k : Nat) => T.int (k : Nat))), o5, o6, o7, o8] = some (.nx [o0, o1, some (.own ((((a :: r0) :: rest)).map rowT)), some (.sh (q2t f)), some (.sh (.lst ((0 :: L).map fun (k : Nat) => T.int (k : Nat)))), o5, o6, o7, o8]) := by
    have c : gEq (.lst ((0 :: L).map fun (k : Nat) => T.int (k : Nat))) (.lst []) = some (.bl false) := cmp_nil (neg := false) (shp_nats (0 :: L)) (by decide)
    refine if_go (τ' := [o0, o1, some (.own ((((a :: r0) :: rest)).map rowT)), some (.sh (q2t f)), some (.sh (.lst ((0 :: L).map fun (k : Nat) => T.int (k : Nat)))), o5, o6, o7, o8]) ?_
    show (((gEq (.lst ((0 :: L).map fun (k : Nat) => T.int (k : Nat))) (.lst [])).bind fun t => some (t, _)).bind _) = _
    rw [c]
    rfl
  have i0 : gIx (.lst ((0 :: L).map fun (k : Nat) => T.int (k : Nat))) (.int 0) = some (.int 0) := ix_at (L := (0 :: L).map fun (k : Nat) => T.int (k : Nat)) (p := 0) rfl
  have e3 : fPopAt 2 (fOp gIx (fVar 4) (fC (.int 0))) [o0, o1, some (.own ((((a :: r0) :: rest)).map rowT)), some (.sh (q2t f)), some (.sh (.lst ((0 :: L).map fun (k : Nat) => T.int (k : Nat)))), o5, o6, o7, o8] = some (rowT (a :: r0), [o0, o1, some (.own (rest.map rowT)), some (.sh (q2t f)), some (.sh (.lst ((0 :: L).map fun (k : Nat) => T.int (k : Nat)))), o5, o6, o7, o8]) := by
    have ei := op_q (g := gIx) (fa := fVar 4) (fb := fC (.int 0)) (τ := [o0, o1, some (.own ((((a :: r0) :: rest)).map rowT)), some (.sh (q2t f)), some (.sh (.lst ((0 :: L).map fun (k : Nat) => T.int (k : Nat)))), o5, o6, o7, o8]) rfl rfl i0
    show ((fOp gIx (fVar 4) (fC (.int 0)) [o0, o1, some (.own ((((a :: r0) :: rest)).map rowT)), some (.sh (q2t f)), some (.sh (.lst ((0 :: L).map fun (k : Nat) => T.int (k : Nat)))), o5, o6, o7, o8]).bind _) = _
    rw [ei, Option.bind_some]
    show (if (0 : Int) ≤ 0 ∧ (0 : Int) < ((((a :: r0) :: rest).map rowT).length : Nat) ∧ (((a :: r0) :: rest).map rowT).length ≤ 1000 then _ else none) = _
    rw [if_pos (by rw [List.length_map, List.length_cons]; omega)]
    rfl
  have e3' : fSet 5 (fPopAt 2 (fOp gIx (fVar 4) (fC (.int 0)))) [o0, o1, some (.own ((((a :: r0) :: rest)).map rowT)), some (.sh (q2t f)), some (.sh (.lst ((0 :: L).map fun (k : Nat) => T.int (k : Nat)))), o5, o6, o7, o8] = some (.nx [o0, o1, some (.own (rest.map rowT)), some (.sh (q2t f)), some (.sh (.lst ((0 :: L).map fun (k : Nat) => T.int (k : Nat)))), some (.sh (rowT (a :: r0))), o6, o7, o8]) := set_q e3 rfl
  have s1 : Sm (1 : Rat) := ⟨by decide +kernel, by decide +kernel⟩
  have sa1 : Sm (a * 1) := by rw [Rat.mul_one]; exact sa
  have i1 : gIx (rowT (a :: r0)) (.int 0) = some (q2t a) := ix_at (L := (a :: r0).map q2t) (p := 0) rfl
  have e4 : miFound [o0, o1, some (.own (rest.map rowT)), some (.sh (q2t f)), some (.sh (.lst ((0 :: L).map fun (k : Nat) => T.int (k : Nat)))), some (.sh (rowT (a :: r0))), o6, o7, o8] = some (q2t (f * (a * 1)), [o0, o1, some (.own (rest.map rowT)), some (.sh (q2t f)), some (.sh (.lst ((0 :: L).map fun (k : Nat) => T.int (k : Nat)))), some (.sh (rowT (a :: r0))), o6, o7, o8]) := by
    have hm : gMod (.int 0) (.int 2) = some (.int 0) := mod_q (N := 0) (d := 2) (by decide) (by decide +kernel)
    have hmul : gMulI (.int 2) (.int 0) = some (.int 0) := mul_q (a := 2) (b := 0) (by decide +kernel) (by decide +kernel)
    have c1 := op_q (g := gSub) (fa := fC (.int 1)) (τ := [o0, o1, some (.own (rest.map rowT)), some (.sh (q2t f)), some (.sh (.lst ((0 :: L).map fun (k : Nat) => T.int (k : Nat)))), some (.sh (rowT (a :: r0))), o6, o7, o8]) rfl (op_q (g := gMulI) (fa := fC (.int 2)) rfl (op_q (g := gMod) (fb := fC (.int 2)) (op_q (g := gIx) (fa := fVar 4) (fb := fC (.int 0)) rfl rfl i0) rfl hm) hmul) (sub_q (a := 1) (b := 0))
    have c2 : fTup (fCons (fOp gSub (fC (.int 1)) (fOp gMulI (fC (.int 2)) (fOp gMod (fOp gIx (fVar 4) (fC (.int 0))) (fC (.int 2))))) (fCons (fC (.int 1)) fNil)) [o0, o1, some (.own (rest.map rowT)), some (.sh (q2t f)), some (.sh (.lst ((0 :: L).map fun (k : Nat) => T.int (k : Nat)))), some (.sh (rowT (a :: r0))), o6, o7, o8] = some (q2t 1, [o0, o1, some (.own (rest.map rowT)), some (.sh (q2t f)), some (.sh (.lst ((0 :: L).map fun (k : Nat) => T.int (k : Nat)))), some (.sh (rowT (a :: r0))), o6, o7, o8]) := by
      unfold fTup
      rw [arg2 (g := fC (.int 1)) c1 rfl, Option.bind_some]
      exact if_pos le2
    exact call_q (g := mTi) [q2t f, q2t (a * 1)] (arg2 rfl (call_q (g := mTi) [q2t a, q2t 1] (arg2 (op_q rfl rfl i1) c2) (mTi_q sa s1))) (mTi_q sf sa1)
  rw [Rat.mul_one] at e4
  have e4' : fSet 3 miFound [o0, o1, some (.own (rest.map rowT)), some (.sh (q2t f)), some (.sh (.lst ((0 :: L).map fun (k : Nat) => T.int (k : Nat)))), some (.sh (rowT (a :: r0))), o6, o7, o8] = some (.nx [o0, o1, some (.own (rest.map rowT)), some (.sh (q2t (f * a))), some (.sh (.lst ((0 :: L).map fun (k : Nat) => T.int (k : Nat)))), some (.sh (rowT (a :: r0))), o6, o7, o8]) := set_q e4 rfl
  have e5 : fSetOwn 6 fNil [o0, o1, some (.own (rest.map rowT)), some (.sh (q2t (f * a))), some (.sh (.lst ((0 :: L).map fun (k : Nat) => T.int (k : Nat)))), some (.sh (rowT (a :: r0))), o6, o7, o8] = some (.nx [o0, o1, some (.own (rest.map rowT)), some (.sh (q2t (f * a))), some (.sh (.lst ((0 :: L).map fun (k : Nat) => T.int (k : Nat)))), some (.sh (rowT (a :: r0))), some (.own []), o7, o8]) := rfl
  obtain ⟨p7, p8, hf⟩ := mi_for ha sa si o0 o1 (some (.sh (.lst (rest.map rowT)))) (some (.sh (q2t (f * a)))) (some (.sh (.lst ((0 :: L).map fun (k : Nat) => T.int (k : Nat))))) rest [] o7 o8 hr (by rw [List.length_nil]; omega)
  have e6 : fFor (fiSeq (fVar 2)) (gnName 7) miIn [o0, o1, some (.own (rest.map rowT)), some (.sh (q2t (f * a))), some (.sh (.lst ((0 :: L).map fun (k : Nat) => T.int (k : Nat)))), some (.sh (rowT (a :: r0))), some (.own []), o7, o8] = some (.nx [o0, o1, some (.sh (.lst (rest.map rowT))), some (.sh (q2t (f * a))), some (.sh (.lst ((0 :: L).map fun (k : Nat) => T.int (k : Nat)))), some (.sh (rowT (a :: r0))), some (.own ((rest.map (clr a r0)).map rowT)), p7, p8]) := by
    show loopT (gnName 7) miIn (rest.map rowT) [o0, o1, some (.sh (.lst (rest.map rowT))), some (.sh (q2t (f * a))), some (.sh (.lst ((0 :: L).map fun (k : Nat) => T.int (k : Nat)))), some (.sh (rowT (a :: r0))), some (.own []), o7, o8] = _
    rw [hf, List.nil_append]
  refine ⟨some (.sh (.lst ((0 :: L).map fun (k : Nat) => T.int (k : Nat)))), some (.sh (rowT (a :: r0))), p7, p8, ?_⟩
  unfold miBody
  rw [seq_q e1]
  have e1' : (([o0, o1, some (.own ((((a :: r0) :: rest)).map rowT)), some (.sh (q2t f)), o4, o5, o6, o7, o8] : TEnv).set 4 (some (.own ((0 :: L).map fun (k : Nat) => T.int (k : Nat))))) = [o0, o1, some (.own ((((a :: r0) :: rest)).map rowT)), some (.sh (q2t f)), some (.own ((0 :: L).map fun (k : Nat) => T.int (k : Nat))), o5, o6, o7, o8] := rfl
  rw [e1', seq_q e2]
  unfold miGo
  rw [seq_q e3', seq_q e4', seq_q e5, seq_q e6]
  show (some (R.nx [o0, o1, some (.own (O.trs ((((rest.map (clr a r0)).map rowT)).map O.val))), some (.sh (q2t (f * a))), some (.sh (.lst ((0 :: L).map fun (k : Nat) => T.int (k : Nat)))), some (.sh (rowT (a :: r0))), none, p7, p8])) = _
  rw [TM.trs_vals]
theorem mi_zero {f : Rat} (o0 o1 o4 o5 o6 o7 o8 : Option Sl) : miBody [o0, o1, some (.own ([[(0 : Rat)]].map rowT)), some (.sh (q2t f)), o4, o5, o6, o7, o8] = some (.rt (q2t 0)) := by
  have e1 := at_eq (rows := [[(0 : Rat)]]) (fun r h => by rw [List.mem_singleton.mp h]; exact List.cons_ne_nil _ _) (by decide) (τ := [o0, o1, some (.own ([[(0 : Rat)]].map rowT)), some (.sh (q2t f)), o4, o5, o6, o7, o8]) rfl (by show 4 < 9; decide)
  rw [atL_no] at e1
  unfold miBody
  rw [seq_q e1]
  have l2 := le2
  have e3 : fTup (fCons (fC (.int 0)) (fCons (fC (.int 1)) fNil)) [o0, o1, some (.own ([[(0 : Rat)]].map rowT)), some (.sh (q2t f)), some (.sh (.lst [])), o5, o6, o7, o8] = some (q2t 0, [o0, o1, some (.own ([[(0 : Rat)]].map rowT)), some (.sh (q2t f)), some (.sh (.lst [])), o5, o6, o7, o8]) := by
    unfold fTup
    rw [arg2 (f := fC (.int 0)) (g := fC (.int 1)) rfl rfl, Option.bind_some]
    exact if_pos l2
  have e2 : miNo [o0, o1, some (.own ([[(0 : Rat)]].map rowT)), some (.sh (q2t f)), some (.own []), o5, o6, o7, o8] = some (.rt (q2t 0)) := by
    show fRet (fTup (fCons (fC (.int 0)) (fCons (fC (.int 1)) fNil))) [o0, o1, some (.own ([[(0 : Rat)]].map rowT)), some (.sh (q2t f)), some (.sh (.lst [])), o5, o6, o7, o8] = _
    exact ret_q e3
  show fSeq miNo miGo [o0, o1, some (.own ([[(0 : Rat)]].map rowT)), some (.sh (q2t f)), some (.own []), o5, o6, o7, o8] = _
  unfold fSeq
  rw [e2]
  rfl
end My

namespace My
open PySem PySem.Spec PyProof.Rows L2 TM Qm Rq
noncomputable def eQ (R : List Dt.Row) (ps : List Nat) (row : List Rat) (c : Nat) : Rat := Rat.divInt (Dt.left R ps (Dt.rw (tops row)) c) (Dt.det R ps * (lowOf row : Nat))
noncomputable def eRow (m j : Nat) (R : List Dt.Row) (ps : List Nat) (row : List Rat) : List Rat := (List.range' j (m - j)).map (eQ R ps row)
theorem eRow_cons {m j : Nat} (h : j < m) (R : List Dt.Row) (ps : List Nat) (row : List Rat) : eRow m j R ps row = eQ R ps row j :: eRow m (j + 1) R ps row := by
  unfold eRow
  rw [show m - j = (m - (j + 1)) + 1 by omega, List.range'_succ, List.map_cons]
theorem eRow_len (m j : Nat) (R : List Dt.Row) (ps : List Nat) (row : List Rat) : (eRow m j R ps row).length = m - j := by unfold eRow; rw [List.length_map, List.length_range']
theorem zip_maps {α : Type} (f : Rat → Rat → Rat) (g h : α → Rat) : ∀ l : List α, List.zipWith f (l.map g) (l.map h) = l.map fun c => f (g c) (h c)
  | [] => rfl
  | c :: l => by rw [List.map_cons, List.map_cons, List.zipWith_cons_cons, zip_maps f g h l, List.map_cons]
theorem field_step {d L0j Lj Lc L0c L' l0 l : Rat} (h : d * L' = L0j * Lc - Lj * L0c) (hd : d ≠ 0) (h0 : L0j ≠ 0) (hl0 : l0 ≠ 0) (hl : l ≠ 0) :
    Lc / (d * l) + -((Lj / (d * l)) * (L0j / (d * l0))⁻¹) * (L0c / (d * l0)) = L' / (L0j * l) := by
  have e : L' = (L0j * Lc - Lj * L0c) / d := by grind
  rw [e]
  grind
theorem cast_ne {z : Int} (h : z ≠ 0) : (z : Rat) ≠ 0 := fun e => h (by exact_mod_cast e)
theorem low_ne {D N : Nat} {row : List Rat} (h : Gn D N row) : ((lowOf row : Nat) : Rat) ≠ 0 := fun e => by
  have : lowOf row = 0 := by exact_mod_cast e
  have := (low_n h).2.1
  omega
theorem eQ_div (R : List Dt.Row) (ps : List Nat) (row : List Rat) (c : Nat) : eQ R ps row c = (Dt.left R ps (Dt.rw (tops row)) c : Rat) / ((Dt.det R ps : Rat) * ((lowOf row : Nat) : Rat)) := by
  unfold eQ
  rw [Rat.divInt_eq_div, Rat.intCast_mul, Rat.intCast_natCast]
theorem inv_q (a : Rat) : Rat.divInt a.den a.num = a⁻¹ := (Rat.inv_def a).symm
theorem eQ_step {D N : Nat} {R : List Dt.Row} {ps : List Nat} {row0 row : List Rat} {j : Nat} (hg0 : Gn D N row0) (hg : Gn D N row) (hd : Dt.det R ps ≠ 0) (h0 : Dt.left R ps (Dt.rw (tops row0)) j ≠ 0) (c : Nat) :
    eQ R ps row c + -(eQ R ps row j * Rat.divInt (eQ R ps row0 j).den (eQ R ps row0 j).num) * eQ R ps row0 c = eQ (Dt.rw (tops row0) :: R) (j :: ps) row c := by
  have hb := Dt.bareiss (R := R) (ps := ps) (k := Dt.rw (tops row0)) (p := j) h0 (Dt.rw (tops row)) c
  have hb' : (Dt.det R ps : Rat) * (Dt.left (Dt.rw (tops row0) :: R) (j :: ps) (Dt.rw (tops row)) c : Rat) = (Dt.left R ps (Dt.rw (tops row0)) j : Rat) * (Dt.left R ps (Dt.rw (tops row)) c : Rat) - (Dt.left R ps (Dt.rw (tops row)) j : Rat) * (Dt.left R ps (Dt.rw (tops row0)) c : Rat) := by exact_mod_cast hb
  rw [inv_q, eQ_div, eQ_div, eQ_div, eQ_div, eQ_div]
  exact field_step hb' (cast_ne hd) (cast_ne h0) (low_ne hg0) (low_ne hg)
theorem clr_step {D N m j : Nat} (hj : j < m) {R : List Dt.Row} {ps : List Nat} {row0 row : List Rat} (hg0 : Gn D N row0) (hg : Gn D N row) (hd : Dt.det R ps ≠ 0) (h0 : Dt.left R ps (Dt.rw (tops row0)) j ≠ 0) :
    clr (eQ R ps row0 j) (eRow m (j + 1) R ps row0) (eRow m j R ps row) = eRow m (j + 1) (Dt.rw (tops row0) :: R) (j :: ps) row := by
  unfold clr
  rw [eRow_cons hj R ps row, List.zipWith_cons_cons, List.tail_cons]
  unfold eRow
  rw [zip_maps]
  apply List.map_congr_left
  intro c _
  exact eQ_step hg0 hg hd h0 c
theorem sm_div {a b : Int} (hb : b ≠ 0) (ha : a.natAbs < C) (hb' : b.natAbs < C) : Sm (Rat.divInt a b) := ⟨Nat.lt_of_le_of_lt (divInt_num hb) ha, Nat.lt_of_le_of_lt (Nat.le_of_dvd (by omega) (divInt_den hb)) hb'⟩
end My

namespace My
open PySem PySem.Spec PyProof.Rows L2 TM Qm Rq
structure BdsC (n D N : Nat) : Prop extends BdsG n D N where
  hW : ((8 * (N * D) + 1) ^ 5 * D) * ((8 * (N * D) + 1) ^ 5 * D) < C
  hD4 : D ^ 4 < C
noncomputable def PivOk : List (List Rat) → Nat → List Dt.Row → List Nat → Prop
  | [], _, _, _ => True
  | [_], _, _, _ => True
  | row :: row' :: rows, j, R, ps => Dt.left R ps (Dt.rw (tops row)) j ≠ 0 ∧ PivOk (row' :: rows) (j + 1) (Dt.rw (tops row) :: R) (j :: ps)
noncomputable def minorV : List (List Rat) → Nat → List Dt.Row → List Nat → Nat → Rat
  | [], _, R, ps, lp => Rat.divInt (Dt.det R ps) lp
  | row :: rows, j, R, ps, lp => minorV rows (j + 1) (Dt.rw (tops row) :: R) (j :: ps) (lp * lowOf row)
theorem while_step {ft : FT} {fb : FS} {n : Nat} {τ τ' : TEnv} (h1 : ft τ = some (true, τ)) (h2 : fb τ = some (.nx τ')) : whileT ft fb (n + 1) τ = whileT ft fb n τ' := by
  rw [whileT, h1, Option.bind_some]
  dsimp only
  rw [if_pos rfl, h2]
  rfl
theorem while_ret {ft : FT} {fb : FS} {n : Nat} {τ : TEnv} {t : T} (h1 : ft τ = some (true, τ)) (h2 : fb τ = some (.rt t)) : whileT ft fb (n + 1) τ = some (.rt t) := by
  rw [whileT, h1, Option.bind_some]
  dsimp only
  rw [if_pos rfl, h2]
  rfl
theorem mi_test {rows : List (List Rat)} {τ : TEnv} (h : τ[2]? = some (some (.own (rows.map rowT)))) : miTest τ = some (!rows.isEmpty, τ) := by
  have hl : 2 < τ.length := (List.getElem?_eq_some_iff.mp h).1
  have g2 : ((hide τ).set 2 (some (.sh (.lst (rows.map rowT)))))[2]? = some (some (.sh (tabT rows))) := List.getElem?_set_self (by rw [hide_length]; exact hl)
  unfold miTest fViewT
  rw [h]
  dsimp only
  generalize (hide τ).set 2 (some (.sh (.lst (rows.map rowT)))) = ρ at *
  have c : gNe (tabT rows) (.lst []) = some (.bl (!rows.isEmpty)) := by
    cases rows with
    | nil => exact cmp_self (neg := true) (shp_tab []) (by decide)
    | cons r rows => exact cmp_nil (neg := true) (shp_tab (r :: rows)) (by decide)
  rw [tb_q (op_q (var_sh g2) (show fLst fNil ρ = some (.lst [], ρ) from rfl) c)]
  rfl
theorem pow_le5 {D j : Nat} (hp : 0 < D) (h : j ≤ 4) : D ^ j ≤ D ^ 4 := Nat.pow_le_pow_right hp h
theorem found_q {d v : Int} {lp low : Nat} (hd : d ≠ 0) : Rat.divInt d lp * Rat.divInt v (d * (low : Nat)) = Rat.divInt v ((lp * low : Nat) : Int) := by
  have h := cast_ne hd
  rw [Rat.divInt_eq_div, Rat.divInt_eq_div, Rat.divInt_eq_div, Rat.intCast_mul, Rat.intCast_natCast, Rat.intCast_natCast, Rat.intCast_natCast, Rat.natCast_mul]
  by_cases h1 : (lp : Rat) = 0
  · grind
  · by_cases h2 : (low : Rat) = 0
    · grind
    · grind
section
variable {n D N : Nat}
theorem BdsC.p5 (G : BdsC n D N) : (8 * (N * D) + 1) ^ 5 * D < C := by
  have h := G.hW
  have hp : 0 < (8 * (N * D) + 1) ^ 5 * D := Nat.mul_pos (Nat.pow_pos (by omega)) G.dp
  exact Nat.lt_of_le_of_lt (Nat.le_mul_of_pos_right _ hp) h
theorem BdsC.p5' (G : BdsC n D N) : (8 * (N * D) + 1) ^ 5 < C := Nat.lt_of_le_of_lt (Nat.le_mul_of_pos_right _ G.dp) G.p5
theorem eQ_sm (G : BdsC n D N) {R : List Dt.Row} {ps : List Nat} {row : List Rat} (hg : Gn D N row) (hR : ∀ y ∈ R, BdM (N * D) y) (hr : R.length ≤ 4) (hp : ps.length ≤ 7) (hd : Dt.det R ps ≠ 0) (c : Nat) : Sm (eQ R ps row c) := by
  have bl := leftM' (ps := ps) (tops_bd hg) hR hr hp c
  have bd := detM' (M := N * D) (R := R) (ps := ps) hR (by omega) hp
  obtain ⟨l1, l2, _⟩ := low_n hg
  have hlow : lowOf row ≤ D := Nat.le_of_dvd G.dp l1
  refine sm_div (Int.mul_ne_zero hd (by omega)) (Nat.lt_of_le_of_lt bl G.p5') ?_
  rw [Int.natAbs_mul, Int.natAbs_natCast]
  exact Nat.lt_of_le_of_lt (Nat.mul_le_mul bd hlow) G.p5
theorem mi_ok (G : BdsC n D N) {m j : Nat} (hj : j < m) (hm : m ≤ 4) {R : List Dt.Row} {ps : List Nat} {row0 row : List Rat} (hg0 : Gn D N row0) (hg : Gn D N row) (hR : ∀ y ∈ R, BdM (N * D) y) (hr : R.length ≤ 4) (hp : ps.length ≤ 7) (hd : Dt.det R ps ≠ 0) (h0 : Dt.left R ps (Dt.rw (tops row0)) j ≠ 0) :
    Sm (eQ R ps row0 j) ∧ Sm (Rat.divInt (eQ R ps row0 j).den (eQ R ps row0 j).num) ∧ eQ R ps row0 j ≠ 0 ∧ MiOk (eQ R ps row0 j) (eRow m (j + 1) R ps row0) (eRow m j R ps row) := by
  have sm := fun {row : List Rat} (hg : Gn D N row) (c : Nat) => eQ_sm G (ps := ps) hg hR hr hp hd c
  have hl0 := low_ne hg0
  have hl := low_ne hg
  have hdq := cast_ne hd
  have h0q := cast_ne h0
  have a0 : eQ R ps row0 j ≠ 0 := by
    rw [eQ_div]
    grind
  have inv : Rat.divInt (eQ R ps row0 j).den (eQ R ps row0 j).num * eQ R ps row0 j = 1 := by rw [inv_q]; grind
  have si : Sm (Rat.divInt (eQ R ps row0 j).den (eQ R ps row0 j).num) := sm_inv (by rw [Rat.mul_comm]; exact inv) (sm hg0 j)
  have hhead : (eRow m j R ps row).headD 0 = eQ R ps row j := by rw [eRow_cons hj]; rfl
  have bl := fun {row : List Rat} (hg : Gn D N row) (c : Nat) => leftM' (ps := ps) (tops_bd hg) hR hr hp c
  have bd := detM' (M := N * D) (R := R) (ps := ps) hR (by omega) hp
  have low0 : lowOf row0 ≤ D := Nat.le_of_dvd G.dp (low_n hg0).1
  have low1 : lowOf row ≤ D := Nat.le_of_dvd G.dp (low_n hg).1
  have by_q : eQ R ps row j * Rat.divInt (eQ R ps row0 j).den (eQ R ps row0 j).num = Rat.divInt (Dt.left R ps (Dt.rw (tops row)) j * (lowOf row0 : Nat)) (Dt.left R ps (Dt.rw (tops row0)) j * (lowOf row : Nat)) := by
    rw [inv_q, eQ_div, eQ_div, Rat.divInt_eq_div, Rat.intCast_mul, Rat.intCast_mul, Rat.intCast_natCast, Rat.intCast_natCast]
    grind
  have nz1 : Dt.left R ps (Dt.rw (tops row0)) j * ((lowOf row : Nat) : Int) ≠ 0 := Int.mul_ne_zero h0 (by have := (low_n hg).2.1; omega)
  have sby : Sm (eQ R ps row j * Rat.divInt (eQ R ps row0 j).den (eQ R ps row0 j).num) := by
    rw [by_q]
    refine sm_div nz1 ?_ ?_
    · rw [Int.natAbs_mul, Int.natAbs_natCast]; exact Nat.lt_of_le_of_lt (Nat.mul_le_mul (bl hg j) low0) G.p5
    · rw [Int.natAbs_mul, Int.natAbs_natCast]; exact Nat.lt_of_le_of_lt (Nat.mul_le_mul (bl hg0 j) low1) G.p5
  have st : ∀ c, Sm (-(eQ R ps row j * Rat.divInt (eQ R ps row0 j).den (eQ R ps row0 j).num) * eQ R ps row0 c) := fun c => by
    have e : -(eQ R ps row j * Rat.divInt (eQ R ps row0 j).den (eQ R ps row0 j).num) * eQ R ps row0 c = Rat.divInt (-(Dt.left R ps (Dt.rw (tops row)) j * Dt.left R ps (Dt.rw (tops row0)) c)) (Dt.left R ps (Dt.rw (tops row0)) j * (lowOf row : Nat) * Dt.det R ps) := by
      rw [by_q, eQ_div, Rat.divInt_eq_div, Rat.divInt_eq_div, Rat.intCast_mul, Rat.intCast_mul, Rat.intCast_mul, Rat.intCast_mul, Rat.intCast_neg, Rat.intCast_mul, Rat.intCast_natCast, Rat.intCast_natCast]
      grind
    rw [e]
    refine sm_div (Int.mul_ne_zero nz1 hd) ?_ ?_
    · rw [Int.natAbs_neg, Int.natAbs_mul]
      refine Nat.lt_of_le_of_lt (Nat.mul_le_mul (bl hg j) (bl hg0 c)) (Nat.lt_of_le_of_lt ?_ G.hW)
      exact Nat.mul_le_mul (Nat.le_mul_of_pos_right _ G.dp) (Nat.le_mul_of_pos_right _ G.dp)
    · rw [Int.natAbs_mul, Int.natAbs_mul, Int.natAbs_natCast]
      refine Nat.lt_of_le_of_lt (Nat.mul_le_mul (Nat.mul_le_mul (bl hg0 j) low1) bd) (Nat.lt_of_le_of_lt ?_ G.hW)
      exact Nat.mul_le_mul (Nat.le_refl _) (Nat.le_mul_of_pos_right _ G.dp)
  refine ⟨sm hg0 j, si, a0, ⟨?_, ?_, ?_, ?_, ?_, ?_⟩⟩
  · rw [eRow_len, eRow_len]; omega
  · rw [eRow_len]; omega
  · rw [hhead]; exact sm hg j
  · rw [hhead]; exact sby
  · intro h hh
    obtain ⟨c, _, rfl⟩ := List.mem_map.mp hh
    exact sm hg c
  · intro t ht
    rw [hhead]
    rcases List.mem_cons.mp ht with rfl | ht
    · exact ⟨sm hg0 j, st j⟩
    · obtain ⟨c, _, rfl⟩ := List.mem_map.mp ht
      exact ⟨sm hg0 c, st c⟩
end
end My

namespace My
open PySem PySem.Spec PyProof.Rows L2 TM Qm Rq
section
variable {n D N : Nat}
theorem mi_while (G : BdsC n D N) {m : Nat} (hm : m ≤ 4) (o0 o1 : Option Sl) : ∀ (rows : List (List Rat)) (j : Nat) (R : List Dt.Row) (ps : List Nat) (lp fuel : Nat) (o4 o5 o6 o7 o8 : Option Sl), j + rows.length = m → R.length = j → ps.length = j → (∀ y ∈ R, BdM (N * D) y) → (∀ r ∈ rows, Gn D N r) → Dt.det R ps ≠ 0 → PivOk rows j R ps → 0 < lp → lp ≤ D ^ j → rows.length < fuel →
    whileT miTest miBody fuel [o0, o1, some (.own ((rows.map (eRow m j R ps)).map rowT)), some (.sh (q2t (Rat.divInt (Dt.det R ps) lp))), o4, o5, o6, o7, o8] = some (.rt (q2t (minorV rows j R ps lp))) ∨
    ∃ τ', whileT miTest miBody fuel [o0, o1, some (.own ((rows.map (eRow m j R ps)).map rowT)), some (.sh (q2t (Rat.divInt (Dt.det R ps) lp))), o4, o5, o6, o7, o8] = some (.nx τ') ∧ τ'[3]? = some (some (.sh (q2t (minorV rows j R ps lp))))
  | [], j, R, ps, lp, fuel, o4, o5, o6, o7, o8, _, _, _, _, _, _, _, _, _, hf => by
    refine .inr ⟨_, while_no (mi_test (rows := []) rfl) hf, rfl⟩
  | row :: rows, j, R, ps, lp, fuel, o4, o5, o6, o7, o8, hl, hr, hp, hR, hg, hd, hpv, hlp, hlD, hf => by
    rw [List.length_cons] at hl hf
    obtain ⟨f', rfl⟩ : ∃ f', fuel = f' + 1 := ⟨fuel - 1, by omega⟩
    have hj : j < m := by omega
    have hg0 := hg row List.mem_cons_self
    have t1 : miTest [o0, o1, some (.own (((row :: rows).map (eRow m j R ps)).map rowT)), some (.sh (q2t (Rat.divInt (Dt.det R ps) lp))), o4, o5, o6, o7, o8] = some (true, [o0, o1, some (.own (((row :: rows).map (eRow m j R ps)).map rowT)), some (.sh (q2t (Rat.divInt (Dt.det R ps) lp))), o4, o5, o6, o7, o8]) := mi_test (rows := (row :: rows).map (eRow m j R ps)) rfl
    have hlow := (low_n hg0).2.1
    have hlowD : lowOf row ≤ D := Nat.le_of_dvd G.dp (low_n hg0).1
    by_cases h0 : Dt.left R ps (Dt.rw (tops row)) j = 0
    · cases rows with
      | cons r' rows => exact absurd h0 hpv.1
      | nil =>
        have hjm : m - j = 1 := by simp only [List.length_nil] at hl; omega
        have e0 : eRow m j R ps row = [0] := by
          unfold eRow
          rw [hjm]
          show [eQ R ps row j] = [0]
          unfold eQ
          rw [h0, Rat.zero_divInt]
        have e1 : minorV [row] j R ps lp = 0 := by
          rw [minorV, minorV, show Dt.det (Dt.rw (tops row) :: R) (j :: ps) = 0 from h0, Rat.zero_divInt]
        rw [e1]
        refine .inl ?_
        rw [List.map_cons, List.map_nil, e0] at t1 ⊢
        exact while_ret t1 (mi_zero o0 o1 o4 o5 o6 o7 o8)
    · obtain ⟨sa, si, a0, _⟩ := mi_ok G hj hm hg0 hg0 hR (by omega) (by omega) hd h0
      have bd := detM' (M := N * D) (R := R) (ps := ps) hR (by omega) (by omega)
      have sf : Sm (Rat.divInt (Dt.det R ps) lp) := sm_div (by omega) (Nat.lt_of_le_of_lt bd G.p5') (by rw [Int.natAbs_natCast]; exact Nat.lt_of_le_of_lt (Nat.le_trans hlD (pow_le5 G.dp (by omega))) G.hD4)
      obtain ⟨p4, p5, p7, p8, hb⟩ := mi_go a0 sf sa si (rest := rows.map (eRow m j R ps)) (r0 := eRow m (j + 1) R ps row) (by rw [List.length_map]; omega) (fun x hx => by
        obtain ⟨r, hr', rfl⟩ := List.mem_map.mp hx
        exact (mi_ok G hj hm hg0 (hg r (List.mem_cons_of_mem _ hr')) hR (by omega) (by omega) hd h0).2.2.2) o0 o1 o4 o5 o6 o7 o8
      rw [← eRow_cons hj R ps row] at hb
      have e2 : (rows.map (eRow m j R ps)).map (clr (eQ R ps row j) (eRow m (j + 1) R ps row)) = rows.map (eRow m (j + 1) (Dt.rw (tops row) :: R) (j :: ps)) := by
        rw [List.map_map]
        apply List.map_congr_left
        intro r hr'
        exact clr_step hj hg0 (hg r (List.mem_cons_of_mem _ hr')) hd h0
      have e3 : Rat.divInt (Dt.det R ps) lp * eQ R ps row j = Rat.divInt (Dt.det (Dt.rw (tops row) :: R) (j :: ps)) ((lp * lowOf row : Nat) : Int) := found_q hd
      rw [e2, e3] at hb
      rw [while_step t1 hb]
      have hpv' : PivOk rows (j + 1) (Dt.rw (tops row) :: R) (j :: ps) := by
        cases rows with
        | nil => trivial
        | cons r' rows => exact hpv.2
      exact mi_while G hm o0 o1 rows (j + 1) (Dt.rw (tops row) :: R) (j :: ps) (lp * lowOf row) f' p4 p5 none p7 p8 (by omega) (by rw [List.length_cons, hr]) (by rw [List.length_cons, hp]) (fun y hy => by
        rcases List.mem_cons.mp hy with rfl | hy
        · exact tops_bd hg0
        · exact hR y hy) (fun r hr' => hg r (List.mem_cons_of_mem _ hr')) h0 hpv' (Nat.mul_pos hlp hlow) (by rw [Nat.pow_succ]; exact Nat.mul_le_mul hlD hlowD) (by omega)
noncomputable abbrev dMi : List T → Option T := dOf 9 2 (b__law_minor 10 mTi mFrac mPl)
noncomputable def miRows : FO' := fCompO 1 [1] (fiSeq (fSl (fVar 0) fNoPart (fPart (fVar 1)))) (gnName 0) fAlways (fSlo (fVar 0) fNoPart (fPart (fVar 1)))
theorem b_mi_eq : b__law_minor 10 mTi mFrac mPl = fSeq (fSetO 2 miRows) (fSeq (fSet 3 (fTup (fCons (fC (.int 1)) (fCons (fC (.int 1)) fNil)))) (fSeq (whileT miTest miBody 10) (fRet (fVar 3)))) := rfl
theorem cut_to {α : Type} (f : α → T) (l : List α) (m : Nat) (h : m ≤ l.length) : cutT (l.map f) none (some (m : Int)) = (l.take m).map f := by
  unfold cutT
  rw [HT.sIx_nat, HT.sIx_none, List.length_map, Nat.min_eq_left h, List.drop_zero, Nat.sub_zero, List.map_take]
theorem eRow_start {row : List Rat} (hg : Gn D N row) {m : Nat} (hm : m ≤ row.length) : eRow m 0 [] [] row = row.take m := by
  unfold eRow
  apply List.ext_getElem
  · rw [List.length_map, List.length_range', List.length_take]; omega
  · intro c h1 h2
    have hc : c < row.length := by rw [List.length_take] at h2; omega
    rw [List.getElem_map, List.getElem_range', List.getElem_take, Nat.zero_add, Nat.one_mul, eQ_div]
    have hrow := row_low hg c
    have e1 : rwQ row c = row[c] := by
      unfold rwQ
      rw [List.getD_eq_getElem?_getD, List.getElem?_eq_getElem hc]
      rfl
    have e2 : Dt.left [] [] (Dt.rw (tops row)) c = Dt.rw (tops row) c := by
      show Dt.rw (tops row) c * 1 - 0 = _
      omega
    have e3 : Dt.det [] [] = 1 := rfl
    have hl := low_ne hg
    rw [← e1, hrow, e2, e3]
    have : ((1 : Int) : Rat) = 1 := rfl
    rw [this]
    grind
theorem ev_minor (G : BdsC n D N) {A : List (List Rat)} (h : TbG n D N A) (hl : A.length = n) {m : Nat} (hm : m ≤ n) (hp : PivOk (A.take m) 0 [] []) : dMi [tabT A, .int (m : Nat)] = some (q2t (minorV (A.take m) 0 [] [] 1)) := by
  have hn4 := G.n4
  have hlt : (A.take m).length = m := by rw [List.length_take]; omega
  have hmem : ∀ r ∈ A.take m, r ∈ A := fun r hr => List.mem_of_mem_take hr
  have e1 : miRows [some (.sh (tabT A)), some (.sh (.int (m : Nat))), none, none, none, none, none, none, none] = some (.lst ((A.take m).map fun r => O.lst ((r.take m).map fun q => O.val (q2t q))), [some (.sh (tabT A)), some (.sh (.int (m : Nat))), none, none, none, none, none, none, none]) := by
    have s1 : fiSeq (fSl (fVar 0) fNoPart (fPart (fVar 1))) [some (.sh (tabT A)), some (.sh (.int (m : Nat))), none, none, none, none, none, none, none] = some ((A.take m).map rowT, [some (.sh (tabT A)), some (.sh (.int (m : Nat))), none, none, none, none, none, none, none]) := by
      have s2 := sl_q (f := fVar 0) (fl := fNoPart) (fh := fPart (fVar 1)) (τ := [some (.sh (tabT A)), some (.sh (.int (m : Nat))), none, none, none, none, none, none, none]) (lo := none) (hi := some (m : Int)) rfl rfl (part_q rfl) (show gSl (tabT A) none (some (m : Int)) = some (tabT (A.take m)) from by
        show some (T.lst (cutT (A.map rowT) none (some (m : Int)))) = _
        rw [cut_to rowT A m (by omega)]
        rfl)
      unfold fiSeq
      rw [s2]
      rfl
    have s3 := compo_mapA (φ := rowT) (fe := fSlo (fVar 0) fNoPart (fPart (fVar 1))) (g := fun r => O.lst ((r.take m).map fun q => O.val (q2t q))) (ρ := [some (.sh (.int (m : Nat)))]) rfl (A.take m) none [] (fun r hr => by
      have hw := h.wd r (hmem r hr)
      have : gSlo (rowT r) none (some (m : Int)) = some (O.lst ((r.take m).map fun q => O.val (q2t q))) := by
        show some (O.lst ((cutT (r.map q2t) none (some (m : Int))).map O.val)) = _
        rw [cut_to q2t r m (by omega), List.map_map]
        rfl
      unfold fSlo
      rw [show fVar 0 [some (Sl.sh (rowT r)), some (Sl.sh (T.int (m : Nat)))] = some (rowT r, [some (Sl.sh (rowT r)), some (Sl.sh (T.int (m : Nat)))]) from rfl, Option.bind_some]
      dsimp only
      rw [show fNoPart [some (Sl.sh (rowT r)), some (Sl.sh (T.int (m : Nat)))] = some (none, [some (Sl.sh (rowT r)), some (Sl.sh (T.int (m : Nat)))]) from rfl, Option.bind_some]
      dsimp only
      rw [part_q (f := fVar 1) (k := (m : Int)) (τ := [some (Sl.sh (rowT r)), some (Sl.sh (T.int (m : Nat)))]) rfl, Option.bind_some]
      dsimp only
      rw [this]
      rfl) (by rw [List.length_nil, hlt]; exact small_le (by omega))
    have := fCompO_eq (no := 1) (cap := [1]) (fg := gnName 0) (ft := fAlways) (fe := fSlo (fVar 0) fNoPart (fPart (fVar 1))) s1 rfl rfl s3
    rw [List.nil_append] at this
    exact this
  have e1' := set_o (i := 2) e1
  have etr : O.trs ((A.take m).map fun r => O.lst ((r.take m).map fun q => O.val (q2t q))) = ((A.take m).map (eRow m 0 [] [])).map rowT := by
    rw [trs_map (g := fun r => rowT (r.take m)) (fun r => by
      rw [O.tr]
      unfold rowT
      rw [trs_map (g := q2t) (fun _ => rfl)]), List.map_map]
    apply List.map_congr_left
    intro r hr
    show rowT (r.take m) = rowT (eRow m 0 [] [] r)
    rw [eRow_start (h.gn r (hmem r hr)) (by rw [h.wd r (hmem r hr)]; exact hm)]
  rw [etr] at e1'
  have e2 : fSet 3 (fTup (fCons (fC (.int 1)) (fCons (fC (.int 1)) fNil))) [some (.sh (tabT A)), some (.sh (.int (m : Nat))), some (.own (((A.take m).map (eRow m 0 [] [])).map rowT)), none, none, none, none, none, none] = some (.nx [some (.sh (tabT A)), some (.sh (.int (m : Nat))), some (.own (((A.take m).map (eRow m 0 [] [])).map rowT)), some (.sh (q2t (Rat.divInt (Dt.det [] []) ((1 : Nat) : Int)))), none, none, none, none, none]) := by
    have l2 := le2
    have ew : q2t (Rat.divInt (Dt.det [] []) ((1 : Nat) : Int)) = .tup [.int 1, .int 1] := (whole_q 1).symm
    rw [ew]
    refine set_q (t := .tup [.int 1, .int 1]) (τ1 := [some (.sh (tabT A)), some (.sh (.int (m : Nat))), some (.own (((A.take m).map (eRow m 0 [] [])).map rowT)), none, none, none, none, none, none]) ?_ rfl
    unfold fTup
    rw [arg2 (f := fC (.int 1)) (g := fC (.int 1)) rfl rfl, Option.bind_some]
    exact if_pos l2
  refine dOf_q rfl ?_
  rw [b_mi_eq]
  have e0 : ([tabT A, T.int (m : Nat)].map (fun t => some (Sl.sh t)) ++ List.replicate (9 - 2) none) = [some (.sh (tabT A)), some (.sh (.int (m : Nat))), none, none, none, none, none, none, none] := rfl
  rw [e0, seq_q e1']
  show fSeq (fSet 3 (fTup (fCons (fC (.int 1)) (fCons (fC (.int 1)) fNil)))) (fSeq (whileT miTest miBody 10) (fRet (fVar 3))) [some (.sh (tabT A)), some (.sh (.int (m : Nat))), some (.own (((A.take m).map (eRow m 0 [] [])).map rowT)), none, none, none, none, none, none] = _
  rw [seq_q e2]
  rcases mi_while G (m := m) (by omega) (some (.sh (tabT A))) (some (.sh (.int (m : Nat)))) (A.take m) 0 [] [] 1 10 none none none none none (by rw [hlt]; omega) rfl rfl (fun _ h => by cases h) (fun r hr => h.gn r (hmem r hr)) (by decide) hp (by decide) (by rw [Nat.pow_zero]; exact Nat.le_refl _) (by omega) with hw | ⟨τ', hw, h3⟩
  · unfold fSeq
    rw [hw]
    rfl
  · rw [seq_q hw]
    exact ret_q (var_sh h3)
end
end My

namespace My
open PySem PySem.Spec PyProof.Rows L2 TM Qm Rq
section
variable {n D N : Nat}
noncomputable abbrev dDu : List T → Option T := dOf 5 1 (b__law_due dMi mFrac mTi)
noncomputable def duHere : FE := fCall dMi (fCons (fVar 0) (fCons (fOp gAdd (fVar 3) (fC (.int 1))) fNil))
noncomputable def duStep : FE := fCall mTi (fCons (fVar 4) (fCons (fCall mFrac (fCons (fOp gIx (fVar 2) (fC (.int 1))) (fCons (fOp gIx (fVar 2) (fC (.int 0))) fNil))) fNil))
noncomputable def duLe : FT := fTB (fOp gLe (fOp gIx (fIxOwn 1 (fUn gNeg (fC (.int 1)))) (fC (.int 0))) (fC (.int 0)))
noncomputable def duBody : FS := fSeq (fSet 4 duHere) (fSeq (fApp 1 duStep) (fSeq (fIfS duLe (fRet (fVar 1)) fNext) (fSet 2 (fVar 4))))
theorem b_du_eq : b__law_due dMi mFrac mTi = fSeq (fSetOwn 1 fNil) (fSeq (fSet 2 (fTup (fCons (fC (.int 1)) (fCons (fC (.int 1)) fNil)))) (fSeq (fFor (fiRng1 (fCons (fCall dLen (fCons (fVar 0) fNil)) fNil)) (gnName 3) duBody) (fRet (fVar 1)))) := rfl
theorem num_le {v b : Int} (hb : 0 < b) : (Rat.divInt v b).num ≤ 0 ↔ v ≤ 0 := by
  have hs : b.sign = 1 := Int.sign_eq_one_of_pos hb
  have hg : 0 < (Int.gcd b v : Int) := by
    have : Int.gcd b v ≠ 0 := fun z => by rw [Int.gcd_eq_zero_iff] at z; omega
    omega
  have hdv : (Int.gcd b v : Int) ∣ v := Int.gcd_dvd_right ..
  rw [Rat.num_divInt, hs, Int.one_mul]
  obtain ⟨k, hk⟩ := hdv
  have e : v / (Int.gcd b v : Int) = k := by
    conv => lhs; lhs; rw [hk]
    exact Int.mul_ediv_cancel_left _ (by omega)
  rw [e]
  constructor
  · intro h
    rw [hk]
    exact Int.mul_nonpos_of_nonneg_of_nonpos (by omega) h
  · intro h
    by_cases h1 : 0 < k
    · have := Int.mul_pos hg h1
      omega
    · omega
theorem due_q {d v : Int} {lp low : Nat} (hd : d ≠ 0) (hlp : lp ≠ 0) : Rat.divInt v ((lp * low : Nat) : Int) * Rat.divInt (Rat.divInt d lp).den (Rat.divInt d lp).num = Rat.divInt v (d * (low : Nat)) := by
  have h := cast_ne hd
  have hl : (lp : Rat) ≠ 0 := fun e => hlp (by exact_mod_cast e)
  rw [inv_q, Rat.divInt_eq_div, Rat.divInt_eq_div, Rat.divInt_eq_div, Rat.intCast_mul, Rat.intCast_natCast, Rat.intCast_natCast, Rat.intCast_natCast, Rat.natCast_mul]
  by_cases h2 : (low : Rat) = 0
  · grind
  · grind
theorem last_ix {us : List T} {a : Rat} {τ : TEnv} (h : τ[1]? = some (some (.own (us ++ [q2t a])))) : fIxOwn 1 (fUn gNeg (fC (.int 1))) τ = some (q2t a, τ) := by
  unfold fIxOwn
  rw [h]
  dsimp only
  rw [show fUn gNeg (fC (.int 1)) τ = some (.int (-1), τ) from rfl, Option.bind_some]
  dsimp only
  rw [h]
  dsimp only
  have e : gIx (.lst (us ++ [q2t a])) (.int (-1)) = some (q2t a) := by
    show atI (us ++ [q2t a]) (-1) = _
    have e1 : ixN (us ++ [q2t a]).length (-1) = some us.length := by
      unfold ixN
      rw [List.length_append, List.length_cons, List.length_nil]
      rw [if_neg (by omega), if_pos (by omega)]
      congr 1
      omega
    unfold atI
    rw [e1, Option.bind_some, List.getElem?_append_right (Nat.le_refl _), Nat.sub_self]
    rfl
  rw [e]
  rfl
theorem du_loop (G : BdsC n D N) {A : List (List Rat)} (h : TbG n D N A) (hA : A.length = n) : ∀ (rows pre : List (List Rat)) (k : Nat) (R : List Dt.Row) (ps : List Nat) (lp : Nat) (us : List T) (o4 : Option Sl), A = pre ++ rows → pre.length = k → us.length = k →
    (∀ rs, minorV (pre ++ rs) 0 [] [] 1 = minorV rs k R ps lp) → (∀ rs, PivOk rs k R ps → PivOk (pre ++ rs) 0 [] []) → 0 < Dt.det R ps → 0 < lp → lp ≤ D ^ k → R.length = k → ps.length = k → (∀ y ∈ R, BdM (N * D) y) → ∀ o3 : Option Sl,
    ∃ r, loopT (gnName 3) duBody ((List.range' k rows.length).map fun (i : Nat) => T.int i) [some (.sh (tabT A)), some (.own us), some (.sh (q2t (Rat.divInt (Dt.det R ps) lp))), o3, o4] = some r ∧ (r = .rt (.lst (us ++ (stp rows k R ps).map q2t)) ∨ ∃ τ', r = .nx τ' ∧ τ'[1]? = some (some (.own (us ++ (stp rows k R ps).map q2t))))
  | [], pre, k, R, ps, lp, us, o4, _, _, _, _, _, _, _, _, _, _, _, o3 => ⟨_, rfl, .inr ⟨_, rfl, by show some (some (Sl.own us)) = _; rw [stp, List.map_nil, List.append_nil]⟩⟩
  | row :: rows, pre, k, R, ps, lp, us, o4, hP, hk, hu, hm, hpv, hd, hlp, hlD, hr, hp, hR, o3 => by
    have hn4 := G.n4
    have hlen : pre.length + (rows.length + 1) = n := by rw [← hA, hP, List.length_append, List.length_cons]
    have hkn : k + 1 ≤ n := by omega
    have hrow : row ∈ A := by rw [hP]; exact List.mem_append_right _ List.mem_cons_self
    have hg := h.gn row hrow
    obtain ⟨l1, l2, _⟩ := low_n hg
    have hlow : lowOf row ≤ D := Nat.le_of_dvd G.dp l1
    have htake : A.take (k + 1) = pre ++ [row] := by
      rw [hP, List.take_append, ← hk, show pre.length + 1 - pre.length = 1 by omega, List.take_of_length_le (by omega)]
      rfl
    have hmin := ev_minor G h hA (m := k + 1) hkn (by rw [htake]; exact hpv [row] trivial)
    rw [htake, hm [row]] at hmin
    have hv0 : minorV [row] k R ps lp = Rat.divInt (Dt.left R ps (Dt.rw (tops row)) k) ((lp * lowOf row : Nat) : Int) := by rw [minorV, minorV]; rfl
    rw [hv0] at hmin
    have hdn : Dt.det R ps ≠ 0 := by omega
    have bl := leftM' (ps := ps) (tops_bd hg) hR (by omega) (by omega) k
    have bd := detM' (M := N * D) (R := R) (ps := ps) hR (by omega) (by omega)
    have hlpC : lp < C := Nat.lt_of_le_of_lt (Nat.le_trans hlD (pow_le5 G.dp (by omega))) G.hD4
    have hlp2 : lp * lowOf row ≤ D ^ (k + 1) := by rw [Nat.pow_succ]; exact Nat.mul_le_mul hlD hlow
    have hlpC2 : lp * lowOf row < C := Nat.lt_of_le_of_lt (Nat.le_trans hlp2 (pow_le5 G.dp (by omega))) G.hD4
    have hlpp : 0 < lp * lowOf row := Nat.mul_pos hlp l2
    have sl : Sm (Rat.divInt (Dt.det R ps) lp) := sm_div (by omega) (Nat.lt_of_le_of_lt bd G.p5') (by rw [Int.natAbs_natCast]; exact hlpC)
    have sh : Sm (Rat.divInt (Dt.left R ps (Dt.rw (tops row)) k) ((lp * lowOf row : Nat) : Int)) := sm_div (by omega) (Nat.lt_of_le_of_lt bl G.p5') (by rw [Int.natAbs_natCast]; exact hlpC2)
    have l0 : Rat.divInt (Dt.det R ps) lp ≠ 0 := by
      have := cast_ne hdn
      have hl : (lp : Rat) ≠ 0 := fun e => by
        have : lp = 0 := by exact_mod_cast e
        omega
      rw [Rat.divInt_eq_div, Rat.intCast_natCast]
      grind
    have ln : (Rat.divInt (Dt.det R ps) lp).num ≠ 0 := fun z => l0 (Rat.num_eq_zero.mp z)
    have si : Sm (Rat.divInt (Rat.divInt (Dt.det R ps) lp).den (Rat.divInt (Dt.det R ps) lp).num) := sm_inv (x := Rat.divInt (Dt.det R ps) lp) (by rw [inv_q]; grind) sl
    have kf : mFrac [.int ((Rat.divInt (Dt.det R ps) lp).den : Int), .int (Rat.divInt (Dt.det R ps) lp).num] = some (q2t (Rat.divInt (Rat.divInt (Dt.det R ps) lp).den (Rat.divInt (Dt.det R ps) lp).num)) := by
      rw [← frT_any ln]
      exact mFrac_eq (by rw [Int.natAbs_natCast]; exact Nat.lt_trans sl.d CB) (Nat.lt_trans sl.n CB) ln
    have kt := mTi_q sh si
    rw [due_q hdn (by omega)] at kt
    have e1 : fSet 4 duHere [some (.sh (tabT A)), some (.own us), some (.sh (q2t (Rat.divInt (Dt.det R ps) lp))), some (.sh (.int (k : Nat))), o4] = some (.nx [some (.sh (tabT A)), some (.own us), some (.sh (q2t (Rat.divInt (Dt.det R ps) lp))), some (.sh (.int (k : Nat))), some (.sh (q2t (Rat.divInt (Dt.left R ps (Dt.rw (tops row)) k) ((lp * lowOf row : Nat) : Int))))]) := by
      refine set_q (call_q (g := dMi) [tabT A, .int ((k + 1 : Nat) : Int)] (arg2 rfl ?_) hmin) rfl
      exact op_q rfl rfl (by show some (T.int ((k : Int) + 1)) = _; rfl)
    have e2 : duStep [some (.sh (tabT A)), some (.own us), some (.sh (q2t (Rat.divInt (Dt.det R ps) lp))), some (.sh (.int (k : Nat))), some (.sh (q2t (Rat.divInt (Dt.left R ps (Dt.rw (tops row)) k) ((lp * lowOf row : Nat) : Int))))] = some (q2t (Rat.divInt (Dt.left R ps (Dt.rw (tops row)) k) (Dt.det R ps * (lowOf row : Nat))), [some (.sh (tabT A)), some (.own us), some (.sh (q2t (Rat.divInt (Dt.det R ps) lp))), some (.sh (.int (k : Nat))), some (.sh (q2t (Rat.divInt (Dt.left R ps (Dt.rw (tops row)) k) ((lp * lowOf row : Nat) : Int))))]) :=
      call_q (g := mTi) [q2t (Rat.divInt (Dt.left R ps (Dt.rw (tops row)) k) ((lp * lowOf row : Nat) : Int)), q2t (Rat.divInt (Rat.divInt (Dt.det R ps) lp).den (Rat.divInt (Dt.det R ps) lp).num)] (arg2 rfl (call_q (g := mFrac) [.int ((Rat.divInt (Dt.det R ps) lp).den : Int), .int (Rat.divInt (Dt.det R ps) lp).num] (arg2 (op_q rfl rfl rfl) (op_q rfl rfl rfl)) kf)) kt
    have e3 := app_q (i := 1) (ts := us) rfl e2 (small1000 (by omega))
    generalize hv : Dt.left R ps (Dt.rw (tops row)) k = v at *
    generalize hq : Rat.divInt v (Dt.det R ps * (lowOf row : Nat)) = qq at *
    have hle : qq.num ≤ 0 ↔ v ≤ 0 := by rw [← hq]; exact num_le (Int.mul_pos hd (by omega))
    have e4 : duLe [some (.sh (tabT A)), some (.own (us ++ [q2t qq])), some (.sh (q2t (Rat.divInt (Dt.det R ps) lp))), some (.sh (.int (k : Nat))), some (.sh (q2t (Rat.divInt v ((lp * lowOf row : Nat) : Int))))] = some (decide (v ≤ 0), [some (.sh (tabT A)), some (.own (us ++ [q2t qq])), some (.sh (q2t (Rat.divInt (Dt.det R ps) lp))), some (.sh (.int (k : Nat))), some (.sh (q2t (Rat.divInt v ((lp * lowOf row : Nat) : Int))))]) := by
      have c := tb_q (f := fOp gLe (fOp gIx (fIxOwn 1 (fUn gNeg (fC (.int 1)))) (fC (.int 0))) (fC (.int 0))) (op_q (op_q (last_ix (τ := [some (.sh (tabT A)), some (.own (us ++ [q2t qq])), some (.sh (q2t (Rat.divInt (Dt.det R ps) lp))), some (.sh (.int (k : Nat))), some (.sh (q2t (Rat.divInt v ((lp * lowOf row : Nat) : Int))))]) rfl) rfl (show gIx (q2t qq) (.int 0) = some (.int qq.num) from rfl)) rfl le_q)
      unfold duLe
      rw [c]
      congr 2
      exact decide_eq_decide.mpr hle
    have er : List.range' k (row :: rows).length = k :: List.range' (k + 1) rows.length := by rw [List.length_cons, List.range'_succ]
    rw [er, List.map_cons]
    have e0 : loopT (gnName 3) duBody (T.int (k : Nat) :: (List.range' (k + 1) rows.length).map fun (i : Nat) => T.int i) [some (.sh (tabT A)), some (.own us), some (.sh (q2t (Rat.divInt (Dt.det R ps) lp))), o3, o4] = (duBody [some (.sh (tabT A)), some (.own us), some (.sh (q2t (Rat.divInt (Dt.det R ps) lp))), some (.sh (.int (k : Nat))), o4]).bind fun r => match r with | .nx τ2 => loopT (gnName 3) duBody ((List.range' (k + 1) rows.length).map fun (i : Nat) => T.int i) τ2 | .ct τ2 => loopT (gnName 3) duBody ((List.range' (k + 1) rows.length).map fun (i : Nat) => T.int i) τ2 | .bk τ2 => some (.nx τ2) | .rt v => some (.rt v) := rfl
    have hstp : stp (row :: rows) k R ps = qq :: (if v ≤ 0 then [] else stp rows (k + 1) (Dt.rw (tops row) :: R) (k :: ps)) := by rw [stp, hv, hq]
    by_cases hv0' : v ≤ 0
    · rw [decide_eq_true hv0'] at e4
      have eb : duBody [some (.sh (tabT A)), some (.own us), some (.sh (q2t (Rat.divInt (Dt.det R ps) lp))), some (.sh (.int (k : Nat))), o4] = some (.rt (.lst (us ++ [q2t qq]))) := by
        unfold duBody
        rw [seq_q e1, seq_q e3]
        show fSeq (fIfS duLe (fRet (fVar 1)) fNext) (fSet 2 (fVar 4)) [some (.sh (tabT A)), some (.own (us ++ [q2t qq])), some (.sh (q2t (Rat.divInt (Dt.det R ps) lp))), some (.sh (.int (k : Nat))), some (.sh (q2t (Rat.divInt v ((lp * lowOf row : Nat) : Int))))] = _
        unfold fSeq fIfS
        rw [e4]
        rfl
      rw [e0, eb]
      refine ⟨_, rfl, .inl ?_⟩
      rw [hstp, if_pos hv0']
      rfl
    · rw [decide_eq_false hv0'] at e4
      have eb : duBody [some (.sh (tabT A)), some (.own us), some (.sh (q2t (Rat.divInt (Dt.det R ps) lp))), some (.sh (.int (k : Nat))), o4] = some (.nx [some (.sh (tabT A)), some (.own (us ++ [q2t qq])), some (.sh (q2t (Rat.divInt v ((lp * lowOf row : Nat) : Int)))), some (.sh (.int (k : Nat))), some (.sh (q2t (Rat.divInt v ((lp * lowOf row : Nat) : Int))))]) := by
        unfold duBody
        rw [seq_q e1, seq_q e3]
        show fSeq (fIfS duLe (fRet (fVar 1)) fNext) (fSet 2 (fVar 4)) [some (.sh (tabT A)), some (.own (us ++ [q2t qq])), some (.sh (q2t (Rat.divInt (Dt.det R ps) lp))), some (.sh (.int (k : Nat))), some (.sh (q2t (Rat.divInt v ((lp * lowOf row : Nat) : Int))))] = _
        rw [seq_q (if_go e4)]
        rfl
      have hdet : Dt.det (Dt.rw (tops row) :: R) (k :: ps) = v := hv
      obtain ⟨r, h1, h2⟩ := du_loop G h hA rows (pre ++ [row]) (k + 1) (Dt.rw (tops row) :: R) (k :: ps) (lp * lowOf row) (us ++ [q2t qq]) (some (.sh (q2t (Rat.divInt v ((lp * lowOf row : Nat) : Int))))) (by rw [hP, List.append_assoc]; rfl) (by rw [List.length_append, hk]; rfl) (by rw [List.length_append, hu]; rfl)
        (fun rs => by rw [List.append_assoc]; exact (hm (row :: rs)).trans (by rw [minorV])) (fun rs hrs => by
          rw [List.append_assoc]
          refine hpv (row :: rs) ?_
          cases rs with
          | nil => trivial
          | cons r' rs => exact ⟨by rw [hv]; omega, hrs⟩) (by rw [hdet]; omega) hlpp hlp2 (by rw [List.length_cons, hr]) (by rw [List.length_cons, hp]) (fun y hy => by
          rcases List.mem_cons.mp hy with rfl | hy
          · exact tops_bd hg
          · exact hR y hy) (some (.sh (.int (k : Nat))))
      rw [hdet] at h1
      refine ⟨r, ?_, ?_⟩
      · rw [e0, eb]
        exact h1
      · rw [hstp, if_neg hv0']
        rw [List.append_assoc] at h2
        exact h2
theorem ev_due (G : BdsC n D N) {A : List (List Rat)} (h : TbG n D N A) (hA : A.length = n) : dDu [tabT A] = some (rowT (stp A 0 [] [])) := by
  have hn4 := G.n4
  obtain ⟨r, h1, h2⟩ := du_loop G h hA A [] 0 [] [] 1 [] none rfl rfl rfl (fun _ => rfl) (fun _ h => h) (by decide) (by decide) (by rw [Nat.pow_zero]; exact Nat.le_refl _) rfl rfl (fun _ h => by cases h) none
  refine dOf_q rfl ?_
  rw [b_du_eq]
  have e0 : ([tabT A].map (fun t => some (Sl.sh t)) ++ List.replicate (5 - 1) none) = [some (.sh (tabT A)), none, none, none, none] := rfl
  have ew : q2t (Rat.divInt (Dt.det [] []) ((1 : Nat) : Int)) = .tup [.int 1, .int 1] := (whole_q 1).symm
  have e1 : fSetOwn 1 fNil [some (.sh (tabT A)), none, none, none, none] = some (.nx [some (.sh (tabT A)), some (.own []), none, none, none]) := rfl
  have e2 : fSet 2 (fTup (fCons (fC (.int 1)) (fCons (fC (.int 1)) fNil))) [some (.sh (tabT A)), some (.own []), none, none, none] = some (.nx [some (.sh (tabT A)), some (.own []), some (.sh (q2t (Rat.divInt (Dt.det [] []) ((1 : Nat) : Int)))), none, none]) := by
    have l2 := le2
    rw [ew]
    refine set_q (t := .tup [.int 1, .int 1]) (τ1 := [some (.sh (tabT A)), some (.own []), none, none, none]) ?_ rfl
    unfold fTup
    rw [arg2 (f := fC (.int 1)) (g := fC (.int 1)) rfl rfl, Option.bind_some]
    exact if_pos l2
  have ei := rng1_eq (f := fCall dLen (fCons (fVar 0) fNil)) (τ := [some (.sh (tabT A)), some (.own []), some (.sh (q2t (Rat.divInt (Dt.det [] []) ((1 : Nat) : Int)))), none, none]) (n := A.length) (call_q [tabT A] (arg1 rfl) (by show some (T.int ((A.map rowT).length : Nat)) = _; rw [List.length_map])) (by omega)
  rw [List.range_eq_range'] at ei
  have e3 : fFor (fiRng1 (fCons (fCall dLen (fCons (fVar 0) fNil)) fNil)) (gnName 3) duBody [some (.sh (tabT A)), some (.own []), some (.sh (q2t (Rat.divInt (Dt.det [] []) ((1 : Nat) : Int)))), none, none] = some r := for_q ei h1
  rw [e0, seq_q e1, seq_q e2]
  rcases h2 with rfl | ⟨τ', rfl, h3⟩
  · unfold fSeq
    rw [e3]
    rfl
  · rw [seq_q e3]
    unfold fRet fVar
    rw [h3]
    rfl
end
end My

namespace My
open PySem PySem.Spec PyProof.Rows L2 TM Qm Rq
noncomputable def rowV (xs : List Rat) : O := .lst ((xs.map q2t).map .val)
theorem rowV_tr (xs : List Rat) : (rowV xs).tr = rowT xs := by
  unfold rowV
  rw [O.tr, TM.trs_vals]
  rfl
noncomputable abbrev dSmO : List T → Option O := dOfO 6 2 (b__law_some dDigits mFrac mMix)
noncomputable abbrev dSmP : List T → Option T := fun ts => (dSmO ts).bind fun o => some o.tr
noncomputable def oddO : FO' := fCompO 1 [] (fiSeq (fCall dDigits (fCons (fOp gDiv (fVar 0) (fC (.int 2))) (fCons (fC (.int 228)) (fCons (fVar 1) fNil))))) (gnName 0) fAlways (fVal (fCall mFrac (fCons (fOp gSub (fOp gMod (fVar 0) (fC (.int 19))) (fC (.int 9))) (fCons (fOp gAdd (fC (.int 1)) (fOp gDiv (fVar 0) (fC (.int 19)))) fNil))))
noncomputable def smTest : FT := fTB (fOp gEq (fOp gMod (fVar 0) (fC (.int 2))) (fC (.int 1)))
theorem b_smO_eq : b__law_some dDigits mFrac mMix = fYO (ySeq (yIf smTest (yRet oddO) yNext) (ySeq (yLift (fSetOwn 2 fNil)) (ySeq (yLift (fFor (fiRng1 (fCons (fVar 1) fNil)) (gnName 3) someBody)) (yRet (fTake 2))))) := rfl
theorem sm_test (c : Int) (n : Nat) (o2 o3 o4 o5 : Option Sl) : smTest [some (.sh (.int c)), some (.sh (.int (n : Nat))), o2, o3, o4, o5] = some (decide (c.fmod 2 = 1), [some (.sh (.int c)), some (.sh (.int (n : Nat))), o2, o3, o4, o5]) :=
  tb_q (op_q (op_q rfl rfl (mod_q (N := c) (d := 2) (by decide) (by decide +kernel))) rfl (gEq_int _ _))
theorem val_e {f : FE} {τ τ' : TEnv} {t : T} (h : f τ = some (t, τ')) : fVal f τ = some (.val t, τ') := by
  unfold fVal
  rw [h]
  rfl
theorem ev_smO (c : Int) (n : Nat) (h1 : n ≤ 100) : ∃ xs : List Rat, dSmO [.int c, .int (n : Nat)] = some (rowV xs) ∧ xs.length = n ∧ ∀ x ∈ xs, Lq 1 9 x := by
  have key : ∀ o, b__law_some dDigits mFrac mMix [some (.sh (.int c)), some (.sh (.int (n : Nat))), none, none, none, none] = some o → dSmO [.int c, .int (n : Nat)] = some o := fun o h => h
  by_cases hc : c.fmod 2 = 1
  · obtain ⟨ds, e1, e2, e3⟩ := ev_digits (c.fdiv 2) n (by omega)
    have hm := compo_mapA (φ := T.int) (g := fun d => O.val (q2t (drawn d))) (ρ := []) rfl ds none [] (fun d hd => val_e (drawn_q (e3 d hd))) (by rw [List.length_nil, Nat.zero_add, e2]; exact small_le (by omega))
    have hcomp := fCompO_eq (no := 1) (cap := []) (fg := gnName 0) (ft := fAlways) (odd_it c _ _ e1) rfl rfl hm
    refine ⟨ds.map drawn, key _ ?_, by rw [List.length_map]; exact e2, fun t ht => ?_⟩
    · have ht := sm_test c n none none none none
      rw [decide_eq_true hc] at ht
      have er : rowV (ds.map drawn) = O.lst ([] ++ ds.map fun d => O.val (q2t (drawn d))) := by
        unfold rowV
        rw [List.nil_append, List.map_map, List.map_map]
        rfl
      rw [er]
      generalize hZ : [] ++ ds.map (fun d => O.val (q2t (drawn d))) = Z at *
      have hr : yRet oddO [some (.sh (.int c)), some (.sh (.int (n : Nat))), none, none, none, none] = some (.ro (.lst Z)) := by
        unfold yRet oddO
        rw [hcomp]
        rfl
      have e4 : ∀ rest : FY, ySeq (yIf smTest (yRet oddO) yNext) rest [some (.sh (.int c)), some (.sh (.int (n : Nat))), none, none, none, none] = some (.ro (.lst Z)) := fun rest => by
        have e5 : yIf smTest (yRet oddO) yNext [some (.sh (.int c)), some (.sh (.int (n : Nat))), none, none, none, none] = some (.ro (.lst Z)) := by
          unfold yIf
          rw [ht, Option.bind_some]
          exact hr
        unfold ySeq
        rw [e5]
        rfl
      rw [b_smO_eq]
      unfold fYO
      rw [e4]
      rfl
    · obtain ⟨d, hd', rfl⟩ := List.mem_map.mp ht
      exact drawn_lq (e3 d hd')
  · obtain ⟨us, y3, y4, y5, g1, g2, g3⟩ := some_loop c (n : Nat) n 0 [] none none none (Int.le_refl 0) (by omega) (by rw [List.length_nil]; omega)
    rw [List.nil_append] at g3
    refine ⟨us, key _ ?_, g2, g1⟩
    have ht := sm_test c n none none none none
    rw [decide_eq_false hc] at ht
    have e1 : ∀ rest : FY, ySeq (yIf smTest (yRet oddO) yNext) rest [some (.sh (.int c)), some (.sh (.int (n : Nat))), none, none, none, none] = rest [some (.sh (.int c)), some (.sh (.int (n : Nat))), none, none, none, none] := fun rest => by
      have e5 : yIf smTest (yRet oddO) yNext [some (.sh (.int c)), some (.sh (.int (n : Nat))), none, none, none, none] = some (.nx [some (.sh (.int c)), some (.sh (.int (n : Nat))), none, none, none, none]) := by
        unfold yIf
        rw [ht]
        rfl
      unfold ySeq
      rw [e5]
      rfl
    have e2 : fFor (fiRng1 (fCons (fVar 1) fNil)) (gnName 3) someBody [some (.sh (.int c)), some (.sh (.int (n : Nat))), some (.own []), none, none, none] = _ := for_q (even_it c n h1) g3
    rw [b_smO_eq]
    unfold fYO
    rw [e1, ys_q (τ' := [some (.sh (.int c)), some (.sh (.int (n : Nat))), some (.own []), none, none, none]) rfl, ys_q e2]
    rfl
theorem ev_smP (c : Int) (n : Nat) (h1 : n ≤ 100) : ∃ xs : List Rat, dSmP [.int c, .int (n : Nat)] = some (rowT xs) ∧ xs.length = n ∧ ∀ x ∈ xs, Lq 1 9 x := by
  obtain ⟨xs, e1, e2, e3⟩ := ev_smO c n h1
  refine ⟨xs, ?_, e2, e3⟩
  show (dSmO [.int c, .int (n : Nat)]).bind _ = _
  rw [e1, Option.bind_some, rowV_tr]
noncomputable abbrev dLw : List T → Option T := dOf 5 2 (b__law_weighed mTi mPl)
theorem ev_lw {r s : List Rat} {k m k' m' : Nat} (h1 : Gd k m r) (h2 : Gd k' m' s) (f : Few k m) (f' : Few k' m') : dLw [rowT r, rowT s] = some (q2t (wsum r s)) := by
  have hz := few100 f f' h1.len
  obtain ⟨u, v, hl⟩ := wei_loop f f' (some (.sh (rowT r))) (some (.sh (rowT s))) r s 0 0 none none h1.lq h2.lq (Lq.zero _) (by have := hz.2; omega)
  rw [Rat.zero_add] at hl
  have hi : fiZip (fCons (fVar 0) (fCons (fVar 1) fNil)) [some (.sh (rowT r)), some (.sh (rowT s)), some (.sh (q2t 0)), none, none] = some ((List.zip r s).map fun p => T.tup [q2t p.1, q2t p.2], [some (.sh (rowT r)), some (.sh (rowT s)), some (.sh (q2t 0)), none, none]) := by
    rw [← zipT_map]
    rfl
  have e1 : fSet 2 (fTup (fCons (fC (.int 0)) (fCons (fC (.int 1)) fNil))) [some (.sh (rowT r)), some (.sh (rowT s)), none, none, none] = some (.nx [some (.sh (rowT r)), some (.sh (rowT s)), some (.sh (q2t 0)), none, none]) := by
    have l2 := le2
    refine set_q (t := q2t 0) (τ1 := [some (.sh (rowT r)), some (.sh (rowT s)), none, none, none]) ?_ rfl
    unfold fTup
    rw [arg2 (f := fC (.int 0)) (g := fC (.int 1)) rfl rfl, Option.bind_some]
    exact if_pos l2
  have e2 : fFor (fiZip (fCons (fVar 0) (fCons (fVar 1) fNil))) (gnTup (gnCons (gnName 3) (gnCons (gnName 4) gnNil))) wBody [some (.sh (rowT r)), some (.sh (rowT s)), some (.sh (q2t 0)), none, none] = _ := for_q hi hl
  refine dOf_q rfl ?_
  show fSeq (fSet 2 (fTup (fCons (fC (.int 0)) (fCons (fC (.int 1)) fNil)))) (fSeq (fFor (fiZip (fCons (fVar 0) (fCons (fVar 1) fNil))) (gnTup (gnCons (gnName 3) (gnCons (gnName 4) gnNil))) wBody) (fRet (fVar 2))) [some (.sh (rowT r)), some (.sh (rowT s)), none, none, none] = _
  rw [seq_q e1, seq_q e2]
  rfl
noncomputable def tsQ (A : List (List Rat)) : List (List T) := A.map fun r => r.map q2t
noncomputable def setM (A : List (List Rat)) (i j : Nat) (x : Rat) : List (List Rat) := A.set i ((A.getD i []).set j x)
structure ShT (n k m : Nat) (A : List (List Rat)) : Prop where
  len : A.length = n
  wd : ∀ r ∈ A, r.length = n
  lq : ∀ r ∈ A, ∀ x ∈ r, Lq k m x
theorem ShT.set {n k m : Nat} {A : List (List Rat)} (h : ShT n k m A) {i j : Nat} {x : Rat} (hi : i < n) (hx : Lq k m x) : ShT n k m (setM A i j x) := by
  have hg : A.getD i [] ∈ A := by
    rw [List.getD_eq_getElem?_getD, List.getElem?_eq_getElem (by rw [h.len]; exact hi)]
    exact List.getElem_mem _
  refine ⟨by unfold setM; rw [List.length_set]; exact h.len, fun r hr => ?_, fun r hr y hy => ?_⟩
  · rcases List.mem_or_eq_of_mem_set hr with hr | rfl
    · exact h.wd r hr
    · rw [List.length_set]; exact h.wd _ hg
  · rcases List.mem_or_eq_of_mem_set hr with hr | rfl
    · exact h.lq r hr y hy
    · rcases List.mem_or_eq_of_mem_set hy with hy | rfl
      · exact h.lq _ hg y hy
      · exact hx
theorem put_q {n k m : Nat} {A : List (List Rat)} (h : ShT n k m A) {a b : Nat} (ha : a < n) (hb : b < n) {i j : Nat} {τ : TEnv} {x : Rat} (h1 : τ[i]? = some (some (.sh (.int (a : Nat))))) (h2 : τ[j]? = some (some (.sh (.int (b : Nat))))) : dPut i j (q2t x) τ (tsQ A) = some (tsQ (setM A a b x)) := by
  have hl := h.len
  have hlt : (tsQ A).length = n := by unfold tsQ; rw [List.length_map]; exact hl
  have hga : A[a]? = some (A.getD a []) := by rw [List.getD_eq_getElem?_getD, List.getElem?_eq_getElem (by omega)]; rfl
  have hmem : A.getD a [] ∈ A := List.mem_of_getElem? hga
  have hgt : (tsQ A)[a]? = some ((A.getD a []).map q2t) := by unfold tsQ; rw [List.getElem?_map, hga]; rfl
  have i1 : ixN (tsQ A).length ((a : Nat) : Int) = some a := by unfold ixN; rw [if_pos (by omega), if_pos (by omega), Int.toNat_natCast]
  have i2 : ixN ((A.getD a []).map q2t).length ((b : Nat) : Int) = some b := by unfold ixN; rw [if_pos (by omega), if_pos (by rw [List.length_map, h.wd _ hmem]; omega), Int.toNat_natCast]
  unfold dPut
  rw [h1, h2]
  dsimp only
  rw [i1, Option.bind_some, hgt, Option.bind_some, i2, Option.bind_some]
  unfold tsQ setM
  rw [List.map_set, List.map_set]
end My

namespace My
open PySem PySem.Spec PyProof.Rows L2 TM Qm Rq
noncomputable abbrev dSy : List T → Option O := dOfO 7 2 (b__law_symmetric dSmO)
noncomputable def syIn : FD := dSeq (dLift 3 (fSet 6 (fPop 2))) (dSeq (dSet2 3 4 5 (fVar 6)) (dSet2 3 5 4 (fVar 6)))
noncomputable def syOut : FD := dFor 3 (fiRng2 (fCons (fVar 4) (fCons (fVar 1) fNil))) (gnName 5) syIn
noncomputable def syAll : FD := dSeq (dFor 3 (fiRng1 (fCons (fVar 1) fNil)) (gnName 4) syOut) dNext
noncomputable def syMake : FO' := fCompO 1 [1] (fiRng1 (fCons (fVar 1) fNil)) (gnName 0) fAlways (fRepO (fLst (fCons (fTup (fCons (fC (.int 0)) (fCons (fC (.int 1)) fNil))) fNil)) (fVar 1))
noncomputable def syNum : FO' := fCallO dSmO (fCons (fVar 0) (fCons (fOp gDiv (fOp gMulI (fVar 1) (fOp gAdd (fVar 1) (fC (.int 1)))) (fC (.int 2))) fNil))
theorem b_sy_eq : b__law_symmetric dSmO = fSeqO (fSetO 2 syNum) (fDeepO 3 syMake syAll) := rfl
noncomputable abbrev syE (c : Int) (n : Nat) (us : List Rat) (p : Addr) (o4 o5 o6 : Option Sl) : TEnv := [some (.sh (.int c)), some (.sh (.int (n : Nat))), some (.own (us.map q2t)), some (.sh (.ptr p)), o4, o5, o6]
theorem sy_turn {c : Int} {n i j : Nat} {A : List (List Rat)} {us : List Rat} {x : Rat} (h : ShT n 1 9 A) (hi : i < n) (hj : j < n) (hx : Lq 1 9 x) (p : Addr) (o6 : Option Sl) :
    syIn p (tsQ A) (syE c n (us ++ [x]) p (some (.sh (.int (i : Nat)))) (some (.sh (.int (j : Nat)))) o6) = some (tsQ (setM (setM A i j x) j i x), syE c n us p (some (.sh (.int (i : Nat)))) (some (.sh (.int (j : Nat)))) (some (.sh (q2t x)))) := by
  have e1 : fSet 6 (fPop 2) (syE c n (us ++ [x]) p (some (.sh (.int (i : Nat)))) (some (.sh (.int (j : Nat)))) o6) = some (.nx (syE c n us p (some (.sh (.int (i : Nat)))) (some (.sh (.int (j : Nat)))) (some (.sh (q2t x))))) := by
    have e2 : fPop 2 (syE c n (us ++ [x]) p (some (.sh (.int (i : Nat)))) (some (.sh (.int (j : Nat)))) o6) = some (q2t x, syE c n us p (some (.sh (.int (i : Nat)))) (some (.sh (.int (j : Nat)))) o6) := by
      show ((((us ++ [x]).map q2t)[((us ++ [x]).map q2t).length - 1]?).bind fun t => some (t, (syE c n (us ++ [x]) p (some (.sh (.int (i : Nat)))) (some (.sh (.int (j : Nat)))) o6).set 2 (some (.own ((us ++ [x]).map q2t).dropLast)))) = _
      rw [List.map_append, List.length_append, List.map_cons, List.map_nil, List.length_cons, List.length_nil, Nat.zero_add, Nat.add_sub_cancel, List.getElem?_append_right (Nat.le_refl _), Nat.sub_self, List.dropLast_concat]
      rfl
    exact set_q e2 rfl
  have d1 : dLift 3 (fSet 6 (fPop 2)) p (tsQ A) (syE c n (us ++ [x]) p (some (.sh (.int (i : Nat)))) (some (.sh (.int (j : Nat)))) o6) = some (tsQ A, syE c n us p (some (.sh (.int (i : Nat)))) (some (.sh (.int (j : Nat)))) (some (.sh (q2t x)))) := by
    unfold dLift
    rw [e1, Option.bind_some]
    exact if_pos (isPtr_self rfl)
  have d2 : dSet2 3 4 5 (fVar 6) p (tsQ A) (syE c n us p (some (.sh (.int (i : Nat)))) (some (.sh (.int (j : Nat)))) (some (.sh (q2t x)))) = some (tsQ (setM A i j x), syE c n us p (some (.sh (.int (i : Nat)))) (some (.sh (.int (j : Nat)))) (some (.sh (q2t x)))) := by
    unfold dSet2
    rw [show fVar 6 (syE c n us p (some (.sh (.int (i : Nat)))) (some (.sh (.int (j : Nat)))) (some (.sh (q2t x)))) = some (q2t x, syE c n us p (some (.sh (.int (i : Nat)))) (some (.sh (.int (j : Nat)))) (some (.sh (q2t x)))) from rfl, Option.bind_some]
    dsimp only
    rw [if_pos (isPtr_self rfl), put_q h hi hj rfl rfl]
    rfl
  have d3 : dSet2 3 5 4 (fVar 6) p (tsQ (setM A i j x)) (syE c n us p (some (.sh (.int (i : Nat)))) (some (.sh (.int (j : Nat)))) (some (.sh (q2t x)))) = some (tsQ (setM (setM A i j x) j i x), syE c n us p (some (.sh (.int (i : Nat)))) (some (.sh (.int (j : Nat)))) (some (.sh (q2t x)))) := by
    unfold dSet2
    rw [show fVar 6 (syE c n us p (some (.sh (.int (i : Nat)))) (some (.sh (.int (j : Nat)))) (some (.sh (q2t x)))) = some (q2t x, syE c n us p (some (.sh (.int (i : Nat)))) (some (.sh (.int (j : Nat)))) (some (.sh (q2t x)))) from rfl, Option.bind_some]
    dsimp only
    rw [if_pos (isPtr_self rfl), put_q (h.set hi hx) hj hi rfl rfl]
    rfl
  unfold syIn dSeq
  rw [d1, Option.bind_some]
  dsimp only
  rw [d2, Option.bind_some]
  exact d3
theorem sy_in {c : Int} {n i : Nat} (hi : i < n) : ∀ (cnt j : Nat) (A : List (List Rat)) (us : List Rat), j + cnt = n → cnt ≤ us.length → ShT n 1 9 A → (∀ x ∈ us, Lq 1 9 x) →
    ∃ A' us', ShT n 1 9 A' ∧ (∀ x ∈ us', Lq 1 9 x) ∧ us'.length + cnt = us.length ∧ ∀ (p : Addr) (o5 o6 : Option Sl), ∃ o5' o6', loopD 3 (gnName 5) syIn ((List.range' j cnt).map fun (k : Nat) => T.int k) p (tsQ A) (syE c n us p (some (.sh (.int (i : Nat)))) o5 o6) = some (tsQ A', syE c n us' p (some (.sh (.int (i : Nat)))) o5' o6')
  | 0, j, A, us, _, _, h, hu => ⟨A, us, h, hu, by omega, fun p o5 o6 => ⟨o5, o6, rfl⟩⟩
  | cnt + 1, j, A, us, hj, hl, h, hu => by
    obtain ⟨vs, x, rfl⟩ : ∃ vs x, us = vs ++ [x] := ⟨us.dropLast, us.getLast (fun z => by rw [z] at hl; simp at hl), (List.dropLast_concat_getLast _).symm⟩
    rw [List.length_append] at hl
    simp only [List.length_cons, List.length_nil] at hl
    have hx := hu x (List.mem_append_right _ List.mem_cons_self)
    obtain ⟨A', us', h1, h2, h3, h4⟩ := sy_in hi cnt (j + 1) (setM (setM A i j x) j i x) vs (by omega) (by omega) ((h.set hi hx).set (by omega) hx) (fun y hy => hu y (List.mem_append_left _ hy))
    refine ⟨A', us', h1, h2, by rw [List.length_append]; simp only [List.length_cons, List.length_nil]; omega, fun p o5 o6 => ?_⟩
    obtain ⟨p5, p6, h5⟩ := h4 p (some (.sh (.int (j : Nat)))) (some (.sh (q2t x)))
    refine ⟨p5, p6, ?_⟩
    rw [List.range'_succ, List.map_cons, loopD, show gnName 5 (.int (j : Nat)) (syE c n (vs ++ [x]) p (some (.sh (.int (i : Nat)))) o5 o6) = some (syE c n (vs ++ [x]) p (some (.sh (.int (i : Nat)))) (some (.sh (.int (j : Nat)))) o6) from rfl, Option.bind_some, if_pos (isPtr_self rfl), sy_turn h hi (by omega) hx p o6, Option.bind_some]
    exact h5
noncomputable def tri : Nat → Nat
  | 0 => 0
  | k + 1 => tri k + (k + 1)
theorem sy_out {c : Int} {n : Nat} (hn : n ≤ 4) : ∀ (cnt i : Nat) (A : List (List Rat)) (us : List Rat), i + cnt = n → us.length = tri cnt → ShT n 1 9 A → (∀ x ∈ us, Lq 1 9 x) →
    ∃ A', ShT n 1 9 A' ∧ ∀ (p : Addr) (o4 o5 o6 : Option Sl), ∃ τ', loopD 3 (gnName 4) syOut ((List.range' i cnt).map fun (k : Nat) => T.int k) p (tsQ A) (syE c n us p o4 o5 o6) = some (tsQ A', τ')
  | 0, i, A, us, _, _, h, _ => ⟨A, h, fun p o4 o5 o6 => ⟨_, rfl⟩⟩
  | cnt + 1, i, A, us, hi, hl, h, hu => by
    rw [tri] at hl
    obtain ⟨A1, us1, h1, h2, h3, h4⟩ := sy_in (c := c) (n := n) (i := i) (by omega) (n - i) i A us (by omega) (by omega) h hu
    obtain ⟨A', g1, g2⟩ := sy_out (c := c) hn cnt (i + 1) A1 us1 (by omega) (by omega) h1 h2
    refine ⟨A', g1, fun p o4 o5 o6 => ?_⟩
    obtain ⟨p5, p6, h5⟩ := h4 p o5 o6
    obtain ⟨τ', g3⟩ := g2 p (some (.sh (.int (i : Nat)))) p5 p6
    refine ⟨τ', ?_⟩
    have er : fiRng2 (fCons (fVar 4) (fCons (fVar 1) fNil)) (syE c n us p (some (.sh (.int (i : Nat)))) o5 o6) = some ((List.range' i (n - i)).map fun (k : Nat) => T.int k, syE c n us p (some (.sh (.int (i : Nat)))) o5 o6) := by
      have ea := arg2 (f := fVar 4) (g := fVar 1) (τ := syE c n us p (some (.sh (.int (i : Nat)))) o5 o6) (t := .int (i : Nat)) (u := .int (n : Nat)) rfl rfl
      unfold fiRng2
      rw [ea, Option.bind_some]
      dsimp only
      rw [if_pos ⟨⟨by omega, by omega⟩, by omega, by omega⟩, upTo_range, show (((n : Nat) : Int) - ((i : Nat) : Int)).toNat = n - i by omega, List.range'_eq_map_range, List.map_map]
      rfl
    have eo : syOut p (tsQ A) (syE c n us p (some (.sh (.int (i : Nat)))) o5 o6) = some (tsQ A1, syE c n us1 p (some (.sh (.int (i : Nat)))) p5 p6) := by
      unfold syOut dFor
      rw [er, Option.bind_some]
      dsimp only
      rw [if_pos (isPtr_self rfl)]
      exact h5
    rw [List.range'_succ, List.map_cons, loopD, show gnName 4 (.int (i : Nat)) (syE c n us p o4 o5 o6) = some (syE c n us p (some (.sh (.int (i : Nat)))) o5 o6) from rfl, Option.bind_some, if_pos (isPtr_self rfl), eo, Option.bind_some]
    exact g3
theorem flat_one (x : T) : ∀ n : Nat, (List.replicate n [x]).flatten = List.replicate n x
  | 0 => rfl
  | n + 1 => by rw [List.replicate_succ, List.flatten_cons, flat_one x n, List.replicate_succ]; rfl
theorem sy_num {c : Int} {n : Nat} {xs : List Rat} (hn : n ≤ 4) (htri : ((n : Int) * ((n : Int) + 1)).fdiv 2 = ((tri n : Nat) : Int)) (x1 : dSmO [.int c, .int ((tri n : Nat) : Int)] = some (rowV xs)) : syNum [some (.sh (.int c)), some (.sh (.int (n : Nat))), none, none, none, none, none] = some (rowV xs, [some (.sh (.int c)), some (.sh (.int (n : Nat))), none, none, none, none, none]) := by
  have hnB : ((n : Nat) : Int).natAbs < B := small_B (by omega) (by omega)
  have hnB1 : (((n : Nat) : Int) + 1).natAbs < B := small_B (by omega) (by omega)
  have ea := arg2 (f := fVar 0) (g := fOp gDiv (fOp gMulI (fVar 1) (fOp gAdd (fVar 1) (fC (.int 1)))) (fC (.int 2))) (τ := [some (.sh (.int c)), some (.sh (.int (n : Nat))), none, none, none, none, none]) (t := .int c) (u := .int (((n : Int) * ((n : Int) + 1)).fdiv 2)) rfl (op_q (op_q rfl (op_q rfl rfl rfl) (mul_q hnB hnB1)) rfl (div_q (by decide) (by decide +kernel)))
  rw [htri] at ea
  unfold syNum fCallO
  rw [ea, Option.bind_some]
  dsimp only
  rw [x1]
  rfl
theorem sy_make {c : Int} {n : Nat} {xs : List Rat} (hn : n ≤ 4) : syMake [some (.sh (.int c)), some (.sh (.int (n : Nat))), some (.own (xs.map q2t)), none, none, none, none] = some (.lst ((tsQ (List.replicate n (List.replicate n 0))).map rowO), [some (.sh (.int c)), some (.sh (.int (n : Nat))), some (.own (xs.map q2t)), none, none, none, none]) := by
  have l1 := le1
  have l2 := le2
  have ei := rng1_eq (f := fVar 1) (τ := [some (.sh (.int c)), some (.sh (.int (n : Nat))), some (.own (xs.map q2t)), none, none, none, none]) (n := n) rfl (by omega)
  have er : ∀ k : Nat, fRepO (fLst (fCons (fTup (fCons (fC (.int 0)) (fCons (fC (.int 1)) fNil))) fNil)) (fVar 1) [some (.sh (.int (k : Nat))), some (.sh (.int (n : Nat)))] = some (rowO ((List.replicate n (0 : Rat)).map q2t), [some (.sh (.int (k : Nat))), some (.sh (.int (n : Nat)))]) := fun k => by
    have t1 : fTup (fCons (fC (.int 0)) (fCons (fC (.int 1)) fNil)) [some (.sh (.int (k : Nat))), some (.sh (.int (n : Nat)))] = some (q2t 0, [some (.sh (.int (k : Nat))), some (.sh (.int (n : Nat)))]) := by
      unfold fTup
      rw [arg2 (f := fC (.int 0)) (g := fC (.int 1)) rfl rfl, Option.bind_some]
      exact if_pos l2
    have t2 : fLst (fCons (fTup (fCons (fC (.int 0)) (fCons (fC (.int 1)) fNil))) fNil) [some (.sh (.int (k : Nat))), some (.sh (.int (n : Nat)))] = some (.lst [q2t 0], [some (.sh (.int (k : Nat))), some (.sh (.int (n : Nat)))]) := by
      unfold fLst
      rw [arg1 t1, Option.bind_some]
      exact if_pos l1
    unfold fRepO
    rw [t2, Option.bind_some]
    dsimp only
    rw [show fVar 1 [some (Sl.sh (T.int (k : Nat))), some (Sl.sh (T.int (n : Nat)))] = some (.int (n : Nat), [some (Sl.sh (T.int (k : Nat))), some (Sl.sh (T.int (n : Nat)))]) from rfl, Option.bind_some]
    dsimp only
    rw [if_pos ⟨⟨by omega, by omega⟩, by rw [Int.toNat_natCast, List.length_cons, List.length_nil, Nat.zero_add, Nat.one_mul]; exact small_le (by omega)⟩, Int.toNat_natCast]
    have : (List.replicate n [q2t 0]).flatten = (List.replicate n (0 : Rat)).map q2t := by
      rw [List.map_replicate]
      exact flat_one (q2t 0) n
    rw [this]
  have ec := compo_mapA (φ := fun k : Nat => T.int (k : Nat)) (fe := fRepO (fLst (fCons (fTup (fCons (fC (.int 0)) (fCons (fC (.int 1)) fNil))) fNil)) (fVar 1)) (g := fun _ => rowO ((List.replicate n (0 : Rat)).map q2t)) (ρ := [some (.sh (.int (n : Nat)))]) rfl (List.range n) none [] (fun k _ => er k) (by rw [List.length_nil, List.length_range]; exact small_le (by omega))
  have e := fCompO_eq (no := 1) (cap := [1]) (fg := gnName 0) (ft := fAlways) (fe := fRepO (fLst (fCons (fTup (fCons (fC (.int 0)) (fCons (fC (.int 1)) fNil))) fNil)) (fVar 1)) ei rfl rfl ec
  rw [List.nil_append, List.map_const', List.length_range] at e
  unfold tsQ
  rw [List.map_replicate, List.map_replicate]
  exact e
theorem sy_all {c : Int} {n : Nat} (hn : n ≤ 4) {xs : List Rat} {A : List (List Rat)} (hl : ∀ (p : Addr) (o4 o5 o6 : Option Sl), ∃ τ', loopD 3 (gnName 4) syOut ((List.range' 0 n).map fun (k : Nat) => T.int k) p (tsQ (List.replicate n (List.replicate n 0))) (syE c n xs p o4 o5 o6) = some (tsQ A, τ')) : ∀ p : Addr, (syAll p (tsQ (List.replicate n (List.replicate n 0))) (syE c n xs p none none none)).map (·.1) = some (tsQ A) := fun p => by
  obtain ⟨τ', g⟩ := hl p none none none
  have ei := rng1_eq (f := fVar 1) (τ := syE c n xs p none none none) (n := n) rfl (by omega)
  rw [List.range_eq_range'] at ei
  have ed : dFor 3 (fiRng1 (fCons (fVar 1) fNil)) (gnName 4) syOut p (tsQ (List.replicate n (List.replicate n 0))) (syE c n xs p none none none) = some (tsQ A, τ') := by
    unfold dFor
    rw [ei, Option.bind_some]
    dsimp only
    rw [if_pos (isPtr_self rfl)]
    exact g
  unfold syAll dSeq
  rw [ed]
  rfl
theorem deep_q {x : Nat} {f : FO'} {fd : FD} {τ τ1 : TEnv} {Z R : List (List T)} (e2 : f τ = some (.lst (Z.map rowO), τ1)) (hl : x < τ1.length) (hall : ∀ p : Addr, (fd p Z (τ1.set x (some (.sh (.ptr p))))).map (·.1) = some R) : fDeepO x f fd τ = some (.lst (R.map rowO)) := by
  unfold fDeepO
  rw [e2, Option.bind_some]
  dsimp only
  rw [if_pos hl, rowsOf_map, Option.bind_some]
  exact pickD_eq hall (fun r' hr' => by
    have := (hr' 0).symm.trans (hall 0)
    injection this)
theorem seqO_q {f : FS} {g : FSO} {τ τ' : TEnv} (h : f τ = some (.nx τ')) : fSeqO f g τ = g τ' := by
  unfold fSeqO
  rw [h]
  rfl
theorem dOfO_q {m n : Nat} {fb : FSO} {ts : List T} {o : O} (hl : ts.length = n) (h : fb (ts.map (fun t => some (Sl.sh t)) ++ List.replicate (m - n) none) = some o) : dOfO m n fb ts = some o := by
  unfold dOfO
  rw [if_pos hl]
  exact h
theorem ev_sy (c : Int) (n : Nat) (hn : n ≤ 4) : ∃ A, ShT n 1 9 A ∧ dSy [.int c, .int (n : Nat)] = some (.lst ((tsQ A).map rowO)) := by
  have htri : ((n : Int) * ((n : Int) + 1)).fdiv 2 = ((tri n : Nat) : Int) := by
    rcases (by omega : n = 0 ∨ n = 1 ∨ n = 2 ∨ n = 3 ∨ n = 4) with rfl | rfl | rfl | rfl | rfl <;> decide
  have htl : tri n ≤ 10 := by rcases (by omega : n = 0 ∨ n = 1 ∨ n = 2 ∨ n = 3 ∨ n = 4) with rfl | rfl | rfl | rfl | rfl <;> decide
  obtain ⟨xs, x1, x2, x3⟩ := ev_smO c (tri n) (by omega)
  have e1 := sy_num (c := c) (xs := xs) hn htri x1
  have e1' := set_o (i := 2) e1
  have e1'' : O.trs ((xs.map q2t).map O.val) = xs.map q2t := TM.trs_vals _
  rw [e1''] at e1'
  have h0 : ShT n 1 9 (List.replicate n (List.replicate n 0)) := ⟨List.length_replicate, fun r hr => by rw [(List.mem_replicate.mp hr).2]; exact List.length_replicate, fun r hr x hx => by
    rw [(List.mem_replicate.mp hr).2] at hx
    rw [(List.mem_replicate.mp hx).2]
    exact (Lq.zero 1).mono (by decide)⟩
  obtain ⟨A, hA, hl⟩ := sy_out (c := c) hn n 0 (List.replicate n (List.replicate n 0)) xs (by omega) x2 h0 x3
  refine ⟨A, hA, ?_⟩
  have e2 := sy_make (c := c) (xs := xs) hn
  refine dOfO_q rfl ?_
  rw [b_sy_eq]
  have e5 : fSetO 2 syNum ([T.int c, T.int (n : Nat)].map (fun t => some (Sl.sh t)) ++ List.replicate (7 - 2) none) = some (.nx [some (.sh (.int c)), some (.sh (.int (n : Nat))), some (.own (xs.map q2t)), none, none, none, none]) := e1'
  rw [seqO_q e5]
  exact deep_q e2 (show 3 < 7 by decide) (sy_all hn hl)
end My

namespace My
open PySem PySem.Spec PyProof.Rows L2 TM Qm Rq
noncomputable abbrev dSq : List T → Option O := dOfO 6 2 (b__law_squared dSmP dLw mMix mPl)
noncomputable def sqNum : FE := fCall dSmP (fCons (fVar 0) (fCons (fOp gMulI (fVar 1) (fVar 1)) fNil))
noncomputable def sqCut : FE := fSl (fVar 1) (fPart (fOp gMulI (fVar 0) (fVar 2))) (fPart (fOp gAdd (fOp gMulI (fVar 0) (fVar 2)) (fVar 2)))
noncomputable def sqRows : FE := fComp 1 [2, 1] (fiRng1 (fCons (fVar 1) fNil)) (gnName 0) fAlways sqCut
noncomputable def sqIn : FO' := fCompO 1 [0] (fiSeq (fVar 1)) (gnName 0) fAlways (fVal (fCall dLw (fCons (fVar 1) (fCons (fVar 0) fNil))))
noncomputable def sqMake : FO' := fCompO 1 [3] (fiSeq (fVar 3)) (gnName 0) fAlways sqIn
noncomputable def sqTest : FT := fTB (fOp gEq (fOp gMod (fCall mMix (fCons (fVar 0) (fCons (fC (.int 77)) fNil))) (fC (.int 2))) (fC (.int 0)))
noncomputable def sqAdd : FE := fCall mPl (fCons (fOp gIx (fOp gIx (fVar 4) (fVar 5)) (fVar 5)) (fCons (fTup (fCons (fC (.int 1)) (fCons (fC (.int 1)) fNil))) fNil))
noncomputable def sqAll : FD := dSeq (dIf 4 sqTest (dFor 4 (fiRng1 (fCons (fVar 1) fNil)) (gnName 5) (dSet2v 4 5 5 sqAdd)) dNext) dNext
theorem b_sq_eq : b__law_squared dSmP dLw mMix mPl = fSeqO (fSet 2 sqNum) (fSeqO (fSet 3 sqRows) (fDeepO 4 sqMake sqAll)) := rfl
noncomputable abbrev sqE (c : Int) (n : Nat) (u r : T) (p : Addr) (o5 : Option Sl) : TEnv := [some (.sh (.int c)), some (.sh (.int (n : Nat))), some (.sh u), some (.sh r), some (.sh (.ptr p)), o5]
theorem lq_one : Lq 2 1 1 := ⟨(DD 2 : Int), by
  have h : ((DD 2 : Nat) : Int) ≠ 0 := by decide +kernel
  exact (Rat.divInt_self' h).symm, by rw [Int.natAbs_natCast, Nat.one_mul]; exact Nat.le_refl _⟩
theorem sq_turn {c : Int} {n k m : Nat} {A : List (List Rat)} {u r : T} (h : ShT n 2 m A) (hk : k < n) (hm : m ≤ 1000) (p : Addr) :
    dSet2v 4 5 5 sqAdd p (tsQ A) (sqE c n u r p (some (.sh (.int (k : Nat))))) = some (tsQ (setM A k k ((A.getD k []).getD k 0 + 1)), sqE c n u r p (some (.sh (.int (k : Nat))))) := by
  have hga : A[k]? = some (A.getD k []) := by rw [List.getD_eq_getElem?_getD, List.getElem?_eq_getElem (by rw [h.len]; exact hk)]; rfl
  have hmem : A.getD k [] ∈ A := List.mem_of_getElem? hga
  have hw := h.wd _ hmem
  have hgb : (A.getD k [])[k]? = some ((A.getD k []).getD k 0) := by rw [List.getD_eq_getElem?_getD (l := A.getD k []), List.getElem?_eq_getElem (by omega)]; rfl
  have hx := h.lq _ hmem _ (List.mem_of_getElem? hgb)
  generalize hX : (A.getD k []).getD k 0 = x at *
  have sx : Sm x := sm_lq hx (by decide) (Nat.le_trans hm (by decide))
  have s1 : Sm (1 : Rat) := ⟨by decide +kernel, by decide +kernel⟩
  have l2 := le2
  have hv : ((hide (sqE c n u r p (some (.sh (.int (k : Nat)))))).set 4 (some (.sh (.lst ((tsQ A).map T.lst))))) = [some (.sh (.int c)), some (.sh (.int (n : Nat))), some (.sh u), some (.sh r), some (.sh (.lst ((tsQ A).map T.lst))), some (.sh (.int (k : Nat)))] := rfl
  have i1 : gIx (.lst ((tsQ A).map T.lst)) (.int (k : Nat)) = some (rowT (A.getD k [])) := ix_at (by unfold tsQ; rw [List.map_map, List.getElem?_map, hga]; rfl)
  have i2 : gIx (rowT (A.getD k [])) (.int (k : Nat)) = some (q2t x) := ix_at (L := (A.getD k []).map q2t) (by rw [List.getElem?_map, hgb]; rfl)
  have e1 : sqAdd [some (.sh (.int c)), some (.sh (.int (n : Nat))), some (.sh u), some (.sh r), some (.sh (.lst ((tsQ A).map T.lst))), some (.sh (.int (k : Nat)))] = some (q2t (x + 1), [some (.sh (.int c)), some (.sh (.int (n : Nat))), some (.sh u), some (.sh r), some (.sh (.lst ((tsQ A).map T.lst))), some (.sh (.int (k : Nat)))]) := by
    have t1 : fTup (fCons (fC (.int 1)) (fCons (fC (.int 1)) fNil)) [some (.sh (.int c)), some (.sh (.int (n : Nat))), some (.sh u), some (.sh r), some (.sh (.lst ((tsQ A).map T.lst))), some (.sh (.int (k : Nat)))] = some (q2t 1, [some (.sh (.int c)), some (.sh (.int (n : Nat))), some (.sh u), some (.sh r), some (.sh (.lst ((tsQ A).map T.lst))), some (.sh (.int (k : Nat)))]) := by
      unfold fTup
      rw [arg2 (f := fC (.int 1)) (g := fC (.int 1)) rfl rfl, Option.bind_some]
      exact if_pos l2
    exact call_q (g := mPl) [q2t x, q2t 1] (arg2 (op_q (op_q rfl rfl i1) rfl i2) t1) (mPl_q sx s1)
  unfold dSet2v
  rw [hv, e1, Option.bind_some]
  have hp := put_q (x := x + 1) h hk hk (i := 5) (j := 5) (τ := sqE c n u r p (some (.sh (.int (k : Nat))))) rfl rfl
  show ((dPut 5 5 (q2t (x + 1)) (sqE c n u r p (some (.sh (.int (k : Nat))))) (tsQ A)).bind fun z => some (z, sqE c n u r p (some (.sh (.int (k : Nat)))))) = _
  rw [hp]
  rfl
theorem ShT.mono {n k m m' : Nat} {A : List (List Rat)} (h : ShT n k m A) (hm : m ≤ m') : ShT n k m' A := ⟨h.len, h.wd, fun r hr x hx => (h.lq r hr x hx).mono hm⟩
theorem sq_loop {c : Int} {n : Nat} {u r : T} : ∀ (cnt k m : Nat) (A : List (List Rat)), k + cnt = n → m + cnt ≤ 1000 → ShT n 2 m A →
    ∃ A', ShT n 2 (m + cnt) A' ∧ ∀ (p : Addr) (o5 : Option Sl), ∃ o5', loopD 4 (gnName 5) (dSet2v 4 5 5 sqAdd) ((List.range' k cnt).map fun (i : Nat) => T.int i) p (tsQ A) (sqE c n u r p o5) = some (tsQ A', sqE c n u r p o5')
  | 0, k, m, A, _, _, h => ⟨A, h, fun p o5 => ⟨o5, rfl⟩⟩
  | cnt + 1, k, m, A, hk, hm, h => by
    have hga : A[k]? = some (A.getD k []) := by rw [List.getD_eq_getElem?_getD, List.getElem?_eq_getElem (by rw [h.len]; omega)]; rfl
    have hmem : A.getD k [] ∈ A := List.mem_of_getElem? hga
    have hgb : (A.getD k [])[k]? = some ((A.getD k []).getD k 0) := by rw [List.getD_eq_getElem?_getD (l := A.getD k []), List.getElem?_eq_getElem (by rw [h.wd _ hmem]; omega)]; rfl
    have hx := (h.lq _ hmem _ (List.mem_of_getElem? hgb)).add lq_one
    obtain ⟨A', h1, h2⟩ := sq_loop (c := c) (n := n) (u := u) (r := r) cnt (k + 1) (m + 1) (setM A k k ((A.getD k []).getD k 0 + 1)) (by omega) (by omega) ((h.mono (Nat.le_succ m)).set (by omega) hx)
    refine ⟨A', by rw [show m + (cnt + 1) = m + 1 + cnt by omega]; exact h1, fun p o5 => ?_⟩
    obtain ⟨o5', h3⟩ := h2 p (some (.sh (.int (k : Nat))))
    refine ⟨o5', ?_⟩
    rw [List.range'_succ, List.map_cons, loopD, show gnName 5 (.int (k : Nat)) (sqE c n u r p o5) = some (sqE c n u r p (some (.sh (.int (k : Nat))))) from rfl, Option.bind_some, if_pos (isPtr_self rfl), sq_turn h (by omega) (by omega) p, Option.bind_some]
    exact h3
theorem sq_num {c : Int} {n : Nat} {xs : List Rat} (hn : n ≤ 4) (x1 : dSmP [.int c, .int ((n * n : Nat) : Int)] = some (rowT xs)) : sqNum [some (.sh (.int c)), some (.sh (.int (n : Nat))), none, none, none, none] = some (rowT xs, [some (.sh (.int c)), some (.sh (.int (n : Nat))), none, none, none, none]) := by
  have hnB : ((n : Nat) : Int).natAbs < B := small_B (by omega) (by omega)
  rw [Int.natCast_mul] at x1
  exact call_q _ (arg2 (f := fVar 0) (g := fOp gMulI (fVar 1) (fVar 1)) rfl (op_q rfl rfl (mul_q hnB hnB))) x1
theorem sq_rows {c : Int} {n : Nat} {xs : List Rat} (hn : n ≤ 4) (hx : xs.length = n * n) : sqRows [some (.sh (.int c)), some (.sh (.int (n : Nat))), some (.sh (rowT xs)), none, none, none] = some (tabT (cutM xs n n), [some (.sh (.int c)), some (.sh (.int (n : Nat))), some (.sh (rowT xs)), none, none, none]) := by
  have hnB : ((n : Nat) : Int).natAbs < B := small_B (by omega) (by omega)
  have hc := comp_mapA (φ := fun j : Nat => T.int (j : Nat)) (fe := sqCut) (g := fun k => rowT ((xs.drop (k * n)).take n)) (ρ := [some (.sh (rowT xs)), some (.sh (.int (n : Nat)))]) rfl (List.range n) none [] (fun k hk => by
    have hkm := List.mem_range.mp hk
    have hkB : ((k : Nat) : Int).natAbs < B := small_B (by omega) (by omega)
    have hcut := cut_q xs k n n hkm hx
    refine sl_q (lo := some ((k : Int) * (n : Int))) (hi := some ((k : Int) * (n : Int) + (n : Int))) rfl (part_q (op_q rfl rfl (mul_q hkB hnB))) (part_q (op_q (op_q rfl rfl (mul_q hkB hnB)) rfl rfl)) ?_
    show some (T.lst (cutT (xs.map q2t) _ _)) = _
    rw [hcut]
    rfl) (small8t (by rw [List.length_range]; omega))
  have e := fComp_eq (no := 1) (cap := [2, 1]) (fi := fiRng1 (fCons (fVar 1) fNil)) (fg := gnName 0) (ft := fAlways) (τ := [some (.sh (.int c)), some (.sh (.int (n : Nat))), some (.sh (rowT xs)), none, none, none]) (rng1_eq (f := fVar 1) (n := n) rfl (by omega)) rfl rfl hc
  rw [List.nil_append] at e
  have er : tabT (cutM xs n n) = T.lst ((List.range n).map fun k => rowT ((xs.drop (k * n)).take n)) := by
    unfold tabT cutM
    rw [List.map_map]
    rfl
  rw [er]
  exact e
noncomputable def sqT (R : List (List Rat)) : List (List Rat) := R.map fun r => R.map fun s => wsum r s
theorem sq_make {c : Int} {n : Nat} {u : T} {R : List (List Rat)} (hl : R.length ≤ 4) (h : ∀ r ∈ R, Gd 1 9 r) : sqMake [some (.sh (.int c)), some (.sh (.int (n : Nat))), some (.sh u), some (.sh (tabT R)), none, none] = some (.lst ((tsQ (sqT R)).map rowO), [some (.sh (.int c)), some (.sh (.int (n : Nat))), some (.sh u), some (.sh (tabT R)), none, none]) := by
  have f1 : Few 1 9 := ⟨by decide, by decide⟩
  have hin : ∀ r ∈ R, sqIn [some (.sh (rowT r)), some (.sh (tabT R))] = some (rowO ((R.map fun s => wsum r s).map q2t), [some (.sh (rowT r)), some (.sh (tabT R))]) := fun r hr => by
    have hc := compo_mapA (φ := rowT) (fe := fVal (fCall dLw (fCons (fVar 1) (fCons (fVar 0) fNil)))) (g := fun s => O.val (q2t (wsum r s))) (ρ := [some (.sh (rowT r))]) rfl R none [] (fun s hs => val_e (call_q _ (arg2 (f := fVar 1) (g := fVar 0) rfl rfl) (ev_lw (h r hr) (h s hs) f1 f1))) (small8 (by omega))
    have e := fCompO_eq (no := 1) (cap := [0]) (fi := fiSeq (fVar 1)) (fg := gnName 0) (ft := fAlways) (τ := [some (.sh (rowT r)), some (.sh (tabT R))]) (ts := R.map rowT) rfl rfl rfl hc
    rw [List.nil_append] at e
    have er : rowO ((R.map fun s => wsum r s).map q2t) = O.lst (R.map fun s => O.val (q2t (wsum r s))) := by
      unfold rowO
      rw [List.map_map, List.map_map]
      rfl
    rw [er]
    exact e
  have hc := compo_mapA (φ := rowT) (fe := sqIn) (g := fun r => rowO ((R.map fun s => wsum r s).map q2t)) (ρ := [some (.sh (tabT R))]) rfl R none [] hin (small8 (by omega))
  have e := fCompO_eq (no := 1) (cap := [3]) (fi := fiSeq (fVar 3)) (fg := gnName 0) (ft := fAlways) (τ := [some (.sh (.int c)), some (.sh (.int (n : Nat))), some (.sh u), some (.sh (tabT R)), none, none]) (ts := R.map rowT) rfl rfl rfl hc
  rw [List.nil_append] at e
  have er : (tsQ (sqT R)).map rowO = R.map fun r => rowO ((R.map fun s => wsum r s).map q2t) := by
    unfold tsQ sqT
    rw [List.map_map, List.map_map]
    rfl
  rw [er]
  exact e
theorem sq_all {c : Int} {n : Nat} (hn : n ≤ 4) {u r : T} {A : List (List Rat)} (h : ShT n 2 324 A) : ∃ A', ShT n 2 328 A' ∧ ∀ p : Addr, (sqAll p (tsQ A) (sqE c n u r p none)).map (·.1) = some (tsQ A') := by
  obtain ⟨v, hv⟩ : ∃ v : Int, mMix [.int c, .int 77] = some (.int v) := ⟨_, mMix_eq (c := c) (k := 77) (small_B (by decide) (by decide))⟩
  have ht : ∀ p, sqTest (sqE c n u r p none) = some (decide (v.fmod 2 = 0), sqE c n u r p none) := fun p =>
    tb_q (op_q (op_q (call_q _ (arg2 (f := fVar 0) (g := fC (.int 77)) rfl rfl) hv) rfl (mod_q (N := v) (d := 2) (by decide) (by decide +kernel))) rfl (gEq_int _ _))
  by_cases hc : v.fmod 2 = 0
  · obtain ⟨A', h1, h2⟩ := sq_loop (c := c) (n := n) (u := u) (r := r) n 0 324 A (by omega) (by omega) h
    refine ⟨A', h1.mono (by omega), fun p => ?_⟩
    obtain ⟨o5', h3⟩ := h2 p none
    have ei := rng1_eq (f := fVar 1) (τ := sqE c n u r p none) (n := n) rfl (by omega)
    rw [List.range_eq_range'] at ei
    have ed : dFor 4 (fiRng1 (fCons (fVar 1) fNil)) (gnName 5) (dSet2v 4 5 5 sqAdd) p (tsQ A) (sqE c n u r p none) = some (tsQ A', sqE c n u r p o5') := by
      unfold dFor
      rw [ei, Option.bind_some]
      dsimp only
      rw [if_pos (isPtr_self rfl)]
      exact h3
    have hq := ht p
    rw [decide_eq_true hc] at hq
    unfold sqAll dSeq dIf
    rw [hq, Option.bind_some]
    dsimp only
    rw [if_pos (isPtr_self rfl), if_pos rfl, ed]
    rfl
  · refine ⟨A, h.mono (by omega), fun p => ?_⟩
    have hq := ht p
    rw [decide_eq_false hc] at hq
    unfold sqAll dSeq dIf
    rw [hq, Option.bind_some]
    dsimp only
    rw [if_pos (isPtr_self rfl), if_neg (by decide)]
    rfl
theorem ev_sq (c : Int) (n : Nat) (hn : n ≤ 4) : ∃ A, ShT n 2 328 A ∧ dSq [.int c, .int (n : Nat)] = some (.lst ((tsQ A).map rowO)) := by
  have hnn : n * n ≤ 16 := Nat.le_trans (Nat.mul_le_mul hn hn) (by decide)
  obtain ⟨xs, x1, x2, x3⟩ := ev_smP c (n * n) (by omega)
  have e1 := sq_num (c := c) hn x1
  have e2 := sq_rows (c := c) hn x2
  have hR : (cutM xs n n).length = n := by unfold cutM; rw [List.length_map, List.length_range]
  have hW : ∀ r ∈ cutM xs n n, r.length = n := fun r hr => by
    unfold cutM at hr
    obtain ⟨k, hk, rfl⟩ := List.mem_map.mp hr
    have hkm := List.mem_range.mp hk
    have hkw : k * n + n ≤ n * n := by
      have : (k + 1) * n ≤ n * n := Nat.mul_le_mul_right n hkm
      rw [Nat.add_mul, Nat.one_mul] at this
      exact this
    rw [List.length_take, List.length_drop, x2]
    omega
  have hG : ∀ r ∈ cutM xs n n, Gd 1 9 r := fun r hr => ⟨by rw [hW r hr]; omega, fun x hx => by
    unfold cutM at hr
    obtain ⟨k, hk, rfl⟩ := List.mem_map.mp hr
    exact x3 x (List.mem_of_mem_drop (List.mem_of_mem_take hx))⟩
  have e3 := sq_make (c := c) (n := n) (u := rowT xs) (R := cutM xs n n) (by omega) hG
  have hS : ShT n 2 324 (sqT (cutM xs n n)) := by
    refine ⟨by unfold sqT; rw [List.length_map]; exact hR, fun r hr => ?_, fun r hr x hx => ?_⟩
    · unfold sqT at hr
      obtain ⟨a, ha, rfl⟩ := List.mem_map.mp hr
      rw [List.length_map]; exact hR
    · unfold sqT at hr
      obtain ⟨a, ha, rfl⟩ := List.mem_map.mp hr
      obtain ⟨b, hb, rfl⟩ := List.mem_map.mp hx
      refine (wsum_lq (hG a ha).lq (hG b hb).lq).mono ?_
      rw [hW a ha]
      omega
  obtain ⟨A', h1, h2⟩ := sq_all (c := c) (n := n) hn (u := rowT xs) (r := tabT (cutM xs n n)) hS
  refine ⟨A', h1, dOfO_q rfl ?_⟩
  rw [b_sq_eq]
  have q1 : fSet 2 sqNum ([T.int c, T.int (n : Nat)].map (fun t => some (Sl.sh t)) ++ List.replicate (6 - 2) none) = some (.nx [some (.sh (.int c)), some (.sh (.int (n : Nat))), some (.sh (rowT xs)), none, none, none]) := set_q e1 rfl
  have q2 : fSet 3 sqRows [some (.sh (.int c)), some (.sh (.int (n : Nat))), some (.sh (rowT xs)), none, none, none] = some (.nx [some (.sh (.int c)), some (.sh (.int (n : Nat))), some (.sh (rowT xs)), some (.sh (tabT (cutM xs n n))), none, none]) := set_q e2 rfl
  rw [seqO_q q1, seqO_q q2]
  exact deep_q e3 (show 4 < 6 by decide) h2
end My

namespace My
open PySem PySem.Spec PyProof.Rows L2 TM Qm Rq
noncomputable abbrev dSyP : List T → Option T := fun ts => (dSy ts).bind fun o => some o.tr
noncomputable abbrev dSqP : List T → Option T := fun ts => (dSq ts).bind fun o => some o.tr
noncomputable abbrev dSoP : List T → Option T := fun ts => (dSo ts).bind fun o => some o.tr
theorem bds1 {n : Nat} (hn : n ≤ 4) : BdsC n (DD 1) (9 * DD 1) := ⟨⟨hn, by decide +kernel, by decide +kernel, by decide +kernel, by decide +kernel⟩, by decide +kernel, by decide +kernel⟩
theorem bds2 {n : Nat} (hn : n ≤ 4) : BdsC n (DD 2) (328 * DD 2) := ⟨⟨hn, by decide +kernel, by decide +kernel, by decide +kernel, by decide +kernel⟩, by decide +kernel, by decide +kernel⟩
theorem ShT.tb {n k m : Nat} {A : List (List Rat)} (h : ShT n k m A) (hn : n ≤ 4) (f : Few k m) : TbG n (DD k) (m * DD k) A :=
  ⟨h.wd, fun r hr => Gn.of ⟨by rw [h.wd r hr]; omega, h.lq r hr⟩ f⟩
theorem tsQ_tr (A : List (List Rat)) : (O.lst ((tsQ A).map rowO)).tr = tabT A := by
  have h : O.trs ((tsQ A).map rowO) = A.map rowT := by
    induction A with
    | nil => rfl
    | cons r A ih =>
      show (rowO (r.map q2t)).tr :: O.trs ((tsQ A).map rowO) = rowT r :: A.map rowT
      rw [ih]
      congr 1
      exact congrArg T.lst (TM.trs_vals _)
  exact congrArg T.lst h
structure Told (n : Nat) (A : List (List Rat)) : Prop where
  len : A.length ≤ 4
  due : dDu [tabT A] = some (rowT (stp A 0 [] []))
  own : dSo [tabT A] = some (.lst (((stp A 0 [] []).map q2t).map .val))
theorem Told.of {n D N : Nat} (G : BdsC n D N) {A : List (List Rat)} (h : TbG n D N A) (hl : A.length = n) : Told n A :=
  ⟨by have := G.n4; omega, ev_due G h hl, ev_steps G.toBdsG h hl⟩
theorem sy_told (c : Int) (n : Nat) (hn : n ≤ 4) : ∃ A, dSyP [.int c, .int (n : Nat)] = some (tabT A) ∧ Told n A := by
  obtain ⟨A, h1, h2⟩ := ev_sy c n hn
  refine ⟨A, ?_, Told.of (bds1 hn) (h1.tb hn ⟨by decide, by decide⟩) h1.len⟩
  show (dSy _).bind _ = _
  rw [h2, Option.bind_some, tsQ_tr]
theorem sq_told (c : Int) (n : Nat) (hn : n ≤ 4) : ∃ A, dSqP [.int c, .int (n : Nat)] = some (tabT A) ∧ Told n A := by
  obtain ⟨A, h1, h2⟩ := ev_sq c n hn
  refine ⟨A, ?_, Told.of (bds2 hn) (h1.tb hn ⟨by decide, by decide⟩) h1.len⟩
  show (dSq _).bind _ = _
  rw [h2, Option.bind_some, tsQ_tr]
noncomputable def lE (ns : List Int) (k c : Int) (n : Nat) (s4 s5 s6 s7 : Option Sl) : TEnv := [some (.sh (.scr (ns.map T.int))), some (.sh (.int k)), some (.sh (.int c)), some (.sh (.int (n : Nat))), s4, s5, s6, s7]
theorem mix2 {j c d : Int} {τ : TEnv} (h : τ[2]? = some (some (.sh (.int c)))) (bj : j.natAbs < B) (hd : ¬ d = 0) : fOp gMod (fCall mMix (fCons (fVar 2) (fCons (fC (.int j)) fNil))) (fC (.int d)) τ = some (.int ((mixF c j).fmod d), τ) :=
  op_q (call_q [.int c, .int j] (arg2 (var_sh h) rfl) (mMix_eq bj)) rfl (if_pos hd)
theorem or_goL {c1 c2 : FT} {s : FS} {τ τ' τ'' : TEnv} (h1 : c1 τ = some (false, τ')) (h2 : c2 τ' = some (false, τ'')) : fIfS (fOr c1 c2) s fNext τ = some (.nx τ'') := by
  unfold fIfS fOr
  rw [h1, Option.bind_some]
  dsimp only
  rw [if_neg (by decide), h2]
  rfl
theorem not_same {f : FE} {τ : TEnv} (h : f τ = some (.bl true, τ)) : fNot (fTru f) τ = some (false, τ) := by
  unfold fNot fTru
  rw [h]
  rfl
noncomputable def lPick : FS := fIfS (fTB (fOp gEq (fOp gMod (fCall mMix (fCons (fVar 2) (fCons (fC (.int 2)) fNil))) (fC (.int 2))) (fC (.int 0)))) (fSet 4 (fCall dSqP (fCons (fVar 2) (fCons (fVar 3) fNil)))) fNext
noncomputable def lSame : FS := fIfS (fOr (fNot (fTru (fView 7 (fCall (dSame 4) (fCons (fVar 7) (fCons (fVar 6) fNil)))))) (fTB (fOp gNe (fVar 4) (fVar 5)))) (fRet (fC (.bl false))) fNext
noncomputable def lLast : FS := fIfS (fNot (fTru (fCall (dSame 4) (fCons (fCall dSoP (fCons (fVar 4) fNil)) (fCons (fVar 6) fNil))))) (fRet (fC (.bl false))) fNext
noncomputable def lBody : FS := (fSeq (fSet 2 (fCall mCell (fCons (fVar 0) (fCons (fVar 1) fNil))))
    (fSeq (fSet 3 (fOp gMod (fCall mMix (fCons (fVar 2) (fCons (fC (.int 1)) fNil))) (fC (.int 5))))
    (fSeq (fSet 4 (fCall dSyP (fCons (fVar 2) (fCons (fVar 3) fNil))))
    (fSeq lPick
    (fSeq (fSetComp 5 1 [] (fiSeq (fVar 4)) (gnName 0) fAlways (fCall dList (fCons (fVar 0) fNil)))
    (fSeq (fSet 6 (fCall dDu (fCons (fVar 4) fNil)))
    (fSeq (fSetO 7 (fCallO dSo (fCons (fVar 4) fNil)))
    (fSeq lSame
    (fSeq (fClear 7) lLast)))))))))
theorem b_law_eq : b_law mCell mMix dSyP dSqP dDu (dSame 4) dSoP dSo = fSeq (fFor (fiRng1 (fCons (fCall dMax (fCons (fC (.int 3)) (fCons (fCall dMin (fCons (fC (.int 10)) (fCons (fCall dLen (fCons (fVar 0) fNil)) fNil))) fNil))) fNil)) (gnName 1) lBody) (fRet (fC (.bl true))) := rfl
theorem l_pick {ns : List Int} {k c : Int} {n : Nat} (hn : n ≤ 4) {A : List (List Rat)} (hA : Told n A) (o5 o6 o7 : Option Sl) : ∃ A', Told n A' ∧ lPick (lE ns k c n (some (.sh (tabT A))) o5 o6 o7) = some (.nx (lE ns k c n (some (.sh (tabT A'))) o5 o6 o7)) := by
  have ht : fTB (fOp gEq (fOp gMod (fCall mMix (fCons (fVar 2) (fCons (fC (.int 2)) fNil))) (fC (.int 2))) (fC (.int 0))) (lE ns k c n (some (.sh (tabT A))) o5 o6 o7) = some (decide ((mixF c 2).fmod 2 = 0), lE ns k c n (some (.sh (tabT A))) o5 o6 o7) :=
    tb_q (op_q (mix2 rfl (small_B (by decide) (by decide)) (by decide)) rfl (gEq_int _ _))
  by_cases hz : (mixF c 2).fmod 2 = 0
  · obtain ⟨A', h1, h2⟩ := sq_told c n hn
    refine ⟨A', h2, ?_⟩
    rw [decide_eq_true hz] at ht
    have e : fSet 4 (fCall dSqP (fCons (fVar 2) (fCons (fVar 3) fNil))) (lE ns k c n (some (.sh (tabT A))) o5 o6 o7) = some (.nx (lE ns k c n (some (.sh (tabT A'))) o5 o6 o7)) := set_q (call_q [.int c, .int (n : Nat)] (arg2 rfl rfl) h1) rfl
    unfold lPick fIfS
    rw [ht, Option.bind_some]
    exact (if_pos rfl).trans e
  · rw [decide_eq_false hz] at ht
    exact ⟨A, hA, if_go ht⟩
theorem l_copy {ns : List Int} {k c : Int} {n : Nat} {A : List (List Rat)} (hl : A.length ≤ 8) (o5 o6 o7 : Option Sl) :
    fSetComp 5 1 [] (fiSeq (fVar 4)) (gnName 0) fAlways (fCall dList (fCons (fVar 0) fNil)) (lE ns k c n (some (.sh (tabT A))) o5 o6 o7) = some (.nx (lE ns k c n (some (.sh (tabT A))) (some (.own (A.map rowT))) o6 o7)) := by
  have hc := comp_mapA (φ := rowT) (fe := fCall dList (fCons (fVar 0) fNil)) (g := rowT) (ρ := []) rfl A none [] (fun r hr => rfl) (small8t hl)
  unfold fSetComp
  rw [show fiSeq (fVar 4) (lE ns k c n (some (.sh (tabT A))) o5 o6 o7) = some (A.map rowT, lE ns k c n (some (.sh (tabT A))) o5 o6 o7) from rfl, Option.bind_some]
  refine (if_pos rfl).trans ?_
  have hb : blkOf 1 [] (frzAll [] (lE ns k c n (some (.sh (tabT A))) o5 o6 o7)) = [none] := rfl
  dsimp only
  rw [hb, hc]
  rfl
theorem l_same {ns : List Int} {k c : Int} {n : Nat} {A : List (List Rat)} {r : List Rat} : lSame (lE ns k c n (some (.sh (tabT A))) (some (.own (A.map rowT))) (some (.sh (rowT r))) (some (.own (r.map q2t)))) = some (.nx (lE ns k c n (some (.sh (tabT A))) (some (.sh (tabT A))) (some (.sh (rowT r))) (some (.own (r.map q2t))))) := by
  have v := view_q (i := 7) (f := fCall (dSame 4) (fCons (fVar 7) (fCons (fVar 6) fNil))) (us := r.map q2t) (t := .bl true) (τ := lE ns k c n (some (.sh (tabT A))) (some (.own (A.map rowT))) (some (.sh (rowT r))) (some (.own (r.map q2t)))) rfl (fun τ' g1 g2 => call_q [rowT r, rowT r] (arg2 (var_sh g1) (var_sh (g2 6 (rowT r) (by decide) rfl))) (same_row r))
  rw [if_pos (show apart (r.map q2t) (.bl true) = true by simp [apart])] at v
  refine or_goL (not_same v) ?_
  have hs : gNe (tabT A) (tabT A) = some (.bl false) := cmp_self (neg := true) (shp_tab A) (by decide)
  unfold fTB fOp
  show (((gNe (tabT A) (tabT A)).bind fun t => some (t, lE ns k c n (some (.sh (tabT A))) (some (.sh (tabT A))) (some (.sh (rowT r))) (some (.own (r.map q2t))))).bind _) = _
  rw [hs]
  rfl
theorem law_turn (ns : List Int) {k : Int} (h0 : 0 ≤ k) (h1 : k < 1000000) (o2 o3 o4 o5 o6 o7 : Option Sl) :
    ∃ p2 p3 p4 p5 p6 p7 : Option Sl, lBody [some (.sh (.scr (ns.map T.int))), some (.sh (.int k)), o2, o3, o4, o5, o6, o7] = some (.nx [some (.sh (.scr (ns.map T.int))), some (.sh (.int k)), p2, p3, p4, p5, p6, p7]) := by
  have rm := fmod_rng (mixF (cellF ns k) 1) (b := 5) (by decide)
  obtain ⟨n, en⟩ : ∃ n : Nat, (mixF (cellF ns k) 1).fmod 5 = (n : Nat) := ⟨((mixF (cellF ns k) 1).fmod 5).toNat, by omega⟩
  have hn : n ≤ 4 := by omega
  generalize hc : cellF ns k = c at *
  have e1 : fSet 2 (fCall mCell (fCons (fVar 0) (fCons (fVar 1) fNil))) [some (.sh (.scr (ns.map T.int))), some (.sh (.int k)), o2, o3, o4, o5, o6, o7] = some (.nx [some (.sh (.scr (ns.map T.int))), some (.sh (.int k)), some (.sh (.int c)), o3, o4, o5, o6, o7]) := by
    have := set_q (i := 2) (call_q (g := mCell) (f := fCons (fVar 0) (fCons (fVar 1) fNil)) (ρ := [some (.sh (.scr (ns.map T.int))), some (.sh (.int k)), o2, o3, o4, o5, o6, o7]) [.scr (ns.map T.int), .int k] (arg2 rfl rfl) (mCell_eq h0 h1)) rfl
    rw [hc] at this
    exact this
  have e2 : fSet 3 (fOp gMod (fCall mMix (fCons (fVar 2) (fCons (fC (.int 1)) fNil))) (fC (.int 5))) [some (.sh (.scr (ns.map T.int))), some (.sh (.int k)), some (.sh (.int c)), o3, o4, o5, o6, o7] = some (.nx (lE ns k c n o4 o5 o6 o7)) := by
    have := set_q (i := 3) (mix2 (j := 1) (c := c) (d := 5) (τ := [some (.sh (.scr (ns.map T.int))), some (.sh (.int k)), some (.sh (.int c)), o3, o4, o5, o6, o7]) rfl (small_B (by decide) (by decide)) (by decide)) rfl
    rw [en] at this
    exact this
  obtain ⟨A0, a1, a2⟩ := sy_told c n hn
  have e3 : fSet 4 (fCall dSyP (fCons (fVar 2) (fCons (fVar 3) fNil))) (lE ns k c n o4 o5 o6 o7) = some (.nx (lE ns k c n (some (.sh (tabT A0))) o5 o6 o7)) := set_q (call_q [.int c, .int (n : Nat)] (arg2 rfl rfl) a1) rfl
  obtain ⟨A, hA, e4⟩ := l_pick (ns := ns) (k := k) (c := c) hn a2 o5 o6 o7
  have e5 := l_copy (ns := ns) (k := k) (c := c) (n := n) (A := A) (by have := hA.len; omega) o5 o6 o7
  generalize hr : stp A 0 [] [] = r at *
  have e6 : fSet 6 (fCall dDu (fCons (fVar 4) fNil)) (lE ns k c n (some (.sh (tabT A))) (some (.own (A.map rowT))) o6 o7) = some (.nx (lE ns k c n (some (.sh (tabT A))) (some (.own (A.map rowT))) (some (.sh (rowT r))) o7)) := by
    have d := hA.due
    rw [hr] at d
    exact set_q (call_q [tabT A] (arg1 rfl) d) rfl
  have d := hA.own
  rw [hr] at d
  have e7 : fSetO 7 (fCallO dSo (fCons (fVar 4) fNil)) (lE ns k c n (some (.sh (tabT A))) (some (.own (A.map rowT))) (some (.sh (rowT r))) o7) = some (.nx (lE ns k c n (some (.sh (tabT A))) (some (.own (A.map rowT))) (some (.sh (rowT r))) (some (.own (r.map q2t))))) := by
    have q := callO_q (g := dSo) (f := fCons (fVar 4) fNil) (ρ := lE ns k c n (some (.sh (tabT A))) (some (.own (A.map rowT))) (some (.sh (rowT r))) o7) [tabT A] (arg1 rfl) d
    have := set_o (i := 7) q
    rw [TM.trs_vals] at this
    exact this
  have e8 := l_same (ns := ns) (k := k) (c := c) (n := n) (A := A) (r := r)
  have e9 : fClear 7 (lE ns k c n (some (.sh (tabT A))) (some (.sh (tabT A))) (some (.sh (rowT r))) (some (.own (r.map q2t)))) = some (.nx (lE ns k c n (some (.sh (tabT A))) (some (.sh (tabT A))) (some (.sh (rowT r))) (some (.own [])))) := rfl
  have dP : dSoP [tabT A] = some (rowT r) := by
    show (dSo _).bind _ = _
    rw [d, Option.bind_some]
    exact congrArg (fun z => some (T.lst z)) (TM.trs_vals _)
  have e10 : lLast (lE ns k c n (some (.sh (tabT A))) (some (.sh (tabT A))) (some (.sh (rowT r))) (some (.own []))) = some (.nx (lE ns k c n (some (.sh (tabT A))) (some (.sh (tabT A))) (some (.sh (rowT r))) (some (.own [])))) :=
    if_go (not_same (call_q [rowT r, rowT r] (arg2 (call_q [tabT A] (arg1 rfl) dP) rfl) (same_row r)))
  refine ⟨some (.sh (.int c)), some (.sh (.int (n : Nat))), some (.sh (tabT A)), some (.sh (tabT A)), some (.sh (rowT r)), some (.own []), ?_⟩
  unfold lBody
  rw [seq_q e1, seq_q e2, seq_q e3, seq_q e4, seq_q e5, seq_q e6, seq_q e7, seq_q e8, seq_q e9]
  exact e10
theorem law_loop (ns : List Int) : ∀ (m : Nat) (k : Int) (o1 o2 o3 o4 o5 o6 o7 : Option Sl), 0 ≤ k → k + m < 1000 → ∃ p1 p2 p3 p4 p5 p6 p7 : Option Sl, loopT (gnName 1) lBody (TM.upTo k m) [some (.sh (.scr (ns.map T.int))), o1, o2, o3, o4, o5, o6, o7] = some (.nx [some (.sh (.scr (ns.map T.int))), p1, p2, p3, p4, p5, p6, p7])
  | 0, k, o1, o2, o3, o4, o5, o6, o7, _, _ => ⟨o1, o2, o3, o4, o5, o6, o7, rfl⟩
  | m + 1, k, o1, o2, o3, o4, o5, o6, o7, h0, h1 => by
    obtain ⟨y2, y3, y4, y5, y6, y7, ht⟩ := law_turn ns h0 (by omega) o2 o3 o4 o5 o6 o7
    obtain ⟨z1, z2, z3, z4, z5, z6, z7, hl⟩ := law_loop ns m (k + 1) (some (.sh (.int k))) y2 y3 y4 y5 y6 y7 (by omega) (by omega)
    refine ⟨z1, z2, z3, z4, z5, z6, z7, ?_⟩
    rw [show TM.upTo k (m + 1) = T.int k :: TM.upTo (k + 1) m from rfl, loop_step (τ1 := [some (.sh (.scr (ns.map T.int))), some (.sh (.int k)), o2, o3, o4, o5, o6, o7]) rfl ht]
    exact hl
theorem law_true (ns : List Int) (hl : ns.length ≤ 63) : dOf 8 1 (b_law mCell mMix dSyP dSqP dDu (dSame 4) dSoP dSo) [.scr (ns.map T.int)] = some (.bl true) := by
  have hk : ∃ K : Int, 0 ≤ K ∧ K ≤ 100 ∧ fCall dMax (fCons (fC (.int 3)) (fCons (fCall dMin (fCons (fC (.int 10)) (fCons (fCall dLen (fCons (fVar 0) fNil)) fNil))) fNil)) [some (.sh (.scr (ns.map T.int))), none, none, none, none, none, none, none] = some (.int K, [some (.sh (.scr (ns.map T.int))), none, none, none, none, none, none, none]) := by
    have l1 : dLen [.scr (ns.map T.int)] = some (.int (ns.length : Nat)) := by
      show some (T.int ((ns.map T.int).length : Nat)) = _
      rw [List.length_map]
    have c1 := call_q (g := dLen) (f := fCons (fVar 0) fNil) (ρ := [some (.sh (.scr (ns.map T.int))), none, none, none, none, none, none, none]) [.scr (ns.map T.int)] (arg1 rfl) l1
    have c2 := call_q (g := dMin) (f := fCons (fC (.int 10)) (fCons (fCall dLen (fCons (fVar 0) fNil)) fNil)) [.int 10, .int (ns.length : Nat)] (arg2 rfl c1) rfl
    have c3 := call_q (g := dMax) (f := fCons (fC (.int 3)) (fCons (fCall dMin (fCons (fC (.int 10)) (fCons (fCall dLen (fCons (fVar 0) fNil)) fNil))) fNil)) _ (arg2 rfl c2) rfl
    refine ⟨_, ?_, ?_, c3⟩
    · split <;> (try split) <;> omega
    · split <;> (try split) <;> omega
  obtain ⟨K, k0, k1, ek⟩ := hk
  obtain ⟨y1, y2, y3, y4, y5, y6, y7, hl⟩ := law_loop ns K.toNat 0 none none none none none none none (by omega) (by omega)
  have r1 := rng1_eqI ek k0 (by omega)
  have a1 := for_q (fg := gnName 1) (fb := lBody) r1 hl
  refine dOf_q rfl ?_
  show b_law mCell mMix dSyP dSqP dDu (dSame 4) dSoP dSo [some (.sh (.scr (ns.map T.int))), none, none, none, none, none, none, none] = _
  rw [b_law_eq, seq_q a1]
  rfl
end My

namespace My
open PySem PySem.Spec PyProof.Rows L2 TM
theorem len1 {α : Type} {us : List α} (h : us.length = 1) : ∃ a, us = [a] := List.length_eq_one_iff.mp h
theorem len2 {α : Type} {us : List α} (h : us.length = 2) : ∃ a b, us = [a, b] := by
  rcases us with _ | ⟨a, us⟩
  · cases h
  · obtain ⟨b, rfl⟩ := len1 (us := us) (by simpa using h)
    exact ⟨a, b, rfl⟩
theorem len3 {α : Type} {us : List α} (h : us.length = 3) : ∃ a b c, us = [a, b, c] := by
  rcases us with _ | ⟨a, us⟩
  · cases h
  · obtain ⟨b, c, rfl⟩ := len2 (us := us) (by simpa using h)
    exact ⟨a, b, c, rfl⟩
noncomputable def fo (s : Stmt) (nm : Str) (pm : Value) (c : Addr) : Obj := ⟨.type "function", none, .func (PySem.W.fnOf nm nm (defArgs s) (defBody s) (defScope s) .none .none .none pm none (.ref c) .none), #[]⟩
theorem fk {K : PySem.W.Frag} {st : Stmt} {f c : Addr} {nm : Str} {pm : Value} (l : K.lookup f = some (fo st nm pm c)) (h : PySem.W.codeIn K (.ref c) nm = true) : Fun K nm nm st f (PySem.W.fnOf nm nm (defArgs st) (defBody st) (defScope st) .none .none .none pm none (.ref c) .none) := fun_mk l h (by unfold PySem.W.keepIn; dsimp only; rw [l]; rfl)
noncomputable abbrev dLaw : List T → Option T := (dOf 8 1 (b_law (mCell) (mMix) (fun ts => ((dSy) ts).bind fun o => some o.tr) (fun ts => ((dSq) ts).bind fun o => some o.tr) (dDu) (dSame 4) (fun ts => ((dSo) ts).bind fun o => some o.tr) (dSo)))
set_option maxHeartbeats 0 in
theorem all_mk {w : World} {h : Heap} {mg : Str → Option Value} {fa : Addr} (X : (kk w.params).In h) (G : h.Ns mainGlobals mg) (hfa : mg "law" = some (.ref fa)) :
    ∃ fd : FuncData, (∀ (s : Shared) (v : Value), BindsTo s fd ⟨[v], []⟩ [("_law_script", v)]) ∧ ∀ base : Heap, (kk w.params).In base → base.Ns mainGlobals mg → FnOk pg w (kk w.params) mg base CX0 5 fa fd ["_law_script"] (spT (kk w.params) 1 dLaw) := by
  have mq : ∀ (x : Str) (v : Value), PySem.W.nsIn (kk w.params) mainGlobals x = some (some v) → mg x = some v := fun x v e => PySem.W.mg_of X G e
  have mn : ∀ x : Str, PySem.W.nsIn (kk w.params) mainGlobals x = some none → mg x = none := fun x e => PySem.W.mg_none_of X G e
  have e := hfa.symm.trans (mq "law" (.ref 187) (by kernel_rfl))
  cases e
  have F__law_cell := fk (K := kk w.params) (st := s__law_cell) (f := 106) (c := 105) (nm := "_law_cell") (pm := md0) (by kernel_rfl) (by kernel_rfl)
  have b__law_cell := F__law_cell.binds (ps := ["_law_script", "_law_k"]) fun _ _ _ _ _ _ us hl => by obtain ⟨a, b, rfl⟩ := len2 hl; rfl
  have m__law_cell := mq "_law_cell" (.ref 106) (by kernel_rfl)
  have F__law_mix := fk (K := kk w.params) (st := s__law_mix) (f := 113) (c := 112) (nm := "_law_mix") (pm := md0) (by kernel_rfl) (by kernel_rfl)
  have b__law_mix := F__law_mix.binds (ps := ["_law_cell_here", "_law_k"]) fun _ _ _ _ _ _ us hl => by obtain ⟨a, b, rfl⟩ := len2 hl; rfl
  have m__law_mix := mq "_law_mix" (.ref 113) (by kernel_rfl)
  have F__law_digits := fk (K := kk w.params) (st := s__law_digits) (f := 127) (c := 126) (nm := "_law_digits") (pm := md0) (by kernel_rfl) (by kernel_rfl)
  have b__law_digits := F__law_digits.binds (ps := ["_law_number", "_law_by", "_law_many"]) fun _ _ _ _ _ _ us hl => by obtain ⟨a, b, c, rfl⟩ := len3 hl; rfl
  have m__law_digits := mq "_law_digits" (.ref 127) (by kernel_rfl)
  have F__law_frac := fk (K := kk w.params) (st := s__law_frac) (f := 134) (c := 133) (nm := "_law_frac") (pm := md0) (by kernel_rfl) (by kernel_rfl)
  have b__law_frac := F__law_frac.binds (ps := ["_law_top", "_law_bottom"]) fun _ _ _ _ _ _ us hl => by obtain ⟨a, b, rfl⟩ := len2 hl; rfl
  have m__law_frac := mq "_law_frac" (.ref 134) (by kernel_rfl)
  have F__law_some := fk (K := kk w.params) (st := s__law_some) (f := 139) (c := 138) (nm := "_law_some") (pm := md0) (by kernel_rfl) (by kernel_rfl)
  have b__law_some := F__law_some.binds (ps := ["_law_cell_here", "_law_many"]) fun _ _ _ _ _ _ us hl => by obtain ⟨a, b, rfl⟩ := len2 hl; rfl
  have m__law_some := mq "_law_some" (.ref 139) (by kernel_rfl)
  have F__law_symmetric := fk (K := kk w.params) (st := s__law_symmetric) (f := 170) (c := 169) (nm := "_law_symmetric") (pm := md0) (by kernel_rfl) (by kernel_rfl)
  have b__law_symmetric := F__law_symmetric.binds (ps := ["_law_cell_here", "_law_many"]) fun _ _ _ _ _ _ us hl => by obtain ⟨a, b, rfl⟩ := len2 hl; rfl
  have m__law_symmetric := mq "_law_symmetric" (.ref 170) (by kernel_rfl)
  have F__law_times := fk (K := kk w.params) (st := s__law_times) (f := 153) (c := 152) (nm := "_law_times") (pm := md0) (by kernel_rfl) (by kernel_rfl)
  have b__law_times := F__law_times.binds (ps := ["_law_one", "_law_other"]) fun _ _ _ _ _ _ us hl => by obtain ⟨a, b, rfl⟩ := len2 hl; rfl
  have m__law_times := mq "_law_times" (.ref 153) (by kernel_rfl)
  have F__law_add := fk (K := kk w.params) (st := s__law_add) (f := 146) (c := 145) (nm := "_law_add") (pm := md0) (by kernel_rfl) (by kernel_rfl)
  have b__law_add := F__law_add.binds (ps := ["_law_one", "_law_other"]) fun _ _ _ _ _ _ us hl => by obtain ⟨a, b, rfl⟩ := len2 hl; rfl
  have m__law_add := mq "_law_add" (.ref 146) (by kernel_rfl)
  have F__law_weighed := fk (K := kk w.params) (st := s__law_weighed) (f := 160) (c := 159) (nm := "_law_weighed") (pm := md0) (by kernel_rfl) (by kernel_rfl)
  have b__law_weighed := F__law_weighed.binds (ps := ["_law_one", "_law_other"]) fun _ _ _ _ _ _ us hl => by obtain ⟨a, b, rfl⟩ := len2 hl; rfl
  have m__law_weighed := mq "_law_weighed" (.ref 160) (by kernel_rfl)
  have F__law_squared := fk (K := kk w.params) (st := s__law_squared) (f := 175) (c := 174) (nm := "_law_squared") (pm := md0) (by kernel_rfl) (by kernel_rfl)
  have b__law_squared := F__law_squared.binds (ps := ["_law_cell_here", "_law_many"]) fun _ _ _ _ _ _ us hl => by obtain ⟨a, b, rfl⟩ := len2 hl; rfl
  have m__law_squared := mq "_law_squared" (.ref 175) (by kernel_rfl)
  have F__law_minor := fk (K := kk w.params) (st := s__law_minor) (f := 165) (c := 164) (nm := "_law_minor") (pm := md0) (by kernel_rfl) (by kernel_rfl)
  have b__law_minor := F__law_minor.binds (ps := ["_law_table", "_law_many"]) fun _ _ _ _ _ _ us hl => by obtain ⟨a, b, rfl⟩ := len2 hl; rfl
  have m__law_minor := mq "_law_minor" (.ref 165) (by kernel_rfl)
  have F__law_due := fk (K := kk w.params) (st := s__law_due) (f := 182) (c := 181) (nm := "_law_due") (pm := md0) (by kernel_rfl) (by kernel_rfl)
  have b__law_due := F__law_due.binds (ps := ["_law_table"]) fun _ _ _ _ _ _ us hl => by obtain ⟨a, rfl⟩ := len1 hl; rfl
  have m__law_due := mq "_law_due" (.ref 182) (by kernel_rfl)
  have F__law_same := fk (K := kk w.params) (st := s__law_same) (f := 120) (c := 119) (nm := "_law_same") (pm := md0) (by kernel_rfl) (by kernel_rfl)
  have b__law_same := F__law_same.binds (ps := ["_law_found", "_law_due_here"]) fun _ _ _ _ _ _ us hl => by obtain ⟨a, b, rfl⟩ := len2 hl; rfl
  have m__law_same := mq "_law_same" (.ref 120) (by kernel_rfl)
  have F_half := fk (K := kk w.params) (st := s_half) (f := 28) (c := 27) (nm := "half") (pm := md1) (by kernel_rfl) (by kernel_rfl)
  have b_half := F_half.binds (ps := ["one", "other"]) fun _ _ _ _ _ _ us hl => by obtain ⟨a, b, rfl⟩ := len2 hl; rfl
  have m_half := mq "half" (.ref 28) (by kernel_rfl)
  have F_common := fk (K := kk w.params) (st := s_common) (f := 21) (c := 20) (nm := "common") (pm := md1) (by kernel_rfl) (by kernel_rfl)
  have b_common := F_common.binds (ps := ["one", "other"]) fun _ _ _ _ _ _ us hl => by obtain ⟨a, b, rfl⟩ := len2 hl; rfl
  have m_common := mq "common" (.ref 21) (by kernel_rfl)
  have F_shared_bottom := fk (K := kk w.params) (st := s_shared_bottom) (f := 82) (c := 81) (nm := "shared_bottom") (pm := md2) (by kernel_rfl) (by kernel_rfl)
  have b_shared_bottom := F_shared_bottom.binds (ps := ["row"]) fun _ _ _ _ _ _ us hl => by obtain ⟨a, rfl⟩ := len1 hl; rfl
  have m_shared_bottom := mq "shared_bottom" (.ref 82) (by kernel_rfl)
  have F_raised := fk (K := kk w.params) (st := s_raised) (f := 87) (c := 86) (nm := "raised") (pm := md2) (by kernel_rfl) (by kernel_rfl)
  have b_raised := F_raised.binds (ps := ["row", "low"]) fun _ _ _ _ _ _ us hl => by obtain ⟨a, b, rfl⟩ := len2 hl; rfl
  have m_raised := mq "raised" (.ref 87) (by kernel_rfl)
  have F_divided := fk (K := kk w.params) (st := s_divided) (f := 61) (c := 60) (nm := "divided") (pm := md1) (by kernel_rfl) (by kernel_rfl)
  have b_divided := F_divided.binds (ps := ["numbers", "by"]) fun _ _ _ _ _ _ us hl => by obtain ⟨a, b, rfl⟩ := len2 hl; rfl
  have m_divided := mq "divided" (.ref 61) (by kernel_rfl)
  have F_cleared := fk (K := kk w.params) (st := s_cleared) (f := 92) (c := 91) (nm := "cleared") (pm := md3) (by kernel_rfl) (by kernel_rfl)
  have b_cleared := F_cleared.binds (ps := ["row", "kept"]) fun _ _ _ _ _ _ us hl => by obtain ⟨a, b, rfl⟩ := len2 hl; rfl
  have m_cleared := mq "cleared" (.ref 92) (by kernel_rfl)
  have F_frac := fk (K := kk w.params) (st := s_frac) (f := 75) (c := 74) (nm := "frac") (pm := md4) (by kernel_rfl) (by kernel_rfl)
  have b_frac := F_frac.binds (ps := ["top", "bottom"]) fun _ _ _ _ _ _ us hl => by obtain ⟨a, b, rfl⟩ := len2 hl; rfl
  have m_frac := mq "frac" (.ref 75) (by kernel_rfl)
  have F_steps_of := fk (K := kk w.params) (st := s_steps_of) (f := 99) (c := 98) (nm := "steps_of") (pm := md5) (by kernel_rfl) (by kernel_rfl)
  have b_steps_of := F_steps_of.binds (ps := ["table"]) fun _ _ _ _ _ _ us hl => by obtain ⟨a, rfl⟩ := len1 hl; rfl
  have m_steps_of := mq "steps_of" (.ref 99) (by kernel_rfl)
  have F_law := fk (K := kk w.params) (st := s_law) (f := 187) (c := 186) (nm := "law") (pm := md0) (by kernel_rfl) (by kernel_rfl)
  have b_law := F_law.binds (ps := ["_law_script"]) fun _ _ _ _ _ _ us hl => by obtain ⟨a, rfl⟩ := len1 hl; rfl
  have m_law := mq "law" (.ref 187) (by kernel_rfl)
  have m_len := mn "len" (by kernel_rfl)
  have m_range := mn "range" (by kernel_rfl)
  have m_abs := mn "abs" (by kernel_rfl)
  have m_zip := mn "zip" (by kernel_rfl)
  have m_list := mn "list" (by kernel_rfl)
  have m_tuple := mn "tuple" (by kernel_rfl)
  have m_isinstance := mn "isinstance" (by kernel_rfl)
  have m_str := mn "str" (by kernel_rfl)
  have m_int := mn "int" (by kernel_rfl)
  have m_bool := mn "bool" (by kernel_rfl)
  have m_enumerate := mn "enumerate" (by kernel_rfl)
  have m_min := mn "min" (by kernel_rfl)
  have m_max := mn "max" (by kernel_rfl)
  have g_SHORT := mq "SHORT" (.int (4000) 189) (by kernel_rfl)
  have g_SHORT_QUOTIENT := mq "SHORT_QUOTIENT" (.int (8000) 193) (by kernel_rfl)
  refine ⟨PySem.W.fnOf "law" "law" (defArgs s_law) (defBody s_law) (defScope s_law) .none .none .none md0 none (.ref 186) .none, fun s v => .of_eq rfl, fun base _ _ => ?_⟩
  have D__law_cell : Def pg w (kk w.params) mg base 1 "_law_cell" 2 (mCell) := (ok__law_cell (P := pg) (w := w) (base := base) (k := 0) F__law_cell b__law_cell m__law_cell  m_len).imp sp_cell
  have D__law_mix : Def pg w (kk w.params) mg base 1 "_law_mix" 2 (mMix) := (ok__law_mix (P := pg) (w := w) (base := base) (k := 0) F__law_mix b__law_mix m__law_mix  ).imp sp_mix
  have D__law_digits : Def pg w (kk w.params) mg base 1 "_law_digits" 3 (dDigits) := ok__law_digits (P := pg) (w := w) (base := base) (k := 0) F__law_digits b__law_digits m__law_digits  m_range
  have D__law_frac : Def pg w (kk w.params) mg base 1 "_law_frac" 2 (mFrac) := (ok__law_frac (P := pg) (w := w) (base := base) (k := 0) B F__law_frac b__law_frac m__law_frac  m_abs).imp sp_law_frac
  have DO__law_some : DefO pg w (kk w.params) mg base 2 "_law_some" 2 (dSmO) := okO__law_some (P := pg) (w := w) (base := base) (k := 1) F__law_some b__law_some m__law_some (D__law_digits.mono (by decide : 1 ≤ 1)) (D__law_frac.mono (by decide : 1 ≤ 1)) (D__law_mix.mono (by decide : 1 ≤ 1)) m_range
  have DO__law_symmetric : DefO pg w (kk w.params) mg base 3 "_law_symmetric" 2 (dSy) := okO__law_symmetric (P := pg) (w := w) (base := base) (k := 2) F__law_symmetric b__law_symmetric m__law_symmetric (DO__law_some.mono (by decide : 2 ≤ 2)) m_range
  have D__law_times : Def pg w (kk w.params) mg base 2 "_law_times" 2 (mTi) := (ok__law_times (P := pg) (w := w) (base := base) (k := 1) F__law_times b__law_times m__law_times (D__law_frac.mono (by decide : 1 ≤ 1)) ).imp sp_law_times
  have D__law_add : Def pg w (kk w.params) mg base 2 "_law_add" 2 (mPl) := (ok__law_add (P := pg) (w := w) (base := base) (k := 1) F__law_add b__law_add m__law_add (D__law_frac.mono (by decide : 1 ≤ 1)) ).imp sp_law_add
  have D__law_weighed : Def pg w (kk w.params) mg base 3 "_law_weighed" 2 (dLw) := ok__law_weighed (P := pg) (w := w) (base := base) (k := 2) F__law_weighed b__law_weighed m__law_weighed (D__law_times.mono (by decide : 2 ≤ 2)) (D__law_add.mono (by decide : 2 ≤ 2)) m_zip
  have DO__law_squared : DefO pg w (kk w.params) mg base 4 "_law_squared" 2 (dSq) := okO__law_squared (P := pg) (w := w) (base := base) (k := 3) F__law_squared b__law_squared m__law_squared (DO__law_some.plain.mono (by decide : 2 ≤ 3)) (D__law_weighed.mono (by decide : 3 ≤ 3)) (D__law_mix.mono (by decide : 1 ≤ 3)) (D__law_add.mono (by decide : 2 ≤ 3)) m_range
  have D__law_minor : Def pg w (kk w.params) mg base 3 "_law_minor" 2 (dMi) := ok__law_minor (P := pg) (w := w) (base := base) (k := 2) 10 F__law_minor b__law_minor m__law_minor (D__law_times.mono (by decide : 2 ≤ 2)) (D__law_frac.mono (by decide : 1 ≤ 2)) (D__law_add.mono (by decide : 2 ≤ 2)) m_range m_len m_zip
  have D__law_due : Def pg w (kk w.params) mg base 4 "_law_due" 1 (dDu) := ok__law_due (P := pg) (w := w) (base := base) (k := 3) F__law_due b__law_due m__law_due (D__law_minor.mono (by decide : 3 ≤ 3)) (D__law_frac.mono (by decide : 1 ≤ 3)) (D__law_times.mono (by decide : 2 ≤ 3)) m_range m_len
  have D__law_same_0 : Def pg w (kk w.params) mg base 0 "_law_same" 2 (dSame 0) := Def.zero F__law_same b__law_same m__law_same
  have D__law_same_1 : Def pg w (kk w.params) mg base 1 "_law_same" 2 (dSame 1) := ok__law_same (k := 0) F__law_same b__law_same m__law_same D__law_same_0 m_list m_tuple m_isinstance m_len m_zip m_str m_int m_bool
  have D__law_same_2 : Def pg w (kk w.params) mg base 2 "_law_same" 2 (dSame 2) := ok__law_same (k := 1) F__law_same b__law_same m__law_same D__law_same_1 m_list m_tuple m_isinstance m_len m_zip m_str m_int m_bool
  have D__law_same_3 : Def pg w (kk w.params) mg base 3 "_law_same" 2 (dSame 3) := ok__law_same (k := 2) F__law_same b__law_same m__law_same D__law_same_2 m_list m_tuple m_isinstance m_len m_zip m_str m_int m_bool
  have D__law_same_4 : Def pg w (kk w.params) mg base 4 "_law_same" 2 (dSame 4) := ok__law_same (k := 3) F__law_same b__law_same m__law_same D__law_same_3 m_list m_tuple m_isinstance m_len m_zip m_str m_int m_bool
  have D__law_same := D__law_same_4
  have D_half : Def pg w (kk w.params) mg base 0 "half" 2 (fun _ => none) := Def.zero F_half b_half m_half
  have D_common : Def pg w (kk w.params) mg base 1 "common" 2 (mCommon) := (ok_common (P := pg) (w := w) (base := base) (k := 0) B F_common b_common m_common (D_half.mono (by decide : 0 ≤ 0)) m_abs g_SHORT).imp sp_common
  have D_shared_bottom : Def pg w (kk w.params) mg base 2 "shared_bottom" 1 (mSb) := (ok_shared_bottom (P := pg) (w := w) (base := base) (k := 1) F_shared_bottom b_shared_bottom m_shared_bottom (D_common.mono (by decide : 1 ≤ 1)) ).imp sp_shared_bottom
  have D_raised : Def pg w (kk w.params) mg base 1 "raised" 2 (mRa) := (ok_raised (P := pg) (w := w) (base := base) (k := 0) F_raised b_raised m_raised  ).imp sp_raised
  have D_divided : Def pg w (kk w.params) mg base 1 "divided" 2 (dDv) := ok_divided (P := pg) (w := w) (base := base) (k := 0) F_divided b_divided m_divided  g_SHORT_QUOTIENT
  have D_cleared : Def pg w (kk w.params) mg base 2 "cleared" 2 (dCl) := ok_cleared (P := pg) (w := w) (base := base) (k := 1) F_cleared b_cleared m_cleared (D_divided.mono (by decide : 1 ≤ 1)) m_zip
  have D_frac : Def pg w (kk w.params) mg base 2 "frac" 2 (mFrac) := (ok_frac (P := pg) (w := w) (base := base) (k := 1) F_frac b_frac m_frac (D_common.mono (by decide : 1 ≤ 1)) g_SHORT_QUOTIENT).imp sp_frac
  have DO_steps_of : DefO pg w (kk w.params) mg base 3 "steps_of" 1 (dSo) := okO_steps_of (P := pg) (w := w) (base := base) (k := 2) F_steps_of b_steps_of m_steps_of (D_shared_bottom.mono (by decide : 2 ≤ 2)) (D_raised.mono (by decide : 1 ≤ 2)) (D_cleared.mono (by decide : 2 ≤ 2)) (D_frac.mono (by decide : 2 ≤ 2)) m_enumerate
  exact fn_law (P := pg) (w := w) (base := base) (k := 4) F_law (D__law_cell.mono (by decide : 1 ≤ 4)) (D__law_mix.mono (by decide : 1 ≤ 4)) (DO__law_symmetric.plain.mono (by decide : 3 ≤ 4)) (DO__law_squared.plain.mono (by decide : 4 ≤ 4)) (D__law_due.mono (by decide : 4 ≤ 4)) (D__law_same.mono (by decide : 4 ≤ 4)) (DO_steps_of.plain.mono (by decide : 3 ≤ 4)) (DO_steps_of.mono (by decide : 3 ≤ 4)) m_range m_len m_min m_max m_list
theorem walk {q : Program} {loose : List Str} {XP : (Str → Option Value) → Heap → Prop} {d : DefRec} (hn : d.name = "law") (hdf : d.params.defaults = []) : PySem.W.WalkO q loose XP hk.says lw.row.toRowW d [] (fun f vs => PySem.call f vs) :=
  L2.walk_of (n := 63) (k := 5) (x := "_law_script") (CX := fun _ => CX0) (K := kk) (sp := fun w => spT (kk w.params) 1 dLaw) rfl (by decide) hdf ⟨rfl, by decide, by decide⟩ (fun _ _ Y => PySem.W.kIn_of Y) (fun w mg fa h KX G e => all_mk KX G (by rw [hn] at e; exact e))
    (fun w H a ns hl _ hS => ⟨rfl, H, [.scr (ns.map T.int)], .bl true, Same.refl H, ⟨_, [], rfl, ⟨a, ns.map V.int, rfl, hS, reps_ints ns⟩, rfl⟩, law_true ns hl, fun _ _ v _ r => r⟩) fun _ _ _ _ _ z => z
end My
open PySem PySem.W PyProof.Rows
set_option maxHeartbeats 0 in
theorem PySem.Challenge.cw_echohouse_k71_steps_of_tables_holds : PySem.Challenge.rw_echohouse_k71_steps_of_tables.Holds := by
  refine holds_law My.ws fun said => ?_
  refine holds_open (q := My.qv) (loose := []) (Xt := My.xt) (XP := XL My.qv []) My.hl (Hook.of My.hk) (Hook.keeps My.hk)
    (fun s e => xl_of s (Bool.and_eq_true_iff.mp e).1) XL.keeps (by rfl) (by rfl) (by rfl)
    (fun s e => recFacts_of (Bool.and_eq_true_iff.mp e).2) (by rfl) said (by decide +kernel) ⟨rfl, rfl, rfl, rfl, rfl, by decide +kernel⟩ ?hw ?hc
  case hw => w_witness2
  case hc => exact My.walk rfl rfl


