import PyProof.Rows.All
import Wide.All
import OpenK.AllK
import Wide.FinOn
import Lean
import PyProof.EqAt
import PyProof.EqKinds
import PyProof.TupleCall
import KE.KRevIter
import KE.KMinKey
import PyProof.FactsAll.range_2
import PyProof.Rows.CallKwBuiltin
import PySem.Challenge.RW_echohouse_k01_fractions_reckoned
set_option Elab.async false
set_option linter.all false
set_option maxRecDepth 100000
namespace L2
open PySem PySem.Spec PyProof.Rows

noncomputable abbrev Key := Sum Int Str
noncomputable def keyIs : Key → Value → Bool
  | .inl k, v => Value.isInt k v
  | .inr x, v => Value.isStrOf x v
noncomputable def keyH (w : World) : Key → Int
  | .inl k => hashInt k
  | .inr x => hashStr w x
theorem keyIs_shape : ∀ {k : Key} {v : Value}, keyIs k v = true → (∃ i t, k = Sum.inl i ∧ v = Value.int i t) ∨ (∃ x t, k = Sum.inr x ∧ v = Value.str x t)
  | .inl i, v, h => by
    obtain ⟨t, e⟩ := Value.isInt_shape (k := i) (v := v) h
    exact .inl ⟨i, t, rfl, e⟩
  | .inr x, v, h => by
    obtain ⟨t, e⟩ := Value.isStrOf_shape (x := x) (v := v) h
    exact .inr ⟨x, t, rfl, e⟩
theorem key_ll (a b : Int) : decide ((Sum.inl a : Key) = Sum.inl b) = (a == b) := by
  by_cases e : a = b
  · subst e; simp
  · have h : ¬ (Sum.inl a : Key) = Sum.inl b := fun q => e (Sum.inl.inj q)
    rw [decide_eq_false h]
    exact (beq_eq_false_iff_ne.mpr e).symm
theorem key_rr (a b : Str) : decide ((Sum.inr a : Key) = Sum.inr b) = decide (a = b) := by
  by_cases e : a = b
  · subst e; simp
  · have h : ¬ (Sum.inr a : Key) = Sum.inr b := fun q => e (Sum.inr.inj q)
    rw [decide_eq_false h, decide_eq_false e]
theorem key_lr (a : Int) (b : Str) : decide ((Sum.inl a : Key) = Sum.inr b) = false := decide_eq_false (fun q => nomatch q)
theorem key_rl (a : Str) (b : Int) : decide ((Sum.inr a : Key) = Sum.inl b) = false := decide_eq_false (fun q => nomatch q)

noncomputable def mixKind (prog : Program) (w : World) : PySem.KeyKind prog w Key where
  is := keyIs
  hash := keyH w
  inj := fun v a b ha hb => by
    rcases keyIs_shape ha with ⟨i, t, rfl, rfl⟩ | ⟨x, t, rfl, rfl⟩
    · rcases keyIs_shape hb with ⟨j, u, rfl, e⟩ | ⟨y, u, rfl, e⟩
      · injection e with e1 _; rw [e1]
      · exact nomatch e
    · rcases keyIs_shape hb with ⟨j, u, rfl, e⟩ | ⟨y, u, rfl, e⟩
      · exact nomatch e
      · injection e with e1 _; rw [e1]
  byValue := fun k v h => by
    rcases keyIs_shape h with ⟨i, t, rfl, rfl⟩ | ⟨x, t, rfl, rfl⟩ <;> rfl
  pyHash := fun hv h => by
    rcases keyIs_shape hv with ⟨i, t, rfl, rfl⟩ | ⟨x, t, rfl, rfl⟩
    · exact wpAny_pyHash_int h
    · exact wpAny_pyHash_str h
  eqBool := fun hu hv h => by
    rcases keyIs_shape hu with ⟨i, t, rfl, rfl⟩ | ⟨x, t, rfl, rfl⟩
    · rcases keyIs_shape hv with ⟨j, u, rfl, rfl⟩ | ⟨y, u, rfl, rfl⟩
      · rw [key_ll] at h; exact wpAny_eqBool_int h
      · rw [key_lr] at h; exact SeqAt.EqAt.int_str i t y u _ _ _ _ h
    · rcases keyIs_shape hv with ⟨j, u, rfl, rfl⟩ | ⟨y, u, rfl, rfl⟩
      · rw [key_rl] at h; exact SeqAt.EqAt.str_int x t j u _ _ _ _ h
      · rw [key_rr] at h; exact wpAny_eqBool_str h
  «strs» := fun k x t v h => by
    rcases keyIs_shape h with ⟨i, u, rfl, e⟩ | ⟨y, u, rfl, e⟩
    · exact nomatch e
    · injection e with e1 _
      subst e1
      cases v <;> rfl

end L2

namespace L2
open PySem PySem.Spec PyProof.Rows

inductive V where
  | non | bl (b : Bool) | int (i : Int) | str (x : Str) | byt (b : Array UInt8) | flt (b : UInt64) | ref (a : Addr) | ty (n : String)
  deriving DecidableEq

noncomputable def RelV : V → Value → Prop
  | .non, u => u = Value.none
  | .bl b, u => u = Value.bool b
  | .int i, u => ∃ t, u = Value.int i t
  | .str x, u => ∃ t, u = Value.str x t
  | .byt b, u => ∃ t, u = Value.bytes b t
  | .flt b, u => ∃ t, u = Value.float b t
  | .ref a, u => u = Value.ref a
  | .ty n, u => u = Value.type n

noncomputable abbrev Vals : List V → List Value → Prop := Paired RelV
theorem Vals.length {xs : List V} {us : List Value} (r : Vals xs us) : xs.length = us.length := Paired.length r
theorem Vals.get : ∀ {xs : List V} {us : List Value} {i : Nat} {x : V}, Vals xs us → xs[i]? = some x → ∃ u, us[i]? = some u ∧ RelV x u
  | _, _, _, _, .nil, e => by simp at e
  | _, _, 0, _, .cons r _, e => by simp at e; subst e; exact ⟨_, rfl, r⟩
  | _, _, i + 1, x, .cons _ t, e => by
    obtain ⟨u, h1, h2⟩ := Vals.get (i := i) (x := x) t (by simpa using e)
    exact ⟨u, by simpa using h1, h2⟩
theorem Vals.set {x : V} {u : Value} (r : RelV x u) : ∀ {xs : List V} {us : List Value} (i : Nat), Vals xs us → Vals (xs.set i x) (us.set i u)
  | _, _, _, .nil => .nil
  | _, _, 0, .cons _ t => .cons r t
  | _, _, i + 1, .cons q t => .cons q (Vals.set r i t)
theorem Vals.append : ∀ {xs ys : List V} {us ws : List Value}, Vals xs us → Vals ys ws → Vals (xs ++ ys) (us ++ ws)
  | _, _, _, _, .nil, s => s
  | _, _, _, _, .cons r t, s => .cons r (Vals.append t s)
theorem Vals.take : ∀ {xs : List V} {us : List Value} (n : Nat), Vals xs us → Vals (xs.take n) (us.take n)
  | _, _, 0, _ => .nil
  | _, _, _ + 1, .nil => .nil
  | _, _, n + 1, .cons r t => .cons r (Vals.take n t)
theorem Vals.drop : ∀ {xs : List V} {us : List Value} (n : Nat), Vals xs us → Vals (xs.drop n) (us.drop n)
  | _, _, 0, r => r
  | _, _, _ + 1, .nil => .nil
  | _, _, n + 1, .cons _ t => Vals.drop n t
noncomputable def RelO : Option V → Option Value → Prop
  | some v, some u => RelV v u
  | none, none => True
  | _, _ => False
noncomputable def KV {κ : Type} : List (κ × V) → List (κ × Value) → Prop := Paired fun (p : κ × V) (q : κ × Value) => p.1 = q.1 ∧ RelV p.2 q.2

noncomputable def kV : Key → V
  | .inl i => .int i
  | .inr x => .str x

inductive HO where
    | lst (xs : List V)
    | tup (xs : List V)
    | dK (kvs : List (Key × V)) | dT (kvs : List (List Key × V))
    | set (S : Int → Bool) (n : Nat)
    | ins (C dx : Addr) (fs : List (Str × V))
    | own (x : Addr)
    | xd (fs : List (Str × V))
    | met (f x : Addr)
    | rng (lo hi : Int)
    | frz (o : Obj) (u : HO)
    | tbl (ps : Array Value)
    | ext (φ : Heap → Prop)

noncomputable abbrev Hp := Addr → Option HO
noncomputable def upd (H : Hp) (a : Addr) (o : HO) : Hp := fun b => if b = a then some o else H b
theorem upd_same {H : Hp} {a : Addr} {o : HO} : upd H a o a = some o := by unfold upd; rw [if_pos rfl]
theorem upd_ne {H : Hp} {a b : Addr} {o : HO} (h : b ≠ a) : upd H a o b = H b := by unfold upd; rw [if_neg h]
theorem ne_of_none {H : Hp} {a b : Addr} {o : HO} (h : H a = some o) (h' : H b = none) : a ≠ b := by
  intro e; subst e; rw [h] at h'; cases h'

section
variable (P : Program) (w : World)
noncomputable def ObjOk (H : Hp) (h : Heap) (a : Addr) : HO → Prop
  | .lst xs => xs.length ≤ sizeLine ∧ ∃ (its : List Value) (n : Nat), Vals xs its ∧ h.get? a = some { cls := .type "list", data := .seq its.toArray n }
  | .tup xs => xs.length ≤ sizeLine ∧ ∃ its : List Value, Vals xs its ∧ IsTup h a its.toArray
  | .dK kvs => kvs.length ≤ sizeLine ∧ (a == sysModules) = false ∧ ∃ vs, KV kvs vs ∧ h.DictOf (mixKind P w) a vs
  | .dT kvs => kvs.length ≤ sizeLine ∧ (a == sysModules) = false ∧ ∃ xs : List (List Key × Addr × Value),
      Paired (fun (p : List Key × V) (q : List Key × Addr × Value) => p.1 = q.1 ∧ H q.2.1 = some (.tup (p.1.map kV)) ∧ RelV p.2 q.2.2) kvs xs ∧
      ∃ o es ep, h.get? a = some o ∧ o.ExactDict ∧ o.data = .dict es ep ∧ es.toList = xs.map (entryOfKey (tupleKind (mixKind P w))) ∧ (xs.map (·.1)).Nodup
  | .set S n => h.SetOf (intKind P w) a S n
  | .ins C dx fs => H dx = some (.own a) ∧ fs.length ≤ 1000 ∧ dx ≠ a ∧ h.get? a = some (PySem.W.instObj C dx) ∧
      ∃ mA, h.Ns1 dx mA ∧ (∀ f, RelO (fs.lookup f) (mA f)) ∧ PySem.Within mA (fs.map (·.1))
  | .own _ => ∃ o, h.get? a = some o
  | .xd fs => ∃ mA, h.Ns1 a mA ∧ ∀ f, RelO (fs.lookup f) (mA f)
  | .rng lo hi => ∃ t u v, h.get? a = some { cls := .type "range", data := .fields #[.int lo t, .int hi u, .int 1 v] }
  | .frz o u => h.get? a = some o ∧ ObjOk H h a u
  | .tbl ps => h.get? a = some { cls := .none, data := .fields ps }
  | .met f x => h.get? a = some (PySem.W.methodObj (.ref f) (.ref x))
  | .ext φ => φ h ∧ (∃ o, h.get? a = some o) ∧ ∀ h1 h2 : Heap, φ h1 → (∀ o, h1.get? a = some o → h2.get? a = some o) → φ h2
noncomputable def HOk (H : Hp) (h : Heap) : Prop := ∀ a o, H a = some o → ObjOk P w H h a o
end

section
variable {P : Program} {w : World} {H H' : Hp} {h h' : Heap} {a : Addr} {o : HO}
theorem ObjOk.lt (x : ObjOk P w H h a o) : a < h.objs.size := by
  cases o with
  | lst xs => obtain ⟨_, _, _, _, e⟩ := x; exact Heap.lt_size e
  | tup xs => obtain ⟨_, _, _, p⟩ := x; exact p.lt
  | dK kvs => obtain ⟨_, _, _, _, o, _, _, e, _⟩ := x; exact Heap.lt_size e
  | dT kvs => obtain ⟨_, _, _, _, o, _, _, e, _⟩ := x; exact Heap.lt_size e
  | set S n => obtain ⟨o, _, _, _, e, _⟩ := x; exact Heap.lt_size e
  | ins C dx fs => obtain ⟨_, _, _, e, _⟩ := x; exact Heap.lt_size e
  | own y => obtain ⟨_, e⟩ := x; exact Heap.lt_size e
  | xd fs => obtain ⟨_, ⟨_, _, _, e, _⟩, _⟩ := x; exact Heap.lt_size e
  | rng lo hi => obtain ⟨_, _, _, e⟩ := x; exact Heap.lt_size e
  | frz ob u => obtain ⟨e, _⟩ := x; exact Heap.lt_size e
  | tbl ps => exact Heap.lt_size (show h.get? a = some _ from x)
  | met f y => exact Heap.lt_size (show h.get? a = some _ from x)
  | ext φ => obtain ⟨_, ⟨_, e⟩, _⟩ := x; exact Heap.lt_size e
theorem Paired.mapP {α β : Type} {F G : α → β → Prop} : ∀ {l₁ : List α} {l₂ : List β}, Paired F l₁ l₂ → (∀ a b, F a b → G a b) → Paired G l₁ l₂
  | _, _, .nil, _ => .nil
  | _, _, .cons r t, f => .cons (f _ _ r) (Paired.mapP t f)
theorem ObjOk.stay (x : ObjOk P w H h a o) (k : ∀ b u, (b = a ∨ H b = some (.own a)) → h.get? b = some u → h'.get? b = some u)
    (ho : ∀ b, H b = some (.own a) → H' b = some (.own a)) (ht : ∀ b xs, H b = some (.tup xs) → H' b = some (.tup xs)) : ObjOk P w H' h' a o := by
  induction o with
  | lst xs => obtain ⟨z, its, n, r, e⟩ := x; exact ⟨z, its, n, r, k _ _ (.inl rfl) e⟩
  | tup xs => obtain ⟨z, its, r, ob, e, c⟩ := x; exact ⟨z, its, r, ob, k _ _ (.inl rfl) e, c⟩
  | dK kvs => obtain ⟨z, y, vs, r, ob, es, ep, e, c⟩ := x; exact ⟨z, y, vs, r, ob, es, ep, k _ _ (.inl rfl) e, c⟩
  | dT kvs =>
    obtain ⟨z, y, xs, r, ob, es, ep, e, c⟩ := x
    exact ⟨z, y, xs, Paired.mapP r fun p q z => ⟨z.1, ht _ _ z.2.1, z.2.2⟩, ob, es, ep, k _ _ (.inl rfl) e, c⟩
  | set S n => obtain ⟨ob, es, ep, t, e, c⟩ := x; exact ⟨ob, es, ep, t, k _ _ (.inl rfl) e, c⟩
  | ins C dx fs =>
    obtain ⟨d, z, ne, e, mA, ⟨od, es, ep, e2, c⟩, r⟩ := x
    exact ⟨ho _ d, z, ne, k _ _ (.inl rfl) e, mA, ⟨od, es, ep, k _ _ (.inr d) e2, c⟩, r⟩
  | own y => obtain ⟨ob, e⟩ := x; exact ⟨ob, k _ _ (.inl rfl) e⟩
  | xd fs => obtain ⟨mA, ⟨od, es, ep, e, c⟩, r⟩ := x; exact ⟨mA, ⟨od, es, ep, k _ _ (.inl rfl) e, c⟩, r⟩
  | rng lo hi => obtain ⟨t, u, v, e⟩ := x; exact ⟨t, u, v, k _ _ (.inl rfl) e⟩
  | frz ob u ih => obtain ⟨e, q⟩ := x; exact ⟨k _ _ (.inl rfl) e, ih q⟩
  | tbl ps =>
    have e : h.get? a = some { cls := .none, data := .fields ps } := x
    show h'.get? a = some { cls := .none, data := .fields ps }
    exact k a _ (.inl rfl) e
  | met f y =>
    have e : h.get? a = some (PySem.W.methodObj (.ref f) (.ref y)) := x
    show h'.get? a = some (PySem.W.methodObj (.ref f) (.ref y))
    exact k a _ (.inl rfl) e
  | ext φ => obtain ⟨p, ⟨o, e⟩, st⟩ := x; exact ⟨st _ _ p fun o q => k _ _ (.inl rfl) q, ⟨o, k _ _ (.inl rfl) e⟩, st⟩
theorem HOk.lt (x : HOk P w H h) (e : H a = some o) : a < h.objs.size := (x a o e).lt
theorem HOk.fresh (x : HOk P w H h) (e : h.objs.size ≤ a) : H a = none := by
  cases q : H a with
  | none => rfl
  | some u => exact absurd (Nat.lt_of_lt_of_le (x.lt q) e) (Nat.lt_irrefl _)
theorem HOk.kept (x : HOk P w H h) (k : ∀ b u, h.get? b = some u → h'.get? b = some u) : HOk P w H h' := fun a o e =>
  (x a o e).stay (fun b u _ q => k b u q) (fun _ q => q) fun _ _ q => q
theorem HOk.laid (x : HOk P w H h) (k : ∀ b u, h.get? b = some u → h'.get? b = some u) (hp : h.objs.size ≤ a) (new : ObjOk P w (upd H a o) h' a o) : HOk P w (upd H a o) h' := fun b u e => by
  have hn := x.fresh hp
  by_cases hb : b = a
  · subst hb; rw [upd_same] at e; cases e; exact new
  · rw [upd_ne hb] at e
    exact (x b u e).stay (fun c v _ q => k c v q) (fun c q => by rw [upd_ne (ne_of_none q hn)]; exact q) fun c xs q => by rw [upd_ne (ne_of_none q hn)]; exact q
end

noncomputable def Rd (H : Hp) (a : Addr) (u : HO) : Prop := H a = some u ∨ ∃ o, H a = some (.frz o u)
theorem Rd.of {H : Hp} {a : Addr} {u : HO} (h : H a = some u) : Rd H a u := .inl h
theorem Rd.ok {P : Program} {w : World} {H : Hp} {h : Heap} {a : Addr} {u : HO} (r : Rd H a u) (x : HOk P w H h) : ObjOk P w H h a u := by
  rcases r with r | ⟨o, r⟩
  · exact x a u r
  · obtain ⟨_, q⟩ := x a _ r
    exact q
noncomputable def Mut : Option HO → Prop
  | some (.lst _) => True
  | some (.dK _) => True
  | some (.dT _) => True
  | some (.set _ _) => True
  | some (.ins _ _ _) => True
  | some (.ext _) => True
  | _ => False
section
variable {P : Program} {w : World} {H : Hp} {h h' : Heap} {x e : Addr} {o' : HO}
theorem HOk.write (ok : HOk P w H h) (mu : Mut (H x)) (he : e = x ∨ H e = some (.own x)) (k : ∀ b u, b ≠ e → h.get? b = some u → h'.get? b = some u) (heo : ∃ u, h'.get? e = some u)
    (new : ObjOk P w (upd H x o') h' x o') : HOk P w (upd H x o') h' := fun b u q => by
  have nown : ∀ c y, H c = some (.own y) → c ≠ x := fun c y r z => by subst z; rw [r] at mu; exact mu
  have ntup : ∀ c xs, H c = some (.tup xs) → c ≠ x := fun c xs r z => by subst z; rw [r] at mu; exact mu
  by_cases hb : b = x
  · subst hb; rw [upd_same] at q; cases q; exact new
  · rw [upd_ne hb] at q
    by_cases hbe : b = e
    · have q' : H b = some (.own x) := by
        rcases he with z | z
        · exact absurd (hbe.trans z) hb
        · rw [hbe]; exact z
      rw [q] at q'; cases q'
      obtain ⟨v, hv⟩ := heo
      exact ⟨v, by rw [hbe]; exact hv⟩
    · refine (ok b u q).stay (fun c v hc r => k c v ?_ r) (fun c r => by rw [upd_ne (nown c b r)]; exact r) fun c xs r => by rw [upd_ne (ntup c xs r)]; exact r
      rcases hc with rfl | hc
      · exact hbe
      · rintro rfl
        rcases he with z | z
        · exact nown c b hc z
        · rw [hc] at z; cases z; exact hb rfl
end

structure Un (fs ex : List Addr) (H H' : Hp) (h h' : Heap) : Prop where
  keep : ∀ b o, h.get? b = some o → H b = none → b ∉ fs → b ∉ ex → h'.get? b = some o
  slot : ∀ b o, h.get? b = some o → H b = none → b ∈ fs → b ∉ ex → ∃ sl, h'.get? b = some { o with slots := sl }
  free : ∀ b o, h.get? b = some o → H b = none → b ∉ ex → H' b = none
  there : ∀ b o, h.get? b = some o → b ∉ ex → ∃ o', h'.get? b = some o'
  tups : ∀ b xs, H b = some (.tup xs) → H' b = some (.tup xs)
  frzs : ∀ b o u, H b = some (.frz o u) → H' b = some (.frz o u)
  tbls : ∀ b ps, H b = some (.tbl ps) → ∃ more, H' b = some (.tbl (ps ++ more))
section
variable {fs fs' ex ex' : List Addr} {H H1 H2 : Hp} {h h1 h2 h' : Heap} {a x e : Addr} {o : HO}
theorem Un.any (u : Un fs ex H H1 h h1) {b : Addr} {ob : Obj} (q : h.get? b = some ob) (n : H b = none) (hx : b ∉ ex) : ∃ sl, h1.get? b = some { ob with slots := sl } := by
  by_cases hb : b ∈ fs
  · exact u.slot b ob q n hb hx
  · exact ⟨ob.slots, u.keep b ob q n hb hx⟩
theorem Un.trans (a : Un fs ex H H1 h h1) (b : Un fs ex H1 H2 h1 h2) : Un fs ex H H2 h h2 where
  keep := fun c ob q n hc hx => b.keep c ob (a.keep c ob q n hc hx) (a.free c ob q n hx) hc hx
  slot := fun c ob q n hc hx => by
    obtain ⟨sl, e1⟩ := a.slot c ob q n hc hx
    obtain ⟨sl', e2⟩ := b.slot c _ e1 (a.free c ob q n hx) hc hx
    exact ⟨sl', e2⟩
  free := fun c ob q n hx => by
    obtain ⟨o', e1⟩ := a.there c ob q hx
    exact b.free c o' e1 (a.free c ob q n hx) hx
  there := fun c ob q hx => by
    obtain ⟨o', e1⟩ := a.there c ob q hx
    exact b.there c o' e1 hx
  tups := fun c xs q => b.tups c xs (a.tups c xs q)
  frzs := fun c ob xs q => b.frzs c ob xs (a.frzs c ob xs q)
  tbls := fun c ps q => by
    obtain ⟨m1, e1⟩ := a.tbls c ps q
    obtain ⟨m2, e2⟩ := b.tbls c _ e1
    exact ⟨m1 ++ m2, by rw [e2, Array.append_assoc]⟩
theorem Un.kept (k : ∀ b u, h.get? b = some u → h'.get? b = some u) : Un fs ex H H h h' :=
  ⟨fun b ob q _ _ _ => k b ob q, fun b ob q _ _ _ => ⟨ob.slots, k b ob q⟩, fun _ _ _ n _ => n, fun b ob q _ => ⟨ob, k b ob q⟩, fun _ _ q => q, fun _ _ _ q => q, fun _ ps q => ⟨#[], by rw [q]; simp⟩⟩
theorem Un.refl : Un fs ex H H h h := Un.kept fun _ _ q => q
theorem Un.laid (k : ∀ b u, h.get? b = some u → h'.get? b = some u) (hp : h.objs.size ≤ a) (hn : H a = none) : Un fs ex H (upd H a o) h h' where
  keep := fun b u q _ _ _ => k b u q
  slot := fun b u q _ _ _ => ⟨u.slots, k b u q⟩
  free := fun b u q n _ => by rw [upd_ne (Nat.ne_of_lt (Nat.lt_of_lt_of_le (Heap.lt_size q) hp))]; exact n
  there := fun b u q _ => ⟨u, k b u q⟩
  tups := fun b xs q => by rw [upd_ne (ne_of_none q hn)]; exact q
  frzs := fun b u xs q => by rw [upd_ne (ne_of_none q hn)]; exact q
  tbls := fun b ps q => ⟨#[], by rw [upd_ne (ne_of_none q hn), q]; simp⟩
theorem Un.write (mu : Mut (H x)) (he : e = x ∨ H e = some (.own x)) (k : ∀ b u, b ≠ e → h.get? b = some u → h'.get? b = some u) (heo : ∃ u, h'.get? e = some u) : Un fs ex H (upd H x o) h h' := by
  have hx : ∀ b, H b = none → b ≠ x := fun b n z => by subst z; rw [n] at mu; exact mu
  have hb : ∀ b, H b = none → b ≠ e := fun b n z => by
    subst z
    rcases he with r | r
    · exact hx b n r
    · rw [n] at r; cases r
  have hm : ∀ b u, H b = some u → ¬ Mut (some u) → b ≠ x := fun b u q nm z => by subst z; rw [q] at mu; exact nm mu
  refine ⟨fun b u q n _ _ => k b u (hb b n) q, fun b u q n _ _ => ⟨u.slots, k b u (hb b n) q⟩, fun b u q n _ => by rw [upd_ne (hx b n)]; exact n, fun b u q _ => ?_,
    fun b xs q => by rw [upd_ne (hm b _ q fun z => z)]; exact q, fun b u xs q => by rw [upd_ne (hm b _ q fun z => z)]; exact q, fun b ps q => ⟨#[], by rw [upd_ne (hm b _ q fun z => z), q]; simp⟩⟩
  by_cases hbe : b = e
  · subst hbe; exact heo
  · exact ⟨u, k b u hbe q⟩
theorem Un.mono (u : Un fs ex H H1 h h1) (hs : ∀ b ∈ fs, b ∈ fs') (hx : ∀ b ∈ ex, b ∈ ex') : Un fs' ex' H H1 h h1 :=
  ⟨fun b ob q n hb he => u.keep b ob q n (fun z => hb (hs b z)) fun z => he (hx b z), fun _ _ q n _ he => u.any q n fun z => he (hx _ z), fun b ob q n he => u.free b ob q n fun z => he (hx b z), fun b ob q he => u.there b ob q fun z => he (hx b z), u.tups, u.frzs, u.tbls⟩
end

noncomputable def trk (h : Heap) (H : Hp) : List Addr := (List.range h.objs.size).filter fun a => (H a).isSome
noncomputable def hidT (h : Heap) (H : Hp) : Heap := PySem.W.hideAll h (trk h H)
theorem hidT_size (h : Heap) (H : Hp) : (hidT h H).objs.size = h.objs.size := PySem.W.hideAll_size _ _
theorem hidT_get {h : Heap} {H : Hp} {b : Addr} {o : Obj} (e : h.get? b = some o) (n : H b = none) : (hidT h H).get? b = some o :=
  PySem.W.hideAll_get _ e fun hm => by
    have q : (H b).isSome = true := (List.mem_filter.mp hm).2
    rw [n] at q; simp at q
theorem of_hidT {h : Heap} {H : Hp} {b : Addr} {o : Obj} (e : (hidT h H).get? b = some o) : h.get? b = some o ∧ H b = none := by
  have e' : h.get? b = some o := PySem.W.of_hideAll (trk h H) e
  refine ⟨e', ?_⟩
  cases q : H b with
  | none => rfl
  | some x =>
    have hm : b ∈ trk h H := List.mem_filter.mpr ⟨List.mem_range.mpr (Heap.lt_size e'), by simp [q]⟩
    have z : (hidT h H).get? b = none := PySem.W.hideAll_none (trk h H) hm
    rw [z] at e; cases e

noncomputable def allNews (g h : Heap) (L : Addr) : List (Addr × Obj) := (List.range h.objs.size).filterMap fun a => if a = L ∨ (g.get? a).isSome = true then none else (h.get? a).map fun o => (a, o)
noncomputable def rest (g h : Heap) (L d : Addr) : List (Addr × Obj) := (allNews g h L).filter fun p => decide (p.1 ≠ d)
end L2

namespace L2
open PySem PySem.Spec PyProof.Rows

structure Mod (K : PySem.W.Frag) (mg : Str → Option Value) (base : Heap) : Prop where
  kin : K.In base
  glob : base.Ns mainGlobals mg
  blt : ∃ mb, base.Ns builtinsNs mb ∧ ∀ x : Str, x ≠ "__name__" → mb x = bootBuiltins x
  nolimit : base.NoLimit

structure Cx where
  prog : Program
  w : World
  K : PySem.W.Frag
  mg : Str → Option Value
  base : Heap
  A : Around
  N : List Str
  s₀ : Shared
  H₀ : Hp
  env : Env
  outer : List Env
  stack : List Env
  ex : List Addr
  fn : Str → Bool
  calm : Bool
  pn : List (Addr × Obj)
  xe : Value → Shared → Prop
noncomputable def frs (l : List Env) : List Addr := l.filterMap (·.frame)
noncomputable abbrev Cx.fs (X : Cx) : List Addr := frs X.outer

noncomputable def Vis (sc : Scope) (x : Str) : Prop := sc.names.lookup x = some .local ∨ sc.names.lookup x = some .cell ∨ sc.names.lookup x = some .free
noncomputable def Loc (sc : Scope) (x : Str) : Prop := sc.names.lookup x = some .local ∨ sc.names.lookup x = some .cell
noncomputable def Look (env : Env) (h : Heap) (m : Str → Option Value) (x : Str) (u : Value) : Prop :=
  (env.kindOf x = some .local ∧ m x = some u) ∨ ((env.kindOf x = some .cell ∨ env.kindOf x = some .free) ∧ ∃ c, env.cells.lookup x = some c ∧ h.IsCell c (some u))

structure Cx.Ok (X : Cx) : Prop where
  mod : Mod X.K X.mg X.base
  kind : X.env.scope.kind = .function
  glob : X.env.globals = mainGlobals
  blt : X.env.builtins = builtinsNs
  above : X.s₀.heap.objs.size ≤ X.env.locals
  inj : ∀ x y c, X.env.cells.lookup x = some c → X.env.cells.lookup y = some c → x = y
  has : ∀ x, (X.env.kindOf x = some .cell ∨ X.env.kindOf x = some .free) → ∃ c, X.env.cells.lookup x = some c
  cab : ∀ x c, X.fn x = true → X.env.cells.lookup x = some c → X.s₀.heap.objs.size ≤ c
  hd : X.calm = true → X.A.handled = none
  frames : X.A.frames = some X.stack
  stk : X.stack = X.outer ∨ (X.stack = X.env :: X.outer ∧ X.env.frame = some X.env.locals)
  exf : ∀ b ∈ X.ex, b ≠ X.env.locals ∧ ∀ x c, X.env.cells.lookup x = some c → c ≠ b
  bs : ∀ b o, X.base.get? b = some o → X.s₀.heap.get? b = some o ∧ X.H₀ b = none
  bsz : X.base.objs.size ≤ X.s₀.heap.objs.size
  noex : ∀ b o, X.base.get? b = some o → b ∉ X.ex
  exfs : ∀ b ∈ X.ex, b ∉ X.fs
  funs : X.s₀.heap.FunFrames X.base X.outer
  frf : ∀ b ∈ X.fs, X.H₀ b = none

structure Inv (X : Cx) (pins : List (Addr × Obj)) (σ : List (Option V)) (H : Hp) (s : Shared) : Prop where
  ok : X.Ok
  os : s.os = X.s₀.os
  bare : AllBare s.gens
  base : Un X.fs X.ex X.H₀ H X.s₀.heap s.heap
  loc : ∃ m, s.heap.Ns X.env.locals m ∧ ∀ (i : Nat) (x : Str) (v : V), X.N[i]? = some x → σ[i]? = some (some v) → Vis X.env.scope x → ∃ u, RelV v u ∧ Look X.env s.heap m x u
  cell : ∀ x c, X.env.cells.lookup x = some c → ∃ v, s.heap.IsCell c v
  free : H X.env.locals = none
  freeC : ∀ x c, X.env.cells.lookup x = some c → H c = none
  pin : ∀ p ∈ X.pn ++ pins, s.heap.get? p.1 = some p.2 ∧ H p.1 = none ∧ p.1 ≠ X.env.locals ∧ p.1 ∉ X.fs ∧ ∀ v, p.2.data ≠ .cell v
  hok : HOk X.prog X.w H s.heap
  len : σ.length = X.N.length

section
variable {X : Cx} {pins : List (Addr × Obj)} {σ : List (Option V)} {H H' : Hp} {s : Shared} {h' : Heap}

theorem Cx.Ok.nofr (ok : X.Ok) {b : Addr} {o : Obj} (e : X.base.get? b = some o) : b ∉ X.fs := fun hb => by
  have := (ok.funs.mem hb).1
  rw [e] at this; cases this
theorem Inv.bs (I : Inv X pins σ H s) : ∀ b o, X.base.get? b = some o → s.heap.get? b = some o ∧ H b = none := fun b o e =>
  ⟨I.base.keep b o (I.ok.bs b o e).1 (I.ok.bs b o e).2 (I.ok.nofr e) (I.ok.noex b o e), I.base.free b o (I.ok.bs b o e).1 (I.ok.bs b o e).2 (I.ok.noex b o e)⟩
theorem Inv.bk (I : Inv X pins σ H s) : ∀ b o, X.base.get? b = some o → s.heap.get? b = some o := fun b o e => (I.bs b o e).1
theorem Inv.mod (I : Inv X pins σ H s) : Mod X.K X.mg X.base := I.ok.mod
theorem Inv.kIn (I : Inv X pins σ H s) : X.K.In s.heap := I.ok.mod.kin.keeps I.bk
theorem Inv.nolimit (I : Inv X pins σ H s) : s.heap.NoLimit := I.ok.mod.nolimit.keeps I.bk
theorem Inv.fr (I : Inv X pins σ H s) : ∃ m, Fr X.base X.env.locals s.heap m :=
  let ⟨m, hn, _⟩ := I.loc
  ⟨m, hn, I.bk, Nat.le_trans I.ok.bsz I.ok.above⟩
theorem Inv.lt (I : Inv X pins σ H s) : X.env.locals < s.heap.objs.size := let ⟨_, hn, _⟩ := I.loc; hn.lt
theorem Inv.sz (I : Inv X pins σ H s) : X.s₀.heap.objs.size ≤ s.heap.objs.size := Nat.le_trans I.ok.above (Nat.le_of_lt I.lt)
theorem Inv.nofs (I : Inv X pins σ H s) {a : Addr} (h : s.heap.objs.size ≤ a) : a ∉ X.fs := fun hb => by
  obtain ⟨_, o, ho, _⟩ := I.ok.funs.mem hb
  exact absurd (Nat.lt_of_lt_of_le (Heap.lt_size ho) (Nat.le_trans I.sz h)) (Nat.lt_irrefl _)
theorem Inv.cne (I : Inv X pins σ H s) : ∀ x c, X.env.cells.lookup x = some c → c ≠ X.env.locals := fun x c e z => by
  obtain ⟨v, o, ho, hd⟩ := I.cell x c e
  obtain ⟨m, ⟨o', es, ep, ho', hd', _⟩, _⟩ := I.loc
  rw [z, ho'] at ho; cases ho; rw [hd'] at hd; cases hd
theorem Inv.funs (I : Inv X pins σ H s) : s.heap.FunFrames X.base X.outer := by
  have all : ∀ (l : List Env), (∀ b ∈ frs l, b ∈ X.fs) → X.s₀.heap.FunFrames X.base l → s.heap.FunFrames X.base l := by
    intro l
    induction l with
    | nil => intro _ _; trivial
    | cons env r ih =>
      intro hs hl
      obtain ⟨hk, ⟨L, o, hf, hn, ho, hd⟩, hr⟩ := hl
      have hL : L ∈ X.fs := hs L (by unfold frs; rw [List.filterMap_cons, hf]; exact List.mem_cons_self)
      obtain ⟨sl, e⟩ := I.base.slot L o ho (I.ok.frf L hL) hL fun z => I.ok.exfs L z hL
      exact ⟨hk, ⟨L, _, hf, hn, e, hd⟩, ih (fun b hb => hs b (by unfold frs; rw [List.filterMap_cons, hf]; exact List.mem_cons_of_mem _ hb)) hr⟩
  exact all X.outer (fun _ hb => hb) I.ok.funs

theorem Inv.stack (I : Inv X pins σ H s) : s.heap.FunFrames X.base X.stack := by
  rcases I.ok.stk with e | ⟨e, hf⟩
  · rw [e]; exact I.funs
  · rw [e]
    obtain ⟨m, hn, _⟩ := I.loc
    refine .cons (by rw [I.ok.kind]; decide) hf hn ?_ I.funs
    exact Heap.get?_none_of_le (Nat.le_trans I.ok.bsz I.ok.above)
theorem Inv.stkSub (I : Inv X pins σ H s) : ∀ b ∈ frs X.stack, b ∈ X.env.locals :: X.fs := fun b hb => by
  rcases I.ok.stk with e | ⟨e, hf⟩
  · rw [e] at hb; exact List.mem_cons_of_mem _ hb
  · rw [e] at hb
    unfold frs at hb
    rw [List.filterMap_cons, hf] at hb
    exact hb
theorem Inv.stkFree (I : Inv X pins σ H s) : ∀ b ∈ frs X.stack, H b = none := fun b hb => by
  rcases List.mem_cons.mp (I.stkSub b hb) with e | hb
  · rw [e]; exact I.free
  · obtain ⟨_, o, ho, _⟩ := I.ok.funs.mem hb
    exact I.base.free b o ho (I.ok.frf b hb) fun z => I.ok.exfs b z hb

theorem Inv.step {g' : Array GenState} {t' : Nat} {d' : Drawn} {ch : List Addr} (I : Inv X pins σ H s)
    (hch : ∀ b ∈ ch, (b ∈ X.ex ∨ X.s₀.heap.objs.size ≤ b) ∧ b ≠ X.env.locals ∧ (∀ x c, X.env.cells.lookup x = some c → c ≠ b) ∧ ∀ p ∈ X.pn ++ pins, p.1 ≠ b)
    (keep : ∀ b o, b ≠ X.env.locals → b ∉ X.fs → b ∉ ch → s.heap.get? b = some o → H b = none → h'.get? b = some o)
    (slot : ∀ b o, b ≠ X.env.locals → b ∈ X.fs → b ∉ ch → s.heap.get? b = some o → H b = none → ∃ sl, h'.get? b = some { o with slots := sl }) (free : ∀ b o, b ∉ ch → s.heap.get? b = some o → H b = none → H' b = none)
    (there : ∀ b o, b ∉ ch → s.heap.get? b = some o → ∃ o', h'.get? b = some o')
    (tups : ∀ b xs, H b = some (.tup xs) → H' b = some (.tup xs)) (frzs : ∀ b o u, H b = some (.frz o u) → H' b = some (.frz o u)) (tbls : ∀ b ps, H b = some (.tbl ps) → ∃ more, H' b = some (.tbl (ps ++ more)))
    (ns : ∀ m, s.heap.Ns X.env.locals m → h'.Ns X.env.locals m) (hok : HOk X.prog X.w H' h') (hg : AllBare g') :
    Inv X pins σ H' { s with heap := h', gens := g', drawn := d', toks := t' } := by
  have neL : ∀ b o, X.s₀.heap.get? b = some o → b ≠ X.env.locals := fun b o e => Nat.ne_of_lt (Nat.lt_of_lt_of_le (Heap.lt_size e) I.ok.above)
  have neC : ∀ b o, X.s₀.heap.get? b = some o → b ∉ X.ex → b ∉ ch := fun b o e hx hb => by
    rcases (hch b hb).1 with z | z
    · exact hx z
    · exact absurd (Nat.lt_of_lt_of_le (Heap.lt_size e) z) (Nat.lt_irrefl _)
  have cellK : ∀ x c, X.env.cells.lookup x = some c → ∀ v, s.heap.IsCell c v → h'.IsCell c v := fun x c e v ⟨o, ho, hd⟩ => by
    have nch : c ∉ ch := fun z => (hch c z).2.2.1 x c e rfl
    by_cases hc : c ∈ X.fs
    · obtain ⟨sl, q⟩ := slot c o (I.cne x c e) hc nch ho (I.freeC x c e)
      exact ⟨_, q, hd⟩
    · exact ⟨o, keep c o (I.cne x c e) hc nch ho (I.freeC x c e), hd⟩
  refine ⟨I.ok, I.os, hg, ⟨fun b o e n hb hx => ?_, fun b o e n hb hx => ?_, fun b o e n hx => ?_, fun b o e hx => ?_, fun b xs e => tups b xs (I.base.tups b xs e), fun b o xs e => frzs b o xs (I.base.frzs b o xs e), fun b ps e => ?_⟩, ?_, fun x c e => ?_, ?_, fun x c e => ?_, fun p hp => ?_, hok, I.len⟩
  · exact keep b o (neL b o e) hb (neC b o e hx) (I.base.keep b o e n hb hx) (I.base.free b o e n hx)
  · obtain ⟨sl, e1⟩ := I.base.slot b o e n hb hx
    obtain ⟨sl', e2⟩ := slot b _ (neL b o e) hb (neC b o e hx) e1 (I.base.free b o e n hx)
    exact ⟨sl', e2⟩
  · obtain ⟨o', e1⟩ := I.base.there b o e hx
    exact free b o' (neC b o e hx) e1 (I.base.free b o e n hx)
  · obtain ⟨o', e1⟩ := I.base.there b o e hx
    exact there b o' (neC b o e hx) e1
  · obtain ⟨m1, e1⟩ := I.base.tbls b ps e
    obtain ⟨m2, e2⟩ := tbls b _ e1
    exact ⟨m1 ++ m2, by rw [e2, Array.append_assoc]⟩
  · obtain ⟨m, hn, hl⟩ := I.loc
    refine ⟨m, ns m hn, fun i x v e1 e2 e3 => ?_⟩
    obtain ⟨u, r, l⟩ := hl i x v e1 e2 e3
    refine ⟨u, r, ?_⟩
    rcases l with l | ⟨k, c, e, z⟩
    · exact .inl l
    · exact .inr ⟨k, c, e, cellK x c e _ z⟩
  · obtain ⟨v, z⟩ := I.cell x c e
    exact ⟨v, cellK x c e v z⟩
  · obtain ⟨m, ⟨o, _, _, ho, _⟩, _⟩ := I.loc
    exact free _ o (fun z => (hch _ z).2.1 rfl) ho I.free
  · obtain ⟨v, o, ho, hd⟩ := I.cell x c e
    exact free c o (fun z => (hch c z).2.2.1 x c e rfl) ho (I.freeC x c e)
  · obtain ⟨e, n, ne, nf, d⟩ := I.pin p hp
    have nch : p.1 ∉ ch := fun z => (hch p.1 z).2.2.2 p hp rfl
    exact ⟨keep p.1 p.2 ne nf nch e n, free p.1 p.2 nch e n, ne, nf, d⟩
theorem Inv.un {t' : Nat} (I : Inv X pins σ H s) (u : Un X.fs [] H H' s.heap h') (hok : HOk X.prog X.w H' h') : Inv X pins σ H' { s with heap := h', toks := t' } := by
  obtain ⟨m, ⟨o, es, ep, ho, r⟩, _⟩ := id I.loc
  obtain ⟨sl, hL⟩ := u.any ho I.free (by simp)
  exact I.step (g' := s.gens) (d' := s.drawn) (ch := []) (fun _ z => nomatch z) (fun b o _ hb _ e n => u.keep b o e n hb (by simp)) (fun b o _ hb _ e n => u.slot b o e n hb (by simp)) (fun b o _ e n => u.free b o e n (by simp)) (fun b o _ e => u.there b o e (by simp)) u.tups u.frzs u.tbls (fun m' hm => by
    obtain ⟨o', es', ep', ho', r'⟩ := hm
    rw [ho] at ho'; cases ho'
    exact ⟨_, es', ep', hL, r'⟩) hok I.bare
theorem Inv.call {g' : Array GenState} {t' : Nat} {d' : Drawn} {ch : List Addr} (I : Inv X pins σ H s) (u : Un (frs X.stack) ch H H' s.heap h') (hok : HOk X.prog X.w H' h') (hg : AllBare g')
    (hch : ∀ b ∈ ch, (b ∈ X.ex ∨ X.s₀.heap.objs.size ≤ b) ∧ b ≠ X.env.locals ∧ (∀ x c, X.env.cells.lookup x = some c → c ≠ b) ∧ ∀ p ∈ X.pn ++ pins, p.1 ≠ b) :
    Inv X pins σ H' { s with heap := h', gens := g', drawn := d', toks := t' } := by
  obtain ⟨m, ⟨o, es, ep, ho, r⟩, _⟩ := id I.loc
  obtain ⟨sl, hL⟩ := u.any ho I.free fun z => (hch _ z).2.1 rfl
  exact I.step (ch := ch) hch (fun b o hL hb hc e n => u.keep b o e n (fun z => (List.mem_cons.mp (I.stkSub b z)).elim hL hb) hc) (fun b o _ _ hc e n => u.any e n hc) (fun b o hc e n => u.free b o e n hc) (fun b o hc e => u.there b o e hc) u.tups u.frzs u.tbls (fun m' hm => by
    obtain ⟨o', es', ep', ho', r'⟩ := hm
    rw [ho] at ho'; cases ho'
    exact ⟨_, es', ep', hL, r'⟩) hok hg
theorem Inv.turned {t' : Nat} {it : Addr} (I : Inv X pins σ H s) (k : ∀ b o, b ≠ it → s.heap.get? b = some o → h'.get? b = some o) (hn : H it = none) (hL : it ≠ X.env.locals)
    (h1 : it ∈ X.ex ∨ X.s₀.heap.objs.size ≤ it) (h2 : ∀ x c, X.env.cells.lookup x = some c → c ≠ it) (h3 : ∀ p ∈ X.pn ++ pins, p.1 ≠ it) : Inv X pins σ H { s with heap := h', toks := t' } := by
  have nit : ∀ b u, H b = some u → b ≠ it := fun b u e z => by rw [z, hn] at e; cases e
  refine I.step (g' := s.gens) (d' := s.drawn) (ch := [it]) (fun b hb => ?_) (fun b o _ _ hc e _ => k b o (fun z => hc (by simp [z])) e) (fun b o _ _ hc e _ => ⟨o.slots, k b o (fun z => hc (by simp [z])) e⟩) (fun _ _ _ _ n => n)
    (fun b o hc e => ⟨o, k b o (fun z => hc (by simp [z])) e⟩) (fun _ _ e => e) (fun _ _ _ e => e) (fun b ps e => ⟨#[], by rw [e]; simp⟩) (fun m hm => ?_) (fun b u e => ?_) I.bare
  · have e : b = it := by simpa using hb
    subst e
    exact ⟨h1, hL, h2, h3⟩
  · obtain ⟨o, es, ep, ho, r⟩ := hm
    exact ⟨o, es, ep, k _ o (Ne.symm hL) ho, r⟩
  · refine (I.hok b u e).stay (fun c v hc q => k c v ?_ q) (fun _ q => q) fun _ _ q => q
    rcases hc with z | z
    · rw [z]; exact nit b u e
    · exact nit c _ z
theorem Inv.tok (I : Inv X pins σ H s) (t : Nat) : Inv X pins σ H { s with toks := t } := I.un (h' := s.heap) (t' := t) Un.refl I.hok
theorem Inv.kept {t' : Nat} (I : Inv X pins σ H s) (k : ∀ b u, s.heap.get? b = some u → h'.get? b = some u) : Inv X pins σ H { s with heap := h', toks := t' } := I.un (Un.kept k) (I.hok.kept k)
theorem Inv.laid {a : Addr} {o : HO} {t' : Nat} (I : Inv X pins σ H s) (k : ∀ b u, s.heap.get? b = some u → h'.get? b = some u) (hp : s.heap.objs.size ≤ a) (new : ObjOk X.prog X.w (upd H a o) h' a o) :
    Inv X pins σ (upd H a o) { s with heap := h', toks := t' } := I.un (Un.laid k hp (I.hok.fresh hp)) (I.hok.laid k hp new)
theorem Inv.write {x e : Addr} {o : HO} {t' : Nat} (I : Inv X pins σ H s) (mu : Mut (H x)) (he : e = x ∨ H e = some (.own x)) (k : ∀ b u, b ≠ e → s.heap.get? b = some u → h'.get? b = some u) (heo : ∃ u, h'.get? e = some u)
    (new : ObjOk X.prog X.w (upd H x o) h' x o) : Inv X pins σ (upd H x o) { s with heap := h', toks := t' } := I.un (Un.write mu he k heo) (I.hok.write mu he k heo new)
theorem Inv.weak {σ' : List (Option V)} (I : Inv X pins σ H s) (hl : σ'.length = σ.length) (w : ∀ (i : Nat) v, σ'[i]? = some (some v) → σ[i]? = some (some v)) : Inv X pins σ' H s :=
  ⟨I.ok, I.os, I.bare, I.base, let ⟨m, hn, hl'⟩ := I.loc; ⟨m, hn, fun i x v e1 e2 e3 => hl' i x v e1 (w i v e2) e3⟩, I.cell, I.free, I.freeC, I.pin, I.hok, hl.trans I.len⟩
theorem Inv.pins_of {pins' : List (Addr × Obj)} (I : Inv X pins σ H s) (h : ∀ p ∈ pins', s.heap.get? p.1 = some p.2 ∧ H p.1 = none ∧ p.1 ≠ X.env.locals ∧ p.1 ∉ X.fs ∧ ∀ v, p.2.data ≠ .cell v) : Inv X pins' σ H s :=
  ⟨I.ok, I.os, I.bare, I.base, I.loc, I.cell, I.free, I.freeC, fun p hp => (List.mem_append.mp hp).elim (fun z => I.pin p (List.mem_append_left _ z)) (h p), I.hok, I.len⟩

theorem nodup_ix {N : List Str} (hN : N.Nodup) {i j : Nat} {x : Str} (a : N[i]? = some x) (b : N[j]? = some x) : i = j := by
  obtain ⟨h1, e1⟩ := List.getElem?_eq_some_iff.mp a
  obtain ⟨h2, e2⟩ := List.getElem?_eq_some_iff.mp b
  exact (List.getElem_inj hN).mp (e1.trans e2.symm)

theorem store_ok2 {M : Model} {A : Around} {E : Value → Shared → Prop} {i : Nat} {x : Str} {v : V} {u : Value} {Q : Unit → Shared → Prop} (I : Inv X pins σ H s) (hN : X.N.Nodup) (hi : X.N[i]? = some x) (hx : Loc X.env.scope x) (r : RelV v u)
    (h : ∀ s', Inv X pins (σ.set i (some v)) H s' → (∃ a, Heap.SameBut a s.heap s'.heap ∧ (a = X.env.locals ∨ X.env.cells.lookup x = some a)) → Q () s') (hf : X.fn x = true ∨ X.env.scope.names.lookup x = some .local := by first | exact .inl rfl | exact .inr rfl | assumption) : wpAny M A (storeName X.env x u) Q E s := by
  obtain ⟨m, hn, hl⟩ := id I.loc
  have hcls : (X.env.scope.kind == .class || (X.env.scope.kind == .module && X.env.locals != X.env.globals)) = false := by rw [I.ok.kind]; rfl
  have hiσ : i < σ.length := by rw [I.len]; exact (List.getElem?_eq_some_iff.mp hi).1
  have cne := I.cne
  have tracked : ∀ {a : Addr} {h' : Heap}, (∃ o, s.heap.get? a = some o ∧ H a = none) → Heap.SameBut a s.heap h' → HOk X.prog X.w H h' := fun {a h'} ha hs b ob e => by
    obtain ⟨_, _, hfree⟩ := ha
    refine (I.hok b ob e).stay (fun c w' hc q => (hs.2 c ?_).trans q) (fun _ q => q) fun _ _ q => q
    rintro rfl
    rcases hc with rfl | hc
    · rw [hfree] at e; cases e
    · rw [hfree] at hc; cases hc
  rcases hx with hk | hk
  · refine wpAny_storeName_local hk hn (fun h' hn' hs => ?_) hcls
    obtain ⟨oL, _, _, hoL, _⟩ := id hn
    refine h _ ⟨I.ok, I.os, I.bare, ⟨fun b o e n hb hx => ?_, fun b o e n hb hx => ?_, I.base.free, fun b o e hx => ?_, I.base.tups, I.base.frzs, I.base.tbls⟩, ⟨_, hn', fun j y v' e1 e2 e3 => ?_⟩, fun y c e => ?_, I.free, I.freeC, fun p hp => ?_, tracked ⟨oL, hoL, I.free⟩ hs, by simpa using I.len⟩ ⟨_, hs, .inl rfl⟩
    · exact (hs.2 b (Nat.ne_of_lt (Nat.lt_of_lt_of_le (Heap.lt_size e) I.ok.above))).trans (I.base.keep b o e n hb hx)
    · obtain ⟨sl, e1⟩ := I.base.slot b o e n hb hx
      exact ⟨sl, (hs.2 b (Nat.ne_of_lt (Nat.lt_of_lt_of_le (Heap.lt_size e) I.ok.above))).trans e1⟩
    · obtain ⟨o', e1⟩ := I.base.there b o e hx
      exact ⟨o', (hs.2 b (Nat.ne_of_lt (Nat.lt_of_lt_of_le (Heap.lt_size e) I.ok.above))).trans e1⟩
    · by_cases hj : j = i
      · subst hj
        rw [hi] at e1; cases e1
        rw [List.getElem?_set_self hiσ] at e2
        cases e2
        exact ⟨u, r, .inl ⟨hk, by simp⟩⟩
      · rw [List.getElem?_set_ne (Ne.symm hj)] at e2
        obtain ⟨u', r', q⟩ := hl j y v' e1 e2 e3
        refine ⟨u', r', ?_⟩
        rcases q with ⟨k, e⟩ | ⟨k, c, e, z⟩
        · refine .inl ⟨k, ?_⟩
          have : y ≠ x := fun e => hj (nodup_ix hN e1 (e ▸ hi))
          simp [this, e]
        · exact .inr ⟨k, c, e, z.sameBut hs (cne y c e)⟩
    · obtain ⟨w', z⟩ := I.cell y c e
      exact ⟨w', z.sameBut hs (cne y c e)⟩
    · obtain ⟨e, n, ne, nf, d⟩ := I.pin p hp
      exact ⟨(hs.2 p.1 ne).trans e, n, ne, nf, d⟩
  · have hfn : X.fn x = true := by
      rcases hf with z | z
      · exact z
      · rw [z] at hk; cases hk
    obtain ⟨c, hc⟩ := I.ok.has x (.inl hk)
    obtain ⟨w', z⟩ := I.cell x c hc
    refine wpAny_storeName_cell I.ok.kind hk hc z (fun h' hc' hs => ?_)
    obtain ⟨oc, hoc, hocd⟩ := id z
    refine h { s with heap := h' } ⟨I.ok, I.os, I.bare, ⟨fun b o e n hb hx => ?_, fun b o e n hb hx => ?_, I.base.free, fun b o e hx => ?_, I.base.tups, I.base.frzs, I.base.tbls⟩, ⟨m, hn.sameBut hs (Ne.symm (cne x c hc)), fun j y v' e1 e2 e3 => ?_⟩, fun y c' e => ?_, I.free, I.freeC, fun p hp => ?_, tracked ⟨oc, hoc, I.freeC x c hc⟩ hs, by simpa using I.len⟩ ⟨c, hs, .inr hc⟩
    · exact (hs.2 b (Nat.ne_of_lt (Nat.lt_of_lt_of_le (Heap.lt_size e) (I.ok.cab x c hfn hc)))).trans (I.base.keep b o e n hb hx)
    · obtain ⟨sl, e1⟩ := I.base.slot b o e n hb hx
      exact ⟨sl, (hs.2 b (Nat.ne_of_lt (Nat.lt_of_lt_of_le (Heap.lt_size e) (I.ok.cab x c hfn hc)))).trans e1⟩
    · obtain ⟨o', e1⟩ := I.base.there b o e hx
      exact ⟨o', (hs.2 b (Nat.ne_of_lt (Nat.lt_of_lt_of_le (Heap.lt_size e) (I.ok.cab x c hfn hc)))).trans e1⟩
    · by_cases hj : j = i
      · subst hj
        rw [hi] at e1; cases e1
        rw [List.getElem?_set_self hiσ] at e2
        cases e2
        exact ⟨u, r, .inr ⟨.inl hk, c, hc, hc'⟩⟩
      · rw [List.getElem?_set_ne (Ne.symm hj)] at e2
        obtain ⟨u', r', q⟩ := hl j y v' e1 e2 e3
        refine ⟨u', r', ?_⟩
        rcases q with q | ⟨k, c', e, z'⟩
        · exact .inl q
        · refine .inr ⟨k, c', e, z'.sameBut hs ?_⟩
          rintro rfl
          exact hj (nodup_ix hN e1 (I.ok.inj _ _ _ e hc ▸ hi))
    · by_cases hcc : c' = c
      · subst hcc; exact ⟨_, hc'⟩
      · obtain ⟨w2, z2⟩ := I.cell y c' e
        exact ⟨w2, z2.sameBut hs hcc⟩
    · obtain ⟨e, n, ne, nf, d⟩ := I.pin p hp
      refine ⟨(hs.2 p.1 ?_).trans e, n, ne, nf, d⟩
      intro q
      rw [q, hoc] at e
      have q' : oc = p.2 := Option.some.inj e
      exact d w' (by rw [← q']; exact hocd)
theorem store_ok {M : Model} {A : Around} {E : Value → Shared → Prop} {i : Nat} {x : Str} {v : V} {u : Value} {Q : Unit → Shared → Prop} (I : Inv X pins σ H s) (hN : X.N.Nodup) (hi : X.N[i]? = some x) (hx : Loc X.env.scope x) (r : RelV v u)
    (h : ∀ s', Inv X pins (σ.set i (some v)) H s' → Q () s') (hf : X.fn x = true ∨ X.env.scope.names.lookup x = some .local := by first | exact .inl rfl | exact .inr rfl | assumption) : wpAny M A (storeName X.env x u) Q E s :=
  store_ok2 I hN hi hx r (fun s' I' _ => h s' I') hf
end

noncomputable abbrev XK := Value → Option Addr → Hp → Prop
noncomputable abbrev St := List (Option V)
noncomputable abbrev VK := V → Hp → Prop
noncomputable abbrev TE := St → Hp → VK → Prop
noncomputable abbrev TT := St → Hp → (Bool → Hp → Prop) → Prop
noncomputable abbrev TA := St → Hp → (List V → Hp → Prop) → Prop
structure Ends where
  nx : St → Hp → Prop
  rt : VK
  bk : St → Hp → Prop := fun _ _ => False
  ct : St → Hp → Prop := fun _ _ => False
noncomputable abbrev TS := Ends → St → Hp → Prop

noncomputable def EP (X : Cx) (pins : List (Addr × Obj)) (σ : St) (Q : VK) (u : Value) (s' : Shared) : Prop := ∃ v H', Inv X pins σ H' s' ∧ RelV v u ∧ Q v H'
noncomputable def TP (X : Cx) (pins : List (Addr × Obj)) (σ : St) (Q : Bool → Hp → Prop) (b : Bool) (s' : Shared) : Prop := ∃ H', Inv X pins σ H' s' ∧ Q b H'
noncomputable def AP (X : Cx) (pins : List (Addr × Obj)) (σ : St) (Q : List V → Hp → Prop) (us : List Value) (s' : Shared) : Prop := ∃ vs H', Inv X pins σ H' s' ∧ Vals vs us ∧ Q vs H'
noncomputable def SP (X : Cx) (pins : List (Addr × Obj)) (D : Ends) (f : Flow) (s' : Shared) : Prop :=
  match f with
  | .next => ∃ σ' H', Inv X pins σ' H' s' ∧ D.nx σ' H'
  | .brk => ∃ σ' H', Inv X pins σ' H' s' ∧ D.bk σ' H'
  | .cont => ∃ σ' H', Inv X pins σ' H' s' ∧ D.ct σ' H'
  | .ret u => ∃ v σ' H', Inv X pins σ' H' s' ∧ RelV v u ∧ D.rt v H'

noncomputable def PE (X : Cx) (e : Expr) (t : TE) : Prop :=
  ∀ (pins : List (Addr × Obj)) (s : Shared) (σ : St) (H : Hp) (Q : VK), Inv X pins σ H s → t σ H Q → wpAny (model X.prog X.w) X.A (eval e X.env) (EP X pins σ Q) X.xe s
noncomputable def PT (X : Cx) (e : Expr) (t : TT) : Prop :=
  ∀ (pins : List (Addr × Obj)) (s : Shared) (σ : St) (H : Hp) (Q : Bool → Hp → Prop), Inv X pins σ H s → t σ H Q → wpAny (model X.prog X.w) X.A (isTrue e X.env (eval e X.env)) (TP X pins σ Q) X.xe s
noncomputable def PW (X : Cx) (e : Expr) (t : TT) : Prop :=
  ∀ (whole : Sem Value) (pins : List (Addr × Obj)) (s : Shared) (σ : St) (H : Hp) (Q : Bool → Hp → Prop), Inv X pins σ H s → t σ H Q → wpAny (model X.prog X.w) X.A (isTrue e X.env whole) (TP X pins σ Q) X.xe s
theorem PW.pt {X : Cx} {e : Expr} {t : TT} (h : PW X e t) : PT X e t := h _
noncomputable def PA (X : Cx) (es : List Expr) (t : TA) : Prop :=
  ∀ (pos : Pos) (pins : List (Addr × Obj)) (s : Shared) (σ : St) (H : Hp) (Q : List V → Hp → Prop), Inv X pins σ H s → t σ H Q → wpAny (model X.prog X.w) X.A (spliced (backTo pos (starEach es X.env))) (AP X pins σ Q) X.xe s
noncomputable def PS (X : Cx) (st : Stmt) (t : TS) : Prop :=
  ∀ (pins : List (Addr × Obj)) (s : Shared) (σ : St) (H : Hp) (D : Ends), Inv X pins σ H s → t D σ H → wpAny (model X.prog X.w) X.A (exec st X.env) (SP X pins D) X.xe s
noncomputable def PSs (X : Cx) (st : List Stmt) (t : TS) : Prop :=
  ∀ (pins : List (Addr × Obj)) (s : Shared) (σ : St) (H : Hp) (D : Ends), Inv X pins σ H s → t D σ H → wpAny (model X.prog X.w) X.A (execs st X.env) (SP X pins D) X.xe s
theorem thn {α : Type} {t : Sem α} {Q Q' : α → Shared → Prop} {M : Model} {A : Around} {E : Value → Shared → Prop} {s : Shared} (h : wpAny M A t Q E s) (hQ : ∀ a s, Q a s → Q' a s) : wpAny M A t Q' E s := wpAny_mono h hQ fun _ _ x => x
end L2

namespace L2
open PySem PySem.Spec PyProof.Rows
section
variable {X : Cx}

noncomputable def tVar (i : Nat) : TE := fun σ H Q => ∃ v, σ[i]? = some (some v) ∧ Q v H
noncomputable def tC (v : V) : TE := fun _ H Q => Q v H
theorem pe_var {i : Nat} {x : Str} {pos : Pos} (hN : X.N[i]? = some x) (hv : Vis X.env.scope x) (hd : (x == ("__debug__" : Str)) = false := by decide) (hcd : (x == ("__classdict__" : Str)) = false := by decide) : PE X (.Name x pos) (tVar i) := by
  intro pins s σ H Q I h
  obtain ⟨v, e, h⟩ := h
  obtain ⟨m, hn, hl⟩ := I.loc
  obtain ⟨u, r, l⟩ := hl i x v hN e hv
  have fin : EP X pins σ Q u s := ⟨v, H, I, r, h⟩
  rcases l with ⟨hk, hm⟩ | ⟨hk, c, hc, hcell⟩
  · exact wpAny_Name (wpAny_loadName_local I.ok.kind hk hn hm fin) hd
  · rcases hk with hk | hk
    · exact wpAny_Name (wpAny_loadName_cell I.ok.kind hk hc hcell fin) hd
    · exact wpAny_Name (wpAny_loadName_free I.ok.kind hk hc hcell fin hcd) hd
theorem pe_int {i j pos} : PE X (.Constant (.int i) j pos) (tC (.int i)) := fun _ _ _ H _ I h => wpAny_Constant_int ⟨.int i, H, I.tok _, ⟨_, rfl⟩, h⟩
theorem pe_bl {b j pos} : PE X (.Constant (.bool b) j pos) (tC (.bl b)) := fun _ _ _ H _ I h => Constant_bool ⟨.bl b, H, I, rfl, h⟩
theorem pe_non {j pos} : PE X (.Constant .none j pos) (tC .non) := fun _ _ _ H _ I h => Constant_none ⟨.non, H, I, rfl, h⟩
theorem pe_str {x j pos} : PE X (.Constant (.str x) j pos) (tC (.str x)) := fun _ _ _ H _ I h => Calls.Constant_str ⟨.str x, H, I.tok _, ⟨_, rfl⟩, h⟩

noncomputable def Gl (X : Cx) (x : Str) : Prop := X.env.kindOf x = some .globalImplicit
theorem ld_glob {E : Value → Shared → Prop} {pins : List (Addr × Obj)} {s : Shared} {σ : St} {H : Hp} {x : Str} {u : Value} {pos : Pos} {Q : Value → Shared → Prop} (I : Inv X pins σ H s) (hg : Gl X x) (hm : X.mg x = some u) (h : Q u s)
    (hd : (x == ("__debug__" : Str)) = false := by decide) : wpAny (model X.prog X.w) X.A (eval (.Name x pos) X.env) Q E s :=
  Calls.Name_function_global I.ok.kind hg (Calls.loadGlobal_global (by rw [I.ok.glob]; exact I.mod.glob.keeps I.bk) hm h) hd
theorem ld_blt {E : Value → Shared → Prop} {pins : List (Addr × Obj)} {s : Shared} {σ : St} {H : Hp} {x : Str} {u : Value} {pos : Pos} {Q : Value → Shared → Prop} (I : Inv X pins σ H s) (hg : Gl X x) (hm : X.mg x = none) (hv : bootBuiltins x = some u) (h : Q u s)
    (hn : x ≠ "__name__" := by decide) (hd : (x == ("__debug__" : Str)) = false := by decide) : wpAny (model X.prog X.w) X.A (eval (.Name x pos) X.env) Q E s := by
  obtain ⟨mb, h1, h2⟩ := I.mod.blt
  exact Calls.Name_function_global I.ok.kind hg (Calls.loadGlobal_builtin (by rw [I.ok.glob]; exact I.mod.glob.keeps I.bk) hm (by rw [I.ok.blt]; exact h1.keeps I.bk) ((h2 x hn).trans hv) h) hd
theorem pe_glob {x : Str} {v : V} {u : Value} {pos : Pos} (hg : Gl X x) (hm : X.mg x = some u) (r : RelV v u) (hd : (x == ("__debug__" : Str)) = false := by decide) : PE X (.Name x pos) (tC v) :=
  fun _ _ _ H _ I h => ld_glob I hg hm ⟨v, H, I, r, h⟩ hd
theorem pe_bltn {x : Str} {v : V} {u : Value} {pos : Pos} (hg : Gl X x) (hm : X.mg x = none) (hv : bootBuiltins x = some u) (r : RelV v u) (hn : x ≠ "__name__" := by decide) (hd : (x == ("__debug__" : Str)) = false := by decide) : PE X (.Name x pos) (tC v) :=
  fun _ _ _ H _ I h => ld_blt I hg hm hv ⟨v, H, I, r, h⟩ hn hd

variable {a b : Expr} {ta tb : TE} {pos : Pos}
variable {tA tB' : TT} {rest : List Expr}
noncomputable def tAnd (t u : TT) : TT := fun σ H Q => t σ H fun c H1 => if c = true then u σ H1 Q else Q false H1
noncomputable def tOr (t u : TT) : TT := fun σ H Q => t σ H fun c H1 => if c = true then Q true H1 else u σ H1 Q
noncomputable def tNot (t : TT) : TT := fun σ H Q => t σ H fun c H1 => Q (!c) H1
theorem pw_and1 (ha : PT X a tA) : PW X (.BoolOp .And [a] pos) tA := by
  intro wh pins s σ H Q I h
  refine isTrue_and (thn (ha pins s σ H Q I h) fun c s1 e => ?_)
  cases c with
  | true => exact isTrue_and_nil e
  | false => exact e
theorem pw_or1 (ha : PT X a tA) : PW X (.BoolOp .Or [a] pos) tA := by
  intro wh pins s σ H Q I h
  refine isTrue_or (thn (ha pins s σ H Q I h) fun c s1 e => ?_)
  cases c with
  | false => exact isTrue_or_nil e
  | true => exact e
theorem pw_and (ha : PT X a tA) (hb : PW X (.BoolOp .And (b :: rest) pos) tB') : PW X (.BoolOp .And (a :: b :: rest) pos) (tAnd tA tB') := by
  intro wh pins s σ H Q I h
  refine isTrue_and (thn (ha pins s σ H _ I h) fun c s1 ⟨H1, I1, q1⟩ => ?_)
  cases c with
  | true => exact hb wh pins s1 σ H1 Q I1 q1
  | false => exact ⟨H1, I1, q1⟩
theorem pw_or (ha : PT X a tA) (hb : PW X (.BoolOp .Or (b :: rest) pos) tB') : PW X (.BoolOp .Or (a :: b :: rest) pos) (tOr tA tB') := by
  intro wh pins s σ H Q I h
  refine isTrue_or (thn (ha pins s σ H _ I h) fun c s1 ⟨H1, I1, q1⟩ => ?_)
  cases c with
  | true => exact ⟨H1, I1, q1⟩
  | false => exact hb wh pins s1 σ H1 Q I1 q1
theorem pt_not (ha : PT X a tA) : PT X (.UnaryOp .Not a pos) (tNot tA) := by
  intro pins s σ H Q I h
  exact isTrue_not (ha pins s σ H (fun c H1 => Q (!c) H1) I h)
noncomputable def tAndV (ta tb : TE) : TE := fun σ H Q => ta σ H fun x H1 => ∃ c, x = .bl c ∧ if c = true then tb σ H1 Q else Q (.bl false) H1
noncomputable def tNotV (ta : TE) : TE := fun σ H Q => ta σ H fun x H1 => ∃ c, x = .bl c ∧ Q (.bl (!c)) H1
theorem pe_one {op} {t : TE} (h : PE X a t) : PE X (.BoolOp op [a] pos) t := fun pins s σ H Q I hw => BoolOp_one (h pins s σ H Q I hw)
theorem pe_and (ha : PE X a ta) (hb : PE X (.BoolOp .And (b :: rest) pos) tb) : PE X (.BoolOp .And (a :: b :: rest) pos) (tAndV ta tb) := by
  intro pins s σ H Q I h
  refine BoolOp_and (thn (ha pins s σ H _ I h) fun v s1 ⟨x, H1, I1, r1, q1⟩ => ?_)
  obtain ⟨c, rfl, q1⟩ := q1
  cases r1
  refine wpAny_truthy_bool ?_
  cases c with
  | true => exact hb pins s1 σ H1 Q I1 q1
  | false => exact ⟨.bl false, H1, I1, rfl, q1⟩
theorem pe_not (ha : PE X a ta) : PE X (.UnaryOp .Not a pos) (tNotV ta) := by
  intro pins s σ H Q I h
  refine UnaryOp_ (thn (ha pins s σ H _ I h) fun v s1 ⟨x, H1, I1, r1, q1⟩ => ?_)
  obtain ⟨c, rfl, q1⟩ := q1
  cases r1
  exact not_of (wpAny_truthy_bool ⟨.bl (!c), H1, I1, rfl, q1⟩)
end
end L2

namespace L2
open PySem PySem.Spec PyProof.Rows

noncomputable def SqL (K : PySem.W.Frag) (H : Hp) (a : Addr) (xs : List V) : Prop :=
  Rd H a (.lst xs) ∨
    ∃ (o : Obj) (its : Array Value) (n : Nat), K.lookup a = some o ∧ o.cls = .type "list" ∧ o.dict = none ∧ o.data = .seq its n ∧ its.size ≤ sizeLine ∧ Vals xs its.toList
noncomputable def SqT (K : PySem.W.Frag) (H : Hp) (a : Addr) (xs : List V) : Prop :=
  Rd H a (.tup xs) ∨
    ∃ (o : Obj) (its : Array Value) (n : Nat), K.lookup a = some o ∧ o.cls = .type "tuple" ∧ o.data = .seq its n ∧ its.size ≤ sizeLine ∧ Vals xs its.toList
noncomputable def absV : Value → Option V
  | .none => some .non
  | .bool b => some (.bl b)
  | .int i _ => some (.int i)
  | .str x _ => some (.str x)
  | .bytes b _ => some (.byt b)
  | .float b _ => some (.flt b)
  | .ref a => some (.ref a)
  | .type n => some (.ty n)
  | _ => none
theorem RelV.abs {x : V} {u : Value} (r : RelV x u) : absV u = some x := by
  cases x with
  | non => cases r; rfl
  | bl _ => cases r; rfl
  | int _ => obtain ⟨t, rfl⟩ := r; rfl
  | str _ => obtain ⟨t, rfl⟩ := r; rfl
  | byt _ => obtain ⟨t, rfl⟩ := r; rfl
  | flt _ => obtain ⟨t, rfl⟩ := r; rfl
  | ref _ => cases r; rfl
  | ty _ => cases r; rfl
theorem RelV.inj {x y : V} {u : Value} (r : RelV x u) (q : RelV y u) : x = y := Option.some.inj (r.abs.symm.trans q.abs)
theorem Vals.inj : ∀ {xs ys : List V} {us : List Value}, Vals xs us → Vals ys us → xs = ys
  | _, _, _, .nil, .nil => rfl
  | _, _, _, .cons r t, .cons r' t' => by rw [r.inj r', Vals.inj t t']
section
variable {X : Cx} {pins : List (Addr × Obj)} {σ : St} {H : Hp} {s : Shared} {a : Addr} {xs ys : List V}
theorem SqL.of {K : PySem.W.Frag} (h : H a = some (.lst xs)) : SqL K H a xs := .inl (.inl h)
theorem SqT.of {K : PySem.W.Frag} (h : H a = some (.tup xs)) : SqT K H a xs := .inl (.inl h)
theorem Inv.list (I : Inv X pins σ H s) (h : SqL X.K H a xs) : ∃ its : List Value, Vals xs its ∧ PlainL s.heap a its.toArray ∧ xs.length ≤ sizeLine := by
  rcases h with h | ⟨o, its, n, hk, hc, hd, hs, hz, r⟩
  · obtain ⟨z, its, n, r, e⟩ := h.ok I.hok
    exact ⟨its, r, ⟨_, n, e, rfl, rfl, rfl⟩, z⟩
  · refine ⟨its.toList, r, ⟨o, n, I.kIn a o hk, hc, hd, by simpa using hs⟩, ?_⟩
    have e := r.length
    simp only [Array.length_toList] at e
    omega
theorem Inv.tuple (I : Inv X pins σ H s) (h : SqT X.K H a xs) : ∃ its : List Value, Vals xs its ∧ IsTup s.heap a its.toArray ∧ xs.length ≤ sizeLine := by
  rcases h with h | ⟨o, its, n, hk, hc, hs, hz, r⟩
  · obtain ⟨z, its, r, p⟩ := h.ok I.hok
    exact ⟨its, r, p, z⟩
  · refine ⟨its.toList, r, ⟨o, I.kIn a o hk, hc, n, by simpa using hs⟩, ?_⟩
    have e := r.length
    simp only [Array.length_toList] at e
    omega
theorem Inv.list_inj (I : Inv X pins σ H s) (h : SqL X.K H a xs) (h' : SqL X.K H a ys) : xs = ys := by
  obtain ⟨its, r, ⟨o, n, e, _, _, d⟩, _⟩ := I.list h
  obtain ⟨its', r', ⟨o', n', e', _, _, d'⟩, _⟩ := I.list h'
  rw [e] at e'; cases e'
  rw [d] at d'
  injection d' with d1 _
  have : its = its' := by simpa using congrArg Array.toList d1
  subst this
  exact r.inj r'
theorem Inv.tuple_inj (I : Inv X pins σ H s) (h : SqT X.K H a xs) (h' : SqT X.K H a ys) : xs = ys := by
  obtain ⟨its, r, ⟨o, e, _, n, d⟩, _⟩ := I.tuple h
  obtain ⟨its', r', ⟨o', e', _, n', d'⟩, _⟩ := I.tuple h'
  rw [e] at e'; cases e'
  rw [d] at d'
  injection d' with d1 _
  have : its = its' := by simpa using congrArg Array.toList d1
  subst this
  exact r.inj r'
end

noncomputable abbrev Cx.wish (X : Cx) (E : Value → Shared → Prop) : Cx := { X with xe := E }
noncomputable abbrev Cx.nox (X : Cx) : Cx := X.wish fun _ _ => False
theorem Cx.Ok.wish {X : Cx} (ok : X.Ok) (E : Value → Shared → Prop) : (X.wish E).Ok :=
  ⟨ok.mod, ok.kind, ok.glob, ok.blt, ok.above, ok.inj, ok.has, ok.cab, ok.hd, ok.frames, ok.stk, ok.exf, ok.bs, ok.bsz, ok.noex, ok.exfs, ok.funs, ok.frf⟩
theorem Cx.Ok.unwish {X : Cx} {E : Value → Shared → Prop} (ok : (X.wish E).Ok) : X.Ok :=
  ⟨ok.mod, ok.kind, ok.glob, ok.blt, ok.above, ok.inj, ok.has, ok.cab, ok.hd, ok.frames, ok.stk, ok.exf, ok.bs, ok.bsz, ok.noex, ok.exfs, ok.funs, ok.frf⟩
section
variable {X : Cx} {pins : List (Addr × Obj)} {σ : St} {H : Hp} {s : Shared} {E : Value → Shared → Prop}
theorem Inv.wish (I : Inv X pins σ H s) (E : Value → Shared → Prop) : Inv (X.wish E) pins σ H s := ⟨I.ok.wish E, I.os, I.bare, I.base, I.loc, I.cell, I.free, I.freeC, I.pin, I.hok, I.len⟩
theorem Inv.unwish (I : Inv (X.wish E) pins σ H s) : Inv X pins σ H s := ⟨I.ok.unwish, I.os, I.bare, I.base, I.loc, I.cell, I.free, I.freeC, I.pin, I.hok, I.len⟩
theorem SP.unwish {D : Ends} {f : Flow} {s' : Shared} (h : SP (X.wish E) pins D f s') : SP X pins D f s' := by
  cases f with
  | next => obtain ⟨σ', H', I, q⟩ := h; exact ⟨σ', H', I.unwish, q⟩
  | brk => obtain ⟨σ', H', I, q⟩ := h; exact ⟨σ', H', I.unwish, q⟩
  | cont => obtain ⟨σ', H', I, q⟩ := h; exact ⟨σ', H', I.unwish, q⟩
  | ret u => obtain ⟨v, σ', H', I, r, q⟩ := h; exact ⟨v, σ', H', I.unwish, r, q⟩
theorem PE.nox {e : Expr} {t : TE} (h : PE X.nox e t) : PE X e t := fun pins s σ H Q I hw =>
  wpAny_mono (h pins s σ H Q (I.wish _) hw) (fun _ _ ⟨v, H', I', r, q⟩ => ⟨v, H', I'.unwish, r, q⟩) fun _ _ z => False.elim z
theorem PT.nox {e : Expr} {t : TT} (h : PT X.nox e t) : PT X e t := fun pins s σ H Q I hw =>
  wpAny_mono (h pins s σ H Q (I.wish _) hw) (fun _ _ ⟨H', I', q⟩ => ⟨H', I'.unwish, q⟩) fun _ _ z => False.elim z
theorem PSs.nox {st : List Stmt} {t : TS} (h : PSs X.nox st t) : PSs X st t := fun pins s σ H D I hw =>
  wpAny_mono (h pins s σ H D (I.wish _) hw) (fun _ _ q => q.unwish) fun _ _ z => False.elim z
end

section
variable {X : Cx} {st : Stmt} {rest : List Stmt} {t u : TS} {e : Expr} {te : TE} {pos : Pos}
noncomputable def tNext : TS := fun D σ H => D.nx σ H
noncomputable def tSeq (t u : TS) : TS := fun D σ H => t { D with nx := u D } σ H
theorem pss_nil : PSs X [] tNext := fun _ _ σ H _ I h => wpAny_execs_nil ⟨σ, H, I, h⟩
theorem pss_cons (h1 : PS X st t) (h2 : PSs X rest u) : PSs X (st :: rest) (tSeq t u) := by
  intro pins s σ H D I h
  refine wpAny_execs_cons (thn (h1 pins s σ H { D with nx := u D } I h) fun f s1 q => ?_)
  cases f with
  | next =>
    obtain ⟨σ', H', I', q⟩ := q
    exact h2 pins s1 σ' H' D I' q
  | ret v => exact q
  | brk => exact q
  | cont => exact q
theorem pss_one (h1 : PS X st t) : PSs X [st] t := by
  intro pins s σ H D I h
  refine wpAny_execs_cons (thn (h1 pins s σ H D I h) fun f s1 q => ?_)
  cases f with
  | next => exact wpAny_execs_nil q
  | ret v => exact q
  | brk => exact q
  | cont => exact q
theorem Inv.quiet {pins : List (Addr × Obj)} {σ : St} {H : Hp} {s : Shared} (I : Inv X pins σ H s) : interactive X.env = false := by simp [interactive, I.ok.kind]
noncomputable def tDrop (te : TE) : TS := fun D σ H => te σ H fun _ H1 => D.nx σ H1
theorem ps_expr (he : PE X e te) (hs : swapsWith e none pos.line X.env = pure false := by rfl) : PS X (.Expr e pos) (tDrop te) := by
  intro pins s σ H D I h
  exact wpAny_Expr_any (thn (he pins s σ H _ I h) fun v s1 ⟨x, H1, I1, r1, q1⟩ => ⟨σ, H1, I1, q1⟩) I.quiet hs
noncomputable def tRet (te : TE) : TS := fun D σ H => te σ H D.rt
theorem ps_ret (he : PE X e te) : PS X (.Return (some e) pos) (tRet te) := by
  intro pins s σ H D I h
  exact wpAny_Return_some (thn (he pins s σ H _ I h) fun v s1 ⟨x, H1, I1, r1, q1⟩ => ⟨x, σ, H1, I1, r1, q1⟩)
noncomputable def tIfS (c : TT) (t u : TS) : TS := fun D σ H => c σ H fun b H1 => if b = true then t D σ H1 else u D σ H1
theorem ps_if {c : Expr} {a b : List Stmt} {tc : TT} (hc : PT X c tc) (ha : PSs X a t) (hb : PSs X b u) : PS X (.If c a b pos) (tIfS tc t u) := by
  intro pins s σ H D I h
  refine wpAny_If (thn (hc pins s σ H _ I h) fun d s1 ⟨H1, I1, q1⟩ => ?_)
  cases d with
  | true => exact ha pins s1 σ H1 D I1 q1
  | false => exact hb pins s1 σ H1 D I1 q1
noncomputable def tNever : TS := fun _ _ _ => False
theorem ps_never : PS X st tNever := fun _ _ _ _ _ _ h => h.elim
theorem pss_never {sts : List Stmt} : PSs X sts tNever := fun _ _ _ _ _ _ h => h.elim
end

noncomputable abbrev TG := V → St → Hp → (St → Hp → Prop) → Prop
noncomputable abbrev TGs := List V → St → Hp → (St → Hp → Prop) → Prop
noncomputable def PG (X : Cx) (target : Expr) (t : TG) : Prop :=
  ∀ (pins : List (Addr × Obj)) (s : Shared) (σ : St) (H : Hp) (v : V) (u : Value) (Q : St → Hp → Prop), Inv X pins σ H s → RelV v u → t v σ H Q →
    wpAny (model X.prog X.w) X.A (assign target X.env u) (fun _ s' => ∃ σ' H', Inv X pins σ' H' s' ∧ Q σ' H') X.xe s
noncomputable def PGs (X : Cx) (ts : List Expr) (t : TGs) : Prop :=
  ∀ (pins : List (Addr × Obj)) (s : Shared) (σ : St) (H : Hp) (vs : List V) (us : List Value) (Q : St → Hp → Prop), Inv X pins σ H s → Vals vs us → t vs σ H Q →
    wpAny (model X.prog X.w) X.A (assignInOrder ((assignEach ts X.env).map (·.2)) us) (fun _ s' => ∃ σ' H', Inv X pins σ' H' s' ∧ Q σ' H') X.xe s
noncomputable abbrev TSet := V → V → V → Hp → (Hp → Prop) → Prop
section
variable {X : Cx} {pos : Pos}
noncomputable def gName (i : Nat) : TG := fun v σ H Q => Q (σ.set i (some v)) H
theorem pg_name {i : Nat} {x : Str} (hN : X.N.Nodup) (hi : X.N[i]? = some x) (hx : Loc X.env.scope x) (hf : X.fn x = true ∨ X.env.scope.names.lookup x = some .local := by first | exact .inl rfl | exact .inr rfl | assumption) : PG X (.Name x pos) (gName i) := by
  intro pins s σ H v u Q I r h
  exact wpAny_assign_Name (store_ok I hN hi hx r (fun s' I' => ⟨_, H, I', h⟩) hf)
noncomputable def gNil : TGs := fun vs σ H Q => vs = [] ∧ Q σ H
noncomputable def gCons (t : TG) (u : TGs) : TGs := fun vs σ H Q => ∃ v r, vs = v :: r ∧ t v σ H fun σ' H' => u r σ' H' Q
theorem pgs_nil : PGs X [] gNil := by
  intro pins s σ H vs us Q I r h
  obtain ⟨e, h⟩ := h
  subst e
  cases r
  exact assignInOrder_nil ⟨σ, H, I, h⟩
theorem pgs_cons {e : Expr} {es : List Expr} {t : TG} {u : TGs} (h1 : PG X e t) (h2 : PGs X es u)
    (hs : (assignEach (e :: es) X.env).map (·.2) = assign e X.env :: (assignEach es X.env).map (·.2) := by rfl) : PGs X (e :: es) (gCons t u) := by
  intro pins s σ H vs us Q I r h
  obtain ⟨v, vr, e1, h⟩ := h
  subst e1
  cases r with
  | cons r rr =>
    rw [hs]
    refine assignInOrder_cons (thn (h1 pins s σ H _ _ _ I r h) fun _ s1 ⟨σ1, H1, I1, q1⟩ => ?_)
    exact h2 pins s1 σ1 H1 _ _ Q I1 rr q1
noncomputable def gTup (K : PySem.W.Frag) (n : Nat) (t : TGs) : TG := fun v σ H Q => ∃ a xs, v = .ref a ∧ SqT K H a xs ∧ xs.length = n ∧ t xs σ H Q
theorem pg_tup {es : List Expr} {k : Nat} {t : TGs} {n : Nat} (hc : X.calm = true) (h : PGs X es t)
    (hn : (assignEach es X.env).length = n := by rfl) (hst : (assignEach es X.env).findIdx? (·.1) = none := by rfl) : PG X (.Tuple es k pos) (gTup X.K n t) := by
  intro pins s σ H v u Q I r hw
  obtain ⟨a, xs, e1, hq, hl, hw⟩ := hw
  subst e1
  cases r
  obtain ⟨its, rv, ht, hz⟩ := I.tuple hq
  refine assign_Tuple_tuple (I.ok.hd hc) ht (by simp [hn, ← hl, rv.length]) hst fun h' hx => ?_
  have I1 : Inv X pins σ H { s with heap := h' } := I.kept (t' := s.toks) fun b o e => hx b o (Nat.ne_of_lt (Heap.lt_size e)) e
  exact h pins _ σ H xs _ Q I1 (by simpa using rv) hw
noncomputable def gSub (to ti : TE) (t : TSet) : TG := fun v σ H Q => to σ H fun o H1 => ti σ H1 fun i H2 => t o i v H2 fun H3 => Q σ H3
noncomputable def tAsg (te : TE) (g : TG) : TS := fun D σ H => te σ H fun x H1 => g x σ H1 D.nx
theorem ps_asg {tg e : Expr} {te : TE} {g : TG} (he : PE X e te) (hg : PG X tg g) (hs : swapsWithSole [tg] e pos.line X.env = pure false := by rfl) (hw : swappedStores [tg] e X.env = pure none := by rfl)
    (h1 : (assignEach [tg] X.env).map (·.2) = [assign tg X.env] := by rfl) : PS X (.Assign [tg] e pos) (tAsg te g) := by
  intro pins s σ H D I h
  refine wpAny_Assign_stores (thn (he pins s σ H _ I h) fun v s1 ⟨x, H1, I1, r1, q1⟩ => ?_) hs hw
  rw [h1]
  exact thn (hg pins s1 σ H1 x v _ I1 r1 q1) fun _ s2 q => q
theorem ps_set {i : Nat} {x : Str} {e : Expr} {te : TE} {pos' : Pos} (hN : X.N.Nodup) (hi : X.N[i]? = some x) (hx : Loc X.env.scope x) (he : PE X e te) (hs : swapsWith e (some (.Name x pos')) pos.line X.env = pure false := by rfl) (hf : X.fn x = true ∨ X.env.scope.names.lookup x = some .local := by first | exact .inl rfl | exact .inr rfl | assumption) :
    PS X (.Assign [.Name x pos'] e pos) (tAsg te (gName i)) := by
  intro pins s σ H D I h
  refine wpAny_Assign_Name (thn (he pins s σ H _ I h) fun v s1 ⟨y, H1, I1, r1, q1⟩ => ?_) hs
  exact store_ok I1 hN hi hx r1 (fun s2 I2 => ⟨_, H1, I2, q1⟩) hf
noncomputable def tPar (i j : Nat) (ta : TA) : TS := fun D σ H => ta σ H fun vs H1 => ∃ v w, vs = [v, w] ∧ D.nx ((σ.set i (some v)).set j (some w)) H1
theorem ps_par {i j : Nat} {x y : Str} {a b : Expr} {ta : TA} {px py pt : Pos} {kt k2 pt2} (hc : X.calm = true) (hN : X.N.Nodup) (hi : X.N[i]? = some x) (hj : X.N[j]? = some y) (hij : i ≠ j)
    (hx : X.env.scope.names.lookup x = some .local) (hy : X.env.scope.names.lookup y = some .local) (ha : PA X [a, b] ta)
    (hw : swappedStores [.Tuple [.Name x px, .Name y py] kt pt] (.Tuple [a, b] k2 pt2) X.env = pure (some [x, y]))
    (hs : swapsWithSole [.Tuple [.Name x px, .Name y py] kt pt] (.Tuple [a, b] k2 pt2) pos.line X.env = pure false := by rfl) :
    PS X (.Assign [.Tuple [.Name x px, .Name y py] kt pt] (.Tuple [a, b] k2 pt2) pos) (tPar i j ta) := by
  intro pins s σ H D I h
  rw [exec_Assign_arm]
  refine wpAny_bind (wpAny_standAt ?_)
  rw [hs]
  refine wpAny_bind (wpAny_pure ?_)
  rw [if_neg (by decide)]
  refine wpAny_bind (Tuple_ (thn (ha _ pins s σ H _ I h) fun us s1 ⟨vs, H1, I1, r1, q1⟩ => ?_))
  obtain ⟨v, w, e1, q1⟩ := q1
  subst e1
  obtain ⟨u1, u2, rfl, rv, rw'⟩ : ∃ u1 u2, us = [u1, u2] ∧ RelV v u1 ∧ RelV w u2 := by
    cases r1 with
    | cons p q =>
      cases q with
      | cons p' q' =>
        cases q'
        exact ⟨_, _, rfl, p, p'⟩
  refine wpAny_newObj_type ?_ (by show 2 ≤ sizeLine; decide)
  have I2 : Inv X pins σ H1 { s1 with heap := s1.heap.push { cls := .type "tuple", data := .seq [u1, u2].toArray } } := I1.kept (t' := s1.toks) fun b o e => Heap.get?_push_of_some _ e
  rw [hw]
  refine wpAny_bind (wpAny_pure ?_)
  show wpAny (model X.prog X.w) X.A (do rule "assign.swapped-stores"; let items ← unpackItems (.ref s1.heap.objs.size) 2 none; assignInOrder [fun v => bindName X.env y v, fun v => bindName X.env x v] items.reverse; pure Flow.next) _ _ _
  refine wpAny_bind (wpAny_rule (wpAny_bind (unpackItems_tuple (items := #[u1, u2]) (I.ok.hd hc) (IsTup.new s1.heap _) fun h' hx' => ?_)))
  have I3 := I2.kept (h' := h') (t' := s1.toks) fun b o e => hx' b o (Nat.ne_of_lt (Heap.lt_size e)) e
  show wpAny _ _ (assignInOrder [fun v => bindName X.env y v, fun v => bindName X.env x v] [u2, u1] >>= fun _ => pure Flow.next) _ _ _
  refine wpAny_bind (assignInOrder_cons (wpAny_bindName (store_ok I3 hN hj (.inl hy) rw' (fun s2 I4 => ?_) (.inr hy))))
  refine assignInOrder_cons (wpAny_bindName (store_ok I4 hN hi (.inl hx) rv (fun s3 I5 => assignInOrder_nil (wpAny_pure ?_)) (.inr hx)))
  rw [List.set_comm _ _ (Ne.symm hij)] at I5
  exact ⟨_, H1, I5, q1⟩
end

section
variable {X : Cx} {pos : Pos}
noncomputable def tWhile (c : TT) (tb : TS) : TS := fun D σ H => ∃ W : Nat → St → Hp → Prop, (∃ m, W m σ H) ∧ ∀ m σ H, W m σ H →
  c σ H fun b H1 => if b = true then ∃ N : St → Hp → Prop, (∀ σ' H', N σ' H' → ∃ m', m' < m ∧ W m' σ' H') ∧ tb { D with nx := N, ct := N, bk := D.nx } σ H1 else D.nx σ H1
theorem ps_while {c : Expr} {body : List Stmt} {tc : TT} {tb : TS} (hp : PassesOwn (model X.prog X.w) X.A X.env X.xe) (hc : PT X c tc) (hb : PSs X body tb) : PS X (.While c body [] pos) (tWhile tc tb) := by
  intro pins s σ H D I h
  obtain ⟨W, ⟨m0, w0⟩, turn⟩ := h
  refine wpAny_While (codeAny_whileLoop (fun n s' => ∃ σ' H', Inv X pins σ' H' s' ∧ W n σ' H') ?_ m0 ⟨σ, H, I, w0⟩)
  rintro n s1 ⟨σ1, H1, I1, w1⟩
  refine wpAny_passesOwn hp (thn (hc pins s1 σ1 H1 _ I1 (turn n σ1 H1 w1)) fun b s2 ⟨H2, I2, q2⟩ => ?_)
  cases b with
  | true =>
    obtain ⟨N, hN, q2⟩ := q2
    rw [if_pos rfl]
    refine wpAny_passesOwn hp (thn (hb pins s2 σ1 H2 _ I2 q2) fun f s3 q3 => ?_)
    cases f with
    | next =>
      obtain ⟨σ3, H3, I3, n3⟩ := q3
      obtain ⟨m', hm, w3⟩ := hN σ3 H3 n3
      exact ⟨m', hm, σ3, H3, I3, w3⟩
    | cont =>
      obtain ⟨σ3, H3, I3, n3⟩ := q3
      obtain ⟨m', hm, w3⟩ := hN σ3 H3 n3
      exact ⟨m', hm, σ3, H3, I3, w3⟩
    | brk => exact q3
    | ret v => exact q3
  | false =>
    rw [if_neg Bool.false_ne_true]
    exact wpAny_execs_nil ⟨σ1, H2, I2, q2⟩
end

structure It where
  go : Nat → Hp → Prop
  yld : Nat → Hp → V → Hp → Prop
  stop : Nat → Hp → Prop
noncomputable def FpOk (X : Cx) (pins : List (Addr × Obj)) (H : Hp) (b : Addr) : Prop :=
  H b = none ∧ b ≠ X.env.locals ∧ b ∉ X.fs ∧ (b ∈ X.ex ∨ X.s₀.heap.objs.size ≤ b) ∧ (∀ x c, X.env.cells.lookup x = some c → c ≠ b) ∧ ∀ p ∈ X.pn ++ pins, p.1 ≠ b
theorem Inv.fpOk {X : Cx} {pins : List (Addr × Obj)} {σ : St} {H H' : Hp} {s : Shared} {b : Addr} (I : Inv X pins σ H s) (hb : s.heap.objs.size ≤ b) (hn : H' b = none) : FpOk X pins H' b := by
  refine ⟨hn, Nat.ne_of_gt (Nat.lt_of_lt_of_le I.lt hb), I.nofs hb, .inr (Nat.le_trans I.sz hb), fun x c e z => ?_, fun p hp z => ?_⟩
  · obtain ⟨v, q⟩ := I.cell x c e
    exact absurd (Nat.lt_of_lt_of_le q.lt (by rw [z]; exact hb)) (Nat.lt_irrefl _)
  · exact absurd (Nat.lt_of_lt_of_le (Heap.lt_size (I.pin p hp).1) (by rw [z]; exact hb)) (Nat.lt_irrefl _)
structure Turn (P : Program) (w : World) (K : PySem.W.Frag) (tg : Expr) (J : It) (fp : List Addr) (it : Addr) (tn : Nat → Heap → Prop) : Prop where
  mem : it ∈ fp
  obj : ∀ i h, tn i h → ∀ b ∈ fp, ∃ o, h.get? b = some o ∧ ∀ v, o.data ≠ .cell v
  keep : ∀ i h h', tn i h → (∀ b ∈ fp, ∀ o, h.get? b = some o → h'.get? b = some o) → tn i h'
  item : ∀ (X : Cx), X.prog = P → X.w = w → X.K = K → X.calm = true → ∀ (i : Nat) (pins : List (Addr × Obj)) (s : Shared) (σ : St) (H : Hp) (E : Value → Shared → Prop), Inv X pins σ H s → (∀ b ∈ fp, FpOk X pins H b) → tn i s.heap → J.go i H →
    wpAny (model P w) X.A (pyNext (.ref it)) (fun r s1 => ∃ u, r = some u ∧
      wpAny (model P w) X.A (letOwnedTupleGo tg (.ref it) u) (fun _ s2 => ∃ x H', Inv X pins σ H' s2 ∧ RelV x u ∧ J.yld i H x H' ∧ tn (i + 1) s2.heap ∧ ∀ b ∈ fp, H' b = none) E s1) E s
  done : ∀ (X : Cx), X.prog = P → X.w = w → X.K = K → X.calm = true → ∀ (i : Nat) (pins : List (Addr × Obj)) (s : Shared) (σ : St) (H : Hp) (E : Value → Shared → Prop), Inv X pins σ H s → (∀ b ∈ fp, FpOk X pins H b) → tn i s.heap → J.stop i H →
    wpAny (model P w) X.A (pyNext (.ref it)) (fun r s1 => r = none ∧ Inv X pins σ H s1) E s
  self : ∀ (A : Around) (i : Nat) (s : Shared) (Q : Value → Shared → Prop) (E : Value → Shared → Prop), tn i s.heap → Q (.ref it) s → wpAny (model P w) A (pyIter (.ref it)) Q E s
noncomputable abbrev TI := St → Hp → (It → Hp → Prop) → Prop
noncomputable def PIE (X : Cx) (pins : List (Addr × Obj)) (σ : St) (tg : Expr) (R : It → Hp → Prop) (itv : Value) (s2 : Shared) : Prop :=
  ∃ (it : Addr) (fp : List Addr) (tn : Nat → Heap → Prop) (J : It) (H' : Hp), itv = .ref it ∧ Inv X pins σ H' s2 ∧ Turn X.prog X.w X.K tg J fp it tn ∧ tn 0 s2.heap ∧ (∀ b ∈ fp, FpOk X pins H' b) ∧ R J H'
noncomputable def PI (X : Cx) (tg iter : Expr) (wi : TI) : Prop :=
  ∀ (pins : List (Addr × Obj)) (s : Shared) (σ : St) (H : Hp) (R : It → Hp → Prop), Inv X pins σ H s → wi σ H R →
    wpAny (model X.prog X.w) X.A (eval iter X.env) (fun v s1 => wpAny (model X.prog X.w) X.A (pyIter v) (PIE X pins σ tg R) X.xe s1) X.xe s

theorem go_of {M : Model} {A : Around} {E : Value → Shared → Prop} {s : Shared} {tg : Expr} {it : Addr} {u : Value} {o : Obj} {n : String} {vs : Array Value} {Q : Unit → Shared → Prop} (ho : s.heap.get? it = some o) (hc : o.cls = .type n) (hd : o.data = .fields vs)
    (hn : ["enumerate", "zip", "dict_itemiterator", "dict_reverseitemiterator", "odict_iterator", "itertools.zip_longest", "itertools.pairwise"].contains n = false) (hQ : Q () s) : wpAny M A (letOwnedTupleGo tg (.ref it) u) Q E s := by
  unfold letOwnedTupleGo
  cases tg <;> first
    | exact wpAny_pure hQ
    | (cases u <;> first
        | exact wpAny_pure hQ
        | (refine wpAny_bind (wpAny_load ho ?_)
           rw [hc, hd]
           show wpAny M A (if (["enumerate", "zip", "dict_itemiterator", "dict_reverseitemiterator", "odict_iterator", "itertools.zip_longest", "itertools.pairwise"].contains n && vs[0]? == some (rawInt _)) = true then _ else _) Q E s
           rw [if_neg (by intro h; rw [hn, Bool.false_and] at h; cases h)]
           exact wpAny_pure hQ))

noncomputable def Itr (lo : Int) (n : Nat) : It := ⟨fun i _ => i < n, fun i H x H' => H' = H ∧ x = .int (lo + i), fun i _ => n ≤ i⟩
theorem turn_range {P : Program} {w : World} {K : PySem.W.Frag} {tg : Expr} (it : Addr) (lo : Int) (n : Nat) : Turn P w K tg (Itr lo n) [it] it (fun i h => IsRangeIter h it (lo + (i : Nat) * 1) ((n : Int) - (i : Nat)) 1) where
  mem := by simp
  obj := fun i h st b hb => by
    have e : b = it := by simpa using hb
    subst e
    exact ⟨_, st, fun v z => by
      have z' : Data.fields _ = Data.cell v := z
      cases z'⟩
  keep := fun i h h' st k => k it (by simp) _ st
  item := by
    intro X hP hw hK hc i pins s σ H E I hf st hg
    subst hP hw hK
    obtain ⟨f0, f1, f2, f3, f4, f5⟩ := hf it (by simp)
    have W := Walks.range (prog := X.prog) (w := X.w) (I.ok.hd hc) it lo 1 n
    refine W.item i s _ _ hg st fun v h' tk hv st' kk => ?_
    obtain ⟨t, rfl⟩ := hv
    have I1 : Inv X pins σ H { s with heap := h', toks := tk } := I.turned (fun b o hb e => kk b o (by simpa using hb) e) f0 f1 f3 f4 f5
    refine ⟨_, rfl, go_of (s := { s with heap := h', toks := tk }) (n := "range_iterator") st' rfl rfl (by decide) ⟨.int (lo + i), H, I1, ⟨t, ?_⟩, ⟨rfl, rfl⟩, st', fun b hb => (hf b hb).1⟩⟩
    rw [Int.mul_one]
  done := by
    intro X hP hw hK hc i pins s σ H E I hf st hg
    subst hP hw hK
    obtain ⟨f0, f1, f2, f3, f4, f5⟩ := hf it (by simp)
    exact wpAny_pyNext_range_end (I.ok.hd hc) st (by have : n ≤ i := hg; omega) fun h' eb => ⟨rfl, I.turned (t' := s.toks) (fun b o hb e => eb b o hb e) f0 f1 f3 f4 f5⟩
  self := fun _ _ _ _ _ st h => wpAny_pyIter_rangeiter st h
end L2

namespace L2
open PySem PySem.Spec PyProof.Rows
section
variable {X : Cx} {tg : Expr}
theorem range_it {pins : List (Addr × Obj)} {σ : St} {H : Hp} {s : Shared} {R : It → Hp → Prop} {E : Value → Shared → Prop} {lo hi : Int} {t u v : Tok} {tk : Nat} (I : Inv X pins σ H s) (h1 : -(2 ^ 62) ≤ lo) (h2 : lo < 2 ^ 62) (h3 : -(2 ^ 62) ≤ hi) (h4 : hi < 2 ^ 62)
    (q : R (Itr lo (hi - lo).toNat) H) : wpAny (model X.prog X.w) X.A (pyIter (.ref s.heap.objs.size)) (PIE X pins σ tg R) E { s with heap := s.heap.push { cls := .type "range", data := .fields #[.int lo t, .int hi u, .int 1 v] }, toks := tk } := by
  refine wpAny_pyIter_range (IsRange.new ..) (small_one h1 h2 h3 h4) ?_
  have I1 : Inv X pins σ H { s with heap := s.heap.push { cls := .type "range", data := .fields #[.int lo t, .int hi u, .int 1 v] }, toks := tk } := I.kept fun b o e => Heap.get?_push_of_some _ e
  refine ⟨(s.heap.push { cls := .type "range", data := .fields #[.int lo t, .int hi u, .int 1 v] }).objs.size, [(s.heap.push { cls := .type "range", data := .fields #[.int lo t, .int hi u, .int 1 v] }).objs.size], _, _, H, rfl,
    I1.kept (t' := tk) fun b o e => Heap.get?_push_of_some _ e, turn_range _ lo (hi - lo).toNat, ?_, fun b hb => ?_, q⟩
  · have e1 : lo + ((0 : Nat) : Int) * 1 = lo := by simp
    have e2 : (((hi - lo).toNat : Nat) : Int) - ((0 : Nat) : Int) = Builtin.Range.rangeSize lo hi 1 := by rw [rangeSize_one]; split <;> omega
    show IsRangeIter _ _ (lo + ((0 : Nat) : Int) * 1) ((((hi - lo).toNat : Nat) : Int) - ((0 : Nat) : Int)) 1
    rw [e1, e2]
    exact Heap.get?_push_size _ rfl
  · have e : b = (s.heap.push { cls := .type "range", data := .fields #[.int lo t, .int hi u, .int 1 v] }).objs.size := by simpa using hb
    subst e
    exact I1.fpOk (Nat.le_refl _) (I1.hok.fresh (Nat.le_refl _))
noncomputable def iRng1 (ta : TA) : TI := fun σ H R => ta σ H fun vs H1 => ∃ j : Int, vs = [.int j] ∧ -(2 ^ 62) ≤ j ∧ j < 2 ^ 62 ∧ R (Itr 0 j.toNat) H1
theorem pi_range1 {a : Expr} {ta : TA} {p pos : Pos} (hg : Gl X "range") (hm : X.mg "range" = none) (ha : PA X [a] ta) (hs : starEach [a] X.env = [(false, eval a X.env)] := by rfl) : PI X tg (.Call (.Name "range" p) [a] [] pos) (iRng1 ta) := by
  intro pins s σ H R I h
  refine Call_ (ld_blt I hg hm boot_range (PyProof.Rows.callWith_type1 (thn (ha pos pins s σ H _ I h) fun us s1 ⟨vs, H1, I1, r1, q1⟩ => ?_) hs rfl))
  obtain ⟨j, e, q1, q2, q⟩ := q1
  subst e
  cases r1 with
  | cons r rr =>
    cases rr
    obtain ⟨t, rfl⟩ := r
    exact call_range_1 (range_it I1 (by omega) (by omega) q1 q2 (by simpa using q))
noncomputable def tFor (wi : TI) (g : TG) (tb : TS) : TS := fun D σ H => wi σ H fun J H1 => ∃ W : Nat → Nat → St → Hp → Prop, (∃ m, W 0 m σ H1) ∧ ∀ i m σ H, W i m σ H →
  (J.stop i H ∧ D.nx σ H) ∨ (J.go i H ∧ ∃ N : St → Hp → Prop, (∀ σ' H', N σ' H' → ∃ m', m' < m ∧ W (i + 1) m' σ' H') ∧ ∀ x H', J.yld i H x H' → g x σ H' fun σ2 H2 => tb { D with nx := N, ct := N, bk := D.nx } σ2 H2)
noncomputable def pinsAt (fp : List Addr) (h : Heap) : List (Addr × Obj) := fp.filterMap fun b => (h.get? b).map fun o => (b, o)
theorem mem_pinsAt {fp : List Addr} {h : Heap} {b : Addr} {o : Obj} (hb : b ∈ fp) (e : h.get? b = some o) : (b, o) ∈ pinsAt fp h := List.mem_filterMap.mpr ⟨b, hb, by rw [e]; rfl⟩
theorem of_pinsAt {fp : List Addr} {h : Heap} {p : Addr × Obj} (hp : p ∈ pinsAt fp h) : p.1 ∈ fp ∧ h.get? p.1 = some p.2 := by
  obtain ⟨b, hb, e⟩ := List.mem_filterMap.mp hp
  cases q : h.get? b with
  | none => rw [q] at e; cases e
  | some o =>
    rw [q] at e
    have e' : (b, o) = p := Option.some.inj e
    subst e'
    exact ⟨hb, q⟩
theorem Inv.pinned {pins : List (Addr × Obj)} {σ : St} {H : Hp} {s : Shared} {fp : List Addr} (I : Inv X pins σ H s) (hf : ∀ b ∈ fp, FpOk X pins H b) (ho : ∀ b ∈ fp, ∃ o, s.heap.get? b = some o ∧ ∀ v, o.data ≠ .cell v) : Inv X (pins ++ pinsAt fp s.heap) σ H s :=
  I.pins_of fun p hp => (List.mem_append.mp hp).elim (fun z => I.pin p (List.mem_append_right _ z)) fun z => by
    obtain ⟨hb, e⟩ := of_pinsAt z
    obtain ⟨f0, f1, f2, _⟩ := hf p.1 hb
    obtain ⟨o, e', d⟩ := ho p.1 hb
    rw [e] at e'; cases e'
    exact ⟨e, f0, f1, f2, d⟩
theorem Inv.unpinned {pins pl : List (Addr × Obj)} {σ : St} {H : Hp} {s : Shared} (I : Inv X (pins ++ pl) σ H s) : Inv X pins σ H s := I.pins_of fun p hp => I.pin p (List.mem_append_right _ (List.mem_append_left _ hp))
theorem ps_for {iter : Expr} {body : List Stmt} {wi : TI} {g : TG} {tb : TS} {pos : Pos} (hp : PassesOwn (model X.prog X.w) X.A X.env X.xe) (hc : X.calm = true) (hi : PI X tg iter wi) (hg : PG X tg g) (hb : PSs X body tb)
    (hs : ∀ x, foldedSetIterable iter X.env x = pure x := by intro _; rfl) : PS X (.For tg iter body [] pos) (tFor wi g tb) := by
  intro pins s σ H D I h
  refine wpAny_For (thn (hi pins s σ H _ I h) fun v s1 h1 => thn h1 fun itv s2 h2 => ?_) hs
  obtain ⟨it, fp, tn, J, H2, e, I2, T, st2, f2, W, ⟨m0, w0⟩, turn⟩ := h2
  subst e
  -- what stays true of the iterator's objects through the loop
  have stat : ∀ {H' : Hp}, (∀ b ∈ fp, H' b = none) → ∀ b ∈ fp, FpOk X pins H' b := fun hn b hb => ⟨hn b hb, (f2 b hb).2⟩
  refine codeAny_forLoop_any (fun n s' => ∃ i σ' H', Inv X pins σ' H' s' ∧ tn i s'.heap ∧ (∀ b ∈ fp, H' b = none) ∧ W i n σ' H') ?_ m0 ⟨0, σ, H2, I2, st2, fun b hb => (f2 b hb).1, w0⟩
  rintro n s3 ⟨i, σ3, H3, I3, st3, fr3, w3⟩
  rcases turn i n σ3 H3 w3 with ⟨stop, qn⟩ | ⟨go, N, hN, step⟩
  · refine wpAny_passesOwn hp (thn (T.done X rfl rfl rfl hc i pins s3 σ3 H3 X.xe I3 (stat fr3) st3 stop) fun r s4 ⟨hr, I4⟩ => ?_)
    subst hr
    exact wpAny_execs_nil ⟨σ3, H3, I4, qn⟩
  · refine wpAny_passesOwn hp (thn (T.item X rfl rfl rfl hc i pins s3 σ3 H3 X.xe I3 (stat fr3) st3 go) fun r s4 ⟨u, hr, h4⟩ => ?_)
    subst hr
    refine wpAny_passesOwn hp (thn h4 fun _ s5 ⟨x, H5, I5, r5, y5, st5, fr5⟩ => ?_)
    have I5' := I5.pinned (stat fr5) (T.obj _ _ st5)
    refine wpAny_passesOwn hp (thn (hg _ s5 σ3 H5 x u _ I5' r5 (step x H5 y5)) fun _ s6 ⟨σ6, H6, I6, q6⟩ => ?_)
    refine wpAny_passesOwn hp (thn (hb _ s6 σ6 H6 _ I6 q6) fun f s7 q7 => ?_)
    have again : ∀ {σ7 : St} {H7 : Hp}, Inv X (pins ++ pinsAt fp s5.heap) σ7 H7 s7 → N σ7 H7 → ∃ m, m < n ∧ ∃ i σ' H', Inv X pins σ' H' s7 ∧ tn i s7.heap ∧ (∀ b ∈ fp, H' b = none) ∧ W i m σ' H' := fun {σ7 H7} I7 n7 => by
      obtain ⟨m', hm, w7⟩ := hN σ7 H7 n7
      refine ⟨m', hm, i + 1, σ7, H7, I7.unpinned, T.keep _ _ _ st5 fun b hb o e => (I7.pin (b, o) (List.mem_append_right _ (List.mem_append_right _ (mem_pinsAt hb e)))).1, fun b hb => ?_, w7⟩
      obtain ⟨o, e, d⟩ := T.obj _ _ st5 b hb
      exact (I7.pin (b, o) (List.mem_append_right _ (List.mem_append_right _ (mem_pinsAt hb e)))).2.1
    cases f with
    | next => obtain ⟨σ7, H7, I7, n7⟩ := q7; exact again I7 n7
    | cont => obtain ⟨σ7, H7, I7, n7⟩ := q7; exact again I7 n7
    | brk => obtain ⟨σ7, H7, I7, q7⟩ := q7; exact ⟨σ7, H7, I7.unpinned, q7⟩
    | ret v => obtain ⟨x7, σ7, H7, I7, r7, q7⟩ := q7; exact ⟨x7, σ7, H7, I7.unpinned, r7, q7⟩
end

end L2

namespace L2
open PySem PySem.Spec PyProof.Rows

noncomputable abbrev R2 := V → V → Hp → VK → Prop
noncomputable def OpR (X : Cx) (f : Value → Value → Sem Value) (r : R2) : Prop :=
  ∀ (pins : List (Addr × Obj)) (s : Shared) (σ : St) (H : Hp) (x y : V) (v u : Value) (Q : VK), Inv X pins σ H s → RelV x v → RelV y u → r x y H Q →
    wpAny (model X.prog X.w) X.A (f v u) (EP X pins σ Q) X.xe s
noncomputable def UnR (X : Cx) (f : Value → Sem Value) (r : V → Hp → VK → Prop) : Prop :=
  ∀ (pins : List (Addr × Obj)) (s : Shared) (σ : St) (H : Hp) (x : V) (v : Value) (Q : VK), Inv X pins σ H s → RelV x v → r x H Q →
    wpAny (model X.prog X.w) X.A (f v) (EP X pins σ Q) X.xe s
noncomputable def CallR (X : Cx) (f : Value) (r : List V → Hp → VK → Prop) : Prop :=
  ∀ (pins : List (Addr × Obj)) (s : Shared) (σ : St) (H : Hp) (xs : List V) (us : List Value) (Q : VK), Inv X pins σ H s → Vals xs us → r xs H Q →
    wpAny (model X.prog X.w) X.A (call f us) (EP X pins σ Q) X.xe s
noncomputable def TruR (X : Cx) (r : V → Hp → (Bool → Hp → Prop) → Prop) : Prop :=
  ∀ (pins : List (Addr × Obj)) (s : Shared) (σ : St) (H : Hp) (x : V) (v : Value) (Q : Bool → Hp → Prop), Inv X pins σ H s → RelV x v → r x H Q →
    wpAny (model X.prog X.w) X.A (truthy v) (TP X pins σ Q) X.xe s

noncomputable def tOp (r : R2) (ta tb : TE) : TE := fun σ H Q => ta σ H fun x H1 => tb σ H1 fun y H2 => r x y H2 Q
noncomputable def tUn (r : V → Hp → VK → Prop) (ta : TE) : TE := fun σ H Q => ta σ H fun x H1 => r x H1 Q
noncomputable def rI (C : Int → Int → Prop) (g : Int → Int → V) : R2 := fun x y H Q => ∃ i j, x = .int i ∧ y = .int j ∧ C i j ∧ Q (g i j) H
noncomputable def rI0 (g : Int → Int → V) : R2 := fun x y H Q => ∃ i j, x = .int i ∧ y = .int j ∧ Q (g i j) H
noncomputable def rU (g : Int → V) : V → Hp → VK → Prop := fun x H Q => ∃ i, x = .int i ∧ Q (g i) H

section
variable {X : Cx} {a b c : Expr} {ta tb tc : TE} {pos : Pos}

theorem binT (ha : PE X a ta) (hb : PE X b tb) {pins : List (Addr × Obj)} {s : Shared} {σ : St} {H : Hp} {R : V → V → Hp → Prop} (I : Inv X pins σ H s)
    (h : ta σ H fun x H1 => tb σ H1 fun y H2 => R x y H2) {Q : Value → Shared → Prop} {f : Value → Value → Sem Value}
    (hf : ∀ v u s2 x y H2, Inv X pins σ H2 s2 → RelV x v → RelV y u → R x y H2 → wpAny (model X.prog X.w) X.A (f v u) Q X.xe s2) :
    wpAny (model X.prog X.w) X.A (eval a X.env) (fun v s₁ => wpAny (model X.prog X.w) X.A (eval b X.env) (fun u s₂ => wpAny (model X.prog X.w) X.A (f v u) Q X.xe s₂) X.xe s₁) X.xe s := by
  refine thn (ha pins s σ H _ I h) fun v s1 ⟨x, H1, I1, r1, q1⟩ => ?_
  refine thn (hb pins s1 σ H1 _ I1 q1) fun u s2 ⟨y, H2, I2, r2, q2⟩ => ?_
  exact hf v u s2 x y H2 I2 r1 r2 q2

theorem pe_op {op : Operator} {r : R2} (ho : OpR X (binaryOp op) r) (ha : PE X a ta) (hb : PE X b tb) : PE X (.BinOp a op b pos) (tOp r ta tb) := by
  intro pins s σ H Q I h
  exact wpAny_BinOp (binT ha hb I h fun v u s2 x y H2 I2 rx ry q => ho pins s2 σ H2 x y v u Q I2 rx ry q)
theorem pe_un {op : UnaryOp} {r : V → Hp → VK → Prop} (ho : UnR X (unaryOp op) r) (ha : PE X a ta) : PE X (.UnaryOp op a pos) (tUn r ta) := by
  intro pins s σ H Q I h
  exact UnaryOp_ (thn (ha pins s σ H _ I h) fun v s1 ⟨x, H1, I1, r1, q1⟩ => ho pins s1 σ H1 x v Q I1 r1 q1)
theorem opI {f : Value → Value → Sem Value} {C : Int → Int → Prop} {g : Int → Int → Int}
    (rule : ∀ (i j : Int) (t u : Tok) (s : Shared) (Q : Value → Shared → Prop) (E : Value → Shared → Prop), C i j → Q (.int (g i j) s.toks) { s with toks := s.toks + 1 } → wpAny (model X.prog X.w) X.A (f (.int i t) (.int j u)) Q E s) :
    OpR X f (rI C fun i j => .int (g i j)) := by
  intro pins s σ H x y v u Q I rx ry h
  obtain ⟨i, j, rfl, rfl, hc, q⟩ := h
  obtain ⟨t, rfl⟩ := rx
  obtain ⟨t', rfl⟩ := ry
  exact rule i j t t' s _ _ hc ⟨.int (g i j), H, I.tok _, ⟨_, rfl⟩, q⟩
theorem opI0 {f : Value → Value → Sem Value} {g : Int → Int → Int}
    (rule : ∀ (i j : Int) (t u : Tok) (s : Shared) (Q : Value → Shared → Prop) (E : Value → Shared → Prop), Q (.int (g i j) s.toks) { s with toks := s.toks + 1 } → wpAny (model X.prog X.w) X.A (f (.int i t) (.int j u)) Q E s) :
    OpR X f (rI0 fun i j => .int (g i j)) := by
  intro pins s σ H x y v u Q I rx ry h
  obtain ⟨i, j, rfl, rfl, q⟩ := h
  obtain ⟨t, rfl⟩ := rx
  obtain ⟨t', rfl⟩ := ry
  exact rule i j t t' s _ _ ⟨.int (g i j), H, I.tok _, ⟨_, rfl⟩, q⟩
theorem opB0 {f : Value → Value → Sem Value} {g : Int → Int → Bool}
    (rule : ∀ (i j : Int) (t u : Tok) (s : Shared) (Q : Value → Shared → Prop) (E : Value → Shared → Prop), Q (.bool (g i j)) s → wpAny (model X.prog X.w) X.A (f (.int i t) (.int j u)) Q E s) :
    OpR X f (rI0 fun i j => .bl (g i j)) := by
  intro pins s σ H x y v u Q I rx ry h
  obtain ⟨i, j, rfl, rfl, q⟩ := h
  obtain ⟨t, rfl⟩ := rx
  obtain ⟨t', rfl⟩ := ry
  exact rule i j t t' s _ _ ⟨.bl (g i j), H, I, rfl, q⟩

noncomputable def CPow (i j : Int) : Prop := 0 ≤ j ∧ j ≤ 1000000 ∧ i.natAbs < 2 ^ 64
noncomputable def CMul (i j : Int) : Prop := (-(2 ^ 64) < i ∧ i < 2 ^ 64) ∨ (-(2 ^ 64) < j ∧ j < 2 ^ 64)
theorem CMul.ok {i j : Int} (h : CMul i j) : IntMulOk i j := by
  rcases h with ⟨h1, h2⟩ | ⟨h1, h2⟩
  · exact .of_left (intBits_le_64 h1 h2)
  · exact .of_right (intBits_le_64 h1 h2)
theorem op_add : OpR X (binaryOp .Add) (rI0 fun i j => .int (i + j)) := opI0 fun _ _ _ _ _ _ _ q => add_int q
theorem op_sub : OpR X (binaryOp .Sub) (rI0 fun i j => .int (i - j)) := opI0 fun _ _ _ _ _ _ _ q => sub_int q
theorem op_modN : OpR X (binaryOp .Mod) (rI (fun _ j => j ≠ 0) fun i j => .int (i.fmod j)) := opI fun _ _ _ _ _ _ _ hc q => mod_int' hc q
theorem op_pow : OpR X (binaryOp .Pow) (rI CPow fun i j => .int (i ^ j.toNat)) := opI fun _ _ _ _ _ _ _ hc q => pow_int_small hc.1 hc.2.1 hc.2.2 q
theorem unI {f : Value → Sem Value} {g : Int → Int}
    (rule : ∀ (i : Int) (t : Tok) (s : Shared) (Q : Value → Shared → Prop) (E : Value → Shared → Prop), Q (.int (g i) s.toks) { s with toks := s.toks + 1 } → wpAny (model X.prog X.w) X.A (f (.int i t)) Q E s) :
    UnR X f (rU fun i => .int (g i)) := by
  intro pins s σ H x v Q I rx h
  obtain ⟨i, rfl, q⟩ := h
  obtain ⟨t, rfl⟩ := rx
  exact rule i t s _ _ ⟨.int (g i), H, I.tok _, ⟨_, rfl⟩, q⟩
theorem un_neg : UnR X (unaryOp .USub) (rU fun i => .int (-i)) := unI fun _ _ _ _ _ q => neg_int q
end

section
variable {X : Cx} {a b c : Expr} {ta tb tc : TE} {pos : Pos}
theorem fin_bl {pins : List (Addr × Obj)} {σ : St} {H : Hp} {s : Shared} {Q : VK} {k k' : Bool} (I : Inv X pins σ H s) (q : Q (.bl k) H) (e : k = k') : EP X pins σ Q (.bool k') s := by
  subst e
  exact ⟨.bl k, H, I, rfl, q⟩
theorem op_lt : OpR X (compareOp .Lt) (rI0 fun i j => .bl (decide (i < j))) := opB0 fun _ _ _ _ _ _ _ q => lt_int q
theorem op_gt : OpR X (compareOp .Gt) (rI0 fun i j => .bl (decide (j < i))) := opB0 fun _ _ _ _ _ _ _ q => gt_int q
theorem op_ge : OpR X (compareOp .GtE) (rI0 fun i j => .bl (decide (j ≤ i))) := opB0 fun _ _ _ _ _ _ _ q => ge_int q
theorem op_isN : OpR X (compareOp .Is) (fun x y H Q => y = .non ∧ Q (.bl (decide (x = .non))) H) := by
  intro pins s σ H x y v u Q I rx ry h
  obtain ⟨rfl, q⟩ := h
  cases ry
  refine is_none_gen (fin_bl I q ?_)
  cases x <;> first
    | (cases rx; rfl)
    | (obtain ⟨t, rfl⟩ := rx; rfl)
theorem OpR.or {f : Value → Value → Sem Value} {r r' : R2} (h : OpR X f r) (h' : OpR X f r') : OpR X f (fun x y H Q => r x y H Q ∨ r' x y H Q) := by
  intro pins s σ H x y v u Q I rx ry q
  rcases q with q | q
  · exact h pins s σ H x y v u Q I rx ry q
  · exact h' pins s σ H x y v u Q I rx ry q

theorem nomark (b : Expr) {op : CmpOp} (h : op ≠ .In := by decide) (h2 : op ≠ .NotIn := by decide) : behindInMarks op b = false := by
  have e1 : (op == CmpOp.In) = false := by cases op <;> first | rfl | exact absurd rfl h
  have e2 : (op == CmpOp.NotIn) = false := by cases op <;> first | rfl | exact absurd rfl h2
  cases b <;> simp [behindInMarks, e1, e2]
theorem pe_cmpR {op : CmpOp} {r : R2} (ho : OpR X (compareOp op) r) (ha : PE X a ta) (hb : PE X b tb) (hm : behindInMarks op b = false) : PE X (.Compare a [op] [b] pos) (tOp r ta tb) := by
  intro pins s σ H Q I h
  exact wpAny_Compare1 (binT ha hb I h fun v u s2 x y H2 I2 rx ry q => ho pins s2 σ H2 x y v u Q I2 rx ry q) hm
noncomputable def tTest (t : TE) : TT := fun σ H Q => t σ H fun x H' => ∃ k, x = .bl k ∧ Q k H'
theorem pt_cmpR {op : CmpOp} {r : R2} (ho : OpR X (compareOp op) r) (ha : PE X a ta) (hb : PE X b tb) (hm : behindInMarks op b = false) : PT X (.Compare a [op] [b] pos) (tTest (tOp r ta tb)) := by
  intro pins s σ H Q I h
  refine wpAny_isTrue_Compare1 (thn (ha pins s σ H _ I h) fun v s1 ⟨x, H1, I1, r1, q1⟩ => thn (hb pins s1 σ H1 _ I1 q1) fun u s2 ⟨y, H2, I2, r2, q2⟩ =>
    thn (ho pins s2 σ H2 x y v u _ I2 r1 r2 q2) fun c s3 ⟨z, H3, I3, r3, k, e, q3⟩ => ?_) hm
  subst e
  cases r3
  exact wpAny_truthy_bool ⟨H3, I3, q3⟩
noncomputable def TruV (K : PySem.W.Frag) (x : V) (H : Hp) (k : Bool) : Prop :=
  match x with
  | .non => k = false
  | .bl b => k = b
  | .int i => k = (i != 0)
  | .str y => y.length ≤ sizeLine ∧ k = ((y.length : Int) != 0)
  | .byt y => y.size ≤ sizeLine ∧ k = ((y.size : Int) != 0)
  | .ref p => (∃ xs, SqL K H p xs ∧ k = !xs.isEmpty) ∨ (∃ xs, SqT K H p xs ∧ k = !xs.isEmpty) ∨ ∃ kvs, H p = some (.dK kvs) ∧ k = !kvs.isEmpty
  | _ => False
theorem isEmpty_kv {κ : Type} {kvs : List (κ × V)} {vs : List (κ × Value)} (r : KV kvs vs) : (!vs.isEmpty) = !kvs.isEmpty := by
  cases r <;> rfl
theorem isEmpty_of {xs : List V} {its : List Value} (r : Vals xs its) : (!its.toArray.isEmpty) = !xs.isEmpty := by
  cases r <;> simp
theorem line63 : (sizeLine : Nat) < 2 ^ 63 := by rw [sizeLine_eq]; decide
theorem tru_ok : TruR X (fun x H Q => ∃ k, TruV X.K x H k ∧ Q k H) := by
  intro pins s σ H x v Q I rx h
  obtain ⟨k, e, q⟩ := h
  have hl := line63
  have hs : sizeLine = 16777216 := sizeLine_eq
  cases x with
  | non =>
    cases rx
    have e' : k = false := e
    subst e'
    exact truthy_none ⟨H, I, q⟩
  | bl b =>
    cases rx
    have e' : k = b := e
    subst e'
    exact wpAny_truthy_bool ⟨H, I, q⟩
  | int i =>
    obtain ⟨t, rfl⟩ := rx
    have e' : k = (i != 0) := e
    subst e'
    exact PySem.P.truthy_int ⟨H, I, q⟩
  | str y =>
    obtain ⟨t, rfl⟩ := rx
    obtain ⟨hy, e'⟩ : y.length ≤ sizeLine ∧ k = ((y.length : Int) != 0) := e
    subst e'
    exact PySem.P.truthy_str (by omega) ⟨H, I.tok _, q⟩
  | byt y =>
    obtain ⟨t, rfl⟩ := rx
    obtain ⟨hy, e'⟩ : y.size ≤ sizeLine ∧ k = ((y.size : Int) != 0) := e
    subst e'
    exact PySem.W.truthy_bytes (by omega) ⟨H, I.tok _, q⟩
  | ref p =>
    cases rx
    have e' : (∃ xs, SqL X.K H p xs ∧ k = !xs.isEmpty) ∨ (∃ xs, SqT X.K H p xs ∧ k = !xs.isEmpty) ∨ ∃ kvs, H p = some (.dK kvs) ∧ k = !kvs.isEmpty := e
    rcases e' with ⟨xs, hx, e'⟩ | ⟨xs, hx, e'⟩ | ⟨kvs, hx, e'⟩
    · subst e'
      obtain ⟨its, r, pl, hz⟩ := I.list hx
      have hlen := r.length
      exact wpAny_truthy_list pl.isList (by simp only [List.size_toArray]; omega) ⟨H, I.tok _, by rw [isEmpty_of r]; exact q⟩
    · subst e'
      obtain ⟨its, r, pl, hz⟩ := I.tuple hx
      have hlen := r.length
      exact truthy_tuple pl (by simp only [List.size_toArray]; omega) ⟨H, I.tok _, by rw [isEmpty_of r]; exact q⟩
    · subst e'
      obtain ⟨hz, hS, vs, r, m⟩ : kvs.length ≤ sizeLine ∧ (p == sysModules) = false ∧ ∃ vs, KV kvs vs ∧ s.heap.DictOf (mixKind X.prog X.w) p vs := I.hok p _ hx
      have hlen : kvs.length = vs.length := Paired.length r
      exact wpAny_truthy_dict hS m (by omega) ⟨H, I.tok _, by rw [isEmpty_kv r]; exact q⟩
  | _ => exact (show False from e).elim
theorem pt_truth (ha : PE X a ta) (he : ∀ whole, isTrue a X.env whole = (do let v ← whole; standAt a.pos; holding [v] (truthy v))) :
    PT X a (fun σ H Q => ta σ H fun x H' => ∃ k, TruV X.K x H' k ∧ Q k H') := by
  intro pins s σ H Q I h
  exact isTrue_plain (thn (ha pins s σ H _ I h) fun v s1 ⟨x, H1, I1, r1, q1⟩ => tru_ok pins s1 σ H1 x v Q I1 r1 q1) (he _)

theorem op_add_str : OpR X (binaryOp .Add) (fun x y H Q => ∃ i j, x = .str i ∧ y = .str j ∧ i.length + j.length ≤ sizeLine ∧ Q (.str (i ++ j)) H) := by
  intro pins s σ H x y v u Q I rx ry h
  obtain ⟨i, j, rfl, rfl, hz, q⟩ := h
  obtain ⟨t, rfl⟩ := rx
  obtain ⟨t', rfl⟩ := ry
  exact add_str (fun t' tk => ⟨.str (i ++ j), H, I.tok _, ⟨_, rfl⟩, q⟩) hz
theorem vals1 {x : V} {us : List Value} (r : Vals [x] us) : ∃ u, us = [u] ∧ RelV x u := by
  cases r with
  | cons r1 r2 => cases r2; exact ⟨_, rfl, r1⟩
theorem vals2 {x y : V} {us : List Value} (r : Vals [x, y] us) : ∃ u w', us = [u, w'] ∧ RelV x u ∧ RelV y w' := by
  cases r with
  | cons r1 r2 =>
    cases r2 with
    | cons r3 r4 => cases r4; exact ⟨_, _, rfl, r1, r3⟩
theorem call_abs : CallR X (.builtin "abs") (fun xs H Q => ∃ i, xs = [.int i] ∧ Q (.int (if i < 0 then -i else i)) H) := by
  intro pins s σ H xs us Q I r h
  obtain ⟨i, rfl, q⟩ := h
  obtain ⟨u, rfl, t, rfl⟩ := vals1 r
  exact call_abs_int fun u tk => ⟨.int (if i < 0 then -i else i), H, I.tok _, ⟨_, rfl⟩, q⟩
theorem call_max2 (hc : X.calm = true) : CallR X (.builtin "max") (fun xs H Q => ∃ i j, xs = [.int i, .int j] ∧ Q (.int (if j > i then j else i)) H) := by
  intro pins s σ H xs us Q I r h
  obtain ⟨i, j, rfl, q⟩ := h
  obtain ⟨u, w', rfl, ⟨t, rfl⟩, ⟨t', rfl⟩⟩ := vals2 r
  refine max_two_ints (I.ok.hd hc) fun h' tk k => ⟨_, H, I.kept k, ?_, q⟩
  by_cases hj : j > i
  · rw [if_pos hj, if_pos hj]; exact ⟨_, rfl⟩
  · rw [if_neg hj, if_neg hj]; exact ⟨_, rfl⟩
theorem call_min2 (hc : X.calm = true) : CallR X (.builtin "min") (fun xs H Q => ∃ i j, xs = [.int i, .int j] ∧ Q (.int (if j < i then j else i)) H) := by
  intro pins s σ H xs us Q I r h
  obtain ⟨i, j, rfl, q⟩ := h
  obtain ⟨u, w', rfl, ⟨t, rfl⟩, ⟨t', rfl⟩⟩ := vals2 r
  refine min_two_ints (I.ok.hd hc) fun h' tk k => ⟨_, H, I.kept k, ?_, q⟩
  by_cases hj : j < i
  · rw [if_pos hj, if_pos hj]; exact ⟨_, rfl⟩
  · rw [if_neg hj, if_neg hj]; exact ⟨_, rfl⟩
theorem call_str_int : CallR X (.type "str") (fun xs H Q => ∃ i, xs = [.int i] ∧ i.natAbs.log2 < 1920 ∧ Q (.str (toString i)) H) := by
  intro pins s σ H xs us Q I r h
  obtain ⟨i, rfl, hz, q⟩ := h
  obtain ⟨u, rfl, t, rfl⟩ := vals1 r
  exact PySem.P.str_of_int hz ⟨.str _, H, I.tok _, ⟨_, rfl⟩, q⟩
end
end L2

namespace L2
open PySem PySem.Spec PyProof.Rows

structure ObjM (h : Heap) (x dx C : Addr) (mA : Str → Option Value) : Prop where
  obj : h.get? x = some (PySem.W.instObj C dx)
  ns : h.Ns1 dx mA
  ne : dx ≠ x

section
variable {prog : Program} {w : World} {A : Around} {E : Value → Shared → Prop} {s : Shared} {K : PySem.W.Frag} {x dx C f : Addr} {mA : Str → Option Value} {name : Str} {v : Value}

end

section
variable {P : Program} {w : World} {H H' : Hp} {h h' : Heap} {a C dx : Addr} {fs fs' : List (Str × V)}
end

structure Cls (K : PySem.W.Frag) (C : Addr) : Prop where
  pg : PySem.W.plainGet K C Str.empty = true
  hd : PySem.W.hasDictIn K C = true
  po : PySem.W.plainOver K C = true
  sa : PySem.W.findIn K (.ref C) "__setattr__" = some (some (.builtin "object.__setattr__"))
theorem Cls.get {K : PySem.W.Frag} {C : Addr} (c : Cls K C) (f : Str) : PySem.W.plainGet K C f = true := c.pg
structure Con (K : PySem.W.Frag) (C : Addr) (f : Str) (v : V) (u : Value) : Prop where
  at_ : PySem.W.findIn K (.ref C) f = some (some u)
  rel : RelV v u
  get : PySem.W.specialIn K u "__get__" = some none
  cp : PySem.W.copiedNames.contains f = false
structure Meth (K : PySem.W.Frag) (C : Addr) (m : Str) (f : Addr) : Prop where
  at_ : PySem.W.findIn K (.ref C) m = some (some (.ref f))
  fn : PySem.W.isFn K (.ref f) = true
  kp : PySem.W.keepIn K (.ref f) = true

section
variable {X : Cx} {pins : List (Addr × Obj)} {σ : St} {H : Hp} {s : Shared} {a C dx : Addr} {fs : List (Str × V)} {f : Str} {v : V} {A : Around} {E : Value → Shared → Prop}

end

section
variable {X : Cx} {o e value : Expr} {f : Str} {pos pos' tpos : Pos} {ta tv : TE}
end

section
variable {X : Cx} {pins : List (Addr × Obj)} {σ : St} {H : Hp} {s : Shared} {A : Around} {E : Value → Shared → Prop} {Q : Value → Shared → Prop} {c : Value} {b : Bool}
inductive TyOf (K : PySem.W.Frag) (H : Hp) : V → Value → Prop where
  | non : TyOf K H .non (.type "NoneType")
  | bl (x : Bool) : TyOf K H (.bl x) (.type "bool")
  | int (i : Int) : TyOf K H (.int i) (.type "int")
  | str (x : Str) : TyOf K H (.str x) (.type "str")
  | flt (x : UInt64) : TyOf K H (.flt x) (.type "float")
  | lst {a : Addr} {xs : List V} (e : H a = some (.lst xs)) : TyOf K H (.ref a) (.type "list")
  | frz {a : Addr} {o : Obj} {xs : List V} (e : H a = some (.frz o (.lst xs))) : TyOf K H (.ref a) (.type "list")
  | tup {a : Addr} {xs : List V} (e : H a = some (.tup xs)) : TyOf K H (.ref a) (.type "tuple")
  | dK {a : Addr} {kvs : List (Key × V)} (e : H a = some (.dK kvs)) : TyOf K H (.ref a) (.type "dict")
  | dT {a : Addr} {kvs : List (List Key × V)} (e : H a = some (.dT kvs)) : TyOf K H (.ref a) (.type "dict")
  | ins {a C dx : Addr} {fs : List (Str × V)} (e : H a = some (.ins C dx fs)) (cl : Cls K C) (ha : PySem.W.findIn K (.ref C) "__class__" = some (some (.builtin "object.__class__")))
      (hn : PySem.W.specialIn K (.builtin "object.__class__") "__get__" = some (some (.builtin "getset_descriptor.__get__"))) (htk : PySem.W.takesIn K (.builtin "object.__class__") = some true)
      (hm : PySem.W.mroIn K C (.type "object") = some true) : TyOf K H (.ref a) (.ref C)
end
end L2

namespace L2
open PySem PySem.Spec PyProof.Rows

structure Room (k : Nat) (A : Around) : Prop where
  hd : A.handled = none
  dp : A.depth + 3 * k + 5 < recursionLimit
  un : A.units + 16 * k + 200 < cLine
theorem Room.mono {j k : Nat} {A : Around} (r : Room k A) (h : j ≤ k) : Room j A := ⟨r.hd, by have := r.dp; omega, by have := r.un; omega⟩
theorem Room.deeper {k : Nat} {A : Around} (r : Room (k + 1) A) (env : Env) : Room k (A.deeper env) :=
  ⟨r.hd, by have := r.dp; show A.depth + 1 + 3 * k + 5 < _; omega, by have := r.un; show A.units + 3 + 16 * k + 200 < _; omega⟩
theorem Room.in1 {k : Nat} {A : Around} (r : Room (k + 1) A) : Room k A.in1 :=
  ⟨r.hd, by have := r.dp; show A.depth + 3 * k + 5 < _; omega, by have := r.un; show A.units + 1 + 16 * k + 200 < _; omega⟩
theorem Room.depth {k : Nat} {A : Around} (r : Room k A) : A.depth < recursionLimit := by have := r.dp; omega
theorem Room.units {k : Nat} {A : Around} (r : Room k A) : A.units + 64 < cLine := by have := r.un; omega
noncomputable def tNil : TA := fun _ H Q => Q [] H
noncomputable def tCons (ta : TE) (tr : TA) : TA := fun σ H Q => ta σ H fun x H1 => tr σ H1 fun xs H2 => Q (x :: xs) H2
section
variable {X : Cx} {e : Expr} {es : List Expr} {te : TE} {t : TA} {pos : Pos}
theorem pa_nil : PA X [] tNil := fun _ _ _ _ H Q I h => Calls.spliced_nil ⟨[], H, I, .nil, h⟩
theorem pa_cons (ha : PE X e te) (hr : PA X es t) (hs : starEach (e :: es) X.env = (false, eval e X.env) :: starEach es X.env := by rfl) : PA X (e :: es) (tCons te t) := by
  intro pos pins s σ H Q I h
  rw [hs]
  show wpAny _ _ (spliced ((false, eval e X.env) :: backTo pos (starEach es X.env))) _ _ s
  refine Calls.spliced_cons (thn (ha pins s σ H _ I h) fun u s1 ⟨x, H1, I1, r1, q1⟩ => ?_)
  exact thn (hr pos pins s1 σ H1 _ I1 q1) fun us s2 ⟨xs, H2, I2, r2, q2⟩ => ⟨x :: xs, H2, I2, .cons r1 r2, q2⟩

noncomputable def tTup (t : TA) : TE := fun σ H Q => t σ H fun xs H1 => xs.length ≤ sizeLine ∧ ∀ p, H1 p = none → Q (.ref p) (upd H1 p (.tup xs))
noncomputable def tLst (t : TA) : TE := fun σ H Q => t σ H fun xs H1 => xs.length ≤ sizeLine ∧ ∀ p, H1 p = none → Q (.ref p) (upd H1 p (.lst xs))
theorem pe_tup {x1} (h : PA X es t) : PE X (.Tuple es x1 pos) (tTup t) := by
  intro pins s σ H Q I hq
  refine wpAny_Tuple_spliced (thn (h pos pins s σ H _ I hq) fun us s1 ⟨xs, H1, I1, r, z, q⟩ => ⟨by rw [← r.length]; exact z, ?_⟩)
  have hf : H1 s1.heap.objs.size = none := I1.hok.fresh (Nat.le_refl _)
  refine ⟨.ref s1.heap.objs.size, upd H1 s1.heap.objs.size (.tup xs), I1.laid (t' := s1.toks) (fun b u e => Heap.get?_push_of_some _ e) (Nat.le_refl _) ?_, rfl, q _ hf⟩
  exact ⟨z, us, r, ⟨_, Heap.get?_push_size _ rfl, rfl, _, rfl⟩⟩
theorem pe_lst (h : PA X es t) : PE X (.List es pos) (tLst t) := by
  intro pins s σ H Q I hq
  refine wpAny_List_spliced (thn (h pos pins s σ H _ I hq) fun us s1 ⟨xs, H1, I1, r, z, q⟩ => ⟨by rw [← r.length]; exact z, ?_⟩)
  have hf : H1 s1.heap.objs.size = none := I1.hok.fresh (Nat.le_refl _)
  refine ⟨.ref s1.heap.objs.size, upd H1 s1.heap.objs.size (.lst xs), I1.laid (t' := s1.toks) (fun b u e => Heap.get?_push_of_some _ e) (Nat.le_refl _) ?_, rfl, q _ hf⟩
  exact ⟨z, us, 0, r, Heap.get?_push_size _ rfl⟩
end

noncomputable abbrev Sp := List V → Hp → VK → XK → Prop
noncomputable abbrev CXT := List Env → Hp → Shared → XK → Value → Shared → Prop

structure Env0 (P : Program) (w : World) (K : PySem.W.Frag) (mg : Str → Option Value) (base : Heap) (A : Around) (outer : List Env) (s : Shared) (H : Hp) : Prop where
  frames : A.frames = some outer
  mod : Mod K mg base
  bs : ∀ b o, base.get? b = some o → s.heap.get? b = some o ∧ H b = none
  bsz : base.objs.size ≤ s.heap.objs.size
  funs : s.heap.FunFrames base outer
  frf : ∀ b ∈ frs outer, H b = none
  hok : HOk P w H s.heap
  bare : AllBare s.gens
noncomputable def CE (outer : List Env) (P : Program) (w : World) (H : Hp) (s : Shared) (Q : VK) (u : Value) (s' : Shared) : Prop :=
  ∃ v H', s'.os = s.os ∧ AllBare s'.gens ∧ Un (frs outer) [] H H' s.heap s'.heap ∧ HOk P w H' s'.heap ∧ RelV v u ∧ Q v H'
noncomputable def CR (CX : CXT) (outer : List Env) (P : Program) (w : World) (H : Hp) (s : Shared) (Q : VK) (E : XK) (r : Result) (s' : Shared) : Prop :=
  match r with
  | .ok (.ret u) => CE outer P w H s Q u s'
  | .ok _ => False
  | .error e => CX outer H s E e s'
structure FnOk (P : Program) (w : World) (K : PySem.W.Frag) (mg : Str → Option Value) (base : Heap) (CX : CXT) (k : Nat) (f : Addr) (fd : FuncData) (ps : List Str) (sp : Sp) : Prop where
  len : ∀ vs H Q E, sp vs H Q E → vs.length = ps.length
  run : ∀ (A : Around) (outer : List Env) (s : Shared) (H : Hp) (args : Args) (us : List Value) (vs : List V) (Q : VK) (E : XK), Room k A → Env0 P w K mg base A outer s H → BindsTo s fd args (ps.zip us) → Vals vs us → sp vs H Q E →
    codeAny (model P w) A (.call (.ref f) args) (CR CX outer P w H s Q E) s
theorem FnOk.mono {P : Program} {w : World} {K : PySem.W.Frag} {mg : Str → Option Value} {base : Heap} {CX : CXT} {j k : Nat} {f : Addr} {fd : FuncData} {ps : List Str} {sp : Sp} (F : FnOk P w K mg base CX j f fd ps sp) (h : j ≤ k) :
    FnOk P w K mg base CX k f fd ps sp := ⟨F.len, fun A outer s H args us vs Q E hr => F.run A outer s H args us vs Q E (hr.mono h)⟩
theorem FnOk.imp {P : Program} {w : World} {K : PySem.W.Frag} {mg : Str → Option Value} {base : Heap} {CX : CXT} {k : Nat} {f : Addr} {fd : FuncData} {ps : List Str} {sp sp' : Sp} (F : FnOk P w K mg base CX k f fd ps sp)
    (h : ∀ vs H Q E, sp' vs H Q E → sp vs H Q E) : FnOk P w K mg base CX k f fd ps sp' :=
  ⟨fun vs H Q E q => F.len vs H Q E (h _ _ _ _ q), fun A outer s H args us vs Q E hr he hb hv hs => F.run A outer s H args us vs Q E hr he hb hv (h _ _ _ _ hs)⟩

theorem Env0.in1 {P : Program} {w : World} {K : PySem.W.Frag} {mg : Str → Option Value} {base : Heap} {A : Around} {outer : List Env} {s : Shared} {H : Hp} (e : Env0 P w K mg base A outer s H) :
    Env0 P w K mg base A.in1 outer s H := ⟨e.frames, e.mod, e.bs, e.bsz, e.funs, e.frf, e.hok, e.bare⟩

section
variable {X : Cx} {pins : List (Addr × Obj)} {σ : St} {H : Hp} {s s' : Shared}
theorem Inv.env0 (I : Inv X pins σ H s) : Env0 X.prog X.w X.K X.mg X.base X.A X.stack s H :=
  ⟨I.ok.frames, I.ok.mod, I.bs, Nat.le_trans I.ok.bsz I.sz, I.stack, I.stkFree, I.hok, I.bare⟩
theorem Inv.after {Q : VK} {u : Value} (I : Inv X pins σ H s) (h : CE X.stack X.prog X.w H s Q u s') : EP X pins σ Q u s' := by
  obtain ⟨v, H', os, bare, un, hok, r, q⟩ := h
  obtain ⟨hh, g, d, t, os'⟩ := s'
  obtain rfl : os' = s.os := os
  exact ⟨v, H', I.call (h' := hh) (g' := g) (d' := d) (t' := t) (ch := []) un hok bare (fun b z => absurd z (by simp)), r, q⟩
end

noncomputable def tCall (sp : Sp) (dvs : List V) (E : XK) (t : TA) : TE := fun σ H Q => t σ H fun vs H1 => sp (vs ++ dvs) H1 Q E
noncomputable def Binds (K : PySem.W.Frag) (fd : FuncData) (ps : List Str) (ds : List Value) : Prop :=
  ∀ (s : Shared) (us : List Value), K.In s.heap → (us ++ ds).length = ps.length → BindsTo s fd ⟨us, []⟩ (ps.zip (us ++ ds))
theorem Binds.all {K : PySem.W.Frag} {fd : FuncData} {ps : List Str} (h : ∀ us : List Value, us.length = ps.length → bindArgs fd ⟨us, []⟩ = pure (ps.zip us)) : Binds K fd ps [] := fun s us _ hl => by
  rw [List.append_nil] at hl ⊢
  exact .of_eq (h us hl)

noncomputable def Passes (CX : CXT) (X : Cx) (E : XK) : Prop := ∀ (pins : List (Addr × Obj)) (σ : St) (H : Hp) (s : Shared) (e : Value) (s' : Shared), Inv X pins σ H s → CX X.stack H s E e s' → X.xe e s'

section
variable {X : Cx} {CX : CXT} {k : Nat} {f C : Addr} {fd : FuncData} {ps : List Str} {sp : Sp} {dvs : List V} {ds : List Value} {E : XK} {x m : Str} {p pos apos : Pos} {e o : Expr} {es : List Expr} {ta : TE} {t : TA}

theorem run_fn {pins : List (Addr × Obj)} {σ : St} {H : Hp} {s : Shared} {Q : VK} {us : List Value} {vs : List V} (F : FnOk X.prog X.w X.K X.mg X.base CX k f fd ps sp) (hr : Room k X.A) (hb : Binds X.K fd ps ds) (hd : Vals dvs ds) (hx : Passes CX X E)
    (I : Inv X pins σ H s) (r : Vals vs us) (h : sp (vs ++ dvs) H Q E) : wpAny (model X.prog X.w) X.A (call (.ref f) us) (EP X pins σ Q) X.xe s := by
  have r2 : Vals (vs ++ dvs) (us ++ ds) := r.append hd
  have hl : (us ++ ds).length = ps.length := by rw [← r2.length]; exact F.len _ _ _ _ h
  refine wpAny_call (codeAny_mono (F.run X.A X.stack s H ⟨us, []⟩ (us ++ ds) (vs ++ dvs) Q E hr I.env0 (hb s us I.kIn hl) r2 h) fun r s' hq => ?_)
  cases r with
  | error e => exact hx pins σ H s e s' I hq
  | ok fl =>
    cases fl with
    | ret u => exact I.after hq
    | next => exact False.elim hq
    | brk => exact False.elim hq
    | cont => exact False.elim hq

theorem pe_call (F : FnOk X.prog X.w X.K X.mg X.base CX k f fd ps sp) (hr : Room k X.A) (hg : Gl X x) (hm : X.mg x = some (.ref f)) (hk : PySem.W.keepIn X.K (.ref f) = true) (hb : Binds X.K fd ps ds) (hd : Vals dvs ds) (hx : Passes CX X E)
    (ha : PA X (e :: es) t) (hdb : (x == ("__debug__" : Str)) = false := by decide) (he : starEach (e :: es) X.env = (false, eval e X.env) :: starEach es X.env := by rfl) (hpl : (backTo pos (starEach es X.env)).any (·.1) = false := by rfl) :
    PE X (.Call (.Name x p) (e :: es) [] pos) (tCall sp dvs E t) := by
  intro pins s σ H Q I h
  refine wpAny_Call_Name_kw (ld_glob I hg hm ?_ hdb)
  refine PySem.W.callWith_K (h₀ := X.base) I.ok.mod.kin hk (thn (ha pos pins s σ H _ I h) fun us s1 ⟨vs, H1, I1, r, q⟩ => ⟨I1.kIn, ?_⟩) he hpl
  exact run_fn F hr hb hd hx I1 r q
structure Mk (K : PySem.W.Frag) (C f : Addr) : Prop where
  makes : PySem.W.makesIn K C = true
  init : PySem.W.findIn K (.ref C) "__init__" = some (some (.ref f))
  fn : PySem.W.isFn K (.ref f) = true
  kp : PySem.W.keepIn K (.ref C) = true

end

section
variable {X : Cx} {CX : CXT} {k : Nat} {f C : Addr} {fd : FuncData} {ps ks : List Str} {sp : Sp} {E : XK} {x m : Str} {p pos apos kpos : Pos} {e o : Expr} {es : List Expr} {kws : List Keyword} {te ta : TE} {t tk : TA} {nm : Option Str}
structure KBinds (K : PySem.W.Frag) (fd : FuncData) (ps ks : List Str) (g : List Value → List Value → List Value) (gV : List V → List V → List V) : Prop where
  to : ∀ (s : Shared) (us ws : List Value), K.In s.heap → (g us ws).length = ps.length → BindsTo s fd ⟨us, ks.zip ws⟩ (ps.zip (g us ws))
  rel : ∀ {vs : List V} {us : List Value} {zs : List V} {ws : List Value}, Vals vs us → Vals zs ws → Vals (gV vs zs) (g us ws)
variable {g : List Value → List Value → List Value} {gV : List V → List V → List V}
end

structure FnScope (N P : List Str) (sc : Scope) : Prop where
  kind : sc.kind = .function
  co : sc.isCoroutine = false
  gen : sc.isGenerator = false
  nd : N.Nodup
  pre : N.take P.length = P
  par : ∀ x ∈ P, sc.names.lookup x = some .local ∨ sc.names.lookup x = some .cell
  nofree : ∀ y ∈ sc.names, y.2 ≠ .free

theorem bindL_out {kindOf : Str → Option NameKind} {x : Str} : ∀ {binds : List (Str × Value)} {m : Str → Option Value}, (∀ v, (x, v) ∉ binds) → bindL kindOf binds m x = m x
  | [], _, _ => rfl
  | (n, v) :: r, m, h => by
    unfold bindL
    rw [bindL_out fun w hw => h w (List.mem_cons_of_mem _ hw)]
    split
    · have : x ≠ n := by rintro rfl; exact h v List.mem_cons_self
      simp [this]
    · rfl
theorem bindC_out {kindOf : Str → Option NameKind} {x : Str} : ∀ {binds : List (Str × Value)} {m : Str → Option Value}, (∀ v, (x, v) ∉ binds) → bindC kindOf binds m x = m x
  | [], _, _ => rfl
  | (n, v) :: r, m, h => by
    unfold bindC
    rw [bindC_out fun w hw => h w (List.mem_cons_of_mem _ hw)]
    split
    · rfl
    · have : x ≠ n := by rintro rfl; exact h v List.mem_cons_self
      simp [this]
theorem bindL_get {kindOf : Str → Option NameKind} {x : Str} {v : Value} : ∀ {P : List Str} {vs : List Value} {i : Nat} {m : Str → Option Value}, P.Nodup → P[i]? = some x → vs[i]? = some v → kindOf x = some .local →
    bindL kindOf (P.zip vs) m x = some v
  | [], _, _, _, _, h, _, _ => by simp at h
  | _ :: _, [], _, _, _, _, h, _ => by simp at h
  | p :: P, w :: vs, 0, m, nd, h1, h2, hk => by
    simp at h1 h2; subst h1; subst h2
    show bindL kindOf ((p, w) :: P.zip vs) m p = _
    unfold bindL
    rw [bindL_out fun v hv => (List.nodup_cons.mp nd).1 (List.of_mem_zip hv).1, if_pos hk]
    simp
  | p :: P, w :: vs, i + 1, m, nd, h1, h2, hk => by
    show bindL kindOf ((p, w) :: P.zip vs) m x = _
    unfold bindL
    exact bindL_get (i := i) (List.nodup_cons.mp nd).2 (by simpa using h1) (by simpa using h2) hk
theorem bindC_get {kindOf : Str → Option NameKind} {x : Str} {v : Value} : ∀ {P : List Str} {vs : List Value} {i : Nat} {m : Str → Option Value}, P.Nodup → P[i]? = some x → vs[i]? = some v → kindOf x ≠ some .local →
    bindC kindOf (P.zip vs) m x = some v
  | [], _, _, _, _, h, _, _ => by simp at h
  | _ :: _, [], _, _, _, _, h, _ => by simp at h
  | p :: P, w :: vs, 0, m, nd, h1, h2, hk => by
    simp at h1 h2; subst h1; subst h2
    show bindC kindOf ((p, w) :: P.zip vs) m p = _
    unfold bindC
    rw [bindC_out fun v hv => (List.nodup_cons.mp nd).1 (List.of_mem_zip hv).1, if_neg hk]
    simp
  | p :: P, w :: vs, i + 1, m, nd, h1, h2, hk => by
    show bindC kindOf ((p, w) :: P.zip vs) m x = _
    unfold bindC
    exact bindC_get (i := i) (List.nodup_cons.mp nd).2 (by simpa using h1) (by simpa using h2) hk

noncomputable def start (N : List Str) (vs : List V) : St := vs.map some ++ List.replicate (N.length - vs.length) none

noncomputable def cxOf (CX : CXT) (P : Program) (w : World) (K : PySem.W.Frag) (mg : Str → Option Value) (base : Heap) (N : List Str) (qual : Str) (scope : Scope) (f : Addr) (cd : Value) (A : Around) (outer : List Env) (s : Shared) (H : Hp) (E : XK) : Cx where
  prog := P
  w := w
  K := K
  mg := mg
  base := base
  A := A.deeper (envOfC qual scope s.heap.objs.size f cd)
  N := N
  s₀ := s
  H₀ := H
  env := envOfC qual scope s.heap.objs.size f cd
  outer := outer
  stack := envOfC qual scope s.heap.objs.size f cd :: outer
  ex := []
  calm := true
  fn := fun _ => true
  pn := []
  xe := fun e s' => wpAny (model P w) (A.deeper (envOfC qual scope s.heap.objs.size f cd)) (leaving (envOfC qual scope s.heap.objs.size f cd) e) (fun _ s'' => CX outer H s E e s'') (fun e' s'' => CX outer H s E e' s'') s'

theorem cell_has {sc : Scope} {n : Nat} {x : Str} (h : sc.names.lookup x = some .cell) : ∃ c, (cellsFrom n sc.names []).lookup x = some c := by
  have q := PySem.W.cellsFrom_some sc.names n [] (.inl h)
  exact Option.isSome_iff_exists.mp q

theorem inv_start {CX : CXT} {P : Program} {w : World} {K : PySem.W.Frag} {mg : Str → Option Value} {base : Heap} {N ps : List Str} {qual : Str} {scope : Scope} {f : Addr} {cd : Value} {A : Around} {outer : List Env} {s s1 : Shared} {H : Hp} {E : XK} {us : List Value} {vs : List V}
    (S : FnScope N ps scope) (hd : A.handled = none) (e0 : Env0 P w K mg base A outer s H) (hl : vs.length = ps.length) (r : Vals vs us)
    (x : InCallC s s.heap.objs.size (bindL (envOfC qual scope s.heap.objs.size f cd).kindOf (ps.zip us) fun _ => none) (cellsFrom (s.heap.objs.size + 1) scope.names []) (bindC (envOfC qual scope s.heap.objs.size f cd).kindOf (ps.zip us) fun _ => none) s1) :
    Inv (cxOf CX P w K mg base N qual scope f cd A outer s H E) [] (start N vs) H s1 := by
  have hpl : ps.length ≤ N.length := by have := congrArg List.length S.pre; rw [List.length_take] at this; omega
  obtain ⟨h1, tk, rfl, hk⟩ := x.done
  have noA : ∀ b : Addr, b ∉ (cxOf CX P w K mg base N qual scope f cd A outer s H E).ex := fun b z => absurd (show b ∈ ([] : List Addr) from z) (by simp)
  refine ⟨⟨e0.mod, S.kind, rfl, rfl, Nat.le_refl _, fun y z c h1 h2 => ?_, fun y hy => ?_, fun y c _ h => ?_, fun _ => hd, Around.frames_deeper e0.frames, .inr ⟨rfl, rfl⟩, fun b z => absurd z (noA b), e0.bs, e0.bsz, fun b _ _ => noA b, fun b z => absurd z (noA b), e0.funs, e0.frf⟩,
    rfl, e0.bare, Un.kept hk, ⟨_, x.toInCall.ns, fun i y v h1 h2 h3 => ?_⟩, fun y c h => ⟨_, x.cell y c h⟩, e0.hok.fresh (Nat.le_refl _), fun y c h => ?_, fun p hp => absurd (show p ∈ ([] : List (Addr × Obj)) from hp) (by simp), e0.hok.kept hk, ?_⟩
  · exact name_of_addr x.apart (PySem.mem_of_lookup h1) (PySem.mem_of_lookup h2)
  · have hy : scope.names.lookup y = some .cell ∨ scope.names.lookup y = some .free := hy
    rcases hy with hy | hy
    · exact cell_has hy
    · exact absurd rfl (S.nofree _ (PySem.mem_of_lookup hy))
  · exact Nat.le_of_lt (x.above y c (PySem.mem_of_lookup h))
  · have hi : i < vs.length := by
      unfold start at h2
      by_cases hi : i < vs.length
      · exact hi
      · rw [List.getElem?_append_right (by simpa using hi)] at h2
        rw [List.getElem?_replicate] at h2
        split at h2 <;> cases h2
    have ha : vs[i]? = some v := by
      unfold start at h2
      rw [List.getElem?_append_left (by simpa using hi), List.getElem?_map] at h2
      cases e : vs[i]? with
      | none => rw [e] at h2; cases h2
      | some a => rw [e] at h2; cases h2; rfl
    obtain ⟨u, hu, rv⟩ := r.get ha
    have hp : ps[i]? = some y := by
      rw [← S.pre, List.getElem?_take_of_lt (by omega)]; exact h1
    have ndP : ps.Nodup := by rw [← S.pre]; exact S.nd.sublist (List.take_sublist _ _)
    refine ⟨u, rv, ?_⟩
    rcases S.par y (List.mem_of_getElem? hp) with k | k
    · exact .inl ⟨k, bindL_get ndP hp hu k⟩
    · obtain ⟨c, e⟩ := cell_has (n := s.heap.objs.size + 1) k
      refine .inr ⟨.inl k, c, e, ?_⟩
      have q := x.cell y c e
      rw [bindC_get ndP hp hu (by show scope.names.lookup y ≠ _; rw [k]; decide)] at q
      exact q
  · exact e0.hok.fresh (Nat.le_of_lt (x.above y c (PySem.mem_of_lookup h)))
  · unfold start
    show _ = N.length
    rw [List.length_append, List.length_map, List.length_replicate]
    omega

theorem fn_of {CX : CXT} {P : Program} {w : World} {K : PySem.W.Frag} {mg : Str → Option Value} {base : Heap} {k : Nat} {f : Addr} {name qual : Str} {params : Arguments} {body : List Stmt} {scope : Scope} {dV kV doc pm cdv ct oc : Value} {an od : Option Addr}
    {osl : Array (Option Value)} {N ps : List Str} {sp : Sp} (lk : K.lookup f = some ⟨oc, od, .func (PySem.W.fnOf name qual params body scope dV kV doc pm an cdv ct), osl⟩) (hcd : PySem.W.codeIn K cdv qual = true) (S : FnScope N ps scope)
    (len : ∀ vs H Q E, sp vs H Q E → vs.length = ps.length)
    (hbody : ∀ (A : Around) (outer : List Env) (s : Shared) (H : Hp) (vs : List V) (Q : VK) (E : XK), Room k (A.deeper (envOfC qual scope s.heap.objs.size f cdv)) → sp vs H Q E →
      ∃ t, PSs (cxOf CX P w K mg base N qual scope f cdv A outer s H E) body t ∧ t { nx := fun _ H' => Q .non H', rt := Q } (start N vs) H) :
    FnOk P w K mg base CX (k + 1) f (PySem.W.fnOf name qual params body scope dV kV doc pm an cdv ct) ps sp := by
  refine ⟨len, fun A outer s H args us vs Q E hr e0 hb r hsp => ?_⟩
  have hl := len _ _ _ _ hsp
  have KX : K.In s.heap := e0.mod.kin.keeps fun b o e => (e0.bs b o e).1
  have lim : s.heap.NoLimit := e0.mod.nolimit.keeps fun b o e => (e0.bs b o e).1
  have hkind : ∀ y ∈ ps.zip us, scope.names.lookup y.1 = some .local ∨ (scope.names.lookup y.1 = some .cell ∧ ((cellsFrom (s.heap.objs.size + 1) scope.names []).lookup y.1).isSome = true) := fun ⟨n, v⟩ hy => by
    rcases S.par n (List.of_mem_zip hy).1 with q | q
    · exact .inl q
    · exact .inr ⟨q, PySem.W.cellsFrom_some _ _ _ (.inl q)⟩
  refine codeAny_call_function hr.depth (KX _ _ lk) rfl S.co S.gen rfl (PySem.W.codeRec_of KX hcd) (hb _ _ _ _ ?_)
  refine wpAny_newFunctionEnv_cells S.kind hkind fun env he s1 x => ?_
  subst he
  refine ⟨lim.keeps x.toInCall.keep, codeAny_func ?_⟩
  obtain ⟨t, ht, hq⟩ := hbody A outer s H vs Q E (hr.deeper _) hsp
  have I : Inv (cxOf CX P w K mg base N qual scope f cdv A outer s H E) [] (start N vs) H s1 := inv_start S hr.hd e0 hl r x
  refine wpAny_mono (ht [] s1 (start N vs) H _ I hq) (fun fl s' hs => ?_) fun e s' hs => hs
  have fin : ∀ {σ' : St} {H' : Hp} {v : V} {u : Value}, Inv (cxOf CX P w K mg base N qual scope f cdv A outer s H E) [] σ' H' s' → RelV v u → Q v H' → CE outer P w H s Q u s' :=
    fun {σ' H' v u} J rv q => ⟨v, H', J.os, J.bare, J.base, J.hok, rv, q⟩
  cases fl with
  | ret u =>
    obtain ⟨v, σ', H', J, rv, q⟩ := hs
    exact fin J rv q
  | next =>
    obtain ⟨σ', H', J, q⟩ := hs
    exact fin (v := V.non) (u := Value.none) J rfl q
  | brk =>
    obtain ⟨_, _, _, q⟩ := hs
    exact False.elim q
  | cont =>
    obtain ⟨_, _, _, q⟩ := hs
    exact False.elim q
end L2

namespace L2
open PySem PySem.Spec PyProof.Rows
section
variable {X : Cx} {x : Str} {p pos : Pos} {e : Expr} {es : List Expr} {t : TA} {id T : String} {r : List V → Hp → VK → Prop}

noncomputable def tCB (r : List V → Hp → VK → Prop) (t : TA) : TE := fun σ H Q => t σ H fun vs H1 => r vs H1 Q
theorem pe_callB (hc : CallR X (.builtin id) r) (hg : Gl X x) (hm : X.mg x = none) (hv : bootBuiltins x = some (.builtin id)) (ha : PA X (e :: es) t) (hn : x ≠ "__name__" := by decide) (hdb : (x == ("__debug__" : Str)) = false := by decide)
    (he : starEach (e :: es) X.env = (false, eval e X.env) :: starEach es X.env := by rfl) (hpl : (backTo pos (starEach es X.env)).any (·.1) = false := by rfl) : PE X (.Call (.Name x p) (e :: es) [] pos) (tCB r t) := by
  intro pins s σ H Q I h
  refine wpAny_Call_Name_kw (ld_blt I hg hm hv ?_ hn hdb)
  exact PyProof.Rows.callWith_builtin1 (thn (ha pos pins s σ H _ I h) fun us s1 ⟨vs, H1, I1, r1, q1⟩ => hc pins s1 σ H1 vs us Q I1 r1 q1) he hpl
theorem pe_callTy (hc : CallR X (.type T) r) (hg : Gl X x) (hm : X.mg x = none) (hv : bootBuiltins x = some (.type T)) (ha : PA X (e :: es) t) (hn : x ≠ "__name__" := by decide) (hdb : (x == ("__debug__" : Str)) = false := by decide)
    (he : starEach (e :: es) X.env = (false, eval e X.env) :: starEach es X.env := by rfl) (hpl : (backTo pos (starEach es X.env)).any (·.1) = false := by rfl) : PE X (.Call (.Name x p) (e :: es) [] pos) (tCB r t) := by
  intro pins s σ H Q I h
  refine wpAny_Call_Name_kw (ld_blt I hg hm hv ?_ hn hdb)
  exact PyProof.Rows.callWith_type1 (thn (ha pos pins s σ H _ I h) fun us s1 ⟨vs, H1, I1, r1, q1⟩ => hc pins s1 σ H1 vs us Q I1 r1 q1) he hpl
end
end L2

namespace HT
open PySem PyProof.Rows

section
open PySem.SeqAt
open PySem.AutoSeq1 (wpAny_loadPart')
open PySem.MeetsSeq PySem.MeetsSeq2 PySem.MeetsSeq3

end

section
variable {prog : Program} {w : World} {A : Around} {E : Value → Shared → Prop} {s : Shared}

theorem cat_tup {t b : Addr} {vs ws : List Value} {Q : Value → Shared → Prop} (ht : IsTup s.heap t vs.toArray) (hb : IsTup s.heap b ws.toArray) (hv : vs ≠ [])
    (h1 : ws = [] → Q (.ref t) s) (h2 : ws ≠ [] → Q (.ref s.heap.objs.size) { s with heap := s.heap.push { cls := .type "tuple", data := .seq (vs ++ ws).toArray } })
    (hsz : vs.length + ws.length ≤ sizeLine) : wpAny (model prog w) A (binaryOp .Add (.ref t) (.ref b)) Q E s := by
  obtain ⟨⟨cls, dd, data, sl⟩, ho, hc, n, hd⟩ := id ht
  obtain ⟨⟨cls2, dd2, data2, sl2⟩, ho2, hc2, n2, hd2⟩ := id hb
  simp only at hc hd hc2 hd2
  subst hc hd hc2 hd2
  have e : vs.toArray ++ ws.toArray = (vs ++ ws).toArray := by simp
  by_cases hw : ws = []
  · exact concat_meets ⟨_, ho, rfl⟩ ⟨_, ho2, rfl⟩ noFill_tuple_add seq_tuple_add PySem.F.slot_tuple_add PySem.F.entry_tuple_add (PySem.F.args_tuple_add_2 _ _)
      (tuple_addW1 t b vs.toArray ws.toArray n n2 dd dd2 sl sl2 (by simpa using hv) (by simp [hw])) ⟨ho, ho2, h1 hw⟩
  · refine concat_meets ⟨_, ho, rfl⟩ ⟨_, ho2, rfl⟩ noFill_tuple_add seq_tuple_add PySem.F.slot_tuple_add PySem.F.entry_tuple_add (PySem.F.args_tuple_add_2 _ _)
      (tuple_addW2 t b vs.toArray ws.toArray n n2 dd dd2 sl sl2 (by simpa using hv) (by simpa using hw) (by rw [List.size_toArray, List.size_toArray]; exact hsz)) ⟨ho, ho2, ?_⟩
    rw [e]
    exact h2 hw

noncomputable def sIx (n d : Nat) : Option Int → Nat
  | none => d
  | some v => if v < 0 then (v + (n : Int)).toNat else min v.toNat n
theorem sIx_le (n d : Nat) (hd : d ≤ n) (o : Option Int) : sIx n d o ≤ n := by
  cases o with
  | none => exact hd
  | some v =>
    show (if v < 0 then (v + (n : Int)).toNat else min v.toNat n) ≤ n
    by_cases hv : v < 0
    · rw [if_pos hv]; omega
    · rw [if_neg hv]; exact Nat.min_le_right _ _
theorem clip_eq (v : Int) (n d : Nat) : (if v < 0 then max (v + (n : Int)) 0 else min v (n : Int)) = ((sIx n d (some v) : Nat) : Int) := by
  show (if v < 0 then max (v + (n : Int)) 0 else min v (n : Int)) = (((if v < 0 then (v + (n : Int)).toNat else min v.toNat n) : Nat) : Int)
  by_cases hv : v < 0
  · simp only [if_pos hv]; omega
  · simp only [if_neg hv]; omega
theorem adjust_gen (lo hi : Option Int) (n : Nat) : Builtin.Slice.sliceAdjust lo hi 1 (n : Int) = (((sIx n 0 lo : Nat) : Int), ((sIx n n hi : Nat) : Int)) := by
  have h1 : ¬ ((1 : Int) < 0) := by omega
  unfold Builtin.Slice.sliceAdjust
  simp only [h1, if_false]
  refine Prod.ext ?_ ?_
  · cases lo with
    | none => rfl
    | some v => exact clip_eq v n 0
  · cases hi with
    | none => rfl
    | some v => exact clip_eq v n n
theorem places_gen (i j : Nat) : Builtin.Slice.slicePlaces (i : Int) (j : Int) 1 = j - i := by
  unfold Builtin.Slice.slicePlaces
  have h1 : (1 : Int) > 0 := by omega
  simp only [h1, if_true, Int.ediv_one]
  split <;> omega
theorem slicePart_ {v : Value} {o : Option Int} {Q : Option Int → Shared → Prop} (p : IsPart v o) (h : Q o s) : wpAny (model prog w) A (Builtin.Slice.slicePartIndex v) Q E s := by
  cases p with
  | none => exact slicePart_none h
  | int i t => exact slicePart_int h
theorem sliceApplied_gen {sl : Addr} {vl vu : Value} {lo hi : Option Int} {n : Nat} {Q : Int × Int × Nat → Shared → Prop} (hs : s.heap.IsSliceOf sl vl vu .none) (pl : IsPart vl lo) (pu : IsPart vu hi)
    (h : Q (((sIx n 0 lo : Nat) : Int), 1, sIx n n hi - sIx n 0 lo) s) : wpAny (model prog w) A (Builtin.Slice.sliceApplied (.ref sl) (pure (n : Int))) Q E s := by
  obtain ⟨os, hos, hcs, hds⟩ := id hs
  unfold Builtin.Slice.sliceApplied Builtin.Slice.sliceFields
  refine wpAny_bind (wpAny_bind (wpAny_field hos hds (x := vl) rfl (wpAny_bind (wpAny_field hos hds (x := vu) rfl (wpAny_bind (wpAny_field hos hds (x := .none) rfl (wpAny_pure ?_)))))))
  refine wpAny_bind (slicePart_none ?_)
  show wpAny _ _ (if ((1 : Int) == 0) = true then _ else _) _ _ s
  rw [if_neg (by decide)]
  refine wpAny_bind (slicePart_ pl (wpAny_bind (slicePart_ pu (wpAny_bind (wpAny_pure ?_)))))
  show wpAny _ _ (match Builtin.Slice.sliceAdjust lo hi 1 (n : Int) with | (lo, hi) => pure (lo, (1 : Int), Builtin.Slice.slicePlaces lo hi 1)) _ _ s
  rw [adjust_gen lo hi n]
  show wpAny _ _ (pure (((sIx n 0 lo : Nat) : Int), (1 : Int), Builtin.Slice.slicePlaces ((sIx n 0 lo : Nat) : Int) ((sIx n n hi : Nat) : Int) 1)) _ _ s
  rw [places_gen]
  exact wpAny_pure h
theorem pick_gen (xs : Array Value) (i k : Nat) : ((List.range k).filterMap fun (m : Nat) => xs[((i : Int) + (m : Int) * 1).toNat]?).toArray = ((xs.toList.drop i).take k).toArray := by
  have e : (fun (m : Nat) => xs[((i : Int) + (m : Int) * 1).toNat]?) = fun m => xs[i + m]? := by
    funext m
    have : ((i : Int) + (m : Int) * 1).toNat = i + m := by omega
    rw [this]
  rw [e]
  have := pick_run xs i k
  rw [List.filterMap_map] at this
  have e2 : ((fun x => xs[x]?) ∘ fun x => i + x) = fun m => xs[i + m]? := rfl
  rw [e2] at this
  rw [this]

theorem getItem_tuple_cut {t sl : Addr} {items : Array Value} {vl vu : Value} {lo hi : Option Int} {Q : Value → Shared → Prop} (ht : IsTup s.heap t items) (hs : s.heap.IsSliceOf sl vl vu .none) (pl : IsPart vl lo) (pu : IsPart vu hi)
    (hw : ¬ (sIx items.size 0 lo = 0 ∧ sIx items.size items.size hi = items.size))
    (h : Q (.ref s.heap.objs.size) { s with heap := s.heap.push { cls := .type "tuple", data := .seq ((items.toList.drop (sIx items.size 0 lo)).take (sIx items.size items.size hi - sIx items.size 0 lo)).toArray } })
    (hsz : items.size ≤ sizeLine) : wpAny (model prog w) A (getItem (.ref t) (.ref sl)) Q E s := by
  have htake : sizeOk (.seq ((items.toList.drop (sIx items.size 0 lo)).take (sIx items.size items.size hi - sIx items.size 0 lo)).toArray) := by
    show ((items.toList.drop (sIx items.size 0 lo)).take (sIx items.size items.size hi - sIx items.size 0 lo)).toArray.size ≤ sizeLine
    rw [List.size_toArray, List.length_take, List.length_drop, Array.length_toList]
    omega
  have hj : sIx items.size items.size hi ≤ items.size := sIx_le _ _ (Nat.le_refl _) hi
  obtain ⟨os, hos, hcs, hds⟩ := id hs
  have hTs : s.TypeIs (.ref sl) "slice" := ⟨os, hos, hcs⟩
  unfold getItem
  try with_reducible refine wpAny_holding ?_
  first | refine wpAny_bind (wpAny_pure ?_) | skip
  refine wpAny_bind (wpAny_sequenceKey ht.typeIs (by decide) ?_)
  refine wpAny_bind (wpAny_callSpecial?_slot (name := Str.ofString "__getitem__") ht.typeIs PyProof.Rows.slot_tuple_getitem
    (wpAny_call_entry PyProof.Rows.slot_tuple_getitem ht.typeIs entry_tuple_getitem ?_ (args_tuple_getitem _ _)))
  show wpAny _ _ (Builtin.Tuple.tupleItemsOf (.ref t) >>= _) _ _ s
  refine wpAny_bind (tupleItemsOf_ ht ?_)
  refine wpAny_bind (wpAny_typeOf hTs ?_)
  rw [if_pos (by decide)]
  refine wpAny_bind (sliceApplied_gen hs pl pu ?_)
  have hno : ¬ ((((sIx items.size 0 lo : Nat) : Int) == 0 && (1 : Int) == 1 && (sIx items.size items.size hi - sIx items.size 0 lo) == items.size) = true) := by
    intro q
    rw [Bool.and_eq_true, Bool.and_eq_true] at q
    have q1 : ((sIx items.size 0 lo : Nat) : Int) = 0 := eq_of_beq q.1.1
    have q2 : sIx items.size items.size hi - sIx items.size 0 lo = items.size := eq_of_beq q.2
    exact hw ⟨by omega, by omega⟩
  show wpAny _ _ (if (((sIx items.size 0 lo : Nat) : Int) == 0 && (1 : Int) == 1 && (sIx items.size items.size hi - sIx items.size 0 lo) == items.size) = true then _ else _) _ _ s
  rw [if_neg hno, pick_gen]
  first
    | exact wpAny_bind (m := Builtin.Tuple.tupleExact _) (wpAny_newObj_type (wpAny_pure ⟨_, rfl, wpAny_pure h⟩) htake)
    | exact wpAny_bind (m := Builtin.Tuple.tupleExact _) (wpAny_newObj_type (wpAny_bind (wpAny_pure (wpAny_pure ⟨_, rfl, wpAny_pure h⟩))) htake)
    | exact wpAny_bind (wpAny_bind (m := Builtin.Tuple.tupleExact _) (wpAny_newObj_type (wpAny_pure (wpAny_pure ⟨_, rfl, wpAny_pure h⟩)) htake))
    | exact wpAny_bind (wpAny_bind (m := Builtin.Tuple.tupleExact _) (wpAny_newObj_type (wpAny_pure ⟨_, rfl, wpAny_pure h⟩) htake))
end
end HT

namespace L2
open PySem PySem.Spec PyProof.Rows

noncomputable abbrev TO := St → Hp → (Option Int → Hp → Prop) → Prop
noncomputable def PO (X : Cx) (e : Option Expr) (t : TO) : Prop :=
  ∀ (pins : List (Addr × Obj)) (s : Shared) (σ : St) (H : Hp) (Q : Option Int → Hp → Prop), Inv X pins σ H s → t σ H Q →
    wpAny (model X.prog X.w) X.A (evalPart e X.env) (fun u s' => ∃ o H', Inv X pins σ H' s' ∧ IsPart u o ∧ Q o H') X.xe s
noncomputable def tNoPart : TO := fun _ H Q => Q none H
noncomputable def tPart (t : TE) : TO := fun σ H Q => t σ H fun x H1 => ∃ i, x = .int i ∧ Q (some i) H1

section
variable {X : Cx} {e : Expr} {te : TE} {lo hi : Option Expr} {tl th : TO} {pos p2 : Pos}

theorem po_none : PO X none tNoPart := by
  intro pins s σ H Q I h
  rw [evalPart_none]
  exact wpAny_pure ⟨none, H, I, .none, h⟩
theorem po_some (h : PE X e te) : PO X (some e) (tPart te) := by
  intro pins s σ H Q I hw
  rw [evalPart_some]
  refine thn (h pins s σ H _ I hw) fun u s1 ⟨x, H1, I1, r1, q1⟩ => ?_
  obtain ⟨i, rfl, q⟩ := q1
  obtain ⟨t, rfl⟩ := r1
  exact ⟨some i, H1, I1, .int i t, q⟩

noncomputable def SlR (X : Cx) (r : V → Option Int → Option Int → Hp → VK → Prop) : Prop :=
  ∀ (pins : List (Addr × Obj)) (s : Shared) (σ : St) (H : Hp) (x : V) (v vl vu : Value) (lo hi : Option Int) (sl : Addr) (Q : VK), Inv X pins σ H s → RelV x v → s.heap.IsSliceOf sl vl vu .none → IsPart vl lo → IsPart vu hi → r x lo hi H Q →
    ∃ T id, typeLookup (.type T) "__getitem__" = pure (some (.builtin id)) ∧ s.TypeIs v T ∧ wpAny (model X.prog X.w) X.A (getItem v (.ref sl)) (EP X pins σ Q) X.xe s
theorem SlR.or {r r' : V → Option Int → Option Int → Hp → VK → Prop} (h : SlR X r) (h' : SlR X r') : SlR X (fun x lo hi H Q => r x lo hi H Q ∨ r' x lo hi H Q) := by
  intro pins s σ H x v vl vu lo hi sl Q I rx hs pl pu q
  rcases q with q | q
  · exact h pins s σ H x v vl vu lo hi sl Q I rx hs pl pu q
  · exact h' pins s σ H x v vl vu lo hi sl Q I rx hs pl pu q
noncomputable def tSl (r : V → Option Int → Option Int → Hp → VK → Prop) (te : TE) (tl th : TO) : TE := fun σ H Q => te σ H fun x H1 => tl σ H1 fun l H2 => th σ H2 fun u H3 => r x l u H3 Q
theorem pe_slice {r : V → Option Int → Option Int → Hp → VK → Prop} (hr : SlR X r) (he : PE X e te) (hl : PO X lo tl) (hu : PO X hi th) : PE X (.Subscript e (.Slice lo hi none p2) pos) (tSl r te tl th) := by
  intro pins s σ H Q I h
  refine Subscript_ (thn (he pins s σ H _ I h) fun v s1 ⟨x, H1, I1, r1, q1⟩ => ?_)
  refine wpAny_Slice (thn (hl pins s1 σ H1 _ I1 q1) fun vl s2 ⟨l, H2, I2, pl, q2⟩ => thn (hu pins s2 σ H2 _ I2 q2) fun vu s3 ⟨u, H3, I3, pu, q3⟩ => ?_)
  rw [evalPart_none]
  refine wpAny_pure ?_
  have I4 : Inv X pins σ H3 { s3 with heap := s3.heap.push { cls := .type "slice", data := .fields #[vl, vu, .none] } } := I3.kept (t' := s3.toks) fun b ob q => Heap.get?_push_of_some _ q
  obtain ⟨T, id, hT, ht, hg⟩ := hr pins { s3 with heap := s3.heap.push { cls := .type "slice", data := .fields #[vl, vu, .none] } } σ H3 x v vl vu l u s3.heap.objs.size Q I4 r1 (Heap.IsSliceOf.new ..) pl pu q3
  show wpAny (model X.prog X.w) X.A (subscriptTail e (.Slice lo hi none p2) v (.ref s3.heap.objs.size)) (EP X pins σ Q) X.xe { s3 with heap := s3.heap.push { cls := .type "slice", data := .fields #[vl, vu, .none] } }
  exact tail_any (ops := [.ref s3.heap.objs.size, v]) ht hT hg (by with_unfolding_all rfl)

noncomputable def cutV (xs : List V) (lo hi : Option Int) : List V := (xs.drop (HT.sIx xs.length 0 lo)).take (HT.sIx xs.length xs.length hi - HT.sIx xs.length 0 lo)
theorem cutV_length (xs : List V) (lo hi : Option Int) : (cutV xs lo hi).length ≤ xs.length := by
  unfold cutV
  rw [List.length_take, List.length_drop]
  omega
noncomputable def rSlT (K : PySem.W.Frag) : V → Option Int → Option Int → Hp → VK → Prop := fun x lo hi H Q => ∃ a xs, x = .ref a ∧ SqT K H a xs ∧
  ¬ (HT.sIx xs.length 0 lo = 0 ∧ HT.sIx xs.length xs.length hi = xs.length) ∧ ∀ p, H p = none → Q (.ref p) (upd H p (.tup (cutV xs lo hi)))
theorem sl_tup : SlR X (rSlT X.K) := by
  intro pins s σ H x v vl vu lo hi sl Q I rx hs pl pu h
  obtain ⟨a, xs, rfl, hx, hw, q⟩ := h
  cases rx
  obtain ⟨its, r, ht, hz⟩ := I.tuple hx
  have hlen : its.toArray.size = xs.length := by rw [List.size_toArray]; exact r.length.symm
  refine ⟨"tuple", _, PyProof.Rows.slot_tuple_getitem.lookup, ht.typeIs, ?_⟩
  refine HT.getItem_tuple_cut ht hs pl pu (by rw [hlen]; exact hw) ?_ (by rw [hlen]; exact hz)
  rw [hlen]
  refine ⟨.ref s.heap.objs.size, _, I.laid (t' := s.toks) (o := .tup (cutV xs lo hi)) (fun b ob q => Heap.get?_push_of_some _ q) (Nat.le_refl _) ?_, rfl, q _ (I.hok.fresh (Nat.le_refl _))⟩
  exact ⟨Nat.le_trans (cutV_length xs lo hi) hz, _, (r.drop (HT.sIx xs.length 0 lo)).take (HT.sIx xs.length xs.length hi - HT.sIx xs.length 0 lo), IsTup.new _ _⟩

noncomputable def rCatT (K : PySem.W.Frag) : R2 := fun x y H Q => ∃ a b xs ys, x = .ref a ∧ y = .ref b ∧ SqT K H a xs ∧ SqT K H b ys ∧ xs ≠ [] ∧ xs.length + ys.length ≤ sizeLine ∧
  (ys = [] → Q (.ref a) H) ∧ (ys ≠ [] → ∀ p, H p = none → Q (.ref p) (upd H p (.tup (xs ++ ys))))
theorem Vals.nil_iff {xs : List V} {us : List Value} (r : Vals xs us) : us = [] ↔ xs = [] := by
  cases r with
  | nil => simp
  | cons _ _ => simp
theorem op_catT : OpR X (binaryOp .Add) (rCatT X.K) := by
  intro pins s σ H x y v u Q I rx ry h
  obtain ⟨a, b, xs, ys, rfl, rfl, ha, hb, hx, hz, q1, q2⟩ := h
  cases rx
  cases ry
  obtain ⟨its, r1, p1, _⟩ := I.tuple ha
  obtain ⟨its2, r2, p2, _⟩ := I.tuple hb
  refine HT.cat_tup p1 p2 (fun z => hx (r1.nil_iff.mp z)) (fun z => ⟨.ref a, H, I, rfl, q1 (r2.nil_iff.mp z)⟩) (fun z => ?_) (by rw [← r1.length, ← r2.length]; exact hz)
  refine ⟨.ref s.heap.objs.size, _, I.laid (t' := s.toks) (o := .tup (xs ++ ys)) (fun b ob q => Heap.get?_push_of_some _ q) (Nat.le_refl _) ?_, rfl, q2 (fun w => z (r2.nil_iff.mpr w)) _ (I.hok.fresh (Nat.le_refl _))⟩
  exact ⟨by rw [List.length_append]; exact hz, _, r1.append r2, IsTup.new _ _⟩
end
end L2

namespace L2
open PySem PySem.Spec PyProof.Rows

noncomputable def ixN (n : Nat) (i : Int) : Option Nat := if 0 ≤ i then (if i < n then some i.toNat else none) else if -(n : Int) ≤ i then some (i + n).toNat else none
noncomputable def atI {α : Type} (xs : List α) (i : Int) : Option α := (ixN xs.length i).bind fun j => xs[j]?
theorem ixN_seq {n : Nat} {i : Int} {j : Nat} (h : ixN n i = some j) : seqIndex? i n = some j ∧ j < n ∧ -(n : Int) ≤ i ∧ i < n := by
  unfold ixN at h
  by_cases h0 : 0 ≤ i
  · rw [if_pos h0] at h
    by_cases h1 : i < n
    · rw [if_pos h1] at h
      have e : i.toNat = j := Option.some.inj h
      exact ⟨by rw [seqIndex_of h0 h1, e], by omega, by omega, h1⟩
    · rw [if_neg h1] at h; cases h
  · rw [if_neg h0] at h
    by_cases h1 : -(n : Int) ≤ i
    · rw [if_pos h1] at h
      have e : (i + n).toNat = j := Option.some.inj h
      exact ⟨by rw [seqIndex_neg (by omega) h1, e], by omega, h1, by omega⟩
    · rw [if_neg h1] at h; cases h
theorem atI_get {α : Type} {xs : List α} {i : Int} {v : α} (h : atI xs i = some v) : ∃ j, seqIndex? i xs.length = some j ∧ xs[j]? = some v ∧ j < xs.length ∧ -(xs.length : Int) ≤ i ∧ i < xs.length := by
  unfold atI at h
  cases e : ixN xs.length i with
  | none => rw [e] at h; cases h
  | some j =>
    rw [e] at h
    obtain ⟨h1, h2, h3, h4⟩ := ixN_seq e
    exact ⟨j, h1, h, h2, h3, h4⟩
theorem atI_nat {α : Type} {xs : List α} {j : Nat} {v : α} (h : xs[j]? = some v) : atI xs (j : Int) = some v := by
  have hj : j < xs.length := (List.getElem?_eq_some_iff.mp h).1
  have e : ixN xs.length (j : Int) = some j := by
    unfold ixN
    rw [if_pos (by omega), if_pos (by omega)]; simp
  unfold atI; rw [e]; exact h
noncomputable def PlainIx (b : Expr) : Prop := ∀ o i, subscripted b false o i = operate [o, i] (getItem o i)
noncomputable def IxR (X : Cx) (r : R2) : Prop :=
  ∀ (value slice : Expr) (pins : List (Addr × Obj)) (s : Shared) (σ : St) (H : Hp) (x y : V) (v u : Value) (Q : VK), Inv X pins σ H s → RelV x v → RelV y u → r x y H Q →
    subscripted slice false v u = operate [v, u] (getItem v u) → wpAny (model X.prog X.w) X.A (subscriptTail value slice v u) (EP X pins σ Q) X.xe s
noncomputable def MtR (X : Cx) (id : String) (r : V → List V → Hp → VK → Prop) : Prop :=
  ∀ (pins : List (Addr × Obj)) (s : Shared) (σ : St) (H : Hp) (x : V) (xs : List V) (v : Value) (us : List Value) (Q : VK), Inv X pins σ H s → RelV x v → Vals xs us → r x xs H Q →
    wpAny (model X.prog X.w) X.A (call (.builtin id) (v :: us)) (EP X pins σ Q) X.xe s
section
variable {X : Cx} {a b : Expr} {ta tb : TE} {pos : Pos}
theorem IxR.or {r r' : R2} (h : IxR X r) (h' : IxR X r') : IxR X (fun x y H Q => r x y H Q ∨ r' x y H Q) := by
  intro value slice pins s σ H x y v u Q I rx ry q hs
  rcases q with q | q
  · exact h value slice pins s σ H x y v u Q I rx ry q hs
  · exact h' value slice pins s σ H x y v u Q I rx ry q hs
theorem MtR.or {id : String} {r r' : V → List V → Hp → VK → Prop} (h : MtR X id r) (h' : MtR X id r') : MtR X id (fun x xs H Q => r x xs H Q ∨ r' x xs H Q) := by
  intro pins s σ H x xs v us Q I rx rs q
  rcases q with q | q
  · exact h pins s σ H x xs v us Q I rx rs q
  · exact h' pins s σ H x xs v us Q I rx rs q
theorem pe_ix {r : R2} (hr : IxR X r) (ha : PE X a ta) (hb : PE X b tb) (hs : PlainIx b) : PE X (.Subscript a b pos) (tOp r ta tb) := by
  intro pins s σ H Q I h
  exact Subscript_ (binT ha hb I h fun v u s2 x y H2 I2 rx ry q => hr a b pins s2 σ H2 x y v u Q I2 rx ry q (hs _ _))

noncomputable def rIxL (K : PySem.W.Frag) : R2 := fun x y H Q => ∃ p xs i v, x = .ref p ∧ y = .int i ∧ SqL K H p xs ∧ atI xs i = some v ∧ Q v H
noncomputable def rIxT (K : PySem.W.Frag) : R2 := fun x y H Q => ∃ p xs i v, x = .ref p ∧ y = .int i ∧ SqT K H p xs ∧ atI xs i = some v ∧ Q v H
noncomputable def rIxS : R2 := fun x y H Q => ∃ z i c, x = .str z ∧ y = .int i ∧ z.length ≤ sizeLine ∧ atI z.cps.toList i = some c ∧ Q (.str ⟨#[c]⟩) H
theorem ix_list : IxR X (rIxL X.K) := by
  intro value slice pins s σ H x y v u Q I rx ry h hs
  obtain ⟨p, xs, i, z, rfl, rfl, hq, he, q⟩ := h
  cases rx
  obtain ⟨t, rfl⟩ := ry
  obtain ⟨its, r, pl, hz⟩ := I.list hq
  obtain ⟨j, h1, h2, h3, h4, h5⟩ := atI_get he
  obtain ⟨w, ew, rw'⟩ := r.get h2
  have hl := r.length
  have hn := line63
  have fin : EP X pins σ Q w s := ⟨z, H, I, rw', q⟩
  by_cases h0 : 0 ≤ i
  · have hj : i.toNat = j := by
      rw [seqIndex_of h0 h5] at h1
      exact Option.some.inj h1
    exact item_listR pl.isList h0 (by omega) (by rw [hj]; simpa using ew) fin hs
  · have hj : (i + (its.toArray.size : Int)).toNat = j := by
      rw [seqIndex_neg (by omega) h4] at h1
      rw [List.size_toArray, ← hl]
      exact Option.some.inj h1
    exact subscriptTail_builtinR (x := w) pl.isList.typeIs slot_list_getitem.lookup
      (wpAny_getItem_list_neg (Q := fun r s' => r = w ∧ EP X pins σ Q r s') pl.isList (by omega) (by rw [List.size_toArray] <;> omega) (by omega) (by rw [hj]; simpa using ew) ⟨rfl, fin⟩) hs
theorem ix_tup : IxR X (rIxT X.K) := by
  intro value slice pins s σ H x y v u Q I rx ry h hs
  obtain ⟨p, xs, i, z, rfl, rfl, hq, he, q⟩ := h
  cases rx
  obtain ⟨t, rfl⟩ := ry
  obtain ⟨its, r, pl, hz⟩ := I.tuple hq
  obtain ⟨j, h1, h2, h3, h4, h5⟩ := atI_get he
  obtain ⟨w, ew, rw'⟩ := r.get h2
  have hl := r.length
  have hn := line63
  have fin : EP X pins σ Q w s := ⟨z, H, I, rw', q⟩
  exact subscriptTail_builtinR (x := w) pl.typeIs slot_tuple_getitem.lookup
    (getItem_tuple (j := j) (Q := fun r s' => r = w ∧ EP X pins σ Q r s') pl (by omega) (by omega) (by rw [List.size_toArray, ← hl]; exact h1) (by simpa using ew) ⟨rfl, fin⟩) hs
theorem ix_str : IxR X rIxS := by
  intro value slice pins s σ H x y v u Q I rx ry h hs
  obtain ⟨z, i, c, rfl, rfl, hz, he, q⟩ := h
  obtain ⟨t, rfl⟩ := rx
  obtain ⟨t', rfl⟩ := ry
  obtain ⟨j, h1, h2, h3, h4, h5⟩ := atI_get he
  have hl : z.cps.toList.length = z.length := by simp [Str.length]
  rw [hl] at h1 h4 h5
  have hn := line63
  exact tail_any (typeIs_str s z t) slot_str_getitem.lookup (getItem_str (c := c) (by
    have e1 : decide (i < -(2 ^ 63 : Int)) = false := decide_eq_false (by omega)
    have e2 : decide (i ≥ 2 ^ 63) = false := decide_eq_false (by omega)
    rw [e1, e2, Bool.or_false]) (by rw [h1]; simpa using h2) ⟨.str ⟨#[c]⟩, H, I.tok _, ⟨_, rfl⟩, q⟩) hs
theorem Inv.lst {pins : List (Addr × Obj)} {σ : St} {H : Hp} {s : Shared} {p : Addr} {xs : List V} (I : Inv X pins σ H s) (h : H p = some (.lst xs)) :
    ∃ (its : List Value) (n : Nat), Vals xs its ∧ s.heap.get? p = some { cls := .type "list", data := .seq its.toArray n } ∧ xs.length ≤ sizeLine := by
  obtain ⟨z, its, n, r, e⟩ := I.hok p _ h
  exact ⟨its, n, r, e, z⟩
theorem slice_bounds (lo hi : Option Int) (n : Nat) : (sliceBounds lo hi none n).1 = ((HT.sIx n 0 lo : Nat) : Int) ∧ (sliceBounds lo hi none n).2.1 = ((HT.sIx n n hi : Nat) : Int) ∧ (sliceBounds lo hi none n).2.2 = 1 := by
  refine ⟨?_, ?_, rfl⟩
  · cases lo with
    | none => simp [sliceBounds, HT.sIx]
    | some i =>
      simp only [sliceBounds, HT.sIx, Option.getD_none, show (1 : Int) > 0 by decide, if_true]
      by_cases h : i < 0
      · simp only [h, if_true] <;> omega
      · simp only [h, if_false] <;> omega
  · cases hi with
    | none => simp [sliceBounds, HT.sIx]
    | some i =>
      simp only [sliceBounds, HT.sIx, Option.getD_none, show (1 : Int) > 0 by decide, if_true]
      by_cases h : i < 0
      · simp only [h, if_true] <;> omega
      · simp only [h, if_false] <;> omega
theorem slicePick_cut (its : List Value) (lo hi : Option Int) : slicePick its.toArray lo hi none = ((its.drop (HT.sIx its.length 0 lo)).take (HT.sIx its.length its.length hi - HT.sIx its.length 0 lo)).toArray := by
  obtain ⟨h1, h2, h3⟩ := slice_bounds lo hi its.toArray.size
  unfold slicePick
  rw [h1, h2, h3]
  simp only [sliceRange_one, pick_run, List.size_toArray] <;> rfl
noncomputable def rSlL (K : PySem.W.Frag) : V → Option Int → Option Int → Hp → VK → Prop := fun x lo hi H Q => ∃ a xs, x = .ref a ∧ SqL K H a xs ∧ ∀ p, H p = none → Q (.ref p) (upd H p (.lst (cutV xs lo hi)))
theorem sl_list : SlR X (rSlL X.K) := by
  intro pins s σ H x v vl vu lo hi sl Q I rx hs pl pu h
  obtain ⟨a, xs, rfl, hx, q⟩ := h
  cases rx
  obtain ⟨its, r, ht, hz⟩ := I.list hx
  have hlen := r.length
  refine ⟨"list", _, slot_list_getitem.lookup, ht.isList.typeIs, ?_⟩
  refine wpAny_getItem_list_slice ht.isList hs pl pu .none (by simp) ?_ (by rw [List.size_toArray] <;> omega)
  rw [slicePick_cut, ← hlen]
  refine ⟨.ref s.heap.objs.size, _, I.laid (t' := s.toks) (o := .lst (cutV xs lo hi)) (fun b ob q => Heap.get?_push_of_some _ q) (Nat.le_refl _) ?_, rfl, q _ (I.hok.fresh (Nat.le_refl _))⟩
  exact ⟨Nat.le_trans (cutV_length xs lo hi) hz, _, 0, (r.drop (HT.sIx xs.length 0 lo)).take (HT.sIx xs.length xs.length hi - HT.sIx xs.length 0 lo), Heap.get?_push_size _ rfl⟩

theorem call_len_seq : CallR X (.builtin "len") (fun xs H Q => ∃ p ys, xs = [.ref p] ∧ (SqL X.K H p ys ∨ SqT X.K H p ys) ∧ Q (.int ys.length) H) := by
  intro pins s σ H xs us Q I r h
  obtain ⟨p, ys, rfl, hq, q⟩ := h
  obtain ⟨u, rfl, rx⟩ := vals1 r
  cases rx
  have hn := line63
  rcases hq with hq | hq
  · obtain ⟨its, r', pl, hz⟩ := I.list hq
    have hlen := r'.length
    exact Calls.call_len_list pl.isList (by simp only [List.size_toArray] <;> omega) ⟨.int ys.length, H, I.tok _, ⟨s.toks + 1, by rw [List.size_toArray, hlen]⟩, q⟩
  · obtain ⟨its, r', pl, hz⟩ := I.tuple hq
    have hlen := r'.length
    exact len_tuple pl (by simp only [List.size_toArray] <;> omega) ⟨.int ys.length, H, I.tok _, ⟨s.toks + 1, by rw [List.size_toArray, hlen]⟩, q⟩
theorem call_len_str : CallR X (.builtin "len") (fun xs H Q => ∃ z, xs = [.str z] ∧ z.length ≤ sizeLine ∧ Q (.int z.length) H) := by
  intro pins s σ H xs us Q I r h
  obtain ⟨z, rfl, hz, q⟩ := h
  obtain ⟨u, rfl, t, rfl⟩ := vals1 r
  have hn := line63
  exact len_str (by omega) ⟨.int z.length, H, I.tok _, ⟨_, rfl⟩, q⟩
theorem CallR.or {f : Value} {r r' : List V → Hp → VK → Prop} (h : CallR X f r) (h' : CallR X f r') : CallR X f (fun xs H Q => r xs H Q ∨ r' xs H Q) := by
  intro pins s σ H xs us Q I rs q
  rcases q with q | q
  · exact h pins s σ H xs us Q I rs q
  · exact h' pins s σ H xs us Q I rs q
theorem call_list_of : CallR X (.type "list") (fun xs H Q => ∃ p ys, xs = [.ref p] ∧ (SqL X.K H p ys ∨ SqT X.K H p ys) ∧ ∀ l, H l = none → Q (.ref l) (upd H l (.lst ys))) := by
  intro pins s σ H xs us Q I r h
  obtain ⟨p, ys, rfl, hq, q⟩ := h
  obtain ⟨u, rfl, rx⟩ := vals1 r
  cases rx
  have fin : ∀ (its : List Value), Vals ys its → ys.length ≤ sizeLine → ∀ (h' : Heap) (c' : Nat), (∀ b o', s.heap.get? b = some o' → h'.get? b = some o') →
      h'.get? s.heap.objs.size = some { cls := .type "list", dict := none, data := .seq its.toArray c', slots := #[] } → EP X pins σ Q (.ref s.heap.objs.size) { s with heap := h' } := fun its r' hz h' c' kp e =>
    ⟨.ref s.heap.objs.size, _, I.laid (t' := s.toks) kp (Nat.le_refl _) (show ObjOk X.prog X.w _ h' _ (.lst ys) from ⟨hz, its, c', r', e⟩), rfl, q _ (I.hok.fresh (Nat.le_refl _))⟩
  rcases hq with hq | hq
  · obtain ⟨its, r', pl, hz⟩ := I.list hq
    have hlen := r'.length
    obtain ⟨o, ho, hc, n, hd⟩ := pl.isList
    exact call_list_seq p (.inl rfl) ho hc hd (fun h' c' kp e => fin its r' hz h' c' kp e) (by simp only [List.size_toArray] <;> omega)
  · obtain ⟨its, r', pl, hz⟩ := I.tuple hq
    have hlen := r'.length
    obtain ⟨o, ho, hc, n, hd⟩ := pl
    exact call_list_seq p (.inr rfl) ho hc hd (fun h' c' kp e => fin its r' hz h' c' kp e) (by simp only [List.size_toArray] <;> omega)
noncomputable def tyV (K : PySem.W.Frag) (T : String) (x : V) (H : Hp) : Prop := match x with
  | .str _ => T = "str"
  | .int _ => T = "int"
  | .ref p => (T = "list" ∧ ∃ xs, SqL K H p xs) ∨ (T = "tuple" ∧ ∃ o, K.lookup p = some o ∧ o.cls = .type "tuple" ∧ o.dict = none) ∨
      (T = "dict" ∧ ((∃ kvs, H p = some (.dK kvs)) ∨ ∃ kvs, H p = some (.dT kvs))) ∨ (T = "set" ∧ ∃ S n, H p = some (.set S n))
  | _ => False
theorem tyV_is {pins : List (Addr × Obj)} {σ : St} {H : Hp} {s : Shared} {T : String} {x : V} {v : Value} (I : Inv X pins σ H s) (r : RelV x v) (ty : tyV X.K T x H) :
    s.TypeIs v T ∧ ∀ a, v = .ref a → ∃ ob, s.heap.get? a = some ob ∧ ob.dict = none := by
  cases x with
  | str z =>
    obtain ⟨t, rfl⟩ := r
    cases (show T = "str" from ty)
    exact ⟨typeIs_str s z t, fun _ e => nomatch e⟩
  | int i =>
    obtain ⟨t, rfl⟩ := r
    cases (show T = "int" from ty)
    exact ⟨typeIs_int s i t, fun _ e => nomatch e⟩
  | ref p =>
    cases r
    rcases ty with ⟨rfl, xs, hq⟩ | ⟨rfl, o, hk, hc, hd⟩ | ⟨rfl, hk⟩ | ⟨rfl, S, n, hk⟩
    · obtain ⟨its, _, pl, _⟩ := I.list hq
      refine ⟨pl.isList.typeIs, fun a e => ?_⟩
      cases e
      obtain ⟨o, n, e, c, hd, _⟩ := pl
      exact ⟨o, e, hd⟩
    · refine ⟨⟨o, I.kIn p o hk, hc⟩, fun a e => ?_⟩
      cases e
      exact ⟨o, I.kIn _ o hk, hd⟩
    · have z : ∃ o, s.heap.get? p = some o ∧ o.ExactDict := by
        rcases hk with ⟨kvs, hk⟩ | ⟨kvs, hk⟩
        · obtain ⟨_, _, _, _, o, _, _, e, ex, _⟩ := I.hok p _ hk
          exact ⟨o, e, ex⟩
        · obtain ⟨_, _, _, _, o, _, _, e, ex, _⟩ := I.hok p _ hk
          exact ⟨o, e, ex⟩
      obtain ⟨o, e, ex⟩ := z
      refine ⟨⟨o, e, ex.1⟩, fun a e2 => ?_⟩
      cases e2
      exact ⟨o, e, ex.2.1⟩
    · obtain ⟨o, _, _, _, e, ex, _⟩ := I.hok p _ hk
      refine ⟨⟨o, e, ex.1⟩, fun a e2 => ?_⟩
      cases e2
      exact ⟨o, e, ex.2.1⟩
  | _ => exact False.elim ty
noncomputable def tBM0 (K : PySem.W.Frag) (T : String) (r : V → List V → Hp → VK → Prop) (to : TE) : TE := fun σ H Q => to σ H fun x H1 => tyV K T x H1 ∧ r x [] H1 Q
noncomputable def tBM (K : PySem.W.Frag) (T : String) (r : V → List V → Hp → VK → Prop) (to : TE) (t : TA) : TE := fun σ H Q => to σ H fun x H1 => tyV K T x H1 ∧ t σ H1 fun xs H2 => r x xs H2 Q
variable {o e : Expr} {es : List Expr} {to : TE} {t : TA} {name : Str} {apos cpos : Pos} {T id : String} {r : V → List V → Hp → VK → Prop}
theorem pe_bm0 (pa : PlainAttrs T) (slot : Slot T name id) (hty : typeOf (.builtin id) = pure (.type "method_descriptor")) (hm : MtR X id r) (ho : PE X o to)
    (hbase : attributeBase o name X.env (eval o X.env) = eval o X.env := by rfl) (hline : (apos.endLine == cpos.line) = true := by rfl) : PE X (.Call (.Attribute o name apos) [] [] cpos) (tBM0 X.K T r to) := by
  intro pins s σ H Q I h
  refine wpAny_Call_method0_late hbase hline (thn (ho pins s σ H _ I h) fun v s1 ⟨x, H1, I1, r1, ty, q1⟩ => ?_)
  obtain ⟨h1, h2⟩ := tyV_is I1 r1 ty
  exact ⟨T, id, pa, slot, hty, h1, h2, Calls.callWith_builtin rfl (PySem.evalArgs_none (hm pins s1 σ H1 x [] v [] Q I1 r1 .nil q1))⟩
theorem pe_bm (pa : PlainAttrs T) (slot : Slot T name id) (hty : typeOf (.builtin id) = pure (.type "method_descriptor")) (hm : MtR X id r) (ho : PE X o to) (ha : PA X (e :: es) t)
    (hbase : attributeBase o name X.env (eval o X.env) = eval o X.env := by rfl)
    (hfew : ((backTo cpos (starEach (e :: es) X.env)).all (fun x => !x.1) && (backToKw cpos (keywordEach [] X.env)).all (fun x => x.1.isSome)
      && decide ((e :: es).length + ([] : List Keyword).length + (if ([] : List Keyword).isEmpty then 0 else 1) < 30)) = true := by rfl)
    (hline : (apos.endLine == cpos.line) = true := by rfl) (hs : starEach (e :: es) X.env = (false, eval e X.env) :: starEach es X.env := by rfl) (hplain : (backTo cpos (starEach es X.env)).any (·.1) = false := by rfl) :
    PE X (.Call (.Attribute o name apos) (e :: es) [] cpos) (tBM X.K T r to t) := by
  intro pins s σ H Q I h
  refine wpAny_Call_method_late hbase hfew hline rfl (thn (ho pins s σ H _ I h) fun v s1 ⟨x, H1, I1, r1, ty, q1⟩ => ?_)
  obtain ⟨h1, h2⟩ := tyV_is I1 r1 ty
  refine ⟨T, id, pa, slot, hty, h1, h2, ?_⟩
  have hA := ha cpos pins s1 σ H1 _ I1 q1
  rw [hs] at hA ⊢
  refine Calls.callWith_builtin (by show (false || (backTo cpos (starEach es X.env)).any (·.1)) = false; rw [hplain] <;> rfl) (Calls.evalArgs_plain ?_)
  exact thn hA fun us s2 ⟨vs, H2, I2, r2, q2⟩ => hm pins s2 σ H2 x vs v us Q I2 r1 r2 q2
/- xs.append(e), list.index on a module's tuple .. are MtR facts of 06m -/
end
end L2

namespace L2
open PySem PySem.Spec PyProof.Rows

noncomputable def MtM (X : Cx) (id : String) (r : V → List V → Hp → VK → Prop) : Prop :=
  ∀ (pins : List (Addr × Obj)) (s : Shared) (σ : St) (H : Hp) (x : V) (xs : List V) (v : Value) (us : List Value) (Q : VK), Inv X pins σ H s → RelV x v → Vals xs us → r x xs H Q →
    wpAny (model X.prog X.w) X.A (call (.builtin id) (v :: us)) (EP X pins σ Q) X.xe s

theorem Vals.one : ∀ {x : V} {us : List Value}, Vals [x] us → ∃ u, us = [u] ∧ RelV x u
  | _, _, .cons r .nil => ⟨_, rfl, r⟩
theorem Vals.two : ∀ {x y : V} {us : List Value}, Vals [x, y] us → ∃ u v, us = [u, v] ∧ RelV x u ∧ RelV y v
  | _, _, _, .cons r (.cons q .nil) => ⟨_, _, rfl, r, q⟩
theorem Vals.zero : ∀ {us : List Value}, Vals [] us → us = []
  | _, .nil => rfl
theorem Vals.reverse {xs : List V} {us : List Value} (h : Vals xs us) : Vals xs.reverse us.reverse := by
  induction h with
  | nil => exact .nil
  | cons r t ih => rw [List.reverse_cons, List.reverse_cons]; exact Vals.append ih (.cons r .nil)
theorem Vals.rep {xs : List V} {us : List Value} (h : Vals xs us) : ∀ k : Nat, Vals (List.replicate k xs).flatten (List.replicate k us).flatten
  | 0 => .nil
  | k + 1 => by
    rw [List.replicate_succ, List.replicate_succ, List.flatten_cons, List.flatten_cons]
    exact Vals.append h (Vals.rep h k)
section
variable {X : Cx} {pins : List (Addr × Obj)} {σ : St} {H : Hp} {s : Shared} {l b : Addr} {xs ys zs : List V}

theorem Inv.lset {its its' : List Value} {n : Nat} {f : Array Value → Array Value} {t' : Nat} (I : Inv X pins σ H s) (hH : H l = some (.lst xs))
    (e : s.heap.get? l = some { cls := .type "list", data := .seq its.toArray n }) (hf : f its.toArray = its'.toArray) (hv : Vals ys its') (hz : ys.length ≤ sizeLine) :
    Inv X pins σ (upd H l (.lst ys)) { s with heap := s.heap.update l (Obj.mapSeq f), toks := t' } := by
  have q := PySem.IsL.update e f
  rw [hf] at q
  refine I.write (x := l) (e := l) (by rw [hH]; exact trivial) (.inl rfl) (fun b' u hb hu => (Heap.get?_update_other s.heap (Obj.mapSeq f) (Ne.symm hb)).trans hu) ⟨_, q⟩ ?_
  exact ⟨hz, its', _, hv, q⟩
theorem Inv.lnew {its : List Value} {t' : Nat} (I : Inv X pins σ H s) (hv : Vals ys its) (hz : ys.length ≤ sizeLine) :
    Inv X pins σ (upd H s.heap.objs.size (.lst ys)) { s with heap := s.heap.push { cls := .type "list", data := .seq its.toArray }, toks := t' } :=
  I.laid (fun _ _ q => Heap.get?_push_of_some _ q) (Nat.le_refl _) ⟨hz, its, 0, hv, Heap.get?_push_size _ rfl⟩
theorem Inv.fresh (I : Inv X pins σ H s) : H s.heap.objs.size = none := I.hok.fresh (Nat.le_refl _)
theorem Inv.lstM (I : Inv X pins σ H s) (hH : H l = some (.lst xs)) : xs.length ≤ sizeLine ∧ ∃ (its : List Value) (n : Nat), Vals xs its ∧ xs.length = its.length ∧ s.heap.get? l = some { cls := .type "list", data := .seq its.toArray n } := by
  obtain ⟨z, its, n, r, e⟩ := I.hok l _ hH
  exact ⟨z, its, n, r, r.length, e⟩

end

section
variable {X : Cx}

noncomputable def rAppend : V → List V → Hp → VK → Prop := fun x vs H Q => ∃ l xs y, x = .ref l ∧ vs = [y] ∧ H l = some (.lst xs) ∧ xs.length < sizeLine ∧ Q .non (upd H l (.lst (xs ++ [y])))
theorem mt_append : MtM X "list.append" rAppend := by
  intro pins s σ H x vs v us Q I rx rv h
  obtain ⟨l, xs, y, rfl, rfl, hH, hz, q⟩ := h
  cases rx
  obtain ⟨u, rfl, ru⟩ := rv.one
  obtain ⟨z, its, n, r, hl, e⟩ := I.lstM hH
  refine call_meets F.slot_list_append ⟨_, e, rfl⟩ F.entry_list_append (F.args_list_append_2 _ _) (PySem.list_append l its.toArray n u (by rw [List.size_toArray]; omega)) ⟨e, ?_⟩
  refine ⟨.non, _, I.lset (its' := its ++ [u]) hH e (by simp) (r.append (.cons ru .nil)) ?_, rfl, q⟩
  rw [List.length_append, List.length_singleton]
  omega

noncomputable def rCat : R2 := fun x y H Q => ∃ l b xs zs, x = .ref l ∧ y = .ref b ∧ H l = some (.lst xs) ∧ H b = some (.lst zs) ∧ xs.length + zs.length ≤ sizeLine ∧ ∀ p, H p = none → Q (.ref p) (upd H p (.lst (xs ++ zs)))
theorem op_cat : OpR X (binaryOp .Add) rCat := by
  intro pins s σ H x y v u Q I rx ry h
  obtain ⟨l, b, xs, zs, rfl, rfl, hH, hB, hz, q⟩ := h
  cases rx
  cases ry
  obtain ⟨z, its, n, r, hl, e⟩ := I.lstM hH
  obtain ⟨z2, its2, n2, r2, hl2, e2⟩ := I.lstM hB
  refine PySem.P.add_list e e2 ?_ (by rw [List.size_toArray, List.size_toArray]; omega)
  have ea : its.toArray ++ its2.toArray = (its ++ its2).toArray := by simp
  rw [ea]
  exact ⟨.ref _, _, I.lnew (t' := s.toks) (r.append r2) (by rw [List.length_append]; omega), rfl, q _ I.fresh⟩
end

section
variable {prog : Program} {w : World} {A : Around} {E : Value → Shared → Prop} {s : Shared}
end

section
variable {X : Cx}
end
end L2

namespace Att
open PySem PySem.W PySem.Calls PyProof.Rows

theorem ints_of_wellAll {P : Params} {h : Heap} : ∀ (ns : List Int) (vs : List Value), WellAll P h vs (ns.map WData.int) → IntsAre vs ns := by
  intro ns
  induction ns with
  | nil =>
    intro vs w
    rw [List.map_nil] at w
    cases w
    exact .nil
  | cons n ns ih =>
    intro vs w
    rw [List.map_cons] at w
    cases w with
    | cons a b =>
      cases a
      exact .cons _ _ (ih _ b)

theorem script_of {l : OpenLaw} {n : Nat} (hn : l.most = some n) {P : Params} {h : Heap} {args : List WData} {vals : List Value}
    (hpre : l.row.toRowW.claim.pre args = true) (hwl : WellAll P h vals args) :
    ∃ a vs ns, vals = [Value.ref a] ∧ args = [WData.list (ns.map WData.int)] ∧ h.get? a = some { cls := .type "list", data := .seq vs.toArray } ∧ IntsAre vs ns ∧ ns.length ≤ n := by
  have hsh : WShape.hasAll [] args [.list .int] = true := (pre_splitW hpre).1
  have hc : l.pre.holds [] { args := args } = true := (pre_splitW hpre).2
  obtain ⟨d, r, rfl, h1, h2⟩ := hasAllW_cons hsh
  obtain rfl := hasAllW_nil h2
  obtain ⟨xs, rfl, h3⟩ := hasW_list h1
  obtain ⟨ns, rfl⟩ := items_int h3
  have hlen : ns.length ≤ n := by
    unfold OpenLaw.pre at hc
    have h4 : (WTm.not (.lt (.lit (.int (n : Int))) (.len (.arg 0)))).holds [] { args := [.list (ns.map .int)] } = true := by
      have h4 := (holds_andW hc).1
      rw [hn] at h4
      exact h4
    have h5 := condW_of h4 (w_not (w_lt w_lit (w_len_list (w_arg rfl))))
    rw [List.length_map] at h5
    refine Nat.le_of_not_lt fun q => ?_
    have q' : (n : Int) < ((ns.length : Nat) : Int) := by omega
    first
      | (rw [decide_eq_true q'] at h5; exact absurd h5 (by decide))
      | (simp at h5; omega)
  cases hwl with
  | cons w1 w2 =>
    cases w2
    cases w1 with
    | list ho hall => exact ⟨_, _, ns, rfl, rfl, ho, ints_of_wellAll ns _ hall, hlen⟩

theorem post_true (l : OpenLaw) (args : List WData) : l.row.toRowW.claim.post args (.bool true) args = true :=
  postW_of (r := l.row.toRowW) (X := (true == true))
    (show WShape.has [] (.bool true) .bool = true by first | rfl | decide | simp [WShape.has, WShape.arms, WShape.armsAll])
    (show (WTm.eq .res (.lit (.bool true))).value [] { args := args, res := some (.bool true), after := args } = some (.bool (true == true)) from w_eq_bool (w_res rfl) w_lit) rfl

theorem attach_call {l : OpenLaw} {n : Nat} {q : Program} {loose : List Str} {XP : (Str → Option Value) → Heap → Prop} {YP : World → Heap → Prop} {d : DefRec}
    (hn : l.most = some n) (hdf : d.params.defaults = [])
    (call : ∀ (w : World) (s₀ s₁ : Shared) (mg mb : Str → Option Value) (fa : Addr) (o : Obj) (pm cd doc : Value) (a : Addr) (vs : List Value) (ns : List Int),
      Ground q loose [] XP w s₀ mg mb s₁.heap → YP w s₁.heap →
      s₁.heap.get? fa = some o → o.data = .func (docDef d.name d.params d.body d.scope pm cd doc) → s₁.heap.CodeRec cd d.name → mg d.name = some (.ref fa) →
      s₁.heap.get? a = some { cls := .type "list", data := .seq vs.toArray } → IntsAre vs ns → ns.length ≤ n → s₁.gens = #[] →
      codeAny (model l.prog w) callerA (.call (.ref fa) ⟨[.ref a], []⟩) (fun r s' => r = .ok (.ret (.bool true)) ∧ OldK s₁.heap s'.heap ∧ s'.os = s₁.os ∧ AllBare s'.gens) s₁) :
    WalkO q loose XP YP l.row.toRowW d [] (fun f vs => PySem.call f vs) := by
  intro w s₀ s₁ mg mb G Y fa o pm cd doc dV kV ho hd hcd hD hmg hg args vals as hpre hlay hrd hwl hlo
  obtain rfl : dV = .none := Dflts.none hD hdf
  obtain rfl : kV = .none := Dflts.noKw hD
  obtain ⟨a, vs, ns, rfl, rfl, hobj, hints, hlen⟩ := script_of hn hpre hwl
  refine enter_call (codeAny_mono (call w s₀ s₁ mg mb fa o pm cd doc a vs ns G Y ho (fd_plain hd) hcd hmg hobj hints hlen hg) fun r s' hq => ?_)
  obtain ⟨rfl, h2, h3, h4⟩ := hq
  exact ⟨.inl ⟨.bool true, .bool true, [], rfl, fun _ => rfl, .bool true, post_true l _, fun _ => ⟨List.Pairwise.nil, fun _ hm => (nomatch hm)⟩⟩, h2, h3, h4⟩

section
variable {prog : Program} {w : World} {A : Around} {E : Value → Shared → Prop} {s : Shared} {K : Frag}

end
end Att

namespace L2
open PySem PySem.Spec PyProof.Rows

theorem vals_ints : ∀ {vs : List Value} {ns : List Int}, IntsAre vs ns → Vals (ns.map V.int) vs
  | _, _, .nil => .nil
  | _, _, .cons n t h => .cons ⟨t, rfl⟩ (vals_ints h)

noncomputable def Only (H : Hp) : Prop := ∀ b, H b = none ∨ ∃ o xs, H b = some (.frz o (.lst xs))

theorem law_call {P : Program} {w : World} {K : PySem.W.Frag} {mg mb : Str → Option Value} {CX : CXT} {k : Nat} {fa a : Addr} {fd : FuncData} {x : Str} {sp : Sp} {s₁ : Shared} {vs : List Value} {ns : List Int}
    (KX : K.In s₁.heap) (hns : s₁.heap.Ns mainGlobals mg) (hb : s₁.heap.Ns builtinsNs mb) (hbb : ∀ x : Str, x ≠ "__name__" → mb x = bootBuiltins x) (hlim : s₁.heap.NoLimit) (hg : s₁.gens = #[])
    (ha : s₁.heap.get? a = some { cls := .type "list", data := .seq vs.toArray }) (hi : IntsAre vs ns) (hl : ns.length ≤ sizeLine) (hr : Room k callerA)
    (F : ∀ base : Heap, K.In base → base.Ns mainGlobals mg → FnOk P w K mg base CX k fa fd [x] sp) (hbind : ∀ (s : Shared) (u : Value), BindsTo s fd ⟨[u], []⟩ [(x, u)])
    (hsp : ∀ H : Hp, Only H → SqL K H a (ns.map V.int) → sp [.ref a] H (fun v _ => v = .bl true) fun _ _ _ => False)
    (hCX : ∀ H e s', CX [] H s₁ (fun _ _ _ => False) e s' → False) :
    codeAny (model P w) callerA (.call (.ref fa) ⟨[.ref a], []⟩) (fun r s' => r = .ok (.ret (.bool true)) ∧ OldK s₁.heap s'.heap ∧ s'.os = s₁.os ∧ AllBare s'.gens) s₁ := by
  have rv := vals_ints hi
  have lenV := hi.length
  -- from an abstract heap in which nothing but the script may be tracked
  have core : ∀ H : Hp, Only H → SqL K H a (ns.map V.int) → HOk P w H s₁.heap → (∀ b, H b ≠ none → b = a) → (H a ≠ none → K.lookup a = none) →
      codeAny (model P w) callerA (.call (.ref fa) ⟨[.ref a], []⟩) (fun r s' => r = .ok (.ret (.bool true)) ∧ OldK s₁.heap s'.heap ∧ s'.os = s₁.os ∧ AllBare s'.gens) s₁ := by
    intro H hO hS hok hA hK
    have base_of : ∀ {b : Addr} {o : Obj}, s₁.heap.get? b = some o → H b = none → (hidT s₁.heap H).get? b = some o := fun e n => hidT_get e n
    have noA : ∀ {b : Addr} {o : Obj} {es : Array DictEntry} {ep : Nat}, s₁.heap.get? b = some o → o.data = .dict es ep → H b = none := fun {b o es ep} e d => by
      cases q : H b with
      | none => rfl
      | some u =>
        have e' : b = a := hA b (by rw [q]; simp)
        subst e'
        rw [ha] at e; cases e
        have d' : Data.seq vs.toArray _ = Data.dict es ep := d
        cases d'
    have nsK : ∀ {b : Addr} {m : Str → Option Value}, s₁.heap.Ns b m → (hidT s₁.heap H).Ns b m := fun {b m} ⟨o, es, ep, e, d, r⟩ => ⟨o, es, ep, base_of e (noA e d), d, r⟩
    have hKb : K.In (hidT s₁.heap H) := fun b o e => base_of (KX b o e) (by
      cases q : H b with
      | none => rfl
      | some u =>
        have e' : b = a := hA b (by rw [q]; simp)
        subst e'
        rw [hK (by rw [q]; simp)] at e; cases e)
    have hM : Mod K mg (hidT s₁.heap H) := ⟨hKb, nsK hns, ⟨mb, nsK hb, hbb⟩, let ⟨mc, h1, h2⟩ := hlim; ⟨mc, nsK h1, h2⟩⟩
    have e0 : Env0 P w K mg (hidT s₁.heap H) callerA [] s₁ H := ⟨rfl, hM, fun b o e => of_hidT e, Nat.le_of_eq (hidT_size _ _), trivial, fun b hb => absurd (show b ∈ ([] : List Addr) from hb) (by simp), hok, .of_eq hg⟩
    refine codeAny_mono ((F _ hKb (nsK hns)).run callerA [] s₁ H ⟨[.ref a], []⟩ [.ref a] [.ref a] _ _ hr e0 (hbind s₁ (.ref a)) (.cons rfl .nil) (hsp H hO hS)) fun r s' h => ?_
    cases r with
    | error e => exact (hCX H e s' h).elim
    | ok fl =>
      cases fl with
      | next => exact False.elim h
      | brk => exact False.elim h
      | cont => exact False.elim h
      | ret u =>
        obtain ⟨v, H', os, bare, un, hok', r', q⟩ := h
        have q' : v = .bl true := q
        subst q'
        obtain rfl : u = Value.bool true := r'
        refine ⟨rfl, OldK.of_keep fun b o e => ?_, os, bare⟩
        cases q : H b with
        | none => exact un.keep b o e q (by intro z; exact absurd (show b ∈ ([] : List Addr) from z) (by simp)) (by simp)
        | some u =>
          rcases hO b with z | ⟨ob, xs, z⟩
          · rw [q] at z; cases z
          · have z2 := un.frzs b ob _ z
            obtain ⟨e1, _⟩ := hok b _ z
            obtain ⟨e2, _⟩ := hok' b _ z2
            rw [e] at e1; cases e1
            exact e2
  cases hk : K.lookup a with
  | some o =>
    -- the script is one of the module's own objects
    have e := KX a o hk
    rw [ha] at e
    cases e
    refine core (fun _ => none) (fun _ => .inl rfl) (.inr ⟨_, vs.toArray, _, hk, rfl, rfl, rfl, by rw [List.size_toArray, lenV]; exact hl, by simpa using rv⟩) (fun b u z => by have z' : (none : Option HO) = some u := z; cases z') (fun b z => absurd rfl z) fun z => absurd rfl z
  | none =>
    refine core (fun b => if b = a then some (.frz { cls := .type "list", data := .seq vs.toArray } (.lst (ns.map V.int))) else none) (fun b => ?_) (.inl (.inr ⟨{ cls := .type "list", data := .seq vs.toArray }, if_pos rfl⟩)) (fun b u z => ?_) (fun b z => ?_) fun _ => hk
    · by_cases hb : b = a
      · exact .inr ⟨_, _, if_pos hb⟩
      · exact .inl (if_neg hb)
    · by_cases hb : b = a
      · have z' := (if_pos hb).symm.trans z
        cases z'
        subst hb
        exact ⟨ha, by rw [List.length_map]; exact hl, vs, _, rv, ha⟩
      · have z' := (if_neg hb).symm.trans z
        cases z'
    · by_cases hb : b = a
      · exact hb
      · exact absurd (if_neg hb) z
end L2

namespace L2
open PySem PySem.Spec PyProof.Rows

noncomputable abbrev KOf {K : PySem.W.Frag} {h : Heap} (_ : K.In h) : PySem.W.Frag := K

theorem walk_of {l : PySem.W.OpenLaw} {n k : Nat} {q : Program} {loose : List Str} {XP : (Str → Option Value) → Heap → Prop} {YP : World → Heap → Prop} {d : DefRec} {K : Params → PySem.W.Frag} {CX : World → CXT} {sp : World → Sp} {x : Str}
    (hn : l.most = some n) (hn2 : n ≤ sizeLine) (hdf : d.params.defaults = []) (hr : Room k callerA)
    (hY : ∀ (w : World) (h : Heap), YP w h → (K w.params).In h)
    (F : ∀ (w : World) (mg : Str → Option Value) (fa : Addr) (h : Heap), (K w.params).In h → h.Ns mainGlobals mg → mg d.name = some (.ref fa) →
      ∃ fd : FuncData, (∀ (s : Shared) (u : Value), BindsTo s fd ⟨[u], []⟩ [(x, u)]) ∧
        ∀ base : Heap, (K w.params).In base → base.Ns mainGlobals mg → FnOk l.prog w (K w.params) mg base (CX w) k fa fd [x] (sp w))
    (hsp : ∀ (w : World) (H : Hp) (a : Addr) (ns : List Int), ns.length ≤ n → Only H → SqL (K w.params) H a (ns.map V.int) → sp w [.ref a] H (fun v _ => v = .bl true) fun _ _ _ => False)
    (hCX : ∀ (w : World) (H : Hp) (s : Shared) (e : Value) (s' : Shared), CX w [] H s (fun _ _ _ => False) e s' → False) :
    PySem.W.WalkO q loose XP YP l.row.toRowW d [] (fun f vs => PySem.call f vs) := by
  refine Att.attach_call hn hdf fun w s₀ s₁ mg mb fa o pm cd doc a vs ns G Y ho hd hcd hmg hobj hints hlen hg => ?_
  have KX := hY w _ Y
  obtain ⟨fd, hb, hF⟩ := F w mg fa _ KX G.T.g hmg
  exact law_call KX G.T.g G.T.b G.T.builtins G.T.nolimit hg hobj hints (Nat.le_trans hlen hn2) hr hF hb (fun H hO hS => hsp w H a ns hlen hO hS) fun H e s' => hCX w H s₁ e s'
end L2

/- THE LAST THEOREM (shape; LID, My.* are yours):
   My.Adr: a structure of the addresses that your layer names (classes, functions); My.Txt K t: a structure (Prop) of the equations over K;
   My.txt_mk : {K} {implicit addresses ..} (e1 : nsIn K mainGlobals "law" = some (some (.ref f))) (e2 : K.lookup f = some ⟨oc, od, .func (fnOf "law" "law" params body scope dV kV doc pm an cdv ct), sl⟩) (e3 : codeIn K cdv "law" = true) .. : ∃ t, My.Txt K t

set_option maxRecDepth 100000 in
set_option maxHeartbeats 0 in
theorem PySem.Challenge.cw_LID_holds : PySem.Challenge.rw_LID.Holds := by
  w_on; o_law; k_head; (case hw => w_witness2)
  k_fill
  refine L2.walk_of (l := PySem.Challenge.rw_LID) (n := 63) (k := 40) (x := "script") (CX := fun w => ..) (sp := fun _ => My.sp_law) rfl (by decide) rfl ⟨rfl, by decide, by decide⟩ (fun w h Y => PySem.W.kIn_of Y) ?F ?S ?C
  case F =>
    intro w mg fa h KX G hmg
    have T : ∃ t, My.Txt (L2.KOf KX) t := by
      dsimp only [L2.KOf]                          -- K must stand as «<heap const> w.params» for k_is
      refine' My.txt_mk ?e1 ?e2 ?e3 ..
      (case e1 => PySem.W.k_is)                    -- in the order: a name -> its address -> its object -> its parts
      (case e2 => PySem.W.k_is)
      ..
    obtain ⟨t, T⟩ := T
    have e0 := hmg.symm.trans (PySem.W.mg_of KX G T.law)
    cases e0                                       -- fa is the law's own address
    exact ⟨_, fun s u => .of_eq rfl, fun base kb nb => My.law_fn T kb nb⟩     -- if «.of_eq rfl» comes too early: refine' ⟨_, ?b, fun base kb nb => My.law_fn T kb nb⟩; exact fun s u => .of_eq rfl
  case S => exact fun w H a ns hl hO hS => ..
  case C => exact ..
(the tactic k_is has no namespace: write k_is) -/

namespace L2
open PySem PySem.Spec PyProof.Rows

noncomputable def defArgs (s : Stmt) : Arguments := match s with
  | .FunctionDef _ a _ _ _ _ _ _ _ _ => a
  | _ => { posonlyargs := [], args := [], vararg := none, kwonlyargs := [], kw_defaults := [], kwarg := none, defaults := [] }
noncomputable def defBody (s : Stmt) : List Stmt := match s with
  | .FunctionDef _ _ b _ _ _ _ _ _ _ => b
  | _ => []
noncomputable def defScope (s : Stmt) : Scope := match s with
  | .FunctionDef _ _ _ _ _ _ sc _ _ _ => sc
  | _ => { kind := .function, names := [], isGenerator := false, isCoroutine := false }

noncomputable abbrev CX0 : CXT := fun _ _ _ _ _ _ => False
noncomputable abbrev E0 : XK := fun _ _ _ => False
theorem pass0 {X : Cx} : Passes CX0 X E0 := fun _ _ _ _ _ _ _ h => h.elim

structure Fun (K : PySem.W.Frag) (x qual : Str) (st : Stmt) (f : Addr) (fd : FuncData) : Prop where
  ex : ∃ (oc : Value) (od : Option Addr) (kV doc pm : Value) (an : Option Addr) (cdv ct : Value) (osl : Array (Option Value)),
    fd = PySem.W.fnOf x qual (defArgs st) (defBody st) (defScope st) .none kV doc pm an cdv ct ∧ K.lookup f = some ⟨oc, od, .func fd, osl⟩ ∧ PySem.W.codeIn K cdv qual = true
  kp : PySem.W.keepIn K (.ref f) = true
section
variable {P : Program} {w : World} {K : PySem.W.Frag} {mg : Str → Option Value} {base : Heap}
theorem Fun.ok {x qual : Str} {st : Stmt} {f : Addr} {fd : FuncData} {N ps : List Str} {k : Nat} {sp : Sp} (F : Fun K x qual st f fd) (S : FnScope N ps (defScope st)) (len : ∀ vs H Q E, sp vs H Q E → vs.length = ps.length)
    (hbody : ∀ (cdv : Value) (A : Around) (outer : List Env) (s : Shared) (H : Hp) (vs : List V) (Q : VK) (E : XK), Room k (A.deeper (envOfC qual (defScope st) s.heap.objs.size f cdv)) → sp vs H Q E →
      ∃ t, PSs (cxOf CX0 P w K mg base N qual (defScope st) f cdv A outer s H E).nox (defBody st) t ∧ t { nx := fun _ H' => Q .non H', rt := Q } (start N vs) H) : FnOk P w K mg base CX0 (k + 1) f fd ps sp := by
  obtain ⟨oc, od, kV, doc, pm, an, cdv, ct, osl, rfl, lk, hcd⟩ := F.ex
  refine fn_of lk hcd S len fun A outer s H vs Q E hr hsp => ?_
  obtain ⟨t, h, q⟩ := hbody cdv A outer s H vs Q E hr hsp
  exact ⟨t, h.nox, q⟩
theorem Fun.binds {x qual : Str} {st : Stmt} {f : Addr} {fd : FuncData} {ps : List Str} (F : Fun K x qual st f fd)
    (h : ∀ (kV doc pm : Value) (an : Option Addr) (cdv ct : Value) (us : List Value), us.length = ps.length → bindArgs (PySem.W.fnOf x qual (defArgs st) (defBody st) (defScope st) .none kV doc pm an cdv ct) ⟨us, []⟩ = pure (ps.zip us)) : Binds K fd ps [] := by
  obtain ⟨oc, od, kV, doc, pm, an, cdv, ct, osl, rfl, lk, hcd⟩ := F.ex
  exact .all (h kV doc pm an cdv ct)
theorem fun_mk {x qual : Str} {st : Stmt} {f : Addr} {oc : Value} {od an : Option Addr} {osl : Array (Option Value)} {kV doc pm cdv ct : Value} (l : K.lookup f = some ⟨oc, od, .func (PySem.W.fnOf x qual (defArgs st) (defBody st) (defScope st) .none kV doc pm an cdv ct), osl⟩)
    (c : PySem.W.codeIn K cdv qual = true) (k : PySem.W.keepIn K (.ref f) = true) : Fun K x qual st f (PySem.W.fnOf x qual (defArgs st) (defBody st) (defScope st) .none kV doc pm an cdv ct) := ⟨⟨oc, od, kV, doc, pm, an, cdv, ct, osl, rfl, l, c⟩, k⟩
end
theorem small1000 {n : Nat} (h : n ≤ 1000) : n < sizeLine := Nat.lt_of_le_of_lt h (by decide)

section
variable {X : Cx}
theorem pv (i : Nat) {x : Str} {pos : Pos} (hN : X.N[i]? = some x := by rfl) (hv : Vis X.env.scope x := by first | exact Or.inl rfl | exact Or.inr (Or.inl rfl) | exact Or.inr (Or.inr rfl)) (hd : (x == ("__debug__" : Str)) = false := by decide)
    (hcd : (x == ("__classdict__" : Str)) = false := by decide) : PE X (.Name x pos) (tVar i) := pe_var hN hv hd hcd
end

noncomputable def Same (H H' : Hp) : Prop := ∀ b o, H b = some o → H' b = some o
theorem Same.refl (H : Hp) : Same H H := fun _ _ h => h
theorem Same.trans {H H1 H2 : Hp} (a : Same H H1) (b : Same H1 H2) : Same H H2 := fun c o h => b c o (a c o h)
theorem Same.free {H H' : Hp} (e : Same H H') {l : Addr} (h : H' l = Option.none) : H l = Option.none := by
  cases q : H l with
  | none => rfl
  | some o =>
    rw [e l o q] at h
    cases h
theorem Same.seq {K : PySem.W.Frag} {H H' : Hp} {a : Addr} {xs : List V} (e : Same H H') (h : SqL K H a xs) : SqL K H' a xs := by
  rcases h with (h | ⟨o, h⟩) | h
  · exact .inl (.inl (e _ _ h))
  · exact .inl (.inr ⟨o, e _ _ h⟩)
  · exact .inr h

end L2

set_option Elab.async false
set_option linter.all false
set_option maxRecDepth 100000
namespace TM
open PySem PySem.Spec PyProof.Rows L2

inductive T where
  | non | bl (b : Bool) | int (i : Int) | str (x : Str) | ty (n : String) | tup (ts : List T) | lst (ts : List T) | scr (ts : List T) | dic | obj (C : Addr) (ns : List Str) (ts : List T) | ptr (a : Addr)

mutual
noncomputable def Rep (K : PySem.W.Frag) (F : Hp) : T → V → Prop
  | .non, v => v = .non
  | .bl b, v => v = .bl b
  | .int i, v => v = .int i
  | .str x, v => v = .str x
  | .ty n, v => v = .ty n
  | .tup ts, v => ∃ a xs, v = .ref a ∧ SqT K F a xs ∧ Reps K F ts xs
  | .lst ts, v => ∃ a xs, v = .ref a ∧ F a = some (.lst xs) ∧ Reps K F ts xs
  | .scr ts, v => ∃ a xs, v = .ref a ∧ SqL K F a xs ∧ Reps K F ts xs
  | .dic, v => ∃ a, v = .ref a ∧ F a = some (.dK [])
  | .obj C ns ts, v => ∃ a dx vs, v = .ref a ∧ F a = some (.ins C dx (ns.zip vs)) ∧ vs.length = ns.length ∧ Reps K F ts vs
  | .ptr a, v => v = .ref a
noncomputable def Reps (K : PySem.W.Frag) (F : Hp) : List T → List V → Prop
  | [], xs => xs = []
  | t :: ts, xs => ∃ v r, xs = v :: r ∧ Rep K F t v ∧ Reps K F ts r
end

theorem same_sqT {K : PySem.W.Frag} {H H' : Hp} {a : Addr} {xs : List V} (e : Same H H') (h : SqT K H a xs) : SqT K H' a xs := by
  rcases h with (h | ⟨o, h⟩) | h
  · exact .inl (.inl (e _ _ h))
  · exact .inl (.inr ⟨o, e _ _ h⟩)
  · exact .inr h

mutual
theorem Rep.mono {K : PySem.W.Frag} {F F' : Hp} (e : Same F F') : ∀ {t : T} {v : V}, Rep K F t v → Rep K F' t v
  | .non, _, h => h
  | .bl _, _, h => h
  | .int _, _, h => h
  | .str _, _, h => h
  | .ty _, _, h => h
  | .tup ts, _, h => by
    obtain ⟨a, xs, h1, h2, h3⟩ := h
    exact ⟨a, xs, h1, same_sqT e h2, Reps.mono e h3⟩
  | .lst ts, _, h => by
    obtain ⟨a, xs, h1, h2, h3⟩ := h
    exact ⟨a, xs, h1, e _ _ h2, Reps.mono e h3⟩
  | .scr ts, _, h => by
    obtain ⟨a, xs, h1, h2, h3⟩ := h
    exact ⟨a, xs, h1, e.seq h2, Reps.mono e h3⟩
  | .dic, _, h => by
    obtain ⟨a, h1, h2⟩ := h
    exact ⟨a, h1, e _ _ h2⟩
  | .obj C ns ts, _, h => by
    obtain ⟨a, dx, vs, h1, h2, h3, h4⟩ := h
    exact ⟨a, dx, vs, h1, e _ _ h2, h3, Reps.mono e h4⟩
  | .ptr _, _, h => h
theorem Reps.mono {K : PySem.W.Frag} {F F' : Hp} (e : Same F F') : ∀ {ts : List T} {vs : List V}, Reps K F ts vs → Reps K F' ts vs
  | [], _, h => h
  | t :: ts, _, h => by
    obtain ⟨v, r, h1, h2, h3⟩ := h
    exact ⟨v, r, h1, Rep.mono e h2, Reps.mono e h3⟩
end

section
variable {K : PySem.W.Frag} {F : Hp}
theorem Reps.length : ∀ {ts : List T} {vs : List V}, Reps K F ts vs → vs.length = ts.length
  | [], _, h => by cases h; rfl
  | t :: ts, _, h => by
    obtain ⟨v, r, rfl, h2, h3⟩ := h
    simp [Reps.length h3]
theorem Reps.get : ∀ {ts : List T} {vs : List V} {i : Nat} {t : T}, Reps K F ts vs → ts[i]? = some t → ∃ v, vs[i]? = some v ∧ Rep K F t v
  | [], _, _, _, h, e => by simp at e
  | t :: ts, _, 0, _, h, e => by
    obtain ⟨v, r, rfl, h2, h3⟩ := h
    simp at e; subst e
    exact ⟨v, rfl, h2⟩
  | t :: ts, _, i + 1, u, h, e => by
    obtain ⟨v, r, rfl, h2, h3⟩ := h
    obtain ⟨w, h4, h5⟩ := Reps.get (i := i) (t := u) h3 (by simpa using e)
    exact ⟨w, by simpa using h4, h5⟩
theorem Reps.append : ∀ {ts us : List T} {vs ws : List V}, Reps K F ts vs → Reps K F us ws → Reps K F (ts ++ us) (vs ++ ws)
  | [], _, _, _, h, h' => by cases h; exact h'
  | t :: ts, _, _, _, h, h' => by
    obtain ⟨v, r, rfl, h2, h3⟩ := h
    exact ⟨v, r ++ _, rfl, h2, Reps.append h3 h'⟩
theorem Reps.one {t : T} {v : V} (h : Rep K F t v) : Reps K F [t] [v] := ⟨v, [], rfl, h, rfl⟩
theorem Reps.take : ∀ {ts : List T} {vs : List V} (n : Nat), Reps K F ts vs → Reps K F (ts.take n) (vs.take n)
  | _, _, 0, _ => rfl
  | [], _, n + 1, h => by cases h; rfl
  | t :: ts, _, n + 1, h => by
    obtain ⟨v, r, rfl, h2, h3⟩ := h
    exact ⟨v, r.take n, rfl, h2, Reps.take n h3⟩
theorem Reps.drop : ∀ {ts : List T} {vs : List V} (n : Nat), Reps K F ts vs → Reps K F (ts.drop n) (vs.drop n)
  | _, _, 0, h => h
  | [], _, n + 1, h => by cases h; rfl
  | t :: ts, _, n + 1, h => by
    obtain ⟨v, r, rfl, h2, h3⟩ := h
    exact Reps.drop n h3
theorem reps_ints : ∀ ns : List Int, Reps K F (ns.map T.int) (ns.map V.int)
  | [] => rfl
  | n :: ns => ⟨.int n, ns.map V.int, rfl, rfl, reps_ints ns⟩
end

structure Grow (F H F' H' : Hp) : Prop where
  sF : Same F F'
  sH : Same H H'
  fh : Same F' H'
  nw : ∀ a o, F' a = some o → F a = some o ∨ H a = none
theorem Grow.refl {F H : Hp} (h : Same F H) : Grow F H F H := ⟨Same.refl _, Same.refl _, h, fun _ _ e => .inl e⟩
theorem Grow.trans {F H F1 H1 F2 H2 : Hp} (a : Grow F H F1 H1) (b : Grow F1 H1 F2 H2) : Grow F H F2 H2 :=
  ⟨a.sF.trans b.sF, a.sH.trans b.sH, b.fh, fun x o e => by
    rcases b.nw x o e with e | e
    · exact a.nw x o e
    · exact .inr (a.sH.free e)⟩
theorem same_updN {H : Hp} {p : Addr} {o : HO} (h : H p = none) : Same H (upd H p o) := fun b u q => by rw [upd_ne (ne_of_none q h)]; exact q
theorem Grow.new {F H : Hp} {p : Addr} (o : HO) (h : Same F H) (n : H p = none) : Grow F H (upd F p o) (upd H p o) := by
  refine ⟨same_updN (h.free n), same_updN n, fun b u q => ?_, fun a u q => ?_⟩
  · by_cases e : b = p
    · subst e; rw [upd_same] at q ⊢; exact q
    · rw [upd_ne e] at q ⊢; exact h _ _ q
  · by_cases e : a = p
    · subst e; exact .inr n
    · rw [upd_ne e] at q; exact .inl q

inductive Sl where
  | sh (t : T) | own (ts : List T)
noncomputable abbrev TEnv := List (Option Sl)
noncomputable def SlOk (K : PySem.W.Frag) (H₀ F H : Hp) : Sl → V → Prop
  | .sh t, v => Rep K F t v
  | .own ts, v => ∃ p vs, v = .ref p ∧ H p = some (.lst vs) ∧ F p = none ∧ H₀ p = none ∧ Reps K F ts vs
structure EnvOk (K : PySem.W.Frag) (F₀ H₀ F H : Hp) (σ : L2.St) (τ : TEnv) : Prop where
  g : Grow F₀ H₀ F H
  len : σ.length = τ.length
  sl : ∀ (i : Nat) (s : Sl), τ[i]? = some (some s) → ∃ v, σ[i]? = some (some v) ∧ SlOk K H₀ F H s v
  dj : ∀ (i j : Nat) (ts us : List T) (p : Addr), i ≠ j → τ[i]? = some (some (.own ts)) → τ[j]? = some (some (.own us)) → σ[i]? = some (some (.ref p)) → σ[j]? ≠ some (some (.ref p))
section
variable {K : PySem.W.Frag} {F₀ H₀ F H F' H' : Hp} {σ : L2.St} {τ : TEnv}
theorem SlOk.grow {s : Sl} {v : V} (g : Grow F H F' H') (h : SlOk K H₀ F H s v) : SlOk K H₀ F' H' s v := by
  cases s with
  | sh t => exact Rep.mono g.sF h
  | own ts =>
    obtain ⟨p, vs, h1, h2, h3, h4, h5⟩ := h
    refine ⟨p, vs, h1, g.sH _ _ h2, ?_, h4, Reps.mono g.sF h5⟩
    cases e : F' p with
    | none => rfl
    | some o =>
      rcases g.nw p o e with q | q
      · rw [q] at h3; cases h3
      · rw [q] at h2; cases h2
theorem EnvOk.grow (E : EnvOk K F₀ H₀ F H σ τ) (g : Grow F H F' H') : EnvOk K F₀ H₀ F' H' σ τ := by
  refine ⟨E.g.trans g, E.len, fun i s e => ?_, E.dj⟩
  obtain ⟨v, h1, h2⟩ := E.sl i s e
  exact ⟨v, h1, h2.grow g⟩
theorem EnvOk.set {i : Nat} {t : T} {v : V} (E : EnvOk K F₀ H₀ F H σ τ) (r : Rep K F t v) : EnvOk K F₀ H₀ F H (σ.set i (some v)) (τ.set i (some (.sh t))) := by
  refine ⟨E.g, by simp [E.len], fun j s e => ?_, fun j k ts us p hjk e1 e2 e3 => ?_⟩
  · by_cases hj : i = j
    · subst hj
      by_cases hl : i < τ.length
      · rw [List.getElem?_set_self hl] at e
        cases e
        exact ⟨v, List.getElem?_set_self (by rw [E.len]; exact hl), r⟩
      · rw [List.getElem?_eq_none (by simp; omega)] at e; cases e
    · rw [List.getElem?_set_ne hj] at e
      rw [List.getElem?_set_ne hj]
      exact E.sl j s e
  · have n1 : i ≠ j := fun z => by
      subst z
      by_cases hl : i < τ.length
      · rw [List.getElem?_set_self hl] at e1; cases e1
      · rw [List.getElem?_eq_none (by simp; omega)] at e1; cases e1
    have n2 : i ≠ k := fun z => by
      subst z
      by_cases hl : i < τ.length
      · rw [List.getElem?_set_self hl] at e2; cases e2
      · rw [List.getElem?_eq_none (by simp; omega)] at e2; cases e2
    rw [List.getElem?_set_ne n1] at e1 e3
    rw [List.getElem?_set_ne n2] at e2 ⊢
    exact E.dj j k ts us p hjk e1 e2 e3
theorem EnvOk.freeze {i : Nat} {ts : List T} (E : EnvOk K F₀ H₀ F H σ τ) (e : τ[i]? = some (some (.own ts))) :
    ∃ F' v, σ[i]? = some (some v) ∧ EnvOk K F₀ H₀ F' H σ (τ.set i (some (.sh (.lst ts)))) ∧ Same F F' ∧ Rep K F' (.lst ts) v := by
  obtain ⟨v, h1, p, vs, rfl, h2, h3, h4, h5⟩ := E.sl i _ e
  have sF : Same F (upd F p (.lst vs)) := same_updN h3
  have rp : Rep K (upd F p (.lst vs)) (.lst ts) (.ref p) := ⟨p, vs, rfl, upd_same, Reps.mono sF h5⟩
  refine ⟨upd F p (.lst vs), .ref p, h1, ⟨⟨E.g.sF.trans sF, E.g.sH, fun b o q => ?_, fun b o q => ?_⟩, by simp [E.len], fun j s q => ?_, fun j k us ws r hjk e1 e2 e3 => ?_⟩, sF, rp⟩
  · by_cases z : b = p
    · subst z; rw [upd_same] at q; cases q; exact h2
    · rw [upd_ne z] at q; exact E.g.fh _ _ q
  · by_cases z : b = p
    · subst z; exact .inr h4
    · rw [upd_ne z] at q; exact E.g.nw _ _ q
  · by_cases hj : i = j
    · subst hj
      have hl : i < τ.length := by
        have := (List.getElem?_eq_some_iff.mp e).1
        exact this
      rw [List.getElem?_set_self hl] at q
      cases q
      exact ⟨_, h1, rp⟩
    · rw [List.getElem?_set_ne hj] at q
      obtain ⟨v, g1, g2⟩ := E.sl j s q
      refine ⟨v, g1, ?_⟩
      cases s with
      | sh t => exact Rep.mono sF g2
      | own us =>
        obtain ⟨r, ws, rfl, k2, k3, k4, k5⟩ := g2
        have hne : r ≠ p := fun z => by
          subst z
          exact E.dj i j ts us r hj e q h1 g1
        exact ⟨r, ws, rfl, k2, by rw [upd_ne hne]; exact k3, k4, Reps.mono sF k5⟩
  · have hl : i < τ.length := (List.getElem?_eq_some_iff.mp e).1
    have n1 : i ≠ j := fun z => by subst z; rw [List.getElem?_set_self hl] at e1; cases e1
    have n2 : i ≠ k := fun z => by subst z; rw [List.getElem?_set_self hl] at e2; cases e2
    rw [List.getElem?_set_ne n1] at e1
    rw [List.getElem?_set_ne n2] at e2
    exact E.dj j k us ws r hjk e1 e2 e3
theorem EnvOk.setOwn {i : Nat} {ts : List T} {vs : List V} {p : Addr} (E : EnvOk K F₀ H₀ F H σ τ) (n : H p = none) (r : Reps K F ts vs) : EnvOk K F₀ H₀ F (upd H p (.lst vs)) (σ.set i (some (.ref p))) (τ.set i (some (.own ts))) := by
  have sH : Same H (upd H p (.lst vs)) := same_updN n
  have fp : F p = none := E.g.fh.free n
  have old : ∀ {j : Nat} {s : Sl}, i ≠ j → τ[j]? = some (some s) → ∃ v, σ[j]? = some (some v) ∧ SlOk K H₀ F (upd H p (.lst vs)) s v := fun {j s} hj q => by
    obtain ⟨v, g1, g2⟩ := E.sl j s q
    refine ⟨v, g1, ?_⟩
    cases s with
    | sh t => exact g2
    | own us =>
      obtain ⟨r, ws, rfl, k2, k3, k4, k5⟩ := g2
      exact ⟨r, ws, rfl, sH _ _ k2, k3, k4, k5⟩
  refine ⟨⟨E.g.sF, E.g.sH.trans sH, E.g.fh.trans sH, E.g.nw⟩, by simp [E.len], fun j s e => ?_, fun j k ts' us q hjk e1 e2 e3 e4 => ?_⟩
  · by_cases hj : i = j
    · subst hj
      by_cases hl : i < τ.length
      · rw [List.getElem?_set_self hl] at e
        cases e
        exact ⟨.ref p, List.getElem?_set_self (by rw [E.len]; exact hl), p, vs, rfl, upd_same, fp, E.g.sH.free n, r⟩
      · rw [List.getElem?_eq_none (by simp; omega)] at e; cases e
    · rw [List.getElem?_set_ne hj] at e
      rw [List.getElem?_set_ne hj]
      exact old hj e
  · by_cases hj : i = j
    · subst hj
      have n2 : i ≠ k := hjk
      rw [List.getElem?_set_ne n2] at e2 e4
      by_cases hl : i < τ.length
      · rw [List.getElem?_set_self (by rw [E.len]; exact hl)] at e3
        cases e3
        obtain ⟨v, g1, r', ws, rfl, k2, _⟩ := E.sl k _ e2
        rw [g1] at e4; cases e4
        rw [n] at k2; cases k2
      · rw [List.getElem?_eq_none (by simp; omega)] at e1; cases e1
    · rw [List.getElem?_set_ne hj] at e1 e3
      by_cases hk : i = k
      · subst hk
        by_cases hl : i < τ.length
        · rw [List.getElem?_set_self (by rw [E.len]; exact hl)] at e4
          cases e4
          obtain ⟨v, g1, r', ws, rfl, k2, _⟩ := E.sl j _ e1
          rw [g1] at e3; cases e3
          rw [n] at k2; cases k2
        · rw [List.getElem?_eq_none (by simp; omega)] at e2; cases e2
      · rw [List.getElem?_set_ne hk] at e2 e4
        exact E.dj j k ts' us q hjk e1 e2 e3 e4
theorem EnvOk.turnOwn {i : Nat} {ts us : List T} {vs : List V} {p : Addr} (E : EnvOk K F₀ H₀ F H σ τ) (e : τ[i]? = some (some (.own ts))) (hp : σ[i]? = some (some (.ref p))) (r : Reps K F us vs) :
    EnvOk K F₀ H₀ F (upd H p (.lst vs)) σ (τ.set i (some (.own us))) := by
  obtain ⟨v, h1, p', vs', rfl, h2, h3, h4, h5⟩ := E.sl i _ e
  rw [hp] at h1; cases h1
  have hl : i < τ.length := (List.getElem?_eq_some_iff.mp e).1
  refine ⟨⟨E.g.sF, fun b o q => ?_, fun b o q => ?_, E.g.nw⟩, by simp [E.len], fun j s q => ?_, fun j k ts' us' q hjk e1 e2 e3 => ?_⟩
  · rw [upd_ne (fun z => by subst z; rw [h4] at q; cases q)]; exact E.g.sH _ _ q
  · rw [upd_ne (fun z => by subst z; rw [h3] at q; cases q)]; exact E.g.fh _ _ q
  · by_cases hj : i = j
    · subst hj
      rw [List.getElem?_set_self hl] at q; cases q
      exact ⟨_, hp, p, vs, rfl, upd_same, h3, h4, r⟩
    · rw [List.getElem?_set_ne hj] at q
      obtain ⟨v, g1, g2⟩ := E.sl j s q
      refine ⟨v, g1, ?_⟩
      cases s with
      | sh t => exact g2
      | own us' =>
        obtain ⟨r', ws, rfl, k2, k3, k4, k5⟩ := g2
        have hne : r' ≠ p := fun z => by subst z; exact E.dj i j ts us' r' hj e q hp g1
        exact ⟨r', ws, rfl, by rw [upd_ne hne]; exact k2, k3, k4, k5⟩
  · have q1 : ∃ zs, τ[j]? = some (some (.own zs)) := by
      by_cases hj : i = j
      · subst hj; exact ⟨_, e⟩
      · rw [List.getElem?_set_ne hj] at e1; exact ⟨_, e1⟩
    have q2 : ∃ zs, τ[k]? = some (some (.own zs)) := by
      by_cases hj : i = k
      · subst hj; exact ⟨_, e⟩
      · rw [List.getElem?_set_ne hj] at e2; exact ⟨_, e2⟩
    obtain ⟨z1, q1⟩ := q1
    obtain ⟨z2, q2⟩ := q2
    exact E.dj j k z1 z2 q hjk q1 q2 e3
end
end TM

set_option Elab.async false
set_option linter.all false
set_option maxRecDepth 100000
namespace TM
open PySem PySem.Spec PyProof.Rows L2

noncomputable abbrev FE := TEnv → Option (T × TEnv)
noncomputable abbrev FA := TEnv → Option (List T × TEnv)
noncomputable abbrev FT := TEnv → Option (Bool × TEnv)
inductive R where
  | nx (τ : TEnv) | rt (t : T) | bk (τ : TEnv) | ct (τ : TEnv)
noncomputable abbrev FS := TEnv → Option R
noncomputable abbrev FG := T → TEnv → Option TEnv

section
variable (K : PySem.W.Frag) (F₀ H₀ : Hp)
noncomputable def tE (f : FE) : TE := fun σ H Q => ∃ F τ t τ', EnvOk K F₀ H₀ F H σ τ ∧ f τ = some (t, τ') ∧ ∀ F' H' v, EnvOk K F₀ H₀ F' H' σ τ' → Same F F' → Rep K F' t v → Q v H'
noncomputable def tA (f : FA) : TA := fun σ H Q => ∃ F τ ts τ', EnvOk K F₀ H₀ F H σ τ ∧ f τ = some (ts, τ') ∧ ∀ F' H' vs, EnvOk K F₀ H₀ F' H' σ τ' → Same F F' → Reps K F' ts vs → Q vs H'
noncomputable def tT (f : FT) : TT := fun σ H Q => ∃ F τ b τ', EnvOk K F₀ H₀ F H σ τ ∧ f τ = some (b, τ') ∧ ∀ F' H', EnvOk K F₀ H₀ F' H' σ τ' → Same F F' → Q b H'
noncomputable def FlowOk (F : Hp) (D : Ends) : R → Prop
  | .nx τ' => ∀ F' H' σ', EnvOk K F₀ H₀ F' H' σ' τ' → Same F F' → D.nx σ' H'
  | .rt t => ∀ F' H' v, Grow F₀ H₀ F' H' → Rep K F' t v → D.rt v H'
  | .bk τ' => ∀ F' H' σ', EnvOk K F₀ H₀ F' H' σ' τ' → Same F F' → D.bk σ' H'
  | .ct τ' => ∀ F' H' σ', EnvOk K F₀ H₀ F' H' σ' τ' → Same F F' → D.ct σ' H'
noncomputable def tS (f : FS) : TS := fun D σ H => ∃ F τ r, EnvOk K F₀ H₀ F H σ τ ∧ f τ = some r ∧ FlowOk K F₀ H₀ F D r
end
noncomputable def SE (X : Cx) (e : Expr) (f : FE) : Prop := ∀ F₀ H₀, PE X e (tE X.K F₀ H₀ f)
noncomputable def SA (X : Cx) (es : List Expr) (f : FA) : Prop := ∀ F₀ H₀, PA X es (tA X.K F₀ H₀ f)
noncomputable def ST (X : Cx) (e : Expr) (f : FT) : Prop := ∀ F₀ H₀, PT X e (tT X.K F₀ H₀ f)
noncomputable def SW (X : Cx) (e : Expr) (f : FT) : Prop := ∀ F₀ H₀, PW X e (tT X.K F₀ H₀ f)
noncomputable def SS (X : Cx) (st : Stmt) (f : FS) : Prop := ∀ F₀ H₀, PS X st (tS X.K F₀ H₀ f)
noncomputable def SSs (X : Cx) (st : List Stmt) (f : FS) : Prop := ∀ F₀ H₀, PSs X st (tS X.K F₀ H₀ f)

section
variable {X : Cx} {e a b : Expr} {pos : Pos} {f fa fb : FE}
theorem PE.weak {t t' : TE} (h : PE X e t) (i : ∀ σ H Q, t' σ H Q → t σ H Q) : PE X e t' := fun pins s σ H Q I q => h pins s σ H Q I (i σ H Q q)
theorem PT.weak {t t' : TT} (h : PT X e t) (i : ∀ σ H Q, t' σ H Q → t σ H Q) : PT X e t' := fun pins s σ H Q I q => h pins s σ H Q I (i σ H Q q)
theorem PW.weak {t t' : TT} (h : PW X e t) (i : ∀ σ H Q, t' σ H Q → t σ H Q) : PW X e t' := fun wh pins s σ H Q I q => h wh pins s σ H Q I (i σ H Q q)
theorem PA.weak {es : List Expr} {t t' : TA} (h : PA X es t) (i : ∀ σ H Q, t' σ H Q → t σ H Q) : PA X es t' := fun p pins s σ H Q I q => h p pins s σ H Q I (i σ H Q q)
theorem PS.weak {st : Stmt} {t t' : TS} (h : PS X st t) (i : ∀ D σ H, t' D σ H → t D σ H) : PS X st t' := fun pins s σ H D I q => h pins s σ H D I (i D σ H q)
theorem PSs.weak {st : List Stmt} {t t' : TS} (h : PSs X st t) (i : ∀ D σ H, t' D σ H → t D σ H) : PSs X st t' := fun pins s σ H D I q => h pins s σ H D I (i D σ H q)

noncomputable def fC (t : T) : FE := fun τ => some (t, τ)
noncomputable def fVar (i : Nat) : FE := fun τ => match τ[i]? with
  | some (some (.sh t)) => some (t, τ)
  | some (some (.own ts)) => some (.lst ts, τ.set i (some (.sh (.lst ts))))
  | _ => none
theorem se_const {t : T} {v : V} (h : PE X e (tC v)) (r : ∀ F, Rep X.K F t v) : SE X e (fC t) := fun F₀ H₀ => PE.weak h fun σ H Q ⟨F, τ, t', τ', E, e1, q⟩ => by
  cases e1
  exact q F H v E (Same.refl _) (r F)
theorem se_int {i : Int} {j} : SE X (.Constant (.int i) j pos) (fC (.int i)) := se_const pe_int fun _ => rfl
theorem se_bl {c : Bool} {j} : SE X (.Constant (.bool c) j pos) (fC (.bl c)) := se_const pe_bl fun _ => rfl
theorem se_non {j} : SE X (.Constant .none j pos) (fC .non) := se_const pe_non fun _ => rfl
theorem se_str {x : Str} {j} : SE X (.Constant (.str x) j pos) (fC (.str x)) := se_const pe_str fun _ => rfl
theorem se_var (i : Nat) {x : Str} (h : PE X (.Name x pos) (tVar i)) : SE X (.Name x pos) (fVar i) := fun F₀ H₀ => PE.weak h fun σ H Q ⟨F, τ, t, τ', E, e1, q⟩ => by
  unfold fVar at e1
  split at e1
  · next t' e2 =>
    cases e1
    obtain ⟨v, h1, h2⟩ := E.sl i _ e2
    exact ⟨v, h1, q F H v E (Same.refl _) h2⟩
  · next ts e2 =>
    cases e1
    obtain ⟨F', v, h1, E', sF, r⟩ := E.freeze e2
    exact ⟨v, h1, q F' H v E' sF r⟩
  · cases e1
theorem se_ty {x : Str} {n : String} (hg : Gl X x) (hm : X.mg x = none) (hv : bootBuiltins x = some (.type n)) (hn : x ≠ "__name__" := by decide) (hd : (x == ("__debug__" : Str)) = false := by decide) : SE X (.Name x pos) (fC (.ty n)) :=
  se_const (pe_bltn (v := .ty n) hg hm hv rfl hn hd) fun _ => rfl

noncomputable def rT2 (K : PySem.W.Frag) (g : T → T → Option T) : R2 := fun x y H Q => ∃ F a b t, Same F H ∧ Rep K F a x ∧ Rep K F b y ∧ g a b = some t ∧ ∀ F' H' v, Grow F H F' H' → Rep K F' t v → Q v H'
noncomputable def rT1 (K : PySem.W.Frag) (g : T → Option T) : V → Hp → VK → Prop := fun x H Q => ∃ F a t, Same F H ∧ Rep K F a x ∧ g a = some t ∧ ∀ F' H' v, Grow F H F' H' → Rep K F' t v → Q v H'
noncomputable def rTs (K : PySem.W.Frag) (g : List T → Option T) : List V → Hp → VK → Prop := fun xs H Q => ∃ F ts t, Same F H ∧ Reps K F ts xs ∧ g ts = some t ∧ ∀ F' H' v, Grow F H F' H' → Rep K F' t v → Q v H'
noncomputable abbrev OpT (X : Cx) (f : Value → Value → Sem Value) (g : T → T → Option T) : Prop := OpR X f (rT2 X.K g)
noncomputable abbrev UnT (X : Cx) (f : Value → Sem Value) (g : T → Option T) : Prop := UnR X f (rT1 X.K g)
noncomputable abbrev CallT (X : Cx) (f : Value) (g : List T → Option T) : Prop := CallR X f (rTs X.K g)

noncomputable def fOp (g : T → T → Option T) (fa fb : FE) : FE := fun τ => (fa τ).bind fun p => (fb p.2).bind fun q => (g p.1 q.1).bind fun t => some (t, q.2)
noncomputable def fUn (g : T → Option T) (fa : FE) : FE := fun τ => (fa τ).bind fun p => (g p.1).bind fun t => some (t, p.2)
theorem bind_some {α β : Type} {o : Option α} {f : α → Option β} {z : β} (h : o.bind f = some z) : ∃ x, o = some x ∧ f x = some z := by
  cases o with
  | none => cases h
  | some x => exact ⟨x, rfl, h⟩
theorem op_core {g : T → T → Option T} {F₀ H₀ : Hp} {σ : L2.St} {H : Hp} {Q : VK} (h : tE X.K F₀ H₀ (fOp g fa fb) σ H Q) : tOp (rT2 X.K g) (tE X.K F₀ H₀ fa) (tE X.K F₀ H₀ fb) σ H Q := by
  obtain ⟨F, τ, t, τ', E, e1, q⟩ := h
  obtain ⟨⟨x, τ1⟩, e2, e1⟩ := bind_some e1
  obtain ⟨⟨y, τ2⟩, e3, e1⟩ := bind_some e1
  obtain ⟨z, e4, e1⟩ := bind_some e1
  cases e1
  refine ⟨F, τ, x, τ1, E, e2, fun F1 H1 v1 E1 s1 r1 => ⟨F1, τ1, y, _, E1, e3, fun F2 H2 v2 E2 s2 r2 => ?_⟩⟩
  exact ⟨F2, x, y, t, E2.g.fh, Rep.mono s2 r1, r2, e4, fun F3 H3 v3 g3 r3 => q F3 H3 v3 (E2.grow g3) ((s1.trans s2).trans g3.sF) r3⟩
theorem se_op {op : Operator} {g : T → T → Option T} (ho : OpT X (binaryOp op) g) (ha : SE X a fa) (hb : SE X b fb) : SE X (.BinOp a op b pos) (fOp g fa fb) :=
  fun F₀ H₀ => PE.weak (pe_op ho (ha F₀ H₀) (hb F₀ H₀)) fun _ _ _ => op_core
theorem se_un {op : UnaryOp} {g : T → Option T} (ho : UnT X (unaryOp op) g) (ha : SE X a fa) : SE X (.UnaryOp op a pos) (fUn g fa) :=
  fun F₀ H₀ => PE.weak (pe_un ho (ha F₀ H₀)) fun σ H Q ⟨F, τ, t, τ', E, e1, q⟩ => by
    obtain ⟨⟨x, τ1⟩, e2, e1⟩ := bind_some e1
    obtain ⟨z, e4, e1⟩ := bind_some e1
    cases e1
    exact ⟨F, τ, x, _, E, e2, fun F1 H1 v1 E1 s1 r1 => ⟨F1, x, t, E1.g.fh, r1, e4, fun F3 H3 v3 g3 r3 => q F3 H3 v3 (E1.grow g3) (s1.trans g3.sF) r3⟩⟩
theorem se_cmp {op : CmpOp} {g : T → T → Option T} (ho : OpT X (compareOp op) g) (ha : SE X a fa) (hb : SE X b fb) (hm : behindInMarks op b = false) : SE X (.Compare a [op] [b] pos) (fOp g fa fb) :=
  fun F₀ H₀ => PE.weak (pe_cmpR ho (ha F₀ H₀) (hb F₀ H₀) hm) fun _ _ _ => op_core
theorem se_ix {g : T → T → Option T} (ho : IxR X (rT2 X.K g)) (ha : SE X a fa) (hb : SE X b fb) (hs : PlainIx b) : SE X (.Subscript a b pos) (fOp g fa fb) :=
  fun F₀ H₀ => PE.weak (pe_ix ho (ha F₀ H₀) (hb F₀ H₀) hs) fun _ _ _ => op_core

noncomputable def fTB (f : FE) : FT := fun τ => (f τ).bind fun p => match p.1 with | .bl c => some (c, p.2) | _ => none
noncomputable def tru : T → Option Bool
  | .non => some false
  | .bl c => some c
  | .int i => some (i != 0)
  | .str x => if x.length ≤ sizeLine then some ((x.length : Int) != 0) else none
  | .tup ts => some (!ts.isEmpty)
  | .lst ts => some (!ts.isEmpty)
  | .scr ts => some (!ts.isEmpty)
  | .dic => some false
  | .obj _ _ _ => none
  | .ptr _ => none
  | .ty _ => none
noncomputable def fTru (f : FE) : FT := fun τ => (f τ).bind fun p => (tru p.1).bind fun c => some (c, p.2)
theorem st_cmp {op : CmpOp} {g : T → T → Option T} (ho : OpT X (compareOp op) g) (ha : SE X a fa) (hb : SE X b fb) (hm : behindInMarks op b = false) : ST X (.Compare a [op] [b] pos) (fTB (fOp g fa fb)) :=
  fun F₀ H₀ => PT.weak (pt_cmpR ho (ha F₀ H₀) (hb F₀ H₀) hm) fun σ H Q ⟨F, τ, c, τ', E, e1, q⟩ => by
    obtain ⟨⟨x, τ1⟩, e2, e1⟩ := bind_some e1
    dsimp only at e1
    split at e1
    · cases e1
      refine op_core (Q := fun x H' => ∃ k, x = V.bl k ∧ Q k H') ⟨F, τ, _, _, E, e2, fun F' H' v E' s' r' => ?_⟩
      exact ⟨c, r', q F' H' E' s'⟩
    · cases e1
theorem isEmpty_reps {K : PySem.W.Frag} {F : Hp} {ts : List T} {vs : List V} (h : Reps K F ts vs) : vs.isEmpty = ts.isEmpty := by
  cases ts with
  | nil => cases h; rfl
  | cons t ts => obtain ⟨v, r, rfl, _⟩ := h; rfl
theorem tru_rep {K : PySem.W.Frag} {F H : Hp} {t : T} {v : V} {c : Bool} (s : Same F H) (r : Rep K F t v) (e : tru t = some c) : TruV K v H c := by
  cases t with
  | non => cases r; cases e; exact rfl
  | bl _ => cases r; cases e; exact rfl
  | int _ => cases r; cases e; exact rfl
  | str x =>
    cases r
    simp only [tru] at e
    split at e
    · next h => cases e; exact ⟨h, rfl⟩
    · cases e
  | ty _ => cases e
  | tup ts =>
    obtain ⟨p, xs, rfl, h1, h2⟩ := r
    cases e
    exact .inr (.inl ⟨xs, same_sqT s h1, by rw [isEmpty_reps h2]⟩)
  | lst ts =>
    obtain ⟨p, xs, rfl, h1, h2⟩ := r
    cases e
    exact .inl ⟨xs, SqL.of (s _ _ h1), by rw [isEmpty_reps h2]⟩
  | scr ts =>
    obtain ⟨p, xs, rfl, h1, h2⟩ := r
    cases e
    exact .inl ⟨xs, s.seq h1, by rw [isEmpty_reps h2]⟩
  | dic =>
    obtain ⟨p, rfl, h1⟩ := r
    cases e
    exact .inr (.inr ⟨[], s _ _ h1, rfl⟩)
  | obj _ _ _ => cases e
  | ptr _ => cases e
theorem st_val (h : SE X e f) (he : ∀ whole, isTrue e X.env whole = (do let v ← whole; standAt e.pos; holding [v] (truthy v)) := by intro _; rfl) : ST X e (fTru f) :=
  fun F₀ H₀ => PT.weak (pt_truth (h F₀ H₀) he) fun σ H Q ⟨F, τ, c, τ', E, e1, q⟩ => by
    obtain ⟨⟨x, τ1⟩, e2, e1⟩ := bind_some e1
    obtain ⟨z, e4, e1⟩ := bind_some e1
    cases e1
    exact ⟨F, τ, x, _, E, e2, fun F1 H1 v1 E1 s1 r1 => ⟨c, tru_rep E1.g.fh r1 e4, q F1 H1 E1 s1⟩⟩
variable {ta tb : FT} {rest : List Expr}
noncomputable def fAnd (ta tb : FT) : FT := fun τ => (ta τ).bind fun p => if p.1 = true then tb p.2 else some (false, p.2)
noncomputable def fOr (ta tb : FT) : FT := fun τ => (ta τ).bind fun p => if p.1 = true then some (true, p.2) else tb p.2
noncomputable def fNot (ta : FT) : FT := fun τ => (ta τ).bind fun p => some (!p.1, p.2)
theorem st_not (h : ST X a ta) : ST X (.UnaryOp .Not a pos) (fNot ta) := fun F₀ H₀ => PT.weak (pt_not (h F₀ H₀)) fun σ H Q ⟨F, τ, c, τ', E, e1, q⟩ => by
  obtain ⟨⟨x, τ1⟩, e2, e1⟩ := bind_some e1
  cases e1
  exact ⟨F, τ, x, _, E, e2, fun F1 H1 E1 s1 => q F1 H1 E1 s1⟩
theorem sw_and1 (h : ST X a ta) : SW X (.BoolOp .And [a] pos) ta := fun F₀ H₀ => pw_and1 (h F₀ H₀)
theorem sw_or1 (h : ST X a ta) : SW X (.BoolOp .Or [a] pos) ta := fun F₀ H₀ => pw_or1 (h F₀ H₀)
theorem sw_and (ha : ST X a ta) (hb : SW X (.BoolOp .And (b :: rest) pos) tb) : SW X (.BoolOp .And (a :: b :: rest) pos) (fAnd ta tb) := fun F₀ H₀ => PW.weak (pw_and (ha F₀ H₀) (hb F₀ H₀)) fun σ H Q ⟨F, τ, c, τ', E, e1, q⟩ => by
  obtain ⟨⟨x, τ1⟩, e2, e1⟩ := bind_some e1
  refine ⟨F, τ, x, τ1, E, e2, fun F1 H1 E1 s1 => ?_⟩
  dsimp only at e1
  split at e1
  · next h => rw [if_pos h]; exact ⟨F1, τ1, c, τ', E1, e1, fun F2 H2 E2 s2 => q F2 H2 E2 (s1.trans s2)⟩
  · next h => rw [if_neg h]; cases e1; exact q F1 H1 E1 s1
theorem sw_or (ha : ST X a ta) (hb : SW X (.BoolOp .Or (b :: rest) pos) tb) : SW X (.BoolOp .Or (a :: b :: rest) pos) (fOr ta tb) := fun F₀ H₀ => PW.weak (pw_or (ha F₀ H₀) (hb F₀ H₀)) fun σ H Q ⟨F, τ, c, τ', E, e1, q⟩ => by
  obtain ⟨⟨x, τ1⟩, e2, e1⟩ := bind_some e1
  refine ⟨F, τ, x, τ1, E, e2, fun F1 H1 E1 s1 => ?_⟩
  dsimp only at e1
  split at e1
  · next h => rw [if_pos h]; cases e1; exact q F1 H1 E1 s1
  · next h => rw [if_neg h]; exact ⟨F1, τ1, c, τ', E1, e1, fun F2 H2 E2 s2 => q F2 H2 E2 (s1.trans s2)⟩
theorem SW.st (h : SW X e ta) : ST X e ta := fun F₀ H₀ => (h F₀ H₀).pt
noncomputable def fAndV (fa fb : FE) : FE := fun τ => (fa τ).bind fun p => match p.1 with | .bl true => fb p.2 | .bl false => some (.bl false, p.2) | _ => none
noncomputable def fOrV (fa fb : FE) : FE := fun τ => (fa τ).bind fun p => match p.1 with | .bl true => some (.bl true, p.2) | .bl false => fb p.2 | _ => none
noncomputable def gNot : T → Option T
  | .bl c => some (.bl (!c))
  | _ => none
theorem se_one {op} (h : SE X a fa) : SE X (.BoolOp op [a] pos) fa := fun F₀ H₀ => pe_one (h F₀ H₀)
theorem se_and (ha : SE X a fa) (hb : SE X (.BoolOp .And (b :: rest) pos) fb) : SE X (.BoolOp .And (a :: b :: rest) pos) (fAndV fa fb) := fun F₀ H₀ => PE.weak (pe_and (ha F₀ H₀) (hb F₀ H₀)) fun σ H Q ⟨F, τ, c, τ', E, e1, q⟩ => by
  obtain ⟨⟨x, τ1⟩, e2, e1⟩ := bind_some e1
  dsimp only at e1
  refine ⟨F, τ, x, τ1, E, e2, fun F1 H1 v E1 s1 r1 => ?_⟩
  split at e1
  · cases r1; exact ⟨true, rfl, by rw [if_pos rfl]; exact ⟨F1, τ1, c, τ', E1, e1, fun F2 H2 v2 E2 s2 => q F2 H2 v2 E2 (s1.trans s2)⟩⟩
  · cases r1; cases e1; exact ⟨false, rfl, by rw [if_neg (by decide)]; exact q F1 H1 _ E1 s1 rfl⟩
  · cases e1
theorem se_not (ha : SE X a fa) : SE X (.UnaryOp .Not a pos) (fUn gNot fa) := fun F₀ H₀ => PE.weak (pe_not (ha F₀ H₀)) fun σ H Q ⟨F, τ, c, τ', E, e1, q⟩ => by
  obtain ⟨⟨x, τ1⟩, e2, e1⟩ := bind_some e1
  obtain ⟨z, e4, e1⟩ := bind_some e1
  cases e1
  refine ⟨F, τ, x, _, E, e2, fun F1 H1 v E1 s1 r1 => ?_⟩
  dsimp only at e4
  unfold gNot at e4
  split at e4
  · cases r1; cases e4; exact ⟨_, rfl, q F1 H1 _ E1 s1 rfl⟩
  · cases e4
noncomputable def fIf (t : FT) (fa fb : FE) : FE := fun τ => (t τ).bind fun p => if p.1 = true then fa p.2 else fb p.2
variable {es : List Expr} {g : FA}
noncomputable def fNil : FA := fun τ => some ([], τ)
noncomputable def fCons (f : FE) (g : FA) : FA := fun τ => (f τ).bind fun p => (g p.2).bind fun q => some (p.1 :: q.1, q.2)
theorem sa_nil : SA X [] fNil := fun F₀ H₀ => PA.weak pa_nil fun σ H Q ⟨F, τ, c, τ', E, e1, q⟩ => by
  cases e1
  exact q F H [] E (Same.refl _) rfl
theorem sa_cons (ha : SE X e f) (hr : SA X es g) (hs : starEach (e :: es) X.env = (false, eval e X.env) :: starEach es X.env := by rfl) : SA X (e :: es) (fCons f g) := fun F₀ H₀ => PA.weak (pa_cons (ha F₀ H₀) (hr F₀ H₀) hs) fun σ H Q ⟨F, τ, c, τ', E, e1, q⟩ => by
  obtain ⟨⟨x, τ1⟩, e2, e1⟩ := bind_some e1
  obtain ⟨⟨y, τ2⟩, e3, e1⟩ := bind_some e1
  cases e1
  exact ⟨F, τ, x, τ1, E, e2, fun F1 H1 v E1 s1 r1 => ⟨F1, τ1, y, _, E1, e3, fun F2 H2 vs E2 s2 r2 => q F2 H2 _ E2 (s1.trans s2) ⟨v, vs, rfl, Rep.mono s2 r1, r2⟩⟩⟩
noncomputable def fTup (g : FA) : FE := fun τ => (g τ).bind fun p => if p.1.length ≤ sizeLine then some (.tup p.1, p.2) else none
noncomputable def fLst (g : FA) : FE := fun τ => (g τ).bind fun p => if p.1.length ≤ sizeLine then some (.lst p.1, p.2) else none
theorem se_tup {k} (h : SA X es g) : SE X (.Tuple es k pos) (fTup g) := fun F₀ H₀ => PE.weak (pe_tup (h F₀ H₀)) fun σ H Q ⟨F, τ, c, τ', E, e1, q⟩ => by
  obtain ⟨⟨x, τ1⟩, e2, e1⟩ := bind_some e1
  dsimp only at e1
  split at e1
  · next hl =>
    cases e1
    refine ⟨F, τ, x, _, E, e2, fun F1 H1 vs E1 s1 r1 => ⟨by rw [r1.length]; exact hl, fun p hp => ?_⟩⟩
    have gr := Grow.new (.tup vs) E1.g.fh hp
    exact q _ _ _ (E1.grow gr) (s1.trans gr.sF) ⟨p, vs, rfl, SqT.of upd_same, Reps.mono gr.sF r1⟩
  · cases e1
theorem se_lst (h : SA X es g) : SE X (.List es pos) (fLst g) := fun F₀ H₀ => PE.weak (pe_lst (h F₀ H₀)) fun σ H Q ⟨F, τ, c, τ', E, e1, q⟩ => by
  obtain ⟨⟨x, τ1⟩, e2, e1⟩ := bind_some e1
  dsimp only at e1
  split at e1
  · next hl =>
    cases e1
    refine ⟨F, τ, x, _, E, e2, fun F1 H1 vs E1 s1 r1 => ⟨by rw [r1.length]; exact hl, fun p hp => ?_⟩⟩
    have gr := Grow.new (.lst vs) E1.g.fh hp
    exact q _ _ _ (E1.grow gr) (s1.trans gr.sF) ⟨p, vs, rfl, upd_same, Reps.mono gr.sF r1⟩
  · cases e1
noncomputable def fCall (d : List T → Option T) (g : FA) : FE := fun τ => (g τ).bind fun p => (d p.1).bind fun t => some (t, p.2)
theorem call_core {d : List T → Option T} {F₀ H₀ : Hp} {σ : L2.St} {H : Hp} {Q : VK} (h : tE X.K F₀ H₀ (fCall d g) σ H Q) : tA X.K F₀ H₀ g σ H fun vs H1 => rTs X.K d vs H1 Q := by
  obtain ⟨F, τ, c, τ', E, e1, q⟩ := h
  obtain ⟨⟨x, τ1⟩, e2, e1⟩ := bind_some e1
  obtain ⟨z, e4, e1⟩ := bind_some e1
  cases e1
  exact ⟨F, τ, x, _, E, e2, fun F1 H1 vs E1 s1 r1 => ⟨F1, x, c, E1.g.fh, r1, e4, fun F3 H3 v3 g3 r3 => q F3 H3 v3 (E1.grow g3) (s1.trans g3.sF) r3⟩⟩
theorem se_callB {d : List T → Option T} {id : String} {x : Str} {p : Pos} (hc : CallT X (.builtin id) d) (hg : Gl X x) (hm : X.mg x = none) (hv : bootBuiltins x = some (.builtin id)) (ha : SA X (e :: es) g) (hn : x ≠ "__name__" := by decide) (hdb : (x == ("__debug__" : Str)) = false := by decide)
    (he : starEach (e :: es) X.env = (false, eval e X.env) :: starEach es X.env := by rfl) (hpl : (backTo pos (starEach es X.env)).any (·.1) = false := by rfl) : SE X (.Call (.Name x p) (e :: es) [] pos) (fCall d g) :=
  fun F₀ H₀ => PE.weak (pe_callB hc hg hm hv (ha F₀ H₀) hn hdb he hpl) fun _ _ _ => call_core
theorem se_callTy {d : List T → Option T} {id : String} {x : Str} {p : Pos} (hc : CallT X (.type id) d) (hg : Gl X x) (hm : X.mg x = none) (hv : bootBuiltins x = some (.type id)) (ha : SA X (e :: es) g) (hn : x ≠ "__name__" := by decide) (hdb : (x == ("__debug__" : Str)) = false := by decide)
    (he : starEach (e :: es) X.env = (false, eval e X.env) :: starEach es X.env := by rfl) (hpl : (backTo pos (starEach es X.env)).any (·.1) = false := by rfl) : SE X (.Call (.Name x p) (e :: es) [] pos) (fCall d g) :=
  fun F₀ H₀ => PE.weak (pe_callTy hc hg hm hv (ha F₀ H₀) hn hdb he hpl) fun _ _ _ => call_core
end

noncomputable def spT (K : PySem.W.Frag) (n : Nat) (d : List T → Option T) : Sp := fun vs H Q _ => vs.length = n ∧ rTs K d vs H Q
structure Def (P : Program) (w : World) (K : PySem.W.Frag) (mg : Str → Option Value) (base : Heap) (k : Nat) (x : Str) (n : Nat) (d : List T → Option T) : Prop where
  ex : ∃ f fd ps, FnOk P w K mg base CX0 k f fd ps (spT K n d) ∧ Binds K fd ps [] ∧ PySem.W.keepIn K (.ref f) = true ∧ mg x = some (.ref f) ∧ ps.length = n
theorem Def.imp {P : Program} {w : World} {K : PySem.W.Frag} {mg : Str → Option Value} {base : Heap} {k n : Nat} {x : Str} {d d' : List T → Option T} (D : Def P w K mg base k x n d) (h : ∀ ts t, d' ts = some t → d ts = some t) : Def P w K mg base k x n d' := by
  obtain ⟨f, fd, ps, F, r⟩ := D.ex
  exact ⟨f, fd, ps, F.imp fun vs H Q E ⟨l, F, ts, t, a, b, c, q⟩ => ⟨l, F, ts, t, a, b, h _ _ c, q⟩, r⟩
theorem Def.mono {P : Program} {w : World} {K : PySem.W.Frag} {mg : Str → Option Value} {base : Heap} {j k n : Nat} {x : Str} {d : List T → Option T} (D : Def P w K mg base j x n d) (h : j ≤ k) : Def P w K mg base k x n d := by
  obtain ⟨f, fd, ps, F, r⟩ := D.ex
  exact ⟨f, fd, ps, F.mono h, r⟩
theorem Def.zero {P : Program} {w : World} {K : PySem.W.Frag} {mg : Str → Option Value} {base : Heap} {x qual : Str} {st : Stmt} {f : Addr} {fd : FuncData} {ps : List Str} (F : Fun K x qual st f fd) (hb : Binds K fd ps []) (hm : mg x = some (.ref f)) : Def P w K mg base 0 x ps.length (fun _ => none) :=
  ⟨f, fd, ps, ⟨fun vs H Q E h => h.1, fun A outer s H args us vs Q E _ _ _ _ h => by obtain ⟨_, F, ts, t, _, _, e, _⟩ := h; cases e⟩, hb, F.kp, hm, rfl⟩
section
variable {X : Cx} {e : Expr} {es : List Expr} {pos : Pos} {g : FA}
theorem se_call {k n : Nat} {x : Str} {p : Pos} {d : List T → Option T} (D : Def X.prog X.w X.K X.mg X.base k x n d) (hr : Room k X.A) (hg : Gl X x) (ha : SA X (e :: es) g) (hl : ∀ τ ts τ', g τ = some (ts, τ') → ts.length = n) (hdb : (x == ("__debug__" : Str)) = false := by decide)
    (he : starEach (e :: es) X.env = (false, eval e X.env) :: starEach es X.env := by rfl) (hpl : (backTo pos (starEach es X.env)).any (·.1) = false := by rfl) : SE X (.Call (.Name x p) (e :: es) [] pos) (fCall d g) := by
  obtain ⟨f, fd, ps, F, hb, hk, hm, hn⟩ := D.ex
  intro F₀ H₀
  refine PE.weak (pe_call (E := E0) (CX := CX0) F hr hg hm hk hb .nil pass0 (ha F₀ H₀) hdb he hpl) fun σ H Q h => ?_
  obtain ⟨F, τ, c, τ', E, e1, q⟩ := h
  obtain ⟨⟨z, τ1⟩, e2, e1⟩ := bind_some e1
  have hz := hl _ _ _ e2
  obtain ⟨u, e4, e1⟩ := bind_some e1
  cases e1
  refine ⟨F, τ, z, _, E, e2, fun F1 H1 vs E1 s1 r1 => ⟨by rw [List.append_nil, r1.length]; exact hz, F1, z, c, E1.g.fh, by rw [List.append_nil]; exact r1, e4, fun F3 H3 v3 g3 r3 => q F3 H3 v3 (E1.grow g3) (s1.trans g3.sF) r3⟩⟩
theorem len_nil : ∀ τ ts τ', fNil τ = some (ts, τ') → ts.length = 0 := fun _ _ _ h => by cases h; rfl
theorem len_cons {f : FE} {g : FA} {n : Nat} (h : ∀ τ ts τ', g τ = some (ts, τ') → ts.length = n) : ∀ τ ts τ', fCons f g τ = some (ts, τ') → ts.length = n + 1 := fun τ ts τ' e => by
  obtain ⟨⟨x, τ1⟩, e2, e1⟩ := bind_some e
  obtain ⟨⟨y, τ2⟩, e3, e1⟩ := bind_some e1
  cases e1
  simp [h _ _ _ e3]
end
end TM

set_option Elab.async false
set_option linter.all false
set_option maxRecDepth 100000
namespace TM
open PySem PySem.Spec PyProof.Rows L2
section
variable {X : Cx} {e a b : Expr} {pos : Pos} {f fa fb : FE} {ga : FA} {es : List Expr}

noncomputable def fNever : FS := fun _ => none
noncomputable def fNext : FS := fun τ => some (.nx τ)
noncomputable def fRet (f : FE) : FS := fun τ => (f τ).bind fun p => some (.rt p.1)
noncomputable def fDrop (f : FE) : FS := fun τ => (f τ).bind fun p => some (.nx p.2)
noncomputable def fIfS (c : FT) (t u : FS) : FS := fun τ => (c τ).bind fun p => if p.1 = true then t p.2 else u p.2
noncomputable def fSeq (t u : FS) : FS := fun τ => (t τ).bind fun r => match r with | .nx τ' => u τ' | r => some r
theorem FlowOk.mono {K : PySem.W.Frag} {F₀ H₀ F F' : Hp} {D : Ends} {r : R} (s : Same F F') (h : FlowOk K F₀ H₀ F D r) : FlowOk K F₀ H₀ F' D r := by
  cases r with
  | nx τ => exact fun F1 H1 σ1 E1 s1 => h F1 H1 σ1 E1 (s.trans s1)
  | rt t => exact h
  | bk τ => exact fun F1 H1 σ1 E1 s1 => h F1 H1 σ1 E1 (s.trans s1)
  | ct τ => exact fun F1 H1 σ1 E1 s1 => h F1 H1 σ1 E1 (s.trans s1)
theorem ss_never {st : Stmt} : SS X st fNever := fun F₀ H₀ => PS.weak ps_never fun D σ H ⟨F, τ, r, E, e1, q⟩ => by cases e1
theorem ss_ret (h : SE X e f) : SS X (.Return (some e) pos) (fRet f) := fun F₀ H₀ => PS.weak (ps_ret (h F₀ H₀)) fun D σ H ⟨F, τ, r, E, e1, q⟩ => by
  obtain ⟨⟨x, τ1⟩, e2, e1⟩ := bind_some e1
  cases e1
  exact ⟨F, τ, x, τ1, E, e2, fun F' H' v E' s' r' => q F' H' v E'.g r'⟩
theorem ss_if {c : Expr} {ss us : List Stmt} {tc : FT} {t u : FS} (hc : ST X c tc) (ha : SSs X ss t) (hb : SSs X us u) : SS X (.If c ss us pos) (fIfS tc t u) := fun F₀ H₀ => PS.weak (ps_if (hc F₀ H₀) (ha F₀ H₀) (hb F₀ H₀)) fun D σ H ⟨F, τ, r, E, e1, q⟩ => by
  obtain ⟨⟨x, τ1⟩, e2, e1⟩ := bind_some e1
  refine ⟨F, τ, x, τ1, E, e2, fun F' H' E' s' => ?_⟩
  dsimp only at e1
  split at e1
  · next h => rw [if_pos h]; exact ⟨F', τ1, r, E', e1, q.mono s'⟩
  · next h => rw [if_neg h]; exact ⟨F', τ1, r, E', e1, q.mono s'⟩
theorem sss_nil : SSs X [] fNext := fun F₀ H₀ => PSs.weak pss_nil fun D σ H ⟨F, τ, r, E, e1, q⟩ => by
  cases e1
  exact q F H σ E (Same.refl _)
theorem sss_cons {st : Stmt} {rest : List Stmt} {t u : FS} (h1 : SS X st t) (h2 : SSs X rest u) : SSs X (st :: rest) (fSeq t u) := fun F₀ H₀ => PSs.weak (pss_cons (h1 F₀ H₀) (h2 F₀ H₀)) fun D σ H ⟨F, τ, r, E, e1, q⟩ => by
  obtain ⟨x, e2, e1⟩ := bind_some e1
  refine ⟨F, τ, x, E, e2, ?_⟩
  cases x with
  | nx τ1 => exact fun F1 H1 σ1 E1 s1 => ⟨F1, τ1, r, E1, e1, q.mono s1⟩
  | rt t => cases e1; exact q
  | bk t => cases e1; exact q
  | ct t => cases e1; exact q
theorem sss_one {st : Stmt} {t : FS} (h1 : SS X st t) : SSs X [st] t := fun F₀ H₀ => pss_one (h1 F₀ H₀)
theorem sss_never {st : List Stmt} : SSs X st fNever := fun F₀ H₀ => PSs.weak pss_never fun D σ H ⟨F, τ, r, E, e1, q⟩ => by cases e1
noncomputable def fSet (i : Nat) (f : FE) : FS := fun τ => (f τ).bind fun p => some (.nx (p.2.set i (some (.sh p.1))))
noncomputable def fSetOwn (i : Nat) (g : FA) : FS := fun τ => (g τ).bind fun p => if p.1.length ≤ sizeLine then some (.nx (p.2.set i (some (.own p.1)))) else none
theorem ss_set (i : Nat) {x : Str} {pos' : Pos} (hN : X.N.Nodup) (hi : X.N[i]? = some x) (hx : Loc X.env.scope x) (he : SE X e f) (hs : swapsWith e (some (.Name x pos')) pos.line X.env = pure false := by rfl)
    (hf : X.fn x = true ∨ X.env.scope.names.lookup x = some .local := by first | exact .inl rfl | exact .inr rfl | assumption) : SS X (.Assign [.Name x pos'] e pos) (fSet i f) := fun F₀ H₀ => PS.weak (ps_set hN hi hx (he F₀ H₀) hs hf) fun D σ H ⟨F, τ, r, E, e1, q⟩ => by
  obtain ⟨⟨y, τ1⟩, e2, e1⟩ := bind_some e1
  cases e1
  exact ⟨F, τ, y, τ1, E, e2, fun F' H' v E' s' r' => q F' H' _ (E'.set r') s'⟩
theorem ss_setOwn (i : Nat) {x : Str} {pos' : Pos} {p2 : Pos} (hN : X.N.Nodup) (hi : X.N[i]? = some x) (hx : Loc X.env.scope x) (he : SA X es ga) (hs : swapsWith (.List es p2) (some (.Name x pos')) pos.line X.env = pure false := by rfl)
    (hf : X.fn x = true ∨ X.env.scope.names.lookup x = some .local := by first | exact .inl rfl | exact .inr rfl | assumption) : SS X (.Assign [.Name x pos'] (.List es p2) pos) (fSetOwn i ga) := fun F₀ H₀ => PS.weak (ps_set hN hi hx (pe_lst (he F₀ H₀)) hs hf) fun D σ H ⟨F, τ, r, E, e1, q⟩ => by
  obtain ⟨⟨y, τ1⟩, e2, e1⟩ := bind_some e1
  dsimp only at e1
  split at e1
  · next hl =>
    cases e1
    exact ⟨F, τ, y, τ1, E, e2, fun F' H' vs E' s' r' => ⟨by rw [r'.length]; exact hl, fun p hp => q F' _ _ (E'.setOwn hp r') s'⟩⟩
  · cases e1
noncomputable def tG (K : PySem.W.Frag) (F₀ H₀ : Hp) (fg : FG) : TG := fun v σ H Q => ∃ F τ t τ', EnvOk K F₀ H₀ F H σ τ ∧ Rep K F t v ∧ fg t τ = some τ' ∧ ∀ F' H' σ', EnvOk K F₀ H₀ F' H' σ' τ' → Same F F' → Q σ' H'
noncomputable def tGs (K : PySem.W.Frag) (F₀ H₀ : Hp) (fg : List T → TEnv → Option TEnv) : TGs := fun vs σ H Q => ∃ F τ ts τ', EnvOk K F₀ H₀ F H σ τ ∧ Reps K F ts vs ∧ fg ts τ = some τ' ∧ ∀ F' H' σ', EnvOk K F₀ H₀ F' H' σ' τ' → Same F F' → Q σ' H'
noncomputable def SG (X : Cx) (tg : Expr) (fg : FG) : Prop := ∀ F₀ H₀, PG X tg (tG X.K F₀ H₀ fg)
noncomputable def SGs (X : Cx) (tg : List Expr) (fg : List T → TEnv → Option TEnv) : Prop := ∀ F₀ H₀, PGs X tg (tGs X.K F₀ H₀ fg)
noncomputable def gnName (i : Nat) : FG := fun t τ => some (τ.set i (some (.sh t)))
noncomputable def gnNil : List T → TEnv → Option TEnv
  | [], τ => some τ
  | _ :: _, _ => none
noncomputable def gnCons (g : FG) (gs : List T → TEnv → Option TEnv) : List T → TEnv → Option TEnv
  | [], _ => none
  | t :: ts, τ => (g t τ).bind fun τ1 => gs ts τ1
noncomputable def gnTup (gs : List T → TEnv → Option TEnv) : FG := fun t τ => match t with
  | .tup ts => gs ts τ
  | _ => none
theorem sg_name (i : Nat) {x : Str} (hN : X.N.Nodup) (hi : X.N[i]? = some x) (hx : Loc X.env.scope x) (hf : X.fn x = true ∨ X.env.scope.names.lookup x = some .local := by first | exact .inl rfl | exact .inr rfl | assumption) : SG X (.Name x pos) (gnName i) :=
  fun F₀ H₀ pins s σ H v u Q I r h => pg_name hN hi hx hf pins s σ H v u Q I r (by
    obtain ⟨F, τ, t, τ', E, rt, e1, q⟩ := h
    cases e1
    exact q F H _ (E.set rt) (Same.refl _))
theorem sgs_nil : SGs X [] gnNil := fun F₀ H₀ pins s σ H vs us Q I r h => pgs_nil pins s σ H vs us Q I r (by
  obtain ⟨F, τ, ts, τ', E, rt, e1, q⟩ := h
  cases ts with
  | nil => cases e1; cases rt; exact ⟨rfl, q F H σ E (Same.refl _)⟩
  | cons t ts => cases e1)
theorem sgs_cons {g : FG} {gs : List T → TEnv → Option TEnv} (h1 : SG X e g) (h2 : SGs X es gs) (hs : (assignEach (e :: es) X.env).map (·.2) = assign e X.env :: (assignEach es X.env).map (·.2) := by rfl) : SGs X (e :: es) (gnCons g gs) :=
  fun F₀ H₀ pins s σ H vs us Q I r h => pgs_cons (h1 F₀ H₀) (h2 F₀ H₀) hs pins s σ H vs us Q I r (by
    obtain ⟨F, τ, ts, τ', E, rt, e1, q⟩ := h
    cases ts with
    | nil => cases e1
    | cons t ts =>
      obtain ⟨v, rr, rfl, r1, r2⟩ := rt
      obtain ⟨τ1, e2, e1⟩ := bind_some e1
      exact ⟨v, rr, rfl, F, τ, t, τ1, E, r1, e2, fun F' H' σ' E' s' => ⟨F', τ1, ts, τ', E', Reps.mono s' r2, e1, fun F2 H2 σ2 E2 s2 => q F2 H2 σ2 E2 (s'.trans s2)⟩⟩)
theorem gl_nil : ∀ ts τ τ', gnNil ts τ = some τ' → ts.length = 0 := fun ts τ τ' h => by cases ts <;> first | rfl | cases h
theorem gl_cons {g : FG} {gs : List T → TEnv → Option TEnv} {n : Nat} (h : ∀ ts τ τ', gs ts τ = some τ' → ts.length = n) : ∀ ts τ τ', gnCons g gs ts τ = some τ' → ts.length = n + 1 := fun ts τ τ' e => by
  cases ts with
  | nil => cases e
  | cons t ts =>
    obtain ⟨τ1, e2, e1⟩ := bind_some e
    simp [h _ _ _ e1]
theorem sg_tup {gs : List T → TEnv → Option TEnv} {k : Nat} {n : Nat} (hc : X.calm = true) (h : SGs X es gs) (hl : ∀ ts τ τ', gs ts τ = some τ' → ts.length = n)
    (hn : (assignEach es X.env).length = n := by rfl) (hst : (assignEach es X.env).findIdx? (·.1) = none := by rfl) : SG X (.Tuple es k pos) (gnTup gs) :=
  fun F₀ H₀ pins s σ H v u Q I r h' => pg_tup hc (h F₀ H₀) hn hst pins s σ H v u Q I r (by
    obtain ⟨F, τ, t, τ', E, rt, e1, q⟩ := h'
    unfold gnTup at e1
    split at e1
    · next ts =>
      obtain ⟨p, xs, rfl, h1, h2⟩ := rt
      exact ⟨p, xs, rfl, same_sqT E.g.fh h1, by rw [h2.length]; exact hl _ _ _ e1, F, τ, ts, τ', E, h2, e1, q⟩
    · cases e1)
noncomputable def fAsg (f : FE) (g : FG) : FS := fun τ => (f τ).bind fun p => (g p.1 p.2).bind fun τ' => some (.nx τ')
theorem ss_asg {tg : Expr} {g : FG} (he : SE X e f) (hg : SG X tg g) (hs : swapsWithSole [tg] e pos.line X.env = pure false := by rfl) (hw : swappedStores [tg] e X.env = pure none := by rfl)
    (h1 : (assignEach [tg] X.env).map (·.2) = [assign tg X.env] := by rfl) : SS X (.Assign [tg] e pos) (fAsg f g) := fun F₀ H₀ => PS.weak (ps_asg (he F₀ H₀) (hg F₀ H₀) hs hw h1) fun D σ H ⟨F, τ, r, E, e1, q⟩ => by
  obtain ⟨⟨y, τ1⟩, e2, e1⟩ := bind_some e1
  obtain ⟨τ2, e3, e1⟩ := bind_some e1
  cases e1
  exact ⟨F, τ, y, τ1, E, e2, fun F' H' v E' s' r' => ⟨F', τ1, y, τ2, E', r', e3, fun F2 H2 σ2 E2 s2 => q F2 H2 σ2 E2 (s'.trans s2)⟩⟩
noncomputable def fPar (i j : Nat) (g : FA) : FS := fun τ => (g τ).bind fun p => match p.1 with
  | [v, w] => some (.nx ((p.2.set i (some (.sh v))).set j (some (.sh w))))
  | _ => none
theorem ss_par {i j : Nat} {x y : Str} {px py pt : Pos} {kt k2 pt2} (hc : X.calm = true) (hN : X.N.Nodup) (hi : X.N[i]? = some x) (hj : X.N[j]? = some y) (hij : i ≠ j)
    (hx : X.env.scope.names.lookup x = some .local) (hy : X.env.scope.names.lookup y = some .local) (ha : SA X [a, b] ga)
    (hw : swappedStores [.Tuple [.Name x px, .Name y py] kt pt] (.Tuple [a, b] k2 pt2) X.env = pure (some [x, y]))
    (hs : swapsWithSole [.Tuple [.Name x px, .Name y py] kt pt] (.Tuple [a, b] k2 pt2) pos.line X.env = pure false := by rfl) :
    SS X (.Assign [.Tuple [.Name x px, .Name y py] kt pt] (.Tuple [a, b] k2 pt2) pos) (fPar i j ga) := fun F₀ H₀ => PS.weak (ps_par hc hN hi hj hij hx hy (ha F₀ H₀) hw hs) fun D σ H ⟨F, τ, r, E, e1, q⟩ => by
  obtain ⟨⟨ts, τ1⟩, e2, e1⟩ := bind_some e1
  dsimp only at e1
  split at e1
  · next v w =>
    cases e1
    refine ⟨F, τ, _, τ1, E, e2, fun F' H' vs E' s' r' => ?_⟩
    obtain ⟨v1, r1, rfl, q1, v2, r2, rfl, q2, rfl⟩ := r'
    exact ⟨v1, v2, rfl, q F' H' _ ((E'.set q1).set q2) s'⟩
  · cases e1

structure Walks (K : PySem.W.Frag) (F : Hp) (ts : List T) (J : It) : Prop where
  go : ∀ (i : Nat) t F1 H1, ts[i]? = some t → Same F F1 → Same F1 H1 → J.go i H1
  yld : ∀ (i : Nat) t F1 H1 x H2, ts[i]? = some t → Same F F1 → Same F1 H1 → J.yld i H1 x H2 → ∃ F2, Grow F1 H1 F2 H2 ∧ Rep K F2 t x
  stop : ∀ F1 H1, Same F F1 → Same F1 H1 → J.stop ts.length H1
noncomputable def tI (K : PySem.W.Frag) (F₀ H₀ : Hp) (fi : FA) : TI := fun σ H R => ∃ F τ ts τ', EnvOk K F₀ H₀ F H σ τ ∧ fi τ = some (ts, τ') ∧ ∀ F' H' J, EnvOk K F₀ H₀ F' H' σ τ' → Same F F' → Walks K F' ts J → R J H'
noncomputable def SI (X : Cx) (tg iter : Expr) (fi : FA) : Prop := ∀ F₀ H₀, PI X tg iter (tI X.K F₀ H₀ fi)
noncomputable def loopT (fg : FG) (fb : FS) : List T → FS
  | [], τ => some (.nx τ)
  | t :: ts, τ => (fg t τ).bind fun τ1 => (fb τ1).bind fun r => match r with
    | .nx τ2 => loopT fg fb ts τ2
    | .ct τ2 => loopT fg fb ts τ2
    | .bk τ2 => some (.nx τ2)
    | .rt v => some (.rt v)
noncomputable def fFor (fi : FA) (fg : FG) (fb : FS) : FS := fun τ => (fi τ).bind fun p => loopT fg fb p.1 p.2
theorem ss_for {tg iter : Expr} {body : List Stmt} {fi : FA} {fg : FG} {fb : FS} (hp : PassesOwn (model X.prog X.w) X.A X.env X.xe) (hc : X.calm = true) (hi : SI X tg iter fi) (hg : SG X tg fg) (hb : SSs X body fb)
    (hs : ∀ x, foldedSetIterable iter X.env x = pure x := by intro _; rfl) : SS X (.For tg iter body [] pos) (fFor fi fg fb) := fun F₀ H₀ => PS.weak (ps_for hp hc (hi F₀ H₀) (hg F₀ H₀) (hb F₀ H₀) hs) fun D σ H ⟨F, τ, r, E, e1, q⟩ => by
  obtain ⟨⟨ts, τ1⟩, e2, e1⟩ := bind_some e1
  refine ⟨F, τ, ts, τ1, E, e2, fun F' H' J E' s' W => ?_⟩
  refine ⟨fun i m σ H => m = ts.length - i ∧ i ≤ ts.length ∧ ∃ F1 τ1, EnvOk X.K F₀ H₀ F1 H σ τ1 ∧ Same F' F1 ∧ loopT fg fb (ts.drop i) τ1 = some r, ⟨_, rfl, Nat.zero_le _, F', τ1, E', Same.refl _, e1⟩, ?_⟩
  rintro i m σ1 H1 ⟨rfl, hi, F1, τ2, E1, s1, e3⟩
  by_cases hlt : i < ts.length
  · have hd : ts.drop i = ts[i] :: ts.drop (i + 1) := List.drop_eq_getElem_cons hlt
    have hg : ts[i]? = some ts[i] := List.getElem?_eq_getElem hlt
    rw [hd] at e3
    obtain ⟨τ3, e4, e3⟩ := bind_some e3
    obtain ⟨r', e5, e3⟩ := bind_some e3
    refine .inr ⟨W.go i _ F1 H1 hg s1 E1.g.fh, fun σ H => ∃ F1 τ1, EnvOk X.K F₀ H₀ F1 H σ τ1 ∧ Same F' F1 ∧ loopT fg fb (ts.drop (i + 1)) τ1 = some r, fun σ' H' n => ⟨_, by omega, rfl, hlt, n⟩, fun x H2 y => ?_⟩
    obtain ⟨F2, gr, rx⟩ := W.yld i _ F1 H1 x H2 hg s1 E1.g.fh y
    refine ⟨F2, τ2, ts[i], τ3, E1.grow gr, rx, e4, fun F3 H3 σ3 E3 s3 => ⟨F3, τ3, r', E3, e5, ?_⟩⟩
    have s03 : Same F' F3 := s1.trans (gr.sF.trans s3)
    cases r' with
    | nx τ4 => exact fun F4 H4 σ4 E4 s4 => ⟨F4, τ4, E4, s03.trans s4, e3⟩
    | ct τ4 => exact fun F4 H4 σ4 E4 s4 => ⟨F4, τ4, E4, s03.trans s4, e3⟩
    | bk τ4 => cases e3; exact fun F4 H4 σ4 E4 s4 => q F4 H4 σ4 E4 (s'.trans (s03.trans s4))
    | rt v => cases e3; exact q
  · have he : i = ts.length := by omega
    subst he
    rw [List.drop_length] at e3
    cases e3
    exact .inl ⟨W.stop F1 H1 s1 E1.g.fh, q F1 H1 σ1 E1 (s'.trans s1)⟩
theorem PI.weak {tg it : Expr} {t t' : TI} (h : PI X tg it t) (i : ∀ σ H R, t' σ H R → t σ H R) : PI X tg it t' := fun pins s σ H R I q => h pins s σ H R I (i σ H R q)
noncomputable def upTo (lo : Int) : Nat → List T
  | 0 => []
  | n + 1 => .int lo :: upTo (lo + 1) n
theorem upTo_length : ∀ (n : Nat) (lo : Int), (upTo lo n).length = n
  | 0, _ => rfl
  | n + 1, lo => by simp [upTo, upTo_length n]
theorem upTo_get : ∀ (n : Nat) (lo : Int) (i : Nat), i < n → (upTo lo n)[i]? = some (.int (lo + i))
  | 0, _, _, h => by omega
  | n + 1, lo, 0, _ => by simp [upTo]
  | n + 1, lo, i + 1, h => by
    simp only [upTo, List.getElem?_cons_succ]
    rw [upTo_get n (lo + 1) i (by omega)]
    congr 2
    push_cast
    omega
noncomputable def fiRng1 (g : FA) : FA := fun τ => (g τ).bind fun p => match p.1 with
  | [.int j] => if -(2 ^ 62) ≤ j ∧ j < 2 ^ 62 then some (upTo 0 j.toNat, p.2) else none
  | _ => none
theorem walks_rng {K : PySem.W.Frag} {F : Hp} (lo : Int) (n : Nat) : Walks K F (upTo lo n) (Itr lo n) := by
  have hl : ∀ {i : Nat} {t : T}, (upTo lo n)[i]? = some t → i < n := fun {i t} e => by
    have := (List.getElem?_eq_some_iff.mp e).1
    rwa [upTo_length] at this
  refine ⟨fun i t F1 H1 e s1 s2 => hl e, fun i t F1 H1 x H2 e s1 s2 y => ?_, fun F1 H1 s1 s2 => by show n ≤ _; rw [upTo_length]; exact Nat.le_refl _⟩
  obtain ⟨rfl, rfl⟩ := y
  rw [upTo_get n lo i (hl e)] at e
  cases e
  exact ⟨F1, Grow.refl s2, rfl⟩
theorem si_rng1 {tg : Expr} {p : Pos} (hg : Gl X "range") (hm : X.mg "range" = none) (ha : SA X [a] ga) (hs : starEach [a] X.env = [(false, eval a X.env)] := by rfl) : SI X tg (.Call (.Name "range" p) [a] [] pos) (fiRng1 ga) :=
  fun F₀ H₀ => PI.weak (pi_range1 hg hm (ha F₀ H₀) hs) fun σ H R ⟨F, τ, ts, τ', E, e1, q⟩ => by
    obtain ⟨⟨x, τ1⟩, e2, e1⟩ := bind_some e1
    dsimp only at e1
    split at e1
    · split at e1
      · next hb =>
        cases e1
        refine ⟨F, τ, _, τ', E, e2, fun F' H' vs E' s' r' => ?_⟩
        obtain ⟨v, r, rfl, q1, rfl⟩ := r'
        cases q1
        exact ⟨_, rfl, hb.1, hb.2, q F' H' _ E' s' (walks_rng 0 _)⟩
      · cases e1
    · cases e1
noncomputable def whileT (ft : FT) (fb : FS) : Nat → FS
  | 0, _ => none
  | n + 1, τ => (ft τ).bind fun p => if p.1 = true then (fb p.2).bind fun r => match r with
    | .nx τ2 => whileT ft fb n τ2
    | .ct τ2 => whileT ft fb n τ2
    | .bk τ2 => some (.nx τ2)
    | .rt v => some (.rt v) else some (.nx p.2)
theorem ss_while (n : Nat) {c : Expr} {body : List Stmt} {ft : FT} {fb : FS} (hp : PassesOwn (model X.prog X.w) X.A X.env X.xe) (hc : ST X c ft) (hb : SSs X body fb) : SS X (.While c body [] pos) (whileT ft fb n) := fun F₀ H₀ => PS.weak (ps_while hp (hc F₀ H₀) (hb F₀ H₀)) fun D σ H ⟨F, τ, r, E, e1, q⟩ => by
  refine ⟨fun m σ H => ∃ F1 τ1, EnvOk X.K F₀ H₀ F1 H σ τ1 ∧ Same F F1 ∧ whileT ft fb m τ1 = some r, ⟨n, F, τ, E, Same.refl _, e1⟩, ?_⟩
  rintro m σ1 H1 ⟨F1, τ1, E1, s1, e2⟩
  cases m with
  | zero => cases e2
  | succ m =>
    obtain ⟨⟨x, τ2⟩, e3, e2⟩ := bind_some e2
    refine ⟨F1, τ1, x, τ2, E1, e3, fun F2 H2 E2 s2 => ?_⟩
    dsimp only at e2
    split at e2
    · next h =>
      rw [if_pos h]
      obtain ⟨r', e4, e2⟩ := bind_some e2
      refine ⟨fun σ H => ∃ F1 τ1, EnvOk X.K F₀ H₀ F1 H σ τ1 ∧ Same F F1 ∧ whileT ft fb m τ1 = some r, fun σ' H' n => ⟨m, Nat.lt_succ_self m, n⟩, F2, τ2, r', E2, e4, ?_⟩
      cases r' with
      | nx τ4 => exact fun F4 H4 σ4 E4 s4 => ⟨F4, τ4, E4, (s1.trans s2).trans s4, e2⟩
      | ct τ4 => exact fun F4 H4 σ4 E4 s4 => ⟨F4, τ4, E4, (s1.trans s2).trans s4, e2⟩
      | bk τ4 => cases e2; exact fun F4 H4 σ4 E4 s4 => q F4 H4 σ4 E4 ((s1.trans s2).trans s4)
      | rt v => cases e2; exact q
    · next h =>
      rw [if_neg h]
      cases e2
      exact q F2 H2 σ1 E2 (s1.trans s2)
noncomputable def fApp (i : Nat) (f : FE) : FS := fun τ => match τ[i]? with
  | some (some (.own _)) => (f τ).bind fun p => match p.2[i]? with
    | some (some (.own ts)) => if ts.length < sizeLine then some (.nx (p.2.set i (some (.own (ts ++ [p.1]))))) else none
    | _ => none
  | _ => none
end
noncomputable def dOf (m n : Nat) (fb : FS) : List T → Option T := fun ts => if ts.length = n then (fb (ts.map (fun t => some (Sl.sh t)) ++ List.replicate (m - n) none)).bind fun r => match r with
  | .rt t => some t
  | .nx _ => some .non
  | _ => none else none
theorem env_start {K : PySem.W.Frag} {F H : Hp} {N : List Str} {vs : List V} {ts : List T} (s : Same F H) (r : Reps K F ts vs) : EnvOk K F H F H (start N vs) (ts.map (fun t => some (Sl.sh t)) ++ List.replicate (N.length - ts.length) none) := by
  have hl := r.length
  have key : ∀ (i : Nat) (sl : Sl), (ts.map (fun t => some (Sl.sh t)) ++ List.replicate (N.length - ts.length) none)[i]? = some (some sl) → ∃ t, ts[i]? = some t ∧ sl = .sh t := fun i sl e => by
    by_cases h : i < ts.length
    · rw [List.getElem?_append_left (by simpa using h), List.getElem?_map, List.getElem?_eq_getElem h] at e
      simp at e
      exact ⟨ts[i], List.getElem?_eq_getElem h, e.symm⟩
    · rw [List.getElem?_append_right (by simp; omega), List.getElem?_replicate] at e
      split at e <;> cases e
  refine ⟨Grow.refl s, by simp [L2.start, hl], fun i sl e => ?_, fun i j us ws p _ e1 _ _ => ?_⟩
  · obtain ⟨t, e1, rfl⟩ := key i sl e
    obtain ⟨v, g1, g2⟩ := r.get e1
    refine ⟨v, ?_, g2⟩
    have hi : i < vs.length := (List.getElem?_eq_some_iff.mp g1).1
    unfold L2.start
    rw [List.getElem?_append_left (by simpa using hi), List.getElem?_map, g1]
    rfl
  · obtain ⟨t, _, e⟩ := key i _ e1
    cases e
section
variable {P : Program} {w : World} {K : PySem.W.Frag} {mg : Str → Option Value} {base : Heap}
theorem def_of {x qual : Str} {st : Stmt} {f : Addr} {fd : FuncData} {N ps : List Str} {k : Nat} {fb : FS} (F : Fun K x qual st f fd) (S : FnScope N ps (defScope st)) (hb : Binds K fd ps []) (hm : mg x = some (.ref f))
    (h : ∀ (cdv : Value) (A : Around) (outer : List Env) (s : Shared) (H : Hp) (E : XK), Room k (A.deeper (envOfC qual (defScope st) s.heap.objs.size f cdv)) → SSs (cxOf CX0 P w K mg base N qual (defScope st) f cdv A outer s H E).nox (defBody st) fb) :
    Def P w K mg base (k + 1) x ps.length (dOf N.length ps.length fb) := by
  refine ⟨f, fd, ps, F.ok S (fun vs H Q E z => z.1) (fun cdv A outer s H vs Q E hr z => ?_), hb, F.kp, hm, rfl⟩
  obtain ⟨hl, F1, ts, t, sm, r, e, q⟩ := z
  unfold dOf at e
  split at e
  · next hn =>
    obtain ⟨r', e1, e⟩ := bind_some e
    refine ⟨_, h cdv A outer s H E hr F1 H, F1, _, r', ?_, e1, ?_⟩
    · have := env_start (N := N) sm r
      rw [hn] at this
      exact this
    · cases r' with
      | rt u => cases e; exact fun F' H' v g r' => q F' H' v g r'
      | nx τ => cases e; exact fun F' H' σ' E' s' => q F' H' .non E'.g rfl
      | bk τ => cases e
      | ct τ => cases e
  · cases e
end
end TM

set_option Elab.async false
set_option linter.all false
set_option maxRecDepth 100000
namespace TM
open PySem PySem.Spec PyProof.Rows L2
noncomputable def B : Nat := 2 ^ 4000
theorem B_log {n : Nat} (h : n < B) : n.log2 < 4000 := by
  rcases Nat.eq_zero_or_pos n with h0 | hp
  · rw [h0]; decide
  · exact (Nat.log2_lt (Nat.ne_of_gt hp)).mpr h
theorem bits_B {i : Int} (h : i.natAbs < B) : Builtin.Int.intBits i ≤ 4000 := by
  unfold Builtin.Int.intBits
  split
  · omega
  · have := B_log h
    omega
theorem mul_B {i j : Int} (hi : i.natAbs < B) (hj : j.natAbs < B) : IntMulOk i j := by
  have h1 := bits_B hi
  have h2 := bits_B hj
  unfold IntMulOk
  have h3 : Builtin.Int.intTooBig (Builtin.Int.intBits i + Builtin.Int.intBits j) = false := by
    unfold Builtin.Int.intTooBig
    have hb : ((bitsLine : Nat) : Int) = 134217728 := by decide
    rw [decide_eq_false]
    show ¬ ((Builtin.Int.intBits i : Int) + (Builtin.Int.intBits j : Int) > ((bitsLine : Nat) : Int))
    rw [hb]
    omega
  rw [h3]
  simp
section
variable {X : Cx}
noncomputable def gI (C : Int → Int → Prop) [∀ i j, Decidable (C i j)] (g : Int → Int → T) : T → T → Option T := fun a b => match a, b with
  | .int i, .int j => if C i j then some (g i j) else none
  | _, _ => none
theorem gI_int {C : Int → Int → Prop} [∀ i j, Decidable (C i j)] {g : Int → Int → T} {i j : Int} : gI C g (.int i) (.int j) = if C i j then some (g i j) else none := rfl
theorem opT_I {f : Value → Value → Sem Value} {C : Int → Int → Prop} [∀ i j, Decidable (C i j)] {g : Int → Int → T} {gv : Int → Int → V} (h : OpR X f (rI C gv)) (hg : ∀ K F i j, Rep K F (g i j) (gv i j)) : OpT X f (gI C g) := by
  intro pins s σ H x y v u Q I rx ry ⟨F, a, b, t, sm, ra, rb, e, q⟩
  unfold gI at e
  split at e
  · cases ra
    cases rb
    split at e
    · next hc =>
      cases e
      exact h pins s σ H _ _ v u Q I rx ry ⟨_, _, rfl, rfl, hc, q F H _ (Grow.refl sm) (hg _ _ _ _)⟩
    · cases e
  · cases e
theorem opT_I0 {f : Value → Value → Sem Value} {g : Int → Int → T} {gv : Int → Int → V} (h : OpR X f (rI0 gv)) (hg : ∀ K F i j, Rep K F (g i j) (gv i j)) : OpT X f (gI (fun _ _ => True) g) :=
  opT_I (fun pins s σ H x y v u Q I rx ry ⟨i, j, e1, e2, _, q⟩ => h pins s σ H x y v u Q I rx ry ⟨i, j, e1, e2, q⟩) hg
noncomputable def gOr (g g' : T → T → Option T) : T → T → Option T := fun a b => match g a b with
  | some t => some t
  | none => g' a b
theorem OpT.or {f : Value → Value → Sem Value} {g g' : T → T → Option T} (h : OpT X f g) (h' : OpT X f g') : OpT X f (gOr g g') := by
  intro pins s σ H x y v u Q I rx ry ⟨F, a, b, t, sm, ra, rb, e, q⟩
  unfold gOr at e
  split at e
  · next t' e' => cases e; exact h pins s σ H x y v u Q I rx ry ⟨F, a, b, _, sm, ra, rb, e', q⟩
  · exact h' pins s σ H x y v u Q I rx ry ⟨F, a, b, t, sm, ra, rb, e, q⟩
noncomputable def CMulB (i j : Int) : Prop := i.natAbs < B ∧ j.natAbs < B
noncomputable instance (i j : Int) : Decidable (CMulB i j) := inferInstanceAs (Decidable (_ ∧ _))
noncomputable def CDivB (i j : Int) : Prop := j ≠ 0 ∧ j.natAbs < B
noncomputable instance (i j : Int) : Decidable (CDivB i j) := inferInstanceAs (Decidable (_ ∧ _))
noncomputable def CNz (i j : Int) : Prop := j ≠ 0
noncomputable instance (i j : Int) : Decidable (CNz i j) := inferInstanceAs (Decidable (_ ≠ _))
noncomputable instance (i j : Int) : Decidable (CPow i j) := inferInstanceAs (Decidable (_ ∧ _ ∧ _))
noncomputable abbrev gSub := gI (fun _ _ => True) fun i j => .int (i - j)
noncomputable abbrev gMulI := gI CMulB fun i j => .int (i * j)
noncomputable abbrev gDiv := gI CDivB fun i j => .int (i.fdiv j)
noncomputable abbrev gMod := gI CNz fun i j => .int (i.fmod j)
noncomputable abbrev gPow := gI CPow fun i j => .int (i ^ j.toNat)
noncomputable abbrev gLt := gI (fun _ _ => True) fun i j => .bl (decide (i < j))
noncomputable abbrev gGt := gI (fun _ _ => True) fun i j => .bl (decide (j < i))
noncomputable abbrev gGe := gI (fun _ _ => True) fun i j => .bl (decide (j ≤ i))
theorem ot_sub : OpT X (binaryOp .Sub) gSub := opT_I0 op_sub fun _ _ _ _ => rfl
theorem ot_mulI : OpT X (binaryOp .Mult) gMulI := opT_I (C := CMulB) (gv := fun i j => .int (i * j)) (opI fun _ _ _ _ _ _ _ hc q => mul_int q (mul_B hc.1 hc.2)) fun _ _ _ _ => rfl
theorem ot_div : OpT X (binaryOp .FloorDiv) gDiv := opT_I (C := CDivB) (gv := fun i j => .int (i.fdiv j)) (opI fun _ _ _ _ _ _ _ hc q => floordiv_int hc.1 q (.inl (PyProof.noPylong_of_log2 (Nat.lt_trans (B_log hc.2) (by decide : 4000 < 9000))))) fun _ _ _ _ => rfl
theorem ot_mod : OpT X (binaryOp .Mod) gMod := opT_I (C := CNz) (gv := fun i j => .int (i.fmod j)) op_modN fun _ _ _ _ => rfl
theorem ot_pow : OpT X (binaryOp .Pow) gPow := opT_I (C := CPow) op_pow fun _ _ _ _ => rfl
theorem ot_lt : OpT X (compareOp .Lt) gLt := opT_I0 op_lt fun _ _ _ _ => rfl
theorem ot_gt : OpT X (compareOp .Gt) gGt := opT_I0 op_gt fun _ _ _ _ => rfl
theorem ot_ge : OpT X (compareOp .GtE) gGe := opT_I0 op_ge fun _ _ _ _ => rfl
noncomputable def gAddS : T → T → Option T
  | .str x, .str y => if x.length + y.length ≤ sizeLine then some (.str (x ++ y)) else none
  | .lst xs, .lst ys => if xs.length + ys.length ≤ sizeLine then some (.lst (xs ++ ys)) else none
  | .tup (x :: xs), .tup (y :: ys) => if (x :: xs).length + (y :: ys).length ≤ sizeLine then some (.tup (x :: xs ++ y :: ys)) else none
  | _, _ => none
theorem ot_addS : OpT X (binaryOp .Add) gAddS := by
  intro pins s σ H x y v u Q I rx ry ⟨F, a, b, t, sm, ra, rb, e, q⟩
  unfold gAddS at e
  split at e
  · split at e
    · next hl =>
      cases e; cases ra; cases rb
      exact op_add_str pins s σ H _ _ v u Q I rx ry ⟨_, _, rfl, rfl, hl, q F H _ (Grow.refl sm) rfl⟩
    · cases e
  · split at e
    · next hl =>
      cases e
      obtain ⟨p1, x1, rfl, h1, h2⟩ := ra
      obtain ⟨p2, x2, rfl, h3, h4⟩ := rb
      refine op_cat pins s σ H _ _ v u Q I rx ry ⟨p1, p2, x1, x2, rfl, rfl, sm _ _ h1, sm _ _ h3, by rw [h2.length, h4.length]; exact hl, fun p hp => ?_⟩
      have gr := Grow.new (.lst (x1 ++ x2)) sm hp
      exact q _ _ _ gr ⟨p, _, rfl, upd_same, Reps.mono gr.sF (h2.append h4)⟩
    · cases e
  · split at e
    · next hl =>
      cases e
      obtain ⟨p1, x1, rfl, h1, h2⟩ := ra
      obtain ⟨p2, x2, rfl, h3, h4⟩ := rb
      refine op_catT pins s σ H _ _ v u Q I rx ry ⟨p1, p2, x1, x2, rfl, rfl, same_sqT sm h1, same_sqT sm h3, fun z => ?_, by rw [h2.length, h4.length]; exact hl, fun z => ?_, fun _ p hp => ?_⟩
      · subst z; have := h2.length; simp at this
      · subst z; have := h4.length; simp at this
      · have gr := Grow.new (.tup (x1 ++ x2)) sm hp
        exact q _ _ _ gr ⟨p, _, rfl, SqT.of upd_same, Reps.mono gr.sF (h2.append h4)⟩
    · cases e
  · cases e
noncomputable def gAdd : T → T → Option T := gOr (gI (fun _ _ => True) fun i j => .int (i + j)) gAddS
theorem ot_add : OpT X (binaryOp .Add) gAdd := OpT.or (opT_I0 op_add fun _ _ _ _ => rfl) ot_addS
theorem gAdd_int {i j : Int} : gAdd (.int i) (.int j) = some (.int (i + j)) := rfl
theorem gAdd_lst {xs ys : List T} (h : xs.length + ys.length ≤ sizeLine) : gAdd (.lst xs) (.lst ys) = some (.lst (xs ++ ys)) := by
  show gAddS (.lst xs) (.lst ys) = _
  simp only [gAddS, if_pos h]
theorem gAdd_tup {x y : T} {xs ys : List T} (h : (x :: xs).length + (y :: ys).length ≤ sizeLine) : gAdd (.tup (x :: xs)) (.tup (y :: ys)) = some (.tup (x :: xs ++ y :: ys)) := by
  show gAddS (.tup (x :: xs)) (.tup (y :: ys)) = _
  simp only [gAddS, if_pos h]
noncomputable def gNeg : T → Option T
  | .int i => some (.int (-i))
  | _ => none
theorem ut_neg : UnT X (unaryOp .USub) gNeg := by
  intro pins s σ H x v Q I rx ⟨F, a, t, sm, ra, e, q⟩
  unfold gNeg at e
  split at e
  · cases e; cases ra
    exact un_neg pins s σ H _ v Q I rx ⟨_, rfl, q F H _ (Grow.refl sm) rfl⟩
  · cases e
mutual
noncomputable def toP : T → Option PyData
  | .non => some .none
  | .bl b => some (.bool b)
  | .int i => some (.int i)
  | .str x => some (.str x)
  | .tup ts => (toPs ts).map .tuple
  | .lst ts => (toPs ts).map .list
  | .scr ts => (toPs ts).map .list
  | .ty _ => none
  | .dic => none
  | .obj _ _ _ => none
  | .ptr _ => none
noncomputable def toPs : List T → Option (List PyData)
  | [] => some []
  | t :: ts => (toP t).bind fun d => (toPs ts).bind fun ds => some (d :: ds)
end
mutual
theorem reads_of {pins : List (Addr × Obj)} {σ : L2.St} {H F : Hp} {s : Shared} (I : Inv X pins σ H s) (sm : Same F H) : ∀ {t : T} {d : PyData} {v : V} {u : Value}, toP t = some d → Rep X.K F t v → RelV v u → ∃ as, Reads s.heap u d as
  | .non, d, v, u, e, r, ru => by cases r; cases e; cases ru; exact ⟨_, .none⟩
  | .bl b, d, v, u, e, r, ru => by cases r; cases e; cases ru; exact ⟨_, .bool _⟩
  | .int i, d, v, u, e, r, ru => by cases r; cases e; obtain ⟨t, rfl⟩ := ru; exact ⟨_, .int _ _⟩
  | .str x, d, v, u, e, r, ru => by cases r; cases e; obtain ⟨t, rfl⟩ := ru; exact ⟨_, .str _ _⟩
  | .ty _, d, v, u, e, r, ru => by cases e
  | .dic, d, v, u, e, r, ru => by cases e
  | .obj _ _ _, d, v, u, e, r, ru => by cases e
  | .ptr _, d, v, u, e, r, ru => by cases e
  | .tup ts, d, v, u, e, r, ru => by
    obtain ⟨p, xs, rfl, h1, h2⟩ := r
    cases ru
    simp only [toP] at e
    cases e1 : toPs ts with
    | none => rw [e1] at e; cases e
    | some ds =>
      rw [e1] at e; cases e
      obtain ⟨its, rv, ⟨o, g1, g2, n, g3⟩, _⟩ := I.tuple (same_sqT sm h1)
      obtain ⟨as, q⟩ := readsAll_of I sm e1 h2 rv
      exact ⟨_, .tuple g1 g2 g3 q⟩
  | .lst ts, d, v, u, e, r, ru => by
    obtain ⟨p, xs, rfl, h1, h2⟩ := r
    cases ru
    simp only [toP] at e
    cases e1 : toPs ts with
    | none => rw [e1] at e; cases e
    | some ds =>
      rw [e1] at e; cases e
      obtain ⟨its, rv, ⟨o, n, g1, g2, _, g3⟩, _⟩ := I.list (SqL.of (sm _ _ h1))
      obtain ⟨as, q⟩ := readsAll_of I sm e1 h2 rv
      exact ⟨_, .list g1 g2 g3 q⟩
  | .scr ts, d, v, u, e, r, ru => by
    obtain ⟨p, xs, rfl, h1, h2⟩ := r
    cases ru
    simp only [toP] at e
    cases e1 : toPs ts with
    | none => rw [e1] at e; cases e
    | some ds =>
      rw [e1] at e; cases e
      obtain ⟨its, rv, ⟨o, n, g1, g2, _, g3⟩, _⟩ := I.list (sm.seq h1)
      obtain ⟨as, q⟩ := readsAll_of I sm e1 h2 rv
      exact ⟨_, .list g1 g2 g3 q⟩
theorem readsAll_of {pins : List (Addr × Obj)} {σ : L2.St} {H F : Hp} {s : Shared} (I : Inv X pins σ H s) (sm : Same F H) : ∀ {ts : List T} {ds : List PyData} {vs : List V} {us : List Value}, toPs ts = some ds → Reps X.K F ts vs → Vals vs us → ∃ as, ReadsAll s.heap us ds as
  | [], ds, vs, us, e, r, ru => by cases r; cases ru; cases e; exact ⟨_, .nil⟩
  | t :: ts, ds, vs, us, e, r, ru => by
    obtain ⟨v, rr, rfl, h1, h2⟩ := r
    cases ru with
    | cons r1 r2 =>
      simp only [toPs] at e
      obtain ⟨d, e1, e⟩ := bind_some e
      obtain ⟨ds', e2, e⟩ := bind_some e
      cases e
      obtain ⟨as, q1⟩ := reads_of I sm e1 h1 r1
      obtain ⟨bs, q2⟩ := readsAll_of I sm e2 h2 r2
      exact ⟨_, .cons q1 q2⟩
end
noncomputable def gEqW (neg : Bool) (a b : T) : Option T := (toP a).bind fun p => (toP b).bind fun q => if SeqAt.shaped p = true ∧ SeqAt.shaped q = true then some (.bl (if neg then !PyData.eqv p q else PyData.eqv p q)) else none
noncomputable abbrev gEq := gEqW false
noncomputable abbrev gNe := gEqW true
theorem ot_eq (hu : X.A.units + 64 < cLine) : OpT X (compareOp .Eq) gEq := by
  intro pins s σ H x y v u Q I rx ry ⟨F, a, b, t, sm, ra, rb, e, q⟩
  obtain ⟨d1, e1, e⟩ := bind_some e
  obtain ⟨d2, e2, e⟩ := bind_some e
  split at e
  · next hs =>
    cases e
    obtain ⟨as, q1⟩ := reads_of I sm e1 ra rx
    obtain ⟨bs, q2⟩ := reads_of I sm e2 rb ry
    exact SeqAt.compareEq_shaped q1 q2 hs.1 hs.2 hu ⟨.bl _, H, I, rfl, q F H _ (Grow.refl sm) rfl⟩
  · cases e
theorem ot_ne (hu : X.A.units + 64 < cLine) : OpT X (compareOp .NotEq) gNe := by
  intro pins s σ H x y v u Q I rx ry ⟨F, a, b, t, sm, ra, rb, e, q⟩
  obtain ⟨d1, e1, e⟩ := bind_some e
  obtain ⟨d2, e2, e⟩ := bind_some e
  split at e
  · next hs =>
    cases e
    obtain ⟨as, q1⟩ := reads_of I sm e1 ra rx
    obtain ⟨bs, q2⟩ := reads_of I sm e2 rb ry
    exact SeqAt.compareNe_shaped q1 q2 hs.1 hs.2 hu ⟨.bl _, H, I, rfl, q F H _ (Grow.refl sm) rfl⟩
  · cases e
noncomputable def isNon : T → Bool
  | .non => true
  | _ => false
noncomputable def gIs : T → T → Option T
  | a, .non => some (.bl (isNon a))
  | .bl c, .bl d => some (.bl (c == d))
  | _, _ => none
theorem isNon_rep {K : PySem.W.Frag} {F : Hp} {t : T} {v : V} (r : Rep K F t v) : decide (v = .non) = isNon t := by
  cases t with
  | non => cases r; rfl
  | bl _ => cases r; rfl
  | int _ => cases r; rfl
  | str _ => cases r; rfl
  | ty _ => cases r; rfl
  | tup _ => obtain ⟨p, xs, rfl, _⟩ := r; rfl
  | lst _ => obtain ⟨p, xs, rfl, _⟩ := r; rfl
  | scr _ => obtain ⟨p, xs, rfl, _⟩ := r; rfl
  | dic => obtain ⟨p, rfl, _⟩ := r; rfl
  | obj _ _ _ => obtain ⟨p, _, _, rfl, _⟩ := r; rfl
  | ptr _ => rw [show v = _ from r]; rfl
theorem ot_is : OpT X (compareOp .Is) gIs := by
  intro pins s σ H x y v u Q I rx ry ⟨F, a, b, t, sm, ra, rb, e, q⟩
  unfold gIs at e
  split at e
  · cases e; cases rb
    exact op_isN pins s σ H _ _ v u Q I rx ry ⟨rfl, by rw [isNon_rep ra]; exact q F H _ (Grow.refl sm) rfl⟩
  · cases e; cases ra; cases rb; cases rx; cases ry
    exact is_bool ⟨.bl _, H, I, rfl, q F H _ (Grow.refl sm) rfl⟩
  · cases e
noncomputable def gIx : T → T → Option T
  | .lst ts, .int i => atI ts i
  | .scr ts, .int i => atI ts i
  | .tup ts, .int i => atI ts i
  | .str x, .int i => if x.length ≤ sizeLine then (atI x.cps.toList i).map fun c => .str ⟨#[c]⟩ else none
  | _, _ => none
theorem atI_rep {K : PySem.W.Frag} {F : Hp} {ts : List T} {vs : List V} {i : Int} {t : T} (r : Reps K F ts vs) (e : atI ts i = some t) : ∃ v, atI vs i = some v ∧ Rep K F t v := by
  unfold atI at e ⊢
  rw [r.length]
  obtain ⟨j, e1, e2⟩ := bind_some e
  obtain ⟨v, g1, g2⟩ := r.get e2
  exact ⟨v, by rw [e1]; exact g1, g2⟩
theorem xt_ix : IxR X (rT2 X.K gIx) := by
  intro value slice pins s σ H x y v u Q I rx ry ⟨F, a, b, t, sm, ra, rb, e, q⟩ hs
  unfold gIx at e
  split at e
  · obtain ⟨p, xs, rfl, h1, h2⟩ := ra
    cases rb
    obtain ⟨w, g1, g2⟩ := atI_rep h2 e
    exact ix_list value slice pins s σ H _ _ v u Q I rx ry ⟨p, xs, _, w, rfl, rfl, SqL.of (sm _ _ h1), g1, q F H _ (Grow.refl sm) g2⟩ hs
  · obtain ⟨p, xs, rfl, h1, h2⟩ := ra
    cases rb
    obtain ⟨w, g1, g2⟩ := atI_rep h2 e
    exact ix_list value slice pins s σ H _ _ v u Q I rx ry ⟨p, xs, _, w, rfl, rfl, sm.seq h1, g1, q F H _ (Grow.refl sm) g2⟩ hs
  · obtain ⟨p, xs, rfl, h1, h2⟩ := ra
    cases rb
    obtain ⟨w, g1, g2⟩ := atI_rep h2 e
    exact ix_tup value slice pins s σ H _ _ v u Q I rx ry ⟨p, xs, _, w, rfl, rfl, same_sqT sm h1, g1, q F H _ (Grow.refl sm) g2⟩ hs
  · split at e
    · next hl =>
      cases ra; cases rb
      cases e1 : atI (Str.cps _).toList _ with
      | none => rw [e1] at e; cases e
      | some c =>
        rw [e1] at e; cases e
        exact ix_str value slice pins s σ H _ _ v u Q I rx ry ⟨_, _, c, rfl, rfl, hl, e1, q F H _ (Grow.refl sm) rfl⟩ hs
    · cases e
  · cases e
theorem callT_of {f : Value} {r : List V → Hp → VK → Prop} {g : List T → Option T} (h : CallR X f r) (i : ∀ vs H Q, rTs X.K g vs H Q → r vs H Q) : CallT X f g := fun pins s σ H xs us Q I rx q => h pins s σ H xs us Q I rx (i _ _ _ q)
noncomputable def dLen : List T → Option T
  | [.lst ts] => some (.int ts.length)
  | [.scr ts] => some (.int ts.length)
  | [.tup ts] => some (.int ts.length)
  | [.str x] => if x.length ≤ sizeLine then some (.int x.length) else none
  | _ => none
theorem ct_len : CallT X (.builtin "len") dLen := callT_of (CallR.or call_len_seq call_len_str) fun vs H Q ⟨F, ts, t, sm, r, e, q⟩ => by
  unfold dLen at e
  split at e
  · obtain ⟨v, rr, rfl, ⟨p, xs, rfl, h1, h2⟩, rfl⟩ := r
    cases e
    exact .inl ⟨p, xs, rfl, .inl (SqL.of (sm _ _ h1)), by rw [h2.length]; exact q F H _ (Grow.refl sm) rfl⟩
  · obtain ⟨v, rr, rfl, ⟨p, xs, rfl, h1, h2⟩, rfl⟩ := r
    cases e
    exact .inl ⟨p, xs, rfl, .inl (sm.seq h1), by rw [h2.length]; exact q F H _ (Grow.refl sm) rfl⟩
  · obtain ⟨v, rr, rfl, ⟨p, xs, rfl, h1, h2⟩, rfl⟩ := r
    cases e
    exact .inl ⟨p, xs, rfl, .inr (same_sqT sm h1), by rw [h2.length]; exact q F H _ (Grow.refl sm) rfl⟩
  · split at e
    · next hl =>
      obtain ⟨v, rr, rfl, h1, rfl⟩ := r
      cases h1; cases e
      exact .inr ⟨_, rfl, hl, q F H _ (Grow.refl sm) rfl⟩
    · cases e
  · cases e
noncomputable def dAbs : List T → Option T
  | [.int i] => some (.int (if i < 0 then -i else i))
  | _ => none
theorem ct_abs : CallT X (.builtin "abs") dAbs := callT_of call_abs fun vs H Q ⟨F, ts, t, sm, r, e, q⟩ => by
  unfold dAbs at e
  split at e
  · obtain ⟨v, rr, rfl, h1, rfl⟩ := r
    cases h1; cases e
    exact ⟨_, rfl, q F H _ (Grow.refl sm) rfl⟩
  · cases e
noncomputable def dMax : List T → Option T
  | [.int i, .int j] => some (.int (if j > i then j else i))
  | _ => none
noncomputable def dMin : List T → Option T
  | [.int i, .int j] => some (.int (if j < i then j else i))
  | _ => none
theorem ct_max (hc : X.calm = true) : CallT X (.builtin "max") dMax := callT_of (call_max2 hc) fun vs H Q ⟨F, ts, t, sm, r, e, q⟩ => by
  unfold dMax at e
  split at e
  · obtain ⟨v, rr, rfl, h1, v2, r2, rfl, h2, rfl⟩ := r
    cases h1; cases h2; cases e
    exact ⟨_, _, rfl, q F H _ (Grow.refl sm) rfl⟩
  · cases e
theorem ct_min (hc : X.calm = true) : CallT X (.builtin "min") dMin := callT_of (call_min2 hc) fun vs H Q ⟨F, ts, t, sm, r, e, q⟩ => by
  unfold dMin at e
  split at e
  · obtain ⟨v, rr, rfl, h1, v2, r2, rfl, h2, rfl⟩ := r
    cases h1; cases h2; cases e
    exact ⟨_, _, rfl, q F H _ (Grow.refl sm) rfl⟩
  · cases e
noncomputable def dStr : List T → Option T
  | [.int i] => if i.natAbs.log2 < 1920 then some (.str (toString i)) else none
  | _ => none
theorem ct_str : CallT X (.type "str") dStr := callT_of call_str_int fun vs H Q ⟨F, ts, t, sm, r, e, q⟩ => by
  unfold dStr at e
  split at e
  · split at e
    · next hl =>
      obtain ⟨v, rr, rfl, h1, rfl⟩ := r
      cases h1; cases e
      exact ⟨_, rfl, hl, q F H _ (Grow.refl sm) rfl⟩
    · cases e
  · cases e
noncomputable def dList : List T → Option T
  | [.lst ts] => some (.lst ts)
  | [.scr ts] => some (.lst ts)
  | [.tup ts] => some (.lst ts)
  | _ => none
theorem ct_list : CallT X (.type "list") dList := callT_of call_list_of fun vs H Q ⟨F, ts, t, sm, r, e, q⟩ => by
  unfold dList at e
  split at e
  · obtain ⟨v, rr, rfl, ⟨p, xs, rfl, h1, h2⟩, rfl⟩ := r
    cases e
    refine ⟨p, xs, rfl, .inl (SqL.of (sm _ _ h1)), fun l hl => ?_⟩
    have gr := Grow.new (.lst xs) sm hl
    exact q _ _ _ gr ⟨l, xs, rfl, upd_same, Reps.mono gr.sF h2⟩
  · obtain ⟨v, rr, rfl, ⟨p, xs, rfl, h1, h2⟩, rfl⟩ := r
    cases e
    refine ⟨p, xs, rfl, .inl (sm.seq h1), fun l hl => ?_⟩
    have gr := Grow.new (.lst xs) sm hl
    exact q _ _ _ gr ⟨l, xs, rfl, upd_same, Reps.mono gr.sF h2⟩
  · obtain ⟨v, rr, rfl, ⟨p, xs, rfl, h1, h2⟩, rfl⟩ := r
    cases e
    refine ⟨p, xs, rfl, .inr (same_sqT sm h1), fun l hl => ?_⟩
    have gr := Grow.new (.lst xs) sm hl
    exact q _ _ _ gr ⟨l, xs, rfl, upd_same, Reps.mono gr.sF h2⟩
  · cases e
noncomputable def tyN : T → Option String
  | .non => some "NoneType"
  | .bl _ => some "bool"
  | .int _ => some "int"
  | .str _ => some "str"
  | .tup _ => some "tuple"
  | .lst _ => some "list"
  | .scr _ => some "list"
  | .dic => some "dict"
  | .obj _ _ _ => none
  | .ptr _ => none
  | .ty _ => none
noncomputable def kinds : List String := ["int", "bool", "str", "list", "tuple", "dict"]
noncomputable def isK (a c : String) : Option Bool := if c ∈ kinds then some (a == c || (a == "bool" && c == "int")) else none
noncomputable def isKs (a : String) : List T → Option Bool
  | [] => some false
  | .ty c :: r => (isK a c).bind fun b => if b = true then some true else isKs a r
  | _ :: _ => none
theorem kit_of {K : PySem.W.Frag} {t : T} {a c : String} {b : Bool} (ha : tyN t = some a) (h : isK a c = some b) : PySem.W.kitOne K (.type a) (.type c) = some b := by
  have ha : a ∈ ["NoneType", "bool", "int", "str", "tuple", "list", "dict"] := by
    cases t <;> simp only [tyN] at ha <;> cases ha <;> simp
  unfold isK at h
  split at h
  · next hc =>
    cases h
    simp only [kinds, List.mem_cons, List.not_mem_nil, or_false] at hc ha
    rcases ha with rfl | rfl | rfl | rfl | rfl | rfl | rfl <;> rcases hc with rfl | rfl | rfl | rfl | rfl | rfl <;> rfl
  · cases h
theorem kits_of {K : PySem.W.Frag} {F : Hp} {t : T} {a : String} (ha : tyN t = some a) : ∀ {cs : List T} {vs : List V} {us : List Value} {b : Bool}, isKs a cs = some b → Reps K F cs vs → Vals vs us → PySem.W.kitAny K (.type a) us = some b
  | [], vs, us, b, h, r, ru => by cases r; cases ru; cases h; rfl
  | .ty c :: cs, vs, us, b, h, r, ru => by
    obtain ⟨v, rr, rfl, h1, h2⟩ := r
    cases h1
    cases ru with
    | cons r1 r2 =>
      cases r1
      obtain ⟨b', e1, h⟩ := bind_some h
      unfold PySem.W.kitAny
      rw [kit_of ha e1]
      cases b' with
      | true => rw [if_pos rfl] at h; exact h
      | false => rw [if_neg (by decide)] at h; exact kits_of ha h h2 r2
  | .non :: cs, vs, us, b, h, r, ru => by cases h
  | .bl _ :: cs, vs, us, b, h, r, ru => by cases h
  | .int _ :: cs, vs, us, b, h, r, ru => by cases h
  | .str _ :: cs, vs, us, b, h, r, ru => by cases h
  | .tup _ :: cs, vs, us, b, h, r, ru => by cases h
  | .lst _ :: cs, vs, us, b, h, r, ru => by cases h
  | .scr _ :: cs, vs, us, b, h, r, ru => by cases h
  | .dic :: cs, vs, us, b, h, r, ru => by cases h
  | .obj _ _ _ :: cs, vs, us, b, h, r, ru => by cases h
  | .ptr _ :: cs, vs, us, b, h, r, ru => by cases h
theorem kitx_rep {pins : List (Addr × Obj)} {σ : L2.St} {H F : Hp} {s : Shared} {t : T} {v : V} {u : Value} {a : String} (I : Inv X pins σ H s) (sm : Same F H) (r : Rep X.K F t v) (ru : RelV v u) (ha : tyN t = some a) :
    ∃ Hh : Heap → Prop, PySem.W.KitX X.K u (.type a) Hh ∧ Hh s.heap ∧ u ≠ .builtin "__main__.__loader__#opaque" := by
  cases t with
  | non => cases r; cases ru; cases ha; exact ⟨_, PySem.W.kitx_none, True.intro, fun z => nomatch z⟩
  | bl _ => cases r; cases ru; cases ha; exact ⟨_, PySem.W.kitx_bool, True.intro, fun z => nomatch z⟩
  | int _ => cases r; obtain ⟨t, rfl⟩ := ru; cases ha; exact ⟨_, PySem.W.kitx_int, True.intro, fun z => nomatch z⟩
  | str _ => cases r; obtain ⟨t, rfl⟩ := ru; cases ha; exact ⟨_, PySem.W.kitx_str, True.intro, fun z => nomatch z⟩
  | ty _ => cases ha
  | tup _ =>
    obtain ⟨p, xs, rfl, h1, h2⟩ := r
    cases ru; cases ha
    obtain ⟨its, rv, ⟨o, g1, g2, n, g3⟩, _⟩ := I.tuple (same_sqT sm h1)
    exact ⟨_, PySem.W.kitx_tuple, ⟨o, g1, g2⟩, fun z => nomatch z⟩
  | lst _ =>
    obtain ⟨p, xs, rfl, h1, h2⟩ := r
    cases ru; cases ha
    obtain ⟨its, rv, ⟨o, n, g1, g2, _, g3⟩, _⟩ := I.list (SqL.of (sm _ _ h1))
    exact ⟨_, PySem.W.kitx_list, ⟨o, g1, g2⟩, fun z => nomatch z⟩
  | scr _ =>
    obtain ⟨p, xs, rfl, h1, h2⟩ := r
    cases ru; cases ha
    obtain ⟨its, rv, ⟨o, n, g1, g2, _, g3⟩, _⟩ := I.list (sm.seq h1)
    exact ⟨_, PySem.W.kitx_list, ⟨o, g1, g2⟩, fun z => nomatch z⟩
  | dic =>
    obtain ⟨p, rfl, h1⟩ := r
    cases ru; cases ha
    obtain ⟨_, _, vs, _, o, es, ep, h1, h2, _⟩ := (show ObjOk X.prog X.w H s.heap p (.dK []) from I.hok p _ (sm _ _ h1))
    exact ⟨_, PySem.W.kitx_dict, ⟨o, h1, h2.1⟩, fun z => nomatch z⟩
  | obj _ _ _ => cases ha
  | ptr _ => cases ha
noncomputable def dIsi : List T → Option T
  | [t, .ty c] => (tyN t).bind fun a => (isK a c).bind fun b => some (.bl b)
  | [t, .tup cs] => (tyN t).bind fun a => (isKs a cs).bind fun b => some (.bl b)
  | _ => none
theorem ct_isi : CallT X (.builtin "isinstance") dIsi := by
  intro pins s σ H xs us Q I rx ⟨F, ts, t, sm, r, e, q⟩
  unfold dIsi at e
  split at e
  · obtain ⟨a, e1, e⟩ := bind_some e
    obtain ⟨b, e2, e⟩ := bind_some e
    cases e
    obtain ⟨v, rr, rfl, h1, v2, r2, rfl, h2, rfl⟩ := r
    cases h2
    obtain ⟨u1, u2, rfl, ra, rb⟩ := Vals.two rx
    cases rb
    obtain ⟨Hh, Z, hh, hn⟩ := kitx_rep I sm h1 ra e1
    exact PySem.W.kia_one Z I.kIn hh (kit_of e1 e2) hn fun tk => ⟨.bl b, H, I.tok tk, rfl, q F H _ (Grow.refl sm) rfl⟩
  · obtain ⟨a, e1, e⟩ := bind_some e
    obtain ⟨b, e2, e⟩ := bind_some e
    cases e
    obtain ⟨v, rr, rfl, h1, v2, r2, rfl, ⟨p, xs, rfl, h3, h4⟩, rfl⟩ := r
    obtain ⟨u1, u2, rfl, ra, rb⟩ := Vals.two rx
    cases rb
    obtain ⟨Hh, Z, hh, hn⟩ := kitx_rep I sm h1 ra e1
    obtain ⟨its, rv, ⟨o, g1, g2, n, g3⟩, _⟩ := I.tuple (same_sqT sm h3)
    obtain ⟨oc, od, odt, osl⟩ := o
    dsimp only at g2 g3
    subst g2 g3
    exact PySem.W.kia_tup Z I.kIn hh g1 (kits_of e1 e2 h4 rv) hn fun tk => ⟨.bl b, H, I.tok tk, rfl, q F H _ (Grow.refl sm) rfl⟩
  · cases e
end
end TM

set_option Elab.async false
set_option linter.all false
set_option maxRecDepth 100000
namespace TM
open PySem PySem.Spec PyProof.Rows L2

section
variable {X : Cx} {pos : Pos}
noncomputable def tDic : TE := fun _ H Q => ∀ p, H p = none → Q (.ref p) (upd H p (.dK []))
theorem pe_dic (hb : ∀ pins σ H s, Inv X pins σ H s → sysModules < s.heap.objs.size) : PE X (.Dict [] [] pos) tDic := fun pins s σ H Q I h =>
  wpAny_Dict_empty ⟨.ref s.heap.objs.size, _, I.laid (a := s.heap.objs.size) (o := .dK []) (t' := s.toks) (fun _ _ z => Heap.get?_push_of_some _ z) (Nat.le_refl _)
    ⟨Nat.zero_le _, beq_eq_false_iff_ne.mpr (Nat.ne_of_gt (hb _ _ _ _ I)), [], .nil, Heap.DictOf.new s.heap⟩, rfl, h _ I.fresh⟩
theorem big_of {pins : List (Addr × Obj)} {σ : L2.St} {H : Hp} {s : Shared} (I : Inv X pins σ H s) : sysModules < s.heap.objs.size := by
  obtain ⟨mb, h1, _⟩ := I.mod.blt
  have h2 := (h1.keeps I.bk).lt
  have h3 : (sysModules : Nat) < builtinsNs ∨ ¬ (sysModules : Nat) < builtinsNs := Nat.lt_or_ge _ _ |>.imp id (fun h => Nat.not_lt.mpr h)
  have h4 := (I.mod.glob.keeps I.bk).lt
  first
    | exact Nat.lt_of_le_of_lt (by decide) h2
    | exact Nat.lt_of_le_of_lt (by decide) h4
noncomputable def fDic : FE := fun τ => some (.dic, τ)
theorem se_dic : SE X (.Dict [] [] pos) fDic := fun F₀ H₀ => PE.weak (pe_dic fun _ _ _ _ I => big_of I) fun σ H Q ⟨F, τ, t, τ', E, e1, q⟩ => by
  cases e1
  intro p hp
  have gr := Grow.new (.dK []) E.g.fh hp
  exact q _ _ _ (E.grow gr) gr.sF ⟨p, rfl, upd_same⟩

noncomputable abbrev FO := TEnv → Option (Option Int × TEnv)
noncomputable def tO (K : PySem.W.Frag) (F₀ H₀ : Hp) (f : FO) : TO := fun σ H Q => ∃ F τ o τ', EnvOk K F₀ H₀ F H σ τ ∧ f τ = some (o, τ') ∧ ∀ F' H', EnvOk K F₀ H₀ F' H' σ τ' → Same F F' → Q o H'
noncomputable def SO (X : Cx) (e : Option Expr) (f : FO) : Prop := ∀ F₀ H₀, PO X e (tO X.K F₀ H₀ f)
noncomputable def fNoPart : FO := fun τ => some (none, τ)
noncomputable def fPart (f : FE) : FO := fun τ => (f τ).bind fun p => match p.1 with | .int i => some (some i, p.2) | _ => none
theorem PO.weak {e : Option Expr} {t t' : TO} (h : PO X e t) (i : ∀ σ H Q, t' σ H Q → t σ H Q) : PO X e t' := fun pins s σ H Q I q => h pins s σ H Q I (i σ H Q q)
theorem so_none : SO X none fNoPart := fun F₀ H₀ => PO.weak po_none fun σ H Q ⟨F, τ, t, τ', E, e1, q⟩ => by
  cases e1
  exact q F H E (Same.refl _)
theorem so_some {e : Expr} {f : FE} (h : SE X e f) : SO X (some e) (fPart f) := fun F₀ H₀ => PO.weak (po_some (h F₀ H₀)) fun σ H Q ⟨F, τ, t, τ', E, e1, q⟩ => by
  obtain ⟨⟨x, τ1⟩, e2, e1⟩ := bind_some e1
  dsimp only at e1
  split at e1
  · cases e1
    exact ⟨F, τ, _, _, E, e2, fun F' H' v E' s' r' => by cases r'; exact ⟨_, rfl, q F' H' E' s'⟩⟩
  · cases e1
noncomputable def cutT (xs : List T) (lo hi : Option Int) : List T := (xs.drop (HT.sIx xs.length 0 lo)).take (HT.sIx xs.length xs.length hi - HT.sIx xs.length 0 lo)
noncomputable def gSl (t : T) (lo hi : Option Int) : Option T := match t with
  | .lst xs => some (.lst (cutT xs lo hi))
  | .scr xs => some (.lst (cutT xs lo hi))
  | .tup xs => if HT.sIx xs.length 0 lo = 0 ∧ HT.sIx xs.length xs.length hi = xs.length then none else some (.tup (cutT xs lo hi))
  | _ => none
theorem cut_rep {K : PySem.W.Frag} {F : Hp} {ts : List T} {vs : List V} (r : Reps K F ts vs) (lo hi : Option Int) : Reps K F (cutT ts lo hi) (cutV vs lo hi) := by
  unfold cutT cutV
  rw [r.length]
  exact (r.drop _).take _
noncomputable def fSl (f : FE) (fl fh : FO) : FE := fun τ => (f τ).bind fun p => (fl p.2).bind fun q => (fh q.2).bind fun r => (gSl p.1 q.1 r.1).bind fun t => some (t, r.2)
theorem se_slice {e : Expr} {lo hi : Option Expr} {f : FE} {fl fh : FO} {p2 : Pos} (he : SE X e f) (hl : SO X lo fl) (hh : SO X hi fh) : SE X (.Subscript e (.Slice lo hi none p2) pos) (fSl f fl fh) :=
  fun F₀ H₀ => PE.weak (pe_slice (SlR.or sl_list sl_tup) (he F₀ H₀) (hl F₀ H₀) (hh F₀ H₀)) fun σ H Q ⟨F, τ, t, τ', E, e1, q⟩ => by
    obtain ⟨⟨x, τ1⟩, e2, e1⟩ := bind_some e1
    obtain ⟨⟨l, τ2⟩, e3, e1⟩ := bind_some e1
    obtain ⟨⟨h, τ3⟩, e4, e1⟩ := bind_some e1
    obtain ⟨y, e5, e1⟩ := bind_some e1
    cases e1
    refine ⟨F, τ, x, τ1, E, e2, fun F1 H1 v E1 s1 r1 => ⟨F1, τ1, l, τ2, E1, e3, fun F2 H2 E2 s2 => ⟨F2, τ2, h, _, E2, e4, fun F3 H3 E3 s3 => ?_⟩⟩⟩
    have r3 := Rep.mono (s2.trans s3) r1
    have sm := E3.g.fh
    dsimp only at e5
    unfold gSl at e5
    split at e5
    · cases e5
      obtain ⟨p, xs, rfl, h1, h2⟩ := r3
      refine .inl ⟨p, xs, rfl, SqL.of (sm _ _ h1), fun a ha => ?_⟩
      have gr := Grow.new (.lst (cutV xs l h)) sm ha
      exact q _ _ _ (E3.grow gr) (((s1.trans s2).trans s3).trans gr.sF) ⟨a, _, rfl, upd_same, Reps.mono gr.sF (cut_rep h2 l h)⟩
    · cases e5
      obtain ⟨p, xs, rfl, h1, h2⟩ := r3
      refine .inl ⟨p, xs, rfl, sm.seq h1, fun a ha => ?_⟩
      have gr := Grow.new (.lst (cutV xs l h)) sm ha
      exact q _ _ _ (E3.grow gr) (((s1.trans s2).trans s3).trans gr.sF) ⟨a, _, rfl, upd_same, Reps.mono gr.sF (cut_rep h2 l h)⟩
    · split at e5
      · cases e5
      · next hn =>
        cases e5
        obtain ⟨p, xs, rfl, h1, h2⟩ := r3
        refine .inr ⟨p, xs, rfl, same_sqT sm h1, by rw [h2.length]; exact hn, fun a ha => ?_⟩
        have gr := Grow.new (.tup (cutV xs l h)) sm ha
        exact q _ _ _ (E3.grow gr) (((s1.trans s2).trans s3).trans gr.sF) ⟨a, _, rfl, SqT.of upd_same, Reps.mono gr.sF (cut_rep h2 l h)⟩
    · cases e5

theorem ss_append (i : Nat) {x : Str} {p1 p2 p3 : Pos} {e : Expr} {f : FE} (hv : PE X (.Name x p1) (tVar i)) (he : SE X e f)
    (hbase : attributeBase (.Name x p1) "append" X.env (eval (.Name x p1) X.env) = eval (.Name x p1) X.env := by rfl)
    (hfew : ((backTo p3 (starEach [e] X.env)).all (fun x => !x.1) && (backToKw p3 (keywordEach [] X.env)).all (fun x => x.1.isSome) && decide ([e].length + ([] : List Keyword).length + (if ([] : List Keyword).isEmpty then 0 else 1) < 30)) = true := by rfl)
    (hline : (p2.endLine == p3.line) = true := by rfl) (hs : starEach [e] X.env = (false, eval e X.env) :: starEach [] X.env := by rfl) (hpl : (backTo p3 (starEach [] X.env)).any (·.1) = false := by rfl)
    (hsw : swapsWith (.Call (.Attribute (.Name x p1) "append" p2) [e] [] p3) none pos.line X.env = pure false := by rfl) :
    SS X (.Expr (.Call (.Attribute (.Name x p1) "append" p2) [e] [] p3) pos) (fApp i f) := fun F₀ H₀ =>
  PS.weak (ps_expr (pe_bm PySem.F.plainAttrs_list PySem.F.slot_list_append PySem.F.type_list_append mt_append hv (pa_cons (he F₀ H₀) pa_nil hs) hbase hfew hline hs hpl) hsw) fun D σ H ⟨F, τ, r, E, e1, q⟩ => by
    unfold fApp at e1
    split at e1
    · next ts0 h0 =>
      obtain ⟨⟨t, τ1⟩, e2, e1⟩ := bind_some e1
      dsimp only at e1
      split at e1
      · next ts h1 =>
        split at e1
        · next hz =>
          cases e1
          obtain ⟨v, g1, p, vs, rfl, g2, g3, g4, g5⟩ := E.sl i _ h0
          refine ⟨_, g1, .inl ⟨rfl, vs, SqL.of g2⟩, F, τ, t, τ1, E, e2, fun F' H' w E' s' r' => ?_⟩
          obtain ⟨v', k1, p', vs', rfl, k2, k3, k4, k5⟩ := E'.sl i _ h1
          rw [g1] at k1; cases k1
          exact ⟨p, vs', w, rfl, rfl, k2, by rw [k5.length]; exact hz, q F' _ σ (E'.turnOwn h1 g1 (k5.append (.one r'))) s'⟩
        · cases e1
      · cases e1
    · cases e1

noncomputable def ItrS (lo c : Int) (n : Nat) : It := ⟨fun i _ => i < n, fun i H x H' => H' = H ∧ x = .int (lo + i * c), fun i _ => n ≤ i⟩
theorem turn_rangeS {P : Program} {w : World} {K : PySem.W.Frag} {tg : Expr} (it : Addr) (lo c : Int) (n : Nat) : Turn P w K tg (ItrS lo c n) [it] it (fun i h => IsRangeIter h it (lo + (i : Nat) * c) ((n : Int) - (i : Nat)) c) where
  mem := List.mem_singleton_self _
  obj := fun i h st b hb => by
    cases List.mem_singleton.mp hb
    exact ⟨_, st, fun v z => nomatch (show Data.fields _ = Data.cell v from z)⟩
  keep := fun i h h' st k => k it (List.mem_singleton_self _) _ st
  item := fun X hP hw hK hc i pins s σ H E I hf st hg => by
    subst hP hw hK
    obtain ⟨f0, f1, f2, f3, f4, f5⟩ := hf it (List.mem_singleton_self _)
    refine (PySem.Walks.range (prog := X.prog) (w := X.w) (I.ok.hd hc) it lo c n).item i s _ _ hg st fun v h' tk hv st' kk => ?_
    obtain ⟨t, rfl⟩ := hv
    have J : Inv X pins σ H { s with heap := h', toks := tk } := I.turned (fun b o hb e => kk b o (fun z => hb (List.mem_singleton.mp z)) e) f0 f1 f3 f4 f5
    exact ⟨_, rfl, go_of (s := { s with heap := h', toks := tk }) (n := "range_iterator") st' rfl rfl (by decide) ⟨.int (lo + i * c), H, J, ⟨t, rfl⟩, ⟨rfl, rfl⟩, st', fun b hb => (hf b hb).1⟩⟩
  done := fun X hP hw hK hc i pins s σ H E I hf st hg => by
    subst hP hw hK
    obtain ⟨f0, f1, f2, f3, f4, f5⟩ := hf it (List.mem_singleton_self _)
    exact wpAny_pyNext_range_end (I.ok.hd hc) st (by have : n ≤ i := hg; omega) fun h' eb => ⟨rfl, I.turned (t' := s.toks) (fun b o hb e => eb b o hb e) f0 f1 f3 f4 f5⟩
  self := fun _ _ _ _ _ st h => wpAny_pyIter_rangeiter st h
noncomputable def stepsT (lo c : Int) : Nat → List T
  | 0 => []
  | n + 1 => .int lo :: stepsT (lo + c) c n
theorem stepsT_length (c : Int) : ∀ (n : Nat) (lo : Int), (stepsT lo c n).length = n
  | 0, _ => rfl
  | n + 1, lo => by simp [stepsT, stepsT_length c n]
theorem stepsT_get (c : Int) : ∀ (n : Nat) (lo : Int) (i : Nat), i < n → (stepsT lo c n)[i]? = some (.int (lo + i * c))
  | 0, _, _, h => by omega
  | n + 1, lo, 0, _ => by simp [stepsT]
  | n + 1, lo, i + 1, h => by
    simp only [stepsT, List.getElem?_cons_succ]
    rw [stepsT_get c n (lo + c) i (by omega)]
    congr 2
    push_cast
    rw [Int.add_mul]
    omega
theorem walks_rngS {K : PySem.W.Frag} {F : Hp} (lo c : Int) (n : Nat) : Walks K F (stepsT lo c n) (ItrS lo c n) := by
  have hl : ∀ {i : Nat} {t : T}, (stepsT lo c n)[i]? = some t → i < n := fun {i t} e => by
    have := (List.getElem?_eq_some_iff.mp e).1
    rwa [stepsT_length] at this
  refine ⟨fun i t F1 H1 e s1 s2 => hl e, fun i t F1 H1 x H2 e s1 s2 y => ?_, fun F1 H1 s1 s2 => by show n ≤ _; rw [stepsT_length]; exact Nat.le_refl _⟩
  obtain ⟨rfl, rfl⟩ := y
  rw [stepsT_get c n lo i (hl e)] at e
  cases e
  exact ⟨F1, Grow.refl s2, rfl⟩
noncomputable def smallR (a b c : Int) : Prop := (0 ≤ a ∧ a < 2 ^ 62) ∧ (0 ≤ b ∧ b < 2 ^ 62) ∧ (1 ≤ c ∧ c < 2 ^ 29)
noncomputable instance (a b c : Int) : Decidable (smallR a b c) := inferInstanceAs (Decidable ((_ ∧ _) ∧ (_ ∧ _) ∧ _ ∧ _))
theorem small_step {a b c : Int} (h : smallR a b c) : Builtin.Range.small a b c = true := by
  obtain ⟨⟨h1, h2⟩, ⟨h3, h4⟩, h5, h6⟩ := h
  have hq : ∀ x : Int, 0 ≤ x → 0 ≤ x / c ∧ x / c ≤ x := fun x hx => by
    refine ⟨Int.ediv_nonneg hx (by omega), ?_⟩
    exact Int.ediv_le_self _ hx
  unfold Builtin.Range.small Builtin.Range.rangeSize
  simp only [Builtin.Range.rangeFitsLong, Bool.and_eq_true, Bool.or_eq_true, decide_eq_true_eq, beq_iff_eq, show c > 0 by omega, if_true]
  split
  · have := hq (b - a - 1) (by omega)
    omega
  · omega
noncomputable def fiRng3 (g : FA) : FA := fun τ => (g τ).bind fun p => match p.1 with
  | [.int a, .int b, .int c] => if smallR a b c then some (stepsT a c (Builtin.Range.rangeSize a b c).toNat, p.2) else none
  | _ => none
theorem si_rng3 {tg a b c : Expr} {p : Pos} {ga : FA} (hg : Gl X "range") (hm : X.mg "range" = none) (ha : SA X [a, b, c] ga) (hs : starEach [a, b, c] X.env = (false, eval a X.env) :: starEach [b, c] X.env := by rfl)
    (hs2 : (backTo pos (starEach [b, c] X.env)).any (·.1) = false := by rfl) : SI X tg (.Call (.Name "range" p) [a, b, c] [] pos) (fiRng3 ga) := by
  intro F₀ H₀ pins s σ H R I ⟨F, τ, ts, τ', E, e1, q⟩
  obtain ⟨⟨x, τ1⟩, e2, e1⟩ := bind_some e1
  dsimp only at e1
  split at e1
  · next i j k =>
    split at e1
    · next hb =>
      cases e1
      refine Call_ (ld_blt I hg hm boot_range (PyProof.Rows.callWith_type1 (thn (ha F₀ H₀ pos pins s σ H (fun vs H' => vs = [.int i, .int j, .int k] ∧ R (ItrS i k (Builtin.Range.rangeSize i j k).toNat) H') I ⟨F, τ, _, _, E, e2, fun F' H' vs E' s' r' => ?_⟩) fun us s1 ⟨vs, H1, I1, r1, q1⟩ => ?_) hs hs2))
      · obtain ⟨v1, r1, rfl, q1, v2, r2, rfl, q2, v3, r3, rfl, q3, rfl⟩ := r'
        cases q1; cases q2; cases q3
        exact ⟨rfl, q F' H' _ E' s' (walks_rngS i k _)⟩
      · obtain ⟨rfl, q1⟩ := q1
        cases r1 with
        | cons ra rr =>
          cases rr with
          | cons rb rr =>
            cases rr with
            | cons rc rr =>
              cases rr
              obtain ⟨t1, rfl⟩ := ra
              obtain ⟨t2, rfl⟩ := rb
              obtain ⟨t3, rfl⟩ := rc
              have hk : k ≠ 0 := by have := hb.2.2; omega
              refine call_range_3 hk ?_ (.inl (PyProof.noPylong_small (by have := hb.2.2; omega)))
              refine wpAny_pyIter_range (IsRange.new ..) (small_step hb) ?_
              have J : Inv X pins σ H1 { s1 with heap := s1.heap.push { cls := .type "range", data := .fields #[.int i t1, .int j t2, .int k t3] } } := I1.kept (t' := s1.toks) fun b o e => Heap.get?_push_of_some _ e
              refine ⟨_, [_], _, _, H1, rfl, J.kept (t' := s1.toks) fun b o e => Heap.get?_push_of_some _ e, turn_rangeS _ i k (Builtin.Range.rangeSize i j k).toNat, ?_, fun b hb' => ?_, q1⟩
              · have e0 : i + ((0 : Nat) : Int) * k = i := by simp
                have e3 : (((Builtin.Range.rangeSize i j k).toNat : Nat) : Int) - ((0 : Nat) : Int) = Builtin.Range.rangeSize i j k := by
                  have : 0 ≤ Builtin.Range.rangeSize i j k := by
                    unfold Builtin.Range.rangeSize
                    have h5 := hb.2.2.1
                    rw [if_pos (by omega)]
                    split
                    · have := Int.ediv_nonneg (show 0 ≤ j - i - 1 by omega) (show 0 ≤ k by omega)
                      omega
                    · omega
                  omega
                show IsRangeIter _ _ (i + ((0 : Nat) : Int) * k) _ k
                rw [e0, e3]
                exact Heap.get?_push_size _ rfl
              · cases List.mem_singleton.mp hb'
                exact J.fpOk (Nat.le_refl _) (J.hok.fresh (Nat.le_refl _))
    · cases e1
  · cases e1
end
end TM

set_option Elab.async false
set_option linter.all false
set_option maxRecDepth 100000
namespace TM
open PySem PySem.Spec PyProof.Rows L2
noncomputable def ItAt (b : Bool) (h : Heap) (it a : Addr) (i : Nat) : Prop := match b with
  | true => h.IsListIter it a i
  | false => h.IsTupleIter it a i
noncomputable def SqAt (b : Bool) (h : Heap) (a : Addr) (xs : Array Value) : Prop := match b with
  | true => h.IsList a xs
  | false => h.IsTuple a xs
theorem ItAt.ext {b : Bool} {h h' : Heap} {it a : Addr} {i : Nat} (x : ItAt b h it a i) (k : ∀ o, h.get? it = some o → h'.get? it = some o) : ItAt b h' it a i := by
  cases b with
  | true => obtain ⟨o, e, r⟩ := x; exact ⟨o, k o e, r⟩
  | false => obtain ⟨o, e, r⟩ := x; exact ⟨o, k o e, r⟩
theorem SqAt.ext {b : Bool} {h h' : Heap} {a : Addr} {xs : Array Value} (x : SqAt b h a xs) (k : ∀ o, h.get? a = some o → h'.get? a = some o) : SqAt b h' a xs := by
  cases b with
  | true => obtain ⟨o, e, r⟩ := x; exact ⟨o, k o e, r⟩
  | false => obtain ⟨o, e, r⟩ := x; exact ⟨o, k o e, r⟩
theorem ItAt.obj {b : Bool} {h : Heap} {it a : Addr} {i : Nat} (x : ItAt b h it a i) : ∃ o, h.get? it = some o ∧ ∀ v, o.data ≠ .cell v := by
  cases b with
  | true => obtain ⟨o, e, _, d⟩ := x; exact ⟨o, e, fun v z => by rw [d] at z; cases z⟩
  | false => obtain ⟨o, e, _, d⟩ := x; exact ⟨o, e, fun v z => by rw [d] at z; cases z⟩
section
variable {prog : Program} {w : World} {A : Around} {E : Value → Shared → Prop} {s : Shared}
theorem nextOf_item {b : Bool} {it a : Addr} {i : Nat} {xs : Array Value} {x : Value} {Q : Value → Shared → Prop} (h1 : ItAt b s.heap it a i) (h2 : SqAt b s.heap a xs) (hx : xs[i]? = some x)
    (hQ : ∀ h', ItAt b h' it a (i + 1) → Heap.SameBut it s.heap h' → Q x { s with heap := h' }) : wpAny (model prog w) A (Builtin.SmallTypes.nextOf (.ref it)) Q E s := by
  cases b with
  | true => exact wpAny_nextOf_list_item h1 h2 hx hQ
  | false =>
    have h1' : s.heap.IsTupleIter it a i := h1
    obtain ⟨o, ho, hc, hd⟩ := id h1'
    obtain ⟨ol, hol, _, nl, hdl⟩ := (show s.heap.IsTuple a xs from h2)
    unfold Builtin.SmallTypes.nextOf
    refine wpAny_bind (wpAny_callSpecial?_slot (name := Str.ofString "__next__") h1'.typeIs F.slot_tuple_iterator_next (wpAny_call_entry F.slot_tuple_iterator_next h1'.typeIs F.entry_tuple_iterator_next (?_ : wpAny _ _ (field (.ref it) 0 >>= _) _ _ s) (F.args_tuple_iterator_next_1 _)))
    refine wpAny_bind (wpAny_field ho hd (x := .ref a) rfl (?_ : wpAny _ _ (if (Value.ref a == Value.none) = true then _ else _) _ _ s))
    rw [if_neg (show ¬ ((Value.ref a == Value.none) = true) from Bool.false_ne_true)]
    refine (wpAny_bind (wpAny_field ho hd (x := .int i 0) rfl ?_) : wpAny _ _ (field (.ref it) 1 >>= _) _ _ s)
    refine wpAny_bind (wpAny_seqItems (a := a) hol hdl ?_)
    simp only [Int.toNat_natCast, hx]
    refine wpAny_bind (wpAny_setField ho hd (by simp) (wpAny_pure ⟨x, rfl, wpAny_pure (hQ _ ⟨_, Heap.get?_update_self _ ho (Obj.isFreed_of_fields (Obj.data_mapFields hd _)), (Obj.cls_mapFields ..).trans hc, ?_⟩ (Heap.SameBut.update ..))⟩))
    rw [Obj.data_mapFields hd] <;> simp [rawInt]
theorem nextOf_end {b : Bool} {it a : Addr} {i : Nat} {xs : Array Value} {Q : Value → Shared → Prop} (hh : A.handled = none) (h1 : ItAt b s.heap it a i) (h2 : SqAt b s.heap a xs) (hx : xs[i]? = none)
    (hE : ∀ h' e, Heap.ExtBut it s.heap h' → (∃ o, h'.get? e = some o ∧ o.cls = .type "StopIteration") → E (.ref e) { s with heap := h' }) : wpAny (model prog w) A (Builtin.SmallTypes.nextOf (.ref it)) Q E s := by
  cases b with
  | true => exact wpAny_nextOf_list_end hh h1 h2 hx hE
  | false =>
    have h1' : s.heap.IsTupleIter it a i := h1
    obtain ⟨o, ho, hc, hd⟩ := id h1'
    obtain ⟨ol, hol, _, nl, hdl⟩ := (show s.heap.IsTuple a xs from h2)
    unfold Builtin.SmallTypes.nextOf
    refine wpAny_bind (wpAny_callSpecial?_slot (name := Str.ofString "__next__") h1'.typeIs F.slot_tuple_iterator_next (wpAny_call_entry F.slot_tuple_iterator_next h1'.typeIs F.entry_tuple_iterator_next (?_ : wpAny _ _ (field (.ref it) 0 >>= _) _ _ s) (F.args_tuple_iterator_next_1 _)))
    refine wpAny_bind (wpAny_field ho hd (x := .ref a) rfl (?_ : wpAny _ _ (if (Value.ref a == Value.none) = true then _ else _) _ _ s))
    rw [if_neg (show ¬ ((Value.ref a == Value.none) = true) from Bool.false_ne_true)]
    refine (wpAny_bind (wpAny_field ho hd (x := .int i 0) rfl ?_) : wpAny _ _ (field (.ref it) 1 >>= _) _ _ s)
    refine wpAny_bind (wpAny_seqItems (a := a) hol hdl ?_)
    simp only [Int.toNat_natCast, hx]
    refine wpAny_bind (wpAny_rule (wpAny_bind (wpAny_setField ho hd (by simp) (wpAny_bind (m := newExc (.type "StopIteration") []) ?_))))
    simp only [newExc, newTuple]
    refine wpAny_bind (wpAny_newObj_type (wpAny_bind (m := firstArgMember _ _) (wpAny_of_eq (a := Value.none) (by first | rfl | (simp only [firstArgMember]; rfl)) (wpAny_newObj_type ?_ (by size_fits)))) (by size_fits))
    simp only [raiseNew]
    refine wpAny_bind (wpAny_handled ?_)
    first | rw [show A.in1.handled = none from hh] | rw [hh]
    exact wpAny_bind (wpAny_pure (wpAny_throw (hE _ _ (((Heap.SameBut.update ..).extBut.push _).push _) ⟨_, Heap.get?_push_size _ rfl, rfl⟩)))

variable {z TI TO i1 i2 l1 l2 : Addr} {k : Nat} {xs ys : Array Value} {x y a b : Value} {c1 c2 : Bool}
theorem zip_item {Q : Value → Shared → Prop} (D : ZipApart z TI TO i1 i2 l1 l2) (hz : IsZip s.heap z TI TO .none) (hI : IsPair s.heap TI (.ref i1) (.ref i2)) (hO : IsPair s.heap TO a b)
    (h1 : ItAt c1 s.heap i1 l1 k) (h2 : ItAt c2 s.heap i2 l2 k) (g1 : SqAt c1 s.heap l1 xs) (g2 : SqAt c2 s.heap l2 ys) (hx : xs[k]? = some x) (hy : ys[k]? = some y)
    (hQ : ∀ h', IsZip h' z TI TO (rawInt s.heap.objs.size) → IsPair h' TO x y → ItAt c1 h' i1 l1 (k + 1) → ItAt c2 h' i2 l2 (k + 1) → IsPair h' s.heap.objs.size x y →
      (∀ c o, c ≠ z → c ≠ TO → c ≠ i1 → c ≠ i2 → s.heap.get? c = some o → h'.get? c = some o) → Q (.ref s.heap.objs.size) { s with heap := h' }) :
    wpAny (model prog w) A (Builtin.«zip.__next__» ⟨[.ref z], []⟩) (fun fin s' => ∃ v, fin = .done (.ret v) ∧ Q v s') E s := by
  refine (wpAny_bind (wpAny_field hz rfl (x := .bool false) rfl ?_) : wpAny _ _ (field (.ref z) 2 >>= _) _ _ _)
  refine (wpAny_bind (wpAny_field hz rfl (x := .ref TI) rfl ?_) : wpAny _ _ (field (.ref z) 3 >>= _) _ _ _)
  refine wpAny_bind (wpAny_seqItems hI rfl ?_)
  refine (wpAny_bind ?_ : wpAny _ _ (Builtin.SmallTypes.ownedTupleIsFree (.ref z) >>= _) _ _ _)
  unfold Builtin.SmallTypes.ownedTupleIsFree
  refine wpAny_bind (wpAny_field hz rfl (x := .none) rfl (wpAny_pure ?_))
  simp only [if_true]
  refine wpAny_bind (wpAny_rule (wpAny_bind (wpAny_field hz rfl (x := .ref TO) rfl (wpAny_bind (wpAny_setField_rec hz (by simp) fun ha za sa => ?_)))))
  replace za : IsZip ha z TI TO .ellipsis := za
  refine wpAny_bind ?_
  simp only [List.zipIdx_cons, List.zipIdx_nil, List.forIn_cons, List.forIn_nil]
  refine wpAny_bind (wpAny_bind (wpAny_onRaise (?_ : wpAny _ _ (Builtin.SmallTypes.nextOf (.ref i1) >>= _) _ _ _)))
  refine wpAny_bind (nextOf_item (h1.ext fun o e => sa.extBut _ _ D.i1z e) (g1.ext fun o e => sa.extBut _ _ D.l1z e) hx fun hb kb sb => wpAny_pure ?_)
  have Ob : IsPair hb TO a b := sb.extBut _ _ D.TOi1 (sa.extBut _ _ D.TOz hO)
  refine wpAny_bind (wpAny_seqItems Ob rfl (wpAny_bind (wpAny_updateSeq_pair Ob fun hc Oc sc => wpAny_bind (wpAny_letGo (wpAny_pure ?_)))))
  replace Oc : IsPair hc TO x b := Oc
  refine wpAny_bind (wpAny_bind (wpAny_onRaise (?_ : wpAny _ _ (Builtin.SmallTypes.nextOf (.ref i2) >>= _) _ _ _)))
  refine wpAny_bind (nextOf_item (h2.ext fun o e => sc.extBut _ _ D.TOi2.symm (sb.extBut _ _ D.i12.symm (sa.extBut _ _ D.i2z e))) (g2.ext fun o e => sc.extBut _ _ D.l2TO (sb.extBut _ _ D.l2i1 (sa.extBut _ _ D.l2z e))) hy fun hd kd sd => wpAny_pure ?_)
  have Od : IsPair hd TO x b := sd.extBut _ _ D.TOi2 Oc
  refine wpAny_bind (wpAny_seqItems Od rfl (wpAny_bind (wpAny_updateSeq_pair Od fun he Oe se => wpAny_bind (wpAny_letGo (wpAny_pure (wpAny_pure ?_))))))
  replace Oe : IsPair he TO x y := Oe
  refine wpAny_bind (wpAny_seqItems Oe rfl (wpAny_bind (wpAny_newTuple ?_)))
  have ez : he.objs.size = s.heap.objs.size := by rw [se.1, sd.1, sc.1, sb.1, sa.1]
  have ze : IsZip he z TI TO .ellipsis := se.extBut _ _ D.TOz.symm (sd.extBut _ _ D.i2z.symm (sc.extBut _ _ D.TOz.symm (sb.extBut _ _ D.i1z.symm za)))
  have ke : ∀ c o, c ≠ z → c ≠ TO → c ≠ i1 → c ≠ i2 → s.heap.get? c = some o → he.get? c = some o := fun c o n1 n2 n3 n4 e => se.extBut _ _ n2 (sd.extBut _ _ n4 (sc.extBut _ _ n2 (sb.extBut _ _ n3 (sa.extBut _ _ n1 e))))
  have i1e : ItAt c1 he i1 l1 (k + 1) := kb.ext fun o e => se.extBut _ _ D.TOi1.symm (sd.extBut _ _ D.i12 (sc.extBut _ _ D.TOi1.symm e))
  have i2e : ItAt c2 he i2 l2 (k + 1) := kd.ext fun o e => se.extBut _ _ D.TOi2.symm e
  have zlt : z < he.objs.size := Heap.lt_size ze
  refine (wpAny_bind ?_ : wpAny _ _ (Builtin.SmallTypes.ownedTupleHandOut (.ref z) (.ref he.objs.size) >>= _) _ _ _)
  unfold Builtin.SmallTypes.ownedTupleHandOut
  have zf : IsZip (he.push { cls := .type "tuple", data := .seq #[x, y] }) z TI TO .ellipsis := Heap.get?_push_of_some _ ze
  refine wpAny_bind (wpAny_setField_rec zf (by simp) fun hg zg sg => ?_)
  replace zg : IsZip hg z TI TO (rawInt he.objs.size) := zg
  refine wpAny_setField_rec zg (by simp) fun hh zh sh => ?_
  replace zh : IsZip hh z TI TO (rawInt he.objs.size) := zh
  have up : ∀ c o, c ≠ z → he.get? c = some o → hh.get? c = some o := fun c o n e => sh.extBut _ _ n (sg.extBut _ _ n (Heap.get?_push_of_some _ e))
  have tp : IsPair hh he.objs.size x y := sh.extBut _ _ (Nat.ne_of_gt zlt) (sg.extBut _ _ (Nat.ne_of_gt zlt) (Heap.get?_push_size _ rfl))
  rw [ez] at zh tp
  refine wpAny_pure ⟨_, rfl, (?_ : Q (.ref he.objs.size) _)⟩
  rw [ez]
  exact hQ hh zh (up _ _ D.TOz Oe) (i1e.ext fun o e => up _ o D.i1z e) (i2e.ext fun o e => up _ o D.i2z e) tp fun c o n1 n2 n3 n4 e => up c o n1 (ke c o n1 n2 n3 n4 e)
theorem zip_end {Q : Fin → Shared → Prop} (hh : A.handled = none) (D : ZipApart z TI TO i1 i2 l1 l2) (hz : IsZip s.heap z TI TO .none) (hI : IsPair s.heap TI (.ref i1) (.ref i2)) (hO : IsPair s.heap TO a b)
    (h1 : ItAt c1 s.heap i1 l1 k) (h2 : ItAt c2 s.heap i2 l2 k) (g1 : SqAt c1 s.heap l1 xs) (g2 : SqAt c2 s.heap l2 ys) (hend : xs[k]? = none ∨ ys[k]? = none)
    (hE : ∀ h' e, (∀ c o, c ≠ z → c ≠ TO → c ≠ i1 → c ≠ i2 → s.heap.get? c = some o → h'.get? c = some o) → (∃ o, h'.get? e = some o ∧ o.cls = .type "StopIteration") → E (.ref e) { s with heap := h' }) :
    wpAny (model prog w) A (Builtin.«zip.__next__» ⟨[.ref z], []⟩) Q E s := by
  refine (wpAny_bind (wpAny_field hz rfl (x := .bool false) rfl ?_) : wpAny _ _ (field (.ref z) 2 >>= _) _ _ _)
  refine (wpAny_bind (wpAny_field hz rfl (x := .ref TI) rfl ?_) : wpAny _ _ (field (.ref z) 3 >>= _) _ _ _)
  refine wpAny_bind (wpAny_seqItems hI rfl ?_)
  refine (wpAny_bind ?_ : wpAny _ _ (Builtin.SmallTypes.ownedTupleIsFree (.ref z) >>= _) _ _ _)
  unfold Builtin.SmallTypes.ownedTupleIsFree
  refine wpAny_bind (wpAny_field hz rfl (x := .none) rfl (wpAny_pure ?_))
  simp only [if_true]
  refine wpAny_bind (wpAny_rule (wpAny_bind (wpAny_field hz rfl (x := .ref TO) rfl (wpAny_bind (wpAny_setField_rec hz (by simp) fun ha za sa => ?_)))))
  replace za : IsZip ha z TI TO .ellipsis := za
  refine wpAny_bind ?_
  simp only [List.zipIdx_cons, List.zipIdx_nil, List.forIn_cons, List.forIn_nil]
  refine wpAny_bind (wpAny_bind (wpAny_onRaise (?_ : wpAny _ _ (Builtin.SmallTypes.nextOf (.ref i1) >>= _) _ _ _)))
  cases hx : xs[k]? with
  | none =>
    refine wpAny_bind (nextOf_end hh (h1.ext fun o e => sa.extBut _ _ D.i1z e) (g1.ext fun o e => sa.extBut _ _ D.l1z e) hx fun hb e sb eo => ?_)
    obtain ⟨oe, ho, hc⟩ := eo
    have zb : IsZip hb z TI TO .ellipsis := sb _ _ D.i1z.symm za
    have ne : e ≠ z := fun q => by subst q; rw [zb] at ho; cases ho; simp at hc
    exact wpAny_setField_rec zb (by simp) fun hd _ sd => hE hd e (fun c o n1 _ n3 _ q => sd.extBut _ _ n1 (sb _ _ n3 (sa.extBut _ _ n1 q))) ⟨oe, sd.extBut _ _ ne ho, hc⟩
  | some x =>
    have hy : ys[k]? = none := by rcases hend with h | h; rw [hx] at h; cases h; exact h
    refine wpAny_bind (nextOf_item (h1.ext fun o e => sa.extBut _ _ D.i1z e) (g1.ext fun o e => sa.extBut _ _ D.l1z e) hx fun hb kb sb => wpAny_pure ?_)
    have Ob : IsPair hb TO a b := sb.extBut _ _ D.TOi1 (sa.extBut _ _ D.TOz hO)
    refine wpAny_bind (wpAny_seqItems Ob rfl (wpAny_bind (wpAny_updateSeq_pair Ob fun hc Oc sc => wpAny_bind (wpAny_letGo (wpAny_pure ?_)))))
    refine wpAny_bind (wpAny_bind (wpAny_onRaise (?_ : wpAny _ _ (Builtin.SmallTypes.nextOf (.ref i2) >>= _) _ _ _)))
    refine wpAny_bind (nextOf_end hh (h2.ext fun o e => sc.extBut _ _ D.TOi2.symm (sb.extBut _ _ D.i12.symm (sa.extBut _ _ D.i2z e))) (g2.ext fun o e => sc.extBut _ _ D.l2TO (sb.extBut _ _ D.l2i1 (sa.extBut _ _ D.l2z e))) hy fun hd e sd eo => ?_)
    obtain ⟨oe, ho, hk⟩ := eo
    have zd : IsZip hd z TI TO .ellipsis := sd _ _ D.i2z.symm (sc.extBut _ _ D.TOz.symm (sb.extBut _ _ D.i1z.symm za))
    have ne : e ≠ z := fun q => by subst q; rw [zd] at ho; cases ho; simp at hk
    exact wpAny_setField_rec zd (by simp) fun hf _ sf => hE hf e (fun c o n1 n2 n3 n4 q => sf.extBut _ _ n1 (sd _ _ n4 (sc.extBut _ _ n2 (sb.extBut _ _ n3 (sa.extBut _ _ n1 q))))) ⟨oe, sf.extBut _ _ ne ho, hk⟩
theorem zipNext_item {Q : Option Value → Shared → Prop} (D : ZipApart z TI TO i1 i2 l1 l2) (hz : IsZip s.heap z TI TO .none) (hI : IsPair s.heap TI (.ref i1) (.ref i2)) (hO : IsPair s.heap TO a b)
    (h1 : ItAt c1 s.heap i1 l1 k) (h2 : ItAt c2 s.heap i2 l2 k) (g1 : SqAt c1 s.heap l1 xs) (g2 : SqAt c2 s.heap l2 ys) (hx : xs[k]? = some x) (hy : ys[k]? = some y)
    (hQ : ∀ h', IsZip h' z TI TO (rawInt s.heap.objs.size) → IsPair h' TO x y → ItAt c1 h' i1 l1 (k + 1) → ItAt c2 h' i2 l2 (k + 1) → IsPair h' s.heap.objs.size x y →
      (∀ c o, c ≠ z → c ≠ TO → c ≠ i1 → c ≠ i2 → s.heap.get? c = some o → h'.get? c = some o) → Q (some (.ref s.heap.objs.size)) { s with heap := h' }) : wpAny (model prog w) A (pyNext (.ref z)) Q E s := by
  have hT : s.TypeIs (.ref z) "zip" := ⟨_, hz, rfl⟩
  unfold pyNext
  exact wpAny_bind (wpAny_attempt (wpAny_callSpecial?_slot (name := Str.ofString "__next__") hT F.slot_zip_next (wpAny_call_entry F.slot_zip_next hT F.entry_zip_next
    (zip_item D hz hI hO h1 h2 g1 g2 hx hy fun h' a1 a2 a3 a4 a5 a6 => wpAny_pure (hQ h' a1 a2 a3 a4 a5 a6)) (F.args_zip_next_1 _))))
theorem zipNext_end {Q : Option Value → Shared → Prop} (hh : A.handled = none) (D : ZipApart z TI TO i1 i2 l1 l2) (hz : IsZip s.heap z TI TO .none) (hI : IsPair s.heap TI (.ref i1) (.ref i2)) (hO : IsPair s.heap TO a b)
    (h1 : ItAt c1 s.heap i1 l1 k) (h2 : ItAt c2 s.heap i2 l2 k) (g1 : SqAt c1 s.heap l1 xs) (g2 : SqAt c2 s.heap l2 ys) (hend : xs[k]? = none ∨ ys[k]? = none)
    (hQ : ∀ h', (∀ c o, c ≠ z → c ≠ TO → c ≠ i1 → c ≠ i2 → s.heap.get? c = some o → h'.get? c = some o) → Q none { s with heap := h' }) : wpAny (model prog w) A (pyNext (.ref z)) Q E s := by
  have hT : s.TypeIs (.ref z) "zip" := ⟨_, hz, rfl⟩
  unfold pyNext
  refine wpAny_bind (wpAny_attempt (wpAny_callSpecial?_slot (name := Str.ofString "__next__") hT F.slot_zip_next (wpAny_call_entry F.slot_zip_next hT F.entry_zip_next
    (zip_end hh D hz hI hO h1 h2 g1 g2 hend fun h' e hk eo => ?_) (F.args_zip_next_1 _))))
  obtain ⟨o, ho, hc⟩ := eo
  exact wpAny_bind (wpAny_isInstance (T := "StopIteration") (b := true) ⟨o, ho, hc⟩ isSubtype_stop (wpAny_pure (hQ _ hk)))
end
end TM

set_option Elab.async false
set_option linter.all false
set_option maxRecDepth 100000
namespace TM
open PySem PySem.Spec PyProof.Rows L2
noncomputable def itOb (b : Bool) (l : Addr) : Obj := match b with
  | true => { cls := .type "list_iterator", data := .fields #[.ref l, .int 0 0] }
  | false => { cls := .type "tuple_iterator", data := .fields #[.ref l, .int 0 0] }
theorem itOb_at {b : Bool} {l it : Addr} {h : Heap} (e : h.get? it = some (itOb b l)) : ItAt b h it l 0 := by
  cases b with
  | true => exact ⟨_, e, rfl, rfl⟩
  | false => exact ⟨_, e, rfl, rfl⟩
noncomputable abbrev zh1 (h : Heap) (c1 : Bool) (l1 : Addr) : Heap := h.push (itOb c1 l1)
noncomputable abbrev zh2 (h : Heap) (c1 c2 : Bool) (l1 l2 : Addr) : Heap := (zh1 h c1 l1).push (itOb c2 l2)
noncomputable abbrev zh3 (h : Heap) (c1 c2 : Bool) (l1 l2 : Addr) : Heap := (zh2 h c1 c2 l1 l2).push { cls := .type "tuple", data := .seq #[.ref h.objs.size, .ref (zh1 h c1 l1).objs.size] }
noncomputable abbrev zh4 (h : Heap) (c1 c2 : Bool) (l1 l2 : Addr) : Heap := (zh3 h c1 c2 l1 l2).push { cls := .type "tuple", data := .seq #[.none, .none] }
noncomputable abbrev zh5 (h : Heap) (c1 c2 : Bool) (l1 l2 : Addr) : Heap := (zh4 h c1 c2 l1 l2).push { cls := .type "zip", data := .fields #[.none, .bool false, .bool false, .ref (zh2 h c1 c2 l1 l2).objs.size, .ref (zh3 h c1 c2 l1 l2).objs.size] }
noncomputable abbrev ZNew (c1 c2 : Bool) (l1 l2 : Addr) (xs ys : Array Value) : Prop := Meets (Builtin.«zip.__new__» ⟨[.type "zip", .ref l1, .ref l2], []⟩) (fun _ R s => SqAt c1 s.heap l1 xs ∧ SqAt c2 s.heap l2 ys ∧
      R (.ok (.ret (.ref (zh4 s.heap c1 c2 l1 l2).objs.size))) { s with heap := zh5 s.heap c1 c2 l1 l2 })
set_option maxHeartbeats 4000000 in
theorem zip_new_tt (l1 l2 : Addr) (xs ys : Array Value) : ZNew true true l1 l2 xs ys := .of_wp fun prog w A R s h => by
  obtain ⟨hp, g, d, tk, os⟩ := s
  obtain ⟨q1, q2, h⟩ := h
  have hsub := sub_zip
  have p1 : Heap.IsList (Shared.heap ⟨hp, g, d, tk, os⟩) l1 xs := q1
  have p2 : Heap.IsList (Shared.heap ⟨hp.push { cls := .type "list_iterator", data := .fields #[.ref l1, .int 0 0] }, g, d, tk, os⟩) l2 ys := Heap.IsList.push q2 _
  wp_walk using wpAny_pyIter_list p1, wpAny_pyIter_list p2
  exact ⟨_, rfl, h⟩
set_option maxHeartbeats 4000000 in
theorem zip_new_tf (l1 l2 : Addr) (xs ys : Array Value) : ZNew true false l1 l2 xs ys := .of_wp fun prog w A R s h => by
  obtain ⟨hp, g, d, tk, os⟩ := s
  obtain ⟨q1, q2, h⟩ := h
  have hsub := sub_zip
  have p1 : Heap.IsList (Shared.heap ⟨hp, g, d, tk, os⟩) l1 xs := q1
  have p2 : Heap.IsTuple (Shared.heap ⟨hp.push { cls := .type "list_iterator", data := .fields #[.ref l1, .int 0 0] }, g, d, tk, os⟩) l2 ys := Heap.IsTuple.push q2 _
  wp_walk using wpAny_pyIter_list p1, wpAny_pyIter_tuple p2
  exact ⟨_, rfl, h⟩
set_option maxHeartbeats 4000000 in
theorem zip_new_ft (l1 l2 : Addr) (xs ys : Array Value) : ZNew false true l1 l2 xs ys := .of_wp fun prog w A R s h => by
  obtain ⟨hp, g, d, tk, os⟩ := s
  obtain ⟨q1, q2, h⟩ := h
  have hsub := sub_zip
  have p1 : Heap.IsTuple (Shared.heap ⟨hp, g, d, tk, os⟩) l1 xs := q1
  have p2 : Heap.IsList (Shared.heap ⟨hp.push { cls := .type "tuple_iterator", data := .fields #[.ref l1, .int 0 0] }, g, d, tk, os⟩) l2 ys := Heap.IsList.push q2 _
  wp_walk using wpAny_pyIter_tuple p1, wpAny_pyIter_list p2
  exact ⟨_, rfl, h⟩
set_option maxHeartbeats 4000000 in
theorem zip_new_ff (l1 l2 : Addr) (xs ys : Array Value) : ZNew false false l1 l2 xs ys := .of_wp fun prog w A R s h => by
  obtain ⟨hp, g, d, tk, os⟩ := s
  obtain ⟨q1, q2, h⟩ := h
  have hsub := sub_zip
  have p1 : Heap.IsTuple (Shared.heap ⟨hp, g, d, tk, os⟩) l1 xs := q1
  have p2 : Heap.IsTuple (Shared.heap ⟨hp.push { cls := .type "tuple_iterator", data := .fields #[.ref l1, .int 0 0] }, g, d, tk, os⟩) l2 ys := Heap.IsTuple.push q2 _
  wp_walk using wpAny_pyIter_tuple p1, wpAny_pyIter_tuple p2
  exact ⟨_, rfl, h⟩
theorem zip_new_meets (c1 c2 : Bool) (l1 l2 : Addr) (xs ys : Array Value) : ZNew c1 c2 l1 l2 xs ys := by
  cases c1 <;> cases c2
  · exact zip_new_ff l1 l2 xs ys
  · exact zip_new_ft l1 l2 xs ys
  · exact zip_new_tf l1 l2 xs ys
  · exact zip_new_tt l1 l2 xs ys
section
variable {prog : Program} {w : World} {A : Around} {E : Value → Shared → Prop} {s : Shared}
theorem call_zip {c1 c2 : Bool} {l1 l2 : Addr} {xs ys : Array Value} {Q : Value → Shared → Prop} (q1 : SqAt c1 s.heap l1 xs) (q2 : SqAt c2 s.heap l2 ys)
    (h : ∀ h', IsZip h' (s.heap.objs.size + 4) (s.heap.objs.size + 2) (s.heap.objs.size + 3) .none → IsPair h' (s.heap.objs.size + 2) (.ref s.heap.objs.size) (.ref (s.heap.objs.size + 1)) →
      IsPair h' (s.heap.objs.size + 3) .none .none → ItAt c1 h' s.heap.objs.size l1 0 → ItAt c2 h' (s.heap.objs.size + 1) l2 0 → (∀ c o, s.heap.get? c = some o → h'.get? c = some o) → Q (.ref (s.heap.objs.size + 4)) { s with heap := h' }) :
    wpAny (model prog w) A (call (.type "zip") [.ref l1, .ref l2]) Q E s := by
  refine callType_new F.called_zip (by decide) (F.typeCall_zip_2 _ _) (F.newCall_zip_2 _ _) (fun obj => F.args_object_init_3 obj _ _) F.entry_zip_new (zip_new_meets c1 c2 l1 l2 xs ys) ⟨q1, q2, ?_⟩
  have z1 : (zh1 s.heap c1 l1).objs.size = s.heap.objs.size + 1 := Heap.size_push ..
  have z2 : (zh2 s.heap c1 c2 l1 l2).objs.size = s.heap.objs.size + 2 := by rw [Heap.size_push, z1]
  have z3 : (zh3 s.heap c1 c2 l1 l2).objs.size = s.heap.objs.size + 3 := by rw [Heap.size_push, z2]
  have z4 : (zh4 s.heap c1 c2 l1 l2).objs.size = s.heap.objs.size + 4 := by rw [Heap.size_push, z3]
  have p : ∀ {h : Heap} {o : Obj} {c : Addr} {u : Obj}, h.get? c = some u → (h.push o).get? c = some u := fun e => Heap.get?_push_of_some _ e
  have n1 : (itOb c1 l1).isFreed = false := by cases c1 <;> rfl
  have n2 : (itOb c2 l2).isFreed = false := by cases c2 <;> rfl
  have g5 : (zh5 s.heap c1 c2 l1 l2).get? (zh4 s.heap c1 c2 l1 l2).objs.size = some _ := Heap.get?_push_size _ rfl
  have g4 : (zh5 s.heap c1 c2 l1 l2).get? (zh3 s.heap c1 c2 l1 l2).objs.size = some _ := p (Heap.get?_push_size _ rfl)
  have g3 : (zh5 s.heap c1 c2 l1 l2).get? (zh2 s.heap c1 c2 l1 l2).objs.size = some _ := p (p (Heap.get?_push_size _ rfl))
  have g2 : (zh5 s.heap c1 c2 l1 l2).get? (zh1 s.heap c1 l1).objs.size = some (itOb c2 l2) := p (p (p (Heap.get?_push_size _ n2)))
  have g1 : (zh5 s.heap c1 c2 l1 l2).get? s.heap.objs.size = some (itOb c1 l1) := p (p (p (p (Heap.get?_push_size _ n1))))
  show _ ∧ _
  rw [z2, z3, z4] at g5
  rw [z1, z2] at g3
  rw [z3] at g4
  rw [z1] at g2
  rw [z4]
  exact ⟨⟨_, g5, rfl⟩, h _ g5 g3 g4 (itOb_at g1) (itOb_at g2) fun c o x => p (p (p (p (p x))))⟩
end
noncomputable def SqV (b : Bool) (K : PySem.W.Frag) (H : Hp) (a : Addr) (xs : List V) : Prop := match b with
  | true => SqL K H a xs
  | false => SqT K H a xs
noncomputable def Itz (K : PySem.W.Frag) (c1 c2 : Bool) (l1 l2 : Addr) : It :=
  ⟨fun i H => ∃ xs ys x y, SqV c1 K H l1 xs ∧ SqV c2 K H l2 ys ∧ xs[i]? = some x ∧ ys[i]? = some y,
   fun i H v H' => ∃ p x y, v = .ref p ∧ H p = none ∧ H' = upd H p (.tup [x, y]) ∧ (∀ xs, SqV c1 K H l1 xs → xs[i]? = some x) ∧ ∀ ys, SqV c2 K H l2 ys → ys[i]? = some y,
   fun i H => ∃ xs ys, SqV c1 K H l1 xs ∧ SqV c2 K H l2 ys ∧ (xs.length ≤ i ∨ ys.length ≤ i)⟩
section
variable {X : Cx} {pins : List (Addr × Obj)} {σ : L2.St} {H : Hp} {s : Shared}
theorem sqv_at {b : Bool} {a : Addr} {xs : List V} (I : Inv X pins σ H s) (h : SqV b X.K H a xs) : ∃ its : List Value, Vals xs its ∧ SqAt b s.heap a its.toArray := by
  cases b with
  | true => obtain ⟨its, r, p, _⟩ := I.list h; exact ⟨its, r, p.isList⟩
  | false => obtain ⟨its, r, p, _⟩ := I.tuple h; exact ⟨its, r, p⟩
theorem sqv_inj {b : Bool} {a : Addr} {xs ys : List V} (I : Inv X pins σ H s) (h : SqV b X.K H a xs) (h' : SqV b X.K H a ys) : xs = ys := by
  cases b with
  | true => exact I.list_inj h h'
  | false => exact I.tuple_inj h h'
end
structure ZTn (c1 c2 : Bool) (z TI TO i1 i2 l1 l2 : Addr) (i : Nat) (h : Heap) : Prop where
  hz : IsZip h z TI TO .none
  hI : IsPair h TI (.ref i1) (.ref i2)
  hO : ∃ a b, IsPair h TO a b
  h1 : ItAt c1 h i1 l1 i
  h2 : ItAt c2 h i2 l2 i
theorem turned_all {X : Cx} {pins : List (Addr × Obj)} {σ : L2.St} {H : Hp} {s : Shared} {h' : Heap} {fp : List Addr} (I : Inv X pins σ H s) (hf : ∀ b ∈ fp, FpOk X pins H b) (k : ∀ b o, b ∉ fp → s.heap.get? b = some o → h'.get? b = some o) : Inv X pins σ H { s with heap := h' } := by
  have nit : ∀ b u, H b = some u → b ∉ fp := fun b u e z => by rw [(hf b z).1] at e; cases e
  refine I.step (g' := s.gens) (d' := s.drawn) (t' := s.toks) (ch := fp) (fun b hb => ?_) (fun b o _ _ hc e _ => k b o hc e) (fun b o _ _ hc e _ => ⟨o.slots, k b o hc e⟩) (fun _ _ _ _ n => n)
    (fun b o hc e => ⟨o, k b o hc e⟩) (fun _ _ e => e) (fun _ _ _ e => e) (fun b ps e => ⟨#[], by rw [e]; simp⟩) (fun m hm => ?_) (fun b u e => ?_) I.bare
  · obtain ⟨_, f1, _, f3, f4, f5⟩ := hf b hb
    exact ⟨f3, f1, f4, f5⟩
  · obtain ⟨o, es, ep, ho, r⟩ := hm
    exact ⟨o, es, ep, k _ o (fun z => (hf _ z).2.1 rfl) ho, r⟩
  · refine (I.hok b u e).stay (fun c v hc q => k c v ?_ q) (fun _ q => q) fun _ _ q => q
    rcases hc with z | z
    · rw [z]; exact nit b u e
    · exact nit c _ z
theorem turn_zip {P : Program} {w : World} {K : PySem.W.Frag} {elts : List Expr} {kx : Nat} {px : Pos} {c1 c2 : Bool} {z TI TO i1 i2 l1 l2 : Addr} (D : ZipApart z TI TO i1 i2 l1 l2) :
    Turn P w K (.Tuple elts kx px) (Itz K c1 c2 l1 l2) [z, TI, TO, i1, i2] z (ZTn c1 c2 z TI TO i1 i2 l1 l2) where
  mem := by simp
  obj := fun i h st b hb => by
    simp only [List.mem_cons, List.not_mem_nil, or_false] at hb
    rcases hb with rfl | rfl | rfl | rfl | rfl
    · exact ⟨_, st.hz, fun v q => nomatch (show Data.fields _ = Data.cell v from q)⟩
    · exact ⟨_, st.hI, fun v q => nomatch (show Data.seq _ _ = Data.cell v from q)⟩
    · obtain ⟨a, b, e⟩ := st.hO
      exact ⟨_, e, fun v q => nomatch (show Data.seq _ _ = Data.cell v from q)⟩
    · exact st.h1.obj
    · exact st.h2.obj
  keep := fun i h h' st k => by
    obtain ⟨a, b, e⟩ := st.hO
    exact ⟨k z (by simp) _ st.hz, k TI (by simp) _ st.hI, ⟨a, b, k TO (by simp) _ e⟩, st.h1.ext fun o e => k i1 (by simp) o e, st.h2.ext fun o e => k i2 (by simp) o e⟩
  item := fun X hP hw hK hc i pins s σ H E I hf st hg => by
    subst hP hw hK
    obtain ⟨xs, ys, x, y, q1, q2, g1, g2⟩ := hg
    obtain ⟨its, r1, p1⟩ := sqv_at I q1
    obtain ⟨jts, r2, p2⟩ := sqv_at I q2
    obtain ⟨u, e1, ru⟩ := r1.get g1
    obtain ⟨v, e2, rv⟩ := r2.get g2
    obtain ⟨a, b, hO⟩ := st.hO
    refine zipNext_item D st.hz st.hI hO st.h1 st.h2 p1 p2 (x := u) (y := v) (by simpa using e1) (by simpa using e2) fun h' a1 a2 a3 a4 a5 a6 => ⟨_, rfl, ?_⟩
    refine wpAny_letOwnedTupleGo_zip (s := { s with heap := h' }) a1 fun h2 b1 b2 => ?_
    have kp : ∀ b o, b ∉ [z, TI, TO, i1, i2] → s.heap.get? b = some o → h2.get? b = some o := fun b o hb e => by
      simp only [List.mem_cons, List.not_mem_nil, or_false, not_or] at hb
      exact b2.extBut _ _ hb.1 (a6 b o hb.1 hb.2.2.1 hb.2.2.2.1 hb.2.2.2.2 e)
    have lz : z < s.heap.objs.size := Heap.lt_size st.hz
    have pr : IsPair h2 s.heap.objs.size u v := b2.extBut _ _ (Nat.ne_of_gt lz) a5
    have fr : H s.heap.objs.size = none := I.hok.fresh (Nat.le_refl _)
    have hokA : HOk X.prog X.w (upd H s.heap.objs.size (.tup [x, y])) h2 := by
      intro c o e
      by_cases hcz : c = s.heap.objs.size
      · subst hcz
        rw [upd_same] at e; cases e
        exact ⟨by show 2 ≤ sizeLine; decide, [u, v], .cons ru (.cons rv .nil), _, pr, rfl, _, rfl⟩
      · rw [upd_ne hcz] at e
        have nf : ∀ d o', H d = some o' → d ∉ [z, TI, TO, i1, i2] := fun d o' ed hd => by rw [(hf d hd).1] at ed; cases ed
        have up : ∀ d o', H d = some o' → upd H s.heap.objs.size (.tup [x, y]) d = some o' := fun d o' ed => by rw [upd_ne (ne_of_none ed fr)]; exact ed
        refine (I.hok c o e).stay (fun d v' hd q => kp d v' ?_ q) (fun d q => up d _ q) fun d xs q => up d _ q
        rcases hd with rfl | hd
        · exact nf _ o e
        · exact nf d _ hd
    have J : Inv X pins σ (upd H s.heap.objs.size (.tup [x, y])) { s with heap := h2 } := by
      have ne : ∀ b o, s.heap.get? b = some o → b ≠ s.heap.objs.size := fun b o e => Nat.ne_of_lt (Heap.lt_size e)
      refine I.step (g' := s.gens) (d' := s.drawn) (t' := s.toks) (ch := [z, TI, TO, i1, i2]) (fun b hb => ?_) (fun b o _ _ hc e _ => kp b o hc e) (fun b o _ _ hc e _ => ⟨o.slots, kp b o hc e⟩) (fun b o _ e n => by rw [upd_ne (ne b o e)]; exact n)
        (fun b o hc e => ⟨o, kp b o hc e⟩) (fun b xs e => by rw [upd_ne (ne_of_none e fr)]; exact e) (fun b o u e => by rw [upd_ne (ne_of_none e fr)]; exact e) (fun b ps e => ⟨#[], by rw [upd_ne (ne_of_none e fr), e]; simp⟩) (fun m hm => ?_) hokA I.bare
      · obtain ⟨_, f1, _, f3, f4, f5⟩ := hf b hb
        exact ⟨f3, f1, f4, f5⟩
      · obtain ⟨o, es, ep, ho, r⟩ := hm
        exact ⟨o, es, ep, kp _ o (fun q => (hf _ q).2.1 rfl) ho, r⟩
    refine ⟨.ref s.heap.objs.size, _, J, rfl, ⟨_, x, y, rfl, fr, rfl, fun xs' h => by rw [sqv_inj I h q1]; exact g1, fun ys' h => by rw [sqv_inj I h q2]; exact g2⟩, ?_, fun b hb => ?_⟩
    · exact ⟨b1, b2.extBut _ _ D.TIz (a6 _ _ D.TIz D.TITO D.TIi1 D.TIi2 st.hI), ⟨_, _, b2.extBut _ _ D.TOz a2⟩, a3.ext fun o e => b2.extBut _ _ D.i1z e, a4.ext fun o e => b2.extBut _ _ D.i2z e⟩
    · obtain ⟨o, e, _⟩ : ∃ o, s.heap.get? b = some o ∧ True := by
        simp only [List.mem_cons, List.not_mem_nil, or_false] at hb
        rcases hb with rfl | rfl | rfl | rfl | rfl
        · exact ⟨_, st.hz, trivial⟩
        · exact ⟨_, st.hI, trivial⟩
        · exact ⟨_, hO, trivial⟩
        · obtain ⟨o, e, _⟩ := st.h1.obj; exact ⟨o, e, trivial⟩
        · obtain ⟨o, e, _⟩ := st.h2.obj; exact ⟨o, e, trivial⟩
      rw [upd_ne (Nat.ne_of_lt (Heap.lt_size e))]
      exact (hf b hb).1
  done := fun X hP hw hK hc i pins s σ H E I hf st hg => by
    subst hP hw hK
    obtain ⟨xs, ys, q1, q2, g⟩ := hg
    obtain ⟨its, r1, p1⟩ := sqv_at I q1
    obtain ⟨jts, r2, p2⟩ := sqv_at I q2
    obtain ⟨a, b, hO⟩ := st.hO
    have n1 := r1.length
    have n2 := r2.length
    refine zipNext_end (I.ok.hd hc) D st.hz st.hI hO st.h1 st.h2 p1 p2 ?_ fun h' k => ⟨rfl, turned_all I hf fun b o hb e => ?_⟩
    · rcases g with g | g
      · exact .inl (by simp; omega)
      · exact .inr (by simp; omega)
    · simp only [List.mem_cons, List.not_mem_nil, or_false, not_or] at hb
      exact k b o hb.1 hb.2.2.1 hb.2.2.2.1 hb.2.2.2.2 e
  self := fun _ _ _ _ _ st h => wpAny_pyIter_zip st.hz h
end TM

set_option Elab.async false
set_option linter.all false
set_option maxRecDepth 100000
namespace TM
open PySem PySem.Spec PyProof.Rows L2
noncomputable def sqK : T → Option (Bool × List T)
  | .lst ts => some (true, ts)
  | .scr ts => some (true, ts)
  | .tup ts => some (false, ts)
  | _ => none
theorem sqK_rep {K : PySem.W.Frag} {F : Hp} {t : T} {v : V} {b : Bool} {ts : List T} (r : Rep K F t v) (e : sqK t = some (b, ts)) : ∃ a xs, v = .ref a ∧ SqV b K F a xs ∧ Reps K F ts xs := by
  cases t <;> simp only [sqK] at e <;> cases e
  · exact r
  · obtain ⟨a, xs, h1, h2, h3⟩ := r
    exact ⟨a, xs, h1, SqL.of h2, h3⟩
  · exact r
theorem SqV.same {b : Bool} {K : PySem.W.Frag} {H H' : Hp} {a : Addr} {xs : List V} (s : Same H H') (h : SqV b K H a xs) : SqV b K H' a xs := by
  cases b with
  | true => exact s.seq h
  | false => exact same_sqT s h
noncomputable def zipT : List T → List T → List T
  | x :: xs, y :: ys => .tup [x, y] :: zipT xs ys
  | _, _ => []
theorem zipT_length : ∀ (xs ys : List T), (zipT xs ys).length = min xs.length ys.length
  | [], _ => by simp [zipT]
  | _ :: _, [] => by simp [zipT]
  | x :: xs, y :: ys => by simp [zipT, zipT_length xs ys]
theorem zipT_get : ∀ (xs ys : List T) (i : Nat) (t : T), (zipT xs ys)[i]? = some t → ∃ x y, xs[i]? = some x ∧ ys[i]? = some y ∧ t = .tup [x, y]
  | [], _, i, t, e => by simp [zipT] at e
  | _ :: _, [], i, t, e => by simp [zipT] at e
  | x :: xs, y :: ys, 0, t, e => by simp [zipT] at e; exact ⟨x, y, rfl, rfl, e.symm⟩
  | x :: xs, y :: ys, i + 1, t, e => by
    obtain ⟨a, b, h1, h2, h3⟩ := zipT_get xs ys i t (by simpa [zipT] using e)
    exact ⟨a, b, by simpa using h1, by simpa using h2, h3⟩
theorem walks_zip {K : PySem.W.Frag} {F : Hp} {c1 c2 : Bool} {l1 l2 : Addr} {xs ys : List V} {ts us : List T} (h1 : SqV c1 K F l1 xs) (r1 : Reps K F ts xs) (h2 : SqV c2 K F l2 ys) (r2 : Reps K F us ys) : Walks K F (zipT ts us) (Itz K c1 c2 l1 l2) := by
  refine ⟨fun i t F1 H1 e s1 s2 => ?_, fun i t F1 H1 x H2 e s1 s2 y => ?_, fun F1 H1 s1 s2 => ⟨xs, ys, h1.same (s1.trans s2), h2.same (s1.trans s2), ?_⟩⟩
  · obtain ⟨a, b, e1, e2, rfl⟩ := zipT_get ts us i t e
    obtain ⟨v, g1, _⟩ := r1.get e1
    obtain ⟨w, g2, _⟩ := r2.get e2
    exact ⟨xs, ys, v, w, h1.same (s1.trans s2), h2.same (s1.trans s2), g1, g2⟩
  · obtain ⟨p, v, w, rfl, hp, rfl, q1, q2⟩ := y
    obtain ⟨a, b, e1, e2, rfl⟩ := zipT_get ts us i t e
    obtain ⟨v', g1, k1⟩ := r1.get e1
    obtain ⟨w', g2, k2⟩ := r2.get e2
    have m1 := q1 xs (h1.same (s1.trans s2))
    have m2 := q2 ys (h2.same (s1.trans s2))
    rw [g1] at m1; cases m1
    rw [g2] at m2; cases m2
    have gr := Grow.new (.tup [v, w]) s2 hp
    exact ⟨_, gr, p, _, rfl, SqT.of upd_same, v, [w], rfl, Rep.mono (s1.trans gr.sF) k1, w, [], rfl, Rep.mono (s1.trans gr.sF) k2, rfl⟩
  · rw [zipT_length, r1.length, r2.length]
    omega
noncomputable def fiZip (g : FA) : FA := fun τ => (g τ).bind fun p => match p.1 with
  | [a, b] => (sqK a).bind fun x => (sqK b).bind fun y => some (zipT x.2 y.2, p.2)
  | _ => none
theorem si_zip {X : Cx} {a b : Expr} {p pos : Pos} {ga : FA} {elts : List Expr} {kx : Nat} {px : Pos} (hg : Gl X "zip") (hm : X.mg "zip" = none) (ha : SA X [a, b] ga) (hs : starEach [a, b] X.env = (false, eval a X.env) :: starEach [b] X.env := by rfl)
    (hs2 : (backTo pos (starEach [b] X.env)).any (·.1) = false := by rfl) : SI X (.Tuple elts kx px) (.Call (.Name "zip" p) [a, b] [] pos) (fiZip ga) := by
  intro F₀ H₀ pins s σ H R I ⟨F, τ, ts, τ', E, e1, q⟩
  obtain ⟨⟨x, τ1⟩, e2, e1⟩ := bind_some e1
  dsimp only at e1
  split at e1
  · next t u =>
    obtain ⟨⟨c1, us⟩, e3, e1⟩ := bind_some e1
    obtain ⟨⟨c2, ws⟩, e4, e1⟩ := bind_some e1
    cases e1
    refine Call_ (ld_blt I hg hm (show bootBuiltins "zip" = some (.type "zip") from rfl) (PyProof.Rows.callWith_type1 (thn (ha F₀ H₀ pos pins s σ H (fun vs H' => ∃ l1 l2 xs ys, vs = [.ref l1, .ref l2] ∧ SqV c1 X.K H' l1 xs ∧ SqV c2 X.K H' l2 ys ∧ R (Itz X.K c1 c2 l1 l2) H') I ⟨F, τ, _, _, E, e2, fun F' H' vs E' s' r' => ?_⟩) fun vs s1 ⟨ws', H1, I1, r1, q1⟩ => ?_) hs hs2))
    · obtain ⟨v1, r1, rfl, k1, v2, r2, rfl, k2, rfl⟩ := r'
      obtain ⟨l1, xs, rfl, h1, h2⟩ := sqK_rep k1 e3
      obtain ⟨l2, ys, rfl, h3, h4⟩ := sqK_rep k2 e4
      exact ⟨l1, l2, xs, ys, rfl, h1.same E'.g.fh, h3.same E'.g.fh, q F' H' _ E' s' (walks_zip h1 h2 h3 h4)⟩
    · obtain ⟨l1, l2, xs, ys, rfl, h1, h2, q1⟩ := q1
      cases r1 with
      | cons ra rr =>
        cases rr with
        | cons rb rr =>
          cases rr; cases ra; cases rb
          obtain ⟨its, _, p1⟩ := sqv_at I1 h1
          obtain ⟨jts, _, p2⟩ := sqv_at I1 h2
          refine call_zip p1 p2 fun h' a1 a2 a3 a4 a5 kp => wpAny_pyIter_zip (s := { s1 with heap := h' }) a1 ?_
          have lt : ∀ {c : Bool} {l : Addr} {zs : Array Value}, SqAt c s1.heap l zs → l < s1.heap.objs.size := fun {c l zs} h => by
            cases c with
            | true => obtain ⟨o, e, _⟩ := h; exact Heap.lt_size e
            | false => obtain ⟨o, e, _⟩ := h; exact Heap.lt_size e
          have n1 : @LT.lt Nat _ l1 s1.heap.objs.size := lt p1
          have n2 : @LT.lt Nat _ l2 s1.heap.objs.size := lt p2
          have J : Inv X pins σ H1 { s1 with heap := h' } := I1.kept (t' := s1.toks) kp
          refine ⟨_, [_, _, _, _, _], _, _, H1, rfl, J, turn_zip (c1 := c1) (c2 := c2) (z := s1.heap.objs.size + 4) (TI := s1.heap.objs.size + 2) (TO := s1.heap.objs.size + 3) (i1 := s1.heap.objs.size) (i2 := s1.heap.objs.size + 1) (l1 := l1) (l2 := l2) ?_, ⟨a1, a2, ⟨_, _, a3⟩, a4, a5⟩, fun b hb => ?_, q1⟩
          · constructor <;> (refine (?_ : @Ne Nat _ _); omega)
          · have hb' : s1.heap.objs.size ≤ b := by
              simp only [List.mem_cons, List.not_mem_nil, or_false] at hb
              rcases hb with rfl | rfl | rfl | rfl | rfl <;> omega
            exact I1.fpOk hb' (I1.hok.fresh hb')
  · cases e1
end TM

set_option Elab.async false
set_option linter.all false
set_option maxRecDepth 100000
local macro_rules | `(tactic| walk_at "ev") => do
    let ns : List Lean.Name := [`Bool.false_eq_true, `Bool.not_false, `Bool.not_true, `CDivB_iff, `CMulB_iff, `CNz_iff, `List.cons_append, `List.getElem?_cons_succ, `List.getElem?_cons_zero, `List.length_cons, `List.length_nil, `List.map_cons, `List.map_nil, `List.nil_append, `List.replicate_succ, `List.replicate_zero, `List.set_cons_succ, `List.set_cons_zero, `Nat.reduceAdd, `Nat.reduceLeDiff, `Nat.reduceSub, `Nat.sub_self, `Nat.zero_add, `Option.bind_none, `Option.bind_some, `and_self, `and_true, `beq_self_eq_true, `boolsOf, `dAbs_nat, `dAll, `dLen, `dMax, `dMin, `dTuple, `decide_false, `decide_true, `fAlways, `fAnd, `fAndV, `fApp, `fAsg, `fC, `fCall, `fCallC, `fCallO, `fCons, `fDic, `fDrop, `fDropApp, `fFor, `fIf, `fIfS, `fLst, `fNever, `fNext, `fNil, `fNoPart, `fNot, `fOp, `fOr, `fOrV, `fPar, `fPart, `fRet, `fRetO, `fSeq, `fSeqO, `fSet, `fSetOwn, `fSl, `fTB, `fTru, `fTup, `fUn, `fVal, `fVar, `fiSeq, `fiZip, `gAdd_int, `gAdd_lst, `gAdd_tup, `gBits, `gEq_bl, `gEq_bools, `gEq_int, `gEq_pair, `gI_int, `gIs, `gIx_lst0, `gIx_lst1, `gIx_tup0, `gIx_tup1, `gNe_bl, `gNe_int, `gNeg, `gNot, `gnCons, `gnName, `gnNil, `gnTup, `if_false, `if_true, `isNon, `isi_bl_bool, `isi_bl_dict, `isi_bl_int, `isi_bl_list, `isi_bl_lt, `isi_bl_str, `isi_bl_tuple, `isi_dic_bool, `isi_dic_dict, `isi_dic_int, `isi_dic_list, `isi_dic_lt, `isi_dic_str, `isi_dic_tuple, `isi_int_bool, `isi_int_dict, `isi_int_int, `isi_int_list, `isi_int_lt, `isi_int_str, `isi_int_tuple, `isi_lst_bool, `isi_lst_dict, `isi_lst_int, `isi_lst_list, `isi_lst_lt, `isi_lst_str, `isi_lst_tuple, `isi_non_bool, `isi_non_dict, `isi_non_int, `isi_non_list, `isi_non_lt, `isi_non_str, `isi_non_tuple, `isi_scr_bool, `isi_scr_dict, `isi_scr_int, `isi_scr_list, `isi_scr_lt, `isi_scr_str, `isi_scr_tuple, `isi_str_bool, `isi_str_dict, `isi_str_int, `isi_str_list, `isi_str_lt, `isi_str_str, `isi_str_tuple, `isi_tup_bool, `isi_tup_dict, `isi_tup_int, `isi_tup_list, `isi_tup_lt, `isi_tup_str, `isi_tup_tuple, `ite_false, `ite_true, `le0, `le1, `le17, `le2, `le3, `le4, `loopT, `lt6, `ne_eq, `not_false_eq_true, `not_true_eq_false, `reduceCtorEq, `reduceIte, `sqK, `tru, `true_and, `zipT]
    let mut ls : Array (Lean.TSyntax `Lean.Parser.Tactic.simpLemma) := #[]
    for n in ns do
      unless (← Lean.Macro.resolveGlobalName n).isEmpty do
        ls := ls.push (← `(Lean.Parser.Tactic.simpLemma| $(Lean.mkIdent n):ident))
    `(tactic| simp only [$[$ls],*, *])
namespace TM
open PySem PySem.Spec PyProof.Rows L2
theorem isi_non_int : dIsi [.non, .ty "int"] = some (.bl false) := rfl
theorem isi_non_bool : dIsi [.non, .ty "bool"] = some (.bl false) := rfl
theorem isi_non_str : dIsi [.non, .ty "str"] = some (.bl false) := rfl
theorem isi_non_list : dIsi [.non, .ty "list"] = some (.bl false) := rfl
theorem isi_non_tuple : dIsi [.non, .ty "tuple"] = some (.bl false) := rfl
theorem isi_non_dict : dIsi [.non, .ty "dict"] = some (.bl false) := rfl
theorem isi_non_lt : dIsi [.non, .tup [.ty "list", .ty "tuple"]] = some (.bl false) := rfl
theorem isi_bl_int {b : Bool} : dIsi [(.bl b), .ty "int"] = some (.bl true) := rfl
theorem isi_bl_bool {b : Bool} : dIsi [(.bl b), .ty "bool"] = some (.bl true) := rfl
theorem isi_bl_str {b : Bool} : dIsi [(.bl b), .ty "str"] = some (.bl false) := rfl
theorem isi_bl_list {b : Bool} : dIsi [(.bl b), .ty "list"] = some (.bl false) := rfl
theorem isi_bl_tuple {b : Bool} : dIsi [(.bl b), .ty "tuple"] = some (.bl false) := rfl
theorem isi_bl_dict {b : Bool} : dIsi [(.bl b), .ty "dict"] = some (.bl false) := rfl
theorem isi_bl_lt {b : Bool} : dIsi [(.bl b), .tup [.ty "list", .ty "tuple"]] = some (.bl false) := rfl
theorem isi_int_int {i : Int} : dIsi [(.int i), .ty "int"] = some (.bl true) := rfl
theorem isi_int_bool {i : Int} : dIsi [(.int i), .ty "bool"] = some (.bl false) := rfl
theorem isi_int_str {i : Int} : dIsi [(.int i), .ty "str"] = some (.bl false) := rfl
theorem isi_int_list {i : Int} : dIsi [(.int i), .ty "list"] = some (.bl false) := rfl
theorem isi_int_tuple {i : Int} : dIsi [(.int i), .ty "tuple"] = some (.bl false) := rfl
theorem isi_int_dict {i : Int} : dIsi [(.int i), .ty "dict"] = some (.bl false) := rfl
theorem isi_int_lt {i : Int} : dIsi [(.int i), .tup [.ty "list", .ty "tuple"]] = some (.bl false) := rfl
theorem isi_str_int {x : Str} : dIsi [(.str x), .ty "int"] = some (.bl false) := rfl
theorem isi_str_bool {x : Str} : dIsi [(.str x), .ty "bool"] = some (.bl false) := rfl
theorem isi_str_str {x : Str} : dIsi [(.str x), .ty "str"] = some (.bl true) := rfl
theorem isi_str_list {x : Str} : dIsi [(.str x), .ty "list"] = some (.bl false) := rfl
theorem isi_str_tuple {x : Str} : dIsi [(.str x), .ty "tuple"] = some (.bl false) := rfl
theorem isi_str_dict {x : Str} : dIsi [(.str x), .ty "dict"] = some (.bl false) := rfl
theorem isi_str_lt {x : Str} : dIsi [(.str x), .tup [.ty "list", .ty "tuple"]] = some (.bl false) := rfl
theorem isi_tup_int {ts : List T} : dIsi [(.tup ts), .ty "int"] = some (.bl false) := rfl
theorem isi_tup_bool {ts : List T} : dIsi [(.tup ts), .ty "bool"] = some (.bl false) := rfl
theorem isi_tup_str {ts : List T} : dIsi [(.tup ts), .ty "str"] = some (.bl false) := rfl
theorem isi_tup_list {ts : List T} : dIsi [(.tup ts), .ty "list"] = some (.bl false) := rfl
theorem isi_tup_tuple {ts : List T} : dIsi [(.tup ts), .ty "tuple"] = some (.bl true) := rfl
theorem isi_tup_dict {ts : List T} : dIsi [(.tup ts), .ty "dict"] = some (.bl false) := rfl
theorem isi_tup_lt {ts : List T} : dIsi [(.tup ts), .tup [.ty "list", .ty "tuple"]] = some (.bl true) := rfl
theorem isi_lst_int {ts : List T} : dIsi [(.lst ts), .ty "int"] = some (.bl false) := rfl
theorem isi_lst_bool {ts : List T} : dIsi [(.lst ts), .ty "bool"] = some (.bl false) := rfl
theorem isi_lst_str {ts : List T} : dIsi [(.lst ts), .ty "str"] = some (.bl false) := rfl
theorem isi_lst_list {ts : List T} : dIsi [(.lst ts), .ty "list"] = some (.bl true) := rfl
theorem isi_lst_tuple {ts : List T} : dIsi [(.lst ts), .ty "tuple"] = some (.bl false) := rfl
theorem isi_lst_dict {ts : List T} : dIsi [(.lst ts), .ty "dict"] = some (.bl false) := rfl
theorem isi_lst_lt {ts : List T} : dIsi [(.lst ts), .tup [.ty "list", .ty "tuple"]] = some (.bl true) := rfl
theorem isi_scr_int {ts : List T} : dIsi [(.scr ts), .ty "int"] = some (.bl false) := rfl
theorem isi_scr_bool {ts : List T} : dIsi [(.scr ts), .ty "bool"] = some (.bl false) := rfl
theorem isi_scr_str {ts : List T} : dIsi [(.scr ts), .ty "str"] = some (.bl false) := rfl
theorem isi_scr_list {ts : List T} : dIsi [(.scr ts), .ty "list"] = some (.bl true) := rfl
theorem isi_scr_tuple {ts : List T} : dIsi [(.scr ts), .ty "tuple"] = some (.bl false) := rfl
theorem isi_scr_dict {ts : List T} : dIsi [(.scr ts), .ty "dict"] = some (.bl false) := rfl
theorem isi_scr_lt {ts : List T} : dIsi [(.scr ts), .tup [.ty "list", .ty "tuple"]] = some (.bl true) := rfl
theorem isi_dic_int : dIsi [.dic, .ty "int"] = some (.bl false) := rfl
theorem isi_dic_bool : dIsi [.dic, .ty "bool"] = some (.bl false) := rfl
theorem isi_dic_str : dIsi [.dic, .ty "str"] = some (.bl false) := rfl
theorem isi_dic_list : dIsi [.dic, .ty "list"] = some (.bl false) := rfl
theorem isi_dic_tuple : dIsi [.dic, .ty "tuple"] = some (.bl false) := rfl
theorem isi_dic_dict : dIsi [.dic, .ty "dict"] = some (.bl true) := rfl
theorem isi_dic_lt : dIsi [.dic, .tup [.ty "list", .ty "tuple"]] = some (.bl false) := rfl
theorem gEq_int (i j : Int) : gEq (.int i) (.int j) = some (.bl (decide (i = j))) := by
  show some (T.bl (i == j)) = _
  rw [Bool.beq_eq_decide_eq]
theorem gNe_int (i j : Int) : gNe (.int i) (.int j) = some (.bl (!decide (i = j))) := by
  show some (T.bl (!(i == j))) = _
  rw [Bool.beq_eq_decide_eq]
theorem gEq_bl (i j : Bool) : gEq (.bl i) (.bl j) = some (.bl (i == j)) := rfl
theorem gNe_bl (i j : Bool) : gNe (.bl i) (.bl j) = some (.bl (!(i == j))) := rfl
theorem CDivB_iff (i j : Int) : CDivB i j ↔ (¬ j = 0 ∧ j.natAbs < B) := Iff.rfl
theorem CMulB_iff (i j : Int) : CMulB i j ↔ (i.natAbs < B ∧ j.natAbs < B) := Iff.rfl
theorem CNz_iff (i j : Int) : CNz i j ↔ ¬ j = 0 := Iff.rfl
theorem small_le {n : Nat} (h : n ≤ 1000) : n ≤ sizeLine := Nat.le_of_lt (small1000 h)
theorem le0 : (0 : Nat) ≤ sizeLine := small_le (by decide)
theorem le1 : (1 : Nat) ≤ sizeLine := small_le (by decide)
theorem le2 : (2 : Nat) ≤ sizeLine := small_le (by decide)
theorem le3 : (3 : Nat) ≤ sizeLine := small_le (by decide)
theorem le4 : (4 : Nat) ≤ sizeLine := small_le (by decide)
theorem gIx_tup0 {x y : T} : gIx (.tup [x, y]) (.int 0) = some x := rfl
theorem gIx_tup1 {x y : T} : gIx (.tup [x, y]) (.int 1) = some y := rfl
theorem gIx_lst0 {x y : T} : gIx (.lst [x, y]) (.int 0) = some x := rfl
theorem gIx_lst1 {x y : T} : gIx (.lst [x, y]) (.int 1) = some y := rfl
theorem dAbs_nat (a : Int) : dAbs [.int a] = some (.int (a.natAbs : Int)) := by
  have e : (if a < 0 then -a else a) = (a.natAbs : Int) := by split <;> omega
  simp only [dAbs, e]
theorem bigB : (2 ^ 64 : Nat) < B := by decide +kernel
theorem ltB_of {a : Int} (h1 : -(2 ^ 64) < a) (h2 : a < 2 ^ 64) : a.natAbs < B := by have := bigB; omega
theorem gEq_str_self {x : Str} (h : SeqAt.shaped (.str x) = true) : gEq (.str x) (.str x) = some (.bl true) := by
  show gEqW false (.str x) (.str x) = _
  simp [gEqW, toP, h, PyData.eqv]
noncomputable def bSame (d__law_same : List T → Option T) : FS :=
    (fSeq (fIfS (fTru (fCall dIsi (fCons (fVar 1) (fCons (fTup (fCons (fC (.ty "list")) (fCons (fC (.ty "tuple")) fNil))) fNil)))) (fSeq (fIfS (fOr (fTB (fOp gNe (fCall dIsi (fCons (fVar 1) (fCons (fC (.ty "list")) fNil))) (fCall dIsi (fCons (fVar 0) (fCons (fC (.ty "list")) fNil))))) (fNot (fTru (fCall dIsi (fCons (fVar 0) (fCons (fTup (fCons (fC (.ty "list")) (fCons (fC (.ty "tuple")) fNil))) fNil)))))) (fRet (fC (.bl false))) fNext)
    (fSeq (fIfS (fTB (fOp gNe (fCall dLen (fCons (fVar 0) fNil)) (fCall dLen (fCons (fVar 1) fNil)))) (fRet (fC (.bl false))) fNext)
    (fSeq (fFor (fiZip (fCons (fVar 0) (fCons (fVar 1) fNil))) (gnTup (gnCons (gnName 2) (gnCons (gnName 3) gnNil))) (fIfS (fNot (fTru (fCall d__law_same (fCons (fVar 2) (fCons (fVar 3) fNil))))) (fRet (fC (.bl false))) fNext))
    (fRet (fC (.bl true)))))) fNext)
    (fSeq (fIfS (fTB (fOp gIs (fVar 1) (fC .non))) (fRet (fOp gIs (fVar 0) (fC .non))) fNext)
    (fSeq (fIfS (fTru (fCall dIsi (fCons (fVar 1) (fCons (fC (.ty "str")) fNil)))) (fRet (fAndV (fCall dIsi (fCons (fVar 0) (fCons (fC (.ty "str")) fNil))) (fOp gEq (fVar 0) (fVar 1)))) fNext)
    (fRet (fAndV (fCall dIsi (fCons (fVar 0) (fCons (fC (.ty "int")) fNil))) (fAndV (fUn gNot (fCall dIsi (fCons (fVar 0) (fCons (fC (.ty "bool")) fNil)))) (fOp gEq (fVar 0) (fVar 1))))))))

noncomputable def dSame : Nat → List T → Option T
  | 0 => fun _ => none
  | n + 1 => dOf 4 2 (bSame (dSame n))
mutual
noncomputable def sameOk : Nat → T → Bool
  | _, .int _ => true
  | _, .non => true
  | _, .str x => SeqAt.shaped (.str x)
  | n + 1, .tup ts => sameOks n ts
  | n + 1, .lst ts => sameOks n ts
  | _, _ => false
noncomputable def sameOks : Nat → List T → Bool
  | _, [] => true
  | n, t :: ts => sameOk n t && sameOks n ts
end
noncomputable def sameBody (d : List T → Option T) : FS := (fIfS (fNot (fTru (fCall d (fCons (fVar 2) (fCons (fVar 3) fNil))))) (fRet (fC (.bl false))) fNext)
theorem same_loop {d : List T → Option T} : ∀ (ts : List T) (x y u v : Option Sl), (∀ t ∈ ts, d [t, t] = some (.bl true)) → ∃ u' v', loopT (gnTup (gnCons (gnName 2) (gnCons (gnName 3) gnNil))) (sameBody d) (zipT ts ts) [x, y, u, v] = some (.nx [x, y, u', v'])
  | [], x, y, u, v, _ => ⟨u, v, rfl⟩
  | t :: ts, x, y, u, v, h => by
    have h1 := h t (List.mem_cons_self ..)
    obtain ⟨u', v', h2⟩ := same_loop ts x y (some (.sh t)) (some (.sh t)) fun z hz => h z (List.mem_cons_of_mem _ hz)
    refine ⟨u', v', ?_⟩
    rw [← h2]
    clear h2 h
    unfold sameBody
    walk_at "ev"
theorem sameOks_mem {n : Nat} : ∀ {ts : List T}, sameOks n ts = true → ∀ t ∈ ts, sameOk n t = true
  | t :: ts, h, u, hu => by
    simp only [sameOks, Bool.and_eq_true] at h
    rcases List.mem_cons.mp hu with rfl | hu
    · exact h.1
    · exact sameOks_mem h.2 u hu
theorem dSame_eq : ∀ (n : Nat) (t : T), sameOk n t = true → dSame (n + 1) [t, t] = some (.bl true) := by
  intro n
  induction n with
  | zero =>
    intro t h
    show dOf 4 2 (bSame (dSame 0)) [t, t] = _
    cases t with
    | int i => clear h; unfold dOf bSame; walk_at "ev"
    | non => clear h; unfold dOf bSame; walk_at "ev"
    | str x =>
      have h : SeqAt.shaped (.str x) = true := h
      have e := gEq_str_self h
      clear h
      unfold dOf bSame
      walk_at "ev"
    | bl b => cases h
    | ty b => cases h
    | tup b => cases h
    | lst b => cases h
    | scr b => cases h
    | dic => cases h
    | obj _ _ _ => cases h
    | ptr _ => cases h
  | succ n ih =>
    intro t h
    show dOf 4 2 (bSame (dSame (n + 1))) [t, t] = _
    cases t with
    | int i => clear h ih; unfold dOf bSame; walk_at "ev"
    | non => clear h ih; unfold dOf bSame; walk_at "ev"
    | str x =>
      have h : SeqAt.shaped (.str x) = true := h
      have e := gEq_str_self h
      clear h ih
      unfold dOf bSame
      walk_at "ev"
    | bl b => cases h
    | ty b => cases h
    | scr b => cases h
    | dic => cases h
    | obj _ _ _ => cases h
    | ptr _ => cases h
    | tup ts =>
      have hm := fun t ht => ih t (sameOks_mem h t ht)
      obtain ⟨u, v, hl⟩ := same_loop ts (some (.sh (.tup ts))) (some (.sh (.tup ts))) none none hm
      clear h ih hm
      unfold sameBody at hl
      unfold dOf bSame
      walk_at "ev"
    | lst ts =>
      have hm := fun t ht => ih t (sameOks_mem h t ht)
      obtain ⟨u, v, hl⟩ := same_loop ts (some (.sh (.lst ts))) (some (.sh (.lst ts))) none none hm
      clear h ih hm
      unfold sameBody at hl
      unfold dOf bSame
      walk_at "ev"
end TM

set_option Elab.async false
set_option linter.all false
set_option maxRecDepth 100000
local macro_rules | `(tactic| walk_at "ev") => do
    let ns : List Lean.Name := [`Bool.false_eq_true, `Bool.not_false, `Bool.not_true, `CDivB_iff, `CMulB_iff, `CNz_iff, `List.cons_append, `List.getElem?_cons_succ, `List.getElem?_cons_zero, `List.length_cons, `List.length_nil, `List.map_cons, `List.map_nil, `List.nil_append, `List.replicate_succ, `List.replicate_zero, `List.set_cons_succ, `List.set_cons_zero, `Nat.reduceAdd, `Nat.reduceLeDiff, `Nat.reduceSub, `Nat.sub_self, `Nat.zero_add, `Option.bind_none, `Option.bind_some, `and_self, `and_true, `beq_self_eq_true, `boolsOf, `dAbs_nat, `dAll, `dLen, `dMax, `dMin, `dTuple, `decide_false, `decide_true, `fAlways, `fAnd, `fAndV, `fApp, `fAsg, `fC, `fCall, `fCallC, `fCallO, `fCons, `fDic, `fDrop, `fDropApp, `fFor, `fIf, `fIfS, `fLst, `fNever, `fNext, `fNil, `fNoPart, `fNot, `fOp, `fOr, `fOrV, `fPar, `fPart, `fRet, `fRetO, `fSeq, `fSeqO, `fSet, `fSetOwn, `fSl, `fTB, `fTru, `fTup, `fUn, `fVal, `fVar, `fiSeq, `fiZip, `gAdd_int, `gAdd_lst, `gAdd_tup, `gBits, `gEq_bl, `gEq_bools, `gEq_int, `gEq_pair, `gI_int, `gIs, `gIx_lst0, `gIx_lst1, `gIx_tup0, `gIx_tup1, `gNe_bl, `gNe_int, `gNeg, `gNot, `gnCons, `gnName, `gnNil, `gnTup, `if_false, `if_true, `isNon, `isi_bl_bool, `isi_bl_dict, `isi_bl_int, `isi_bl_list, `isi_bl_lt, `isi_bl_str, `isi_bl_tuple, `isi_dic_bool, `isi_dic_dict, `isi_dic_int, `isi_dic_list, `isi_dic_lt, `isi_dic_str, `isi_dic_tuple, `isi_int_bool, `isi_int_dict, `isi_int_int, `isi_int_list, `isi_int_lt, `isi_int_str, `isi_int_tuple, `isi_lst_bool, `isi_lst_dict, `isi_lst_int, `isi_lst_list, `isi_lst_lt, `isi_lst_str, `isi_lst_tuple, `isi_non_bool, `isi_non_dict, `isi_non_int, `isi_non_list, `isi_non_lt, `isi_non_str, `isi_non_tuple, `isi_scr_bool, `isi_scr_dict, `isi_scr_int, `isi_scr_list, `isi_scr_lt, `isi_scr_str, `isi_scr_tuple, `isi_str_bool, `isi_str_dict, `isi_str_int, `isi_str_list, `isi_str_lt, `isi_str_str, `isi_str_tuple, `isi_tup_bool, `isi_tup_dict, `isi_tup_int, `isi_tup_list, `isi_tup_lt, `isi_tup_str, `isi_tup_tuple, `ite_false, `ite_true, `le0, `le1, `le17, `le2, `le3, `le4, `loopT, `lt6, `ne_eq, `not_false_eq_true, `not_true_eq_false, `reduceCtorEq, `reduceIte, `sqK, `tru, `true_and, `zipT]
    let mut ls : Array (Lean.TSyntax `Lean.Parser.Tactic.simpLemma) := #[]
    for n in ns do
      unless (← Lean.Macro.resolveGlobalName n).isEmpty do
        ls := ls.push (← `(Lean.Parser.Tactic.simpLemma| $(Lean.mkIdent n):ident))
    `(tactic| simp only [$[$ls],*, *])
namespace TM
open PySem PySem.Spec PyProof.Rows L2
noncomputable def bMix : FS :=
    (fSeq (fSet 2 (fOp gMod (fOp gAdd (fOp gAdd (fVar 0) (fOp gMulI (fC (.int 7919)) (fVar 1))) (fC (.int 11))) (fC (.int 2147483647))))
    (fSeq (fSet 2 (fOp gMod (fOp gAdd (fOp gMulI (fVar 2) (fVar 2)) (fOp gMulI (fC (.int 48271)) (fVar 1))) (fC (.int 2147483629))))
    (fRet (fOp gMod (fOp gAdd (fOp gAdd (fOp gMulI (fVar 2) (fVar 2)) (fOp gMulI (fC (.int 7)) (fVar 2))) (fVar 1)) (fC (.int 2147483587))))))
noncomputable def bCell : FS :=
    (fSeq (fIfS (fTB (fOp gLt (fVar 1) (fCall dLen (fCons (fVar 0) fNil)))) (fRet (fOp gIx (fVar 0) (fVar 1))) fNext)
    (fSeq (fSet 2 (fOp gAdd (fOp gMulI (fC (.int 7919)) (fVar 1)) (fC (.int 5))))
    (fSeq (fIfS (fTB (fOp gGt (fCall dLen (fCons (fVar 0) fNil)) (fC (.int 0)))) (fSet 2 (fOp gMod (fOp gAdd (fOp gIx (fVar 0) (fOp gMod (fOp gMulI (fC (.int 7)) (fVar 1)) (fCall dLen (fCons (fVar 0) fNil)))) (fOp gMulI (fC (.int 7919)) (fVar 1))) (fC (.int 2147483647)))) fNext)
    (fRet (fOp gMod (fOp gMulI (fVar 2) (fVar 2)) (fC (.int 2147483629)))))))
theorem fmod_rng (a : Int) {b : Int} (h : 0 < b) : 0 ≤ a.fmod b ∧ a.fmod b < b := ⟨Int.fmod_nonneg_of_pos _ h, Int.fmod_lt_of_pos _ h⟩
noncomputable def mixA (c k : Int) : Int := (c + 7919 * k + 11).fmod 2147483647
noncomputable def mixB (c k : Int) : Int := (mixA c k * mixA c k + 48271 * k).fmod 2147483629
noncomputable def mixF (c k : Int) : Int := (mixB c k * mixB c k + 7 * mixB c k + k).fmod 2147483587
theorem mixF_rng (c k : Int) : 0 ≤ mixF c k ∧ mixF c k < 2147483587 := fmod_rng _ (by decide)
noncomputable def mMix : List T → Option T
  | [.int c, .int k] => if k.natAbs < B then some (.int (mixF c k)) else none
  | _ => none
theorem mMix_eq {c k : Int} (h : k.natAbs < B) : mMix [.int c, .int k] = some (.int (mixF c k)) := if_pos h
theorem num_B {n : Nat} (h : n < 2 ^ 64) : ((n : Int)).natAbs < B := by have := bigB; omega
theorem sp_mix (ts : List T) (t : T) (h : mMix ts = some t) : dOf 3 2 bMix ts = some t := by
  unfold mMix at h
  split at h
  · next c k =>
    split at h
    · next hk =>
      cases h
      have b1 : ((7919 : Int)).natAbs < B := num_B (n := 7919) (by decide)
      have b2 : ((48271 : Int)).natAbs < B := num_B (n := 48271) (by decide)
      have b3 : ((7 : Int)).natAbs < B := num_B (n := 7) (by decide)
      have r1 : (mixA c k).natAbs < B := by have := fmod_rng (c + 7919 * k + 11) (b := 2147483647) (by decide); exact ltB_of (by unfold mixA; omega) (by unfold mixA; omega)
      have r2 : (mixB c k).natAbs < B := by have := fmod_rng (mixA c k * mixA c k + 48271 * k) (b := 2147483629) (by decide); exact ltB_of (by unfold mixB; omega) (by unfold mixB; omega)
      have e1 : (c + 7919 * k + 11).fmod 2147483647 = mixA c k := rfl
      have e2 : (mixA c k * mixA c k + 48271 * k).fmod 2147483629 = mixB c k := rfl
      have e3 : (mixB c k * mixB c k + 7 * mixB c k + k).fmod 2147483587 = mixF c k := rfl
      have n1 : ¬ (2147483647 : Int) = 0 := by decide
      have n2 : ¬ (2147483629 : Int) = 0 := by decide
      have n3 : ¬ (2147483587 : Int) = 0 := by decide
      unfold dOf bMix
      walk_at "ev"
    · cases h
  · cases h
noncomputable def intsOf : List T → Option (List Int)
  | [] => some []
  | .int i :: ts => (intsOf ts).bind fun ns => some (i :: ns)
  | _ :: _ => none
theorem intsOf_map : ∀ ns : List Int, intsOf (ns.map T.int) = some ns
  | [] => rfl
  | n :: ns => by simp [intsOf, intsOf_map ns]
theorem intsOf_inv : ∀ {ts : List T} {ns : List Int}, intsOf ts = some ns → ts = ns.map T.int
  | [], ns, h => by cases h; rfl
  | .int i :: ts, ns, h => by
    obtain ⟨ms, e, h⟩ := bind_some h
    cases h
    rw [intsOf_inv e]; rfl
  | .non :: _, _, h => by cases h
  | .bl _ :: _, _, h => by cases h
  | .str _ :: _, _, h => by cases h
  | .ty _ :: _, _, h => by cases h
  | .tup _ :: _, _, h => by cases h
  | .lst _ :: _, _, h => by cases h
  | .scr _ :: _, _, h => by cases h
  | .dic :: _, _, h => by cases h
  | .obj _ _ _ :: _, _, h => by cases h
  | .ptr _ :: _, _, h => by cases h
noncomputable def cellN (ns : List Int) (k : Int) : Int := if 0 < ns.length then (ns.getD ((7 * k).fmod (ns.length : Int)).toNat 0 + 7919 * k).fmod 2147483647 else 7919 * k + 5
noncomputable def cellF (ns : List Int) (k : Int) : Int := if k < (ns.length : Int) then ns.getD k.toNat 0 else (cellN ns k * cellN ns k).fmod 2147483629
noncomputable def mCell : List T → Option T
  | [.scr ts, .int k] => (intsOf ts).bind fun ns => if 0 ≤ k ∧ k < 1000000 then some (.int (cellF ns k)) else none
  | _ => none
theorem mCell_eq {ns : List Int} {k : Int} (h0 : 0 ≤ k) (h1 : k < 1000000) : mCell [.scr (ns.map T.int), .int k] = some (.int (cellF ns k)) := by
  show (intsOf (ns.map T.int)).bind _ = _
  rw [intsOf_map]
  exact if_pos ⟨h0, h1⟩
theorem ix_ints {ns : List Int} {k : Int} (h0 : 0 ≤ k) (h1 : k < (ns.length : Int)) : gIx (.scr (ns.map T.int)) (.int k) = some (.int (ns.getD k.toNat 0)) := by
  show atI (ns.map T.int) k = _
  obtain ⟨j, rfl⟩ := Int.eq_ofNat_of_zero_le h0
  have hk : j < ns.length := by omega
  refine atI_nat ?_
  rw [List.getElem?_map, List.getElem?_eq_getElem hk]
  simp [List.getD, List.getElem?_eq_getElem hk]
theorem sp_cell (ts : List T) (t : T) (h : mCell ts = some t) : dOf 3 2 bCell ts = some t := by
  unfold mCell at h
  split at h
  · next us k =>
    obtain ⟨ns, e, h⟩ := bind_some h
    rw [intsOf_inv e]
    clear e
    split at h
    · next hk =>
      cases h
      obtain ⟨h0, h1⟩ := hk
      have b1 : ((7919 : Int)).natAbs < B := num_B (n := 7919) (by decide)
      have b3 : ((7 : Int)).natAbs < B := num_B (n := 7) (by decide)
      have bk : k.natAbs < B := ltB_of (by omega) (by omega)
      have n1 : ¬ (2147483647 : Int) = 0 := by decide
      have n2 : ¬ (2147483629 : Int) = 0 := by decide
      have hl : (ns.map T.int).length = ns.length := List.length_map ..
      unfold dOf bCell
      by_cases hc : k < (ns.length : Int)
      · have e1 := ix_ints h0 hc
        have e2 : cellF ns k = ns.getD k.toNat 0 := if_pos hc
        walk_at "ev"
      · have e2 : cellF ns k = (cellN ns k * cellN ns k).fmod 2147483629 := if_neg hc
        by_cases hn : (0 : Int) < (ns.length : Int)
        · have e3 : cellN ns k = (ns.getD ((7 * k).fmod (ns.length : Int)).toNat 0 + 7919 * k).fmod 2147483647 := if_pos (by omega)
          have r := fmod_rng (7 * k) hn
          have e4 := ix_ints (ns := ns) r.1 r.2
          have n3 : ¬ (ns.length : Int) = 0 := by omega
          have r2 : (cellN ns k).natAbs < B := by rw [e3]; have := fmod_rng (ns.getD ((7 * k).fmod (ns.length : Int)).toNat 0 + 7919 * k) (b := 2147483647) (by decide); exact ltB_of (by omega) (by omega)
          rw [e3] at r2 e2
          clear e3 r
          walk_at "ev"
        · have e3 : cellN ns k = 7919 * k + 5 := if_neg (by omega)
          have r2 : (7919 * k + 5).natAbs < B := ltB_of (by omega) (by omega)
          rw [e3] at e2
          clear e3
          walk_at "ev"
    · cases h
  · cases h
end TM

set_option Elab.async false
set_option linter.all false
set_option maxRecDepth 100000
namespace TM
open PySem PySem.Spec PyProof.Rows L2
end TM

set_option Elab.async false
set_option linter.all false
set_option maxRecDepth 100000
namespace TM
open PySem PySem.Spec PyProof.Rows L2
structure BlkScope (X : Cx) (scope : Scope) : Prop where
  kind : scope.kind = .function
  names : ∀ y ∈ scope.names, y.2 = .local → scope.names.lookup y.1 = some .local
  free : ∀ y ∈ scope.names, y.2 = .free → (X.env.kindOf y.1 = some .cell ∨ X.env.kindOf y.1 = some .free) ∧ (y.1, NameKind.cell) ∉ scope.names ∧ scope.names.lookup y.1 = some .free
section
variable {X : Cx} {pins : List (Addr × Obj)} {σ : L2.St} {H : Hp} {s : Shared} {scope : Scope} {fp : List Addr} {N' : List Str} {σ' : L2.St}
noncomputable abbrev accOb : Obj := { cls := .type "list", dict := none, data := .seq ([] : List Value).toArray }
noncomputable abbrev dicOb : Obj := { cls := .type "dict", data := .dict #[] }
noncomputable def h0 (h : Heap) (scope : Scope) : Heap := pushCells ((h.push accOb).push dicOb) scope.names
end
end TM

set_option Elab.async false
set_option linter.all false
set_option maxRecDepth 100000
namespace TM
open PySem PySem.Spec PyProof.Rows L2
noncomputable def allSh : TEnv → Bool
  | [] => true
  | some (.own _) :: _ => false
  | _ :: r => allSh r
theorem allSh_get : ∀ {τ : TEnv} {i : Nat} {ts : List T}, allSh τ = true → τ[i]? ≠ some (some (.own ts))
  | [], i, ts, _ => by simp
  | some (.own _) :: _, i, ts, h => by cases h
  | some (.sh t) :: r, 0, ts, h => by simp
  | none :: r, 0, ts, h => by simp
  | some (.sh t) :: r, i + 1, ts, h => by rw [List.getElem?_cons_succ]; exact allSh_get (τ := r) h
  | none :: r, i + 1, ts, h => by rw [List.getElem?_cons_succ]; exact allSh_get (τ := r) h
noncomputable def fAlways : FT := fun τ => some (true, τ)
section
variable {K : PySem.W.Frag} {F₀ H₀ F H : Hp} {σ : L2.St} {τ : TEnv}
end
section
variable {X : Cx}
structure CompEnd (X : Cx) (pins : List (Addr × Obj)) (σ : L2.St) (F₀ H₀ F : Hp) (τ : TEnv) (rs : List T) (D C : Addr) (s : Shared) : Prop where
  ex : ∃ (H F3 : Hp) (vs : List V), Inv X pins σ H s ∧ EnvOk X.K F₀ H₀ F3 H σ τ ∧ Same F F3 ∧ F3 D = none ∧ H D = some (.lst vs) ∧ H₀ D = none ∧ Reps X.K F3 rs vs ∧ H C = none
  ns : ∃ m, s.heap.Ns C m
  cl : C ≠ X.env.locals
  c0 : X.s₀.heap.objs.size ≤ C
  cc : ∀ x c, X.env.cells.lookup x = some c → c ≠ C
  cp : ∀ p ∈ X.pn ++ pins, p.1 ≠ C
  ow : ∀ (j : Nat) us p, τ[j]? = some (some (.own us)) → σ[j]? = some (some (.ref p)) → p ≠ D
end
end TM

set_option Elab.async false
set_option linter.all false
set_option maxRecDepth 100000
namespace TM
open PySem PySem.Spec PyProof.Rows L2
inductive O where
  | val (t : T) | lst (os : List O)
mutual
noncomputable def ORep (K : PySem.W.Frag) (F H : Hp) : O → V → List Addr → Prop
  | .val t, v, A => A = [] ∧ Rep K F t v
  | .lst os, v, A => ∃ p vs B, v = .ref p ∧ A = p :: B ∧ H p = some (.lst vs) ∧ F p = none ∧ OReps K F H os vs B
noncomputable def OReps (K : PySem.W.Frag) (F H : Hp) : List O → List V → List Addr → Prop
  | [], vs, A => vs = [] ∧ A = []
  | o :: os, vs, A => ∃ v r B C, vs = v :: r ∧ A = B ++ C ∧ ORep K F H o v B ∧ OReps K F H os r C
end
mutual
noncomputable def O.tr : O → T
  | .val t => t
  | .lst os => .lst (O.trs os)
noncomputable def O.trs : List O → List T
  | [] => []
  | o :: os => o.tr :: O.trs os
end
section
variable {K : PySem.W.Frag} {F H F' H' : Hp}
mutual
theorem ORep.move (sF : Same F F') : ∀ {o : O} {v : V} {A : List Addr}, (∀ a ∈ A, H' a = H a ∧ F' a = none) → ORep K F H o v A → ORep K F' H' o v A
  | .val t, v, A, _, h => ⟨h.1, Rep.mono sF h.2⟩
  | .lst os, v, A, hA, h => by
    obtain ⟨p, vs, B, rfl, rfl, h1, h2, h3⟩ := h
    have hp := hA p List.mem_cons_self
    exact ⟨p, vs, B, rfl, rfl, hp.1.trans h1, hp.2, OReps.move sF (fun a ha => hA a (List.mem_cons_of_mem _ ha)) h3⟩
theorem OReps.move (sF : Same F F') : ∀ {os : List O} {vs : List V} {A : List Addr}, (∀ a ∈ A, H' a = H a ∧ F' a = none) → OReps K F H os vs A → OReps K F' H' os vs A
  | [], vs, A, _, h => h
  | o :: os, vs, A, hA, h => by
    obtain ⟨v, r, B, C, rfl, rfl, h1, h2⟩ := h
    exact ⟨v, r, B, C, rfl, rfl, ORep.move sF (fun a ha => hA a (List.mem_append_left _ ha)) h1, OReps.move sF (fun a ha => hA a (List.mem_append_right _ ha)) h2⟩
end
mutual
theorem ORep.at : ∀ {o : O} {v : V} {A : List Addr}, ORep K F H o v A → ∀ a ∈ A, F a = none ∧ ∃ vs, H a = some (.lst vs)
  | .val t, v, A, h, a, ha => by rw [h.1] at ha; cases ha
  | .lst os, v, A, h, a, ha => by
    obtain ⟨p, vs, B, rfl, rfl, h1, h2, h3⟩ := h
    rcases List.mem_cons.mp ha with rfl | ha
    · exact ⟨h2, vs, h1⟩
    · exact OReps.at h3 a ha
theorem OReps.at : ∀ {os : List O} {vs : List V} {A : List Addr}, OReps K F H os vs A → ∀ a ∈ A, F a = none ∧ ∃ vs, H a = some (.lst vs)
  | [], vs, A, h, a, ha => by rw [h.2] at ha; cases ha
  | o :: os, vs, A, h, a, ha => by
    obtain ⟨v, r, B, C, rfl, rfl, h1, h2⟩ := h
    rcases List.mem_append.mp ha with ha | ha
    · exact ORep.at h1 a ha
    · exact OReps.at h2 a ha
end
mutual
theorem ORep.rep (sF : Same F F') : ∀ {o : O} {v : V} {A : List Addr}, (∀ a ∈ A, F' a = H a) → ORep K F H o v A → Rep K F' o.tr v
  | .val t, v, A, _, h => Rep.mono sF h.2
  | .lst os, v, A, hA, h => by
    obtain ⟨p, vs, B, rfl, rfl, h1, h2, h3⟩ := h
    exact ⟨p, vs, rfl, (hA p List.mem_cons_self).trans h1, OReps.rep sF (fun a ha => hA a (List.mem_cons_of_mem _ ha)) h3⟩
theorem OReps.rep (sF : Same F F') : ∀ {os : List O} {vs : List V} {A : List Addr}, (∀ a ∈ A, F' a = H a) → OReps K F H os vs A → Reps K F' (O.trs os) vs
  | [], vs, A, _, h => h.1
  | o :: os, vs, A, hA, h => by
    obtain ⟨v, r, B, C, rfl, rfl, h1, h2⟩ := h
    exact ⟨v, r, rfl, ORep.rep sF (fun a ha => hA a (List.mem_append_left _ ha)) h1, OReps.rep sF (fun a ha => hA a (List.mem_append_right _ ha)) h2⟩
end
theorem OReps.app : ∀ {os us : List O} {vs ws : List V} {A B : List Addr}, OReps K F H os vs A → OReps K F H us ws B → OReps K F H (os ++ us) (vs ++ ws) (A ++ B)
  | [], _, _, _, _, _, h, h' => by obtain ⟨rfl, rfl⟩ := h; exact h'
  | o :: os, _, _, _, _, _, h, h' => by
    obtain ⟨v, r, B, C, rfl, rfl, h1, h2⟩ := h
    exact ⟨v, r ++ _, B, C ++ _, rfl, by rw [List.append_assoc], h1, OReps.app h2 h'⟩
theorem OReps.one {o : O} {v : V} {A : List Addr} (h : ORep K F H o v A) : OReps K F H [o] [v] A := ⟨v, [], A, [], rfl, by simp, h, rfl, rfl⟩
theorem OReps.length : ∀ {os : List O} {vs : List V} {A : List Addr}, OReps K F H os vs A → vs.length = os.length
  | [], _, _, h => by rw [h.1]; rfl
  | o :: os, _, _, h => by
    obtain ⟨v, r, B, C, rfl, rfl, h1, h2⟩ := h
    simp [OReps.length h2]
theorem OReps.split : ∀ {os : List O} {vs : List V} {A : List Addr} {k : Nat} {o : O}, OReps K F H os vs A → os[k]? = some o →
    ∃ (ws : List V) (v : V) (xs : List V) (B C D : List Addr), vs = ws ++ v :: xs ∧ ws.length = k ∧ A = B ++ (C ++ D) ∧ OReps K F H (os.take k) ws B ∧ ORep K F H o v C ∧ OReps K F H (os.drop (k + 1)) xs D
  | [], _, _, k, o, h, e => by simp at e
  | o :: os, _, _, 0, o', h, e => by
    obtain ⟨v, r, B, C, rfl, rfl, h1, h2⟩ := h
    simp at e; subst e
    exact ⟨[], v, r, [], B, C, rfl, rfl, rfl, ⟨rfl, rfl⟩, h1, by simpa using h2⟩
  | o :: os, _, _, k + 1, o', h, e => by
    obtain ⟨v, r, B, C, rfl, rfl, h1, h2⟩ := h
    obtain ⟨ws, w, xs, B', C', D', rfl, rfl, rfl, g1, g2, g3⟩ := OReps.split (k := k) h2 (by simpa using e)
    exact ⟨v :: ws, w, xs, B ++ B', C', D', rfl, rfl, by simp [List.append_assoc], ⟨v, ws, B, B', rfl, rfl, h1, g1⟩, g2, by simpa using g3⟩
noncomputable def frzO (F H : Hp) (A : List Addr) : Hp := fun a => if a ∈ A then H a else F a
theorem frzO_in {A : List Addr} {a : Addr} (h : a ∈ A) : frzO F H A a = H a := if_pos h
theorem frzO_out {A : List Addr} {a : Addr} (h : a ∉ A) : frzO F H A a = F a := if_neg h
theorem frzO_same {A : List Addr} (h : ∀ a ∈ A, F a = none) : Same F (frzO F H A) := fun a o e => by
  rw [frzO_out (fun m => by rw [h a m] at e; cases e)]; exact e
theorem ORep.frz {o : O} {v : V} {A : List Addr} (h : ORep K F H o v A) : Rep K (frzO F H A) o.tr v := ORep.rep (frzO_same fun a ha => (h.at a ha).1) (fun a ha => frzO_in ha) h
theorem Grow.frzO {F₀ H₀ : Hp} {A : List Addr} (g : Grow F₀ H₀ F H) (h : ∀ a ∈ A, F a = none) (h0 : ∀ a ∈ A, H₀ a = none) : Grow F₀ H₀ (frzO F H A) H := by
  refine ⟨g.sF.trans (frzO_same h), g.sH, fun a o e => ?_, fun a o e => ?_⟩
  · by_cases m : a ∈ A
    · rw [frzO_in m] at e; exact e
    · rw [frzO_out m] at e; exact g.fh _ _ e
  · by_cases m : a ∈ A
    · exact .inr (h0 a m)
    · rw [frzO_out m] at e; exact g.nw _ _ e
end
section
variable {K : PySem.W.Frag} {F₀ H₀ F H F' H' : Hp} {σ : L2.St} {τ : TEnv} {A : List Addr}
noncomputable def Apart (σ : L2.St) (τ : TEnv) (A : List Addr) : Prop := ∀ (j : Nat) us p, τ[j]? = some (some (.own us)) → σ[j]? = some (some (.ref p)) → p ∉ A
theorem EnvOk.frzO (E : EnvOk K F₀ H₀ F H σ τ) (h : ∀ a ∈ A, F a = none) (h0 : ∀ a ∈ A, H₀ a = none) (ow : Apart σ τ A) : EnvOk K F₀ H₀ (TM.frzO F H A) H σ τ := by
  refine ⟨E.g.frzO h h0, E.len, fun i s e => ?_, E.dj⟩
  obtain ⟨v, h1, h2⟩ := E.sl i s e
  refine ⟨v, h1, ?_⟩
  cases s with
  | sh t => exact Rep.mono (frzO_same h) h2
  | own ts =>
    obtain ⟨p, vs, rfl, k2, k3, k4, k5⟩ := h2
    exact ⟨p, vs, rfl, k2, by rw [frzO_out (ow i ts p e h1)]; exact k3, k4, Reps.mono (frzO_same h) k5⟩
theorem EnvOk.hp (E : EnvOk K F₀ H₀ F H σ τ) (s : Same H H') : EnvOk K F₀ H₀ F H' σ τ := by
  refine ⟨⟨E.g.sF, E.g.sH.trans s, E.g.fh.trans s, E.g.nw⟩, E.len, fun i sl e => ?_, E.dj⟩
  obtain ⟨v, h1, h2⟩ := E.sl i sl e
  refine ⟨v, h1, ?_⟩
  cases sl with
  | sh t => exact h2
  | own ts =>
    obtain ⟨p, vs, rfl, k2, k3, k4, k5⟩ := h2
    exact ⟨p, vs, rfl, s _ _ k2, k3, k4, k5⟩
end
noncomputable abbrev FO' := TEnv → Option (O × TEnv)
noncomputable def tEo (K : PySem.W.Frag) (F₀ H₀ : Hp) (f : FO') : TE := fun σ H Q => ∃ F τ o τ', EnvOk K F₀ H₀ F H σ τ ∧ f τ = some (o, τ') ∧
  ∀ F' H' v A, EnvOk K F₀ H₀ F' H' σ τ' → Same F F' → ORep K F' H' o v A → A.Nodup → (∀ a ∈ A, H₀ a = none) → Apart σ τ' A → Q v H'
noncomputable def SEo (X : Cx) (e : Expr) (f : FO') : Prop := ∀ F₀ H₀, PE X e (tEo X.K F₀ H₀ f)
section
variable {X : Cx} {e : Expr} {pos : Pos}
noncomputable def fTr (f : FO') : FE := fun τ => (f τ).bind fun p => some (p.1.tr, p.2)
theorem SEo.se {f : FO'} (h : SEo X e f) : SE X e (fTr f) := fun F₀ H₀ => PE.weak (h F₀ H₀) fun σ H Q ⟨F, τ, t, τ', E, e1, q⟩ => by
  obtain ⟨⟨o, τ1⟩, e2, e1⟩ := bind_some e1
  cases e1
  refine ⟨F, τ, o, τ1, E, e2, fun F' H' v A E' s' r nd h0 ow => ?_⟩
  have hF : ∀ a ∈ A, F' a = none := fun a ha => (r.at a ha).1
  exact q _ H' v (E'.frzO hF h0 ow) (s'.trans (frzO_same hF)) r.frz
noncomputable def fVal (f : FE) : FO' := fun τ => (f τ).bind fun p => some (.val p.1, p.2)
theorem OReps.vals {K : PySem.W.Frag} {F H : Hp} : ∀ {ts : List T} {vs : List V}, Reps K F ts vs → OReps K F H (ts.map O.val) vs []
  | [], _, h => ⟨h, rfl⟩
  | t :: ts, _, h => by
    obtain ⟨v, r, rfl, h2, h3⟩ := h
    exact ⟨v, r, [], [], rfl, rfl, ⟨rfl, h2⟩, OReps.vals h3⟩
theorem ORep.new {K : PySem.W.Frag} {F H : Hp} {p : Addr} {ts : List T} {vs : List V} (s : Same F H) (n : H p = none) (r : Reps K F ts vs) : ORep K F (upd H p (.lst vs)) (.lst (ts.map O.val)) (.ref p) [p] :=
  ⟨p, vs, [], rfl, rfl, upd_same, s.free n, .vals r⟩
end
end TM

set_option Elab.async false
set_option linter.all false
set_option maxRecDepth 100000
namespace TM
open PySem PySem.Spec PyProof.Rows L2
section
variable {X : Cx}
structure CompEndO (X : Cx) (pins : List (Addr × Obj)) (σ : L2.St) (F₀ H₀ F : Hp) (τ : TEnv) (rs : List O) (D C : Addr) (s : Shared) : Prop where
  ex : ∃ (H F3 : Hp) (vs : List V) (As : List Addr), Inv X pins σ H s ∧ EnvOk X.K F₀ H₀ F3 H σ τ ∧ Same F F3 ∧ F3 D = none ∧ H D = some (.lst vs) ∧ H₀ D = none ∧ OReps X.K F3 H rs vs As ∧ As.Nodup ∧ (∀ a ∈ As, H₀ a = none ∧ a ≠ D) ∧ Apart σ τ As ∧ H C = none
  ns : ∃ m, s.heap.Ns C m
  cl : C ≠ X.env.locals
  c0 : X.s₀.heap.objs.size ≤ C
  cc : ∀ x c, X.env.cells.lookup x = some c → c ≠ C
  cp : ∀ p ∈ X.pn ++ pins, p.1 ≠ C
  ow : ∀ (j : Nat) us p, τ[j]? = some (some (.own us)) → σ[j]? = some (some (.ref p)) → p ≠ D
theorem CompEndO.fin {pins : List (Addr × Obj)} {σ : L2.St} {F₀ H₀ F : Hp} {τ : TEnv} {rs : List O} {D C : Addr} {s : Shared} (Z : CompEndO X pins σ F₀ H₀ F τ rs D C s) :
    ∃ (H F3 : Hp) (As : List Addr), Inv X pins σ H s ∧ EnvOk X.K F₀ H₀ F3 H σ τ ∧ Same F F3 ∧ ORep X.K F3 H (.lst rs) (.ref D) As ∧ As.Nodup ∧ (∀ a ∈ As, H₀ a = none) ∧ Apart σ τ As ∧ H C = none := by
  obtain ⟨H, F3, vs, As, IX, E3, sF, fD, hD, h0D, rv, nd, h0, ap, hC⟩ := Z.ex
  refine ⟨H, F3, D :: As, IX, E3, sF, ⟨D, vs, As, rfl, rfl, hD, fD, rv⟩, List.nodup_cons.mpr ⟨fun m => (h0 D m).2 rfl, nd⟩, fun a ha => ?_, fun j us p e1 e2 m => ?_, hC⟩
  · rcases List.mem_cons.mp ha with rfl | ha
    · exact h0D
    · exact (h0 a ha).1
  · rcases List.mem_cons.mp m with rfl | m
    · exact Z.ow j us _ e1 e2 rfl
    · exact ap j us p e1 e2 m
end
end TM

set_option Elab.async false
set_option linter.all false
set_option maxRecDepth 100000
namespace TM
open PySem PySem.Spec PyProof.Rows L2
noncomputable def delA (H : Hp) (A : List Addr) : Hp := fun a => if a ∈ A then none else H a
noncomputable def spC (K : PySem.W.Frag) (n : Nat) (d : O → List T → Option T) : Sp := fun vs H Q _ => vs.length = n ∧ ∃ F o v ws ts A t, Same F H ∧ vs = v :: ws ∧ ORep K F H o v A ∧ A.Nodup ∧ Reps K F ts ws ∧ d o ts = some t ∧
  ∀ F' H' v', Grow F (delA H A) F' H' → Rep K F' t v' → Q v' H'
structure DefC (P : Program) (w : World) (K : PySem.W.Frag) (mg : Str → Option Value) (base : Heap) (k : Nat) (x : Str) (n : Nat) (d : O → List T → Option T) : Prop where
  ex : ∃ f fd ps, FnOk P w K mg base CX0 k f fd ps (spC K n d) ∧ Binds K fd ps [] ∧ PySem.W.keepIn K (.ref f) = true ∧ mg x = some (.ref f) ∧ ps.length = n
theorem DefC.imp {P : Program} {w : World} {K : PySem.W.Frag} {mg : Str → Option Value} {base : Heap} {k n : Nat} {x : Str} {d d' : O → List T → Option T} (D : DefC P w K mg base k x n d) (h : ∀ o ts t, d' o ts = some t → d o ts = some t) : DefC P w K mg base k x n d' := by
  obtain ⟨f, fd, ps, F, r⟩ := D.ex
  exact ⟨f, fd, ps, F.imp fun vs H Q E ⟨l, F, o, v, ws, ts, A, t, a, b, c, nd, r, e, q⟩ => ⟨l, F, o, v, ws, ts, A, t, a, b, c, nd, r, h _ _ _ e, q⟩, r⟩
theorem DefC.mono {P : Program} {w : World} {K : PySem.W.Frag} {mg : Str → Option Value} {base : Heap} {j k n : Nat} {x : Str} {d : O → List T → Option T} (D : DefC P w K mg base j x n d) (h : j ≤ k) : DefC P w K mg base k x n d := by
  obtain ⟨f, fd, ps, F, r⟩ := D.ex
  exact ⟨f, fd, ps, F.mono h, r⟩
section
variable {K : PySem.W.Frag} {F₀ H₀ F₁ H₁ F H F' H' : Hp} {σ : L2.St} {τ : TEnv}
theorem EnvOk.to (E : EnvOk K F₁ H₁ F H σ τ) (ha : allSh τ = true) (sF : Same F F') (g : Grow F₀ H₀ F' H') : EnvOk K F₀ H₀ F' H' σ τ := by
  refine ⟨g, E.len, fun i sl e => ?_, fun i j ts us p _ e1 => absurd e1 (allSh_get ha)⟩
  obtain ⟨v, h1, h2⟩ := E.sl i sl e
  cases sl with
  | sh t => exact ⟨v, h1, Rep.mono sF h2⟩
  | own ts => exact absurd e (allSh_get ha)
theorem ORep.over {o : O} {v : V} {A : List Addr} (g : Grow F H F' H') (h : ORep K F H o v A) : ORep K F' H' o v A := by
  refine ORep.move g.sF (fun a ha => ?_) h
  obtain ⟨f1, ws, f2⟩ := h.at a ha
  refine ⟨by rw [g.sH _ _ f2, f2], ?_⟩
  cases eF : F' a with
  | none => rfl
  | some o =>
    rcases g.nw _ o eF with z | z
    · rw [f1] at z; cases z
    · rw [f2] at z; cases z
end
section
variable {X : Cx} {e : Expr} {f : FE} {ft : FT} {es : List Expr} {g : FA}
theorem SE.any (h : SE X e f) : PE X e (fun σ H Q => ∃ F₀ H₀, tE X.K F₀ H₀ f σ H Q) := fun pins s σ H Q I ⟨F₀, H₀, q⟩ => h F₀ H₀ pins s σ H Q I q
theorem ST.any (h : ST X e ft) : PT X e (fun σ H Q => ∃ F₀ H₀, tT X.K F₀ H₀ ft σ H Q) := fun pins s σ H Q I ⟨F₀, H₀, q⟩ => h F₀ H₀ pins s σ H Q I q
theorem SA.any (h : SA X es g) : PA X es (fun σ H Q => ∃ F₀ H₀, tA X.K F₀ H₀ g σ H Q) := fun p pins s σ H Q I ⟨F₀, H₀, q⟩ => h F₀ H₀ p pins s σ H Q I q
theorem SSs.any {ss : List Stmt} {fs : FS} (h : SSs X ss fs) : PSs X ss (fun D σ H => ∃ F₀ H₀, tS X.K F₀ H₀ fs D σ H) := fun pins s σ H D I ⟨F₀, H₀, q⟩ => h F₀ H₀ pins s σ H D I q
end
end TM

set_option Elab.async false
set_option linter.all false
set_option maxRecDepth 100000
namespace TM
open PySem PySem.Spec PyProof.Rows L2
section
variable {X : Cx}
noncomputable def boolsOf : List T → Option (List Bool)
  | [] => some []
  | .bl b :: r => (boolsOf r).bind fun bs => some (b :: bs)
  | _ => none
noncomputable def dAll : List T → Option T
  | [.lst ts] => (boolsOf ts).bind fun bs => some (.bl (bs.all id))
  | _ => none
noncomputable def dTuple : List T → Option T
  | [.lst ts] => some (.tup ts)
  | [.tup ts] => some (.tup ts)
  | _ => none
theorem mt_bits : MtR X "int.bit_length" (fun x vs H Q => ∃ i, x = .int i ∧ vs = [] ∧ Q (.int (Builtin.Int.intBits i)) H) := by
  intro pins s σ H x vs v us Q I rx rv ⟨i, hx, hvs, q⟩
  subst hx; subst hvs
  obtain ⟨t, rfl⟩ := rx
  have := rv.zero
  subst this
  exact PyProof.Rows.call_int_bit_length ⟨.int _, H, I.tok _, ⟨_, rfl⟩, q⟩
noncomputable def gBits : T → Option T
  | .int i => some (.int (Builtin.Int.intBits i))
  | _ => none
theorem se_bits {e : Expr} {f : FE} {p2 p3 : Pos} (he : SE X e f) (hbase : attributeBase e "bit_length" X.env (eval e X.env) = eval e X.env := by rfl) (hline : (p2.endLine == p3.line) = true := by rfl) :
    SE X (.Call (.Attribute e "bit_length" p2) [] [] p3) (fUn gBits f) := fun F₀ H₀ =>
  PE.weak (pe_bm0 PySem.F.plainAttrs_int PySem.F.slot_int_bit_length PySem.F.type_int_bit_length mt_bits (he F₀ H₀) hbase hline) fun σ H Q ⟨F, τ, t, τ', E, e1, q⟩ => by
    obtain ⟨⟨x, τ1⟩, e2, e1⟩ := bind_some e1
    obtain ⟨z, e4, e1⟩ := bind_some e1
    cases e1
    refine ⟨F, τ, x, _, E, e2, fun F1 H1 v1 E1 s1 r1 => ?_⟩
    dsimp only at e4
    unfold gBits at e4
    split at e4
    · cases e4; cases r1
      exact ⟨rfl, _, rfl, rfl, q F1 H1 _ E1 s1 rfl⟩
    · cases e4
theorem se_globI {x : Str} {i : Int} {t : Tok} {pos : Pos} (hg : Gl X x) (hm : X.mg x = some (.int i t)) (hd : (x == ("__debug__" : Str)) = false := by decide) : SE X (.Name x pos) (fC (.int i)) := se_const (pe_glob (v := .int i) hg hm ⟨_, rfl⟩ hd) fun _ => rfl
noncomputable def fiSeq (f : FE) : FA := fun τ => (f τ).bind fun p => match p.1 with | .lst ts => some (ts, p.2) | .scr ts => some (ts, p.2) | .tup ts => some (ts, p.2) | _ => none
end
theorem fnok_of {P : Program} {w : World} {K : PySem.W.Frag} {mg : Str → Option Value} {base : Heap} {x qual : Str} {st : Stmt} {f : Addr} {fd : FuncData} {N ps : List Str} {k : Nat} {fb : FS} (F : Fun K x qual st f fd) (S : FnScope N ps (defScope st))
    (h : ∀ (cdv : Value) (A : Around) (outer : List Env) (s : Shared) (H : Hp) (E : XK), Room k (A.deeper (envOfC qual (defScope st) s.heap.objs.size f cdv)) → SSs (cxOf CX0 P w K mg base N qual (defScope st) f cdv A outer s H E).nox (defBody st) fb) :
    FnOk P w K mg base CX0 (k + 1) f fd ps (spT K ps.length (dOf N.length ps.length fb)) := by
  refine F.ok S (fun vs H Q E z => z.1) (fun cdv A outer s H vs Q E hr z => ?_)
  obtain ⟨hl, F1, ts, t, sm, r, e, q⟩ := z
  unfold dOf at e
  split at e
  · next hn =>
    obtain ⟨r', e1, e⟩ := bind_some e
    refine ⟨_, h cdv A outer s H E hr F1 H, F1, _, r', ?_, e1, ?_⟩
    · have := env_start (N := N) sm r
      rw [hn] at this
      exact this
    · cases r' with
      | rt u => cases e; exact fun F' H' v g r' => q F' H' v g r'
      | nx τ => cases e; exact fun F' H' σ' E' s' => q F' H' .non E'.g rfl
      | bk τ => cases e
      | ct τ => cases e
  · cases e
end TM

set_option Elab.async false
set_option linter.all false
set_option maxRecDepth 100000
namespace TM
open PySem PySem.Spec PyProof.Rows L2
theorem SS.any {X : Cx} {st : Stmt} {fs : FS} (h : SS X st fs) : PS X st (fun D σ H => ∃ F₀ H₀, tS X.K F₀ H₀ fs D σ H) := fun pins s σ H D I ⟨F₀, H₀, q⟩ => h F₀ H₀ pins s σ H D I q
structure Held (K : PySem.W.Frag) (F0 H0 F H : Hp) (p : Addr) (os : List O) (A : List Addr) : Prop where
  g : Grow F0 H0 F H
  r : ORep K F H (.lst os) (.ref p) A
  nd : A.Nodup
  h0 : ∀ a ∈ A, H0 a = none
section
variable {K : PySem.W.Frag} {F0 H0 F H F1 H1 : Hp} {p : Addr} {os : List O} {A : List Addr}
theorem Held.hp (S : Held K F0 H0 F H p os A) (s : Same H H1) : Held K F0 H0 F H1 p os A :=
  ⟨⟨S.g.sF, S.g.sH.trans s, S.g.fh.trans s, S.g.nw⟩, ORep.move (Same.refl _) (fun a ha => by obtain ⟨f1, ws, f2⟩ := S.r.at a ha; exact ⟨by rw [s _ _ f2, f2], f1⟩) S.r, S.nd, S.h0⟩
theorem Held.over (S : Held K F0 H0 F H p os A) (g : Grow F H F1 H1) : Held K F0 H0 F1 H1 p os A := ⟨S.g.trans g, S.r.over g, S.nd, S.h0⟩
theorem Held.root (S : Held K F0 H0 F H p os A) : ∃ vs B, A = p :: B ∧ H p = some (.lst vs) ∧ F p = none ∧ OReps K F H os vs B := by
  obtain ⟨p', vs, B, e, rfl, h1, h2, h3⟩ := S.r
  cases e
  exact ⟨vs, B, rfl, h1, h2, h3⟩
theorem Held.fin (S : Held K F0 H0 F H p os A) : ∃ F', Grow F0 H0 F' H ∧ Rep K F' (.lst (O.trs os)) (.ref p) :=
  ⟨frzO F H A, S.g.frzO (fun a ha => (S.r.at a ha).1) S.h0, S.r.frz⟩
theorem set_cut {os : List O} {j : Nat} {o : O} (o' : O) (e : os[j]? = some o) : os.set j o' = os.take j ++ ([o'] ++ os.drop (j + 1)) := by
  rw [List.set_eq_take_append_cons_drop, if_pos (List.getElem?_eq_some_iff.mp e).1]
  rfl
theorem Held.more (S : Held K F0 H0 F H p os A) {vs : List V} {t : T} {v : V} (hp : H p = some (.lst vs)) (r : Rep K F t v) : Held K F0 H0 F (upd H p (.lst (vs ++ [v]))) p (os ++ [.val t]) A := by
  obtain ⟨vs', B, rfl, h1, h2, h3⟩ := S.root
  rw [hp] at h1; cases h1
  have nd := List.nodup_cons.mp S.nd
  have p0 : H0 p = none := S.h0 p List.mem_cons_self
  refine ⟨⟨S.g.sF, fun a o' ha => ?_, fun a o' ha => ?_, S.g.nw⟩, ⟨p, _, _, rfl, rfl, upd_same, h2, ?_⟩, S.nd, S.h0⟩
  · rw [upd_ne (fun z => by subst z; rw [p0] at ha; cases ha)]; exact S.g.sH _ _ ha
  · rw [upd_ne (fun z => by subst z; rw [h2] at ha; cases ha)]; exact S.g.fh _ _ ha
  · have m1 : OReps K F (upd H p (.lst (vs ++ [v]))) os vs B := OReps.move (Same.refl _) (fun a ha => ⟨upd_ne (fun z => nd.1 (z ▸ ha)), (h3.at a ha).1⟩) h3
    have all := m1.app (OReps.one (K := K) (F := F) (H := upd H p (.lst (vs ++ [v]))) (o := .val t) ⟨rfl, r⟩)
    rw [List.append_nil] at all
    exact all
noncomputable def allVal : List O → Bool
  | [] => true
  | .val _ :: r => allVal r
  | _ :: _ => false
theorem OReps.plain : ∀ {ro : List O} {ws : List V} {C : List Addr}, allVal ro = true → OReps K F H ro ws C → C = [] ∧ Reps K F (O.trs ro) ws
  | [], ws, C, _, h => ⟨h.2, h.1⟩
  | .val t :: r, ws, C, ha, h => by
    obtain ⟨v, q, B, D, rfl, rfl, ⟨rfl, h1⟩, h2⟩ := h
    obtain ⟨rfl, h3⟩ := OReps.plain (ro := r) ha h2
    exact ⟨rfl, v, q, rfl, h1, h3⟩
  | .lst _ :: r, ws, C, ha, h => by cases ha
theorem Held.row (S : Held K F0 H0 F H p os A) {j : Nat} {ro : List O} (e : os[j]? = some (.lst ro)) (ha : allVal ro = true) : ∃ vs q ws, H p = some (.lst vs) ∧ vs[j]? = some (.ref q) ∧ H q = some (.lst ws) ∧ Reps K F (O.trs ro) ws ∧ vs.length = os.length := by
  obtain ⟨vs, B, rfl, h1, h2, h3⟩ := S.root
  have hl := h3.length
  obtain ⟨ws, v0, xs, B1, C, D, rfl, rfl, rfl, g1, ⟨q, zs, C', rfl, rfl, k1, k2, k3⟩, g3⟩ := h3.split e
  obtain ⟨rfl, k4⟩ := k3.plain ha
  exact ⟨_, q, zs, h1, by rw [List.getElem?_append_right (Nat.le_refl _), Nat.sub_self, List.getElem?_cons_zero], k1, k4, hl⟩
theorem Held.turn (S : Held K F0 H0 F H p os A) {j : Nat} {ro : List O} {vs : List V} {q : Addr} {ts : List T} {ws : List V} (e : os[j]? = some (.lst ro)) (ha : allVal ro = true) (hp : H p = some (.lst vs)) (hq : vs[j]? = some (.ref q)) (r : Reps K F ts ws) :
    Held K F0 H0 F (upd H q (.lst ws)) p (os.set j (.lst (ts.map O.val))) A := by
  obtain ⟨vs', B, rfl, h1, h2, h3⟩ := S.root
  rw [hp] at h1; cases h1
  obtain ⟨us, v0, xs, B1, C, D, rfl, rfl, rfl, g1, ⟨q', zs, C', rfl, rfl, k1, k2, k3⟩, g3⟩ := h3.split e
  rw [List.getElem?_append_right (Nat.le_refl _), Nat.sub_self, List.getElem?_cons_zero] at hq
  cases hq
  obtain ⟨rfl, k4⟩ := k3.plain ha
  have nd := List.nodup_cons.mp S.nd
  obtain ⟨n1, n2, n3⟩ := List.nodup_append.mp nd.2
  obtain ⟨n4, n5, n6⟩ := List.nodup_append.mp n2
  have q0 : H0 q = none := S.h0 q (List.mem_cons_of_mem _ (List.mem_append_right _ (List.mem_append_left _ List.mem_cons_self)))
  have qp : p ≠ q := fun z => nd.1 (z ▸ (List.mem_append_right _ (List.mem_append_left _ List.mem_cons_self)))
  have mv : ∀ {us : List O} {zs : List V} {E : List Addr}, (∀ a ∈ E, a ≠ q) → OReps K F H us zs E → OReps K F (upd H q (.lst ws)) us zs E := fun sub h => OReps.move (Same.refl _) (fun a ha => ⟨upd_ne (sub a ha), (h.at a ha).1⟩) h
  have s1 : ∀ a ∈ B1, a ≠ q := fun a ha => n3 a ha q (List.mem_append_left _ List.mem_cons_self)
  have s2 : ∀ a ∈ D, a ≠ q := fun a ha z => n6 q List.mem_cons_self a ha z.symm
  refine ⟨⟨S.g.sF, fun a o' ha => ?_, fun a o' ha => ?_, S.g.nw⟩, ⟨p, _, _, rfl, rfl, (upd_ne qp).trans hp, h2, ?_⟩, S.nd, S.h0⟩
  · rw [upd_ne (fun z => by subst z; rw [q0] at ha; cases ha)]; exact S.g.sH _ _ ha
  · rw [upd_ne (fun z => by subst z; rw [k2] at ha; cases ha)]; exact S.g.fh _ _ ha
  · rw [set_cut _ e]
    exact (mv s1 g1).app ((OReps.one (K := K) (F := F) (H := upd H q (.lst ws)) (o := .lst (ts.map O.val)) ⟨q, ws, [], rfl, rfl, upd_same, k2, .vals r⟩).app (mv s2 g3))
end
end TM

set_option Elab.async false
set_option linter.all false
set_option maxRecDepth 100000
namespace My
open PySem PySem.Spec PyProof.Rows L2 TM
noncomputable def top (i : Nat) : Stmt := PySem.Challenge.pw_echohouse_k01_fractions_reckoned.main.body.getD i (.Pass ⟨0, 0, 0, 0⟩)
noncomputable abbrev s_common : Stmt := top 4
noncomputable def b_common (n : Nat) (d_half : List T → Option T) : FS :=
    (fSeq (fPar 0 1 (fCons (fCall dAbs (fCons (fVar 0) fNil)) (fCons (fCall dAbs (fCons (fVar 1) fNil)) fNil)))
    (fSeq (whileT (fTB (fOp gGt (fUn gBits (fVar 1)) (fC (.int 4000)))) (fSeq (fPar 0 1 (fCons (fVar 1) (fCons (fOp gMod (fVar 0) (fVar 1)) fNil)))
    (fIfS (fTB (fOp gGt (fUn gBits (fVar 1)) (fC (.int 4000)))) (fAsg (fCall d_half (fCons (fVar 0) (fCons (fVar 1) fNil))) (gnTup (gnCons (gnName 0) (gnCons (gnName 1) (gnCons (gnName 2) gnNil))))) fNext)) n)
    (fSeq (whileT (fTB (fOp gNe (fVar 1) (fC (.int 0)))) (fPar 0 1 (fCons (fVar 1) (fCons (fOp gMod (fVar 0) (fVar 1)) fNil))) n)
    (fRet (fVar 0)))))
theorem sc_common : FnScope ["one", "other", "factors"] ["one", "other"] (defScope s_common) := ⟨rfl, rfl, rfl, by decide +kernel, rfl, by decide +kernel, by decide +kernel⟩
set_option maxHeartbeats 4000000 in
theorem ok_common {P : Program} {w : World} {K : PySem.W.Frag} {mg : Str → Option Value} {base : Heap} {k : Nat} {f : Addr} {fd : FuncData} {d_half : List T → Option T} {t_SHORT : Tok} (n : Nat) (F : Fun K "common" "common" s_common f fd) (hb : Binds K fd ["one", "other"] []) (hm : mg "common" = some (.ref f)) (D_half : Def P w K mg base k "half" 2 d_half) (m_abs : mg "abs" = none) (g_SHORT : mg "SHORT" = some (.int 4000 t_SHORT)) :
    Def P w K mg base (k + 1) "common" 2 (dOf 3 2 (b_common n d_half)) :=
  def_of F sc_common hb hm fun cdv A outer s H E hr => (sss_cons (ss_par rfl sc_common.nd rfl rfl (by decide) rfl rfl (sa_cons (se_callB ct_abs rfl m_abs rfl (sa_cons (se_var 0 (pv 0)) sa_nil)) (sa_cons (se_callB ct_abs rfl m_abs rfl (sa_cons (se_var 1 (pv 1)) sa_nil)) sa_nil)) rfl)
    (sss_cons (ss_while n PassesOwn.never (st_cmp ot_gt (se_bits (se_var 1 (pv 1))) (se_globI rfl g_SHORT) (nomark _)) (sss_cons (ss_par rfl sc_common.nd rfl rfl (by decide) rfl rfl (sa_cons (se_var 1 (pv 1)) (sa_cons (se_op ot_mod (se_var 0 (pv 0)) (se_var 1 (pv 1))) sa_nil)) rfl)
    (sss_one (ss_if (st_cmp ot_gt (se_bits (se_var 1 (pv 1))) (se_globI rfl g_SHORT) (nomark _)) (sss_one (ss_asg (se_call D_half hr rfl (sa_cons (se_var 0 (pv 0)) (sa_cons (se_var 1 (pv 1)) sa_nil)) (len_cons (len_cons len_nil))) (sg_tup rfl (sgs_cons (sg_name 0 sc_common.nd rfl (Or.inl rfl)) (sgs_cons (sg_name 1 sc_common.nd rfl (Or.inl rfl)) (sgs_cons (sg_name 2 sc_common.nd rfl (Or.inl rfl)) sgs_nil))) (gl_cons (gl_cons (gl_cons gl_nil)))))) sss_nil))))
    (sss_cons (ss_while n PassesOwn.never (st_cmp (ot_ne hr.units) (se_var 1 (pv 1)) se_int (nomark _)) (sss_one (ss_par rfl sc_common.nd rfl rfl (by decide) rfl rfl (sa_cons (se_var 1 (pv 1)) (sa_cons (se_op ot_mod (se_var 0 (pv 0)) (se_var 1 (pv 1))) sa_nil)) rfl)))
    (sss_one (ss_ret (se_var 0 (pv 0)))))))
noncomputable abbrev s_half : Stmt := top 5
noncomputable abbrev s_is_whole : Stmt := top 13
noncomputable def b_is_whole : FS :=
    (fRet (fAndV (fCall dIsi (fCons (fVar 0) (fCons (fC (.ty "int")) fNil))) (fUn gNot (fCall dIsi (fCons (fVar 0) (fCons (fC (.ty "bool")) fNil))))))
theorem sc_is_whole : FnScope ["thing"] ["thing"] (defScope s_is_whole) := ⟨rfl, rfl, rfl, by decide +kernel, rfl, by decide +kernel, by decide +kernel⟩
set_option maxHeartbeats 4000000 in
theorem ok_is_whole {P : Program} {w : World} {K : PySem.W.Frag} {mg : Str → Option Value} {base : Heap} {k : Nat} {f : Addr} {fd : FuncData} (F : Fun K "is_whole" "is_whole" s_is_whole f fd) (hb : Binds K fd ["thing"] []) (hm : mg "is_whole" = some (.ref f)) (m_int : mg "int" = none) (m_isinstance : mg "isinstance" = none) (m_bool : mg "bool" = none) :
    Def P w K mg base (k + 1) "is_whole" 1 (dOf 1 1 (b_is_whole)) :=
  def_of F sc_is_whole hb hm fun cdv A outer s H E hr => (sss_one (ss_ret (se_and (se_callB ct_isi rfl m_isinstance rfl (sa_cons (se_var 0 (pv 0)) (sa_cons (se_ty rfl m_int rfl) sa_nil))) (se_one (se_not (se_callB ct_isi rfl m_isinstance rfl (sa_cons (se_var 0 (pv 0)) (sa_cons (se_ty rfl m_bool rfl) sa_nil))))))))
noncomputable abbrev s_is_fraction : Stmt := top 14
noncomputable def b_is_fraction (d_is_whole d_common : List T → Option T) : FS :=
    (fSeq (fIfS (fOr (fNot (fTru (fCall dIsi (fCons (fVar 0) (fCons (fC (.ty "tuple")) fNil))))) (fTB (fOp gNe (fCall dLen (fCons (fVar 0) fNil)) (fC (.int 2))))) (fRet (fC (.bl false))) fNext)
    (fSeq (fAsg (fVar 0) (gnTup (gnCons (gnName 1) (gnCons (gnName 2) gnNil))))
    (fRet (fAndV (fCall d_is_whole (fCons (fVar 1) fNil)) (fAndV (fCall d_is_whole (fCons (fVar 2) fNil)) (fAndV (fOp gGe (fVar 2) (fC (.int 1))) (fOp gEq (fCall d_common (fCons (fVar 1) (fCons (fVar 2) fNil))) (fC (.int 1)))))))))
theorem sc_is_fraction : FnScope ["thing", "top", "bottom"] ["thing"] (defScope s_is_fraction) := ⟨rfl, rfl, rfl, by decide +kernel, rfl, by decide +kernel, by decide +kernel⟩
set_option maxHeartbeats 4000000 in
theorem ok_is_fraction {P : Program} {w : World} {K : PySem.W.Frag} {mg : Str → Option Value} {base : Heap} {k : Nat} {f : Addr} {fd : FuncData} {d_is_whole : List T → Option T} {d_common : List T → Option T} (F : Fun K "is_fraction" "is_fraction" s_is_fraction f fd) (hb : Binds K fd ["thing"] []) (hm : mg "is_fraction" = some (.ref f)) (D_is_whole : Def P w K mg base k "is_whole" 1 d_is_whole) (D_common : Def P w K mg base k "common" 2 d_common) (m_tuple : mg "tuple" = none) (m_isinstance : mg "isinstance" = none) (m_len : mg "len" = none) :
    Def P w K mg base (k + 1) "is_fraction" 1 (dOf 3 1 (b_is_fraction d_is_whole d_common)) :=
  def_of F sc_is_fraction hb hm fun cdv A outer s H E hr => (sss_cons (ss_if (SW.st (sw_or (st_not (st_val (se_callB ct_isi rfl m_isinstance rfl (sa_cons (se_var 0 (pv 0)) (sa_cons (se_ty rfl m_tuple rfl) sa_nil))))) (sw_or1 (st_cmp (ot_ne hr.units) (se_callB ct_len rfl m_len PySem.boot_len (sa_cons (se_var 0 (pv 0)) sa_nil)) se_int (nomark _))))) (sss_one (ss_ret se_bl)) sss_nil)
    (sss_cons (ss_asg (se_var 0 (pv 0)) (sg_tup rfl (sgs_cons (sg_name 1 sc_is_fraction.nd rfl (Or.inl rfl)) (sgs_cons (sg_name 2 sc_is_fraction.nd rfl (Or.inl rfl)) sgs_nil)) (gl_cons (gl_cons gl_nil))))
    (sss_one (ss_ret (se_and (se_call D_is_whole hr rfl (sa_cons (se_var 1 (pv 1)) sa_nil) (len_cons len_nil)) (se_and (se_call D_is_whole hr rfl (sa_cons (se_var 2 (pv 2)) sa_nil) (len_cons len_nil)) (se_and (se_cmp ot_ge (se_var 2 (pv 2)) se_int (nomark _)) (se_one (se_cmp (ot_eq hr.units) (se_call D_common hr rfl (sa_cons (se_var 1 (pv 1)) (sa_cons (se_var 2 (pv 2)) sa_nil)) (len_cons (len_cons len_nil))) se_int (nomark _))))))))))
noncomputable abbrev s_frac : Stmt := top 15
noncomputable def b_frac (d_common : List T → Option T) : FS :=
    (fSeq (fIfS (fTB (fOp gEq (fVar 1) (fC (.int 0)))) fNever fNext)
    (fSeq (fSet 2 (fCall d_common (fCons (fVar 0) (fCons (fVar 1) fNil))))
    (fSeq (fIfS (fTB (fOp gLt (fVar 1) (fC (.int 0)))) (fSet 2 (fUn gNeg (fVar 2))) fNext)
    (fSeq (fIfS (fTB (fOp gLt (fUn gBits (fVar 2)) (fC (.int 8000)))) (fRet (fTup (fCons (fOp gDiv (fVar 0) (fVar 2)) (fCons (fOp gDiv (fVar 1) (fVar 2)) fNil)))) fNext)
    fNever))))
theorem sc_frac : FnScope ["top", "bottom", "shared"] ["top", "bottom"] (defScope s_frac) := ⟨rfl, rfl, rfl, by decide +kernel, rfl, by decide +kernel, by decide +kernel⟩
set_option maxHeartbeats 4000000 in
theorem ok_frac {P : Program} {w : World} {K : PySem.W.Frag} {mg : Str → Option Value} {base : Heap} {k : Nat} {f : Addr} {fd : FuncData} {d_common : List T → Option T} {t_SHORT_QUOTIENT : Tok} (F : Fun K "frac" "frac" s_frac f fd) (hb : Binds K fd ["top", "bottom"] []) (hm : mg "frac" = some (.ref f)) (D_common : Def P w K mg base k "common" 2 d_common) (g_SHORT_QUOTIENT : mg "SHORT_QUOTIENT" = some (.int 8000 t_SHORT_QUOTIENT)) :
    Def P w K mg base (k + 1) "frac" 2 (dOf 3 2 (b_frac d_common)) :=
  def_of F sc_frac hb hm fun cdv A outer s H E hr => (sss_cons (ss_if (st_cmp (ot_eq hr.units) (se_var 1 (pv 1)) se_int (nomark _)) (sss_one ss_never) sss_nil)
    (sss_cons (ss_set 2 sc_frac.nd rfl (Or.inl rfl) (se_call D_common hr rfl (sa_cons (se_var 0 (pv 0)) (sa_cons (se_var 1 (pv 1)) sa_nil)) (len_cons (len_cons len_nil))))
    (sss_cons (ss_if (st_cmp ot_lt (se_var 1 (pv 1)) se_int (nomark _)) (sss_one (ss_set 2 sc_frac.nd rfl (Or.inl rfl) (se_un ut_neg (se_var 2 (pv 2))))) sss_nil)
    (sss_cons (ss_if (st_cmp ot_lt (se_bits (se_var 2 (pv 2))) (se_globI rfl g_SHORT_QUOTIENT) (nomark _)) (sss_one (ss_ret (se_tup (sa_cons (se_op ot_div (se_var 0 (pv 0)) (se_var 2 (pv 2))) (sa_cons (se_op ot_div (se_var 1 (pv 1)) (se_var 2 (pv 2))) sa_nil))))) sss_nil)
    sss_never))))
noncomputable abbrev s_plus : Stmt := top 16
noncomputable def b_plus (d_common : List T → Option T) : FS :=
    (fSeq (fSet 2 (fCall d_common (fCons (fOp gIx (fVar 0) (fC (.int 1))) (fCons (fOp gIx (fVar 1) (fC (.int 1))) fNil))))
    (fSeq (fSet 3 (fOp gAdd (fOp gMulI (fOp gIx (fVar 0) (fC (.int 0))) (fOp gDiv (fOp gIx (fVar 1) (fC (.int 1))) (fVar 2))) (fOp gMulI (fOp gIx (fVar 1) (fC (.int 0))) (fOp gDiv (fOp gIx (fVar 0) (fC (.int 1))) (fVar 2)))))
    (fSeq (fSet 4 (fCall d_common (fCons (fVar 3) (fCons (fVar 2) fNil))))
    (fRet (fTup (fCons (fOp gDiv (fVar 3) (fVar 4)) (fCons (fOp gMulI (fOp gDiv (fOp gIx (fVar 0) (fC (.int 1))) (fVar 2)) (fOp gDiv (fOp gIx (fVar 1) (fC (.int 1))) (fVar 4))) fNil)))))))
theorem sc_plus : FnScope ["one", "other", "shared", "top", "low"] ["one", "other"] (defScope s_plus) := ⟨rfl, rfl, rfl, by decide +kernel, rfl, by decide +kernel, by decide +kernel⟩
set_option maxHeartbeats 4000000 in
theorem ok_plus {P : Program} {w : World} {K : PySem.W.Frag} {mg : Str → Option Value} {base : Heap} {k : Nat} {f : Addr} {fd : FuncData} {d_common : List T → Option T} (F : Fun K "plus" "plus" s_plus f fd) (hb : Binds K fd ["one", "other"] []) (hm : mg "plus" = some (.ref f)) (D_common : Def P w K mg base k "common" 2 d_common) :
    Def P w K mg base (k + 1) "plus" 2 (dOf 5 2 (b_plus d_common)) :=
  def_of F sc_plus hb hm fun cdv A outer s H E hr => (sss_cons (ss_set 2 sc_plus.nd rfl (Or.inl rfl) (se_call D_common hr rfl (sa_cons (se_ix xt_ix (se_var 0 (pv 0)) se_int (fun _ _ => rfl)) (sa_cons (se_ix xt_ix (se_var 1 (pv 1)) se_int (fun _ _ => rfl)) sa_nil)) (len_cons (len_cons len_nil))))
    (sss_cons (ss_set 3 sc_plus.nd rfl (Or.inl rfl) (se_op ot_add (se_op ot_mulI (se_ix xt_ix (se_var 0 (pv 0)) se_int (fun _ _ => rfl)) (se_op ot_div (se_ix xt_ix (se_var 1 (pv 1)) se_int (fun _ _ => rfl)) (se_var 2 (pv 2)))) (se_op ot_mulI (se_ix xt_ix (se_var 1 (pv 1)) se_int (fun _ _ => rfl)) (se_op ot_div (se_ix xt_ix (se_var 0 (pv 0)) se_int (fun _ _ => rfl)) (se_var 2 (pv 2))))))
    (sss_cons (ss_set 4 sc_plus.nd rfl (Or.inl rfl) (se_call D_common hr rfl (sa_cons (se_var 3 (pv 3)) (sa_cons (se_var 2 (pv 2)) sa_nil)) (len_cons (len_cons len_nil))))
    (sss_one (ss_ret (se_tup (sa_cons (se_op ot_div (se_var 3 (pv 3)) (se_var 4 (pv 4))) (sa_cons (se_op ot_mulI (se_op ot_div (se_ix xt_ix (se_var 0 (pv 0)) se_int (fun _ _ => rfl)) (se_var 2 (pv 2))) (se_op ot_div (se_ix xt_ix (se_var 1 (pv 1)) se_int (fun _ _ => rfl)) (se_var 4 (pv 4)))) sa_nil))))))))
noncomputable abbrev s_minus : Stmt := top 17
noncomputable def b_minus (d_plus : List T → Option T) : FS :=
    (fRet (fCall d_plus (fCons (fVar 0) (fCons (fTup (fCons (fUn gNeg (fOp gIx (fVar 1) (fC (.int 0)))) (fCons (fOp gIx (fVar 1) (fC (.int 1))) fNil))) fNil))))
theorem sc_minus : FnScope ["one", "other"] ["one", "other"] (defScope s_minus) := ⟨rfl, rfl, rfl, by decide +kernel, rfl, by decide +kernel, by decide +kernel⟩
set_option maxHeartbeats 4000000 in
theorem ok_minus {P : Program} {w : World} {K : PySem.W.Frag} {mg : Str → Option Value} {base : Heap} {k : Nat} {f : Addr} {fd : FuncData} {d_plus : List T → Option T} (F : Fun K "minus" "minus" s_minus f fd) (hb : Binds K fd ["one", "other"] []) (hm : mg "minus" = some (.ref f)) (D_plus : Def P w K mg base k "plus" 2 d_plus) :
    Def P w K mg base (k + 1) "minus" 2 (dOf 2 2 (b_minus d_plus)) :=
  def_of F sc_minus hb hm fun cdv A outer s H E hr => (sss_one (ss_ret (se_call D_plus hr rfl (sa_cons (se_var 0 (pv 0)) (sa_cons (se_tup (sa_cons (se_un ut_neg (se_ix xt_ix (se_var 1 (pv 1)) se_int (fun _ _ => rfl))) (sa_cons (se_ix xt_ix (se_var 1 (pv 1)) se_int (fun _ _ => rfl)) sa_nil))) sa_nil)) (len_cons (len_cons len_nil)))))
noncomputable abbrev s_times : Stmt := top 18
noncomputable def b_times (d_common : List T → Option T) : FS :=
    (fSeq (fSet 2 (fCall d_common (fCons (fOp gIx (fVar 0) (fC (.int 0))) (fCons (fOp gIx (fVar 1) (fC (.int 1))) fNil))))
    (fSeq (fSet 3 (fCall d_common (fCons (fOp gIx (fVar 1) (fC (.int 0))) (fCons (fOp gIx (fVar 0) (fC (.int 1))) fNil))))
    (fRet (fTup (fCons (fOp gMulI (fOp gDiv (fOp gIx (fVar 0) (fC (.int 0))) (fVar 2)) (fOp gDiv (fOp gIx (fVar 1) (fC (.int 0))) (fVar 3))) (fCons (fOp gMulI (fOp gDiv (fOp gIx (fVar 0) (fC (.int 1))) (fVar 3)) (fOp gDiv (fOp gIx (fVar 1) (fC (.int 1))) (fVar 2))) fNil))))))
theorem sc_times : FnScope ["one", "other", "left", "right"] ["one", "other"] (defScope s_times) := ⟨rfl, rfl, rfl, by decide +kernel, rfl, by decide +kernel, by decide +kernel⟩
set_option maxHeartbeats 4000000 in
theorem ok_times {P : Program} {w : World} {K : PySem.W.Frag} {mg : Str → Option Value} {base : Heap} {k : Nat} {f : Addr} {fd : FuncData} {d_common : List T → Option T} (F : Fun K "times" "times" s_times f fd) (hb : Binds K fd ["one", "other"] []) (hm : mg "times" = some (.ref f)) (D_common : Def P w K mg base k "common" 2 d_common) :
    Def P w K mg base (k + 1) "times" 2 (dOf 4 2 (b_times d_common)) :=
  def_of F sc_times hb hm fun cdv A outer s H E hr => (sss_cons (ss_set 2 sc_times.nd rfl (Or.inl rfl) (se_call D_common hr rfl (sa_cons (se_ix xt_ix (se_var 0 (pv 0)) se_int (fun _ _ => rfl)) (sa_cons (se_ix xt_ix (se_var 1 (pv 1)) se_int (fun _ _ => rfl)) sa_nil)) (len_cons (len_cons len_nil))))
    (sss_cons (ss_set 3 sc_times.nd rfl (Or.inl rfl) (se_call D_common hr rfl (sa_cons (se_ix xt_ix (se_var 1 (pv 1)) se_int (fun _ _ => rfl)) (sa_cons (se_ix xt_ix (se_var 0 (pv 0)) se_int (fun _ _ => rfl)) sa_nil)) (len_cons (len_cons len_nil))))
    (sss_one (ss_ret (se_tup (sa_cons (se_op ot_mulI (se_op ot_div (se_ix xt_ix (se_var 0 (pv 0)) se_int (fun _ _ => rfl)) (se_var 2 (pv 2))) (se_op ot_div (se_ix xt_ix (se_var 1 (pv 1)) se_int (fun _ _ => rfl)) (se_var 3 (pv 3)))) (sa_cons (se_op ot_mulI (se_op ot_div (se_ix xt_ix (se_var 0 (pv 0)) se_int (fun _ _ => rfl)) (se_var 3 (pv 3))) (se_op ot_div (se_ix xt_ix (se_var 1 (pv 1)) se_int (fun _ _ => rfl)) (se_var 2 (pv 2)))) sa_nil)))))))
noncomputable abbrev s_over : Stmt := top 19
noncomputable def b_over (d_frac d_times : List T → Option T) : FS :=
    (fRet (fCall d_times (fCons (fVar 0) (fCons (fCall d_frac (fCons (fOp gIx (fVar 1) (fC (.int 1))) (fCons (fOp gIx (fVar 1) (fC (.int 0))) fNil))) fNil))))
theorem sc_over : FnScope ["one", "other"] ["one", "other"] (defScope s_over) := ⟨rfl, rfl, rfl, by decide +kernel, rfl, by decide +kernel, by decide +kernel⟩
set_option maxHeartbeats 4000000 in
theorem ok_over {P : Program} {w : World} {K : PySem.W.Frag} {mg : Str → Option Value} {base : Heap} {k : Nat} {f : Addr} {fd : FuncData} {d_frac : List T → Option T} {d_times : List T → Option T} (F : Fun K "over" "over" s_over f fd) (hb : Binds K fd ["one", "other"] []) (hm : mg "over" = some (.ref f)) (D_frac : Def P w K mg base k "frac" 2 d_frac) (D_times : Def P w K mg base k "times" 2 d_times) :
    Def P w K mg base (k + 1) "over" 2 (dOf 2 2 (b_over d_frac d_times)) :=
  def_of F sc_over hb hm fun cdv A outer s H E hr => (sss_one (ss_ret (se_call D_times hr rfl (sa_cons (se_var 0 (pv 0)) (sa_cons (se_call D_frac hr rfl (sa_cons (se_ix xt_ix (se_var 1 (pv 1)) se_int (fun _ _ => rfl)) (sa_cons (se_ix xt_ix (se_var 1 (pv 1)) se_int (fun _ _ => rfl)) sa_nil)) (len_cons (len_cons len_nil))) sa_nil)) (len_cons (len_cons len_nil)))))
noncomputable abbrev s_below : Stmt := top 20
noncomputable def b_below : FS :=
    (fRet (fOp gLt (fOp gMulI (fOp gIx (fVar 0) (fC (.int 0))) (fOp gIx (fVar 1) (fC (.int 1)))) (fOp gMulI (fOp gIx (fVar 1) (fC (.int 0))) (fOp gIx (fVar 0) (fC (.int 1))))))
theorem sc_below : FnScope ["one", "other"] ["one", "other"] (defScope s_below) := ⟨rfl, rfl, rfl, by decide +kernel, rfl, by decide +kernel, by decide +kernel⟩
set_option maxHeartbeats 4000000 in
theorem ok_below {P : Program} {w : World} {K : PySem.W.Frag} {mg : Str → Option Value} {base : Heap} {k : Nat} {f : Addr} {fd : FuncData} (F : Fun K "below" "below" s_below f fd) (hb : Binds K fd ["one", "other"] []) (hm : mg "below" = some (.ref f)) :
    Def P w K mg base (k + 1) "below" 2 (dOf 2 2 (b_below)) :=
  def_of F sc_below hb hm fun cdv A outer s H E hr => (sss_one (ss_ret (se_cmp ot_lt (se_op ot_mulI (se_ix xt_ix (se_var 0 (pv 0)) se_int (fun _ _ => rfl)) (se_ix xt_ix (se_var 1 (pv 1)) se_int (fun _ _ => rfl))) (se_op ot_mulI (se_ix xt_ix (se_var 1 (pv 1)) se_int (fun _ _ => rfl)) (se_ix xt_ix (se_var 0 (pv 0)) se_int (fun _ _ => rfl))) (nomark _))))
noncomputable abbrev s__law_cell : Stmt := top 22
noncomputable def b__law_cell : FS :=
    (fSeq (fIfS (fTB (fOp gLt (fVar 1) (fCall dLen (fCons (fVar 0) fNil)))) (fRet (fOp gIx (fVar 0) (fVar 1))) fNext)
    (fSeq (fSet 2 (fOp gAdd (fOp gMulI (fC (.int 7919)) (fVar 1)) (fC (.int 5))))
    (fSeq (fIfS (fTB (fOp gGt (fCall dLen (fCons (fVar 0) fNil)) (fC (.int 0)))) (fSet 2 (fOp gMod (fOp gAdd (fOp gIx (fVar 0) (fOp gMod (fOp gMulI (fC (.int 7)) (fVar 1)) (fCall dLen (fCons (fVar 0) fNil)))) (fOp gMulI (fC (.int 7919)) (fVar 1))) (fC (.int 2147483647)))) fNext)
    (fRet (fOp gMod (fOp gMulI (fVar 2) (fVar 2)) (fC (.int 2147483629)))))))
theorem sc__law_cell : FnScope ["_law_script", "_law_k", "_law_number"] ["_law_script", "_law_k"] (defScope s__law_cell) := ⟨rfl, rfl, rfl, by decide +kernel, rfl, by decide +kernel, by decide +kernel⟩
set_option maxHeartbeats 4000000 in
theorem ok__law_cell {P : Program} {w : World} {K : PySem.W.Frag} {mg : Str → Option Value} {base : Heap} {k : Nat} {f : Addr} {fd : FuncData} (F : Fun K "_law_cell" "_law_cell" s__law_cell f fd) (hb : Binds K fd ["_law_script", "_law_k"] []) (hm : mg "_law_cell" = some (.ref f)) (m_len : mg "len" = none) :
    Def P w K mg base (k + 1) "_law_cell" 2 (dOf 3 2 (b__law_cell)) :=
  def_of F sc__law_cell hb hm fun cdv A outer s H E hr => (sss_cons (ss_if (st_cmp ot_lt (se_var 1 (pv 1)) (se_callB ct_len rfl m_len PySem.boot_len (sa_cons (se_var 0 (pv 0)) sa_nil)) (nomark _)) (sss_one (ss_ret (se_ix xt_ix (se_var 0 (pv 0)) (se_var 1 (pv 1)) (fun _ _ => rfl)))) sss_nil)
    (sss_cons (ss_set 2 sc__law_cell.nd rfl (Or.inl rfl) (se_op ot_add (se_op ot_mulI se_int (se_var 1 (pv 1))) se_int))
    (sss_cons (ss_if (st_cmp ot_gt (se_callB ct_len rfl m_len PySem.boot_len (sa_cons (se_var 0 (pv 0)) sa_nil)) se_int (nomark _)) (sss_one (ss_set 2 sc__law_cell.nd rfl (Or.inl rfl) (se_op ot_mod (se_op ot_add (se_ix xt_ix (se_var 0 (pv 0)) (se_op ot_mod (se_op ot_mulI se_int (se_var 1 (pv 1))) (se_callB ct_len rfl m_len PySem.boot_len (sa_cons (se_var 0 (pv 0)) sa_nil))) (fun _ _ => rfl)) (se_op ot_mulI se_int (se_var 1 (pv 1)))) se_int))) sss_nil)
    (sss_one (ss_ret (se_op ot_mod (se_op ot_mulI (se_var 2 (pv 2)) (se_var 2 (pv 2))) se_int))))))
noncomputable abbrev s__law_mix : Stmt := top 23
noncomputable def b__law_mix : FS :=
    (fSeq (fSet 2 (fOp gMod (fOp gAdd (fOp gAdd (fVar 0) (fOp gMulI (fC (.int 7919)) (fVar 1))) (fC (.int 11))) (fC (.int 2147483647))))
    (fSeq (fSet 2 (fOp gMod (fOp gAdd (fOp gMulI (fVar 2) (fVar 2)) (fOp gMulI (fC (.int 48271)) (fVar 1))) (fC (.int 2147483629))))
    (fRet (fOp gMod (fOp gAdd (fOp gAdd (fOp gMulI (fVar 2) (fVar 2)) (fOp gMulI (fC (.int 7)) (fVar 2))) (fVar 1)) (fC (.int 2147483587))))))
theorem sc__law_mix : FnScope ["_law_cell_here", "_law_k", "_law_number"] ["_law_cell_here", "_law_k"] (defScope s__law_mix) := ⟨rfl, rfl, rfl, by decide +kernel, rfl, by decide +kernel, by decide +kernel⟩
set_option maxHeartbeats 4000000 in
theorem ok__law_mix {P : Program} {w : World} {K : PySem.W.Frag} {mg : Str → Option Value} {base : Heap} {k : Nat} {f : Addr} {fd : FuncData} (F : Fun K "_law_mix" "_law_mix" s__law_mix f fd) (hb : Binds K fd ["_law_cell_here", "_law_k"] []) (hm : mg "_law_mix" = some (.ref f)) :
    Def P w K mg base (k + 1) "_law_mix" 2 (dOf 3 2 (b__law_mix)) :=
  def_of F sc__law_mix hb hm fun cdv A outer s H E hr => (sss_cons (ss_set 2 sc__law_mix.nd rfl (Or.inl rfl) (se_op ot_mod (se_op ot_add (se_op ot_add (se_var 0 (pv 0)) (se_op ot_mulI se_int (se_var 1 (pv 1)))) se_int) se_int))
    (sss_cons (ss_set 2 sc__law_mix.nd rfl (Or.inl rfl) (se_op ot_mod (se_op ot_add (se_op ot_mulI (se_var 2 (pv 2)) (se_var 2 (pv 2))) (se_op ot_mulI se_int (se_var 1 (pv 1)))) se_int))
    (sss_one (ss_ret (se_op ot_mod (se_op ot_add (se_op ot_add (se_op ot_mulI (se_var 2 (pv 2)) (se_var 2 (pv 2))) (se_op ot_mulI se_int (se_var 2 (pv 2)))) (se_var 1 (pv 1))) se_int)))))
noncomputable abbrev s__law_same : Stmt := top 24
noncomputable def b__law_same (d__law_same : List T → Option T) : FS :=
    (fSeq (fIfS (fTru (fCall dIsi (fCons (fVar 1) (fCons (fTup (fCons (fC (.ty "list")) (fCons (fC (.ty "tuple")) fNil))) fNil)))) (fSeq (fIfS (fOr (fTB (fOp gNe (fCall dIsi (fCons (fVar 1) (fCons (fC (.ty "list")) fNil))) (fCall dIsi (fCons (fVar 0) (fCons (fC (.ty "list")) fNil))))) (fNot (fTru (fCall dIsi (fCons (fVar 0) (fCons (fTup (fCons (fC (.ty "list")) (fCons (fC (.ty "tuple")) fNil))) fNil)))))) (fRet (fC (.bl false))) fNext)
    (fSeq (fIfS (fTB (fOp gNe (fCall dLen (fCons (fVar 0) fNil)) (fCall dLen (fCons (fVar 1) fNil)))) (fRet (fC (.bl false))) fNext)
    (fSeq (fFor (fiZip (fCons (fVar 0) (fCons (fVar 1) fNil))) (gnTup (gnCons (gnName 2) (gnCons (gnName 3) gnNil))) (fIfS (fNot (fTru (fCall d__law_same (fCons (fVar 2) (fCons (fVar 3) fNil))))) (fRet (fC (.bl false))) fNext))
    (fRet (fC (.bl true)))))) fNext)
    (fSeq (fIfS (fTB (fOp gIs (fVar 1) (fC .non))) (fRet (fOp gIs (fVar 0) (fC .non))) fNext)
    (fSeq (fIfS (fTru (fCall dIsi (fCons (fVar 1) (fCons (fC (.ty "str")) fNil)))) (fRet (fAndV (fCall dIsi (fCons (fVar 0) (fCons (fC (.ty "str")) fNil))) (fOp gEq (fVar 0) (fVar 1)))) fNext)
    (fRet (fAndV (fCall dIsi (fCons (fVar 0) (fCons (fC (.ty "int")) fNil))) (fAndV (fUn gNot (fCall dIsi (fCons (fVar 0) (fCons (fC (.ty "bool")) fNil)))) (fOp gEq (fVar 0) (fVar 1))))))))
theorem sc__law_same : FnScope ["_law_found", "_law_due", "_law_one", "_law_other"] ["_law_found", "_law_due"] (defScope s__law_same) := ⟨rfl, rfl, rfl, by decide +kernel, rfl, by decide +kernel, by decide +kernel⟩
set_option maxHeartbeats 4000000 in
theorem ok__law_same {P : Program} {w : World} {K : PySem.W.Frag} {mg : Str → Option Value} {base : Heap} {k : Nat} {f : Addr} {fd : FuncData} {d__law_same : List T → Option T} (F : Fun K "_law_same" "_law_same" s__law_same f fd) (hb : Binds K fd ["_law_found", "_law_due"] []) (hm : mg "_law_same" = some (.ref f)) (D__law_same : Def P w K mg base k "_law_same" 2 d__law_same) (m_list : mg "list" = none) (m_tuple : mg "tuple" = none) (m_isinstance : mg "isinstance" = none) (m_len : mg "len" = none) (m_zip : mg "zip" = none) (m_str : mg "str" = none) (m_int : mg "int" = none) (m_bool : mg "bool" = none) :
    Def P w K mg base (k + 1) "_law_same" 2 (dOf 4 2 (b__law_same d__law_same)) :=
  def_of F sc__law_same hb hm fun cdv A outer s H E hr => (sss_cons (ss_if (st_val (se_callB ct_isi rfl m_isinstance rfl (sa_cons (se_var 1 (pv 1)) (sa_cons (se_tup (sa_cons (se_ty rfl m_list rfl) (sa_cons (se_ty rfl m_tuple rfl) sa_nil))) sa_nil)))) (sss_cons (ss_if (SW.st (sw_or (st_cmp (ot_ne hr.units) (se_callB ct_isi rfl m_isinstance rfl (sa_cons (se_var 1 (pv 1)) (sa_cons (se_ty rfl m_list rfl) sa_nil))) (se_callB ct_isi rfl m_isinstance rfl (sa_cons (se_var 0 (pv 0)) (sa_cons (se_ty rfl m_list rfl) sa_nil))) (nomark _)) (sw_or1 (st_not (st_val (se_callB ct_isi rfl m_isinstance rfl (sa_cons (se_var 0 (pv 0)) (sa_cons (se_tup (sa_cons (se_ty rfl m_list rfl) (sa_cons (se_ty rfl m_tuple rfl) sa_nil))) sa_nil)))))))) (sss_one (ss_ret se_bl)) sss_nil)
    (sss_cons (ss_if (st_cmp (ot_ne hr.units) (se_callB ct_len rfl m_len PySem.boot_len (sa_cons (se_var 0 (pv 0)) sa_nil)) (se_callB ct_len rfl m_len PySem.boot_len (sa_cons (se_var 1 (pv 1)) sa_nil)) (nomark _)) (sss_one (ss_ret se_bl)) sss_nil)
    (sss_cons (ss_for PassesOwn.never rfl (si_zip rfl m_zip (sa_cons (se_var 0 (pv 0)) (sa_cons (se_var 1 (pv 1)) sa_nil))) (sg_tup rfl (sgs_cons (sg_name 2 sc__law_same.nd rfl (Or.inl rfl)) (sgs_cons (sg_name 3 sc__law_same.nd rfl (Or.inl rfl)) sgs_nil)) (gl_cons (gl_cons gl_nil))) (sss_one (ss_if (st_not (st_val (se_call D__law_same hr rfl (sa_cons (se_var 2 (pv 2)) (sa_cons (se_var 3 (pv 3)) sa_nil)) (len_cons (len_cons len_nil))))) (sss_one (ss_ret se_bl)) sss_nil)))
    (sss_one (ss_ret se_bl))))) sss_nil)
    (sss_cons (ss_if (st_cmp ot_is (se_var 1 (pv 1)) se_non (nomark _)) (sss_one (ss_ret (se_cmp ot_is (se_var 0 (pv 0)) se_non (nomark _)))) sss_nil)
    (sss_cons (ss_if (st_val (se_callB ct_isi rfl m_isinstance rfl (sa_cons (se_var 1 (pv 1)) (sa_cons (se_ty rfl m_str rfl) sa_nil)))) (sss_one (ss_ret (se_and (se_callB ct_isi rfl m_isinstance rfl (sa_cons (se_var 0 (pv 0)) (sa_cons (se_ty rfl m_str rfl) sa_nil))) (se_one (se_cmp (ot_eq hr.units) (se_var 0 (pv 0)) (se_var 1 (pv 1)) (nomark _)))))) sss_nil)
    (sss_one (ss_ret (se_and (se_callB ct_isi rfl m_isinstance rfl (sa_cons (se_var 0 (pv 0)) (sa_cons (se_ty rfl m_int rfl) sa_nil))) (se_and (se_not (se_callB ct_isi rfl m_isinstance rfl (sa_cons (se_var 0 (pv 0)) (sa_cons (se_ty rfl m_bool rfl) sa_nil)))) (se_one (se_cmp (ot_eq hr.units) (se_var 0 (pv 0)) (se_var 1 (pv 1)) (nomark _))))))))))
noncomputable abbrev s__law_frac : Stmt := top 25
noncomputable def b__law_frac (n : Nat) : FS :=
    (fSeq (fSet 2 (fCall dAbs (fCons (fVar 0) fNil)))
    (fSeq (fSet 3 (fCall dAbs (fCons (fVar 1) fNil)))
    (fSeq (whileT (fTB (fOp gGt (fVar 3) (fC (.int 0)))) (fPar 2 3 (fCons (fVar 3) (fCons (fOp gMod (fVar 2) (fVar 3)) fNil))) n)
    (fSeq (fIfS (fTB (fOp gLt (fVar 1) (fC (.int 0)))) (fSet 2 (fOp gSub (fC (.int 0)) (fVar 2))) fNext)
    (fRet (fTup (fCons (fOp gDiv (fVar 0) (fVar 2)) (fCons (fOp gDiv (fVar 1) (fVar 2)) fNil))))))))
theorem sc__law_frac : FnScope ["_law_top", "_law_bottom", "_law_one", "_law_other"] ["_law_top", "_law_bottom"] (defScope s__law_frac) := ⟨rfl, rfl, rfl, by decide +kernel, rfl, by decide +kernel, by decide +kernel⟩
set_option maxHeartbeats 4000000 in
theorem ok__law_frac {P : Program} {w : World} {K : PySem.W.Frag} {mg : Str → Option Value} {base : Heap} {k : Nat} {f : Addr} {fd : FuncData} (n : Nat) (F : Fun K "_law_frac" "_law_frac" s__law_frac f fd) (hb : Binds K fd ["_law_top", "_law_bottom"] []) (hm : mg "_law_frac" = some (.ref f)) (m_abs : mg "abs" = none) :
    Def P w K mg base (k + 1) "_law_frac" 2 (dOf 4 2 (b__law_frac n)) :=
  def_of F sc__law_frac hb hm fun cdv A outer s H E hr => (sss_cons (ss_set 2 sc__law_frac.nd rfl (Or.inl rfl) (se_callB ct_abs rfl m_abs rfl (sa_cons (se_var 0 (pv 0)) sa_nil)))
    (sss_cons (ss_set 3 sc__law_frac.nd rfl (Or.inl rfl) (se_callB ct_abs rfl m_abs rfl (sa_cons (se_var 1 (pv 1)) sa_nil)))
    (sss_cons (ss_while n PassesOwn.never (st_cmp ot_gt (se_var 3 (pv 3)) se_int (nomark _)) (sss_one (ss_par rfl sc__law_frac.nd rfl rfl (by decide) rfl rfl (sa_cons (se_var 3 (pv 3)) (sa_cons (se_op ot_mod (se_var 2 (pv 2)) (se_var 3 (pv 3))) sa_nil)) rfl)))
    (sss_cons (ss_if (st_cmp ot_lt (se_var 1 (pv 1)) se_int (nomark _)) (sss_one (ss_set 2 sc__law_frac.nd rfl (Or.inl rfl) (se_op ot_sub se_int (se_var 2 (pv 2))))) sss_nil)
    (sss_one (ss_ret (se_tup (sa_cons (se_op ot_div (se_var 0 (pv 0)) (se_var 2 (pv 2))) (sa_cons (se_op ot_div (se_var 1 (pv 1)) (se_var 2 (pv 2))) sa_nil)))))))))
noncomputable abbrev s__law_big : Stmt := top 26
noncomputable def b__law_big (d__law_mix : List T → Option T) : FS :=
    (fSeq (fSet 1 (fCall d__law_mix (fCons (fVar 0) (fCons (fC (.int 1)) fNil))))
    (fSeq (fIfS (fTB (fOp gEq (fOp gMod (fVar 0) (fC (.int 2))) (fC (.int 1)))) (fRet (fLst (fCons (fOp gAdd (fOp gSub (fOp gMod (fOp gDiv (fVar 0) (fC (.int 2))) (fOp gSub (fOp gMulI (fC (.int 2)) (fOp gPow (fC (.int 10)) (fC (.int 30)))) (fC (.int 1)))) (fOp gPow (fC (.int 10)) (fC (.int 30)))) (fC (.int 1))) (fCons (fOp gAdd (fOp gMod (fOp gDiv (fOp gDiv (fVar 0) (fC (.int 2))) (fOp gSub (fOp gMulI (fC (.int 2)) (fOp gPow (fC (.int 10)) (fC (.int 30)))) (fC (.int 1)))) (fOp gSub (fOp gPow (fC (.int 10)) (fC (.int 30))) (fC (.int 1)))) (fC (.int 1))) fNil)))) fNext)
    (fSeq (fSet 2 (fOp gAdd (fOp gMulI (fCall d__law_mix (fCons (fVar 0) (fCons (fC (.int 2)) fNil))) (fOp gPow (fC (.int 10)) (fC (.int 20)))) (fVar 1)))
    (fSeq (fSet 3 (fOp gIx (fLst (fCons (fOp gSub (fOp gMod (fOp gDiv (fVar 1) (fC (.int 4))) (fC (.int 9))) (fC (.int 4))) (fCons (fOp gMod (fOp gDiv (fVar 1) (fC (.int 4))) (fC (.int 1000))) (fCons (fVar 2) (fCons (fOp gSub (fC (.int 0)) (fVar 2)) fNil))))) (fOp gMod (fVar 1) (fC (.int 4)))))
    (fRet (fLst (fCons (fVar 3) (fCons (fOp gIx (fLst (fCons (fC (.int 1)) (fCons (fOp gAdd (fC (.int 1)) (fOp gMod (fOp gDiv (fVar 1) (fC (.int 40))) (fC (.int 12)))) (fCons (fOp gAdd (fC (.int 1)) (fOp gMulI (fCall d__law_mix (fCons (fVar 0) (fCons (fC (.int 3)) fNil))) (fOp gPow (fC (.int 10)) (fC (.int 18))))) (fCons (fOp gAdd (fC (.int 1)) (fOp gMod (fOp gDiv (fVar 1) (fC (.int 7))) (fC (.int 720)))) fNil))))) (fOp gMod (fOp gDiv (fVar 1) (fC (.int 3))) (fC (.int 4)))) fNil))))))))
theorem sc__law_big : FnScope ["_law_cell_here", "_law_number", "_law_far", "_law_top"] ["_law_cell_here"] (defScope s__law_big) := ⟨rfl, rfl, rfl, by decide +kernel, rfl, by decide +kernel, by decide +kernel⟩
set_option maxHeartbeats 4000000 in
theorem ok__law_big {P : Program} {w : World} {K : PySem.W.Frag} {mg : Str → Option Value} {base : Heap} {k : Nat} {f : Addr} {fd : FuncData} {d__law_mix : List T → Option T} (F : Fun K "_law_big" "_law_big" s__law_big f fd) (hb : Binds K fd ["_law_cell_here"] []) (hm : mg "_law_big" = some (.ref f)) (D__law_mix : Def P w K mg base k "_law_mix" 2 d__law_mix) :
    Def P w K mg base (k + 1) "_law_big" 1 (dOf 4 1 (b__law_big d__law_mix)) :=
  def_of F sc__law_big hb hm fun cdv A outer s H E hr => (sss_cons (ss_set 1 sc__law_big.nd rfl (Or.inl rfl) (se_call D__law_mix hr rfl (sa_cons (se_var 0 (pv 0)) (sa_cons se_int sa_nil)) (len_cons (len_cons len_nil))))
    (sss_cons (ss_if (st_cmp (ot_eq hr.units) (se_op ot_mod (se_var 0 (pv 0)) se_int) se_int (nomark _)) (sss_one (ss_ret (se_lst (sa_cons (se_op ot_add (se_op ot_sub (se_op ot_mod (se_op ot_div (se_var 0 (pv 0)) se_int) (se_op ot_sub (se_op ot_mulI se_int (se_op ot_pow se_int se_int)) se_int)) (se_op ot_pow se_int se_int)) se_int) (sa_cons (se_op ot_add (se_op ot_mod (se_op ot_div (se_op ot_div (se_var 0 (pv 0)) se_int) (se_op ot_sub (se_op ot_mulI se_int (se_op ot_pow se_int se_int)) se_int)) (se_op ot_sub (se_op ot_pow se_int se_int) se_int)) se_int) sa_nil))))) sss_nil)
    (sss_cons (ss_set 2 sc__law_big.nd rfl (Or.inl rfl) (se_op ot_add (se_op ot_mulI (se_call D__law_mix hr rfl (sa_cons (se_var 0 (pv 0)) (sa_cons se_int sa_nil)) (len_cons (len_cons len_nil))) (se_op ot_pow se_int se_int)) (se_var 1 (pv 1))))
    (sss_cons (ss_set 3 sc__law_big.nd rfl (Or.inl rfl) (se_ix xt_ix (se_lst (sa_cons (se_op ot_sub (se_op ot_mod (se_op ot_div (se_var 1 (pv 1)) se_int) se_int) se_int) (sa_cons (se_op ot_mod (se_op ot_div (se_var 1 (pv 1)) se_int) se_int) (sa_cons (se_var 2 (pv 2)) (sa_cons (se_op ot_sub se_int (se_var 2 (pv 2))) sa_nil))))) (se_op ot_mod (se_var 1 (pv 1)) se_int) (fun _ _ => rfl)))
    (sss_one (ss_ret (se_lst (sa_cons (se_var 3 (pv 3)) (sa_cons (se_ix xt_ix (se_lst (sa_cons se_int (sa_cons (se_op ot_add se_int (se_op ot_mod (se_op ot_div (se_var 1 (pv 1)) se_int) se_int)) (sa_cons (se_op ot_add se_int (se_op ot_mulI (se_call D__law_mix hr rfl (sa_cons (se_var 0 (pv 0)) (sa_cons se_int sa_nil)) (len_cons (len_cons len_nil))) (se_op ot_pow se_int se_int))) (sa_cons (se_op ot_add se_int (se_op ot_mod (se_op ot_div (se_var 1 (pv 1)) se_int) se_int)) sa_nil))))) (se_op ot_mod (se_op ot_div (se_var 1 (pv 1)) se_int) se_int) (fun _ _ => rfl)) sa_nil)))))))))
noncomputable abbrev s__law_thing : Stmt := top 27
noncomputable def b__law_thing : FS :=
    (fSeq (fSetOwn 2 (fCons (fVar 1) (fCons (fCall dList (fCons (fVar 1) fNil)) (fCons (fOp gAdd (fVar 1) (fTup (fCons (fC (.int 1)) fNil))) (fCons (fSl (fVar 1) fNoPart (fPart (fC (.int 1)))) (fCons (fTup (fCons (fOp gMulI (fOp gDiv (fOp gIx (fVar 1) (fC (.int 0))) (fC (.int 10))) (fC (.int 7))) (fCons (fOp gAdd (fOp gMulI (fOp gDiv (fOp gIx (fVar 1) (fC (.int 1))) (fC (.int 10))) (fC (.int 7))) (fC (.int 7))) fNil))) (fCons (fTup (fCons (fOp gIx (fVar 1) (fC (.int 0))) (fCons (fOp gSub (fC (.int 0)) (fOp gIx (fVar 1) (fC (.int 1)))) fNil))) fNil)))))))
    (fSeq (fApp 2 (fTup (fCons (fOp gIx (fVar 1) (fC (.int 0))) (fCons (fC (.int 0)) fNil))))
    (fSeq (fSet 2 (fOp gAdd (fVar 2) (fLst (fCons (fTup (fCons (fC (.bl true)) (fCons (fC (.int 1)) fNil))) (fCons (fTup (fCons (fOp gIx (fVar 1) (fC (.int 0))) (fCons (fC (.bl true)) fNil))) (fCons (fC .non) (fCons (fC (.str "1/2")) (fCons (fOp gIx (fVar 1) (fC (.int 0))) (fCons (fTup (fCons (fCall dStr (fCons (fOp gIx (fVar 1) (fC (.int 0))) fNil)) (fCons (fOp gIx (fVar 1) (fC (.int 1))) fNil))) (fCons (fTup (fCons (fVar 1) fNil)) (fCons fDic (fCons (fTup (fCons (fC (.int 0)) (fCons (fC (.int 2)) fNil))) (fCons (fTup fNil) fNil)))))))))))))
    (fRet (fOp gIx (fVar 2) (fOp gMod (fVar 0) (fC (.int 17))))))))
theorem sc__law_thing : FnScope ["_law_cell_here", "_law_one", "_law_some"] ["_law_cell_here", "_law_one"] (defScope s__law_thing) := ⟨rfl, rfl, rfl, by decide +kernel, rfl, by decide +kernel, by decide +kernel⟩
set_option maxHeartbeats 4000000 in
theorem ok__law_thing {P : Program} {w : World} {K : PySem.W.Frag} {mg : Str → Option Value} {base : Heap} {k : Nat} {f : Addr} {fd : FuncData} (F : Fun K "_law_thing" "_law_thing" s__law_thing f fd) (hb : Binds K fd ["_law_cell_here", "_law_one"] []) (hm : mg "_law_thing" = some (.ref f)) (m_list : mg "list" = none) (m_str : mg "str" = none) :
    Def P w K mg base (k + 1) "_law_thing" 2 (dOf 3 2 (b__law_thing)) :=
  def_of F sc__law_thing hb hm fun cdv A outer s H E hr => (sss_cons (ss_setOwn 2 sc__law_thing.nd rfl (Or.inl rfl) (sa_cons (se_var 1 (pv 1)) (sa_cons (se_callTy ct_list rfl m_list rfl (sa_cons (se_var 1 (pv 1)) sa_nil)) (sa_cons (se_op ot_add (se_var 1 (pv 1)) (se_tup (sa_cons se_int sa_nil))) (sa_cons (se_slice (se_var 1 (pv 1)) so_none (so_some se_int)) (sa_cons (se_tup (sa_cons (se_op ot_mulI (se_op ot_div (se_ix xt_ix (se_var 1 (pv 1)) se_int (fun _ _ => rfl)) se_int) se_int) (sa_cons (se_op ot_add (se_op ot_mulI (se_op ot_div (se_ix xt_ix (se_var 1 (pv 1)) se_int (fun _ _ => rfl)) se_int) se_int) se_int) sa_nil))) (sa_cons (se_tup (sa_cons (se_ix xt_ix (se_var 1 (pv 1)) se_int (fun _ _ => rfl)) (sa_cons (se_op ot_sub se_int (se_ix xt_ix (se_var 1 (pv 1)) se_int (fun _ _ => rfl))) sa_nil))) sa_nil)))))))
    (sss_cons (ss_append 2 (pv 2) (se_tup (sa_cons (se_ix xt_ix (se_var 1 (pv 1)) se_int (fun _ _ => rfl)) (sa_cons se_int sa_nil))))
    (sss_cons (ss_set 2 sc__law_thing.nd rfl (Or.inl rfl) (se_op ot_add (se_var 2 (pv 2)) (se_lst (sa_cons (se_tup (sa_cons se_bl (sa_cons se_int sa_nil))) (sa_cons (se_tup (sa_cons (se_ix xt_ix (se_var 1 (pv 1)) se_int (fun _ _ => rfl)) (sa_cons se_bl sa_nil))) (sa_cons se_non (sa_cons se_str (sa_cons (se_ix xt_ix (se_var 1 (pv 1)) se_int (fun _ _ => rfl)) (sa_cons (se_tup (sa_cons (se_callTy ct_str rfl m_str rfl (sa_cons (se_ix xt_ix (se_var 1 (pv 1)) se_int (fun _ _ => rfl)) sa_nil)) (sa_cons (se_ix xt_ix (se_var 1 (pv 1)) se_int (fun _ _ => rfl)) sa_nil))) (sa_cons (se_tup (sa_cons (se_var 1 (pv 1)) sa_nil)) (sa_cons se_dic (sa_cons (se_tup (sa_cons se_int (sa_cons se_int sa_nil))) (sa_cons (se_tup sa_nil) sa_nil)))))))))))))
    (sss_one (ss_ret (se_ix xt_ix (se_var 2 (pv 2)) (se_op ot_mod (se_var 0 (pv 0)) se_int) (fun _ _ => rfl)))))))
noncomputable abbrev s__law_whole : Stmt := top 28
noncomputable def b__law_whole : FS :=
    (fRet (fAndV (fCall dIsi (fCons (fVar 0) (fCons (fC (.ty "int")) fNil))) (fUn gNot (fCall dIsi (fCons (fVar 0) (fCons (fC (.ty "bool")) fNil))))))
theorem sc__law_whole : FnScope ["_law_thing_here"] ["_law_thing_here"] (defScope s__law_whole) := ⟨rfl, rfl, rfl, by decide +kernel, rfl, by decide +kernel, by decide +kernel⟩
set_option maxHeartbeats 4000000 in
theorem ok__law_whole {P : Program} {w : World} {K : PySem.W.Frag} {mg : Str → Option Value} {base : Heap} {k : Nat} {f : Addr} {fd : FuncData} (F : Fun K "_law_whole" "_law_whole" s__law_whole f fd) (hb : Binds K fd ["_law_thing_here"] []) (hm : mg "_law_whole" = some (.ref f)) (m_int : mg "int" = none) (m_isinstance : mg "isinstance" = none) (m_bool : mg "bool" = none) :
    Def P w K mg base (k + 1) "_law_whole" 1 (dOf 1 1 (b__law_whole)) :=
  def_of F sc__law_whole hb hm fun cdv A outer s H E hr => (sss_one (ss_ret (se_and (se_callB ct_isi rfl m_isinstance rfl (sa_cons (se_var 0 (pv 0)) (sa_cons (se_ty rfl m_int rfl) sa_nil))) (se_one (se_not (se_callB ct_isi rfl m_isinstance rfl (sa_cons (se_var 0 (pv 0)) (sa_cons (se_ty rfl m_bool rfl) sa_nil))))))))
noncomputable abbrev s__law_fraction : Stmt := top 29
noncomputable def b__law_fraction (d__law_whole d__law_frac : List T → Option T) : FS :=
    (fSeq (fIfS (fOr (fNot (fTru (fCall dIsi (fCons (fVar 0) (fCons (fC (.ty "tuple")) fNil))))) (fOr (fTB (fOp gNe (fCall dLen (fCons (fVar 0) fNil)) (fC (.int 2)))) (fOr (fNot (fTru (fCall d__law_whole (fCons (fOp gIx (fVar 0) (fC (.int 0))) fNil)))) (fNot (fTru (fCall d__law_whole (fCons (fOp gIx (fVar 0) (fC (.int 1))) fNil))))))) (fRet (fC (.bl false))) fNext)
    (fRet (fAndV (fOp gGt (fOp gIx (fVar 0) (fC (.int 1))) (fC (.int 0))) (fOp gEq (fCall d__law_frac (fCons (fOp gIx (fVar 0) (fC (.int 0))) (fCons (fOp gIx (fVar 0) (fC (.int 1))) fNil))) (fVar 0)))))
theorem sc__law_fraction : FnScope ["_law_thing_here"] ["_law_thing_here"] (defScope s__law_fraction) := ⟨rfl, rfl, rfl, by decide +kernel, rfl, by decide +kernel, by decide +kernel⟩
set_option maxHeartbeats 4000000 in
theorem ok__law_fraction {P : Program} {w : World} {K : PySem.W.Frag} {mg : Str → Option Value} {base : Heap} {k : Nat} {f : Addr} {fd : FuncData} {d__law_whole : List T → Option T} {d__law_frac : List T → Option T} (F : Fun K "_law_fraction" "_law_fraction" s__law_fraction f fd) (hb : Binds K fd ["_law_thing_here"] []) (hm : mg "_law_fraction" = some (.ref f)) (D__law_whole : Def P w K mg base k "_law_whole" 1 d__law_whole) (D__law_frac : Def P w K mg base k "_law_frac" 2 d__law_frac) (m_tuple : mg "tuple" = none) (m_isinstance : mg "isinstance" = none) (m_len : mg "len" = none) :
    Def P w K mg base (k + 1) "_law_fraction" 1 (dOf 1 1 (b__law_fraction d__law_whole d__law_frac)) :=
  def_of F sc__law_fraction hb hm fun cdv A outer s H E hr => (sss_cons (ss_if (SW.st (sw_or (st_not (st_val (se_callB ct_isi rfl m_isinstance rfl (sa_cons (se_var 0 (pv 0)) (sa_cons (se_ty rfl m_tuple rfl) sa_nil))))) (sw_or (st_cmp (ot_ne hr.units) (se_callB ct_len rfl m_len PySem.boot_len (sa_cons (se_var 0 (pv 0)) sa_nil)) se_int (nomark _)) (sw_or (st_not (st_val (se_call D__law_whole hr rfl (sa_cons (se_ix xt_ix (se_var 0 (pv 0)) se_int (fun _ _ => rfl)) sa_nil) (len_cons len_nil)))) (sw_or1 (st_not (st_val (se_call D__law_whole hr rfl (sa_cons (se_ix xt_ix (se_var 0 (pv 0)) se_int (fun _ _ => rfl)) sa_nil) (len_cons len_nil))))))))) (sss_one (ss_ret se_bl)) sss_nil)
    (sss_one (ss_ret (se_and (se_cmp ot_gt (se_ix xt_ix (se_var 0 (pv 0)) se_int (fun _ _ => rfl)) se_int (nomark _)) (se_one (se_cmp (ot_eq hr.units) (se_call D__law_frac hr rfl (sa_cons (se_ix xt_ix (se_var 0 (pv 0)) se_int (fun _ _ => rfl)) (sa_cons (se_ix xt_ix (se_var 0 (pv 0)) se_int (fun _ _ => rfl)) sa_nil)) (len_cons (len_cons len_nil))) (se_var 0 (pv 0)) (nomark _)))))))
noncomputable abbrev s__law_kinds_right : Stmt := top 30
noncomputable def b__law_kinds_right (d_is_fraction d_is_whole d__law_fraction d__law_whole : List T → Option T) : FS :=
    (fSeq (fSetOwn 1 (fCons (fCall d_is_fraction (fCons (fVar 0) fNil)) (fCons (fCall d_is_whole (fCons (fVar 0) fNil)) fNil)))
    (fSeq (fSetOwn 2 (fCons (fCall d__law_fraction (fCons (fVar 0) fNil)) (fCons (fCall d__law_whole (fCons (fVar 0) fNil)) fNil)))
    (fRet (fAndV (fOp gEq (fVar 1) (fVar 2)) (fAndV (fCall dIsi (fCons (fOp gIx (fVar 1) (fC (.int 0))) (fCons (fC (.ty "bool")) fNil))) (fCall dIsi (fCons (fOp gIx (fVar 1) (fC (.int 1))) (fCons (fC (.ty "bool")) fNil))))))))
theorem sc__law_kinds_right : FnScope ["_law_thing_here", "_law_found", "_law_due"] ["_law_thing_here"] (defScope s__law_kinds_right) := ⟨rfl, rfl, rfl, by decide +kernel, rfl, by decide +kernel, by decide +kernel⟩
set_option maxHeartbeats 4000000 in
theorem ok__law_kinds_right {P : Program} {w : World} {K : PySem.W.Frag} {mg : Str → Option Value} {base : Heap} {k : Nat} {f : Addr} {fd : FuncData} {d_is_fraction : List T → Option T} {d_is_whole : List T → Option T} {d__law_fraction : List T → Option T} {d__law_whole : List T → Option T} (F : Fun K "_law_kinds_right" "_law_kinds_right" s__law_kinds_right f fd) (hb : Binds K fd ["_law_thing_here"] []) (hm : mg "_law_kinds_right" = some (.ref f)) (D_is_fraction : Def P w K mg base k "is_fraction" 1 d_is_fraction) (D_is_whole : Def P w K mg base k "is_whole" 1 d_is_whole) (D__law_fraction : Def P w K mg base k "_law_fraction" 1 d__law_fraction) (D__law_whole : Def P w K mg base k "_law_whole" 1 d__law_whole) (m_bool : mg "bool" = none) (m_isinstance : mg "isinstance" = none) :
    Def P w K mg base (k + 1) "_law_kinds_right" 1 (dOf 3 1 (b__law_kinds_right d_is_fraction d_is_whole d__law_fraction d__law_whole)) :=
  def_of F sc__law_kinds_right hb hm fun cdv A outer s H E hr => (sss_cons (ss_setOwn 1 sc__law_kinds_right.nd rfl (Or.inl rfl) (sa_cons (se_call D_is_fraction hr rfl (sa_cons (se_var 0 (pv 0)) sa_nil) (len_cons len_nil)) (sa_cons (se_call D_is_whole hr rfl (sa_cons (se_var 0 (pv 0)) sa_nil) (len_cons len_nil)) sa_nil)))
    (sss_cons (ss_setOwn 2 sc__law_kinds_right.nd rfl (Or.inl rfl) (sa_cons (se_call D__law_fraction hr rfl (sa_cons (se_var 0 (pv 0)) sa_nil) (len_cons len_nil)) (sa_cons (se_call D__law_whole hr rfl (sa_cons (se_var 0 (pv 0)) sa_nil) (len_cons len_nil)) sa_nil)))
    (sss_one (ss_ret (se_and (se_cmp (ot_eq hr.units) (se_var 1 (pv 1)) (se_var 2 (pv 2)) (nomark _)) (se_and (se_callB ct_isi rfl m_isinstance rfl (sa_cons (se_ix xt_ix (se_var 1 (pv 1)) se_int (fun _ _ => rfl)) (sa_cons (se_ty rfl m_bool rfl) sa_nil))) (se_one (se_callB ct_isi rfl m_isinstance rfl (sa_cons (se_ix xt_ix (se_var 1 (pv 1)) se_int (fun _ _ => rfl)) (sa_cons (se_ty rfl m_bool rfl) sa_nil))))))))))
noncomputable abbrev s__law_right : Stmt := top 31
noncomputable def b__law_right (d_plus d__law_frac d__law_same d_minus d_times d_over d_below : List T → Option T) : FS :=
    (fSeq (fAsg (fVar 0) (gnTup (gnCons (gnName 2) (gnCons (gnName 3) gnNil))))
    (fSeq (fAsg (fVar 1) (gnTup (gnCons (gnName 4) (gnCons (gnName 5) gnNil))))
    (fSeq (fIfS (fNot (fTru (fCall d__law_same (fCons (fCall d_plus (fCons (fVar 0) (fCons (fVar 1) fNil))) (fCons (fCall d__law_frac (fCons (fOp gAdd (fOp gMulI (fVar 2) (fVar 5)) (fOp gMulI (fVar 4) (fVar 3))) (fCons (fOp gMulI (fVar 3) (fVar 5)) fNil))) fNil))))) (fRet (fC (.bl false))) fNext)
    (fSeq (fIfS (fNot (fTru (fCall d__law_same (fCons (fCall d_minus (fCons (fVar 0) (fCons (fVar 1) fNil))) (fCons (fCall d__law_frac (fCons (fOp gSub (fOp gMulI (fVar 2) (fVar 5)) (fOp gMulI (fVar 4) (fVar 3))) (fCons (fOp gMulI (fVar 3) (fVar 5)) fNil))) fNil))))) (fRet (fC (.bl false))) fNext)
    (fSeq (fIfS (fNot (fTru (fCall d__law_same (fCons (fCall d_times (fCons (fVar 0) (fCons (fVar 1) fNil))) (fCons (fCall d__law_frac (fCons (fOp gMulI (fVar 2) (fVar 4)) (fCons (fOp gMulI (fVar 3) (fVar 5)) fNil))) fNil))))) (fRet (fC (.bl false))) fNext)
    (fSeq (fIfS (fAnd (fTB (fOp gNe (fVar 4) (fC (.int 0)))) (fNot (fTru (fCall d__law_same (fCons (fCall d_over (fCons (fVar 0) (fCons (fVar 1) fNil))) (fCons (fCall d__law_frac (fCons (fOp gMulI (fVar 2) (fVar 5)) (fCons (fOp gMulI (fVar 3) (fVar 4)) fNil))) fNil)))))) (fRet (fC (.bl false))) fNext)
    (fSeq (fSet 6 (fCall d_below (fCons (fVar 0) (fCons (fVar 1) fNil))))
    (fRet (fAndV (fCall dIsi (fCons (fVar 6) (fCons (fC (.ty "bool")) fNil))) (fOp gEq (fVar 6) (fOp gLt (fOp gMulI (fVar 2) (fVar 5)) (fOp gMulI (fVar 4) (fVar 3)))))))))))))
theorem sc__law_right : FnScope ["_law_one", "_law_other", "_law_top", "_law_bottom", "_law_above", "_law_under", "_law_less"] ["_law_one", "_law_other"] (defScope s__law_right) := ⟨rfl, rfl, rfl, by decide +kernel, rfl, by decide +kernel, by decide +kernel⟩
set_option maxHeartbeats 4000000 in
theorem ok__law_right {P : Program} {w : World} {K : PySem.W.Frag} {mg : Str → Option Value} {base : Heap} {k : Nat} {f : Addr} {fd : FuncData} {d_plus : List T → Option T} {d__law_frac : List T → Option T} {d__law_same : List T → Option T} {d_minus : List T → Option T} {d_times : List T → Option T} {d_over : List T → Option T} {d_below : List T → Option T} (F : Fun K "_law_right" "_law_right" s__law_right f fd) (hb : Binds K fd ["_law_one", "_law_other"] []) (hm : mg "_law_right" = some (.ref f)) (D_plus : Def P w K mg base k "plus" 2 d_plus) (D__law_frac : Def P w K mg base k "_law_frac" 2 d__law_frac) (D__law_same : Def P w K mg base k "_law_same" 2 d__law_same) (D_minus : Def P w K mg base k "minus" 2 d_minus) (D_times : Def P w K mg base k "times" 2 d_times) (D_over : Def P w K mg base k "over" 2 d_over) (D_below : Def P w K mg base k "below" 2 d_below) (m_bool : mg "bool" = none) (m_isinstance : mg "isinstance" = none) :
    Def P w K mg base (k + 1) "_law_right" 2 (dOf 7 2 (b__law_right d_plus d__law_frac d__law_same d_minus d_times d_over d_below)) :=
  def_of F sc__law_right hb hm fun cdv A outer s H E hr => (sss_cons (ss_asg (se_var 0 (pv 0)) (sg_tup rfl (sgs_cons (sg_name 2 sc__law_right.nd rfl (Or.inl rfl)) (sgs_cons (sg_name 3 sc__law_right.nd rfl (Or.inl rfl)) sgs_nil)) (gl_cons (gl_cons gl_nil))))
    (sss_cons (ss_asg (se_var 1 (pv 1)) (sg_tup rfl (sgs_cons (sg_name 4 sc__law_right.nd rfl (Or.inl rfl)) (sgs_cons (sg_name 5 sc__law_right.nd rfl (Or.inl rfl)) sgs_nil)) (gl_cons (gl_cons gl_nil))))
    (sss_cons (ss_if (st_not (st_val (se_call D__law_same hr rfl (sa_cons (se_call D_plus hr rfl (sa_cons (se_var 0 (pv 0)) (sa_cons (se_var 1 (pv 1)) sa_nil)) (len_cons (len_cons len_nil))) (sa_cons (se_call D__law_frac hr rfl (sa_cons (se_op ot_add (se_op ot_mulI (se_var 2 (pv 2)) (se_var 5 (pv 5))) (se_op ot_mulI (se_var 4 (pv 4)) (se_var 3 (pv 3)))) (sa_cons (se_op ot_mulI (se_var 3 (pv 3)) (se_var 5 (pv 5))) sa_nil)) (len_cons (len_cons len_nil))) sa_nil)) (len_cons (len_cons len_nil))))) (sss_one (ss_ret se_bl)) sss_nil)
    (sss_cons (ss_if (st_not (st_val (se_call D__law_same hr rfl (sa_cons (se_call D_minus hr rfl (sa_cons (se_var 0 (pv 0)) (sa_cons (se_var 1 (pv 1)) sa_nil)) (len_cons (len_cons len_nil))) (sa_cons (se_call D__law_frac hr rfl (sa_cons (se_op ot_sub (se_op ot_mulI (se_var 2 (pv 2)) (se_var 5 (pv 5))) (se_op ot_mulI (se_var 4 (pv 4)) (se_var 3 (pv 3)))) (sa_cons (se_op ot_mulI (se_var 3 (pv 3)) (se_var 5 (pv 5))) sa_nil)) (len_cons (len_cons len_nil))) sa_nil)) (len_cons (len_cons len_nil))))) (sss_one (ss_ret se_bl)) sss_nil)
    (sss_cons (ss_if (st_not (st_val (se_call D__law_same hr rfl (sa_cons (se_call D_times hr rfl (sa_cons (se_var 0 (pv 0)) (sa_cons (se_var 1 (pv 1)) sa_nil)) (len_cons (len_cons len_nil))) (sa_cons (se_call D__law_frac hr rfl (sa_cons (se_op ot_mulI (se_var 2 (pv 2)) (se_var 4 (pv 4))) (sa_cons (se_op ot_mulI (se_var 3 (pv 3)) (se_var 5 (pv 5))) sa_nil)) (len_cons (len_cons len_nil))) sa_nil)) (len_cons (len_cons len_nil))))) (sss_one (ss_ret se_bl)) sss_nil)
    (sss_cons (ss_if (SW.st (sw_and (st_cmp (ot_ne hr.units) (se_var 4 (pv 4)) se_int (nomark _)) (sw_and1 (st_not (st_val (se_call D__law_same hr rfl (sa_cons (se_call D_over hr rfl (sa_cons (se_var 0 (pv 0)) (sa_cons (se_var 1 (pv 1)) sa_nil)) (len_cons (len_cons len_nil))) (sa_cons (se_call D__law_frac hr rfl (sa_cons (se_op ot_mulI (se_var 2 (pv 2)) (se_var 5 (pv 5))) (sa_cons (se_op ot_mulI (se_var 3 (pv 3)) (se_var 4 (pv 4))) sa_nil)) (len_cons (len_cons len_nil))) sa_nil)) (len_cons (len_cons len_nil)))))))) (sss_one (ss_ret se_bl)) sss_nil)
    (sss_cons (ss_set 6 sc__law_right.nd rfl (Or.inl rfl) (se_call D_below hr rfl (sa_cons (se_var 0 (pv 0)) (sa_cons (se_var 1 (pv 1)) sa_nil)) (len_cons (len_cons len_nil))))
    (sss_one (ss_ret (se_and (se_callB ct_isi rfl m_isinstance rfl (sa_cons (se_var 6 (pv 6)) (sa_cons (se_ty rfl m_bool rfl) sa_nil))) (se_one (se_cmp (ot_eq hr.units) (se_var 6 (pv 6)) (se_cmp ot_lt (se_op ot_mulI (se_var 2 (pv 2)) (se_var 5 (pv 5))) (se_op ot_mulI (se_var 4 (pv 4)) (se_var 3 (pv 3))) (nomark _)) (nomark _)))))))))))))
end My

set_option Elab.async false
set_option linter.all false
set_option maxRecDepth 100000
namespace My
open PySem PySem.Spec PyProof.Rows L2 TM
noncomputable abbrev s_law : Stmt := top 32
noncomputable def b_law (d__law_cell d__law_big d__law_mix d_frac d__law_frac d__law_same d__law_right d__law_thing d__law_kinds_right d_is_fraction d_is_whole : List T → Option T) : FS :=
    (fSeq (fFor (fiRng3 (fCons (fC (.int 0)) (fCons (fCall dMax (fCons (fC (.int 4)) (fCons (fCall dMin (fCons (fC (.int 62)) (fCons (fCall dLen (fCons (fVar 0) fNil)) fNil))) fNil))) (fCons (fC (.int 2)) fNil)))) (gnName 1) (fSeq (fSet 2 (fCall d__law_big (fCons (fCall d__law_cell (fCons (fVar 0) (fCons (fVar 1) fNil))) fNil)))
    (fSeq (fSet 3 (fCall d__law_big (fCons (fCall d__law_cell (fCons (fVar 0) (fCons (fOp gAdd (fVar 1) (fC (.int 1))) fNil))) fNil)))
    (fSeq (fSet 4 (fOp gIx (fVar 3) (fC (.int 1))))
    (fSeq (fIfS (fTB (fOp gEq (fOp gMod (fCall d__law_mix (fCons (fCall d__law_cell (fCons (fVar 0) (fCons (fVar 1) fNil))) (fCons (fC (.int 9)) fNil))) (fC (.int 2))) (fC (.int 0)))) (fSet 4 (fOp gSub (fC (.int 0)) (fVar 4))) fNext)
    (fSeq (fIfS (fNot (fTru (fCall d__law_same (fCons (fCall d_frac (fCons (fOp gIx (fVar 2) (fC (.int 0))) (fCons (fVar 4) fNil))) (fCons (fCall d__law_frac (fCons (fOp gIx (fVar 2) (fC (.int 0))) (fCons (fVar 4) fNil))) fNil))))) (fRet (fC (.bl false))) fNext)
    (fSeq (fSet 5 (fCall d__law_frac (fCons (fOp gIx (fVar 2) (fC (.int 0))) (fCons (fOp gIx (fVar 2) (fC (.int 1))) fNil))))
    (fSeq (fSet 6 (fCall d__law_frac (fCons (fOp gIx (fVar 3) (fC (.int 0))) (fCons (fOp gIx (fVar 3) (fC (.int 1))) fNil))))
    (fSeq (fIfS (fOr (fNot (fTru (fCall d__law_right (fCons (fVar 5) (fCons (fVar 6) fNil))))) (fOr (fNot (fTru (fCall d__law_right (fCons (fVar 5) (fCons (fVar 5) fNil))))) (fNot (fTru (fCall d__law_right (fCons (fVar 6) (fCons (fVar 5) fNil))))))) (fRet (fC (.bl false))) fNext)
    (fFor (fiRng1 (fCons (fC (.int 2)) fNil)) (gnName 7) (fIfS (fNot (fTru (fCall d__law_kinds_right (fCons (fCall d__law_thing (fCons (fCall d__law_mix (fCons (fCall d__law_cell (fCons (fVar 0) (fCons (fOp gAdd (fVar 1) (fVar 7)) fNil))) (fCons (fC (.int 10)) fNil))) (fCons (fOp gIx (fLst (fCons (fVar 5) (fCons (fVar 6) fNil))) (fVar 7)) fNil))) fNil)))) (fRet (fC (.bl false))) fNext)))))))))))
    (fRet (fAndV (fOp gIs (fCall d_is_fraction (fCons (fTup (fCons (fC (.int 0)) (fCons (fC (.int 1)) fNil))) fNil)) (fC (.bl true))) (fOp gIs (fCall d_is_whole (fCons (fOp gSub (fC (.int 0)) (fC (.int 5))) fNil)) (fC (.bl true))))))
theorem sc_law : FnScope ["_law_script", "_law_k", "_law_one", "_law_other", "_law_by", "_law_here", "_law_there", "_law_turn"] ["_law_script"] (defScope s_law) := ⟨rfl, rfl, rfl, by decide +kernel, rfl, by decide +kernel, by decide +kernel⟩
set_option maxHeartbeats 4000000 in
theorem fn_law {P : Program} {w : World} {K : PySem.W.Frag} {mg : Str → Option Value} {base : Heap} {k : Nat} {f : Addr} {fd : FuncData} {d__law_cell : List T → Option T} {d__law_big : List T → Option T} {d__law_mix : List T → Option T} {d_frac : List T → Option T} {d__law_frac : List T → Option T} {d__law_same : List T → Option T} {d__law_right : List T → Option T} {d__law_thing : List T → Option T} {d__law_kinds_right : List T → Option T} {d_is_fraction : List T → Option T} {d_is_whole : List T → Option T} (F : Fun K "law" "law" s_law f fd) (D__law_cell : Def P w K mg base k "_law_cell" 2 d__law_cell) (D__law_big : Def P w K mg base k "_law_big" 1 d__law_big) (D__law_mix : Def P w K mg base k "_law_mix" 2 d__law_mix) (D_frac : Def P w K mg base k "frac" 2 d_frac) (D__law_frac : Def P w K mg base k "_law_frac" 2 d__law_frac) (D__law_same : Def P w K mg base k "_law_same" 2 d__law_same) (D__law_right : Def P w K mg base k "_law_right" 2 d__law_right) (D__law_thing : Def P w K mg base k "_law_thing" 2 d__law_thing) (D__law_kinds_right : Def P w K mg base k "_law_kinds_right" 1 d__law_kinds_right) (D_is_fraction : Def P w K mg base k "is_fraction" 1 d_is_fraction) (D_is_whole : Def P w K mg base k "is_whole" 1 d_is_whole) (m_range : mg "range" = none) (m_len : mg "len" = none) (m_min : mg "min" = none) (m_max : mg "max" = none) :
    FnOk P w K mg base CX0 (k + 1) f fd ["_law_script"] (spT K 1 (dOf 8 1 (b_law d__law_cell d__law_big d__law_mix d_frac d__law_frac d__law_same d__law_right d__law_thing d__law_kinds_right d_is_fraction d_is_whole))) :=
  fnok_of F sc_law fun cdv A outer s H E hr => (sss_cons (ss_for PassesOwn.never rfl (si_rng3 rfl m_range (sa_cons se_int (sa_cons (se_callB (ct_max rfl) rfl m_max rfl (sa_cons se_int (sa_cons (se_callB (ct_min rfl) rfl m_min rfl (sa_cons se_int (sa_cons (se_callB ct_len rfl m_len PySem.boot_len (sa_cons (se_var 0 (pv 0)) sa_nil)) sa_nil))) sa_nil))) (sa_cons se_int sa_nil)))) (sg_name 1 sc_law.nd rfl (Or.inl rfl)) (sss_cons (ss_set 2 sc_law.nd rfl (Or.inl rfl) (se_call D__law_big hr rfl (sa_cons (se_call D__law_cell hr rfl (sa_cons (se_var 0 (pv 0)) (sa_cons (se_var 1 (pv 1)) sa_nil)) (len_cons (len_cons len_nil))) sa_nil) (len_cons len_nil)))
    (sss_cons (ss_set 3 sc_law.nd rfl (Or.inl rfl) (se_call D__law_big hr rfl (sa_cons (se_call D__law_cell hr rfl (sa_cons (se_var 0 (pv 0)) (sa_cons (se_op ot_add (se_var 1 (pv 1)) se_int) sa_nil)) (len_cons (len_cons len_nil))) sa_nil) (len_cons len_nil)))
    (sss_cons (ss_set 4 sc_law.nd rfl (Or.inl rfl) (se_ix xt_ix (se_var 3 (pv 3)) se_int (fun _ _ => rfl)))
    (sss_cons (ss_if (st_cmp (ot_eq hr.units) (se_op ot_mod (se_call D__law_mix hr rfl (sa_cons (se_call D__law_cell hr rfl (sa_cons (se_var 0 (pv 0)) (sa_cons (se_var 1 (pv 1)) sa_nil)) (len_cons (len_cons len_nil))) (sa_cons se_int sa_nil)) (len_cons (len_cons len_nil))) se_int) se_int (nomark _)) (sss_one (ss_set 4 sc_law.nd rfl (Or.inl rfl) (se_op ot_sub se_int (se_var 4 (pv 4))))) sss_nil)
    (sss_cons (ss_if (st_not (st_val (se_call D__law_same hr rfl (sa_cons (se_call D_frac hr rfl (sa_cons (se_ix xt_ix (se_var 2 (pv 2)) se_int (fun _ _ => rfl)) (sa_cons (se_var 4 (pv 4)) sa_nil)) (len_cons (len_cons len_nil))) (sa_cons (se_call D__law_frac hr rfl (sa_cons (se_ix xt_ix (se_var 2 (pv 2)) se_int (fun _ _ => rfl)) (sa_cons (se_var 4 (pv 4)) sa_nil)) (len_cons (len_cons len_nil))) sa_nil)) (len_cons (len_cons len_nil))))) (sss_one (ss_ret se_bl)) sss_nil)
    (sss_cons (ss_set 5 sc_law.nd rfl (Or.inl rfl) (se_call D__law_frac hr rfl (sa_cons (se_ix xt_ix (se_var 2 (pv 2)) se_int (fun _ _ => rfl)) (sa_cons (se_ix xt_ix (se_var 2 (pv 2)) se_int (fun _ _ => rfl)) sa_nil)) (len_cons (len_cons len_nil))))
    (sss_cons (ss_set 6 sc_law.nd rfl (Or.inl rfl) (se_call D__law_frac hr rfl (sa_cons (se_ix xt_ix (se_var 3 (pv 3)) se_int (fun _ _ => rfl)) (sa_cons (se_ix xt_ix (se_var 3 (pv 3)) se_int (fun _ _ => rfl)) sa_nil)) (len_cons (len_cons len_nil))))
    (sss_cons (ss_if (SW.st (sw_or (st_not (st_val (se_call D__law_right hr rfl (sa_cons (se_var 5 (pv 5)) (sa_cons (se_var 6 (pv 6)) sa_nil)) (len_cons (len_cons len_nil))))) (sw_or (st_not (st_val (se_call D__law_right hr rfl (sa_cons (se_var 5 (pv 5)) (sa_cons (se_var 5 (pv 5)) sa_nil)) (len_cons (len_cons len_nil))))) (sw_or1 (st_not (st_val (se_call D__law_right hr rfl (sa_cons (se_var 6 (pv 6)) (sa_cons (se_var 5 (pv 5)) sa_nil)) (len_cons (len_cons len_nil))))))))) (sss_one (ss_ret se_bl)) sss_nil)
    (sss_one (ss_for PassesOwn.never rfl (si_rng1 rfl m_range (sa_cons se_int sa_nil)) (sg_name 7 sc_law.nd rfl (Or.inl rfl)) (sss_one (ss_if (st_not (st_val (se_call D__law_kinds_right hr rfl (sa_cons (se_call D__law_thing hr rfl (sa_cons (se_call D__law_mix hr rfl (sa_cons (se_call D__law_cell hr rfl (sa_cons (se_var 0 (pv 0)) (sa_cons (se_op ot_add (se_var 1 (pv 1)) (se_var 7 (pv 7))) sa_nil)) (len_cons (len_cons len_nil))) (sa_cons se_int sa_nil)) (len_cons (len_cons len_nil))) (sa_cons (se_ix xt_ix (se_lst (sa_cons (se_var 5 (pv 5)) (sa_cons (se_var 6 (pv 6)) sa_nil))) (se_var 7 (pv 7)) (fun _ _ => rfl)) sa_nil)) (len_cons (len_cons len_nil))) sa_nil) (len_cons len_nil)))) (sss_one (ss_ret se_bl)) sss_nil)))))))))))))
    (sss_one (ss_ret (se_and (se_cmp ot_is (se_call D_is_fraction hr rfl (sa_cons (se_tup (sa_cons se_int (sa_cons se_int sa_nil))) sa_nil) (len_cons len_nil)) se_bl (nomark _)) (se_one (se_cmp ot_is (se_call D_is_whole hr rfl (sa_cons (se_op ot_sub se_int se_int) sa_nil) (len_cons len_nil)) se_bl (nomark _)))))))
end My

set_option Elab.async false
namespace Qm
noncomputable abbrev Cop (a b : Int) : Prop := Int.gcd a b = 1
theorem cop_of {a b : Int} (h : Nat.Coprime a.natAbs b.natAbs) : Cop a b := h
theorem Cop.symm {a b : Int} (h : Cop a b) : Cop b a := by unfold Cop; rw [Int.gcd_comm]; exact h
theorem Cop.mulL {a b c : Int} (h : Cop a c) (h' : Cop b c) : Cop (a * b) c := cop_of (by rw [Int.natAbs_mul]; exact Nat.Coprime.mul_left h h')
theorem Cop.mulR {a b c : Int} (h : Cop c a) (h' : Cop c b) : Cop c (a * b) := cop_of (by rw [Int.natAbs_mul]; exact Nat.Coprime.mul_right h h')
theorem Cop.dvdL {a b c : Int} (h : Cop b c) (d : a ∣ b) : Cop a c := cop_of (Nat.Coprime.coprime_dvd_left (Int.natAbs_dvd_natAbs.mpr d) h)
theorem Cop.dvdR {a b c : Int} (h : Cop c b) (d : a ∣ b) : Cop c a := cop_of (Nat.Coprime.coprime_dvd_right (Int.natAbs_dvd_natAbs.mpr d) h)
theorem Cop.addL {a b c : Int} (h : Cop a c) : Cop (a + b * c) c := by unfold Cop; rw [Int.gcd_add_mul_right_left]; exact h
theorem split {a b : Int} (h : b ≠ 0) : ∃ x y : Int, a = (Int.gcd a b : Int) * x ∧ b = (Int.gcd a b : Int) * y ∧ Cop x y ∧ (Int.gcd a b : Int) ≠ 0 := by
  have hg : (Int.gcd a b : Int) ≠ 0 := by
    intro z
    have : Int.gcd a b = 0 := by omega
    rw [Int.gcd_eq_zero_iff] at this
    exact h this.2
  obtain ⟨x, hx⟩ := Int.gcd_dvd_left a b
  obtain ⟨y, hy⟩ := Int.gcd_dvd_right a b
  refine ⟨x, y, hx, hy, ?_, hg⟩
  have e : Int.gcd a b = Int.gcd a b * Int.gcd x y := by
    have := Int.gcd_mul_left (Int.gcd a b : Int) x y
    rw [← hx, ← hy] at this
    simpa using this
  have hp : 0 < Int.gcd a b := by omega
  have := Nat.eq_of_mul_eq_mul_left hp (show Int.gcd a b * Int.gcd x y = Int.gcd a b * 1 by omega)
  exact this
theorem fdiv_of {a g x : Int} (h : a = g * x) (hg : g ≠ 0) : a.fdiv g = x := by rw [h]; exact Int.mul_fdiv_cancel_left x hg
theorem plus_q {a b c d : Int} (hb : 0 < b) (hd : 0 < d) (h1 : Cop a b) (h2 : Cop c d) (s top low : Int) (es : s = Int.gcd b d) (et : top = a * d.fdiv s + c * b.fdiv s) (el : low = Int.gcd top s) :
    top.fdiv low = (a * d + c * b).fdiv (Int.gcd (a * d + c * b) (b * d)) ∧ b.fdiv s * d.fdiv low = (b * d).fdiv (Int.gcd (a * d + c * b) (b * d)) ∧ s ≠ 0 ∧ low ≠ 0 := by
  obtain ⟨x, y, hx, hy, hc, hs⟩ := split (a := b) (b := d) (by omega)
  rw [← es] at hx hy hs
  have ex : b.fdiv s = x := fdiv_of hx hs
  have ey : d.fdiv s = y := fdiv_of hy hs
  rw [ex, ey] at et
  have cx : Cop top x := by
    have q1 : Cop (a * y) x := Cop.mulL (h1.dvdR ⟨s, by rw [hx, Int.mul_comm]⟩) hc.symm
    have q2 := q1.addL (b := c)
    rw [← et] at q2
    exact q2
  have cy : Cop top y := by
    have q1 : Cop (c * x) y := Cop.mulL (h2.dvdR ⟨s, by rw [hy, Int.mul_comm]⟩) hc
    have q2 := q1.addL (b := a)
    rw [Int.add_comm, ← et] at q2
    exact q2
  obtain ⟨u, v, hu, hv, _, hl⟩ := split (a := top) (b := s) hs
  rw [← el] at hu hv hl
  have e1 : a * d + c * b = s * top := by
    rw [et]
    calc a * d + c * b = a * (s * y) + c * (s * x) := by rw [← hx, ← hy]
      _ = s * (a * y + c * x) := by rw [Int.mul_add, Int.mul_left_comm, Int.mul_left_comm c]
  have e2 : b * d = s * (x * (y * s)) := by
    calc b * d = (s * x) * (s * y) := by rw [← hx, ← hy]
      _ = s * (x * (y * s)) := by rw [Int.mul_assoc, Int.mul_comm y s]
  have sp : 0 ≤ s := by rw [es]; omega
  have lp : 0 ≤ low := by rw [el]; omega
  have eg : ((Int.gcd (a * d + c * b) (b * d) : Nat) : Int) = s * low := by
    rw [e1, e2, Int.gcd_mul_left]
    have k1 : Int.gcd top (x * (y * s)) = Int.gcd top s := by
      show Nat.gcd top.natAbs (x * (y * s)).natAbs = Nat.gcd top.natAbs s.natAbs
      rw [Int.natAbs_mul, Int.natAbs_mul, Nat.Coprime.gcd_mul_left_cancel_right _ (Nat.Coprime.symm cx), Nat.Coprime.gcd_mul_left_cancel_right _ (Nat.Coprime.symm cy)]
    rw [k1, el]
    push_cast
    rw [Int.natAbs_of_nonneg sp]
  have hsl : s * low ≠ 0 := Int.mul_ne_zero hs hl
  have tl : top.fdiv low = u := fdiv_of hu hl
  have dl : d.fdiv low = v * y := fdiv_of (by rw [hy, hv, Int.mul_assoc]) hl
  refine ⟨?_, ?_, hs, hl⟩
  · rw [eg, tl, e1]
    exact (fdiv_of (by rw [Int.mul_assoc, ← hu]) hsl).symm
  · rw [eg, ex, dl, e2]
    refine (fdiv_of ?_ hsl).symm
    calc s * (x * (y * s)) = s * (x * (y * (low * v))) := by rw [← hv]
      _ = s * low * (x * (v * y)) := by
        rw [Int.mul_assoc s low]
        congr 1
        rw [Int.mul_left_comm y low v, Int.mul_left_comm x low, Int.mul_comm y v]
theorem times_q {a b c d : Int} (hb : 0 < b) (hd : 0 < d) (h1 : Cop a b) (h2 : Cop c d) (l r : Int) (el : l = Int.gcd a d) (er : r = Int.gcd c b) :
    a.fdiv l * c.fdiv r = (a * c).fdiv (Int.gcd (a * c) (b * d)) ∧ b.fdiv r * d.fdiv l = (b * d).fdiv (Int.gcd (a * c) (b * d)) ∧ l ≠ 0 ∧ r ≠ 0 := by
  obtain ⟨a', d', ha, hd', c1, hl⟩ := split (a := a) (b := d) (by omega)
  obtain ⟨c', b', hc, hb', c2, hr⟩ := split (a := c) (b := b) (by omega)
  rw [← el] at ha hd' hl
  rw [← er] at hc hb' hr
  have k : Cop (a' * c') (b' * d') := by
    have ab : Cop a' b' := (h1.dvdL ⟨l, by rw [Int.mul_comm]; exact ha⟩).dvdR ⟨r, by rw [Int.mul_comm]; exact hb'⟩
    have cd : Cop c' d' := (h2.dvdL ⟨r, by rw [Int.mul_comm]; exact hc⟩).dvdR ⟨l, by rw [Int.mul_comm]; exact hd'⟩
    exact Cop.mulR (Cop.mulL ab c2) (Cop.mulL c1 cd)
  have e1 : a * c = l * r * (a' * c') := by
    calc a * c = (l * a') * (r * c') := by rw [← ha, ← hc]
      _ = l * r * (a' * c') := by rw [Int.mul_assoc, Int.mul_left_comm a' r c', Int.mul_assoc]
  have e2 : b * d = l * r * (b' * d') := by
    calc b * d = (r * b') * (l * d') := by rw [← hb', ← hd']
      _ = l * r * (b' * d') := by rw [Int.mul_assoc, Int.mul_left_comm b' l d', ← Int.mul_assoc, Int.mul_comm r l]
  have lp : 0 ≤ l := by rw [el]; omega
  have rp : 0 ≤ r := by rw [er]; omega
  have eg : ((Int.gcd (a * c) (b * d) : Nat) : Int) = l * r := by
    rw [e1, e2, Int.gcd_mul_left, k]
    push_cast
    rw [Int.mul_one, Int.natAbs_of_nonneg (Int.mul_nonneg lp rp)]
  have hlr : l * r ≠ 0 := Int.mul_ne_zero hl hr
  refine ⟨?_, ?_, hl, hr⟩
  · rw [eg, fdiv_of ha hl, fdiv_of hc hr]
    exact (fdiv_of e1 hlr).symm
  · rw [eg, fdiv_of hb' hr, fdiv_of hd' hl]
    exact (fdiv_of e2 hlr).symm
end Qm

set_option Elab.async false
set_option linter.all false
set_option maxRecDepth 100000
namespace My
open PySem PySem.Spec PyProof.Rows L2 TM
theorem le17 : (17 : Nat) ≤ sizeLine := small_le (by decide)
theorem lt6 : (6 : Nat) < sizeLine := small1000 (by decide)
theorem gEq_pair {a b c d : Int} : gEq (.tup [.int a, .int b]) (.tup [.int c, .int d]) = some (.bl (decide (a = c) && decide (b = d))) := by
  have e : gEq (.tup [.int a, .int b]) (.tup [.int c, .int d]) = some (.bl ((a == c) && ((b == d) && true))) := rfl
  rw [e, Bool.and_true, Bool.beq_eq_decide_eq, Bool.beq_eq_decide_eq]
theorem gEq_bools {x y : Bool} : gEq (.lst [.bl x, .bl y]) (.lst [.bl x, .bl y]) = some (.bl true) := by
  have e : gEq (.lst [.bl x, .bl y]) (.lst [.bl x, .bl y]) = some (.bl ((x == x) && ((y == y) && true))) := rfl
  rw [e, beq_self_eq_true, beq_self_eq_true]
  rfl
local macro_rules | `(tactic| walk_at "ev") => `(tactic| simp only [fC, fVar, fOp, fUn, fTB, fTru, tru, fAnd, fOr, fNot, fAndV, fOrV, fIf, fNil, fCons, fTup, fLst, fCall, fNever, fNext, fRet, fDrop, fIfS, fSeq, fSet, fSetOwn, fAsg, fPar, gnName, gnNil, gnCons, gnTup, fApp, fDic, fSl, fNoPart, fPart, fFor, fiZip, gBits, sqK, zipT, loopT, gI_int, gAdd_int, gAdd_lst, gAdd_tup, gEq_int, gNe_int, gEq_bl, gNe_bl, gNot, gNeg, gIs, isNon, gIx_tup0, gIx_tup1, gIx_lst0, gIx_lst1, dAbs_nat, dMax, dMin, dLen, isi_non_int, isi_non_bool, isi_non_str, isi_non_list, isi_non_tuple, isi_non_dict, isi_non_lt, isi_bl_int, isi_bl_bool, isi_bl_str, isi_bl_list, isi_bl_tuple, isi_bl_dict, isi_bl_lt, isi_int_int, isi_int_bool, isi_int_str, isi_int_list, isi_int_tuple, isi_int_dict, isi_int_lt, isi_str_int, isi_str_bool, isi_str_str, isi_str_list, isi_str_tuple, isi_str_dict, isi_str_lt, isi_tup_int, isi_tup_bool, isi_tup_str, isi_tup_list, isi_tup_tuple, isi_tup_dict, isi_tup_lt, isi_lst_int, isi_lst_bool, isi_lst_str, isi_lst_list, isi_lst_tuple, isi_lst_dict, isi_lst_lt, isi_scr_int, isi_scr_bool, isi_scr_str, isi_scr_list, isi_scr_tuple, isi_scr_dict, isi_scr_lt, isi_dic_int, isi_dic_bool, isi_dic_str, isi_dic_list, isi_dic_tuple, isi_dic_dict, isi_dic_lt, Option.bind_some, Option.bind_none, List.getElem?_cons_zero, List.getElem?_cons_succ, List.set_cons_zero, List.set_cons_succ, List.map_cons, List.map_nil, List.cons_append, List.nil_append, List.replicate_succ, List.replicate_zero, List.length_cons, List.length_nil, if_true, if_false, ite_true, ite_false, reduceIte, Bool.not_true, Bool.not_false, Bool.false_eq_true, Nat.reduceSub, Nat.reduceAdd, Nat.reduceLeDiff, reduceCtorEq, decide_true, decide_false, ne_eq, not_true_eq_false, not_false_eq_true, CDivB_iff, CMulB_iff, CNz_iff, and_true, true_and, and_self, Nat.sub_self, Nat.zero_add, beq_self_eq_true, le0, le1, le2, le3, le4, le17, lt6, gEq_pair, gEq_bools, *])
theorem while_common : ∀ (n : Nat) (u : Option Sl) (x y : Nat), y < n → whileT (fTB (fOp gNe (fVar 1) (fC (.int 0)))) (fPar 0 1 (fCons (fVar 1) (fCons (fOp gMod (fVar 0) (fVar 1)) fNil))) n [some (.sh (.int x)), some (.sh (.int y)), u]
    = some (.nx [some (.sh (.int (Nat.gcd x y))), some (.sh (.int 0)), u])
  | 0, _, _, _, h => by omega
  | n + 1, u, x, y, h => by
    unfold whileT
    by_cases hy : y = 0
    · subst hy
      have h0 : ((0 : Nat) : Int) = 0 := rfl
      walk_at "ev"
      simp
    · have hy' : ¬ ((y : Int) = 0) := by omega
      have hm : Int.fmod (x : Int) (y : Int) = ((x % y : Nat) : Int) := by rw [Int.fmod_eq_emod_of_nonneg _ (by omega)]; rfl
      have hg : Nat.gcd x y = Nat.gcd y (x % y) := by rw [Nat.gcd_comm x y, Nat.gcd_rec y x, Nat.gcd_comm]
      have ih := while_common n u y (x % y) (by have := Nat.mod_lt x (Nat.pos_of_ne_zero hy); omega)
      rw [hg]
      clear hg h hy
      walk_at "ev"
theorem while_law : ∀ (n : Nat) (u v : Option Sl) (x y : Nat), y < n → whileT (fTB (fOp gGt (fVar 3) (fC (.int 0)))) (fPar 2 3 (fCons (fVar 3) (fCons (fOp gMod (fVar 2) (fVar 3)) fNil))) n [u, v, some (.sh (.int x)), some (.sh (.int y))]
    = some (.nx [u, v, some (.sh (.int (Nat.gcd x y))), some (.sh (.int 0))])
  | 0, _, _, _, _, h => by omega
  | n + 1, u, v, x, y, h => by
    unfold whileT
    by_cases hy : y = 0
    · subst hy
      have h0 : ((0 : Nat) : Int) = 0 := rfl
      walk_at "ev"
      simp
    · have hy' : ¬ ((y : Int) = 0) := by omega
      have hy2 : (0 : Int) < y := by omega
      have hm : Int.fmod (x : Int) (y : Int) = ((x % y : Nat) : Int) := by rw [Int.fmod_eq_emod_of_nonneg _ (by omega)]; rfl
      have hg : Nat.gcd x y = Nat.gcd y (x % y) := by rw [Nat.gcd_comm x y, Nat.gcd_rec y x, Nat.gcd_comm]
      have ih := while_law n u v y (x % y) (by have := Nat.mod_lt x (Nat.pos_of_ne_zero hy); omega)
      rw [hg]
      clear hg h hy
      walk_at "ev"
theorem while_no {ft : FT} {fb : FS} {τ τ' : TEnv} {n : Nat} (h : ft τ = some (false, τ')) (hn : 0 < n) : whileT ft fb n τ = some (.nx τ') := by
  obtain ⟨m, rfl⟩ : ∃ m, n = m + 1 := ⟨n - 1, by omega⟩
  unfold whileT
  rw [h]
  rfl
theorem B_pos : 0 < B := by decide +kernel
theorem bits_le {x : Int} (h : x.natAbs < B) : ¬ ((Builtin.Int.intBits x : Int) > 4000) := by
  unfold Builtin.Int.intBits
  by_cases h0 : x = 0
  · subst h0; decide
  · rw [if_neg (by simpa using h0)]
    have : x.natAbs.log2 < 4000 := (Nat.log2_lt (by omega)).mpr h
    omega
noncomputable def mCommon : List T → Option T
  | [.int a, .int b] => if a.natAbs < B ∧ b.natAbs < B then some (.int (Int.gcd a b)) else none
  | _ => none
theorem mCommon_eq {a b : Int} (ha : a.natAbs < B) (hb : b.natAbs < B) : mCommon [.int a, .int b] = some (.int (Int.gcd a b)) := if_pos ⟨ha, hb⟩
theorem sp_common (ts : List T) (t : T) (h : mCommon ts = some t) : dOf 3 2 (b_common B (fun _ => none)) ts = some t := by
  unfold mCommon at h
  split at h
  · next a b =>
    split at h
    · next hb =>
      cases h
      have hw := while_common B none a.natAbs b.natAbs (hb.2)
      have hbits := bits_le (x := ((b.natAbs : Nat) : Int)) (by simpa using hb.2)
      have hgt : gGt (.int (Builtin.Int.intBits ((b.natAbs : Nat) : Int))) (.int 4000) = some (.bl false) := by
        show some (T.bl (decide _)) = _
        rw [decide_eq_false hbits]
      have hno : whileT (fTB (fOp gGt (fUn gBits (fVar 1)) (fC (.int 4000)))) (fSeq (fPar 0 1 (fCons (fVar 1) (fCons (fOp gMod (fVar 0) (fVar 1)) fNil))) (fIfS (fTB (fOp gGt (fUn gBits (fVar 1)) (fC (.int 4000)))) (fAsg (fCall (fun _ => none) (fCons (fVar 0) (fCons (fVar 1) fNil))) (gnTup (gnCons (gnName 0) (gnCons (gnName 1) (gnCons (gnName 2) gnNil))))) fNext)) B [some (.sh (.int (a.natAbs : Nat))), some (.sh (.int (b.natAbs : Nat))), none]
          = some (.nx [some (.sh (.int (a.natAbs : Nat))), some (.sh (.int (b.natAbs : Nat))), none]) := while_no (by
            clear hw hbits
            walk_at "ev") B_pos
      unfold dOf b_common
      clear hb hbits hgt
      walk_at "ev"
      rfl
    · cases h
  · cases h
noncomputable def sg (a b : Int) : Int := if b < 0 then -(Int.gcd a b : Int) else (Int.gcd a b : Int)
noncomputable def frT (a b : Int) : T := .tup [.int (a.fdiv (sg a b)), .int (b.fdiv (sg a b))]
noncomputable def mFrac : List T → Option T
  | [.int a, .int b] => if a.natAbs < B ∧ b.natAbs < B ∧ b ≠ 0 then some (frT a b) else none
  | _ => none
theorem mFrac_eq {a b : Int} (ha : a.natAbs < B) (hb : b.natAbs < B) (h0 : b ≠ 0) : mFrac [.int a, .int b] = some (frT a b) := if_pos ⟨ha, hb, h0⟩
theorem gcd_ne {a b : Int} (h0 : b ≠ 0) : ¬ ((Int.gcd a b : Nat) : Int) = 0 := by
  intro h
  have : Int.gcd a b = 0 := by omega
  rw [Int.gcd_eq_zero_iff] at this
  exact h0 this.2
theorem gcd_B {a b : Int} (hb : b.natAbs < B) (h0 : b ≠ 0) : Int.gcd a b < B := by
  have h1 : Int.gcd a b ∣ b.natAbs := Int.gcd_dvd_natAbs_right a b
  have := Nat.le_of_dvd (by omega) h1
  omega
theorem bits_8 {x : Int} (h : x.natAbs < B) : gLt (.int (Builtin.Int.intBits x)) (.int 8000) = some (.bl true) := by
  show some (T.bl (decide _)) = _
  rw [decide_eq_true (by have := bits_le h; omega)]
theorem sp_frac (ts : List T) (t : T) (h : mFrac ts = some t) : dOf 3 2 (b_frac mCommon) ts = some t := by
  unfold mFrac at h
  split at h
  · next a b =>
    split at h
    · next hb =>
      cases h
      obtain ⟨ha, hb, h0⟩ := hb
      have h1 := mCommon_eq ha hb
      have h2 := gcd_ne (a := a) h0
      have h3 := gcd_B (a := a) hb h0
      have h4 : ((Int.gcd a b : Nat) : Int).natAbs < B := by omega
      have h5 : ¬ -((Int.gcd a b : Nat) : Int) = 0 := by omega
      have h6 : (-((Int.gcd a b : Nat) : Int)).natAbs < B := by omega
      have h7 := bits_8 h4
      have h8 := bits_8 h6
      unfold dOf b_frac
      by_cases hs : b < 0
      · have e : frT a b = .tup [.int (a.fdiv (-(Int.gcd a b : Int))), .int (b.fdiv (-(Int.gcd a b : Int)))] := by unfold frT sg; rw [if_pos hs]
        walk_at "ev"
      · have e : frT a b = .tup [.int (a.fdiv (Int.gcd a b : Int)), .int (b.fdiv (Int.gcd a b : Int))] := by unfold frT sg; rw [if_neg hs]
        walk_at "ev"
    · cases h
  · cases h
theorem sp_law_frac (ts : List T) (t : T) (h : mFrac ts = some t) : dOf 4 2 (b__law_frac B) ts = some t := by
  unfold mFrac at h
  split at h
  · next a b =>
    split at h
    · next hb =>
      cases h
      obtain ⟨ha, hb, h0⟩ := hb
      have h2 := gcd_ne (a := a) h0
      have h3 := gcd_B (a := a) hb h0
      have h4 : ((Int.gcd a b : Nat) : Int).natAbs < B := by omega
      have h5 : ¬ -((Int.gcd a b : Nat) : Int) = 0 := by omega
      have h6 : (-((Int.gcd a b : Nat) : Int)).natAbs < B := by omega
      have hz : ∀ i : Int, 0 - i = -i := fun i => by omega
      have hw := while_law B (some (.sh (.int a))) (some (.sh (.int b))) a.natAbs b.natAbs hb
      have hg : Nat.gcd a.natAbs b.natAbs = Int.gcd a b := rfl
      unfold dOf b__law_frac
      by_cases hs : b < 0
      · have e : frT a b = .tup [.int (a.fdiv (-(Int.gcd a b : Int))), .int (b.fdiv (-(Int.gcd a b : Int)))] := by unfold frT sg; rw [if_pos hs]
        walk_at "ev"
      · have e : frT a b = .tup [.int (a.fdiv (Int.gcd a b : Int)), .int (b.fdiv (Int.gcd a b : Int))] := by unfold frT sg; rw [if_neg hs]
        walk_at "ev"
    · cases h
  · cases h
end My

set_option Elab.async false
set_option linter.all false
set_option maxRecDepth 100000
namespace My
open PySem PySem.Spec PyProof.Rows L2 TM Qm
local macro_rules | `(tactic| walk_at "ev") => `(tactic| simp only [fC, fVar, fOp, fUn, fTB, fTru, tru, fAnd, fOr, fNot, fAndV, fOrV, fIf, fNil, fCons, fTup, fLst, fCall, fNever, fNext, fRet, fDrop, fIfS, fSeq, fSet, fSetOwn, fAsg, fPar, gnName, gnNil, gnCons, gnTup, fApp, fDic, fSl, fNoPart, fPart, fFor, fiZip, sqK, zipT, loopT, gI_int, gAdd_int, gAdd_lst, gAdd_tup, gEq_int, gNe_int, gEq_bl, gNe_bl, gNot, gNeg, gIs, isNon, gIx_tup0, gIx_tup1, gIx_lst0, gIx_lst1, dAbs_nat, dMax, dMin, dLen, isi_non_int, isi_non_bool, isi_non_str, isi_non_list, isi_non_tuple, isi_non_dict, isi_non_lt, isi_bl_int, isi_bl_bool, isi_bl_str, isi_bl_list, isi_bl_tuple, isi_bl_dict, isi_bl_lt, isi_int_int, isi_int_bool, isi_int_str, isi_int_list, isi_int_tuple, isi_int_dict, isi_int_lt, isi_str_int, isi_str_bool, isi_str_str, isi_str_list, isi_str_tuple, isi_str_dict, isi_str_lt, isi_tup_int, isi_tup_bool, isi_tup_str, isi_tup_list, isi_tup_tuple, isi_tup_dict, isi_tup_lt, isi_lst_int, isi_lst_bool, isi_lst_str, isi_lst_list, isi_lst_tuple, isi_lst_dict, isi_lst_lt, isi_scr_int, isi_scr_bool, isi_scr_str, isi_scr_list, isi_scr_tuple, isi_scr_dict, isi_scr_lt, isi_dic_int, isi_dic_bool, isi_dic_str, isi_dic_list, isi_dic_tuple, isi_dic_dict, isi_dic_lt, Option.bind_some, Option.bind_none, List.getElem?_cons_zero, List.getElem?_cons_succ, List.set_cons_zero, List.set_cons_succ, List.map_cons, List.map_nil, List.cons_append, List.nil_append, List.replicate_succ, List.replicate_zero, List.length_cons, List.length_nil, if_true, if_false, ite_true, ite_false, reduceIte, Bool.not_true, Bool.not_false, Bool.false_eq_true, Nat.reduceSub, Nat.reduceAdd, Nat.reduceLeDiff, reduceCtorEq, decide_true, decide_false, ne_eq, not_true_eq_false, not_false_eq_true, CDivB_iff, CMulB_iff, CNz_iff, and_true, true_and, and_self, Nat.sub_self, Nat.zero_add, beq_self_eq_true, le0, le1, le2, le3, le4, le17, lt6, gEq_pair, gEq_bools, *])
noncomputable def C : Nat := 2 ^ 1000
theorem CCB : C * C + C * C < B := by decide +kernel
theorem CB : C < B := by decide +kernel
theorem ltB {a : Int} (h : a.natAbs < C) : a.natAbs < B := Nat.lt_trans h CB
theorem mulC {a b : Int} (ha : a.natAbs < C) (hb : b.natAbs < C) : (a * b).natAbs < C * C := by
  rw [Int.natAbs_mul]
  exact Nat.mul_lt_mul'' ha hb
theorem mulB' {a b : Int} (ha : a.natAbs < C) (hb : b.natAbs < C) : (a * b).natAbs < B := by
  have h1 := mulC ha hb
  have h2 := CCB
  omega
theorem addB {a b c d : Int} (ha : a.natAbs < C) (hb : b.natAbs < C) (hc : c.natAbs < C) (hd : d.natAbs < C) : (a * b + c * d).natAbs < B := by
  have h1 := mulC ha hb
  have h2 := mulC hc hd
  have h3 := CCB
  omega
theorem fdiv_le {a g : Int} (h : g ∣ a) (hg : g ≠ 0) : (a.fdiv g).natAbs ≤ a.natAbs := by
  obtain ⟨x, rfl⟩ := h
  rw [Int.mul_fdiv_cancel_left x hg, Int.natAbs_mul]
  exact Nat.le_mul_of_pos_left _ (by omega)
structure Fr (a b : Int) : Prop where
  pos : 0 < b
  cop : Cop a b
  ba : a.natAbs < C
  bb : b.natAbs < C
theorem frT_pos {a b : Int} (h : 0 < b) : frT a b = .tup [.int (a.fdiv (Int.gcd a b)), .int (b.fdiv (Int.gcd a b))] := by
  unfold frT sg
  rw [if_neg (by omega)]
noncomputable def two : List T → Option (Int × Int × Int × Int)
  | [.tup [.int a, .int b], .tup [.int c, .int d]] => some (a, b, c, d)
  | _ => none
theorem two_eq {ts : List T} {a b c d : Int} (h : two ts = some (a, b, c, d)) : ts = [.tup [.int a, .int b], .tup [.int c, .int d]] := by
  unfold two at h
  split at h
  · cases h; rfl
  · cases h
noncomputable instance (a b : Int) : Decidable (Fr a b) := decidable_of_iff (0 < b ∧ Int.gcd a b = 1 ∧ a.natAbs < C ∧ b.natAbs < C) ⟨fun h => ⟨h.1, h.2.1, h.2.2.1, h.2.2.2⟩, fun h => ⟨h.pos, h.cop, h.ba, h.bb⟩⟩
noncomputable def mTwo (C : Int → Int → Int → Int → Bool) (g : Int → Int → Int → Int → T) : List T → Option T := fun ts => (two ts).bind fun p => if Fr p.1 p.2.1 ∧ Fr p.2.2.1 p.2.2.2 ∧ C p.1 p.2.1 p.2.2.1 p.2.2.2 = true then some (g p.1 p.2.1 p.2.2.1 p.2.2.2) else none
theorem mTwo_inv {C : Int → Int → Int → Int → Bool} {g : Int → Int → Int → Int → T} {ts : List T} {t : T} (h : mTwo C g ts = some t) : ∃ a b c d, ts = [.tup [.int a, .int b], .tup [.int c, .int d]] ∧ Fr a b ∧ Fr c d ∧ C a b c d = true ∧ t = g a b c d := by
  obtain ⟨⟨a, b, c, d⟩, e, h⟩ := bind_some h
  dsimp only at h
  split at h
  · next k => cases h; exact ⟨a, b, c, d, two_eq e, k.1, k.2.1, k.2.2, rfl⟩
  · cases h
theorem mTwo_eq {C : Int → Int → Int → Int → Bool} {g : Int → Int → Int → Int → T} {a b c d : Int} (h1 : Fr a b) (h2 : Fr c d) (h3 : C a b c d = true) : mTwo C g [.tup [.int a, .int b], .tup [.int c, .int d]] = some (g a b c d) := if_pos ⟨h1, h2, h3⟩
noncomputable abbrev mPl := mTwo (fun _ _ _ _ => true) fun a b c d => frT (a * d + c * b) (b * d)
noncomputable abbrev mMi := mTwo (fun _ _ _ _ => true) fun a b c d => frT (a * d - c * b) (b * d)
noncomputable abbrev mTi := mTwo (fun _ _ _ _ => true) fun a b c d => frT (a * c) (b * d)
noncomputable abbrev mOv := mTwo (fun _ _ c _ => decide (c ≠ 0)) fun a b c d => frT (a * d) (b * c)
noncomputable abbrev mBe := mTwo (fun _ _ _ _ => true) fun a b c d => .bl (decide (a * d < c * b))
theorem sp_plus (ts : List T) (t : T) (h : mPl ts = some t) : dOf 5 2 (b_plus mCommon) ts = some t := by
  obtain ⟨a, b, c, d, rfl, h1, h2, _, rfl⟩ := mTwo_inv h
  clear h
  obtain ⟨pb, cb, ba, bb⟩ := h1
  obtain ⟨pd, cd, bc, bd⟩ := h2
  obtain ⟨q1, q2, q3, q4⟩ := plus_q pb pd cb cd _ _ _ rfl rfl rfl
  have v1 : ((Int.gcd b d : Nat) : Int) ∣ b := Int.gcd_dvd_left b d
  have v2 : ((Int.gcd b d : Nat) : Int) ∣ d := Int.gcd_dvd_right b d
  have n1 := fdiv_le v1 q3
  have n2 := fdiv_le v2 q3
  have g1 : Int.gcd b d < B := gcd_B (ltB bd) (by omega)
  have g1' : ((Int.gcd b d : Nat) : Int).natAbs < B := by omega
  generalize hs : ((Int.gcd b d : Nat) : Int) = s at *
  have tb : (a * d.fdiv s + c * b.fdiv s).natAbs < B := addB ba (by omega) bc (by omega)
  have g2 : Int.gcd (a * d.fdiv s + c * b.fdiv s) s < B := gcd_B g1' q3
  have v3 : ((Int.gcd (a * d.fdiv s + c * b.fdiv s) s : Nat) : Int) ∣ d := Int.dvd_trans (Int.gcd_dvd_right _ _) v2
  have n3 := fdiv_le v3 q4
  have k1 := mCommon_eq (ltB bb) (ltB bd)
  have k2 := mCommon_eq tb g1'
  rw [hs] at k1
  have e : frT (a * d + c * b) (b * d) = .tup [.int ((a * d.fdiv s + c * b.fdiv s).fdiv (Int.gcd (a * d.fdiv s + c * b.fdiv s) s : Nat)), .int (b.fdiv s * d.fdiv (Int.gcd (a * d.fdiv s + c * b.fdiv s) s : Nat))] := by
    rw [frT_pos (Int.mul_pos pb pd), q1, q2]
  have g2' : ((Int.gcd (a * d.fdiv s + c * b.fdiv s) s : Nat) : Int).natAbs < B := by omega
  generalize hl : ((Int.gcd (a * d.fdiv s + c * b.fdiv s) s : Nat) : Int) = l at *
  have w1 := ltB ba
  have w2 := ltB bc
  have cb' := CB
  have w3 : (d.fdiv s).natAbs < B := by omega
  have w4 : (b.fdiv s).natAbs < B := by omega
  have w5 : (d.fdiv l).natAbs < B := by omega
  clear q1 q2 v1 v2 n1 n2 n3 v3 cb cd ba bb bc bd pb pd hs hl g1 g2 cb'
  unfold dOf b_plus
  walk_at "ev"
theorem Fr.neg {a b : Int} (h : Fr a b) : Fr (-a) b := ⟨h.pos, by show Int.gcd (-a) b = 1; rw [Int.neg_gcd]; exact h.cop, by rw [Int.natAbs_neg]; exact h.ba, h.bb⟩
theorem sp_minus (ts : List T) (t : T) (h : mMi ts = some t) : dOf 2 2 (b_minus mPl) ts = some t := by
  obtain ⟨a, b, c, d, rfl, h1, h2, _, rfl⟩ := mTwo_inv h
  clear h
  have k := mTwo_eq (C := fun _ _ _ _ => true) (g := fun a b c d => frT (a * d + c * b) (b * d)) h1 h2.neg rfl
  have e : a * d + -c * b = a * d - c * b := by rw [Int.neg_mul]; omega
  rw [e] at k
  clear e h1 h2
  unfold dOf b_minus
  walk_at "ev"
theorem sp_times (ts : List T) (t : T) (h : mTi ts = some t) : dOf 4 2 (b_times mCommon) ts = some t := by
  obtain ⟨a, b, c, d, rfl, h1, h2, _, rfl⟩ := mTwo_inv h
  clear h
  obtain ⟨pb, cb, ba, bb⟩ := h1
  obtain ⟨pd, cd, bc, bd⟩ := h2
  obtain ⟨q1, q2, q3, q4⟩ := times_q pb pd cb cd _ _ rfl rfl
  have n1 := fdiv_le (Int.gcd_dvd_left a d) q3
  have n2 := fdiv_le (Int.gcd_dvd_right a d) q3
  have n3 := fdiv_le (Int.gcd_dvd_left c b) q4
  have n4 := fdiv_le (Int.gcd_dvd_right c b) q4
  have g1 : Int.gcd a d < B := gcd_B (ltB bd) (by omega)
  have g2 : Int.gcd c b < B := gcd_B (ltB bb) (by omega)
  have k1 := mCommon_eq (ltB ba) (ltB bd)
  have k2 := mCommon_eq (ltB bc) (ltB bb)
  have e : frT (a * c) (b * d) = .tup [.int (a.fdiv (Int.gcd a d : Nat) * c.fdiv (Int.gcd c b : Nat)), .int (b.fdiv (Int.gcd c b : Nat) * d.fdiv (Int.gcd a d : Nat))] := by
    rw [frT_pos (Int.mul_pos pb pd), q1, q2]
  have g1' : ((Int.gcd a d : Nat) : Int).natAbs < B := by omega
  have g2' : ((Int.gcd c b : Nat) : Int).natAbs < B := by omega
  generalize ((Int.gcd a d : Nat) : Int) = l at *
  generalize ((Int.gcd c b : Nat) : Int) = r at *
  have cb' := CB
  have w1 : (a.fdiv l).natAbs < B := by omega
  have w2 : (d.fdiv l).natAbs < B := by omega
  have w3 : (c.fdiv r).natAbs < B := by omega
  have w4 : (b.fdiv r).natAbs < B := by omega
  clear q1 q2 n1 n2 n3 n4 cb cd ba bb bc bd pb pd g1 g2 cb'
  unfold dOf b_times
  walk_at "ev"
theorem fdiv_m1 (x : Int) : x.fdiv (-1) = -x := by
  have := Int.neg_fdiv_neg (-x) 1
  rw [Int.neg_neg, Int.fdiv_one] at this
  exact this
theorem over_pos {c d : Int} (h : Fr c d) (hc : 0 < c) : frT d c = .tup [.int d, .int c] := by
  rw [frT_pos hc, show Int.gcd d c = 1 from h.cop.symm]
  simp [Int.fdiv_one]
theorem over_neg {c d : Int} (h : Fr c d) (hc : c < 0) : frT d c = .tup [.int (-d), .int (-c)] := by
  unfold frT sg
  rw [if_pos hc, show Int.gcd d c = 1 from h.cop.symm]
  have e1 : -((1 : Nat) : Int) = -1 := rfl
  rw [e1, fdiv_m1, fdiv_m1]
theorem frT_negneg {x y : Int} (hy : y < 0) : frT (-x) (-y) = frT x y := by
  unfold frT sg
  rw [if_pos hy, if_neg (by omega), Int.neg_gcd, Int.gcd_neg]
  have e : ∀ z g : Int, (-z).fdiv g = z.fdiv (-g) := fun z g => by
    have := Int.neg_fdiv_neg z (-g)
    rw [Int.neg_neg] at this
    exact this
  rw [e, e]
theorem sp_over (ts : List T) (t : T) (h : mOv ts = some t) : dOf 2 2 (b_over mFrac mTi) ts = some t := by
  obtain ⟨a, b, c, d, rfl, h1, h2, hc, rfl⟩ := mTwo_inv h
  clear h
  have hc : c ≠ 0 := of_decide_eq_true hc
  have k := mFrac_eq (ltB h2.bb) (ltB h2.ba) hc
  rcases Int.lt_or_gt_of_ne hc with hn | hp
  · rw [over_neg h2 hn] at k
    have h3 : Fr (-d) (-c) := ⟨by omega, by show Int.gcd (-d) (-c) = 1; rw [Int.neg_gcd, Int.gcd_neg]; exact h2.cop.symm, by rw [Int.natAbs_neg]; exact h2.bb, by rw [Int.natAbs_neg]; exact h2.ba⟩
    have k2 := mTwo_eq (C := fun _ _ _ _ => true) (g := fun a b c d => frT (a * c) (b * d)) h1 h3 rfl
    have e : frT (a * -d) (b * -c) = frT (a * d) (b * c) := by
      rw [Int.mul_neg, Int.mul_neg]
      exact frT_negneg (Int.mul_neg_of_pos_of_neg h1.pos hn)
    rw [e] at k2
    clear e h1 h2 h3 hc hn
    unfold dOf b_over
    walk_at "ev"
  · rw [over_pos h2 hp] at k
    have h3 : Fr d c := ⟨hp, h2.cop.symm, h2.bb, h2.ba⟩
    have k2 := mTwo_eq (C := fun _ _ _ _ => true) (g := fun a b c d => frT (a * c) (b * d)) h1 h3 rfl
    clear h1 h2 h3 hc hp
    unfold dOf b_over
    walk_at "ev"
theorem sp_below (ts : List T) (t : T) (h : mBe ts = some t) : dOf 2 2 (b_below) ts = some t := by
  obtain ⟨a, b, c, d, rfl, h1, h2, _, rfl⟩ := mTwo_inv h
  clear h
  have w1 := ltB h1.ba
  have w2 := ltB h1.bb
  have w3 := ltB h2.ba
  have w4 := ltB h2.bb
  clear h1 h2
  unfold dOf b_below
  walk_at "ev"
noncomputable def notTy : T → Bool
  | .ty _ => false
  | .obj _ _ _ => false
  | .ptr _ => false
  | _ => true
noncomputable def isWh : T → Bool
  | .int _ => true
  | _ => false
noncomputable def mWhole : List T → Option T
  | [t] => if notTy t = true then some (.bl (isWh t)) else none
  | _ => none
theorem mWhole_eq {t : T} (h : notTy t = true) : mWhole [t] = some (.bl (isWh t)) := if_pos h
theorem sp_is_whole (ts : List T) (t : T) (h : mWhole ts = some t) : dOf 1 1 b_is_whole ts = some t := by
  unfold mWhole at h
  split at h
  · next u =>
    split at h
    · next hn =>
      cases h
      cases u with
      | ty _ => cases hn
      | obj _ _ _ => cases hn
      | ptr _ => cases hn
      | _ => clear hn; unfold dOf b_is_whole isWh; walk_at "ev"
    · cases h
  · cases h
theorem sp_law_whole (ts : List T) (t : T) (h : mWhole ts = some t) : dOf 1 1 b__law_whole ts = some t := sp_is_whole ts t h
noncomputable def okI : T → Prop
  | .ty _ => False
  | .obj _ _ _ => False
  | .ptr _ => False
  | .int i => i.natAbs < B
  | _ => True
noncomputable def okT : T → Prop
  | .ty _ => False
  | .obj _ _ _ => False
  | .ptr _ => False
  | .tup [x, y] => okI x ∧ okI y
  | _ => True
noncomputable def isFr : T → Bool
  | .tup [.int a, .int b] => decide (1 ≤ b) && decide (((Int.gcd a b : Nat) : Int) = 1)
  | _ => false
theorem okI_whole {x : T} (h : okI x) : (∃ i, x = .int i ∧ i.natAbs < B) ∨ (mWhole [x] = some (.bl false) ∧ ∀ i, x ≠ .int i) := by
  cases x with
  | int i => exact .inl ⟨i, rfl, h⟩
  | ty _ => cases h
  | obj _ _ _ => cases h
  | ptr _ => cases h
  | _ => exact .inr ⟨rfl, fun i e => nomatch e⟩
theorem isFr_l {x y : T} (h : ∀ i, x ≠ .int i) : isFr (.tup [x, y]) = false := by
  unfold isFr
  split
  · next a b e => injection e with e; injection e with e1 e2; exact absurd e1 (h a)
  · rfl
theorem isFr_r {x y : T} (h : ∀ i, y ≠ .int i) : isFr (.tup [x, y]) = false := by
  unfold isFr
  split
  · next a b e => injection e with e; injection e with e1 e2; injection e2 with e3 _; exact absurd e3 (h b)
  · rfl
theorem not2 {n : Nat} : ¬ (((n + 1 + 1 + 1 : Nat)) : Int) = 2 := by omega
theorem len0 : ¬ (((0 : Nat)) : Int) = 2 := by decide
theorem len1' : ¬ (((1 : Nat)) : Int) = 2 := by decide
theorem len2 : (((2 : Nat)) : Int) = 2 := by decide
theorem ev_is_fraction {t : T} (h : okT t) : dOf 3 1 (b_is_fraction mWhole mCommon) [t] = some (.bl (isFr t)) := by
  have l0 := len0
  have l1 := len1'
  have l2 := len2
  cases t with
  | ty _ => cases h
  | obj _ _ _ => cases h
  | ptr _ => cases h
  | tup ts =>
    match ts, h with
    | [], _ => unfold dOf b_is_fraction isFr; walk_at "ev"
    | [x], _ => unfold dOf b_is_fraction isFr; walk_at "ev"
    | x :: y :: z :: r, _ =>
      have l3 := not2 (n := r.length)
      unfold dOf b_is_fraction isFr
      walk_at "ev"
    | [x, y], h =>
      rcases okI_whole h.1 with ⟨a, rfl, ha⟩ | ⟨hx, hn⟩
      · have k1 := mWhole_eq (t := .int a) rfl
        have i1 : isWh (.int a) = true := rfl
        rcases okI_whole h.2 with ⟨b, rfl, hb⟩ | ⟨hy, hn⟩
        · have k2 := mWhole_eq (t := .int b) rfl
          have i2 : isWh (.int b) = true := rfl
          have k3 := mCommon_eq ha hb
          have e : isFr (.tup [.int a, .int b]) = (decide (1 ≤ b) && decide (((Int.gcd a b : Nat) : Int) = 1)) := rfl
          unfold dOf b_is_fraction
          clear h ha hb
          by_cases hc : 1 ≤ b
          · walk_at "ev"
            simp
          · walk_at "ev"
            simp
        · have e := isFr_r (x := .int a) hn
          clear hn h ha
          unfold dOf b_is_fraction
          walk_at "ev"
      · have e := isFr_l (y := y) hn
        clear hn h
        unfold dOf b_is_fraction
        walk_at "ev"
  | _ => clear h; unfold dOf b_is_fraction isFr; walk_at "ev"
theorem low_iff {a b : Int} (hb : 0 < b) : (decide (a.fdiv (Int.gcd a b : Nat) = a) && decide (b.fdiv (Int.gcd a b : Nat) = b)) = decide (((Int.gcd a b : Nat) : Int) = 1) := by
  obtain ⟨x, y, hx, hy, hc, hg⟩ := split (a := a) (b := b) (by omega)
  rw [fdiv_of hx hg, fdiv_of hy hg]
  by_cases h : ((Int.gcd a b : Nat) : Int) = 1
  · rw [h] at hx hy
    rw [decide_eq_true h, decide_eq_true (show x = a by omega), decide_eq_true (show y = b by omega)]
    rfl
  · rw [decide_eq_false h, decide_eq_false (show ¬ y = b from fun e => h ?_), Bool.and_false]
    rw [e] at hy
    have : b * ((Int.gcd a b : Nat) : Int) = b * 1 := by rw [Int.mul_one, Int.mul_comm]; exact hy.symm
    exact Int.eq_of_mul_eq_mul_left (by omega) this
theorem ev_law_fraction {t : T} (h : okT t) : dOf 1 1 (b__law_fraction mWhole mFrac) [t] = some (.bl (isFr t)) := by
  have l0 := len0
  have l1 := len1'
  have l2 := len2
  cases t with
  | ty _ => cases h
  | obj _ _ _ => cases h
  | ptr _ => cases h
  | tup ts =>
    match ts, h with
    | [], _ => unfold dOf b__law_fraction isFr; walk_at "ev"
    | [x], _ => unfold dOf b__law_fraction isFr; walk_at "ev"
    | x :: y :: z :: r, _ =>
      have l3 := not2 (n := r.length)
      unfold dOf b__law_fraction isFr
      walk_at "ev"
    | [x, y], h =>
      rcases okI_whole h.1 with ⟨a, rfl, ha⟩ | ⟨hx, hn⟩
      · have k1 := mWhole_eq (t := .int a) rfl
        have i1 : isWh (.int a) = true := rfl
        rcases okI_whole h.2 with ⟨b, rfl, hb⟩ | ⟨hy, hn⟩
        · have k2 := mWhole_eq (t := .int b) rfl
          have i2 : isWh (.int b) = true := rfl
          have e : isFr (.tup [.int a, .int b]) = (decide (1 ≤ b) && decide (((Int.gcd a b : Nat) : Int) = 1)) := rfl
          unfold dOf b__law_fraction
          by_cases hc : 0 < b
          · have k3 := mFrac_eq ha hb (by omega)
            rw [frT_pos hc] at k3
            have e2 := low_iff (a := a) hc
            have hc' : 1 ≤ b := hc
            clear h ha hb
            walk_at "ev"
            simp
          · have hc' : ¬ 1 ≤ b := by omega
            clear h ha hb
            walk_at "ev"
            simp
        · have e := isFr_r (x := .int a) hn
          clear hn h ha
          unfold dOf b__law_fraction
          walk_at "ev"
      · have e := isFr_l (y := y) hn
        clear hn h
        unfold dOf b__law_fraction
        walk_at "ev"
  | _ => clear h; unfold dOf b__law_fraction isFr; walk_at "ev"
theorem okT_not {t : T} (h : okT t) : notTy t = true := by cases t <;> first | rfl | cases h
open Classical in
noncomputable def mIsFr : List T → Option T := fun ts => match ts with
  | [t] => if okT t then some (.bl (isFr t)) else none
  | _ => none
theorem mIsFr_eq {t : T} (h : okT t) : mIsFr [t] = some (.bl (isFr t)) := if_pos h
theorem mIsFr_inv {ts : List T} {t : T} (h : mIsFr ts = some t) : ∃ u, ts = [u] ∧ okT u ∧ t = .bl (isFr u) := by
  unfold mIsFr at h
  split at h
  · next u =>
    split at h
    · next k => cases h; exact ⟨u, rfl, k, rfl⟩
    · cases h
  · cases h
theorem sp_is_fraction (ts : List T) (t : T) (h : mIsFr ts = some t) : dOf 3 1 (b_is_fraction mWhole mCommon) ts = some t := by
  obtain ⟨u, rfl, k, rfl⟩ := mIsFr_inv h
  exact ev_is_fraction k
theorem sp_law_fraction (ts : List T) (t : T) (h : mIsFr ts = some t) : dOf 1 1 (b__law_fraction mWhole mFrac) ts = some t := by
  obtain ⟨u, rfl, k, rfl⟩ := mIsFr_inv h
  exact ev_law_fraction k
open Classical in
noncomputable def mKinds : List T → Option T := fun ts => match ts with
  | [t] => if okT t then some (.bl true) else none
  | _ => none
theorem mKinds_eq {t : T} (h : okT t) : mKinds [t] = some (.bl true) := if_pos h
theorem sp_kinds (ts : List T) (t : T) (h : mKinds ts = some t) : dOf 3 1 (b__law_kinds_right mIsFr mWhole mIsFr mWhole) ts = some t := by
  unfold mKinds at h
  split at h
  · next u =>
    split at h
    · next k =>
      cases h
      have k1 := mIsFr_eq k
      have k2 := mWhole_eq (okT_not k)
      clear k
      unfold dOf b__law_kinds_right
      walk_at "ev"
    · cases h
  · cases h
noncomputable abbrev mRi := mTwo (fun _ _ _ _ => true) fun _ _ _ _ => .bl true
theorem same_frT (a b : Int) : dSame 2 [frT a b, frT a b] = some (.bl true) := dSame_eq 1 _ rfl
set_option maxHeartbeats 2000000 in
theorem sp_right (ts : List T) (t : T) (h : mRi ts = some t) : dOf 7 2 (b__law_right mPl mFrac (dSame 2) mMi mTi mOv mBe) ts = some t := by
  obtain ⟨a, b, c, d, rfl, h1, h2, _, rfl⟩ := mTwo_inv h
  clear h
  have p1 : mPl _ = _ := mTwo_eq h1 h2 rfl
  have p2 : mMi _ = _ := mTwo_eq h1 h2 rfl
  have p3 : mTi _ = _ := mTwo_eq h1 h2 rfl
  have p5 : mBe _ = _ := mTwo_eq h1 h2 rfl
  have hbd : b * d ≠ 0 := Int.mul_ne_zero (by have := h1.pos; omega) (by have := h2.pos; omega)
  have q1 := mFrac_eq (addB h1.ba h2.bb h2.ba h1.bb) (mulB' h1.bb h2.bb) hbd
  have e2 : (a * d - c * b).natAbs < B := by
    have := mulC h1.ba h2.bb
    have := mulC h2.ba h1.bb
    have := CCB
    omega
  have q2 := mFrac_eq e2 (mulB' h1.bb h2.bb) hbd
  have q3 := mFrac_eq (mulB' h1.ba h2.ba) (mulB' h1.bb h2.bb) hbd
  have s1 := same_frT (a * d + c * b) (b * d)
  have s2 := same_frT (a * d - c * b) (b * d)
  have s3 := same_frT (a * c) (b * d)
  have w1 := ltB h1.ba
  have w2 := ltB h1.bb
  have w3 := ltB h2.ba
  have w4 := ltB h2.bb
  unfold dOf b__law_right
  by_cases hc : c = 0
  · subst hc
    have z : ((0 : Int) = 0) = True := eq_self 0
    clear h1 h2 hbd e2
    walk_at "ev"
  · have p4 : mOv _ = _ := mTwo_eq h1 h2 (decide_eq_true hc)
    have q4 := mFrac_eq (mulB' h1.ba h2.bb) (mulB' h1.bb h2.ba) (Int.mul_ne_zero (by have := h1.pos; omega) hc)
    have s4 := same_frT (a * d) (b * c)
    clear h1 h2 hbd e2
    walk_at "ev"
theorem p30 : gPow (.int 10) (.int 30) = some (.int 1000000000000000000000000000000) := rfl
theorem p20 : gPow (.int 10) (.int 20) = some (.int 100000000000000000000) := rfl
theorem p18 : gPow (.int 10) (.int 18) = some (.int 1000000000000000000) := rfl
theorem ix_in {L : List T} {i : Int} (h0 : 0 ≤ i) (h1 : i < (L.length : Int)) : ∃ t, gIx (.lst L) (.int i) = some t ∧ t ∈ L := by
  obtain ⟨j, rfl⟩ := Int.eq_ofNat_of_zero_le h0
  have hj : j < L.length := by omega
  exact ⟨L[j], atI_nat (List.getElem?_eq_getElem hj), List.getElem_mem hj⟩
noncomputable abbrev dBig : List T → Option T := dOf 4 1 (b__law_big mMix)
theorem C_big : (10 ^ 60 : Nat) < C := by decide +kernel
theorem big_B {i : Int} (h1 : -(10 ^ 60) < i) (h2 : i < 10 ^ 60) : i.natAbs < B := by
  have := C_big
  have := CB
  omega
theorem ev_big (c : Int) : ∃ a b, dBig [.int c] = some (.lst [.int a, .int b]) ∧ a.natAbs < 10 ^ 60 ∧ 0 < b ∧ b.natAbs < 10 ^ 60 := by
  have k1 := mMix_eq (c := c) (k := 1) (by exact num_B (n := 1) (by decide))
  have k2 := mMix_eq (c := c) (k := 2) (by exact num_B (n := 2) (by decide))
  have k3 := mMix_eq (c := c) (k := 3) (by exact num_B (n := 3) (by decide))
  have r1 := mixF_rng c 1
  have r2 := mixF_rng c 2
  have r3 := mixF_rng c 3
  generalize mixF c 1 = n at *
  generalize mixF c 2 = m at *
  generalize mixF c 3 = l at *
  have e30 := p30
  have e20 := p20
  have e18 := p18
  have b2 : (2 : Int).natAbs < B := num_B (n := 2) (by decide)
  have b30 : (1000000000000000000000000000000 : Int).natAbs < B := big_B (by decide) (by decide)
  have b20 : (100000000000000000000 : Int).natAbs < B := big_B (by decide) (by decide)
  have b18 : (1000000000000000000 : Int).natAbs < B := big_B (by decide) (by decide)
  have b4 : (4 : Int).natAbs < B := num_B (n := 4) (by decide)
  have b40 : (40 : Int).natAbs < B := num_B (n := 40) (by decide)
  have b7 : (7 : Int).natAbs < B := num_B (n := 7) (by decide)
  have b3 : (3 : Int).natAbs < B := num_B (n := 3) (by decide)
  have bd : (2 * 1000000000000000000000000000000 - 1 : Int).natAbs < B := big_B (by decide) (by decide)
  have n2 : ¬ (2 : Int) = 0 := by decide
  have n4 : ¬ (4 : Int) = 0 := by decide
  have n9 : ¬ (9 : Int) = 0 := by decide
  have n7 : ¬ (7 : Int) = 0 := by decide
  have n3 : ¬ (3 : Int) = 0 := by decide
  have n12 : ¬ (12 : Int) = 0 := by decide
  have n40 : ¬ (40 : Int) = 0 := by decide
  have n720 : ¬ (720 : Int) = 0 := by decide
  have n1000 : ¬ (1000 : Int) = 0 := by decide
  have nd : ¬ (2 * 1000000000000000000000000000000 - 1 : Int) = 0 := by decide
  have ne : ¬ (1000000000000000000000000000000 - 1 : Int) = 0 := by decide
  by_cases hc : c.fmod 2 = 1
  · refine ⟨(c.fdiv 2).fmod (2 * 1000000000000000000000000000000 - 1) - 1000000000000000000000000000000 + 1, ((c.fdiv 2).fdiv (2 * 1000000000000000000000000000000 - 1)).fmod (1000000000000000000000000000000 - 1) + 1, ?_, ?_⟩
    · clear r1 r2 r3
      unfold dBig dOf b__law_big
      walk_at "ev"
    · have q1 := fmod_rng (c.fdiv 2) (b := 2 * 1000000000000000000000000000000 - 1) (by decide)
      have q2 := fmod_rng ((c.fdiv 2).fdiv (2 * 1000000000000000000000000000000 - 1)) (b := 1000000000000000000000000000000 - 1) (by decide)
      omega
  · have i1 := fmod_rng n (b := 4) (by decide)
    have i2 := fmod_rng (n.fdiv 3) (b := 4) (by decide)
    have j1 := fmod_rng (n.fdiv 4) (b := 9) (by decide)
    have j2 := fmod_rng (n.fdiv 4) (b := 1000) (by decide)
    have j3 := fmod_rng (n.fdiv 40) (b := 12) (by decide)
    have j4 := fmod_rng (n.fdiv 7) (b := 720) (by decide)
    obtain ⟨t, t1, t2⟩ := ix_in (L := [.int ((n.fdiv 4).fmod 9 - 4), .int ((n.fdiv 4).fmod 1000), .int (m * 100000000000000000000 + n), .int (0 - (m * 100000000000000000000 + n))]) (i := n.fmod 4) i1.1 i1.2
    obtain ⟨u, u1, u2⟩ := ix_in (L := [.int 1, .int (1 + (n.fdiv 40).fmod 12), .int (1 + l * 1000000000000000000), .int (1 + (n.fdiv 7).fmod 720)]) (i := (n.fdiv 3).fmod 4) i2.1 i2.2
    have ht : ∃ a : Int, t = .int a ∧ a.natAbs < 10 ^ 60 := by
      simp only [List.mem_cons, List.not_mem_nil, or_false] at t2
      rcases t2 with rfl | rfl | rfl | rfl <;> refine ⟨_, rfl, ?_⟩ <;> omega
    have hu : ∃ a : Int, u = .int a ∧ 0 < a ∧ a.natAbs < 10 ^ 60 := by
      simp only [List.mem_cons, List.not_mem_nil, or_false] at u2
      rcases u2 with rfl | rfl | rfl | rfl <;> refine ⟨_, rfl, ?_⟩ <;> omega
    obtain ⟨a, rfl, ha⟩ := ht
    obtain ⟨b, rfl, hb⟩ := hu
    refine ⟨a, b, ?_, ha, hb.1, hb.2⟩
    have bm : m.natAbs < B := ltB_of (by omega) (by omega)
    have bl : l.natAbs < B := ltB_of (by omega) (by omega)
    clear r1 r2 r3 i1 i2 j1 j2 j3 j4 t2 u2 ha hb
    unfold dBig dOf b__law_big
    walk_at "ev"
noncomputable abbrev dThing : List T → Option T := dOf 3 2 b__law_thing
theorem fd10 (a : Int) : (a.fdiv 10).natAbs ≤ a.natAbs := by
  rw [Int.fdiv_eq_ediv_of_nonneg _ (by decide)]
  omega
theorem C_log {n : Nat} (h : n < C) : n.log2 < 1920 := by
  rcases Nat.eq_zero_or_pos n with h0 | hp
  · rw [h0]; decide
  · exact Nat.lt_trans ((Nat.log2_lt (k := 1000) (Nat.ne_of_gt hp)).mpr h) (by decide)
theorem ev_thing (c : Int) {a b : Int} (h : Fr a b) : ∃ t, dThing [.int c, .tup [.int a, .int b]] = some t ∧ okT t := by
  have f1 := fd10 a
  have f2 := fd10 b
  have ha := ltB h.ba
  have hb := ltB h.bb
  have hc := CB
  have ba := h.ba
  have bb := h.bb
  have c10 : 7 * C + 7 < B := by decide +kernel
  have k1 : dList [.tup [.int a, .int b]] = some (.lst [.int a, .int b]) := rfl
  have k2 : gSl (.tup [.int a, .int b]) none (some 1) = some (.tup [.int a]) := rfl
  have k3 : dStr [.int a] = some (.str (toString a)) := if_pos (C_log h.ba)
  have k4 : gAdd (.tup [.int a, .int b]) (.tup [.int 1]) = some (.tup [.int a, .int b, .int 1]) := gAdd_tup (by show 3 ≤ sizeLine; exact le3)
  have b10 : (10 : Int).natAbs < B := num_B (n := 10) (by decide)
  have b7 : (7 : Int).natAbs < B := num_B (n := 7) (by decide)
  have n10 : ¬ (10 : Int) = 0 := by decide
  have n17 : ¬ (17 : Int) = 0 := by decide
  have w1 : (a.fdiv 10).natAbs < B := by omega
  have w2 : (b.fdiv 10).natAbs < B := by omega
  have l6 : (6 : Nat) ≤ sizeLine := small_le (by decide)
  have l10 : (10 : Nat) ≤ sizeLine := small_le (by decide)
  have r := fmod_rng c (b := 17) (by decide)
  obtain ⟨t, t1, t2⟩ := ix_in (L := [.tup [.int a, .int b], .lst [.int a, .int b], .tup [.int a, .int b, .int 1], .tup [.int a], .tup [.int (a.fdiv 10 * 7), .int (b.fdiv 10 * 7 + 7)], .tup [.int a, .int (0 - b)], .tup [.int a, .int 0],
    .tup [.bl true, .int 1], .tup [.int a, .bl true], .non, .str "1/2", .int a, .tup [.str (toString a), .int b], .tup [.tup [.int a, .int b]], .dic, .tup [.int 0, .int 2], .tup []]) (i := c.fmod 17) r.1 r.2
  refine ⟨t, ?_, ?_⟩
  · clear f1 f2 ba bb hc c10 h t2 r
    unfold dThing dOf b__law_thing
    walk_at "ev"
  · have o : ∀ i : Int, i.natAbs < B → okI (.int i) := fun i hi => hi
    simp only [List.mem_cons, List.not_mem_nil, or_false] at t2
    rcases t2 with rfl | rfl | rfl | rfl | rfl | rfl | rfl | rfl | rfl | rfl | rfl | rfl | rfl | rfl | rfl | rfl | rfl
    · exact ⟨ha, hb⟩
    · trivial
    · trivial
    · trivial
    · exact ⟨o _ (by omega), o _ (by omega)⟩
    · exact ⟨ha, o _ (by omega)⟩
    · exact ⟨ha, o _ (num_B (n := 0) (by decide))⟩
    · exact ⟨trivial, o _ (num_B (n := 1) (by decide))⟩
    · exact ⟨ha, trivial⟩
    · trivial
    · trivial
    · trivial
    · exact ⟨trivial, hb⟩
    · trivial
    · trivial
    · exact ⟨o _ (num_B (n := 0) (by decide)), o _ (num_B (n := 2) (by decide))⟩
    · trivial
theorem fr_norm {a b : Int} (hb : 0 < b) (ba : a.natAbs < 10 ^ 60) (bb : b.natAbs < 10 ^ 60) : ∃ x y, frT a b = .tup [.int x, .int y] ∧ Fr x y := by
  obtain ⟨x, y, hx, hy, hc, hg⟩ := split (a := a) (b := b) (by omega)
  have n1 := fdiv_le (Int.gcd_dvd_left a b) hg
  have n2 := fdiv_le (Int.gcd_dvd_right a b) hg
  have := C_big
  refine ⟨_, _, frT_pos hb, ?_, ?_, by omega, by omega⟩
  · rw [fdiv_of hy hg]
    have gp : 0 < ((Int.gcd a b : Nat) : Int) := by omega
    rw [hy, Int.mul_comm] at hb
    exact Int.pos_of_mul_pos_left hb gp
  · rw [fdiv_of hx hg, fdiv_of hy hg]
    exact hc
noncomputable def lawBody : FS := (fSeq (fSet 2 (fCall dBig (fCons (fCall mCell (fCons (fVar 0) (fCons (fVar 1) fNil))) fNil)))
    (fSeq (fSet 3 (fCall dBig (fCons (fCall mCell (fCons (fVar 0) (fCons (fOp gAdd (fVar 1) (fC (.int 1))) fNil))) fNil)))
    (fSeq (fSet 4 (fOp gIx (fVar 3) (fC (.int 1))))
    (fSeq (fIfS (fTB (fOp gEq (fOp gMod (fCall mMix (fCons (fCall mCell (fCons (fVar 0) (fCons (fVar 1) fNil))) (fCons (fC (.int 9)) fNil))) (fC (.int 2))) (fC (.int 0)))) (fSet 4 (fOp gSub (fC (.int 0)) (fVar 4))) fNext)
    (fSeq (fIfS (fNot (fTru (fCall (dSame 2) (fCons (fCall mFrac (fCons (fOp gIx (fVar 2) (fC (.int 0))) (fCons (fVar 4) fNil))) (fCons (fCall mFrac (fCons (fOp gIx (fVar 2) (fC (.int 0))) (fCons (fVar 4) fNil))) fNil))))) (fRet (fC (.bl false))) fNext)
    (fSeq (fSet 5 (fCall mFrac (fCons (fOp gIx (fVar 2) (fC (.int 0))) (fCons (fOp gIx (fVar 2) (fC (.int 1))) fNil))))
    (fSeq (fSet 6 (fCall mFrac (fCons (fOp gIx (fVar 3) (fC (.int 0))) (fCons (fOp gIx (fVar 3) (fC (.int 1))) fNil))))
    (fSeq (fIfS (fOr (fNot (fTru (fCall mRi (fCons (fVar 5) (fCons (fVar 6) fNil))))) (fOr (fNot (fTru (fCall mRi (fCons (fVar 5) (fCons (fVar 5) fNil))))) (fNot (fTru (fCall mRi (fCons (fVar 6) (fCons (fVar 5) fNil))))))) (fRet (fC (.bl false))) fNext)
    (fFor (fiRng1 (fCons (fC (.int 2)) fNil)) (gnName 7) (fIfS (fNot (fTru (fCall mKinds (fCons (fCall dThing (fCons (fCall mMix (fCons (fCall mCell (fCons (fVar 0) (fCons (fOp gAdd (fVar 1) (fVar 7)) fNil))) (fCons (fC (.int 10)) fNil))) (fCons (fOp gIx (fLst (fCons (fVar 5) (fCons (fVar 6) fNil))) (fVar 7)) fNil))) fNil)))) (fRet (fC (.bl false))) fNext))))))))))
set_option maxHeartbeats 4000000 in
theorem law_turn (ns : List Int) (k : Int) (h0 : 0 ≤ k) (h1 : k < 1000) (x2 x3 x4 x5 x6 x7 : Option Sl) : ∃ y2 y3 y4 y5 y6 y7, lawBody [some (.sh (.scr (ns.map T.int))), some (.sh (.int k)), x2, x3, x4, x5, x6, x7] = some (.nx [some (.sh (.scr (ns.map T.int))), some (.sh (.int k)), y2, y3, y4, y5, y6, y7]) := by
  have c0 := mCell_eq (ns := ns) h0 (show k < 1000000 by omega)
  have c1 := mCell_eq (ns := ns) (show 0 ≤ k + 1 by omega) (show k + 1 < 1000000 by omega)
  have c2 := mCell_eq (ns := ns) (show 0 ≤ k + 0 by omega) (show k + 0 < 1000000 by omega)
  generalize cellF ns k = v0 at *
  generalize cellF ns (k + 1) = v1 at *
  generalize cellF ns (k + 0) = v2 at *
  obtain ⟨a1, b1, g1, ba1, p1, bb1⟩ := ev_big v0
  obtain ⟨a2, b2, g2, ba2, p2, bb2⟩ := ev_big v1
  obtain ⟨s1, t1, e1, f1⟩ := fr_norm p1 ba1 bb1
  obtain ⟨s2, t2, e2, f2⟩ := fr_norm p2 ba2 bb2
  have cc := C_big
  have m9 := mMix_eq (c := v0) (k := 9) (num_B (n := 9) (by decide))
  have m10 := mMix_eq (c := v2) (k := 10) (num_B (n := 10) (by decide))
  have m11 := mMix_eq (c := v1) (k := 10) (num_B (n := 10) (by decide))
  generalize mixF v0 9 = w9 at *
  generalize mixF v2 10 = w10 at *
  generalize mixF v1 10 = w11 at *
  obtain ⟨u1, th1, ok1⟩ := ev_thing w10 f1
  obtain ⟨u2, th2, ok2⟩ := ev_thing w11 f2
  have kd1 := mKinds_eq ok1
  have kd2 := mKinds_eq ok2
  have r12 : mRi _ = _ := mTwo_eq f1 f2 rfl
  have r11 : mRi _ = _ := mTwo_eq f1 f1 rfl
  have r21 : mRi _ = _ := mTwo_eq f2 f1 rfl
  have q1 := mFrac_eq (ltB (Nat.lt_trans ba1 cc)) (ltB (Nat.lt_trans bb1 cc)) (show b1 ≠ 0 by omega)
  have q2 := mFrac_eq (ltB (Nat.lt_trans ba2 cc)) (ltB (Nat.lt_trans bb2 cc)) (show b2 ≠ 0 by omega)
  rw [e1] at q1
  rw [e2] at q2
  have rg : ∀ τ, fiRng1 (fCons (fC (.int 2)) fNil) τ = some ([.int 0, .int 1], τ) := fun τ => rfl
  have n2 : ¬ (2 : Int) = 0 := by decide
  by_cases hs : w9.fmod 2 = 0
  · have q3 := mFrac_eq (ltB (Nat.lt_trans ba1 cc)) (show (0 - b2).natAbs < B from by have := CB; omega) (show 0 - b2 ≠ 0 by omega)
    have s3 := same_frT a1 (0 - b2)
    refine ⟨some (.sh (.lst [.int a1, .int b1])), some (.sh (.lst [.int a2, .int b2])), some (.sh (.int (0 - b2))), some (.sh (.tup [.int s1, .int t1])), some (.sh (.tup [.int s2, .int t2])), some (.sh (.int 1)), ?_⟩
    clear e1 e2 f1 f2 ok1 ok2 cc ba1 ba2 p1 p2 bb1 bb2 h0 h1
    unfold lawBody
    walk_at "ev"
  · have q3 := mFrac_eq (ltB (Nat.lt_trans ba1 cc)) (ltB (Nat.lt_trans bb2 cc)) (show b2 ≠ 0 by omega)
    have s3 := same_frT a1 b2
    refine ⟨some (.sh (.lst [.int a1, .int b1])), some (.sh (.lst [.int a2, .int b2])), some (.sh (.int b2)), some (.sh (.tup [.int s1, .int t1])), some (.sh (.tup [.int s2, .int t2])), some (.sh (.int 1)), ?_⟩
    clear e1 e2 f1 f2 ok1 ok2 cc ba1 ba2 p1 p2 bb1 bb2 h0 h1
    unfold lawBody
    walk_at "ev"
theorem law_loop (ns : List Int) : ∀ (n : Nat) (lo : Int) (x1 x2 x3 x4 x5 x6 x7 : Option Sl), 0 ≤ lo → lo + 2 * n ≤ 1000 → ∃ y1 y2 y3 y4 y5 y6 y7, loopT (gnName 1) lawBody (stepsT lo 2 n) [some (.sh (.scr (ns.map T.int))), x1, x2, x3, x4, x5, x6, x7] = some (.nx [some (.sh (.scr (ns.map T.int))), y1, y2, y3, y4, y5, y6, y7])
  | 0, lo, x1, x2, x3, x4, x5, x6, x7, _, _ => ⟨x1, x2, x3, x4, x5, x6, x7, rfl⟩
  | n + 1, lo, x1, x2, x3, x4, x5, x6, x7, h0, h1 => by
    obtain ⟨y2, y3, y4, y5, y6, y7, e⟩ := law_turn ns lo h0 (by omega) x2 x3 x4 x5 x6 x7
    obtain ⟨z1, z2, z3, z4, z5, z6, z7, e'⟩ := law_loop ns n (lo + 2) (some (.sh (.int lo))) y2 y3 y4 y5 y6 y7 (by omega) (by omega)
    refine ⟨z1, z2, z3, z4, z5, z6, z7, ?_⟩
    clear h0 h1
    simp only [stepsT]
    walk_at "ev"
theorem rng_le {e : Int} (h0 : 0 ≤ e) (h1 : e ≤ 62) : (Builtin.Range.rangeSize 0 e 2).toNat ≤ 31 := by
  unfold Builtin.Range.rangeSize
  rw [if_pos (by decide)]
  split
  · omega
  · decide
theorem law_true (ns : List Int) (hl : ns.length ≤ 63) : dOf 8 1 (b_law mCell dBig mMix mFrac mFrac (dSame 2) mRi dThing mKinds mIsFr mWhole) [.scr (ns.map T.int)] = some (.bl true) := by
  have hm : ∃ e : Int, 0 ≤ e ∧ e ≤ 62 ∧ dMax [.int 4, .int (if ((ns.map T.int).length : Int) < 62 then ((ns.map T.int).length : Int) else 62)] = some (.int e) := by
    refine ⟨_, ?_, ?_, rfl⟩
    · split <;> split <;> omega
    · split <;> split <;> omega
  obtain ⟨e, h0, h1, em⟩ := hm
  have hr : ∀ τ : TEnv, (if smallR 0 e 2 then some (stepsT 0 2 (Builtin.Range.rangeSize 0 e 2).toNat, τ) else none) = some (stepsT 0 2 (Builtin.Range.rangeSize 0 e 2).toNat, τ) := fun τ => if_pos ⟨by decide, by omega, by decide⟩
  have hn := rng_le h0 h1
  obtain ⟨y1, y2, y3, y4, y5, y6, y7, el⟩ := law_loop ns (Builtin.Range.rangeSize 0 e 2).toNat 0 none none none none none none none (by decide) (by omega)
  have em' : dMax [.int 4, .int (if ((ns.length : Nat) : Int) < 62 then ((ns.length : Nat) : Int) else 62)] = some (.int e) := by rw [List.length_map] at em; exact em
  have k1 := mIsFr_eq (t := .tup [.int 0, .int 1]) ⟨num_B (n := 0) (by decide), num_B (n := 1) (by decide)⟩
  have k2 := mWhole_eq (t := .int (0 - 5)) rfl
  have i1 : isFr (.tup [.int 0, .int 1]) = true := by decide
  have i2 : isWh (.int (0 - 5)) = true := rfl
  have bt : (true == true) = true := rfl
  have eb : b_law mCell dBig mMix mFrac mFrac (dSame 2) mRi dThing mKinds mIsFr mWhole = fSeq (fFor (fiRng3 (fCons (fC (.int 0)) (fCons (fCall dMax (fCons (fC (.int 4)) (fCons (fCall dMin (fCons (fC (.int 62)) (fCons (fCall dLen (fCons (fVar 0) fNil)) fNil))) fNil))) (fCons (fC (.int 2)) fNil)))) (gnName 1) lawBody)
    (fRet (fAndV (fOp gIs (fCall mIsFr (fCons (fTup (fCons (fC (.int 0)) (fCons (fC (.int 1)) fNil))) fNil)) (fC (.bl true))) (fOp gIs (fCall mWhole (fCons (fOp gSub (fC (.int 0)) (fC (.int 5))) fNil)) (fC (.bl true))))) := rfl
  rw [eb]
  have ef : ∀ τ : TEnv, τ[0]? = some (some (.sh (.scr (ns.map T.int)))) → fiRng3 (fCons (fC (.int 0)) (fCons (fCall dMax (fCons (fC (.int 4)) (fCons (fCall dMin (fCons (fC (.int 62)) (fCons (fCall dLen (fCons (fVar 0) fNil)) fNil))) fNil))) (fCons (fC (.int 2)) fNil))) τ = some (stepsT 0 2 (Builtin.Range.rangeSize 0 e 2).toNat, τ) := fun τ ht => by
    clear el k1 k2 i1 i2 eb hn h0 h1 bt hl
    have ev : fVar 0 τ = some (.scr (ns.map T.int), τ) := by unfold fVar; rw [ht]
    have ed : ∀ i j : Int, dMin [.int i, .int j] = some (.int (if j < i then j else i)) := fun i j => rfl
    unfold fiRng3
    simp only [fCons, fC, fCall, fNil, ev, ed, em, dLen, Option.bind_some]
    exact hr τ
  have e0 := ef [some (.sh (.scr (ns.map T.int))), none, none, none, none, none, none, none] rfl
  clear ef hr hn em em' h0 h1 hl eb
  unfold dOf
  walk_at "ev"
end My

set_option Elab.async false
set_option linter.all false
set_option maxRecDepth 100000
namespace My
open PySem PySem.Spec PyProof.Rows L2 TM
noncomputable abbrev dLaw : List T → Option T := (dOf 8 1 (b_law mCell dBig mMix mFrac mFrac (dSame 2) mRi dThing mKinds mIsFr mWhole))
set_option maxHeartbeats 0 in
theorem all_mk {l : PySem.W.OpenLaw} {w : World} {K : PySem.W.Frag} {h : Heap} {mg : Str → Option Value} {fa : Addr} (X : K.In h) (G : h.Ns mainGlobals mg) (hfa : mg "law" = some (.ref fa))
    {f__law_cell : Addr} {od__law_cell an__law_cell : Option Addr} {sl__law_cell : Array (Option Value)} {oc__law_cell kV__law_cell dc__law_cell pm__law_cell cd__law_cell ct__law_cell : Value}
    {f__law_mix : Addr} {od__law_mix an__law_mix : Option Addr} {sl__law_mix : Array (Option Value)} {oc__law_mix kV__law_mix dc__law_mix pm__law_mix cd__law_mix ct__law_mix : Value}
    {f__law_big : Addr} {od__law_big an__law_big : Option Addr} {sl__law_big : Array (Option Value)} {oc__law_big kV__law_big dc__law_big pm__law_big cd__law_big ct__law_big : Value}
    {f_half : Addr} {od_half an_half : Option Addr} {sl_half : Array (Option Value)} {oc_half kV_half dc_half pm_half cd_half ct_half : Value}
    {f_common : Addr} {od_common an_common : Option Addr} {sl_common : Array (Option Value)} {oc_common kV_common dc_common pm_common cd_common ct_common : Value}
    {f_frac : Addr} {od_frac an_frac : Option Addr} {sl_frac : Array (Option Value)} {oc_frac kV_frac dc_frac pm_frac cd_frac ct_frac : Value}
    {f__law_frac : Addr} {od__law_frac an__law_frac : Option Addr} {sl__law_frac : Array (Option Value)} {oc__law_frac kV__law_frac dc__law_frac pm__law_frac cd__law_frac ct__law_frac : Value}
    {f__law_same : Addr} {od__law_same an__law_same : Option Addr} {sl__law_same : Array (Option Value)} {oc__law_same kV__law_same dc__law_same pm__law_same cd__law_same ct__law_same : Value}
    {f_plus : Addr} {od_plus an_plus : Option Addr} {sl_plus : Array (Option Value)} {oc_plus kV_plus dc_plus pm_plus cd_plus ct_plus : Value}
    {f_minus : Addr} {od_minus an_minus : Option Addr} {sl_minus : Array (Option Value)} {oc_minus kV_minus dc_minus pm_minus cd_minus ct_minus : Value}
    {f_times : Addr} {od_times an_times : Option Addr} {sl_times : Array (Option Value)} {oc_times kV_times dc_times pm_times cd_times ct_times : Value}
    {f_over : Addr} {od_over an_over : Option Addr} {sl_over : Array (Option Value)} {oc_over kV_over dc_over pm_over cd_over ct_over : Value}
    {f_below : Addr} {od_below an_below : Option Addr} {sl_below : Array (Option Value)} {oc_below kV_below dc_below pm_below cd_below ct_below : Value}
    {f__law_right : Addr} {od__law_right an__law_right : Option Addr} {sl__law_right : Array (Option Value)} {oc__law_right kV__law_right dc__law_right pm__law_right cd__law_right ct__law_right : Value}
    {f__law_thing : Addr} {od__law_thing an__law_thing : Option Addr} {sl__law_thing : Array (Option Value)} {oc__law_thing kV__law_thing dc__law_thing pm__law_thing cd__law_thing ct__law_thing : Value}
    {f_is_whole : Addr} {od_is_whole an_is_whole : Option Addr} {sl_is_whole : Array (Option Value)} {oc_is_whole kV_is_whole dc_is_whole pm_is_whole cd_is_whole ct_is_whole : Value}
    {f_is_fraction : Addr} {od_is_fraction an_is_fraction : Option Addr} {sl_is_fraction : Array (Option Value)} {oc_is_fraction kV_is_fraction dc_is_fraction pm_is_fraction cd_is_fraction ct_is_fraction : Value}
    {f__law_whole : Addr} {od__law_whole an__law_whole : Option Addr} {sl__law_whole : Array (Option Value)} {oc__law_whole kV__law_whole dc__law_whole pm__law_whole cd__law_whole ct__law_whole : Value}
    {f__law_fraction : Addr} {od__law_fraction an__law_fraction : Option Addr} {sl__law_fraction : Array (Option Value)} {oc__law_fraction kV__law_fraction dc__law_fraction pm__law_fraction cd__law_fraction ct__law_fraction : Value}
    {f__law_kinds_right : Addr} {od__law_kinds_right an__law_kinds_right : Option Addr} {sl__law_kinds_right : Array (Option Value)} {oc__law_kinds_right kV__law_kinds_right dc__law_kinds_right pm__law_kinds_right cd__law_kinds_right ct__law_kinds_right : Value}
    {f_law : Addr} {od_law an_law : Option Addr} {sl_law : Array (Option Value)} {oc_law kV_law dc_law pm_law cd_law ct_law : Value}
    {t_SHORT : Tok}
    {t_SHORT_QUOTIENT : Tok}
    (a__law_cell : PySem.W.nsIn K mainGlobals "_law_cell" = some (some (.ref f__law_cell)))
    (l__law_cell : K.lookup f__law_cell = some ⟨oc__law_cell, od__law_cell, .func (PySem.W.fnOf "_law_cell" "_law_cell" (defArgs s__law_cell) (defBody s__law_cell) (defScope s__law_cell) .none kV__law_cell dc__law_cell pm__law_cell an__law_cell cd__law_cell ct__law_cell), sl__law_cell⟩)
    (c__law_cell : PySem.W.codeIn K cd__law_cell "_law_cell" = true)
    (k__law_cell : PySem.W.keepIn K (.ref f__law_cell) = true)
    (a__law_mix : PySem.W.nsIn K mainGlobals "_law_mix" = some (some (.ref f__law_mix)))
    (l__law_mix : K.lookup f__law_mix = some ⟨oc__law_mix, od__law_mix, .func (PySem.W.fnOf "_law_mix" "_law_mix" (defArgs s__law_mix) (defBody s__law_mix) (defScope s__law_mix) .none kV__law_mix dc__law_mix pm__law_mix an__law_mix cd__law_mix ct__law_mix), sl__law_mix⟩)
    (c__law_mix : PySem.W.codeIn K cd__law_mix "_law_mix" = true)
    (k__law_mix : PySem.W.keepIn K (.ref f__law_mix) = true)
    (a__law_big : PySem.W.nsIn K mainGlobals "_law_big" = some (some (.ref f__law_big)))
    (l__law_big : K.lookup f__law_big = some ⟨oc__law_big, od__law_big, .func (PySem.W.fnOf "_law_big" "_law_big" (defArgs s__law_big) (defBody s__law_big) (defScope s__law_big) .none kV__law_big dc__law_big pm__law_big an__law_big cd__law_big ct__law_big), sl__law_big⟩)
    (c__law_big : PySem.W.codeIn K cd__law_big "_law_big" = true)
    (k__law_big : PySem.W.keepIn K (.ref f__law_big) = true)
    (a_half : PySem.W.nsIn K mainGlobals "half" = some (some (.ref f_half)))
    (l_half : K.lookup f_half = some ⟨oc_half, od_half, .func (PySem.W.fnOf "half" "half" (defArgs s_half) (defBody s_half) (defScope s_half) .none kV_half dc_half pm_half an_half cd_half ct_half), sl_half⟩)
    (c_half : PySem.W.codeIn K cd_half "half" = true)
    (k_half : PySem.W.keepIn K (.ref f_half) = true)
    (a_common : PySem.W.nsIn K mainGlobals "common" = some (some (.ref f_common)))
    (l_common : K.lookup f_common = some ⟨oc_common, od_common, .func (PySem.W.fnOf "common" "common" (defArgs s_common) (defBody s_common) (defScope s_common) .none kV_common dc_common pm_common an_common cd_common ct_common), sl_common⟩)
    (c_common : PySem.W.codeIn K cd_common "common" = true)
    (k_common : PySem.W.keepIn K (.ref f_common) = true)
    (a_frac : PySem.W.nsIn K mainGlobals "frac" = some (some (.ref f_frac)))
    (l_frac : K.lookup f_frac = some ⟨oc_frac, od_frac, .func (PySem.W.fnOf "frac" "frac" (defArgs s_frac) (defBody s_frac) (defScope s_frac) .none kV_frac dc_frac pm_frac an_frac cd_frac ct_frac), sl_frac⟩)
    (c_frac : PySem.W.codeIn K cd_frac "frac" = true)
    (k_frac : PySem.W.keepIn K (.ref f_frac) = true)
    (a__law_frac : PySem.W.nsIn K mainGlobals "_law_frac" = some (some (.ref f__law_frac)))
    (l__law_frac : K.lookup f__law_frac = some ⟨oc__law_frac, od__law_frac, .func (PySem.W.fnOf "_law_frac" "_law_frac" (defArgs s__law_frac) (defBody s__law_frac) (defScope s__law_frac) .none kV__law_frac dc__law_frac pm__law_frac an__law_frac cd__law_frac ct__law_frac), sl__law_frac⟩)
    (c__law_frac : PySem.W.codeIn K cd__law_frac "_law_frac" = true)
    (k__law_frac : PySem.W.keepIn K (.ref f__law_frac) = true)
    (a__law_same : PySem.W.nsIn K mainGlobals "_law_same" = some (some (.ref f__law_same)))
    (l__law_same : K.lookup f__law_same = some ⟨oc__law_same, od__law_same, .func (PySem.W.fnOf "_law_same" "_law_same" (defArgs s__law_same) (defBody s__law_same) (defScope s__law_same) .none kV__law_same dc__law_same pm__law_same an__law_same cd__law_same ct__law_same), sl__law_same⟩)
    (c__law_same : PySem.W.codeIn K cd__law_same "_law_same" = true)
    (k__law_same : PySem.W.keepIn K (.ref f__law_same) = true)
    (a_plus : PySem.W.nsIn K mainGlobals "plus" = some (some (.ref f_plus)))
    (l_plus : K.lookup f_plus = some ⟨oc_plus, od_plus, .func (PySem.W.fnOf "plus" "plus" (defArgs s_plus) (defBody s_plus) (defScope s_plus) .none kV_plus dc_plus pm_plus an_plus cd_plus ct_plus), sl_plus⟩)
    (c_plus : PySem.W.codeIn K cd_plus "plus" = true)
    (k_plus : PySem.W.keepIn K (.ref f_plus) = true)
    (a_minus : PySem.W.nsIn K mainGlobals "minus" = some (some (.ref f_minus)))
    (l_minus : K.lookup f_minus = some ⟨oc_minus, od_minus, .func (PySem.W.fnOf "minus" "minus" (defArgs s_minus) (defBody s_minus) (defScope s_minus) .none kV_minus dc_minus pm_minus an_minus cd_minus ct_minus), sl_minus⟩)
    (c_minus : PySem.W.codeIn K cd_minus "minus" = true)
    (k_minus : PySem.W.keepIn K (.ref f_minus) = true)
    (a_times : PySem.W.nsIn K mainGlobals "times" = some (some (.ref f_times)))
    (l_times : K.lookup f_times = some ⟨oc_times, od_times, .func (PySem.W.fnOf "times" "times" (defArgs s_times) (defBody s_times) (defScope s_times) .none kV_times dc_times pm_times an_times cd_times ct_times), sl_times⟩)
    (c_times : PySem.W.codeIn K cd_times "times" = true)
    (k_times : PySem.W.keepIn K (.ref f_times) = true)
    (a_over : PySem.W.nsIn K mainGlobals "over" = some (some (.ref f_over)))
    (l_over : K.lookup f_over = some ⟨oc_over, od_over, .func (PySem.W.fnOf "over" "over" (defArgs s_over) (defBody s_over) (defScope s_over) .none kV_over dc_over pm_over an_over cd_over ct_over), sl_over⟩)
    (c_over : PySem.W.codeIn K cd_over "over" = true)
    (k_over : PySem.W.keepIn K (.ref f_over) = true)
    (a_below : PySem.W.nsIn K mainGlobals "below" = some (some (.ref f_below)))
    (l_below : K.lookup f_below = some ⟨oc_below, od_below, .func (PySem.W.fnOf "below" "below" (defArgs s_below) (defBody s_below) (defScope s_below) .none kV_below dc_below pm_below an_below cd_below ct_below), sl_below⟩)
    (c_below : PySem.W.codeIn K cd_below "below" = true)
    (k_below : PySem.W.keepIn K (.ref f_below) = true)
    (a__law_right : PySem.W.nsIn K mainGlobals "_law_right" = some (some (.ref f__law_right)))
    (l__law_right : K.lookup f__law_right = some ⟨oc__law_right, od__law_right, .func (PySem.W.fnOf "_law_right" "_law_right" (defArgs s__law_right) (defBody s__law_right) (defScope s__law_right) .none kV__law_right dc__law_right pm__law_right an__law_right cd__law_right ct__law_right), sl__law_right⟩)
    (c__law_right : PySem.W.codeIn K cd__law_right "_law_right" = true)
    (k__law_right : PySem.W.keepIn K (.ref f__law_right) = true)
    (a__law_thing : PySem.W.nsIn K mainGlobals "_law_thing" = some (some (.ref f__law_thing)))
    (l__law_thing : K.lookup f__law_thing = some ⟨oc__law_thing, od__law_thing, .func (PySem.W.fnOf "_law_thing" "_law_thing" (defArgs s__law_thing) (defBody s__law_thing) (defScope s__law_thing) .none kV__law_thing dc__law_thing pm__law_thing an__law_thing cd__law_thing ct__law_thing), sl__law_thing⟩)
    (c__law_thing : PySem.W.codeIn K cd__law_thing "_law_thing" = true)
    (k__law_thing : PySem.W.keepIn K (.ref f__law_thing) = true)
    (a_is_whole : PySem.W.nsIn K mainGlobals "is_whole" = some (some (.ref f_is_whole)))
    (l_is_whole : K.lookup f_is_whole = some ⟨oc_is_whole, od_is_whole, .func (PySem.W.fnOf "is_whole" "is_whole" (defArgs s_is_whole) (defBody s_is_whole) (defScope s_is_whole) .none kV_is_whole dc_is_whole pm_is_whole an_is_whole cd_is_whole ct_is_whole), sl_is_whole⟩)
    (c_is_whole : PySem.W.codeIn K cd_is_whole "is_whole" = true)
    (k_is_whole : PySem.W.keepIn K (.ref f_is_whole) = true)
    (a_is_fraction : PySem.W.nsIn K mainGlobals "is_fraction" = some (some (.ref f_is_fraction)))
    (l_is_fraction : K.lookup f_is_fraction = some ⟨oc_is_fraction, od_is_fraction, .func (PySem.W.fnOf "is_fraction" "is_fraction" (defArgs s_is_fraction) (defBody s_is_fraction) (defScope s_is_fraction) .none kV_is_fraction dc_is_fraction pm_is_fraction an_is_fraction cd_is_fraction ct_is_fraction), sl_is_fraction⟩)
    (c_is_fraction : PySem.W.codeIn K cd_is_fraction "is_fraction" = true)
    (k_is_fraction : PySem.W.keepIn K (.ref f_is_fraction) = true)
    (a__law_whole : PySem.W.nsIn K mainGlobals "_law_whole" = some (some (.ref f__law_whole)))
    (l__law_whole : K.lookup f__law_whole = some ⟨oc__law_whole, od__law_whole, .func (PySem.W.fnOf "_law_whole" "_law_whole" (defArgs s__law_whole) (defBody s__law_whole) (defScope s__law_whole) .none kV__law_whole dc__law_whole pm__law_whole an__law_whole cd__law_whole ct__law_whole), sl__law_whole⟩)
    (c__law_whole : PySem.W.codeIn K cd__law_whole "_law_whole" = true)
    (k__law_whole : PySem.W.keepIn K (.ref f__law_whole) = true)
    (a__law_fraction : PySem.W.nsIn K mainGlobals "_law_fraction" = some (some (.ref f__law_fraction)))
    (l__law_fraction : K.lookup f__law_fraction = some ⟨oc__law_fraction, od__law_fraction, .func (PySem.W.fnOf "_law_fraction" "_law_fraction" (defArgs s__law_fraction) (defBody s__law_fraction) (defScope s__law_fraction) .none kV__law_fraction dc__law_fraction pm__law_fraction an__law_fraction cd__law_fraction ct__law_fraction), sl__law_fraction⟩)
    (c__law_fraction : PySem.W.codeIn K cd__law_fraction "_law_fraction" = true)
    (k__law_fraction : PySem.W.keepIn K (.ref f__law_fraction) = true)
    (a__law_kinds_right : PySem.W.nsIn K mainGlobals "_law_kinds_right" = some (some (.ref f__law_kinds_right)))
    (l__law_kinds_right : K.lookup f__law_kinds_right = some ⟨oc__law_kinds_right, od__law_kinds_right, .func (PySem.W.fnOf "_law_kinds_right" "_law_kinds_right" (defArgs s__law_kinds_right) (defBody s__law_kinds_right) (defScope s__law_kinds_right) .none kV__law_kinds_right dc__law_kinds_right pm__law_kinds_right an__law_kinds_right cd__law_kinds_right ct__law_kinds_right), sl__law_kinds_right⟩)
    (c__law_kinds_right : PySem.W.codeIn K cd__law_kinds_right "_law_kinds_right" = true)
    (k__law_kinds_right : PySem.W.keepIn K (.ref f__law_kinds_right) = true)
    (a_law : PySem.W.nsIn K mainGlobals "law" = some (some (.ref f_law)))
    (l_law : K.lookup f_law = some ⟨oc_law, od_law, .func (PySem.W.fnOf "law" "law" (defArgs s_law) (defBody s_law) (defScope s_law) .none kV_law dc_law pm_law an_law cd_law ct_law), sl_law⟩)
    (c_law : PySem.W.codeIn K cd_law "law" = true)
    (k_law : PySem.W.keepIn K (.ref f_law) = true)
    (z_len : PySem.W.nsIn K mainGlobals "len" = some none)
    (z_abs : PySem.W.nsIn K mainGlobals "abs" = some none)
    (z_list : PySem.W.nsIn K mainGlobals "list" = some none)
    (z_tuple : PySem.W.nsIn K mainGlobals "tuple" = some none)
    (z_isinstance : PySem.W.nsIn K mainGlobals "isinstance" = some none)
    (z_zip : PySem.W.nsIn K mainGlobals "zip" = some none)
    (z_str : PySem.W.nsIn K mainGlobals "str" = some none)
    (z_int : PySem.W.nsIn K mainGlobals "int" = some none)
    (z_bool : PySem.W.nsIn K mainGlobals "bool" = some none)
    (z_range : PySem.W.nsIn K mainGlobals "range" = some none)
    (z_min : PySem.W.nsIn K mainGlobals "min" = some none)
    (z_max : PySem.W.nsIn K mainGlobals "max" = some none)
    (v_SHORT : PySem.W.nsIn K mainGlobals "SHORT" = some (some (.int 4000 t_SHORT)))
    (v_SHORT_QUOTIENT : PySem.W.nsIn K mainGlobals "SHORT_QUOTIENT" = some (some (.int 8000 t_SHORT_QUOTIENT))) :
    ∃ fd : FuncData, (∀ (s : Shared) (v : Value), BindsTo s fd ⟨[v], []⟩ [("_law_script", v)]) ∧ ∀ base : Heap, K.In base → base.Ns mainGlobals mg → FnOk l.prog w K mg base CX0 5 fa fd ["_law_script"] (spT K 1 dLaw) := by
  have e := hfa.symm.trans (PySem.W.mg_of X G a_law)
  cases e
  have F__law_cell := fun_mk (st := s__law_cell) l__law_cell c__law_cell k__law_cell
  have b__law_cell := F__law_cell.binds (ps := ["_law_script", "_law_k"]) fun _ _ _ _ _ _ us hl => match us, hl with | [_, _], _ => rfl
  have m__law_cell := PySem.W.mg_of X G a__law_cell
  have F__law_mix := fun_mk (st := s__law_mix) l__law_mix c__law_mix k__law_mix
  have b__law_mix := F__law_mix.binds (ps := ["_law_cell_here", "_law_k"]) fun _ _ _ _ _ _ us hl => match us, hl with | [_, _], _ => rfl
  have m__law_mix := PySem.W.mg_of X G a__law_mix
  have F__law_big := fun_mk (st := s__law_big) l__law_big c__law_big k__law_big
  have b__law_big := F__law_big.binds (ps := ["_law_cell_here"]) fun _ _ _ _ _ _ us hl => match us, hl with | [_], _ => rfl
  have m__law_big := PySem.W.mg_of X G a__law_big
  have F_half := fun_mk (st := s_half) l_half c_half k_half
  have b_half := F_half.binds (ps := ["one", "other"]) fun _ _ _ _ _ _ us hl => match us, hl with | [_, _], _ => rfl
  have m_half := PySem.W.mg_of X G a_half
  have F_common := fun_mk (st := s_common) l_common c_common k_common
  have b_common := F_common.binds (ps := ["one", "other"]) fun _ _ _ _ _ _ us hl => match us, hl with | [_, _], _ => rfl
  have m_common := PySem.W.mg_of X G a_common
  have F_frac := fun_mk (st := s_frac) l_frac c_frac k_frac
  have b_frac := F_frac.binds (ps := ["top", "bottom"]) fun _ _ _ _ _ _ us hl => match us, hl with | [_, _], _ => rfl
  have m_frac := PySem.W.mg_of X G a_frac
  have F__law_frac := fun_mk (st := s__law_frac) l__law_frac c__law_frac k__law_frac
  have b__law_frac := F__law_frac.binds (ps := ["_law_top", "_law_bottom"]) fun _ _ _ _ _ _ us hl => match us, hl with | [_, _], _ => rfl
  have m__law_frac := PySem.W.mg_of X G a__law_frac
  have F__law_same := fun_mk (st := s__law_same) l__law_same c__law_same k__law_same
  have b__law_same := F__law_same.binds (ps := ["_law_found", "_law_due"]) fun _ _ _ _ _ _ us hl => match us, hl with | [_, _], _ => rfl
  have m__law_same := PySem.W.mg_of X G a__law_same
  have F_plus := fun_mk (st := s_plus) l_plus c_plus k_plus
  have b_plus := F_plus.binds (ps := ["one", "other"]) fun _ _ _ _ _ _ us hl => match us, hl with | [_, _], _ => rfl
  have m_plus := PySem.W.mg_of X G a_plus
  have F_minus := fun_mk (st := s_minus) l_minus c_minus k_minus
  have b_minus := F_minus.binds (ps := ["one", "other"]) fun _ _ _ _ _ _ us hl => match us, hl with | [_, _], _ => rfl
  have m_minus := PySem.W.mg_of X G a_minus
  have F_times := fun_mk (st := s_times) l_times c_times k_times
  have b_times := F_times.binds (ps := ["one", "other"]) fun _ _ _ _ _ _ us hl => match us, hl with | [_, _], _ => rfl
  have m_times := PySem.W.mg_of X G a_times
  have F_over := fun_mk (st := s_over) l_over c_over k_over
  have b_over := F_over.binds (ps := ["one", "other"]) fun _ _ _ _ _ _ us hl => match us, hl with | [_, _], _ => rfl
  have m_over := PySem.W.mg_of X G a_over
  have F_below := fun_mk (st := s_below) l_below c_below k_below
  have b_below := F_below.binds (ps := ["one", "other"]) fun _ _ _ _ _ _ us hl => match us, hl with | [_, _], _ => rfl
  have m_below := PySem.W.mg_of X G a_below
  have F__law_right := fun_mk (st := s__law_right) l__law_right c__law_right k__law_right
  have b__law_right := F__law_right.binds (ps := ["_law_one", "_law_other"]) fun _ _ _ _ _ _ us hl => match us, hl with | [_, _], _ => rfl
  have m__law_right := PySem.W.mg_of X G a__law_right
  have F__law_thing := fun_mk (st := s__law_thing) l__law_thing c__law_thing k__law_thing
  have b__law_thing := F__law_thing.binds (ps := ["_law_cell_here", "_law_one"]) fun _ _ _ _ _ _ us hl => match us, hl with | [_, _], _ => rfl
  have m__law_thing := PySem.W.mg_of X G a__law_thing
  have F_is_whole := fun_mk (st := s_is_whole) l_is_whole c_is_whole k_is_whole
  have b_is_whole := F_is_whole.binds (ps := ["thing"]) fun _ _ _ _ _ _ us hl => match us, hl with | [_], _ => rfl
  have m_is_whole := PySem.W.mg_of X G a_is_whole
  have F_is_fraction := fun_mk (st := s_is_fraction) l_is_fraction c_is_fraction k_is_fraction
  have b_is_fraction := F_is_fraction.binds (ps := ["thing"]) fun _ _ _ _ _ _ us hl => match us, hl with | [_], _ => rfl
  have m_is_fraction := PySem.W.mg_of X G a_is_fraction
  have F__law_whole := fun_mk (st := s__law_whole) l__law_whole c__law_whole k__law_whole
  have b__law_whole := F__law_whole.binds (ps := ["_law_thing_here"]) fun _ _ _ _ _ _ us hl => match us, hl with | [_], _ => rfl
  have m__law_whole := PySem.W.mg_of X G a__law_whole
  have F__law_fraction := fun_mk (st := s__law_fraction) l__law_fraction c__law_fraction k__law_fraction
  have b__law_fraction := F__law_fraction.binds (ps := ["_law_thing_here"]) fun _ _ _ _ _ _ us hl => match us, hl with | [_], _ => rfl
  have m__law_fraction := PySem.W.mg_of X G a__law_fraction
  have F__law_kinds_right := fun_mk (st := s__law_kinds_right) l__law_kinds_right c__law_kinds_right k__law_kinds_right
  have b__law_kinds_right := F__law_kinds_right.binds (ps := ["_law_thing_here"]) fun _ _ _ _ _ _ us hl => match us, hl with | [_], _ => rfl
  have m__law_kinds_right := PySem.W.mg_of X G a__law_kinds_right
  have F_law := fun_mk (st := s_law) l_law c_law k_law
  have b_law := F_law.binds (ps := ["_law_script"]) fun _ _ _ _ _ _ us hl => match us, hl with | [_], _ => rfl
  have m_law := PySem.W.mg_of X G a_law
  have m_len := PySem.W.mg_none_of X G z_len
  have m_abs := PySem.W.mg_none_of X G z_abs
  have m_list := PySem.W.mg_none_of X G z_list
  have m_tuple := PySem.W.mg_none_of X G z_tuple
  have m_isinstance := PySem.W.mg_none_of X G z_isinstance
  have m_zip := PySem.W.mg_none_of X G z_zip
  have m_str := PySem.W.mg_none_of X G z_str
  have m_int := PySem.W.mg_none_of X G z_int
  have m_bool := PySem.W.mg_none_of X G z_bool
  have m_range := PySem.W.mg_none_of X G z_range
  have m_min := PySem.W.mg_none_of X G z_min
  have m_max := PySem.W.mg_none_of X G z_max
  have g_SHORT := PySem.W.mg_of X G v_SHORT
  have g_SHORT_QUOTIENT := PySem.W.mg_of X G v_SHORT_QUOTIENT
  refine ⟨PySem.W.fnOf "law" "law" (defArgs s_law) (defBody s_law) (defScope s_law) .none kV_law dc_law pm_law an_law cd_law ct_law, fun s v => .of_eq rfl, fun base _ _ => ?_⟩
  have D__law_cell : Def l.prog w K mg base 1 "_law_cell" 2 (mCell) := (ok__law_cell (P := l.prog) (w := w) (base := base) (k := 0) F__law_cell b__law_cell m__law_cell  m_len).imp sp_cell
  have D__law_mix : Def l.prog w K mg base 1 "_law_mix" 2 (mMix) := (ok__law_mix (P := l.prog) (w := w) (base := base) (k := 0) F__law_mix b__law_mix m__law_mix  ).imp sp_mix
  have D__law_big : Def l.prog w K mg base 2 "_law_big" 1 (dBig) := ok__law_big (P := l.prog) (w := w) (base := base) (k := 1) F__law_big b__law_big m__law_big (D__law_mix.mono (by decide : 1 ≤ 1)) 
  have D_half : Def l.prog w K mg base 0 "half" 2 (fun _ => none) := Def.zero F_half b_half m_half
  have D_common : Def l.prog w K mg base 1 "common" 2 (mCommon) := (ok_common (P := l.prog) (w := w) (base := base) (k := 0) B F_common b_common m_common (D_half.mono (by decide : 0 ≤ 0)) m_abs g_SHORT).imp sp_common
  have D_frac : Def l.prog w K mg base 2 "frac" 2 (mFrac) := (ok_frac (P := l.prog) (w := w) (base := base) (k := 1) F_frac b_frac m_frac (D_common.mono (by decide : 1 ≤ 1)) g_SHORT_QUOTIENT).imp sp_frac
  have D__law_frac : Def l.prog w K mg base 1 "_law_frac" 2 (mFrac) := (ok__law_frac (P := l.prog) (w := w) (base := base) (k := 0) B F__law_frac b__law_frac m__law_frac  m_abs).imp sp_law_frac
  have D__law_same_0 : Def l.prog w K mg base 0 "_law_same" 2 (dSame 0) := Def.zero F__law_same b__law_same m__law_same
  have D__law_same_1 : Def l.prog w K mg base 1 "_law_same" 2 (dSame 1) := ok__law_same (k := 0) F__law_same b__law_same m__law_same D__law_same_0 m_list m_tuple m_isinstance m_len m_zip m_str m_int m_bool
  have D__law_same_2 : Def l.prog w K mg base 2 "_law_same" 2 (dSame 2) := ok__law_same (k := 1) F__law_same b__law_same m__law_same D__law_same_1 m_list m_tuple m_isinstance m_len m_zip m_str m_int m_bool
  have D__law_same := D__law_same_2
  have D_plus : Def l.prog w K mg base 2 "plus" 2 (mPl) := (ok_plus (P := l.prog) (w := w) (base := base) (k := 1) F_plus b_plus m_plus (D_common.mono (by decide : 1 ≤ 1)) ).imp sp_plus
  have D_minus : Def l.prog w K mg base 3 "minus" 2 (mMi) := (ok_minus (P := l.prog) (w := w) (base := base) (k := 2) F_minus b_minus m_minus (D_plus.mono (by decide : 2 ≤ 2)) ).imp sp_minus
  have D_times : Def l.prog w K mg base 2 "times" 2 (mTi) := (ok_times (P := l.prog) (w := w) (base := base) (k := 1) F_times b_times m_times (D_common.mono (by decide : 1 ≤ 1)) ).imp sp_times
  have D_over : Def l.prog w K mg base 3 "over" 2 (mOv) := (ok_over (P := l.prog) (w := w) (base := base) (k := 2) F_over b_over m_over (D_frac.mono (by decide : 2 ≤ 2)) (D_times.mono (by decide : 2 ≤ 2)) ).imp sp_over
  have D_below : Def l.prog w K mg base 1 "below" 2 (mBe) := (ok_below (P := l.prog) (w := w) (base := base) (k := 0) F_below b_below m_below  ).imp sp_below
  have D__law_right : Def l.prog w K mg base 4 "_law_right" 2 (mRi) := (ok__law_right (P := l.prog) (w := w) (base := base) (k := 3) F__law_right b__law_right m__law_right (D_plus.mono (by decide : 2 ≤ 3)) (D__law_frac.mono (by decide : 1 ≤ 3)) (D__law_same.mono (by decide : 2 ≤ 3)) (D_minus.mono (by decide : 3 ≤ 3)) (D_times.mono (by decide : 2 ≤ 3)) (D_over.mono (by decide : 3 ≤ 3)) (D_below.mono (by decide : 1 ≤ 3)) m_bool m_isinstance).imp sp_right
  have D__law_thing : Def l.prog w K mg base 1 "_law_thing" 2 (dThing) := ok__law_thing (P := l.prog) (w := w) (base := base) (k := 0) F__law_thing b__law_thing m__law_thing  m_list m_str
  have D_is_whole : Def l.prog w K mg base 1 "is_whole" 1 (mWhole) := (ok_is_whole (P := l.prog) (w := w) (base := base) (k := 0) F_is_whole b_is_whole m_is_whole  m_int m_isinstance m_bool).imp sp_is_whole
  have D_is_fraction : Def l.prog w K mg base 2 "is_fraction" 1 (mIsFr) := (ok_is_fraction (P := l.prog) (w := w) (base := base) (k := 1) F_is_fraction b_is_fraction m_is_fraction (D_is_whole.mono (by decide : 1 ≤ 1)) (D_common.mono (by decide : 1 ≤ 1)) m_tuple m_isinstance m_len).imp sp_is_fraction
  have D__law_whole : Def l.prog w K mg base 1 "_law_whole" 1 (mWhole) := (ok__law_whole (P := l.prog) (w := w) (base := base) (k := 0) F__law_whole b__law_whole m__law_whole  m_int m_isinstance m_bool).imp sp_law_whole
  have D__law_fraction : Def l.prog w K mg base 2 "_law_fraction" 1 (mIsFr) := (ok__law_fraction (P := l.prog) (w := w) (base := base) (k := 1) F__law_fraction b__law_fraction m__law_fraction (D__law_whole.mono (by decide : 1 ≤ 1)) (D__law_frac.mono (by decide : 1 ≤ 1)) m_tuple m_isinstance m_len).imp sp_law_fraction
  have D__law_kinds_right : Def l.prog w K mg base 3 "_law_kinds_right" 1 (mKinds) := (ok__law_kinds_right (P := l.prog) (w := w) (base := base) (k := 2) F__law_kinds_right b__law_kinds_right m__law_kinds_right (D_is_fraction.mono (by decide : 2 ≤ 2)) (D_is_whole.mono (by decide : 1 ≤ 2)) (D__law_fraction.mono (by decide : 2 ≤ 2)) (D__law_whole.mono (by decide : 1 ≤ 2)) m_bool m_isinstance).imp sp_kinds
  exact fn_law (P := l.prog) (w := w) (base := base) (k := 4) F_law (D__law_cell.mono (by decide : 1 ≤ 4)) (D__law_big.mono (by decide : 2 ≤ 4)) (D__law_mix.mono (by decide : 1 ≤ 4)) (D_frac.mono (by decide : 2 ≤ 4)) (D__law_frac.mono (by decide : 1 ≤ 4)) (D__law_same.mono (by decide : 2 ≤ 4)) (D__law_right.mono (by decide : 4 ≤ 4)) (D__law_thing.mono (by decide : 1 ≤ 4)) (D__law_kinds_right.mono (by decide : 3 ≤ 4)) (D_is_fraction.mono (by decide : 2 ≤ 4)) (D_is_whole.mono (by decide : 1 ≤ 4)) m_range m_len m_min m_max
theorem walk {l : PySem.W.OpenLaw} {q : Program} {loose : List Str} {XP : (Str → Option Value) → Heap → Prop} {YP : World → Heap → Prop} {d : DefRec} {K : Params → PySem.W.Frag} (hn : l.most = some 63) (hdf : d.params.defaults = [])
    (hY : ∀ (w : World) (h : Heap), YP w h → (K w.params).In h)
    (F : ∀ (w : World) (mg : Str → Option Value) (fa : Addr) (h : Heap), (K w.params).In h → h.Ns mainGlobals mg → mg d.name = some (.ref fa) →
      ∃ fd : FuncData, (∀ (s : Shared) (u : Value), BindsTo s fd ⟨[u], []⟩ [("_law_script", u)]) ∧ ∀ base : Heap, (K w.params).In base → base.Ns mainGlobals mg → FnOk l.prog w (K w.params) mg base CX0 5 fa fd ["_law_script"] (spT (K w.params) 1 dLaw)) :
    PySem.W.WalkO q loose XP YP l.row.toRowW d [] (fun f vs => PySem.call f vs) :=
  L2.walk_of (n := 63) (k := 5) (x := "_law_script") (CX := fun _ => CX0) (sp := fun w => spT (K w.params) 1 dLaw) hn (by decide) hdf ⟨rfl, by decide, by decide⟩ hY F
    (fun w H a ns hl _ hS => ⟨rfl, H, [.scr (ns.map T.int)], .bl true, Same.refl H, ⟨_, [], rfl, ⟨a, ns.map V.int, rfl, hS, reps_ints ns⟩, rfl⟩, law_true ns hl, fun _ _ v _ r => r⟩) fun _ _ _ _ _ z => z
end My
open PySem PySem.W PyProof.Rows
set_option maxRecDepth 100000 in
set_option maxHeartbeats 0 in
theorem PySem.Challenge.cw_echohouse_k01_fractions_reckoned_holds : PySem.Challenge.rw_echohouse_k01_fractions_reckoned.Holds := by
  w_on; o_law; k_head; (case hw => w_witness2)
  k_fill
  refine My.walk (l := PySem.Challenge.rw_echohouse_k01_fractions_reckoned) rfl rfl (fun w h Y => PySem.W.kIn_of Y) ?F
  case F =>
    intro w mg fa h KX G hmg
    refine' My.all_mk KX G hmg ?a__law_cell ?l__law_cell ?c__law_cell ?k__law_cell ?a__law_mix ?l__law_mix ?c__law_mix ?k__law_mix ?a__law_big ?l__law_big ?c__law_big ?k__law_big ?a_half ?l_half ?c_half ?k_half ?a_common ?l_common ?c_common ?k_common ?a_frac ?l_frac ?c_frac ?k_frac ?a__law_frac ?l__law_frac ?c__law_frac ?k__law_frac ?a__law_same ?l__law_same ?c__law_same ?k__law_same ?a_plus ?l_plus ?c_plus ?k_plus ?a_minus ?l_minus ?c_minus ?k_minus ?a_times ?l_times ?c_times ?k_times ?a_over ?l_over ?c_over ?k_over ?a_below ?l_below ?c_below ?k_below ?a__law_right ?l__law_right ?c__law_right ?k__law_right ?a__law_thing ?l__law_thing ?c__law_thing ?k__law_thing ?a_is_whole ?l_is_whole ?c_is_whole ?k_is_whole ?a_is_fraction ?l_is_fraction ?c_is_fraction ?k_is_fraction ?a__law_whole ?l__law_whole ?c__law_whole ?k__law_whole ?a__law_fraction ?l__law_fraction ?c__law_fraction ?k__law_fraction ?a__law_kinds_right ?l__law_kinds_right ?c__law_kinds_right ?k__law_kinds_right ?a_law ?l_law ?c_law ?k_law ?z_len ?z_abs ?z_list ?z_tuple ?z_isinstance ?z_zip ?z_str ?z_int ?z_bool ?z_range ?z_min ?z_max ?v_SHORT ?v_SHORT_QUOTIENT
    (case a__law_cell => k_is); (case l__law_cell => k_is); (case c__law_cell => k_is); (case k__law_cell => k_is)
    (case a__law_mix => k_is); (case l__law_mix => k_is); (case c__law_mix => k_is); (case k__law_mix => k_is)
    (case a__law_big => k_is); (case l__law_big => k_is); (case c__law_big => k_is); (case k__law_big => k_is)
    (case a_half => k_is); (case l_half => k_is); (case c_half => k_is); (case k_half => k_is)
    (case a_common => k_is); (case l_common => k_is); (case c_common => k_is); (case k_common => k_is)
    (case a_frac => k_is); (case l_frac => k_is); (case c_frac => k_is); (case k_frac => k_is)
    (case a__law_frac => k_is); (case l__law_frac => k_is); (case c__law_frac => k_is); (case k__law_frac => k_is)
    (case a__law_same => k_is); (case l__law_same => k_is); (case c__law_same => k_is); (case k__law_same => k_is)
    (case a_plus => k_is); (case l_plus => k_is); (case c_plus => k_is); (case k_plus => k_is)
    (case a_minus => k_is); (case l_minus => k_is); (case c_minus => k_is); (case k_minus => k_is)
    (case a_times => k_is); (case l_times => k_is); (case c_times => k_is); (case k_times => k_is)
    (case a_over => k_is); (case l_over => k_is); (case c_over => k_is); (case k_over => k_is)
    (case a_below => k_is); (case l_below => k_is); (case c_below => k_is); (case k_below => k_is)
    (case a__law_right => k_is); (case l__law_right => k_is); (case c__law_right => k_is); (case k__law_right => k_is)
    (case a__law_thing => k_is); (case l__law_thing => k_is); (case c__law_thing => k_is); (case k__law_thing => k_is)
    (case a_is_whole => k_is); (case l_is_whole => k_is); (case c_is_whole => k_is); (case k_is_whole => k_is)
    (case a_is_fraction => k_is); (case l_is_fraction => k_is); (case c_is_fraction => k_is); (case k_is_fraction => k_is)
    (case a__law_whole => k_is); (case l__law_whole => k_is); (case c__law_whole => k_is); (case k__law_whole => k_is)
    (case a__law_fraction => k_is); (case l__law_fraction => k_is); (case c__law_fraction => k_is); (case k__law_fraction => k_is)
    (case a__law_kinds_right => k_is); (case l__law_kinds_right => k_is); (case c__law_kinds_right => k_is); (case k__law_kinds_right => k_is)
    (case a_law => k_is); (case l_law => k_is); (case c_law => k_is); (case k_law => k_is)
    (case z_len => k_is)
    (case z_abs => k_is)
    (case z_list => k_is)
    (case z_tuple => k_is)
    (case z_isinstance => k_is)
    (case z_zip => k_is)
    (case z_str => k_is)
    (case z_int => k_is)
    (case z_bool => k_is)
    (case z_range => k_is)
    (case z_min => k_is)
    (case z_max => k_is)
    (case v_SHORT => k_is)
    (case v_SHORT_QUOTIENT => k_is)


