import PyProof.Rows.All
import Wide.All
import OpenK.AllK
import Wide.FinOn
import Lean
import PyProof.EqAt
import PyProof.EqKinds
import PyProof.TupleCall
import PySem.Challenge.RW_echohouse_k05_rows_of_any_thing
set_option Elab.async false
set_option linter.all false
set_option maxRecDepth 100000
/-! THE HAND LAYER, for ints, bools, texts, own classes, LISTS and tuples (index, slices, in, append, pop ..), calls, loops. Paste it whole ahead of your own text; what your proof does not reach may be deleted. -/
namespace L2
open PySem PySem.Spec PyProof.Rows

/-- a key: an int or a str -/
abbrev Key := Sum Int Str
def keyIs : Key → Value → Bool
  | .inl k, v => Value.isInt k v
  | .inr x, v => Value.isStrOf x v
def keyH (w : World) : Key → Int
  | .inl k => hashInt k
  | .inr x => hashStr w x
theorem keyIs_shape : ∀ {k : Key} {v : Value}, keyIs k v = true → (∃ i t, k = Sum.inl i ∧ v = Value.int i t) ∨ (∃ x t, k = Sum.inr x ∧ v = Value.str x t)
  | .inl i, v, h => by
    obtain ⟨t, e⟩ := Value.isInt_shape (k := i) (v := v) h
    exact .inl ⟨i, t, rfl, e⟩
  | .inr x, v, h => by
    obtain ⟨t, e⟩ := Value.isStrOf_shape (x := x) (v := v) h
    exact .inr ⟨x, t, rfl, e⟩
theorem keyIs_int (i : Int) (t : Tok) : keyIs (.inl i) (.int i t) = true := by simp [keyIs, Value.isInt]
theorem keyIs_str (x : Str) (t : Tok) : keyIs (.inr x) (.str x t) = true := by simp [keyIs, Value.isStrOf]
theorem key_ll (a b : Int) : decide ((Sum.inl a : Key) = Sum.inl b) = (a == b) := by
  by_cases e : a = b
  · subst e; simp
  · have h : ¬ (Sum.inl a : Key) = Sum.inl b := fun q => e (Sum.inl.inj q)
    rw [decide_eq_false h]
    exact (beq_eq_false_iff_ne.mpr e).symm
theorem key_rr (a b : Str) : decide ((Sum.inr a : Key) = Sum.inr b) = decide (a = b) := by
  by_cases e : a = b
  · subst e; simp
  · have h : ¬ (Sum.inr a : Key) = Sum.inr b := fun q => e (Sum.inr.inj q)
    rw [decide_eq_false h, decide_eq_false e]
theorem key_lr (a : Int) (b : Str) : decide ((Sum.inl a : Key) = Sum.inr b) = false := decide_eq_false (fun q => nomatch q)
theorem key_rl (a : Str) (b : Int) : decide ((Sum.inr a : Key) = Sum.inl b) = false := decide_eq_false (fun q => nomatch q)

def mixKind (prog : Program) (w : World) : PySem.KeyKind prog w Key where
  is := keyIs
  hash := keyH w
  inj := fun v a b ha hb => by
    rcases keyIs_shape ha with ⟨i, t, rfl, rfl⟩ | ⟨x, t, rfl, rfl⟩
    · rcases keyIs_shape hb with ⟨j, u, rfl, e⟩ | ⟨y, u, rfl, e⟩
      · injection e with e1 _; rw [e1]
      · exact nomatch e
    · rcases keyIs_shape hb with ⟨j, u, rfl, e⟩ | ⟨y, u, rfl, e⟩
      · exact nomatch e
      · injection e with e1 _; rw [e1]
  byValue := fun k v h => by
    rcases keyIs_shape h with ⟨i, t, rfl, rfl⟩ | ⟨x, t, rfl, rfl⟩ <;> rfl
  pyHash := fun hv h => by
    rcases keyIs_shape hv with ⟨i, t, rfl, rfl⟩ | ⟨x, t, rfl, rfl⟩
    · exact wpAny_pyHash_int h
    · exact wpAny_pyHash_str h
  eqBool := fun hu hv h => by
    rcases keyIs_shape hu with ⟨i, t, rfl, rfl⟩ | ⟨x, t, rfl, rfl⟩
    · rcases keyIs_shape hv with ⟨j, u, rfl, rfl⟩ | ⟨y, u, rfl, rfl⟩
      · rw [key_ll] at h; exact wpAny_eqBool_int h
      · rw [key_lr] at h; exact SeqAt.EqAt.int_str i t y u _ _ _ _ h
    · rcases keyIs_shape hv with ⟨j, u, rfl, rfl⟩ | ⟨y, u, rfl, rfl⟩
      · rw [key_rl] at h; exact SeqAt.EqAt.str_int x t j u _ _ _ _ h
      · rw [key_rr] at h; exact wpAny_eqBool_str h
  «strs» := fun k x t v h => by
    rcases keyIs_shape h with ⟨i, u, rfl, e⟩ | ⟨y, u, rfl, e⟩
    · exact nomatch e
    · injection e with e1 _
      subst e1
      cases v <;> rfl

theorem mixKind_is (prog : Program) (w : World) (k : Key) (v : Value) : (mixKind prog w).is k v = keyIs k v := rfl
theorem mixKind_int (prog : Program) (w : World) (i : Int) (t : Tok) : (mixKind prog w).is (.inl i) (.int i t) = true := keyIs_int i t
theorem mixKind_str (prog : Program) (w : World) (x : Str) (t : Tok) : (mixKind prog w).is (.inr x) (.str x t) = true := keyIs_str x t
end L2

namespace L2
open PySem PySem.Spec PyProof.Rows

/-- a value, without the heap -/
inductive V where
  | non | bl (b : Bool) | int (i : Int) | str (x : Str) | byt (b : Array UInt8) | flt (b : UInt64) | ref (a : Addr) | ty (n : String)
  deriving DecidableEq

def RelV : V → Value → Prop
  | .non, u => u = Value.none
  | .bl b, u => u = Value.bool b
  | .int i, u => ∃ t, u = Value.int i t
  | .str x, u => ∃ t, u = Value.str x t
  | .byt b, u => ∃ t, u = Value.bytes b t
  | .flt b, u => ∃ t, u = Value.float b t
  | .ref a, u => u = Value.ref a
  | .ty n, u => u = Value.type n

abbrev Vals : List V → List Value → Prop := Paired RelV
theorem Vals.length {xs : List V} {us : List Value} (r : Vals xs us) : xs.length = us.length := Paired.length r
theorem Vals.get : ∀ {xs : List V} {us : List Value} {i : Nat} {x : V}, Vals xs us → xs[i]? = some x → ∃ u, us[i]? = some u ∧ RelV x u
  | _, _, _, _, .nil, e => by simp at e
  | _, _, 0, _, .cons r _, e => by simp at e; subst e; exact ⟨_, rfl, r⟩
  | _, _, i + 1, x, .cons _ t, e => by
    obtain ⟨u, h1, h2⟩ := Vals.get (i := i) (x := x) t (by simpa using e)
    exact ⟨u, by simpa using h1, h2⟩
theorem Vals.set {x : V} {u : Value} (r : RelV x u) : ∀ {xs : List V} {us : List Value} (i : Nat), Vals xs us → Vals (xs.set i x) (us.set i u)
  | _, _, _, .nil => .nil
  | _, _, 0, .cons _ t => .cons r t
  | _, _, i + 1, .cons q t => .cons q (Vals.set r i t)
theorem Vals.append : ∀ {xs ys : List V} {us ws : List Value}, Vals xs us → Vals ys ws → Vals (xs ++ ys) (us ++ ws)
  | _, _, _, _, .nil, s => s
  | _, _, _, _, .cons r t, s => .cons r (Vals.append t s)
theorem Vals.take : ∀ {xs : List V} {us : List Value} (n : Nat), Vals xs us → Vals (xs.take n) (us.take n)
  | _, _, 0, _ => .nil
  | _, _, _ + 1, .nil => .nil
  | _, _, n + 1, .cons r t => .cons r (Vals.take n t)
theorem Vals.drop : ∀ {xs : List V} {us : List Value} (n : Nat), Vals xs us → Vals (xs.drop n) (us.drop n)
  | _, _, 0, r => r
  | _, _, _ + 1, .nil => .nil
  | _, _, n + 1, .cons _ t => Vals.drop n t
theorem Vals.none_of : ∀ {xs : List V} {us : List Value} {i : Nat}, Vals xs us → xs[i]? = none → us[i]? = none := fun {xs us i} r e => by
  have h1 := r.length
  have h2 : xs.length ≤ i := List.getElem?_eq_none_iff.mp e
  exact List.getElem?_eq_none_iff.mpr (by omega)

def RelO : Option V → Option Value → Prop
  | some v, some u => RelV v u
  | none, none => True
  | _, _ => False
def KV {κ : Type} : List (κ × V) → List (κ × Value) → Prop := Paired fun (p : κ × V) (q : κ × Value) => p.1 = q.1 ∧ RelV p.2 q.2

/-- a key of a dict (00_mix): an int or a text -/
def kV : Key → V
  | .inl i => .int i
  | .inr x => .str x

/-- what stands at a tracked address -/
inductive HO where
  /-- a list -/
  | lst (xs : List V)
  /-- a tuple (never changes) -/
  | tup (xs : List V)
  /-- a dict whose keys are ints and texts; one whose keys are tuples of ints and texts (the empty one is both) -/
  | dK (kvs : List (Key × V)) | dT (kvs : List (List Key × V))
  /-- a set of ints: its members, its size -/
  | set (S : Int → Bool) (n : Nat)
  /-- an instance of the class at C, its dict at dx, its attributes -/
  | ins (C dx : Addr) (fs : List (Str × V))
  /-- the dict of the instance at x -/
  | own (x : Addr)
  /-- the dict of an exception -/
  | xd (fs : List (Str × V))
  /-- a bound method, f of x -/
  | met (f x : Addr)
  /-- a range object lo, lo + 1, .. below hi -/
  | rng (lo hi : Int)
  /-- a thing that is known to the object (the script; a dict while a loop walks it): read, never written while it is so -/
  | frz (o : Obj) (u : HO)
  /-- a code object's table -/
  | tbl (ps : Array Value)
  /-- any other thing, by what is true of its one object (a def of one's own: SetO a S n := HO.ext fun h => ..) -/
  | ext (φ : Heap → Prop)

abbrev Hp := Addr → Option HO
def upd (H : Hp) (a : Addr) (o : HO) : Hp := fun b => if b = a then some o else H b
theorem upd_same {H : Hp} {a : Addr} {o : HO} : upd H a o a = some o := by unfold upd; rw [if_pos rfl]
theorem upd_ne {H : Hp} {a b : Addr} {o : HO} (h : b ≠ a) : upd H a o b = H b := by unfold upd; rw [if_neg h]
theorem upd_upd {H : Hp} {a : Addr} {o u : HO} : upd (upd H a o) a u = upd H a u := by
  funext b; unfold upd; split <;> rfl
/-- two objects of different content stand apart -/
theorem ne_of {H : Hp} {a b : Addr} {o u : HO} (h : H a = some o) (h' : H b = some u) (d : o ≠ u) : a ≠ b := by
  intro e; subst e; rw [h] at h'; exact d (Option.some.inj h')
theorem ne_of_none {H : Hp} {a b : Addr} {o : HO} (h : H a = some o) (h' : H b = none) : a ≠ b := by
  intro e; subst e; rw [h] at h'; cases h'

section
variable (P : Program) (w : World)
def ObjOk (H : Hp) (h : Heap) (a : Addr) : HO → Prop
  | .lst xs => xs.length ≤ sizeLine ∧ ∃ (its : List Value) (n : Nat), Vals xs its ∧ h.get? a = some { cls := .type "list", data := .seq its.toArray n }
  | .tup xs => xs.length ≤ sizeLine ∧ ∃ its : List Value, Vals xs its ∧ IsTup h a its.toArray
  | .dK kvs => kvs.length ≤ sizeLine ∧ (a == sysModules) = false ∧ ∃ vs, KV kvs vs ∧ h.DictOf (mixKind P w) a vs
  | .dT kvs => kvs.length ≤ sizeLine ∧ (a == sysModules) = false ∧ ∃ xs : List (List Key × Addr × Value),
      Paired (fun (p : List Key × V) (q : List Key × Addr × Value) => p.1 = q.1 ∧ H q.2.1 = some (.tup (p.1.map kV)) ∧ RelV p.2 q.2.2) kvs xs ∧
      ∃ o es ep, h.get? a = some o ∧ o.ExactDict ∧ o.data = .dict es ep ∧ es.toList = xs.map (entryOfKey (tupleKind (mixKind P w))) ∧ (xs.map (·.1)).Nodup
  | .set S n => h.SetOf (intKind P w) a S n
  | .ins C dx fs => H dx = some (.own a) ∧ fs.length ≤ 1000 ∧ dx ≠ a ∧ h.get? a = some (PySem.W.instObj C dx) ∧
      ∃ mA, h.Ns1 dx mA ∧ (∀ f, RelO (fs.lookup f) (mA f)) ∧ PySem.Within mA (fs.map (·.1))
  | .own _ => ∃ o, h.get? a = some o
  | .xd fs => ∃ mA, h.Ns1 a mA ∧ ∀ f, RelO (fs.lookup f) (mA f)
  | .rng lo hi => ∃ t u v, h.get? a = some { cls := .type "range", data := .fields #[.int lo t, .int hi u, .int 1 v] }
  | .frz o u => h.get? a = some o ∧ ObjOk H h a u
  | .tbl ps => h.get? a = some { cls := .none, data := .fields ps }
  | .met f x => h.get? a = some (PySem.W.methodObj (.ref f) (.ref x))
  | .ext φ => φ h ∧ (∃ o, h.get? a = some o) ∧ ∀ h1 h2 : Heap, φ h1 → (∀ o, h1.get? a = some o → h2.get? a = some o) → φ h2
/-- the abstract heap is held -/
def HOk (H : Hp) (h : Heap) : Prop := ∀ a o, H a = some o → ObjOk P w H h a o
end

section
variable {P : Program} {w : World} {H H' : Hp} {h h' : Heap} {a : Addr} {o : HO}
theorem ObjOk.lt (x : ObjOk P w H h a o) : a < h.objs.size := by
  cases o with
  | lst xs => obtain ⟨_, _, _, _, e⟩ := x; exact Heap.lt_size e
  | tup xs => obtain ⟨_, _, _, p⟩ := x; exact p.lt
  | dK kvs => obtain ⟨_, _, _, _, o, _, _, e, _⟩ := x; exact Heap.lt_size e
  | dT kvs => obtain ⟨_, _, _, _, o, _, _, e, _⟩ := x; exact Heap.lt_size e
  | set S n => obtain ⟨o, _, _, _, e, _⟩ := x; exact Heap.lt_size e
  | ins C dx fs => obtain ⟨_, _, _, e, _⟩ := x; exact Heap.lt_size e
  | own y => obtain ⟨_, e⟩ := x; exact Heap.lt_size e
  | xd fs => obtain ⟨_, ⟨_, _, _, e, _⟩, _⟩ := x; exact Heap.lt_size e
  | rng lo hi => obtain ⟨_, _, _, e⟩ := x; exact Heap.lt_size e
  | frz ob u => obtain ⟨e, _⟩ := x; exact Heap.lt_size e
  | tbl ps => exact Heap.lt_size (show h.get? a = some _ from x)
  | met f y => exact Heap.lt_size (show h.get? a = some _ from x)
  | ext φ => obtain ⟨_, ⟨_, e⟩, _⟩ := x; exact Heap.lt_size e
theorem Paired.mapP {α β : Type} {F G : α → β → Prop} : ∀ {l₁ : List α} {l₂ : List β}, Paired F l₁ l₂ → (∀ a b, F a b → G a b) → Paired G l₁ l₂
  | _, _, .nil, _ => .nil
  | _, _, .cons r t, f => .cons (f _ _ r) (Paired.mapP t f)
theorem Paired.imp' {α β : Type} {F G : α → β → Prop} (f : ∀ a b, F a b → G a b) {l₁ : List α} {l₂ : List β} (r : Paired F l₁ l₂) : Paired G l₁ l₂ := Paired.mapP r f
/-- what an object's description leans on: its own object, its own dict, the tuples -/
theorem ObjOk.stay (x : ObjOk P w H h a o) (k : ∀ b u, (b = a ∨ H b = some (.own a)) → h.get? b = some u → h'.get? b = some u)
    (ho : ∀ b, H b = some (.own a) → H' b = some (.own a)) (ht : ∀ b xs, H b = some (.tup xs) → H' b = some (.tup xs)) : ObjOk P w H' h' a o := by
  induction o with
  | lst xs => obtain ⟨z, its, n, r, e⟩ := x; exact ⟨z, its, n, r, k _ _ (.inl rfl) e⟩
  | tup xs => obtain ⟨z, its, r, ob, e, c⟩ := x; exact ⟨z, its, r, ob, k _ _ (.inl rfl) e, c⟩
  | dK kvs => obtain ⟨z, y, vs, r, ob, es, ep, e, c⟩ := x; exact ⟨z, y, vs, r, ob, es, ep, k _ _ (.inl rfl) e, c⟩
  | dT kvs =>
    obtain ⟨z, y, xs, r, ob, es, ep, e, c⟩ := x
    exact ⟨z, y, xs, Paired.mapP r fun p q z => ⟨z.1, ht _ _ z.2.1, z.2.2⟩, ob, es, ep, k _ _ (.inl rfl) e, c⟩
  | set S n => obtain ⟨ob, es, ep, t, e, c⟩ := x; exact ⟨ob, es, ep, t, k _ _ (.inl rfl) e, c⟩
  | ins C dx fs =>
    obtain ⟨d, z, ne, e, mA, ⟨od, es, ep, e2, c⟩, r⟩ := x
    exact ⟨ho _ d, z, ne, k _ _ (.inl rfl) e, mA, ⟨od, es, ep, k _ _ (.inr d) e2, c⟩, r⟩
  | own y => obtain ⟨ob, e⟩ := x; exact ⟨ob, k _ _ (.inl rfl) e⟩
  | xd fs => obtain ⟨mA, ⟨od, es, ep, e, c⟩, r⟩ := x; exact ⟨mA, ⟨od, es, ep, k _ _ (.inl rfl) e, c⟩, r⟩
  | rng lo hi => obtain ⟨t, u, v, e⟩ := x; exact ⟨t, u, v, k _ _ (.inl rfl) e⟩
  | frz ob u ih => obtain ⟨e, q⟩ := x; exact ⟨k _ _ (.inl rfl) e, ih q⟩
  | tbl ps =>
    have e : h.get? a = some { cls := .none, data := .fields ps } := x
    show h'.get? a = some { cls := .none, data := .fields ps }
    exact k a _ (.inl rfl) e
  | met f y =>
    have e : h.get? a = some (PySem.W.methodObj (.ref f) (.ref y)) := x
    show h'.get? a = some (PySem.W.methodObj (.ref f) (.ref y))
    exact k a _ (.inl rfl) e
  | ext φ => obtain ⟨p, ⟨o, e⟩, st⟩ := x; exact ⟨st _ _ p fun o q => k _ _ (.inl rfl) q, ⟨o, k _ _ (.inl rfl) e⟩, st⟩
theorem HOk.lt (x : HOk P w H h) (e : H a = some o) : a < h.objs.size := (x a o e).lt
theorem HOk.fresh (x : HOk P w H h) (e : h.objs.size ≤ a) : H a = none := by
  cases q : H a with
  | none => rfl
  | some u => exact absurd (Nat.lt_of_lt_of_le (x.lt q) e) (Nat.lt_irrefl _)
/-- every object of the heap is kept -/
theorem HOk.kept (x : HOk P w H h) (k : ∀ b u, h.get? b = some u → h'.get? b = some u) : HOk P w H h' := fun a o e =>
  (x a o e).stay (fun b u _ q => k b u q) (fun _ q => q) fun _ _ q => q
/-- a new object is laid and tracked -/
theorem HOk.laid (x : HOk P w H h) (k : ∀ b u, h.get? b = some u → h'.get? b = some u) (hp : h.objs.size ≤ a) (new : ObjOk P w (upd H a o) h' a o) : HOk P w (upd H a o) h' := fun b u e => by
  have hn := x.fresh hp
  by_cases hb : b = a
  · subst hb; rw [upd_same] at e; cases e; exact new
  · rw [upd_ne hb] at e
    exact (x b u e).stay (fun c v _ q => k c v q) (fun c q => by rw [upd_ne (ne_of_none q hn)]; exact q) fun c xs q => by rw [upd_ne (ne_of_none q hn)]; exact q
end

/-- what may be read as u: it is u, or a known u -/
def Rd (H : Hp) (a : Addr) (u : HO) : Prop := H a = some u ∨ ∃ o, H a = some (.frz o u)
theorem Rd.of {H : Hp} {a : Addr} {u : HO} (h : H a = some u) : Rd H a u := .inl h
theorem Rd.ok {P : Program} {w : World} {H : Hp} {h : Heap} {a : Addr} {u : HO} (r : Rd H a u) (x : HOk P w H h) : ObjOk P w H h a u := by
  rcases r with r | ⟨o, r⟩
  · exact x a u r
  · obtain ⟨_, q⟩ := x a _ r
    exact q
/-- what may be written -/
def Mut : Option HO → Prop
  | some (.lst _) => True
  | some (.dK _) => True
  | some (.dT _) => True
  | some (.set _ _) => True
  | some (.ins _ _ _) => True
  | some (.ext _) => True
  | _ => False
section
variable {P : Program} {w : World} {H : Hp} {h h' : Heap} {x e : Addr} {o' : HO}
/-- the object at e is changed: x itself, or the dict of the instance x -/
theorem HOk.write (ok : HOk P w H h) (mu : Mut (H x)) (he : e = x ∨ H e = some (.own x)) (k : ∀ b u, b ≠ e → h.get? b = some u → h'.get? b = some u) (heo : ∃ u, h'.get? e = some u)
    (new : ObjOk P w (upd H x o') h' x o') : HOk P w (upd H x o') h' := fun b u q => by
  have nown : ∀ c y, H c = some (.own y) → c ≠ x := fun c y r z => by subst z; rw [r] at mu; exact mu
  have ntup : ∀ c xs, H c = some (.tup xs) → c ≠ x := fun c xs r z => by subst z; rw [r] at mu; exact mu
  by_cases hb : b = x
  · subst hb; rw [upd_same] at q; cases q; exact new
  · rw [upd_ne hb] at q
    by_cases hbe : b = e
    · have q' : H b = some (.own x) := by
        rcases he with z | z
        · exact absurd (hbe.trans z) hb
        · rw [hbe]; exact z
      rw [q] at q'; cases q'
      obtain ⟨v, hv⟩ := heo
      exact ⟨v, by rw [hbe]; exact hv⟩
    · refine (ok b u q).stay (fun c v hc r => k c v ?_ r) (fun c r => by rw [upd_ne (nown c b r)]; exact r) fun c xs r => by rw [upd_ne (ntup c xs r)]; exact r
      rcases hc with rfl | hc
      · exact hbe
      · rintro rfl
        rcases he with z | z
        · exact nown c b hc z
        · rw [hc] at z; cases z; exact hb rfl
end

/-! ### kept unless tracked; of the frames at fs (the callers') the slots may change (an exception that passes writes there); of the records at ex (iterators) nothing is said -/
structure Un (fs ex : List Addr) (H H' : Hp) (h h' : Heap) : Prop where
  keep : ∀ b o, h.get? b = some o → H b = none → b ∉ fs → b ∉ ex → h'.get? b = some o
  slot : ∀ b o, h.get? b = some o → H b = none → b ∈ fs → b ∉ ex → ∃ sl, h'.get? b = some { o with slots := sl }
  free : ∀ b o, h.get? b = some o → H b = none → b ∉ ex → H' b = none
  there : ∀ b o, h.get? b = some o → b ∉ ex → ∃ o', h'.get? b = some o'
  tups : ∀ b xs, H b = some (.tup xs) → H' b = some (.tup xs)
  frzs : ∀ b o u, H b = some (.frz o u) → H' b = some (.frz o u)
  tbls : ∀ b ps, H b = some (.tbl ps) → ∃ more, H' b = some (.tbl (ps ++ more))
section
variable {fs fs' ex ex' : List Addr} {H H1 H2 : Hp} {h h1 h2 h' : Heap} {a x e : Addr} {o : HO}
theorem Un.any (u : Un fs ex H H1 h h1) {b : Addr} {ob : Obj} (q : h.get? b = some ob) (n : H b = none) (hx : b ∉ ex) : ∃ sl, h1.get? b = some { ob with slots := sl } := by
  by_cases hb : b ∈ fs
  · exact u.slot b ob q n hb hx
  · exact ⟨ob.slots, u.keep b ob q n hb hx⟩
theorem Un.trans (a : Un fs ex H H1 h h1) (b : Un fs ex H1 H2 h1 h2) : Un fs ex H H2 h h2 where
  keep := fun c ob q n hc hx => b.keep c ob (a.keep c ob q n hc hx) (a.free c ob q n hx) hc hx
  slot := fun c ob q n hc hx => by
    obtain ⟨sl, e1⟩ := a.slot c ob q n hc hx
    obtain ⟨sl', e2⟩ := b.slot c _ e1 (a.free c ob q n hx) hc hx
    exact ⟨sl', e2⟩
  free := fun c ob q n hx => by
    obtain ⟨o', e1⟩ := a.there c ob q hx
    exact b.free c o' e1 (a.free c ob q n hx) hx
  there := fun c ob q hx => by
    obtain ⟨o', e1⟩ := a.there c ob q hx
    exact b.there c o' e1 hx
  tups := fun c xs q => b.tups c xs (a.tups c xs q)
  frzs := fun c ob xs q => b.frzs c ob xs (a.frzs c ob xs q)
  tbls := fun c ps q => by
    obtain ⟨m1, e1⟩ := a.tbls c ps q
    obtain ⟨m2, e2⟩ := b.tbls c _ e1
    exact ⟨m1 ++ m2, by rw [e2, Array.append_assoc]⟩
theorem Un.kept (k : ∀ b u, h.get? b = some u → h'.get? b = some u) : Un fs ex H H h h' :=
  ⟨fun b ob q _ _ _ => k b ob q, fun b ob q _ _ _ => ⟨ob.slots, k b ob q⟩, fun _ _ _ n _ => n, fun b ob q _ => ⟨ob, k b ob q⟩, fun _ _ q => q, fun _ _ _ q => q, fun _ ps q => ⟨#[], by rw [q]; simp⟩⟩
theorem Un.refl : Un fs ex H H h h := Un.kept fun _ _ q => q
theorem Un.laid (k : ∀ b u, h.get? b = some u → h'.get? b = some u) (hp : h.objs.size ≤ a) (hn : H a = none) : Un fs ex H (upd H a o) h h' where
  keep := fun b u q _ _ _ => k b u q
  slot := fun b u q _ _ _ => ⟨u.slots, k b u q⟩
  free := fun b u q n _ => by rw [upd_ne (Nat.ne_of_lt (Nat.lt_of_lt_of_le (Heap.lt_size q) hp))]; exact n
  there := fun b u q _ => ⟨u, k b u q⟩
  tups := fun b xs q => by rw [upd_ne (ne_of_none q hn)]; exact q
  frzs := fun b u xs q => by rw [upd_ne (ne_of_none q hn)]; exact q
  tbls := fun b ps q => ⟨#[], by rw [upd_ne (ne_of_none q hn), q]; simp⟩
theorem Un.write (mu : Mut (H x)) (he : e = x ∨ H e = some (.own x)) (k : ∀ b u, b ≠ e → h.get? b = some u → h'.get? b = some u) (heo : ∃ u, h'.get? e = some u) : Un fs ex H (upd H x o) h h' := by
  have hx : ∀ b, H b = none → b ≠ x := fun b n z => by subst z; rw [n] at mu; exact mu
  have hb : ∀ b, H b = none → b ≠ e := fun b n z => by
    subst z
    rcases he with r | r
    · exact hx b n r
    · rw [n] at r; cases r
  have hm : ∀ b u, H b = some u → ¬ Mut (some u) → b ≠ x := fun b u q nm z => by subst z; rw [q] at mu; exact nm mu
  refine ⟨fun b u q n _ _ => k b u (hb b n) q, fun b u q n _ _ => ⟨u.slots, k b u (hb b n) q⟩, fun b u q n _ => by rw [upd_ne (hx b n)]; exact n, fun b u q _ => ?_,
    fun b xs q => by rw [upd_ne (hm b _ q fun z => z)]; exact q, fun b u xs q => by rw [upd_ne (hm b _ q fun z => z)]; exact q, fun b ps q => ⟨#[], by rw [upd_ne (hm b _ q fun z => z), q]; simp⟩⟩
  by_cases hbe : b = e
  · subst hbe; exact heo
  · exact ⟨u, k b u hbe q⟩
theorem Un.mono (u : Un fs ex H H1 h h1) (hs : ∀ b ∈ fs, b ∈ fs') (hx : ∀ b ∈ ex, b ∈ ex') : Un fs' ex' H H1 h h1 :=
  ⟨fun b ob q n hb he => u.keep b ob q n (fun z => hb (hs b z)) fun z => he (hx b z), fun _ _ q n _ he => u.any q n fun z => he (hx _ z), fun b ob q n he => u.free b ob q n fun z => he (hx b z), fun b ob q he => u.there b ob q fun z => he (hx b z), u.tups, u.frzs, u.tbls⟩
end

/-! ### the heap without what is tracked -/
def trk (h : Heap) (H : Hp) : List Addr := (List.range h.objs.size).filter fun a => (H a).isSome
def hidT (h : Heap) (H : Hp) : Heap := PySem.W.hideAll h (trk h H)
theorem hidT_size (h : Heap) (H : Hp) : (hidT h H).objs.size = h.objs.size := PySem.W.hideAll_size _ _
theorem hidT_get {h : Heap} {H : Hp} {b : Addr} {o : Obj} (e : h.get? b = some o) (n : H b = none) : (hidT h H).get? b = some o :=
  PySem.W.hideAll_get _ e fun hm => by
    have q : (H b).isSome = true := (List.mem_filter.mp hm).2
    rw [n] at q; simp at q
theorem of_hidT {h : Heap} {H : Hp} {b : Addr} {o : Obj} (e : (hidT h H).get? b = some o) : h.get? b = some o ∧ H b = none := by
  have e' : h.get? b = some o := PySem.W.of_hideAll (trk h H) e
  refine ⟨e', ?_⟩
  cases q : H b with
  | none => rfl
  | some x =>
    have hm : b ∈ trk h H := List.mem_filter.mpr ⟨List.mem_range.mpr (Heap.lt_size e'), by simp [q]⟩
    have z : (hidT h H).get? b = none := PySem.W.hideAll_none (trk h H) hm
    rw [z] at e; cases e

/-! ### OpenK's ledger, filled with every new object but one -/
def allNews (g h : Heap) (L : Addr) : List (Addr × Obj) := (List.range h.objs.size).filterMap fun a => if a = L ∨ (g.get? a).isSome = true then none else (h.get? a).map fun o => (a, o)
theorem mem_allNews {g h : Heap} {L a : Addr} {o : Obj} (h1 : a ≠ L) (h2 : g.get? a = none) (h3 : h.get? a = some o) : (a, o) ∈ allNews g h L :=
  List.mem_filterMap.mpr ⟨a, List.mem_range.mpr (Heap.lt_size h3), by simp [h1, h2, h3]⟩
theorem of_mem_allNews {g h : Heap} {L : Addr} {p : Addr × Obj} (hp : p ∈ allNews g h L) : p.1 ≠ L ∧ g.get? p.1 = none ∧ h.get? p.1 = some p.2 := by
  obtain ⟨b, _, e⟩ := List.mem_filterMap.mp hp
  split at e
  · cases e
  · rename_i hn
    cases q : h.get? b with
    | none => rw [q] at e; simp at e
    | some u =>
      rw [q] at e
      simp only [Option.map_some, Option.some.injEq] at e
      subst e
      refine ⟨fun z => hn (.inl z), ?_, q⟩
      show g.get? b = none
      cases r : g.get? b with
      | none => rfl
      | some v => exact (hn (.inr (by simp [r]))).elim
def rest (g h : Heap) (L d : Addr) : List (Addr × Obj) := (allNews g h L).filter fun p => decide (p.1 ≠ d)
theorem rest_ne {g h : Heap} {L d : Addr} : ∀ p ∈ rest g h L d, p.1 ≠ d := fun p hp => of_decide_eq_true (List.mem_filter.mp hp).2
theorem mem_rest {g h : Heap} {L d a : Addr} {o : Obj} (h1 : a ≠ L) (h2 : g.get? a = none) (h3 : h.get? a = some o) (h4 : a ≠ d) : (a, o) ∈ rest g h L d :=
  List.mem_filter.mpr ⟨mem_allNews h1 h2 h3, decide_eq_true h4⟩
theorem news_all {g h : Heap} {L : Addr} : News g L h (allNews g h L) := fun p hp => let ⟨a, b, c⟩ := of_mem_allNews hp; ⟨c, a, b⟩
theorem news_at {g h : Heap} {L d : Addr} {o : Obj} (h1 : d ≠ L) (h2 : g.get? d = none) (h3 : h.get? d = some o) : News g L h ((d, o) :: rest g h L d) := fun p hp => by
  rcases List.mem_cons.mp hp with rfl | hp
  · exact ⟨h3, h1, h2⟩
  · exact news_all p (List.mem_filter.mp hp).1
/-- behind a rule that changed d alone: all else but the frame is kept -/
theorem kept_of_news {g h h' : Heap} {L d : Addr} {m : Str → Option Value} (k : ∀ b o, g.get? b = some o → h.get? b = some o) (F : Fr g L h' m) (N : News g L h' (rest g h L d)) :
    ∀ b o, b ≠ L → b ≠ d → h.get? b = some o → h'.get? b = some o := fun b o h1 h2 e => by
  cases q : g.get? b with
  | some u =>
    have := k b u q
    rw [e] at this; cases this
    exact F.keep b _ q
  | none => exact (N (b, o) (mem_rest h1 q e h2)).1
end L2

namespace L2
open PySem PySem.Spec PyProof.Rows

/-- the module's facts, over the base: the heap at the law's entry without what is tracked there -/
structure Mod (K : PySem.W.Frag) (mg : Str → Option Value) (base : Heap) : Prop where
  kin : K.In base
  glob : base.Ns mainGlobals mg
  blt : ∃ mb, base.Ns builtinsNs mb ∧ ∀ x : Str, x ≠ "__name__" → mb x = bootBuiltins x
  nolimit : base.NoLimit

/-- the context: a def's body (or a comprehension's block) running. base: fixed through the whole law; s₀, H₀: the entry; outer: the frames whose slots others may change (a def's callers); stack: all frames that run;
   ex: iterators that were made ahead of the entry and are walked here (a comprehension's); fn: the names whose cells were made at the entry (a def: all; a comprehension's block: its own); calm: not within an except suite; pn: pins that every state bears; xe: what is wanted of an exception that leaves the code -/
structure Cx where
  prog : Program
  w : World
  K : PySem.W.Frag
  mg : Str → Option Value
  base : Heap
  A : Around
  N : List Str
  s₀ : Shared
  H₀ : Hp
  env : Env
  outer : List Env
  stack : List Env
  ex : List Addr
  fn : Str → Bool
  calm : Bool
  pn : List (Addr × Obj)
  xe : Value → Shared → Prop
/-- the callers' frames -/
def frs (l : List Env) : List Addr := l.filterMap (·.frame)
abbrev Cx.fs (X : Cx) : List Addr := frs X.outer

def Vis (sc : Scope) (x : Str) : Prop := sc.names.lookup x = some .local ∨ sc.names.lookup x = some .cell ∨ sc.names.lookup x = some .free
def Loc (sc : Scope) (x : Str) : Prop := sc.names.lookup x = some .local ∨ sc.names.lookup x = some .cell
def Look (env : Env) (h : Heap) (m : Str → Option Value) (x : Str) (u : Value) : Prop :=
  (env.kindOf x = some .local ∧ m x = some u) ∨ ((env.kindOf x = some .cell ∨ env.kindOf x = some .free) ∧ ∃ c, env.cells.lookup x = some c ∧ h.IsCell c (some u))

structure Cx.Ok (X : Cx) : Prop where
  mod : Mod X.K X.mg X.base
  kind : X.env.scope.kind = .function
  glob : X.env.globals = mainGlobals
  blt : X.env.builtins = builtinsNs
  above : X.s₀.heap.objs.size ≤ X.env.locals
  inj : ∀ x y c, X.env.cells.lookup x = some c → X.env.cells.lookup y = some c → x = y
  has : ∀ x, (X.env.kindOf x = some .cell ∨ X.env.kindOf x = some .free) → ∃ c, X.env.cells.lookup x = some c
  cab : ∀ x c, X.fn x = true → X.env.cells.lookup x = some c → X.s₀.heap.objs.size ≤ c
  hd : X.calm = true → X.A.handled = none
  frames : X.A.frames = some X.stack
  stk : X.stack = X.outer ∨ (X.stack = X.env :: X.outer ∧ X.env.frame = some X.env.locals)
  exf : ∀ b ∈ X.ex, b ≠ X.env.locals ∧ ∀ x c, X.env.cells.lookup x = some c → c ≠ b
  bs : ∀ b o, X.base.get? b = some o → X.s₀.heap.get? b = some o ∧ X.H₀ b = none
  bsz : X.base.objs.size ≤ X.s₀.heap.objs.size
  noex : ∀ b o, X.base.get? b = some o → b ∉ X.ex
  exfs : ∀ b ∈ X.ex, b ∉ X.fs
  funs : X.s₀.heap.FunFrames X.base X.outer
  frf : ∀ b ∈ X.fs, X.H₀ b = none

structure Inv (X : Cx) (pins : List (Addr × Obj)) (σ : List (Option V)) (H : Hp) (s : Shared) : Prop where
  ok : X.Ok
  os : s.os = X.s₀.os
  bare : AllBare s.gens
  base : Un X.fs X.ex X.H₀ H X.s₀.heap s.heap
  loc : ∃ m, s.heap.Ns X.env.locals m ∧ ∀ (i : Nat) (x : Str) (v : V), X.N[i]? = some x → σ[i]? = some (some v) → Vis X.env.scope x → ∃ u, RelV v u ∧ Look X.env s.heap m x u
  cell : ∀ x c, X.env.cells.lookup x = some c → ∃ v, s.heap.IsCell c v
  free : H X.env.locals = none
  freeC : ∀ x c, X.env.cells.lookup x = some c → H c = none
  pin : ∀ p ∈ X.pn ++ pins, s.heap.get? p.1 = some p.2 ∧ H p.1 = none ∧ p.1 ≠ X.env.locals ∧ p.1 ∉ X.fs ∧ ∀ v, p.2.data ≠ .cell v
  hok : HOk X.prog X.w H s.heap
  len : σ.length = X.N.length

section
variable {X : Cx} {pins : List (Addr × Obj)} {σ : List (Option V)} {H H' : Hp} {s : Shared} {h' : Heap}

theorem Cx.Ok.nofr (ok : X.Ok) {b : Addr} {o : Obj} (e : X.base.get? b = some o) : b ∉ X.fs := fun hb => by
  have := (ok.funs.mem hb).1
  rw [e] at this; cases this
theorem Inv.bs (I : Inv X pins σ H s) : ∀ b o, X.base.get? b = some o → s.heap.get? b = some o ∧ H b = none := fun b o e =>
  ⟨I.base.keep b o (I.ok.bs b o e).1 (I.ok.bs b o e).2 (I.ok.nofr e) (I.ok.noex b o e), I.base.free b o (I.ok.bs b o e).1 (I.ok.bs b o e).2 (I.ok.noex b o e)⟩
theorem Inv.bk (I : Inv X pins σ H s) : ∀ b o, X.base.get? b = some o → s.heap.get? b = some o := fun b o e => (I.bs b o e).1
theorem Inv.mod (I : Inv X pins σ H s) : Mod X.K X.mg X.base := I.ok.mod
theorem Inv.kIn (I : Inv X pins σ H s) : X.K.In s.heap := I.ok.mod.kin.keeps I.bk
theorem Inv.nolimit (I : Inv X pins σ H s) : s.heap.NoLimit := I.ok.mod.nolimit.keeps I.bk
/-- the frame over the base: for OpenK's rules (K.In X.base is I.mod.kin) -/
theorem Inv.fr (I : Inv X pins σ H s) : ∃ m, Fr X.base X.env.locals s.heap m :=
  let ⟨m, hn, _⟩ := I.loc
  ⟨m, hn, I.bk, Nat.le_trans I.ok.bsz I.ok.above⟩
theorem Inv.lt (I : Inv X pins σ H s) : X.env.locals < s.heap.objs.size := let ⟨_, hn, _⟩ := I.loc; hn.lt
theorem Inv.sz (I : Inv X pins σ H s) : X.s₀.heap.objs.size ≤ s.heap.objs.size := Nat.le_trans I.ok.above (Nat.le_of_lt I.lt)
theorem Inv.nofs (I : Inv X pins σ H s) {a : Addr} (h : s.heap.objs.size ≤ a) : a ∉ X.fs := fun hb => by
  obtain ⟨_, o, ho, _⟩ := I.ok.funs.mem hb
  exact absurd (Nat.lt_of_lt_of_le (Heap.lt_size ho) (Nat.le_trans I.sz h)) (Nat.lt_irrefl _)
theorem Inv.cne (I : Inv X pins σ H s) : ∀ x c, X.env.cells.lookup x = some c → c ≠ X.env.locals := fun x c e z => by
  obtain ⟨v, o, ho, hd⟩ := I.cell x c e
  obtain ⟨m, ⟨o', es, ep, ho', hd', _⟩, _⟩ := I.loc
  rw [z, ho'] at ho; cases ho; rw [hd'] at hd; cases hd
theorem Inv.funs (I : Inv X pins σ H s) : s.heap.FunFrames X.base X.outer := by
  have all : ∀ (l : List Env), (∀ b ∈ frs l, b ∈ X.fs) → X.s₀.heap.FunFrames X.base l → s.heap.FunFrames X.base l := by
    intro l
    induction l with
    | nil => intro _ _; trivial
    | cons env r ih =>
      intro hs hl
      obtain ⟨hk, ⟨L, o, hf, hn, ho, hd⟩, hr⟩ := hl
      have hL : L ∈ X.fs := hs L (by unfold frs; rw [List.filterMap_cons, hf]; exact List.mem_cons_self)
      obtain ⟨sl, e⟩ := I.base.slot L o ho (I.ok.frf L hL) hL fun z => I.ok.exfs L z hL
      exact ⟨hk, ⟨L, _, hf, hn, e, hd⟩, ih (fun b hb => hs b (by unfold frs; rw [List.filterMap_cons, hf]; exact List.mem_cons_of_mem _ hb)) hr⟩
  exact all X.outer (fun _ hb => hb) I.ok.funs

/-- the frames that run, for a call -/
theorem Inv.stack (I : Inv X pins σ H s) : s.heap.FunFrames X.base X.stack := by
  rcases I.ok.stk with e | ⟨e, hf⟩
  · rw [e]; exact I.funs
  · rw [e]
    obtain ⟨m, hn, _⟩ := I.loc
    refine .cons (by rw [I.ok.kind]; decide) hf hn ?_ I.funs
    exact Heap.get?_none_of_le (Nat.le_trans I.ok.bsz I.ok.above)
theorem Inv.stkSub (I : Inv X pins σ H s) : ∀ b ∈ frs X.stack, b ∈ X.env.locals :: X.fs := fun b hb => by
  rcases I.ok.stk with e | ⟨e, hf⟩
  · rw [e] at hb; exact List.mem_cons_of_mem _ hb
  · rw [e] at hb
    unfold frs at hb
    rw [List.filterMap_cons, hf] at hb
    exact hb
theorem Inv.stkFree (I : Inv X pins σ H s) : ∀ b ∈ frs X.stack, H b = none := fun b hb => by
  rcases List.mem_cons.mp (I.stkSub b hb) with e | hb
  · rw [e]; exact I.free
  · obtain ⟨_, o, ho, _⟩ := I.ok.funs.mem hb
    exact I.base.free b o ho (I.ok.frf b hb) fun z => I.ok.exfs b z hb

/-- THE STEP: the untracked objects but the frame and the records at ch are kept (the callers' frames up to slots), the frame's map is kept, the new abstract heap is held -/
theorem Inv.step {g' : Array GenState} {t' : Nat} {d' : Drawn} {ch : List Addr} (I : Inv X pins σ H s)
    (hch : ∀ b ∈ ch, (b ∈ X.ex ∨ X.s₀.heap.objs.size ≤ b) ∧ b ≠ X.env.locals ∧ (∀ x c, X.env.cells.lookup x = some c → c ≠ b) ∧ ∀ p ∈ X.pn ++ pins, p.1 ≠ b)
    (keep : ∀ b o, b ≠ X.env.locals → b ∉ X.fs → b ∉ ch → s.heap.get? b = some o → H b = none → h'.get? b = some o)
    (slot : ∀ b o, b ≠ X.env.locals → b ∈ X.fs → b ∉ ch → s.heap.get? b = some o → H b = none → ∃ sl, h'.get? b = some { o with slots := sl }) (free : ∀ b o, b ∉ ch → s.heap.get? b = some o → H b = none → H' b = none)
    (there : ∀ b o, b ∉ ch → s.heap.get? b = some o → ∃ o', h'.get? b = some o')
    (tups : ∀ b xs, H b = some (.tup xs) → H' b = some (.tup xs)) (frzs : ∀ b o u, H b = some (.frz o u) → H' b = some (.frz o u)) (tbls : ∀ b ps, H b = some (.tbl ps) → ∃ more, H' b = some (.tbl (ps ++ more)))
    (ns : ∀ m, s.heap.Ns X.env.locals m → h'.Ns X.env.locals m) (hok : HOk X.prog X.w H' h') (hg : AllBare g') :
    Inv X pins σ H' { s with heap := h', gens := g', drawn := d', toks := t' } := by
  have neL : ∀ b o, X.s₀.heap.get? b = some o → b ≠ X.env.locals := fun b o e => Nat.ne_of_lt (Nat.lt_of_lt_of_le (Heap.lt_size e) I.ok.above)
  have neC : ∀ b o, X.s₀.heap.get? b = some o → b ∉ X.ex → b ∉ ch := fun b o e hx hb => by
    rcases (hch b hb).1 with z | z
    · exact hx z
    · exact absurd (Nat.lt_of_lt_of_le (Heap.lt_size e) z) (Nat.lt_irrefl _)
  have cellK : ∀ x c, X.env.cells.lookup x = some c → ∀ v, s.heap.IsCell c v → h'.IsCell c v := fun x c e v ⟨o, ho, hd⟩ => by
    have nch : c ∉ ch := fun z => (hch c z).2.2.1 x c e rfl
    by_cases hc : c ∈ X.fs
    · obtain ⟨sl, q⟩ := slot c o (I.cne x c e) hc nch ho (I.freeC x c e)
      exact ⟨_, q, hd⟩
    · exact ⟨o, keep c o (I.cne x c e) hc nch ho (I.freeC x c e), hd⟩
  refine ⟨I.ok, I.os, hg, ⟨fun b o e n hb hx => ?_, fun b o e n hb hx => ?_, fun b o e n hx => ?_, fun b o e hx => ?_, fun b xs e => tups b xs (I.base.tups b xs e), fun b o xs e => frzs b o xs (I.base.frzs b o xs e), fun b ps e => ?_⟩, ?_, fun x c e => ?_, ?_, fun x c e => ?_, fun p hp => ?_, hok, I.len⟩
  · exact keep b o (neL b o e) hb (neC b o e hx) (I.base.keep b o e n hb hx) (I.base.free b o e n hx)
  · obtain ⟨sl, e1⟩ := I.base.slot b o e n hb hx
    obtain ⟨sl', e2⟩ := slot b _ (neL b o e) hb (neC b o e hx) e1 (I.base.free b o e n hx)
    exact ⟨sl', e2⟩
  · obtain ⟨o', e1⟩ := I.base.there b o e hx
    exact free b o' (neC b o e hx) e1 (I.base.free b o e n hx)
  · obtain ⟨o', e1⟩ := I.base.there b o e hx
    exact there b o' (neC b o e hx) e1
  · obtain ⟨m1, e1⟩ := I.base.tbls b ps e
    obtain ⟨m2, e2⟩ := tbls b _ e1
    exact ⟨m1 ++ m2, by rw [e2, Array.append_assoc]⟩
  · obtain ⟨m, hn, hl⟩ := I.loc
    refine ⟨m, ns m hn, fun i x v e1 e2 e3 => ?_⟩
    obtain ⟨u, r, l⟩ := hl i x v e1 e2 e3
    refine ⟨u, r, ?_⟩
    rcases l with l | ⟨k, c, e, z⟩
    · exact .inl l
    · exact .inr ⟨k, c, e, cellK x c e _ z⟩
  · obtain ⟨v, z⟩ := I.cell x c e
    exact ⟨v, cellK x c e v z⟩
  · obtain ⟨m, ⟨o, _, _, ho, _⟩, _⟩ := I.loc
    exact free _ o (fun z => (hch _ z).2.1 rfl) ho I.free
  · obtain ⟨v, o, ho, hd⟩ := I.cell x c e
    exact free c o (fun z => (hch c z).2.2.1 x c e rfl) ho (I.freeC x c e)
  · obtain ⟨e, n, ne, nf, d⟩ := I.pin p hp
    have nch : p.1 ∉ ch := fun z => (hch p.1 z).2.2.2 p hp rfl
    exact ⟨keep p.1 p.2 ne nf nch e n, free p.1 p.2 nch e n, ne, nf, d⟩
/-- .. where the frame's own object is kept too -/
theorem Inv.un {t' : Nat} (I : Inv X pins σ H s) (u : Un X.fs [] H H' s.heap h') (hok : HOk X.prog X.w H' h') : Inv X pins σ H' { s with heap := h', toks := t' } := by
  obtain ⟨m, ⟨o, es, ep, ho, r⟩, _⟩ := id I.loc
  obtain ⟨sl, hL⟩ := u.any ho I.free (by simp)
  exact I.step (g' := s.gens) (d' := s.drawn) (ch := []) (fun _ z => nomatch z) (fun b o _ hb _ e n => u.keep b o e n hb (by simp)) (fun b o _ hb _ e n => u.slot b o e n hb (by simp)) (fun b o _ e n => u.free b o e n (by simp)) (fun b o _ e => u.there b o e (by simp)) u.tups u.frzs u.tbls (fun m' hm => by
    obtain ⟨o', es', ep', ho', r'⟩ := hm
    rw [ho] at ho'; cases ho'
    exact ⟨_, es', ep', hL, r'⟩) hok I.bare
/-- behind a call (or a comprehension's block): the slots of this frame may have changed too, the records at ch may have turned -/
theorem Inv.call {g' : Array GenState} {t' : Nat} {d' : Drawn} {ch : List Addr} (I : Inv X pins σ H s) (u : Un (frs X.stack) ch H H' s.heap h') (hok : HOk X.prog X.w H' h') (hg : AllBare g')
    (hch : ∀ b ∈ ch, (b ∈ X.ex ∨ X.s₀.heap.objs.size ≤ b) ∧ b ≠ X.env.locals ∧ (∀ x c, X.env.cells.lookup x = some c → c ≠ b) ∧ ∀ p ∈ X.pn ++ pins, p.1 ≠ b) :
    Inv X pins σ H' { s with heap := h', gens := g', drawn := d', toks := t' } := by
  obtain ⟨m, ⟨o, es, ep, ho, r⟩, _⟩ := id I.loc
  obtain ⟨sl, hL⟩ := u.any ho I.free fun z => (hch _ z).2.1 rfl
  exact I.step (ch := ch) hch (fun b o hL hb hc e n => u.keep b o e n (fun z => (List.mem_cons.mp (I.stkSub b z)).elim hL hb) hc) (fun b o _ _ hc e n => u.any e n hc) (fun b o hc e n => u.free b o e n hc) (fun b o hc e => u.there b o e hc) u.tups u.frzs u.tbls (fun m' hm => by
    obtain ⟨o', es', ep', ho', r'⟩ := hm
    rw [ho] at ho'; cases ho'
    exact ⟨_, es', ep', hL, r'⟩) hok hg
/-- an untracked record of ours (an iterator) has turned -/
theorem Inv.turned {t' : Nat} {it : Addr} (I : Inv X pins σ H s) (k : ∀ b o, b ≠ it → s.heap.get? b = some o → h'.get? b = some o) (hn : H it = none) (hL : it ≠ X.env.locals)
    (h1 : it ∈ X.ex ∨ X.s₀.heap.objs.size ≤ it) (h2 : ∀ x c, X.env.cells.lookup x = some c → c ≠ it) (h3 : ∀ p ∈ X.pn ++ pins, p.1 ≠ it) : Inv X pins σ H { s with heap := h', toks := t' } := by
  have nit : ∀ b u, H b = some u → b ≠ it := fun b u e z => by rw [z, hn] at e; cases e
  refine I.step (g' := s.gens) (d' := s.drawn) (ch := [it]) (fun b hb => ?_) (fun b o _ _ hc e _ => k b o (fun z => hc (by simp [z])) e) (fun b o _ _ hc e _ => ⟨o.slots, k b o (fun z => hc (by simp [z])) e⟩) (fun _ _ _ _ n => n)
    (fun b o hc e => ⟨o, k b o (fun z => hc (by simp [z])) e⟩) (fun _ _ e => e) (fun _ _ _ e => e) (fun b ps e => ⟨#[], by rw [e]; simp⟩) (fun m hm => ?_) (fun b u e => ?_) I.bare
  · have e : b = it := by simpa using hb
    subst e
    exact ⟨h1, hL, h2, h3⟩
  · obtain ⟨o, es, ep, ho, r⟩ := hm
    exact ⟨o, es, ep, k _ o (Ne.symm hL) ho, r⟩
  · refine (I.hok b u e).stay (fun c v hc q => k c v ?_ q) (fun _ q => q) fun _ _ q => q
    rcases hc with z | z
    · rw [z]; exact nit b u e
    · exact nit c _ z
theorem Inv.tok (I : Inv X pins σ H s) (t : Nat) : Inv X pins σ H { s with toks := t } := I.un (h' := s.heap) (t' := t) Un.refl I.hok
/-- all objects kept -/
theorem Inv.kept {t' : Nat} (I : Inv X pins σ H s) (k : ∀ b u, s.heap.get? b = some u → h'.get? b = some u) : Inv X pins σ H { s with heap := h', toks := t' } := I.un (Un.kept k) (I.hok.kept k)
/-- a new object laid and tracked -/
theorem Inv.laid {a : Addr} {o : HO} {t' : Nat} (I : Inv X pins σ H s) (k : ∀ b u, s.heap.get? b = some u → h'.get? b = some u) (hp : s.heap.objs.size ≤ a) (new : ObjOk X.prog X.w (upd H a o) h' a o) :
    Inv X pins σ (upd H a o) { s with heap := h', toks := t' } := I.un (Un.laid k hp (I.hok.fresh hp)) (I.hok.laid k hp new)
/-- an object written -/
theorem Inv.write {x e : Addr} {o : HO} {t' : Nat} (I : Inv X pins σ H s) (mu : Mut (H x)) (he : e = x ∨ H e = some (.own x)) (k : ∀ b u, b ≠ e → s.heap.get? b = some u → h'.get? b = some u) (heo : ∃ u, h'.get? e = some u)
    (new : ObjOk X.prog X.w (upd H x o) h' x o) : Inv X pins σ (upd H x o) { s with heap := h', toks := t' } := I.un (Un.write mu he k heo) (I.hok.write mu he k heo new)
/-- forgetting slots, pins -/
theorem Inv.weak {σ' : List (Option V)} (I : Inv X pins σ H s) (hl : σ'.length = σ.length) (w : ∀ (i : Nat) v, σ'[i]? = some (some v) → σ[i]? = some (some v)) : Inv X pins σ' H s :=
  ⟨I.ok, I.os, I.bare, I.base, let ⟨m, hn, hl'⟩ := I.loc; ⟨m, hn, fun i x v e1 e2 e3 => hl' i x v e1 (w i v e2) e3⟩, I.cell, I.free, I.freeC, I.pin, I.hok, hl.trans I.len⟩
theorem Inv.pins_of {pins' : List (Addr × Obj)} (I : Inv X pins σ H s) (h : ∀ p ∈ pins', s.heap.get? p.1 = some p.2 ∧ H p.1 = none ∧ p.1 ≠ X.env.locals ∧ p.1 ∉ X.fs ∧ ∀ v, p.2.data ≠ .cell v) : Inv X pins' σ H s :=
  ⟨I.ok, I.os, I.bare, I.base, I.loc, I.cell, I.free, I.freeC, fun p hp => (List.mem_append.mp hp).elim (fun z => I.pin p (List.mem_append_left _ z)) (h p), I.hok, I.len⟩

theorem nodup_ix {N : List Str} (hN : N.Nodup) {i j : Nat} {x : Str} (a : N[i]? = some x) (b : N[j]? = some x) : i = j := by
  obtain ⟨h1, e1⟩ := List.getElem?_eq_some_iff.mp a
  obtain ⟨h2, e2⟩ := List.getElem?_eq_some_iff.mp b
  exact (List.getElem_inj hN).mp (e1.trans e2.symm)

/-- a name is stored; what changed -/
theorem store_ok2 {M : Model} {A : Around} {E : Value → Shared → Prop} {i : Nat} {x : Str} {v : V} {u : Value} {Q : Unit → Shared → Prop} (I : Inv X pins σ H s) (hN : X.N.Nodup) (hi : X.N[i]? = some x) (hx : Loc X.env.scope x) (r : RelV v u)
    (h : ∀ s', Inv X pins (σ.set i (some v)) H s' → (∃ a, Heap.SameBut a s.heap s'.heap ∧ (a = X.env.locals ∨ X.env.cells.lookup x = some a)) → Q () s') (hf : X.fn x = true ∨ X.env.scope.names.lookup x = some .local := by first | exact .inl rfl | exact .inr rfl | assumption) : wpAny M A (storeName X.env x u) Q E s := by
  obtain ⟨m, hn, hl⟩ := id I.loc
  have hcls : (X.env.scope.kind == .class || (X.env.scope.kind == .module && X.env.locals != X.env.globals)) = false := by rw [I.ok.kind]; rfl
  have hiσ : i < σ.length := by rw [I.len]; exact (List.getElem?_eq_some_iff.mp hi).1
  have cne := I.cne
  have tracked : ∀ {a : Addr} {h' : Heap}, (∃ o, s.heap.get? a = some o ∧ H a = none) → Heap.SameBut a s.heap h' → HOk X.prog X.w H h' := fun {a h'} ha hs b ob e => by
    obtain ⟨_, _, hfree⟩ := ha
    refine (I.hok b ob e).stay (fun c w' hc q => (hs.2 c ?_).trans q) (fun _ q => q) fun _ _ q => q
    rintro rfl
    rcases hc with rfl | hc
    · rw [hfree] at e; cases e
    · rw [hfree] at hc; cases hc
  rcases hx with hk | hk
  · refine wpAny_storeName_local hk hn (fun h' hn' hs => ?_) hcls
    obtain ⟨oL, _, _, hoL, _⟩ := id hn
    refine h _ ⟨I.ok, I.os, I.bare, ⟨fun b o e n hb hx => ?_, fun b o e n hb hx => ?_, I.base.free, fun b o e hx => ?_, I.base.tups, I.base.frzs, I.base.tbls⟩, ⟨_, hn', fun j y v' e1 e2 e3 => ?_⟩, fun y c e => ?_, I.free, I.freeC, fun p hp => ?_, tracked ⟨oL, hoL, I.free⟩ hs, by simpa using I.len⟩ ⟨_, hs, .inl rfl⟩
    · exact (hs.2 b (Nat.ne_of_lt (Nat.lt_of_lt_of_le (Heap.lt_size e) I.ok.above))).trans (I.base.keep b o e n hb hx)
    · obtain ⟨sl, e1⟩ := I.base.slot b o e n hb hx
      exact ⟨sl, (hs.2 b (Nat.ne_of_lt (Nat.lt_of_lt_of_le (Heap.lt_size e) I.ok.above))).trans e1⟩
    · obtain ⟨o', e1⟩ := I.base.there b o e hx
      exact ⟨o', (hs.2 b (Nat.ne_of_lt (Nat.lt_of_lt_of_le (Heap.lt_size e) I.ok.above))).trans e1⟩
    · by_cases hj : j = i
      · subst hj
        rw [hi] at e1; cases e1
        rw [List.getElem?_set_self hiσ] at e2
        cases e2
        exact ⟨u, r, .inl ⟨hk, by simp⟩⟩
      · rw [List.getElem?_set_ne (Ne.symm hj)] at e2
        obtain ⟨u', r', q⟩ := hl j y v' e1 e2 e3
        refine ⟨u', r', ?_⟩
        rcases q with ⟨k, e⟩ | ⟨k, c, e, z⟩
        · refine .inl ⟨k, ?_⟩
          have : y ≠ x := fun e => hj (nodup_ix hN e1 (e ▸ hi))
          simp [this, e]
        · exact .inr ⟨k, c, e, z.sameBut hs (cne y c e)⟩
    · obtain ⟨w', z⟩ := I.cell y c e
      exact ⟨w', z.sameBut hs (cne y c e)⟩
    · obtain ⟨e, n, ne, nf, d⟩ := I.pin p hp
      exact ⟨(hs.2 p.1 ne).trans e, n, ne, nf, d⟩
  · have hfn : X.fn x = true := by
      rcases hf with z | z
      · exact z
      · rw [z] at hk; cases hk
    obtain ⟨c, hc⟩ := I.ok.has x (.inl hk)
    obtain ⟨w', z⟩ := I.cell x c hc
    refine wpAny_storeName_cell I.ok.kind hk hc z (fun h' hc' hs => ?_)
    obtain ⟨oc, hoc, hocd⟩ := id z
    refine h { s with heap := h' } ⟨I.ok, I.os, I.bare, ⟨fun b o e n hb hx => ?_, fun b o e n hb hx => ?_, I.base.free, fun b o e hx => ?_, I.base.tups, I.base.frzs, I.base.tbls⟩, ⟨m, hn.sameBut hs (Ne.symm (cne x c hc)), fun j y v' e1 e2 e3 => ?_⟩, fun y c' e => ?_, I.free, I.freeC, fun p hp => ?_, tracked ⟨oc, hoc, I.freeC x c hc⟩ hs, by simpa using I.len⟩ ⟨c, hs, .inr hc⟩
    · exact (hs.2 b (Nat.ne_of_lt (Nat.lt_of_lt_of_le (Heap.lt_size e) (I.ok.cab x c hfn hc)))).trans (I.base.keep b o e n hb hx)
    · obtain ⟨sl, e1⟩ := I.base.slot b o e n hb hx
      exact ⟨sl, (hs.2 b (Nat.ne_of_lt (Nat.lt_of_lt_of_le (Heap.lt_size e) (I.ok.cab x c hfn hc)))).trans e1⟩
    · obtain ⟨o', e1⟩ := I.base.there b o e hx
      exact ⟨o', (hs.2 b (Nat.ne_of_lt (Nat.lt_of_lt_of_le (Heap.lt_size e) (I.ok.cab x c hfn hc)))).trans e1⟩
    · by_cases hj : j = i
      · subst hj
        rw [hi] at e1; cases e1
        rw [List.getElem?_set_self hiσ] at e2
        cases e2
        exact ⟨u, r, .inr ⟨.inl hk, c, hc, hc'⟩⟩
      · rw [List.getElem?_set_ne (Ne.symm hj)] at e2
        obtain ⟨u', r', q⟩ := hl j y v' e1 e2 e3
        refine ⟨u', r', ?_⟩
        rcases q with q | ⟨k, c', e, z'⟩
        · exact .inl q
        · refine .inr ⟨k, c', e, z'.sameBut hs ?_⟩
          rintro rfl
          exact hj (nodup_ix hN e1 (I.ok.inj _ _ _ e hc ▸ hi))
    · by_cases hcc : c' = c
      · subst hcc; exact ⟨_, hc'⟩
      · obtain ⟨w2, z2⟩ := I.cell y c' e
        exact ⟨w2, z2.sameBut hs hcc⟩
    · obtain ⟨e, n, ne, nf, d⟩ := I.pin p hp
      refine ⟨(hs.2 p.1 ?_).trans e, n, ne, nf, d⟩
      intro q
      rw [q, hoc] at e
      have q' : oc = p.2 := Option.some.inj e
      exact d w' (by rw [← q']; exact hocd)
theorem store_ok {M : Model} {A : Around} {E : Value → Shared → Prop} {i : Nat} {x : Str} {v : V} {u : Value} {Q : Unit → Shared → Prop} (I : Inv X pins σ H s) (hN : X.N.Nodup) (hi : X.N[i]? = some x) (hx : Loc X.env.scope x) (r : RelV v u)
    (h : ∀ s', Inv X pins (σ.set i (some v)) H s' → Q () s') (hf : X.fn x = true ∨ X.env.scope.names.lookup x = some .local := by first | exact .inl rfl | exact .inr rfl | assumption) : wpAny M A (storeName X.env x u) Q E s :=
  store_ok2 I hN hi hx r (fun s' I' _ => h s' I') hf
/-- behind a call or a block, the state as it is -/
theorem Inv.call' {s' : Shared} {ch : List Addr} (I : Inv X pins σ H s) (ho : s'.os = s.os) (u : Un (frs X.stack) ch H H' s.heap s'.heap) (hok : HOk X.prog X.w H' s'.heap) (hg : AllBare s'.gens)
    (hch : ∀ b ∈ ch, (b ∈ X.ex ∨ X.s₀.heap.objs.size ≤ b) ∧ b ≠ X.env.locals ∧ (∀ x c, X.env.cells.lookup x = some c → c ≠ b) ∧ ∀ p ∈ X.pn ++ pins, p.1 ≠ b) : Inv X pins σ H' s' := by
  obtain ⟨h', g', d', t', o'⟩ := s'
  have e : o' = s.os := ho
  subst e
  exact I.call (g' := g') (t' := t') (d' := d') u hok hg hch
end

/-! ### the judgements -/
/-- an exception: its class, its own dict's address (where it has one), the abstract heap behind it -/
abbrev XK := Value → Option Addr → Hp → Prop
abbrev St := List (Option V)
abbrev VK := V → Hp → Prop
/-- an expression's reading; a test's; an argument list's -/
abbrev TE := St → Hp → VK → Prop
abbrev TT := St → Hp → (Bool → Hp → Prop) → Prop
abbrev TA := St → Hp → (List V → Hp → Prop) → Prop
/-- what is wanted behind a statement -/
structure Ends where
  nx : St → Hp → Prop
  rt : VK
  bk : St → Hp → Prop := fun _ _ => False
  ct : St → Hp → Prop := fun _ _ => False
abbrev TS := Ends → St → Hp → Prop

def EP (X : Cx) (pins : List (Addr × Obj)) (σ : St) (Q : VK) (u : Value) (s' : Shared) : Prop := ∃ v H', Inv X pins σ H' s' ∧ RelV v u ∧ Q v H'
def TP (X : Cx) (pins : List (Addr × Obj)) (σ : St) (Q : Bool → Hp → Prop) (b : Bool) (s' : Shared) : Prop := ∃ H', Inv X pins σ H' s' ∧ Q b H'
def AP (X : Cx) (pins : List (Addr × Obj)) (σ : St) (Q : List V → Hp → Prop) (us : List Value) (s' : Shared) : Prop := ∃ vs H', Inv X pins σ H' s' ∧ Vals vs us ∧ Q vs H'
def SP (X : Cx) (pins : List (Addr × Obj)) (D : Ends) (f : Flow) (s' : Shared) : Prop :=
  match f with
  | .next => ∃ σ' H', Inv X pins σ' H' s' ∧ D.nx σ' H'
  | .brk => ∃ σ' H', Inv X pins σ' H' s' ∧ D.bk σ' H'
  | .cont => ∃ σ' H', Inv X pins σ' H' s' ∧ D.ct σ' H'
  | .ret u => ∃ v σ' H', Inv X pins σ' H' s' ∧ RelV v u ∧ D.rt v H'

def PE (X : Cx) (e : Expr) (t : TE) : Prop :=
  ∀ (pins : List (Addr × Obj)) (s : Shared) (σ : St) (H : Hp) (Q : VK), Inv X pins σ H s → t σ H Q → wpAny (model X.prog X.w) X.A (eval e X.env) (EP X pins σ Q) X.xe s
def PT (X : Cx) (e : Expr) (t : TT) : Prop :=
  ∀ (pins : List (Addr × Obj)) (s : Shared) (σ : St) (H : Hp) (Q : Bool → Hp → Prop), Inv X pins σ H s → t σ H Q → wpAny (model X.prog X.w) X.A (isTrue e X.env (eval e X.env)) (TP X pins σ Q) X.xe s
/-- a test whatever its 'whole' is (and, or) -/
def PW (X : Cx) (e : Expr) (t : TT) : Prop :=
  ∀ (whole : Sem Value) (pins : List (Addr × Obj)) (s : Shared) (σ : St) (H : Hp) (Q : Bool → Hp → Prop), Inv X pins σ H s → t σ H Q → wpAny (model X.prog X.w) X.A (isTrue e X.env whole) (TP X pins σ Q) X.xe s
theorem PW.pt {X : Cx} {e : Expr} {t : TT} (h : PW X e t) : PT X e t := h _
/-- an argument list (no star), from the left -/
def PA (X : Cx) (es : List Expr) (t : TA) : Prop :=
  ∀ (pos : Pos) (pins : List (Addr × Obj)) (s : Shared) (σ : St) (H : Hp) (Q : List V → Hp → Prop), Inv X pins σ H s → t σ H Q → wpAny (model X.prog X.w) X.A (spliced (backTo pos (starEach es X.env))) (AP X pins σ Q) X.xe s
def PS (X : Cx) (st : Stmt) (t : TS) : Prop :=
  ∀ (pins : List (Addr × Obj)) (s : Shared) (σ : St) (H : Hp) (D : Ends), Inv X pins σ H s → t D σ H → wpAny (model X.prog X.w) X.A (exec st X.env) (SP X pins D) X.xe s
def PSs (X : Cx) (st : List Stmt) (t : TS) : Prop :=
  ∀ (pins : List (Addr × Obj)) (s : Shared) (σ : St) (H : Hp) (D : Ends), Inv X pins σ H s → t D σ H → wpAny (model X.prog X.w) X.A (execs st X.env) (SP X pins D) X.xe s
/-- weaken the end -/
theorem thn {α : Type} {t : Sem α} {Q Q' : α → Shared → Prop} {M : Model} {A : Around} {E : Value → Shared → Prop} {s : Shared} (h : wpAny M A t Q E s) (hQ : ∀ a s, Q a s → Q' a s) : wpAny M A t Q' E s := wpAny_mono h hQ fun _ _ x => x
end L2

namespace L2
open PySem PySem.Spec PyProof.Rows
section
variable {X : Cx}

/-- two expressions in a row -/
theorem bin {a b : Expr} {ta tb : TE} (ha : PE X a ta) (hb : PE X b tb) {pins : List (Addr × Obj)} {s : Shared} {σ : St} {H : Hp} {R : V → V → Hp → Prop} (I : Inv X pins σ H s) (h : ta σ H fun x H1 => tb σ H1 fun y H2 => R x y H2)
    {α : Type} {Q : α → Shared → Prop} {f : Value → Value → Sem α}
    (hf : ∀ v u s2 x y H2, Inv X pins σ H2 s2 → RelV x v → RelV y u → R x y H2 → wpAny (model X.prog X.w) X.A (f v u) Q X.xe s2) :
    wpAny (model X.prog X.w) X.A (eval a X.env) (fun v s₁ => wpAny (model X.prog X.w) X.A (eval b X.env) (fun u s₂ => wpAny (model X.prog X.w) X.A (f v u) Q X.xe s₂) X.xe s₁) X.xe s := by
  refine thn (ha pins s σ H _ I h) fun v s1 ⟨x, H1, I1, r1, q1⟩ => ?_
  refine thn (hb pins s1 σ H1 _ I1 q1) fun u s2 ⟨y, H2, I2, r2, q2⟩ => ?_
  exact hf v u s2 x y H2 I2 r1 r2 q2

/-! ### names and constants -/
def tVar (i : Nat) : TE := fun σ H Q => ∃ v, σ[i]? = some (some v) ∧ Q v H
def tC (v : V) : TE := fun _ H Q => Q v H
theorem pe_var {i : Nat} {x : Str} {pos : Pos} (hN : X.N[i]? = some x) (hv : Vis X.env.scope x) (hd : (x == ("__debug__" : Str)) = false := by decide) (hcd : (x == ("__classdict__" : Str)) = false := by decide) : PE X (.Name x pos) (tVar i) := by
  intro pins s σ H Q I h
  obtain ⟨v, e, h⟩ := h
  obtain ⟨m, hn, hl⟩ := I.loc
  obtain ⟨u, r, l⟩ := hl i x v hN e hv
  have fin : EP X pins σ Q u s := ⟨v, H, I, r, h⟩
  rcases l with ⟨hk, hm⟩ | ⟨hk, c, hc, hcell⟩
  · exact wpAny_Name (wpAny_loadName_local I.ok.kind hk hn hm fin) hd
  · rcases hk with hk | hk
    · exact wpAny_Name (wpAny_loadName_cell I.ok.kind hk hc hcell fin) hd
    · exact wpAny_Name (wpAny_loadName_free I.ok.kind hk hc hcell fin hcd) hd
theorem pe_int {i j pos} : PE X (.Constant (.int i) j pos) (tC (.int i)) := fun _ _ _ H _ I h => wpAny_Constant_int ⟨.int i, H, I.tok _, ⟨_, rfl⟩, h⟩
theorem pe_bl {b j pos} : PE X (.Constant (.bool b) j pos) (tC (.bl b)) := fun _ _ _ H _ I h => Constant_bool ⟨.bl b, H, I, rfl, h⟩
theorem pe_non {j pos} : PE X (.Constant .none j pos) (tC .non) := fun _ _ _ H _ I h => Constant_none ⟨.non, H, I, rfl, h⟩
theorem pe_str {x j pos} : PE X (.Constant (.str x) j pos) (tC (.str x)) := fun _ _ _ H _ I h => Calls.Constant_str ⟨.str x, H, I.tok _, ⟨_, rfl⟩, h⟩

/-- a global name of the def -/
def Gl (X : Cx) (x : Str) : Prop := X.env.kindOf x = some .globalImplicit
theorem ld_glob {E : Value → Shared → Prop} {pins : List (Addr × Obj)} {s : Shared} {σ : St} {H : Hp} {x : Str} {u : Value} {pos : Pos} {Q : Value → Shared → Prop} (I : Inv X pins σ H s) (hg : Gl X x) (hm : X.mg x = some u) (h : Q u s)
    (hd : (x == ("__debug__" : Str)) = false := by decide) : wpAny (model X.prog X.w) X.A (eval (.Name x pos) X.env) Q E s :=
  Calls.Name_function_global I.ok.kind hg (Calls.loadGlobal_global (by rw [I.ok.glob]; exact I.mod.glob.keeps I.bk) hm h) hd
theorem ld_blt {E : Value → Shared → Prop} {pins : List (Addr × Obj)} {s : Shared} {σ : St} {H : Hp} {x : Str} {u : Value} {pos : Pos} {Q : Value → Shared → Prop} (I : Inv X pins σ H s) (hg : Gl X x) (hm : X.mg x = none) (hv : bootBuiltins x = some u) (h : Q u s)
    (hn : x ≠ "__name__" := by decide) (hd : (x == ("__debug__" : Str)) = false := by decide) : wpAny (model X.prog X.w) X.A (eval (.Name x pos) X.env) Q E s := by
  obtain ⟨mb, h1, h2⟩ := I.mod.blt
  exact Calls.Name_function_global I.ok.kind hg (Calls.loadGlobal_builtin (by rw [I.ok.glob]; exact I.mod.glob.keeps I.bk) hm (by rw [I.ok.blt]; exact h1.keeps I.bk) ((h2 x hn).trans hv) h) hd
/-- a module's constant, a class, a function, as a value -/
theorem pe_glob {x : Str} {v : V} {u : Value} {pos : Pos} (hg : Gl X x) (hm : X.mg x = some u) (r : RelV v u) (hd : (x == ("__debug__" : Str)) = false := by decide) : PE X (.Name x pos) (tC v) :=
  fun _ _ _ H _ I h => ld_glob I hg hm ⟨v, H, I, r, h⟩ hd
theorem pe_bltn {x : Str} {v : V} {u : Value} {pos : Pos} (hg : Gl X x) (hm : X.mg x = none) (hv : bootBuiltins x = some u) (r : RelV v u) (hn : x ≠ "__name__" := by decide) (hd : (x == ("__debug__" : Str)) = false := by decide) : PE X (.Name x pos) (tC v) :=
  fun _ _ _ H _ I h => ld_blt I hg hm hv ⟨v, H, I, r, h⟩ hn hd

/-! ### arithmetic -/
/-- two ints -/
def t2I (ta tb : TE) (k : Int → Int → Hp → Prop) : St → Hp → Prop := fun σ H => ta σ H fun x H1 => tb σ H1 fun y H2 => ∃ i j, x = .int i ∧ y = .int j ∧ k i j H2
def tAdd (ta tb : TE) : TE := fun σ H Q => t2I ta tb (fun i j H2 => Q (.int (i + j)) H2) σ H
def tSub (ta tb : TE) : TE := fun σ H Q => t2I ta tb (fun i j H2 => Q (.int (i - j)) H2) σ H
/-- the left factor below 2^64 -/
def tMul (ta tb : TE) : TE := fun σ H Q => t2I ta tb (fun i j H2 => (-(2 ^ 64) < i ∧ i < 2 ^ 64) ∧ Q (.int (i * j)) H2) σ H
variable {a b : Expr} {ta tb : TE} {pos : Pos}
theorem pe_add (ha : PE X a ta) (hb : PE X b tb) : PE X (.BinOp a .Add b pos) (tAdd ta tb) := by
  intro pins s σ H Q I h
  refine wpAny_BinOp (bin ha hb I h fun v u s2 x y H2 I2 rx ry q => ?_)
  obtain ⟨i, j, rfl, rfl, q⟩ := q
  obtain ⟨t, rfl⟩ := rx
  obtain ⟨t', rfl⟩ := ry
  exact add_int ⟨.int _, H2, I2.tok _, ⟨_, rfl⟩, q⟩
theorem pe_sub (ha : PE X a ta) (hb : PE X b tb) : PE X (.BinOp a .Sub b pos) (tSub ta tb) := by
  intro pins s σ H Q I h
  refine wpAny_BinOp (bin ha hb I h fun v u s2 x y H2 I2 rx ry q => ?_)
  obtain ⟨i, j, rfl, rfl, q⟩ := q
  obtain ⟨t, rfl⟩ := rx
  obtain ⟨t', rfl⟩ := ry
  exact sub_int ⟨.int _, H2, I2.tok _, ⟨_, rfl⟩, q⟩
theorem pe_mul (ha : PE X a ta) (hb : PE X b tb) : PE X (.BinOp a .Mult b pos) (tMul ta tb) := by
  intro pins s σ H Q I h
  refine wpAny_BinOp (bin ha hb I h fun v u s2 x y H2 I2 rx ry q => ?_)
  obtain ⟨i, j, rfl, rfl, ⟨q1, q2⟩, q⟩ := q
  obtain ⟨t, rfl⟩ := rx
  obtain ⟨t', rfl⟩ := ry
  exact mul_int ⟨.int _, H2, I2.tok _, ⟨_, rfl⟩, q⟩ (.of_left (intBits_le_64 q1 q2))

/-! ### comparisons -/
def PC (X : Cx) (op : CmpOp) (a b : Expr) (t : TE) : Prop :=
  ∀ (pins : List (Addr × Obj)) (s : Shared) (σ : St) (H : Hp) (Q : VK), Inv X pins σ H s → t σ H Q →
    wpAny (model X.prog X.w) X.A (eval a X.env) (fun v s₁ => wpAny (model X.prog X.w) X.A (eval b X.env) (fun u s₂ => wpAny (model X.prog X.w) X.A (compareOp op v u) (EP X pins σ Q) X.xe s₂) X.xe s₁) X.xe s
theorem nobehind (b : Expr) {op : CmpOp} (h : op ≠ .In) (h2 : op ≠ .NotIn) : behindInMarks op b = false := by
  have e1 : (op == CmpOp.In) = false := by cases op <;> first | rfl | exact absurd rfl h
  have e2 : (op == CmpOp.NotIn) = false := by cases op <;> first | rfl | exact absurd rfl h2
  cases b <;> simp [behindInMarks, e1, e2]
def tCmp (p : Int → Int → Bool) (ta tb : TE) : TE := fun σ H Q => t2I ta tb (fun i j H2 => Q (.bl (p i j)) H2) σ H
abbrev tLt : TE → TE → TE := tCmp fun i j => decide (i < j)
abbrev tLe : TE → TE → TE := tCmp fun i j => decide (i ≤ j)
abbrev tGt : TE → TE → TE := tCmp fun i j => decide (j < i)
abbrev tGe : TE → TE → TE := tCmp fun i j => decide (j ≤ i)
abbrev tEqI : TE → TE → TE := tCmp fun i j => decide (i = j)
abbrev tNeI : TE → TE → TE := tCmp fun i j => !decide (i = j)
/-- a comparison of two ints, by its rule -/
theorem pc_int {op : CmpOp} {p : Int → Int → Bool} (ha : PE X a ta) (hb : PE X b tb)
    (rule : ∀ (i j : Int) (t u : Tok) (Q : Value → Shared → Prop) (s : Shared), Q (.bool (p i j)) s → wpAny (model X.prog X.w) X.A (compareOp op (.int i t) (.int j u)) Q X.xe s) : PC X op a b (tCmp p ta tb) := by
  intro pins s σ H Q I h
  refine bin ha hb I h fun v u s2 x y H2 I2 rx ry q => ?_
  obtain ⟨i, j, rfl, rfl, q⟩ := q
  obtain ⟨t, rfl⟩ := rx
  obtain ⟨t', rfl⟩ := ry
  exact rule i j t t' _ s2 ⟨.bl _, H2, I2, rfl, q⟩
theorem pc_lt (ha : PE X a ta) (hb : PE X b tb) : PC X .Lt a b (tLt ta tb) := pc_int ha hb fun _ _ _ _ _ _ h => lt_int h
theorem pc_le (ha : PE X a ta) (hb : PE X b tb) : PC X .LtE a b (tLe ta tb) := pc_int ha hb fun _ _ _ _ _ _ h => le_int h
theorem pc_gt (ha : PE X a ta) (hb : PE X b tb) : PC X .Gt a b (tGt ta tb) := pc_int ha hb fun _ _ _ _ _ _ h => gt_int h
theorem pc_ge (ha : PE X a ta) (hb : PE X b tb) : PC X .GtE a b (tGe ta tb) := pc_int ha hb fun _ _ _ _ _ _ h => ge_int h
theorem pc_eqI (ha : PE X a ta) (hb : PE X b tb) : PC X .Eq a b (tEqI ta tb) := pc_int ha hb fun _ _ _ _ _ _ h => eq_int (by rw [Bool.beq_eq_decide_eq]; exact h)
theorem pc_neI (ha : PE X a ta) (hb : PE X b tb) : PC X .NotEq a b (tNeI ta tb) := pc_int ha hb fun _ _ _ _ _ _ h => ne_int (by rw [bne, Bool.beq_eq_decide_eq]; exact h)
/-- is None -/
def tIsN (ta : TE) : TE := fun σ H Q => ta σ H fun x H1 => Q (.bl (decide (x = .non))) H1
def tNotN (ta : TE) : TE := fun σ H Q => ta σ H fun x H1 => Q (.bl (!decide (x = .non))) H1
theorem RelV.none_iff {x : V} {v : Value} (r : RelV x v) : (v == Value.none) = decide (x = .non) := by
  cases x with
  | non => cases r; rfl
  | bl _ => cases r; rfl
  | int _ => obtain ⟨t, rfl⟩ := r; rfl
  | str _ => obtain ⟨t, rfl⟩ := r; rfl
  | byt _ => obtain ⟨t, rfl⟩ := r; rfl
  | flt _ => obtain ⟨t, rfl⟩ := r; rfl
  | ref _ => cases r; rfl
  | ty _ => cases r; rfl
theorem pc_isN {j pos'} (ha : PE X a ta) : PC X .Is a (.Constant .none j pos') (tIsN ta) := by
  intro pins s σ H Q I h
  refine thn (ha pins s σ H _ I h) fun v s1 ⟨x, H1, I1, r1, q1⟩ => ?_
  exact Constant_none (is_none_gen ⟨.bl _, H1, I1, by rw [r1.none_iff]; rfl, q1⟩)
theorem pc_notN {j pos'} (ha : PE X a ta) : PC X .IsNot a (.Constant .none j pos') (tNotN ta) := by
  intro pins s σ H Q I h
  refine thn (ha pins s σ H _ I h) fun v s1 ⟨x, H1, I1, r1, q1⟩ => ?_
  exact Constant_none (isnot_none_gen ⟨.bl _, H1, I1, by rw [r1.none_iff]; rfl, q1⟩)
/-- a comparison as a value, as a test -/
def tB (t : TE) : TT := fun σ H Q => t σ H fun x H1 => ∃ c, x = .bl c ∧ Q c H1
theorem pe_cmp {op : CmpOp} {t : TE} (h : PC X op a b t) (h1 : behindInMarks op b = false := by first | exact nobehind _ (by decide) (by decide) | rfl) : PE X (.Compare a [op] [b] pos) t := fun pins s σ H Q I hw => wpAny_Compare1 (h pins s σ H Q I hw) h1
theorem pt_cmp {op : CmpOp} {t : TE} (h : PC X op a b t) (h1 : behindInMarks op b = false := by first | exact nobehind _ (by decide) (by decide) | rfl) : PT X (.Compare a [op] [b] pos) (tB t) := by
  intro pins s σ H Q I hw
  refine wpAny_isTrue_Compare1 (thn (h pins s σ H _ I hw) fun v s1 h1 => thn h1 fun u s2 h2 => thn h2 fun c s3 ⟨x, H1, I1, r1, q1⟩ => ?_) h1
  obtain ⟨d, rfl, q⟩ := q1
  cases r1
  exact wpAny_truthy_bool ⟨H1, I1, q⟩
/-- an expression whose value is a bool, as a test -/
theorem pt_val {e : Expr} {t : TE} (h : PE X e t) (he : ∀ whole, isTrue e X.env whole = (do let v ← whole; standAt e.pos; holding [v] (truthy v)) := by intro _; rfl) : PT X e (tB t) := by
  intro pins s σ H Q I hw
  refine isTrue_plain (thn (h pins s σ H _ I hw) fun v s1 ⟨x, H1, I1, r1, q1⟩ => ?_) (he _)
  obtain ⟨d, rfl, q⟩ := q1
  cases r1
  exact wpAny_truthy_bool ⟨H1, I1, q⟩

/-! ### and, or, not -/
variable {tA tB' : TT} {rest : List Expr}
def tAnd (t u : TT) : TT := fun σ H Q => t σ H fun c H1 => if c = true then u σ H1 Q else Q false H1
def tOr (t u : TT) : TT := fun σ H Q => t σ H fun c H1 => if c = true then Q true H1 else u σ H1 Q
def tNot (t : TT) : TT := fun σ H Q => t σ H fun c H1 => Q (!c) H1
theorem pw_and1 (ha : PT X a tA) : PW X (.BoolOp .And [a] pos) tA := by
  intro wh pins s σ H Q I h
  refine isTrue_and (thn (ha pins s σ H Q I h) fun c s1 e => ?_)
  cases c with
  | true => exact isTrue_and_nil e
  | false => exact e
theorem pw_or1 (ha : PT X a tA) : PW X (.BoolOp .Or [a] pos) tA := by
  intro wh pins s σ H Q I h
  refine isTrue_or (thn (ha pins s σ H Q I h) fun c s1 e => ?_)
  cases c with
  | false => exact isTrue_or_nil e
  | true => exact e
theorem pw_and (ha : PT X a tA) (hb : PW X (.BoolOp .And (b :: rest) pos) tB') : PW X (.BoolOp .And (a :: b :: rest) pos) (tAnd tA tB') := by
  intro wh pins s σ H Q I h
  refine isTrue_and (thn (ha pins s σ H _ I h) fun c s1 ⟨H1, I1, q1⟩ => ?_)
  cases c with
  | true => exact hb wh pins s1 σ H1 Q I1 q1
  | false => exact ⟨H1, I1, q1⟩
theorem pw_or (ha : PT X a tA) (hb : PW X (.BoolOp .Or (b :: rest) pos) tB') : PW X (.BoolOp .Or (a :: b :: rest) pos) (tOr tA tB') := by
  intro wh pins s σ H Q I h
  refine isTrue_or (thn (ha pins s σ H _ I h) fun c s1 ⟨H1, I1, q1⟩ => ?_)
  cases c with
  | true => exact ⟨H1, I1, q1⟩
  | false => exact hb wh pins s1 σ H1 Q I1 q1
theorem pt_not (ha : PT X a tA) : PT X (.UnaryOp .Not a pos) (tNot tA) := by
  intro pins s σ H Q I h
  exact isTrue_not (ha pins s σ H (fun c H1 => Q (!c) H1) I h)
/-- .. as values (bools) -/
def tAndV (ta tb : TE) : TE := fun σ H Q => ta σ H fun x H1 => ∃ c, x = .bl c ∧ if c = true then tb σ H1 Q else Q (.bl false) H1
def tOrV (ta tb : TE) : TE := fun σ H Q => ta σ H fun x H1 => ∃ c, x = .bl c ∧ if c = true then Q (.bl true) H1 else tb σ H1 Q
def tNotV (ta : TE) : TE := fun σ H Q => ta σ H fun x H1 => ∃ c, x = .bl c ∧ Q (.bl (!c)) H1
theorem pe_one {op} {t : TE} (h : PE X a t) : PE X (.BoolOp op [a] pos) t := fun pins s σ H Q I hw => BoolOp_one (h pins s σ H Q I hw)
theorem pe_and (ha : PE X a ta) (hb : PE X (.BoolOp .And (b :: rest) pos) tb) : PE X (.BoolOp .And (a :: b :: rest) pos) (tAndV ta tb) := by
  intro pins s σ H Q I h
  refine BoolOp_and (thn (ha pins s σ H _ I h) fun v s1 ⟨x, H1, I1, r1, q1⟩ => ?_)
  obtain ⟨c, rfl, q1⟩ := q1
  cases r1
  refine wpAny_truthy_bool ?_
  cases c with
  | true => exact hb pins s1 σ H1 Q I1 q1
  | false => exact ⟨.bl false, H1, I1, rfl, q1⟩
theorem pe_or (ha : PE X a ta) (hb : PE X (.BoolOp .Or (b :: rest) pos) tb) : PE X (.BoolOp .Or (a :: b :: rest) pos) (tOrV ta tb) := by
  intro pins s σ H Q I h
  refine BoolOp_or (thn (ha pins s σ H _ I h) fun v s1 ⟨x, H1, I1, r1, q1⟩ => ?_)
  obtain ⟨c, rfl, q1⟩ := q1
  cases r1
  refine wpAny_truthy_bool ?_
  cases c with
  | false => exact hb pins s1 σ H1 Q I1 q1
  | true => exact ⟨.bl true, H1, I1, rfl, q1⟩
theorem pe_not (ha : PE X a ta) : PE X (.UnaryOp .Not a pos) (tNotV ta) := by
  intro pins s σ H Q I h
  refine UnaryOp_ (thn (ha pins s σ H _ I h) fun v s1 ⟨x, H1, I1, r1, q1⟩ => ?_)
  obtain ⟨c, rfl, q1⟩ := q1
  cases r1
  exact not_of (wpAny_truthy_bool ⟨.bl (!c), H1, I1, rfl, q1⟩)
/-- a if t else b -/
def tIf (t : TT) (ta tb : TE) : TE := fun σ H Q => t σ H fun c H1 => if c = true then ta σ H1 Q else tb σ H1 Q
theorem pe_ifExp {c : Expr} (hc : PT X c tA) (ha : PE X a ta) (hb : PE X b tb) : PE X (.IfExp c a b pos) (tIf tA ta tb) := by
  intro pins s σ H Q I h
  refine wpAny_IfExp (thn (hc pins s σ H _ I h) fun d s1 ⟨H1, I1, q1⟩ => ?_)
  cases d with
  | true => exact ha pins s1 σ H1 Q I1 q1
  | false => exact hb pins s1 σ H1 Q I1 q1
end
end L2

namespace L2
open PySem PySem.Spec PyProof.Rows

/-! ### a list, a tuple that is read: tracked, frozen, or an object of the module -/
def SqL (K : PySem.W.Frag) (H : Hp) (a : Addr) (xs : List V) : Prop :=
  Rd H a (.lst xs) ∨
    ∃ (o : Obj) (its : Array Value) (n : Nat), K.lookup a = some o ∧ o.cls = .type "list" ∧ o.dict = none ∧ o.data = .seq its n ∧ its.size ≤ sizeLine ∧ Vals xs its.toList
def SqT (K : PySem.W.Frag) (H : Hp) (a : Addr) (xs : List V) : Prop :=
  Rd H a (.tup xs) ∨
    ∃ (o : Obj) (its : Array Value) (n : Nat), K.lookup a = some o ∧ o.cls = .type "tuple" ∧ o.data = .seq its n ∧ its.size ≤ sizeLine ∧ Vals xs its.toList
def absV : Value → Option V
  | .none => some .non
  | .bool b => some (.bl b)
  | .int i _ => some (.int i)
  | .str x _ => some (.str x)
  | .bytes b _ => some (.byt b)
  | .float b _ => some (.flt b)
  | .ref a => some (.ref a)
  | .type n => some (.ty n)
  | _ => none
theorem RelV.abs {x : V} {u : Value} (r : RelV x u) : absV u = some x := by
  cases x with
  | non => cases r; rfl
  | bl _ => cases r; rfl
  | int _ => obtain ⟨t, rfl⟩ := r; rfl
  | str _ => obtain ⟨t, rfl⟩ := r; rfl
  | byt _ => obtain ⟨t, rfl⟩ := r; rfl
  | flt _ => obtain ⟨t, rfl⟩ := r; rfl
  | ref _ => cases r; rfl
  | ty _ => cases r; rfl
theorem RelV.inj {x y : V} {u : Value} (r : RelV x u) (q : RelV y u) : x = y := Option.some.inj (r.abs.symm.trans q.abs)
theorem Vals.inj : ∀ {xs ys : List V} {us : List Value}, Vals xs us → Vals ys us → xs = ys
  | _, _, _, .nil, .nil => rfl
  | _, _, _, .cons r t, .cons r' t' => by rw [r.inj r', Vals.inj t t']
section
variable {X : Cx} {pins : List (Addr × Obj)} {σ : St} {H : Hp} {s : Shared} {a : Addr} {xs ys : List V}
theorem SqL.of {K : PySem.W.Frag} (h : H a = some (.lst xs)) : SqL K H a xs := .inl (.inl h)
theorem SqT.of {K : PySem.W.Frag} (h : H a = some (.tup xs)) : SqT K H a xs := .inl (.inl h)
theorem Inv.list (I : Inv X pins σ H s) (h : SqL X.K H a xs) : ∃ its : List Value, Vals xs its ∧ PlainL s.heap a its.toArray ∧ xs.length ≤ sizeLine := by
  rcases h with h | ⟨o, its, n, hk, hc, hd, hs, hz, r⟩
  · obtain ⟨z, its, n, r, e⟩ := h.ok I.hok
    exact ⟨its, r, ⟨_, n, e, rfl, rfl, rfl⟩, z⟩
  · refine ⟨its.toList, r, ⟨o, n, I.kIn a o hk, hc, hd, by simpa using hs⟩, ?_⟩
    have e := r.length
    simp only [Array.length_toList] at e
    omega
theorem Inv.tuple (I : Inv X pins σ H s) (h : SqT X.K H a xs) : ∃ its : List Value, Vals xs its ∧ IsTup s.heap a its.toArray ∧ xs.length ≤ sizeLine := by
  rcases h with h | ⟨o, its, n, hk, hc, hs, hz, r⟩
  · obtain ⟨z, its, r, p⟩ := h.ok I.hok
    exact ⟨its, r, p, z⟩
  · refine ⟨its.toList, r, ⟨o, I.kIn a o hk, hc, n, by simpa using hs⟩, ?_⟩
    have e := r.length
    simp only [Array.length_toList] at e
    omega
theorem Inv.list_inj (I : Inv X pins σ H s) (h : SqL X.K H a xs) (h' : SqL X.K H a ys) : xs = ys := by
  obtain ⟨its, r, ⟨o, n, e, _, _, d⟩, _⟩ := I.list h
  obtain ⟨its', r', ⟨o', n', e', _, _, d'⟩, _⟩ := I.list h'
  rw [e] at e'; cases e'
  rw [d] at d'
  injection d' with d1 _
  have : its = its' := by simpa using congrArg Array.toList d1
  subst this
  exact r.inj r'
theorem Inv.tuple_inj (I : Inv X pins σ H s) (h : SqT X.K H a xs) (h' : SqT X.K H a ys) : xs = ys := by
  obtain ⟨its, r, ⟨o, e, _, n, d⟩, _⟩ := I.tuple h
  obtain ⟨its', r', ⟨o', e', _, n', d'⟩, _⟩ := I.tuple h'
  rw [e] at e'; cases e'
  rw [d] at d'
  injection d' with d1 _
  have : its = its' := by simpa using congrArg Array.toList d1
  subst this
  exact r.inj r'
end

/-! ### another wish about exceptions -/
abbrev Cx.wish (X : Cx) (E : Value → Shared → Prop) : Cx := { X with xe := E }
/-- no exception leaves -/
abbrev Cx.nox (X : Cx) : Cx := X.wish fun _ _ => False
theorem Cx.Ok.wish {X : Cx} (ok : X.Ok) (E : Value → Shared → Prop) : (X.wish E).Ok :=
  ⟨ok.mod, ok.kind, ok.glob, ok.blt, ok.above, ok.inj, ok.has, ok.cab, ok.hd, ok.frames, ok.stk, ok.exf, ok.bs, ok.bsz, ok.noex, ok.exfs, ok.funs, ok.frf⟩
theorem Cx.Ok.unwish {X : Cx} {E : Value → Shared → Prop} (ok : (X.wish E).Ok) : X.Ok :=
  ⟨ok.mod, ok.kind, ok.glob, ok.blt, ok.above, ok.inj, ok.has, ok.cab, ok.hd, ok.frames, ok.stk, ok.exf, ok.bs, ok.bsz, ok.noex, ok.exfs, ok.funs, ok.frf⟩
section
variable {X : Cx} {pins : List (Addr × Obj)} {σ : St} {H : Hp} {s : Shared} {E : Value → Shared → Prop}
theorem Inv.wish (I : Inv X pins σ H s) (E : Value → Shared → Prop) : Inv (X.wish E) pins σ H s := ⟨I.ok.wish E, I.os, I.bare, I.base, I.loc, I.cell, I.free, I.freeC, I.pin, I.hok, I.len⟩
theorem Inv.unwish (I : Inv (X.wish E) pins σ H s) : Inv X pins σ H s := ⟨I.ok.unwish, I.os, I.bare, I.base, I.loc, I.cell, I.free, I.freeC, I.pin, I.hok, I.len⟩
theorem SP.unwish {D : Ends} {f : Flow} {s' : Shared} (h : SP (X.wish E) pins D f s') : SP X pins D f s' := by
  cases f with
  | next => obtain ⟨σ', H', I, q⟩ := h; exact ⟨σ', H', I.unwish, q⟩
  | brk => obtain ⟨σ', H', I, q⟩ := h; exact ⟨σ', H', I.unwish, q⟩
  | cont => obtain ⟨σ', H', I, q⟩ := h; exact ⟨σ', H', I.unwish, q⟩
  | ret u => obtain ⟨v, σ', H', I, r, q⟩ := h; exact ⟨v, σ', H', I.unwish, r, q⟩
theorem PE.nox {e : Expr} {t : TE} (h : PE X.nox e t) : PE X e t := fun pins s σ H Q I hw =>
  wpAny_mono (h pins s σ H Q (I.wish _) hw) (fun _ _ ⟨v, H', I', r, q⟩ => ⟨v, H', I'.unwish, r, q⟩) fun _ _ z => False.elim z
theorem PT.nox {e : Expr} {t : TT} (h : PT X.nox e t) : PT X e t := fun pins s σ H Q I hw =>
  wpAny_mono (h pins s σ H Q (I.wish _) hw) (fun _ _ ⟨H', I', q⟩ => ⟨H', I'.unwish, q⟩) fun _ _ z => False.elim z
theorem PSs.nox {st : List Stmt} {t : TS} (h : PSs X.nox st t) : PSs X st t := fun pins s σ H D I hw =>
  wpAny_mono (h pins s σ H D (I.wish _) hw) (fun _ _ q => q.unwish) fun _ _ z => False.elim z
end

/-! ### blocks and small statements -/
section
variable {X : Cx} {st : Stmt} {rest : List Stmt} {t u : TS} {e : Expr} {te : TE} {pos : Pos}
def tNext : TS := fun D σ H => D.nx σ H
def tSeq (t u : TS) : TS := fun D σ H => t { D with nx := u D } σ H
theorem pss_nil : PSs X [] tNext := fun _ _ σ H _ I h => wpAny_execs_nil ⟨σ, H, I, h⟩
theorem pss_cons (h1 : PS X st t) (h2 : PSs X rest u) : PSs X (st :: rest) (tSeq t u) := by
  intro pins s σ H D I h
  refine wpAny_execs_cons (thn (h1 pins s σ H { D with nx := u D } I h) fun f s1 q => ?_)
  cases f with
  | next =>
    obtain ⟨σ', H', I', q⟩ := q
    exact h2 pins s1 σ' H' D I' q
  | ret v => exact q
  | brk => exact q
  | cont => exact q
theorem pss_one (h1 : PS X st t) : PSs X [st] t := by
  intro pins s σ H D I h
  refine wpAny_execs_cons (thn (h1 pins s σ H D I h) fun f s1 q => ?_)
  cases f with
  | next => exact wpAny_execs_nil q
  | ret v => exact q
  | brk => exact q
  | cont => exact q
def tBreak : TS := fun D σ H => D.bk σ H
def tCont : TS := fun D σ H => D.ct σ H
theorem ps_pass : PS X (.Pass pos) tNext := fun _ _ σ H _ I h => wpAny_Pass ⟨σ, H, I, h⟩
theorem ps_break : PS X (.Break pos) tBreak := fun _ _ σ H _ I h => wpAny_Break ⟨σ, H, I, h⟩
theorem ps_continue : PS X (.Continue pos) tCont := fun _ _ σ H _ I h => wpAny_Continue ⟨σ, H, I, h⟩
/-- in a def's body nothing is shown -/
theorem Inv.quiet {pins : List (Addr × Obj)} {σ : St} {H : Hp} {s : Shared} (I : Inv X pins σ H s) : interactive X.env = false := by simp [interactive, I.ok.kind]
/-- a docstring -/
theorem ps_doc {x j pos pos'} : PS X (.Expr (.Constant (.str x) j pos) pos') tNext := fun _ s σ H _ I h => wpAny_Expr (Calls.Constant_str (show SP X _ _ .next { s with toks := s.toks + 1 } from ⟨σ, H, I.tok _, h⟩)) I.quiet
/-- an expression whose value is dropped -/
def tDrop (te : TE) : TS := fun D σ H => te σ H fun _ H1 => D.nx σ H1
theorem ps_expr (he : PE X e te) (hs : swapsWith e none pos.line X.env = pure false := by rfl) : PS X (.Expr e pos) (tDrop te) := by
  intro pins s σ H D I h
  exact wpAny_Expr_any (thn (he pins s σ H _ I h) fun v s1 ⟨x, H1, I1, r1, q1⟩ => ⟨σ, H1, I1, q1⟩) I.quiet hs
def tRet (te : TE) : TS := fun D σ H => te σ H D.rt
theorem ps_ret (he : PE X e te) : PS X (.Return (some e) pos) (tRet te) := by
  intro pins s σ H D I h
  exact wpAny_Return_some (thn (he pins s σ H _ I h) fun v s1 ⟨x, H1, I1, r1, q1⟩ => ⟨x, σ, H1, I1, r1, q1⟩)
def tRetN : TS := fun D _ H => D.rt .non H
theorem ps_retN : PS X (.Return none pos) tRetN := fun _ _ σ H _ I h => wpAny_Return_none ⟨.non, σ, H, I, rfl, h⟩
def tIfS (c : TT) (t u : TS) : TS := fun D σ H => c σ H fun b H1 => if b = true then t D σ H1 else u D σ H1
theorem ps_if {c : Expr} {a b : List Stmt} {tc : TT} (hc : PT X c tc) (ha : PSs X a t) (hb : PSs X b u) : PS X (.If c a b pos) (tIfS tc t u) := by
  intro pins s σ H D I h
  refine wpAny_If (thn (hc pins s σ H _ I h) fun d s1 ⟨H1, I1, q1⟩ => ?_)
  cases d with
  | true => exact ha pins s1 σ H1 D I1 q1
  | false => exact hb pins s1 σ H1 D I1 q1
/-- code that the proof never comes to -/
def tNever : TS := fun _ _ _ => False
theorem ps_never : PS X st tNever := fun _ _ _ _ _ _ h => h.elim
theorem pss_never {sts : List Stmt} : PSs X sts tNever := fun _ _ _ _ _ _ h => h.elim
end

/-! ### targets -/
abbrev TG := V → St → Hp → (St → Hp → Prop) → Prop
abbrev TGs := List V → St → Hp → (St → Hp → Prop) → Prop
def PG (X : Cx) (target : Expr) (t : TG) : Prop :=
  ∀ (pins : List (Addr × Obj)) (s : Shared) (σ : St) (H : Hp) (v : V) (u : Value) (Q : St → Hp → Prop), Inv X pins σ H s → RelV v u → t v σ H Q →
    wpAny (model X.prog X.w) X.A (assign target X.env u) (fun _ s' => ∃ σ' H', Inv X pins σ' H' s' ∧ Q σ' H') X.xe s
/-- several targets, one after another -/
def PGs (X : Cx) (ts : List Expr) (t : TGs) : Prop :=
  ∀ (pins : List (Addr × Obj)) (s : Shared) (σ : St) (H : Hp) (vs : List V) (us : List Value) (Q : St → Hp → Prop), Inv X pins σ H s → Vals vs us → t vs σ H Q →
    wpAny (model X.prog X.w) X.A (assignInOrder ((assignEach ts X.env).map (·.2)) us) (fun _ s' => ∃ σ' H', Inv X pins σ' H' s' ∧ Q σ' H') X.xe s
/-- o[i] = v, by values -/
abbrev TSet := V → V → V → Hp → (Hp → Prop) → Prop
def PSet (X : Cx) (t : TSet) : Prop :=
  ∀ (pins : List (Addr × Obj)) (s : Shared) (σ : St) (H : Hp) (o i v : V) (ov iv u : Value) (Q : Hp → Prop), Inv X pins σ H s → RelV o ov → RelV i iv → RelV v u → t o i v H Q →
    wpAny (model X.prog X.w) X.A (setItem ov iv u) (fun _ s' => ∃ H', Inv X pins σ H' s' ∧ Q H') X.xe s
/-- a op= b, by values -/
abbrev TIp := V → V → Hp → VK → Prop
def PIp (X : Cx) (op : Operator) (t : TIp) : Prop :=
  ∀ (pins : List (Addr × Obj)) (s : Shared) (σ : St) (H : Hp) (x y : V) (v u : Value) (Q : VK), Inv X pins σ H s → RelV x v → RelV y u → t x y H Q →
    wpAny (model X.prog X.w) X.A (inplaceOp op v u) (EP X pins σ Q) X.xe s
section
variable {X : Cx} {pos : Pos}
def gName (i : Nat) : TG := fun v σ H Q => Q (σ.set i (some v)) H
theorem pg_name {i : Nat} {x : Str} (hN : X.N.Nodup) (hi : X.N[i]? = some x) (hx : Loc X.env.scope x) (hf : X.fn x = true ∨ X.env.scope.names.lookup x = some .local := by first | exact .inl rfl | exact .inr rfl | assumption) : PG X (.Name x pos) (gName i) := by
  intro pins s σ H v u Q I r h
  exact wpAny_assign_Name (store_ok I hN hi hx r (fun s' I' => ⟨_, H, I', h⟩) hf)
def gNil : TGs := fun vs σ H Q => vs = [] ∧ Q σ H
def gCons (t : TG) (u : TGs) : TGs := fun vs σ H Q => ∃ v r, vs = v :: r ∧ t v σ H fun σ' H' => u r σ' H' Q
theorem pgs_nil : PGs X [] gNil := by
  intro pins s σ H vs us Q I r h
  obtain ⟨e, h⟩ := h
  subst e
  cases r
  exact assignInOrder_nil ⟨σ, H, I, h⟩
theorem pgs_cons {e : Expr} {es : List Expr} {t : TG} {u : TGs} (h1 : PG X e t) (h2 : PGs X es u)
    (hs : (assignEach (e :: es) X.env).map (·.2) = assign e X.env :: (assignEach es X.env).map (·.2) := by rfl) : PGs X (e :: es) (gCons t u) := by
  intro pins s σ H vs us Q I r h
  obtain ⟨v, vr, e1, h⟩ := h
  subst e1
  cases r with
  | cons r rr =>
    rw [hs]
    refine assignInOrder_cons (thn (h1 pins s σ H _ _ _ I r h) fun _ s1 ⟨σ1, H1, I1, q1⟩ => ?_)
    exact h2 pins s1 σ1 H1 _ _ Q I1 rr q1
/-- (a, b, ..) = a tuple of that length -/
def gTup (K : PySem.W.Frag) (n : Nat) (t : TGs) : TG := fun v σ H Q => ∃ a xs, v = .ref a ∧ SqT K H a xs ∧ xs.length = n ∧ t xs σ H Q
theorem pg_tup {es : List Expr} {k : Nat} {t : TGs} {n : Nat} (hc : X.calm = true) (h : PGs X es t)
    (hn : (assignEach es X.env).length = n := by rfl) (hst : (assignEach es X.env).findIdx? (·.1) = none := by rfl) : PG X (.Tuple es k pos) (gTup X.K n t) := by
  intro pins s σ H v u Q I r hw
  obtain ⟨a, xs, e1, hq, hl, hw⟩ := hw
  subst e1
  cases r
  obtain ⟨its, rv, ht, hz⟩ := I.tuple hq
  refine assign_Tuple_tuple (I.ok.hd hc) ht (by simp [hn, ← hl, rv.length]) hst fun h' hx => ?_
  have I1 : Inv X pins σ H { s with heap := h' } := I.kept (t' := s.toks) fun b o e => hx b o (Nat.ne_of_lt (Heap.lt_size e)) e
  exact h pins _ σ H xs _ Q I1 (by simpa using rv) hw
/-- o[i] = .. -/
def gSub (to ti : TE) (t : TSet) : TG := fun v σ H Q => to σ H fun o H1 => ti σ H1 fun i H2 => t o i v H2 fun H3 => Q σ H3
theorem pg_sub {o i : Expr} {to ti : TE} {t : TSet} (ho : PE X o to) (hi : PE X i ti) (hs : PSet X t)
    (ha : ∀ v, assign (.Subscript o i pos) X.env v = (do
      let ov ← holding [v] (eval o X.env)
      let iv ← holding [v, ov] (eval i X.env)
      standAt pos
      holding [v, ov, iv] (setItem ov iv v)
      release [v, ov, iv] []) := by intro _; rfl) : PG X (.Subscript o i pos) (gSub to ti t) := by
  intro pins s σ H v u Q I r h
  rw [ha]
  refine wpAny_bind (wpAny_holding (thn (ho pins s σ H _ I h) fun ov s1 ⟨x, H1, I1, r1, q1⟩ => ?_))
  refine wpAny_bind (wpAny_holding (thn (hi pins s1 σ H1 _ I1 q1) fun iv s2 ⟨y, H2, I2, r2, q2⟩ => ?_))
  refine wpAny_bind (wpAny_standAt (wpAny_bind (wpAny_holding (thn (hs pins s2 σ H2 x y v ov iv u _ I2 r1 r2 r q2) fun _ s3 ⟨H3, I3, q3⟩ => ?_))))
  exact wpAny_release ⟨σ, H3, I3, q3⟩
/-- target = value -/
def tAsg (te : TE) (g : TG) : TS := fun D σ H => te σ H fun x H1 => g x σ H1 D.nx
theorem ps_asg {tg e : Expr} {te : TE} {g : TG} (he : PE X e te) (hg : PG X tg g) (hs : swapsWithSole [tg] e pos.line X.env = pure false := by rfl) (hw : swappedStores [tg] e X.env = pure none := by rfl)
    (h1 : (assignEach [tg] X.env).map (·.2) = [assign tg X.env] := by rfl) : PS X (.Assign [tg] e pos) (tAsg te g) := by
  intro pins s σ H D I h
  refine wpAny_Assign_stores (thn (he pins s σ H _ I h) fun v s1 ⟨x, H1, I1, r1, q1⟩ => ?_) hs hw
  rw [h1]
  exact thn (hg pins s1 σ H1 x v _ I1 r1 q1) fun _ s2 q => q
/-- name = value -/
theorem ps_set {i : Nat} {x : Str} {e : Expr} {te : TE} {pos' : Pos} (hN : X.N.Nodup) (hi : X.N[i]? = some x) (hx : Loc X.env.scope x) (he : PE X e te) (hs : swapsWith e (some (.Name x pos')) pos.line X.env = pure false := by rfl) (hf : X.fn x = true ∨ X.env.scope.names.lookup x = some .local := by first | exact .inl rfl | exact .inr rfl | assumption) :
    PS X (.Assign [.Name x pos'] e pos) (tAsg te (gName i)) := by
  intro pins s σ H D I h
  refine wpAny_Assign_Name (thn (he pins s σ H _ I h) fun v s1 ⟨y, H1, I1, r1, q1⟩ => ?_) hs
  exact store_ok I1 hN hi hx r1 (fun s2 I2 => ⟨_, H1, I2, q1⟩) hf
/-- a, b = x, y with plain local names: stored from the right; the pair itself is not tracked (the opening rows as in PyProof/Rows/TupAssign.lean:23) -/
def tPar (i j : Nat) (ta : TA) : TS := fun D σ H => ta σ H fun vs H1 => ∃ v w, vs = [v, w] ∧ D.nx ((σ.set i (some v)).set j (some w)) H1
theorem ps_par {i j : Nat} {x y : Str} {a b : Expr} {ta : TA} {px py pt : Pos} {kt k2 pt2} (hc : X.calm = true) (hN : X.N.Nodup) (hi : X.N[i]? = some x) (hj : X.N[j]? = some y) (hij : i ≠ j)
    (hx : X.env.scope.names.lookup x = some .local) (hy : X.env.scope.names.lookup y = some .local) (ha : PA X [a, b] ta)
    (hw : swappedStores [.Tuple [.Name x px, .Name y py] kt pt] (.Tuple [a, b] k2 pt2) X.env = pure (some [x, y]))
    (hs : swapsWithSole [.Tuple [.Name x px, .Name y py] kt pt] (.Tuple [a, b] k2 pt2) pos.line X.env = pure false := by rfl) :
    PS X (.Assign [.Tuple [.Name x px, .Name y py] kt pt] (.Tuple [a, b] k2 pt2) pos) (tPar i j ta) := by
  intro pins s σ H D I h
  rw [exec_Assign_arm]
  refine wpAny_bind (wpAny_standAt ?_)
  rw [hs]
  refine wpAny_bind (wpAny_pure ?_)
  rw [if_neg (by decide)]
  refine wpAny_bind (Tuple_ (thn (ha _ pins s σ H _ I h) fun us s1 ⟨vs, H1, I1, r1, q1⟩ => ?_))
  obtain ⟨v, w, e1, q1⟩ := q1
  subst e1
  obtain ⟨u1, u2, rfl, rv, rw'⟩ : ∃ u1 u2, us = [u1, u2] ∧ RelV v u1 ∧ RelV w u2 := by
    cases r1 with
    | cons p q =>
      cases q with
      | cons p' q' =>
        cases q'
        exact ⟨_, _, rfl, p, p'⟩
  refine wpAny_newObj_type ?_ (by show 2 ≤ sizeLine; decide)
  have I2 : Inv X pins σ H1 { s1 with heap := s1.heap.push { cls := .type "tuple", data := .seq [u1, u2].toArray } } := I1.kept (t' := s1.toks) fun b o e => Heap.get?_push_of_some _ e
  rw [hw]
  refine wpAny_bind (wpAny_pure ?_)
  show wpAny (model X.prog X.w) X.A (do rule "assign.swapped-stores"; let items ← unpackItems (.ref s1.heap.objs.size) 2 none; assignInOrder [fun v => bindName X.env y v, fun v => bindName X.env x v] items.reverse; pure Flow.next) _ _ _
  refine wpAny_bind (wpAny_rule (wpAny_bind (unpackItems_tuple (items := #[u1, u2]) (I.ok.hd hc) (IsTup.new s1.heap _) fun h' hx' => ?_)))
  have I3 := I2.kept (h' := h') (t' := s1.toks) fun b o e => hx' b o (Nat.ne_of_lt (Heap.lt_size e)) e
  show wpAny _ _ (assignInOrder [fun v => bindName X.env y v, fun v => bindName X.env x v] [u2, u1] >>= fun _ => pure Flow.next) _ _ _
  refine wpAny_bind (assignInOrder_cons (wpAny_bindName (store_ok I3 hN hj (.inl hy) rw' (fun s2 I4 => ?_) (.inr hy))))
  refine assignInOrder_cons (wpAny_bindName (store_ok I4 hN hi (.inl hx) rv (fun s3 I5 => assignInOrder_nil (wpAny_pure ?_)) (.inr hx)))
  rw [List.set_comm _ _ (Ne.symm hij)] at I5
  exact ⟨_, H1, I5, q1⟩
/-- name op= e -/
def tAug (i : Nat) (te : TE) (ti : TIp) : TS := fun D σ H => ∃ x, σ[i]? = some (some x) ∧ te σ H fun y H1 => ti x y H1 fun z H2 => D.nx (σ.set i (some z)) H2
theorem ps_aug {i : Nat} {x : Str} {e : Expr} {te : TE} {op : Operator} {ti : TIp} {pos' : Pos} (hN : X.N.Nodup) (hi : X.N[i]? = some x) (hx : Loc X.env.scope x) (he : PE X e te) (ho : PIp X op ti) (hf : X.fn x = true ∨ X.env.scope.names.lookup x = some .local := by first | exact .inl rfl | exact .inr rfl | assumption) :
    PS X (.AugAssign (.Name x pos') op e pos) (tAug i te ti) := by
  intro pins s σ H D I h
  obtain ⟨v, e1, h⟩ := h
  obtain ⟨m, hn, hl⟩ := I.loc
  have vis : Vis X.env.scope x := by rcases hx with k | k; exact .inl k; exact .inr (.inl k)
  obtain ⟨u, r, l⟩ := hl i x v hi e1 vis
  refine wpAny_AugAssign_Name ?_
  have go : wpAny (model X.prog X.w) X.A (eval e X.env) (fun w s₂ => wpAny (model X.prog X.w) X.A (inplaceOp op u w) (fun r s₃ => wpAny (model X.prog X.w) X.A (storeName X.env x r) (fun _ => SP X pins D .next) X.xe s₃) X.xe s₂) X.xe s := by
    refine thn (he pins s σ H _ I h) fun w s1 ⟨y, H1, I1, r1, q1⟩ => ?_
    refine thn (ho pins s1 σ H1 v y u w _ I1 r r1 q1) fun z s2 ⟨zv, H2, I2, r2, q2⟩ => ?_
    exact store_ok I2 hN hi hx r2 (fun s3 I3 => ⟨_, H2, I3, q2⟩) hf
  rcases l with ⟨hk, hm⟩ | ⟨hk, c, hc, hcell⟩
  · exact wpAny_loadName_local I.ok.kind hk hn hm go
  · rcases hk with hk | hk
    · exact wpAny_loadName_cell I.ok.kind hk hc hcell go
    · rcases hx with k | k
      · have : X.env.scope.names.lookup x = some .free := hk
        rw [k] at this; cases this
      · have : X.env.scope.names.lookup x = some .free := hk
        rw [k] at this; cases this
/-- o[i] op= e -/
def tAugS (to ti te : TE) (tget : V → V → Hp → VK → Prop) (tip : TIp) (tset : TSet) : TS := fun D σ H => to σ H fun o H1 => ti σ H1 fun i H2 => tget o i H2 fun x H3 => te σ H3 fun y H4 => tip x y H4 fun z H5 => tset o i z H5 fun H6 => D.nx σ H6
/-- o[i], by values -/
def PGet (X : Cx) (t : V → V → Hp → VK → Prop) : Prop :=
  ∀ (pins : List (Addr × Obj)) (s : Shared) (σ : St) (H : Hp) (o i : V) (ov iv : Value) (Q : VK), Inv X pins σ H s → RelV o ov → RelV i iv → t o i H Q →
    wpAny (model X.prog X.w) X.A (getItem ov iv) (EP X pins σ Q) X.xe s
theorem ps_augS {o i e : Expr} {to ti te : TE} {tget : V → V → Hp → VK → Prop} {tip : TIp} {tset : TSet} {op : Operator} {tpos : Pos} (ho : PE X o to) (hi : PE X i ti) (hg : PGet X tget) (he : PE X e te) (hp : PIp X op tip) (hs : PSet X tset)
    (ha : ∀ ov iv new, augStore i ov iv new = (do holding [new, ov, iv] (setItem ov iv new); release [new, ov, iv] []; pure .next) := by intros; rfl) : PS X (.AugAssign (.Subscript o i tpos) op e pos) (tAugS to ti te tget tip tset) := by
  intro pins s σ H D I h
  refine wpAny_AugAssign_SubscriptAny (thn (ho pins s σ H _ I h) fun ov s1 ⟨x1, H1, I1, r1, q1⟩ => ?_) ha
  refine thn (hi pins s1 σ H1 _ I1 q1) fun iv s2 ⟨x2, H2, I2, r2, q2⟩ => ?_
  refine thn (hg pins s2 σ H2 x1 x2 ov iv _ I2 r1 r2 q2) fun old s3 ⟨x3, H3, I3, r3, q3⟩ => ?_
  refine thn (he pins s3 σ H3 _ I3 q3) fun v s4 ⟨x4, H4, I4, r4, q4⟩ => ?_
  refine thn (hp pins s4 σ H4 x3 x4 old v _ I4 r3 r4 q4) fun new s5 ⟨x5, H5, I5, r5, q5⟩ => ?_
  exact thn (hs pins s5 σ H5 x1 x2 x5 ov iv new _ I5 r1 r2 r5 q5) fun _ s6 ⟨H6, I6, q6⟩ => ⟨σ, H6, I6, q6⟩
/-- ints -/
def ipI (f : Int → Int → Int) : TIp := fun x y H Q => ∃ i j, x = .int i ∧ y = .int j ∧ Q (.int (f i j)) H
theorem ip_add : PIp X .Add (ipI fun i j => i + j) := by
  intro pins s σ H x y v u Q I r1 r2 h
  obtain ⟨i, j, e1, e2, q⟩ := h
  subst e1; subst e2
  obtain ⟨t, rfl⟩ := r1
  obtain ⟨t', rfl⟩ := r2
  exact iadd_int ⟨.int _, H, I.tok _, ⟨_, rfl⟩, q⟩
theorem ip_sub : PIp X .Sub (ipI fun i j => i - j) := by
  intro pins s σ H x y v u Q I r1 r2 h
  obtain ⟨i, j, e1, e2, q⟩ := h
  subst e1; subst e2
  obtain ⟨t, rfl⟩ := r1
  obtain ⟨t', rfl⟩ := r2
  exact isub_int ⟨.int _, H, I.tok _, ⟨_, rfl⟩, q⟩
end

/-! ### while -/
section
variable {X : Cx} {pos : Pos}
/-- the invariant W with its measure -/
def tWhile (c : TT) (tb : TS) : TS := fun D σ H => ∃ W : Nat → St → Hp → Prop, (∃ m, W m σ H) ∧ ∀ m σ H, W m σ H →
  c σ H fun b H1 => if b = true then ∃ N : St → Hp → Prop, (∀ σ' H', N σ' H' → ∃ m', m' < m ∧ W m' σ' H') ∧ tb { D with nx := N, ct := N, bk := D.nx } σ H1 else D.nx σ H1
theorem ps_while {c : Expr} {body : List Stmt} {tc : TT} {tb : TS} (hp : PassesOwn (model X.prog X.w) X.A X.env X.xe) (hc : PT X c tc) (hb : PSs X body tb) : PS X (.While c body [] pos) (tWhile tc tb) := by
  intro pins s σ H D I h
  obtain ⟨W, ⟨m0, w0⟩, turn⟩ := h
  refine wpAny_While (codeAny_whileLoop (fun n s' => ∃ σ' H', Inv X pins σ' H' s' ∧ W n σ' H') ?_ m0 ⟨σ, H, I, w0⟩)
  rintro n s1 ⟨σ1, H1, I1, w1⟩
  refine wpAny_passesOwn hp (thn (hc pins s1 σ1 H1 _ I1 (turn n σ1 H1 w1)) fun b s2 ⟨H2, I2, q2⟩ => ?_)
  cases b with
  | true =>
    obtain ⟨N, hN, q2⟩ := q2
    rw [if_pos rfl]
    refine wpAny_passesOwn hp (thn (hb pins s2 σ1 H2 _ I2 q2) fun f s3 q3 => ?_)
    cases f with
    | next =>
      obtain ⟨σ3, H3, I3, n3⟩ := q3
      obtain ⟨m', hm, w3⟩ := hN σ3 H3 n3
      exact ⟨m', hm, σ3, H3, I3, w3⟩
    | cont =>
      obtain ⟨σ3, H3, I3, n3⟩ := q3
      obtain ⟨m', hm, w3⟩ := hN σ3 H3 n3
      exact ⟨m', hm, σ3, H3, I3, w3⟩
    | brk => exact q3
    | ret v => exact q3
  | false =>
    rw [if_neg Bool.false_ne_true]
    exact wpAny_execs_nil ⟨σ1, H2, I2, q2⟩
end

/-! ### what a loop or a comprehension walks -/
/-- at turn i: it yields x (the heap may grow), or it stops -/
structure It where
  go : Nat → Hp → Prop
  yld : Nat → Hp → V → Hp → Prop
  stop : Nat → Hp → Prop
/-- the iterator's own objects may turn: they are not the frame's, not pinned, younger than the entry (or a comprehension's own) -/
def FpOk (X : Cx) (pins : List (Addr × Obj)) (H : Hp) (b : Addr) : Prop :=
  H b = none ∧ b ≠ X.env.locals ∧ b ∉ X.fs ∧ (b ∈ X.ex ∨ X.s₀.heap.objs.size ≤ b) ∧ (∀ x c, X.env.cells.lookup x = some c → c ≠ b) ∧ ∀ p ∈ X.pn ++ pins, p.1 ≠ b
theorem Inv.fpOk {X : Cx} {pins : List (Addr × Obj)} {σ : St} {H H' : Hp} {s : Shared} {b : Addr} (I : Inv X pins σ H s) (hb : s.heap.objs.size ≤ b) (hn : H' b = none) : FpOk X pins H' b := by
  refine ⟨hn, Nat.ne_of_gt (Nat.lt_of_lt_of_le I.lt hb), I.nofs hb, .inr (Nat.le_trans I.sz hb), fun x c e z => ?_, fun p hp z => ?_⟩
  · obtain ⟨v, q⟩ := I.cell x c e
    exact absurd (Nat.lt_of_lt_of_le q.lt (by rw [z]; exact hb)) (Nat.lt_irrefl _)
  · exact absurd (Nat.lt_of_lt_of_le (Heap.lt_size (I.pin p hp).1) (by rw [z]; exact hb)) (Nat.lt_irrefl _)
structure Turn (P : Program) (w : World) (K : PySem.W.Frag) (tg : Expr) (J : It) (fp : List Addr) (it : Addr) (tn : Nat → Heap → Prop) : Prop where
  mem : it ∈ fp
  obj : ∀ i h, tn i h → ∀ b ∈ fp, ∃ o, h.get? b = some o ∧ ∀ v, o.data ≠ .cell v
  keep : ∀ i h h', tn i h → (∀ b ∈ fp, ∀ o, h.get? b = some o → h'.get? b = some o) → tn i h'
  item : ∀ (X : Cx), X.prog = P → X.w = w → X.K = K → X.calm = true → ∀ (i : Nat) (pins : List (Addr × Obj)) (s : Shared) (σ : St) (H : Hp) (E : Value → Shared → Prop), Inv X pins σ H s → (∀ b ∈ fp, FpOk X pins H b) → tn i s.heap → J.go i H →
    wpAny (model P w) X.A (pyNext (.ref it)) (fun r s1 => ∃ u, r = some u ∧
      wpAny (model P w) X.A (letOwnedTupleGo tg (.ref it) u) (fun _ s2 => ∃ x H', Inv X pins σ H' s2 ∧ RelV x u ∧ J.yld i H x H' ∧ tn (i + 1) s2.heap ∧ ∀ b ∈ fp, H' b = none) E s1) E s
  done : ∀ (X : Cx), X.prog = P → X.w = w → X.K = K → X.calm = true → ∀ (i : Nat) (pins : List (Addr × Obj)) (s : Shared) (σ : St) (H : Hp) (E : Value → Shared → Prop), Inv X pins σ H s → (∀ b ∈ fp, FpOk X pins H b) → tn i s.heap → J.stop i H →
    wpAny (model P w) X.A (pyNext (.ref it)) (fun r s1 => r = none ∧ Inv X pins σ H s1) E s
  self : ∀ (A : Around) (i : Nat) (s : Shared) (Q : Value → Shared → Prop) (E : Value → Shared → Prop), tn i s.heap → Q (.ref it) s → wpAny (model P w) A (pyIter (.ref it)) Q E s
abbrev TI := St → Hp → (It → Hp → Prop) → Prop
/-- an iterator has come -/
def PIE (X : Cx) (pins : List (Addr × Obj)) (σ : St) (tg : Expr) (R : It → Hp → Prop) (itv : Value) (s2 : Shared) : Prop :=
  ∃ (it : Addr) (fp : List Addr) (tn : Nat → Heap → Prop) (J : It) (H' : Hp), itv = .ref it ∧ Inv X pins σ H' s2 ∧ Turn X.prog X.w X.K tg J fp it tn ∧ tn 0 s2.heap ∧ (∀ b ∈ fp, FpOk X pins H' b) ∧ R J H'
def PI (X : Cx) (tg iter : Expr) (wi : TI) : Prop :=
  ∀ (pins : List (Addr × Obj)) (s : Shared) (σ : St) (H : Hp) (R : It → Hp → Prop), Inv X pins σ H s → wi σ H R →
    wpAny (model X.prog X.w) X.A (eval iter X.env) (fun v s1 => wpAny (model X.prog X.w) X.A (pyIter v) (PIE X pins σ tg R) X.xe s1) X.xe s

/-- the step ahead of the store is nothing for an iterator that keeps no tuple -/
theorem go_of {M : Model} {A : Around} {E : Value → Shared → Prop} {s : Shared} {tg : Expr} {it : Addr} {u : Value} {o : Obj} {n : String} {vs : Array Value} {Q : Unit → Shared → Prop} (ho : s.heap.get? it = some o) (hc : o.cls = .type n) (hd : o.data = .fields vs)
    (hn : ["enumerate", "zip", "dict_itemiterator", "dict_reverseitemiterator", "odict_iterator", "itertools.zip_longest", "itertools.pairwise"].contains n = false) (hQ : Q () s) : wpAny M A (letOwnedTupleGo tg (.ref it) u) Q E s := by
  unfold letOwnedTupleGo
  cases tg <;> first
    | exact wpAny_pure hQ
    | (cases u <;> first
        | exact wpAny_pure hQ
        | (refine wpAny_bind (wpAny_load ho ?_)
           rw [hc, hd]
           show wpAny M A (if (["enumerate", "zip", "dict_itemiterator", "dict_reverseitemiterator", "odict_iterator", "itertools.zip_longest", "itertools.pairwise"].contains n && vs[0]? == some (rawInt _)) = true then _ else _) Q E s
           rw [if_neg (by intro h; rw [hn, Bool.false_and] at h; cases h)]
           exact wpAny_pure hQ))

/-- the list at a, as it stands at each turn (a loop may append to it) -/
def Itl (K : PySem.W.Frag) (a : Addr) : It :=
  ⟨fun i H => ∃ xs x, SqL K H a xs ∧ xs[i]? = some x, fun i H x H' => H' = H ∧ ∀ xs, SqL K H a xs → xs[i]? = some x, fun i H => ∃ xs, SqL K H a xs ∧ xs.length ≤ i⟩
def Itt (K : PySem.W.Frag) (a : Addr) : It :=
  ⟨fun i H => ∃ xs x, SqT K H a xs ∧ xs[i]? = some x, fun i H x H' => H' = H ∧ ∀ xs, SqT K H a xs → xs[i]? = some x, fun i H => ∃ xs, SqT K H a xs ∧ xs.length ≤ i⟩
/-- lo, lo + 1, .. (n of them) -/
def Itr (lo : Int) (n : Nat) : It := ⟨fun i _ => i < n, fun i H x H' => H' = H ∧ x = .int (lo + i), fun i _ => n ≤ i⟩
theorem turn_list {P : Program} {w : World} {K : PySem.W.Frag} {tg : Expr} (a it : Addr) : Turn P w K tg (Itl K a) [it] it (fun i h => h.IsListIter it a i) where
  mem := by simp
  obj := fun i h st b hb => by
    have e : b = it := by simpa using hb
    subst e
    obtain ⟨o, e, c, d⟩ := st
    exact ⟨o, e, fun v z => by rw [d] at z; cases z⟩
  keep := fun i h h' st k => st.at fun o e => k it (by simp) o e
  item := by
    intro X hP hw hK hc i pins s σ H E I hf st hg
    subst hP hw hK
    obtain ⟨xs, x, hq, hx⟩ := hg
    obtain ⟨its, rv, p, hz⟩ := I.list hq
    obtain ⟨u, hu, ru⟩ := rv.get hx
    obtain ⟨f0, f1, f2, f3, f4, f5⟩ := hf it (by simp)
    refine wpAny_pyNext_list_item st p.isList (x := u) (by simpa using hu) fun h' st' sb => ?_
    have I1 : Inv X pins σ H { s with heap := h' } := I.turned (t' := s.toks) (fun b o hb e => (sb.2 b hb).trans e) f0 f1 f3 f4 f5
    obtain ⟨o, e, c, d⟩ := id st'
    exact ⟨u, rfl, go_of (s := { s with heap := h' }) e c d (by decide) ⟨x, H, I1, ru, ⟨rfl, fun ys hy => by rw [I.list_inj hy hq]; exact hx⟩, st', fun b hb => (hf b hb).1⟩⟩
  done := by
    intro X hP hw hK hc i pins s σ H E I hf st hg
    subst hP hw hK
    obtain ⟨xs, hq, hx⟩ := hg
    obtain ⟨its, rv, p, hz⟩ := I.list hq
    obtain ⟨f0, f1, f2, f3, f4, f5⟩ := hf it (by simp)
    have hl := rv.length
    exact wpAny_pyNext_list_end (I.ok.hd hc) st p.isList (by simp; omega) fun h' eb => ⟨rfl, I.turned (t' := s.toks) (fun b o hb e => eb b o hb e) f0 f1 f3 f4 f5⟩
  self := fun _ _ _ _ _ st h => wpAny_pyIter_listiter st h
theorem turn_tuple {P : Program} {w : World} {K : PySem.W.Frag} {tg : Expr} (a it : Addr) : Turn P w K tg (Itt K a) [it] it (fun i h => h.IsTupleIter it a i) where
  mem := by simp
  obj := fun i h st b hb => by
    have e : b = it := by simpa using hb
    subst e
    obtain ⟨o, e, c, d⟩ := st
    exact ⟨o, e, fun v z => by rw [d] at z; cases z⟩
  keep := fun i h h' st k => st.at fun o e => k it (by simp) o e
  item := by
    intro X hP hw hK hc i pins s σ H E I hf st hg
    subst hP hw hK
    obtain ⟨xs, x, hq, hx⟩ := hg
    obtain ⟨its, rv, p, hz⟩ := I.tuple hq
    obtain ⟨u, hu, ru⟩ := rv.get hx
    obtain ⟨f0, f1, f2, f3, f4, f5⟩ := hf it (by simp)
    refine wpAny_pyNext_tuple_item st (show s.heap.IsTuple a its.toArray from p) (x := u) (by simpa using hu) fun h' st' sb => ?_
    have I1 : Inv X pins σ H { s with heap := h' } := I.turned (t' := s.toks) (fun b o hb e => (sb.2 b hb).trans e) f0 f1 f3 f4 f5
    obtain ⟨o, e, c, d⟩ := id st'
    exact ⟨u, rfl, go_of (s := { s with heap := h' }) e c d (by decide) ⟨x, H, I1, ru, ⟨rfl, fun ys hy => by rw [I.tuple_inj hy hq]; exact hx⟩, st', fun b hb => (hf b hb).1⟩⟩
  done := by
    intro X hP hw hK hc i pins s σ H E I hf st hg
    subst hP hw hK
    obtain ⟨xs, hq, hx⟩ := hg
    obtain ⟨its, rv, p, hz⟩ := I.tuple hq
    obtain ⟨f0, f1, f2, f3, f4, f5⟩ := hf it (by simp)
    have hl := rv.length
    exact wpAny_pyNext_tuple_end (I.ok.hd hc) st (show s.heap.IsTuple a its.toArray from p) (by simp; omega) fun h' eb => ⟨rfl, I.turned (t' := s.toks) (fun b o hb e => eb b o hb e) f0 f1 f3 f4 f5⟩
  self := fun _ _ _ _ _ st h => wpAny_pyIter_tupleiter st h
theorem turn_range {P : Program} {w : World} {K : PySem.W.Frag} {tg : Expr} (it : Addr) (lo : Int) (n : Nat) : Turn P w K tg (Itr lo n) [it] it (fun i h => IsRangeIter h it (lo + (i : Nat) * 1) ((n : Int) - (i : Nat)) 1) where
  mem := by simp
  obj := fun i h st b hb => by
    have e : b = it := by simpa using hb
    subst e
    exact ⟨_, st, fun v z => by
      have z' : Data.fields _ = Data.cell v := z
      cases z'⟩
  keep := fun i h h' st k => k it (by simp) _ st
  item := by
    intro X hP hw hK hc i pins s σ H E I hf st hg
    subst hP hw hK
    obtain ⟨f0, f1, f2, f3, f4, f5⟩ := hf it (by simp)
    have W := Walks.range (prog := X.prog) (w := X.w) (I.ok.hd hc) it lo 1 n
    refine W.item i s _ _ hg st fun v h' tk hv st' kk => ?_
    obtain ⟨t, rfl⟩ := hv
    have I1 : Inv X pins σ H { s with heap := h', toks := tk } := I.turned (fun b o hb e => kk b o (by simpa using hb) e) f0 f1 f3 f4 f5
    refine ⟨_, rfl, go_of (s := { s with heap := h', toks := tk }) (n := "range_iterator") st' rfl rfl (by decide) ⟨.int (lo + i), H, I1, ⟨t, ?_⟩, ⟨rfl, rfl⟩, st', fun b hb => (hf b hb).1⟩⟩
    rw [Int.mul_one]
  done := by
    intro X hP hw hK hc i pins s σ H E I hf st hg
    subst hP hw hK
    obtain ⟨f0, f1, f2, f3, f4, f5⟩ := hf it (by simp)
    exact wpAny_pyNext_range_end (I.ok.hd hc) st (by have : n ≤ i := hg; omega) fun h' eb => ⟨rfl, I.turned (t' := s.toks) (fun b o hb e => eb b o hb e) f0 f1 f3 f4 f5⟩
  self := fun _ _ _ _ _ st h => wpAny_pyIter_rangeiter st h
end L2

namespace L2
open PySem PySem.Spec PyProof.Rows
section
variable {X : Cx} {tg : Expr}
def iList (K : PySem.W.Frag) (tl : TE) : TI := fun σ H R => tl σ H fun x H1 => ∃ a, x = .ref a ∧ (∃ xs, SqL K H1 a xs) ∧ R (Itl K a) H1
def iTup (K : PySem.W.Frag) (tl : TE) : TI := fun σ H R => tl σ H fun x H1 => ∃ a, x = .ref a ∧ (∃ xs, SqT K H1 a xs) ∧ R (Itt K a) H1
theorem pi_list {l : Expr} {tl : TE} (hl : PE X l tl) : PI X tg l (iList X.K tl) := by
  intro pins s σ H R I h
  refine thn (hl pins s σ H _ I h) fun v s1 ⟨x, H1, I1, r1, q1⟩ => ?_
  obtain ⟨a, e, ⟨xs, hq⟩, q⟩ := q1
  subst e
  cases r1
  obtain ⟨its, rv, p, hz⟩ := I1.list hq
  refine wpAny_pyIter_list p.isList ?_
  refine ⟨s1.heap.objs.size, [s1.heap.objs.size], _, _, H1, rfl, I1.kept (t' := s1.toks) fun b o e => Heap.get?_push_of_some _ e, turn_list a _, ⟨_, Heap.get?_push_size _ rfl, rfl, rfl⟩, fun b hb => ?_, q⟩
  have e : b = s1.heap.objs.size := by simpa using hb
  subst e
  exact I1.fpOk (Nat.le_refl _) (I1.hok.fresh (Nat.le_refl _))
theorem pi_tup {l : Expr} {tl : TE} (hl : PE X l tl) : PI X tg l (iTup X.K tl) := by
  intro pins s σ H R I h
  refine thn (hl pins s σ H _ I h) fun v s1 ⟨x, H1, I1, r1, q1⟩ => ?_
  obtain ⟨a, e, ⟨xs, hq⟩, q⟩ := q1
  subst e
  cases r1
  obtain ⟨its, rv, p, hz⟩ := I1.tuple hq
  refine wpAny_pyIter_tuple (show s1.heap.IsTuple a its.toArray from p) ?_
  refine ⟨s1.heap.objs.size, [s1.heap.objs.size], _, _, H1, rfl, I1.kept (t' := s1.toks) fun b o e => Heap.get?_push_of_some _ e, turn_tuple a _, ⟨_, Heap.get?_push_size _ rfl, rfl, rfl⟩, fun b hb => ?_, q⟩
  have e : b = s1.heap.objs.size := by simpa using hb
  subst e
  exact I1.fpOk (Nat.le_refl _) (I1.hok.fresh (Nat.le_refl _))
/-- a range object just made, walked -/
theorem range_it {pins : List (Addr × Obj)} {σ : St} {H : Hp} {s : Shared} {R : It → Hp → Prop} {E : Value → Shared → Prop} {lo hi : Int} {t u v : Tok} {tk : Nat} (I : Inv X pins σ H s) (h1 : -(2 ^ 62) ≤ lo) (h2 : lo < 2 ^ 62) (h3 : -(2 ^ 62) ≤ hi) (h4 : hi < 2 ^ 62)
    (q : R (Itr lo (hi - lo).toNat) H) : wpAny (model X.prog X.w) X.A (pyIter (.ref s.heap.objs.size)) (PIE X pins σ tg R) E { s with heap := s.heap.push { cls := .type "range", data := .fields #[.int lo t, .int hi u, .int 1 v] }, toks := tk } := by
  refine wpAny_pyIter_range (IsRange.new ..) (small_one h1 h2 h3 h4) ?_
  have I1 : Inv X pins σ H { s with heap := s.heap.push { cls := .type "range", data := .fields #[.int lo t, .int hi u, .int 1 v] }, toks := tk } := I.kept fun b o e => Heap.get?_push_of_some _ e
  refine ⟨(s.heap.push { cls := .type "range", data := .fields #[.int lo t, .int hi u, .int 1 v] }).objs.size, [(s.heap.push { cls := .type "range", data := .fields #[.int lo t, .int hi u, .int 1 v] }).objs.size], _, _, H, rfl,
    I1.kept (t' := tk) fun b o e => Heap.get?_push_of_some _ e, turn_range _ lo (hi - lo).toNat, ?_, fun b hb => ?_, q⟩
  · have e1 : lo + ((0 : Nat) : Int) * 1 = lo := by simp
    have e2 : (((hi - lo).toNat : Nat) : Int) - ((0 : Nat) : Int) = Builtin.Range.rangeSize lo hi 1 := by rw [rangeSize_one]; split <;> omega
    show IsRangeIter _ _ (lo + ((0 : Nat) : Int) * 1) ((((hi - lo).toNat : Nat) : Int) - ((0 : Nat) : Int)) 1
    rw [e1, e2]
    exact Heap.get?_push_size _ rfl
  · have e : b = (s.heap.push { cls := .type "range", data := .fields #[.int lo t, .int hi u, .int 1 v] }).objs.size := by simpa using hb
    subst e
    exact I1.fpOk (Nat.le_refl _) (I1.hok.fresh (Nat.le_refl _))
def iRng1 (ta : TA) : TI := fun σ H R => ta σ H fun vs H1 => ∃ j : Int, vs = [.int j] ∧ -(2 ^ 62) ≤ j ∧ j < 2 ^ 62 ∧ R (Itr 0 j.toNat) H1
def iRng2 (ta : TA) : TI := fun σ H R => ta σ H fun vs H1 => ∃ i j : Int, vs = [.int i, .int j] ∧ (-(2 ^ 62) ≤ i ∧ i < 2 ^ 62 ∧ -(2 ^ 62) ≤ j ∧ j < 2 ^ 62) ∧ R (Itr i (j - i).toNat) H1
theorem pi_range1 {a : Expr} {ta : TA} {p pos : Pos} (hg : Gl X "range") (hm : X.mg "range" = none) (ha : PA X [a] ta) (hs : starEach [a] X.env = [(false, eval a X.env)] := by rfl) : PI X tg (.Call (.Name "range" p) [a] [] pos) (iRng1 ta) := by
  intro pins s σ H R I h
  refine Call_ (ld_blt I hg hm boot_range (PyProof.Rows.callWith_type1 (thn (ha pos pins s σ H _ I h) fun us s1 ⟨vs, H1, I1, r1, q1⟩ => ?_) hs rfl))
  obtain ⟨j, e, q1, q2, q⟩ := q1
  subst e
  cases r1 with
  | cons r rr =>
    cases rr
    obtain ⟨t, rfl⟩ := r
    exact call_range_1 (range_it I1 (by omega) (by omega) q1 q2 (by simpa using q))
theorem pi_range2 {a b : Expr} {ta : TA} {p pos : Pos} (hg : Gl X "range") (hm : X.mg "range" = none) (ha : PA X [a, b] ta) (hs : starEach [a, b] X.env = [(false, eval a X.env), (false, eval b X.env)] := by rfl) (hs2 : starEach [b] X.env = [(false, eval b X.env)] := by rfl) :
    PI X tg (.Call (.Name "range" p) [a, b] [] pos) (iRng2 ta) := by
  intro pins s σ H R I h
  refine Call_ (ld_blt I hg hm boot_range (PyProof.Rows.callWith_type1 (thn (ha pos pins s σ H _ I h) fun us s1 ⟨vs, H1, I1, r1, q1⟩ => ?_) (by rw [hs, hs2]) (by rw [hs2]; rfl)))
  obtain ⟨i, j, e, ⟨q1, q2, q3, q4⟩, q⟩ := q1
  subst e
  cases r1 with
  | cons r rr =>
    cases rr with
    | cons r' rr =>
      cases rr
      obtain ⟨t, rfl⟩ := r
      obtain ⟨t', rfl⟩ := r'
      exact call_range_2 (range_it I1 q1 q2 q3 q4 q)

/-! ### for -/
/-- W: the invariant by the turn and a measure; N: what the body is to reach -/
def tFor (wi : TI) (g : TG) (tb : TS) : TS := fun D σ H => wi σ H fun J H1 => ∃ W : Nat → Nat → St → Hp → Prop, (∃ m, W 0 m σ H1) ∧ ∀ i m σ H, W i m σ H →
  (J.stop i H ∧ D.nx σ H) ∨ (J.go i H ∧ ∃ N : St → Hp → Prop, (∀ σ' H', N σ' H' → ∃ m', m' < m ∧ W (i + 1) m' σ' H') ∧ ∀ x H', J.yld i H x H' → g x σ H' fun σ2 H2 => tb { D with nx := N, ct := N, bk := D.nx } σ2 H2)
/-- the records at fp as they stand -/
def pinsAt (fp : List Addr) (h : Heap) : List (Addr × Obj) := fp.filterMap fun b => (h.get? b).map fun o => (b, o)
theorem mem_pinsAt {fp : List Addr} {h : Heap} {b : Addr} {o : Obj} (hb : b ∈ fp) (e : h.get? b = some o) : (b, o) ∈ pinsAt fp h := List.mem_filterMap.mpr ⟨b, hb, by rw [e]; rfl⟩
theorem of_pinsAt {fp : List Addr} {h : Heap} {p : Addr × Obj} (hp : p ∈ pinsAt fp h) : p.1 ∈ fp ∧ h.get? p.1 = some p.2 := by
  obtain ⟨b, hb, e⟩ := List.mem_filterMap.mp hp
  cases q : h.get? b with
  | none => rw [q] at e; cases e
  | some o =>
    rw [q] at e
    have e' : (b, o) = p := Option.some.inj e
    subst e'
    exact ⟨hb, q⟩
theorem Inv.pinned {pins : List (Addr × Obj)} {σ : St} {H : Hp} {s : Shared} {fp : List Addr} (I : Inv X pins σ H s) (hf : ∀ b ∈ fp, FpOk X pins H b) (ho : ∀ b ∈ fp, ∃ o, s.heap.get? b = some o ∧ ∀ v, o.data ≠ .cell v) : Inv X (pins ++ pinsAt fp s.heap) σ H s :=
  I.pins_of fun p hp => (List.mem_append.mp hp).elim (fun z => I.pin p (List.mem_append_right _ z)) fun z => by
    obtain ⟨hb, e⟩ := of_pinsAt z
    obtain ⟨f0, f1, f2, _⟩ := hf p.1 hb
    obtain ⟨o, e', d⟩ := ho p.1 hb
    rw [e] at e'; cases e'
    exact ⟨e, f0, f1, f2, d⟩
theorem Inv.unpinned {pins pl : List (Addr × Obj)} {σ : St} {H : Hp} {s : Shared} (I : Inv X (pins ++ pl) σ H s) : Inv X pins σ H s := I.pins_of fun p hp => I.pin p (List.mem_append_right _ (List.mem_append_left _ hp))
theorem ps_for {iter : Expr} {body : List Stmt} {wi : TI} {g : TG} {tb : TS} {pos : Pos} (hp : PassesOwn (model X.prog X.w) X.A X.env X.xe) (hc : X.calm = true) (hi : PI X tg iter wi) (hg : PG X tg g) (hb : PSs X body tb)
    (hs : ∀ x, foldedSetIterable iter X.env x = pure x := by intro _; rfl) : PS X (.For tg iter body [] pos) (tFor wi g tb) := by
  intro pins s σ H D I h
  refine wpAny_For (thn (hi pins s σ H _ I h) fun v s1 h1 => thn h1 fun itv s2 h2 => ?_) hs
  obtain ⟨it, fp, tn, J, H2, e, I2, T, st2, f2, W, ⟨m0, w0⟩, turn⟩ := h2
  subst e
  -- what stays true of the iterator's objects through the loop
  have stat : ∀ {H' : Hp}, (∀ b ∈ fp, H' b = none) → ∀ b ∈ fp, FpOk X pins H' b := fun hn b hb => ⟨hn b hb, (f2 b hb).2⟩
  refine codeAny_forLoop_any (fun n s' => ∃ i σ' H', Inv X pins σ' H' s' ∧ tn i s'.heap ∧ (∀ b ∈ fp, H' b = none) ∧ W i n σ' H') ?_ m0 ⟨0, σ, H2, I2, st2, fun b hb => (f2 b hb).1, w0⟩
  rintro n s3 ⟨i, σ3, H3, I3, st3, fr3, w3⟩
  rcases turn i n σ3 H3 w3 with ⟨stop, qn⟩ | ⟨go, N, hN, step⟩
  · refine wpAny_passesOwn hp (thn (T.done X rfl rfl rfl hc i pins s3 σ3 H3 X.xe I3 (stat fr3) st3 stop) fun r s4 ⟨hr, I4⟩ => ?_)
    subst hr
    exact wpAny_execs_nil ⟨σ3, H3, I4, qn⟩
  · refine wpAny_passesOwn hp (thn (T.item X rfl rfl rfl hc i pins s3 σ3 H3 X.xe I3 (stat fr3) st3 go) fun r s4 ⟨u, hr, h4⟩ => ?_)
    subst hr
    refine wpAny_passesOwn hp (thn h4 fun _ s5 ⟨x, H5, I5, r5, y5, st5, fr5⟩ => ?_)
    have I5' := I5.pinned (stat fr5) (T.obj _ _ st5)
    refine wpAny_passesOwn hp (thn (hg _ s5 σ3 H5 x u _ I5' r5 (step x H5 y5)) fun _ s6 ⟨σ6, H6, I6, q6⟩ => ?_)
    refine wpAny_passesOwn hp (thn (hb _ s6 σ6 H6 _ I6 q6) fun f s7 q7 => ?_)
    have again : ∀ {σ7 : St} {H7 : Hp}, Inv X (pins ++ pinsAt fp s5.heap) σ7 H7 s7 → N σ7 H7 → ∃ m, m < n ∧ ∃ i σ' H', Inv X pins σ' H' s7 ∧ tn i s7.heap ∧ (∀ b ∈ fp, H' b = none) ∧ W i m σ' H' := fun {σ7 H7} I7 n7 => by
      obtain ⟨m', hm, w7⟩ := hN σ7 H7 n7
      refine ⟨m', hm, i + 1, σ7, H7, I7.unpinned, T.keep _ _ _ st5 fun b hb o e => (I7.pin (b, o) (List.mem_append_right _ (List.mem_append_right _ (mem_pinsAt hb e)))).1, fun b hb => ?_, w7⟩
      obtain ⟨o, e, d⟩ := T.obj _ _ st5 b hb
      exact (I7.pin (b, o) (List.mem_append_right _ (List.mem_append_right _ (mem_pinsAt hb e)))).2.1
    cases f with
    | next => obtain ⟨σ7, H7, I7, n7⟩ := q7; exact again I7 n7
    | cont => obtain ⟨σ7, H7, I7, n7⟩ := q7; exact again I7 n7
    | brk => obtain ⟨σ7, H7, I7, q7⟩ := q7; exact ⟨σ7, H7, I7.unpinned, q7⟩
    | ret v => obtain ⟨x7, σ7, H7, I7, r7, q7⟩ := q7; exact ⟨x7, σ7, H7, I7.unpinned, r7, q7⟩
end

/-! ### the forms one uses -/
/-- over a list that the body leaves as it is -/
theorem for_list {K : PySem.W.Frag} {a : Addr} {xs : List V} {g : TG} {tb : TS} {D : Ends} {σ : St} {H : Hp} (Pv : Nat → St → Hp → Prop) (h0 : Pv 0 σ H) (hl : ∀ i σ H, i ≤ xs.length → Pv i σ H → SqL K H a xs)
    (hs : ∀ i x σ H, xs[i]? = some x → Pv i σ H → g x σ H fun σ2 H2 => tb { D with nx := Pv (i + 1), ct := Pv (i + 1), bk := D.nx } σ2 H2) (hd : ∀ σ H, Pv xs.length σ H → D.nx σ H) :
    ∃ W : Nat → Nat → St → Hp → Prop, (∃ m, W 0 m σ H) ∧ ∀ i m σ H, W i m σ H →
      ((Itl K a).stop i H ∧ D.nx σ H) ∨ ((Itl K a).go i H ∧ ∃ N : St → Hp → Prop, (∀ σ' H', N σ' H' → ∃ m', m' < m ∧ W (i + 1) m' σ' H') ∧ ∀ x H', (Itl K a).yld i H x H' → g x σ H' fun σ2 H2 => tb { D with nx := N, ct := N, bk := D.nx } σ2 H2) := by
  refine ⟨fun i m σ H => m = xs.length - i ∧ i ≤ xs.length ∧ Pv i σ H, ⟨xs.length, by simp, Nat.zero_le _, h0⟩, ?_⟩
  rintro i m σ H ⟨rfl, hi, p⟩
  have q := hl i σ H hi p
  by_cases hlt : i < xs.length
  · refine .inr ⟨⟨xs, xs[i], q, by simp [hlt]⟩, Pv (i + 1), fun σ' H' p' => ⟨xs.length - (i + 1), by omega, rfl, hlt, p'⟩, fun x H' y => ?_⟩
    obtain ⟨e, y⟩ := y
    subst e
    exact hs i x σ _ (y xs q) p
  · have e : i = xs.length := by omega
    subst e
    exact .inl ⟨⟨xs, q, Nat.le_refl _⟩, hd σ H p⟩
theorem for_tup {K : PySem.W.Frag} {a : Addr} {xs : List V} {g : TG} {tb : TS} {D : Ends} {σ : St} {H : Hp} (Pv : Nat → St → Hp → Prop) (h0 : Pv 0 σ H) (hl : ∀ i σ H, i ≤ xs.length → Pv i σ H → SqT K H a xs)
    (hs : ∀ i x σ H, xs[i]? = some x → Pv i σ H → g x σ H fun σ2 H2 => tb { D with nx := Pv (i + 1), ct := Pv (i + 1), bk := D.nx } σ2 H2) (hd : ∀ σ H, Pv xs.length σ H → D.nx σ H) :
    ∃ W : Nat → Nat → St → Hp → Prop, (∃ m, W 0 m σ H) ∧ ∀ i m σ H, W i m σ H →
      ((Itt K a).stop i H ∧ D.nx σ H) ∨ ((Itt K a).go i H ∧ ∃ N : St → Hp → Prop, (∀ σ' H', N σ' H' → ∃ m', m' < m ∧ W (i + 1) m' σ' H') ∧ ∀ x H', (Itt K a).yld i H x H' → g x σ H' fun σ2 H2 => tb { D with nx := N, ct := N, bk := D.nx } σ2 H2) := by
  refine ⟨fun i m σ H => m = xs.length - i ∧ i ≤ xs.length ∧ Pv i σ H, ⟨xs.length, by simp, Nat.zero_le _, h0⟩, ?_⟩
  rintro i m σ H ⟨rfl, hi, p⟩
  have q := hl i σ H hi p
  by_cases hlt : i < xs.length
  · refine .inr ⟨⟨xs, xs[i], q, by simp [hlt]⟩, Pv (i + 1), fun σ' H' p' => ⟨xs.length - (i + 1), by omega, rfl, hlt, p'⟩, fun x H' y => ?_⟩
    obtain ⟨e, y⟩ := y
    subst e
    exact hs i x σ _ (y xs q) p
  · have e : i = xs.length := by omega
    subst e
    exact .inl ⟨⟨xs, q, Nat.le_refl _⟩, hd σ H p⟩
theorem for_range {lo : Int} {n : Nat} {g : TG} {tb : TS} {D : Ends} {σ : St} {H : Hp} (Pv : Nat → St → Hp → Prop) (h0 : Pv 0 σ H)
    (hs : ∀ i σ H, i < n → Pv i σ H → g (.int (lo + i)) σ H fun σ2 H2 => tb { D with nx := Pv (i + 1), ct := Pv (i + 1), bk := D.nx } σ2 H2) (hd : ∀ σ H, Pv n σ H → D.nx σ H) :
    ∃ W : Nat → Nat → St → Hp → Prop, (∃ m, W 0 m σ H) ∧ ∀ i m σ H, W i m σ H →
      ((Itr lo n).stop i H ∧ D.nx σ H) ∨ ((Itr lo n).go i H ∧ ∃ N : St → Hp → Prop, (∀ σ' H', N σ' H' → ∃ m', m' < m ∧ W (i + 1) m' σ' H') ∧ ∀ x H', (Itr lo n).yld i H x H' → g x σ H' fun σ2 H2 => tb { D with nx := N, ct := N, bk := D.nx } σ2 H2) := by
  refine ⟨fun i m σ H => m = n - i ∧ i ≤ n ∧ Pv i σ H, ⟨n, by simp, Nat.zero_le _, h0⟩, ?_⟩
  rintro i m σ H ⟨rfl, hi, p⟩
  by_cases hlt : i < n
  · refine .inr ⟨hlt, Pv (i + 1), fun σ' H' p' => ⟨n - (i + 1), by omega, rfl, hlt, p'⟩, fun x H' y => ?_⟩
    obtain ⟨e, y⟩ := y
    subst e y
    exact hs i σ _ hlt p
  · have e : i = n := by omega
    subst e
    exact .inl ⟨Nat.le_refl _, hd σ H p⟩
/-- while, by a word and a measure of the state -/
theorem while_by {c : TT} {tb : TS} {D : Ends} {σ : St} {H : Hp} (Pv : St → Hp → Prop) (μ : St → Hp → Nat) (h0 : Pv σ H)
    (hs : ∀ σ H, Pv σ H → c σ H fun b H1 => if b = true then tb { D with nx := fun σ' H' => Pv σ' H' ∧ μ σ' H' < μ σ H, ct := fun σ' H' => Pv σ' H' ∧ μ σ' H' < μ σ H, bk := D.nx } σ H1 else D.nx σ H1)
    (mono : ∀ σ H Q Q', (∀ b H1, Q b H1 → Q' b H1) → c σ H Q → c σ H Q') : tWhile c tb D σ H := by
  refine ⟨fun m σ H => m = μ σ H ∧ Pv σ H, ⟨_, rfl, h0⟩, ?_⟩
  rintro m σ H ⟨rfl, p⟩
  refine mono σ H _ _ (fun b H1 q => ?_) (hs σ H p)
  cases b with
  | true => exact ⟨_, fun σ' H' ⟨p', l⟩ => ⟨_, l, rfl, p'⟩, q⟩
  | false => exact q
end L2

namespace L2
open PySem PySem.Spec PyProof.Rows

abbrev R2 := V → V → Hp → VK → Prop
/-- a two-place operation on values: f is binaryOp op, inplaceOp op or compareOp op -/
def OpR (X : Cx) (f : Value → Value → Sem Value) (r : R2) : Prop :=
  ∀ (pins : List (Addr × Obj)) (s : Shared) (σ : St) (H : Hp) (x y : V) (v u : Value) (Q : VK), Inv X pins σ H s → RelV x v → RelV y u → r x y H Q →
    wpAny (model X.prog X.w) X.A (f v u) (EP X pins σ Q) X.xe s
/-- a one-place operation -/
def UnR (X : Cx) (f : Value → Sem Value) (r : V → Hp → VK → Prop) : Prop :=
  ∀ (pins : List (Addr × Obj)) (s : Shared) (σ : St) (H : Hp) (x : V) (v : Value) (Q : VK), Inv X pins σ H s → RelV x v → r x H Q →
    wpAny (model X.prog X.w) X.A (f v) (EP X pins σ Q) X.xe s
/-- a call of a value that is known (a builtin, a type) with values -/
def CallR (X : Cx) (f : Value) (r : List V → Hp → VK → Prop) : Prop :=
  ∀ (pins : List (Addr × Obj)) (s : Shared) (σ : St) (H : Hp) (xs : List V) (us : List Value) (Q : VK), Inv X pins σ H s → Vals xs us → r xs H Q →
    wpAny (model X.prog X.w) X.A (call f us) (EP X pins σ Q) X.xe s
/-- a value's truth -/
def TruR (X : Cx) (r : V → Hp → (Bool → Hp → Prop) → Prop) : Prop :=
  ∀ (pins : List (Addr × Obj)) (s : Shared) (σ : St) (H : Hp) (x : V) (v : Value) (Q : Bool → Hp → Prop), Inv X pins σ H s → RelV x v → r x H Q →
    wpAny (model X.prog X.w) X.A (truthy v) (TP X pins σ Q) X.xe s

def tOp (r : R2) (ta tb : TE) : TE := fun σ H Q => ta σ H fun x H1 => tb σ H1 fun y H2 => r x y H2 Q
def tUn (r : V → Hp → VK → Prop) (ta : TE) : TE := fun σ H Q => ta σ H fun x H1 => r x H1 Q
/-- ints in, under C, and a value out -/
def rI (C : Int → Int → Prop) (g : Int → Int → V) : R2 := fun x y H Q => ∃ i j, x = .int i ∧ y = .int j ∧ C i j ∧ Q (g i j) H
def rI0 (g : Int → Int → V) : R2 := fun x y H Q => ∃ i j, x = .int i ∧ y = .int j ∧ Q (g i j) H
def rU (g : Int → V) : V → Hp → VK → Prop := fun x H Q => ∃ i, x = .int i ∧ Q (g i) H

section
variable {X : Cx} {a b c : Expr} {ta tb tc : TE} {pos : Pos}

theorem binT (ha : PE X a ta) (hb : PE X b tb) {pins : List (Addr × Obj)} {s : Shared} {σ : St} {H : Hp} {R : V → V → Hp → Prop} (I : Inv X pins σ H s)
    (h : ta σ H fun x H1 => tb σ H1 fun y H2 => R x y H2) {Q : Value → Shared → Prop} {f : Value → Value → Sem Value}
    (hf : ∀ v u s2 x y H2, Inv X pins σ H2 s2 → RelV x v → RelV y u → R x y H2 → wpAny (model X.prog X.w) X.A (f v u) Q X.xe s2) :
    wpAny (model X.prog X.w) X.A (eval a X.env) (fun v s₁ => wpAny (model X.prog X.w) X.A (eval b X.env) (fun u s₂ => wpAny (model X.prog X.w) X.A (f v u) Q X.xe s₂) X.xe s₁) X.xe s := by
  refine thn (ha pins s σ H _ I h) fun v s1 ⟨x, H1, I1, r1, q1⟩ => ?_
  refine thn (hb pins s1 σ H1 _ I1 q1) fun u s2 ⟨y, H2, I2, r2, q2⟩ => ?_
  exact hf v u s2 x y H2 I2 r1 r2 q2

theorem pe_op {op : Operator} {r : R2} (ho : OpR X (binaryOp op) r) (ha : PE X a ta) (hb : PE X b tb) : PE X (.BinOp a op b pos) (tOp r ta tb) := by
  intro pins s σ H Q I h
  exact wpAny_BinOp (binT ha hb I h fun v u s2 x y H2 I2 rx ry q => ho pins s2 σ H2 x y v u Q I2 rx ry q)
theorem pe_un {op : UnaryOp} {r : V → Hp → VK → Prop} (ho : UnR X (unaryOp op) r) (ha : PE X a ta) : PE X (.UnaryOp op a pos) (tUn r ta) := by
  intro pins s σ H Q I h
  exact UnaryOp_ (thn (ha pins s σ H _ I h) fun v s1 ⟨x, H1, I1, r1, q1⟩ => ho pins s1 σ H1 x v Q I1 r1 q1)
/-- a op= e at a name: the name's slot i -/
theorem augR {op : Operator} {r : R2} (ho : OpR X (inplaceOp op) r) {pins : List (Addr × Obj)} {s : Shared} {σ : St} {H : Hp} {x y : V} {v u : Value} {Q : VK} (I : Inv X pins σ H s)
    (rx : RelV x v) (ry : RelV y u) (q : r x y H Q) : wpAny (model X.prog X.w) X.A (inplaceOp op v u) (EP X pins σ Q) X.xe s := ho pins s σ H x y v u Q I rx ry q

/-! ### ints -/
theorem opI {f : Value → Value → Sem Value} {C : Int → Int → Prop} {g : Int → Int → Int}
    (rule : ∀ (i j : Int) (t u : Tok) (s : Shared) (Q : Value → Shared → Prop) (E : Value → Shared → Prop), C i j → Q (.int (g i j) s.toks) { s with toks := s.toks + 1 } → wpAny (model X.prog X.w) X.A (f (.int i t) (.int j u)) Q E s) :
    OpR X f (rI C fun i j => .int (g i j)) := by
  intro pins s σ H x y v u Q I rx ry h
  obtain ⟨i, j, rfl, rfl, hc, q⟩ := h
  obtain ⟨t, rfl⟩ := rx
  obtain ⟨t', rfl⟩ := ry
  exact rule i j t t' s _ _ hc ⟨.int (g i j), H, I.tok _, ⟨_, rfl⟩, q⟩
theorem opI0 {f : Value → Value → Sem Value} {g : Int → Int → Int}
    (rule : ∀ (i j : Int) (t u : Tok) (s : Shared) (Q : Value → Shared → Prop) (E : Value → Shared → Prop), Q (.int (g i j) s.toks) { s with toks := s.toks + 1 } → wpAny (model X.prog X.w) X.A (f (.int i t) (.int j u)) Q E s) :
    OpR X f (rI0 fun i j => .int (g i j)) := by
  intro pins s σ H x y v u Q I rx ry h
  obtain ⟨i, j, rfl, rfl, q⟩ := h
  obtain ⟨t, rfl⟩ := rx
  obtain ⟨t', rfl⟩ := ry
  exact rule i j t t' s _ _ ⟨.int (g i j), H, I.tok _, ⟨_, rfl⟩, q⟩
theorem opB0 {f : Value → Value → Sem Value} {g : Int → Int → Bool}
    (rule : ∀ (i j : Int) (t u : Tok) (s : Shared) (Q : Value → Shared → Prop) (E : Value → Shared → Prop), Q (.bool (g i j)) s → wpAny (model X.prog X.w) X.A (f (.int i t) (.int j u)) Q E s) :
    OpR X f (rI0 fun i j => .bl (g i j)) := by
  intro pins s σ H x y v u Q I rx ry h
  obtain ⟨i, j, rfl, rfl, q⟩ := h
  obtain ⟨t, rfl⟩ := rx
  obtain ⟨t', rfl⟩ := ry
  exact rule i j t t' s _ _ ⟨.bl (g i j), H, I, rfl, q⟩

def CDiv (i j : Int) : Prop := 0 < j ∧ j < 1073741824
def CDivN (i j : Int) : Prop := j ≠ 0 ∧ j.natAbs < 1073741824
def CPow (i j : Int) : Prop := 0 ≤ j ∧ j ≤ 1000000 ∧ i.natAbs < 2 ^ 64
def CMul (i j : Int) : Prop := (-(2 ^ 64) < i ∧ i < 2 ^ 64) ∨ (-(2 ^ 64) < j ∧ j < 2 ^ 64)
theorem CMul.ok {i j : Int} (h : CMul i j) : IntMulOk i j := by
  rcases h with ⟨h1, h2⟩ | ⟨h1, h2⟩
  · exact .of_left (intBits_le_64 h1 h2)
  · exact .of_right (intBits_le_64 h1 h2)
theorem two_pow_nn (k : Nat) : (0 : Int) ≤ 2 ^ k := by
  rw [two_pow_cast]
  exact Int.natCast_nonneg _

theorem op_add : OpR X (binaryOp .Add) (rI0 fun i j => .int (i + j)) := opI0 fun _ _ _ _ _ _ _ q => add_int q
theorem op_sub : OpR X (binaryOp .Sub) (rI0 fun i j => .int (i - j)) := opI0 fun _ _ _ _ _ _ _ q => sub_int q
theorem op_mul : OpR X (binaryOp .Mult) (rI CMul fun i j => .int (i * j)) := opI fun _ _ _ _ _ _ _ hc q => mul_int q hc.ok
/-- // by a positive divisor -/
theorem op_fdiv : OpR X (binaryOp .FloorDiv) (rI CDiv fun i j => .int (i / j)) := opI fun i j _ _ _ _ _ hc q => by
  have h1 : (0 : Int) < j := hc.1
  have h2 : j < 1073741824 := hc.2
  exact floordiv_int (by omega) (by rw [Int.fdiv_eq_ediv_of_nonneg i (by omega)]; exact q) (.inl (PyProof.noPylong_small (by omega)))
theorem op_fdivN : OpR X (binaryOp .FloorDiv) (rI CDivN fun i j => .int (i.fdiv j)) := opI fun _ _ _ _ _ _ _ hc q => floordiv_int hc.1 q (.inl (PyProof.noPylong_small hc.2))
/-- % by a positive divisor of any size -/
theorem op_mod : OpR X (binaryOp .Mod) (rI (fun _ j => 0 < j) fun i j => .int (i % j)) := opI fun i j _ _ _ _ _ hc q => by
  have h1 : (0 : Int) < j := hc
  exact mod_int' (by omega) (by rw [Int.fmod_eq_emod_of_nonneg i (by omega)]; exact q)
theorem op_modN : OpR X (binaryOp .Mod) (rI (fun _ j => j ≠ 0) fun i j => .int (i.fmod j)) := opI fun _ _ _ _ _ _ _ hc q => mod_int' hc q
theorem op_pow : OpR X (binaryOp .Pow) (rI CPow fun i j => .int (i ^ j.toNat)) := opI fun _ _ _ _ _ _ _ hc q => pow_int_small hc.1 hc.2.1 hc.2.2 q
theorem op_shl : OpR X (binaryOp .LShift) (rI CPow fun i j => .int (i * 2 ^ j.toNat)) := opI fun _ _ _ _ _ _ _ hc q => lshift_int_small hc.1 hc.2.1 hc.2.2 q
theorem op_shr : OpR X (binaryOp .RShift) (rI (fun _ j => 0 ≤ j) fun i j => .int (i / 2 ^ j.toNat)) := opI fun i j _ _ _ _ _ hc q =>
  rshift_int hc (by rw [Int.fdiv_eq_ediv_of_nonneg i (two_pow_nn _)]; exact q)
theorem op_and : OpR X (binaryOp .BitAnd) (rI0 fun i j => .int (Builtin.bitAnd i j)) := opI0 fun _ _ _ _ _ _ _ q => and_int q
theorem op_or : OpR X (binaryOp .BitOr) (rI0 fun i j => .int (Builtin.bitOr i j)) := opI0 fun _ _ _ _ _ _ _ q => or_int q
theorem op_xor : OpR X (binaryOp .BitXor) (rI0 fun i j => .int (Builtin.bitXor i j)) := opI0 fun _ _ _ _ _ _ _ q => xor_int q

theorem iop_add : OpR X (inplaceOp .Add) (rI0 fun i j => .int (i + j)) := opI0 fun _ _ _ _ _ _ _ q => iadd_int q
theorem iop_sub : OpR X (inplaceOp .Sub) (rI0 fun i j => .int (i - j)) := opI0 fun _ _ _ _ _ _ _ q => isub_int q
theorem iop_mul : OpR X (inplaceOp .Mult) (rI CMul fun i j => .int (i * j)) := opI fun _ _ _ _ _ _ _ hc q => imul_int q hc.ok
theorem iop_fdiv : OpR X (inplaceOp .FloorDiv) (rI CDiv fun i j => .int (i / j)) := opI fun i j _ _ _ _ _ hc q => by
  have h1 : (0 : Int) < j := hc.1
  have h2 : j < 1073741824 := hc.2
  exact ifloordiv_int (by omega) (by rw [Int.fdiv_eq_ediv_of_nonneg i (by omega)]; exact q) (.inl (PyProof.noPylong_small (by omega)))
theorem iop_mod : OpR X (inplaceOp .Mod) (rI (fun _ j => 0 < j) fun i j => .int (i % j)) := opI fun i j _ _ _ _ _ hc q => by
  have h1 : (0 : Int) < j := hc
  exact imod_int (by omega) (by rw [Int.fmod_eq_emod_of_nonneg i (by omega)]; exact q)
theorem iop_shl : OpR X (inplaceOp .LShift) (rI CPow fun i j => .int (i * 2 ^ j.toNat)) := opI fun _ _ _ _ _ _ _ hc q => ilshift_int_small hc.1 hc.2.1 hc.2.2 q
theorem iop_shr : OpR X (inplaceOp .RShift) (rI (fun _ j => 0 ≤ j) fun i j => .int (i / 2 ^ j.toNat)) := opI fun i j _ _ _ _ _ hc q =>
  irshift_int hc (by rw [Int.fdiv_eq_ediv_of_nonneg i (two_pow_nn _)]; exact q)
theorem iop_and : OpR X (inplaceOp .BitAnd) (rI0 fun i j => .int (Builtin.bitAnd i j)) := opI0 fun _ _ _ _ _ _ _ q => iand_int q
theorem iop_or : OpR X (inplaceOp .BitOr) (rI0 fun i j => .int (Builtin.bitOr i j)) := opI0 fun _ _ _ _ _ _ _ q => ior_int q
theorem iop_xor : OpR X (inplaceOp .BitXor) (rI0 fun i j => .int (Builtin.bitXor i j)) := opI0 fun _ _ _ _ _ _ _ q => ixor_int q

theorem unI {f : Value → Sem Value} {g : Int → Int}
    (rule : ∀ (i : Int) (t : Tok) (s : Shared) (Q : Value → Shared → Prop) (E : Value → Shared → Prop), Q (.int (g i) s.toks) { s with toks := s.toks + 1 } → wpAny (model X.prog X.w) X.A (f (.int i t)) Q E s) :
    UnR X f (rU fun i => .int (g i)) := by
  intro pins s σ H x v Q I rx h
  obtain ⟨i, rfl, q⟩ := h
  obtain ⟨t, rfl⟩ := rx
  exact rule i t s _ _ ⟨.int (g i), H, I.tok _, ⟨_, rfl⟩, q⟩
theorem un_neg : UnR X (unaryOp .USub) (rU fun i => .int (-i)) := unI fun _ _ _ _ _ q => neg_int q
theorem un_inv : UnR X (unaryOp .Invert) (rU fun i => .int (Builtin.bitNot i)) := unI fun _ _ _ _ _ q => invert_int q

/-! ### bools among ints: n += (a < b) -/
theorem op_add_ib : OpR X (binaryOp .Add) (fun x y H Q => ∃ i k, x = .int i ∧ y = .bl k ∧ Q (.int (i + b2i k)) H) := by
  intro pins s σ H x y v u Q I rx ry h
  obtain ⟨i, k, rfl, rfl, q⟩ := h
  obtain ⟨t, rfl⟩ := rx
  cases ry
  exact add_int_bool ⟨.int (i + b2i k), H, I.tok _, ⟨_, rfl⟩, q⟩
end

/-! ### comparisons -/
/-- the scalars that == tells apart as data does -/
def scal : V → V → Bool
  | .non, .non => true | .non, .int _ => true | .int _, .non => true | .non, .bl _ => true | .bl _, .non => true | .non, .str _ => true | .str _, .non => true
  | .int _, .int _ => true | .bl _, .bl _ => true | .str _, .str _ => true | .byt _, .byt _ => true
  | .int _, .str _ => true | .str _, .int _ => true | .bl _, .str _ => true | .str _, .bl _ => true
  | _, _ => false
def rEq : R2 := fun x y H Q => scal x y = true ∧ Q (.bl (decide (x = y))) H
def rNe : R2 := fun x y H Q => scal x y = true ∧ Q (.bl (!decide (x = y))) H

theorem dec_int {i j : Int} : decide (V.int i = V.int j) = (i == j) := by
  rw [Bool.eq_iff_iff]
  simp
theorem dec_bl {i j : Bool} : decide (V.bl i = V.bl j) = (i == j) := by
  rw [Bool.eq_iff_iff]
  simp
theorem dec_str {i j : Str} : decide (V.str i = V.str j) = (i == j) := by
  rw [Bool.eq_iff_iff]
  simp
theorem dec_byt {i j : Array UInt8} : decide (V.byt i = V.byt j) = (i.toList == j.toList) := by
  rw [Bool.eq_iff_iff]
  cases i
  cases j
  simp

section
variable {X : Cx} {a b c : Expr} {ta tb tc : TE} {pos : Pos}
theorem fin_bl {pins : List (Addr × Obj)} {σ : St} {H : Hp} {s : Shared} {Q : VK} {k k' : Bool} (I : Inv X pins σ H s) (q : Q (.bl k) H) (e : k = k') : EP X pins σ Q (.bool k') s := by
  subst e
  exact ⟨.bl k, H, I, rfl, q⟩
theorem op_eq : OpR X (compareOp .Eq) rEq := by
  intro pins s σ H x y v u Q I rx ry h
  obtain ⟨hs, q⟩ := h
  cases x with
  | non =>
    cases rx
    cases y with
    | non => cases ry; exact PySem.EqNone.eq_none_none (fin_bl I q (by simp))
    | bl j => cases ry; exact PySem.EqNone.eq_none_bool (fin_bl I q (by simp))
    | int j => obtain ⟨t', rfl⟩ := ry; exact PySem.EqNone.eq_none_int (fin_bl I q (by simp))
    | str j => obtain ⟨t', rfl⟩ := ry; exact PySem.EqNone.eq_none_str (fin_bl I q (by simp))
    | _ => exact absurd (show false = true from hs) Bool.false_ne_true
  | bl i =>
    cases rx
    cases y with
    | non => cases ry; exact PySem.EqNone.eq_bool_none (fin_bl I q (by simp))
    | bl j => cases ry; exact eq_bool (fin_bl I q dec_bl)
    | str j => obtain ⟨t', rfl⟩ := ry; exact PySem.EqMixed.eq_bool_str (fin_bl I q (by simp))
    | _ => exact absurd (show false = true from hs) Bool.false_ne_true
  | int i =>
    obtain ⟨t, rfl⟩ := rx
    cases y with
    | non => cases ry; exact PySem.EqNone.eq_int_none (fin_bl I q (by simp))
    | int j => obtain ⟨t', rfl⟩ := ry; exact eq_int (fin_bl I q dec_int)
    | str j => obtain ⟨t', rfl⟩ := ry; exact PySem.EqMixed.eq_int_str (fin_bl I q (by simp))
    | _ => exact absurd (show false = true from hs) Bool.false_ne_true
  | str i =>
    obtain ⟨t, rfl⟩ := rx
    cases y with
    | non => cases ry; exact PySem.EqNone.eq_str_none (fin_bl I q (by simp))
    | bl j => cases ry; exact PySem.EqMixed.eq_str_bool (fin_bl I q (by simp))
    | int j => obtain ⟨t', rfl⟩ := ry; exact PySem.EqMixed.eq_str_int (fin_bl I q (by simp))
    | str j => obtain ⟨t', rfl⟩ := ry; exact eq_str (fin_bl I q dec_str)
    | _ => exact absurd (show false = true from hs) Bool.false_ne_true
  | byt i =>
    obtain ⟨t, rfl⟩ := rx
    cases y with
    | byt j => obtain ⟨t', rfl⟩ := ry; exact PySem.W.eq_bytes (fin_bl I q dec_byt)
    | _ => exact absurd (show false = true from hs) Bool.false_ne_true
  | _ => cases y <;> exact absurd (show false = true from hs) Bool.false_ne_true
theorem op_ne : OpR X (compareOp .NotEq) rNe := by
  intro pins s σ H x y v u Q I rx ry h
  obtain ⟨hs, q⟩ := h
  cases x with
  | non =>
    cases rx
    cases y with
    | non => cases ry; exact PySem.EqNone.ne_none_none (fin_bl I q (by simp))
    | bl j => cases ry; exact PySem.EqNone.ne_none_bool (fin_bl I q (by simp))
    | int j => obtain ⟨t', rfl⟩ := ry; exact PySem.EqNone.ne_none_int (fin_bl I q (by simp))
    | str j => obtain ⟨t', rfl⟩ := ry; exact PySem.EqNone.ne_none_str (fin_bl I q (by simp))
    | _ => exact absurd (show false = true from hs) Bool.false_ne_true
  | bl i =>
    cases rx
    cases y with
    | non => cases ry; exact PySem.EqNone.ne_bool_none (fin_bl I q (by simp))
    | bl j => cases ry; exact ne_bool (fin_bl I q (congrArg not dec_bl))
    | str j => obtain ⟨t', rfl⟩ := ry; exact PySem.EqMixed.ne_bool_str (fin_bl I q (by simp))
    | _ => exact absurd (show false = true from hs) Bool.false_ne_true
  | int i =>
    obtain ⟨t, rfl⟩ := rx
    cases y with
    | non => cases ry; exact PySem.EqNone.ne_int_none (fin_bl I q (by simp))
    | int j => obtain ⟨t', rfl⟩ := ry; exact ne_int (fin_bl I q (congrArg not dec_int))
    | str j => obtain ⟨t', rfl⟩ := ry; exact PySem.EqMixed.ne_int_str (fin_bl I q (by simp))
    | _ => exact absurd (show false = true from hs) Bool.false_ne_true
  | str i =>
    obtain ⟨t, rfl⟩ := rx
    cases y with
    | non => cases ry; exact PySem.EqNone.ne_str_none (fin_bl I q (by simp))
    | bl j => cases ry; exact PySem.EqMixed.ne_str_bool (fin_bl I q (by simp))
    | int j => obtain ⟨t', rfl⟩ := ry; exact PySem.EqMixed.ne_str_int (fin_bl I q (by simp))
    | str j => obtain ⟨t', rfl⟩ := ry; exact ne_str (fin_bl I q (congrArg not dec_str))
    | _ => exact absurd (show false = true from hs) Bool.false_ne_true
  | byt i =>
    obtain ⟨t, rfl⟩ := rx
    cases y with
    | byt j => obtain ⟨t', rfl⟩ := ry; exact PySem.W.ne_bytes (fin_bl I q (congrArg not dec_byt))
    | _ => exact absurd (show false = true from hs) Bool.false_ne_true
  | _ => cases y <;> exact absurd (show false = true from hs) Bool.false_ne_true

theorem op_lt : OpR X (compareOp .Lt) (rI0 fun i j => .bl (decide (i < j))) := opB0 fun _ _ _ _ _ _ _ q => lt_int q
theorem op_le : OpR X (compareOp .LtE) (rI0 fun i j => .bl (decide (i ≤ j))) := opB0 fun _ _ _ _ _ _ _ q => le_int q
theorem op_gt : OpR X (compareOp .Gt) (rI0 fun i j => .bl (decide (j < i))) := opB0 fun _ _ _ _ _ _ _ q => gt_int q
theorem op_ge : OpR X (compareOp .GtE) (rI0 fun i j => .bl (decide (j ≤ i))) := opB0 fun _ _ _ _ _ _ _ q => ge_int q
theorem op_lt_str : OpR X (compareOp .Lt) (fun x y H Q => ∃ i j, x = .str i ∧ y = .str j ∧ Q (.bl (decide (i.cps.toList < j.cps.toList))) H) := by
  intro pins s σ H x y v u Q I rx ry h
  obtain ⟨i, j, rfl, rfl, q⟩ := h
  obtain ⟨t, rfl⟩ := rx
  obtain ⟨t', rfl⟩ := ry
  exact lt_str (fin_bl I q rfl)
/-- the one string within the other -/
theorem op_in_str : OpR X (compareOp .In) (fun x y H Q => ∃ i j, x = .str i ∧ y = .str j ∧ Q (.bl (!(Builtin.Str.occurrences j i 0 j.length 1).isEmpty)) H) := by
  intro pins s σ H x y v u Q I rx ry h
  obtain ⟨i, j, rfl, rfl, q⟩ := h
  obtain ⟨t, rfl⟩ := rx
  obtain ⟨t', rfl⟩ := ry
  exact in_str (fin_bl I q rfl)

/-- is None, is not None: the right side a value none -/
theorem op_isN : OpR X (compareOp .Is) (fun x y H Q => y = .non ∧ Q (.bl (decide (x = .non))) H) := by
  intro pins s σ H x y v u Q I rx ry h
  obtain ⟨rfl, q⟩ := h
  cases ry
  refine is_none_gen (fin_bl I q ?_)
  cases x <;> first
    | (cases rx; rfl)
    | (obtain ⟨t, rfl⟩ := rx; rfl)
theorem op_notN : OpR X (compareOp .IsNot) (fun x y H Q => y = .non ∧ Q (.bl (!decide (x = .non))) H) := by
  intro pins s σ H x y v u Q I rx ry h
  obtain ⟨rfl, q⟩ := h
  cases ry
  refine isnot_none_gen (fin_bl I q ?_)
  cases x <;> first
    | (cases rx; rfl)
    | (obtain ⟨t, rfl⟩ := rx; rfl)

theorem op_notin_str : OpR X (compareOp .NotIn) (fun x y H Q => ∃ i j, x = .str i ∧ y = .str j ∧ Q (.bl (!(!(Builtin.Str.occurrences j i 0 j.length 1).isEmpty))) H) := by
  intro pins s σ H x y v u Q I rx ry h
  obtain ⟨i, j, rfl, rfl, q⟩ := h
  obtain ⟨t, rfl⟩ := rx
  obtain ⟨t', rfl⟩ := ry
  exact notIn_str (fin_bl I q rfl)
/-- is, is not of two objects that are tracked lists or instances -/
def isObj : HO → Bool
  | .lst _ => true
  | .ins _ _ _ => true
  | _ => false
theorem obj_there {pins : List (Addr × Obj)} {s : Shared} {σ : St} {H : Hp} {a : Addr} {o : HO} (I : Inv X pins σ H s) (h : H a = some o) (p : isObj o = true) : ∃ ob, s.heap.get? a = some ob ∧ ob.cls ≠ .type "tuple" := by
  cases o with
  | lst xs =>
    obtain ⟨_, its, n, _, e⟩ : xs.length ≤ sizeLine ∧ ∃ (its : List Value) (n : Nat), Vals xs its ∧ s.heap.get? a = some { cls := .type "list", data := .seq its.toArray n } := I.hok a _ h
    exact ⟨_, e, (by show Value.type "list" ≠ .type "tuple"; decide +kernel)⟩
  | ins C dx fs =>
    have x := I.hok a _ h
    obtain ⟨_, _, _, e, _⟩ := x
    exact ⟨_, e, (by show Value.ref C ≠ .type "tuple"; exact fun z => by cases z)⟩
  | _ => exact absurd (show false = true from p) Bool.false_ne_true
theorem op_is_ref : OpR X (compareOp .Is) (fun x y H Q => ∃ a b oa ob, x = .ref a ∧ y = .ref b ∧ H a = some oa ∧ isObj oa = true ∧ H b = some ob ∧ isObj ob = true ∧ Q (.bl (decide (a = b))) H) := by
  intro pins s σ H x y v u Q I rx ry h
  obtain ⟨a, b, oa, ob, rfl, rfl, ha, pa, hb, pb, q⟩ := h
  cases rx
  cases ry
  obtain ⟨o1, e1, n1⟩ := obj_there I ha pa
  obtain ⟨o2, e2, _⟩ := obj_there I hb pb
  by_cases z : a = b
  · subst z
    exact wpAny_is_ref_self (fin_bl I q (by simp))
  · exact wpAny_is_ref_other z e1 e2 n1 (fin_bl I q (by simp [z]))
theorem op_isnot_ref : OpR X (compareOp .IsNot) (fun x y H Q => ∃ a b oa ob, x = .ref a ∧ y = .ref b ∧ H a = some oa ∧ isObj oa = true ∧ H b = some ob ∧ isObj ob = true ∧ Q (.bl (!decide (a = b))) H) := by
  intro pins s σ H x y v u Q I rx ry h
  obtain ⟨a, b, oa, ob, rfl, rfl, ha, pa, hb, pb, q⟩ := h
  cases rx
  cases ry
  obtain ⟨o1, e1, n1⟩ := obj_there I ha pa
  obtain ⟨o2, e2, _⟩ := obj_there I hb pb
  by_cases z : a = b
  · subst z
    exact wpAny_isNot_ref_self (fin_bl I q (by simp))
  · exact wpAny_isNot_ref_other z e1 e2 n1 (fin_bl I q (by simp [z]))

/-- two rules for one operation: by cases -/
theorem OpR.or {f : Value → Value → Sem Value} {r r' : R2} (h : OpR X f r) (h' : OpR X f r') : OpR X f (fun x y H Q => r x y H Q ∨ r' x y H Q) := by
  intro pins s σ H x y v u Q I rx ry q
  rcases q with q | q
  · exact h pins s σ H x y v u Q I rx ry q
  · exact h' pins s σ H x y v u Q I rx ry q

theorem nomark (b : Expr) {op : CmpOp} (h : op ≠ .In := by decide) (h2 : op ≠ .NotIn := by decide) : behindInMarks op b = false := by
  have e1 : (op == CmpOp.In) = false := by cases op <;> first | rfl | exact absurd rfl h
  have e2 : (op == CmpOp.NotIn) = false := by cases op <;> first | rfl | exact absurd rfl h2
  cases b <;> simp [behindInMarks, e1, e2]
/-- a comparison as a value; hm: nomark b, or (for in, not in) by with_unfolding_all rfl -/
theorem pe_cmpR {op : CmpOp} {r : R2} (ho : OpR X (compareOp op) r) (ha : PE X a ta) (hb : PE X b tb) (hm : behindInMarks op b = false) : PE X (.Compare a [op] [b] pos) (tOp r ta tb) := by
  intro pins s σ H Q I h
  exact wpAny_Compare1 (binT ha hb I h fun v u s2 x y H2 I2 rx ry q => ho pins s2 σ H2 x y v u Q I2 rx ry q) hm
/-- a reading of a value as a test -/
def tTest (t : TE) : TT := fun σ H Q => t σ H fun x H' => ∃ k, x = .bl k ∧ Q k H'
theorem pt_cmpR {op : CmpOp} {r : R2} (ho : OpR X (compareOp op) r) (ha : PE X a ta) (hb : PE X b tb) (hm : behindInMarks op b = false) : PT X (.Compare a [op] [b] pos) (tTest (tOp r ta tb)) := by
  intro pins s σ H Q I h
  refine wpAny_isTrue_Compare1 (thn (ha pins s σ H _ I h) fun v s1 ⟨x, H1, I1, r1, q1⟩ => thn (hb pins s1 σ H1 _ I1 q1) fun u s2 ⟨y, H2, I2, r2, q2⟩ =>
    thn (ho pins s2 σ H2 x y v u _ I2 r1 r2 q2) fun c s3 ⟨z, H3, I3, r3, k, e, q3⟩ => ?_) hm
  subst e
  cases r3
  exact wpAny_truthy_bool ⟨H3, I3, q3⟩
/-- a op1 b op2 c -/
def tChain (r r' : R2) (ta tb tc : TE) : TE := fun σ H Q => ta σ H fun x H1 => tb σ H1 fun y H2 => r x y H2 fun z H3 => ∃ k, z = .bl k ∧
  (if k = true then tc σ H3 fun w' H4 => r' y w' H4 Q else Q (.bl false) H3)
theorem pe_chain {op op' : CmpOp} {r r' : R2} (ho : OpR X (compareOp op) r) (ho' : OpR X (compareOp op') r') (ha : PE X a ta) (hb : PE X b tb) (hc : PE X c tc)
    (hm : lastMarks [op, op'] [b, c] = false := by with_unfolding_all rfl) : PE X (.Compare a [op, op'] [b, c] pos) (tChain r r' ta tb tc) := by
  intro pins s σ H Q I h
  refine Compare_chain (thn (ha pins s σ H _ I h) fun v s1 ⟨x, H1, I1, r1, q1⟩ => chain_link (thn (hb pins s1 σ H1 _ I1 q1) fun u s2 ⟨y, H2, I2, r2, q2⟩ =>
    thn (ho pins s2 σ H2 x y v u _ I2 r1 r2 q2) fun d s3 ⟨z, H3, I3, r3, k, e, q3⟩ => ?_)) hm
  subst e
  cases r3
  refine wpAny_truthy_bool ?_
  cases k with
  | false => exact ite_ff ⟨.bl false, H3, I3, rfl, q3⟩
  | true => exact ite_tt (chain_last (thn (hc pins s3 σ H3 _ I3 q3) fun w' s4 ⟨z', H4, I4, r4, q4⟩ => ho' pins s4 σ H4 y z' u w' Q I4 r2 r4 q4))
theorem pt_chain {op op' : CmpOp} {r r' : R2} (ho : OpR X (compareOp op) r) (ho' : OpR X (compareOp op') r') (ha : PE X a ta) (hb : PE X b tb) (hc : PE X c tc)
    (hm : lastMarks [op, op'] [b, c] = false := by with_unfolding_all rfl) : PT X (.Compare a [op, op'] [b, c] pos) (tTest (tChain r r' ta tb tc)) := by
  intro pins s σ H Q I h
  refine isTrue_chain (thn (ha pins s σ H _ I h) fun v s1 ⟨x, H1, I1, r1, q1⟩ => test_link (thn (hb pins s1 σ H1 _ I1 q1) fun u s2 ⟨y, H2, I2, r2, q2⟩ =>
    thn (ho pins s2 σ H2 x y v u _ I2 r1 r2 q2) fun d s3 ⟨z, H3, I3, r3, k, e, q3⟩ => ?_)) hm
  subst e
  cases r3
  refine wpAny_truthy_bool ?_
  cases k with
  | false =>
    obtain ⟨k', e', q'⟩ := q3
    cases e'
    exact ite_ff ⟨H3, I3, q'⟩
  | true =>
    refine ite_tt (test_last (thn (hc pins s3 σ H3 _ I3 q3) fun w' s4 ⟨z', H4, I4, r4, q4⟩ => thn (ho' pins s4 σ H4 y z' u w' _ I4 r2 r4 q4) fun d' s5 ⟨z2, H5, I5, r5, k2, e2, q5⟩ => ?_))
    subst e2
    cases r5
    exact wpAny_truthy_bool ⟨H5, I5, q5⟩

/-! ### truth -/
/-- a value's truth by the abstract heap -/
def TruV (K : PySem.W.Frag) (x : V) (H : Hp) (k : Bool) : Prop :=
  match x with
  | .non => k = false
  | .bl b => k = b
  | .int i => k = (i != 0)
  | .str y => y.length ≤ sizeLine ∧ k = ((y.length : Int) != 0)
  | .byt y => y.size ≤ sizeLine ∧ k = ((y.size : Int) != 0)
  | .ref p => (∃ xs, SqL K H p xs ∧ k = !xs.isEmpty) ∨ (∃ xs, SqT K H p xs ∧ k = !xs.isEmpty) ∨ ∃ kvs, H p = some (.dK kvs) ∧ k = !kvs.isEmpty
  | _ => False
theorem isEmpty_kv {κ : Type} {kvs : List (κ × V)} {vs : List (κ × Value)} (r : KV kvs vs) : (!vs.isEmpty) = !kvs.isEmpty := by
  cases r <;> rfl
theorem isEmpty_of {xs : List V} {its : List Value} (r : Vals xs its) : (!its.toArray.isEmpty) = !xs.isEmpty := by
  cases r <;> simp
theorem line63 : (sizeLine : Nat) < 2 ^ 63 := by rw [sizeLine_eq]; decide
theorem tru_ok : TruR X (fun x H Q => ∃ k, TruV X.K x H k ∧ Q k H) := by
  intro pins s σ H x v Q I rx h
  obtain ⟨k, e, q⟩ := h
  have hl := line63
  have hs : sizeLine = 16777216 := sizeLine_eq
  cases x with
  | non =>
    cases rx
    have e' : k = false := e
    subst e'
    exact truthy_none ⟨H, I, q⟩
  | bl b =>
    cases rx
    have e' : k = b := e
    subst e'
    exact wpAny_truthy_bool ⟨H, I, q⟩
  | int i =>
    obtain ⟨t, rfl⟩ := rx
    have e' : k = (i != 0) := e
    subst e'
    exact PySem.P.truthy_int ⟨H, I, q⟩
  | str y =>
    obtain ⟨t, rfl⟩ := rx
    obtain ⟨hy, e'⟩ : y.length ≤ sizeLine ∧ k = ((y.length : Int) != 0) := e
    subst e'
    exact PySem.P.truthy_str (by omega) ⟨H, I.tok _, q⟩
  | byt y =>
    obtain ⟨t, rfl⟩ := rx
    obtain ⟨hy, e'⟩ : y.size ≤ sizeLine ∧ k = ((y.size : Int) != 0) := e
    subst e'
    exact PySem.W.truthy_bytes (by omega) ⟨H, I.tok _, q⟩
  | ref p =>
    cases rx
    have e' : (∃ xs, SqL X.K H p xs ∧ k = !xs.isEmpty) ∨ (∃ xs, SqT X.K H p xs ∧ k = !xs.isEmpty) ∨ ∃ kvs, H p = some (.dK kvs) ∧ k = !kvs.isEmpty := e
    rcases e' with ⟨xs, hx, e'⟩ | ⟨xs, hx, e'⟩ | ⟨kvs, hx, e'⟩
    · subst e'
      obtain ⟨its, r, pl, hz⟩ := I.list hx
      have hlen := r.length
      exact wpAny_truthy_list pl.isList (by simp only [List.size_toArray]; omega) ⟨H, I.tok _, by rw [isEmpty_of r]; exact q⟩
    · subst e'
      obtain ⟨its, r, pl, hz⟩ := I.tuple hx
      have hlen := r.length
      exact truthy_tuple pl (by simp only [List.size_toArray]; omega) ⟨H, I.tok _, by rw [isEmpty_of r]; exact q⟩
    · subst e'
      obtain ⟨hz, hS, vs, r, m⟩ : kvs.length ≤ sizeLine ∧ (p == sysModules) = false ∧ ∃ vs, KV kvs vs ∧ s.heap.DictOf (mixKind X.prog X.w) p vs := I.hok p _ hx
      have hlen : kvs.length = vs.length := Paired.length r
      exact wpAny_truthy_dict hS m (by omega) ⟨H, I.tok _, by rw [isEmpty_kv r]; exact q⟩
  | _ => exact (show False from e).elim
/-- any expression whose test is its value's truth (a name, a call, a subscript, a field ..: he by fun _ => rfl) -/
theorem pt_truth (ha : PE X a ta) (he : ∀ whole, isTrue a X.env whole = (do let v ← whole; standAt a.pos; holding [v] (truthy v))) :
    PT X a (fun σ H Q => ta σ H fun x H' => ∃ k, TruV X.K x H' k ∧ Q k H') := by
  intro pins s σ H Q I h
  exact isTrue_plain (thn (ha pins s σ H _ I h) fun v s1 ⟨x, H1, I1, r1, q1⟩ => tru_ok pins s1 σ H1 x v Q I1 r1 q1) (he _)

/-! ### strs and bytes -/
theorem pe_byt {x : List UInt8} {k : Nat} : PE X (.Constant (.bytes x) k pos) (fun _ H Q => Q (.byt x.toArray) H) := fun _ _ _ H _ I h => PySem.W.Constant_bytes ⟨.byt x.toArray, H, I.tok _, ⟨_, rfl⟩, h⟩
theorem op_add_str : OpR X (binaryOp .Add) (fun x y H Q => ∃ i j, x = .str i ∧ y = .str j ∧ i.length + j.length ≤ sizeLine ∧ Q (.str (i ++ j)) H) := by
  intro pins s σ H x y v u Q I rx ry h
  obtain ⟨i, j, rfl, rfl, hz, q⟩ := h
  obtain ⟨t, rfl⟩ := rx
  obtain ⟨t', rfl⟩ := ry
  exact add_str (fun t' tk => ⟨.str (i ++ j), H, I.tok _, ⟨_, rfl⟩, q⟩) hz
theorem iop_add_str : OpR X (inplaceOp .Add) (fun x y H Q => ∃ i j, x = .str i ∧ y = .str j ∧ i.length + j.length ≤ sizeLine ∧ Q (.str (i ++ j)) H) := by
  intro pins s σ H x y v u Q I rx ry h
  obtain ⟨i, j, rfl, rfl, hz, q⟩ := h
  obtain ⟨t, rfl⟩ := rx
  obtain ⟨t', rfl⟩ := ry
  exact iadd_str (fun t' tk => ⟨.str (i ++ j), H, I.tok _, ⟨_, rfl⟩, q⟩) hz
theorem op_add_byt : OpR X (binaryOp .Add) (fun x y H Q => ∃ i j, x = .byt i ∧ y = .byt j ∧ i.size + j.size ≤ 16777216 ∧ Q (.byt (i ++ j)) H) := by
  intro pins s σ H x y v u Q I rx ry h
  obtain ⟨i, j, rfl, rfl, hz, q⟩ := h
  obtain ⟨t, rfl⟩ := rx
  obtain ⟨t', rfl⟩ := ry
  exact PySem.W.KBy.add_bytes hz (fun t' tk => ⟨.byt (i ++ j), H, I.tok _, ⟨_, rfl⟩, q⟩)

def PlainIxT (b : Expr) : Prop := ∀ o i, subscripted b false o i = operate [o, i] (getItem o i)
/-- s[i], 0 ≤ i < len -/
theorem pe_item_str (ha : PE X a ta) (hb : PE X b tb) (hs : PlainIxT b) :
    PE X (.Subscript a b pos) (tOp (fun x y H Q => ∃ z i c, x = .str z ∧ y = .int i ∧ 0 ≤ i ∧ i < 2 ^ 63 ∧ i < z.length ∧ z.cps[i.toNat]? = some c ∧ Q (.str ⟨#[c]⟩) H) ta tb) := by
  intro pins s σ H Q I h
  refine Subscript_ (binT ha hb I h fun v u s2 x y H2 I2 rx ry q => ?_)
  obtain ⟨z, i, c, rfl, rfl, h0, h63, h1, hc, q⟩ := q
  obtain ⟨t, rfl⟩ := rx
  obtain ⟨t', rfl⟩ := ry
  have e : seqIndex? i z.length = some i.toNat := PySem.StrLaws.seqIndex_nonneg h0 h1
  exact tail_any (typeIs_str s2 z t) slot_str_getitem.lookup (getItem_str (c := c) (by
    have e1 : decide (i < -(2 ^ 63 : Int)) = false := decide_eq_false (by omega)
    have e2 : decide (i ≥ 2 ^ 63) = false := decide_eq_false (by omega)
    rw [e1, e2] <;> rfl) (by rw [e]; exact hc) ⟨.str ⟨#[c]⟩, H2, I2.tok _, ⟨_, rfl⟩, q⟩) (hs _ _)
/-- b[i], 0 ≤ i < len -/
theorem pe_item_byt (ha : PE X a ta) (hb : PE X b tb) (hs : PlainIxT b) :
    PE X (.Subscript a b pos) (tOp (fun x y H Q => ∃ (z : List UInt8) (i : Int), x = .byt z.toArray ∧ y = .int i ∧ z.length ≤ sizeLine ∧ 0 ≤ i ∧ i < z.length ∧ Q (.int ((z.getD i.toNat 0).toNat : Nat)) H) ta tb) := by
  intro pins s σ H Q I h
  refine Subscript_ (binT ha hb I h fun v u s2 x y H2 I2 rx ry q => ?_)
  obtain ⟨z, i, rfl, rfl, hz, h0, h1, q⟩ := q
  obtain ⟨t, rfl⟩ := rx
  obtain ⟨t', rfl⟩ := ry
  have hl : sizeLine = 16777216 := sizeLine_eq
  exact tail_any (PySem.W.typeIs_bytes s2 z.toArray t) PySem.W.FB.slot_bytes_getitem.lookup (PySem.W.getItem_bytes (by omega) h0 h1 ⟨.int ((z.getD i.toNat 0).toNat : Nat), H2, I2.tok _, ⟨_, rfl⟩, q⟩) (hs _ _)

/-! ### scalar builtins, by CallR -/
theorem vals1 {x : V} {us : List Value} (r : Vals [x] us) : ∃ u, us = [u] ∧ RelV x u := by
  cases r with
  | cons r1 r2 => cases r2; exact ⟨_, rfl, r1⟩
theorem vals2 {x y : V} {us : List Value} (r : Vals [x, y] us) : ∃ u w', us = [u, w'] ∧ RelV x u ∧ RelV y w' := by
  cases r with
  | cons r1 r2 =>
    cases r2 with
    | cons r3 r4 => cases r4; exact ⟨_, _, rfl, r1, r3⟩
theorem call_abs : CallR X (.builtin "abs") (fun xs H Q => ∃ i, xs = [.int i] ∧ Q (.int (if i < 0 then -i else i)) H) := by
  intro pins s σ H xs us Q I r h
  obtain ⟨i, rfl, q⟩ := h
  obtain ⟨u, rfl, t, rfl⟩ := vals1 r
  exact call_abs_int fun u tk => ⟨.int (if i < 0 then -i else i), H, I.tok _, ⟨_, rfl⟩, q⟩
theorem call_max2 (hc : X.calm = true) : CallR X (.builtin "max") (fun xs H Q => ∃ i j, xs = [.int i, .int j] ∧ Q (.int (if j > i then j else i)) H) := by
  intro pins s σ H xs us Q I r h
  obtain ⟨i, j, rfl, q⟩ := h
  obtain ⟨u, w', rfl, ⟨t, rfl⟩, ⟨t', rfl⟩⟩ := vals2 r
  refine max_two_ints (I.ok.hd hc) fun h' tk k => ⟨_, H, I.kept k, ?_, q⟩
  by_cases hj : j > i
  · rw [if_pos hj, if_pos hj]; exact ⟨_, rfl⟩
  · rw [if_neg hj, if_neg hj]; exact ⟨_, rfl⟩
theorem call_min2 (hc : X.calm = true) : CallR X (.builtin "min") (fun xs H Q => ∃ i j, xs = [.int i, .int j] ∧ Q (.int (if j < i then j else i)) H) := by
  intro pins s σ H xs us Q I r h
  obtain ⟨i, j, rfl, q⟩ := h
  obtain ⟨u, w', rfl, ⟨t, rfl⟩, ⟨t', rfl⟩⟩ := vals2 r
  refine min_two_ints (I.ok.hd hc) fun h' tk k => ⟨_, H, I.kept k, ?_, q⟩
  by_cases hj : j < i
  · rw [if_pos hj, if_pos hj]; exact ⟨_, rfl⟩
  · rw [if_neg hj, if_neg hj]; exact ⟨_, rfl⟩
theorem call_int1 : CallR X (.type "int") (fun xs H Q => (∃ i, xs = [.int i] ∧ Q (.int i) H) ∨ ∃ k, xs = [.bl k] ∧ Q (.int (if k then 1 else 0)) H) := by
  intro pins s σ H xs us Q I r h
  rcases h with ⟨i, rfl, q⟩ | ⟨k, rfl, q⟩
  · obtain ⟨u, rfl, t, rfl⟩ := vals1 r
    exact call_int_int ⟨.int i, H, I, ⟨_, rfl⟩, q⟩
  · obtain ⟨u, rfl, r1⟩ := vals1 r
    cases r1
    exact call_int_bool ⟨.int (if k then 1 else 0), H, I.tok _, ⟨_, rfl⟩, q⟩
theorem call_bool1 : CallR X (.type "bool") (fun xs H Q => (∃ i, xs = [.int i] ∧ Q (.bl (i != 0)) H) ∨ ∃ k, xs = [.bl k] ∧ Q (.bl k) H) := by
  intro pins s σ H xs us Q I r h
  rcases h with ⟨i, rfl, q⟩ | ⟨k, rfl, q⟩
  · obtain ⟨u, rfl, t, rfl⟩ := vals1 r
    exact call_bool_int ⟨.bl (i != 0), H, I, rfl, q⟩
  · obtain ⟨u, rfl, r1⟩ := vals1 r
    cases r1
    exact call_bool_bool ⟨.bl k, H, I, rfl, q⟩
theorem call_str_int : CallR X (.type "str") (fun xs H Q => ∃ i, xs = [.int i] ∧ i.natAbs.log2 < 1920 ∧ Q (.str (toString i)) H) := by
  intro pins s σ H xs us Q I r h
  obtain ⟨i, rfl, hz, q⟩ := h
  obtain ⟨u, rfl, t, rfl⟩ := vals1 r
  exact PySem.P.str_of_int hz ⟨.str _, H, I.tok _, ⟨_, rfl⟩, q⟩
theorem call_ord : CallR X (.builtin "ord") (fun xs H Q => ∃ x, xs = [.str x] ∧ x.length = 1 ∧ Q (.int (x.cps.getD 0 0 : Nat)) H) := by
  intro pins s σ H xs us Q I r h
  obtain ⟨x, rfl, hz, q⟩ := h
  obtain ⟨u, rfl, t, rfl⟩ := vals1 r
  exact ord_of_one hz ⟨.int _, H, I.tok _, ⟨_, rfl⟩, q⟩
theorem call_chr : CallR X (.builtin "chr") (fun xs H Q => ∃ i, xs = [.int i] ∧ 0 ≤ i ∧ i ≤ 1114111 ∧ Q (.str ⟨#[i.toNat]⟩) H) := by
  intro pins s σ H xs us Q I r h
  obtain ⟨i, rfl, h0, h1, q⟩ := h
  obtain ⟨u, rfl, t, rfl⟩ := vals1 r
  exact chr_of_range h0 h1 ⟨.str _, H, I.tok _, ⟨_, rfl⟩, q⟩
/-- len of a str, a bytes, a list, a tuple -/
def LenV (K : PySem.W.Frag) (x : V) (H : Hp) (n : Nat) : Prop :=
  match x with
  | .str y => y.length ≤ sizeLine ∧ n = y.length
  | .byt y => y.size ≤ sizeLine ∧ n = y.size
  | .ref p => (∃ xs, SqL K H p xs ∧ n = xs.length) ∨ ∃ xs, SqT K H p xs ∧ n = xs.length
  | _ => False
theorem call_len : CallR X (.builtin "len") (fun xs H Q => ∃ x n, xs = [x] ∧ LenV X.K x H n ∧ Q (.int n) H) := by
  intro pins s σ H xs us Q I r h
  obtain ⟨x, n, rfl, e, q⟩ := h
  obtain ⟨u, rfl, rx⟩ := vals1 r
  have hl := line63
  have hs : sizeLine = 16777216 := sizeLine_eq
  cases x with
  | str y =>
    obtain ⟨t, rfl⟩ := rx
    obtain ⟨hy, e'⟩ : y.length ≤ sizeLine ∧ n = y.length := e
    subst e'
    exact len_str (by omega) ⟨.int _, H, I.tok _, ⟨_, rfl⟩, q⟩
  | byt y =>
    obtain ⟨t, rfl⟩ := rx
    obtain ⟨hy, e'⟩ : y.size ≤ sizeLine ∧ n = y.size := e
    subst e'
    exact PySem.W.len_bytes (by omega) ⟨.int _, H, I.tok _, ⟨_, rfl⟩, q⟩
  | ref p =>
    cases rx
    have e' : (∃ xs, SqL X.K H p xs ∧ n = xs.length) ∨ ∃ xs, SqT X.K H p xs ∧ n = xs.length := e
    rcases e' with ⟨xs, hx, e'⟩ | ⟨xs, hx, e'⟩
    · subst e'
      obtain ⟨its, r', pl, hz⟩ := I.list hx
      have hlen := r'.length
      exact Calls.call_len_list pl.isList (by simp only [List.size_toArray]; omega) ⟨.int xs.length, H, I.tok _, ⟨_, by simp only [List.size_toArray]; rw [hlen]⟩, q⟩
    · subst e'
      obtain ⟨its, r', pl, hz⟩ := I.tuple hx
      have hlen := r'.length
      exact len_tuple pl (by simp only [List.size_toArray]; omega) ⟨.int xs.length, H, I.tok _, ⟨_, by simp only [List.size_toArray]; rw [hlen]⟩, q⟩
  | _ => exact (show False from e).elim
/-- divmod: a new tuple -/
theorem call_divmod : CallR X (.builtin "divmod") (fun xs H Q => ∃ i j, xs = [.int i, .int j] ∧ CDiv i j ∧ ∀ p, H p = none → Q (.ref p) (upd H p (.tup [.int (i / j), .int (i % j)]))) := by
  intro pins s σ H xs us Q I r h
  obtain ⟨i, j, rfl, ⟨h1, h2⟩, q⟩ := h
  obtain ⟨u, w', rfl, ⟨t, rfl⟩, ⟨t', rfl⟩⟩ := vals2 r
  refine divmod_int (by omega) ?_ (.inl (PyProof.noPylong_small (by omega)))
  rw [Int.fdiv_eq_ediv_of_nonneg i (by omega), Int.fmod_eq_emod_of_nonneg i (by omega)]
  have hn : H s.heap.objs.size = none := I.hok.fresh (Nat.le_refl _)
  refine ⟨.ref s.heap.objs.size, _, ?_, rfl, q _ hn⟩
  refine I.laid (fun b o e => Heap.get?_push_of_some _ e) (Nat.le_refl _) ⟨by simp only [List.length_cons, List.length_nil]; rw [sizeLine_eq]; decide, [.int (i / j) s.toks, .int (i % j) (s.toks + 1)], .cons ⟨_, rfl⟩ (.cons ⟨_, rfl⟩ .nil), ?_⟩
  exact ⟨_, Heap.get?_push_size s.heap rfl, rfl, 0, rfl⟩
end
end L2

namespace L2
open PySem PySem.Spec PyProof.Rows

/-! ### an instance, its attributes a map -/
structure ObjM (h : Heap) (x dx C : Addr) (mA : Str → Option Value) : Prop where
  obj : h.get? x = some (PySem.W.instObj C dx)
  ns : h.Ns1 dx mA
  ne : dx ≠ x

theorem lookIn_ns {h : Heap} {dx : Addr} {mA : Str → Option Value} (n : h.Ns1 dx mA) : ∃ od, h.get? dx = some od ∧ ∀ name, PySem.W.lookIn name od = some (mA name) := by
  obtain ⟨o, es, ep, ho, hd, hk, _, hm⟩ := n
  refine ⟨o, ho, fun name => ?_⟩
  have e := hm name
  unfold nsFind findBy at e
  rw [← Array.find?_toList] at e
  unfold PySem.W.lookIn
  rw [hd]
  dsimp only
  split
  · rename_i y q
    rw [q] at e
    exact congrArg some e
  · rename_i q
    rw [q] at e
    have a : es.toList.any (·.refKey) = false := by
      rw [List.any_eq_false]
      intro y hy
      obtain ⟨z, t, hkey⟩ := hk y (Array.mem_toList_iff.mp hy)
      simp [DictEntry.refKey, hkey]
    have a' : ¬ es.toList.any (·.refKey) = true := by rw [a]; exact Bool.false_ne_true
    rw [if_neg a']
    exact congrArg some e

theorem ObjM.look {h : Heap} {x dx C : Addr} {mA : Str → Option Value} (I : ObjM h x dx C mA) : ∃ od, PySem.W.InstAt h x (PySem.W.instObj C dx) C (some od) ∧ ∀ name, PySem.W.lookIn name od = some (mA name) :=
  let ⟨od, ho, hl⟩ := lookIn_ns I.ns
  ⟨od, ⟨I.obj, rfl, rfl, ho⟩, hl⟩

section
variable {prog : Program} {w : World} {A : Around} {E : Value → Shared → Prop} {s : Shared} {K : PySem.W.Frag} {x dx C f : Addr} {mA : Str → Option Value} {name : Str} {v : Value}

theorem get_map {expr : Bool} {Q : Value → Shared → Prop} (X : K.In s.heap) (I : ObjM s.heap x dx C mA) (hg : PySem.W.plainGet K C name = true) (hh : PySem.W.hasDictIn K C = true)
    (ha : PySem.W.findIn K (.ref C) name = some none) (hv : mA name = some v) (hv' : PySem.W.handedIn v = true) (h : Q v { s with toks := s.toks + 1 }) :
    wpAny (model prog w) A (getAttr (.ref x) name expr) Q E s := by
  obtain ⟨od, J, hl⟩ := I.look
  exact PySem.W.get_value X J (PySem.W.plainGet_of hg).1 (PySem.W.findObj_own hh ha rfl (by rw [hl, hv])) hv' h

theorem get_const {expr : Bool} {a : Value} {Q : Value → Shared → Prop} (X : K.In s.heap) (I : ObjM s.heap x dx C mA) (hg : PySem.W.plainGet K C name = true) (hh : PySem.W.hasDictIn K C = true)
    (ha : PySem.W.findIn K (.ref C) name = some (some a)) (hn : PySem.W.specialIn K a "__get__" = some none) (hc : PySem.W.copiedNames.contains name = false) (hv : mA name = none) (hv' : PySem.W.handedIn a = true)
    (h : Q a { s with toks := s.toks + 1 }) : wpAny (model prog w) A (getAttr (.ref x) name expr) Q E s := by
  obtain ⟨od, J, hl⟩ := I.look
  exact PySem.W.get_value X J (PySem.W.plainGet_of hg).1 (PySem.W.findObj_cls hh ha hn hv' hc (by rw [hl, hv])) hv' h

theorem get_meth {pl : Sem Bool} {Q : Value × List Value → Shared → Prop} (X : K.In s.heap) (I : ObjM s.heap x dx C mA) (hg : PySem.W.plainGet K C name = true)
    (hf : PySem.W.findIn K (.ref C) name = some (some (.ref f))) (ht : PySem.W.isFn K (.ref f) = true) (hv : mA name = none) (h : Q (.ref f, [.ref x]) s) :
    wpAny (model prog w) A (getMethod (.ref x) name pl) Q E s := by
  obtain ⟨od, J, hl⟩ := I.look
  exact PySem.W.method_fn X J (PySem.W.plainGet_of hg).1 (PySem.W.plainGet_of hg).2 hf (beq_iff_eq.mp ht) (by show (PySem.W.lookIn name od).map (·.isSome) = some false; rw [hl, hv]; rfl) h

theorem set_map {ns : List Str} {Q : Unit → Shared → Prop} (X : K.In s.heap) (I : ObjM s.heap x dx C mA)
    (hs : PySem.W.findIn K (.ref C) "__setattr__" = some (some (.builtin "object.__setattr__"))) (hp : PySem.W.plainOver K C = true) (ht : PySem.W.takerIn K C name = some none) (hh : PySem.W.hasDictIn K C = true)
    (hw : PySem.Within mA ns) (hsz : ns.length ≤ sizeLine)
    (h : ∀ h', ObjM h' x dx C (fun y => if y = name then some v else mA y) → Heap.SameBut dx s.heap h' → Q () { s with heap := h', toks := s.toks + 2 }) :
    wpAny (model prog w) A (setAttr (.ref x) name v) Q E s := by
  obtain ⟨od, J, hl⟩ := I.look
  refine PySem.W.set_plain X J hs (PySem.W.osa_open (s := { s with toks := s.toks + 1 }) (r := none) X J hp ht fun b => ?_)
  obtain ⟨cd, hc, hd'⟩ := PySem.W.any_some hh
  have hx : s.heap.get? x = some ⟨.ref C, some dx, .plain, #[]⟩ := I.obj
  refine wpAny_bind (wpAny_pure (wpAny_bind (wpAny_bind (wpAny_loadPart hx (wpAny_bind (PySem.W.Looks.here (s := { s with toks := s.toks + 1 }) (PySem.W.looks_clsIn X hc) ?_))))))
  rw [hd']
  refine wpAny_pure (a := some dx) (wpAny_bind (wpAny_pure (wpAny_bind ?_)))
  refine wpAny_nsSet1 (s := { s with toks := s.toks + 1 }) I.ns fun h' hn2 hs2 => ?_
  obtain ⟨oD, esD, epD, hoD, hdD, hcD⟩ := hn2.count (PySem.Within.cons name v hw)
  refine wpAny_bind (wpAny_lookBehind hoD (by rw [hdD]; exact pastItsLine_dict (Nat.le_trans hcD (by rw [List.length_cons]; omega))) ?_)
  exact wpAny_pure (h _ ⟨(hs2.2 _ (Ne.symm I.ne)).trans I.obj, hn2, I.ne⟩ hs2)

/-- C(..): the dict at the heap's end, the instance behind it; then its __init__ -/
theorem make_map {R : Result → Shared → Prop} {vs : List Value} {kw : List (Str × Value)} (X : K.In s.heap) (hm : PySem.W.makesIn K C = true)
    (hi : PySem.W.findIn K (.ref C) "__init__" = some (some (.ref f))) (hf : PySem.W.typeIn K (.ref f) = some (.type "function"))
    (h : codeAny (model prog w) (A.under (.builtin "type.__call__" ⟨.ref C :: vs, kw⟩)) (.call (.ref f) ⟨.ref (s.heap.objs.size + 1) :: vs, kw⟩) (PySem.W.InitBack (s.heap.objs.size + 1) R)
      { s with heap := (s.heap.push PySem.W.emptyDict).push (PySem.W.instObj C s.heap.objs.size) }) :
    codeAny (model prog w) A (.call (.ref C) ⟨vs, kw⟩) R s := by
  obtain ⟨hh, g, d, t, os⟩ := s
  exact PySem.W.make_core (PySem.W.makes_of X hm) (PySem.W.looks_findIn X hi) (fun self => PySem.W.bind_fn X self hf) (.inl rfl) h
/-- C() where there is no __init__ but object's -/
theorem make_map0 {R : Result → Shared → Prop} (X : K.In s.heap) (hm : PySem.W.makesIn K C = true)
    (hi : PySem.W.findIn K (.ref C) "__init__" = some (some (.builtin "object.__init__")))
    (hb : ∀ self, PySem.W.Looks (model prog w) s.heap (bindSpecial (.builtin "object.__init__") self) (.builtin "object.__init__", [self]))
    (h : codeAny (model prog w) (A.under (.builtin "type.__call__" ⟨[.ref C], []⟩)) (.call (.builtin "object.__init__") ⟨[.ref (s.heap.objs.size + 1)], []⟩) (PySem.W.InitBack (s.heap.objs.size + 1) R)
      { s with heap := (s.heap.push PySem.W.emptyDict).push (PySem.W.instObj C s.heap.objs.size) }) :
    codeAny (model prog w) A (.call (.ref C) ⟨[], []⟩) R s := by
  obtain ⟨hh, g, d, t, os⟩ := s
  exact PySem.W.make_core (PySem.W.makes_of X hm) (PySem.W.looks_findIn X hi) hb (.inr ⟨rfl, rfl⟩) h
end

/-! ### the attributes as a list of pairs -/
def putF (f : Str) (v : V) : List (Str × V) → List (Str × V)
  | [] => [(f, v)]
  | (g, x) :: r => if g = f then (g, v) :: r else (g, x) :: putF f v r
theorem lookup_putF (f g : Str) (v : V) : ∀ fs : List (Str × V), (putF f v fs).lookup g = if g = f then some v else fs.lookup g
  | [] => by
    show List.lookup g [(f, v)] = _
    by_cases h : g = f
    · have hb : (g == f) = true := beq_iff_eq.mpr h
      simp only [List.lookup, hb, if_pos h]
    · have hb : (g == f) = false := beq_eq_false_iff_ne.mpr h
      simp only [List.lookup, hb, if_neg h]
  | (k, x) :: r => by
    have ih := lookup_putF f g v r
    rw [show putF f v ((k, x) :: r) = (if k = f then (k, v) :: r else (k, x) :: putF f v r) from rfl]
    by_cases hk : k = f
    · rw [if_pos hk]
      by_cases h : g = k
      · have hb : (g == k) = true := beq_iff_eq.mpr h
        simp only [List.lookup, hb, if_pos (h.trans hk)]
      · have hb : (g == k) = false := beq_eq_false_iff_ne.mpr h
        simp only [List.lookup, hb, if_neg (fun e : g = f => h (e.trans hk.symm))]
    · rw [if_neg hk]
      by_cases h : g = k
      · have hb : (g == k) = true := beq_iff_eq.mpr h
        simp only [List.lookup, hb, if_neg (fun e : g = f => hk (h.symm.trans e))]
      · have hb : (g == k) = false := beq_eq_false_iff_ne.mpr h
        simp only [List.lookup, hb]
        exact ih
theorem keys_putF (f : Str) (v : V) : ∀ fs : List (Str × V), f ∈ (putF f v fs).map (·.1) ∧ ∀ g, g ∈ fs.map (·.1) → g ∈ (putF f v fs).map (·.1)
  | [] => ⟨by simp [putF], fun g h => by simp at h⟩
  | (k, x) :: r => by
    obtain ⟨i1, i2⟩ := keys_putF f v r
    rw [show putF f v ((k, x) :: r) = (if k = f then (k, v) :: r else (k, x) :: putF f v r) from rfl]
    by_cases hk : k = f
    · rw [if_pos hk]
      subst hk
      exact ⟨by simp, fun g h => by simpa using h⟩
    · rw [if_neg hk]
      refine ⟨?_, fun g h => ?_⟩
      · rw [List.map_cons]
        exact List.mem_cons_of_mem _ i1
      · rw [List.map_cons] at h ⊢
        rcases List.mem_cons.mp h with e | e
        · exact List.mem_cons.mpr (.inl e)
        · exact List.mem_cons_of_mem _ (i2 g e)
theorem length_putF (f : Str) (v : V) : ∀ fs : List (Str × V), (putF f v fs).length ≤ fs.length + 1
  | [] => by simp [putF]
  | (k, x) :: r => by
    have ih := length_putF f v r
    rw [show putF f v ((k, x) :: r) = (if k = f then (k, v) :: r else (k, x) :: putF f v r) from rfl]
    by_cases hk : k = f
    · rw [if_pos hk, List.length_cons, List.length_cons]; omega
    · rw [if_neg hk, List.length_cons, List.length_cons]; omega

theorem RelO.some_of {v : V} {o : Option Value} (r : RelO (some v) o) : ∃ u, o = some u ∧ RelV v u := by
  cases o with
  | none => exact (show False from r).elim
  | some u => exact ⟨u, rfl, r⟩
theorem RelO.none_of {o : Option Value} (r : RelO none o) : o = none := by
  cases o with
  | none => rfl
  | some u => exact (show False from r).elim
theorem handed_of {v : V} {u : Value} (r : RelV v u) : PySem.W.handedIn u = true := by
  cases v with
  | non => cases (show u = Value.none from r); rfl
  | bl b => cases (show u = Value.bool b from r); rfl
  | int i => obtain ⟨t, e⟩ := (show ∃ t, u = Value.int i t from r); cases e; rfl
  | str x => obtain ⟨t, e⟩ := (show ∃ t, u = Value.str x t from r); cases e; rfl
  | byt b => obtain ⟨t, e⟩ := (show ∃ t, u = Value.bytes b t from r); cases e; rfl
  | flt b => obtain ⟨t, e⟩ := (show ∃ t, u = Value.float b t from r); cases e; rfl
  | ref a => cases (show u = Value.ref a from r); rfl
  | ty n => cases (show u = Value.type n from r); rfl

section
variable {P : Program} {w : World} {H H' : Hp} {h h' : Heap} {a C dx : Addr} {fs fs' : List (Str × V)}
theorem ins_get (hok : HOk P w H h) (e : H a = some (.ins C dx fs)) : ∃ mA, ObjM h a dx C mA ∧ (∀ f, RelO (fs.lookup f) (mA f)) ∧ PySem.Within mA (fs.map (·.1)) ∧ fs.length ≤ 1000 ∧ H dx = some (.own a) := by
  obtain ⟨d, z, ne, ob, mA, n, r, q⟩ := (show ObjOk P w H h a (.ins C dx fs) from hok a _ e)
  exact ⟨mA, ⟨ob, n, ne⟩, r, q, z, d⟩
end

/-! ### what of the text a class must have -/
structure Cls (K : PySem.W.Frag) (C : Addr) : Prop where
  pg : PySem.W.plainGet K C Str.empty = true
  hd : PySem.W.hasDictIn K C = true
  po : PySem.W.plainOver K C = true
  sa : PySem.W.findIn K (.ref C) "__setattr__" = some (some (.builtin "object.__setattr__"))
theorem Cls.get {K : PySem.W.Frag} {C : Addr} (c : Cls K C) (f : Str) : PySem.W.plainGet K C f = true := c.pg
/-- no class of it has the name -/
def NoAttr (K : PySem.W.Frag) (C : Addr) (f : Str) : Prop := PySem.W.findIn K (.ref C) f = some none
theorem NoAttr.taker {K : PySem.W.Frag} {C : Addr} {f : Str} (n : NoAttr K C f) : PySem.W.takerIn K C f = some none := by
  unfold PySem.W.takerIn
  rw [show PySem.W.findIn K (.ref C) f = some none from n]
  rfl
/-- a constant of the class -/
structure Con (K : PySem.W.Frag) (C : Addr) (f : Str) (v : V) (u : Value) : Prop where
  at_ : PySem.W.findIn K (.ref C) f = some (some u)
  rel : RelV v u
  get : PySem.W.specialIn K u "__get__" = some none
  cp : PySem.W.copiedNames.contains f = false
/-- a method: a plain def of the class or of one above it -/
structure Meth (K : PySem.W.Frag) (C : Addr) (m : Str) (f : Addr) : Prop where
  at_ : PySem.W.findIn K (.ref C) m = some (some (.ref f))
  fn : PySem.W.isFn K (.ref f) = true
  kp : PySem.W.keepIn K (.ref f) = true

section
variable {X : Cx} {pins : List (Addr × Obj)} {σ : St} {H : Hp} {s : Shared} {a C dx : Addr} {fs : List (Str × V)} {f : Str} {v : V} {A : Around} {E : Value → Shared → Prop}

theorem getattr_ok {b : Bool} {Q : Value → Shared → Prop} (I : Inv X pins σ H s) (e : H a = some (.ins C dx fs)) (c : Cls X.K C) (n : NoAttr X.K C f) (l : fs.lookup f = some v)
    (h : ∀ u s', Inv X pins σ H s' → RelV v u → Q u s') : wpAny (model X.prog X.w) A (getAttr (.ref a) f b) Q E s := by
  obtain ⟨mA, O, r, _, _, _⟩ := ins_get I.hok e
  obtain ⟨u, hu, ru⟩ := RelO.some_of (v := v) (o := mA f) (by rw [← l]; exact r f)
  exact get_map I.kIn O (c.get f) c.hd n hu (handed_of ru) (h u _ (I.tok _) ru)

theorem getcon_ok {b : Bool} {u : Value} {Q : Value → Shared → Prop} (I : Inv X pins σ H s) (e : H a = some (.ins C dx fs)) (c : Cls X.K C) (k : Con X.K C f v u) (l : fs.lookup f = none)
    (h : ∀ s', Inv X pins σ H s' → Q u s') : wpAny (model X.prog X.w) A (getAttr (.ref a) f b) Q E s := by
  obtain ⟨mA, O, r, _, _, _⟩ := ins_get I.hok e
  have hn : mA f = none := RelO.none_of (by rw [← l]; exact r f)
  exact get_const I.kIn O (c.get f) c.hd k.at_ k.get k.cp hn (handed_of k.rel) (h _ (I.tok _))

theorem getmeth_ok {m : Str} {g : Addr} {pl : Sem Bool} {Q : Value × List Value → Shared → Prop} (I : Inv X pins σ H s) (e : H a = some (.ins C dx fs)) (c : Cls X.K C) (k : Meth X.K C m g) (l : fs.lookup m = none)
    (h : Q (.ref g, [.ref a]) s) : wpAny (model X.prog X.w) A (getMethod (.ref a) m pl) Q E s := by
  obtain ⟨mA, O, r, _, _, _⟩ := ins_get I.hok e
  have hn : mA m = none := RelO.none_of (by rw [← l]; exact r m)
  exact get_meth I.kIn O (c.get m) k.at_ k.fn hn h

theorem setattr_ok {y : V} {u : Value} {Q : Unit → Shared → Prop} (I : Inv X pins σ H s) (e : H a = some (.ins C dx fs)) (c : Cls X.K C) (n : NoAttr X.K C f) (hl : fs.length < 1000) (ry : RelV y u)
    (h : ∀ s', Inv X pins σ (upd H a (.ins C dx (putF f y fs))) s' → Q () s') : wpAny (model X.prog X.w) A (setAttr (.ref a) f u) Q E s := by
  obtain ⟨mA, O, r, wi, _, ho⟩ := ins_get I.hok e
  have hz : (fs.map (·.1)).length ≤ sizeLine := by rw [List.length_map, sizeLine_eq]; omega
  refine set_map I.kIn O c.sa c.po n.taker c.hd wi hz fun h' O' sb => h _ ?_
  have hd : ∃ o, h'.get? dx = some o := let ⟨o, _, _, e', _⟩ := O'.ns; ⟨o, e'⟩
  refine I.write (x := a) (e := dx) (by rw [e]; exact True.intro) (.inr ho) (fun b q hb z => (sb.2 b hb).trans z) hd ?_
  refine ⟨by rw [upd_ne O.ne]; exact ho, ?_, O.ne, O'.obj, _, O'.ns, fun g => ?_, fun g hg => ?_⟩
  · have := length_putF f y fs; omega
  · show RelO ((putF f y fs).lookup g) (if g = f then some u else mA g)
    rw [lookup_putF]
    by_cases q : g = f
    · rw [if_pos q, if_pos q]; exact ry
    · rw [if_neg q, if_neg q]; exact r g
  · by_cases q : g = f
    · rw [q]; exact (keys_putF f y fs).1
    · refine (keys_putF f y fs).2 g (wi g fun z => hg ?_)
      show (if g = f then some u else mA g) = none
      rw [if_neg q]; exact z

/-- a new instance, tracked, without attributes -/
theorem Inv.made (I : Inv X pins σ H s) : Inv X pins σ (upd (upd H s.heap.objs.size (.own (s.heap.objs.size + 1))) (s.heap.objs.size + 1) (.ins C s.heap.objs.size []))
    { s with heap := (s.heap.push PySem.W.emptyDict).push (PySem.W.instObj C s.heap.objs.size) } := by
  have e1 : (s.heap.push PySem.W.emptyDict).get? s.heap.objs.size = some PySem.W.emptyDict := Heap.get?_push_size s.heap rfl
  have e2 : ((s.heap.push PySem.W.emptyDict).push (PySem.W.instObj C s.heap.objs.size)).get? (s.heap.objs.size + 1) = some (PySem.W.instObj C s.heap.objs.size) := by
    have := Heap.get?_push_size (s.heap.push PySem.W.emptyDict) (o := PySem.W.instObj C s.heap.objs.size) rfl
    rwa [Heap.size_push] at this
  have e3 : (s.heap.push PySem.W.emptyDict).Ns s.heap.objs.size (fun _ => none) := ⟨PySem.W.emptyDict, #[], _, e1, rfl, (fun e he => absurd he (by simp)), fun _ => rfl⟩
  have I1 := I.laid (a := s.heap.objs.size) (o := .own (s.heap.objs.size + 1)) (h' := s.heap.push PySem.W.emptyDict) (t' := s.toks) (fun b u q => Heap.get?_push_of_some _ q) (Nat.le_refl _) ⟨_, e1⟩
  refine I1.laid (a := s.heap.objs.size + 1) (o := .ins C s.heap.objs.size []) (t' := s.toks) (fun b u q => Heap.get?_push_of_some _ q) (Nat.le_of_eq (Heap.size_push _ _)) ?_
  have ne : s.heap.objs.size ≠ s.heap.objs.size + 1 := Nat.ne_of_lt (Nat.lt_succ_self _)
  refine ⟨by rw [upd_ne ne, upd_same], Nat.zero_le _, ne, e2, fun _ => none, (Heap.Ns1.of_empty e3).at fun o q => Heap.get?_push_of_some _ q, fun _ => True.intro, fun y hy => absurd rfl hy⟩

/-- e.f where nothing but the object is asked: through attributeBase (super) and the last hold -/
theorem attr_of {prog : Program} {w : World} {env : Env} {e : Expr} {f : Str} {pos : Pos} {s : Shared} {Q : Value → Shared → Prop} (hb : attributeBase e f env (eval e env) = eval e env)
    (h : wpAny (model prog w) A (eval e env) (fun o s₁ => wpAny (model prog w) A (getAttr o f true) Q E s₁) E s) : wpAny (model prog w) A (eval (.Attribute e f pos) env) Q E s :=
  Attribute_any_ h (by rw [arm_eval_Attribute, hb])
end

/-! ### readings and rules -/
/-- e.f, an attribute of the instance -/
def tFld (K : PySem.W.Frag) (ta : TE) (f : Str) : TE := fun σ H Q => ta σ H fun x H1 => ∃ a C dx fs v, x = .ref a ∧ H1 a = some (.ins C dx fs) ∧ Cls K C ∧ NoAttr K C f ∧ fs.lookup f = some v ∧ Q v H1
/-- e.f, a constant of the class -/
def tCon (K : PySem.W.Frag) (ta : TE) (f : Str) : TE := fun σ H Q => ta σ H fun x H1 => ∃ a C dx fs v u, x = .ref a ∧ H1 a = some (.ins C dx fs) ∧ Cls K C ∧ Con K C f v u ∧ fs.lookup f = none ∧ Q v H1
/-- e.f = value -/
def sFld (K : PySem.W.Frag) (ta tv : TE) (f : Str) : TS := fun D σ H => tv σ H fun y H1 => ta σ H1 fun x H2 => ∃ a C dx fs, x = .ref a ∧ H2 a = some (.ins C dx fs) ∧ Cls K C ∧ NoAttr K C f ∧ fs.length < 1000 ∧
  D.nx σ (upd H2 a (.ins C dx (putF f y fs)))
/-- an augmented operator on two values -/
def InOp (X : Cx) (op : Operator) (rd : V → V → Hp → VK → Prop) : Prop :=
  ∀ (pins : List (Addr × Obj)) (s : Shared) (σ : St) (H : Hp) (x y : V) (u v : Value) (Q : VK), Inv X pins σ H s → RelV x u → RelV y v → rd x y H Q → wpAny (model X.prog X.w) X.A (inplaceOp op u v) (EP X pins σ Q) X.xe s
/-- e.f op= value -/
def sFldAug (K : PySem.W.Frag) (ta tv : TE) (rd : V → V → Hp → VK → Prop) (f : Str) : TS := fun D σ H => ta σ H fun x H1 => ∃ a C dx fs v, x = .ref a ∧ H1 a = some (.ins C dx fs) ∧ Cls K C ∧ NoAttr K C f ∧ fs.lookup f = some v ∧
  tv σ H1 fun y H2 => rd v y H2 fun z H3 => ∃ dx' fs', H3 a = some (.ins C dx' fs') ∧ fs'.length < 1000 ∧ D.nx σ (upd H3 a (.ins C dx' (putF f z fs')))

section
variable {X : Cx} {o e value : Expr} {f : Str} {pos pos' tpos : Pos} {ta tv : TE}
theorem pe_fld (he : PE X e ta) (hb : attributeBase e f X.env (eval e X.env) = eval e X.env) : PE X (.Attribute e f pos) (tFld X.K ta f) := by
  intro pins s σ H Q I h
  refine attr_of hb (thn (he pins s σ H _ I h) fun u s1 ⟨x, H1, I1, rx, a, C, dx, fs, v, ex, ea, c, n, l, q⟩ => ?_)
  subst ex
  obtain rfl : u = Value.ref a := rx
  exact getattr_ok I1 ea c n l fun u' s2 I2 ru => ⟨v, H1, I2, ru, q⟩
theorem pe_con (he : PE X e ta) (hb : attributeBase e f X.env (eval e X.env) = eval e X.env) : PE X (.Attribute e f pos) (tCon X.K ta f) := by
  intro pins s σ H Q I h
  refine attr_of hb (thn (he pins s σ H _ I h) fun u s1 ⟨x, H1, I1, rx, a, C, dx, fs, v, u0, ex, ea, c, k, l, q⟩ => ?_)
  subst ex
  obtain rfl : u = Value.ref a := rx
  exact getcon_ok I1 ea c k l fun s2 I2 => ⟨v, H1, I2, k.rel, q⟩
theorem ps_fld (ha : PE X o ta) (hv : PE X value tv) (hs : swapsWith value (some (.Attribute o f pos')) pos.line X.env = pure false) : PS X (.Assign [.Attribute o f pos'] value pos) (sFld X.K ta tv f) := by
  intro pins s σ H D I h
  refine plainObj_wpAny_Assign_Attribute (thn (hv pins s σ H _ I h) fun u s1 ⟨y, H1, I1, ry, q⟩ => thn (ha pins s1 σ H1 _ I1 q) fun ov s2 ⟨x, H2, I2, rx, a, C, dx, fs, ex, ea, c, n, l, q2⟩ => ?_) hs
  subst ex
  obtain rfl : ov = Value.ref a := rx
  exact setattr_ok I2 ea c n l ry fun s3 I3 => ⟨σ, _, I3, q2⟩
theorem ps_fldaug {op : Operator} {rd : V → V → Hp → VK → Prop} (ha : PE X o ta) (hv : PE X value tv) (hop : InOp X op rd) : PS X (.AugAssign (.Attribute o f tpos) op value pos) (sFldAug X.K ta tv rd f) := by
  intro pins s σ H D I h
  refine wpAny_AugAssign_AttributeAny (thn (ha pins s σ H _ I h) fun ov s1 ⟨x, H1, I1, rx, a, C, dx, fs, v, ex, ea, c, n, l, q⟩ => ?_)
  subst ex
  obtain rfl : ov = Value.ref a := rx
  refine getattr_ok I1 ea c n l fun u s2 I2 ru => thn (hv pins s2 σ H1 _ I2 q) fun w3 s3 ⟨y, H2, I3, ry, q3⟩ => thn (hop pins s3 σ H2 v y u w3 _ I3 ru ry q3) fun w4 s4 ⟨z, H3, I4, rz, dx', fs', ea', l', q4⟩ => ?_
  exact setattr_ok I4 ea' c n l' rz fun s5 I5 => ⟨σ, _, I5, q4⟩
def rAdd : V → V → Hp → VK → Prop := fun x y H Q => ∃ i j, x = .int i ∧ y = .int j ∧ Q (.int (i + j)) H
def rSub : V → V → Hp → VK → Prop := fun x y H Q => ∃ i j, x = .int i ∧ y = .int j ∧ Q (.int (i - j)) H
theorem in_add : InOp X .Add rAdd := by
  rintro pins s σ H x y u v Q I rx ry ⟨i, j, rfl, rfl, q⟩
  obtain ⟨t, rfl⟩ := (show ∃ t, u = Value.int i t from rx)
  obtain ⟨t', rfl⟩ := (show ∃ t', v = Value.int j t' from ry)
  exact PyProof.Rows.iadd_int ⟨.int (i + j), H, I.tok _, ⟨_, rfl⟩, q⟩
theorem in_sub : InOp X .Sub rSub := by
  rintro pins s σ H x y u v Q I rx ry ⟨i, j, rfl, rfl, q⟩
  obtain ⟨t, rfl⟩ := (show ∃ t, u = Value.int i t from rx)
  obtain ⟨t', rfl⟩ := (show ∃ t', v = Value.int j t' from ry)
  exact PyProof.Rows.isub_int ⟨.int (i - j), H, I.tok _, ⟨_, rfl⟩, q⟩

/-- what is between an instance and its method: the tree of a method call -/
theorem methcall_of {pl : Sem Bool} {m : Str} {apos : Pos} {args : List Expr} {pins : List (Addr × Obj)} {s : Shared} {σ : St} {H : Hp} {Q : Value → Shared → Prop} {te : TE} (he : PE X e te) (I : Inv X pins σ H s)
    (h : te σ H fun x H1 => ∃ a C dx fs g, x = .ref a ∧ H1 a = some (.ins C dx fs) ∧ Cls X.K C ∧ Meth X.K C m g ∧ fs.lookup m = none ∧
      ∀ s1, Inv X pins σ H1 s1 → wpAny (model X.prog X.w) X.A (callWith pos (.ref g) [.ref a] (backTo pos (starEach args X.env)) (backToKw pos (keywordEach [] X.env))) Q X.xe s1)
    (ht : eval (.Call (.Attribute e m apos) args [] pos) X.env = (do
      let ov ← eval e X.env
      standAt apos.atName
      let (f, first) ← holding [ov] (getMethod ov m pl)
      callWith pos f first (backTo pos (starEach args X.env)) (backToKw pos (keywordEach [] X.env)))) :
    wpAny (model X.prog X.w) X.A (eval (.Call (.Attribute e m apos) args [] pos) X.env) Q X.xe s := by
  refine PySem.W.methodCall_KW (pl := pl) (thn (he pins s σ H _ I h) fun u s1 ⟨x, H1, I1, rx, a, C, dx, fs, g, ex, ea, c, k, l, q⟩ => ?_) ht
  subst ex
  obtain rfl : u = Value.ref a := rx
  exact getmeth_ok I1 ea c k l (q s1 I1)
end

/-! ### isinstance -/
section
variable {X : Cx} {pins : List (Addr × Obj)} {σ : St} {H : Hp} {s : Shared} {A : Around} {E : Value → Shared → Prop} {Q : Value → Shared → Prop} {c : Value} {b : Bool}
/-- the type of a value, as the fragment's deciders take it; for an instance its class -/
inductive TyOf (K : PySem.W.Frag) (H : Hp) : V → Value → Prop where
  | non : TyOf K H .non (.type "NoneType")
  | bl (x : Bool) : TyOf K H (.bl x) (.type "bool")
  | int (i : Int) : TyOf K H (.int i) (.type "int")
  | str (x : Str) : TyOf K H (.str x) (.type "str")
  | flt (x : UInt64) : TyOf K H (.flt x) (.type "float")
  | lst {a : Addr} {xs : List V} (e : H a = some (.lst xs)) : TyOf K H (.ref a) (.type "list")
  | frz {a : Addr} {o : Obj} {xs : List V} (e : H a = some (.frz o (.lst xs))) : TyOf K H (.ref a) (.type "list")
  | tup {a : Addr} {xs : List V} (e : H a = some (.tup xs)) : TyOf K H (.ref a) (.type "tuple")
  | dK {a : Addr} {kvs : List (Key × V)} (e : H a = some (.dK kvs)) : TyOf K H (.ref a) (.type "dict")
  | dT {a : Addr} {kvs : List (List Key × V)} (e : H a = some (.dT kvs)) : TyOf K H (.ref a) (.type "dict")
  | ins {a C dx : Addr} {fs : List (Str × V)} (e : H a = some (.ins C dx fs)) (cl : Cls K C) (ha : PySem.W.findIn K (.ref C) "__class__" = some (some (.builtin "object.__class__")))
      (hn : PySem.W.specialIn K (.builtin "object.__class__") "__get__" = some (some (.builtin "getset_descriptor.__get__"))) (htk : PySem.W.takesIn K (.builtin "object.__class__") = some true)
      (hm : PySem.W.mroIn K C (.type "object") = some true) : TyOf K H (.ref a) (.ref C)
/-- isinstance(x, c) for one class c, a built-in or an own one: kitOne's answer -/
theorem isinst_ok {x : V} {u t : Value} (I : Inv X pins σ H s) (rx : RelV x u) (ty : TyOf X.K H x t) (e : PySem.W.kitOne X.K t c = some b) (h : ∀ tk, Q (.bool b) { s with toks := tk }) :
    wpAny (model X.prog X.w) A (call (.builtin "isinstance") [u, c]) Q E s := by
  cases ty with
  | non => cases (show u = Value.none from rx); exact PySem.W.kia_one PySem.W.kitx_none I.kIn True.intro e (fun z => nomatch z) h
  | bl y => cases (show u = Value.bool y from rx); exact PySem.W.kia_one PySem.W.kitx_bool I.kIn True.intro e (fun z => nomatch z) h
  | int i => obtain ⟨t, q⟩ := (show ∃ t, u = Value.int i t from rx); cases q; exact PySem.W.kia_one PySem.W.kitx_int I.kIn True.intro e (fun z => nomatch z) h
  | str y => obtain ⟨t, q⟩ := (show ∃ t, u = Value.str y t from rx); cases q; exact PySem.W.kia_one PySem.W.kitx_str I.kIn True.intro e (fun z => nomatch z) h
  | flt y => obtain ⟨t, q⟩ := (show ∃ t, u = Value.float y t from rx); cases q; exact PySem.W.kia_one PySem.W.kitx_float I.kIn True.intro e (fun z => nomatch z) h
  | @lst a xs ea =>
    cases (show u = Value.ref a from rx)
    obtain ⟨_, _, n, _, h1⟩ := (show ObjOk X.prog X.w H s.heap a (.lst xs) from I.hok a _ ea)
    exact PySem.W.kia_one PySem.W.kitx_list I.kIn ⟨_, h1, rfl⟩ e (fun z => nomatch z) h
  | @frz a ob xs ea =>
    cases (show u = Value.ref a from rx)
    obtain ⟨_, _, _, n, _, h1⟩ := (show ObjOk X.prog X.w H s.heap a (.frz ob (.lst xs)) from I.hok a _ ea)
    exact PySem.W.kia_one PySem.W.kitx_list I.kIn ⟨_, h1, rfl⟩ e (fun z => nomatch z) h
  | @tup a xs ea =>
    cases (show u = Value.ref a from rx)
    obtain ⟨_, _, _, p⟩ := (show ObjOk X.prog X.w H s.heap a (.tup xs) from I.hok a _ ea)
    obtain ⟨o, h1, h2, _⟩ := p
    exact PySem.W.kia_one PySem.W.kitx_tuple I.kIn ⟨o, h1, h2⟩ e (fun z => nomatch z) h
  | @dK a kvs ea =>
    cases (show u = Value.ref a from rx)
    obtain ⟨_, _, vs, _, p⟩ := (show ObjOk X.prog X.w H s.heap a (.dK kvs) from I.hok a _ ea)
    obtain ⟨o, es, ep, h1, h2, _⟩ := p
    exact PySem.W.kia_one PySem.W.kitx_dict I.kIn ⟨o, h1, h2.1⟩ e (fun z => nomatch z) h
  | @dT a kvs ea =>
    cases (show u = Value.ref a from rx)
    obtain ⟨_, _, xs, _, o, es, ep, h1, h2, _⟩ := (show ObjOk X.prog X.w H s.heap a (.dT kvs) from I.hok a _ ea)
    exact PySem.W.kia_one PySem.W.kitx_dict I.kIn ⟨o, h1, h2.1⟩ e (fun z => nomatch z) h
  | @ins a C dx fs ea cl ha hn htk hm =>
    cases (show u = Value.ref a from rx)
    obtain ⟨mA, O, _⟩ := ins_get I.hok ea
    obtain ⟨od, J, _⟩ := O.look
    exact PySem.W.kia_one (PySem.W.kitx_own (cl.get _) cl.hd ha hn htk hm) I.kIn J e (fun z => nomatch z) h
end
end L2

namespace L2
open PySem PySem.Spec PyProof.Rows

/-! ### room -/
structure Room (k : Nat) (A : Around) : Prop where
  hd : A.handled = none
  dp : A.depth + 3 * k + 5 < recursionLimit
  un : A.units + 16 * k + 200 < cLine
theorem Room.mono {j k : Nat} {A : Around} (r : Room k A) (h : j ≤ k) : Room j A := ⟨r.hd, by have := r.dp; omega, by have := r.un; omega⟩
theorem Room.deeper {k : Nat} {A : Around} (r : Room (k + 1) A) (env : Env) : Room k (A.deeper env) :=
  ⟨r.hd, by have := r.dp; show A.depth + 1 + 3 * k + 5 < _; omega, by have := r.un; show A.units + 3 + 16 * k + 200 < _; omega⟩
theorem Room.in1 {k : Nat} {A : Around} (r : Room (k + 1) A) : Room k A.in1 :=
  ⟨r.hd, by have := r.dp; show A.depth + 3 * k + 5 < _; omega, by have := r.un; show A.units + 1 + 16 * k + 200 < _; omega⟩
theorem make_depth {A : Around} {C : Addr} {us : List Value} {kw : List (Str × Value)} : (A.under (.builtin "type.__call__" ⟨.ref C :: us, kw⟩)).depth = A.depth + 1 := by
  first | rfl | simp [Around.under, Code.weight, Code.isCreation, Code.isGuard, Code.isCaller, Code.frames, Code.isFrame, guardIds]
theorem make_units {A : Around} {C : Addr} {us : List Value} {kw : List (Str × Value)} : (A.under (.builtin "type.__call__" ⟨.ref C :: us, kw⟩)).units = A.units + 1 := by
  first | rfl | simp [Around.under, Code.cUnits, Code.frames, Code.isFrame]
theorem Room.make {k : Nat} {A : Around} (r : Room (k + 1) A) (C : Addr) (us : List Value) (kw : List (Str × Value)) : Room k (A.under (.builtin "type.__call__" ⟨.ref C :: us, kw⟩)) :=
  ⟨r.hd, by have := r.dp; rw [make_depth]; omega, by have := r.un; rw [make_units]; omega⟩
theorem Room.depth {k : Nat} {A : Around} (r : Room k A) : A.depth < recursionLimit := by have := r.dp; omega
theorem Room.units {k : Nat} {A : Around} (r : Room k A) : A.units + 64 < cLine := by have := r.un; omega
theorem Room.units0 {k : Nat} {A : Around} (r : Room k A) : A.units < cLine := by have := r.un; omega

/-! ### argument lists and displays -/
def tNil : TA := fun _ H Q => Q [] H
def tCons (ta : TE) (tr : TA) : TA := fun σ H Q => ta σ H fun x H1 => tr σ H1 fun xs H2 => Q (x :: xs) H2
section
variable {X : Cx} {e : Expr} {es : List Expr} {te : TE} {t : TA} {pos : Pos}
theorem pa_nil : PA X [] tNil := fun _ _ _ _ H Q I h => Calls.spliced_nil ⟨[], H, I, .nil, h⟩
theorem pa_cons (ha : PE X e te) (hr : PA X es t) (hs : starEach (e :: es) X.env = (false, eval e X.env) :: starEach es X.env := by rfl) : PA X (e :: es) (tCons te t) := by
  intro pos pins s σ H Q I h
  rw [hs]
  show wpAny _ _ (spliced ((false, eval e X.env) :: backTo pos (starEach es X.env))) _ _ s
  refine Calls.spliced_cons (thn (ha pins s σ H _ I h) fun u s1 ⟨x, H1, I1, r1, q1⟩ => ?_)
  exact thn (hr pos pins s1 σ H1 _ I1 q1) fun us s2 ⟨xs, H2, I2, r2, q2⟩ => ⟨x :: xs, H2, I2, .cons r1 r2, q2⟩

/-- a tuple, a list of written items -/
def tTup (t : TA) : TE := fun σ H Q => t σ H fun xs H1 => xs.length ≤ sizeLine ∧ ∀ p, H1 p = none → Q (.ref p) (upd H1 p (.tup xs))
def tLst (t : TA) : TE := fun σ H Q => t σ H fun xs H1 => xs.length ≤ sizeLine ∧ ∀ p, H1 p = none → Q (.ref p) (upd H1 p (.lst xs))
theorem pe_tup {x1} (h : PA X es t) : PE X (.Tuple es x1 pos) (tTup t) := by
  intro pins s σ H Q I hq
  refine wpAny_Tuple_spliced (thn (h pos pins s σ H _ I hq) fun us s1 ⟨xs, H1, I1, r, z, q⟩ => ⟨by rw [← r.length]; exact z, ?_⟩)
  have hf : H1 s1.heap.objs.size = none := I1.hok.fresh (Nat.le_refl _)
  refine ⟨.ref s1.heap.objs.size, upd H1 s1.heap.objs.size (.tup xs), I1.laid (t' := s1.toks) (fun b u e => Heap.get?_push_of_some _ e) (Nat.le_refl _) ?_, rfl, q _ hf⟩
  exact ⟨z, us, r, ⟨_, Heap.get?_push_size _ rfl, rfl, _, rfl⟩⟩
theorem pe_lst (h : PA X es t) : PE X (.List es pos) (tLst t) := by
  intro pins s σ H Q I hq
  refine wpAny_List_spliced (thn (h pos pins s σ H _ I hq) fun us s1 ⟨xs, H1, I1, r, z, q⟩ => ⟨by rw [← r.length]; exact z, ?_⟩)
  have hf : H1 s1.heap.objs.size = none := I1.hok.fresh (Nat.le_refl _)
  refine ⟨.ref s1.heap.objs.size, upd H1 s1.heap.objs.size (.lst xs), I1.laid (t' := s1.toks) (fun b u e => Heap.get?_push_of_some _ e) (Nat.le_refl _) ?_, rfl, q _ hf⟩
  exact ⟨z, us, 0, r, Heap.get?_push_size _ rfl⟩
end

/-! ### what a def promises -/
/-- a def's promise: the bound arguments in the parameters' order, the heap, the wanted end, the wanted exception -/
abbrev Sp := List V → Hp → VK → XK → Prop
/-- how an exception lies behind a call (file 08 gives it): the callers' frames, abstract heap and state ahead of the call, the wish, the exception, the state -/
abbrev CXT := List Env → Hp → Shared → XK → Value → Shared → Prop

/-- the state at a call -/
structure Env0 (P : Program) (w : World) (K : PySem.W.Frag) (mg : Str → Option Value) (base : Heap) (A : Around) (outer : List Env) (s : Shared) (H : Hp) : Prop where
  frames : A.frames = some outer
  mod : Mod K mg base
  bs : ∀ b o, base.get? b = some o → s.heap.get? b = some o ∧ H b = none
  bsz : base.objs.size ≤ s.heap.objs.size
  funs : s.heap.FunFrames base outer
  frf : ∀ b ∈ frs outer, H b = none
  hok : HOk P w H s.heap
  bare : AllBare s.gens
/-- a call's end -/
def CE (outer : List Env) (P : Program) (w : World) (H : Hp) (s : Shared) (Q : VK) (u : Value) (s' : Shared) : Prop :=
  ∃ v H', s'.os = s.os ∧ AllBare s'.gens ∧ Un (frs outer) [] H H' s.heap s'.heap ∧ HOk P w H' s'.heap ∧ RelV v u ∧ Q v H'
def CR (CX : CXT) (outer : List Env) (P : Program) (w : World) (H : Hp) (s : Shared) (Q : VK) (E : XK) (r : Result) (s' : Shared) : Prop :=
  match r with
  | .ok (.ret u) => CE outer P w H s Q u s'
  | .ok _ => False
  | .error e => CX outer H s E e s'
structure FnOk (P : Program) (w : World) (K : PySem.W.Frag) (mg : Str → Option Value) (base : Heap) (CX : CXT) (k : Nat) (f : Addr) (fd : FuncData) (ps : List Str) (sp : Sp) : Prop where
  len : ∀ vs H Q E, sp vs H Q E → vs.length = ps.length
  run : ∀ (A : Around) (outer : List Env) (s : Shared) (H : Hp) (args : Args) (us : List Value) (vs : List V) (Q : VK) (E : XK), Room k A → Env0 P w K mg base A outer s H → BindsTo s fd args (ps.zip us) → Vals vs us → sp vs H Q E →
    codeAny (model P w) A (.call (.ref f) args) (CR CX outer P w H s Q E) s
theorem FnOk.mono {P : Program} {w : World} {K : PySem.W.Frag} {mg : Str → Option Value} {base : Heap} {CX : CXT} {j k : Nat} {f : Addr} {fd : FuncData} {ps : List Str} {sp : Sp} (F : FnOk P w K mg base CX j f fd ps sp) (h : j ≤ k) :
    FnOk P w K mg base CX k f fd ps sp := ⟨F.len, fun A outer s H args us vs Q E hr => F.run A outer s H args us vs Q E (hr.mono h)⟩
/-- a weaker promise -/
theorem FnOk.imp {P : Program} {w : World} {K : PySem.W.Frag} {mg : Str → Option Value} {base : Heap} {CX : CXT} {k : Nat} {f : Addr} {fd : FuncData} {ps : List Str} {sp sp' : Sp} (F : FnOk P w K mg base CX k f fd ps sp)
    (h : ∀ vs H Q E, sp' vs H Q E → sp vs H Q E) : FnOk P w K mg base CX k f fd ps sp' :=
  ⟨fun vs H Q E q => F.len vs H Q E (h _ _ _ _ q), fun A outer s H args us vs Q E hr he hb hv hs => F.run A outer s H args us vs Q E hr he hb hv (h _ _ _ _ hs)⟩

theorem Env0.make {P : Program} {w : World} {K : PySem.W.Frag} {mg : Str → Option Value} {base : Heap} {A : Around} {outer : List Env} {s : Shared} {H : Hp} (e : Env0 P w K mg base A outer s H) (C : Addr) (us : List Value) (kw : List (Str × Value)) :
    Env0 P w K mg base (A.under (.builtin "type.__call__" ⟨.ref C :: us, kw⟩)) outer s H := ⟨by first | exact e.frames | (simpa [Around.under, Code.envs, Code.isFrame, pushEnvs] using e.frames), e.mod, e.bs, e.bsz, e.funs, e.frf, e.hok, e.bare⟩
theorem Env0.in1 {P : Program} {w : World} {K : PySem.W.Frag} {mg : Str → Option Value} {base : Heap} {A : Around} {outer : List Env} {s : Shared} {H : Hp} (e : Env0 P w K mg base A outer s H) :
    Env0 P w K mg base A.in1 outer s H := ⟨e.frames, e.mod, e.bs, e.bsz, e.funs, e.frf, e.hok, e.bare⟩

section
variable {X : Cx} {pins : List (Addr × Obj)} {σ : St} {H : Hp} {s s' : Shared}
/-- from a body: what a callee wants -/
theorem Inv.env0 (I : Inv X pins σ H s) : Env0 X.prog X.w X.K X.mg X.base X.A X.stack s H :=
  ⟨I.ok.frames, I.ok.mod, I.bs, Nat.le_trans I.ok.bsz I.sz, I.stack, I.stkFree, I.hok, I.bare⟩
/-- behind a call -/
theorem Inv.after {Q : VK} {u : Value} (I : Inv X pins σ H s) (h : CE X.stack X.prog X.w H s Q u s') : EP X pins σ Q u s' := by
  obtain ⟨v, H', os, bare, un, hok, r, q⟩ := h
  obtain ⟨hh, g, d, t, os'⟩ := s'
  obtain rfl : os' = s.os := os
  exact ⟨v, H', I.call (h' := hh) (g' := g) (d' := d) (t' := t) (ch := []) un hok bare (fun b z => absurd z (by simp)), r, q⟩
end

/-! ### calls -/
/-- f(..): the written arguments, then the defaults dvs; E: what is wanted of an exception -/
def tCall (sp : Sp) (dvs : List V) (E : XK) (t : TA) : TE := fun σ H Q => t σ H fun vs H1 => sp (vs ++ dvs) H1 Q E
/-- o.m(..) of an instance of the class at C -/
def tMeth (C : Addr) (m : Str) (sp : Sp) (dvs : List V) (E : XK) (ta : TE) (t : TA) : TE := fun σ H Q => ta σ H fun x H1 => ∃ a dx fs, x = .ref a ∧ H1 a = some (.ins C dx fs) ∧ fs.lookup m = none ∧
  t σ H1 fun vs H2 => sp (x :: (vs ++ dvs)) H2 Q E
/-- C(..): a new instance and its dict, then __init__ -/
def tMake (C : Addr) (sp : Sp) (dvs : List V) (E : XK) (t : TA) : TE := fun σ H Q => t σ H fun vs H1 => ∀ x dx, H1 x = none → H1 dx = none → dx ≠ x →
  sp (.ref x :: (vs ++ dvs)) (upd (upd H1 dx (.own x)) x (.ins C dx [])) (fun v H2 => v = .non ∧ Q (.ref x) H2) E

/-- how the parameters are bound: us the positional arguments, kw the keywords' values by name, ds the defaults that fill up -/
def Binds (K : PySem.W.Frag) (fd : FuncData) (ps : List Str) (ds : List Value) : Prop :=
  ∀ (s : Shared) (us : List Value), K.In s.heap → (us ++ ds).length = ps.length → BindsTo s fd ⟨us, []⟩ (ps.zip (us ++ ds))
/-- every parameter is given -/
theorem Binds.all {K : PySem.W.Frag} {fd : FuncData} {ps : List Str} (h : ∀ us : List Value, us.length = ps.length → bindArgs fd ⟨us, []⟩ = pure (ps.zip us)) : Binds K fd ps [] := fun s us _ hl => by
  rw [List.append_nil] at hl ⊢
  exact .of_eq (h us hl)

/-- an exception of a callee reaches what this body wants of exceptions -/
def Passes (CX : CXT) (X : Cx) (E : XK) : Prop := ∀ (pins : List (Addr × Obj)) (σ : St) (H : Hp) (s : Shared) (e : Value) (s' : Shared), Inv X pins σ H s → CX X.stack H s E e s' → X.xe e s'

section
variable {X : Cx} {CX : CXT} {k : Nat} {f C : Addr} {fd : FuncData} {ps : List Str} {sp : Sp} {dvs : List V} {ds : List Value} {E : XK} {x m : Str} {p pos apos : Pos} {e o : Expr} {es : List Expr} {ta : TE} {t : TA}

/-- the callee runs -/
theorem run_fn {pins : List (Addr × Obj)} {σ : St} {H : Hp} {s : Shared} {Q : VK} {us : List Value} {vs : List V} (F : FnOk X.prog X.w X.K X.mg X.base CX k f fd ps sp) (hr : Room k X.A) (hb : Binds X.K fd ps ds) (hd : Vals dvs ds) (hx : Passes CX X E)
    (I : Inv X pins σ H s) (r : Vals vs us) (h : sp (vs ++ dvs) H Q E) : wpAny (model X.prog X.w) X.A (call (.ref f) us) (EP X pins σ Q) X.xe s := by
  have r2 : Vals (vs ++ dvs) (us ++ ds) := r.append hd
  have hl : (us ++ ds).length = ps.length := by rw [← r2.length]; exact F.len _ _ _ _ h
  refine wpAny_call (codeAny_mono (F.run X.A X.stack s H ⟨us, []⟩ (us ++ ds) (vs ++ dvs) Q E hr I.env0 (hb s us I.kIn hl) r2 h) fun r s' hq => ?_)
  cases r with
  | error e => exact hx pins σ H s e s' I hq
  | ok fl =>
    cases fl with
    | ret u => exact I.after hq
    | next => exact False.elim hq
    | brk => exact False.elim hq
    | cont => exact False.elim hq

theorem pe_call (F : FnOk X.prog X.w X.K X.mg X.base CX k f fd ps sp) (hr : Room k X.A) (hg : Gl X x) (hm : X.mg x = some (.ref f)) (hk : PySem.W.keepIn X.K (.ref f) = true) (hb : Binds X.K fd ps ds) (hd : Vals dvs ds) (hx : Passes CX X E)
    (ha : PA X (e :: es) t) (hdb : (x == ("__debug__" : Str)) = false := by decide) (he : starEach (e :: es) X.env = (false, eval e X.env) :: starEach es X.env := by rfl) (hpl : (backTo pos (starEach es X.env)).any (·.1) = false := by rfl) :
    PE X (.Call (.Name x p) (e :: es) [] pos) (tCall sp dvs E t) := by
  intro pins s σ H Q I h
  refine wpAny_Call_Name_kw (ld_glob I hg hm ?_ hdb)
  refine PySem.W.callWith_K (h₀ := X.base) I.ok.mod.kin hk (thn (ha pos pins s σ H _ I h) fun us s1 ⟨vs, H1, I1, r, q⟩ => ⟨I1.kIn, ?_⟩) he hpl
  exact run_fn F hr hb hd hx I1 r q
theorem pe_call0 (F : FnOk X.prog X.w X.K X.mg X.base CX k f fd ps sp) (hr : Room k X.A) (hg : Gl X x) (hm : X.mg x = some (.ref f)) (hk : PySem.W.keepIn X.K (.ref f) = true) (hb : Binds X.K fd ps ds) (hd : Vals dvs ds) (hx : Passes CX X E)
    (hdb : (x == ("__debug__" : Str)) = false := by decide) : PE X (.Call (.Name x p) [] [] pos) (tCall sp dvs E tNil) := by
  intro pins s σ H Q I h
  refine wpAny_Call_Name_kw (ld_glob I hg hm ?_ hdb)
  exact PySem.W.callWith_K0 I.kIn hk (run_fn (us := []) F hr hb hd hx I .nil h)

/-- o.m(e, ..) -/
theorem pe_meth {pl : Sem Bool} (he : PE X o ta) (c : Cls X.K C) (hm : Meth X.K C m f) (F : FnOk X.prog X.w X.K X.mg X.base CX k f fd ps sp) (hr : Room k X.A) (hb : Binds X.K fd ps ds) (hd : Vals dvs ds) (hx : Passes CX X E) (ha : PA X (e :: es) t)
    (hst : starEach (e :: es) X.env = (false, eval e X.env) :: starEach es X.env := by rfl) (hpl : (backTo pos (starEach es X.env)).any (·.1) = false := by rfl)
    (ht : eval (.Call (.Attribute o m apos) (e :: es) [] pos) X.env = (do
      let ov ← eval o X.env
      standAt apos.atName
      let (f, first) ← holding [ov] (getMethod ov m pl)
      callWith pos f first (backTo pos (starEach (e :: es) X.env)) (backToKw pos (keywordEach [] X.env))) := by rfl) :
    PE X (.Call (.Attribute o m apos) (e :: es) [] pos) (tMeth C m sp dvs E ta t) := by
  intro pins s σ H Q I h
  refine PySem.W.methodCall_KW (pl := pl) (thn (he pins s σ H _ I h) fun u s1 ⟨x, H1, I1, rx, a, dx, fs, ex, ea, l, q⟩ => ?_) ht
  subst ex
  obtain rfl : u = Value.ref a := rx
  refine getmeth_ok I1 ea c hm l ?_
  refine PySem.W.callWith_K (first := [.ref a]) (h₀ := X.base) I.ok.mod.kin hm.kp (thn (ha pos pins s1 σ H1 _ I1 q) fun us s2 ⟨vs, H2, I2, r, q2⟩ => ⟨I2.kIn, ?_⟩) hst hpl
  exact run_fn (us := .ref a :: us) (vs := .ref a :: vs) F hr hb hd hx I2 (.cons rfl r) q2
/-- o.m() -/
theorem pe_meth0 {pl : Sem Bool} (he : PE X o ta) (c : Cls X.K C) (hm : Meth X.K C m f) (F : FnOk X.prog X.w X.K X.mg X.base CX k f fd ps sp) (hr : Room k X.A) (hb : Binds X.K fd ps ds) (hd : Vals dvs ds) (hx : Passes CX X E)
    (ht : eval (.Call (.Attribute o m apos) [] [] pos) X.env = (do
      let ov ← eval o X.env
      standAt apos.atName
      let (f, first) ← holding [ov] (getMethod ov m pl)
      callWith pos f first (backTo pos (starEach [] X.env)) (backToKw pos (keywordEach [] X.env))) := by rfl) :
    PE X (.Call (.Attribute o m apos) [] [] pos) (tMeth C m sp dvs E ta tNil) := by
  intro pins s σ H Q I h
  refine PySem.W.methodCall_KW (pl := pl) (thn (he pins s σ H _ I h) fun u s1 ⟨x, H1, I1, rx, a, dx, fs, ex, ea, l, q⟩ => ?_) ht
  subst ex
  obtain rfl : u = Value.ref a := rx
  refine getmeth_ok I1 ea c hm l ?_
  exact PySem.W.callWith_K0 (first := [.ref a]) I1.kIn hm.kp (run_fn (us := [.ref a]) (vs := [.ref a]) F hr hb hd hx I1 (.cons rfl .nil) q)

/-- what a class must have to be made -/
structure Mk (K : PySem.W.Frag) (C f : Addr) : Prop where
  makes : PySem.W.makesIn K C = true
  init : PySem.W.findIn K (.ref C) "__init__" = some (some (.ref f))
  fn : PySem.W.isFn K (.ref f) = true
  kp : PySem.W.keepIn K (.ref C) = true

theorem run_make {pins : List (Addr × Obj)} {σ : St} {H : Hp} {s : Shared} {Q : VK} {us : List Value} {vs : List V} (M : Mk X.K C f) (F : FnOk X.prog X.w X.K X.mg X.base CX k f fd ps sp) (hr : Room (k + 1) X.A) (hb : Binds X.K fd ps ds) (hd : Vals dvs ds)
    (hx : Passes CX X E) (I : Inv X pins σ H s) (r : Vals vs us)
    (h : ∀ x dx, H x = none → H dx = none → dx ≠ x → sp (.ref x :: (vs ++ dvs)) (upd (upd H dx (.own x)) x (.ins C dx [])) (fun v H2 => v = .non ∧ Q (.ref x) H2) E) :
    wpAny (model X.prog X.w) X.A (call (.ref C) us) (EP X pins σ Q) X.xe s := by
  have hq := h (s.heap.objs.size + 1) s.heap.objs.size (I.hok.fresh (Nat.le_succ _)) (I.hok.fresh (Nat.le_refl _)) (Nat.ne_of_lt (Nat.lt_succ_self _))
  have I2 := Inv.made (C := C) I
  have r2 : Vals (V.ref (s.heap.objs.size + 1) :: (vs ++ dvs)) (Value.ref (s.heap.objs.size + 1) :: (us ++ ds)) := .cons rfl (r.append hd)
  have hl : (Value.ref (s.heap.objs.size + 1) :: us ++ ds).length = ps.length := by
    have e := r2.length
    rw [F.len _ _ _ _ hq] at e
    exact e.symm
  refine wpAny_call (make_map (f := f) I.kIn M.makes M.init (beq_iff_eq.mp M.fn) (codeAny_mono (F.run _ X.stack _ _ ⟨Value.ref (s.heap.objs.size + 1) :: us, []⟩ (Value.ref (s.heap.objs.size + 1) :: (us ++ ds)) _ _ E (hr.make C us [])
    (I2.env0.make C us []) (hb _ (Value.ref (s.heap.objs.size + 1) :: us) I2.kIn hl) r2 hq) fun r s' hq' => ?_))
  cases r with
  | error e => exact hx pins σ _ _ e s' I2 hq'
  | ok fl =>
    cases fl with
    | ret u =>
      obtain ⟨v, H', I3, rv, ev, q3⟩ := I2.after hq'
      subst ev
      exact ⟨rv, ⟨V.ref (s.heap.objs.size + 1), H', I3, rfl, q3⟩⟩
    | next => exact False.elim hq'
    | brk => exact False.elim hq'
    | cont => exact False.elim hq'
theorem pe_make (M : Mk X.K C f) (F : FnOk X.prog X.w X.K X.mg X.base CX k f fd ps sp) (hr : Room (k + 1) X.A) (hg : Gl X x) (hm : X.mg x = some (.ref C)) (hb : Binds X.K fd ps ds) (hd : Vals dvs ds) (hx : Passes CX X E)
    (ha : PA X (e :: es) t) (hdb : (x == ("__debug__" : Str)) = false := by decide) (he : starEach (e :: es) X.env = (false, eval e X.env) :: starEach es X.env := by rfl) (hpl : (backTo pos (starEach es X.env)).any (·.1) = false := by rfl) :
    PE X (.Call (.Name x p) (e :: es) [] pos) (tMake C sp dvs E t) := by
  intro pins s σ H Q I h
  refine wpAny_Call_Name_kw (ld_glob I hg hm ?_ hdb)
  refine PySem.W.callWith_K (h₀ := X.base) I.ok.mod.kin M.kp (thn (ha pos pins s σ H _ I h) fun us s1 ⟨vs, H1, I1, r, q⟩ => ⟨I1.kIn, ?_⟩) he hpl
  exact run_make M F hr hb hd hx I1 r q
theorem pe_make0 (M : Mk X.K C f) (F : FnOk X.prog X.w X.K X.mg X.base CX k f fd ps sp) (hr : Room (k + 1) X.A) (hg : Gl X x) (hm : X.mg x = some (.ref C)) (hb : Binds X.K fd ps ds) (hd : Vals dvs ds) (hx : Passes CX X E)
    (hdb : (x == ("__debug__" : Str)) = false := by decide) : PE X (.Call (.Name x p) [] [] pos) (tMake C sp dvs E tNil) := by
  intro pins s σ H Q I h
  refine wpAny_Call_Name_kw (ld_glob I hg hm ?_ hdb)
  exact PySem.W.callWith_K0 I.kIn M.kp (run_make (us := []) M F hr hb hd hx I .nil h)
end

/-! ### keywords -/
/-- the values of the keywords, from the left -/
def PK (X : Cx) (kws : List Keyword) (t : TA) : Prop :=
  ∀ (pos : Pos) (pins : List (Addr × Obj)) (s : Shared) (σ : St) (H : Hp) (Q : List V → Hp → Prop), Inv X pins σ H s → t σ H Q → wpAny (model X.prog X.w) X.A (evalAll ((backToKw pos (keywordEach kws X.env)).map (·.2))) (AP X pins σ Q) X.xe s
section
variable {X : Cx} {CX : CXT} {k : Nat} {f C : Addr} {fd : FuncData} {ps ks : List Str} {sp : Sp} {E : XK} {x m : Str} {p pos apos kpos : Pos} {e o : Expr} {es : List Expr} {kws : List Keyword} {te ta : TE} {t tk : TA} {nm : Option Str}
theorem pk_nil : PK X [] tNil := fun _ _ _ _ H Q I h => wpAny_evalAll_nil ⟨[], H, I, .nil, h⟩
theorem pk_cons (ha : PE X e te) (hr : PK X kws t) : PK X (⟨nm, e, kpos⟩ :: kws) (tCons te t) := by
  intro pos pins s σ H Q I h
  show wpAny _ _ (evalAll ((do let v ← eval e X.env; standAt pos; pure v) :: (backToKw pos (keywordEach kws X.env)).map (·.2))) _ _ s
  refine wpAny_evalAll_cons (wpAny_bind (thn (ha pins s σ H _ I h) fun u s1 ⟨x, H1, I1, r1, q1⟩ => wpAny_bind (wpAny_standAt (wpAny_pure ?_))))
  exact thn (hr pos pins s1 σ H1 _ I1 q1) fun us s2 ⟨xs, H2, I2, r2, q2⟩ => ⟨x :: xs, H2, I2, .cons r1 r2, q2⟩

/-- how a call with keywords binds: g puts the positional values us and the keywords' values ws (names ks) in the parameters' order, defaults among them -/
structure KBinds (K : PySem.W.Frag) (fd : FuncData) (ps ks : List Str) (g : List Value → List Value → List Value) (gV : List V → List V → List V) : Prop where
  to : ∀ (s : Shared) (us ws : List Value), K.In s.heap → (g us ws).length = ps.length → BindsTo s fd ⟨us, ks.zip ws⟩ (ps.zip (g us ws))
  rel : ∀ {vs : List V} {us : List Value} {zs : List V} {ws : List Value}, Vals vs us → Vals zs ws → Vals (gV vs zs) (g us ws)
def tCallK (sp : Sp) (gV : List V → List V → List V) (E : XK) (t tk : TA) : TE := fun σ H Q => t σ H fun vs H1 => tk σ H1 fun zs H2 => sp (gV vs zs) H2 Q E
variable {g : List Value → List Value → List Value} {gV : List V → List V → List V}
theorem run_fnk {pins : List (Addr × Obj)} {σ : St} {H : Hp} {s : Shared} {Q : VK} {us ws : List Value} {vs zs : List V} (F : FnOk X.prog X.w X.K X.mg X.base CX k f fd ps sp) (hr : Room k X.A) (hb : KBinds X.K fd ps ks g gV) (hx : Passes CX X E)
    (I : Inv X pins σ H s) (r : Vals vs us) (rz : Vals zs ws) (h : sp (gV vs zs) H Q E) : wpAny (model X.prog X.w) X.A (call (.ref f) us (ks.zip ws)) (EP X pins σ Q) X.xe s := by
  have r2 := hb.rel r rz
  have hl : (g us ws).length = ps.length := by rw [← r2.length]; exact F.len _ _ _ _ h
  refine wpAny_call (codeAny_mono (F.run X.A X.stack s H ⟨us, ks.zip ws⟩ (g us ws) (gV vs zs) Q E hr I.env0 (hb.to s us ws I.kIn hl) r2 h) fun r s' hq => ?_)
  cases r with
  | error e => exact hx pins σ H s e s' I hq
  | ok fl =>
    cases fl with
    | ret u => exact I.after hq
    | next => exact False.elim hq
    | brk => exact False.elim hq
    | cont => exact False.elim hq
/-- f(e, .., k = v, ..) -/
theorem pe_callK (F : FnOk X.prog X.w X.K X.mg X.base CX k f fd ps sp) (hr : Room k X.A) (hg : Gl X x) (hm : X.mg x = some (.ref f)) (hk : PySem.W.keepIn X.K (.ref f) = true) (hb : KBinds X.K fd ps ks g gV) (hx : Passes CX X E)
    (ha : PA X (e :: es) t) (hkw : PK X kws tk) (hall : (backToKw pos (keywordEach kws X.env)).all (·.1.isSome) = true := by rfl) (hks : (backToKw pos (keywordEach kws X.env)).filterMap (·.1) = ks := by rfl)
    (hdb : (x == ("__debug__" : Str)) = false := by decide) (he : starEach (e :: es) X.env = (false, eval e X.env) :: starEach es X.env := by rfl)
    (hpl : ((backTo pos (starEach (e :: es) X.env)).any (·.1) || (backToKw pos (keywordEach kws X.env)).any (·.1.isNone)) = false := by rfl) :
    PE X (.Call (.Name x p) (e :: es) kws pos) (tCallK sp gV E t tk) := by
  intro pins s σ H Q I h
  refine wpAny_Call_Name_kw (ld_glob I hg hm ?_ hdb)
  refine PySem.W.callWith_KW (h₀ := X.base) I.ok.mod.kin hk hall (thn (ha pos pins s σ H _ I h) fun us s1 ⟨vs, H1, I1, r, q⟩ => ?_) hpl he
  refine thn (hkw pos pins s1 σ H1 _ I1 q) fun ws s2 ⟨zs, H2, I2, rz, q2⟩ => ⟨I2.kIn, ?_⟩
  rw [hks]
  exact run_fnk F hr hb hx I2 r rz q2
end

/-! ### a def's body keeps its promise -/
/-- names: the parameters first -/
structure FnScope (N P : List Str) (sc : Scope) : Prop where
  kind : sc.kind = .function
  co : sc.isCoroutine = false
  gen : sc.isGenerator = false
  nd : N.Nodup
  pre : N.take P.length = P
  par : ∀ x ∈ P, sc.names.lookup x = some .local ∨ sc.names.lookup x = some .cell
  nofree : ∀ y ∈ sc.names, y.2 ≠ .free

theorem bindL_out {kindOf : Str → Option NameKind} {x : Str} : ∀ {binds : List (Str × Value)} {m : Str → Option Value}, (∀ v, (x, v) ∉ binds) → bindL kindOf binds m x = m x
  | [], _, _ => rfl
  | (n, v) :: r, m, h => by
    unfold bindL
    rw [bindL_out fun w hw => h w (List.mem_cons_of_mem _ hw)]
    split
    · have : x ≠ n := by rintro rfl; exact h v List.mem_cons_self
      simp [this]
    · rfl
theorem bindC_out {kindOf : Str → Option NameKind} {x : Str} : ∀ {binds : List (Str × Value)} {m : Str → Option Value}, (∀ v, (x, v) ∉ binds) → bindC kindOf binds m x = m x
  | [], _, _ => rfl
  | (n, v) :: r, m, h => by
    unfold bindC
    rw [bindC_out fun w hw => h w (List.mem_cons_of_mem _ hw)]
    split
    · rfl
    · have : x ≠ n := by rintro rfl; exact h v List.mem_cons_self
      simp [this]
theorem bindL_get {kindOf : Str → Option NameKind} {x : Str} {v : Value} : ∀ {P : List Str} {vs : List Value} {i : Nat} {m : Str → Option Value}, P.Nodup → P[i]? = some x → vs[i]? = some v → kindOf x = some .local →
    bindL kindOf (P.zip vs) m x = some v
  | [], _, _, _, _, h, _, _ => by simp at h
  | _ :: _, [], _, _, _, _, h, _ => by simp at h
  | p :: P, w :: vs, 0, m, nd, h1, h2, hk => by
    simp at h1 h2; subst h1; subst h2
    show bindL kindOf ((p, w) :: P.zip vs) m p = _
    unfold bindL
    rw [bindL_out fun v hv => (List.nodup_cons.mp nd).1 (List.of_mem_zip hv).1, if_pos hk]
    simp
  | p :: P, w :: vs, i + 1, m, nd, h1, h2, hk => by
    show bindL kindOf ((p, w) :: P.zip vs) m x = _
    unfold bindL
    exact bindL_get (i := i) (List.nodup_cons.mp nd).2 (by simpa using h1) (by simpa using h2) hk
theorem bindC_get {kindOf : Str → Option NameKind} {x : Str} {v : Value} : ∀ {P : List Str} {vs : List Value} {i : Nat} {m : Str → Option Value}, P.Nodup → P[i]? = some x → vs[i]? = some v → kindOf x ≠ some .local →
    bindC kindOf (P.zip vs) m x = some v
  | [], _, _, _, _, h, _, _ => by simp at h
  | _ :: _, [], _, _, _, _, h, _ => by simp at h
  | p :: P, w :: vs, 0, m, nd, h1, h2, hk => by
    simp at h1 h2; subst h1; subst h2
    show bindC kindOf ((p, w) :: P.zip vs) m p = _
    unfold bindC
    rw [bindC_out fun v hv => (List.nodup_cons.mp nd).1 (List.of_mem_zip hv).1, if_neg hk]
    simp
  | p :: P, w :: vs, i + 1, m, nd, h1, h2, hk => by
    show bindC kindOf ((p, w) :: P.zip vs) m x = _
    unfold bindC
    exact bindC_get (i := i) (List.nodup_cons.mp nd).2 (by simpa using h1) (by simpa using h2) hk

/-- the names' values at the entry -/
def start (N : List Str) (vs : List V) : St := vs.map some ++ List.replicate (N.length - vs.length) none

/-- the context of a def's body, at its entry; an exception leaves the frame, then lies as CX says -/
def cxOf (CX : CXT) (P : Program) (w : World) (K : PySem.W.Frag) (mg : Str → Option Value) (base : Heap) (N : List Str) (qual : Str) (scope : Scope) (f : Addr) (cd : Value) (A : Around) (outer : List Env) (s : Shared) (H : Hp) (E : XK) : Cx where
  prog := P
  w := w
  K := K
  mg := mg
  base := base
  A := A.deeper (envOfC qual scope s.heap.objs.size f cd)
  N := N
  s₀ := s
  H₀ := H
  env := envOfC qual scope s.heap.objs.size f cd
  outer := outer
  stack := envOfC qual scope s.heap.objs.size f cd :: outer
  ex := []
  calm := true
  fn := fun _ => true
  pn := []
  xe := fun e s' => wpAny (model P w) (A.deeper (envOfC qual scope s.heap.objs.size f cd)) (leaving (envOfC qual scope s.heap.objs.size f cd) e) (fun _ s'' => CX outer H s E e s'') (fun e' s'' => CX outer H s E e' s'') s'

theorem cell_has {sc : Scope} {n : Nat} {x : Str} (h : sc.names.lookup x = some .cell) : ∃ c, (cellsFrom n sc.names []).lookup x = some c := by
  have q := PySem.W.cellsFrom_some sc.names n [] (.inl h)
  exact Option.isSome_iff_exists.mp q

theorem inv_start {CX : CXT} {P : Program} {w : World} {K : PySem.W.Frag} {mg : Str → Option Value} {base : Heap} {N ps : List Str} {qual : Str} {scope : Scope} {f : Addr} {cd : Value} {A : Around} {outer : List Env} {s s1 : Shared} {H : Hp} {E : XK} {us : List Value} {vs : List V}
    (S : FnScope N ps scope) (hd : A.handled = none) (e0 : Env0 P w K mg base A outer s H) (hl : vs.length = ps.length) (r : Vals vs us)
    (x : InCallC s s.heap.objs.size (bindL (envOfC qual scope s.heap.objs.size f cd).kindOf (ps.zip us) fun _ => none) (cellsFrom (s.heap.objs.size + 1) scope.names []) (bindC (envOfC qual scope s.heap.objs.size f cd).kindOf (ps.zip us) fun _ => none) s1) :
    Inv (cxOf CX P w K mg base N qual scope f cd A outer s H E) [] (start N vs) H s1 := by
  have hpl : ps.length ≤ N.length := by have := congrArg List.length S.pre; rw [List.length_take] at this; omega
  obtain ⟨h1, tk, rfl, hk⟩ := x.done
  have noA : ∀ b : Addr, b ∉ (cxOf CX P w K mg base N qual scope f cd A outer s H E).ex := fun b z => absurd (show b ∈ ([] : List Addr) from z) (by simp)
  refine ⟨⟨e0.mod, S.kind, rfl, rfl, Nat.le_refl _, fun y z c h1 h2 => ?_, fun y hy => ?_, fun y c _ h => ?_, fun _ => hd, Around.frames_deeper e0.frames, .inr ⟨rfl, rfl⟩, fun b z => absurd z (noA b), e0.bs, e0.bsz, fun b _ _ => noA b, fun b z => absurd z (noA b), e0.funs, e0.frf⟩,
    rfl, e0.bare, Un.kept hk, ⟨_, x.toInCall.ns, fun i y v h1 h2 h3 => ?_⟩, fun y c h => ⟨_, x.cell y c h⟩, e0.hok.fresh (Nat.le_refl _), fun y c h => ?_, fun p hp => absurd (show p ∈ ([] : List (Addr × Obj)) from hp) (by simp), e0.hok.kept hk, ?_⟩
  · exact name_of_addr x.apart (PySem.mem_of_lookup h1) (PySem.mem_of_lookup h2)
  · have hy : scope.names.lookup y = some .cell ∨ scope.names.lookup y = some .free := hy
    rcases hy with hy | hy
    · exact cell_has hy
    · exact absurd rfl (S.nofree _ (PySem.mem_of_lookup hy))
  · exact Nat.le_of_lt (x.above y c (PySem.mem_of_lookup h))
  · have hi : i < vs.length := by
      unfold start at h2
      by_cases hi : i < vs.length
      · exact hi
      · rw [List.getElem?_append_right (by simpa using hi)] at h2
        rw [List.getElem?_replicate] at h2
        split at h2 <;> cases h2
    have ha : vs[i]? = some v := by
      unfold start at h2
      rw [List.getElem?_append_left (by simpa using hi), List.getElem?_map] at h2
      cases e : vs[i]? with
      | none => rw [e] at h2; cases h2
      | some a => rw [e] at h2; cases h2; rfl
    obtain ⟨u, hu, rv⟩ := r.get ha
    have hp : ps[i]? = some y := by
      rw [← S.pre, List.getElem?_take_of_lt (by omega)]; exact h1
    have ndP : ps.Nodup := by rw [← S.pre]; exact S.nd.sublist (List.take_sublist _ _)
    refine ⟨u, rv, ?_⟩
    rcases S.par y (List.mem_of_getElem? hp) with k | k
    · exact .inl ⟨k, bindL_get ndP hp hu k⟩
    · obtain ⟨c, e⟩ := cell_has (n := s.heap.objs.size + 1) k
      refine .inr ⟨.inl k, c, e, ?_⟩
      have q := x.cell y c e
      rw [bindC_get ndP hp hu (by show scope.names.lookup y ≠ _; rw [k]; decide)] at q
      exact q
  · exact e0.hok.fresh (Nat.le_of_lt (x.above y c (PySem.mem_of_lookup h)))
  · unfold start
    show _ = N.length
    rw [List.length_append, List.length_map, List.length_replicate]
    omega

/-- THE RULE: a def (or a method) of the text, by its body. The body's reading t is chosen for each entry; it is run at the parameters' values -/
theorem fn_of {CX : CXT} {P : Program} {w : World} {K : PySem.W.Frag} {mg : Str → Option Value} {base : Heap} {k : Nat} {f : Addr} {name qual : Str} {params : Arguments} {body : List Stmt} {scope : Scope} {dV kV doc pm cdv ct oc : Value} {an od : Option Addr}
    {osl : Array (Option Value)} {N ps : List Str} {sp : Sp} (lk : K.lookup f = some ⟨oc, od, .func (PySem.W.fnOf name qual params body scope dV kV doc pm an cdv ct), osl⟩) (hcd : PySem.W.codeIn K cdv qual = true) (S : FnScope N ps scope)
    (len : ∀ vs H Q E, sp vs H Q E → vs.length = ps.length)
    (hbody : ∀ (A : Around) (outer : List Env) (s : Shared) (H : Hp) (vs : List V) (Q : VK) (E : XK), Room k (A.deeper (envOfC qual scope s.heap.objs.size f cdv)) → sp vs H Q E →
      ∃ t, PSs (cxOf CX P w K mg base N qual scope f cdv A outer s H E) body t ∧ t { nx := fun _ H' => Q .non H', rt := Q } (start N vs) H) :
    FnOk P w K mg base CX (k + 1) f (PySem.W.fnOf name qual params body scope dV kV doc pm an cdv ct) ps sp := by
  refine ⟨len, fun A outer s H args us vs Q E hr e0 hb r hsp => ?_⟩
  have hl := len _ _ _ _ hsp
  have KX : K.In s.heap := e0.mod.kin.keeps fun b o e => (e0.bs b o e).1
  have lim : s.heap.NoLimit := e0.mod.nolimit.keeps fun b o e => (e0.bs b o e).1
  have hkind : ∀ y ∈ ps.zip us, scope.names.lookup y.1 = some .local ∨ (scope.names.lookup y.1 = some .cell ∧ ((cellsFrom (s.heap.objs.size + 1) scope.names []).lookup y.1).isSome = true) := fun ⟨n, v⟩ hy => by
    rcases S.par n (List.of_mem_zip hy).1 with q | q
    · exact .inl q
    · exact .inr ⟨q, PySem.W.cellsFrom_some _ _ _ (.inl q)⟩
  refine codeAny_call_function hr.depth (KX _ _ lk) rfl S.co S.gen rfl (PySem.W.codeRec_of KX hcd) (hb _ _ _ _ ?_)
  refine wpAny_newFunctionEnv_cells S.kind hkind fun env he s1 x => ?_
  subst he
  refine ⟨lim.keeps x.toInCall.keep, codeAny_func ?_⟩
  obtain ⟨t, ht, hq⟩ := hbody A outer s H vs Q E (hr.deeper _) hsp
  have I : Inv (cxOf CX P w K mg base N qual scope f cdv A outer s H E) [] (start N vs) H s1 := inv_start S hr.hd e0 hl r x
  refine wpAny_mono (ht [] s1 (start N vs) H _ I hq) (fun fl s' hs => ?_) fun e s' hs => hs
  have fin : ∀ {σ' : St} {H' : Hp} {v : V} {u : Value}, Inv (cxOf CX P w K mg base N qual scope f cdv A outer s H E) [] σ' H' s' → RelV v u → Q v H' → CE outer P w H s Q u s' :=
    fun {σ' H' v u} J rv q => ⟨v, H', J.os, J.bare, J.base, J.hok, rv, q⟩
  cases fl with
  | ret u =>
    obtain ⟨v, σ', H', J, rv, q⟩ := hs
    exact fin J rv q
  | next =>
    obtain ⟨σ', H', J, q⟩ := hs
    exact fin (v := V.non) (u := Value.none) J rfl q
  | brk =>
    obtain ⟨_, _, _, q⟩ := hs
    exact False.elim q
  | cont =>
    obtain ⟨_, _, _, q⟩ := hs
    exact False.elim q
end L2

namespace L2
open PySem PySem.Spec PyProof.Rows
section
variable {X : Cx} {x : Str} {p pos : Pos} {e : Expr} {es : List Expr} {t : TA} {id T : String} {r : List V → Hp → VK → Prop}

def tCB (r : List V → Hp → VK → Prop) (t : TA) : TE := fun σ H Q => t σ H fun vs H1 => r vs H1 Q
/-- f(e, ..), f a built-in function -/
theorem pe_callB (hc : CallR X (.builtin id) r) (hg : Gl X x) (hm : X.mg x = none) (hv : bootBuiltins x = some (.builtin id)) (ha : PA X (e :: es) t) (hn : x ≠ "__name__" := by decide) (hdb : (x == ("__debug__" : Str)) = false := by decide)
    (he : starEach (e :: es) X.env = (false, eval e X.env) :: starEach es X.env := by rfl) (hpl : (backTo pos (starEach es X.env)).any (·.1) = false := by rfl) : PE X (.Call (.Name x p) (e :: es) [] pos) (tCB r t) := by
  intro pins s σ H Q I h
  refine wpAny_Call_Name_kw (ld_blt I hg hm hv ?_ hn hdb)
  exact PyProof.Rows.callWith_builtin1 (thn (ha pos pins s σ H _ I h) fun us s1 ⟨vs, H1, I1, r1, q1⟩ => hc pins s1 σ H1 vs us Q I1 r1 q1) he hpl
/-- T(e, ..), T a built-in type -/
theorem pe_callTy (hc : CallR X (.type T) r) (hg : Gl X x) (hm : X.mg x = none) (hv : bootBuiltins x = some (.type T)) (ha : PA X (e :: es) t) (hn : x ≠ "__name__" := by decide) (hdb : (x == ("__debug__" : Str)) = false := by decide)
    (he : starEach (e :: es) X.env = (false, eval e X.env) :: starEach es X.env := by rfl) (hpl : (backTo pos (starEach es X.env)).any (·.1) = false := by rfl) : PE X (.Call (.Name x p) (e :: es) [] pos) (tCB r t) := by
  intro pins s σ H Q I h
  refine wpAny_Call_Name_kw (ld_blt I hg hm hv ?_ hn hdb)
  exact PyProof.Rows.callWith_type1 (thn (ha pos pins s σ H _ I h) fun us s1 ⟨vs, H1, I1, r1, q1⟩ => hc pins s1 σ H1 vs us Q I1 r1 q1) he hpl
/-- T() -/
theorem pe_callTy0 (hc : CallR X (.type T) r) (hg : Gl X x) (hm : X.mg x = none) (hv : bootBuiltins x = some (.type T)) (hn : x ≠ "__name__" := by decide) (hdb : (x == ("__debug__" : Str)) = false := by decide) :
    PE X (.Call (.Name x p) [] [] pos) (tCB r tNil) := by
  intro pins s σ H Q I h
  refine wpAny_Call_Name_kw (ld_blt I hg hm hv ?_ hn hdb)
  exact PyProof.Rows.callWith_type0 (hc pins s σ H [] [] Q I .nil h)
end
end L2

namespace HT
open PySem PyProof.Rows

/-- t < u of tuples of ints -/
def lexLt : List Int → List Int → Bool
  | [], [] => false
  | [], _ :: _ => true
  | _ :: _, [] => false
  | x :: xs, y :: ys => if x = y then lexLt xs ys else decide (x < y)
theorem lexLt_cons (x y : Int) (xs ys : List Int) : lexLt (x :: xs) (y :: ys) = if x = y then lexLt xs ys else decide (x < y) := rfl
theorem lexLt_nil_nil : lexLt [] [] = false := rfl
theorem lexLt_nil_cons (y : Int) (ys : List Int) : lexLt [] (y :: ys) = true := rfl
theorem lexLt_cons_nil (x : Int) (xs : List Int) : lexLt (x :: xs) [] = false := rfl

theorem eqAt_int (A : Around) (s : Shared) (a : Int) (t : Tok) (c : Int) (u : Tok) : ∃ e, SeqAt.EqAt A s (.int a t) (.int c u) e ∧ (e = true ↔ a = c) :=
  ⟨(a == c), SeqAt.EqAt.int_int a t c u, by simp⟩
theorem rcLt_int (A : Around) (s : Shared) (a : Int) (t : Tok) (c : Int) (u : Tok) (prog : Program) (w : World) (E : Value → Shared → Prop) (Q : Value → Shared → Prop) (h : Q (.bool (decide (a < c))) s) :
    wpAny (model prog w) A (richCompare .Lt (.int a t) (.int c u)) Q E s :=
  (PyProof.Rows.lt_int h : wpAny (model prog w) A (compareOp .Lt (.int a t) (.int c u)) Q E s)

section
open PySem.SeqAt
open PySem.AutoSeq1 (wpAny_loadPart')
open PySem.MeetsSeq PySem.MeetsSeq2 PySem.MeetsSeq3

theorem tuple_lt_ints (l b : Addr) (items items2 : Array Value) (n n2 : Nat) (dd dd2 : Option Addr) (sl sl2 : Array (Option Value)) (ns ms : List Int) (hi : IntsAre items.toList ns) (hj : IntsAre items2.toList ms) :
    Meets (Builtin.«tuple.__lt__» ⟨[.ref l, .ref b], []⟩)
      (fun _ R s => s.heap.get? l = some { cls := .type "tuple", dict := dd, data := .seq items n, slots := sl } ∧ s.heap.get? b = some { cls := .type "tuple", dict := dd2, data := .seq items2 n2, slots := sl2 } ∧
        R (.ok (.ret (.bool (lexLt ns ms)))) s) :=
  .of_wp fun prog w A R s h => by
    obtain ⟨hp, g, d, tk, os⟩ := s; obtain ⟨hl, hb, h⟩ := h
    have f2 := AutoSeq1.sub_tuple_tuple
    have z1 : items.size = ns.length := by rw [← hi.length]; simp
    have z2 : items2.size = ms.length := by rw [← hj.length]; simp
    wp_walk using wpAny_loadPart' hl, wpAny_loadPart' hb, wpAny_forIn_list _ (fun rest b s' => b.1 = none ∧ s' = ⟨hp, g, d, tk, os⟩ ∧ ∃ (vs ws : List Value) (ns' ms' : List Int), rest = vs.zip ws ∧
      IntsAre vs ns' ∧ IntsAre ws ms' ∧ ns'.length + items2.size = ms'.length + items.size ∧ R (.ok (.ret (.bool (lexLt ns' ms')))) ⟨hp, g, d, tk, os⟩) _
    case turn =>
      rintro ⟨y, x⟩ rest b s' ⟨hb', rfl, vs, ws, ns', ms', hz, hvi, hwi, hlen, hR⟩
      cases hvi with
      | nil => rw [List.zip_nil_left] at hz; cases hz
      | cons a t hvi' =>
        cases hwi with
        | nil => rw [List.zip_nil_right] at hz; cases hz
        | cons c u hwi' =>
          rw [List.zip_cons_cons] at hz
          injection hz with hyx hrest
          injection hyx with hy hx
          subst hy hx
          rw [lexLt_cons] at hR
          simp only [List.length_cons] at hlen
          obtain ⟨e, he, hiff⟩ := eqAt_int A.in1 ⟨hp, g, d, tk, os⟩ a t c u
          refine wpAny_bind (he prog w _ _ ?_)
          cases e with
          | true =>
            rw [if_pos (hiff.mp rfl)] at hR
            wp_walk
            exact ⟨rfl, rfl, _, _, _, _, hrest, hvi', hwi', by omega, hR⟩
          | false =>
            rw [if_neg (fun q => absurd (hiff.mpr q) Bool.false_ne_true)] at hR
            have hri := rcLt_int A.in1 ⟨hp, g, d, tk, os⟩ a t c u prog w
            wp_walk using hri
            exact ⟨_, rfl, by simpa using hR⟩
    case fin =>
      rintro ⟨b1, b2⟩ s' ⟨hb', rfl, vs, ws, ns', ms', hz, hvi, hwi, hlen, hR⟩
      simp only at hb'
      subst hb'
      have hv : lexLt ns' ms' = decide (items.size < items2.size) := by
        cases hvi with
        | nil =>
          cases hwi with
          | nil =>
            simp only [List.length_nil] at hlen
            rw [lexLt_nil_nil]
            exact (decide_eq_false (by omega)).symm
          | cons c u hw =>
            simp only [List.length_nil, List.length_cons] at hlen
            rw [lexLt_nil_cons]
            exact (decide_eq_true (by omega)).symm
        | cons a t hv =>
          cases hwi with
          | nil =>
            simp only [List.length_nil, List.length_cons] at hlen
            rw [lexLt_cons_nil]
            exact (decide_eq_false (by omega)).symm
          | cons c u hw =>
            rw [List.zip_cons_cons] at hz
            cases hz
      rw [hv] at hR
      wp_walk
      exact ⟨_, rfl, by simpa [Builtin.Tuple.tupleCompareSizes] using hR⟩
    case h =>
      exact ⟨rfl, rfl, items.toList, items2.toList, ns, ms, rfl, hi, hj, by omega, h⟩
end

section
variable {prog : Program} {w : World} {A : Around} {E : Value → Shared → Prop} {s : Shared}

theorem lt_tupInts {l b : Addr} {items items2 : Array Value} {ns ms : List Int} {Q : Value → Shared → Prop} (hl : IsTup s.heap l items) (hb : IsTup s.heap b items2) (hi : IntsAre items.toList ns) (hj : IntsAre items2.toList ms)
    (hu : A.units < cLine) (h : Q (.bool (lexLt ns ms)) s) : wpAny (model prog w) A (compareOp .Lt (.ref l) (.ref b)) Q E s := by
  obtain ⟨⟨cls, dd, data, sl⟩, ho, hc, n, hd⟩ := id hl
  obtain ⟨⟨cls2, dd2, data2, sl2⟩, ho2, hc2, n2, hd2⟩ := id hb
  simp only at hc hd hc2 hd2
  subst hc hd hc2 hd2
  exact richCompare_meets_room (op := .Lt) ⟨_, ho, rfl⟩ ⟨_, ho2, rfl⟩ PySem.F.slot_tuple_lt PySem.F.entry_tuple_lt (PySem.F.args_tuple_lt_2 _ _) (tuple_lt_ints l b items items2 n n2 dd dd2 sl sl2 ns ms hi hj)
    ⟨ho, ho2, show Value.bool (lexLt ns ms) ≠ Value.notImplemented ∧ Q (.bool (lexLt ns ms)) s from ⟨(fun x => nomatch x), h⟩⟩ hu

/-- t + u, t not empty -/
theorem cat_tup {t b : Addr} {vs ws : List Value} {Q : Value → Shared → Prop} (ht : IsTup s.heap t vs.toArray) (hb : IsTup s.heap b ws.toArray) (hv : vs ≠ [])
    (h1 : ws = [] → Q (.ref t) s) (h2 : ws ≠ [] → Q (.ref s.heap.objs.size) { s with heap := s.heap.push { cls := .type "tuple", data := .seq (vs ++ ws).toArray } })
    (hsz : vs.length + ws.length ≤ sizeLine) : wpAny (model prog w) A (binaryOp .Add (.ref t) (.ref b)) Q E s := by
  obtain ⟨⟨cls, dd, data, sl⟩, ho, hc, n, hd⟩ := id ht
  obtain ⟨⟨cls2, dd2, data2, sl2⟩, ho2, hc2, n2, hd2⟩ := id hb
  simp only at hc hd hc2 hd2
  subst hc hd hc2 hd2
  have e : vs.toArray ++ ws.toArray = (vs ++ ws).toArray := by simp
  by_cases hw : ws = []
  · exact concat_meets ⟨_, ho, rfl⟩ ⟨_, ho2, rfl⟩ noFill_tuple_add seq_tuple_add PySem.F.slot_tuple_add PySem.F.entry_tuple_add (PySem.F.args_tuple_add_2 _ _)
      (tuple_addW1 t b vs.toArray ws.toArray n n2 dd dd2 sl sl2 (by simpa using hv) (by simp [hw])) ⟨ho, ho2, h1 hw⟩
  · refine concat_meets ⟨_, ho, rfl⟩ ⟨_, ho2, rfl⟩ noFill_tuple_add seq_tuple_add PySem.F.slot_tuple_add PySem.F.entry_tuple_add (PySem.F.args_tuple_add_2 _ _)
      (tuple_addW2 t b vs.toArray ws.toArray n n2 dd dd2 sl sl2 (by simpa using hv) (by simpa using hw) (by rw [List.size_toArray, List.size_toArray]; exact hsz)) ⟨ho, ho2, ?_⟩
    rw [e]
    exact h2 hw

/-! ### t[a:b], not the whole -/
/-- a slice's bound as a place among n (d where it is left out) -/
def sIx (n d : Nat) : Option Int → Nat
  | none => d
  | some v => if v < 0 then (v + (n : Int)).toNat else min v.toNat n
theorem sIx_none (n d : Nat) : sIx n d none = d := rfl
theorem sIx_nat (n d k : Nat) : sIx n d (some (k : Int)) = min k n := by
  show (if (k : Int) < 0 then ((k : Int) + (n : Int)).toNat else min (k : Int).toNat n) = min k n
  rw [if_neg (by omega), Int.toNat_natCast]
theorem sIx_le (n d : Nat) (hd : d ≤ n) (o : Option Int) : sIx n d o ≤ n := by
  cases o with
  | none => exact hd
  | some v =>
    show (if v < 0 then (v + (n : Int)).toNat else min v.toNat n) ≤ n
    by_cases hv : v < 0
    · rw [if_pos hv]; omega
    · rw [if_neg hv]; exact Nat.min_le_right _ _
theorem clip_eq (v : Int) (n d : Nat) : (if v < 0 then max (v + (n : Int)) 0 else min v (n : Int)) = ((sIx n d (some v) : Nat) : Int) := by
  show (if v < 0 then max (v + (n : Int)) 0 else min v (n : Int)) = (((if v < 0 then (v + (n : Int)).toNat else min v.toNat n) : Nat) : Int)
  by_cases hv : v < 0
  · simp only [if_pos hv]; omega
  · simp only [if_neg hv]; omega
theorem adjust_gen (lo hi : Option Int) (n : Nat) : Builtin.Slice.sliceAdjust lo hi 1 (n : Int) = (((sIx n 0 lo : Nat) : Int), ((sIx n n hi : Nat) : Int)) := by
  have h1 : ¬ ((1 : Int) < 0) := by omega
  unfold Builtin.Slice.sliceAdjust
  simp only [h1, if_false]
  refine Prod.ext ?_ ?_
  · cases lo with
    | none => rfl
    | some v => exact clip_eq v n 0
  · cases hi with
    | none => rfl
    | some v => exact clip_eq v n n
theorem places_gen (i j : Nat) : Builtin.Slice.slicePlaces (i : Int) (j : Int) 1 = j - i := by
  unfold Builtin.Slice.slicePlaces
  have h1 : (1 : Int) > 0 := by omega
  simp only [h1, if_true, Int.ediv_one]
  split <;> omega
theorem slicePart_ {v : Value} {o : Option Int} {Q : Option Int → Shared → Prop} (p : IsPart v o) (h : Q o s) : wpAny (model prog w) A (Builtin.Slice.slicePartIndex v) Q E s := by
  cases p with
  | none => exact slicePart_none h
  | int i t => exact slicePart_int h
theorem sliceApplied_gen {sl : Addr} {vl vu : Value} {lo hi : Option Int} {n : Nat} {Q : Int × Int × Nat → Shared → Prop} (hs : s.heap.IsSliceOf sl vl vu .none) (pl : IsPart vl lo) (pu : IsPart vu hi)
    (h : Q (((sIx n 0 lo : Nat) : Int), 1, sIx n n hi - sIx n 0 lo) s) : wpAny (model prog w) A (Builtin.Slice.sliceApplied (.ref sl) (pure (n : Int))) Q E s := by
  obtain ⟨os, hos, hcs, hds⟩ := id hs
  unfold Builtin.Slice.sliceApplied Builtin.Slice.sliceFields
  refine wpAny_bind (wpAny_bind (wpAny_field hos hds (x := vl) rfl (wpAny_bind (wpAny_field hos hds (x := vu) rfl (wpAny_bind (wpAny_field hos hds (x := .none) rfl (wpAny_pure ?_)))))))
  refine wpAny_bind (slicePart_none ?_)
  show wpAny _ _ (if ((1 : Int) == 0) = true then _ else _) _ _ s
  rw [if_neg (by decide)]
  refine wpAny_bind (slicePart_ pl (wpAny_bind (slicePart_ pu (wpAny_bind (wpAny_pure ?_)))))
  show wpAny _ _ (match Builtin.Slice.sliceAdjust lo hi 1 (n : Int) with | (lo, hi) => pure (lo, (1 : Int), Builtin.Slice.slicePlaces lo hi 1)) _ _ s
  rw [adjust_gen lo hi n]
  show wpAny _ _ (pure (((sIx n 0 lo : Nat) : Int), (1 : Int), Builtin.Slice.slicePlaces ((sIx n 0 lo : Nat) : Int) ((sIx n n hi : Nat) : Int) 1)) _ _ s
  rw [places_gen]
  exact wpAny_pure h
theorem pick_gen (xs : Array Value) (i k : Nat) : ((List.range k).filterMap fun (m : Nat) => xs[((i : Int) + (m : Int) * 1).toNat]?).toArray = ((xs.toList.drop i).take k).toArray := by
  have e : (fun (m : Nat) => xs[((i : Int) + (m : Int) * 1).toNat]?) = fun m => xs[i + m]? := by
    funext m
    have : ((i : Int) + (m : Int) * 1).toNat = i + m := by omega
    rw [this]
  rw [e]
  have := pick_run xs i k
  rw [List.filterMap_map] at this
  have e2 : ((fun x => xs[x]?) ∘ fun x => i + x) = fun m => xs[i + m]? := rfl
  rw [e2] at this
  rw [this]

theorem getItem_tuple_cut {t sl : Addr} {items : Array Value} {vl vu : Value} {lo hi : Option Int} {Q : Value → Shared → Prop} (ht : IsTup s.heap t items) (hs : s.heap.IsSliceOf sl vl vu .none) (pl : IsPart vl lo) (pu : IsPart vu hi)
    (hw : ¬ (sIx items.size 0 lo = 0 ∧ sIx items.size items.size hi = items.size))
    (h : Q (.ref s.heap.objs.size) { s with heap := s.heap.push { cls := .type "tuple", data := .seq ((items.toList.drop (sIx items.size 0 lo)).take (sIx items.size items.size hi - sIx items.size 0 lo)).toArray } })
    (hsz : items.size ≤ sizeLine) : wpAny (model prog w) A (getItem (.ref t) (.ref sl)) Q E s := by
  have htake : sizeOk (.seq ((items.toList.drop (sIx items.size 0 lo)).take (sIx items.size items.size hi - sIx items.size 0 lo)).toArray) := by
    show ((items.toList.drop (sIx items.size 0 lo)).take (sIx items.size items.size hi - sIx items.size 0 lo)).toArray.size ≤ sizeLine
    rw [List.size_toArray, List.length_take, List.length_drop, Array.length_toList]
    omega
  have hj : sIx items.size items.size hi ≤ items.size := sIx_le _ _ (Nat.le_refl _) hi
  obtain ⟨os, hos, hcs, hds⟩ := id hs
  have hTs : s.TypeIs (.ref sl) "slice" := ⟨os, hos, hcs⟩
  unfold getItem
  try with_reducible refine wpAny_holding ?_
  first | refine wpAny_bind (wpAny_pure ?_) | skip
  refine wpAny_bind (wpAny_sequenceKey ht.typeIs (by decide) ?_)
  refine wpAny_bind (wpAny_callSpecial?_slot (name := Str.ofString "__getitem__") ht.typeIs PyProof.Rows.slot_tuple_getitem
    (wpAny_call_entry PyProof.Rows.slot_tuple_getitem ht.typeIs entry_tuple_getitem ?_ (args_tuple_getitem _ _)))
  show wpAny _ _ (Builtin.Tuple.tupleItemsOf (.ref t) >>= _) _ _ s
  refine wpAny_bind (tupleItemsOf_ ht ?_)
  refine wpAny_bind (wpAny_typeOf hTs ?_)
  rw [if_pos (by decide)]
  refine wpAny_bind (sliceApplied_gen hs pl pu ?_)
  have hno : ¬ ((((sIx items.size 0 lo : Nat) : Int) == 0 && (1 : Int) == 1 && (sIx items.size items.size hi - sIx items.size 0 lo) == items.size) = true) := by
    intro q
    rw [Bool.and_eq_true, Bool.and_eq_true] at q
    have q1 : ((sIx items.size 0 lo : Nat) : Int) = 0 := eq_of_beq q.1.1
    have q2 : sIx items.size items.size hi - sIx items.size 0 lo = items.size := eq_of_beq q.2
    exact hw ⟨by omega, by omega⟩
  show wpAny _ _ (if (((sIx items.size 0 lo : Nat) : Int) == 0 && (1 : Int) == 1 && (sIx items.size items.size hi - sIx items.size 0 lo) == items.size) = true then _ else _) _ _ s
  rw [if_neg hno, pick_gen]
  first
    | exact wpAny_bind (m := Builtin.Tuple.tupleExact _) (wpAny_newObj_type (wpAny_pure ⟨_, rfl, wpAny_pure h⟩) htake)
    | exact wpAny_bind (m := Builtin.Tuple.tupleExact _) (wpAny_newObj_type (wpAny_bind (wpAny_pure (wpAny_pure ⟨_, rfl, wpAny_pure h⟩))) htake)
    | exact wpAny_bind (wpAny_bind (m := Builtin.Tuple.tupleExact _) (wpAny_newObj_type (wpAny_pure (wpAny_pure ⟨_, rfl, wpAny_pure h⟩)) htake))
    | exact wpAny_bind (wpAny_bind (m := Builtin.Tuple.tupleExact _) (wpAny_newObj_type (wpAny_pure ⟨_, rfl, wpAny_pure h⟩) htake))
end
end HT

namespace L2
open PySem PySem.Spec PyProof.Rows

/-! ### the parts of a slice -/
abbrev TO := St → Hp → (Option Int → Hp → Prop) → Prop
/-- a slice's part (left out, or an int) -/
def PO (X : Cx) (e : Option Expr) (t : TO) : Prop :=
  ∀ (pins : List (Addr × Obj)) (s : Shared) (σ : St) (H : Hp) (Q : Option Int → Hp → Prop), Inv X pins σ H s → t σ H Q →
    wpAny (model X.prog X.w) X.A (evalPart e X.env) (fun u s' => ∃ o H', Inv X pins σ H' s' ∧ IsPart u o ∧ Q o H') X.xe s
def tNoPart : TO := fun _ H Q => Q none H
def tPart (t : TE) : TO := fun σ H Q => t σ H fun x H1 => ∃ i, x = .int i ∧ Q (some i) H1

theorem intsAre_of {ns : List Int} : ∀ {us : List Value}, Vals (ns.map V.int) us → IntsAre us ns := by
  induction ns with
  | nil => intro us r; rw [List.map_nil] at r; cases r; exact .nil
  | cons n ns ih =>
    intro us r
    rw [List.map_cons] at r
    cases r with
    | cons r1 r2 =>
      obtain ⟨t, e⟩ := r1
      subst e
      exact .cons n t (ih r2)

section
variable {X : Cx} {e : Expr} {te : TE} {lo hi : Option Expr} {tl th : TO} {pos p2 : Pos}

theorem po_none : PO X none tNoPart := by
  intro pins s σ H Q I h
  rw [evalPart_none]
  exact wpAny_pure ⟨none, H, I, .none, h⟩
theorem po_some (h : PE X e te) : PO X (some e) (tPart te) := by
  intro pins s σ H Q I hw
  rw [evalPart_some]
  refine thn (h pins s σ H _ I hw) fun u s1 ⟨x, H1, I1, r1, q1⟩ => ?_
  obtain ⟨i, rfl, q⟩ := q1
  obtain ⟨t, rfl⟩ := r1
  exact ⟨some i, H1, I1, .int i t, q⟩

/-- what a slice of a value is, by values: the slice object stands at sl -/
def SlR (X : Cx) (r : V → Option Int → Option Int → Hp → VK → Prop) : Prop :=
  ∀ (pins : List (Addr × Obj)) (s : Shared) (σ : St) (H : Hp) (x : V) (v vl vu : Value) (lo hi : Option Int) (sl : Addr) (Q : VK), Inv X pins σ H s → RelV x v → s.heap.IsSliceOf sl vl vu .none → IsPart vl lo → IsPart vu hi → r x lo hi H Q →
    ∃ T id, typeLookup (.type T) "__getitem__" = pure (some (.builtin id)) ∧ s.TypeIs v T ∧ wpAny (model X.prog X.w) X.A (getItem v (.ref sl)) (EP X pins σ Q) X.xe s
theorem SlR.or {r r' : V → Option Int → Option Int → Hp → VK → Prop} (h : SlR X r) (h' : SlR X r') : SlR X (fun x lo hi H Q => r x lo hi H Q ∨ r' x lo hi H Q) := by
  intro pins s σ H x v vl vu lo hi sl Q I rx hs pl pu q
  rcases q with q | q
  · exact h pins s σ H x v vl vu lo hi sl Q I rx hs pl pu q
  · exact h' pins s σ H x v vl vu lo hi sl Q I rx hs pl pu q
def tSl (r : V → Option Int → Option Int → Hp → VK → Prop) (te : TE) (tl th : TO) : TE := fun σ H Q => te σ H fun x H1 => tl σ H1 fun l H2 => th σ H2 fun u H3 => r x l u H3 Q
/-- a[lo:hi], any a -/
theorem pe_slice {r : V → Option Int → Option Int → Hp → VK → Prop} (hr : SlR X r) (he : PE X e te) (hl : PO X lo tl) (hu : PO X hi th) : PE X (.Subscript e (.Slice lo hi none p2) pos) (tSl r te tl th) := by
  intro pins s σ H Q I h
  refine Subscript_ (thn (he pins s σ H _ I h) fun v s1 ⟨x, H1, I1, r1, q1⟩ => ?_)
  refine wpAny_Slice (thn (hl pins s1 σ H1 _ I1 q1) fun vl s2 ⟨l, H2, I2, pl, q2⟩ => thn (hu pins s2 σ H2 _ I2 q2) fun vu s3 ⟨u, H3, I3, pu, q3⟩ => ?_)
  rw [evalPart_none]
  refine wpAny_pure ?_
  have I4 : Inv X pins σ H3 { s3 with heap := s3.heap.push { cls := .type "slice", data := .fields #[vl, vu, .none] } } := I3.kept (t' := s3.toks) fun b ob q => Heap.get?_push_of_some _ q
  obtain ⟨T, id, hT, ht, hg⟩ := hr pins { s3 with heap := s3.heap.push { cls := .type "slice", data := .fields #[vl, vu, .none] } } σ H3 x v vl vu l u s3.heap.objs.size Q I4 r1 (Heap.IsSliceOf.new ..) pl pu q3
  show wpAny (model X.prog X.w) X.A (subscriptTail e (.Slice lo hi none p2) v (.ref s3.heap.objs.size)) (EP X pins σ Q) X.xe { s3 with heap := s3.heap.push { cls := .type "slice", data := .fields #[vl, vu, .none] } }
  exact tail_any (ops := [.ref s3.heap.objs.size, v]) ht hT hg (by with_unfolding_all rfl)

/-- the items of xs[lo:hi] -/
def cutV (xs : List V) (lo hi : Option Int) : List V := (xs.drop (HT.sIx xs.length 0 lo)).take (HT.sIx xs.length xs.length hi - HT.sIx xs.length 0 lo)
theorem cutV_length (xs : List V) (lo hi : Option Int) : (cutV xs lo hi).length ≤ xs.length := by
  unfold cutV
  rw [List.length_take, List.length_drop]
  omega
/-- t[lo:hi], not the whole of it (the whole would be t itself) -/
def rSlT (K : PySem.W.Frag) : V → Option Int → Option Int → Hp → VK → Prop := fun x lo hi H Q => ∃ a xs, x = .ref a ∧ SqT K H a xs ∧
  ¬ (HT.sIx xs.length 0 lo = 0 ∧ HT.sIx xs.length xs.length hi = xs.length) ∧ ∀ p, H p = none → Q (.ref p) (upd H p (.tup (cutV xs lo hi)))
theorem sl_tup : SlR X (rSlT X.K) := by
  intro pins s σ H x v vl vu lo hi sl Q I rx hs pl pu h
  obtain ⟨a, xs, rfl, hx, hw, q⟩ := h
  cases rx
  obtain ⟨its, r, ht, hz⟩ := I.tuple hx
  have hlen : its.toArray.size = xs.length := by rw [List.size_toArray]; exact r.length.symm
  refine ⟨"tuple", _, PyProof.Rows.slot_tuple_getitem.lookup, ht.typeIs, ?_⟩
  refine HT.getItem_tuple_cut ht hs pl pu (by rw [hlen]; exact hw) ?_ (by rw [hlen]; exact hz)
  rw [hlen]
  refine ⟨.ref s.heap.objs.size, _, I.laid (t' := s.toks) (o := .tup (cutV xs lo hi)) (fun b ob q => Heap.get?_push_of_some _ q) (Nat.le_refl _) ?_, rfl, q _ (I.hok.fresh (Nat.le_refl _))⟩
  exact ⟨Nat.le_trans (cutV_length xs lo hi) hz, _, (r.drop (HT.sIx xs.length 0 lo)).take (HT.sIx xs.length xs.length hi - HT.sIx xs.length 0 lo), IsTup.new _ _⟩

/-! ### t < u, t + u -/
def rLtT (K : PySem.W.Frag) : R2 := fun x y H Q => ∃ a b ns ms, x = .ref a ∧ y = .ref b ∧ SqT K H a (ns.map V.int) ∧ SqT K H b (ms.map V.int) ∧ Q (.bl (HT.lexLt ns ms)) H
theorem op_ltT (hu : X.A.units < cLine) : OpR X (compareOp .Lt) (rLtT X.K) := by
  intro pins s σ H x y v u Q I rx ry h
  obtain ⟨a, b, ns, ms, rfl, rfl, ha, hb, q⟩ := h
  cases rx
  cases ry
  obtain ⟨its, r1, p1, _⟩ := I.tuple ha
  obtain ⟨its2, r2, p2, _⟩ := I.tuple hb
  have i1 : IntsAre its.toArray.toList ns := intsAre_of r1
  have i2 : IntsAre its2.toArray.toList ms := intsAre_of r2
  exact HT.lt_tupInts p1 p2 i1 i2 hu ⟨.bl (HT.lexLt ns ms), H, I, rfl, q⟩
/-- t + u, t not empty: u empty gives t itself -/
def rCatT (K : PySem.W.Frag) : R2 := fun x y H Q => ∃ a b xs ys, x = .ref a ∧ y = .ref b ∧ SqT K H a xs ∧ SqT K H b ys ∧ xs ≠ [] ∧ xs.length + ys.length ≤ sizeLine ∧
  (ys = [] → Q (.ref a) H) ∧ (ys ≠ [] → ∀ p, H p = none → Q (.ref p) (upd H p (.tup (xs ++ ys))))
theorem Vals.nil_iff {xs : List V} {us : List Value} (r : Vals xs us) : us = [] ↔ xs = [] := by
  cases r with
  | nil => simp
  | cons _ _ => simp
theorem op_catT : OpR X (binaryOp .Add) (rCatT X.K) := by
  intro pins s σ H x y v u Q I rx ry h
  obtain ⟨a, b, xs, ys, rfl, rfl, ha, hb, hx, hz, q1, q2⟩ := h
  cases rx
  cases ry
  obtain ⟨its, r1, p1, _⟩ := I.tuple ha
  obtain ⟨its2, r2, p2, _⟩ := I.tuple hb
  refine HT.cat_tup p1 p2 (fun z => hx (r1.nil_iff.mp z)) (fun z => ⟨.ref a, H, I, rfl, q1 (r2.nil_iff.mp z)⟩) (fun z => ?_) (by rw [← r1.length, ← r2.length]; exact hz)
  refine ⟨.ref s.heap.objs.size, _, I.laid (t' := s.toks) (o := .tup (xs ++ ys)) (fun b ob q => Heap.get?_push_of_some _ q) (Nat.le_refl _) ?_, rfl, q2 (fun w => z (r2.nil_iff.mpr w)) _ (I.hok.fresh (Nat.le_refl _))⟩
  exact ⟨by rw [List.length_append]; exact hz, _, r1.append r2, IsTup.new _ _⟩
/-- tuple(t) -/
theorem call_tupleT : CallR X (.type "tuple") (fun xs H Q => ∃ a ys, xs = [.ref a] ∧ SqT X.K H a ys ∧ Q (.ref a) H) := by
  intro pins s σ H xs us Q I r h
  obtain ⟨a, ys, rfl, ha, q⟩ := h
  obtain ⟨u, rfl, ru⟩ := vals1 r
  cases ru
  obtain ⟨its, _, p1, _⟩ := I.tuple ha
  exact call_tuple_same (items := its.toArray) p1 ⟨.ref a, H, I, rfl, q⟩
end
end L2

namespace L2
open PySem PySem.Spec PyProof.Rows

/-! ### places -/
/-- the place that an index of any sign means -/
def ixN (n : Nat) (i : Int) : Option Nat := if 0 ≤ i then (if i < n then some i.toNat else none) else if -(n : Int) ≤ i then some (i + n).toNat else none
def atI {α : Type} (xs : List α) (i : Int) : Option α := (ixN xs.length i).bind fun j => xs[j]?
theorem ixN_seq {n : Nat} {i : Int} {j : Nat} (h : ixN n i = some j) : seqIndex? i n = some j ∧ j < n ∧ -(n : Int) ≤ i ∧ i < n := by
  unfold ixN at h
  by_cases h0 : 0 ≤ i
  · rw [if_pos h0] at h
    by_cases h1 : i < n
    · rw [if_pos h1] at h
      have e : i.toNat = j := Option.some.inj h
      exact ⟨by rw [seqIndex_of h0 h1, e], by omega, by omega, h1⟩
    · rw [if_neg h1] at h; cases h
  · rw [if_neg h0] at h
    by_cases h1 : -(n : Int) ≤ i
    · rw [if_pos h1] at h
      have e : (i + n).toNat = j := Option.some.inj h
      exact ⟨by rw [seqIndex_neg (by omega) h1, e], by omega, h1, by omega⟩
    · rw [if_neg h1] at h; cases h
theorem atI_get {α : Type} {xs : List α} {i : Int} {v : α} (h : atI xs i = some v) : ∃ j, seqIndex? i xs.length = some j ∧ xs[j]? = some v ∧ j < xs.length ∧ -(xs.length : Int) ≤ i ∧ i < xs.length := by
  unfold atI at h
  cases e : ixN xs.length i with
  | none => rw [e] at h; cases h
  | some j =>
    rw [e] at h
    obtain ⟨h1, h2, h3, h4⟩ := ixN_seq e
    exact ⟨j, h1, h, h2, h3, h4⟩
theorem atI_nat {α : Type} {xs : List α} {j : Nat} {v : α} (h : xs[j]? = some v) : atI xs (j : Int) = some v := by
  have hj : j < xs.length := (List.getElem?_eq_some_iff.mp h).1
  have e : ixN xs.length (j : Int) = some j := by
    unfold ixN
    rw [if_pos (by omega), if_pos (by omega)]; simp
  unfold atI; rw [e]; exact h
theorem atI_last {α : Type} (xs : List α) (v : α) : atI (xs ++ [v]) (-1) = some v := by
  have hl : (xs ++ [v]).length = xs.length + 1 := by simp
  have e : ixN (xs ++ [v]).length (-1) = some xs.length := by
    unfold ixN
    rw [hl, if_neg (by decide), if_pos (by omega)]
    congr 1
    omega
  unfold atI
  rw [e]
  show (xs ++ [v])[xs.length]? = some v
  simp

/-! ### what may be subscripted -/
/-- what stands as an index of a plain subscript -/
def PlainIx (b : Expr) : Prop := ∀ o i, subscripted b false o i = operate [o, i] (getItem o i)
/-- a subscript by values -/
def IxR (X : Cx) (r : R2) : Prop :=
  ∀ (value slice : Expr) (pins : List (Addr × Obj)) (s : Shared) (σ : St) (H : Hp) (x y : V) (v u : Value) (Q : VK), Inv X pins σ H s → RelV x v → RelV y u → r x y H Q →
    subscripted slice false v u = operate [v, u] (getItem v u) → wpAny (model X.prog X.w) X.A (subscriptTail value slice v u) (EP X pins σ Q) X.xe s
/-- a call of a builtin's method by values: the receiver, the arguments -/
def MtR (X : Cx) (id : String) (r : V → List V → Hp → VK → Prop) : Prop :=
  ∀ (pins : List (Addr × Obj)) (s : Shared) (σ : St) (H : Hp) (x : V) (xs : List V) (v : Value) (us : List Value) (Q : VK), Inv X pins σ H s → RelV x v → Vals xs us → r x xs H Q →
    wpAny (model X.prog X.w) X.A (call (.builtin id) (v :: us)) (EP X pins σ Q) X.xe s
section
variable {X : Cx} {a b : Expr} {ta tb : TE} {pos : Pos}
theorem IxR.or {r r' : R2} (h : IxR X r) (h' : IxR X r') : IxR X (fun x y H Q => r x y H Q ∨ r' x y H Q) := by
  intro value slice pins s σ H x y v u Q I rx ry q hs
  rcases q with q | q
  · exact h value slice pins s σ H x y v u Q I rx ry q hs
  · exact h' value slice pins s σ H x y v u Q I rx ry q hs
theorem MtR.or {id : String} {r r' : V → List V → Hp → VK → Prop} (h : MtR X id r) (h' : MtR X id r') : MtR X id (fun x xs H Q => r x xs H Q ∨ r' x xs H Q) := by
  intro pins s σ H x xs v us Q I rx rs q
  rcases q with q | q
  · exact h pins s σ H x xs v us Q I rx rs q
  · exact h' pins s σ H x xs v us Q I rx rs q
/-- a[b] -/
theorem pe_ix {r : R2} (hr : IxR X r) (ha : PE X a ta) (hb : PE X b tb) (hs : PlainIx b) : PE X (.Subscript a b pos) (tOp r ta tb) := by
  intro pins s σ H Q I h
  exact Subscript_ (binT ha hb I h fun v u s2 x y H2 I2 rx ry q => hr a b pins s2 σ H2 x y v u Q I2 rx ry q (hs _ _))

def rIxL (K : PySem.W.Frag) : R2 := fun x y H Q => ∃ p xs i v, x = .ref p ∧ y = .int i ∧ SqL K H p xs ∧ atI xs i = some v ∧ Q v H
def rIxT (K : PySem.W.Frag) : R2 := fun x y H Q => ∃ p xs i v, x = .ref p ∧ y = .int i ∧ SqT K H p xs ∧ atI xs i = some v ∧ Q v H
def rIxS : R2 := fun x y H Q => ∃ z i c, x = .str z ∧ y = .int i ∧ z.length ≤ sizeLine ∧ atI z.cps.toList i = some c ∧ Q (.str ⟨#[c]⟩) H
theorem ix_list : IxR X (rIxL X.K) := by
  intro value slice pins s σ H x y v u Q I rx ry h hs
  obtain ⟨p, xs, i, z, rfl, rfl, hq, he, q⟩ := h
  cases rx
  obtain ⟨t, rfl⟩ := ry
  obtain ⟨its, r, pl, hz⟩ := I.list hq
  obtain ⟨j, h1, h2, h3, h4, h5⟩ := atI_get he
  obtain ⟨w, ew, rw'⟩ := r.get h2
  have hl := r.length
  have hn := line63
  have fin : EP X pins σ Q w s := ⟨z, H, I, rw', q⟩
  by_cases h0 : 0 ≤ i
  · have hj : i.toNat = j := by
      rw [seqIndex_of h0 h5] at h1
      exact Option.some.inj h1
    exact item_listR pl.isList h0 (by omega) (by rw [hj]; simpa using ew) fin hs
  · have hj : (i + (its.toArray.size : Int)).toNat = j := by
      rw [seqIndex_neg (by omega) h4] at h1
      rw [List.size_toArray, ← hl]
      exact Option.some.inj h1
    exact subscriptTail_builtinR (x := w) pl.isList.typeIs slot_list_getitem.lookup
      (wpAny_getItem_list_neg (Q := fun r s' => r = w ∧ EP X pins σ Q r s') pl.isList (by omega) (by rw [List.size_toArray] <;> omega) (by omega) (by rw [hj]; simpa using ew) ⟨rfl, fin⟩) hs
theorem ix_tup : IxR X (rIxT X.K) := by
  intro value slice pins s σ H x y v u Q I rx ry h hs
  obtain ⟨p, xs, i, z, rfl, rfl, hq, he, q⟩ := h
  cases rx
  obtain ⟨t, rfl⟩ := ry
  obtain ⟨its, r, pl, hz⟩ := I.tuple hq
  obtain ⟨j, h1, h2, h3, h4, h5⟩ := atI_get he
  obtain ⟨w, ew, rw'⟩ := r.get h2
  have hl := r.length
  have hn := line63
  have fin : EP X pins σ Q w s := ⟨z, H, I, rw', q⟩
  exact subscriptTail_builtinR (x := w) pl.typeIs slot_tuple_getitem.lookup
    (getItem_tuple (j := j) (Q := fun r s' => r = w ∧ EP X pins σ Q r s') pl (by omega) (by omega) (by rw [List.size_toArray, ← hl]; exact h1) (by simpa using ew) ⟨rfl, fin⟩) hs
theorem ix_str : IxR X rIxS := by
  intro value slice pins s σ H x y v u Q I rx ry h hs
  obtain ⟨z, i, c, rfl, rfl, hz, he, q⟩ := h
  obtain ⟨t, rfl⟩ := rx
  obtain ⟨t', rfl⟩ := ry
  obtain ⟨j, h1, h2, h3, h4, h5⟩ := atI_get he
  have hl : z.cps.toList.length = z.length := by simp [Str.length]
  rw [hl] at h1 h4 h5
  have hn := line63
  exact tail_any (typeIs_str s z t) slot_str_getitem.lookup (getItem_str (c := c) (by
    have e1 : decide (i < -(2 ^ 63 : Int)) = false := decide_eq_false (by omega)
    have e2 : decide (i ≥ 2 ^ 63) = false := decide_eq_false (by omega)
    rw [e1, e2, Bool.or_false]) (by rw [h1]; simpa using h2) ⟨.str ⟨#[c]⟩, H, I.tok _, ⟨_, rfl⟩, q⟩) hs
/-- list, tuple or str -/
def rIx (K : PySem.W.Frag) : R2 := fun x y H Q => rIxL K x y H Q ∨ rIxT K x y H Q ∨ rIxS x y H Q
theorem ix_seq : IxR X (rIx X.K) := ix_list.or (ix_tup.or ix_str)

/-! ### xs[i] = v, any sign -/
/-- the list's object behind a store -/
theorem mapSeq_set (its : List Value) (n j : Nat) (u : Value) : Obj.mapSeq (·.setIfInBounds j u) { cls := .type "list", data := .seq its.toArray n } = { cls := .type "list", data := .seq (its.set j u).toArray n } := by
  simp [Obj.mapSeq]
theorem Inv.lst {pins : List (Addr × Obj)} {σ : St} {H : Hp} {s : Shared} {p : Addr} {xs : List V} (I : Inv X pins σ H s) (h : H p = some (.lst xs)) :
    ∃ (its : List Value) (n : Nat), Vals xs its ∧ s.heap.get? p = some { cls := .type "list", data := .seq its.toArray n } ∧ xs.length ≤ sizeLine := by
  obtain ⟨z, its, n, r, e⟩ := I.hok p _ h
  exact ⟨its, n, r, e, z⟩
/-- the list at p is written by an update of its object -/
theorem Inv.lstUpd {pins : List (Addr × Obj)} {σ : St} {H : Hp} {s : Shared} {p : Addr} {xs ys : List V} {its its' : List Value} {n n' : Nat} {f : Obj → Obj} (I : Inv X pins σ H s) (h : H p = some (.lst xs))
    (ho : s.heap.get? p = some { cls := .type "list", data := .seq its.toArray n }) (hf : f { cls := .type "list", data := .seq its.toArray n } = { cls := .type "list", data := .seq its'.toArray n' }) (r : Vals ys its') (hz : ys.length ≤ sizeLine) (t : Nat) :
    Inv X pins σ (upd H p (.lst ys)) { s with heap := s.heap.update p f, toks := t } := by
  have e : (s.heap.update p f).get? p = some { cls := .type "list", data := .seq its'.toArray n' } := by
    rw [Heap.get?_update_self f ho (by rw [hf] <;> rfl), hf]
  refine I.write (x := p) (e := p) (by rw [h]; trivial) (.inl rfl) (fun b u hb q => (Heap.get?_update_other _ _ (Ne.symm hb)).trans q) ⟨_, e⟩ ?_
  exact ⟨hz, its', n', r, e⟩
def rSetL : V → V → V → Hp → (Hp → Prop) → Prop := fun o i v H Q => ∃ p xs k j, o = .ref p ∧ i = .int k ∧ H p = some (.lst xs) ∧ ixN xs.length k = some j ∧ Q (upd H p (.lst (xs.set j v)))
theorem set_list : PSet X rSetL := by
  intro pins s σ H o i v ov iv u Q I ro ri rv h
  obtain ⟨p, xs, k, j, rfl, rfl, hp, hj, q⟩ := h
  cases ro
  obtain ⟨t, rfl⟩ := ri
  obtain ⟨its, n, r, ho, hz⟩ := I.lst hp
  obtain ⟨h1, h2, h3, h4⟩ := ixN_seq hj
  have hl := r.length
  have hn := line63
  have I' : Inv X pins σ (upd H p (.lst (xs.set j v))) { s with heap := s.heap.update p (Obj.mapSeq (·.setIfInBounds j u)) } :=
    I.lstUpd hp ho (mapSeq_set its n j u) (r.set rv j) (by rw [List.length_set]; exact hz) s.toks
  by_cases h0 : 0 ≤ k
  · have hk : k.toNat = j := by
      rw [seqIndex_of h0 h4] at h1
      exact Option.some.inj h1
    exact PySem.W.ki_setAt ho h0 (by omega) (by rw [List.size_toArray, ← hl]; exact h4) (by rw [hk]; exact ⟨_, I', q⟩)
  · have hk : (k + (its.toArray.size : Int)).toNat = j := by
      rw [seqIndex_neg (by omega) h3] at h1
      rw [List.size_toArray, ← hl]
      exact Option.some.inj h1
    exact PySem.W.ki_setBack ho (by omega) (by rw [List.size_toArray, ← hl]; exact h3) (by omega) (by rw [hk]; exact ⟨_, I', q⟩)

/-! ### slices -/
theorem slice_bounds (lo hi : Option Int) (n : Nat) : (sliceBounds lo hi none n).1 = ((HT.sIx n 0 lo : Nat) : Int) ∧ (sliceBounds lo hi none n).2.1 = ((HT.sIx n n hi : Nat) : Int) ∧ (sliceBounds lo hi none n).2.2 = 1 := by
  refine ⟨?_, ?_, rfl⟩
  · cases lo with
    | none => simp [sliceBounds, HT.sIx]
    | some i =>
      simp only [sliceBounds, HT.sIx, Option.getD_none, show (1 : Int) > 0 by decide, if_true]
      by_cases h : i < 0
      · simp only [h, if_true] <;> omega
      · simp only [h, if_false] <;> omega
  · cases hi with
    | none => simp [sliceBounds, HT.sIx]
    | some i =>
      simp only [sliceBounds, HT.sIx, Option.getD_none, show (1 : Int) > 0 by decide, if_true]
      by_cases h : i < 0
      · simp only [h, if_true] <;> omega
      · simp only [h, if_false] <;> omega
theorem slicePick_cut (its : List Value) (lo hi : Option Int) : slicePick its.toArray lo hi none = ((its.drop (HT.sIx its.length 0 lo)).take (HT.sIx its.length its.length hi - HT.sIx its.length 0 lo)).toArray := by
  obtain ⟨h1, h2, h3⟩ := slice_bounds lo hi its.toArray.size
  unfold slicePick
  rw [h1, h2, h3]
  simp only [sliceRange_one, pick_run, List.size_toArray] <;> rfl
/-- xs[lo:hi] of a list: a new list -/
def rSlL (K : PySem.W.Frag) : V → Option Int → Option Int → Hp → VK → Prop := fun x lo hi H Q => ∃ a xs, x = .ref a ∧ SqL K H a xs ∧ ∀ p, H p = none → Q (.ref p) (upd H p (.lst (cutV xs lo hi)))
theorem sl_list : SlR X (rSlL X.K) := by
  intro pins s σ H x v vl vu lo hi sl Q I rx hs pl pu h
  obtain ⟨a, xs, rfl, hx, q⟩ := h
  cases rx
  obtain ⟨its, r, ht, hz⟩ := I.list hx
  have hlen := r.length
  refine ⟨"list", _, slot_list_getitem.lookup, ht.isList.typeIs, ?_⟩
  refine wpAny_getItem_list_slice ht.isList hs pl pu .none (by simp) ?_ (by rw [List.size_toArray] <;> omega)
  rw [slicePick_cut, ← hlen]
  refine ⟨.ref s.heap.objs.size, _, I.laid (t' := s.toks) (o := .lst (cutV xs lo hi)) (fun b ob q => Heap.get?_push_of_some _ q) (Nat.le_refl _) ?_, rfl, q _ (I.hok.fresh (Nat.le_refl _))⟩
  exact ⟨Nat.le_trans (cutV_length xs lo hi) hz, _, 0, (r.drop (HT.sIx xs.length 0 lo)).take (HT.sIx xs.length xs.length hi - HT.sIx xs.length 0 lo), Heap.get?_push_size _ rfl⟩

/-! ### in, not in: flat items -/
def flatV : V → Bool
  | .non => true
  | .bl _ => true
  | .int _ => true
  | .str _ => true
  | _ => false
/-- == of flat values -/
def eqV : V → V → Bool
  | .non, .non => true
  | .bl a, .bl b => a == b
  | .bl a, .int b => (if a then 1 else 0) == b
  | .int a, .bl b => a == (if b then 1 else 0)
  | .int a, .int b => a == b
  | .str a, .str b => a == b
  | _, _ => false
theorem eqAt_V {A : Around} {s : Shared} {y x : V} {u v : Value} (ry : RelV y u) (rx : RelV x v) (fy : flatV y = true) (fx : flatV x = true) : SeqAt.EqAt A s u v (eqV y x) := by
  cases y with
  | non =>
    cases ry
    cases x with
    | non => cases rx; exact SeqAt.EqAt.same _
    | bl b => cases rx; exact SeqAt.EqAt.none_bool b
    | int b => obtain ⟨t, rfl⟩ := rx; exact SeqAt.EqAt.none_int b t
    | str b => obtain ⟨t, rfl⟩ := rx; exact SeqAt.EqAt.none_str b t
    | _ => exact absurd (show false = true from fx) Bool.false_ne_true
  | bl a =>
    cases ry
    cases x with
    | non => cases rx; exact SeqAt.EqAt.bool_none a
    | bl b => cases rx; exact SeqAt.EqAt.bool_bool a b
    | int b => obtain ⟨t, rfl⟩ := rx; exact SeqAt.EqAt.bool_int a b t
    | str b => obtain ⟨t, rfl⟩ := rx; exact SeqAt.EqAt.bool_str a b t
    | _ => exact absurd (show false = true from fx) Bool.false_ne_true
  | int a =>
    obtain ⟨t', rfl⟩ := ry
    cases x with
    | non => cases rx; exact SeqAt.EqAt.int_none a t'
    | bl b => cases rx; exact SeqAt.EqAt.int_bool a t' b
    | int b => obtain ⟨t, rfl⟩ := rx; exact SeqAt.EqAt.int_int a t' b t
    | str b => obtain ⟨t, rfl⟩ := rx; exact SeqAt.EqAt.int_str a t' b t
    | _ => exact absurd (show false = true from fx) Bool.false_ne_true
  | str a =>
    obtain ⟨t', rfl⟩ := ry
    cases x with
    | non => cases rx; exact SeqAt.EqAt.str_none a t'
    | bl b => cases rx; exact SeqAt.EqAt.str_bool a t' b
    | int b => obtain ⟨t, rfl⟩ := rx; exact SeqAt.EqAt.str_int a t' b t
    | str b => obtain ⟨t, rfl⟩ := rx; exact SeqAt.EqAt.str_str a t' b t
    | _ => exact absurd (show false = true from fx) Bool.false_ne_true
  | _ => exact absurd (show false = true from fy) Bool.false_ne_true
/-- the items' answers, read off the values (a value's own answer does not lean on its token) -/
def eqU (x : V) (u : Value) : Bool := match u with
  | .none => eqV .non x
  | .bool b => eqV (.bl b) x
  | .int i _ => eqV (.int i) x
  | .str z _ => eqV (.str z) x
  | _ => false
theorem eqU_of {x y : V} {u : Value} (r : RelV y u) (f : flatV y = true) : eqU x u = eqV y x := by
  cases y with
  | non => cases r; rfl
  | bl b => cases r; rfl
  | int i => obtain ⟨t, rfl⟩ := r; rfl
  | str z => obtain ⟨t, rfl⟩ := r; rfl
  | _ => exact absurd (show false = true from f) Bool.false_ne_true
theorem any_eqU {x : V} : ∀ {xs : List V} {us : List Value}, Vals xs us → xs.all flatV = true → us.any (eqU x) = xs.any fun y => eqV y x
  | _, _, .nil, _ => rfl
  | y :: xs, u :: us, .cons r t, f => by
    rw [List.all_cons, Bool.and_eq_true] at f
    rw [List.any_cons, List.any_cons, eqU_of r f.1, any_eqU t f.2]
theorem mem_eqAt {A : Around} {s : Shared} {x : V} {v : Value} (rx : RelV x v) (fx : flatV x = true) : ∀ {xs : List V} {us : List Value}, Vals xs us → xs.all flatV = true → ∀ u ∈ us, SeqAt.EqAt A s u v (eqU x u)
  | _, _, .nil, _ => fun u hu => by cases hu
  | y :: xs, u :: us, .cons r t, f => fun u' hu => by
    rw [List.all_cons, Bool.and_eq_true] at f
    rcases List.mem_cons.mp hu with rfl | hu
    · rw [eqU_of r f.1]; exact eqAt_V r rx f.1 fx
    · exact mem_eqAt rx fx t f.2 u' hu
def inV (x : V) (xs : List V) : Bool := xs.any fun y => eqV y x
/-- x in a list or tuple of flat items -/
def rIn (K : PySem.W.Frag) (neg : Bool) : R2 := fun x y H Q => ∃ p xs, y = .ref p ∧ (SqL K H p xs ∨ SqT K H p xs) ∧ flatV x = true ∧ xs.all flatV = true ∧ Q (.bl (if neg then !inV x xs else inV x xs)) H
theorem op_in_seq : OpR X (compareOp .In) (rIn X.K false) := by
  intro pins s σ H x y v u Q I rx ry h
  obtain ⟨p, xs, rfl, hq, fx, fs, q⟩ := h
  cases ry
  rcases hq with hq | hq
  · obtain ⟨its, r, pl, hz⟩ := I.list hq
    refine SeqAt.in_listAt (eqU x) pl.isList (fun w hw => mem_eqAt rx fx r fs w (by simpa using hw)) ⟨.bl _, H, I, rfl, ?_⟩
    rw [show its.toArray.any (eqU x) = its.any (eqU x) by simp, any_eqU r fs]
    exact q
  · obtain ⟨its, r, pl, hz⟩ := I.tuple hq
    refine SeqAt.in_tupleAt (eqU x) pl (fun w hw => mem_eqAt rx fx r fs w (by simpa using hw)) ⟨.bl _, H, I, rfl, ?_⟩
    rw [show its.toArray.any (eqU x) = its.any (eqU x) by simp, any_eqU r fs]
    exact q
theorem op_notIn_seq : OpR X (compareOp .NotIn) (rIn X.K true) := by
  intro pins s σ H x y v u Q I rx ry h
  obtain ⟨p, xs, rfl, hq, fx, fs, q⟩ := h
  cases ry
  rcases hq with hq | hq
  · obtain ⟨its, r, pl, hz⟩ := I.list hq
    refine SeqAt.notIn_listAt (eqU x) pl.isList (fun w hw => mem_eqAt rx fx r fs w (by simpa using hw)) ⟨.bl _, H, I, rfl, ?_⟩
    rw [show its.toArray.any (eqU x) = its.any (eqU x) by simp, any_eqU r fs]
    exact q
  · obtain ⟨its, r, pl, hz⟩ := I.tuple hq
    refine SeqAt.notIn_tupleAt (eqU x) pl (fun w hw => mem_eqAt rx fx r fs w (by simpa using hw)) ⟨.bl _, H, I, rfl, ?_⟩
    rw [show its.toArray.any (eqU x) = its.any (eqU x) by simp, any_eqU r fs]
    exact q
theorem op_notIn_str : OpR X (compareOp .NotIn) (fun x y H Q => ∃ i j, x = .str i ∧ y = .str j ∧ Q (.bl (!(!(Builtin.Str.occurrences j i 0 j.length 1).isEmpty))) H) := by
  intro pins s σ H x y v u Q I rx ry h
  obtain ⟨i, j, rfl, rfl, q⟩ := h
  obtain ⟨t, rfl⟩ := rx
  obtain ⟨t', rfl⟩ := ry
  exact notIn_str ⟨.bl _, H, I, rfl, q⟩

/-! ### len, list(x), tuple(x) of any list or tuple that is read -/
theorem call_len_seq : CallR X (.builtin "len") (fun xs H Q => ∃ p ys, xs = [.ref p] ∧ (SqL X.K H p ys ∨ SqT X.K H p ys) ∧ Q (.int ys.length) H) := by
  intro pins s σ H xs us Q I r h
  obtain ⟨p, ys, rfl, hq, q⟩ := h
  obtain ⟨u, rfl, rx⟩ := vals1 r
  cases rx
  have hn := line63
  rcases hq with hq | hq
  · obtain ⟨its, r', pl, hz⟩ := I.list hq
    have hlen := r'.length
    exact Calls.call_len_list pl.isList (by simp only [List.size_toArray] <;> omega) ⟨.int ys.length, H, I.tok _, ⟨s.toks + 1, by rw [List.size_toArray, hlen]⟩, q⟩
  · obtain ⟨its, r', pl, hz⟩ := I.tuple hq
    have hlen := r'.length
    exact len_tuple pl (by simp only [List.size_toArray] <;> omega) ⟨.int ys.length, H, I.tok _, ⟨s.toks + 1, by rw [List.size_toArray, hlen]⟩, q⟩
theorem call_len_str : CallR X (.builtin "len") (fun xs H Q => ∃ z, xs = [.str z] ∧ z.length ≤ sizeLine ∧ Q (.int z.length) H) := by
  intro pins s σ H xs us Q I r h
  obtain ⟨z, rfl, hz, q⟩ := h
  obtain ⟨u, rfl, t, rfl⟩ := vals1 r
  have hn := line63
  exact len_str (by omega) ⟨.int z.length, H, I.tok _, ⟨_, rfl⟩, q⟩
theorem CallR.or {f : Value} {r r' : List V → Hp → VK → Prop} (h : CallR X f r) (h' : CallR X f r') : CallR X f (fun xs H Q => r xs H Q ∨ r' xs H Q) := by
  intro pins s σ H xs us Q I rs q
  rcases q with q | q
  · exact h pins s σ H xs us Q I rs q
  · exact h' pins s σ H xs us Q I rs q
theorem call_list_of : CallR X (.type "list") (fun xs H Q => ∃ p ys, xs = [.ref p] ∧ (SqL X.K H p ys ∨ SqT X.K H p ys) ∧ ∀ l, H l = none → Q (.ref l) (upd H l (.lst ys))) := by
  intro pins s σ H xs us Q I r h
  obtain ⟨p, ys, rfl, hq, q⟩ := h
  obtain ⟨u, rfl, rx⟩ := vals1 r
  cases rx
  have fin : ∀ (its : List Value), Vals ys its → ys.length ≤ sizeLine → ∀ (h' : Heap) (c' : Nat), (∀ b o', s.heap.get? b = some o' → h'.get? b = some o') →
      h'.get? s.heap.objs.size = some { cls := .type "list", dict := none, data := .seq its.toArray c', slots := #[] } → EP X pins σ Q (.ref s.heap.objs.size) { s with heap := h' } := fun its r' hz h' c' kp e =>
    ⟨.ref s.heap.objs.size, _, I.laid (t' := s.toks) kp (Nat.le_refl _) (show ObjOk X.prog X.w _ h' _ (.lst ys) from ⟨hz, its, c', r', e⟩), rfl, q _ (I.hok.fresh (Nat.le_refl _))⟩
  rcases hq with hq | hq
  · obtain ⟨its, r', pl, hz⟩ := I.list hq
    have hlen := r'.length
    obtain ⟨o, ho, hc, n, hd⟩ := pl.isList
    exact call_list_seq p (.inl rfl) ho hc hd (fun h' c' kp e => fin its r' hz h' c' kp e) (by simp only [List.size_toArray] <;> omega)
  · obtain ⟨its, r', pl, hz⟩ := I.tuple hq
    have hlen := r'.length
    obtain ⟨o, ho, hc, n, hd⟩ := pl
    exact call_list_seq p (.inr rfl) ho hc hd (fun h' c' kp e => fin its r' hz h' c' kp e) (by simp only [List.size_toArray] <;> omega)
theorem call_tuple_of : CallR X (.type "tuple") (fun xs H Q => ∃ p ys, xs = [.ref p] ∧ ((SqL X.K H p ys ∧ ∀ l, H l = none → Q (.ref l) (upd H l (.tup ys))) ∨ (SqT X.K H p ys ∧ Q (.ref p) H))) := by
  intro pins s σ H xs us Q I r h
  obtain ⟨p, ys, rfl, h⟩ := h
  obtain ⟨u, rfl, rx⟩ := vals1 r
  cases rx
  rcases h with ⟨hq, q⟩ | ⟨hq, q⟩
  · obtain ⟨its, r', pl, hz⟩ := I.list hq
    have hlen := r'.length
    refine call_tuple_list pl.isList (fun h' kp => ?_) (by simp only [List.size_toArray] <;> omega)
    have I1 : Inv X pins σ H { s with heap := h' } := I.kept (t' := s.toks) kp
    have I2 : Inv X pins σ (upd H h'.objs.size (.tup ys)) { s with heap := h'.push { cls := .type "tuple", data := .seq its.toArray } } :=
      I1.laid (t' := s.toks) (fun b o e => Heap.get?_push_of_some _ e) (Nat.le_refl _) (show ObjOk X.prog X.w _ _ _ (.tup ys) from ⟨hz, its, r', IsTup.new _ _⟩)
    exact ⟨.ref h'.objs.size, _, I2, rfl, q _ (I1.hok.fresh (Nat.le_refl _))⟩
  · obtain ⟨its, r', pl, hz⟩ := I.tuple hq
    exact call_tuple_same pl ⟨.ref p, H, I, rfl, q⟩

/-! ### the call of a builtin's method: o.m(..) -/
/-- the value is of that builtin type -/
def tyV (K : PySem.W.Frag) (T : String) (x : V) (H : Hp) : Prop := match x with
  | .str _ => T = "str"
  | .int _ => T = "int"
  | .ref p => (T = "list" ∧ ∃ xs, SqL K H p xs) ∨ (T = "tuple" ∧ ∃ o, K.lookup p = some o ∧ o.cls = .type "tuple" ∧ o.dict = none) ∨
      (T = "dict" ∧ ((∃ kvs, H p = some (.dK kvs)) ∨ ∃ kvs, H p = some (.dT kvs))) ∨ (T = "set" ∧ ∃ S n, H p = some (.set S n))
  | _ => False
theorem tyV_is {pins : List (Addr × Obj)} {σ : St} {H : Hp} {s : Shared} {T : String} {x : V} {v : Value} (I : Inv X pins σ H s) (r : RelV x v) (ty : tyV X.K T x H) :
    s.TypeIs v T ∧ ∀ a, v = .ref a → ∃ ob, s.heap.get? a = some ob ∧ ob.dict = none := by
  cases x with
  | str z =>
    obtain ⟨t, rfl⟩ := r
    cases (show T = "str" from ty)
    exact ⟨typeIs_str s z t, fun _ e => nomatch e⟩
  | int i =>
    obtain ⟨t, rfl⟩ := r
    cases (show T = "int" from ty)
    exact ⟨typeIs_int s i t, fun _ e => nomatch e⟩
  | ref p =>
    cases r
    rcases ty with ⟨rfl, xs, hq⟩ | ⟨rfl, o, hk, hc, hd⟩ | ⟨rfl, hk⟩ | ⟨rfl, S, n, hk⟩
    · obtain ⟨its, _, pl, _⟩ := I.list hq
      refine ⟨pl.isList.typeIs, fun a e => ?_⟩
      cases e
      obtain ⟨o, n, e, c, hd, _⟩ := pl
      exact ⟨o, e, hd⟩
    · refine ⟨⟨o, I.kIn p o hk, hc⟩, fun a e => ?_⟩
      cases e
      exact ⟨o, I.kIn _ o hk, hd⟩
    · have z : ∃ o, s.heap.get? p = some o ∧ o.ExactDict := by
        rcases hk with ⟨kvs, hk⟩ | ⟨kvs, hk⟩
        · obtain ⟨_, _, _, _, o, _, _, e, ex, _⟩ := I.hok p _ hk
          exact ⟨o, e, ex⟩
        · obtain ⟨_, _, _, _, o, _, _, e, ex, _⟩ := I.hok p _ hk
          exact ⟨o, e, ex⟩
      obtain ⟨o, e, ex⟩ := z
      refine ⟨⟨o, e, ex.1⟩, fun a e2 => ?_⟩
      cases e2
      exact ⟨o, e, ex.2.1⟩
    · obtain ⟨o, _, _, _, e, ex, _⟩ := I.hok p _ hk
      refine ⟨⟨o, e, ex.1⟩, fun a e2 => ?_⟩
      cases e2
      exact ⟨o, e, ex.2.1⟩
  | _ => exact False.elim ty
def tBM0 (K : PySem.W.Frag) (T : String) (r : V → List V → Hp → VK → Prop) (to : TE) : TE := fun σ H Q => to σ H fun x H1 => tyV K T x H1 ∧ r x [] H1 Q
def tBM (K : PySem.W.Frag) (T : String) (r : V → List V → Hp → VK → Prop) (to : TE) (t : TA) : TE := fun σ H Q => to σ H fun x H1 => tyV K T x H1 ∧ t σ H1 fun xs H2 => r x xs H2 Q
variable {o e : Expr} {es : List Expr} {to : TE} {t : TA} {name : Str} {apos cpos : Pos} {T id : String} {r : V → List V → Hp → VK → Prop}
theorem pe_bm0 (pa : PlainAttrs T) (slot : Slot T name id) (hty : typeOf (.builtin id) = pure (.type "method_descriptor")) (hm : MtR X id r) (ho : PE X o to)
    (hbase : attributeBase o name X.env (eval o X.env) = eval o X.env := by rfl) (hline : (apos.endLine == cpos.line) = true := by rfl) : PE X (.Call (.Attribute o name apos) [] [] cpos) (tBM0 X.K T r to) := by
  intro pins s σ H Q I h
  refine wpAny_Call_method0_late hbase hline (thn (ho pins s σ H _ I h) fun v s1 ⟨x, H1, I1, r1, ty, q1⟩ => ?_)
  obtain ⟨h1, h2⟩ := tyV_is I1 r1 ty
  exact ⟨T, id, pa, slot, hty, h1, h2, Calls.callWith_builtin rfl (PySem.evalArgs_none (hm pins s1 σ H1 x [] v [] Q I1 r1 .nil q1))⟩
theorem pe_bm (pa : PlainAttrs T) (slot : Slot T name id) (hty : typeOf (.builtin id) = pure (.type "method_descriptor")) (hm : MtR X id r) (ho : PE X o to) (ha : PA X (e :: es) t)
    (hbase : attributeBase o name X.env (eval o X.env) = eval o X.env := by rfl)
    (hfew : ((backTo cpos (starEach (e :: es) X.env)).all (fun x => !x.1) && (backToKw cpos (keywordEach [] X.env)).all (fun x => x.1.isSome)
      && decide ((e :: es).length + ([] : List Keyword).length + (if ([] : List Keyword).isEmpty then 0 else 1) < 30)) = true := by rfl)
    (hline : (apos.endLine == cpos.line) = true := by rfl) (hs : starEach (e :: es) X.env = (false, eval e X.env) :: starEach es X.env := by rfl) (hplain : (backTo cpos (starEach es X.env)).any (·.1) = false := by rfl) :
    PE X (.Call (.Attribute o name apos) (e :: es) [] cpos) (tBM X.K T r to t) := by
  intro pins s σ H Q I h
  refine wpAny_Call_method_late hbase hfew hline rfl (thn (ho pins s σ H _ I h) fun v s1 ⟨x, H1, I1, r1, ty, q1⟩ => ?_)
  obtain ⟨h1, h2⟩ := tyV_is I1 r1 ty
  refine ⟨T, id, pa, slot, hty, h1, h2, ?_⟩
  have hA := ha cpos pins s1 σ H1 _ I1 q1
  rw [hs] at hA ⊢
  refine Calls.callWith_builtin (by show (false || (backTo cpos (starEach es X.env)).any (·.1)) = false; rw [hplain] <;> rfl) (Calls.evalArgs_plain ?_)
  exact thn hA fun us s2 ⟨vs, H2, I2, r2, q2⟩ => hm pins s2 σ H2 x vs v us Q I2 r1 r2 q2
/- xs.append(e), list.index on a module's tuple .. are MtR facts of 06m -/
end
end L2

namespace L2
open PySem PySem.Spec PyProof.Rows

def MtM (X : Cx) (id : String) (r : V → List V → Hp → VK → Prop) : Prop :=
  ∀ (pins : List (Addr × Obj)) (s : Shared) (σ : St) (H : Hp) (x : V) (xs : List V) (v : Value) (us : List Value) (Q : VK), Inv X pins σ H s → RelV x v → Vals xs us → r x xs H Q →
    wpAny (model X.prog X.w) X.A (call (.builtin id) (v :: us)) (EP X pins σ Q) X.xe s

/-! ### lists of values -/
theorem Vals.one : ∀ {x : V} {us : List Value}, Vals [x] us → ∃ u, us = [u] ∧ RelV x u
  | _, _, .cons r .nil => ⟨_, rfl, r⟩
theorem Vals.two : ∀ {x y : V} {us : List Value}, Vals [x, y] us → ∃ u v, us = [u, v] ∧ RelV x u ∧ RelV y v
  | _, _, _, .cons r (.cons q .nil) => ⟨_, _, rfl, r, q⟩
theorem Vals.zero : ∀ {us : List Value}, Vals [] us → us = []
  | _, .nil => rfl
theorem Vals.dropLast {xs : List V} {us : List Value} (h : Vals xs us) : Vals xs.dropLast us.dropLast := by
  induction h with
  | nil => exact .nil
  | cons r t ih =>
    cases t with
    | nil => exact .nil
    | cons q t' => exact .cons r ih
theorem Vals.eraseIdx : ∀ {xs : List V} {us : List Value} (i : Nat), Vals xs us → Vals (xs.eraseIdx i) (us.eraseIdx i)
  | _, _, _, .nil => .nil
  | _, _, 0, .cons _ t => t
  | _, _, i + 1, .cons r t => .cons r (Vals.eraseIdx i t)
theorem Vals.reverse {xs : List V} {us : List Value} (h : Vals xs us) : Vals xs.reverse us.reverse := by
  induction h with
  | nil => exact .nil
  | cons r t ih => rw [List.reverse_cons, List.reverse_cons]; exact Vals.append ih (.cons r .nil)
theorem Vals.rep {xs : List V} {us : List Value} (h : Vals xs us) : ∀ k : Nat, Vals (List.replicate k xs).flatten (List.replicate k us).flatten
  | 0 => .nil
  | k + 1 => by
    rw [List.replicate_succ, List.replicate_succ, List.flatten_cons, List.flatten_cons]
    exact Vals.append h (Vals.rep h k)
theorem erase_last {α : Type} (l : List α) : l.eraseIdx (l.length - 1) = l.dropLast := by
  induction l with
  | nil => rfl
  | cons a r ih =>
    cases r with
    | nil => rfl
    | cons b r =>
      have e : (a :: b :: r).length - 1 = ((b :: r).length - 1) + 1 := by
        have h1 : (a :: b :: r).length = r.length + 2 := rfl
        have h2 : (b :: r).length = r.length + 1 := rfl
        omega
      rw [e, List.eraseIdx_cons_succ, ih]
      all_goals rfl
theorem len_erase {α : Type} : ∀ (l : List α) (i : Nat), (l.eraseIdx i).length ≤ l.length
  | [], _ => Nat.le_refl _
  | _ :: _, 0 => Nat.le_succ _
  | _ :: r, i + 1 => Nat.succ_le_succ (len_erase r i)
theorem foldl_rep (its : List Value) : ∀ (k : Nat) (acc : List Value),
    List.foldl (fun x1 x2 => x1 ++ x2) acc.toArray (List.replicate k its.toArray) = (acc ++ (List.replicate k its).flatten).toArray
  | 0, acc => by simp
  | k + 1, acc => by
    have e : acc.toArray ++ its.toArray = (acc ++ its).toArray := by simp
    have e2 : (acc ++ its) ++ (List.replicate k its).flatten = acc ++ (List.replicate (k + 1) its).flatten := by
      rw [List.replicate_succ, List.flatten_cons, List.append_assoc]
    rw [← e2, ← foldl_rep its k (acc ++ its), ← e, List.replicate_succ, List.foldl_cons]

section
variable {X : Cx} {pins : List (Addr × Obj)} {σ : St} {H : Hp} {s : Shared} {l b : Addr} {xs ys zs : List V}

/-! ### the two steps: a tracked list is rewritten, a new list is laid -/
theorem Inv.lset {its its' : List Value} {n : Nat} {f : Array Value → Array Value} {t' : Nat} (I : Inv X pins σ H s) (hH : H l = some (.lst xs))
    (e : s.heap.get? l = some { cls := .type "list", data := .seq its.toArray n }) (hf : f its.toArray = its'.toArray) (hv : Vals ys its') (hz : ys.length ≤ sizeLine) :
    Inv X pins σ (upd H l (.lst ys)) { s with heap := s.heap.update l (Obj.mapSeq f), toks := t' } := by
  have q := PySem.IsL.update e f
  rw [hf] at q
  refine I.write (x := l) (e := l) (by rw [hH]; exact trivial) (.inl rfl) (fun b' u hb hu => (Heap.get?_update_other s.heap (Obj.mapSeq f) (Ne.symm hb)).trans hu) ⟨_, q⟩ ?_
  exact ⟨hz, its', _, hv, q⟩
theorem Inv.lnew {its : List Value} {t' : Nat} (I : Inv X pins σ H s) (hv : Vals ys its) (hz : ys.length ≤ sizeLine) :
    Inv X pins σ (upd H s.heap.objs.size (.lst ys)) { s with heap := s.heap.push { cls := .type "list", data := .seq its.toArray }, toks := t' } :=
  I.laid (fun _ _ q => Heap.get?_push_of_some _ q) (Nat.le_refl _) ⟨hz, its, 0, hv, Heap.get?_push_size _ rfl⟩
theorem Inv.fresh (I : Inv X pins σ H s) : H s.heap.objs.size = none := I.hok.fresh (Nat.le_refl _)
theorem Inv.lstM (I : Inv X pins σ H s) (hH : H l = some (.lst xs)) : xs.length ≤ sizeLine ∧ ∃ (its : List Value) (n : Nat), Vals xs its ∧ xs.length = its.length ∧ s.heap.get? l = some { cls := .type "list", data := .seq its.toArray n } := by
  obtain ⟨z, its, n, r, e⟩ := I.hok l _ hH
  exact ⟨z, its, n, r, r.length, e⟩

theorem notLongL {n : Nat} (h : n ≤ sizeLine) : Builtin.List.listTooLong n = false := by
  unfold Builtin.List.listTooLong
  exact decide_eq_false (by omega)
end

section
variable {X : Cx}

/-! ### methods -/
def rAppend : V → List V → Hp → VK → Prop := fun x vs H Q => ∃ l xs y, x = .ref l ∧ vs = [y] ∧ H l = some (.lst xs) ∧ xs.length < sizeLine ∧ Q .non (upd H l (.lst (xs ++ [y])))
theorem mt_append : MtM X "list.append" rAppend := by
  intro pins s σ H x vs v us Q I rx rv h
  obtain ⟨l, xs, y, rfl, rfl, hH, hz, q⟩ := h
  cases rx
  obtain ⟨u, rfl, ru⟩ := rv.one
  obtain ⟨z, its, n, r, hl, e⟩ := I.lstM hH
  refine call_meets F.slot_list_append ⟨_, e, rfl⟩ F.entry_list_append (F.args_list_append_2 _ _) (PySem.list_append l its.toArray n u (by rw [List.size_toArray]; omega)) ⟨e, ?_⟩
  refine ⟨.non, _, I.lset (its' := its ++ [u]) hH e (by simp) (r.append (.cons ru .nil)) ?_, rfl, q⟩
  rw [List.length_append, List.length_singleton]
  omega

def rExtend : V → List V → Hp → VK → Prop := fun x vs H Q => ∃ l b xs zs, x = .ref l ∧ vs = [.ref b] ∧ H l = some (.lst xs) ∧ H b = some (.lst zs) ∧ xs.length + zs.length ≤ sizeLine ∧ Q .non (upd H l (.lst (xs ++ zs)))
theorem mt_extend : MtM X "list.extend" rExtend := by
  intro pins s σ H x vs v us Q I rx rv h
  obtain ⟨l, b, xs, zs, rfl, rfl, hH, hB, hz, q⟩ := h
  cases rx
  obtain ⟨u, rfl, ru⟩ := rv.one
  cases ru
  obtain ⟨z, its, n, r, hl, e⟩ := I.lstM hH
  obtain ⟨z2, its2, n2, r2, hl2, e2⟩ := I.lstM hB
  have hsz : its.toArray.size + its2.toArray.size ≤ sizeLine := by rw [List.size_toArray, List.size_toArray]; omega
  have hlong : ¬ (!its.toArray.isEmpty && Builtin.List.listTooLong (its.toArray.size + its2.toArray.size)) = true := by
    rw [notLongL hsz, Bool.and_false]
    exact Bool.false_ne_true
  refine call_meets F.slot_list_extend ⟨_, e, rfl⟩ F.entry_list_extend (F.args_list_extend_2 _ _)
    (AutoSeq1.list_extend_list_list_0 l its.toArray n b its2.toArray n2 hlong (by rw [List.size_toArray]; omega) (by omega)) ⟨e, e2, ?_⟩
  refine ⟨.non, _, I.lset (its' := its ++ its2) hH e (by simp) (r.append r2) ?_, rfl, q⟩
  rw [List.length_append]
  omega

def rPop : V → List V → Hp → VK → Prop := fun x vs H Q => ∃ l xs y, x = .ref l ∧ vs = [] ∧ H l = some (.lst xs) ∧ xs[xs.length - 1]? = some y ∧ Q y (upd H l (.lst xs.dropLast))
theorem mt_pop : MtM X "list.pop" rPop := by
  intro pins s σ H x vs v us Q I rx rv h
  obtain ⟨l, xs, y, rfl, rfl, hH, hy, q⟩ := h
  cases rx
  have hus := rv.zero
  subst hus
  obtain ⟨z, its, n, r, hl, e⟩ := I.lstM hH
  obtain ⟨u, hu, ru⟩ := r.get hy
  have hy' : its.toArray[its.toArray.size - 1]? = some u := by
    show its.toArray[its.length - 1]? = some u
    rw [← Array.getElem?_toList, ← hl]
    exact hu
  refine call_meets F.slot_list_pop ⟨_, e, rfl⟩ F.entry_list_pop (F.args_list_pop_1 _) (MeetsSeq.list_pop_last l its.toArray n u hy' (by rw [List.size_toArray]; omega)) ⟨e, ?_⟩
  refine ⟨y, _, I.lset (its' := its.dropLast) hH e ?_ r.dropLast ?_, ru, q⟩
  · show its.toArray.eraseIdxIfInBounds (its.toArray.size - 1) = its.dropLast.toArray
    rw [List.size_toArray, List.eraseIdxIfInBounds_toArray, erase_last]
  · rw [List.length_dropLast]
    omega

def rPopAt : V → List V → Hp → VK → Prop := fun x vs H Q => ∃ l xs i k y, x = .ref l ∧ vs = [.int i] ∧ H l = some (.lst xs) ∧ -(2 ^ 63) ≤ i ∧ i < 2 ^ 63 ∧ seqIndex? i xs.length = some k ∧ xs[k]? = some y ∧ Q y (upd H l (.lst (xs.eraseIdx k)))
theorem mt_popAt : MtM X "list.pop" rPopAt := by
  intro pins s σ H x vs v us Q I rx rv h
  obtain ⟨l, xs, i, k, y, rfl, rfl, hH, h1, h2, hk, hy, q⟩ := h
  cases rx
  obtain ⟨u, rfl, ru⟩ := rv.one
  obtain ⟨t, rfl⟩ := ru
  obtain ⟨z, its, n, r, hl, e⟩ := I.lstM hH
  obtain ⟨w, hw, rw'⟩ := r.get hy
  refine call_meets F.slot_list_pop ⟨_, e, rfl⟩ F.entry_list_pop (F.args_list_pop_2 _ _)
    (MeetsSeq.list_pop_at l its.toArray n i t k w (fitsIndex_both h1 h2) (by rw [List.size_toArray, ← hl]; exact hk) (by rw [← Array.getElem?_toList]; exact hw) (by rw [List.size_toArray]; omega)) ⟨e, ?_⟩
  refine ⟨y, _, I.lset (its' := its.eraseIdx k) hH e ?_ (r.eraseIdx k) ?_, rw', q⟩
  · show its.toArray.eraseIdxIfInBounds k = (its.eraseIdx k).toArray
    rw [List.eraseIdxIfInBounds_toArray]
  · have := len_erase xs k
    omega

def rReverse : V → List V → Hp → VK → Prop := fun x vs H Q => ∃ l xs, x = .ref l ∧ vs = [] ∧ H l = some (.lst xs) ∧ Q .non (upd H l (.lst xs.reverse))
theorem mt_reverse : MtM X "list.reverse" rReverse := by
  intro pins s σ H x vs v us Q I rx rv h
  obtain ⟨l, xs, rfl, rfl, hH, q⟩ := h
  cases rx
  have hus := rv.zero
  subst hus
  obtain ⟨z, its, n, r, hl, e⟩ := I.lstM hH
  refine call_meets F.slot_list_reverse ⟨_, e, rfl⟩ F.entry_list_reverse (F.args_list_reverse_1 _) (AutoSeq1.list_reverse_list_0 l its.toArray n (by rw [List.size_toArray]; omega)) ⟨e, ?_⟩
  refine ⟨.non, _, I.lset (its' := its.reverse) hH e (by simp) r.reverse ?_, rfl, q⟩
  rw [List.length_reverse]
  omega

def rClear : V → List V → Hp → VK → Prop := fun x vs H Q => ∃ l xs, x = .ref l ∧ vs = [] ∧ H l = some (.lst xs) ∧ Q .non (upd H l (.lst []))
theorem mt_clear : MtM X "list.clear" rClear := by
  intro pins s σ H x vs v us Q I rx rv h
  obtain ⟨l, xs, rfl, rfl, hH, q⟩ := h
  cases rx
  have hus := rv.zero
  subst hus
  obtain ⟨z, its, n, r, hl, e⟩ := I.lstM hH
  refine call_meets F.slot_list_clear ⟨_, e, rfl⟩ F.entry_list_clear (F.args_list_clear_1 _) (AutoSeq1.list_clear_list_0 l its.toArray n (by rw [List.size_toArray]; omega)) ⟨e, ?_⟩
  exact ⟨.non, _, I.lset (its' := []) (ys := []) hH e rfl .nil (Nat.zero_le _), rfl, q⟩

/-! ### list + list, list += list, list * int -/
def rCat : R2 := fun x y H Q => ∃ l b xs zs, x = .ref l ∧ y = .ref b ∧ H l = some (.lst xs) ∧ H b = some (.lst zs) ∧ xs.length + zs.length ≤ sizeLine ∧ ∀ p, H p = none → Q (.ref p) (upd H p (.lst (xs ++ zs)))
theorem op_cat : OpR X (binaryOp .Add) rCat := by
  intro pins s σ H x y v u Q I rx ry h
  obtain ⟨l, b, xs, zs, rfl, rfl, hH, hB, hz, q⟩ := h
  cases rx
  cases ry
  obtain ⟨z, its, n, r, hl, e⟩ := I.lstM hH
  obtain ⟨z2, its2, n2, r2, hl2, e2⟩ := I.lstM hB
  refine PySem.P.add_list e e2 ?_ (by rw [List.size_toArray, List.size_toArray]; omega)
  have ea : its.toArray ++ its2.toArray = (its ++ its2).toArray := by simp
  rw [ea]
  exact ⟨.ref _, _, I.lnew (t' := s.toks) (r.append r2) (by rw [List.length_append]; omega), rfl, q _ I.fresh⟩
/-- a list times an int (a negative one is nothing) -/
def rRep : R2 := fun x y H Q => ∃ l k xs, x = .ref l ∧ y = .int k ∧ H l = some (.lst xs) ∧ -(2 ^ 63) ≤ k ∧ k < 2 ^ 63 ∧ xs.length * k.toNat ≤ sizeLine ∧
  ∀ p, H p = none → Q (.ref p) (upd H p (.lst (List.replicate k.toNat xs).flatten))
theorem len_rep {α : Type} (xs : List α) (k : Nat) : (List.replicate k xs).flatten.length = k * xs.length := by
  induction k with
  | zero => simp
  | succ k ih => rw [List.replicate_succ, List.flatten_cons, List.length_append, ih, Nat.succ_mul, Nat.add_comm]
theorem op_rep : OpR X (binaryOp .Mult) rRep := by
  intro pins s σ H x y v u Q I rx ry h
  obtain ⟨l, k, xs, rfl, rfl, hH, h1, h2, hz, q⟩ := h
  cases rx
  obtain ⟨t, rfl⟩ := ry
  obtain ⟨z, its, n, r, hl, e⟩ := I.lstM hH
  have hlen : its.toArray.size * k.toNat ≤ sizeLine := by rw [List.size_toArray, ← hl]; exact hz
  have hcap : ¬ its.toArray.size * k.toNat > (2 ^ 63 - 1) / 8 := by
    have : (sizeLine : Nat) ≤ (2 ^ 63 - 1) / 8 := by decide
    omega
  have hfit : ¬ (!Builtin.List.listFitsIndex k) = true := by
    rw [fitsIndex_both h1 h2]
    exact Bool.false_ne_true
  have hlong : ¬ Builtin.List.listTooLong (its.toArray.size * k.toNat) = true := by
    rw [notLongL hlen]
    exact Bool.false_ne_true
  have hnew : List.foldl (fun x1 x2 => x1 ++ x2) #[] (List.replicate (if its.toArray.isEmpty = true then 0 else k.toNat) its.toArray) = (List.replicate k.toNat its).flatten.toArray := by
    have f0 : ∀ m : Nat, List.foldl (fun x1 x2 => x1 ++ x2) #[] (List.replicate m its.toArray) = (List.replicate m its).flatten.toArray := fun m => by
      have := foldl_rep its m []
      rw [List.nil_append] at this
      exact this
    rw [f0]
    cases its with
    | nil => simp
    | cons a r' => rw [if_neg (by simp)]
  refine wpAny_binaryOp_repeat_ref (T := "list") (U := "int") (by decide) ⟨_, e, rfl⟩ (fun s' => typeIs_int s' k t) noFill_list_mul F.fills_int_mul F.slot_int_rmul repeat_list F.slot_int_index.lookup
    (call_meets F.slot_int_rmul (typeIs_int s k t) F.entry_int_rmul (F.args_int_rmul_2 _ _) (int___rmul___int_list k t l its.toArray n)
      ⟨e, rfl, ⟨_, e, rfl⟩, call_meets F.slot_list_mul ⟨_, e, rfl⟩ F.entry_list_mul (F.args_list_mul_2 _ _) (AutoListH.list___mul___list_int_3 l its.toArray n k t hfit hcap hlong) ⟨e, ?_⟩⟩)
  rw [hnew]
  exact ⟨.ref _, _, I.lnew (t' := s.toks) (r.rep k.toNat) (by rw [len_rep, Nat.mul_comm]; exact hz), rfl, q _ I.fresh⟩

/-! ### del xs[i] -/
theorem del_list {pins : List (Addr × Obj)} {s : Shared} {σ : St} {H : Hp} {l : Addr} {xs : List V} {i : Int} {t : Tok} {k : Nat} {Q : Unit → Shared → Prop} (I : Inv X pins σ H s) (hH : H l = some (.lst xs))
    (h1 : -(2 ^ 63) ≤ i) (h2 : i < 2 ^ 63) (hk : seqIndex? i xs.length = some k) (h : ∀ s', Inv X pins σ (upd H l (.lst (xs.eraseIdx k))) s' → Q () s') :
    wpAny (model X.prog X.w) X.A (delItem (.ref l) (.int i t)) Q X.xe s := by
  obtain ⟨z, its, n, r, hl, e⟩ := I.lstM hH
  refine PySem.P.delItem_list (k := k) e (fitsIndex_both h1 h2) (by rw [List.size_toArray, ← hl]; exact hk) (h _ ?_) (by rw [List.size_toArray]; omega)
  refine I.lset (its' := its.eraseIdx k) (t' := s.toks) hH e ?_ (r.eraseIdx k) ?_
  · show its.toArray.eraseIdxIfInBounds k = (its.eraseIdx k).toArray
    rw [List.eraseIdxIfInBounds_toArray]
  · have := len_erase xs k
    omega
end

/-! ### xs[a:b] = ys -/
section
variable {prog : Program} {w : World} {A : Around} {E : Value → Shared → Prop} {s : Shared}
theorem splice_eq (its its2 : List Value) (a c : Nat) : its.toArray.extract 0 a ++ its2.toArray ++ its.toArray.extract c its.toArray.size = (its.take a ++ its2 ++ its.drop c).toArray := by
  apply Array.toList_inj.mp
  first
    | (simp
       exact List.take_of_length_le (by simp))
    | simp [List.take_of_length_le]
    | simp
theorem bounds_run {a c n : Nat} (hac : a ≤ c) (hc : c ≤ n) : sliceBounds (some (a : Int)) (some (c : Int)) none n = ((a : Int), (c : Int), 1) := by
  simp only [sliceBounds, Option.getD_none]
  have h1 : ¬ ((a : Int) < 0) := by omega
  have h2 : ¬ ((c : Int) < 0) := by omega
  simp only [h1, h2, if_false, show (1 : Int) > 0 by decide, if_true]
  congr 1
  · omega
  · congr 1; omega
set_option maxRecDepth 100000 in
/-- list.__setitem__ with a slice of step one and another list -/
theorem setItem_slice {l b sl : Addr} {items new : Array Value} {n n2 : Nat} {vl vu : Value} {a c : Nat} {Q : Unit → Shared → Prop}
    (e : s.heap.get? l = some { cls := .type "list", data := .seq items n }) (e2 : s.heap.get? b = some { cls := .type "list", data := .seq new n2 }) (hne : l ≠ b)
    (hs : s.heap.IsSliceOf sl vl vu .none) (pl : IsPart vl (some (a : Int))) (pu : IsPart vu (some (c : Int))) (hac : a ≤ c) (hc : c ≤ items.size)
    (hsz : items.size + new.size ≤ sizeLine) (h : Q () { s with heap := s.heap.update l (Obj.mapSeq fun xs => xs.extract 0 a ++ new ++ xs.extract c xs.size) }) :
    wpAny (model prog w) A (setItem (.ref l) (.ref sl) (.ref b)) Q E s := by
  have hl : s.heap.IsList l items := PySem.IsL.isList e
  have hb : s.heap.IsList b new := PySem.IsL.isList e2
  obtain ⟨os, hos, hcs, hds⟩ := id hs
  have hTs : s.TypeIs (.ref sl) "slice" := ⟨os, hos, hcs⟩
  have hstep : ¬ ((rawPart none == rawInt 0) = true) := Bool.false_ne_true
  have hsame : Builtin.List.listSameRef (.ref l) (.ref b) = false := by
    unfold Builtin.List.listSameRef
    exact beq_eq_false_iff_ne.mpr hne
  have hmax : (max (a : Int) (c : Int)).toNat = c := by omega
  have hz' : ((fun xs : Array Value => xs.extract 0 a ++ new ++ xs.extract c xs.size) items).size ≤ sizeLine + 1 := by
    simp only [Array.size_append, Array.size_extract]
    omega
  unfold setItem
  try with_reducible refine wpAny_holding ?_
  first | refine wpAny_bind (wpAny_pure ?_) | skip
  refine wpAny_bind (wpAny_sequenceKey hl.typeIs (by decide) ?_)
  refine wpAny_bind (wpAny_callSpecial?_slot (name := Str.ofString "__setitem__") hl.typeIs slot_list_setitem
    (wpAny_call_entry slot_list_setitem hl.typeIs entry_list_setitem ?_ (args_list_setitem _ _ _)))
  show wpAny _ _ (Builtin.List.listSubscript? (.ref sl) >>= _) _ _ s
  refine wpAny_bind ?_
  unfold Builtin.List.listSubscript?
  refine wpAny_bind (wpAny_specialOf hTs slice_no_index ?_)
  simp only [Option.isNone_none, if_true]
  refine wpAny_pure ?_
  show wpAny _ _ (typeOf (.ref sl) >>= _) _ _ s
  refine wpAny_bind (wpAny_typeOf hTs ?_)
  first
    | rw [if_neg (by decide)]
    | refine PySem.W.KFB.if_not (by decide) ?_
  rw [listSliceParts_eq]
  refine wpAny_bind (wpAny_bind (wpAny_field hos hds (x := .none) rfl (wpAny_bind (wpAny_listPart .none ?_))))
  rw [if_neg hstep]
  refine wpAny_bind (wpAny_field hos hds (x := vl) rfl (wpAny_bind (wpAny_listPart pl ?_)))
  refine wpAny_bind (wpAny_field hos hds (x := vu) rfl (wpAny_bind (wpAny_listPart pu (wpAny_pure ?_))))
  first
    | simp only [hsame, Bool.false_eq_true, if_false]
    | refine PySem.W.KFB.if_not hsame ?_
    | (dsimp only
       rw [if_neg (by rw [hsame]; exact Bool.false_ne_true)])
  refine wpAny_bind (m := Builtin.List.listAllItems (.ref b) "must assign iterable to extended slice") ?_
  unfold Builtin.List.listAllItems
  refine wpAny_bind (wpAny_typeOf hb.typeIs ?_)
  first
    | refine PySem.W.KFB.if_so (by decide) ?_
    | rw [if_pos (by decide)]
    | simp only [beq_self_eq_true, Bool.true_or, if_true]
  unfold Builtin.List.listItems
  refine wpAny_bind (wpAny_seqItems e2 rfl (wpAny_pure ?_))
  refine wpAny_bind (wpAny_bind (wpAny_seqItems e rfl (wpAny_pure ?_)))
  refine wpAny_bind (wpAny_of_eq ((sliceIndices_raw (some (a : Int)) (some (c : Int)) none items.size (by simp)).trans (congrArg (pure : Int × Int × Int → Sem (Int × Int × Int)) (bounds_run hac hc))) ?_)
  show wpAny _ _ (if ((1 : Int) == 1) = true then _ else _) _ _ s
  rw [if_pos (by decide)]
  refine wpAny_bind (wpAny_rule ?_)
  first
    | simp only [notLongL hsz, Bool.false_eq_true, if_false]
    | refine PySem.W.KFB.if_not (notLongL hsz) ?_
  first | refine wpAny_bind (wpAny_pure ?_) | skip
  show wpAny _ _ (updateSeq l (fun xs => xs.extract 0 ((a : Int)).toNat ++ new ++ xs.extract (max (a : Int) (c : Int)).toNat xs.size) >>= _) _ _ s
  rw [hmax, Int.toNat_natCast]
  refine wpAny_bind (wpAny_updateSeq (hz := Nat.le_trans (Nat.le_add_right _ _) hsz) (_hz' := hz') e rfl ?_)
  refine wpAny_bind (wpAny_letGo ?_)
  first
    | exact wpAny_bind (wpAny_pure (wpAny_pure ⟨.none, rfl, wpAny_pure h⟩))
    | exact wpAny_pure ⟨.none, rfl, wpAny_pure h⟩
end

section
variable {X : Cx}
/-- xs[a:c] = ys of another list, at the value level: sl is the slice object that was just made -/
theorem set_slice {pins : List (Addr × Obj)} {s : Shared} {σ : St} {H : Hp} {l b sl : Addr} {xs ys : List V} {a c : Int} {vl vu : Value} {Q : Unit → Shared → Prop} (I : Inv X pins σ H s)
    (hH : H l = some (.lst xs)) (hB : H b = some (.lst ys)) (hne : l ≠ b) (hs : s.heap.IsSliceOf sl vl vu .none) (ra : RelV (.int a) vl) (rc : RelV (.int c) vu) (h0 : 0 ≤ a) (hac : a ≤ c) (hc : c ≤ xs.length)
    (hz : xs.length + ys.length ≤ sizeLine) (h : ∀ s', Inv X pins σ (upd H l (.lst (xs.take a.toNat ++ ys ++ xs.drop c.toNat))) s' → Q () s') :
    wpAny (model X.prog X.w) X.A (setItem (.ref l) (.ref sl) (.ref b)) Q X.xe s := by
  obtain ⟨ta, rfl⟩ := ra
  obtain ⟨tc, rfl⟩ := rc
  obtain ⟨z, its, n, r, hl, e⟩ := I.lstM hH
  obtain ⟨z2, its2, n2, r2, hl2, e2⟩ := I.lstM hB
  obtain ⟨a', rfl⟩ := Int.eq_ofNat_of_zero_le h0
  obtain ⟨c', rfl⟩ := Int.eq_ofNat_of_zero_le (Int.le_trans h0 hac)
  simp only [Int.toNat_natCast] at h
  refine setItem_slice (a := a') (c := c') e e2 hne hs (.int _ _) (.int _ _) (by omega) (by rw [List.size_toArray]; omega) (by rw [List.size_toArray, List.size_toArray]; omega) (h _ ?_)
  refine I.lset (its' := its.take a' ++ its2 ++ its.drop c') (t' := s.toks) hH e ?_ (Vals.append (Vals.append (r.take _) r2) (r.drop _)) ?_
  · exact splice_eq its its2 a' c'
  · rw [List.length_append, List.length_append, List.length_take, List.length_drop]
    omega
end
end L2

namespace Att
open PySem PySem.W PySem.Calls PyProof.Rows

/-! ### the script -/
theorem ints_of_wellAll {P : Params} {h : Heap} : ∀ (ns : List Int) (vs : List Value), WellAll P h vs (ns.map WData.int) → IntsAre vs ns := by
  intro ns
  induction ns with
  | nil =>
    intro vs w
    rw [List.map_nil] at w
    cases w
    exact .nil
  | cons n ns ih =>
    intro vs w
    rw [List.map_cons] at w
    cases w with
    | cons a b =>
      cases a
      exact .cons _ _ (ih _ b)

theorem script_of {l : OpenLaw} {n : Nat} (hn : l.most = some n) {P : Params} {h : Heap} {args : List WData} {vals : List Value}
    (hpre : l.row.toRowW.claim.pre args = true) (hwl : WellAll P h vals args) :
    ∃ a vs ns, vals = [Value.ref a] ∧ args = [WData.list (ns.map WData.int)] ∧ h.get? a = some { cls := .type "list", data := .seq vs.toArray } ∧ IntsAre vs ns ∧ ns.length ≤ n := by
  have hsh : WShape.hasAll [] args [.list .int] = true := (pre_splitW hpre).1
  have hc : l.pre.holds [] { args := args } = true := (pre_splitW hpre).2
  obtain ⟨d, r, rfl, h1, h2⟩ := hasAllW_cons hsh
  obtain rfl := hasAllW_nil h2
  obtain ⟨xs, rfl, h3⟩ := hasW_list h1
  obtain ⟨ns, rfl⟩ := items_int h3
  have hlen : ns.length ≤ n := by
    unfold OpenLaw.pre at hc
    have h4 : (WTm.not (.lt (.lit (.int (n : Int))) (.len (.arg 0)))).holds [] { args := [.list (ns.map .int)] } = true := by
      have h4 := (holds_andW hc).1
      rw [hn] at h4
      exact h4
    have h5 := condW_of h4 (w_not (w_lt w_lit (w_len_list (w_arg rfl))))
    rw [List.length_map] at h5
    refine Nat.le_of_not_lt fun q => ?_
    have q' : (n : Int) < ((ns.length : Nat) : Int) := by omega
    first
      | (rw [decide_eq_true q'] at h5; exact absurd h5 (by decide))
      | (simp at h5; omega)
  cases hwl with
  | cons w1 w2 =>
    cases w2
    cases w1 with
    | list ho hall => exact ⟨_, _, ns, rfl, rfl, ho, ints_of_wellAll ns _ hall, hlen⟩

theorem post_true (l : OpenLaw) (args : List WData) : l.row.toRowW.claim.post args (.bool true) args = true :=
  postW_of (r := l.row.toRowW) (X := (true == true))
    (show WShape.has [] (.bool true) .bool = true by first | rfl | decide | simp [WShape.has, WShape.arms, WShape.armsAll])
    (show (WTm.eq .res (.lit (.bool true))).value [] { args := args, res := some (.bool true), after := args } = some (.bool (true == true)) from w_eq_bool (w_res rfl) w_lit) rfl

/-! ### the attachment: holds_open's last premise (the goal 'hc' behind k_head) from a wpAny of the law's body -/
theorem attach {l : OpenLaw} {n : Nat} {q : Program} {loose : List Str} {XP : (Str → Option Value) → Heap → Prop} {YP : World → Heap → Prop} {d : DefRec} {x : Str}
    (hn : l.most = some n) (hdf : d.params.defaults = [])
    (hbind : ∀ pm cd doc v : Value, bindArgs (docDef d.name d.params d.body d.scope pm cd doc) ⟨[v], []⟩ = pure [(x, v)])
    (hx : d.scope.names.lookup x = some .local ∨ d.scope.names.lookup x = some .cell)
    (hk : d.scope.kind = .function) (hco : d.scope.isCoroutine = false) (hgen : d.scope.isGenerator = false)
    (body : ∀ (w : World) (s₀ s₁ s : Shared) (mg mb : Str → Option Value) (fa : Addr) (o : Obj) (pm cd doc : Value) (a : Addr) (vs : List Value) (ns : List Int),
      Ground q loose [] XP w s₀ mg mb s₁.heap → YP w s₁.heap →
      s₁.heap.get? fa = some o → o.data = .func (docDef d.name d.params d.body d.scope pm cd doc) → s₁.heap.CodeRec cd d.name → mg d.name = some (.ref fa) →
      s₁.heap.get? a = some { cls := .type "list", data := .seq vs.toArray } → IntsAre vs ns → ns.length ≤ n →
      s.gens = #[] → s.os = s₁.os →
      Fr s₁.heap s₁.heap.objs.size s.heap (bindL (envOfC d.name d.scope s₁.heap.objs.size fa cd).kindOf [(x, .ref a)] fun _ => none) →
      Cl s₁.heap.objs.size (cellsFrom (s₁.heap.objs.size + 1) d.scope.names []) s.heap (bindC (envOfC d.name d.scope s₁.heap.objs.size fa cd).kindOf [(x, .ref a)] fun _ => none) →
      wpAny (model l.prog w) (callerA.deeper (envOfC d.name d.scope s₁.heap.objs.size fa cd)) (execs d.body (envOfC d.name d.scope s₁.heap.objs.size fa cd))
        (fun f s' => f = .ret (.bool true) ∧ OldK s₁.heap s'.heap ∧ s'.os = s₁.os ∧ AllBare s'.gens) (fun _ _ => False) s) :
    WalkO q loose XP YP l.row.toRowW d [] (fun f vs => PySem.call f vs) := by
  intro w s₀ s₁ mg mb G Y fa o pm cd doc dV kV ho hd hcd hD hmg hg args vals as hpre hlay hrd hwl hlo
  obtain rfl : dV = .none := Dflts.none hD hdf
  obtain rfl : kV = .none := Dflts.noKw hD
  obtain ⟨a, vs, ns, rfl, rfl, hobj, hints, hlen⟩ := script_of hn hpre hwl
  refine enter_call ?_
  refine call_cells_ret (o := o) (by rw [depth_caller]; decide) ho (fd_plain hd) G.T.nolimit hcd (hbind pm cd doc (.ref a)) (fun y hy => ?_) (fun h₁ tk F X => ?_) hco hgen hk
  · obtain rfl : y = (x, Value.ref a) := List.mem_singleton.mp hy
    rcases hx with e | e
    · exact .inl e
    · exact .inr ⟨e, cellsFrom_some _ _ _ (.inl e)⟩
  · refine wpAny_mono (body w s₀ s₁ { s₁ with heap := h₁, toks := tk } mg mb fa o pm cd doc a vs ns G Y ho (fd_plain hd) hcd hmg hobj hints hlen hg rfl F X) (fun f s' hq => ?_) (fun _ _ hq => hq)
    obtain ⟨rfl, h2, h3, h4⟩ := hq
    exact ⟨.inl ⟨.bool true, .bool true, [], rfl, fun _ => rfl, .bool true, post_true l _, fun _ => ⟨List.Pairwise.nil, fun _ hm => (nomatch hm)⟩⟩, h2, h3, h4⟩

/-- the same from a codeAny of the CALL (for a layer whose function contracts speak of calls) -/
theorem attach_call {l : OpenLaw} {n : Nat} {q : Program} {loose : List Str} {XP : (Str → Option Value) → Heap → Prop} {YP : World → Heap → Prop} {d : DefRec}
    (hn : l.most = some n) (hdf : d.params.defaults = [])
    (call : ∀ (w : World) (s₀ s₁ : Shared) (mg mb : Str → Option Value) (fa : Addr) (o : Obj) (pm cd doc : Value) (a : Addr) (vs : List Value) (ns : List Int),
      Ground q loose [] XP w s₀ mg mb s₁.heap → YP w s₁.heap →
      s₁.heap.get? fa = some o → o.data = .func (docDef d.name d.params d.body d.scope pm cd doc) → s₁.heap.CodeRec cd d.name → mg d.name = some (.ref fa) →
      s₁.heap.get? a = some { cls := .type "list", data := .seq vs.toArray } → IntsAre vs ns → ns.length ≤ n → s₁.gens = #[] →
      codeAny (model l.prog w) callerA (.call (.ref fa) ⟨[.ref a], []⟩) (fun r s' => r = .ok (.ret (.bool true)) ∧ OldK s₁.heap s'.heap ∧ s'.os = s₁.os ∧ AllBare s'.gens) s₁) :
    WalkO q loose XP YP l.row.toRowW d [] (fun f vs => PySem.call f vs) := by
  intro w s₀ s₁ mg mb G Y fa o pm cd doc dV kV ho hd hcd hD hmg hg args vals as hpre hlay hrd hwl hlo
  obtain rfl : dV = .none := Dflts.none hD hdf
  obtain rfl : kV = .none := Dflts.noKw hD
  obtain ⟨a, vs, ns, rfl, rfl, hobj, hints, hlen⟩ := script_of hn hpre hwl
  refine enter_call (codeAny_mono (call w s₀ s₁ mg mb fa o pm cd doc a vs ns G Y ho (fd_plain hd) hcd hmg hobj hints hlen hg) fun r s' hq => ?_)
  obtain ⟨rfl, h2, h3, h4⟩ := hq
  exact ⟨.inl ⟨.bool true, .bool true, [], rfl, fun _ => rfl, .bool true, post_true l _, fun _ => ⟨List.Pairwise.nil, fun _ hm => (nomatch hm)⟩⟩, h2, h3, h4⟩

/-- the same where the top left finished generators (o_head chose holds_openN): nothing may have changed at all and no generator may be left -/
theorem attachN {l : OpenLaw} {n : Nat} {q : Program} {loose : List Str} {XP : (Str → Option Value) → Heap → Prop} {YP : World → Heap → Prop} {d : DefRec} {x : Str}
    (hn : l.most = some n) (hdf : d.params.defaults = [])
    (hbind : ∀ pm cd doc v : Value, bindArgs (docDef d.name d.params d.body d.scope pm cd doc) ⟨[v], []⟩ = pure [(x, v)])
    (hx : d.scope.names.lookup x = some .local ∨ d.scope.names.lookup x = some .cell)
    (hk : d.scope.kind = .function) (hco : d.scope.isCoroutine = false) (hgen : d.scope.isGenerator = false)
    (body : ∀ (w : World) (s₀ s₁ s : Shared) (mg mb : Str → Option Value) (fa : Addr) (o : Obj) (pm cd doc : Value) (a : Addr) (vs : List Value) (ns : List Int),
      Ground q loose [] XP w s₀ mg mb s₁.heap → YP w s₁.heap →
      s₁.heap.get? fa = some o → o.data = .func (docDef d.name d.params d.body d.scope pm cd doc) → s₁.heap.CodeRec cd d.name → mg d.name = some (.ref fa) →
      s₁.heap.get? a = some { cls := .type "list", data := .seq vs.toArray } → IntsAre vs ns → ns.length ≤ n →
      s.gens = #[] → s.os = s₁.os →
      Fr s₁.heap s₁.heap.objs.size s.heap (bindL (envOfC d.name d.scope s₁.heap.objs.size fa cd).kindOf [(x, .ref a)] fun _ => none) →
      Cl s₁.heap.objs.size (cellsFrom (s₁.heap.objs.size + 1) d.scope.names []) s.heap (bindC (envOfC d.name d.scope s₁.heap.objs.size fa cd).kindOf [(x, .ref a)] fun _ => none) →
      wpAny (model l.prog w) (callerA.deeper (envOfC d.name d.scope s₁.heap.objs.size fa cd)) (execs d.body (envOfC d.name d.scope s₁.heap.objs.size fa cd))
        (fun f s' => f = .ret (.bool true) ∧ (∀ b o, s₁.heap.get? b = some o → s'.heap.get? b = some o) ∧ s'.os = s₁.os ∧ s'.gens = #[]) (fun _ _ => False) s) :
    WalkN q loose XP YP l.row.toRowW d [] (fun f vs => PySem.call f vs) := by
  intro w s₀ s₁ mg mb G Y fa o pm cd doc dV kV ho hd hcd hD hmg hg args vals as hpre hlay hrd hwl hlo
  obtain rfl : dV = .none := Dflts.none hD hdf
  obtain rfl : kV = .none := Dflts.noKw hD
  obtain ⟨a, vs, ns, rfl, rfl, hobj, hints, hlen⟩ := script_of hn hpre hwl
  refine enter_callW ?_
  refine call_cells_ret (o := o) (by rw [depth_caller]; decide) ho (fd_plain hd) G.T.nolimit hcd (hbind pm cd doc (.ref a)) (fun y hy => ?_) (fun h₁ tk F X => ?_) hco hgen hk
  · obtain rfl : y = (x, Value.ref a) := List.mem_singleton.mp hy
    rcases hx with e | e
    · exact .inl e
    · exact .inr ⟨e, cellsFrom_some _ _ _ (.inl e)⟩
  · refine wpAny_mono (body w s₀ s₁ { s₁ with heap := h₁, toks := tk } mg mb fa o pm cd doc a vs ns G Y ho (fd_plain hd) hcd hmg hobj hints hlen hg rfl F X) (fun f s' hq => ?_) (fun _ _ hq => hq)
    obtain ⟨rfl, h2, h3, h4⟩ := hq
    exact ⟨.inl ⟨.bool true, .bool true, [], rfl, fun _ => rfl, .bool true, post_true l _, fun _ => ⟨List.Pairwise.nil, fun _ hm => (nomatch hm)⟩⟩, h2, h3, h4⟩

/-! ### rules over ANY heap (no ledger) from facts about the written part K: the library's own take a ledger (News) for what they write -/
section
variable {prog : Program} {w : World} {A : Around} {E : Value → Shared → Prop} {s : Shared} {K : Frag}

/-- a def of the module, or a method (qual 'C.m'), entered: the frame is the next address; cells behind it -/
theorem call_fn {R : Result → Shared → Prop} {name qual : Str} {params : Arguments} {body : List Stmt} {scope : Scope} {dV kV doc pm cdv ct oc : Value} {an od : Option Addr} {osl : Array (Option Value)} {f : Addr} {args : Args} {binds : List (Str × Value)}
    (X : K.In s.heap) (hlim : s.heap.NoLimit) (ho : K.lookup f = some ⟨oc, od, .func (fnOf name qual params body scope dV kV doc pm an cdv ct), osl⟩) (hcd : codeIn K cdv qual = true) (hroom : A.depth < recursionLimit)
    (hbind : BindsTo s (fnOf name qual params body scope dV kV doc pm an cdv ct) args binds)
    (hkind : (binds.all fun y => scope.names.lookup y.1 == some .local || scope.names.lookup y.1 == some .cell) = true)
    (h : ∀ s₁, InCallC s s.heap.objs.size (bindL (envOfC qual scope s.heap.objs.size f cdv).kindOf binds fun _ => none) (cellsFrom (s.heap.objs.size + 1) scope.names [])
        (bindC (envOfC qual scope s.heap.objs.size f cdv).kindOf binds fun _ => none) s₁ →
      wpAny (model prog w) (A.deeper (envOfC qual scope s.heap.objs.size f cdv)) (execs body (envOfC qual scope s.heap.objs.size f cdv))
        (fun fl s' => R (.ok (.ret (match fl with | .ret v => v | _ => .none))) s')
        (fun e s' => wpAny (model prog w) (A.deeper (envOfC qual scope s.heap.objs.size f cdv)) (leaving (envOfC qual scope s.heap.objs.size f cdv) e) (fun _ s'' => R (.error e) s'') (fun e' s'' => R (.error e') s'') s') s₁)
    (hco : scope.isCoroutine = false) (hgen : scope.isGenerator = false) (hk : scope.kind = .function) : codeAny (model prog w) A (.call (.ref f) args) R s := by
  refine codeAny_call_function hroom (X _ _ ho) rfl hco hgen rfl (codeRec_of X hcd) (hbind _ _ _ _ ?_)
  refine wpAny_newFunctionEnv_cells hk (kindsX hkind _) fun env he s₁ x => ?_
  subst he
  exact ⟨hlim.keeps x.toInCall.keep, codeAny_func (h s₁ x)⟩

/-- C(..): dict at size, instance at size + 1, then __init__ -/
theorem make_obj {R : Result → Shared → Prop} {C fI : Addr} {rest : List Value} {kw : List (Str × Value)}
    (X : K.In s.heap) (hm : makesIn K C = true) (hi : findIn K (.ref C) "__init__" = some (some (.ref fI))) (hf : isFn K (.ref fI) = true)
    (h : codeAny (model prog w) (A.under (.builtin "type.__call__" ⟨.ref C :: rest, kw⟩)) (.call (.ref fI) ⟨.ref (s.heap.objs.size + 1) :: rest, kw⟩) (InitBack (s.heap.objs.size + 1) R)
      { s with heap := (s.heap.push emptyDict).push (instObj C s.heap.objs.size) }) : codeAny (model prog w) A (.call (.ref C) ⟨rest, kw⟩) R s := by
  obtain ⟨hh, g, d, t, os⟩ := s
  exact make_core (makes_of X hm) (looks_findIn X hi) (fun self => bind_fn X self (beq_iff_eq.mp hf)) (.inl rfl) h

/-- x.name where the instance's dict holds the name and the class does not -/
theorem get_field {x C : Addr} {ox : Obj} {es : List DictEntry} {n : Nat} {name : Str} {expr : Bool} {v : Value} {Q : Value → Shared → Prop}
    (X : K.In s.heap) (I : PySem.W.InstAt s.heap x ox C (some (dictOf es n))) (hg : plainGet K C name = true) (hh : hasDictIn K C = true) (ha : findIn K (.ref C) name = some none)
    (hl : getL name es = some (some v)) (hv : handedIn v = true) (h : Q v { s with toks := s.toks + 1 }) : wpAny (model prog w) A (getAttr (.ref x) name expr) Q E s :=
  get_value X I (plainGet_of hg).1 (findObj_own hh ha rfl hl) hv h

/-- x.m(..): the method found in the class -/
theorem get_method {x C f : Addr} {ox : Obj} {es : List DictEntry} {n : Nat} {name : Str} {pl : Sem Bool} {Q : Value × List Value → Shared → Prop}
    (X : K.In s.heap) (I : PySem.W.InstAt s.heap x ox C (some (dictOf es n))) (hg : plainGet K C name = true) (hf : findIn K (.ref C) name = some (some (.ref f))) (ht : isFn K (.ref f) = true)
    (hl : getL name es = some none) (h : Q (.ref f, [.ref x]) s) : wpAny (model prog w) A (getMethod (.ref x) name pl) Q E s :=
  method_fn X I (plainGet_of hg).1 (plainGet_of hg).2 hf (beq_iff_eq.mp ht) (by show (lookIn name (dictOf es n)).map _ = _; rw [lookIn_dict, hl]; rfl) h

/-! the whole heap as the ledger: makes every rule that writes through a ledger a rule over any heap -/
def noObjs (h : Heap) : Heap := { h with objs := #[] }
theorem noObjs_get (h : Heap) (b : Addr) : (noObjs h).get? b = none := by
  cases e : (noObjs h).get? b with
  | none => rfl
  | some o => exact absurd (Heap.lt_size e) (Nat.not_lt_zero _)
def ledger (h : Heap) (L d : Addr) : List (Addr × Obj) := (List.range h.objs.size).filterMap fun a => if a = L ∨ a = d then none else (h.get? a).map fun o => (a, o)
theorem mem_ledger {h : Heap} {L d a : Addr} {o : Obj} : (a, o) ∈ ledger h L d ↔ a ≠ L ∧ a ≠ d ∧ h.get? a = some o := by
  unfold ledger
  rw [List.mem_filterMap]
  constructor
  · rintro ⟨b, _, e⟩
    split at e
    · cases e
    · rename_i hb
      obtain ⟨o', ho, e'⟩ := Option.map_eq_some_iff.mp e
      cases e'
      exact ⟨fun q => hb (.inl q), fun q => hb (.inr q), ho⟩
  · rintro ⟨n1, n2, ho⟩
    refine ⟨a, List.mem_range.mpr (Heap.lt_size ho), ?_⟩
    rw [if_neg (show ¬ (a = L ∨ a = d) from fun q => q.elim n1 n2), ho] <;> rfl
theorem news_ledger {h : Heap} {L d : Addr} {od : Obj} (hne : d ≠ L) (ho : h.get? d = some od) : News (noObjs h) L h ([] ++ (d, od) :: ledger h L d) := by
  rintro ⟨a, o⟩ hp
  rcases List.mem_cons.mp hp with e | hp
  · cases e
    exact ⟨ho, hne, noObjs_get _ _⟩
  · obtain ⟨n1, n2, e⟩ := mem_ledger.mp hp
    exact ⟨e, n1, noObjs_get _ _⟩
theorem fr_all {h : Heap} {L : Addr} {m : Str → Option Value} (n : h.Ns L m) : Fr (noObjs h) L h m :=
  ⟨n, fun b o e => (by rw [noObjs_get] at e; cases e), Nat.zero_le _⟩
/-- Upd of the head entry (for append_K, setItem_K ..) -/
theorem upd_ledger {h : Heap} {L d : Addr} {o o' : Obj} : Upd d o o' ((d, o) :: ledger h L d) ((d, o') :: ledger h L d) :=
  .head fun ⟨_, _⟩ hp => (mem_ledger.mp hp).2.1

/-- x.name = v over any heap: L is any namespace of the heap (the frame's, say): its map stays, its object is not told; all else but the dict stays -/
theorem set_field {x C dx L : Addr} {ox : Obj} {m : Str → Option Value} {es es' : List DictEntry} {n n' : Nat} {name : Str} {v : Value} {Q : Unit → Shared → Prop}
    (X : K.In s.heap) (I : PySem.W.InstAt s.heap x ox C (some (dictOf es n))) (hd : ox.dict = some dx) (hL : s.heap.Ns L m) (hne : dx ≠ L)
    (hs : findIn K (.ref C) "__setattr__" = some (some (.builtin "object.__setattr__"))) (hp : plainOver K C = true) (ht : takerIn K C name = some none) (hh : hasDictIn K C = true) (hl : (getL name es).isSome = true)
    (e : (putL name (PyData.keyHash w.params name) (.str name (s.toks + 1)) v es, putN name es n) = (es', n')) (hz : es'.length ≤ 1000)
    (h : ∀ h' : Heap, h'.Ns L m → h'.get? dx = some (dictOf es' n') → (∀ b o, b ≠ dx → b ≠ L → s.heap.get? b = some o → h'.get? b = some o) → Q () { s with heap := h', toks := s.toks + 2 }) :
    wpAny (model prog w) A (setAttr (.ref x) name v) Q E s := by
  obtain ⟨e1, e2⟩ := Prod.mk.inj e
  have hdx : s.heap.get? dx = some (dictOf es n) := by
    have := I.dict
    rw [hd] at this
    exact this
  refine set_plain X I hs (osa_dict (s := { s with toks := s.toks + 1 }) (h₀ := noObjs s.heap) (L := L) (m := m) (od := dictOf es n) (od' := dictOf es' n') (es := es') (n := n') (pre := []) (post := ledger s.heap L dx)
    (fr_all hL) (news_ledger hne hdx) X I hd hp ht hh hl (fun _ q => nomatch q) (fun ⟨_, _⟩ q => (mem_ledger.mp q).2.1) (by rw [putName_dict, e1, e2]) rfl hz fun h' F' N' => ?_)
  exact h h' F'.ns (N'.get (List.Mem.head _)) fun b o n1 n2 ho => N'.get (List.Mem.tail _ (mem_ledger.mpr ⟨n2, n1, ho⟩))
end
end Att

namespace L2
open PySem PySem.Spec PyProof.Rows

theorem vals_ints : ∀ {vs : List Value} {ns : List Int}, IntsAre vs ns → Vals (ns.map V.int) vs
  | _, _, .nil => .nil
  | _, _, .cons n t h => .cons ⟨t, rfl⟩ (vals_ints h)

/-- nothing is tracked but the script, known to the object (or it is an object of the module) -/
def Only (H : Hp) : Prop := ∀ b, H b = none ∨ ∃ o xs, H b = some (.frz o (.lst xs))

/-- THE HEAD: the law's promise, at the heap behind the top. F, the promise of the law's def, may use that base is part of the heap (so K.In base, base.Ns mainGlobals mg stand in Mod) -/
theorem law_call {P : Program} {w : World} {K : PySem.W.Frag} {mg mb : Str → Option Value} {CX : CXT} {k : Nat} {fa a : Addr} {fd : FuncData} {x : Str} {sp : Sp} {s₁ : Shared} {vs : List Value} {ns : List Int}
    (KX : K.In s₁.heap) (hns : s₁.heap.Ns mainGlobals mg) (hb : s₁.heap.Ns builtinsNs mb) (hbb : ∀ x : Str, x ≠ "__name__" → mb x = bootBuiltins x) (hlim : s₁.heap.NoLimit) (hg : s₁.gens = #[])
    (ha : s₁.heap.get? a = some { cls := .type "list", data := .seq vs.toArray }) (hi : IntsAre vs ns) (hl : ns.length ≤ sizeLine) (hr : Room k callerA)
    (F : ∀ base : Heap, K.In base → base.Ns mainGlobals mg → FnOk P w K mg base CX k fa fd [x] sp) (hbind : ∀ (s : Shared) (u : Value), BindsTo s fd ⟨[u], []⟩ [(x, u)])
    (hsp : ∀ H : Hp, Only H → SqL K H a (ns.map V.int) → sp [.ref a] H (fun v _ => v = .bl true) fun _ _ _ => False)
    (hCX : ∀ H e s', CX [] H s₁ (fun _ _ _ => False) e s' → False) :
    codeAny (model P w) callerA (.call (.ref fa) ⟨[.ref a], []⟩) (fun r s' => r = .ok (.ret (.bool true)) ∧ OldK s₁.heap s'.heap ∧ s'.os = s₁.os ∧ AllBare s'.gens) s₁ := by
  have rv := vals_ints hi
  have lenV := hi.length
  -- from an abstract heap in which nothing but the script may be tracked
  have core : ∀ H : Hp, Only H → SqL K H a (ns.map V.int) → HOk P w H s₁.heap → (∀ b, H b ≠ none → b = a) → (H a ≠ none → K.lookup a = none) →
      codeAny (model P w) callerA (.call (.ref fa) ⟨[.ref a], []⟩) (fun r s' => r = .ok (.ret (.bool true)) ∧ OldK s₁.heap s'.heap ∧ s'.os = s₁.os ∧ AllBare s'.gens) s₁ := by
    intro H hO hS hok hA hK
    have base_of : ∀ {b : Addr} {o : Obj}, s₁.heap.get? b = some o → H b = none → (hidT s₁.heap H).get? b = some o := fun e n => hidT_get e n
    have noA : ∀ {b : Addr} {o : Obj} {es : Array DictEntry} {ep : Nat}, s₁.heap.get? b = some o → o.data = .dict es ep → H b = none := fun {b o es ep} e d => by
      cases q : H b with
      | none => rfl
      | some u =>
        have e' : b = a := hA b (by rw [q]; simp)
        subst e'
        rw [ha] at e; cases e
        have d' : Data.seq vs.toArray _ = Data.dict es ep := d
        cases d'
    have nsK : ∀ {b : Addr} {m : Str → Option Value}, s₁.heap.Ns b m → (hidT s₁.heap H).Ns b m := fun {b m} ⟨o, es, ep, e, d, r⟩ => ⟨o, es, ep, base_of e (noA e d), d, r⟩
    have hKb : K.In (hidT s₁.heap H) := fun b o e => base_of (KX b o e) (by
      cases q : H b with
      | none => rfl
      | some u =>
        have e' : b = a := hA b (by rw [q]; simp)
        subst e'
        rw [hK (by rw [q]; simp)] at e; cases e)
    have hM : Mod K mg (hidT s₁.heap H) := ⟨hKb, nsK hns, ⟨mb, nsK hb, hbb⟩, let ⟨mc, h1, h2⟩ := hlim; ⟨mc, nsK h1, h2⟩⟩
    have e0 : Env0 P w K mg (hidT s₁.heap H) callerA [] s₁ H := ⟨rfl, hM, fun b o e => of_hidT e, Nat.le_of_eq (hidT_size _ _), trivial, fun b hb => absurd (show b ∈ ([] : List Addr) from hb) (by simp), hok, .of_eq hg⟩
    refine codeAny_mono ((F _ hKb (nsK hns)).run callerA [] s₁ H ⟨[.ref a], []⟩ [.ref a] [.ref a] _ _ hr e0 (hbind s₁ (.ref a)) (.cons rfl .nil) (hsp H hO hS)) fun r s' h => ?_
    cases r with
    | error e => exact (hCX H e s' h).elim
    | ok fl =>
      cases fl with
      | next => exact False.elim h
      | brk => exact False.elim h
      | cont => exact False.elim h
      | ret u =>
        obtain ⟨v, H', os, bare, un, hok', r', q⟩ := h
        have q' : v = .bl true := q
        subst q'
        obtain rfl : u = Value.bool true := r'
        refine ⟨rfl, OldK.of_keep fun b o e => ?_, os, bare⟩
        cases q : H b with
        | none => exact un.keep b o e q (by intro z; exact absurd (show b ∈ ([] : List Addr) from z) (by simp)) (by simp)
        | some u =>
          rcases hO b with z | ⟨ob, xs, z⟩
          · rw [q] at z; cases z
          · have z2 := un.frzs b ob _ z
            obtain ⟨e1, _⟩ := hok b _ z
            obtain ⟨e2, _⟩ := hok' b _ z2
            rw [e] at e1; cases e1
            exact e2
  cases hk : K.lookup a with
  | some o =>
    -- the script is one of the module's own objects
    have e := KX a o hk
    rw [ha] at e
    cases e
    refine core (fun _ => none) (fun _ => .inl rfl) (.inr ⟨_, vs.toArray, _, hk, rfl, rfl, rfl, by rw [List.size_toArray, lenV]; exact hl, by simpa using rv⟩) (fun b u z => by have z' : (none : Option HO) = some u := z; cases z') (fun b z => absurd rfl z) fun z => absurd rfl z
  | none =>
    refine core (fun b => if b = a then some (.frz { cls := .type "list", data := .seq vs.toArray } (.lst (ns.map V.int))) else none) (fun b => ?_) (.inl (.inr ⟨{ cls := .type "list", data := .seq vs.toArray }, if_pos rfl⟩)) (fun b u z => ?_) (fun b z => ?_) fun _ => hk
    · by_cases hb : b = a
      · exact .inr ⟨_, _, if_pos hb⟩
      · exact .inl (if_neg hb)
    · by_cases hb : b = a
      · have z' := (if_pos hb).symm.trans z
        cases z'
        subst hb
        exact ⟨ha, by rw [List.length_map]; exact hl, vs, _, rv, ha⟩
      · have z' := (if_neg hb).symm.trans z
        cases z'
    · by_cases hb : b = a
      · exact hb
      · exact absurd (if_neg hb) z
end L2

namespace L2
open PySem PySem.Spec PyProof.Rows

abbrev KOf {K : PySem.W.Frag} {h : Heap} (_ : K.In h) : PySem.W.Frag := K

/-- the goal that k_head leaves (case hc), from the law's promise. F gives the function object fd (K's own) once, then the promise over every base -/
theorem walk_of {l : PySem.W.OpenLaw} {n k : Nat} {q : Program} {loose : List Str} {XP : (Str → Option Value) → Heap → Prop} {YP : World → Heap → Prop} {d : DefRec} {K : Params → PySem.W.Frag} {CX : World → CXT} {sp : World → Sp} {x : Str}
    (hn : l.most = some n) (hn2 : n ≤ sizeLine) (hdf : d.params.defaults = []) (hr : Room k callerA)
    (hY : ∀ (w : World) (h : Heap), YP w h → (K w.params).In h)
    (F : ∀ (w : World) (mg : Str → Option Value) (fa : Addr) (h : Heap), (K w.params).In h → h.Ns mainGlobals mg → mg d.name = some (.ref fa) →
      ∃ fd : FuncData, (∀ (s : Shared) (u : Value), BindsTo s fd ⟨[u], []⟩ [(x, u)]) ∧
        ∀ base : Heap, (K w.params).In base → base.Ns mainGlobals mg → FnOk l.prog w (K w.params) mg base (CX w) k fa fd [x] (sp w))
    (hsp : ∀ (w : World) (H : Hp) (a : Addr) (ns : List Int), ns.length ≤ n → Only H → SqL (K w.params) H a (ns.map V.int) → sp w [.ref a] H (fun v _ => v = .bl true) fun _ _ _ => False)
    (hCX : ∀ (w : World) (H : Hp) (s : Shared) (e : Value) (s' : Shared), CX w [] H s (fun _ _ _ => False) e s' → False) :
    PySem.W.WalkO q loose XP YP l.row.toRowW d [] (fun f vs => PySem.call f vs) := by
  refine Att.attach_call hn hdf fun w s₀ s₁ mg mb fa o pm cd doc a vs ns G Y ho hd hcd hmg hobj hints hlen hg => ?_
  have KX := hY w _ Y
  obtain ⟨fd, hb, hF⟩ := F w mg fa _ KX G.T.g hmg
  exact law_call KX G.T.g G.T.b G.T.builtins G.T.nolimit hg hobj hints (Nat.le_trans hlen hn2) hr hF hb (fun H hO hS => hsp w H a ns hlen hO hS) fun H e s' => hCX w H s₁ e s'
/-- the same where the promise hangs on the written part alone: (sp := My.sp_law), no hole under a binder -/
theorem walk_ofK {l : PySem.W.OpenLaw} {n k : Nat} {q : Program} {loose : List Str} {XP : (Str → Option Value) → Heap → Prop} {YP : World → Heap → Prop} {d : DefRec} {K : Params → PySem.W.Frag} {CX : CXT} {sp : PySem.W.Frag → Sp} {x : Str}
    (hn : l.most = some n) (hn2 : n ≤ sizeLine) (hdf : d.params.defaults = []) (hr : Room k callerA)
    (hY : ∀ (w : World) (h : Heap), YP w h → (K w.params).In h)
    (F : ∀ (w : World) (mg : Str → Option Value) (fa : Addr) (h : Heap), (K w.params).In h → h.Ns mainGlobals mg → mg d.name = some (.ref fa) →
      ∃ fd : FuncData, (∀ (s : Shared) (u : Value), BindsTo s fd ⟨[u], []⟩ [(x, u)]) ∧
        ∀ base : Heap, (K w.params).In base → base.Ns mainGlobals mg → FnOk l.prog w (K w.params) mg base CX k fa fd [x] (sp (K w.params)))
    (hsp : ∀ (K : PySem.W.Frag) (H : Hp) (a : Addr) (ns : List Int), ns.length ≤ n → Only H → SqL K H a (ns.map V.int) → sp K [.ref a] H (fun v _ => v = .bl true) fun _ _ _ => False)
    (hCX : ∀ (H : Hp) (s : Shared) (e : Value) (s' : Shared), CX [] H s (fun _ _ _ => False) e s' → False) :
    PySem.W.WalkO q loose XP YP l.row.toRowW d [] (fun f vs => PySem.call f vs) :=
  walk_of (K := K) (CX := fun _ => CX) (sp := fun w => sp (K w.params)) hn hn2 hdf hr hY F (fun w H a ns h1 h2 h3 => hsp (K w.params) H a ns h1 h2 h3) fun _ H s e s' => hCX H s e s'
end L2

/- THE LAST THEOREM (shape; LID, My.* are yours):
   My.Adr: a structure of the addresses that your layer names (classes, functions); My.Txt K t: a structure (Prop) of the equations over K;
   My.txt_mk : {K} {implicit addresses ..} (e1 : nsIn K mainGlobals "law" = some (some (.ref f))) (e2 : K.lookup f = some ⟨oc, od, .func (fnOf "law" "law" params body scope dV kV doc pm an cdv ct), sl⟩) (e3 : codeIn K cdv "law" = true) .. : ∃ t, My.Txt K t

set_option maxRecDepth 100000 in
set_option maxHeartbeats 0 in
theorem PySem.Challenge.cw_LID_holds : PySem.Challenge.rw_LID.Holds := by
  w_on; o_law; k_head; (case hw => w_witness2)
  k_fill
  refine L2.walk_of (l := PySem.Challenge.rw_LID) (n := 63) (k := 40) (x := "script") (CX := fun w => ..) (sp := fun _ => My.sp_law) rfl (by decide) rfl ⟨rfl, by decide, by decide⟩ (fun w h Y => PySem.W.kIn_of Y) ?F ?S ?C
  case F =>
    intro w mg fa h KX G hmg
    have T : ∃ t, My.Txt (L2.KOf KX) t := by
      dsimp only [L2.KOf]                          -- K must stand as «<heap const> w.params» for k_is
      refine' My.txt_mk ?e1 ?e2 ?e3 ..
      (case e1 => PySem.W.k_is)                    -- in the order: a name -> its address -> its object -> its parts
      (case e2 => PySem.W.k_is)
      ..
    obtain ⟨t, T⟩ := T
    have e0 := hmg.symm.trans (PySem.W.mg_of KX G T.law)
    cases e0                                       -- fa is the law's own address
    exact ⟨_, fun s u => .of_eq rfl, fun base kb nb => My.law_fn T kb nb⟩     -- if «.of_eq rfl» comes too early: refine' ⟨_, ?b, fun base kb nb => My.law_fn T kb nb⟩; exact fun s u => .of_eq rfl
  case S => exact fun w H a ns hl hO hS => ..
  case C => exact ..
(the tactic k_is has no namespace: write k_is) -/

/-! SHORT WORDS over the layer: a def of the text, its body, what a loop and a test want. -/
namespace L2
open PySem PySem.Spec PyProof.Rows

/-! ### the text by places -/
/-- the j-th statement of a class's body -/
def inClass (s : Stmt) (j : Nat) : Stmt := match s with
  | .ClassDef _ _ _ body _ _ _ _ _ _ _ => body.getD j (.Pass ⟨0, 0, 0, 0⟩)
  | _ => .Pass ⟨0, 0, 0, 0⟩
def defArgs (s : Stmt) : Arguments := match s with
  | .FunctionDef _ a _ _ _ _ _ _ _ _ => a
  | _ => { posonlyargs := [], args := [], vararg := none, kwonlyargs := [], kw_defaults := [], kwarg := none, defaults := [] }
def defBody (s : Stmt) : List Stmt := match s with
  | .FunctionDef _ _ b _ _ _ _ _ _ _ => b
  | _ => []
def defScope (s : Stmt) : Scope := match s with
  | .FunctionDef _ _ _ _ _ _ sc _ _ _ => sc
  | _ => { kind := .function, names := [], isGenerator := false, isCoroutine := false }

/-! ### no exception leaves a def -/
abbrev CX0 : CXT := fun _ _ _ _ _ _ => False
abbrev E0 : XK := fun _ _ _ => False
theorem pass0 {X : Cx} : Passes CX0 X E0 := fun _ _ _ _ _ _ _ h => h.elim

/-! ### a def (or method) of the text as it stands behind the top -/
structure Fun (K : PySem.W.Frag) (x qual : Str) (st : Stmt) (f : Addr) (fd : FuncData) : Prop where
  ex : ∃ (oc : Value) (od : Option Addr) (kV doc pm : Value) (an : Option Addr) (cdv ct : Value) (osl : Array (Option Value)),
    fd = PySem.W.fnOf x qual (defArgs st) (defBody st) (defScope st) .none kV doc pm an cdv ct ∧ K.lookup f = some ⟨oc, od, .func fd, osl⟩ ∧ PySem.W.codeIn K cdv qual = true
  kp : PySem.W.keepIn K (.ref f) = true
section
variable {P : Program} {w : World} {K : PySem.W.Frag} {mg : Str → Option Value} {base : Heap}
/-- THE RULE for a def: its body as a term of rules, and the reading of that term -/
theorem Fun.ok {x qual : Str} {st : Stmt} {f : Addr} {fd : FuncData} {N ps : List Str} {k : Nat} {sp : Sp} (F : Fun K x qual st f fd) (S : FnScope N ps (defScope st)) (len : ∀ vs H Q E, sp vs H Q E → vs.length = ps.length)
    (hbody : ∀ (cdv : Value) (A : Around) (outer : List Env) (s : Shared) (H : Hp) (vs : List V) (Q : VK) (E : XK), Room k (A.deeper (envOfC qual (defScope st) s.heap.objs.size f cdv)) → sp vs H Q E →
      ∃ t, PSs (cxOf CX0 P w K mg base N qual (defScope st) f cdv A outer s H E).nox (defBody st) t ∧ t { nx := fun _ H' => Q .non H', rt := Q } (start N vs) H) : FnOk P w K mg base CX0 (k + 1) f fd ps sp := by
  obtain ⟨oc, od, kV, doc, pm, an, cdv, ct, osl, rfl, lk, hcd⟩ := F.ex
  refine fn_of lk hcd S len fun A outer s H vs Q E hr hsp => ?_
  obtain ⟨t, h, q⟩ := hbody cdv A outer s H vs Q E hr hsp
  exact ⟨t, h.nox, q⟩
/-- how its arguments bind (no defaults): h is «fun _ _ _ _ _ _ us hl => match us, hl with | [_, _], _ => rfl», one _ a parameter -/
theorem Fun.binds {x qual : Str} {st : Stmt} {f : Addr} {fd : FuncData} {ps : List Str} (F : Fun K x qual st f fd)
    (h : ∀ (kV doc pm : Value) (an : Option Addr) (cdv ct : Value) (us : List Value), us.length = ps.length → bindArgs (PySem.W.fnOf x qual (defArgs st) (defBody st) (defScope st) .none kV doc pm an cdv ct) ⟨us, []⟩ = pure (ps.zip us)) : Binds K fd ps [] := by
  obtain ⟨oc, od, kV, doc, pm, an, cdv, ct, osl, rfl, lk, hcd⟩ := F.ex
  exact .all (h kV doc pm an cdv ct)
theorem fun_mk {x qual : Str} {st : Stmt} {f : Addr} {oc : Value} {od an : Option Addr} {osl : Array (Option Value)} {kV doc pm cdv ct : Value} (l : K.lookup f = some ⟨oc, od, .func (PySem.W.fnOf x qual (defArgs st) (defBody st) (defScope st) .none kV doc pm an cdv ct), osl⟩)
    (c : PySem.W.codeIn K cdv qual = true) (k : PySem.W.keepIn K (.ref f) = true) : Fun K x qual st f (PySem.W.fnOf x qual (defArgs st) (defBody st) (defScope st) .none kV doc pm an cdv ct) := ⟨⟨oc, od, kV, doc, pm, an, cdv, ct, osl, rfl, l, c⟩, k⟩
end
theorem hu_of {A : Around} {k : Nat} (hr : Room k A) : A.units + 1 < cLine := Nat.lt_of_le_of_lt (Nat.add_le_add_left (by decide : 1 ≤ 64) _) hr.units
theorem small1000 {n : Nat} (h : n ≤ 1000) : n < sizeLine := Nat.lt_of_le_of_lt h (by decide)

/-! ### expressions in short: the name that stands in the i-th slot -/
section
variable {X : Cx}
theorem pv (i : Nat) {x : Str} {pos : Pos} (hN : X.N[i]? = some x := by rfl) (hv : Vis X.env.scope x := by first | exact Or.inl rfl | exact Or.inr (Or.inl rfl) | exact Or.inr (Or.inr rfl)) (hd : (x == ("__debug__" : Str)) = false := by decide)
    (hcd : (x == ("__classdict__" : Str)) = false := by decide) : PE X (.Name x pos) (tVar i) := pe_var hN hv hd hcd
end

/-! ### tests -/
theorem iteF {A B : Prop} (h : B) : if false = true then A else B := by
  rw [if_neg Bool.false_ne_true]
  exact h
theorem iteT {A B : Prop} (h : A) : if true = true then A else B := by
  rw [if_pos rfl]
  exact h
theorem ite2 {c A B : Prop} [Decidable c] (h1 : c → A) (h2 : ¬ c → B) : if c then A else B := by
  by_cases h : c
  · rw [if_pos h]
    exact h1 h
  · rw [if_neg h]
    exact h2 h
theorem iteNS {c A B : Prop} [Decidable c] (hc : c) (h : B) : if (!decide c) = true then A else B := by
  rw [decide_eq_true hc]
  exact iteF h

/-! ### heaps -/
/-- all that was tracked is as it was -/
def Same (H H' : Hp) : Prop := ∀ b o, H b = some o → H' b = some o
theorem Same.refl (H : Hp) : Same H H := fun _ _ h => h
theorem Same.trans {H H1 H2 : Hp} (a : Same H H1) (b : Same H1 H2) : Same H H2 := fun c o h => b c o (a c o h)
theorem Same.free {H H' : Hp} (e : Same H H') {l : Addr} (h : H' l = Option.none) : H l = Option.none := by
  cases q : H l with
  | none => rfl
  | some o =>
    rw [e l o q] at h
    cases h
theorem Same.seq {K : PySem.W.Frag} {H H' : Hp} {a : Addr} {xs : List V} (e : Same H H') (h : SqL K H a xs) : SqL K H' a xs := by
  rcases h with (h | ⟨o, h⟩) | h
  · exact .inl (.inl (e _ _ h))
  · exact .inl (.inr ⟨o, e _ _ h⟩)
  · exact .inr h

end L2

set_option Elab.async false
set_option linter.all false
set_option maxRecDepth 100000
namespace TM
open PySem PySem.Spec PyProof.Rows L2

/-! ### values as trees -/
inductive T where
  | non | bl (b : Bool) | int (i : Int) | str (x : Str) | ty (n : String) | tup (ts : List T) | lst (ts : List T) | scr (ts : List T) | dic

mutual
def Rep (K : PySem.W.Frag) (F : Hp) : T → V → Prop
  | .non, v => v = .non
  | .bl b, v => v = .bl b
  | .int i, v => v = .int i
  | .str x, v => v = .str x
  | .ty n, v => v = .ty n
  | .tup ts, v => ∃ a xs, v = .ref a ∧ SqT K F a xs ∧ Reps K F ts xs
  | .lst ts, v => ∃ a xs, v = .ref a ∧ F a = some (.lst xs) ∧ Reps K F ts xs
  | .scr ts, v => ∃ a xs, v = .ref a ∧ SqL K F a xs ∧ Reps K F ts xs
  | .dic, v => ∃ a, v = .ref a ∧ F a = some (.dK [])
def Reps (K : PySem.W.Frag) (F : Hp) : List T → List V → Prop
  | [], xs => xs = []
  | t :: ts, xs => ∃ v r, xs = v :: r ∧ Rep K F t v ∧ Reps K F ts r
end

theorem same_sqT {K : PySem.W.Frag} {H H' : Hp} {a : Addr} {xs : List V} (e : Same H H') (h : SqT K H a xs) : SqT K H' a xs := by
  rcases h with (h | ⟨o, h⟩) | h
  · exact .inl (.inl (e _ _ h))
  · exact .inl (.inr ⟨o, e _ _ h⟩)
  · exact .inr h

mutual
theorem Rep.mono {K : PySem.W.Frag} {F F' : Hp} (e : Same F F') : ∀ {t : T} {v : V}, Rep K F t v → Rep K F' t v
  | .non, _, h => h
  | .bl _, _, h => h
  | .int _, _, h => h
  | .str _, _, h => h
  | .ty _, _, h => h
  | .tup ts, _, h => by
    obtain ⟨a, xs, h1, h2, h3⟩ := h
    exact ⟨a, xs, h1, same_sqT e h2, Reps.mono e h3⟩
  | .lst ts, _, h => by
    obtain ⟨a, xs, h1, h2, h3⟩ := h
    exact ⟨a, xs, h1, e _ _ h2, Reps.mono e h3⟩
  | .scr ts, _, h => by
    obtain ⟨a, xs, h1, h2, h3⟩ := h
    exact ⟨a, xs, h1, e.seq h2, Reps.mono e h3⟩
  | .dic, _, h => by
    obtain ⟨a, h1, h2⟩ := h
    exact ⟨a, h1, e _ _ h2⟩
theorem Reps.mono {K : PySem.W.Frag} {F F' : Hp} (e : Same F F') : ∀ {ts : List T} {vs : List V}, Reps K F ts vs → Reps K F' ts vs
  | [], _, h => h
  | t :: ts, _, h => by
    obtain ⟨v, r, h1, h2, h3⟩ := h
    exact ⟨v, r, h1, Rep.mono e h2, Reps.mono e h3⟩
end

section
variable {K : PySem.W.Frag} {F : Hp}
theorem Reps.length : ∀ {ts : List T} {vs : List V}, Reps K F ts vs → vs.length = ts.length
  | [], _, h => by cases h; rfl
  | t :: ts, _, h => by
    obtain ⟨v, r, rfl, h2, h3⟩ := h
    simp [Reps.length h3]
theorem Reps.get : ∀ {ts : List T} {vs : List V} {i : Nat} {t : T}, Reps K F ts vs → ts[i]? = some t → ∃ v, vs[i]? = some v ∧ Rep K F t v
  | [], _, _, _, h, e => by simp at e
  | t :: ts, _, 0, _, h, e => by
    obtain ⟨v, r, rfl, h2, h3⟩ := h
    simp at e; subst e
    exact ⟨v, rfl, h2⟩
  | t :: ts, _, i + 1, u, h, e => by
    obtain ⟨v, r, rfl, h2, h3⟩ := h
    obtain ⟨w, h4, h5⟩ := Reps.get (i := i) (t := u) h3 (by simpa using e)
    exact ⟨w, by simpa using h4, h5⟩
theorem Reps.append : ∀ {ts us : List T} {vs ws : List V}, Reps K F ts vs → Reps K F us ws → Reps K F (ts ++ us) (vs ++ ws)
  | [], _, _, _, h, h' => by cases h; exact h'
  | t :: ts, _, _, _, h, h' => by
    obtain ⟨v, r, rfl, h2, h3⟩ := h
    exact ⟨v, r ++ _, rfl, h2, Reps.append h3 h'⟩
theorem Reps.one {t : T} {v : V} (h : Rep K F t v) : Reps K F [t] [v] := ⟨v, [], rfl, h, rfl⟩
theorem Reps.take : ∀ {ts : List T} {vs : List V} (n : Nat), Reps K F ts vs → Reps K F (ts.take n) (vs.take n)
  | _, _, 0, _ => rfl
  | [], _, n + 1, h => by cases h; rfl
  | t :: ts, _, n + 1, h => by
    obtain ⟨v, r, rfl, h2, h3⟩ := h
    exact ⟨v, r.take n, rfl, h2, Reps.take n h3⟩
theorem Reps.drop : ∀ {ts : List T} {vs : List V} (n : Nat), Reps K F ts vs → Reps K F (ts.drop n) (vs.drop n)
  | _, _, 0, h => h
  | [], _, n + 1, h => by cases h; rfl
  | t :: ts, _, n + 1, h => by
    obtain ⟨v, r, rfl, h2, h3⟩ := h
    exact Reps.drop n h3
theorem Reps.rev : ∀ {ts : List T} {vs : List V}, Reps K F ts vs → Reps K F ts.reverse vs.reverse
  | [], _, h => by cases h; rfl
  | t :: ts, _, h => by
    obtain ⟨v, r, rfl, h2, h3⟩ := h
    rw [List.reverse_cons, List.reverse_cons]
    exact (Reps.rev h3).append (.one h2)
theorem reps_ints : ∀ ns : List Int, Reps K F (ns.map T.int) (ns.map V.int)
  | [] => rfl
  | n :: ns => ⟨.int n, ns.map V.int, rfl, rfl, reps_ints ns⟩
end

/-! ### heaps that grow -/
structure Grow (F H F' H' : Hp) : Prop where
  sF : Same F F'
  sH : Same H H'
  fh : Same F' H'
  nw : ∀ a o, F' a = some o → F a = some o ∨ H a = none
theorem Grow.refl {F H : Hp} (h : Same F H) : Grow F H F H := ⟨Same.refl _, Same.refl _, h, fun _ _ e => .inl e⟩
theorem Grow.trans {F H F1 H1 F2 H2 : Hp} (a : Grow F H F1 H1) (b : Grow F1 H1 F2 H2) : Grow F H F2 H2 :=
  ⟨a.sF.trans b.sF, a.sH.trans b.sH, b.fh, fun x o e => by
    rcases b.nw x o e with e | e
    · exact a.nw x o e
    · exact .inr (a.sH.free e)⟩
theorem same_updN {H : Hp} {p : Addr} {o : HO} (h : H p = none) : Same H (upd H p o) := fun b u q => by rw [upd_ne (ne_of_none q h)]; exact q
theorem Grow.new {F H : Hp} {p : Addr} (o : HO) (h : Same F H) (n : H p = none) : Grow F H (upd F p o) (upd H p o) := by
  refine ⟨same_updN (h.free n), same_updN n, fun b u q => ?_, fun a u q => ?_⟩
  · by_cases e : b = p
    · subst e; rw [upd_same] at q ⊢; exact q
    · rw [upd_ne e] at q ⊢; exact h _ _ q
  · by_cases e : a = p
    · subst e; exact .inr n
    · rw [upd_ne e] at q; exact .inl q

/-! ### the slots of a def's names -/
inductive Sl where
  | sh (t : T) | own (ts : List T)
abbrev TEnv := List (Option Sl)
def SlOk (K : PySem.W.Frag) (H₀ F H : Hp) : Sl → V → Prop
  | .sh t, v => Rep K F t v
  | .own ts, v => ∃ p vs, v = .ref p ∧ H p = some (.lst vs) ∧ F p = none ∧ H₀ p = none ∧ Reps K F ts vs
structure EnvOk (K : PySem.W.Frag) (F₀ H₀ F H : Hp) (σ : L2.St) (τ : TEnv) : Prop where
  g : Grow F₀ H₀ F H
  len : σ.length = τ.length
  sl : ∀ (i : Nat) (s : Sl), τ[i]? = some (some s) → ∃ v, σ[i]? = some (some v) ∧ SlOk K H₀ F H s v
  dj : ∀ (i j : Nat) (ts us : List T) (p : Addr), i ≠ j → τ[i]? = some (some (.own ts)) → τ[j]? = some (some (.own us)) → σ[i]? = some (some (.ref p)) → σ[j]? ≠ some (some (.ref p))
section
variable {K : PySem.W.Frag} {F₀ H₀ F H F' H' : Hp} {σ : L2.St} {τ : TEnv}
theorem SlOk.grow {s : Sl} {v : V} (g : Grow F H F' H') (h : SlOk K H₀ F H s v) : SlOk K H₀ F' H' s v := by
  cases s with
  | sh t => exact Rep.mono g.sF h
  | own ts =>
    obtain ⟨p, vs, h1, h2, h3, h4, h5⟩ := h
    refine ⟨p, vs, h1, g.sH _ _ h2, ?_, h4, Reps.mono g.sF h5⟩
    cases e : F' p with
    | none => rfl
    | some o =>
      rcases g.nw p o e with q | q
      · rw [q] at h3; cases h3
      · rw [q] at h2; cases h2
theorem EnvOk.grow (E : EnvOk K F₀ H₀ F H σ τ) (g : Grow F H F' H') : EnvOk K F₀ H₀ F' H' σ τ := by
  refine ⟨E.g.trans g, E.len, fun i s e => ?_, E.dj⟩
  obtain ⟨v, h1, h2⟩ := E.sl i s e
  exact ⟨v, h1, h2.grow g⟩
theorem EnvOk.set {i : Nat} {t : T} {v : V} (E : EnvOk K F₀ H₀ F H σ τ) (r : Rep K F t v) : EnvOk K F₀ H₀ F H (σ.set i (some v)) (τ.set i (some (.sh t))) := by
  refine ⟨E.g, by simp [E.len], fun j s e => ?_, fun j k ts us p hjk e1 e2 e3 => ?_⟩
  · by_cases hj : i = j
    · subst hj
      by_cases hl : i < τ.length
      · rw [List.getElem?_set_self hl] at e
        cases e
        exact ⟨v, List.getElem?_set_self (by rw [E.len]; exact hl), r⟩
      · rw [List.getElem?_eq_none (by simp; omega)] at e; cases e
    · rw [List.getElem?_set_ne hj] at e
      rw [List.getElem?_set_ne hj]
      exact E.sl j s e
  · have n1 : i ≠ j := fun z => by
      subst z
      by_cases hl : i < τ.length
      · rw [List.getElem?_set_self hl] at e1; cases e1
      · rw [List.getElem?_eq_none (by simp; omega)] at e1; cases e1
    have n2 : i ≠ k := fun z => by
      subst z
      by_cases hl : i < τ.length
      · rw [List.getElem?_set_self hl] at e2; cases e2
      · rw [List.getElem?_eq_none (by simp; omega)] at e2; cases e2
    rw [List.getElem?_set_ne n1] at e1 e3
    rw [List.getElem?_set_ne n2] at e2 ⊢
    exact E.dj j k ts us p hjk e1 e2 e3
/-- an own list is let out: it is frozen from now on -/
theorem EnvOk.freeze {i : Nat} {ts : List T} (E : EnvOk K F₀ H₀ F H σ τ) (e : τ[i]? = some (some (.own ts))) :
    ∃ F' v, σ[i]? = some (some v) ∧ EnvOk K F₀ H₀ F' H σ (τ.set i (some (.sh (.lst ts)))) ∧ Same F F' ∧ Rep K F' (.lst ts) v := by
  obtain ⟨v, h1, p, vs, rfl, h2, h3, h4, h5⟩ := E.sl i _ e
  have sF : Same F (upd F p (.lst vs)) := same_updN h3
  have rp : Rep K (upd F p (.lst vs)) (.lst ts) (.ref p) := ⟨p, vs, rfl, upd_same, Reps.mono sF h5⟩
  refine ⟨upd F p (.lst vs), .ref p, h1, ⟨⟨E.g.sF.trans sF, E.g.sH, fun b o q => ?_, fun b o q => ?_⟩, by simp [E.len], fun j s q => ?_, fun j k us ws r hjk e1 e2 e3 => ?_⟩, sF, rp⟩
  · by_cases z : b = p
    · subst z; rw [upd_same] at q; cases q; exact h2
    · rw [upd_ne z] at q; exact E.g.fh _ _ q
  · by_cases z : b = p
    · subst z; exact .inr h4
    · rw [upd_ne z] at q; exact E.g.nw _ _ q
  · by_cases hj : i = j
    · subst hj
      have hl : i < τ.length := by
        have := (List.getElem?_eq_some_iff.mp e).1
        exact this
      rw [List.getElem?_set_self hl] at q
      cases q
      exact ⟨_, h1, rp⟩
    · rw [List.getElem?_set_ne hj] at q
      obtain ⟨v, g1, g2⟩ := E.sl j s q
      refine ⟨v, g1, ?_⟩
      cases s with
      | sh t => exact Rep.mono sF g2
      | own us =>
        obtain ⟨r, ws, rfl, k2, k3, k4, k5⟩ := g2
        have hne : r ≠ p := fun z => by
          subst z
          exact E.dj i j ts us r hj e q h1 g1
        exact ⟨r, ws, rfl, k2, by rw [upd_ne hne]; exact k3, k4, Reps.mono sF k5⟩
  · have hl : i < τ.length := (List.getElem?_eq_some_iff.mp e).1
    have n1 : i ≠ j := fun z => by subst z; rw [List.getElem?_set_self hl] at e1; cases e1
    have n2 : i ≠ k := fun z => by subst z; rw [List.getElem?_set_self hl] at e2; cases e2
    rw [List.getElem?_set_ne n1] at e1
    rw [List.getElem?_set_ne n2] at e2
    exact E.dj j k us ws r hjk e1 e2 e3
/-- a new own list -/
theorem EnvOk.setOwn {i : Nat} {ts : List T} {vs : List V} {p : Addr} (E : EnvOk K F₀ H₀ F H σ τ) (n : H p = none) (r : Reps K F ts vs) : EnvOk K F₀ H₀ F (upd H p (.lst vs)) (σ.set i (some (.ref p))) (τ.set i (some (.own ts))) := by
  have sH : Same H (upd H p (.lst vs)) := same_updN n
  have fp : F p = none := E.g.fh.free n
  have old : ∀ {j : Nat} {s : Sl}, i ≠ j → τ[j]? = some (some s) → ∃ v, σ[j]? = some (some v) ∧ SlOk K H₀ F (upd H p (.lst vs)) s v := fun {j s} hj q => by
    obtain ⟨v, g1, g2⟩ := E.sl j s q
    refine ⟨v, g1, ?_⟩
    cases s with
    | sh t => exact g2
    | own us =>
      obtain ⟨r, ws, rfl, k2, k3, k4, k5⟩ := g2
      exact ⟨r, ws, rfl, sH _ _ k2, k3, k4, k5⟩
  refine ⟨⟨E.g.sF, E.g.sH.trans sH, E.g.fh.trans sH, E.g.nw⟩, by simp [E.len], fun j s e => ?_, fun j k ts' us q hjk e1 e2 e3 e4 => ?_⟩
  · by_cases hj : i = j
    · subst hj
      by_cases hl : i < τ.length
      · rw [List.getElem?_set_self hl] at e
        cases e
        exact ⟨.ref p, List.getElem?_set_self (by rw [E.len]; exact hl), p, vs, rfl, upd_same, fp, E.g.sH.free n, r⟩
      · rw [List.getElem?_eq_none (by simp; omega)] at e; cases e
    · rw [List.getElem?_set_ne hj] at e
      rw [List.getElem?_set_ne hj]
      exact old hj e
  · by_cases hj : i = j
    · subst hj
      have n2 : i ≠ k := hjk
      rw [List.getElem?_set_ne n2] at e2 e4
      by_cases hl : i < τ.length
      · rw [List.getElem?_set_self (by rw [E.len]; exact hl)] at e3
        cases e3
        obtain ⟨v, g1, r', ws, rfl, k2, _⟩ := E.sl k _ e2
        rw [g1] at e4; cases e4
        rw [n] at k2; cases k2
      · rw [List.getElem?_eq_none (by simp; omega)] at e1; cases e1
    · rw [List.getElem?_set_ne hj] at e1 e3
      by_cases hk : i = k
      · subst hk
        by_cases hl : i < τ.length
        · rw [List.getElem?_set_self (by rw [E.len]; exact hl)] at e4
          cases e4
          obtain ⟨v, g1, r', ws, rfl, k2, _⟩ := E.sl j _ e1
          rw [g1] at e3; cases e3
          rw [n] at k2; cases k2
        · rw [List.getElem?_eq_none (by simp; omega)] at e2; cases e2
      · rw [List.getElem?_set_ne hk] at e2 e4
        exact E.dj j k ts' us q hjk e1 e2 e3 e4
/-- an own list is changed -/
theorem EnvOk.turnOwn {i : Nat} {ts us : List T} {vs : List V} {p : Addr} (E : EnvOk K F₀ H₀ F H σ τ) (e : τ[i]? = some (some (.own ts))) (hp : σ[i]? = some (some (.ref p))) (r : Reps K F us vs) :
    EnvOk K F₀ H₀ F (upd H p (.lst vs)) σ (τ.set i (some (.own us))) := by
  obtain ⟨v, h1, p', vs', rfl, h2, h3, h4, h5⟩ := E.sl i _ e
  rw [hp] at h1; cases h1
  have hl : i < τ.length := (List.getElem?_eq_some_iff.mp e).1
  refine ⟨⟨E.g.sF, fun b o q => ?_, fun b o q => ?_, E.g.nw⟩, by simp [E.len], fun j s q => ?_, fun j k ts' us' q hjk e1 e2 e3 => ?_⟩
  · rw [upd_ne (fun z => by subst z; rw [h4] at q; cases q)]; exact E.g.sH _ _ q
  · rw [upd_ne (fun z => by subst z; rw [h3] at q; cases q)]; exact E.g.fh _ _ q
  · by_cases hj : i = j
    · subst hj
      rw [List.getElem?_set_self hl] at q; cases q
      exact ⟨_, hp, p, vs, rfl, upd_same, h3, h4, r⟩
    · rw [List.getElem?_set_ne hj] at q
      obtain ⟨v, g1, g2⟩ := E.sl j s q
      refine ⟨v, g1, ?_⟩
      cases s with
      | sh t => exact g2
      | own us' =>
        obtain ⟨r', ws, rfl, k2, k3, k4, k5⟩ := g2
        have hne : r' ≠ p := fun z => by subst z; exact E.dj i j ts us' r' hj e q hp g1
        exact ⟨r', ws, rfl, by rw [upd_ne hne]; exact k2, k3, k4, k5⟩
  · have q1 : ∃ zs, τ[j]? = some (some (.own zs)) := by
      by_cases hj : i = j
      · subst hj; exact ⟨_, e⟩
      · rw [List.getElem?_set_ne hj] at e1; exact ⟨_, e1⟩
    have q2 : ∃ zs, τ[k]? = some (some (.own zs)) := by
      by_cases hj : i = k
      · subst hj; exact ⟨_, e⟩
      · rw [List.getElem?_set_ne hj] at e2; exact ⟨_, e2⟩
    obtain ⟨z1, q1⟩ := q1
    obtain ⟨z2, q2⟩ := q2
    exact E.dj j k z1 z2 q hjk q1 q2 e3
end
end TM

set_option Elab.async false
set_option linter.all false
set_option maxRecDepth 100000
namespace TM
open PySem PySem.Spec PyProof.Rows L2

abbrev FE := TEnv → Option (T × TEnv)
abbrev FA := TEnv → Option (List T × TEnv)
abbrev FT := TEnv → Option (Bool × TEnv)
inductive R where
  | nx (τ : TEnv) | rt (t : T) | bk (τ : TEnv) | ct (τ : TEnv)
abbrev FS := TEnv → Option R
/-- a target: what a value makes of the slots -/
abbrev FG := T → TEnv → Option TEnv

section
variable (K : PySem.W.Frag) (F₀ H₀ : Hp)
def tE (f : FE) : TE := fun σ H Q => ∃ F τ t τ', EnvOk K F₀ H₀ F H σ τ ∧ f τ = some (t, τ') ∧ ∀ F' H' v, EnvOk K F₀ H₀ F' H' σ τ' → Same F F' → Rep K F' t v → Q v H'
def tA (f : FA) : TA := fun σ H Q => ∃ F τ ts τ', EnvOk K F₀ H₀ F H σ τ ∧ f τ = some (ts, τ') ∧ ∀ F' H' vs, EnvOk K F₀ H₀ F' H' σ τ' → Same F F' → Reps K F' ts vs → Q vs H'
def tT (f : FT) : TT := fun σ H Q => ∃ F τ b τ', EnvOk K F₀ H₀ F H σ τ ∧ f τ = some (b, τ') ∧ ∀ F' H', EnvOk K F₀ H₀ F' H' σ τ' → Same F F' → Q b H'
def FlowOk (F : Hp) (D : Ends) : R → Prop
  | .nx τ' => ∀ F' H' σ', EnvOk K F₀ H₀ F' H' σ' τ' → Same F F' → D.nx σ' H'
  | .rt t => ∀ F' H' v, Grow F₀ H₀ F' H' → Rep K F' t v → D.rt v H'
  | .bk τ' => ∀ F' H' σ', EnvOk K F₀ H₀ F' H' σ' τ' → Same F F' → D.bk σ' H'
  | .ct τ' => ∀ F' H' σ', EnvOk K F₀ H₀ F' H' σ' τ' → Same F F' → D.ct σ' H'
def tS (f : FS) : TS := fun D σ H => ∃ F τ r, EnvOk K F₀ H₀ F H σ τ ∧ f τ = some r ∧ FlowOk K F₀ H₀ F D r
end
def SE (X : Cx) (e : Expr) (f : FE) : Prop := ∀ F₀ H₀, PE X e (tE X.K F₀ H₀ f)
def SA (X : Cx) (es : List Expr) (f : FA) : Prop := ∀ F₀ H₀, PA X es (tA X.K F₀ H₀ f)
def ST (X : Cx) (e : Expr) (f : FT) : Prop := ∀ F₀ H₀, PT X e (tT X.K F₀ H₀ f)
def SW (X : Cx) (e : Expr) (f : FT) : Prop := ∀ F₀ H₀, PW X e (tT X.K F₀ H₀ f)
def SS (X : Cx) (st : Stmt) (f : FS) : Prop := ∀ F₀ H₀, PS X st (tS X.K F₀ H₀ f)
def SSs (X : Cx) (st : List Stmt) (f : FS) : Prop := ∀ F₀ H₀, PSs X st (tS X.K F₀ H₀ f)

section
variable {X : Cx} {e a b : Expr} {pos : Pos} {f fa fb : FE}
theorem PE.weak {t t' : TE} (h : PE X e t) (i : ∀ σ H Q, t' σ H Q → t σ H Q) : PE X e t' := fun pins s σ H Q I q => h pins s σ H Q I (i σ H Q q)
theorem PT.weak {t t' : TT} (h : PT X e t) (i : ∀ σ H Q, t' σ H Q → t σ H Q) : PT X e t' := fun pins s σ H Q I q => h pins s σ H Q I (i σ H Q q)
theorem PW.weak {t t' : TT} (h : PW X e t) (i : ∀ σ H Q, t' σ H Q → t σ H Q) : PW X e t' := fun wh pins s σ H Q I q => h wh pins s σ H Q I (i σ H Q q)
theorem PA.weak {es : List Expr} {t t' : TA} (h : PA X es t) (i : ∀ σ H Q, t' σ H Q → t σ H Q) : PA X es t' := fun p pins s σ H Q I q => h p pins s σ H Q I (i σ H Q q)
theorem PS.weak {st : Stmt} {t t' : TS} (h : PS X st t) (i : ∀ D σ H, t' D σ H → t D σ H) : PS X st t' := fun pins s σ H D I q => h pins s σ H D I (i D σ H q)
theorem PSs.weak {st : List Stmt} {t t' : TS} (h : PSs X st t) (i : ∀ D σ H, t' D σ H → t D σ H) : PSs X st t' := fun pins s σ H D I q => h pins s σ H D I (i D σ H q)

/-! ### names, constants -/
def fC (t : T) : FE := fun τ => some (t, τ)
def fVar (i : Nat) : FE := fun τ => match τ[i]? with
  | some (some (.sh t)) => some (t, τ)
  | some (some (.own ts)) => some (.lst ts, τ.set i (some (.sh (.lst ts))))
  | _ => none
theorem se_const {t : T} {v : V} (h : PE X e (tC v)) (r : ∀ F, Rep X.K F t v) : SE X e (fC t) := fun F₀ H₀ => PE.weak h fun σ H Q ⟨F, τ, t', τ', E, e1, q⟩ => by
  cases e1
  exact q F H v E (Same.refl _) (r F)
theorem se_int {i : Int} {j} : SE X (.Constant (.int i) j pos) (fC (.int i)) := se_const pe_int fun _ => rfl
theorem se_bl {c : Bool} {j} : SE X (.Constant (.bool c) j pos) (fC (.bl c)) := se_const pe_bl fun _ => rfl
theorem se_non {j} : SE X (.Constant .none j pos) (fC .non) := se_const pe_non fun _ => rfl
theorem se_str {x : Str} {j} : SE X (.Constant (.str x) j pos) (fC (.str x)) := se_const pe_str fun _ => rfl
theorem se_var (i : Nat) {x : Str} (h : PE X (.Name x pos) (tVar i)) : SE X (.Name x pos) (fVar i) := fun F₀ H₀ => PE.weak h fun σ H Q ⟨F, τ, t, τ', E, e1, q⟩ => by
  unfold fVar at e1
  split at e1
  · next t' e2 =>
    cases e1
    obtain ⟨v, h1, h2⟩ := E.sl i _ e2
    exact ⟨v, h1, q F H v E (Same.refl _) h2⟩
  · next ts e2 =>
    cases e1
    obtain ⟨F', v, h1, E', sF, r⟩ := E.freeze e2
    exact ⟨v, h1, q F' H v E' sF r⟩
  · cases e1
/-- a type's name -/
theorem se_ty {x : Str} {n : String} (hg : Gl X x) (hm : X.mg x = none) (hv : bootBuiltins x = some (.type n)) (hn : x ≠ "__name__" := by decide) (hd : (x == ("__debug__" : Str)) = false := by decide) : SE X (.Name x pos) (fC (.ty n)) :=
  se_const (pe_bltn (v := .ty n) hg hm hv rfl hn hd) fun _ => rfl

/-! ### operations on values -/
def rT2 (K : PySem.W.Frag) (g : T → T → Option T) : R2 := fun x y H Q => ∃ F a b t, Same F H ∧ Rep K F a x ∧ Rep K F b y ∧ g a b = some t ∧ ∀ F' H' v, Grow F H F' H' → Rep K F' t v → Q v H'
def rT1 (K : PySem.W.Frag) (g : T → Option T) : V → Hp → VK → Prop := fun x H Q => ∃ F a t, Same F H ∧ Rep K F a x ∧ g a = some t ∧ ∀ F' H' v, Grow F H F' H' → Rep K F' t v → Q v H'
def rTs (K : PySem.W.Frag) (g : List T → Option T) : List V → Hp → VK → Prop := fun xs H Q => ∃ F ts t, Same F H ∧ Reps K F ts xs ∧ g ts = some t ∧ ∀ F' H' v, Grow F H F' H' → Rep K F' t v → Q v H'
abbrev OpT (X : Cx) (f : Value → Value → Sem Value) (g : T → T → Option T) : Prop := OpR X f (rT2 X.K g)
abbrev UnT (X : Cx) (f : Value → Sem Value) (g : T → Option T) : Prop := UnR X f (rT1 X.K g)
abbrev CallT (X : Cx) (f : Value) (g : List T → Option T) : Prop := CallR X f (rTs X.K g)

def fOp (g : T → T → Option T) (fa fb : FE) : FE := fun τ => (fa τ).bind fun p => (fb p.2).bind fun q => (g p.1 q.1).bind fun t => some (t, q.2)
def fUn (g : T → Option T) (fa : FE) : FE := fun τ => (fa τ).bind fun p => (g p.1).bind fun t => some (t, p.2)
theorem bind_some {α β : Type} {o : Option α} {f : α → Option β} {z : β} (h : o.bind f = some z) : ∃ x, o = some x ∧ f x = some z := by
  cases o with
  | none => cases h
  | some x => exact ⟨x, rfl, h⟩
/-- two expressions, then an operation on their values -/
theorem op_core {g : T → T → Option T} {F₀ H₀ : Hp} {σ : L2.St} {H : Hp} {Q : VK} (h : tE X.K F₀ H₀ (fOp g fa fb) σ H Q) : tOp (rT2 X.K g) (tE X.K F₀ H₀ fa) (tE X.K F₀ H₀ fb) σ H Q := by
  obtain ⟨F, τ, t, τ', E, e1, q⟩ := h
  obtain ⟨⟨x, τ1⟩, e2, e1⟩ := bind_some e1
  obtain ⟨⟨y, τ2⟩, e3, e1⟩ := bind_some e1
  obtain ⟨z, e4, e1⟩ := bind_some e1
  cases e1
  refine ⟨F, τ, x, τ1, E, e2, fun F1 H1 v1 E1 s1 r1 => ⟨F1, τ1, y, _, E1, e3, fun F2 H2 v2 E2 s2 r2 => ?_⟩⟩
  exact ⟨F2, x, y, t, E2.g.fh, Rep.mono s2 r1, r2, e4, fun F3 H3 v3 g3 r3 => q F3 H3 v3 (E2.grow g3) ((s1.trans s2).trans g3.sF) r3⟩
theorem se_op {op : Operator} {g : T → T → Option T} (ho : OpT X (binaryOp op) g) (ha : SE X a fa) (hb : SE X b fb) : SE X (.BinOp a op b pos) (fOp g fa fb) :=
  fun F₀ H₀ => PE.weak (pe_op ho (ha F₀ H₀) (hb F₀ H₀)) fun _ _ _ => op_core
theorem se_un {op : UnaryOp} {g : T → Option T} (ho : UnT X (unaryOp op) g) (ha : SE X a fa) : SE X (.UnaryOp op a pos) (fUn g fa) :=
  fun F₀ H₀ => PE.weak (pe_un ho (ha F₀ H₀)) fun σ H Q ⟨F, τ, t, τ', E, e1, q⟩ => by
    obtain ⟨⟨x, τ1⟩, e2, e1⟩ := bind_some e1
    obtain ⟨z, e4, e1⟩ := bind_some e1
    cases e1
    exact ⟨F, τ, x, _, E, e2, fun F1 H1 v1 E1 s1 r1 => ⟨F1, x, t, E1.g.fh, r1, e4, fun F3 H3 v3 g3 r3 => q F3 H3 v3 (E1.grow g3) (s1.trans g3.sF) r3⟩⟩
theorem se_cmp {op : CmpOp} {g : T → T → Option T} (ho : OpT X (compareOp op) g) (ha : SE X a fa) (hb : SE X b fb) (hm : behindInMarks op b = false) : SE X (.Compare a [op] [b] pos) (fOp g fa fb) :=
  fun F₀ H₀ => PE.weak (pe_cmpR ho (ha F₀ H₀) (hb F₀ H₀) hm) fun _ _ _ => op_core
theorem se_ix {g : T → T → Option T} (ho : IxR X (rT2 X.K g)) (ha : SE X a fa) (hb : SE X b fb) (hs : PlainIx b) : SE X (.Subscript a b pos) (fOp g fa fb) :=
  fun F₀ H₀ => PE.weak (pe_ix ho (ha F₀ H₀) (hb F₀ H₀) hs) fun _ _ _ => op_core

/-! ### tests -/
def fTB (f : FE) : FT := fun τ => (f τ).bind fun p => match p.1 with | .bl c => some (c, p.2) | _ => none
def tru : T → Option Bool
  | .non => some false
  | .bl c => some c
  | .int i => some (i != 0)
  | .str x => if x.length ≤ sizeLine then some ((x.length : Int) != 0) else none
  | .tup ts => some (!ts.isEmpty)
  | .lst ts => some (!ts.isEmpty)
  | .scr ts => some (!ts.isEmpty)
  | .dic => some false
  | .ty _ => none
def fTru (f : FE) : FT := fun τ => (f τ).bind fun p => (tru p.1).bind fun c => some (c, p.2)
theorem st_cmp {op : CmpOp} {g : T → T → Option T} (ho : OpT X (compareOp op) g) (ha : SE X a fa) (hb : SE X b fb) (hm : behindInMarks op b = false) : ST X (.Compare a [op] [b] pos) (fTB (fOp g fa fb)) :=
  fun F₀ H₀ => PT.weak (pt_cmpR ho (ha F₀ H₀) (hb F₀ H₀) hm) fun σ H Q ⟨F, τ, c, τ', E, e1, q⟩ => by
    obtain ⟨⟨x, τ1⟩, e2, e1⟩ := bind_some e1
    dsimp only at e1
    split at e1
    · cases e1
      refine op_core (Q := fun x H' => ∃ k, x = V.bl k ∧ Q k H') ⟨F, τ, _, _, E, e2, fun F' H' v E' s' r' => ?_⟩
      exact ⟨c, r', q F' H' E' s'⟩
    · cases e1
theorem isEmpty_reps {K : PySem.W.Frag} {F : Hp} {ts : List T} {vs : List V} (h : Reps K F ts vs) : vs.isEmpty = ts.isEmpty := by
  cases ts with
  | nil => cases h; rfl
  | cons t ts => obtain ⟨v, r, rfl, _⟩ := h; rfl
theorem tru_rep {K : PySem.W.Frag} {F H : Hp} {t : T} {v : V} {c : Bool} (s : Same F H) (r : Rep K F t v) (e : tru t = some c) : TruV K v H c := by
  cases t with
  | non => cases r; cases e; exact rfl
  | bl _ => cases r; cases e; exact rfl
  | int _ => cases r; cases e; exact rfl
  | str x =>
    cases r
    simp only [tru] at e
    split at e
    · next h => cases e; exact ⟨h, rfl⟩
    · cases e
  | ty _ => cases e
  | tup ts =>
    obtain ⟨p, xs, rfl, h1, h2⟩ := r
    cases e
    exact .inr (.inl ⟨xs, same_sqT s h1, by rw [isEmpty_reps h2]⟩)
  | lst ts =>
    obtain ⟨p, xs, rfl, h1, h2⟩ := r
    cases e
    exact .inl ⟨xs, SqL.of (s _ _ h1), by rw [isEmpty_reps h2]⟩
  | scr ts =>
    obtain ⟨p, xs, rfl, h1, h2⟩ := r
    cases e
    exact .inl ⟨xs, s.seq h1, by rw [isEmpty_reps h2]⟩
  | dic =>
    obtain ⟨p, rfl, h1⟩ := r
    cases e
    exact .inr (.inr ⟨[], s _ _ h1, rfl⟩)
theorem st_val (h : SE X e f) (he : ∀ whole, isTrue e X.env whole = (do let v ← whole; standAt e.pos; holding [v] (truthy v)) := by intro _; rfl) : ST X e (fTru f) :=
  fun F₀ H₀ => PT.weak (pt_truth (h F₀ H₀) he) fun σ H Q ⟨F, τ, c, τ', E, e1, q⟩ => by
    obtain ⟨⟨x, τ1⟩, e2, e1⟩ := bind_some e1
    obtain ⟨z, e4, e1⟩ := bind_some e1
    cases e1
    exact ⟨F, τ, x, _, E, e2, fun F1 H1 v1 E1 s1 r1 => ⟨c, tru_rep E1.g.fh r1 e4, q F1 H1 E1 s1⟩⟩
variable {ta tb : FT} {rest : List Expr}
def fAnd (ta tb : FT) : FT := fun τ => (ta τ).bind fun p => if p.1 = true then tb p.2 else some (false, p.2)
def fOr (ta tb : FT) : FT := fun τ => (ta τ).bind fun p => if p.1 = true then some (true, p.2) else tb p.2
def fNot (ta : FT) : FT := fun τ => (ta τ).bind fun p => some (!p.1, p.2)
theorem st_not (h : ST X a ta) : ST X (.UnaryOp .Not a pos) (fNot ta) := fun F₀ H₀ => PT.weak (pt_not (h F₀ H₀)) fun σ H Q ⟨F, τ, c, τ', E, e1, q⟩ => by
  obtain ⟨⟨x, τ1⟩, e2, e1⟩ := bind_some e1
  cases e1
  exact ⟨F, τ, x, _, E, e2, fun F1 H1 E1 s1 => q F1 H1 E1 s1⟩
theorem sw_and1 (h : ST X a ta) : SW X (.BoolOp .And [a] pos) ta := fun F₀ H₀ => pw_and1 (h F₀ H₀)
theorem sw_or1 (h : ST X a ta) : SW X (.BoolOp .Or [a] pos) ta := fun F₀ H₀ => pw_or1 (h F₀ H₀)
theorem sw_and (ha : ST X a ta) (hb : SW X (.BoolOp .And (b :: rest) pos) tb) : SW X (.BoolOp .And (a :: b :: rest) pos) (fAnd ta tb) := fun F₀ H₀ => PW.weak (pw_and (ha F₀ H₀) (hb F₀ H₀)) fun σ H Q ⟨F, τ, c, τ', E, e1, q⟩ => by
  obtain ⟨⟨x, τ1⟩, e2, e1⟩ := bind_some e1
  refine ⟨F, τ, x, τ1, E, e2, fun F1 H1 E1 s1 => ?_⟩
  dsimp only at e1
  split at e1
  · next h => rw [if_pos h]; exact ⟨F1, τ1, c, τ', E1, e1, fun F2 H2 E2 s2 => q F2 H2 E2 (s1.trans s2)⟩
  · next h => rw [if_neg h]; cases e1; exact q F1 H1 E1 s1
theorem sw_or (ha : ST X a ta) (hb : SW X (.BoolOp .Or (b :: rest) pos) tb) : SW X (.BoolOp .Or (a :: b :: rest) pos) (fOr ta tb) := fun F₀ H₀ => PW.weak (pw_or (ha F₀ H₀) (hb F₀ H₀)) fun σ H Q ⟨F, τ, c, τ', E, e1, q⟩ => by
  obtain ⟨⟨x, τ1⟩, e2, e1⟩ := bind_some e1
  refine ⟨F, τ, x, τ1, E, e2, fun F1 H1 E1 s1 => ?_⟩
  dsimp only at e1
  split at e1
  · next h => rw [if_pos h]; cases e1; exact q F1 H1 E1 s1
  · next h => rw [if_neg h]; exact ⟨F1, τ1, c, τ', E1, e1, fun F2 H2 E2 s2 => q F2 H2 E2 (s1.trans s2)⟩
theorem SW.st (h : SW X e ta) : ST X e ta := fun F₀ H₀ => (h F₀ H₀).pt
/-! .. as values -/
def fAndV (fa fb : FE) : FE := fun τ => (fa τ).bind fun p => match p.1 with | .bl true => fb p.2 | .bl false => some (.bl false, p.2) | _ => none
def fOrV (fa fb : FE) : FE := fun τ => (fa τ).bind fun p => match p.1 with | .bl true => some (.bl true, p.2) | .bl false => fb p.2 | _ => none
def gNot : T → Option T
  | .bl c => some (.bl (!c))
  | _ => none
theorem se_one {op} (h : SE X a fa) : SE X (.BoolOp op [a] pos) fa := fun F₀ H₀ => pe_one (h F₀ H₀)
theorem se_and (ha : SE X a fa) (hb : SE X (.BoolOp .And (b :: rest) pos) fb) : SE X (.BoolOp .And (a :: b :: rest) pos) (fAndV fa fb) := fun F₀ H₀ => PE.weak (pe_and (ha F₀ H₀) (hb F₀ H₀)) fun σ H Q ⟨F, τ, c, τ', E, e1, q⟩ => by
  obtain ⟨⟨x, τ1⟩, e2, e1⟩ := bind_some e1
  dsimp only at e1
  refine ⟨F, τ, x, τ1, E, e2, fun F1 H1 v E1 s1 r1 => ?_⟩
  split at e1
  · cases r1; exact ⟨true, rfl, by rw [if_pos rfl]; exact ⟨F1, τ1, c, τ', E1, e1, fun F2 H2 v2 E2 s2 => q F2 H2 v2 E2 (s1.trans s2)⟩⟩
  · cases r1; cases e1; exact ⟨false, rfl, by rw [if_neg (by decide)]; exact q F1 H1 _ E1 s1 rfl⟩
  · cases e1
theorem se_or (ha : SE X a fa) (hb : SE X (.BoolOp .Or (b :: rest) pos) fb) : SE X (.BoolOp .Or (a :: b :: rest) pos) (fOrV fa fb) := fun F₀ H₀ => PE.weak (pe_or (ha F₀ H₀) (hb F₀ H₀)) fun σ H Q ⟨F, τ, c, τ', E, e1, q⟩ => by
  obtain ⟨⟨x, τ1⟩, e2, e1⟩ := bind_some e1
  dsimp only at e1
  refine ⟨F, τ, x, τ1, E, e2, fun F1 H1 v E1 s1 r1 => ?_⟩
  split at e1
  · cases r1; cases e1; exact ⟨true, rfl, by rw [if_pos rfl]; exact q F1 H1 _ E1 s1 rfl⟩
  · cases r1; exact ⟨false, rfl, by rw [if_neg (by decide)]; exact ⟨F1, τ1, c, τ', E1, e1, fun F2 H2 v2 E2 s2 => q F2 H2 v2 E2 (s1.trans s2)⟩⟩
  · cases e1
theorem se_not (ha : SE X a fa) : SE X (.UnaryOp .Not a pos) (fUn gNot fa) := fun F₀ H₀ => PE.weak (pe_not (ha F₀ H₀)) fun σ H Q ⟨F, τ, c, τ', E, e1, q⟩ => by
  obtain ⟨⟨x, τ1⟩, e2, e1⟩ := bind_some e1
  obtain ⟨z, e4, e1⟩ := bind_some e1
  cases e1
  refine ⟨F, τ, x, _, E, e2, fun F1 H1 v E1 s1 r1 => ?_⟩
  dsimp only at e4
  unfold gNot at e4
  split at e4
  · cases r1; cases e4; exact ⟨_, rfl, q F1 H1 _ E1 s1 rfl⟩
  · cases e4
def fIf (t : FT) (fa fb : FE) : FE := fun τ => (t τ).bind fun p => if p.1 = true then fa p.2 else fb p.2
theorem se_if {c : Expr} (hc : ST X c ta) (ha : SE X a fa) (hb : SE X b fb) : SE X (.IfExp c a b pos) (fIf ta fa fb) := fun F₀ H₀ => PE.weak (pe_ifExp (hc F₀ H₀) (ha F₀ H₀) (hb F₀ H₀)) fun σ H Q ⟨F, τ, c, τ', E, e1, q⟩ => by
  obtain ⟨⟨x, τ1⟩, e2, e1⟩ := bind_some e1
  refine ⟨F, τ, x, τ1, E, e2, fun F1 H1 E1 s1 => ?_⟩
  dsimp only at e1
  split at e1
  · next h => rw [if_pos h]; exact ⟨F1, τ1, c, τ', E1, e1, fun F2 H2 v2 E2 s2 => q F2 H2 v2 E2 (s1.trans s2)⟩
  · next h => rw [if_neg h]; exact ⟨F1, τ1, c, τ', E1, e1, fun F2 H2 v2 E2 s2 => q F2 H2 v2 E2 (s1.trans s2)⟩

/-! ### argument lists, displays, calls -/
variable {es : List Expr} {g : FA}
def fNil : FA := fun τ => some ([], τ)
def fCons (f : FE) (g : FA) : FA := fun τ => (f τ).bind fun p => (g p.2).bind fun q => some (p.1 :: q.1, q.2)
theorem sa_nil : SA X [] fNil := fun F₀ H₀ => PA.weak pa_nil fun σ H Q ⟨F, τ, c, τ', E, e1, q⟩ => by
  cases e1
  exact q F H [] E (Same.refl _) rfl
theorem sa_cons (ha : SE X e f) (hr : SA X es g) (hs : starEach (e :: es) X.env = (false, eval e X.env) :: starEach es X.env := by rfl) : SA X (e :: es) (fCons f g) := fun F₀ H₀ => PA.weak (pa_cons (ha F₀ H₀) (hr F₀ H₀) hs) fun σ H Q ⟨F, τ, c, τ', E, e1, q⟩ => by
  obtain ⟨⟨x, τ1⟩, e2, e1⟩ := bind_some e1
  obtain ⟨⟨y, τ2⟩, e3, e1⟩ := bind_some e1
  cases e1
  exact ⟨F, τ, x, τ1, E, e2, fun F1 H1 v E1 s1 r1 => ⟨F1, τ1, y, _, E1, e3, fun F2 H2 vs E2 s2 r2 => q F2 H2 _ E2 (s1.trans s2) ⟨v, vs, rfl, Rep.mono s2 r1, r2⟩⟩⟩
def fTup (g : FA) : FE := fun τ => (g τ).bind fun p => if p.1.length ≤ sizeLine then some (.tup p.1, p.2) else none
def fLst (g : FA) : FE := fun τ => (g τ).bind fun p => if p.1.length ≤ sizeLine then some (.lst p.1, p.2) else none
theorem se_tup {k} (h : SA X es g) : SE X (.Tuple es k pos) (fTup g) := fun F₀ H₀ => PE.weak (pe_tup (h F₀ H₀)) fun σ H Q ⟨F, τ, c, τ', E, e1, q⟩ => by
  obtain ⟨⟨x, τ1⟩, e2, e1⟩ := bind_some e1
  dsimp only at e1
  split at e1
  · next hl =>
    cases e1
    refine ⟨F, τ, x, _, E, e2, fun F1 H1 vs E1 s1 r1 => ⟨by rw [r1.length]; exact hl, fun p hp => ?_⟩⟩
    have gr := Grow.new (.tup vs) E1.g.fh hp
    exact q _ _ _ (E1.grow gr) (s1.trans gr.sF) ⟨p, vs, rfl, SqT.of upd_same, Reps.mono gr.sF r1⟩
  · cases e1
theorem se_lst (h : SA X es g) : SE X (.List es pos) (fLst g) := fun F₀ H₀ => PE.weak (pe_lst (h F₀ H₀)) fun σ H Q ⟨F, τ, c, τ', E, e1, q⟩ => by
  obtain ⟨⟨x, τ1⟩, e2, e1⟩ := bind_some e1
  dsimp only at e1
  split at e1
  · next hl =>
    cases e1
    refine ⟨F, τ, x, _, E, e2, fun F1 H1 vs E1 s1 r1 => ⟨by rw [r1.length]; exact hl, fun p hp => ?_⟩⟩
    have gr := Grow.new (.lst vs) E1.g.fh hp
    exact q _ _ _ (E1.grow gr) (s1.trans gr.sF) ⟨p, vs, rfl, upd_same, Reps.mono gr.sF r1⟩
  · cases e1
def fCall (d : List T → Option T) (g : FA) : FE := fun τ => (g τ).bind fun p => (d p.1).bind fun t => some (t, p.2)
theorem call_core {d : List T → Option T} {F₀ H₀ : Hp} {σ : L2.St} {H : Hp} {Q : VK} (h : tE X.K F₀ H₀ (fCall d g) σ H Q) : tA X.K F₀ H₀ g σ H fun vs H1 => rTs X.K d vs H1 Q := by
  obtain ⟨F, τ, c, τ', E, e1, q⟩ := h
  obtain ⟨⟨x, τ1⟩, e2, e1⟩ := bind_some e1
  obtain ⟨z, e4, e1⟩ := bind_some e1
  cases e1
  exact ⟨F, τ, x, _, E, e2, fun F1 H1 vs E1 s1 r1 => ⟨F1, x, c, E1.g.fh, r1, e4, fun F3 H3 v3 g3 r3 => q F3 H3 v3 (E1.grow g3) (s1.trans g3.sF) r3⟩⟩
theorem se_callB {d : List T → Option T} {id : String} {x : Str} {p : Pos} (hc : CallT X (.builtin id) d) (hg : Gl X x) (hm : X.mg x = none) (hv : bootBuiltins x = some (.builtin id)) (ha : SA X (e :: es) g) (hn : x ≠ "__name__" := by decide) (hdb : (x == ("__debug__" : Str)) = false := by decide)
    (he : starEach (e :: es) X.env = (false, eval e X.env) :: starEach es X.env := by rfl) (hpl : (backTo pos (starEach es X.env)).any (·.1) = false := by rfl) : SE X (.Call (.Name x p) (e :: es) [] pos) (fCall d g) :=
  fun F₀ H₀ => PE.weak (pe_callB hc hg hm hv (ha F₀ H₀) hn hdb he hpl) fun _ _ _ => call_core
theorem se_callTy {d : List T → Option T} {id : String} {x : Str} {p : Pos} (hc : CallT X (.type id) d) (hg : Gl X x) (hm : X.mg x = none) (hv : bootBuiltins x = some (.type id)) (ha : SA X (e :: es) g) (hn : x ≠ "__name__" := by decide) (hdb : (x == ("__debug__" : Str)) = false := by decide)
    (he : starEach (e :: es) X.env = (false, eval e X.env) :: starEach es X.env := by rfl) (hpl : (backTo pos (starEach es X.env)).any (·.1) = false := by rfl) : SE X (.Call (.Name x p) (e :: es) [] pos) (fCall d g) :=
  fun F₀ H₀ => PE.weak (pe_callTy hc hg hm hv (ha F₀ H₀) hn hdb he hpl) fun _ _ _ => call_core
end

/-! ### a def's promise over trees -/
def spT (K : PySem.W.Frag) (n : Nat) (d : List T → Option T) : Sp := fun vs H Q _ => vs.length = n ∧ rTs K d vs H Q
/-- a def as it is known to its callers -/
structure Def (P : Program) (w : World) (K : PySem.W.Frag) (mg : Str → Option Value) (base : Heap) (k : Nat) (x : Str) (n : Nat) (d : List T → Option T) : Prop where
  ex : ∃ f fd ps, FnOk P w K mg base CX0 k f fd ps (spT K n d) ∧ Binds K fd ps [] ∧ PySem.W.keepIn K (.ref f) = true ∧ mg x = some (.ref f) ∧ ps.length = n
theorem Def.imp {P : Program} {w : World} {K : PySem.W.Frag} {mg : Str → Option Value} {base : Heap} {k n : Nat} {x : Str} {d d' : List T → Option T} (D : Def P w K mg base k x n d) (h : ∀ ts t, d' ts = some t → d ts = some t) : Def P w K mg base k x n d' := by
  obtain ⟨f, fd, ps, F, r⟩ := D.ex
  exact ⟨f, fd, ps, F.imp fun vs H Q E ⟨l, F, ts, t, a, b, c, q⟩ => ⟨l, F, ts, t, a, b, h _ _ c, q⟩, r⟩
theorem Def.mono {P : Program} {w : World} {K : PySem.W.Frag} {mg : Str → Option Value} {base : Heap} {j k n : Nat} {x : Str} {d : List T → Option T} (D : Def P w K mg base j x n d) (h : j ≤ k) : Def P w K mg base k x n d := by
  obtain ⟨f, fd, ps, F, r⟩ := D.ex
  exact ⟨f, fd, ps, F.mono h, r⟩
theorem Def.zero {P : Program} {w : World} {K : PySem.W.Frag} {mg : Str → Option Value} {base : Heap} {x qual : Str} {st : Stmt} {f : Addr} {fd : FuncData} {ps : List Str} (F : Fun K x qual st f fd) (hb : Binds K fd ps []) (hm : mg x = some (.ref f)) : Def P w K mg base 0 x ps.length (fun _ => none) :=
  ⟨f, fd, ps, ⟨fun vs H Q E h => h.1, fun A outer s H args us vs Q E _ _ _ _ h => by obtain ⟨_, F, ts, t, _, _, e, _⟩ := h; cases e⟩, hb, F.kp, hm, rfl⟩
section
variable {X : Cx} {e : Expr} {es : List Expr} {pos : Pos} {g : FA}
theorem se_call {k n : Nat} {x : Str} {p : Pos} {d : List T → Option T} (D : Def X.prog X.w X.K X.mg X.base k x n d) (hr : Room k X.A) (hg : Gl X x) (ha : SA X (e :: es) g) (hl : ∀ τ ts τ', g τ = some (ts, τ') → ts.length = n) (hdb : (x == ("__debug__" : Str)) = false := by decide)
    (he : starEach (e :: es) X.env = (false, eval e X.env) :: starEach es X.env := by rfl) (hpl : (backTo pos (starEach es X.env)).any (·.1) = false := by rfl) : SE X (.Call (.Name x p) (e :: es) [] pos) (fCall d g) := by
  obtain ⟨f, fd, ps, F, hb, hk, hm, hn⟩ := D.ex
  intro F₀ H₀
  refine PE.weak (pe_call (E := E0) (CX := CX0) F hr hg hm hk hb .nil pass0 (ha F₀ H₀) hdb he hpl) fun σ H Q h => ?_
  obtain ⟨F, τ, c, τ', E, e1, q⟩ := h
  obtain ⟨⟨z, τ1⟩, e2, e1⟩ := bind_some e1
  have hz := hl _ _ _ e2
  obtain ⟨u, e4, e1⟩ := bind_some e1
  cases e1
  refine ⟨F, τ, z, _, E, e2, fun F1 H1 vs E1 s1 r1 => ⟨by rw [List.append_nil, r1.length]; exact hz, F1, z, c, E1.g.fh, by rw [List.append_nil]; exact r1, e4, fun F3 H3 v3 g3 r3 => q F3 H3 v3 (E1.grow g3) (s1.trans g3.sF) r3⟩⟩
theorem len_nil : ∀ τ ts τ', fNil τ = some (ts, τ') → ts.length = 0 := fun _ _ _ h => by cases h; rfl
theorem len_cons {f : FE} {g : FA} {n : Nat} (h : ∀ τ ts τ', g τ = some (ts, τ') → ts.length = n) : ∀ τ ts τ', fCons f g τ = some (ts, τ') → ts.length = n + 1 := fun τ ts τ' e => by
  obtain ⟨⟨x, τ1⟩, e2, e1⟩ := bind_some e
  obtain ⟨⟨y, τ2⟩, e3, e1⟩ := bind_some e1
  cases e1
  simp [h _ _ _ e3]
end
end TM

set_option Elab.async false
set_option linter.all false
set_option maxRecDepth 100000
namespace TM
open PySem PySem.Spec PyProof.Rows L2
section
variable {X : Cx} {e a b : Expr} {pos : Pos} {f fa fb : FE} {ga : FA} {es : List Expr}

/-! ### statements -/
def fNever : FS := fun _ => none
def fNext : FS := fun τ => some (.nx τ)
def fBreak : FS := fun τ => some (.bk τ)
def fCont : FS := fun τ => some (.ct τ)
def fRet (f : FE) : FS := fun τ => (f τ).bind fun p => some (.rt p.1)
def fDrop (f : FE) : FS := fun τ => (f τ).bind fun p => some (.nx p.2)
def fIfS (c : FT) (t u : FS) : FS := fun τ => (c τ).bind fun p => if p.1 = true then t p.2 else u p.2
def fSeq (t u : FS) : FS := fun τ => (t τ).bind fun r => match r with | .nx τ' => u τ' | r => some r
theorem FlowOk.mono {K : PySem.W.Frag} {F₀ H₀ F F' : Hp} {D : Ends} {r : R} (s : Same F F') (h : FlowOk K F₀ H₀ F D r) : FlowOk K F₀ H₀ F' D r := by
  cases r with
  | nx τ => exact fun F1 H1 σ1 E1 s1 => h F1 H1 σ1 E1 (s.trans s1)
  | rt t => exact h
  | bk τ => exact fun F1 H1 σ1 E1 s1 => h F1 H1 σ1 E1 (s.trans s1)
  | ct τ => exact fun F1 H1 σ1 E1 s1 => h F1 H1 σ1 E1 (s.trans s1)
theorem ss_never {st : Stmt} : SS X st fNever := fun F₀ H₀ => PS.weak ps_never fun D σ H ⟨F, τ, r, E, e1, q⟩ => by cases e1
theorem ss_pass : SS X (.Pass pos) fNext := fun F₀ H₀ => PS.weak ps_pass fun D σ H ⟨F, τ, r, E, e1, q⟩ => by
  cases e1
  exact q F H σ E (Same.refl _)
theorem ss_break : SS X (.Break pos) fBreak := fun F₀ H₀ => PS.weak ps_break fun D σ H ⟨F, τ, r, E, e1, q⟩ => by
  cases e1
  exact q F H σ E (Same.refl _)
theorem ss_continue : SS X (.Continue pos) fCont := fun F₀ H₀ => PS.weak ps_continue fun D σ H ⟨F, τ, r, E, e1, q⟩ => by
  cases e1
  exact q F H σ E (Same.refl _)
theorem ss_ret (h : SE X e f) : SS X (.Return (some e) pos) (fRet f) := fun F₀ H₀ => PS.weak (ps_ret (h F₀ H₀)) fun D σ H ⟨F, τ, r, E, e1, q⟩ => by
  obtain ⟨⟨x, τ1⟩, e2, e1⟩ := bind_some e1
  cases e1
  exact ⟨F, τ, x, τ1, E, e2, fun F' H' v E' s' r' => q F' H' v E'.g r'⟩
theorem ss_expr (h : SE X e f) (hs : swapsWith e none pos.line X.env = pure false := by rfl) : SS X (.Expr e pos) (fDrop f) := fun F₀ H₀ => PS.weak (ps_expr (h F₀ H₀) hs) fun D σ H ⟨F, τ, r, E, e1, q⟩ => by
  obtain ⟨⟨x, τ1⟩, e2, e1⟩ := bind_some e1
  cases e1
  exact ⟨F, τ, x, τ1, E, e2, fun F' H' v E' s' r' => q F' H' σ E' s'⟩
theorem ss_if {c : Expr} {ss us : List Stmt} {tc : FT} {t u : FS} (hc : ST X c tc) (ha : SSs X ss t) (hb : SSs X us u) : SS X (.If c ss us pos) (fIfS tc t u) := fun F₀ H₀ => PS.weak (ps_if (hc F₀ H₀) (ha F₀ H₀) (hb F₀ H₀)) fun D σ H ⟨F, τ, r, E, e1, q⟩ => by
  obtain ⟨⟨x, τ1⟩, e2, e1⟩ := bind_some e1
  refine ⟨F, τ, x, τ1, E, e2, fun F' H' E' s' => ?_⟩
  dsimp only at e1
  split at e1
  · next h => rw [if_pos h]; exact ⟨F', τ1, r, E', e1, q.mono s'⟩
  · next h => rw [if_neg h]; exact ⟨F', τ1, r, E', e1, q.mono s'⟩
theorem sss_nil : SSs X [] fNext := fun F₀ H₀ => PSs.weak pss_nil fun D σ H ⟨F, τ, r, E, e1, q⟩ => by
  cases e1
  exact q F H σ E (Same.refl _)
theorem sss_cons {st : Stmt} {rest : List Stmt} {t u : FS} (h1 : SS X st t) (h2 : SSs X rest u) : SSs X (st :: rest) (fSeq t u) := fun F₀ H₀ => PSs.weak (pss_cons (h1 F₀ H₀) (h2 F₀ H₀)) fun D σ H ⟨F, τ, r, E, e1, q⟩ => by
  obtain ⟨x, e2, e1⟩ := bind_some e1
  refine ⟨F, τ, x, E, e2, ?_⟩
  cases x with
  | nx τ1 => exact fun F1 H1 σ1 E1 s1 => ⟨F1, τ1, r, E1, e1, q.mono s1⟩
  | rt t => cases e1; exact q
  | bk t => cases e1; exact q
  | ct t => cases e1; exact q
theorem sss_one {st : Stmt} {t : FS} (h1 : SS X st t) : SSs X [st] t := fun F₀ H₀ => pss_one (h1 F₀ H₀)
theorem sss_never {st : List Stmt} : SSs X st fNever := fun F₀ H₀ => PSs.weak pss_never fun D σ H ⟨F, τ, r, E, e1, q⟩ => by cases e1
def fSet (i : Nat) (f : FE) : FS := fun τ => (f τ).bind fun p => some (.nx (p.2.set i (some (.sh p.1))))
def fSetOwn (i : Nat) (g : FA) : FS := fun τ => (g τ).bind fun p => if p.1.length ≤ sizeLine then some (.nx (p.2.set i (some (.own p.1)))) else none
theorem ss_set (i : Nat) {x : Str} {pos' : Pos} (hN : X.N.Nodup) (hi : X.N[i]? = some x) (hx : Loc X.env.scope x) (he : SE X e f) (hs : swapsWith e (some (.Name x pos')) pos.line X.env = pure false := by rfl)
    (hf : X.fn x = true ∨ X.env.scope.names.lookup x = some .local := by first | exact .inl rfl | exact .inr rfl | assumption) : SS X (.Assign [.Name x pos'] e pos) (fSet i f) := fun F₀ H₀ => PS.weak (ps_set hN hi hx (he F₀ H₀) hs hf) fun D σ H ⟨F, τ, r, E, e1, q⟩ => by
  obtain ⟨⟨y, τ1⟩, e2, e1⟩ := bind_some e1
  cases e1
  exact ⟨F, τ, y, τ1, E, e2, fun F' H' v E' s' r' => q F' H' _ (E'.set r') s'⟩
theorem ss_setOwn (i : Nat) {x : Str} {pos' : Pos} {p2 : Pos} (hN : X.N.Nodup) (hi : X.N[i]? = some x) (hx : Loc X.env.scope x) (he : SA X es ga) (hs : swapsWith (.List es p2) (some (.Name x pos')) pos.line X.env = pure false := by rfl)
    (hf : X.fn x = true ∨ X.env.scope.names.lookup x = some .local := by first | exact .inl rfl | exact .inr rfl | assumption) : SS X (.Assign [.Name x pos'] (.List es p2) pos) (fSetOwn i ga) := fun F₀ H₀ => PS.weak (ps_set hN hi hx (pe_lst (he F₀ H₀)) hs hf) fun D σ H ⟨F, τ, r, E, e1, q⟩ => by
  obtain ⟨⟨y, τ1⟩, e2, e1⟩ := bind_some e1
  dsimp only at e1
  split at e1
  · next hl =>
    cases e1
    exact ⟨F, τ, y, τ1, E, e2, fun F' H' vs E' s' r' => ⟨by rw [r'.length]; exact hl, fun p hp => q F' _ _ (E'.setOwn hp r') s'⟩⟩
  · cases e1
/-! targets -/
def tG (K : PySem.W.Frag) (F₀ H₀ : Hp) (fg : FG) : TG := fun v σ H Q => ∃ F τ t τ', EnvOk K F₀ H₀ F H σ τ ∧ Rep K F t v ∧ fg t τ = some τ' ∧ ∀ F' H' σ', EnvOk K F₀ H₀ F' H' σ' τ' → Same F F' → Q σ' H'
def tGs (K : PySem.W.Frag) (F₀ H₀ : Hp) (fg : List T → TEnv → Option TEnv) : TGs := fun vs σ H Q => ∃ F τ ts τ', EnvOk K F₀ H₀ F H σ τ ∧ Reps K F ts vs ∧ fg ts τ = some τ' ∧ ∀ F' H' σ', EnvOk K F₀ H₀ F' H' σ' τ' → Same F F' → Q σ' H'
def SG (X : Cx) (tg : Expr) (fg : FG) : Prop := ∀ F₀ H₀, PG X tg (tG X.K F₀ H₀ fg)
def SGs (X : Cx) (tg : List Expr) (fg : List T → TEnv → Option TEnv) : Prop := ∀ F₀ H₀, PGs X tg (tGs X.K F₀ H₀ fg)
def gnName (i : Nat) : FG := fun t τ => some (τ.set i (some (.sh t)))
def gnNil : List T → TEnv → Option TEnv
  | [], τ => some τ
  | _ :: _, _ => none
def gnCons (g : FG) (gs : List T → TEnv → Option TEnv) : List T → TEnv → Option TEnv
  | [], _ => none
  | t :: ts, τ => (g t τ).bind fun τ1 => gs ts τ1
def gnTup (gs : List T → TEnv → Option TEnv) : FG := fun t τ => match t with
  | .tup ts => gs ts τ
  | _ => none
theorem sg_name (i : Nat) {x : Str} (hN : X.N.Nodup) (hi : X.N[i]? = some x) (hx : Loc X.env.scope x) (hf : X.fn x = true ∨ X.env.scope.names.lookup x = some .local := by first | exact .inl rfl | exact .inr rfl | assumption) : SG X (.Name x pos) (gnName i) :=
  fun F₀ H₀ pins s σ H v u Q I r h => pg_name hN hi hx hf pins s σ H v u Q I r (by
    obtain ⟨F, τ, t, τ', E, rt, e1, q⟩ := h
    cases e1
    exact q F H _ (E.set rt) (Same.refl _))
theorem sgs_nil : SGs X [] gnNil := fun F₀ H₀ pins s σ H vs us Q I r h => pgs_nil pins s σ H vs us Q I r (by
  obtain ⟨F, τ, ts, τ', E, rt, e1, q⟩ := h
  cases ts with
  | nil => cases e1; cases rt; exact ⟨rfl, q F H σ E (Same.refl _)⟩
  | cons t ts => cases e1)
theorem sgs_cons {g : FG} {gs : List T → TEnv → Option TEnv} (h1 : SG X e g) (h2 : SGs X es gs) (hs : (assignEach (e :: es) X.env).map (·.2) = assign e X.env :: (assignEach es X.env).map (·.2) := by rfl) : SGs X (e :: es) (gnCons g gs) :=
  fun F₀ H₀ pins s σ H vs us Q I r h => pgs_cons (h1 F₀ H₀) (h2 F₀ H₀) hs pins s σ H vs us Q I r (by
    obtain ⟨F, τ, ts, τ', E, rt, e1, q⟩ := h
    cases ts with
    | nil => cases e1
    | cons t ts =>
      obtain ⟨v, rr, rfl, r1, r2⟩ := rt
      obtain ⟨τ1, e2, e1⟩ := bind_some e1
      exact ⟨v, rr, rfl, F, τ, t, τ1, E, r1, e2, fun F' H' σ' E' s' => ⟨F', τ1, ts, τ', E', Reps.mono s' r2, e1, fun F2 H2 σ2 E2 s2 => q F2 H2 σ2 E2 (s'.trans s2)⟩⟩)
theorem gl_nil : ∀ ts τ τ', gnNil ts τ = some τ' → ts.length = 0 := fun ts τ τ' h => by cases ts <;> first | rfl | cases h
theorem gl_cons {g : FG} {gs : List T → TEnv → Option TEnv} {n : Nat} (h : ∀ ts τ τ', gs ts τ = some τ' → ts.length = n) : ∀ ts τ τ', gnCons g gs ts τ = some τ' → ts.length = n + 1 := fun ts τ τ' e => by
  cases ts with
  | nil => cases e
  | cons t ts =>
    obtain ⟨τ1, e2, e1⟩ := bind_some e
    simp [h _ _ _ e1]
theorem sg_tup {gs : List T → TEnv → Option TEnv} {k : Nat} {n : Nat} (hc : X.calm = true) (h : SGs X es gs) (hl : ∀ ts τ τ', gs ts τ = some τ' → ts.length = n)
    (hn : (assignEach es X.env).length = n := by rfl) (hst : (assignEach es X.env).findIdx? (·.1) = none := by rfl) : SG X (.Tuple es k pos) (gnTup gs) :=
  fun F₀ H₀ pins s σ H v u Q I r h' => pg_tup hc (h F₀ H₀) hn hst pins s σ H v u Q I r (by
    obtain ⟨F, τ, t, τ', E, rt, e1, q⟩ := h'
    unfold gnTup at e1
    split at e1
    · next ts =>
      obtain ⟨p, xs, rfl, h1, h2⟩ := rt
      exact ⟨p, xs, rfl, same_sqT E.g.fh h1, by rw [h2.length]; exact hl _ _ _ e1, F, τ, ts, τ', E, h2, e1, q⟩
    · cases e1)
def fAsg (f : FE) (g : FG) : FS := fun τ => (f τ).bind fun p => (g p.1 p.2).bind fun τ' => some (.nx τ')
theorem ss_asg {tg : Expr} {g : FG} (he : SE X e f) (hg : SG X tg g) (hs : swapsWithSole [tg] e pos.line X.env = pure false := by rfl) (hw : swappedStores [tg] e X.env = pure none := by rfl)
    (h1 : (assignEach [tg] X.env).map (·.2) = [assign tg X.env] := by rfl) : SS X (.Assign [tg] e pos) (fAsg f g) := fun F₀ H₀ => PS.weak (ps_asg (he F₀ H₀) (hg F₀ H₀) hs hw h1) fun D σ H ⟨F, τ, r, E, e1, q⟩ => by
  obtain ⟨⟨y, τ1⟩, e2, e1⟩ := bind_some e1
  obtain ⟨τ2, e3, e1⟩ := bind_some e1
  cases e1
  exact ⟨F, τ, y, τ1, E, e2, fun F' H' v E' s' r' => ⟨F', τ1, y, τ2, E', r', e3, fun F2 H2 σ2 E2 s2 => q F2 H2 σ2 E2 (s'.trans s2)⟩⟩
def fPar (i j : Nat) (g : FA) : FS := fun τ => (g τ).bind fun p => match p.1 with
  | [v, w] => some (.nx ((p.2.set i (some (.sh v))).set j (some (.sh w))))
  | _ => none
theorem ss_par {i j : Nat} {x y : Str} {px py pt : Pos} {kt k2 pt2} (hc : X.calm = true) (hN : X.N.Nodup) (hi : X.N[i]? = some x) (hj : X.N[j]? = some y) (hij : i ≠ j)
    (hx : X.env.scope.names.lookup x = some .local) (hy : X.env.scope.names.lookup y = some .local) (ha : SA X [a, b] ga)
    (hw : swappedStores [.Tuple [.Name x px, .Name y py] kt pt] (.Tuple [a, b] k2 pt2) X.env = pure (some [x, y]))
    (hs : swapsWithSole [.Tuple [.Name x px, .Name y py] kt pt] (.Tuple [a, b] k2 pt2) pos.line X.env = pure false := by rfl) :
    SS X (.Assign [.Tuple [.Name x px, .Name y py] kt pt] (.Tuple [a, b] k2 pt2) pos) (fPar i j ga) := fun F₀ H₀ => PS.weak (ps_par hc hN hi hj hij hx hy (ha F₀ H₀) hw hs) fun D σ H ⟨F, τ, r, E, e1, q⟩ => by
  obtain ⟨⟨ts, τ1⟩, e2, e1⟩ := bind_some e1
  dsimp only at e1
  split at e1
  · next v w =>
    cases e1
    refine ⟨F, τ, _, τ1, E, e2, fun F' H' vs E' s' r' => ?_⟩
    obtain ⟨v1, r1, rfl, q1, v2, r2, rfl, q2, rfl⟩ := r'
    exact ⟨v1, v2, rfl, q F' H' _ ((E'.set q1).set q2) s'⟩
  · cases e1

/-! ### what a loop walks -/
structure Walks (K : PySem.W.Frag) (F : Hp) (ts : List T) (J : It) : Prop where
  go : ∀ (i : Nat) t F1 H1, ts[i]? = some t → Same F F1 → Same F1 H1 → J.go i H1
  yld : ∀ (i : Nat) t F1 H1 x H2, ts[i]? = some t → Same F F1 → Same F1 H1 → J.yld i H1 x H2 → ∃ F2, Grow F1 H1 F2 H2 ∧ Rep K F2 t x
  stop : ∀ F1 H1, Same F F1 → Same F1 H1 → J.stop ts.length H1
def tI (K : PySem.W.Frag) (F₀ H₀ : Hp) (fi : FA) : TI := fun σ H R => ∃ F τ ts τ', EnvOk K F₀ H₀ F H σ τ ∧ fi τ = some (ts, τ') ∧ ∀ F' H' J, EnvOk K F₀ H₀ F' H' σ τ' → Same F F' → Walks K F' ts J → R J H'
def SI (X : Cx) (tg iter : Expr) (fi : FA) : Prop := ∀ F₀ H₀, PI X tg iter (tI X.K F₀ H₀ fi)
def loopT (fg : FG) (fb : FS) : List T → FS
  | [], τ => some (.nx τ)
  | t :: ts, τ => (fg t τ).bind fun τ1 => (fb τ1).bind fun r => match r with
    | .nx τ2 => loopT fg fb ts τ2
    | .ct τ2 => loopT fg fb ts τ2
    | .bk τ2 => some (.nx τ2)
    | .rt v => some (.rt v)
def fFor (fi : FA) (fg : FG) (fb : FS) : FS := fun τ => (fi τ).bind fun p => loopT fg fb p.1 p.2
theorem ss_for {tg iter : Expr} {body : List Stmt} {fi : FA} {fg : FG} {fb : FS} (hp : PassesOwn (model X.prog X.w) X.A X.env X.xe) (hc : X.calm = true) (hi : SI X tg iter fi) (hg : SG X tg fg) (hb : SSs X body fb)
    (hs : ∀ x, foldedSetIterable iter X.env x = pure x := by intro _; rfl) : SS X (.For tg iter body [] pos) (fFor fi fg fb) := fun F₀ H₀ => PS.weak (ps_for hp hc (hi F₀ H₀) (hg F₀ H₀) (hb F₀ H₀) hs) fun D σ H ⟨F, τ, r, E, e1, q⟩ => by
  obtain ⟨⟨ts, τ1⟩, e2, e1⟩ := bind_some e1
  refine ⟨F, τ, ts, τ1, E, e2, fun F' H' J E' s' W => ?_⟩
  refine ⟨fun i m σ H => m = ts.length - i ∧ i ≤ ts.length ∧ ∃ F1 τ1, EnvOk X.K F₀ H₀ F1 H σ τ1 ∧ Same F' F1 ∧ loopT fg fb (ts.drop i) τ1 = some r, ⟨_, rfl, Nat.zero_le _, F', τ1, E', Same.refl _, e1⟩, ?_⟩
  rintro i m σ1 H1 ⟨rfl, hi, F1, τ2, E1, s1, e3⟩
  by_cases hlt : i < ts.length
  · have hd : ts.drop i = ts[i] :: ts.drop (i + 1) := List.drop_eq_getElem_cons hlt
    have hg : ts[i]? = some ts[i] := List.getElem?_eq_getElem hlt
    rw [hd] at e3
    obtain ⟨τ3, e4, e3⟩ := bind_some e3
    obtain ⟨r', e5, e3⟩ := bind_some e3
    refine .inr ⟨W.go i _ F1 H1 hg s1 E1.g.fh, fun σ H => ∃ F1 τ1, EnvOk X.K F₀ H₀ F1 H σ τ1 ∧ Same F' F1 ∧ loopT fg fb (ts.drop (i + 1)) τ1 = some r, fun σ' H' n => ⟨_, by omega, rfl, hlt, n⟩, fun x H2 y => ?_⟩
    obtain ⟨F2, gr, rx⟩ := W.yld i _ F1 H1 x H2 hg s1 E1.g.fh y
    refine ⟨F2, τ2, ts[i], τ3, E1.grow gr, rx, e4, fun F3 H3 σ3 E3 s3 => ⟨F3, τ3, r', E3, e5, ?_⟩⟩
    have s03 : Same F' F3 := s1.trans (gr.sF.trans s3)
    cases r' with
    | nx τ4 => exact fun F4 H4 σ4 E4 s4 => ⟨F4, τ4, E4, s03.trans s4, e3⟩
    | ct τ4 => exact fun F4 H4 σ4 E4 s4 => ⟨F4, τ4, E4, s03.trans s4, e3⟩
    | bk τ4 => cases e3; exact fun F4 H4 σ4 E4 s4 => q F4 H4 σ4 E4 (s'.trans (s03.trans s4))
    | rt v => cases e3; exact q
  · have he : i = ts.length := by omega
    subst he
    rw [List.drop_length] at e3
    cases e3
    exact .inl ⟨W.stop F1 H1 s1 E1.g.fh, q F1 H1 σ1 E1 (s'.trans s1)⟩
/-- over a list, a tuple -/
def gSeq : T → Option (List T)
  | .lst ts => some ts
  | .tup ts => some ts
  | _ => none
def fiSeqL (f : FE) : FA := fun τ => (f τ).bind fun p => match p.1 with | .lst ts => some (ts, p.2) | .scr ts => some (ts, p.2) | _ => none
def fiSeqT (f : FE) : FA := fun τ => (f τ).bind fun p => match p.1 with | .tup ts => some (ts, p.2) | _ => none
theorem walks_list {K : PySem.W.Frag} {F : Hp} {p : Addr} {xs : List V} {ts : List T} (h1 : SqL K F p xs) (h2 : Reps K F ts xs) : Walks K F ts (Itl K p) := by
  refine ⟨fun i t F1 H1 e s1 s2 => ?_, fun i t F1 H1 x H2 e s1 s2 y => ?_, fun F1 H1 s1 s2 => ⟨xs, (s1.trans s2).seq h1, by rw [h2.length]; exact Nat.le_refl _⟩⟩
  · obtain ⟨v, g1, _⟩ := h2.get e
    exact ⟨xs, v, (s1.trans s2).seq h1, g1⟩
  · obtain ⟨rfl, y⟩ := y
    obtain ⟨v, g1, g2⟩ := h2.get e
    have := y xs ((s1.trans s2).seq h1)
    rw [g1] at this; cases this
    exact ⟨F1, Grow.refl s2, Rep.mono s1 g2⟩
theorem walks_tup {K : PySem.W.Frag} {F : Hp} {p : Addr} {xs : List V} {ts : List T} (h1 : SqT K F p xs) (h2 : Reps K F ts xs) : Walks K F ts (Itt K p) := by
  refine ⟨fun i t F1 H1 e s1 s2 => ?_, fun i t F1 H1 x H2 e s1 s2 y => ?_, fun F1 H1 s1 s2 => ⟨xs, same_sqT (s1.trans s2) h1, by rw [h2.length]; exact Nat.le_refl _⟩⟩
  · obtain ⟨v, g1, _⟩ := h2.get e
    exact ⟨xs, v, same_sqT (s1.trans s2) h1, g1⟩
  · obtain ⟨rfl, y⟩ := y
    obtain ⟨v, g1, g2⟩ := h2.get e
    have := y xs (same_sqT (s1.trans s2) h1)
    rw [g1] at this; cases this
    exact ⟨F1, Grow.refl s2, Rep.mono s1 g2⟩
theorem PI.weak {tg it : Expr} {t t' : TI} (h : PI X tg it t) (i : ∀ σ H R, t' σ H R → t σ H R) : PI X tg it t' := fun pins s σ H R I q => h pins s σ H R I (i σ H R q)
theorem si_list {tg l : Expr} (h : SE X l f) : SI X tg l (fiSeqL f) := fun F₀ H₀ => PI.weak (pi_list (h F₀ H₀)) fun σ H R ⟨F, τ, ts, τ', E, e1, q⟩ => by
  obtain ⟨⟨x, τ1⟩, e2, e1⟩ := bind_some e1
  dsimp only at e1
  split at e1
  · cases e1
    refine ⟨F, τ, _, τ', E, e2, fun F' H' v E' s' r' => ?_⟩
    obtain ⟨p, xs, rfl, h1, h2⟩ := r'
    exact ⟨p, rfl, ⟨xs, SqL.of (E'.g.fh _ _ h1)⟩, q F' H' _ E' s' (walks_list (SqL.of h1) h2)⟩
  · cases e1
    refine ⟨F, τ, _, τ', E, e2, fun F' H' v E' s' r' => ?_⟩
    obtain ⟨p, xs, rfl, h1, h2⟩ := r'
    exact ⟨p, rfl, ⟨xs, E'.g.fh.seq h1⟩, q F' H' _ E' s' (walks_list h1 h2)⟩
  · cases e1
theorem si_tup {tg l : Expr} (h : SE X l f) : SI X tg l (fiSeqT f) := fun F₀ H₀ => PI.weak (pi_tup (h F₀ H₀)) fun σ H R ⟨F, τ, ts, τ', E, e1, q⟩ => by
  obtain ⟨⟨x, τ1⟩, e2, e1⟩ := bind_some e1
  dsimp only at e1
  split at e1
  · cases e1
    refine ⟨F, τ, _, τ', E, e2, fun F' H' v E' s' r' => ?_⟩
    obtain ⟨p, xs, rfl, h1, h2⟩ := r'
    exact ⟨p, rfl, ⟨xs, same_sqT E'.g.fh h1⟩, q F' H' _ E' s' (walks_tup h1 h2)⟩
  · cases e1
def upTo (lo : Int) : Nat → List T
  | 0 => []
  | n + 1 => .int lo :: upTo (lo + 1) n
theorem upTo_length : ∀ (n : Nat) (lo : Int), (upTo lo n).length = n
  | 0, _ => rfl
  | n + 1, lo => by simp [upTo, upTo_length n]
theorem upTo_get : ∀ (n : Nat) (lo : Int) (i : Nat), i < n → (upTo lo n)[i]? = some (.int (lo + i))
  | 0, _, _, h => by omega
  | n + 1, lo, 0, _ => by simp [upTo]
  | n + 1, lo, i + 1, h => by
    simp only [upTo, List.getElem?_cons_succ]
    rw [upTo_get n (lo + 1) i (by omega)]
    congr 2
    push_cast
    omega
def fiRng1 (g : FA) : FA := fun τ => (g τ).bind fun p => match p.1 with
  | [.int j] => if -(2 ^ 62) ≤ j ∧ j < 2 ^ 62 then some (upTo 0 j.toNat, p.2) else none
  | _ => none
theorem walks_rng {K : PySem.W.Frag} {F : Hp} (lo : Int) (n : Nat) : Walks K F (upTo lo n) (Itr lo n) := by
  have hl : ∀ {i : Nat} {t : T}, (upTo lo n)[i]? = some t → i < n := fun {i t} e => by
    have := (List.getElem?_eq_some_iff.mp e).1
    rwa [upTo_length] at this
  refine ⟨fun i t F1 H1 e s1 s2 => hl e, fun i t F1 H1 x H2 e s1 s2 y => ?_, fun F1 H1 s1 s2 => by show n ≤ _; rw [upTo_length]; exact Nat.le_refl _⟩
  obtain ⟨rfl, rfl⟩ := y
  rw [upTo_get n lo i (hl e)] at e
  cases e
  exact ⟨F1, Grow.refl s2, rfl⟩
theorem si_rng1 {tg : Expr} {p : Pos} (hg : Gl X "range") (hm : X.mg "range" = none) (ha : SA X [a] ga) (hs : starEach [a] X.env = [(false, eval a X.env)] := by rfl) : SI X tg (.Call (.Name "range" p) [a] [] pos) (fiRng1 ga) :=
  fun F₀ H₀ => PI.weak (pi_range1 hg hm (ha F₀ H₀) hs) fun σ H R ⟨F, τ, ts, τ', E, e1, q⟩ => by
    obtain ⟨⟨x, τ1⟩, e2, e1⟩ := bind_some e1
    dsimp only at e1
    split at e1
    · split at e1
      · next hb =>
        cases e1
        refine ⟨F, τ, _, τ', E, e2, fun F' H' vs E' s' r' => ?_⟩
        obtain ⟨v, r, rfl, q1, rfl⟩ := r'
        cases q1
        exact ⟨_, rfl, hb.1, hb.2, q F' H' _ E' s' (walks_rng 0 _)⟩
      · cases e1
    · cases e1
/-! ### while -/
def whileT (ft : FT) (fb : FS) : Nat → FS
  | 0, _ => none
  | n + 1, τ => (ft τ).bind fun p => if p.1 = true then (fb p.2).bind fun r => match r with
    | .nx τ2 => whileT ft fb n τ2
    | .ct τ2 => whileT ft fb n τ2
    | .bk τ2 => some (.nx τ2)
    | .rt v => some (.rt v) else some (.nx p.2)
theorem ss_while (n : Nat) {c : Expr} {body : List Stmt} {ft : FT} {fb : FS} (hp : PassesOwn (model X.prog X.w) X.A X.env X.xe) (hc : ST X c ft) (hb : SSs X body fb) : SS X (.While c body [] pos) (whileT ft fb n) := fun F₀ H₀ => PS.weak (ps_while hp (hc F₀ H₀) (hb F₀ H₀)) fun D σ H ⟨F, τ, r, E, e1, q⟩ => by
  refine ⟨fun m σ H => ∃ F1 τ1, EnvOk X.K F₀ H₀ F1 H σ τ1 ∧ Same F F1 ∧ whileT ft fb m τ1 = some r, ⟨n, F, τ, E, Same.refl _, e1⟩, ?_⟩
  rintro m σ1 H1 ⟨F1, τ1, E1, s1, e2⟩
  cases m with
  | zero => cases e2
  | succ m =>
    obtain ⟨⟨x, τ2⟩, e3, e2⟩ := bind_some e2
    refine ⟨F1, τ1, x, τ2, E1, e3, fun F2 H2 E2 s2 => ?_⟩
    dsimp only at e2
    split at e2
    · next h =>
      rw [if_pos h]
      obtain ⟨r', e4, e2⟩ := bind_some e2
      refine ⟨fun σ H => ∃ F1 τ1, EnvOk X.K F₀ H₀ F1 H σ τ1 ∧ Same F F1 ∧ whileT ft fb m τ1 = some r, fun σ' H' n => ⟨m, Nat.lt_succ_self m, n⟩, F2, τ2, r', E2, e4, ?_⟩
      cases r' with
      | nx τ4 => exact fun F4 H4 σ4 E4 s4 => ⟨F4, τ4, E4, (s1.trans s2).trans s4, e2⟩
      | ct τ4 => exact fun F4 H4 σ4 E4 s4 => ⟨F4, τ4, E4, (s1.trans s2).trans s4, e2⟩
      | bk τ4 => cases e2; exact fun F4 H4 σ4 E4 s4 => q F4 H4 σ4 E4 ((s1.trans s2).trans s4)
      | rt v => cases e2; exact q
    · next h =>
      rw [if_neg h]
      cases e2
      exact q F2 H2 σ1 E2 (s1.trans s2)
/-! ### x.append(e), x a list of this def's own -/
def fApp (i : Nat) (f : FE) : FS := fun τ => match τ[i]? with
  | some (some (.own _)) => (f τ).bind fun p => match p.2[i]? with
    | some (some (.own ts)) => if ts.length < sizeLine then some (.nx (p.2.set i (some (.own (ts ++ [p.1]))))) else none
    | _ => none
  | _ => none
end
/-! ### a def -/
def dOf (m n : Nat) (fb : FS) : List T → Option T := fun ts => if ts.length = n then (fb (ts.map (fun t => some (Sl.sh t)) ++ List.replicate (m - n) none)).bind fun r => match r with
  | .rt t => some t
  | .nx _ => some .non
  | _ => none else none
theorem env_start {K : PySem.W.Frag} {F H : Hp} {N : List Str} {vs : List V} {ts : List T} (s : Same F H) (r : Reps K F ts vs) : EnvOk K F H F H (start N vs) (ts.map (fun t => some (Sl.sh t)) ++ List.replicate (N.length - ts.length) none) := by
  have hl := r.length
  have key : ∀ (i : Nat) (sl : Sl), (ts.map (fun t => some (Sl.sh t)) ++ List.replicate (N.length - ts.length) none)[i]? = some (some sl) → ∃ t, ts[i]? = some t ∧ sl = .sh t := fun i sl e => by
    by_cases h : i < ts.length
    · rw [List.getElem?_append_left (by simpa using h), List.getElem?_map, List.getElem?_eq_getElem h] at e
      simp at e
      exact ⟨ts[i], List.getElem?_eq_getElem h, e.symm⟩
    · rw [List.getElem?_append_right (by simp; omega), List.getElem?_replicate] at e
      split at e <;> cases e
  refine ⟨Grow.refl s, by simp [L2.start, hl], fun i sl e => ?_, fun i j us ws p _ e1 _ _ => ?_⟩
  · obtain ⟨t, e1, rfl⟩ := key i sl e
    obtain ⟨v, g1, g2⟩ := r.get e1
    refine ⟨v, ?_, g2⟩
    have hi : i < vs.length := (List.getElem?_eq_some_iff.mp g1).1
    unfold L2.start
    rw [List.getElem?_append_left (by simpa using hi), List.getElem?_map, g1]
    rfl
  · obtain ⟨t, _, e⟩ := key i _ e1
    cases e
section
variable {P : Program} {w : World} {K : PySem.W.Frag} {mg : Str → Option Value} {base : Heap}
theorem def_of {x qual : Str} {st : Stmt} {f : Addr} {fd : FuncData} {N ps : List Str} {k : Nat} {fb : FS} (F : Fun K x qual st f fd) (S : FnScope N ps (defScope st)) (hb : Binds K fd ps []) (hm : mg x = some (.ref f))
    (h : ∀ (cdv : Value) (A : Around) (outer : List Env) (s : Shared) (H : Hp) (E : XK), Room k (A.deeper (envOfC qual (defScope st) s.heap.objs.size f cdv)) → SSs (cxOf CX0 P w K mg base N qual (defScope st) f cdv A outer s H E).nox (defBody st) fb) :
    Def P w K mg base (k + 1) x ps.length (dOf N.length ps.length fb) := by
  refine ⟨f, fd, ps, F.ok S (fun vs H Q E z => z.1) (fun cdv A outer s H vs Q E hr z => ?_), hb, F.kp, hm, rfl⟩
  obtain ⟨hl, F1, ts, t, sm, r, e, q⟩ := z
  unfold dOf at e
  split at e
  · next hn =>
    obtain ⟨r', e1, e⟩ := bind_some e
    refine ⟨_, h cdv A outer s H E hr F1 H, F1, _, r', ?_, e1, ?_⟩
    · have := env_start (N := N) sm r
      rw [hn] at this
      exact this
    · cases r' with
      | rt u => cases e; exact fun F' H' v g r' => q F' H' v g r'
      | nx τ => cases e; exact fun F' H' σ' E' s' => q F' H' .non E'.g rfl
      | bk τ => cases e
      | ct τ => cases e
  · cases e
end
end TM

set_option Elab.async false
set_option linter.all false
set_option maxRecDepth 100000
namespace TM
open PySem PySem.Spec PyProof.Rows L2
/-- what whole numbers a reckoning stays below -/
def B : Nat := 2 ^ 9000
theorem B_log {n : Nat} (h : n < B) : n.log2 < 9000 := by
  rcases Nat.eq_zero_or_pos n with h0 | hp
  · rw [h0]; decide
  · exact (Nat.log2_lt (Nat.ne_of_gt hp)).mpr h
theorem bits_B {i : Int} (h : i.natAbs < B) : Builtin.Int.intBits i ≤ 9000 := by
  unfold Builtin.Int.intBits
  split
  · omega
  · have := B_log h
    omega
theorem mul_B {i j : Int} (hi : i.natAbs < B) (hj : j.natAbs < B) : IntMulOk i j := by
  have h1 := bits_B hi
  have h2 := bits_B hj
  unfold IntMulOk
  have h3 : Builtin.Int.intTooBig (Builtin.Int.intBits i + Builtin.Int.intBits j) = false := by
    unfold Builtin.Int.intTooBig
    have hb : ((bitsLine : Nat) : Int) = 134217728 := by decide
    rw [decide_eq_false]
    show ¬ ((Builtin.Int.intBits i : Int) + (Builtin.Int.intBits j : Int) > ((bitsLine : Nat) : Int))
    rw [hb]
    omega
  rw [h3]
  simp
section
variable {X : Cx}
def gI (C : Int → Int → Prop) [∀ i j, Decidable (C i j)] (g : Int → Int → T) : T → T → Option T := fun a b => match a, b with
  | .int i, .int j => if C i j then some (g i j) else none
  | _, _ => none
theorem gI_int {C : Int → Int → Prop} [∀ i j, Decidable (C i j)] {g : Int → Int → T} {i j : Int} : gI C g (.int i) (.int j) = if C i j then some (g i j) else none := rfl
theorem opT_I {f : Value → Value → Sem Value} {C : Int → Int → Prop} [∀ i j, Decidable (C i j)] {g : Int → Int → T} {gv : Int → Int → V} (h : OpR X f (rI C gv)) (hg : ∀ K F i j, Rep K F (g i j) (gv i j)) : OpT X f (gI C g) := by
  intro pins s σ H x y v u Q I rx ry ⟨F, a, b, t, sm, ra, rb, e, q⟩
  unfold gI at e
  split at e
  · cases ra
    cases rb
    split at e
    · next hc =>
      cases e
      exact h pins s σ H _ _ v u Q I rx ry ⟨_, _, rfl, rfl, hc, q F H _ (Grow.refl sm) (hg _ _ _ _)⟩
    · cases e
  · cases e
theorem opT_I0 {f : Value → Value → Sem Value} {g : Int → Int → T} {gv : Int → Int → V} (h : OpR X f (rI0 gv)) (hg : ∀ K F i j, Rep K F (g i j) (gv i j)) : OpT X f (gI (fun _ _ => True) g) :=
  opT_I (fun pins s σ H x y v u Q I rx ry ⟨i, j, e1, e2, _, q⟩ => h pins s σ H x y v u Q I rx ry ⟨i, j, e1, e2, q⟩) hg
def gOr (g g' : T → T → Option T) : T → T → Option T := fun a b => match g a b with
  | some t => some t
  | none => g' a b
theorem OpT.or {f : Value → Value → Sem Value} {g g' : T → T → Option T} (h : OpT X f g) (h' : OpT X f g') : OpT X f (gOr g g') := by
  intro pins s σ H x y v u Q I rx ry ⟨F, a, b, t, sm, ra, rb, e, q⟩
  unfold gOr at e
  split at e
  · next t' e' => cases e; exact h pins s σ H x y v u Q I rx ry ⟨F, a, b, _, sm, ra, rb, e', q⟩
  · exact h' pins s σ H x y v u Q I rx ry ⟨F, a, b, t, sm, ra, rb, e, q⟩
def CMulB (i j : Int) : Prop := i.natAbs < B ∧ j.natAbs < B
instance (i j : Int) : Decidable (CMulB i j) := inferInstanceAs (Decidable (_ ∧ _))
def CDivB (i j : Int) : Prop := j ≠ 0 ∧ j.natAbs < B
instance (i j : Int) : Decidable (CDivB i j) := inferInstanceAs (Decidable (_ ∧ _))
def CNz (i j : Int) : Prop := j ≠ 0
instance (i j : Int) : Decidable (CNz i j) := inferInstanceAs (Decidable (_ ≠ _))
instance (i j : Int) : Decidable (CPow i j) := inferInstanceAs (Decidable (_ ∧ _ ∧ _))
abbrev gSub := gI (fun _ _ => True) fun i j => .int (i - j)
abbrev gMulI := gI CMulB fun i j => .int (i * j)
abbrev gDiv := gI CDivB fun i j => .int (i.fdiv j)
abbrev gMod := gI CNz fun i j => .int (i.fmod j)
abbrev gPow := gI CPow fun i j => .int (i ^ j.toNat)
abbrev gLt := gI (fun _ _ => True) fun i j => .bl (decide (i < j))
abbrev gLe := gI (fun _ _ => True) fun i j => .bl (decide (i ≤ j))
abbrev gGt := gI (fun _ _ => True) fun i j => .bl (decide (j < i))
abbrev gGe := gI (fun _ _ => True) fun i j => .bl (decide (j ≤ i))
theorem ot_sub : OpT X (binaryOp .Sub) gSub := opT_I0 op_sub fun _ _ _ _ => rfl
theorem ot_mulI : OpT X (binaryOp .Mult) gMulI := opT_I (C := CMulB) (gv := fun i j => .int (i * j)) (opI fun _ _ _ _ _ _ _ hc q => mul_int q (mul_B hc.1 hc.2)) fun _ _ _ _ => rfl
theorem ot_div : OpT X (binaryOp .FloorDiv) gDiv := opT_I (C := CDivB) (gv := fun i j => .int (i.fdiv j)) (opI fun _ _ _ _ _ _ _ hc q => floordiv_int hc.1 q (.inl (PyProof.noPylong_of_log2 (B_log hc.2)))) fun _ _ _ _ => rfl
theorem ot_mod : OpT X (binaryOp .Mod) gMod := opT_I (C := CNz) (gv := fun i j => .int (i.fmod j)) op_modN fun _ _ _ _ => rfl
theorem ot_pow : OpT X (binaryOp .Pow) gPow := opT_I (C := CPow) op_pow fun _ _ _ _ => rfl
theorem ot_lt : OpT X (compareOp .Lt) gLt := opT_I0 op_lt fun _ _ _ _ => rfl
theorem ot_le : OpT X (compareOp .LtE) gLe := opT_I0 op_le fun _ _ _ _ => rfl
theorem ot_gt : OpT X (compareOp .Gt) gGt := opT_I0 op_gt fun _ _ _ _ => rfl
theorem ot_ge : OpT X (compareOp .GtE) gGe := opT_I0 op_ge fun _ _ _ _ => rfl
/-! a + b -/
def gAddS : T → T → Option T
  | .str x, .str y => if x.length + y.length ≤ sizeLine then some (.str (x ++ y)) else none
  | .lst xs, .lst ys => if xs.length + ys.length ≤ sizeLine then some (.lst (xs ++ ys)) else none
  | .tup (x :: xs), .tup (y :: ys) => if (x :: xs).length + (y :: ys).length ≤ sizeLine then some (.tup (x :: xs ++ y :: ys)) else none
  | _, _ => none
theorem ot_addS : OpT X (binaryOp .Add) gAddS := by
  intro pins s σ H x y v u Q I rx ry ⟨F, a, b, t, sm, ra, rb, e, q⟩
  unfold gAddS at e
  split at e
  · split at e
    · next hl =>
      cases e; cases ra; cases rb
      exact op_add_str pins s σ H _ _ v u Q I rx ry ⟨_, _, rfl, rfl, hl, q F H _ (Grow.refl sm) rfl⟩
    · cases e
  · split at e
    · next hl =>
      cases e
      obtain ⟨p1, x1, rfl, h1, h2⟩ := ra
      obtain ⟨p2, x2, rfl, h3, h4⟩ := rb
      refine op_cat pins s σ H _ _ v u Q I rx ry ⟨p1, p2, x1, x2, rfl, rfl, sm _ _ h1, sm _ _ h3, by rw [h2.length, h4.length]; exact hl, fun p hp => ?_⟩
      have gr := Grow.new (.lst (x1 ++ x2)) sm hp
      exact q _ _ _ gr ⟨p, _, rfl, upd_same, Reps.mono gr.sF (h2.append h4)⟩
    · cases e
  · split at e
    · next hl =>
      cases e
      obtain ⟨p1, x1, rfl, h1, h2⟩ := ra
      obtain ⟨p2, x2, rfl, h3, h4⟩ := rb
      refine op_catT pins s σ H _ _ v u Q I rx ry ⟨p1, p2, x1, x2, rfl, rfl, same_sqT sm h1, same_sqT sm h3, fun z => ?_, by rw [h2.length, h4.length]; exact hl, fun z => ?_, fun _ p hp => ?_⟩
      · subst z; have := h2.length; simp at this
      · subst z; have := h4.length; simp at this
      · have gr := Grow.new (.tup (x1 ++ x2)) sm hp
        exact q _ _ _ gr ⟨p, _, rfl, SqT.of upd_same, Reps.mono gr.sF (h2.append h4)⟩
    · cases e
  · cases e
def gAdd : T → T → Option T := gOr (gI (fun _ _ => True) fun i j => .int (i + j)) gAddS
theorem ot_add : OpT X (binaryOp .Add) gAdd := OpT.or (opT_I0 op_add fun _ _ _ _ => rfl) ot_addS
theorem gAdd_int {i j : Int} : gAdd (.int i) (.int j) = some (.int (i + j)) := rfl
theorem gAdd_lst {xs ys : List T} (h : xs.length + ys.length ≤ sizeLine) : gAdd (.lst xs) (.lst ys) = some (.lst (xs ++ ys)) := by
  show gAddS (.lst xs) (.lst ys) = _
  simp only [gAddS, if_pos h]
theorem gAdd_tup {x y : T} {xs ys : List T} (h : (x :: xs).length + (y :: ys).length ≤ sizeLine) : gAdd (.tup (x :: xs)) (.tup (y :: ys)) = some (.tup (x :: xs ++ y :: ys)) := by
  show gAddS (.tup (x :: xs)) (.tup (y :: ys)) = _
  simp only [gAddS, if_pos h]
theorem gAdd_str {x y : Str} (h : x.length + y.length ≤ sizeLine) : gAdd (.str x) (.str y) = some (.str (x ++ y)) := by
  show gAddS (.str x) (.str y) = _
  simp only [gAddS, if_pos h]
/-! -a -/
def gNeg : T → Option T
  | .int i => some (.int (-i))
  | _ => none
theorem ut_neg : UnT X (unaryOp .USub) gNeg := by
  intro pins s σ H x v Q I rx ⟨F, a, t, sm, ra, e, q⟩
  unfold gNeg at e
  split at e
  · cases e; cases ra
    exact un_neg pins s σ H _ v Q I rx ⟨_, rfl, q F H _ (Grow.refl sm) rfl⟩
  · cases e
/-! a == b, a != b -/
mutual
def toP : T → Option PyData
  | .non => some .none
  | .bl b => some (.bool b)
  | .int i => some (.int i)
  | .str x => some (.str x)
  | .tup ts => (toPs ts).map .tuple
  | .lst ts => (toPs ts).map .list
  | .scr ts => (toPs ts).map .list
  | .ty _ => none
  | .dic => none
def toPs : List T → Option (List PyData)
  | [] => some []
  | t :: ts => (toP t).bind fun d => (toPs ts).bind fun ds => some (d :: ds)
end
mutual
theorem reads_of {pins : List (Addr × Obj)} {σ : L2.St} {H F : Hp} {s : Shared} (I : Inv X pins σ H s) (sm : Same F H) : ∀ {t : T} {d : PyData} {v : V} {u : Value}, toP t = some d → Rep X.K F t v → RelV v u → ∃ as, Reads s.heap u d as
  | .non, d, v, u, e, r, ru => by cases r; cases e; cases ru; exact ⟨_, .none⟩
  | .bl b, d, v, u, e, r, ru => by cases r; cases e; cases ru; exact ⟨_, .bool _⟩
  | .int i, d, v, u, e, r, ru => by cases r; cases e; obtain ⟨t, rfl⟩ := ru; exact ⟨_, .int _ _⟩
  | .str x, d, v, u, e, r, ru => by cases r; cases e; obtain ⟨t, rfl⟩ := ru; exact ⟨_, .str _ _⟩
  | .ty _, d, v, u, e, r, ru => by cases e
  | .dic, d, v, u, e, r, ru => by cases e
  | .tup ts, d, v, u, e, r, ru => by
    obtain ⟨p, xs, rfl, h1, h2⟩ := r
    cases ru
    simp only [toP] at e
    cases e1 : toPs ts with
    | none => rw [e1] at e; cases e
    | some ds =>
      rw [e1] at e; cases e
      obtain ⟨its, rv, ⟨o, g1, g2, n, g3⟩, _⟩ := I.tuple (same_sqT sm h1)
      obtain ⟨as, q⟩ := readsAll_of I sm e1 h2 rv
      exact ⟨_, .tuple g1 g2 g3 q⟩
  | .lst ts, d, v, u, e, r, ru => by
    obtain ⟨p, xs, rfl, h1, h2⟩ := r
    cases ru
    simp only [toP] at e
    cases e1 : toPs ts with
    | none => rw [e1] at e; cases e
    | some ds =>
      rw [e1] at e; cases e
      obtain ⟨its, rv, ⟨o, n, g1, g2, _, g3⟩, _⟩ := I.list (SqL.of (sm _ _ h1))
      obtain ⟨as, q⟩ := readsAll_of I sm e1 h2 rv
      exact ⟨_, .list g1 g2 g3 q⟩
  | .scr ts, d, v, u, e, r, ru => by
    obtain ⟨p, xs, rfl, h1, h2⟩ := r
    cases ru
    simp only [toP] at e
    cases e1 : toPs ts with
    | none => rw [e1] at e; cases e
    | some ds =>
      rw [e1] at e; cases e
      obtain ⟨its, rv, ⟨o, n, g1, g2, _, g3⟩, _⟩ := I.list (sm.seq h1)
      obtain ⟨as, q⟩ := readsAll_of I sm e1 h2 rv
      exact ⟨_, .list g1 g2 g3 q⟩
theorem readsAll_of {pins : List (Addr × Obj)} {σ : L2.St} {H F : Hp} {s : Shared} (I : Inv X pins σ H s) (sm : Same F H) : ∀ {ts : List T} {ds : List PyData} {vs : List V} {us : List Value}, toPs ts = some ds → Reps X.K F ts vs → Vals vs us → ∃ as, ReadsAll s.heap us ds as
  | [], ds, vs, us, e, r, ru => by cases r; cases ru; cases e; exact ⟨_, .nil⟩
  | t :: ts, ds, vs, us, e, r, ru => by
    obtain ⟨v, rr, rfl, h1, h2⟩ := r
    cases ru with
    | cons r1 r2 =>
      simp only [toPs] at e
      obtain ⟨d, e1, e⟩ := bind_some e
      obtain ⟨ds', e2, e⟩ := bind_some e
      cases e
      obtain ⟨as, q1⟩ := reads_of I sm e1 h1 r1
      obtain ⟨bs, q2⟩ := readsAll_of I sm e2 h2 r2
      exact ⟨_, .cons q1 q2⟩
end
def gEqW (neg : Bool) (a b : T) : Option T := (toP a).bind fun p => (toP b).bind fun q => if SeqAt.shaped p = true ∧ SeqAt.shaped q = true then some (.bl (if neg then !PyData.eqv p q else PyData.eqv p q)) else none
abbrev gEq := gEqW false
abbrev gNe := gEqW true
theorem ot_eq (hu : X.A.units + 64 < cLine) : OpT X (compareOp .Eq) gEq := by
  intro pins s σ H x y v u Q I rx ry ⟨F, a, b, t, sm, ra, rb, e, q⟩
  obtain ⟨d1, e1, e⟩ := bind_some e
  obtain ⟨d2, e2, e⟩ := bind_some e
  split at e
  · next hs =>
    cases e
    obtain ⟨as, q1⟩ := reads_of I sm e1 ra rx
    obtain ⟨bs, q2⟩ := reads_of I sm e2 rb ry
    exact SeqAt.compareEq_shaped q1 q2 hs.1 hs.2 hu ⟨.bl _, H, I, rfl, q F H _ (Grow.refl sm) rfl⟩
  · cases e
theorem ot_ne (hu : X.A.units + 64 < cLine) : OpT X (compareOp .NotEq) gNe := by
  intro pins s σ H x y v u Q I rx ry ⟨F, a, b, t, sm, ra, rb, e, q⟩
  obtain ⟨d1, e1, e⟩ := bind_some e
  obtain ⟨d2, e2, e⟩ := bind_some e
  split at e
  · next hs =>
    cases e
    obtain ⟨as, q1⟩ := reads_of I sm e1 ra rx
    obtain ⟨bs, q2⟩ := reads_of I sm e2 rb ry
    exact SeqAt.compareNe_shaped q1 q2 hs.1 hs.2 hu ⟨.bl _, H, I, rfl, q F H _ (Grow.refl sm) rfl⟩
  · cases e
/-! a is None, a is True -/
def isNon : T → Bool
  | .non => true
  | _ => false
def gIs : T → T → Option T
  | a, .non => some (.bl (isNon a))
  | .bl c, .bl d => some (.bl (c == d))
  | _, _ => none
theorem isNon_rep {K : PySem.W.Frag} {F : Hp} {t : T} {v : V} (r : Rep K F t v) : decide (v = .non) = isNon t := by
  cases t with
  | non => cases r; rfl
  | bl _ => cases r; rfl
  | int _ => cases r; rfl
  | str _ => cases r; rfl
  | ty _ => cases r; rfl
  | tup _ => obtain ⟨p, xs, rfl, _⟩ := r; rfl
  | lst _ => obtain ⟨p, xs, rfl, _⟩ := r; rfl
  | scr _ => obtain ⟨p, xs, rfl, _⟩ := r; rfl
  | dic => obtain ⟨p, rfl, _⟩ := r; rfl
theorem ot_is : OpT X (compareOp .Is) gIs := by
  intro pins s σ H x y v u Q I rx ry ⟨F, a, b, t, sm, ra, rb, e, q⟩
  unfold gIs at e
  split at e
  · cases e; cases rb
    exact op_isN pins s σ H _ _ v u Q I rx ry ⟨rfl, by rw [isNon_rep ra]; exact q F H _ (Grow.refl sm) rfl⟩
  · cases e; cases ra; cases rb; cases rx; cases ry
    exact is_bool ⟨.bl _, H, I, rfl, q F H _ (Grow.refl sm) rfl⟩
  · cases e
/-! a[i] -/
def gIx : T → T → Option T
  | .lst ts, .int i => atI ts i
  | .scr ts, .int i => atI ts i
  | .tup ts, .int i => atI ts i
  | .str x, .int i => if x.length ≤ sizeLine then (atI x.cps.toList i).map fun c => .str ⟨#[c]⟩ else none
  | _, _ => none
theorem atI_rep {K : PySem.W.Frag} {F : Hp} {ts : List T} {vs : List V} {i : Int} {t : T} (r : Reps K F ts vs) (e : atI ts i = some t) : ∃ v, atI vs i = some v ∧ Rep K F t v := by
  unfold atI at e ⊢
  rw [r.length]
  obtain ⟨j, e1, e2⟩ := bind_some e
  obtain ⟨v, g1, g2⟩ := r.get e2
  exact ⟨v, by rw [e1]; exact g1, g2⟩
theorem xt_ix : IxR X (rT2 X.K gIx) := by
  intro value slice pins s σ H x y v u Q I rx ry ⟨F, a, b, t, sm, ra, rb, e, q⟩ hs
  unfold gIx at e
  split at e
  · obtain ⟨p, xs, rfl, h1, h2⟩ := ra
    cases rb
    obtain ⟨w, g1, g2⟩ := atI_rep h2 e
    exact ix_list value slice pins s σ H _ _ v u Q I rx ry ⟨p, xs, _, w, rfl, rfl, SqL.of (sm _ _ h1), g1, q F H _ (Grow.refl sm) g2⟩ hs
  · obtain ⟨p, xs, rfl, h1, h2⟩ := ra
    cases rb
    obtain ⟨w, g1, g2⟩ := atI_rep h2 e
    exact ix_list value slice pins s σ H _ _ v u Q I rx ry ⟨p, xs, _, w, rfl, rfl, sm.seq h1, g1, q F H _ (Grow.refl sm) g2⟩ hs
  · obtain ⟨p, xs, rfl, h1, h2⟩ := ra
    cases rb
    obtain ⟨w, g1, g2⟩ := atI_rep h2 e
    exact ix_tup value slice pins s σ H _ _ v u Q I rx ry ⟨p, xs, _, w, rfl, rfl, same_sqT sm h1, g1, q F H _ (Grow.refl sm) g2⟩ hs
  · split at e
    · next hl =>
      cases ra; cases rb
      cases e1 : atI (Str.cps _).toList _ with
      | none => rw [e1] at e; cases e
      | some c =>
        rw [e1] at e; cases e
        exact ix_str value slice pins s σ H _ _ v u Q I rx ry ⟨_, _, c, rfl, rfl, hl, e1, q F H _ (Grow.refl sm) rfl⟩ hs
    · cases e
  · cases e
/-! calls -/
theorem callT_of {f : Value} {r : List V → Hp → VK → Prop} {g : List T → Option T} (h : CallR X f r) (i : ∀ vs H Q, rTs X.K g vs H Q → r vs H Q) : CallT X f g := fun pins s σ H xs us Q I rx q => h pins s σ H xs us Q I rx (i _ _ _ q)
def dLen : List T → Option T
  | [.lst ts] => some (.int ts.length)
  | [.scr ts] => some (.int ts.length)
  | [.tup ts] => some (.int ts.length)
  | [.str x] => if x.length ≤ sizeLine then some (.int x.length) else none
  | _ => none
theorem ct_len : CallT X (.builtin "len") dLen := callT_of (CallR.or call_len_seq call_len_str) fun vs H Q ⟨F, ts, t, sm, r, e, q⟩ => by
  unfold dLen at e
  split at e
  · obtain ⟨v, rr, rfl, ⟨p, xs, rfl, h1, h2⟩, rfl⟩ := r
    cases e
    exact .inl ⟨p, xs, rfl, .inl (SqL.of (sm _ _ h1)), by rw [h2.length]; exact q F H _ (Grow.refl sm) rfl⟩
  · obtain ⟨v, rr, rfl, ⟨p, xs, rfl, h1, h2⟩, rfl⟩ := r
    cases e
    exact .inl ⟨p, xs, rfl, .inl (sm.seq h1), by rw [h2.length]; exact q F H _ (Grow.refl sm) rfl⟩
  · obtain ⟨v, rr, rfl, ⟨p, xs, rfl, h1, h2⟩, rfl⟩ := r
    cases e
    exact .inl ⟨p, xs, rfl, .inr (same_sqT sm h1), by rw [h2.length]; exact q F H _ (Grow.refl sm) rfl⟩
  · split at e
    · next hl =>
      obtain ⟨v, rr, rfl, h1, rfl⟩ := r
      cases h1; cases e
      exact .inr ⟨_, rfl, hl, q F H _ (Grow.refl sm) rfl⟩
    · cases e
  · cases e
def dAbs : List T → Option T
  | [.int i] => some (.int (if i < 0 then -i else i))
  | _ => none
theorem ct_abs : CallT X (.builtin "abs") dAbs := callT_of call_abs fun vs H Q ⟨F, ts, t, sm, r, e, q⟩ => by
  unfold dAbs at e
  split at e
  · obtain ⟨v, rr, rfl, h1, rfl⟩ := r
    cases h1; cases e
    exact ⟨_, rfl, q F H _ (Grow.refl sm) rfl⟩
  · cases e
def dMax : List T → Option T
  | [.int i, .int j] => some (.int (if j > i then j else i))
  | _ => none
def dMin : List T → Option T
  | [.int i, .int j] => some (.int (if j < i then j else i))
  | _ => none
theorem ct_max (hc : X.calm = true) : CallT X (.builtin "max") dMax := callT_of (call_max2 hc) fun vs H Q ⟨F, ts, t, sm, r, e, q⟩ => by
  unfold dMax at e
  split at e
  · obtain ⟨v, rr, rfl, h1, v2, r2, rfl, h2, rfl⟩ := r
    cases h1; cases h2; cases e
    exact ⟨_, _, rfl, q F H _ (Grow.refl sm) rfl⟩
  · cases e
theorem ct_min (hc : X.calm = true) : CallT X (.builtin "min") dMin := callT_of (call_min2 hc) fun vs H Q ⟨F, ts, t, sm, r, e, q⟩ => by
  unfold dMin at e
  split at e
  · obtain ⟨v, rr, rfl, h1, v2, r2, rfl, h2, rfl⟩ := r
    cases h1; cases h2; cases e
    exact ⟨_, _, rfl, q F H _ (Grow.refl sm) rfl⟩
  · cases e
def dInt : List T → Option T
  | [.int i] => some (.int i)
  | [.bl c] => some (.int (if c then 1 else 0))
  | _ => none
theorem ct_int : CallT X (.type "int") dInt := callT_of call_int1 fun vs H Q ⟨F, ts, t, sm, r, e, q⟩ => by
  unfold dInt at e
  split at e
  · obtain ⟨v, rr, rfl, h1, rfl⟩ := r
    cases h1; cases e
    exact .inl ⟨_, rfl, q F H _ (Grow.refl sm) rfl⟩
  · obtain ⟨v, rr, rfl, h1, rfl⟩ := r
    cases h1; cases e
    exact .inr ⟨_, rfl, q F H _ (Grow.refl sm) rfl⟩
  · cases e
def dStr : List T → Option T
  | [.int i] => if i.natAbs.log2 < 1920 then some (.str (toString i)) else none
  | _ => none
theorem ct_str : CallT X (.type "str") dStr := callT_of call_str_int fun vs H Q ⟨F, ts, t, sm, r, e, q⟩ => by
  unfold dStr at e
  split at e
  · split at e
    · next hl =>
      obtain ⟨v, rr, rfl, h1, rfl⟩ := r
      cases h1; cases e
      exact ⟨_, rfl, hl, q F H _ (Grow.refl sm) rfl⟩
    · cases e
  · cases e
def dList : List T → Option T
  | [.lst ts] => some (.lst ts)
  | [.scr ts] => some (.lst ts)
  | [.tup ts] => some (.lst ts)
  | _ => none
theorem ct_list : CallT X (.type "list") dList := callT_of call_list_of fun vs H Q ⟨F, ts, t, sm, r, e, q⟩ => by
  unfold dList at e
  split at e
  · obtain ⟨v, rr, rfl, ⟨p, xs, rfl, h1, h2⟩, rfl⟩ := r
    cases e
    refine ⟨p, xs, rfl, .inl (SqL.of (sm _ _ h1)), fun l hl => ?_⟩
    have gr := Grow.new (.lst xs) sm hl
    exact q _ _ _ gr ⟨l, xs, rfl, upd_same, Reps.mono gr.sF h2⟩
  · obtain ⟨v, rr, rfl, ⟨p, xs, rfl, h1, h2⟩, rfl⟩ := r
    cases e
    refine ⟨p, xs, rfl, .inl (sm.seq h1), fun l hl => ?_⟩
    have gr := Grow.new (.lst xs) sm hl
    exact q _ _ _ gr ⟨l, xs, rfl, upd_same, Reps.mono gr.sF h2⟩
  · obtain ⟨v, rr, rfl, ⟨p, xs, rfl, h1, h2⟩, rfl⟩ := r
    cases e
    refine ⟨p, xs, rfl, .inr (same_sqT sm h1), fun l hl => ?_⟩
    have gr := Grow.new (.lst xs) sm hl
    exact q _ _ _ gr ⟨l, xs, rfl, upd_same, Reps.mono gr.sF h2⟩
  · cases e
/-! isinstance -/
def tyN : T → Option String
  | .non => some "NoneType"
  | .bl _ => some "bool"
  | .int _ => some "int"
  | .str _ => some "str"
  | .tup _ => some "tuple"
  | .lst _ => some "list"
  | .scr _ => some "list"
  | .dic => some "dict"
  | .ty _ => none
def kinds : List String := ["int", "bool", "str", "list", "tuple", "dict"]
def isK (a c : String) : Option Bool := if c ∈ kinds then some (a == c || (a == "bool" && c == "int")) else none
def isKs (a : String) : List T → Option Bool
  | [] => some false
  | .ty c :: r => (isK a c).bind fun b => if b = true then some true else isKs a r
  | _ :: _ => none
theorem kit_of {K : PySem.W.Frag} {t : T} {a c : String} {b : Bool} (ha : tyN t = some a) (h : isK a c = some b) : PySem.W.kitOne K (.type a) (.type c) = some b := by
  have ha : a ∈ ["NoneType", "bool", "int", "str", "tuple", "list", "dict"] := by
    cases t <;> simp only [tyN] at ha <;> cases ha <;> simp
  unfold isK at h
  split at h
  · next hc =>
    cases h
    simp only [kinds, List.mem_cons, List.not_mem_nil, or_false] at hc ha
    rcases ha with rfl | rfl | rfl | rfl | rfl | rfl | rfl <;> rcases hc with rfl | rfl | rfl | rfl | rfl | rfl <;> rfl
  · cases h
theorem kits_of {K : PySem.W.Frag} {F : Hp} {t : T} {a : String} (ha : tyN t = some a) : ∀ {cs : List T} {vs : List V} {us : List Value} {b : Bool}, isKs a cs = some b → Reps K F cs vs → Vals vs us → PySem.W.kitAny K (.type a) us = some b
  | [], vs, us, b, h, r, ru => by cases r; cases ru; cases h; rfl
  | .ty c :: cs, vs, us, b, h, r, ru => by
    obtain ⟨v, rr, rfl, h1, h2⟩ := r
    cases h1
    cases ru with
    | cons r1 r2 =>
      cases r1
      obtain ⟨b', e1, h⟩ := bind_some h
      unfold PySem.W.kitAny
      rw [kit_of ha e1]
      cases b' with
      | true => rw [if_pos rfl] at h; exact h
      | false => rw [if_neg (by decide)] at h; exact kits_of ha h h2 r2
  | .non :: cs, vs, us, b, h, r, ru => by cases h
  | .bl _ :: cs, vs, us, b, h, r, ru => by cases h
  | .int _ :: cs, vs, us, b, h, r, ru => by cases h
  | .str _ :: cs, vs, us, b, h, r, ru => by cases h
  | .tup _ :: cs, vs, us, b, h, r, ru => by cases h
  | .lst _ :: cs, vs, us, b, h, r, ru => by cases h
  | .scr _ :: cs, vs, us, b, h, r, ru => by cases h
  | .dic :: cs, vs, us, b, h, r, ru => by cases h
/-- what isinstance asks of its first thing -/
theorem kitx_rep {pins : List (Addr × Obj)} {σ : L2.St} {H F : Hp} {s : Shared} {t : T} {v : V} {u : Value} {a : String} (I : Inv X pins σ H s) (sm : Same F H) (r : Rep X.K F t v) (ru : RelV v u) (ha : tyN t = some a) :
    ∃ Hh : Heap → Prop, PySem.W.KitX X.K u (.type a) Hh ∧ Hh s.heap ∧ u ≠ .builtin "__main__.__loader__#opaque" := by
  cases t with
  | non => cases r; cases ru; cases ha; exact ⟨_, PySem.W.kitx_none, True.intro, fun z => nomatch z⟩
  | bl _ => cases r; cases ru; cases ha; exact ⟨_, PySem.W.kitx_bool, True.intro, fun z => nomatch z⟩
  | int _ => cases r; obtain ⟨t, rfl⟩ := ru; cases ha; exact ⟨_, PySem.W.kitx_int, True.intro, fun z => nomatch z⟩
  | str _ => cases r; obtain ⟨t, rfl⟩ := ru; cases ha; exact ⟨_, PySem.W.kitx_str, True.intro, fun z => nomatch z⟩
  | ty _ => cases ha
  | tup _ =>
    obtain ⟨p, xs, rfl, h1, h2⟩ := r
    cases ru; cases ha
    obtain ⟨its, rv, ⟨o, g1, g2, n, g3⟩, _⟩ := I.tuple (same_sqT sm h1)
    exact ⟨_, PySem.W.kitx_tuple, ⟨o, g1, g2⟩, fun z => nomatch z⟩
  | lst _ =>
    obtain ⟨p, xs, rfl, h1, h2⟩ := r
    cases ru; cases ha
    obtain ⟨its, rv, ⟨o, n, g1, g2, _, g3⟩, _⟩ := I.list (SqL.of (sm _ _ h1))
    exact ⟨_, PySem.W.kitx_list, ⟨o, g1, g2⟩, fun z => nomatch z⟩
  | scr _ =>
    obtain ⟨p, xs, rfl, h1, h2⟩ := r
    cases ru; cases ha
    obtain ⟨its, rv, ⟨o, n, g1, g2, _, g3⟩, _⟩ := I.list (sm.seq h1)
    exact ⟨_, PySem.W.kitx_list, ⟨o, g1, g2⟩, fun z => nomatch z⟩
  | dic =>
    obtain ⟨p, rfl, h1⟩ := r
    cases ru; cases ha
    obtain ⟨_, _, vs, _, o, es, ep, h1, h2, _⟩ := (show ObjOk X.prog X.w H s.heap p (.dK []) from I.hok p _ (sm _ _ h1))
    exact ⟨_, PySem.W.kitx_dict, ⟨o, h1, h2.1⟩, fun z => nomatch z⟩
def dIsi : List T → Option T
  | [t, .ty c] => (tyN t).bind fun a => (isK a c).bind fun b => some (.bl b)
  | [t, .tup cs] => (tyN t).bind fun a => (isKs a cs).bind fun b => some (.bl b)
  | _ => none
theorem ct_isi : CallT X (.builtin "isinstance") dIsi := by
  intro pins s σ H xs us Q I rx ⟨F, ts, t, sm, r, e, q⟩
  unfold dIsi at e
  split at e
  · obtain ⟨a, e1, e⟩ := bind_some e
    obtain ⟨b, e2, e⟩ := bind_some e
    cases e
    obtain ⟨v, rr, rfl, h1, v2, r2, rfl, h2, rfl⟩ := r
    cases h2
    obtain ⟨u1, u2, rfl, ra, rb⟩ := Vals.two rx
    cases rb
    obtain ⟨Hh, Z, hh, hn⟩ := kitx_rep I sm h1 ra e1
    exact PySem.W.kia_one Z I.kIn hh (kit_of e1 e2) hn fun tk => ⟨.bl b, H, I.tok tk, rfl, q F H _ (Grow.refl sm) rfl⟩
  · obtain ⟨a, e1, e⟩ := bind_some e
    obtain ⟨b, e2, e⟩ := bind_some e
    cases e
    obtain ⟨v, rr, rfl, h1, v2, r2, rfl, ⟨p, xs, rfl, h3, h4⟩, rfl⟩ := r
    obtain ⟨u1, u2, rfl, ra, rb⟩ := Vals.two rx
    cases rb
    obtain ⟨Hh, Z, hh, hn⟩ := kitx_rep I sm h1 ra e1
    obtain ⟨its, rv, ⟨o, g1, g2, n, g3⟩, _⟩ := I.tuple (same_sqT sm h3)
    obtain ⟨oc, od, odt, osl⟩ := o
    dsimp only at g2 g3
    subst g2 g3
    exact PySem.W.kia_tup Z I.kIn hh g1 (kits_of e1 e2 h4 rv) hn fun tk => ⟨.bl b, H, I.tok tk, rfl, q F H _ (Grow.refl sm) rfl⟩
  · cases e
end
end TM

set_option Elab.async false
set_option linter.all false
set_option maxRecDepth 100000
namespace TM
open PySem PySem.Spec PyProof.Rows L2

/-! ### {} -/
section
variable {X : Cx} {pos : Pos}
def tDic : TE := fun _ H Q => ∀ p, H p = none → Q (.ref p) (upd H p (.dK []))
theorem pe_dic (hb : ∀ pins σ H s, Inv X pins σ H s → sysModules < s.heap.objs.size) : PE X (.Dict [] [] pos) tDic := fun pins s σ H Q I h =>
  wpAny_Dict_empty ⟨.ref s.heap.objs.size, _, I.laid (a := s.heap.objs.size) (o := .dK []) (t' := s.toks) (fun _ _ z => Heap.get?_push_of_some _ z) (Nat.le_refl _)
    ⟨Nat.zero_le _, beq_eq_false_iff_ne.mpr (Nat.ne_of_gt (hb _ _ _ _ I)), [], .nil, Heap.DictOf.new s.heap⟩, rfl, h _ I.fresh⟩
theorem big_of {pins : List (Addr × Obj)} {σ : L2.St} {H : Hp} {s : Shared} (I : Inv X pins σ H s) : sysModules < s.heap.objs.size := by
  obtain ⟨mb, h1, _⟩ := I.mod.blt
  have h2 := (h1.keeps I.bk).lt
  have h3 : (sysModules : Nat) < builtinsNs ∨ ¬ (sysModules : Nat) < builtinsNs := Nat.lt_or_ge _ _ |>.imp id (fun h => Nat.not_lt.mpr h)
  have h4 := (I.mod.glob.keeps I.bk).lt
  first
    | exact Nat.lt_of_le_of_lt (by decide) h2
    | exact Nat.lt_of_le_of_lt (by decide) h4
def fDic : FE := fun τ => some (.dic, τ)
theorem se_dic : SE X (.Dict [] [] pos) fDic := fun F₀ H₀ => PE.weak (pe_dic fun _ _ _ _ I => big_of I) fun σ H Q ⟨F, τ, t, τ', E, e1, q⟩ => by
  cases e1
  intro p hp
  have gr := Grow.new (.dK []) E.g.fh hp
  exact q _ _ _ (E.grow gr) gr.sF ⟨p, rfl, upd_same⟩

/-! ### slices -/
abbrev FO := TEnv → Option (Option Int × TEnv)
def tO (K : PySem.W.Frag) (F₀ H₀ : Hp) (f : FO) : TO := fun σ H Q => ∃ F τ o τ', EnvOk K F₀ H₀ F H σ τ ∧ f τ = some (o, τ') ∧ ∀ F' H', EnvOk K F₀ H₀ F' H' σ τ' → Same F F' → Q o H'
def SO (X : Cx) (e : Option Expr) (f : FO) : Prop := ∀ F₀ H₀, PO X e (tO X.K F₀ H₀ f)
def fNoPart : FO := fun τ => some (none, τ)
def fPart (f : FE) : FO := fun τ => (f τ).bind fun p => match p.1 with | .int i => some (some i, p.2) | _ => none
theorem PO.weak {e : Option Expr} {t t' : TO} (h : PO X e t) (i : ∀ σ H Q, t' σ H Q → t σ H Q) : PO X e t' := fun pins s σ H Q I q => h pins s σ H Q I (i σ H Q q)
theorem so_none : SO X none fNoPart := fun F₀ H₀ => PO.weak po_none fun σ H Q ⟨F, τ, t, τ', E, e1, q⟩ => by
  cases e1
  exact q F H E (Same.refl _)
theorem so_some {e : Expr} {f : FE} (h : SE X e f) : SO X (some e) (fPart f) := fun F₀ H₀ => PO.weak (po_some (h F₀ H₀)) fun σ H Q ⟨F, τ, t, τ', E, e1, q⟩ => by
  obtain ⟨⟨x, τ1⟩, e2, e1⟩ := bind_some e1
  dsimp only at e1
  split at e1
  · cases e1
    exact ⟨F, τ, _, _, E, e2, fun F' H' v E' s' r' => by cases r'; exact ⟨_, rfl, q F' H' E' s'⟩⟩
  · cases e1
def cutT (xs : List T) (lo hi : Option Int) : List T := (xs.drop (HT.sIx xs.length 0 lo)).take (HT.sIx xs.length xs.length hi - HT.sIx xs.length 0 lo)
def gSl (t : T) (lo hi : Option Int) : Option T := match t with
  | .lst xs => some (.lst (cutT xs lo hi))
  | .scr xs => some (.lst (cutT xs lo hi))
  | .tup xs => if HT.sIx xs.length 0 lo = 0 ∧ HT.sIx xs.length xs.length hi = xs.length then none else some (.tup (cutT xs lo hi))
  | _ => none
theorem cut_rep {K : PySem.W.Frag} {F : Hp} {ts : List T} {vs : List V} (r : Reps K F ts vs) (lo hi : Option Int) : Reps K F (cutT ts lo hi) (cutV vs lo hi) := by
  unfold cutT cutV
  rw [r.length]
  exact (r.drop _).take _
def fSl (f : FE) (fl fh : FO) : FE := fun τ => (f τ).bind fun p => (fl p.2).bind fun q => (fh q.2).bind fun r => (gSl p.1 q.1 r.1).bind fun t => some (t, r.2)
theorem se_slice {e : Expr} {lo hi : Option Expr} {f : FE} {fl fh : FO} {p2 : Pos} (he : SE X e f) (hl : SO X lo fl) (hh : SO X hi fh) : SE X (.Subscript e (.Slice lo hi none p2) pos) (fSl f fl fh) :=
  fun F₀ H₀ => PE.weak (pe_slice (SlR.or sl_list sl_tup) (he F₀ H₀) (hl F₀ H₀) (hh F₀ H₀)) fun σ H Q ⟨F, τ, t, τ', E, e1, q⟩ => by
    obtain ⟨⟨x, τ1⟩, e2, e1⟩ := bind_some e1
    obtain ⟨⟨l, τ2⟩, e3, e1⟩ := bind_some e1
    obtain ⟨⟨h, τ3⟩, e4, e1⟩ := bind_some e1
    obtain ⟨y, e5, e1⟩ := bind_some e1
    cases e1
    refine ⟨F, τ, x, τ1, E, e2, fun F1 H1 v E1 s1 r1 => ⟨F1, τ1, l, τ2, E1, e3, fun F2 H2 E2 s2 => ⟨F2, τ2, h, _, E2, e4, fun F3 H3 E3 s3 => ?_⟩⟩⟩
    have r3 := Rep.mono (s2.trans s3) r1
    have sm := E3.g.fh
    dsimp only at e5
    unfold gSl at e5
    split at e5
    · cases e5
      obtain ⟨p, xs, rfl, h1, h2⟩ := r3
      refine .inl ⟨p, xs, rfl, SqL.of (sm _ _ h1), fun a ha => ?_⟩
      have gr := Grow.new (.lst (cutV xs l h)) sm ha
      exact q _ _ _ (E3.grow gr) (((s1.trans s2).trans s3).trans gr.sF) ⟨a, _, rfl, upd_same, Reps.mono gr.sF (cut_rep h2 l h)⟩
    · cases e5
      obtain ⟨p, xs, rfl, h1, h2⟩ := r3
      refine .inl ⟨p, xs, rfl, sm.seq h1, fun a ha => ?_⟩
      have gr := Grow.new (.lst (cutV xs l h)) sm ha
      exact q _ _ _ (E3.grow gr) (((s1.trans s2).trans s3).trans gr.sF) ⟨a, _, rfl, upd_same, Reps.mono gr.sF (cut_rep h2 l h)⟩
    · split at e5
      · cases e5
      · next hn =>
        cases e5
        obtain ⟨p, xs, rfl, h1, h2⟩ := r3
        refine .inr ⟨p, xs, rfl, same_sqT sm h1, by rw [h2.length]; exact hn, fun a ha => ?_⟩
        have gr := Grow.new (.tup (cutV xs l h)) sm ha
        exact q _ _ _ (E3.grow gr) (((s1.trans s2).trans s3).trans gr.sF) ⟨a, _, rfl, SqT.of upd_same, Reps.mono gr.sF (cut_rep h2 l h)⟩
    · cases e5

/-! ### x.append(e) of this def's own list -/
theorem ss_append (i : Nat) {x : Str} {p1 p2 p3 : Pos} {e : Expr} {f : FE} (hv : PE X (.Name x p1) (tVar i)) (he : SE X e f)
    (hbase : attributeBase (.Name x p1) "append" X.env (eval (.Name x p1) X.env) = eval (.Name x p1) X.env := by rfl)
    (hfew : ((backTo p3 (starEach [e] X.env)).all (fun x => !x.1) && (backToKw p3 (keywordEach [] X.env)).all (fun x => x.1.isSome) && decide ([e].length + ([] : List Keyword).length + (if ([] : List Keyword).isEmpty then 0 else 1) < 30)) = true := by rfl)
    (hline : (p2.endLine == p3.line) = true := by rfl) (hs : starEach [e] X.env = (false, eval e X.env) :: starEach [] X.env := by rfl) (hpl : (backTo p3 (starEach [] X.env)).any (·.1) = false := by rfl)
    (hsw : swapsWith (.Call (.Attribute (.Name x p1) "append" p2) [e] [] p3) none pos.line X.env = pure false := by rfl) :
    SS X (.Expr (.Call (.Attribute (.Name x p1) "append" p2) [e] [] p3) pos) (fApp i f) := fun F₀ H₀ =>
  PS.weak (ps_expr (pe_bm PySem.F.plainAttrs_list PySem.F.slot_list_append PySem.F.type_list_append mt_append hv (pa_cons (he F₀ H₀) pa_nil hs) hbase hfew hline hs hpl) hsw) fun D σ H ⟨F, τ, r, E, e1, q⟩ => by
    unfold fApp at e1
    split at e1
    · next ts0 h0 =>
      obtain ⟨⟨t, τ1⟩, e2, e1⟩ := bind_some e1
      dsimp only at e1
      split at e1
      · next ts h1 =>
        split at e1
        · next hz =>
          cases e1
          obtain ⟨v, g1, p, vs, rfl, g2, g3, g4, g5⟩ := E.sl i _ h0
          refine ⟨_, g1, .inl ⟨rfl, vs, SqL.of g2⟩, F, τ, t, τ1, E, e2, fun F' H' w E' s' r' => ?_⟩
          obtain ⟨v', k1, p', vs', rfl, k2, k3, k4, k5⟩ := E'.sl i _ h1
          rw [g1] at k1; cases k1
          exact ⟨p, vs', w, rfl, rfl, k2, by rw [k5.length]; exact hz, q F' _ σ (E'.turnOwn h1 g1 (k5.append (.one r'))) s'⟩
        · cases e1
      · cases e1
    · cases e1

/-! ### range(a, b, c), c above nought -/
def ItrS (lo c : Int) (n : Nat) : It := ⟨fun i _ => i < n, fun i H x H' => H' = H ∧ x = .int (lo + i * c), fun i _ => n ≤ i⟩
theorem turn_rangeS {P : Program} {w : World} {K : PySem.W.Frag} {tg : Expr} (it : Addr) (lo c : Int) (n : Nat) : Turn P w K tg (ItrS lo c n) [it] it (fun i h => IsRangeIter h it (lo + (i : Nat) * c) ((n : Int) - (i : Nat)) c) where
  mem := List.mem_singleton_self _
  obj := fun i h st b hb => by
    cases List.mem_singleton.mp hb
    exact ⟨_, st, fun v z => nomatch (show Data.fields _ = Data.cell v from z)⟩
  keep := fun i h h' st k => k it (List.mem_singleton_self _) _ st
  item := fun X hP hw hK hc i pins s σ H E I hf st hg => by
    subst hP hw hK
    obtain ⟨f0, f1, f2, f3, f4, f5⟩ := hf it (List.mem_singleton_self _)
    refine (PySem.Walks.range (prog := X.prog) (w := X.w) (I.ok.hd hc) it lo c n).item i s _ _ hg st fun v h' tk hv st' kk => ?_
    obtain ⟨t, rfl⟩ := hv
    have J : Inv X pins σ H { s with heap := h', toks := tk } := I.turned (fun b o hb e => kk b o (fun z => hb (List.mem_singleton.mp z)) e) f0 f1 f3 f4 f5
    exact ⟨_, rfl, go_of (s := { s with heap := h', toks := tk }) (n := "range_iterator") st' rfl rfl (by decide) ⟨.int (lo + i * c), H, J, ⟨t, rfl⟩, ⟨rfl, rfl⟩, st', fun b hb => (hf b hb).1⟩⟩
  done := fun X hP hw hK hc i pins s σ H E I hf st hg => by
    subst hP hw hK
    obtain ⟨f0, f1, f2, f3, f4, f5⟩ := hf it (List.mem_singleton_self _)
    exact wpAny_pyNext_range_end (I.ok.hd hc) st (by have : n ≤ i := hg; omega) fun h' eb => ⟨rfl, I.turned (t' := s.toks) (fun b o hb e => eb b o hb e) f0 f1 f3 f4 f5⟩
  self := fun _ _ _ _ _ st h => wpAny_pyIter_rangeiter st h
def stepsT (lo c : Int) : Nat → List T
  | 0 => []
  | n + 1 => .int lo :: stepsT (lo + c) c n
theorem stepsT_length (c : Int) : ∀ (n : Nat) (lo : Int), (stepsT lo c n).length = n
  | 0, _ => rfl
  | n + 1, lo => by simp [stepsT, stepsT_length c n]
theorem stepsT_get (c : Int) : ∀ (n : Nat) (lo : Int) (i : Nat), i < n → (stepsT lo c n)[i]? = some (.int (lo + i * c))
  | 0, _, _, h => by omega
  | n + 1, lo, 0, _ => by simp [stepsT]
  | n + 1, lo, i + 1, h => by
    simp only [stepsT, List.getElem?_cons_succ]
    rw [stepsT_get c n (lo + c) i (by omega)]
    congr 2
    push_cast
    rw [Int.add_mul]
    omega
theorem walks_rngS {K : PySem.W.Frag} {F : Hp} (lo c : Int) (n : Nat) : Walks K F (stepsT lo c n) (ItrS lo c n) := by
  have hl : ∀ {i : Nat} {t : T}, (stepsT lo c n)[i]? = some t → i < n := fun {i t} e => by
    have := (List.getElem?_eq_some_iff.mp e).1
    rwa [stepsT_length] at this
  refine ⟨fun i t F1 H1 e s1 s2 => hl e, fun i t F1 H1 x H2 e s1 s2 y => ?_, fun F1 H1 s1 s2 => by show n ≤ _; rw [stepsT_length]; exact Nat.le_refl _⟩
  obtain ⟨rfl, rfl⟩ := y
  rw [stepsT_get c n lo i (hl e)] at e
  cases e
  exact ⟨F1, Grow.refl s2, rfl⟩
def smallR (a b c : Int) : Prop := (0 ≤ a ∧ a < 2 ^ 62) ∧ (0 ≤ b ∧ b < 2 ^ 62) ∧ (1 ≤ c ∧ c < 2 ^ 29)
instance (a b c : Int) : Decidable (smallR a b c) := inferInstanceAs (Decidable ((_ ∧ _) ∧ (_ ∧ _) ∧ _ ∧ _))
theorem small_step {a b c : Int} (h : smallR a b c) : Builtin.Range.small a b c = true := by
  obtain ⟨⟨h1, h2⟩, ⟨h3, h4⟩, h5, h6⟩ := h
  have hq : ∀ x : Int, 0 ≤ x → 0 ≤ x / c ∧ x / c ≤ x := fun x hx => by
    refine ⟨Int.ediv_nonneg hx (by omega), ?_⟩
    exact Int.ediv_le_self _ hx
  unfold Builtin.Range.small Builtin.Range.rangeSize
  simp only [Builtin.Range.rangeFitsLong, Bool.and_eq_true, Bool.or_eq_true, decide_eq_true_eq, beq_iff_eq, show c > 0 by omega, if_true]
  split
  · have := hq (b - a - 1) (by omega)
    omega
  · omega
def fiRng3 (g : FA) : FA := fun τ => (g τ).bind fun p => match p.1 with
  | [.int a, .int b, .int c] => if smallR a b c then some (stepsT a c (Builtin.Range.rangeSize a b c).toNat, p.2) else none
  | _ => none
theorem si_rng3 {tg a b c : Expr} {p : Pos} {ga : FA} (hg : Gl X "range") (hm : X.mg "range" = none) (ha : SA X [a, b, c] ga) (hs : starEach [a, b, c] X.env = (false, eval a X.env) :: starEach [b, c] X.env := by rfl)
    (hs2 : (backTo pos (starEach [b, c] X.env)).any (·.1) = false := by rfl) : SI X tg (.Call (.Name "range" p) [a, b, c] [] pos) (fiRng3 ga) := by
  intro F₀ H₀ pins s σ H R I ⟨F, τ, ts, τ', E, e1, q⟩
  obtain ⟨⟨x, τ1⟩, e2, e1⟩ := bind_some e1
  dsimp only at e1
  split at e1
  · next i j k =>
    split at e1
    · next hb =>
      cases e1
      refine Call_ (ld_blt I hg hm boot_range (PyProof.Rows.callWith_type1 (thn (ha F₀ H₀ pos pins s σ H (fun vs H' => vs = [.int i, .int j, .int k] ∧ R (ItrS i k (Builtin.Range.rangeSize i j k).toNat) H') I ⟨F, τ, _, _, E, e2, fun F' H' vs E' s' r' => ?_⟩) fun us s1 ⟨vs, H1, I1, r1, q1⟩ => ?_) hs hs2))
      · obtain ⟨v1, r1, rfl, q1, v2, r2, rfl, q2, v3, r3, rfl, q3, rfl⟩ := r'
        cases q1; cases q2; cases q3
        exact ⟨rfl, q F' H' _ E' s' (walks_rngS i k _)⟩
      · obtain ⟨rfl, q1⟩ := q1
        cases r1 with
        | cons ra rr =>
          cases rr with
          | cons rb rr =>
            cases rr with
            | cons rc rr =>
              cases rr
              obtain ⟨t1, rfl⟩ := ra
              obtain ⟨t2, rfl⟩ := rb
              obtain ⟨t3, rfl⟩ := rc
              have hk : k ≠ 0 := by have := hb.2.2; omega
              refine call_range_3 hk ?_ (.inl (PyProof.noPylong_small (by have := hb.2.2; omega)))
              refine wpAny_pyIter_range (IsRange.new ..) (small_step hb) ?_
              have J : Inv X pins σ H1 { s1 with heap := s1.heap.push { cls := .type "range", data := .fields #[.int i t1, .int j t2, .int k t3] } } := I1.kept (t' := s1.toks) fun b o e => Heap.get?_push_of_some _ e
              refine ⟨_, [_], _, _, H1, rfl, J.kept (t' := s1.toks) fun b o e => Heap.get?_push_of_some _ e, turn_rangeS _ i k (Builtin.Range.rangeSize i j k).toNat, ?_, fun b hb' => ?_, q1⟩
              · have e0 : i + ((0 : Nat) : Int) * k = i := by simp
                have e3 : (((Builtin.Range.rangeSize i j k).toNat : Nat) : Int) - ((0 : Nat) : Int) = Builtin.Range.rangeSize i j k := by
                  have : 0 ≤ Builtin.Range.rangeSize i j k := by
                    unfold Builtin.Range.rangeSize
                    have h5 := hb.2.2.1
                    rw [if_pos (by omega)]
                    split
                    · have := Int.ediv_nonneg (show 0 ≤ j - i - 1 by omega) (show 0 ≤ k by omega)
                      omega
                    · omega
                  omega
                show IsRangeIter _ _ (i + ((0 : Nat) : Int) * k) _ k
                rw [e0, e3]
                exact Heap.get?_push_size _ rfl
              · cases List.mem_singleton.mp hb'
                exact J.fpOk (Nat.le_refl _) (J.hok.fresh (Nat.le_refl _))
    · cases e1
  · cases e1
end
end TM

set_option Elab.async false
set_option linter.all false
set_option maxRecDepth 100000
namespace TM
open PySem PySem.Spec PyProof.Rows L2
/-! ### zip of two lists or tuples -/
def ItAt (b : Bool) (h : Heap) (it a : Addr) (i : Nat) : Prop := match b with
  | true => h.IsListIter it a i
  | false => h.IsTupleIter it a i
def SqAt (b : Bool) (h : Heap) (a : Addr) (xs : Array Value) : Prop := match b with
  | true => h.IsList a xs
  | false => h.IsTuple a xs
theorem ItAt.ext {b : Bool} {h h' : Heap} {it a : Addr} {i : Nat} (x : ItAt b h it a i) (k : ∀ o, h.get? it = some o → h'.get? it = some o) : ItAt b h' it a i := by
  cases b with
  | true => obtain ⟨o, e, r⟩ := x; exact ⟨o, k o e, r⟩
  | false => obtain ⟨o, e, r⟩ := x; exact ⟨o, k o e, r⟩
theorem SqAt.ext {b : Bool} {h h' : Heap} {a : Addr} {xs : Array Value} (x : SqAt b h a xs) (k : ∀ o, h.get? a = some o → h'.get? a = some o) : SqAt b h' a xs := by
  cases b with
  | true => obtain ⟨o, e, r⟩ := x; exact ⟨o, k o e, r⟩
  | false => obtain ⟨o, e, r⟩ := x; exact ⟨o, k o e, r⟩
theorem ItAt.obj {b : Bool} {h : Heap} {it a : Addr} {i : Nat} (x : ItAt b h it a i) : ∃ o, h.get? it = some o ∧ ∀ v, o.data ≠ .cell v := by
  cases b with
  | true => obtain ⟨o, e, _, d⟩ := x; exact ⟨o, e, fun v z => by rw [d] at z; cases z⟩
  | false => obtain ⟨o, e, _, d⟩ := x; exact ⟨o, e, fun v z => by rw [d] at z; cases z⟩
section
variable {prog : Program} {w : World} {A : Around} {E : Value → Shared → Prop} {s : Shared}
theorem nextOf_item {b : Bool} {it a : Addr} {i : Nat} {xs : Array Value} {x : Value} {Q : Value → Shared → Prop} (h1 : ItAt b s.heap it a i) (h2 : SqAt b s.heap a xs) (hx : xs[i]? = some x)
    (hQ : ∀ h', ItAt b h' it a (i + 1) → Heap.SameBut it s.heap h' → Q x { s with heap := h' }) : wpAny (model prog w) A (Builtin.SmallTypes.nextOf (.ref it)) Q E s := by
  cases b with
  | true => exact wpAny_nextOf_list_item h1 h2 hx hQ
  | false =>
    have h1' : s.heap.IsTupleIter it a i := h1
    obtain ⟨o, ho, hc, hd⟩ := id h1'
    obtain ⟨ol, hol, _, nl, hdl⟩ := (show s.heap.IsTuple a xs from h2)
    unfold Builtin.SmallTypes.nextOf
    refine wpAny_bind (wpAny_callSpecial?_slot (name := Str.ofString "__next__") h1'.typeIs F.slot_tuple_iterator_next (wpAny_call_entry F.slot_tuple_iterator_next h1'.typeIs F.entry_tuple_iterator_next (?_ : wpAny _ _ (field (.ref it) 0 >>= _) _ _ s) (F.args_tuple_iterator_next_1 _)))
    refine wpAny_bind (wpAny_field ho hd (x := .ref a) rfl (?_ : wpAny _ _ (if (Value.ref a == Value.none) = true then _ else _) _ _ s))
    rw [if_neg (show ¬ ((Value.ref a == Value.none) = true) from Bool.false_ne_true)]
    refine (wpAny_bind (wpAny_field ho hd (x := .int i 0) rfl ?_) : wpAny _ _ (field (.ref it) 1 >>= _) _ _ s)
    refine wpAny_bind (wpAny_seqItems (a := a) hol hdl ?_)
    simp only [Int.toNat_natCast, hx]
    refine wpAny_bind (wpAny_setField ho hd (by simp) (wpAny_pure ⟨x, rfl, wpAny_pure (hQ _ ⟨_, Heap.get?_update_self _ ho (Obj.isFreed_of_fields (Obj.data_mapFields hd _)), (Obj.cls_mapFields ..).trans hc, ?_⟩ (Heap.SameBut.update ..))⟩))
    rw [Obj.data_mapFields hd] <;> simp [rawInt]
theorem nextOf_end {b : Bool} {it a : Addr} {i : Nat} {xs : Array Value} {Q : Value → Shared → Prop} (hh : A.handled = none) (h1 : ItAt b s.heap it a i) (h2 : SqAt b s.heap a xs) (hx : xs[i]? = none)
    (hE : ∀ h' e, Heap.ExtBut it s.heap h' → (∃ o, h'.get? e = some o ∧ o.cls = .type "StopIteration") → E (.ref e) { s with heap := h' }) : wpAny (model prog w) A (Builtin.SmallTypes.nextOf (.ref it)) Q E s := by
  cases b with
  | true => exact wpAny_nextOf_list_end hh h1 h2 hx hE
  | false =>
    have h1' : s.heap.IsTupleIter it a i := h1
    obtain ⟨o, ho, hc, hd⟩ := id h1'
    obtain ⟨ol, hol, _, nl, hdl⟩ := (show s.heap.IsTuple a xs from h2)
    unfold Builtin.SmallTypes.nextOf
    refine wpAny_bind (wpAny_callSpecial?_slot (name := Str.ofString "__next__") h1'.typeIs F.slot_tuple_iterator_next (wpAny_call_entry F.slot_tuple_iterator_next h1'.typeIs F.entry_tuple_iterator_next (?_ : wpAny _ _ (field (.ref it) 0 >>= _) _ _ s) (F.args_tuple_iterator_next_1 _)))
    refine wpAny_bind (wpAny_field ho hd (x := .ref a) rfl (?_ : wpAny _ _ (if (Value.ref a == Value.none) = true then _ else _) _ _ s))
    rw [if_neg (show ¬ ((Value.ref a == Value.none) = true) from Bool.false_ne_true)]
    refine (wpAny_bind (wpAny_field ho hd (x := .int i 0) rfl ?_) : wpAny _ _ (field (.ref it) 1 >>= _) _ _ s)
    refine wpAny_bind (wpAny_seqItems (a := a) hol hdl ?_)
    simp only [Int.toNat_natCast, hx]
    refine wpAny_bind (wpAny_rule (wpAny_bind (wpAny_setField ho hd (by simp) (wpAny_bind (m := newExc (.type "StopIteration") []) ?_))))
    simp only [newExc, newTuple]
    refine wpAny_bind (wpAny_newObj_type (wpAny_bind (m := firstArgMember _ _) (wpAny_of_eq (a := Value.none) (by first | rfl | (simp only [firstArgMember]; rfl)) (wpAny_newObj_type ?_ (by size_fits)))) (by size_fits))
    simp only [raiseNew]
    refine wpAny_bind (wpAny_handled ?_)
    first | rw [show A.in1.handled = none from hh] | rw [hh]
    exact wpAny_bind (wpAny_pure (wpAny_throw (hE _ _ (((Heap.SameBut.update ..).extBut.push _).push _) ⟨_, Heap.get?_push_size _ rfl, rfl⟩)))

variable {z TI TO i1 i2 l1 l2 : Addr} {k : Nat} {xs ys : Array Value} {x y a b : Value} {c1 c2 : Bool}
theorem zip_item {Q : Value → Shared → Prop} (D : ZipApart z TI TO i1 i2 l1 l2) (hz : IsZip s.heap z TI TO .none) (hI : IsPair s.heap TI (.ref i1) (.ref i2)) (hO : IsPair s.heap TO a b)
    (h1 : ItAt c1 s.heap i1 l1 k) (h2 : ItAt c2 s.heap i2 l2 k) (g1 : SqAt c1 s.heap l1 xs) (g2 : SqAt c2 s.heap l2 ys) (hx : xs[k]? = some x) (hy : ys[k]? = some y)
    (hQ : ∀ h', IsZip h' z TI TO (rawInt s.heap.objs.size) → IsPair h' TO x y → ItAt c1 h' i1 l1 (k + 1) → ItAt c2 h' i2 l2 (k + 1) → IsPair h' s.heap.objs.size x y →
      (∀ c o, c ≠ z → c ≠ TO → c ≠ i1 → c ≠ i2 → s.heap.get? c = some o → h'.get? c = some o) → Q (.ref s.heap.objs.size) { s with heap := h' }) :
    wpAny (model prog w) A (Builtin.«zip.__next__» ⟨[.ref z], []⟩) (fun fin s' => ∃ v, fin = .done (.ret v) ∧ Q v s') E s := by
  refine (wpAny_bind (wpAny_field hz rfl (x := .bool false) rfl ?_) : wpAny _ _ (field (.ref z) 2 >>= _) _ _ _)
  refine (wpAny_bind (wpAny_field hz rfl (x := .ref TI) rfl ?_) : wpAny _ _ (field (.ref z) 3 >>= _) _ _ _)
  refine wpAny_bind (wpAny_seqItems hI rfl ?_)
  refine (wpAny_bind ?_ : wpAny _ _ (Builtin.SmallTypes.ownedTupleIsFree (.ref z) >>= _) _ _ _)
  unfold Builtin.SmallTypes.ownedTupleIsFree
  refine wpAny_bind (wpAny_field hz rfl (x := .none) rfl (wpAny_pure ?_))
  simp only [if_true]
  refine wpAny_bind (wpAny_rule (wpAny_bind (wpAny_field hz rfl (x := .ref TO) rfl (wpAny_bind (wpAny_setField_rec hz (by simp) fun ha za sa => ?_)))))
  replace za : IsZip ha z TI TO .ellipsis := za
  refine wpAny_bind ?_
  simp only [List.zipIdx_cons, List.zipIdx_nil, List.forIn_cons, List.forIn_nil]
  refine wpAny_bind (wpAny_bind (wpAny_onRaise (?_ : wpAny _ _ (Builtin.SmallTypes.nextOf (.ref i1) >>= _) _ _ _)))
  refine wpAny_bind (nextOf_item (h1.ext fun o e => sa.extBut _ _ D.i1z e) (g1.ext fun o e => sa.extBut _ _ D.l1z e) hx fun hb kb sb => wpAny_pure ?_)
  have Ob : IsPair hb TO a b := sb.extBut _ _ D.TOi1 (sa.extBut _ _ D.TOz hO)
  refine wpAny_bind (wpAny_seqItems Ob rfl (wpAny_bind (wpAny_updateSeq_pair Ob fun hc Oc sc => wpAny_bind (wpAny_letGo (wpAny_pure ?_)))))
  replace Oc : IsPair hc TO x b := Oc
  refine wpAny_bind (wpAny_bind (wpAny_onRaise (?_ : wpAny _ _ (Builtin.SmallTypes.nextOf (.ref i2) >>= _) _ _ _)))
  refine wpAny_bind (nextOf_item (h2.ext fun o e => sc.extBut _ _ D.TOi2.symm (sb.extBut _ _ D.i12.symm (sa.extBut _ _ D.i2z e))) (g2.ext fun o e => sc.extBut _ _ D.l2TO (sb.extBut _ _ D.l2i1 (sa.extBut _ _ D.l2z e))) hy fun hd kd sd => wpAny_pure ?_)
  have Od : IsPair hd TO x b := sd.extBut _ _ D.TOi2 Oc
  refine wpAny_bind (wpAny_seqItems Od rfl (wpAny_bind (wpAny_updateSeq_pair Od fun he Oe se => wpAny_bind (wpAny_letGo (wpAny_pure (wpAny_pure ?_))))))
  replace Oe : IsPair he TO x y := Oe
  refine wpAny_bind (wpAny_seqItems Oe rfl (wpAny_bind (wpAny_newTuple ?_)))
  have ez : he.objs.size = s.heap.objs.size := by rw [se.1, sd.1, sc.1, sb.1, sa.1]
  have ze : IsZip he z TI TO .ellipsis := se.extBut _ _ D.TOz.symm (sd.extBut _ _ D.i2z.symm (sc.extBut _ _ D.TOz.symm (sb.extBut _ _ D.i1z.symm za)))
  have ke : ∀ c o, c ≠ z → c ≠ TO → c ≠ i1 → c ≠ i2 → s.heap.get? c = some o → he.get? c = some o := fun c o n1 n2 n3 n4 e => se.extBut _ _ n2 (sd.extBut _ _ n4 (sc.extBut _ _ n2 (sb.extBut _ _ n3 (sa.extBut _ _ n1 e))))
  have i1e : ItAt c1 he i1 l1 (k + 1) := kb.ext fun o e => se.extBut _ _ D.TOi1.symm (sd.extBut _ _ D.i12 (sc.extBut _ _ D.TOi1.symm e))
  have i2e : ItAt c2 he i2 l2 (k + 1) := kd.ext fun o e => se.extBut _ _ D.TOi2.symm e
  have zlt : z < he.objs.size := Heap.lt_size ze
  refine (wpAny_bind ?_ : wpAny _ _ (Builtin.SmallTypes.ownedTupleHandOut (.ref z) (.ref he.objs.size) >>= _) _ _ _)
  unfold Builtin.SmallTypes.ownedTupleHandOut
  have zf : IsZip (he.push { cls := .type "tuple", data := .seq #[x, y] }) z TI TO .ellipsis := Heap.get?_push_of_some _ ze
  refine wpAny_bind (wpAny_setField_rec zf (by simp) fun hg zg sg => ?_)
  replace zg : IsZip hg z TI TO (rawInt he.objs.size) := zg
  refine wpAny_setField_rec zg (by simp) fun hh zh sh => ?_
  replace zh : IsZip hh z TI TO (rawInt he.objs.size) := zh
  have up : ∀ c o, c ≠ z → he.get? c = some o → hh.get? c = some o := fun c o n e => sh.extBut _ _ n (sg.extBut _ _ n (Heap.get?_push_of_some _ e))
  have tp : IsPair hh he.objs.size x y := sh.extBut _ _ (Nat.ne_of_gt zlt) (sg.extBut _ _ (Nat.ne_of_gt zlt) (Heap.get?_push_size _ rfl))
  rw [ez] at zh tp
  refine wpAny_pure ⟨_, rfl, (?_ : Q (.ref he.objs.size) _)⟩
  rw [ez]
  exact hQ hh zh (up _ _ D.TOz Oe) (i1e.ext fun o e => up _ o D.i1z e) (i2e.ext fun o e => up _ o D.i2z e) tp fun c o n1 n2 n3 n4 e => up c o n1 (ke c o n1 n2 n3 n4 e)
theorem zip_end {Q : Fin → Shared → Prop} (hh : A.handled = none) (D : ZipApart z TI TO i1 i2 l1 l2) (hz : IsZip s.heap z TI TO .none) (hI : IsPair s.heap TI (.ref i1) (.ref i2)) (hO : IsPair s.heap TO a b)
    (h1 : ItAt c1 s.heap i1 l1 k) (h2 : ItAt c2 s.heap i2 l2 k) (g1 : SqAt c1 s.heap l1 xs) (g2 : SqAt c2 s.heap l2 ys) (hend : xs[k]? = none ∨ ys[k]? = none)
    (hE : ∀ h' e, (∀ c o, c ≠ z → c ≠ TO → c ≠ i1 → c ≠ i2 → s.heap.get? c = some o → h'.get? c = some o) → (∃ o, h'.get? e = some o ∧ o.cls = .type "StopIteration") → E (.ref e) { s with heap := h' }) :
    wpAny (model prog w) A (Builtin.«zip.__next__» ⟨[.ref z], []⟩) Q E s := by
  refine (wpAny_bind (wpAny_field hz rfl (x := .bool false) rfl ?_) : wpAny _ _ (field (.ref z) 2 >>= _) _ _ _)
  refine (wpAny_bind (wpAny_field hz rfl (x := .ref TI) rfl ?_) : wpAny _ _ (field (.ref z) 3 >>= _) _ _ _)
  refine wpAny_bind (wpAny_seqItems hI rfl ?_)
  refine (wpAny_bind ?_ : wpAny _ _ (Builtin.SmallTypes.ownedTupleIsFree (.ref z) >>= _) _ _ _)
  unfold Builtin.SmallTypes.ownedTupleIsFree
  refine wpAny_bind (wpAny_field hz rfl (x := .none) rfl (wpAny_pure ?_))
  simp only [if_true]
  refine wpAny_bind (wpAny_rule (wpAny_bind (wpAny_field hz rfl (x := .ref TO) rfl (wpAny_bind (wpAny_setField_rec hz (by simp) fun ha za sa => ?_)))))
  replace za : IsZip ha z TI TO .ellipsis := za
  refine wpAny_bind ?_
  simp only [List.zipIdx_cons, List.zipIdx_nil, List.forIn_cons, List.forIn_nil]
  refine wpAny_bind (wpAny_bind (wpAny_onRaise (?_ : wpAny _ _ (Builtin.SmallTypes.nextOf (.ref i1) >>= _) _ _ _)))
  cases hx : xs[k]? with
  | none =>
    refine wpAny_bind (nextOf_end hh (h1.ext fun o e => sa.extBut _ _ D.i1z e) (g1.ext fun o e => sa.extBut _ _ D.l1z e) hx fun hb e sb eo => ?_)
    obtain ⟨oe, ho, hc⟩ := eo
    have zb : IsZip hb z TI TO .ellipsis := sb _ _ D.i1z.symm za
    have ne : e ≠ z := fun q => by subst q; rw [zb] at ho; cases ho; simp at hc
    exact wpAny_setField_rec zb (by simp) fun hd _ sd => hE hd e (fun c o n1 _ n3 _ q => sd.extBut _ _ n1 (sb _ _ n3 (sa.extBut _ _ n1 q))) ⟨oe, sd.extBut _ _ ne ho, hc⟩
  | some x =>
    have hy : ys[k]? = none := by rcases hend with h | h; rw [hx] at h; cases h; exact h
    refine wpAny_bind (nextOf_item (h1.ext fun o e => sa.extBut _ _ D.i1z e) (g1.ext fun o e => sa.extBut _ _ D.l1z e) hx fun hb kb sb => wpAny_pure ?_)
    have Ob : IsPair hb TO a b := sb.extBut _ _ D.TOi1 (sa.extBut _ _ D.TOz hO)
    refine wpAny_bind (wpAny_seqItems Ob rfl (wpAny_bind (wpAny_updateSeq_pair Ob fun hc Oc sc => wpAny_bind (wpAny_letGo (wpAny_pure ?_)))))
    refine wpAny_bind (wpAny_bind (wpAny_onRaise (?_ : wpAny _ _ (Builtin.SmallTypes.nextOf (.ref i2) >>= _) _ _ _)))
    refine wpAny_bind (nextOf_end hh (h2.ext fun o e => sc.extBut _ _ D.TOi2.symm (sb.extBut _ _ D.i12.symm (sa.extBut _ _ D.i2z e))) (g2.ext fun o e => sc.extBut _ _ D.l2TO (sb.extBut _ _ D.l2i1 (sa.extBut _ _ D.l2z e))) hy fun hd e sd eo => ?_)
    obtain ⟨oe, ho, hk⟩ := eo
    have zd : IsZip hd z TI TO .ellipsis := sd _ _ D.i2z.symm (sc.extBut _ _ D.TOz.symm (sb.extBut _ _ D.i1z.symm za))
    have ne : e ≠ z := fun q => by subst q; rw [zd] at ho; cases ho; simp at hk
    exact wpAny_setField_rec zd (by simp) fun hf _ sf => hE hf e (fun c o n1 n2 n3 n4 q => sf.extBut _ _ n1 (sd _ _ n4 (sc.extBut _ _ n2 (sb.extBut _ _ n3 (sa.extBut _ _ n1 q))))) ⟨oe, sf.extBut _ _ ne ho, hk⟩
theorem zipNext_item {Q : Option Value → Shared → Prop} (D : ZipApart z TI TO i1 i2 l1 l2) (hz : IsZip s.heap z TI TO .none) (hI : IsPair s.heap TI (.ref i1) (.ref i2)) (hO : IsPair s.heap TO a b)
    (h1 : ItAt c1 s.heap i1 l1 k) (h2 : ItAt c2 s.heap i2 l2 k) (g1 : SqAt c1 s.heap l1 xs) (g2 : SqAt c2 s.heap l2 ys) (hx : xs[k]? = some x) (hy : ys[k]? = some y)
    (hQ : ∀ h', IsZip h' z TI TO (rawInt s.heap.objs.size) → IsPair h' TO x y → ItAt c1 h' i1 l1 (k + 1) → ItAt c2 h' i2 l2 (k + 1) → IsPair h' s.heap.objs.size x y →
      (∀ c o, c ≠ z → c ≠ TO → c ≠ i1 → c ≠ i2 → s.heap.get? c = some o → h'.get? c = some o) → Q (some (.ref s.heap.objs.size)) { s with heap := h' }) : wpAny (model prog w) A (pyNext (.ref z)) Q E s := by
  have hT : s.TypeIs (.ref z) "zip" := ⟨_, hz, rfl⟩
  unfold pyNext
  exact wpAny_bind (wpAny_attempt (wpAny_callSpecial?_slot (name := Str.ofString "__next__") hT F.slot_zip_next (wpAny_call_entry F.slot_zip_next hT F.entry_zip_next
    (zip_item D hz hI hO h1 h2 g1 g2 hx hy fun h' a1 a2 a3 a4 a5 a6 => wpAny_pure (hQ h' a1 a2 a3 a4 a5 a6)) (F.args_zip_next_1 _))))
theorem zipNext_end {Q : Option Value → Shared → Prop} (hh : A.handled = none) (D : ZipApart z TI TO i1 i2 l1 l2) (hz : IsZip s.heap z TI TO .none) (hI : IsPair s.heap TI (.ref i1) (.ref i2)) (hO : IsPair s.heap TO a b)
    (h1 : ItAt c1 s.heap i1 l1 k) (h2 : ItAt c2 s.heap i2 l2 k) (g1 : SqAt c1 s.heap l1 xs) (g2 : SqAt c2 s.heap l2 ys) (hend : xs[k]? = none ∨ ys[k]? = none)
    (hQ : ∀ h', (∀ c o, c ≠ z → c ≠ TO → c ≠ i1 → c ≠ i2 → s.heap.get? c = some o → h'.get? c = some o) → Q none { s with heap := h' }) : wpAny (model prog w) A (pyNext (.ref z)) Q E s := by
  have hT : s.TypeIs (.ref z) "zip" := ⟨_, hz, rfl⟩
  unfold pyNext
  refine wpAny_bind (wpAny_attempt (wpAny_callSpecial?_slot (name := Str.ofString "__next__") hT F.slot_zip_next (wpAny_call_entry F.slot_zip_next hT F.entry_zip_next
    (zip_end hh D hz hI hO h1 h2 g1 g2 hend fun h' e hk eo => ?_) (F.args_zip_next_1 _))))
  obtain ⟨o, ho, hc⟩ := eo
  exact wpAny_bind (wpAny_isInstance (T := "StopIteration") (b := true) ⟨o, ho, hc⟩ isSubtype_stop (wpAny_pure (hQ _ hk)))
end
end TM

set_option Elab.async false
set_option linter.all false
set_option maxRecDepth 100000
namespace TM
open PySem PySem.Spec PyProof.Rows L2
def itOb (b : Bool) (l : Addr) : Obj := match b with
  | true => { cls := .type "list_iterator", data := .fields #[.ref l, .int 0 0] }
  | false => { cls := .type "tuple_iterator", data := .fields #[.ref l, .int 0 0] }
theorem itOb_at {b : Bool} {l it : Addr} {h : Heap} (e : h.get? it = some (itOb b l)) : ItAt b h it l 0 := by
  cases b with
  | true => exact ⟨_, e, rfl, rfl⟩
  | false => exact ⟨_, e, rfl, rfl⟩
abbrev zh1 (h : Heap) (c1 : Bool) (l1 : Addr) : Heap := h.push (itOb c1 l1)
abbrev zh2 (h : Heap) (c1 c2 : Bool) (l1 l2 : Addr) : Heap := (zh1 h c1 l1).push (itOb c2 l2)
abbrev zh3 (h : Heap) (c1 c2 : Bool) (l1 l2 : Addr) : Heap := (zh2 h c1 c2 l1 l2).push { cls := .type "tuple", data := .seq #[.ref h.objs.size, .ref (zh1 h c1 l1).objs.size] }
abbrev zh4 (h : Heap) (c1 c2 : Bool) (l1 l2 : Addr) : Heap := (zh3 h c1 c2 l1 l2).push { cls := .type "tuple", data := .seq #[.none, .none] }
abbrev zh5 (h : Heap) (c1 c2 : Bool) (l1 l2 : Addr) : Heap := (zh4 h c1 c2 l1 l2).push { cls := .type "zip", data := .fields #[.none, .bool false, .bool false, .ref (zh2 h c1 c2 l1 l2).objs.size, .ref (zh3 h c1 c2 l1 l2).objs.size] }
abbrev ZNew (c1 c2 : Bool) (l1 l2 : Addr) (xs ys : Array Value) : Prop := Meets (Builtin.«zip.__new__» ⟨[.type "zip", .ref l1, .ref l2], []⟩) (fun _ R s => SqAt c1 s.heap l1 xs ∧ SqAt c2 s.heap l2 ys ∧
      R (.ok (.ret (.ref (zh4 s.heap c1 c2 l1 l2).objs.size))) { s with heap := zh5 s.heap c1 c2 l1 l2 })
set_option maxHeartbeats 4000000 in
theorem zip_new_tt (l1 l2 : Addr) (xs ys : Array Value) : ZNew true true l1 l2 xs ys := .of_wp fun prog w A R s h => by
  obtain ⟨hp, g, d, tk, os⟩ := s
  obtain ⟨q1, q2, h⟩ := h
  have hsub := sub_zip
  have p1 : Heap.IsList (Shared.heap ⟨hp, g, d, tk, os⟩) l1 xs := q1
  have p2 : Heap.IsList (Shared.heap ⟨hp.push { cls := .type "list_iterator", data := .fields #[.ref l1, .int 0 0] }, g, d, tk, os⟩) l2 ys := Heap.IsList.push q2 _
  wp_walk using wpAny_pyIter_list p1, wpAny_pyIter_list p2
  exact ⟨_, rfl, h⟩
set_option maxHeartbeats 4000000 in
theorem zip_new_tf (l1 l2 : Addr) (xs ys : Array Value) : ZNew true false l1 l2 xs ys := .of_wp fun prog w A R s h => by
  obtain ⟨hp, g, d, tk, os⟩ := s
  obtain ⟨q1, q2, h⟩ := h
  have hsub := sub_zip
  have p1 : Heap.IsList (Shared.heap ⟨hp, g, d, tk, os⟩) l1 xs := q1
  have p2 : Heap.IsTuple (Shared.heap ⟨hp.push { cls := .type "list_iterator", data := .fields #[.ref l1, .int 0 0] }, g, d, tk, os⟩) l2 ys := Heap.IsTuple.push q2 _
  wp_walk using wpAny_pyIter_list p1, wpAny_pyIter_tuple p2
  exact ⟨_, rfl, h⟩
set_option maxHeartbeats 4000000 in
theorem zip_new_ft (l1 l2 : Addr) (xs ys : Array Value) : ZNew false true l1 l2 xs ys := .of_wp fun prog w A R s h => by
  obtain ⟨hp, g, d, tk, os⟩ := s
  obtain ⟨q1, q2, h⟩ := h
  have hsub := sub_zip
  have p1 : Heap.IsTuple (Shared.heap ⟨hp, g, d, tk, os⟩) l1 xs := q1
  have p2 : Heap.IsList (Shared.heap ⟨hp.push { cls := .type "tuple_iterator", data := .fields #[.ref l1, .int 0 0] }, g, d, tk, os⟩) l2 ys := Heap.IsList.push q2 _
  wp_walk using wpAny_pyIter_tuple p1, wpAny_pyIter_list p2
  exact ⟨_, rfl, h⟩
set_option maxHeartbeats 4000000 in
theorem zip_new_ff (l1 l2 : Addr) (xs ys : Array Value) : ZNew false false l1 l2 xs ys := .of_wp fun prog w A R s h => by
  obtain ⟨hp, g, d, tk, os⟩ := s
  obtain ⟨q1, q2, h⟩ := h
  have hsub := sub_zip
  have p1 : Heap.IsTuple (Shared.heap ⟨hp, g, d, tk, os⟩) l1 xs := q1
  have p2 : Heap.IsTuple (Shared.heap ⟨hp.push { cls := .type "tuple_iterator", data := .fields #[.ref l1, .int 0 0] }, g, d, tk, os⟩) l2 ys := Heap.IsTuple.push q2 _
  wp_walk using wpAny_pyIter_tuple p1, wpAny_pyIter_tuple p2
  exact ⟨_, rfl, h⟩
theorem zip_new_meets (c1 c2 : Bool) (l1 l2 : Addr) (xs ys : Array Value) : ZNew c1 c2 l1 l2 xs ys := by
  cases c1 <;> cases c2
  · exact zip_new_ff l1 l2 xs ys
  · exact zip_new_ft l1 l2 xs ys
  · exact zip_new_tf l1 l2 xs ys
  · exact zip_new_tt l1 l2 xs ys
section
variable {prog : Program} {w : World} {A : Around} {E : Value → Shared → Prop} {s : Shared}
theorem call_zip {c1 c2 : Bool} {l1 l2 : Addr} {xs ys : Array Value} {Q : Value → Shared → Prop} (q1 : SqAt c1 s.heap l1 xs) (q2 : SqAt c2 s.heap l2 ys)
    (h : ∀ h', IsZip h' (s.heap.objs.size + 4) (s.heap.objs.size + 2) (s.heap.objs.size + 3) .none → IsPair h' (s.heap.objs.size + 2) (.ref s.heap.objs.size) (.ref (s.heap.objs.size + 1)) →
      IsPair h' (s.heap.objs.size + 3) .none .none → ItAt c1 h' s.heap.objs.size l1 0 → ItAt c2 h' (s.heap.objs.size + 1) l2 0 → (∀ c o, s.heap.get? c = some o → h'.get? c = some o) → Q (.ref (s.heap.objs.size + 4)) { s with heap := h' }) :
    wpAny (model prog w) A (call (.type "zip") [.ref l1, .ref l2]) Q E s := by
  refine callType_new F.called_zip (by decide) (F.typeCall_zip_2 _ _) (F.newCall_zip_2 _ _) (fun obj => F.args_object_init_3 obj _ _) F.entry_zip_new (zip_new_meets c1 c2 l1 l2 xs ys) ⟨q1, q2, ?_⟩
  have z1 : (zh1 s.heap c1 l1).objs.size = s.heap.objs.size + 1 := Heap.size_push ..
  have z2 : (zh2 s.heap c1 c2 l1 l2).objs.size = s.heap.objs.size + 2 := by rw [Heap.size_push, z1]
  have z3 : (zh3 s.heap c1 c2 l1 l2).objs.size = s.heap.objs.size + 3 := by rw [Heap.size_push, z2]
  have z4 : (zh4 s.heap c1 c2 l1 l2).objs.size = s.heap.objs.size + 4 := by rw [Heap.size_push, z3]
  have p : ∀ {h : Heap} {o : Obj} {c : Addr} {u : Obj}, h.get? c = some u → (h.push o).get? c = some u := fun e => Heap.get?_push_of_some _ e
  have n1 : (itOb c1 l1).isFreed = false := by cases c1 <;> rfl
  have n2 : (itOb c2 l2).isFreed = false := by cases c2 <;> rfl
  have g5 : (zh5 s.heap c1 c2 l1 l2).get? (zh4 s.heap c1 c2 l1 l2).objs.size = some _ := Heap.get?_push_size _ rfl
  have g4 : (zh5 s.heap c1 c2 l1 l2).get? (zh3 s.heap c1 c2 l1 l2).objs.size = some _ := p (Heap.get?_push_size _ rfl)
  have g3 : (zh5 s.heap c1 c2 l1 l2).get? (zh2 s.heap c1 c2 l1 l2).objs.size = some _ := p (p (Heap.get?_push_size _ rfl))
  have g2 : (zh5 s.heap c1 c2 l1 l2).get? (zh1 s.heap c1 l1).objs.size = some (itOb c2 l2) := p (p (p (Heap.get?_push_size _ n2)))
  have g1 : (zh5 s.heap c1 c2 l1 l2).get? s.heap.objs.size = some (itOb c1 l1) := p (p (p (p (Heap.get?_push_size _ n1))))
  show _ ∧ _
  rw [z2, z3, z4] at g5
  rw [z1, z2] at g3
  rw [z3] at g4
  rw [z1] at g2
  rw [z4]
  exact ⟨⟨_, g5, rfl⟩, h _ g5 g3 g4 (itOb_at g1) (itOb_at g2) fun c o x => p (p (p (p (p x))))⟩
end
/-- what two sequences yield -/
def SqV (b : Bool) (K : PySem.W.Frag) (H : Hp) (a : Addr) (xs : List V) : Prop := match b with
  | true => SqL K H a xs
  | false => SqT K H a xs
def Itz (K : PySem.W.Frag) (c1 c2 : Bool) (l1 l2 : Addr) : It :=
  ⟨fun i H => ∃ xs ys x y, SqV c1 K H l1 xs ∧ SqV c2 K H l2 ys ∧ xs[i]? = some x ∧ ys[i]? = some y,
   fun i H v H' => ∃ p x y, v = .ref p ∧ H p = none ∧ H' = upd H p (.tup [x, y]) ∧ (∀ xs, SqV c1 K H l1 xs → xs[i]? = some x) ∧ ∀ ys, SqV c2 K H l2 ys → ys[i]? = some y,
   fun i H => ∃ xs ys, SqV c1 K H l1 xs ∧ SqV c2 K H l2 ys ∧ (xs.length ≤ i ∨ ys.length ≤ i)⟩
section
variable {X : Cx} {pins : List (Addr × Obj)} {σ : L2.St} {H : Hp} {s : Shared}
theorem sqv_at {b : Bool} {a : Addr} {xs : List V} (I : Inv X pins σ H s) (h : SqV b X.K H a xs) : ∃ its : List Value, Vals xs its ∧ SqAt b s.heap a its.toArray := by
  cases b with
  | true => obtain ⟨its, r, p, _⟩ := I.list h; exact ⟨its, r, p.isList⟩
  | false => obtain ⟨its, r, p, _⟩ := I.tuple h; exact ⟨its, r, p⟩
theorem sqv_inj {b : Bool} {a : Addr} {xs ys : List V} (I : Inv X pins σ H s) (h : SqV b X.K H a xs) (h' : SqV b X.K H a ys) : xs = ys := by
  cases b with
  | true => exact I.list_inj h h'
  | false => exact I.tuple_inj h h'
end
structure ZTn (c1 c2 : Bool) (z TI TO i1 i2 l1 l2 : Addr) (i : Nat) (h : Heap) : Prop where
  hz : IsZip h z TI TO .none
  hI : IsPair h TI (.ref i1) (.ref i2)
  hO : ∃ a b, IsPair h TO a b
  h1 : ItAt c1 h i1 l1 i
  h2 : ItAt c2 h i2 l2 i
/-- several untracked records of ours have turned -/
theorem turned_all {X : Cx} {pins : List (Addr × Obj)} {σ : L2.St} {H : Hp} {s : Shared} {h' : Heap} {fp : List Addr} (I : Inv X pins σ H s) (hf : ∀ b ∈ fp, FpOk X pins H b) (k : ∀ b o, b ∉ fp → s.heap.get? b = some o → h'.get? b = some o) : Inv X pins σ H { s with heap := h' } := by
  have nit : ∀ b u, H b = some u → b ∉ fp := fun b u e z => by rw [(hf b z).1] at e; cases e
  refine I.step (g' := s.gens) (d' := s.drawn) (t' := s.toks) (ch := fp) (fun b hb => ?_) (fun b o _ _ hc e _ => k b o hc e) (fun b o _ _ hc e _ => ⟨o.slots, k b o hc e⟩) (fun _ _ _ _ n => n)
    (fun b o hc e => ⟨o, k b o hc e⟩) (fun _ _ e => e) (fun _ _ _ e => e) (fun b ps e => ⟨#[], by rw [e]; simp⟩) (fun m hm => ?_) (fun b u e => ?_) I.bare
  · obtain ⟨_, f1, _, f3, f4, f5⟩ := hf b hb
    exact ⟨f3, f1, f4, f5⟩
  · obtain ⟨o, es, ep, ho, r⟩ := hm
    exact ⟨o, es, ep, k _ o (fun z => (hf _ z).2.1 rfl) ho, r⟩
  · refine (I.hok b u e).stay (fun c v hc q => k c v ?_ q) (fun _ q => q) fun _ _ q => q
    rcases hc with z | z
    · rw [z]; exact nit b u e
    · exact nit c _ z
theorem reads_ne {X : Cx} {pins : List (Addr × Obj)} {σ : L2.St} {H : Hp} {s : Shared} {b : Bool} {a p : Addr} {xs : Array Value} (h : SqAt b s.heap a xs) (hp : ∃ o, s.heap.get? p = some o ∧ o.cls ≠ .type "list" ∧ o.cls ≠ .type "tuple") : a ≠ p := fun z => by
  subst z
  obtain ⟨o, e, n1, n2⟩ := hp
  cases b with
  | true => obtain ⟨o', e', c, _⟩ := h; rw [e] at e'; cases e'; exact n1 c
  | false => obtain ⟨o', e', c, _⟩ := h; rw [e] at e'; cases e'; exact n2 c
theorem turn_zip {P : Program} {w : World} {K : PySem.W.Frag} {elts : List Expr} {kx : Nat} {px : Pos} {c1 c2 : Bool} {z TI TO i1 i2 l1 l2 : Addr} (D : ZipApart z TI TO i1 i2 l1 l2) :
    Turn P w K (.Tuple elts kx px) (Itz K c1 c2 l1 l2) [z, TI, TO, i1, i2] z (ZTn c1 c2 z TI TO i1 i2 l1 l2) where
  mem := by simp
  obj := fun i h st b hb => by
    simp only [List.mem_cons, List.not_mem_nil, or_false] at hb
    rcases hb with rfl | rfl | rfl | rfl | rfl
    · exact ⟨_, st.hz, fun v q => nomatch (show Data.fields _ = Data.cell v from q)⟩
    · exact ⟨_, st.hI, fun v q => nomatch (show Data.seq _ _ = Data.cell v from q)⟩
    · obtain ⟨a, b, e⟩ := st.hO
      exact ⟨_, e, fun v q => nomatch (show Data.seq _ _ = Data.cell v from q)⟩
    · exact st.h1.obj
    · exact st.h2.obj
  keep := fun i h h' st k => by
    obtain ⟨a, b, e⟩ := st.hO
    exact ⟨k z (by simp) _ st.hz, k TI (by simp) _ st.hI, ⟨a, b, k TO (by simp) _ e⟩, st.h1.ext fun o e => k i1 (by simp) o e, st.h2.ext fun o e => k i2 (by simp) o e⟩
  item := fun X hP hw hK hc i pins s σ H E I hf st hg => by
    subst hP hw hK
    obtain ⟨xs, ys, x, y, q1, q2, g1, g2⟩ := hg
    obtain ⟨its, r1, p1⟩ := sqv_at I q1
    obtain ⟨jts, r2, p2⟩ := sqv_at I q2
    obtain ⟨u, e1, ru⟩ := r1.get g1
    obtain ⟨v, e2, rv⟩ := r2.get g2
    obtain ⟨a, b, hO⟩ := st.hO
    refine zipNext_item D st.hz st.hI hO st.h1 st.h2 p1 p2 (x := u) (y := v) (by simpa using e1) (by simpa using e2) fun h' a1 a2 a3 a4 a5 a6 => ⟨_, rfl, ?_⟩
    refine wpAny_letOwnedTupleGo_zip (s := { s with heap := h' }) a1 fun h2 b1 b2 => ?_
    have kp : ∀ b o, b ∉ [z, TI, TO, i1, i2] → s.heap.get? b = some o → h2.get? b = some o := fun b o hb e => by
      simp only [List.mem_cons, List.not_mem_nil, or_false, not_or] at hb
      exact b2.extBut _ _ hb.1 (a6 b o hb.1 hb.2.2.1 hb.2.2.2.1 hb.2.2.2.2 e)
    have lz : z < s.heap.objs.size := Heap.lt_size st.hz
    have pr : IsPair h2 s.heap.objs.size u v := b2.extBut _ _ (Nat.ne_of_gt lz) a5
    have fr : H s.heap.objs.size = none := I.hok.fresh (Nat.le_refl _)
    have hokA : HOk X.prog X.w (upd H s.heap.objs.size (.tup [x, y])) h2 := by
      intro c o e
      by_cases hcz : c = s.heap.objs.size
      · subst hcz
        rw [upd_same] at e; cases e
        exact ⟨by show 2 ≤ sizeLine; decide, [u, v], .cons ru (.cons rv .nil), _, pr, rfl, _, rfl⟩
      · rw [upd_ne hcz] at e
        have nf : ∀ d o', H d = some o' → d ∉ [z, TI, TO, i1, i2] := fun d o' ed hd => by rw [(hf d hd).1] at ed; cases ed
        have up : ∀ d o', H d = some o' → upd H s.heap.objs.size (.tup [x, y]) d = some o' := fun d o' ed => by rw [upd_ne (ne_of_none ed fr)]; exact ed
        refine (I.hok c o e).stay (fun d v' hd q => kp d v' ?_ q) (fun d q => up d _ q) fun d xs q => up d _ q
        rcases hd with rfl | hd
        · exact nf _ o e
        · exact nf d _ hd
    have J : Inv X pins σ (upd H s.heap.objs.size (.tup [x, y])) { s with heap := h2 } := by
      have ne : ∀ b o, s.heap.get? b = some o → b ≠ s.heap.objs.size := fun b o e => Nat.ne_of_lt (Heap.lt_size e)
      refine I.step (g' := s.gens) (d' := s.drawn) (t' := s.toks) (ch := [z, TI, TO, i1, i2]) (fun b hb => ?_) (fun b o _ _ hc e _ => kp b o hc e) (fun b o _ _ hc e _ => ⟨o.slots, kp b o hc e⟩) (fun b o _ e n => by rw [upd_ne (ne b o e)]; exact n)
        (fun b o hc e => ⟨o, kp b o hc e⟩) (fun b xs e => by rw [upd_ne (ne_of_none e fr)]; exact e) (fun b o u e => by rw [upd_ne (ne_of_none e fr)]; exact e) (fun b ps e => ⟨#[], by rw [upd_ne (ne_of_none e fr), e]; simp⟩) (fun m hm => ?_) hokA I.bare
      · obtain ⟨_, f1, _, f3, f4, f5⟩ := hf b hb
        exact ⟨f3, f1, f4, f5⟩
      · obtain ⟨o, es, ep, ho, r⟩ := hm
        exact ⟨o, es, ep, kp _ o (fun q => (hf _ q).2.1 rfl) ho, r⟩
    refine ⟨.ref s.heap.objs.size, _, J, rfl, ⟨_, x, y, rfl, fr, rfl, fun xs' h => by rw [sqv_inj I h q1]; exact g1, fun ys' h => by rw [sqv_inj I h q2]; exact g2⟩, ?_, fun b hb => ?_⟩
    · exact ⟨b1, b2.extBut _ _ D.TIz (a6 _ _ D.TIz D.TITO D.TIi1 D.TIi2 st.hI), ⟨_, _, b2.extBut _ _ D.TOz a2⟩, a3.ext fun o e => b2.extBut _ _ D.i1z e, a4.ext fun o e => b2.extBut _ _ D.i2z e⟩
    · obtain ⟨o, e, _⟩ : ∃ o, s.heap.get? b = some o ∧ True := by
        simp only [List.mem_cons, List.not_mem_nil, or_false] at hb
        rcases hb with rfl | rfl | rfl | rfl | rfl
        · exact ⟨_, st.hz, trivial⟩
        · exact ⟨_, st.hI, trivial⟩
        · exact ⟨_, hO, trivial⟩
        · obtain ⟨o, e, _⟩ := st.h1.obj; exact ⟨o, e, trivial⟩
        · obtain ⟨o, e, _⟩ := st.h2.obj; exact ⟨o, e, trivial⟩
      rw [upd_ne (Nat.ne_of_lt (Heap.lt_size e))]
      exact (hf b hb).1
  done := fun X hP hw hK hc i pins s σ H E I hf st hg => by
    subst hP hw hK
    obtain ⟨xs, ys, q1, q2, g⟩ := hg
    obtain ⟨its, r1, p1⟩ := sqv_at I q1
    obtain ⟨jts, r2, p2⟩ := sqv_at I q2
    obtain ⟨a, b, hO⟩ := st.hO
    have n1 := r1.length
    have n2 := r2.length
    refine zipNext_end (I.ok.hd hc) D st.hz st.hI hO st.h1 st.h2 p1 p2 ?_ fun h' k => ⟨rfl, turned_all I hf fun b o hb e => ?_⟩
    · rcases g with g | g
      · exact .inl (by simp; omega)
      · exact .inr (by simp; omega)
    · simp only [List.mem_cons, List.not_mem_nil, or_false, not_or] at hb
      exact k b o hb.1 hb.2.2.1 hb.2.2.2.1 hb.2.2.2.2 e
  self := fun _ _ _ _ _ st h => wpAny_pyIter_zip st.hz h
end TM

set_option Elab.async false
set_option linter.all false
set_option maxRecDepth 100000
namespace TM
open PySem PySem.Spec PyProof.Rows L2
def sqK : T → Option (Bool × List T)
  | .lst ts => some (true, ts)
  | .scr ts => some (true, ts)
  | .tup ts => some (false, ts)
  | _ => none
theorem sqK_rep {K : PySem.W.Frag} {F : Hp} {t : T} {v : V} {b : Bool} {ts : List T} (r : Rep K F t v) (e : sqK t = some (b, ts)) : ∃ a xs, v = .ref a ∧ SqV b K F a xs ∧ Reps K F ts xs := by
  cases t <;> simp only [sqK] at e <;> cases e
  · exact r
  · obtain ⟨a, xs, h1, h2, h3⟩ := r
    exact ⟨a, xs, h1, SqL.of h2, h3⟩
  · exact r
theorem SqV.same {b : Bool} {K : PySem.W.Frag} {H H' : Hp} {a : Addr} {xs : List V} (s : Same H H') (h : SqV b K H a xs) : SqV b K H' a xs := by
  cases b with
  | true => exact s.seq h
  | false => exact same_sqT s h
def zipT : List T → List T → List T
  | x :: xs, y :: ys => .tup [x, y] :: zipT xs ys
  | _, _ => []
theorem zipT_length : ∀ (xs ys : List T), (zipT xs ys).length = min xs.length ys.length
  | [], _ => by simp [zipT]
  | _ :: _, [] => by simp [zipT]
  | x :: xs, y :: ys => by simp [zipT, zipT_length xs ys]
theorem zipT_get : ∀ (xs ys : List T) (i : Nat) (t : T), (zipT xs ys)[i]? = some t → ∃ x y, xs[i]? = some x ∧ ys[i]? = some y ∧ t = .tup [x, y]
  | [], _, i, t, e => by simp [zipT] at e
  | _ :: _, [], i, t, e => by simp [zipT] at e
  | x :: xs, y :: ys, 0, t, e => by simp [zipT] at e; exact ⟨x, y, rfl, rfl, e.symm⟩
  | x :: xs, y :: ys, i + 1, t, e => by
    obtain ⟨a, b, h1, h2, h3⟩ := zipT_get xs ys i t (by simpa [zipT] using e)
    exact ⟨a, b, by simpa using h1, by simpa using h2, h3⟩
theorem walks_zip {K : PySem.W.Frag} {F : Hp} {c1 c2 : Bool} {l1 l2 : Addr} {xs ys : List V} {ts us : List T} (h1 : SqV c1 K F l1 xs) (r1 : Reps K F ts xs) (h2 : SqV c2 K F l2 ys) (r2 : Reps K F us ys) : Walks K F (zipT ts us) (Itz K c1 c2 l1 l2) := by
  refine ⟨fun i t F1 H1 e s1 s2 => ?_, fun i t F1 H1 x H2 e s1 s2 y => ?_, fun F1 H1 s1 s2 => ⟨xs, ys, h1.same (s1.trans s2), h2.same (s1.trans s2), ?_⟩⟩
  · obtain ⟨a, b, e1, e2, rfl⟩ := zipT_get ts us i t e
    obtain ⟨v, g1, _⟩ := r1.get e1
    obtain ⟨w, g2, _⟩ := r2.get e2
    exact ⟨xs, ys, v, w, h1.same (s1.trans s2), h2.same (s1.trans s2), g1, g2⟩
  · obtain ⟨p, v, w, rfl, hp, rfl, q1, q2⟩ := y
    obtain ⟨a, b, e1, e2, rfl⟩ := zipT_get ts us i t e
    obtain ⟨v', g1, k1⟩ := r1.get e1
    obtain ⟨w', g2, k2⟩ := r2.get e2
    have m1 := q1 xs (h1.same (s1.trans s2))
    have m2 := q2 ys (h2.same (s1.trans s2))
    rw [g1] at m1; cases m1
    rw [g2] at m2; cases m2
    have gr := Grow.new (.tup [v, w]) s2 hp
    exact ⟨_, gr, p, _, rfl, SqT.of upd_same, v, [w], rfl, Rep.mono (s1.trans gr.sF) k1, w, [], rfl, Rep.mono (s1.trans gr.sF) k2, rfl⟩
  · rw [zipT_length, r1.length, r2.length]
    omega
def fiZip (g : FA) : FA := fun τ => (g τ).bind fun p => match p.1 with
  | [a, b] => (sqK a).bind fun x => (sqK b).bind fun y => some (zipT x.2 y.2, p.2)
  | _ => none
theorem si_zip {X : Cx} {a b : Expr} {p pos : Pos} {ga : FA} {elts : List Expr} {kx : Nat} {px : Pos} (hg : Gl X "zip") (hm : X.mg "zip" = none) (ha : SA X [a, b] ga) (hs : starEach [a, b] X.env = (false, eval a X.env) :: starEach [b] X.env := by rfl)
    (hs2 : (backTo pos (starEach [b] X.env)).any (·.1) = false := by rfl) : SI X (.Tuple elts kx px) (.Call (.Name "zip" p) [a, b] [] pos) (fiZip ga) := by
  intro F₀ H₀ pins s σ H R I ⟨F, τ, ts, τ', E, e1, q⟩
  obtain ⟨⟨x, τ1⟩, e2, e1⟩ := bind_some e1
  dsimp only at e1
  split at e1
  · next t u =>
    obtain ⟨⟨c1, us⟩, e3, e1⟩ := bind_some e1
    obtain ⟨⟨c2, ws⟩, e4, e1⟩ := bind_some e1
    cases e1
    refine Call_ (ld_blt I hg hm (show bootBuiltins "zip" = some (.type "zip") from rfl) (PyProof.Rows.callWith_type1 (thn (ha F₀ H₀ pos pins s σ H (fun vs H' => ∃ l1 l2 xs ys, vs = [.ref l1, .ref l2] ∧ SqV c1 X.K H' l1 xs ∧ SqV c2 X.K H' l2 ys ∧ R (Itz X.K c1 c2 l1 l2) H') I ⟨F, τ, _, _, E, e2, fun F' H' vs E' s' r' => ?_⟩) fun vs s1 ⟨ws', H1, I1, r1, q1⟩ => ?_) hs hs2))
    · obtain ⟨v1, r1, rfl, k1, v2, r2, rfl, k2, rfl⟩ := r'
      obtain ⟨l1, xs, rfl, h1, h2⟩ := sqK_rep k1 e3
      obtain ⟨l2, ys, rfl, h3, h4⟩ := sqK_rep k2 e4
      exact ⟨l1, l2, xs, ys, rfl, h1.same E'.g.fh, h3.same E'.g.fh, q F' H' _ E' s' (walks_zip h1 h2 h3 h4)⟩
    · obtain ⟨l1, l2, xs, ys, rfl, h1, h2, q1⟩ := q1
      cases r1 with
      | cons ra rr =>
        cases rr with
        | cons rb rr =>
          cases rr; cases ra; cases rb
          obtain ⟨its, _, p1⟩ := sqv_at I1 h1
          obtain ⟨jts, _, p2⟩ := sqv_at I1 h2
          refine call_zip p1 p2 fun h' a1 a2 a3 a4 a5 kp => wpAny_pyIter_zip (s := { s1 with heap := h' }) a1 ?_
          have lt : ∀ {c : Bool} {l : Addr} {zs : Array Value}, SqAt c s1.heap l zs → l < s1.heap.objs.size := fun {c l zs} h => by
            cases c with
            | true => obtain ⟨o, e, _⟩ := h; exact Heap.lt_size e
            | false => obtain ⟨o, e, _⟩ := h; exact Heap.lt_size e
          have n1 : @LT.lt Nat _ l1 s1.heap.objs.size := lt p1
          have n2 : @LT.lt Nat _ l2 s1.heap.objs.size := lt p2
          have J : Inv X pins σ H1 { s1 with heap := h' } := I1.kept (t' := s1.toks) kp
          refine ⟨_, [_, _, _, _, _], _, _, H1, rfl, J, turn_zip (c1 := c1) (c2 := c2) (z := s1.heap.objs.size + 4) (TI := s1.heap.objs.size + 2) (TO := s1.heap.objs.size + 3) (i1 := s1.heap.objs.size) (i2 := s1.heap.objs.size + 1) (l1 := l1) (l2 := l2) ?_, ⟨a1, a2, ⟨_, _, a3⟩, a4, a5⟩, fun b hb => ?_, q1⟩
          · constructor <;> (refine (?_ : @Ne Nat _ _); omega)
          · have hb' : s1.heap.objs.size ≤ b := by
              simp only [List.mem_cons, List.not_mem_nil, or_false] at hb
              rcases hb with rfl | rfl | rfl | rfl | rfl <;> omega
            exact I1.fpOk hb' (I1.hok.fresh hb')
  · cases e1
end TM

set_option Elab.async false
set_option linter.all false
set_option maxRecDepth 100000
namespace TM
open PySem PySem.Spec PyProof.Rows L2
theorem isi_non_int : dIsi [.non, .ty "int"] = some (.bl false) := rfl
theorem isi_non_bool : dIsi [.non, .ty "bool"] = some (.bl false) := rfl
theorem isi_non_str : dIsi [.non, .ty "str"] = some (.bl false) := rfl
theorem isi_non_list : dIsi [.non, .ty "list"] = some (.bl false) := rfl
theorem isi_non_tuple : dIsi [.non, .ty "tuple"] = some (.bl false) := rfl
theorem isi_non_dict : dIsi [.non, .ty "dict"] = some (.bl false) := rfl
theorem isi_non_lt : dIsi [.non, .tup [.ty "list", .ty "tuple"]] = some (.bl false) := rfl
theorem isi_bl_int {b : Bool} : dIsi [(.bl b), .ty "int"] = some (.bl true) := rfl
theorem isi_bl_bool {b : Bool} : dIsi [(.bl b), .ty "bool"] = some (.bl true) := rfl
theorem isi_bl_str {b : Bool} : dIsi [(.bl b), .ty "str"] = some (.bl false) := rfl
theorem isi_bl_list {b : Bool} : dIsi [(.bl b), .ty "list"] = some (.bl false) := rfl
theorem isi_bl_tuple {b : Bool} : dIsi [(.bl b), .ty "tuple"] = some (.bl false) := rfl
theorem isi_bl_dict {b : Bool} : dIsi [(.bl b), .ty "dict"] = some (.bl false) := rfl
theorem isi_bl_lt {b : Bool} : dIsi [(.bl b), .tup [.ty "list", .ty "tuple"]] = some (.bl false) := rfl
theorem isi_int_int {i : Int} : dIsi [(.int i), .ty "int"] = some (.bl true) := rfl
theorem isi_int_bool {i : Int} : dIsi [(.int i), .ty "bool"] = some (.bl false) := rfl
theorem isi_int_str {i : Int} : dIsi [(.int i), .ty "str"] = some (.bl false) := rfl
theorem isi_int_list {i : Int} : dIsi [(.int i), .ty "list"] = some (.bl false) := rfl
theorem isi_int_tuple {i : Int} : dIsi [(.int i), .ty "tuple"] = some (.bl false) := rfl
theorem isi_int_dict {i : Int} : dIsi [(.int i), .ty "dict"] = some (.bl false) := rfl
theorem isi_int_lt {i : Int} : dIsi [(.int i), .tup [.ty "list", .ty "tuple"]] = some (.bl false) := rfl
theorem isi_str_int {x : Str} : dIsi [(.str x), .ty "int"] = some (.bl false) := rfl
theorem isi_str_bool {x : Str} : dIsi [(.str x), .ty "bool"] = some (.bl false) := rfl
theorem isi_str_str {x : Str} : dIsi [(.str x), .ty "str"] = some (.bl true) := rfl
theorem isi_str_list {x : Str} : dIsi [(.str x), .ty "list"] = some (.bl false) := rfl
theorem isi_str_tuple {x : Str} : dIsi [(.str x), .ty "tuple"] = some (.bl false) := rfl
theorem isi_str_dict {x : Str} : dIsi [(.str x), .ty "dict"] = some (.bl false) := rfl
theorem isi_str_lt {x : Str} : dIsi [(.str x), .tup [.ty "list", .ty "tuple"]] = some (.bl false) := rfl
theorem isi_tup_int {ts : List T} : dIsi [(.tup ts), .ty "int"] = some (.bl false) := rfl
theorem isi_tup_bool {ts : List T} : dIsi [(.tup ts), .ty "bool"] = some (.bl false) := rfl
theorem isi_tup_str {ts : List T} : dIsi [(.tup ts), .ty "str"] = some (.bl false) := rfl
theorem isi_tup_list {ts : List T} : dIsi [(.tup ts), .ty "list"] = some (.bl false) := rfl
theorem isi_tup_tuple {ts : List T} : dIsi [(.tup ts), .ty "tuple"] = some (.bl true) := rfl
theorem isi_tup_dict {ts : List T} : dIsi [(.tup ts), .ty "dict"] = some (.bl false) := rfl
theorem isi_tup_lt {ts : List T} : dIsi [(.tup ts), .tup [.ty "list", .ty "tuple"]] = some (.bl true) := rfl
theorem isi_lst_int {ts : List T} : dIsi [(.lst ts), .ty "int"] = some (.bl false) := rfl
theorem isi_lst_bool {ts : List T} : dIsi [(.lst ts), .ty "bool"] = some (.bl false) := rfl
theorem isi_lst_str {ts : List T} : dIsi [(.lst ts), .ty "str"] = some (.bl false) := rfl
theorem isi_lst_list {ts : List T} : dIsi [(.lst ts), .ty "list"] = some (.bl true) := rfl
theorem isi_lst_tuple {ts : List T} : dIsi [(.lst ts), .ty "tuple"] = some (.bl false) := rfl
theorem isi_lst_dict {ts : List T} : dIsi [(.lst ts), .ty "dict"] = some (.bl false) := rfl
theorem isi_lst_lt {ts : List T} : dIsi [(.lst ts), .tup [.ty "list", .ty "tuple"]] = some (.bl true) := rfl
theorem isi_scr_int {ts : List T} : dIsi [(.scr ts), .ty "int"] = some (.bl false) := rfl
theorem isi_scr_bool {ts : List T} : dIsi [(.scr ts), .ty "bool"] = some (.bl false) := rfl
theorem isi_scr_str {ts : List T} : dIsi [(.scr ts), .ty "str"] = some (.bl false) := rfl
theorem isi_scr_list {ts : List T} : dIsi [(.scr ts), .ty "list"] = some (.bl true) := rfl
theorem isi_scr_tuple {ts : List T} : dIsi [(.scr ts), .ty "tuple"] = some (.bl false) := rfl
theorem isi_scr_dict {ts : List T} : dIsi [(.scr ts), .ty "dict"] = some (.bl false) := rfl
theorem isi_scr_lt {ts : List T} : dIsi [(.scr ts), .tup [.ty "list", .ty "tuple"]] = some (.bl true) := rfl
theorem isi_dic_int : dIsi [.dic, .ty "int"] = some (.bl false) := rfl
theorem isi_dic_bool : dIsi [.dic, .ty "bool"] = some (.bl false) := rfl
theorem isi_dic_str : dIsi [.dic, .ty "str"] = some (.bl false) := rfl
theorem isi_dic_list : dIsi [.dic, .ty "list"] = some (.bl false) := rfl
theorem isi_dic_tuple : dIsi [.dic, .ty "tuple"] = some (.bl false) := rfl
theorem isi_dic_dict : dIsi [.dic, .ty "dict"] = some (.bl true) := rfl
theorem isi_dic_lt : dIsi [.dic, .tup [.ty "list", .ty "tuple"]] = some (.bl false) := rfl
theorem gEq_int (i j : Int) : gEq (.int i) (.int j) = some (.bl (decide (i = j))) := by
  show some (T.bl (i == j)) = _
  rw [Bool.beq_eq_decide_eq]
theorem gNe_int (i j : Int) : gNe (.int i) (.int j) = some (.bl (!decide (i = j))) := by
  show some (T.bl (!(i == j))) = _
  rw [Bool.beq_eq_decide_eq]
theorem gEq_bl (i j : Bool) : gEq (.bl i) (.bl j) = some (.bl (i == j)) := rfl
theorem gNe_bl (i j : Bool) : gNe (.bl i) (.bl j) = some (.bl (!(i == j))) := rfl
theorem CDivB_iff (i j : Int) : CDivB i j ↔ (¬ j = 0 ∧ j.natAbs < B) := Iff.rfl
theorem CMulB_iff (i j : Int) : CMulB i j ↔ (i.natAbs < B ∧ j.natAbs < B) := Iff.rfl
theorem CNz_iff (i j : Int) : CNz i j ↔ ¬ j = 0 := Iff.rfl
theorem small_le {n : Nat} (h : n ≤ 1000) : n ≤ sizeLine := Nat.le_of_lt (small1000 h)
theorem le0 : (0 : Nat) ≤ sizeLine := small_le (by decide)
theorem le1 : (1 : Nat) ≤ sizeLine := small_le (by decide)
theorem le2 : (2 : Nat) ≤ sizeLine := small_le (by decide)
theorem le3 : (3 : Nat) ≤ sizeLine := small_le (by decide)
theorem le4 : (4 : Nat) ≤ sizeLine := small_le (by decide)
theorem gIx_tup0 {x y : T} : gIx (.tup [x, y]) (.int 0) = some x := rfl
theorem gIx_tup1 {x y : T} : gIx (.tup [x, y]) (.int 1) = some y := rfl
theorem gIx_lst0 {x y : T} : gIx (.lst [x, y]) (.int 0) = some x := rfl
theorem gIx_lst1 {x y : T} : gIx (.lst [x, y]) (.int 1) = some y := rfl
theorem dAbs_nat (a : Int) : dAbs [.int a] = some (.int (a.natAbs : Int)) := by
  have e : (if a < 0 then -a else a) = (a.natAbs : Int) := by split <;> omega
  simp only [dAbs, e]
theorem bigB : (2 ^ 64 : Nat) < B := by decide +kernel
theorem ltB_of {a : Int} (h1 : -(2 ^ 64) < a) (h2 : a < 2 ^ 64) : a.natAbs < B := by have := bigB; omega
local macro_rules | `(tactic| walk_at "ev") => `(tactic| simp only [fC, fVar, fOp, fUn, fTB, fTru, tru, fAnd, fOr, fNot, fAndV, fOrV, fIf, fNil, fCons, fTup, fLst, fCall, fNever, fNext, fRet, fDrop, fIfS, fSeq, fSet, fSetOwn, fAsg, fPar, gnName, gnNil, gnCons, gnTup, fApp, fDic, fSl, fNoPart, fPart, fFor, fiZip, sqK, zipT, loopT, gI_int, gAdd_int, gEq_int, gNe_int, gEq_bl, gNe_bl, gNot, gNeg, gIs, isNon, gIx_tup0, gIx_tup1, gIx_lst0, gIx_lst1, dAbs_nat, dMax, dMin, dLen, isi_non_int, isi_non_bool, isi_non_str, isi_non_list, isi_non_tuple, isi_non_dict, isi_non_lt, isi_bl_int, isi_bl_bool, isi_bl_str, isi_bl_list, isi_bl_tuple, isi_bl_dict, isi_bl_lt, isi_int_int, isi_int_bool, isi_int_str, isi_int_list, isi_int_tuple, isi_int_dict, isi_int_lt, isi_str_int, isi_str_bool, isi_str_str, isi_str_list, isi_str_tuple, isi_str_dict, isi_str_lt, isi_tup_int, isi_tup_bool, isi_tup_str, isi_tup_list, isi_tup_tuple, isi_tup_dict, isi_tup_lt, isi_lst_int, isi_lst_bool, isi_lst_str, isi_lst_list, isi_lst_tuple, isi_lst_dict, isi_lst_lt, isi_scr_int, isi_scr_bool, isi_scr_str, isi_scr_list, isi_scr_tuple, isi_scr_dict, isi_scr_lt, isi_dic_int, isi_dic_bool, isi_dic_str, isi_dic_list, isi_dic_tuple, isi_dic_dict, isi_dic_lt, Option.bind_some, Option.bind_none, List.getElem?_cons_zero, List.getElem?_cons_succ, List.set_cons_zero, List.set_cons_succ, List.map_cons, List.map_nil, List.cons_append, List.nil_append, List.replicate_succ, List.replicate_zero, List.length_cons, List.length_nil, if_true, if_false, ite_true, ite_false, reduceIte, Bool.not_true, Bool.not_false, Bool.false_eq_true, Nat.reduceSub, Nat.reduceAdd, Nat.reduceLeDiff, reduceCtorEq, decide_true, decide_false, ne_eq, not_true_eq_false, not_false_eq_true, CDivB_iff, CMulB_iff, CNz_iff, and_true, true_and, and_self, Nat.sub_self, Nat.zero_add, beq_self_eq_true, le0, le1, le2, le3, le4, *])
theorem gEq_str_self {x : Str} (h : SeqAt.shaped (.str x) = true) : gEq (.str x) (.str x) = some (.bl true) := by
  show gEqW false (.str x) (.str x) = _
  simp [gEqW, toP, h, PyData.eqv]
/-! ### _law_same, of a thing and itself -/
def bSame (d__law_same : List T → Option T) : FS :=
    (fSeq (fIfS (fTru (fCall dIsi (fCons (fVar 1) (fCons (fTup (fCons (fC (.ty "list")) (fCons (fC (.ty "tuple")) fNil))) fNil)))) (fSeq (fIfS (fOr (fTB (fOp gNe (fCall dIsi (fCons (fVar 1) (fCons (fC (.ty "list")) fNil))) (fCall dIsi (fCons (fVar 0) (fCons (fC (.ty "list")) fNil))))) (fNot (fTru (fCall dIsi (fCons (fVar 0) (fCons (fTup (fCons (fC (.ty "list")) (fCons (fC (.ty "tuple")) fNil))) fNil)))))) (fRet (fC (.bl false))) fNext)
    (fSeq (fIfS (fTB (fOp gNe (fCall dLen (fCons (fVar 0) fNil)) (fCall dLen (fCons (fVar 1) fNil)))) (fRet (fC (.bl false))) fNext)
    (fSeq (fFor (fiZip (fCons (fVar 0) (fCons (fVar 1) fNil))) (gnTup (gnCons (gnName 2) (gnCons (gnName 3) gnNil))) (fIfS (fNot (fTru (fCall d__law_same (fCons (fVar 2) (fCons (fVar 3) fNil))))) (fRet (fC (.bl false))) fNext))
    (fRet (fC (.bl true)))))) fNext)
    (fSeq (fIfS (fTB (fOp gIs (fVar 1) (fC .non))) (fRet (fOp gIs (fVar 0) (fC .non))) fNext)
    (fSeq (fIfS (fTru (fCall dIsi (fCons (fVar 1) (fCons (fC (.ty "str")) fNil)))) (fRet (fAndV (fCall dIsi (fCons (fVar 0) (fCons (fC (.ty "str")) fNil))) (fOp gEq (fVar 0) (fVar 1)))) fNext)
    (fRet (fAndV (fCall dIsi (fCons (fVar 0) (fCons (fC (.ty "int")) fNil))) (fAndV (fUn gNot (fCall dIsi (fCons (fVar 0) (fCons (fC (.ty "bool")) fNil)))) (fOp gEq (fVar 0) (fVar 1))))))))

def dSame : Nat → List T → Option T
  | 0 => fun _ => none
  | n + 1 => dOf 4 2 (bSame (dSame n))
mutual
def sameOk : Nat → T → Bool
  | _, .int _ => true
  | _, .non => true
  | _, .str x => SeqAt.shaped (.str x)
  | n + 1, .tup ts => sameOks n ts
  | n + 1, .lst ts => sameOks n ts
  | _, _ => false
def sameOks : Nat → List T → Bool
  | _, [] => true
  | n, t :: ts => sameOk n t && sameOks n ts
end
def sameBody (d : List T → Option T) : FS := (fIfS (fNot (fTru (fCall d (fCons (fVar 2) (fCons (fVar 3) fNil))))) (fRet (fC (.bl false))) fNext)
theorem same_loop {d : List T → Option T} : ∀ (ts : List T) (x y u v : Option Sl), (∀ t ∈ ts, d [t, t] = some (.bl true)) → ∃ u' v', loopT (gnTup (gnCons (gnName 2) (gnCons (gnName 3) gnNil))) (sameBody d) (zipT ts ts) [x, y, u, v] = some (.nx [x, y, u', v'])
  | [], x, y, u, v, _ => ⟨u, v, rfl⟩
  | t :: ts, x, y, u, v, h => by
    have h1 := h t (List.mem_cons_self ..)
    obtain ⟨u', v', h2⟩ := same_loop ts x y (some (.sh t)) (some (.sh t)) fun z hz => h z (List.mem_cons_of_mem _ hz)
    refine ⟨u', v', ?_⟩
    rw [← h2]
    clear h2 h
    unfold sameBody
    walk_at "ev"
theorem sameOks_mem {n : Nat} : ∀ {ts : List T}, sameOks n ts = true → ∀ t ∈ ts, sameOk n t = true
  | t :: ts, h, u, hu => by
    simp only [sameOks, Bool.and_eq_true] at h
    rcases List.mem_cons.mp hu with rfl | hu
    · exact h.1
    · exact sameOks_mem h.2 u hu
theorem dSame_eq : ∀ (n : Nat) (t : T), sameOk n t = true → dSame (n + 1) [t, t] = some (.bl true) := by
  intro n
  induction n with
  | zero =>
    intro t h
    show dOf 4 2 (bSame (dSame 0)) [t, t] = _
    cases t with
    | int i => clear h; unfold dOf bSame; walk_at "ev"
    | non => clear h; unfold dOf bSame; walk_at "ev"
    | str x =>
      have h : SeqAt.shaped (.str x) = true := h
      have e := gEq_str_self h
      clear h
      unfold dOf bSame
      walk_at "ev"
    | bl b => cases h
    | ty b => cases h
    | tup b => cases h
    | lst b => cases h
    | scr b => cases h
    | dic => cases h
  | succ n ih =>
    intro t h
    show dOf 4 2 (bSame (dSame (n + 1))) [t, t] = _
    cases t with
    | int i => clear h ih; unfold dOf bSame; walk_at "ev"
    | non => clear h ih; unfold dOf bSame; walk_at "ev"
    | str x =>
      have h : SeqAt.shaped (.str x) = true := h
      have e := gEq_str_self h
      clear h ih
      unfold dOf bSame
      walk_at "ev"
    | bl b => cases h
    | ty b => cases h
    | scr b => cases h
    | dic => cases h
    | tup ts =>
      have hm := fun t ht => ih t (sameOks_mem h t ht)
      obtain ⟨u, v, hl⟩ := same_loop ts (some (.sh (.tup ts))) (some (.sh (.tup ts))) none none hm
      clear h ih hm
      unfold sameBody at hl
      unfold dOf bSame
      walk_at "ev"
    | lst ts =>
      have hm := fun t ht => ih t (sameOks_mem h t ht)
      obtain ⟨u, v, hl⟩ := same_loop ts (some (.sh (.lst ts))) (some (.sh (.lst ts))) none none hm
      clear h ih hm
      unfold sameBody at hl
      unfold dOf bSame
      walk_at "ev"
end TM

set_option Elab.async false
set_option linter.all false
set_option maxRecDepth 100000
namespace TM
open PySem PySem.Spec PyProof.Rows L2
local macro_rules | `(tactic| walk_at "ev") => `(tactic| simp only [fC, fVar, fOp, fUn, fTB, fTru, tru, fAnd, fOr, fNot, fAndV, fOrV, fIf, fNil, fCons, fTup, fLst, fCall, fNever, fNext, fRet, fDrop, fIfS, fSeq, fSet, fSetOwn, fAsg, fPar, gnName, gnNil, gnCons, gnTup, fApp, fDic, fSl, fNoPart, fPart, fFor, fiZip, sqK, zipT, loopT, gI_int, gAdd_int, gEq_int, gNe_int, gEq_bl, gNe_bl, gNot, gNeg, gIs, isNon, gIx_tup0, gIx_tup1, gIx_lst0, gIx_lst1, dAbs_nat, dMax, dMin, dLen, isi_non_int, isi_non_bool, isi_non_str, isi_non_list, isi_non_tuple, isi_non_dict, isi_non_lt, isi_bl_int, isi_bl_bool, isi_bl_str, isi_bl_list, isi_bl_tuple, isi_bl_dict, isi_bl_lt, isi_int_int, isi_int_bool, isi_int_str, isi_int_list, isi_int_tuple, isi_int_dict, isi_int_lt, isi_str_int, isi_str_bool, isi_str_str, isi_str_list, isi_str_tuple, isi_str_dict, isi_str_lt, isi_tup_int, isi_tup_bool, isi_tup_str, isi_tup_list, isi_tup_tuple, isi_tup_dict, isi_tup_lt, isi_lst_int, isi_lst_bool, isi_lst_str, isi_lst_list, isi_lst_tuple, isi_lst_dict, isi_lst_lt, isi_scr_int, isi_scr_bool, isi_scr_str, isi_scr_list, isi_scr_tuple, isi_scr_dict, isi_scr_lt, isi_dic_int, isi_dic_bool, isi_dic_str, isi_dic_list, isi_dic_tuple, isi_dic_dict, isi_dic_lt, Option.bind_some, Option.bind_none, List.getElem?_cons_zero, List.getElem?_cons_succ, List.set_cons_zero, List.set_cons_succ, List.map_cons, List.map_nil, List.cons_append, List.nil_append, List.replicate_succ, List.replicate_zero, List.length_cons, List.length_nil, if_true, if_false, ite_true, ite_false, reduceIte, Bool.not_true, Bool.not_false, Bool.false_eq_true, Nat.reduceSub, Nat.reduceAdd, Nat.reduceLeDiff, reduceCtorEq, decide_true, decide_false, ne_eq, not_true_eq_false, not_false_eq_true, CDivB_iff, CMulB_iff, CNz_iff, and_true, true_and, and_self, Nat.sub_self, Nat.zero_add, beq_self_eq_true, le0, le1, le2, le3, le4, *])
/-! ### _law_mix -/
def bMix : FS :=
    (fSeq (fSet 2 (fOp gMod (fOp gAdd (fOp gAdd (fVar 0) (fOp gMulI (fC (.int 7919)) (fVar 1))) (fC (.int 11))) (fC (.int 2147483647))))
    (fSeq (fSet 2 (fOp gMod (fOp gAdd (fOp gMulI (fVar 2) (fVar 2)) (fOp gMulI (fC (.int 48271)) (fVar 1))) (fC (.int 2147483629))))
    (fRet (fOp gMod (fOp gAdd (fOp gAdd (fOp gMulI (fVar 2) (fVar 2)) (fOp gMulI (fC (.int 7)) (fVar 2))) (fVar 1)) (fC (.int 2147483587))))))
def bCell : FS :=
    (fSeq (fIfS (fTB (fOp gLt (fVar 1) (fCall dLen (fCons (fVar 0) fNil)))) (fRet (fOp gIx (fVar 0) (fVar 1))) fNext)
    (fSeq (fSet 2 (fOp gAdd (fOp gMulI (fC (.int 7919)) (fVar 1)) (fC (.int 5))))
    (fSeq (fIfS (fTB (fOp gGt (fCall dLen (fCons (fVar 0) fNil)) (fC (.int 0)))) (fSet 2 (fOp gMod (fOp gAdd (fOp gIx (fVar 0) (fOp gMod (fOp gMulI (fC (.int 7)) (fVar 1)) (fCall dLen (fCons (fVar 0) fNil)))) (fOp gMulI (fC (.int 7919)) (fVar 1))) (fC (.int 2147483647)))) fNext)
    (fRet (fOp gMod (fOp gMulI (fVar 2) (fVar 2)) (fC (.int 2147483629)))))))
theorem fmod_rng (a : Int) {b : Int} (h : 0 < b) : 0 ≤ a.fmod b ∧ a.fmod b < b := ⟨Int.fmod_nonneg_of_pos _ h, Int.fmod_lt_of_pos _ h⟩
def mixA (c k : Int) : Int := (c + 7919 * k + 11).fmod 2147483647
def mixB (c k : Int) : Int := (mixA c k * mixA c k + 48271 * k).fmod 2147483629
def mixF (c k : Int) : Int := (mixB c k * mixB c k + 7 * mixB c k + k).fmod 2147483587
theorem mixF_rng (c k : Int) : 0 ≤ mixF c k ∧ mixF c k < 2147483587 := fmod_rng _ (by decide)
def mMix : List T → Option T
  | [.int c, .int k] => if k.natAbs < B then some (.int (mixF c k)) else none
  | _ => none
theorem mMix_eq {c k : Int} (h : k.natAbs < B) : mMix [.int c, .int k] = some (.int (mixF c k)) := if_pos h
theorem num_B {n : Nat} (h : n < 2 ^ 64) : ((n : Int)).natAbs < B := by have := bigB; omega
theorem sp_mix (ts : List T) (t : T) (h : mMix ts = some t) : dOf 3 2 bMix ts = some t := by
  unfold mMix at h
  split at h
  · next c k =>
    split at h
    · next hk =>
      cases h
      have b1 : ((7919 : Int)).natAbs < B := num_B (n := 7919) (by decide)
      have b2 : ((48271 : Int)).natAbs < B := num_B (n := 48271) (by decide)
      have b3 : ((7 : Int)).natAbs < B := num_B (n := 7) (by decide)
      have r1 : (mixA c k).natAbs < B := by have := fmod_rng (c + 7919 * k + 11) (b := 2147483647) (by decide); exact ltB_of (by unfold mixA; omega) (by unfold mixA; omega)
      have r2 : (mixB c k).natAbs < B := by have := fmod_rng (mixA c k * mixA c k + 48271 * k) (b := 2147483629) (by decide); exact ltB_of (by unfold mixB; omega) (by unfold mixB; omega)
      have e1 : (c + 7919 * k + 11).fmod 2147483647 = mixA c k := rfl
      have e2 : (mixA c k * mixA c k + 48271 * k).fmod 2147483629 = mixB c k := rfl
      have e3 : (mixB c k * mixB c k + 7 * mixB c k + k).fmod 2147483587 = mixF c k := rfl
      have n1 : ¬ (2147483647 : Int) = 0 := by decide
      have n2 : ¬ (2147483629 : Int) = 0 := by decide
      have n3 : ¬ (2147483587 : Int) = 0 := by decide
      unfold dOf bMix
      walk_at "ev"
    · cases h
  · cases h
/-! ### _law_cell -/
def intsOf : List T → Option (List Int)
  | [] => some []
  | .int i :: ts => (intsOf ts).bind fun ns => some (i :: ns)
  | _ :: _ => none
theorem intsOf_map : ∀ ns : List Int, intsOf (ns.map T.int) = some ns
  | [] => rfl
  | n :: ns => by simp [intsOf, intsOf_map ns]
theorem intsOf_inv : ∀ {ts : List T} {ns : List Int}, intsOf ts = some ns → ts = ns.map T.int
  | [], ns, h => by cases h; rfl
  | .int i :: ts, ns, h => by
    obtain ⟨ms, e, h⟩ := bind_some h
    cases h
    rw [intsOf_inv e]; rfl
  | .non :: _, _, h => by cases h
  | .bl _ :: _, _, h => by cases h
  | .str _ :: _, _, h => by cases h
  | .ty _ :: _, _, h => by cases h
  | .tup _ :: _, _, h => by cases h
  | .lst _ :: _, _, h => by cases h
  | .scr _ :: _, _, h => by cases h
  | .dic :: _, _, h => by cases h
def cellN (ns : List Int) (k : Int) : Int := if 0 < ns.length then (ns.getD ((7 * k).fmod (ns.length : Int)).toNat 0 + 7919 * k).fmod 2147483647 else 7919 * k + 5
def cellF (ns : List Int) (k : Int) : Int := if k < (ns.length : Int) then ns.getD k.toNat 0 else (cellN ns k * cellN ns k).fmod 2147483629
def mCell : List T → Option T
  | [.scr ts, .int k] => (intsOf ts).bind fun ns => if 0 ≤ k ∧ k < 1000000 then some (.int (cellF ns k)) else none
  | _ => none
theorem mCell_eq {ns : List Int} {k : Int} (h0 : 0 ≤ k) (h1 : k < 1000000) : mCell [.scr (ns.map T.int), .int k] = some (.int (cellF ns k)) := by
  show (intsOf (ns.map T.int)).bind _ = _
  rw [intsOf_map]
  exact if_pos ⟨h0, h1⟩
theorem ix_ints {ns : List Int} {k : Int} (h0 : 0 ≤ k) (h1 : k < (ns.length : Int)) : gIx (.scr (ns.map T.int)) (.int k) = some (.int (ns.getD k.toNat 0)) := by
  show atI (ns.map T.int) k = _
  obtain ⟨j, rfl⟩ := Int.eq_ofNat_of_zero_le h0
  have hk : j < ns.length := by omega
  refine atI_nat ?_
  rw [List.getElem?_map, List.getElem?_eq_getElem hk]
  simp [List.getD, List.getElem?_eq_getElem hk]
theorem sp_cell (ts : List T) (t : T) (h : mCell ts = some t) : dOf 3 2 bCell ts = some t := by
  unfold mCell at h
  split at h
  · next us k =>
    obtain ⟨ns, e, h⟩ := bind_some h
    rw [intsOf_inv e]
    clear e
    split at h
    · next hk =>
      cases h
      obtain ⟨h0, h1⟩ := hk
      have b1 : ((7919 : Int)).natAbs < B := num_B (n := 7919) (by decide)
      have b3 : ((7 : Int)).natAbs < B := num_B (n := 7) (by decide)
      have bk : k.natAbs < B := ltB_of (by omega) (by omega)
      have n1 : ¬ (2147483647 : Int) = 0 := by decide
      have n2 : ¬ (2147483629 : Int) = 0 := by decide
      have hl : (ns.map T.int).length = ns.length := List.length_map ..
      unfold dOf bCell
      by_cases hc : k < (ns.length : Int)
      · have e1 := ix_ints h0 hc
        have e2 : cellF ns k = ns.getD k.toNat 0 := if_pos hc
        walk_at "ev"
      · have e2 : cellF ns k = (cellN ns k * cellN ns k).fmod 2147483629 := if_neg hc
        by_cases hn : (0 : Int) < (ns.length : Int)
        · have e3 : cellN ns k = (ns.getD ((7 * k).fmod (ns.length : Int)).toNat 0 + 7919 * k).fmod 2147483647 := if_pos (by omega)
          have r := fmod_rng (7 * k) hn
          have e4 := ix_ints (ns := ns) r.1 r.2
          have n3 : ¬ (ns.length : Int) = 0 := by omega
          have r2 : (cellN ns k).natAbs < B := by rw [e3]; have := fmod_rng (ns.getD ((7 * k).fmod (ns.length : Int)).toNat 0 + 7919 * k) (b := 2147483647) (by decide); exact ltB_of (by omega) (by omega)
          rw [e3] at r2 e2
          clear e3 r
          walk_at "ev"
        · have e3 : cellN ns k = 7919 * k + 5 := if_neg (by omega)
          have r2 : (7919 * k + 5).natAbs < B := ltB_of (by omega) (by omega)
          rw [e3] at e2
          clear e3
          walk_at "ev"
    · cases h
  · cases h
end TM

set_option Elab.async false
set_option linter.all false
set_option maxRecDepth 100000
namespace TM
open PySem PySem.Spec PyProof.Rows L2
/-! ### cells of a block -/
def clF (env : Env) : List (Str × NameKind) → List (Str × Addr) → List (Str × Addr)
  | [], acc => acc
  | (x, k) :: r, acc => if k == .free then clF env r ((x, (env.cells.lookup x).getD 0) :: acc) else clF env r acc
theorem closure_key {env : Env} (f : Str × NameKind → List (Str × Addr) → Sem (ForInStep (List (Str × Addr)))) (hf : ∀ x k cs, f (x, k) cs = if k == .free then (do let a ← cellOf env x; pure (.yield ((x, a) :: cs))) else pure (.yield cs)) :
    ∀ (names : List (Str × NameKind)) (acc : List (Str × Addr)), (∀ y ∈ names, y.2 = .free → ∃ c, env.cells.lookup y.1 = some c) → forIn names acc f = pure (clF env names acc)
  | [], acc, _ => by rw [List.forIn_nil]; rfl
  | (x, k) :: r, acc, hy => by
    rw [List.forIn_cons, hf]
    have ih := closure_key f hf r
    have hr : ∀ y ∈ r, y.2 = .free → ∃ c, env.cells.lookup y.1 = some c := fun z hz => hy z (List.mem_cons_of_mem _ hz)
    cases hk : (k == NameKind.free) with
    | true =>
      obtain ⟨c, hc⟩ := hy (x, k) List.mem_cons_self (beq_iff_eq.mp hk)
      dsimp only at hc
      simp only [if_true, clF, hc, cellOf, pure_bind, Option.getD_some, hk]
      exact ih _ hr
    | false =>
      simp only [Bool.false_eq_true, if_false, clF, pure_bind, hk]
      exact ih _ hr
theorem closure_eq {env : Env} {scope : Scope} (h : ∀ y ∈ scope.names, y.2 = .free → ∃ c, env.cells.lookup y.1 = some c) : closureFor scope env = pure (clF env scope.names []) := by
  simp only [closureFor]
  rw [closure_key (env := env) _ (fun x k cs => by cases hk : k == NameKind.free <;> simp [hk]) scope.names [] h]
  rfl
theorem clF_mem {env : Env} : ∀ (names : List (Str × NameKind)) (acc : List (Str × Addr)) (x : Str) (c : Addr), (∀ y ∈ names, y.2 = .free → ∃ c, env.cells.lookup y.1 = some c) → (x, c) ∈ clF env names acc → (x, c) ∈ acc ∨ (env.cells.lookup x = some c ∧ (x, NameKind.free) ∈ names)
  | [], acc, x, c, _, h => .inl h
  | (y, k) :: r, acc, x, c, hy, h => by
    unfold clF at h
    have hr : ∀ z ∈ r, z.2 = .free → ∃ c, env.cells.lookup z.1 = some c := fun z hz => hy z (List.mem_cons_of_mem _ hz)
    cases hk : (k == NameKind.free) with
    | true =>
      rw [if_pos hk] at h
      rcases clF_mem r _ x c hr h with h | h
      · rcases List.mem_cons.mp h with h | h
        · cases h
          obtain ⟨c, hc⟩ := hy (y, k) List.mem_cons_self (beq_iff_eq.mp hk)
          dsimp only at hc
          refine .inr ⟨by rw [hc]; rfl, ?_⟩
          rw [beq_iff_eq.mp hk]
          exact List.mem_cons_self
        · exact .inl h
      · exact .inr ⟨h.1, List.mem_cons_of_mem _ h.2⟩
    | false =>
      rw [if_neg (by rw [hk]; decide)] at h
      rcases clF_mem r _ x c hr h with h | h
      · exact .inl h
      · exact .inr ⟨h.1, List.mem_cons_of_mem _ h.2⟩
theorem lookup_some_of_mem : ∀ {l : List (Str × Addr)} {x : Str} {c : Addr}, (x, c) ∈ l → ∃ d, l.lookup x = some d
  | (y, d) :: r, x, c, h => by
    rw [List.lookup_cons]
    cases hb : x == y with
    | true => exact ⟨d, rfl⟩
    | false =>
      rcases List.mem_cons.mp h with h | h
      · cases h; simp at hb
      · exact lookup_some_of_mem h
theorem clF_has {env : Env} : ∀ (names : List (Str × NameKind)) (acc : List (Str × Addr)) (x : Str), ((x, NameKind.free) ∈ names ∨ ∃ c, (x, c) ∈ acc) → ∃ c, (x, c) ∈ clF env names acc
  | [], acc, x, h => by
    rcases h with h | h
    · cases h
    · exact h
  | (y, k) :: r, acc, x, h => by
    unfold clF
    cases hk : (k == NameKind.free) with
    | true =>
      rw [if_pos rfl]
      refine clF_has r _ x ?_
      rcases h with h | ⟨c, h⟩
      · rcases List.mem_cons.mp h with h | h
        · cases h; exact .inr ⟨_, List.mem_cons_self⟩
        · exact .inl h
      · exact .inr ⟨c, List.mem_cons_of_mem _ h⟩
    | false =>
      rw [if_neg (by decide)]
      refine clF_has r _ x ?_
      rcases h with h | h
      · rcases List.mem_cons.mp h with h | h
        · cases h; cases hk
        · exact .inl h
      · exact .inr h
theorem cf_mem : ∀ (names : List (Str × NameKind)) (n : Nat) (acc : List (Str × Addr)) (x : Str) (c : Addr), (x, c) ∈ cellsFrom n names acc → (x, c) ∈ acc ∨ (n ≤ c ∧ (x, NameKind.cell) ∈ names)
  | [], n, acc, x, c, h => .inl h
  | (y, k) :: r, n, acc, x, c, h => by
    unfold cellsFrom at h
    cases hk : (k == NameKind.cell) with
    | true =>
      rw [if_pos hk] at h
      rcases cf_mem r _ _ x c h with h | ⟨h1, h2⟩
      · rcases List.mem_cons.mp h with h | h
        · cases h
          refine .inr ⟨Nat.le_refl _, ?_⟩
          rw [beq_iff_eq.mp hk]
          exact List.mem_cons_self
        · exact .inl h
      · exact .inr ⟨Nat.le_of_succ_le h1, List.mem_cons_of_mem _ h2⟩
    | false =>
      rw [if_neg (by rw [hk]; decide)] at h
      rcases cf_mem r _ _ x c h with h | ⟨h1, h2⟩
      · exact .inl h
      · exact .inr ⟨h1, List.mem_cons_of_mem _ h2⟩
theorem cf_inj : ∀ (names : List (Str × NameKind)) (n : Nat) (acc : List (Str × Addr)), (∀ x y c, (x, c) ∈ acc → (y, c) ∈ acc → x = y) → (∀ x c, (x, c) ∈ acc → @LT.lt Nat _ c n) → ∀ x y c, (x, c) ∈ cellsFrom n names acc → (y, c) ∈ cellsFrom n names acc → x = y
  | [], n, acc, h1, _, x, y, c, h, h' => h1 x y c h h'
  | (z, k) :: r, n, acc, h1, h2, x, y, c, h, h' => by
    unfold cellsFrom at h h'
    cases hk : (k == NameKind.cell) with
    | true =>
      rw [if_pos hk] at h h'
      refine cf_inj r (n + 1) _ (fun a b d ha hb => ?_) (fun a d ha => ?_) x y c h h'
      · rcases List.mem_cons.mp ha with ha | ha <;> rcases List.mem_cons.mp hb with hb | hb
        · cases ha; cases hb; rfl
        · cases ha; exact absurd (h2 _ _ hb) (Nat.lt_irrefl _)
        · cases hb; exact absurd (h2 _ _ ha) (Nat.lt_irrefl _)
        · exact h1 a b d ha hb
      · rcases List.mem_cons.mp ha with ha | ha
        · cases ha; exact Nat.lt_succ_self _
        · exact Nat.lt_succ_of_lt (h2 _ _ ha)
    | false =>
      rw [if_neg (by rw [hk]; decide)] at h h'
      exact cf_inj r n acc h1 h2 x y c h h'
theorem cf_has : ∀ (names : List (Str × NameKind)) (n : Nat) (acc : List (Str × Addr)) (x : Str), ((x, NameKind.cell) ∈ names ∨ ∃ c, (x, c) ∈ acc) → ∃ c, (x, c) ∈ cellsFrom n names acc
  | [], n, acc, x, h => by
    rcases h with h | h
    · cases h
    · exact h
  | (y, k) :: r, n, acc, x, h => by
    unfold cellsFrom
    cases hk : (k == NameKind.cell) with
    | true =>
      rw [if_pos rfl]
      refine cf_has r _ _ x ?_
      rcases h with h | ⟨c, h⟩
      · rcases List.mem_cons.mp h with h | h
        · cases h; exact .inr ⟨_, List.mem_cons_self⟩
        · exact .inl h
      · exact .inr ⟨c, List.mem_cons_of_mem _ h⟩
    | false =>
      rw [if_neg (by decide)]
      refine cf_has r _ _ x ?_
      rcases h with h | h
      · rcases List.mem_cons.mp h with h | h
        · cases h; cases hk
        · exact .inl h
      · exact .inr h
theorem cf_cell : ∀ (names : List (Str × NameKind)) (h : Heap) (acc : List (Str × Addr)) (x : Str) (c : Addr), (x, c) ∈ cellsFrom h.objs.size names acc → (x, c) ∈ acc ∨ (pushCells h names).IsCell c none
  | [], h, acc, x, c, m => .inl m
  | (y, k) :: r, h, acc, x, c, m => by
    unfold cellsFrom at m
    unfold pushCells
    cases hk : (k == NameKind.cell) with
    | true =>
      rw [if_pos hk] at m
      rw [if_pos rfl]
      have m' : (x, c) ∈ cellsFrom (h.push { cls := .type "cell", data := .cell none }).objs.size r ((y, h.objs.size) :: acc) := by rw [Heap.size_push]; exact m
      rcases cf_cell r _ _ x c m' with m | m
      · rcases List.mem_cons.mp m with m | m
        · cases m
          refine .inr ?_
          have q : (h.push { cls := .type "cell", data := .cell none }).IsCell h.objs.size none := ⟨_, Heap.get?_push_size _ rfl, rfl⟩
          exact q.keeps fun b o e => pushCells_keeps r _ b o e
        · exact .inl m
      · exact .inr m
    | false =>
      rw [if_neg (by rw [hk]; decide)] at m
      rw [if_neg (by decide)]
      exact cf_cell r h acc x c m
end TM

set_option Elab.async false
set_option linter.all false
set_option maxRecDepth 100000
namespace TM
open PySem PySem.Spec PyProof.Rows L2
/-! ### the block of a comprehension -/
def blkEnv (X : Cx) (scope : Scope) (C : Addr) (cs : List (Str × Addr)) : Env :=
  { newEnv scope C X.env.globals cs X.env.qual none .none (some X.env) builtinsNs with scope := relabel scope X.env }
def blk (X : Cx) (scope : Scope) (N' : List Str) (C : Addr) (cs : List (Str × Addr)) (s₀ : Shared) (H₀ : Hp) (fp : List Addr) (pins : List (Addr × Obj)) : Cx :=
  { X with N := N', s₀ := s₀, H₀ := H₀, env := blkEnv X scope C cs, outer := X.stack, stack := X.stack, ex := fp, fn := fun x => scope.names.lookup x == some .cell, pn := X.pn ++ pins, xe := fun _ _ => False }
/-- what the text says of a comprehension's names -/
structure BlkScope (X : Cx) (scope : Scope) : Prop where
  kind : scope.kind = .function
  names : ∀ y ∈ scope.names, y.2 = .local → scope.names.lookup y.1 = some .local
  free : ∀ y ∈ scope.names, y.2 = .free → (X.env.kindOf y.1 = some .cell ∨ X.env.kindOf y.1 = some .free) ∧ (y.1, NameKind.cell) ∉ scope.names ∧ scope.names.lookup y.1 = some .free
theorem mem_of_lookupK : ∀ {l : List (Str × NameKind)} {x : Str} {k : NameKind}, l.lookup x = some k → (x, k) ∈ l
  | (y, d) :: r, x, k, h => by
    rw [List.lookup_cons] at h
    cases hb : x == y with
    | true => rw [hb] at h; cases h; rw [beq_iff_eq.mp hb]; exact List.mem_cons_self
    | false => rw [hb] at h; exact List.mem_cons_of_mem _ (mem_of_lookupK h)
theorem lookup_relabel_free {env : Env} : ∀ {names : List (Str × NameKind)} {x : Str}, names.lookup x = some .free →
    ((names.map fun (n, k) => if (k == NameKind.free && env.scope.kind == .function && env.kindOf n == some .cell) then (n, NameKind.cell) else (n, k)).lookup x = some .cell ∨
     (names.map fun (n, k) => if (k == NameKind.free && env.scope.kind == .function && env.kindOf n == some .cell) then (n, NameKind.cell) else (n, k)).lookup x = some .free)
  | (n, k) :: r, x, h => by
    rw [List.lookup_cons] at h
    have en : ∀ y : Str × NameKind, y = (if (k == NameKind.free && env.scope.kind == .function && env.kindOf n == some .cell) = true then (n, NameKind.cell) else (n, k)) → y.1 = n ∧ (y.2 = .cell ∨ y.2 = k) := fun y e => by
      subst e
      split
      · exact ⟨rfl, .inl rfl⟩
      · exact ⟨rfl, .inr rfl⟩
    rw [List.map_cons]
    dsimp only
    generalize hy : (if (k == NameKind.free && env.scope.kind == .function && env.kindOf n == some .cell) = true then (n, NameKind.cell) else (n, k)) = y
    obtain ⟨e1, e2⟩ := en y hy.symm
    obtain ⟨a, b⟩ := y
    dsimp only at e1 e2
    subst e1
    rw [List.lookup_cons]
    cases hb : x == a with
    | true =>
      rw [hb] at h
      cases h
      rcases e2 with rfl | rfl
      · exact .inl rfl
      · exact .inr rfl
    | false =>
      rw [hb] at h
      exact lookup_relabel_free h
theorem relabel_mem {X : Cx} {scope : Scope} {x : Str} (h : (blkEnv X scope C cs).kindOf x = some .cell ∨ (blkEnv X scope C cs).kindOf x = some .free) : (x, NameKind.cell) ∈ scope.names ∨ (x, NameKind.free) ∈ scope.names := by
  have key : ∀ k, (blkEnv X scope C cs).kindOf x = some k → (k = .cell ∨ k = .free) → (x, NameKind.cell) ∈ scope.names ∨ (x, NameKind.free) ∈ scope.names := fun k h hk => by
    have m := mem_of_lookupK (show (relabel scope X.env).names.lookup x = some k from h)
    unfold relabel at m
    obtain ⟨⟨y, j⟩, m1, m2⟩ := List.mem_map.mp m
    dsimp only at m2
    split at m2
    · next hc =>
      cases m2
      simp only [Bool.and_eq_true, beq_iff_eq] at hc
      rw [hc.1.1] at m1
      exact .inr m1
    · cases m2
      rcases hk with rfl | rfl
      · exact .inl m1
      · exact .inr m1
  rcases h with h | h
  · exact key _ h (.inl rfl)
  · exact key _ h (.inr rfl)
section
variable {X : Cx} {pins : List (Addr × Obj)} {σ : L2.St} {H : Hp} {s : Shared} {scope : Scope} {fp : List Addr} {N' : List Str} {σ' : L2.St}
abbrev accOb : Obj := { cls := .type "list", dict := none, data := .seq ([] : List Value).toArray }
abbrev dicOb : Obj := { cls := .type "dict", data := .dict #[] }
/-- the heap when the block begins: the list that grows, the block's names, its cells -/
def h0 (h : Heap) (scope : Scope) : Heap := pushCells ((h.push accOb).push dicOb) scope.names
theorem h0_keep {h : Heap} {b : Addr} {o : Obj} (e : h.get? b = some o) : (h0 h scope).get? b = some o := pushCells_keeps _ _ _ _ (Heap.get?_push_of_some _ (Heap.get?_push_of_some _ e))
theorem h0_acc (h : Heap) : (h0 h scope).get? h.objs.size = some accOb := pushCells_keeps _ _ _ _ (Heap.get?_push_of_some _ (Heap.get?_push_size _ rfl))
theorem blk_start (I : Inv X pins σ H s) (B : BlkScope X scope) (hf : ∀ b ∈ fp, FpOk X pins H b) (ho : ∀ b ∈ fp, ∃ o, s.heap.get? b = some o) (hl : σ'.length = N'.length)
    (cap : ∀ (i : Nat) (x : Str) (v : V), N'[i]? = some x → σ'[i]? = some (some v) → ((x, NameKind.free) ∈ scope.names ∧ ∃ j : Nat, X.N[j]? = some x ∧ σ[j]? = some (some v)) ∨ ¬ Vis (relabel scope X.env) x) {tk : Nat} :
    Inv (blk X scope N' (s.heap.objs.size + 1) (cellsFrom (s.heap.objs.size + 2) scope.names (clF X.env scope.names [])) s H fp pins) [] σ' (upd H s.heap.objs.size (.lst [])) { s with heap := h0 s.heap scope, toks := tk } := by
  have hz1 : (s.heap.push accOb).objs.size = s.heap.objs.size + 1 := Heap.size_push ..
  have hz2 : ((s.heap.push accOb).push dicOb).objs.size = s.heap.objs.size + 2 := by rw [Heap.size_push, hz1]
  have hfree : ∀ y ∈ scope.names, y.2 = .free → ∃ c, X.env.cells.lookup y.1 = some c := fun y hy hk => I.ok.has y.1 (B.free y hy hk).1
  have clm : ∀ x c, (x, c) ∈ clF X.env scope.names [] → X.env.cells.lookup x = some c ∧ (x, NameKind.free) ∈ scope.names := fun x c h => by
    rcases clF_mem _ _ x c hfree h with h | h
    · cases h
    · exact h
  have cl_lt : ∀ x c, (x, c) ∈ clF X.env scope.names [] → @LT.lt Nat _ c s.heap.objs.size := fun x c h => by
    obtain ⟨v, q⟩ := I.cell x c (clm x c h).1
    exact q.lt
  have csm : ∀ x c, (x, c) ∈ cellsFrom (s.heap.objs.size + 2) scope.names (clF X.env scope.names []) → (X.env.cells.lookup x = some c ∧ (x, NameKind.free) ∈ scope.names ∧ @LT.lt Nat _ c s.heap.objs.size) ∨ (@LE.le Nat _ (s.heap.objs.size + 2) c ∧ (x, NameKind.cell) ∈ scope.names) := fun x c h => by
    rcases cf_mem _ _ _ x c h with h | h
    · exact .inl ⟨(clm x c h).1, (clm x c h).2, cl_lt x c h⟩
    · exact .inr h
  have hD : H s.heap.objs.size = none := I.fresh
  have up : ∀ b : Addr, @LT.lt Nat _ b s.heap.objs.size → upd H s.heap.objs.size (.lst []) b = H b := fun b hb => upd_ne (Nat.ne_of_lt hb)
  have upF : ∀ b : Addr, @LT.lt Nat _ s.heap.objs.size b → upd H s.heap.objs.size (.lst []) b = none := fun b hb => by rw [upd_ne (Nat.ne_of_gt hb)]; exact I.hok.fresh (Nat.le_of_lt hb)
  have flt : ∀ b ∈ fp, @LT.lt Nat _ b s.heap.objs.size := fun b hb => by obtain ⟨o, e⟩ := ho b hb; exact Heap.lt_size e
  refine ⟨⟨I.ok.mod, B.kind, I.ok.glob, I.ok.blt, Nat.le_succ _, fun x y c h1 h2 => ?_, fun x hx => ?_, fun x c hx h => ?_, I.ok.hd, I.ok.frames, .inl rfl, fun b hb => ⟨?_, fun x c h => ?_⟩, I.bs, Nat.le_trans I.ok.bsz I.sz, fun b o e hb => ?_, fun b hb z => ?_, I.stack, I.stkFree⟩,
    rfl, I.bare, ?_, ⟨fun _ => none, ?_, fun i x v e1 e2 e3 => ?_⟩, fun x c h => ?_, upF _ (Nat.lt_succ_self _), fun x c h => ?_, fun p hp => ?_, ?_, hl⟩
  · exact cf_inj _ _ _ (fun a b d ha hb => I.ok.inj a b d (clm a d ha).1 (clm b d hb).1) (fun a d ha => Nat.lt_of_lt_of_le (cl_lt a d ha) (Nat.le_add_right _ 2)) x y c (PySem.mem_of_lookup h1) (PySem.mem_of_lookup h2)
  · have hm : ∃ c, (x, c) ∈ cellsFrom (s.heap.objs.size + 2) scope.names (clF X.env scope.names []) := by
      rcases relabel_mem hx with h | h
      · exact cf_has _ _ _ x (.inl h)
      · exact cf_has _ _ _ x (.inr (clF_has _ _ x (.inl h)))
    obtain ⟨c, hm⟩ := hm
    exact lookup_some_of_mem hm
  · have hx' : scope.names.lookup x = some .cell := beq_iff_eq.mp hx
    rcases csm x c (PySem.mem_of_lookup h) with ⟨_, h2, _⟩ | ⟨h1, _⟩
    · exact absurd (mem_of_lookupK hx') (B.free _ h2 rfl).2.1
    · exact Nat.le_trans (Nat.le_add_right _ 2) h1
  · exact Nat.ne_of_lt (Nat.lt_succ_of_lt (flt b hb))
  · rcases csm x c (PySem.mem_of_lookup h) with ⟨h1, _, _⟩ | ⟨h1, _⟩
    · exact (hf b hb).2.2.2.2.1 x c h1
    · exact Nat.ne_of_gt (Nat.lt_of_lt_of_le (flt b hb) (Nat.le_trans (Nat.le_add_right _ 2) h1))
  · rcases (hf b hb).2.2.2.1 with z | z
    · exact I.ok.noex b o e z
    · exact absurd (Nat.lt_of_lt_of_le (Heap.lt_size e) (Nat.le_trans I.ok.bsz z)) (Nat.lt_irrefl _)
  · rcases List.mem_cons.mp (I.stkSub b z) with z | z
    · exact (hf b hb).2.1 z
    · exact (hf b hb).2.2.1 z
  · exact Un.laid (fun b o e => h0_keep e) (Nat.le_refl _) hD
  · have q := Heap.Ns.new (s.heap.push accOb) (.type "dict")
    rw [hz1] at q
    exact q.keeps fun b o e => pushCells_keeps _ _ b o e
  · rcases cap i x v e1 e2 with ⟨hx, j, hj, hv⟩ | hn
    · obtain ⟨m, hm, hlk⟩ := I.loc
      have hk := (B.free _ hx rfl).1
      have vis : Vis X.env.scope x := by
        rcases hk with hk | hk
        · exact .inr (.inl hk)
        · exact .inr (.inr hk)
      obtain ⟨u, r, l⟩ := hlk j x v hj hv vis
      refine ⟨u, r, .inr ?_⟩
      rcases l with ⟨z, _⟩ | ⟨_, c, hc, hcell⟩
      · rcases hk with hk | hk <;> (rw [show X.env.kindOf x = X.env.scope.names.lookup x from rfl] at hk z; rw [hk] at z; cases z)
      · obtain ⟨c', hc'⟩ := lookup_some_of_mem (Classical.choose_spec (cf_has scope.names (s.heap.objs.size + 2) (clF X.env scope.names []) x (.inr (clF_has _ _ x (.inl hx)))))
        have ec : c' = c := by
          rcases csm x c' (PySem.mem_of_lookup hc') with ⟨h1, _, _⟩ | ⟨_, h2⟩
          · rw [hc] at h1; exact (Option.some.inj h1).symm
          · exact absurd h2 (B.free _ hx rfl).2.1
        subst ec
        refine ⟨?_, c', hc', hcell.keeps fun b o e => h0_keep e⟩
        rcases e3 with e3 | e3 | e3
        · rcases lookup_relabel_free (env := X.env) (B.free _ hx rfl).2.2 with q | q
          · exact .inl q
          · exact .inr q
        · exact .inl e3
        · exact .inr e3
    · exact absurd e3 hn
  · rcases cf_cell scope.names ((s.heap.push accOb).push dicOb) (clF X.env scope.names []) x c (by rw [hz2]; exact PySem.mem_of_lookup h) with m | m
    · obtain ⟨v, q⟩ := I.cell x c (clm x c m).1
      exact ⟨v, q.keeps fun b o e => h0_keep e⟩
    · exact ⟨none, m⟩
  · rcases csm x c (PySem.mem_of_lookup h) with ⟨h1, _, h3⟩ | ⟨h1, _⟩
    · rw [up c h3]; exact I.freeC x c h1
    · exact upF c (Nat.lt_of_lt_of_le (Nat.lt_add_of_pos_right (by decide)) h1)
  · have hp' : p ∈ X.pn ++ pins := by simpa [blk] using hp
    obtain ⟨e, n, ne, nf, d⟩ := I.pin p hp'
    have lt : @LT.lt Nat _ p.1 s.heap.objs.size := Heap.lt_size e
    refine ⟨h0_keep e, by rw [up _ lt]; exact n, Nat.ne_of_lt (Nat.lt_succ_of_lt lt), fun z => ?_, d⟩
    rcases List.mem_cons.mp (I.stkSub _ z) with z | z
    · exact ne z
    · exact nf z
  · exact I.hok.laid (fun b o e => h0_keep e) (Nat.le_refl _) ⟨Nat.zero_le _, [], 0, .nil, h0_acc s.heap⟩
end
end TM

set_option Elab.async false
set_option linter.all false
set_option maxRecDepth 100000
namespace TM
open PySem PySem.Spec PyProof.Rows L2
/-! ### the loop of a comprehension -/
abbrev testsOf (ifs : List Expr) (env : Env) : Sem Bool := forIn ifs true fun c r => if r = true then do let ok ← isTrue c env (eval c env); pure (ForInStep.yield ok) else pure (ForInStep.yield r)
theorem comp_loop {prog : Program} {w : World} {A : Around} {R : Result → Shared → Prop} {s : Shared} {elt target iter : Expr} {ifs : List Expr} {scope : Scope} {pos : Pos} {it acc : Value} {env : Env} (I : Nat → Shared → Prop)
    (turn : ∀ n s, I n s → wpAny (model prog w) A (pyNext it) (fun r s₁ => match r with
      | none => R (.ok .next) s₁
      | some v => wpAny (model prog w) A (letOwnedTupleGo target it v) (fun _ s₂ => wpAny (model prog w) A (assign target env v) (fun _ s₃ => wpAny (model prog w) A (testsOf ifs env) (fun ok s₄ =>
          if ok = true then wpAny (model prog w) A (eval elt env) (fun x s₅ => wpAny (model prog w) A (call (.builtin "list.append") [acc, x]) (fun _ s₆ => ∃ m, m < n ∧ I m s₆) (fun _ _ => False) s₅) (fun _ _ => False) s₄
          else ∃ m, m < n ∧ I m s₄) (fun _ _ => False) s₃) (fun _ _ => False) s₂) (fun _ _ => False) s₁) (fun _ _ => False) s)
    (n : Nat) (h : I n s) : codeAny (model prog w) A (.compLoop (.ListComp elt [⟨target, iter, ifs, 0⟩] scope pos) 0 it acc env) R s := by
  have no : ∀ {α : Type} {m : Sem α} {Q : α → Shared → Prop} {E : Value → Shared → Prop} {s : Shared}, wpAny (model prog w) A m Q (fun _ _ => False) s → wpAny (model prog w) A m Q E s := fun h => wpAny_mono h (fun _ _ q => q) fun _ _ z => z.elim
  refine codeAny_loop rfl I (fun n s hI => ?_) n h
  refine (wpAny_noted ?_ : wpAny _ A ((compTurn (.ListComp elt [⟨target, iter, ifs, 0⟩] scope pos) 0 it acc env).onRaise (fun x => do noteFrame x env; theTreesLotGoes x)) _ _ s)
  rw [compTurn_list]
  refine wpAny_bind (wpAny_standAt (wpAny_bind (wpAny_mono (no (turn n s hI)) (fun r s₁ h₁ => ?_) fun _ _ z => z)))
  cases r with
  | none => exact wpAny_pure h₁
  | some v =>
    refine wpAny_bind (wpAny_mono (no h₁) (fun _ s₂ h₂ => wpAny_bind (wpAny_mono (no h₂) (fun _ s₃ h₃ => wpAny_bind (wpAny_mono (no h₃) (fun ok s₄ h₄ => ?_) fun _ _ z => z)) fun _ _ z => z)) fun _ _ z => z)
    cases ok with
    | false => exact wpAny_pure ⟨rfl, h₄⟩
    | true => exact wpAny_bind (wpAny_bind (wpAny_mono (no h₄) (fun x s₅ h₅ => wpAny_bind (wpAny_mono (no h₅) (fun _ s₆ h₆ => wpAny_pure (wpAny_pure ⟨rfl, h₆⟩)) fun _ _ z => z)) fun _ _ z => z))
/-! ### its meaning -/
def allSh : TEnv → Bool
  | [] => true
  | some (.own _) :: _ => false
  | _ :: r => allSh r
theorem allSh_get : ∀ {τ : TEnv} {i : Nat} {ts : List T}, allSh τ = true → τ[i]? ≠ some (some (.own ts))
  | [], i, ts, _ => by simp
  | some (.own _) :: _, i, ts, h => by cases h
  | some (.sh t) :: r, 0, ts, h => by simp
  | none :: r, 0, ts, h => by simp
  | some (.sh t) :: r, i + 1, ts, h => by rw [List.getElem?_cons_succ]; exact allSh_get (τ := r) h
  | none :: r, i + 1, ts, h => by rw [List.getElem?_cons_succ]; exact allSh_get (τ := r) h
def compT (fg : FG) (ft : FT) (fe : FE) : List T → TEnv → List T → Option (List T)
  | [], _, acc => some acc
  | t :: ts, τ, acc => (fg t τ).bind fun τ1 => (ft τ1).bind fun p => if p.1 = true then (fe p.2).bind fun q => if allSh q.2 = true ∧ acc.length < sizeLine then compT fg ft fe ts q.2 (acc ++ [q.1]) else none
    else if allSh p.2 = true then compT fg ft fe ts p.2 acc else none
def frz1 (j : Nat) (τ : TEnv) : TEnv := match τ[j]? with
  | some (some (.own ts)) => τ.set j (some (.sh (.lst ts)))
  | _ => τ
def frzAll : List Nat → TEnv → TEnv
  | [], τ => τ
  | j :: r, τ => frzAll r (frz1 j τ)
def capOf {α : Type} (l : List (Option α)) (j : Nat) : Option α := match l[j]? with
  | some x => x
  | none => none
def blkOf {α : Type} (no : Nat) (cap : List Nat) (l : List (Option α)) : List (Option α) := List.replicate no none ++ cap.map (capOf l)
def fComp (no : Nat) (cap : List Nat) (fi : FA) (fg : FG) (ft : FT) (fe : FE) : FE := fun τ => (fi τ).bind fun p =>
  if allSh (blkOf no cap (frzAll cap p.2)) = true then (compT fg ft fe p.1 (blkOf no cap (frzAll cap p.2)) []).bind fun us => some (.lst us, frzAll cap p.2) else none
def fAlways : FT := fun τ => some (true, τ)
def STs (X : Cx) (ifs : List Expr) (ft : FT) : Prop := ∀ F₀ H₀ pins s σ H Q, Inv X pins σ H s → tT X.K F₀ H₀ ft σ H Q → wpAny (model X.prog X.w) X.A (testsOf ifs X.env) (TP X pins σ Q) X.xe s
theorem sts_nil {X : Cx} : STs X [] fAlways := fun F₀ H₀ pins s σ H Q I ⟨F, τ, b, τ', E, e, q⟩ => by
  cases e
  exact wpAny_tests_nil ⟨H, I, q F H E (Same.refl _)⟩
theorem sts_one {X : Cx} {c : Expr} {ft : FT} (h : ST X c ft) : STs X [c] ft := fun F₀ H₀ pins s σ H Q I q => wpAny_tests_one (h F₀ H₀ pins s σ H Q I q)
section
variable {K : PySem.W.Frag} {F₀ H₀ F H : Hp} {σ : L2.St} {τ : TEnv}
theorem EnvOk.frz1 (E : EnvOk K F₀ H₀ F H σ τ) (j : Nat) : ∃ F', EnvOk K F₀ H₀ F' H σ (TM.frz1 j τ) ∧ Same F F' := by
  unfold TM.frz1
  split
  · next ts e =>
    obtain ⟨F', v, _, E', s', _⟩ := E.freeze e
    exact ⟨F', E', s'⟩
  · exact ⟨F, E, Same.refl _⟩
theorem EnvOk.frzAll : ∀ (cap : List Nat) {F : Hp} {τ : TEnv}, EnvOk K F₀ H₀ F H σ τ → ∃ F', EnvOk K F₀ H₀ F' H σ (TM.frzAll cap τ) ∧ Same F F'
  | [], F, τ, E => ⟨F, E, Same.refl _⟩
  | j :: r, F, τ, E => by
    obtain ⟨F1, E1, s1⟩ := E.frz1 j
    obtain ⟨F2, E2, s2⟩ := EnvOk.frzAll r E1
    exact ⟨F2, E2, s1.trans s2⟩
theorem EnvOk.rebase {H' : Hp} (E : EnvOk K F₀ H₀ F H σ τ) (ha : allSh τ = true) (s : Same F H') : EnvOk K F H' F H' σ τ := by
  refine ⟨Grow.refl s, E.len, fun i sl e => ?_, fun i j ts us p _ e1 => absurd e1 (allSh_get ha)⟩
  obtain ⟨v, h1, h2⟩ := E.sl i sl e
  cases sl with
  | sh t => exact ⟨v, h1, h2⟩
  | own ts => exact absurd e (allSh_get ha)
theorem blkOf_get {α : Type} {no : Nat} {cap : List Nat} {l : List (Option α)} {i : Nat} {x : α} (h : (blkOf no cap l)[i]? = some (some x)) : ∃ k j : Nat, i = no + k ∧ cap[k]? = some j ∧ l[j]? = some (some x) := by
  unfold blkOf at h
  by_cases hi : i < no
  · rw [List.getElem?_append_left (by simpa using hi), List.getElem?_replicate] at h
    split at h <;> cases h
  · rw [List.getElem?_append_right (by simpa using hi), List.length_replicate, List.getElem?_map] at h
    cases e : cap[i - no]? with
    | none => rw [e] at h; cases h
    | some j =>
      rw [e] at h
      have h' : capOf l j = some x := Option.some.inj h
      unfold capOf at h'
      split at h'
      · next y ey => exact ⟨i - no, j, by omega, e, by rw [ey, h']⟩
      · cases h'
theorem blkOf_set {α : Type} {no : Nat} {cap : List Nat} {l : List (Option α)} {k j : Nat} {x : α} (h1 : cap[k]? = some j) (h2 : l[j]? = some (some x)) : (blkOf no cap l)[no + k]? = some (some x) := by
  unfold blkOf
  rw [List.getElem?_append_right (by simp), List.length_replicate, Nat.add_sub_cancel_left, List.getElem?_map, h1]
  show some (capOf l j) = _
  unfold capOf
  rw [h2]
theorem EnvOk.block {H' : Hp} {no : Nat} {cap : List Nat} (E : EnvOk K F₀ H₀ F H σ τ) (ha : allSh (blkOf no cap τ) = true) (s : Same F H') : EnvOk K F H' F H' (blkOf no cap σ) (blkOf no cap τ) := by
  refine ⟨Grow.refl s, by simp [blkOf], fun i sl e => ?_, fun i j ts us p _ e1 => absurd e1 (allSh_get ha)⟩
  obtain ⟨k, j, rfl, hk, hj⟩ := blkOf_get e
  obtain ⟨v, h1, h2⟩ := E.sl j sl hj
  refine ⟨v, blkOf_set hk h1, ?_⟩
  cases sl with
  | sh t => exact h2
  | own ts => exact absurd e (allSh_get ha)
end
section
variable {X : Cx}
/-- what is known when the block is through -/
structure CompEnd (X : Cx) (pins : List (Addr × Obj)) (σ : L2.St) (F₀ H₀ F : Hp) (τ : TEnv) (rs : List T) (D C : Addr) (s : Shared) : Prop where
  ex : ∃ (H F3 : Hp) (vs : List V), Inv X pins σ H s ∧ EnvOk X.K F₀ H₀ F3 H σ τ ∧ Same F F3 ∧ F3 D = none ∧ H D = some (.lst vs) ∧ H₀ D = none ∧ Reps X.K F3 rs vs ∧ H C = none
  ns : ∃ m, s.heap.Ns C m
  cl : C ≠ X.env.locals
  c0 : X.s₀.heap.objs.size ≤ C
  cc : ∀ x c, X.env.cells.lookup x = some c → c ≠ C
  cp : ∀ p ∈ X.pn ++ pins, p.1 ≠ C
  ow : ∀ (j : Nat) us p, τ[j]? = some (some (.own us)) → σ[j]? = some (some (.ref p)) → p ≠ D
theorem comp_core {elt tg iter : Expr} {ifs : List Expr} {scope : Scope} {pos : Pos} {N' : List Str} {no : Nat} {cap : List Nat} {fi : FA} {fg : FG} {ft : FT} {fe : FE} (hx : X.xe = fun _ _ => False) (hc : X.calm = true) (B : BlkScope X scope) (hN : N'.length = no + cap.length)
    (hcap : ∀ (k j : Nat), cap[k]? = some j → ∃ x, N'[no + k]? = some x ∧ X.N[j]? = some x ∧ (x, NameKind.free) ∈ scope.names) (hi : SI X tg iter fi)
    (hg : ∀ C cs s₀ H₀ fp pins, SG (blk X scope N' C cs s₀ H₀ fp pins) tg fg) (ht : ∀ C cs s₀ H₀ fp pins, STs (blk X scope N' C cs s₀ H₀ fp pins) ifs ft) (he : ∀ C cs s₀ H₀ fp pins, SE (blk X scope N' C cs s₀ H₀ fp pins) elt fe)
    {F₀ H₀ F H : Hp} {pins : List (Addr × Obj)} {s : Shared} {σ : L2.St} {τ τ1 : TEnv} {ts rs : List T} (I : Inv X pins σ H s) (E : EnvOk X.K F₀ H₀ F H σ τ) (e2 : fi τ = some (ts, τ1)) (ha : allSh (blkOf no cap (frzAll cap τ1)) = true) (e3 : compT fg ft fe ts (blkOf no cap (frzAll cap τ1)) [] = some rs)
    {post : Value → Addr → Result → Shared → Prop} (hpost : ∀ D C s', CompEnd X pins σ F₀ H₀ F (frzAll cap τ1) rs D C s' → post (.ref D) C (.ok .next) s') :
    wpAny (model X.prog X.w) X.A (eval iter X.env) (fun x s₁ => wpAny (model X.prog X.w) X.A (pyIter x) (fun it s₂ => wpAny (model X.prog X.w) X.A (newList []) (fun acc s₃ =>
      wpAny (model X.prog X.w) X.A (newFunctionEnv scope X.env.globals (clF X.env scope.names []) [] X.env.qual none .none (some X.env)) (fun cenv s₄ =>
        codeAny (model X.prog X.w) X.A (.compStart (.ListComp elt [⟨tg, iter, ifs, 0⟩] scope pos) 0 it acc { cenv with scope := relabel scope X.env }) (post acc cenv.locals) s₄) X.xe s₃) X.xe s₂) X.xe s₁) X.xe s := by
  refine thn (hi F₀ H₀ pins s σ H (fun J H1 => ∃ F1, EnvOk X.K F₀ H₀ F1 H1 σ τ1 ∧ Same F F1 ∧ Walks X.K F1 ts J) I ⟨F, τ, ts, τ1, E, e2, fun F1 H1 J E1 s1 W => ⟨F1, E1, s1, W⟩⟩) fun v s1 h1 => thn h1 fun itv s2 h2 => ?_
  obtain ⟨it, fp, tn, J, H1, rfl, I2, Tn, st2, f2, F1, E1, sF1, W⟩ := h2
  obtain ⟨F2, E2, sF2⟩ := E1.frzAll cap
  have W2 : Walks X.K F2 ts J := ⟨fun i t F3 H3 e a b => W.go i t F3 H3 e (sF2.trans a) b, fun i t F3 H3 x H4 e a b y => W.yld i t F3 H3 x H4 e (sF2.trans a) b y, fun F3 H3 a b => W.stop F3 H3 (sF2.trans a) b⟩
  refine wpAny_newObj_type ?_
  have hz : (s2.heap.push accOb).objs.size = s2.heap.objs.size + 1 := Heap.size_push ..
  have hz2 : ((s2.heap.push accOb).push dicOb).objs.size = s2.heap.objs.size + 2 := by rw [Heap.size_push, hz]
  simp only [newFunctionEnv, Option.isSome_some, if_true]
  refine wpAny_bind (wpAny_alloc ?_)
  refine wpAny_bind (wpAny_layCells _ (fun name kind cells => by cases hkc : kind == NameKind.cell <;> simp [hkc]) _ _ _ _ ?_)
  simp only [List.forIn_nil]
  refine wpAny_bind (wpAny_pure (wpAny_pure ?_))
  have loop : codeAny (model X.prog X.w) X.A (.compLoop (.ListComp elt [⟨tg, iter, ifs, 0⟩] scope pos) 0 (.ref it) (.ref s2.heap.objs.size) (blkEnv X scope (s2.heap.objs.size + 1) (cellsFrom (s2.heap.objs.size + 2) scope.names (clF X.env scope.names []))))
      (post (.ref s2.heap.objs.size) (s2.heap.objs.size + 1)) { s2 with heap := h0 s2.heap scope } := by
    have Ib := blk_start (N' := N') (σ' := blkOf no cap σ) (tk := s2.toks) I2 B f2 (fun b hb => by obtain ⟨o, e, _⟩ := Tn.obj 0 _ st2 b hb; exact ⟨o, e⟩) (by simp [blkOf, hN]) (fun i x v a1 a2 => by
      obtain ⟨k, j, rfl, hk, hj⟩ := blkOf_get a2
      obtain ⟨x', b1, b2, b3⟩ := hcap k j hk
      rw [a1] at b1; cases b1
      exact .inl ⟨b3, j, b2, hj⟩)
    generalize hX' : blk X scope N' (s2.heap.objs.size + 1) (cellsFrom (s2.heap.objs.size + 2) scope.names (clF X.env scope.names [])) s2 H1 fp pins = X' at Ib
    have hg' : SG X' tg fg := by rw [← hX']; exact hg _ _ _ _ _ _
    have ht' : STs X' ifs ft := by rw [← hX']; exact ht _ _ _ _ _ _
    have he' : SE X' elt fe := by rw [← hX']; exact he _ _ _ _ _ _
    have xP : X'.prog = X.prog := by rw [← hX']; rfl
    have xw : X'.w = X.w := by rw [← hX']; rfl
    have xK : X'.K = X.K := by rw [← hX']; rfl
    have xA : X'.A = X.A := by rw [← hX']; rfl
    have xc : X'.calm = true := by rw [← hX']; exact hc
    have xx : X'.xe = fun _ _ => False := by rw [← hX']; rfl
    have xe' : X'.env = blkEnv X scope (s2.heap.objs.size + 1) (cellsFrom (s2.heap.objs.size + 2) scope.names (clF X.env scope.names [])) := by rw [← hX']; rfl
    have xex : X'.ex = fp := by rw [← hX']; rfl
    have xfs : X'.fs = frs X.stack := by rw [← hX']; rfl
    have xpn : X'.pn = X.pn ++ pins := by rw [← hX']; rfl
    have xs0 : X'.s₀ = s2 := by rw [← hX']; rfl
    have xH0 : X'.H₀ = H1 := by rw [← hX']; rfl
    have xl : X'.env.locals = s2.heap.objs.size + 1 := by rw [← hX']; rfl
    rw [← xe', ← xP, ← xw, ← xA]
    have hD1 : H1 s2.heap.objs.size = none := I2.fresh
    have fpk : ∀ {Hc : Hp} {σc : L2.St} {pc : List (Addr × Obj)} {sc : Shared}, Inv X' pc σc Hc sc → (∀ b ∈ fp, Hc b = none) → ∀ b ∈ fp, FpOk X' [] Hc b := fun {Hc σc pc sc} Ic hn b hb => by
      have q1 := Ic.ok.exf b (by rw [xex]; exact hb)
      have q2 := Ic.ok.exfs b (by rw [xex]; exact hb)
      refine ⟨hn b hb, q1.1, q2, .inl (by rw [xex]; exact hb), q1.2, fun p hp => ?_⟩
      rw [xpn, List.append_nil] at hp
      exact (f2 b hb).2.2.2.2.2 p hp
    refine comp_loop (fun n s3 => ∃ i σ3 H3 F3 τ3 us vs, Inv X' [] σ3 H3 s3 ∧ tn i s3.heap ∧ (∀ b ∈ fp, H3 b = none) ∧ EnvOk X.K F3 H3 F3 H3 σ3 τ3 ∧ allSh τ3 = true ∧ F3 s2.heap.objs.size = none ∧ H3 s2.heap.objs.size = some (.lst vs) ∧ Reps X.K F3 us vs ∧ Same F2 F3 ∧ Same H1 H3 ∧
      (∀ a o, F3 a = some o → F2 a = some o ∨ H1 a = none) ∧ i ≤ ts.length ∧ n = ts.length - i ∧ compT fg ft fe (ts.drop i) τ3 us = some rs) ?_ ts.length ?_
    · rintro n s3 ⟨i, σ3, H3, F3, τ3, us, vs, I3, st3, fr3, E3, ha3, fD, hD, rv, sF, sH, nw, hi', rfl, ec⟩
      by_cases hlt : i < ts.length
      · have hgi : ts[i]? = some ts[i] := List.getElem?_eq_getElem hlt
        rw [List.drop_eq_getElem_cons hlt] at ec
        obtain ⟨τ4, e4, ec⟩ := bind_some ec
        obtain ⟨⟨b, τ5⟩, e5, ec⟩ := bind_some ec
        have go := W2.go i _ F3 H3 hgi sF E3.g.fh
        have itm := (xP ▸ xw ▸ xK ▸ Tn : Turn X'.prog X'.w X'.K tg J fp it tn).item X' rfl rfl rfl xc i [] s3 σ3 H3 (fun _ _ => False) I3 (fpk I3 fr3) st3 go
        refine thn itm fun r s4 ⟨u, hr, h4⟩ => ?_
        subst hr
        refine thn h4 fun _ s5 ⟨x, H5, I5, r5, y5, st5, fr5⟩ => ?_
        have I5' := I5.pinned (fpk I5 fr5) (Tn.obj _ _ st5)
        obtain ⟨F5, gr, rx⟩ := W2.yld i _ F3 H3 x H5 hgi sF E3.g.fh y5
        have a1 := hg' F3 H3 _ s5 σ3 H5 x u (fun σ6 H6 => ∃ F6, EnvOk X.K F3 H3 F6 H6 σ6 τ4 ∧ Same F5 F6) I5' r5 (by rw [xK]; exact ⟨F5, τ3, ts[i], τ4, E3.grow gr, rx, e4, fun F6 H6 σ6 E6 s6 => ⟨F6, E6, s6⟩⟩)
        rw [xx] at a1
        refine thn a1 fun _ s6 ⟨σ6, H6, I6, F6, E6, sF6⟩ => ?_
        have a2 := ht' F3 H3 _ s6 σ6 H6 (fun b' H7 => b' = b ∧ ∃ F7, EnvOk X.K F3 H3 F7 H7 σ6 τ5 ∧ Same F6 F7) I6 (by rw [xK]; exact ⟨F6, τ4, b, τ5, E6, e5, fun F7 H7 E7 s7 => ⟨rfl, F7, E7, s7⟩⟩)
        rw [xx] at a2
        refine thn a2 fun ok s7 ⟨H7, I7, hok, F7, E7, sF7⟩ => ?_
        subst hok
        have tail : ∀ {σc : L2.St} {Hc : Hp} {sc : Shared}, Inv X' ([] ++ pinsAt fp s5.heap) σc Hc sc → tn (i + 1) sc.heap ∧ ∀ b ∈ fp, Hc b = none := fun {σc Hc sc} Ic => by
          refine ⟨Tn.keep _ _ _ st5 fun b hb o e => (Ic.pin (b, o) (List.mem_append_right _ (List.mem_append_right _ (mem_pinsAt hb e)))).1, fun b hb => ?_⟩
          obtain ⟨o, e, d⟩ := Tn.obj _ _ st5 b hb
          exact (Ic.pin (b, o) (List.mem_append_right _ (List.mem_append_right _ (mem_pinsAt hb e)))).2.1
        have keepD : ∀ {Fc Hc : Hp} {σc : L2.St} {τc : TEnv}, EnvOk X.K F3 H3 Fc Hc σc τc → Fc s2.heap.objs.size = none := fun {Fc Hc σc τc} Ec => by
          cases eF : Fc s2.heap.objs.size with
          | none => rfl
          | some o =>
            rcases Ec.g.nw _ o eF with z | z
            · rw [fD] at z; cases z
            · rw [hD] at z; cases z
        have newF : ∀ {Fc Hc : Hp} {σc : L2.St} {τc : TEnv}, EnvOk X.K F3 H3 Fc Hc σc τc → ∀ a o, Fc a = some o → F2 a = some o ∨ H1 a = none := fun {Fc Hc σc τc} Ec a o eF => by
          rcases Ec.g.nw a o eF with z | z
          · exact nw a o z
          · exact .inr (sH.free z)
        cases b' : ok with
        | false =>
          subst b'
          dsimp only at ec
          rw [if_neg (by decide)] at ec
          split at ec
          · next ha =>
            rw [if_neg (by decide)]
            obtain ⟨t1, t2⟩ := tail I7
            exact ⟨ts.length - (i + 1), by omega, i + 1, σ6, H7, F7, τ5, us, vs, I7.unpinned, t1, t2, E7.rebase ha E7.g.fh, ha, keepD E7, E7.g.sH _ _ hD, Reps.mono E7.g.sF rv, sF.trans E7.g.sF, sH.trans E7.g.sH, newF E7, hlt, rfl, ec⟩
          · cases ec
        | true =>
          subst b'
          dsimp only at ec
          rw [if_pos rfl] at ec
          rw [if_pos rfl]
          obtain ⟨⟨y0, τ6⟩, e6, ec⟩ := bind_some ec
          dsimp only at ec
          split at ec
          · next ha =>
            have a3 := he' F3 H3 _ s7 σ6 H7 (fun y H8 => ∃ F8, EnvOk X.K F3 H3 F8 H8 σ6 τ6 ∧ Rep X.K F8 y0 y) I7 (by rw [xK]; exact ⟨F7, τ5, y0, τ6, E7, e6, fun F8 H8 y E8 s8 r8 => ⟨F8, E8, r8⟩⟩)
            rw [xx] at a3
            refine thn a3 fun yv s8 ⟨y, H8, I8, ry, F8, E8, rp⟩ => ?_
            have dD : H8 s2.heap.objs.size = some (.lst vs) := E8.g.sH _ _ hD
            have a4 := mt_append (X := X') _ s8 σ6 H8 (.ref s2.heap.objs.size) [y] (.ref s2.heap.objs.size) [yv] (fun _ H9 => H9 = upd H8 s2.heap.objs.size (.lst (vs ++ [y]))) I8 rfl (.cons ry .nil) ⟨s2.heap.objs.size, vs, y, rfl, rfl, dD, by rw [rv.length]; exact ha.2, rfl⟩
            rw [xx] at a4
            refine thn a4 fun _ s9 ⟨_, H9, I9, _, e9⟩ => ?_
            subst e9
            obtain ⟨t1, t2⟩ := tail I9
            have kD := keepD E8
            have sm : Same F8 (upd H8 s2.heap.objs.size (.lst (vs ++ [y]))) := fun c o z => by rw [upd_ne (fun w => by subst w; rw [kD] at z; cases z)]; exact E8.g.fh _ _ z
            have sm1 : Same H1 (upd H8 s2.heap.objs.size (.lst (vs ++ [y]))) := fun c o z => by rw [upd_ne (fun w => by subst w; rw [hD1] at z; cases z)]; exact E8.g.sH _ _ (sH _ _ z)
            exact ⟨ts.length - (i + 1), by omega, i + 1, σ6, _, F8, τ6, us ++ [y0], vs ++ [y], I9.unpinned, t1, t2, E8.rebase ha.1 sm, ha.1, kD, upd_same, (Reps.mono E8.g.sF rv).append (.one rp), sF.trans E8.g.sF, sm1, newF E8, hlt, rfl, ec⟩
          · cases ec
      · have hie : i = ts.length := by omega
        subst hie
        rw [List.drop_length] at ec
        cases ec
        have dn := (xP ▸ xw ▸ xK ▸ Tn : Turn X'.prog X'.w X'.K tg J fp it tn).done X' rfl rfl rfl xc ts.length [] s3 σ3 H3 (fun _ _ => False) I3 (fpk I3 fr3) st3 (W2.stop F3 H3 sF E3.g.fh)
        refine thn dn fun r s4 ⟨hr, I4⟩ => ?_
        subst hr
        obtain ⟨m4, hm4, _⟩ := I4.loc
        rw [xl] at hm4
        have un := I4.base
        rw [xfs, xex, xH0, xs0] at un
        have ox := I4.os
        rw [xs0] at ox
        have hok4 := I4.hok
        rw [xP, xw] at hok4
        have IX : Inv X pins σ H3 s4 := I2.call' ox un hok4 I4.bare fun b hb => ⟨(f2 b hb).2.2.2.1, (f2 b hb).2.1, (f2 b hb).2.2.2.2.1, (f2 b hb).2.2.2.2.2⟩
        have hC : H3 (s2.heap.objs.size + 1) = none := by have := I4.free; rw [xl] at this; exact this
        have lC : @LT.lt Nat _ X.env.locals s2.heap.objs.size := I2.lt
        have gr : Grow F2 H1 F3 H3 := ⟨sF, sH, E3.g.fh, nw⟩
        refine hpost _ _ _ ⟨⟨H3, F3, vs, IX, E2.grow gr, (sF1.trans sF2).trans sF, fD, hD, E2.g.sH.free hD1, rv, hC⟩, ⟨m4, hm4⟩, Nat.ne_of_gt (Nat.lt_succ_of_lt lC), Nat.le_trans I2.sz (Nat.le_succ _),
          fun x c hxc => by obtain ⟨v, z⟩ := I2.cell x c hxc; exact Nat.ne_of_lt (Nat.lt_succ_of_lt z.lt), fun p hp => Nat.ne_of_lt (Nat.lt_succ_of_lt (Heap.lt_size (I2.pin p hp).1)), fun j us p j1 j2 => ?_⟩
        obtain ⟨v, k1, p', vs', rfl, k2, _⟩ := E2.sl j _ j1
        rw [j2] at k1; cases k1
        exact ne_of_none k2 hD1
    · refine ⟨0, blkOf no cap σ, upd H1 s2.heap.objs.size (.lst []), F2, blkOf no cap (frzAll cap τ1), [], [], Ib, Tn.keep _ _ _ st2 fun b hb o e => h0_keep e, fun b hb => ?_, E2.block ha (E2.g.fh.trans (same_updN hD1)), ha, E2.g.fh.free hD1, upd_same, rfl, Same.refl _, same_updN hD1, fun a o z => .inl z, Nat.zero_le _, rfl, e3⟩
      obtain ⟨o, e, _⟩ := Tn.obj 0 _ st2 b hb
      rw [upd_ne (Nat.ne_of_lt (Heap.lt_size e))]
      exact (f2 b hb).1
  have fin : ∀ {C : Addr} {cs : List (Str × Addr)}, C = s2.heap.objs.size + 1 → cs = cellsFrom (s2.heap.objs.size + 2) scope.names (clF X.env scope.names []) →
      codeAny (model X.prog X.w) X.A (.compStart (.ListComp elt [⟨tg, iter, ifs, 0⟩] scope pos) 0 (.ref it) (.ref s2.heap.objs.size) (blkEnv X scope C cs)) (post (.ref s2.heap.objs.size) C) { s2 with heap := h0 s2.heap scope } := fun {C cs} h1 h2 => by
    subst h1 h2
    exact codeAny_compStart_list loop (Tn.self _ 0 _ _ _ (Tn.keep _ _ _ st2 fun b hb o e => h0_keep e) loop)
  exact fin hz (by rw [← hz2])
/-- the value of a comprehension -/
theorem se_comp {elt tg iter : Expr} {ifs : List Expr} {scope : Scope} {pos : Pos} {N' : List Str} {no : Nat} {cap : List Nat} {fi : FA} {fg : FG} {ft : FT} {fe : FE} (hx : X.xe = fun _ _ => False) (hc : X.calm = true) (B : BlkScope X scope) (hN : N'.length = no + cap.length)
    (hcap : ∀ (k j : Nat), cap[k]? = some j → ∃ x, N'[no + k]? = some x ∧ X.N[j]? = some x ∧ (x, NameKind.free) ∈ scope.names) (hi : SI X tg iter fi)
    (hg : ∀ C cs s₀ H₀ fp pins, SG (blk X scope N' C cs s₀ H₀ fp pins) tg fg) (ht : ∀ C cs s₀ H₀ fp pins, STs (blk X scope N' C cs s₀ H₀ fp pins) ifs ft) (he : ∀ C cs s₀ H₀ fp pins, SE (blk X scope N' C cs s₀ H₀ fp pins) elt fe)
    (hs : ∀ x, foldedSetIterable iter X.env x = pure x := by intro _; rfl) : SE X (.ListComp elt [⟨tg, iter, ifs, 0⟩] scope pos) (fComp no cap fi fg ft fe) := by
  intro F₀ H₀ pins s σ H Q I ⟨F, τ, t, τ', E, e1, q⟩
  obtain ⟨⟨ts, τ1⟩, e2, e1⟩ := bind_some e1
  dsimp only at e1
  split at e1
  · next ha =>
    obtain ⟨rs, e3, e1⟩ := bind_some e1
    cases e1
    have hfree : ∀ y ∈ scope.names, y.2 = .free → ∃ c, X.env.cells.lookup y.1 = some c := fun y hy hk => I.ok.has y.1 (B.free y hy hk).1
    rw [eval_ListComp]
    refine wpAny_comprehension_free (use := none) rfl hs (closure_eq hfree) B.kind B.names (comp_core hx hc B hN hcap hi hg ht he I E e2 ha e3 fun D C s' Z => ?_)
    obtain ⟨H3, F3, vs, IX, E3, sF, fD, hD, h0D, rv, hC⟩ := Z.ex
    obtain ⟨m, hm⟩ := Z.ns
    refine ⟨m, hm, fun h' sb => ⟨.ref D, H3, IX.turned (t' := s'.toks) (it := C) (fun b o hb e => (sb.2 b hb).trans e) hC Z.cl (.inr Z.c0) Z.cc Z.cp, rfl, ?_⟩⟩
    have gr : Grow F3 H3 (upd F3 D (.lst vs)) H3 ∨ True := .inr trivial
    have sU : Same F3 (upd F3 D (.lst vs)) := same_updN fD
    refine q (upd F3 D (.lst vs)) H3 (.ref D) ⟨⟨E3.g.sF.trans sU, E3.g.sH, fun c o z => ?_, fun c o z => ?_⟩, E3.len, fun j sl ej => ?_, E3.dj⟩ (sF.trans sU) ⟨D, vs, rfl, upd_same, Reps.mono sU rv⟩
    · by_cases w : c = D
      · subst w; rw [upd_same] at z; cases z; exact hD
      · rw [upd_ne w] at z; exact E3.g.fh _ _ z
    · by_cases w : c = D
      · subst w; exact .inr h0D
      · rw [upd_ne w] at z; exact E3.g.nw _ _ z
    · obtain ⟨v, k1, k2⟩ := E3.sl j sl ej
      refine ⟨v, k1, ?_⟩
      cases sl with
      | sh t => exact Rep.mono sU k2
      | own us =>
        obtain ⟨p, ws, rfl, g2, g3, g4, g5⟩ := k2
        exact ⟨p, ws, rfl, g2, by rw [upd_ne (Z.ow j us p ej k1)]; exact g3, g4, Reps.mono sU g5⟩
  · cases e1
/-- the list at D, which no slot holds yet, is put into a slot as its own -/
theorem EnvOk.putOwn {K : PySem.W.Frag} {F₀ H₀ F H : Hp} {σ : L2.St} {τ : TEnv} {i : Nat} {rs : List T} {vs : List V} {D : Addr} (E : EnvOk K F₀ H₀ F H σ τ) (fD : F D = none) (hD : H D = some (.lst vs)) (h0 : H₀ D = none) (r : Reps K F rs vs)
    (ow : ∀ (j : Nat) us p, τ[j]? = some (some (.own us)) → σ[j]? = some (some (.ref p)) → p ≠ D) : EnvOk K F₀ H₀ F H (σ.set i (some (.ref D))) (τ.set i (some (.own rs))) := by
  refine ⟨E.g, by simp [E.len], fun j s e => ?_, fun j k ts' us q hjk e1 e2 e3 e4 => ?_⟩
  · by_cases hj : i = j
    · subst hj
      by_cases hl : i < τ.length
      · rw [List.getElem?_set_self hl] at e
        cases e
        exact ⟨.ref D, List.getElem?_set_self (by rw [E.len]; exact hl), D, vs, rfl, hD, fD, h0, r⟩
      · rw [List.getElem?_eq_none (by simp; omega)] at e; cases e
    · rw [List.getElem?_set_ne hj] at e
      rw [List.getElem?_set_ne hj]
      exact E.sl j s e
  · by_cases hj : i = j
    · subst hj
      rw [List.getElem?_set_ne hjk] at e2 e4
      by_cases hl : i < τ.length
      · rw [List.getElem?_set_self (by rw [E.len]; exact hl)] at e3
        cases e3
        exact ow k us _ e2 e4 rfl
      · rw [List.getElem?_eq_none (by simp; omega)] at e1; cases e1
    · rw [List.getElem?_set_ne hj] at e1 e3
      by_cases hk : i = k
      · subst hk
        by_cases hl : i < τ.length
        · rw [List.getElem?_set_self (by rw [E.len]; exact hl)] at e4
          cases e4
          exact ow j ts' _ e1 e3 rfl
        · rw [List.getElem?_eq_none (by simp; omega)] at e2; cases e2
      · rw [List.getElem?_set_ne hk] at e2 e4
        exact E.dj j k ts' us q hjk e1 e2 e3 e4
def fSetComp (i no : Nat) (cap : List Nat) (fi : FA) (fg : FG) (ft : FT) (fe : FE) : FS := fun τ => (fi τ).bind fun p =>
  if allSh (blkOf no cap (frzAll cap p.2)) = true then (compT fg ft fe p.1 (blkOf no cap (frzAll cap p.2)) []).bind fun us => some (.nx ((frzAll cap p.2).set i (some (.own us)))) else none
/-- x = [..], x a plain local name on the comprehension's own line -/
theorem ss_setComp {i : Nat} {y : Str} {py spos : Pos} {elt tg iter : Expr} {ifs : List Expr} {scope : Scope} {pos : Pos} {N' : List Str} {no : Nat} {cap : List Nat} {fi : FA} {fg : FG} {ft : FT} {fe : FE} (hNd : X.N.Nodup) (hiy : X.N[i]? = some y) (hy : X.env.scope.names.lookup y = some .local)
    (hx : X.xe = fun _ _ => False) (hc : X.calm = true) (B : BlkScope X scope) (hN : N'.length = no + cap.length)
    (hcap : ∀ (k j : Nat), cap[k]? = some j → ∃ x, N'[no + k]? = some x ∧ X.N[j]? = some x ∧ (x, NameKind.free) ∈ scope.names) (hi : SI X tg iter fi)
    (hg : ∀ C cs s₀ H₀ fp pins, SG (blk X scope N' C cs s₀ H₀ fp pins) tg fg) (ht : ∀ C cs s₀ H₀ fp pins, STs (blk X scope N' C cs s₀ H₀ fp pins) ifs ft) (he : ∀ C cs s₀ H₀ fp pins, SE (blk X scope N' C cs s₀ H₀ fp pins) elt fe)
    (hsw : swapsWith (.ListComp elt [⟨tg, iter, ifs, 0⟩] scope pos) (some (.Name y py)) spos.line X.env = pure true := by rfl) (hs : ∀ x, foldedSetIterable iter X.env x = pure x := by intro _; rfl) :
    SS X (.Assign [.Name y py] (.ListComp elt [⟨tg, iter, ifs, 0⟩] scope pos) spos) (fSetComp i no cap fi fg ft fe) := by
  intro F₀ H₀ pins s σ H Dn I ⟨F, τ, r, E, e1, q⟩
  obtain ⟨⟨ts, τ1⟩, e2, e1⟩ := bind_some e1
  dsimp only at e1
  split at e1
  · next ha =>
    obtain ⟨rs, e3, e1⟩ := bind_some e1
    cases e1
    have hfree : ∀ y ∈ scope.names, y.2 = .free → ∃ c, X.env.cells.lookup y.1 = some c := fun y hy hk => I.ok.has y.1 (B.free y hy hk).1
    rw [exec_Assign_Name_used _ _ _ _ hsw]
    refine wpAny_bind (wpAny_standAt (wpAny_bind (?_ : wpAny _ X.A (do let _ ← comprehension (.ListComp elt [⟨tg, iter, ifs, 0⟩] scope pos) scope X.env _ (newList []) false (eval iter X.env) (some (assign (.Name y py) X.env))) _ _ s)))
    refine wpAny_bind (thn (wpAny_comprehension_free (use := some (assign (.Name y py) X.env)) (Q := fun _ s' => SP X pins Dn .next s') rfl hs (closure_eq hfree) B.kind B.names (comp_core hx hc B hN hcap hi hg ht he I E e2 ha e3 fun D C s' Z => ?_)) fun _ s' hq => wpAny_pure (wpAny_pure hq))
    obtain ⟨H3, F3, vs, IX, E3, sF, fD, hD, h0D, rv, hC⟩ := Z.ex
    obtain ⟨m, hm⟩ := Z.ns
    refine (wpAny_assign_Name (store_ok2 IX hNd hiy (.inl hy) (v := .ref D) rfl (fun s'' I'' w => ?_) (.inr hy)) : wpAny _ X.A (assign (.Name y py) X.env (.ref D)) _ _ _)
    obtain ⟨a, sb, hab⟩ := w
    have aC : C ≠ a := fun z => by
      subst z
      rcases hab with z | z
      · exact Z.cl z
      · exact Z.cc _ _ z rfl
    refine ⟨m, hm.sameBut sb aC, fun h' sb' => ⟨_, H3, I''.turned (t' := s''.toks) (it := C) (fun b o hb e => (sb'.2 b hb).trans e) hC Z.cl (.inr Z.c0) Z.cc Z.cp, ?_⟩⟩
    exact q F3 H3 _ (E3.putOwn fD hD h0D rv Z.ow) sF
  · cases e1
end
/-! ### what the text says of a block's names, looked up -/
def blkCheck (sc scope : Scope) : Bool := scope.kind == .function && scope.names.all fun y => (y.2 != .local || scope.names.lookup y.1 == some .local) &&
  (y.2 != .free || ((sc.names.lookup y.1 == some .cell || sc.names.lookup y.1 == some .free) && scope.names.all (fun z => !(z.1 == y.1 && z.2 == .cell)) && scope.names.lookup y.1 == some .free))
theorem blkScope_of {X : Cx} {scope : Scope} (h : blkCheck X.env.scope scope = true) : BlkScope X scope := by
  unfold blkCheck at h
  simp only [Bool.and_eq_true, List.all_eq_true, Bool.or_eq_true, bne_iff_ne, beq_iff_eq, Bool.not_eq_true', Bool.and_eq_false_iff, ne_eq] at h
  refine ⟨h.1, fun y hy hk => ?_, fun y hy hk => ?_⟩
  · rcases (h.2 y hy).1 with z | z
    · exact absurd hk z
    · exact z
  · rcases (h.2 y hy).2 with z | ⟨⟨z1, z2⟩, z3⟩
    · exact absurd hk z
    · refine ⟨z1, fun m => ?_, z3⟩
      rcases z2 _ m with w | w
      · simp at w
      · simp at w
def capCheck (N N' : List Str) (scope : Scope) (no : Nat) : List Nat → Bool
  | [] => true
  | j :: r => (match N'[no]?, N[j]? with | some x, some y => x == y && scope.names.any (fun z => z.1 == x && z.2 == .free) | _, _ => false) && capCheck N N' scope (no + 1) r
theorem cap_of {N N' : List Str} {scope : Scope} : ∀ {no : Nat} {cap : List Nat}, capCheck N N' scope no cap = true → ∀ (k j : Nat), cap[k]? = some j → ∃ x, N'[no + k]? = some x ∧ N[j]? = some x ∧ (x, NameKind.free) ∈ scope.names
  | no, [], _, k, j, e => by simp at e
  | no, c :: r, h, k, j, e => by
    simp only [capCheck, Bool.and_eq_true] at h
    cases k with
    | zero =>
      simp at e
      subst e
      have h1 := h.1
      split at h1
      · next x y ex ey =>
        simp only [Bool.and_eq_true, beq_iff_eq, List.any_eq_true] at h1
        obtain ⟨rfl, z, hz, z1, z2⟩ := h1
        refine ⟨x, ex, ey, ?_⟩
        obtain ⟨a, b⟩ := z
        dsimp only at z1 z2
        subst z1 z2
        exact hz
      · cases h1
    | succ k =>
      obtain ⟨x, h1, h2, h3⟩ := cap_of h.2 k j (by simpa using e)
      exact ⟨x, by rw [show no + (k + 1) = no + 1 + k by omega]; exact h1, h2, h3⟩
end TM

set_option Elab.async false
set_option linter.all false
set_option maxRecDepth 100000
namespace TM
open PySem PySem.Spec PyProof.Rows L2
/-! ### trees of lists that nobody else holds -/
inductive O where
  | val (t : T) | lst (os : List O)
mutual
def ORep (K : PySem.W.Frag) (F H : Hp) : O → V → List Addr → Prop
  | .val t, v, A => A = [] ∧ Rep K F t v
  | .lst os, v, A => ∃ p vs B, v = .ref p ∧ A = p :: B ∧ H p = some (.lst vs) ∧ F p = none ∧ OReps K F H os vs B
def OReps (K : PySem.W.Frag) (F H : Hp) : List O → List V → List Addr → Prop
  | [], vs, A => vs = [] ∧ A = []
  | o :: os, vs, A => ∃ v r B C, vs = v :: r ∧ A = B ++ C ∧ ORep K F H o v B ∧ OReps K F H os r C
end
mutual
def O.tr : O → T
  | .val t => t
  | .lst os => .lst (O.trs os)
def O.trs : List O → List T
  | [] => []
  | o :: os => o.tr :: O.trs os
end
section
variable {K : PySem.W.Frag} {F H F' H' : Hp}
mutual
theorem ORep.move (sF : Same F F') : ∀ {o : O} {v : V} {A : List Addr}, (∀ a ∈ A, H' a = H a ∧ F' a = none) → ORep K F H o v A → ORep K F' H' o v A
  | .val t, v, A, _, h => ⟨h.1, Rep.mono sF h.2⟩
  | .lst os, v, A, hA, h => by
    obtain ⟨p, vs, B, rfl, rfl, h1, h2, h3⟩ := h
    have hp := hA p List.mem_cons_self
    exact ⟨p, vs, B, rfl, rfl, hp.1.trans h1, hp.2, OReps.move sF (fun a ha => hA a (List.mem_cons_of_mem _ ha)) h3⟩
theorem OReps.move (sF : Same F F') : ∀ {os : List O} {vs : List V} {A : List Addr}, (∀ a ∈ A, H' a = H a ∧ F' a = none) → OReps K F H os vs A → OReps K F' H' os vs A
  | [], vs, A, _, h => h
  | o :: os, vs, A, hA, h => by
    obtain ⟨v, r, B, C, rfl, rfl, h1, h2⟩ := h
    exact ⟨v, r, B, C, rfl, rfl, ORep.move sF (fun a ha => hA a (List.mem_append_left _ ha)) h1, OReps.move sF (fun a ha => hA a (List.mem_append_right _ ha)) h2⟩
end
mutual
theorem ORep.at : ∀ {o : O} {v : V} {A : List Addr}, ORep K F H o v A → ∀ a ∈ A, F a = none ∧ ∃ vs, H a = some (.lst vs)
  | .val t, v, A, h, a, ha => by rw [h.1] at ha; cases ha
  | .lst os, v, A, h, a, ha => by
    obtain ⟨p, vs, B, rfl, rfl, h1, h2, h3⟩ := h
    rcases List.mem_cons.mp ha with rfl | ha
    · exact ⟨h2, vs, h1⟩
    · exact OReps.at h3 a ha
theorem OReps.at : ∀ {os : List O} {vs : List V} {A : List Addr}, OReps K F H os vs A → ∀ a ∈ A, F a = none ∧ ∃ vs, H a = some (.lst vs)
  | [], vs, A, h, a, ha => by rw [h.2] at ha; cases ha
  | o :: os, vs, A, h, a, ha => by
    obtain ⟨v, r, B, C, rfl, rfl, h1, h2⟩ := h
    rcases List.mem_append.mp ha with ha | ha
    · exact ORep.at h1 a ha
    · exact OReps.at h2 a ha
end
mutual
theorem ORep.rep (sF : Same F F') : ∀ {o : O} {v : V} {A : List Addr}, (∀ a ∈ A, F' a = H a) → ORep K F H o v A → Rep K F' o.tr v
  | .val t, v, A, _, h => Rep.mono sF h.2
  | .lst os, v, A, hA, h => by
    obtain ⟨p, vs, B, rfl, rfl, h1, h2, h3⟩ := h
    exact ⟨p, vs, rfl, (hA p List.mem_cons_self).trans h1, OReps.rep sF (fun a ha => hA a (List.mem_cons_of_mem _ ha)) h3⟩
theorem OReps.rep (sF : Same F F') : ∀ {os : List O} {vs : List V} {A : List Addr}, (∀ a ∈ A, F' a = H a) → OReps K F H os vs A → Reps K F' (O.trs os) vs
  | [], vs, A, _, h => h.1
  | o :: os, vs, A, hA, h => by
    obtain ⟨v, r, B, C, rfl, rfl, h1, h2⟩ := h
    exact ⟨v, r, rfl, ORep.rep sF (fun a ha => hA a (List.mem_append_left _ ha)) h1, OReps.rep sF (fun a ha => hA a (List.mem_append_right _ ha)) h2⟩
end
theorem OReps.app : ∀ {os us : List O} {vs ws : List V} {A B : List Addr}, OReps K F H os vs A → OReps K F H us ws B → OReps K F H (os ++ us) (vs ++ ws) (A ++ B)
  | [], _, _, _, _, _, h, h' => by obtain ⟨rfl, rfl⟩ := h; exact h'
  | o :: os, _, _, _, _, _, h, h' => by
    obtain ⟨v, r, B, C, rfl, rfl, h1, h2⟩ := h
    exact ⟨v, r ++ _, B, C ++ _, rfl, by rw [List.append_assoc], h1, OReps.app h2 h'⟩
theorem OReps.one {o : O} {v : V} {A : List Addr} (h : ORep K F H o v A) : OReps K F H [o] [v] A := ⟨v, [], A, [], rfl, by simp, h, rfl, rfl⟩
theorem OReps.length : ∀ {os : List O} {vs : List V} {A : List Addr}, OReps K F H os vs A → vs.length = os.length
  | [], _, _, h => by rw [h.1]; rfl
  | o :: os, _, _, h => by
    obtain ⟨v, r, B, C, rfl, rfl, h1, h2⟩ := h
    simp [OReps.length h2]
/-- taken apart at a place -/
theorem OReps.split : ∀ {os : List O} {vs : List V} {A : List Addr} {k : Nat} {o : O}, OReps K F H os vs A → os[k]? = some o →
    ∃ (ws : List V) (v : V) (xs : List V) (B C D : List Addr), vs = ws ++ v :: xs ∧ ws.length = k ∧ A = B ++ (C ++ D) ∧ OReps K F H (os.take k) ws B ∧ ORep K F H o v C ∧ OReps K F H (os.drop (k + 1)) xs D
  | [], _, _, k, o, h, e => by simp at e
  | o :: os, _, _, 0, o', h, e => by
    obtain ⟨v, r, B, C, rfl, rfl, h1, h2⟩ := h
    simp at e; subst e
    exact ⟨[], v, r, [], B, C, rfl, rfl, rfl, ⟨rfl, rfl⟩, h1, by simpa using h2⟩
  | o :: os, _, _, k + 1, o', h, e => by
    obtain ⟨v, r, B, C, rfl, rfl, h1, h2⟩ := h
    obtain ⟨ws, w, xs, B', C', D', rfl, rfl, rfl, g1, g2, g3⟩ := OReps.split (k := k) h2 (by simpa using e)
    exact ⟨v :: ws, w, xs, B ++ B', C', D', rfl, rfl, by simp [List.append_assoc], ⟨v, ws, B, B', rfl, rfl, h1, g1⟩, g2, by simpa using g3⟩
/-- all frozen -/
def frzO (F H : Hp) (A : List Addr) : Hp := fun a => if a ∈ A then H a else F a
theorem frzO_in {A : List Addr} {a : Addr} (h : a ∈ A) : frzO F H A a = H a := if_pos h
theorem frzO_out {A : List Addr} {a : Addr} (h : a ∉ A) : frzO F H A a = F a := if_neg h
theorem frzO_same {A : List Addr} (h : ∀ a ∈ A, F a = none) : Same F (frzO F H A) := fun a o e => by
  rw [frzO_out (fun m => by rw [h a m] at e; cases e)]; exact e
theorem ORep.frz {o : O} {v : V} {A : List Addr} (h : ORep K F H o v A) : Rep K (frzO F H A) o.tr v := ORep.rep (frzO_same fun a ha => (h.at a ha).1) (fun a ha => frzO_in ha) h
theorem Grow.frzO {F₀ H₀ : Hp} {A : List Addr} (g : Grow F₀ H₀ F H) (h : ∀ a ∈ A, F a = none) (h0 : ∀ a ∈ A, H₀ a = none) : Grow F₀ H₀ (frzO F H A) H := by
  refine ⟨g.sF.trans (frzO_same h), g.sH, fun a o e => ?_, fun a o e => ?_⟩
  · by_cases m : a ∈ A
    · rw [frzO_in m] at e; exact e
    · rw [frzO_out m] at e; exact g.fh _ _ e
  · by_cases m : a ∈ A
    · exact .inr (h0 a m)
    · rw [frzO_out m] at e; exact g.nw _ _ e
end
section
variable {K : PySem.W.Frag} {F₀ H₀ F H F' H' : Hp} {σ : L2.St} {τ : TEnv} {A : List Addr}
/-- no slot's own list lies there -/
def Apart (σ : L2.St) (τ : TEnv) (A : List Addr) : Prop := ∀ (j : Nat) us p, τ[j]? = some (some (.own us)) → σ[j]? = some (some (.ref p)) → p ∉ A
theorem EnvOk.frzO (E : EnvOk K F₀ H₀ F H σ τ) (h : ∀ a ∈ A, F a = none) (h0 : ∀ a ∈ A, H₀ a = none) (ow : Apart σ τ A) : EnvOk K F₀ H₀ (TM.frzO F H A) H σ τ := by
  refine ⟨E.g.frzO h h0, E.len, fun i s e => ?_, E.dj⟩
  obtain ⟨v, h1, h2⟩ := E.sl i s e
  refine ⟨v, h1, ?_⟩
  cases s with
  | sh t => exact Rep.mono (frzO_same h) h2
  | own ts =>
    obtain ⟨p, vs, rfl, k2, k3, k4, k5⟩ := h2
    exact ⟨p, vs, rfl, k2, by rw [frzO_out (ow i ts p e h1)]; exact k3, k4, Reps.mono (frzO_same h) k5⟩
theorem EnvOk.hp (E : EnvOk K F₀ H₀ F H σ τ) (s : Same H H') : EnvOk K F₀ H₀ F H' σ τ := by
  refine ⟨⟨E.g.sF, E.g.sH.trans s, E.g.fh.trans s, E.g.nw⟩, E.len, fun i sl e => ?_, E.dj⟩
  obtain ⟨v, h1, h2⟩ := E.sl i sl e
  refine ⟨v, h1, ?_⟩
  cases sl with
  | sh t => exact h2
  | own ts =>
    obtain ⟨p, vs, rfl, k2, k3, k4, k5⟩ := h2
    exact ⟨p, vs, rfl, s _ _ k2, k3, k4, k5⟩
theorem allSh_apart (h : allSh τ = true) : Apart σ τ A := fun j us p e _ => absurd e (allSh_get h)
end
/-! ### expressions whose value nobody else holds -/
abbrev FO' := TEnv → Option (O × TEnv)
def tEo (K : PySem.W.Frag) (F₀ H₀ : Hp) (f : FO') : TE := fun σ H Q => ∃ F τ o τ', EnvOk K F₀ H₀ F H σ τ ∧ f τ = some (o, τ') ∧
  ∀ F' H' v A, EnvOk K F₀ H₀ F' H' σ τ' → Same F F' → ORep K F' H' o v A → A.Nodup → (∀ a ∈ A, H₀ a = none) → Apart σ τ' A → Q v H'
def SEo (X : Cx) (e : Expr) (f : FO') : Prop := ∀ F₀ H₀, PE X e (tEo X.K F₀ H₀ f)
section
variable {X : Cx} {e : Expr} {pos : Pos}
def fTr (f : FO') : FE := fun τ => (f τ).bind fun p => some (p.1.tr, p.2)
theorem SEo.se {f : FO'} (h : SEo X e f) : SE X e (fTr f) := fun F₀ H₀ => PE.weak (h F₀ H₀) fun σ H Q ⟨F, τ, t, τ', E, e1, q⟩ => by
  obtain ⟨⟨o, τ1⟩, e2, e1⟩ := bind_some e1
  cases e1
  refine ⟨F, τ, o, τ1, E, e2, fun F' H' v A E' s' r nd h0 ow => ?_⟩
  have hF : ∀ a ∈ A, F' a = none := fun a ha => (r.at a ha).1
  exact q _ H' v (E'.frzO hF h0 ow) (s'.trans (frzO_same hF)) r.frz
def fVal (f : FE) : FO' := fun τ => (f τ).bind fun p => some (.val p.1, p.2)
theorem SE.seo {f : FE} (h : SE X e f) : SEo X e (fVal f) := fun F₀ H₀ => PE.weak (h F₀ H₀) fun σ H Q ⟨F, τ, t, τ', E, e1, q⟩ => by
  obtain ⟨⟨o, τ1⟩, e2, e1⟩ := bind_some e1
  cases e1
  exact ⟨F, τ, o, τ1, E, e2, fun F' H' v E' s' r => q F' H' v [] E' s' ⟨rfl, r⟩ List.nodup_nil (fun a ha => by cases ha) (fun j us p _ _ m => by cases m)⟩
theorem OReps.vals {K : PySem.W.Frag} {F H : Hp} : ∀ {ts : List T} {vs : List V}, Reps K F ts vs → OReps K F H (ts.map O.val) vs []
  | [], _, h => ⟨h, rfl⟩
  | t :: ts, _, h => by
    obtain ⟨v, r, rfl, h2, h3⟩ := h
    exact ⟨v, r, [], [], rfl, rfl, ⟨rfl, h2⟩, OReps.vals h3⟩
theorem ORep.new {K : PySem.W.Frag} {F H : Hp} {p : Addr} {ts : List T} {vs : List V} (s : Same F H) (n : H p = none) (r : Reps K F ts vs) : ORep K F (upd H p (.lst vs)) (.lst (ts.map O.val)) (.ref p) [p] :=
  ⟨p, vs, [], rfl, rfl, upd_same, s.free n, .vals r⟩
theorem apart_new {K : PySem.W.Frag} {F₀ H₀ F H : Hp} {σ : L2.St} {τ : TEnv} {p : Addr} (E : EnvOk K F₀ H₀ F H σ τ) (n : H p = none) : Apart σ τ [p] := fun j us q e1 e2 m => by
  rw [List.mem_singleton] at m
  subst m
  obtain ⟨v, k1, p', vs', rfl, k2, _⟩ := E.sl j _ e1
  rw [e2] at k1; cases k1
  rw [n] at k2; cases k2
/-- a slice of a list -/
def gSlo (t : T) (l h : Option Int) : Option O := match t with
  | .lst ts => some (.lst ((cutT ts l h).map .val))
  | _ => none
def fSlo (f : FE) (fl fh : FO) : FO' := fun τ => (f τ).bind fun p => (fl p.2).bind fun q => (fh q.2).bind fun r => (gSlo p.1 q.1 r.1).bind fun t => some (t, r.2)
theorem seo_slice {e : Expr} {lo hi : Option Expr} {f : FE} {fl fh : FO} {p2 : Pos} (he : SE X e f) (hl : SO X lo fl) (hh : SO X hi fh) : SEo X (.Subscript e (.Slice lo hi none p2) pos) (fSlo f fl fh) :=
  fun F₀ H₀ => PE.weak (pe_slice sl_list (he F₀ H₀) (hl F₀ H₀) (hh F₀ H₀)) fun σ H Q ⟨F, τ, t, τ', E, e1, q⟩ => by
    obtain ⟨⟨x, τ1⟩, e2, e1⟩ := bind_some e1
    obtain ⟨⟨l, τ2⟩, e3, e1⟩ := bind_some e1
    obtain ⟨⟨h, τ3⟩, e4, e1⟩ := bind_some e1
    obtain ⟨y, e5, e1⟩ := bind_some e1
    cases e1
    refine ⟨F, τ, x, τ1, E, e2, fun F1 H1 v E1 s1 r1 => ⟨F1, τ1, l, τ2, E1, e3, fun F2 H2 E2 s2 => ⟨F2, τ2, h, _, E2, e4, fun F3 H3 E3 s3 => ?_⟩⟩⟩
    have r3 := Rep.mono (s2.trans s3) r1
    have sm := E3.g.fh
    dsimp only at e5
    unfold gSlo at e5
    split at e5
    · cases e5
      obtain ⟨p, xs, rfl, h1, h2⟩ := r3
      refine ⟨p, xs, rfl, SqL.of (sm _ _ h1), fun a ha => ?_⟩
      exact q F3 _ _ [a] (E3.hp (same_updN ha)) ((s1.trans s2).trans s3) (ORep.new sm ha (cut_rep h2 l h)) (by simp) (fun b hb => by rw [List.mem_singleton] at hb; subst hb; exact E3.g.sH.free ha) (apart_new E3 ha)
    · cases e5
end
end TM

set_option Elab.async false
set_option linter.all false
set_option maxRecDepth 100000
namespace TM
open PySem PySem.Spec PyProof.Rows L2
def compTo (fg : FG) (ft : FT) (fe : FO') : List T → TEnv → List O → Option (List O)
  | [], _, acc => some acc
  | t :: ts, τ, acc => (fg t τ).bind fun τ1 => (ft τ1).bind fun p => if p.1 = true then (fe p.2).bind fun q => if allSh q.2 = true ∧ acc.length < sizeLine then compTo fg ft fe ts q.2 (acc ++ [q.1]) else none
    else if allSh p.2 = true then compTo fg ft fe ts p.2 acc else none
section
variable {X : Cx}
/-- what is known when the block is through -/
structure CompEndO (X : Cx) (pins : List (Addr × Obj)) (σ : L2.St) (F₀ H₀ F : Hp) (τ : TEnv) (rs : List O) (D C : Addr) (s : Shared) : Prop where
  ex : ∃ (H F3 : Hp) (vs : List V) (As : List Addr), Inv X pins σ H s ∧ EnvOk X.K F₀ H₀ F3 H σ τ ∧ Same F F3 ∧ F3 D = none ∧ H D = some (.lst vs) ∧ H₀ D = none ∧ OReps X.K F3 H rs vs As ∧ As.Nodup ∧ (∀ a ∈ As, H₀ a = none ∧ a ≠ D) ∧ Apart σ τ As ∧ H C = none
  ns : ∃ m, s.heap.Ns C m
  cl : C ≠ X.env.locals
  c0 : X.s₀.heap.objs.size ≤ C
  cc : ∀ x c, X.env.cells.lookup x = some c → c ≠ C
  cp : ∀ p ∈ X.pn ++ pins, p.1 ≠ C
  ow : ∀ (j : Nat) us p, τ[j]? = some (some (.own us)) → σ[j]? = some (some (.ref p)) → p ≠ D
theorem comp_coreO {elt tg iter : Expr} {ifs : List Expr} {scope : Scope} {pos : Pos} {N' : List Str} {no : Nat} {cap : List Nat} {fi : FA} {fg : FG} {ft : FT} {fe : FO'} (hx : X.xe = fun _ _ => False) (hc : X.calm = true) (B : BlkScope X scope) (hN : N'.length = no + cap.length)
    (hcap : ∀ (k j : Nat), cap[k]? = some j → ∃ x, N'[no + k]? = some x ∧ X.N[j]? = some x ∧ (x, NameKind.free) ∈ scope.names) (hi : SI X tg iter fi)
    (hg : ∀ C cs s₀ H₀ fp pins, SG (blk X scope N' C cs s₀ H₀ fp pins) tg fg) (ht : ∀ C cs s₀ H₀ fp pins, STs (blk X scope N' C cs s₀ H₀ fp pins) ifs ft) (he : ∀ C cs s₀ H₀ fp pins, SEo (blk X scope N' C cs s₀ H₀ fp pins) elt fe)
    {F₀ H₀ F H : Hp} {pins : List (Addr × Obj)} {s : Shared} {σ : L2.St} {τ τ1 : TEnv} {ts : List T} {rs : List O} (I : Inv X pins σ H s) (E : EnvOk X.K F₀ H₀ F H σ τ) (e2 : fi τ = some (ts, τ1)) (ha : allSh (blkOf no cap (frzAll cap τ1)) = true) (e3 : compTo fg ft fe ts (blkOf no cap (frzAll cap τ1)) [] = some rs)
    {post : Value → Addr → Result → Shared → Prop} (hpost : ∀ D C s', CompEndO X pins σ F₀ H₀ F (frzAll cap τ1) rs D C s' → post (.ref D) C (.ok .next) s') :
    wpAny (model X.prog X.w) X.A (eval iter X.env) (fun x s₁ => wpAny (model X.prog X.w) X.A (pyIter x) (fun it s₂ => wpAny (model X.prog X.w) X.A (newList []) (fun acc s₃ =>
      wpAny (model X.prog X.w) X.A (newFunctionEnv scope X.env.globals (clF X.env scope.names []) [] X.env.qual none .none (some X.env)) (fun cenv s₄ =>
        codeAny (model X.prog X.w) X.A (.compStart (.ListComp elt [⟨tg, iter, ifs, 0⟩] scope pos) 0 it acc { cenv with scope := relabel scope X.env }) (post acc cenv.locals) s₄) X.xe s₃) X.xe s₂) X.xe s₁) X.xe s := by
  refine thn (hi F₀ H₀ pins s σ H (fun J H1 => ∃ F1, EnvOk X.K F₀ H₀ F1 H1 σ τ1 ∧ Same F F1 ∧ Walks X.K F1 ts J) I ⟨F, τ, ts, τ1, E, e2, fun F1 H1 J E1 s1 W => ⟨F1, E1, s1, W⟩⟩) fun v s1 h1 => thn h1 fun itv s2 h2 => ?_
  obtain ⟨it, fp, tn, J, H1, rfl, I2, Tn, st2, f2, F1, E1, sF1, W⟩ := h2
  obtain ⟨F2, E2, sF2⟩ := E1.frzAll cap
  have W2 : Walks X.K F2 ts J := ⟨fun i t F3 H3 e a b => W.go i t F3 H3 e (sF2.trans a) b, fun i t F3 H3 x H4 e a b y => W.yld i t F3 H3 x H4 e (sF2.trans a) b y, fun F3 H3 a b => W.stop F3 H3 (sF2.trans a) b⟩
  refine wpAny_newObj_type ?_
  have hz : (s2.heap.push accOb).objs.size = s2.heap.objs.size + 1 := Heap.size_push ..
  have hz2 : ((s2.heap.push accOb).push dicOb).objs.size = s2.heap.objs.size + 2 := by rw [Heap.size_push, hz]
  simp only [newFunctionEnv, Option.isSome_some, if_true]
  refine wpAny_bind (wpAny_alloc ?_)
  refine wpAny_bind (wpAny_layCells _ (fun name kind cells => by cases hkc : kind == NameKind.cell <;> simp [hkc]) _ _ _ _ ?_)
  simp only [List.forIn_nil]
  refine wpAny_bind (wpAny_pure (wpAny_pure ?_))
  have loop : codeAny (model X.prog X.w) X.A (.compLoop (.ListComp elt [⟨tg, iter, ifs, 0⟩] scope pos) 0 (.ref it) (.ref s2.heap.objs.size) (blkEnv X scope (s2.heap.objs.size + 1) (cellsFrom (s2.heap.objs.size + 2) scope.names (clF X.env scope.names []))))
      (post (.ref s2.heap.objs.size) (s2.heap.objs.size + 1)) { s2 with heap := h0 s2.heap scope } := by
    have Ib := blk_start (N' := N') (σ' := blkOf no cap σ) (tk := s2.toks) I2 B f2 (fun b hb => by obtain ⟨o, e, _⟩ := Tn.obj 0 _ st2 b hb; exact ⟨o, e⟩) (by simp [blkOf, hN]) (fun i x v a1 a2 => by
      obtain ⟨k, j, rfl, hk, hj⟩ := blkOf_get a2
      obtain ⟨x', b1, b2, b3⟩ := hcap k j hk
      rw [a1] at b1; cases b1
      exact .inl ⟨b3, j, b2, hj⟩)
    generalize hX' : blk X scope N' (s2.heap.objs.size + 1) (cellsFrom (s2.heap.objs.size + 2) scope.names (clF X.env scope.names [])) s2 H1 fp pins = X' at Ib
    have hg' : SG X' tg fg := by rw [← hX']; exact hg _ _ _ _ _ _
    have ht' : STs X' ifs ft := by rw [← hX']; exact ht _ _ _ _ _ _
    have he' : SEo X' elt fe := by rw [← hX']; exact he _ _ _ _ _ _
    have xP : X'.prog = X.prog := by rw [← hX']; rfl
    have xw : X'.w = X.w := by rw [← hX']; rfl
    have xK : X'.K = X.K := by rw [← hX']; rfl
    have xA : X'.A = X.A := by rw [← hX']; rfl
    have xc : X'.calm = true := by rw [← hX']; exact hc
    have xx : X'.xe = fun _ _ => False := by rw [← hX']; rfl
    have xe' : X'.env = blkEnv X scope (s2.heap.objs.size + 1) (cellsFrom (s2.heap.objs.size + 2) scope.names (clF X.env scope.names [])) := by rw [← hX']; rfl
    have xex : X'.ex = fp := by rw [← hX']; rfl
    have xfs : X'.fs = frs X.stack := by rw [← hX']; rfl
    have xpn : X'.pn = X.pn ++ pins := by rw [← hX']; rfl
    have xs0 : X'.s₀ = s2 := by rw [← hX']; rfl
    have xH0 : X'.H₀ = H1 := by rw [← hX']; rfl
    have xl : X'.env.locals = s2.heap.objs.size + 1 := by rw [← hX']; rfl
    rw [← xe', ← xP, ← xw, ← xA]
    have hD1 : H1 s2.heap.objs.size = none := I2.fresh
    have fpk : ∀ {Hc : Hp} {σc : L2.St} {pc : List (Addr × Obj)} {sc : Shared}, Inv X' pc σc Hc sc → (∀ b ∈ fp, Hc b = none) → ∀ b ∈ fp, FpOk X' [] Hc b := fun {Hc σc pc sc} Ic hn b hb => by
      have q1 := Ic.ok.exf b (by rw [xex]; exact hb)
      have q2 := Ic.ok.exfs b (by rw [xex]; exact hb)
      refine ⟨hn b hb, q1.1, q2, .inl (by rw [xex]; exact hb), q1.2, fun p hp => ?_⟩
      rw [xpn, List.append_nil] at hp
      exact (f2 b hb).2.2.2.2.2 p hp
    refine comp_loop (fun n s3 => ∃ i σ3 H3 F3 τ3 us vs As, Inv X' [] σ3 H3 s3 ∧ tn i s3.heap ∧ (∀ b ∈ fp, H3 b = none) ∧ EnvOk X.K F3 H3 F3 H3 σ3 τ3 ∧ allSh τ3 = true ∧ F3 s2.heap.objs.size = none ∧ H3 s2.heap.objs.size = some (.lst vs) ∧ (OReps X.K F3 H3 us vs As ∧ As.Nodup ∧ ∀ a ∈ As, H1 a = none ∧ a ≠ s2.heap.objs.size) ∧ Same F2 F3 ∧ Same H1 H3 ∧
      (∀ a o, F3 a = some o → F2 a = some o ∨ H1 a = none) ∧ i ≤ ts.length ∧ n = ts.length - i ∧ compTo fg ft fe (ts.drop i) τ3 us = some rs) ?_ ts.length ?_
    · rintro n s3 ⟨i, σ3, H3, F3, τ3, us, vs, As, I3, st3, fr3, E3, ha3, fD, hD, ⟨rv, nd, fr⟩, sF, sH, nw, hi', rfl, ec⟩
      by_cases hlt : i < ts.length
      · have hgi : ts[i]? = some ts[i] := List.getElem?_eq_getElem hlt
        rw [List.drop_eq_getElem_cons hlt] at ec
        obtain ⟨τ4, e4, ec⟩ := bind_some ec
        obtain ⟨⟨b, τ5⟩, e5, ec⟩ := bind_some ec
        have go := W2.go i _ F3 H3 hgi sF E3.g.fh
        have itm := (xP ▸ xw ▸ xK ▸ Tn : Turn X'.prog X'.w X'.K tg J fp it tn).item X' rfl rfl rfl xc i [] s3 σ3 H3 (fun _ _ => False) I3 (fpk I3 fr3) st3 go
        refine thn itm fun r s4 ⟨u, hr, h4⟩ => ?_
        subst hr
        refine thn h4 fun _ s5 ⟨x, H5, I5, r5, y5, st5, fr5⟩ => ?_
        have I5' := I5.pinned (fpk I5 fr5) (Tn.obj _ _ st5)
        obtain ⟨F5, gr, rx⟩ := W2.yld i _ F3 H3 x H5 hgi sF E3.g.fh y5
        have a1 := hg' F3 H3 _ s5 σ3 H5 x u (fun σ6 H6 => ∃ F6, EnvOk X.K F3 H3 F6 H6 σ6 τ4 ∧ Same F5 F6) I5' r5 (by rw [xK]; exact ⟨F5, τ3, ts[i], τ4, E3.grow gr, rx, e4, fun F6 H6 σ6 E6 s6 => ⟨F6, E6, s6⟩⟩)
        rw [xx] at a1
        refine thn a1 fun _ s6 ⟨σ6, H6, I6, F6, E6, sF6⟩ => ?_
        have a2 := ht' F3 H3 _ s6 σ6 H6 (fun b' H7 => b' = b ∧ ∃ F7, EnvOk X.K F3 H3 F7 H7 σ6 τ5 ∧ Same F6 F7) I6 (by rw [xK]; exact ⟨F6, τ4, b, τ5, E6, e5, fun F7 H7 E7 s7 => ⟨rfl, F7, E7, s7⟩⟩)
        rw [xx] at a2
        refine thn a2 fun ok s7 ⟨H7, I7, hok, F7, E7, sF7⟩ => ?_
        subst hok
        have tail : ∀ {σc : L2.St} {Hc : Hp} {sc : Shared}, Inv X' ([] ++ pinsAt fp s5.heap) σc Hc sc → tn (i + 1) sc.heap ∧ ∀ b ∈ fp, Hc b = none := fun {σc Hc sc} Ic => by
          refine ⟨Tn.keep _ _ _ st5 fun b hb o e => (Ic.pin (b, o) (List.mem_append_right _ (List.mem_append_right _ (mem_pinsAt hb e)))).1, fun b hb => ?_⟩
          obtain ⟨o, e, d⟩ := Tn.obj _ _ st5 b hb
          exact (Ic.pin (b, o) (List.mem_append_right _ (List.mem_append_right _ (mem_pinsAt hb e)))).2.1
        have keepD : ∀ {Fc Hc : Hp} {σc : L2.St} {τc : TEnv}, EnvOk X.K F3 H3 Fc Hc σc τc → Fc s2.heap.objs.size = none := fun {Fc Hc σc τc} Ec => by
          cases eF : Fc s2.heap.objs.size with
          | none => rfl
          | some o =>
            rcases Ec.g.nw _ o eF with z | z
            · rw [fD] at z; cases z
            · rw [hD] at z; cases z
        have newF : ∀ {Fc Hc : Hp} {σc : L2.St} {τc : TEnv}, EnvOk X.K F3 H3 Fc Hc σc τc → ∀ a o, Fc a = some o → F2 a = some o ∨ H1 a = none := fun {Fc Hc σc τc} Ec a o eF => by
          rcases Ec.g.nw a o eF with z | z
          · exact nw a o z
          · exact .inr (sH.free z)
        have mv : ∀ {Fc Hc Hd : Hp} {σc : L2.St} {τc : TEnv}, EnvOk X.K F3 H3 Fc Hc σc τc → (∀ a, a ≠ s2.heap.objs.size → Hd a = Hc a) → OReps X.K Fc Hd us vs As := fun {Fc Hc Hd σc τc} Ec hd => by
          refine OReps.move Ec.g.sF (fun a ha => ?_) rv
          obtain ⟨f1, ws, f2⟩ := rv.at a ha
          refine ⟨by rw [hd a (fr a ha).2, Ec.g.sH _ _ f2, f2], ?_⟩
          cases eF : Fc a with
          | none => rfl
          | some o =>
            rcases Ec.g.nw _ o eF with z | z
            · rw [f1] at z; cases z
            · rw [f2] at z; cases z
        cases b' : ok with
        | false =>
          subst b'
          dsimp only at ec
          rw [if_neg (by decide)] at ec
          split at ec
          · next ha =>
            rw [if_neg (by decide)]
            obtain ⟨t1, t2⟩ := tail I7
            exact ⟨ts.length - (i + 1), by omega, i + 1, σ6, H7, F7, τ5, us, vs, As, I7.unpinned, t1, t2, E7.rebase ha E7.g.fh, ha, keepD E7, E7.g.sH _ _ hD, ⟨mv E7 (fun _ _ => rfl), nd, fr⟩, sF.trans E7.g.sF, sH.trans E7.g.sH, newF E7, hlt, rfl, ec⟩
          · cases ec
        | true =>
          subst b'
          dsimp only at ec
          rw [if_pos rfl] at ec
          rw [if_pos rfl]
          obtain ⟨⟨y0, τ6⟩, e6, ec⟩ := bind_some ec
          dsimp only at ec
          split at ec
          · next ha =>
            have a3 := he' F3 H3 _ s7 σ6 H7 (fun y H8 => ∃ F8 Ay, EnvOk X.K F3 H3 F8 H8 σ6 τ6 ∧ ORep X.K F8 H8 y0 y Ay ∧ Ay.Nodup ∧ ∀ a ∈ Ay, H3 a = none) I7 (by rw [xK]; exact ⟨F7, τ5, y0, τ6, E7, e6, fun F8 H8 y Ay E8 s8 r8 n8 h8 _ => ⟨F8, Ay, E8, r8, n8, h8⟩⟩)
            rw [xx] at a3
            refine thn a3 fun yv s8 ⟨y, H8, I8, ry, F8, Ay, E8, rp, ndy, hy8⟩ => ?_
            have dD : H8 s2.heap.objs.size = some (.lst vs) := E8.g.sH _ _ hD
            have a4 := mt_append (X := X') _ s8 σ6 H8 (.ref s2.heap.objs.size) [y] (.ref s2.heap.objs.size) [yv] (fun _ H9 => H9 = upd H8 s2.heap.objs.size (.lst (vs ++ [y]))) I8 rfl (.cons ry .nil) ⟨s2.heap.objs.size, vs, y, rfl, rfl, dD, by rw [rv.length]; exact ha.2, rfl⟩
            rw [xx] at a4
            refine thn a4 fun _ s9 ⟨_, H9, I9, _, e9⟩ => ?_
            subst e9
            obtain ⟨t1, t2⟩ := tail I9
            have kD := keepD E8
            have sm : Same F8 (upd H8 s2.heap.objs.size (.lst (vs ++ [y]))) := fun c o z => by rw [upd_ne (fun w => by subst w; rw [kD] at z; cases z)]; exact E8.g.fh _ _ z
            have sm1 : Same H1 (upd H8 s2.heap.objs.size (.lst (vs ++ [y]))) := fun c o z => by rw [upd_ne (fun w => by subst w; rw [hD1] at z; cases z)]; exact E8.g.sH _ _ (sH _ _ z)
            have yD : ∀ a ∈ Ay, a ≠ s2.heap.objs.size := fun a ha z => by have := hy8 a ha; rw [z, hD] at this; cases this
            have rp9 : ORep X.K F8 (upd H8 s2.heap.objs.size (.lst (vs ++ [y]))) y0 y Ay := ORep.move (Same.refl _) (fun a ha => ⟨upd_ne (yD a ha), (rp.at a ha).1⟩) rp
            have all9 : OReps X.K F8 (upd H8 s2.heap.objs.size (.lst (vs ++ [y]))) (us ++ [y0]) (vs ++ [y]) (As ++ Ay) := (mv E8 (fun a ha => upd_ne ha)).app (.one rp9)
            have nd9 : (As ++ Ay).Nodup := List.nodup_append.mpr ⟨nd, ndy, fun a ha b hb z => by subst z; obtain ⟨_, ws, f2⟩ := rv.at a ha; rw [hy8 a hb] at f2; cases f2⟩
            have fr9 : ∀ a ∈ As ++ Ay, H1 a = none ∧ a ≠ s2.heap.objs.size := fun a ha => by
              rcases List.mem_append.mp ha with ha | ha
              · exact fr a ha
              · exact ⟨sH.free (hy8 a ha), yD a ha⟩
            exact ⟨ts.length - (i + 1), by omega, i + 1, σ6, _, F8, τ6, us ++ [y0], vs ++ [y], As ++ Ay, I9.unpinned, t1, t2, E8.rebase ha.1 sm, ha.1, kD, upd_same, ⟨all9, nd9, fr9⟩, sF.trans E8.g.sF, sm1, newF E8, hlt, rfl, ec⟩
          · cases ec
      · have hie : i = ts.length := by omega
        subst hie
        rw [List.drop_length] at ec
        cases ec
        have dn := (xP ▸ xw ▸ xK ▸ Tn : Turn X'.prog X'.w X'.K tg J fp it tn).done X' rfl rfl rfl xc ts.length [] s3 σ3 H3 (fun _ _ => False) I3 (fpk I3 fr3) st3 (W2.stop F3 H3 sF E3.g.fh)
        refine thn dn fun r s4 ⟨hr, I4⟩ => ?_
        subst hr
        obtain ⟨m4, hm4, _⟩ := I4.loc
        rw [xl] at hm4
        have un := I4.base
        rw [xfs, xex, xH0, xs0] at un
        have ox := I4.os
        rw [xs0] at ox
        have hok4 := I4.hok
        rw [xP, xw] at hok4
        have IX : Inv X pins σ H3 s4 := I2.call' ox un hok4 I4.bare fun b hb => ⟨(f2 b hb).2.2.2.1, (f2 b hb).2.1, (f2 b hb).2.2.2.2.1, (f2 b hb).2.2.2.2.2⟩
        have hC : H3 (s2.heap.objs.size + 1) = none := by have := I4.free; rw [xl] at this; exact this
        have lC : @LT.lt Nat _ X.env.locals s2.heap.objs.size := I2.lt
        have gr : Grow F2 H1 F3 H3 := ⟨sF, sH, E3.g.fh, nw⟩
        have ap3 : Apart σ (frzAll cap τ1) As := fun j us p j1 j2 m => by
          obtain ⟨v, k1, p', vs', rfl, k2, _⟩ := E2.sl j _ j1
          rw [j2] at k1; cases k1
          rw [(fr _ m).1] at k2; cases k2
        refine hpost _ _ _ ⟨⟨H3, F3, vs, As, IX, E2.grow gr, (sF1.trans sF2).trans sF, fD, hD, E2.g.sH.free hD1, rv, nd, fun a ha => ⟨E2.g.sH.free (fr a ha).1, (fr a ha).2⟩, ap3, hC⟩, ⟨m4, hm4⟩, Nat.ne_of_gt (Nat.lt_succ_of_lt lC), Nat.le_trans I2.sz (Nat.le_succ _),
          fun x c hxc => by obtain ⟨v, z⟩ := I2.cell x c hxc; exact Nat.ne_of_lt (Nat.lt_succ_of_lt z.lt), fun p hp => Nat.ne_of_lt (Nat.lt_succ_of_lt (Heap.lt_size (I2.pin p hp).1)), fun j us p j1 j2 => ?_⟩
        obtain ⟨v, k1, p', vs', rfl, k2, _⟩ := E2.sl j _ j1
        rw [j2] at k1; cases k1
        exact ne_of_none k2 hD1
    · refine ⟨0, blkOf no cap σ, upd H1 s2.heap.objs.size (.lst []), F2, blkOf no cap (frzAll cap τ1), [], [], [], Ib, Tn.keep _ _ _ st2 fun b hb o e => h0_keep e, fun b hb => ?_, E2.block ha (E2.g.fh.trans (same_updN hD1)), ha, E2.g.fh.free hD1, upd_same, ⟨⟨rfl, rfl⟩, List.nodup_nil, fun a ha => by cases ha⟩, Same.refl _, same_updN hD1, fun a o z => .inl z, Nat.zero_le _, rfl, e3⟩
      obtain ⟨o, e, _⟩ := Tn.obj 0 _ st2 b hb
      rw [upd_ne (Nat.ne_of_lt (Heap.lt_size e))]
      exact (f2 b hb).1
  have fin : ∀ {C : Addr} {cs : List (Str × Addr)}, C = s2.heap.objs.size + 1 → cs = cellsFrom (s2.heap.objs.size + 2) scope.names (clF X.env scope.names []) →
      codeAny (model X.prog X.w) X.A (.compStart (.ListComp elt [⟨tg, iter, ifs, 0⟩] scope pos) 0 (.ref it) (.ref s2.heap.objs.size) (blkEnv X scope C cs)) (post (.ref s2.heap.objs.size) C) { s2 with heap := h0 s2.heap scope } := fun {C cs} h1 h2 => by
    subst h1 h2
    exact codeAny_compStart_list loop (Tn.self _ 0 _ _ _ (Tn.keep _ _ _ st2 fun b hb o e => h0_keep e) loop)
  exact fin hz (by rw [← hz2])

def fCompO (no : Nat) (cap : List Nat) (fi : FA) (fg : FG) (ft : FT) (fe : FO') : FO' := fun τ => (fi τ).bind fun p =>
  if allSh (blkOf no cap (frzAll cap p.2)) = true then (compTo fg ft fe p.1 (blkOf no cap (frzAll cap p.2)) []).bind fun us => some (.lst us, frzAll cap p.2) else none
theorem CompEndO.fin {pins : List (Addr × Obj)} {σ : L2.St} {F₀ H₀ F : Hp} {τ : TEnv} {rs : List O} {D C : Addr} {s : Shared} (Z : CompEndO X pins σ F₀ H₀ F τ rs D C s) :
    ∃ (H F3 : Hp) (As : List Addr), Inv X pins σ H s ∧ EnvOk X.K F₀ H₀ F3 H σ τ ∧ Same F F3 ∧ ORep X.K F3 H (.lst rs) (.ref D) As ∧ As.Nodup ∧ (∀ a ∈ As, H₀ a = none) ∧ Apart σ τ As ∧ H C = none := by
  obtain ⟨H, F3, vs, As, IX, E3, sF, fD, hD, h0D, rv, nd, h0, ap, hC⟩ := Z.ex
  refine ⟨H, F3, D :: As, IX, E3, sF, ⟨D, vs, As, rfl, rfl, hD, fD, rv⟩, List.nodup_cons.mpr ⟨fun m => (h0 D m).2 rfl, nd⟩, fun a ha => ?_, fun j us p e1 e2 m => ?_, hC⟩
  · rcases List.mem_cons.mp ha with rfl | ha
    · exact h0D
    · exact (h0 a ha).1
  · rcases List.mem_cons.mp m with rfl | m
    · exact Z.ow j us _ e1 e2 rfl
    · exact ap j us p e1 e2 m
/-- the value of a comprehension, with all that is new in it -/
theorem seo_comp {elt tg iter : Expr} {ifs : List Expr} {scope : Scope} {pos : Pos} {N' : List Str} {no : Nat} {cap : List Nat} {fi : FA} {fg : FG} {ft : FT} {fe : FO'} (hx : X.xe = fun _ _ => False) (hc : X.calm = true) (B : BlkScope X scope) (hN : N'.length = no + cap.length)
    (hcap : ∀ (k j : Nat), cap[k]? = some j → ∃ x, N'[no + k]? = some x ∧ X.N[j]? = some x ∧ (x, NameKind.free) ∈ scope.names) (hi : SI X tg iter fi)
    (hg : ∀ C cs s₀ H₀ fp pins, SG (blk X scope N' C cs s₀ H₀ fp pins) tg fg) (ht : ∀ C cs s₀ H₀ fp pins, STs (blk X scope N' C cs s₀ H₀ fp pins) ifs ft) (he : ∀ C cs s₀ H₀ fp pins, SEo (blk X scope N' C cs s₀ H₀ fp pins) elt fe)
    (hs : ∀ x, foldedSetIterable iter X.env x = pure x := by intro _; rfl) : SEo X (.ListComp elt [⟨tg, iter, ifs, 0⟩] scope pos) (fCompO no cap fi fg ft fe) := by
  intro F₀ H₀ pins s σ H Q I ⟨F, τ, t, τ', E, e1, q⟩
  obtain ⟨⟨ts, τ1⟩, e2, e1⟩ := bind_some e1
  dsimp only at e1
  split at e1
  · next ha =>
    obtain ⟨rs, e3, e1⟩ := bind_some e1
    cases e1
    have hfree : ∀ y ∈ scope.names, y.2 = .free → ∃ c, X.env.cells.lookup y.1 = some c := fun y hy hk => I.ok.has y.1 (B.free y hy hk).1
    rw [eval_ListComp]
    refine wpAny_comprehension_free (use := none) rfl hs (closure_eq hfree) B.kind B.names (comp_coreO hx hc B hN hcap hi hg ht he I E e2 ha e3 fun D C s' Z => ?_)
    obtain ⟨H3, F3, As, IX, E3, sF, ro, nd, h0, ap, hC⟩ := Z.fin
    obtain ⟨m, hm⟩ := Z.ns
    refine ⟨m, hm, fun h' sb => ⟨.ref D, H3, IX.turned (t' := s'.toks) (it := C) (fun b o hb e => (sb.2 b hb).trans e) hC Z.cl (.inr Z.c0) Z.cc Z.cp, rfl, ?_⟩⟩
    exact q F3 H3 (.ref D) As E3 sF ro nd h0 ap
  · cases e1
/-- x = [..], x a plain local name on the comprehension's own line; what is new in it is known -/
def tSetO (K : PySem.W.Frag) (F₀ H₀ : Hp) (i : Nat) (f : FO') : TS := fun D σ H => ∃ F τ o τ', EnvOk K F₀ H₀ F H σ τ ∧ f τ = some (o, τ') ∧
  ∀ F' H' v A, EnvOk K F₀ H₀ F' H' σ τ' → Same F F' → ORep K F' H' o v A → A.Nodup → (∀ a ∈ A, H₀ a = none) → Apart σ τ' A → D.nx (σ.set i (some v)) H'
theorem pso_setComp (i : Nat) {y : Str} {py spos : Pos} {elt tg iter : Expr} {ifs : List Expr} {scope : Scope} {pos : Pos} {N' : List Str} {no : Nat} {cap : List Nat} {fi : FA} {fg : FG} {ft : FT} {fe : FO'} (hNd : X.N.Nodup) (hiy : X.N[i]? = some y) (hy : X.env.scope.names.lookup y = some .local)
    (hx : X.xe = fun _ _ => False) (hc : X.calm = true) (B : BlkScope X scope) (hN : N'.length = no + cap.length)
    (hcap : ∀ (k j : Nat), cap[k]? = some j → ∃ x, N'[no + k]? = some x ∧ X.N[j]? = some x ∧ (x, NameKind.free) ∈ scope.names) (hi : SI X tg iter fi)
    (hg : ∀ C cs s₀ H₀ fp pins, SG (blk X scope N' C cs s₀ H₀ fp pins) tg fg) (ht : ∀ C cs s₀ H₀ fp pins, STs (blk X scope N' C cs s₀ H₀ fp pins) ifs ft) (he : ∀ C cs s₀ H₀ fp pins, SEo (blk X scope N' C cs s₀ H₀ fp pins) elt fe)
    (hsw : swapsWith (.ListComp elt [⟨tg, iter, ifs, 0⟩] scope pos) (some (.Name y py)) spos.line X.env = pure true := by rfl) (hs : ∀ x, foldedSetIterable iter X.env x = pure x := by intro _; rfl) (F₀ H₀ : Hp) :
    PS X (.Assign [.Name y py] (.ListComp elt [⟨tg, iter, ifs, 0⟩] scope pos) spos) (tSetO X.K F₀ H₀ i (fCompO no cap fi fg ft fe)) := by
  intro pins s σ H Dn I ⟨F, τ, r, τ', E, e1, q⟩
  obtain ⟨⟨ts, τ1⟩, e2, e1⟩ := bind_some e1
  dsimp only at e1
  split at e1
  · next ha =>
    obtain ⟨rs, e3, e1⟩ := bind_some e1
    cases e1
    have hfree : ∀ y ∈ scope.names, y.2 = .free → ∃ c, X.env.cells.lookup y.1 = some c := fun y hy hk => I.ok.has y.1 (B.free y hy hk).1
    rw [exec_Assign_Name_used _ _ _ _ hsw]
    refine wpAny_bind (wpAny_standAt (wpAny_bind (?_ : wpAny _ X.A (do let _ ← comprehension (.ListComp elt [⟨tg, iter, ifs, 0⟩] scope pos) scope X.env _ (newList []) false (eval iter X.env) (some (assign (.Name y py) X.env))) _ _ s)))
    refine wpAny_bind (thn (wpAny_comprehension_free (use := some (assign (.Name y py) X.env)) (Q := fun _ s' => SP X pins Dn .next s') rfl hs (closure_eq hfree) B.kind B.names (comp_coreO hx hc B hN hcap hi hg ht he I E e2 ha e3 fun D C s' Z => ?_)) fun _ s' hq => wpAny_pure (wpAny_pure hq))
    obtain ⟨H3, F3, As, IX, E3, sF, ro, nd, h0, ap, hC⟩ := Z.fin
    obtain ⟨m, hm⟩ := Z.ns
    refine (wpAny_assign_Name (store_ok2 IX hNd hiy (.inl hy) (v := .ref D) rfl (fun s'' I'' w => ?_) (.inr hy)) : wpAny _ X.A (assign (.Name y py) X.env (.ref D)) _ _ _)
    obtain ⟨a, sb, hab⟩ := w
    have aC : C ≠ a := fun z => by
      subst z
      rcases hab with z | z
      · exact Z.cl z
      · exact Z.cc _ _ z rfl
    refine ⟨m, hm.sameBut sb aC, fun h' sb' => ⟨_, H3, I''.turned (t' := s''.toks) (it := C) (fun b o hb e => (sb'.2 b hb).trans e) hC Z.cl (.inr Z.c0) Z.cc Z.cp, ?_⟩⟩
    exact q F3 H3 _ As E3 sF ro nd h0 ap
  · cases e1
end
end TM

set_option Elab.async false
set_option linter.all false
set_option maxRecDepth 100000
namespace TM
open PySem PySem.Spec PyProof.Rows L2
/-! ### defs that take over what they are handed first -/
def delA (H : Hp) (A : List Addr) : Hp := fun a => if a ∈ A then none else H a
theorem delA_in {H : Hp} {A : List Addr} {a : Addr} (h : a ∈ A) : delA H A a = none := if_pos h
theorem delA_out {H : Hp} {A : List Addr} {a : Addr} (h : a ∉ A) : delA H A a = H a := if_neg h
theorem delA_same {H : Hp} {A : List Addr} : Same (delA H A) H := fun a o e => by
  by_cases m : a ∈ A
  · rw [delA_in m] at e; cases e
  · rw [delA_out m] at e; exact e
def spC (K : PySem.W.Frag) (n : Nat) (d : O → List T → Option T) : Sp := fun vs H Q _ => vs.length = n ∧ ∃ F o v ws ts A t, Same F H ∧ vs = v :: ws ∧ ORep K F H o v A ∧ A.Nodup ∧ Reps K F ts ws ∧ d o ts = some t ∧
  ∀ F' H' v', Grow F (delA H A) F' H' → Rep K F' t v' → Q v' H'
structure DefC (P : Program) (w : World) (K : PySem.W.Frag) (mg : Str → Option Value) (base : Heap) (k : Nat) (x : Str) (n : Nat) (d : O → List T → Option T) : Prop where
  ex : ∃ f fd ps, FnOk P w K mg base CX0 k f fd ps (spC K n d) ∧ Binds K fd ps [] ∧ PySem.W.keepIn K (.ref f) = true ∧ mg x = some (.ref f) ∧ ps.length = n
theorem DefC.imp {P : Program} {w : World} {K : PySem.W.Frag} {mg : Str → Option Value} {base : Heap} {k n : Nat} {x : Str} {d d' : O → List T → Option T} (D : DefC P w K mg base k x n d) (h : ∀ o ts t, d' o ts = some t → d o ts = some t) : DefC P w K mg base k x n d' := by
  obtain ⟨f, fd, ps, F, r⟩ := D.ex
  exact ⟨f, fd, ps, F.imp fun vs H Q E ⟨l, F, o, v, ws, ts, A, t, a, b, c, nd, r, e, q⟩ => ⟨l, F, o, v, ws, ts, A, t, a, b, c, nd, r, h _ _ _ e, q⟩, r⟩
theorem DefC.mono {P : Program} {w : World} {K : PySem.W.Frag} {mg : Str → Option Value} {base : Heap} {j k n : Nat} {x : Str} {d : O → List T → Option T} (D : DefC P w K mg base j x n d) (h : j ≤ k) : DefC P w K mg base k x n d := by
  obtain ⟨f, fd, ps, F, r⟩ := D.ex
  exact ⟨f, fd, ps, F.mono h, r⟩
section
variable {K : PySem.W.Frag} {F₀ H₀ F₁ H₁ F H F' H' : Hp} {σ : L2.St} {τ : TEnv}
theorem EnvOk.back (E : EnvOk K F₁ H₁ F H σ τ) (ha : allSh τ = true) (g : Grow F₀ H₀ F₁ H₁) : EnvOk K F₀ H₀ F H σ τ := by
  refine ⟨g.trans E.g, E.len, fun i sl e => ?_, fun i j ts us p _ e1 => absurd e1 (allSh_get ha)⟩
  obtain ⟨v, h1, h2⟩ := E.sl i sl e
  cases sl with
  | sh t => exact ⟨v, h1, h2⟩
  | own ts => exact absurd e (allSh_get ha)
theorem EnvOk.to (E : EnvOk K F₁ H₁ F H σ τ) (ha : allSh τ = true) (sF : Same F F') (g : Grow F₀ H₀ F' H') : EnvOk K F₀ H₀ F' H' σ τ := by
  refine ⟨g, E.len, fun i sl e => ?_, fun i j ts us p _ e1 => absurd e1 (allSh_get ha)⟩
  obtain ⟨v, h1, h2⟩ := E.sl i sl e
  cases sl with
  | sh t => exact ⟨v, h1, Rep.mono sF h2⟩
  | own ts => exact absurd e (allSh_get ha)
theorem EnvOk.setNone {i : Nat} {v : Option V} (E : EnvOk K F₀ H₀ F H σ τ) : EnvOk K F₀ H₀ F H (σ.set i v) (τ.set i none) := by
  have key : ∀ {j : Nat} {s : Sl}, (τ.set i none)[j]? = some (some s) → i ≠ j ∧ τ[j]? = some (some s) := fun {j s} e => by
    by_cases hj : i = j
    · subst hj
      by_cases hl : i < τ.length
      · rw [List.getElem?_set_self hl] at e; cases e
      · rw [List.getElem?_eq_none (by simp; omega)] at e; cases e
    · rw [List.getElem?_set_ne hj] at e; exact ⟨hj, e⟩
  refine ⟨E.g, by simp [E.len], fun j s e => ?_, fun j k ts us p hjk e1 e2 e3 => ?_⟩
  · obtain ⟨hj, e⟩ := key e
    rw [List.getElem?_set_ne hj]
    exact E.sl j s e
  · obtain ⟨h1, e1⟩ := key e1
    obtain ⟨h2, e2⟩ := key e2
    rw [List.getElem?_set_ne h1] at e3
    rw [List.getElem?_set_ne h2]
    exact E.dj j k ts us p hjk e1 e2 e3
/-- what nobody else holds stays over a step that knows nothing of it -/
theorem ORep.over {o : O} {v : V} {A : List Addr} (g : Grow F H F' H') (h : ORep K F H o v A) : ORep K F' H' o v A := by
  refine ORep.move g.sF (fun a ha => ?_) h
  obtain ⟨f1, ws, f2⟩ := h.at a ha
  refine ⟨by rw [g.sH _ _ f2, f2], ?_⟩
  cases eF : F' a with
  | none => rfl
  | some o =>
    rcases g.nw _ o eF with z | z
    · rw [f1] at z; cases z
    · rw [f2] at z; cases z
theorem Grow.taken {A : List Addr} {F1 H1 : Hp} (g : Grow F₀ H₀ F H) (h0 : ∀ a ∈ A, H₀ a = none) (g1 : Grow F (delA H A) F1 H1) : Grow F₀ H₀ F1 H1 := by
  refine ⟨g.sF.trans g1.sF, fun a o e => ?_, g1.fh, fun a o e => ?_⟩
  · refine g1.sH a o ?_
    rw [delA_out (fun m => by rw [h0 a m] at e; cases e)]
    exact g.sH a o e
  · rcases g1.nw a o e with z | z
    · exact g.nw a o z
    · by_cases m : a ∈ A
      · exact .inr (h0 a m)
      · rw [delA_out m] at z; exact .inr (g.sH.free z)
end
section
variable {X : Cx} {e : Expr} {f : FE} {ft : FT} {es : List Expr} {g : FA}
theorem SE.any (h : SE X e f) : PE X e (fun σ H Q => ∃ F₀ H₀, tE X.K F₀ H₀ f σ H Q) := fun pins s σ H Q I ⟨F₀, H₀, q⟩ => h F₀ H₀ pins s σ H Q I q
theorem ST.any (h : ST X e ft) : PT X e (fun σ H Q => ∃ F₀ H₀, tT X.K F₀ H₀ ft σ H Q) := fun pins s σ H Q I ⟨F₀, H₀, q⟩ => h F₀ H₀ pins s σ H Q I q
theorem SA.any (h : SA X es g) : PA X es (fun σ H Q => ∃ F₀ H₀, tA X.K F₀ H₀ g σ H Q) := fun p pins s σ H Q I ⟨F₀, H₀, q⟩ => h F₀ H₀ p pins s σ H Q I q
theorem SSs.any {ss : List Stmt} {fs : FS} (h : SSs X ss fs) : PSs X ss (fun D σ H => ∃ F₀ H₀, tS X.K F₀ H₀ fs D σ H) := fun pins s σ H D I ⟨F₀, H₀, q⟩ => h F₀ H₀ pins s σ H D I q
def PSo (X : Cx) (S : Stmt) (i : Nat) (fo : FO') : Prop := ∀ F₀ H₀, PS X S (tSetO X.K F₀ H₀ i fo)
/-! ### x = (new things), if c: x = f(x, ..) where f takes x over -/
def fFuse (i : Nat) (fo : FO') (fc : FT) (g : FA) (d : O → List T → Option T) (fr : FS) : FS := fun τ => (fo τ).bind fun p =>
  if allSh p.2 = true ∧ i < p.2.length then (fc (p.2.set i none)).bind fun q =>
    if allSh q.2 = true then (if q.1 = true then (g q.2).bind fun r => if allSh r.2 = true then (d p.1 r.1).bind fun t => fr (r.2.set i (some (.sh t))) else none
      else fr (q.2.set i (some (.sh p.1.tr)))) else none
  else none
theorem sss_fuse {k n : Nat} {i : Nat} {S1 : Stmt} {c : Expr} {x y : Str} {px p0 p1 pc ps pif : Pos} {rest : List Stmt} {fo : FO'} {fc : FT} {d : O → List T → Option T} {fr : FS}
    (h1 : PSo X S1 i fo) (hc : ST X c fc) (D : DefC X.prog X.w X.K X.mg X.base k y n d) (hr : Room k X.A) (hg : Gl X y) (hv : PE X (.Name x p1) (tVar i)) (ha : SA X es g) (hl : ∀ τ ts τ', g τ = some (ts, τ') → ts.length + 1 = n)
    (hN : X.N.Nodup) (hi : X.N[i]? = some x) (hx : Loc X.env.scope x) (hrest : SSs X rest fr)
    (hs : swapsWith (.Call (.Name y p0) (.Name x p1 :: es) [] pc) (some (.Name x px)) ps.line X.env = pure false := by rfl)
    (hf : X.fn x = true ∨ X.env.scope.names.lookup x = some .local := by first | exact .inl rfl | exact .inr rfl | assumption)
    (hdb : (y == ("__debug__" : Str)) = false := by decide)
    (he : starEach (.Name x p1 :: es) X.env = (false, eval (.Name x p1) X.env) :: starEach es X.env := by rfl) (hpl : (backTo pc (starEach es X.env)).any (·.1) = false := by rfl) :
    SSs X (S1 :: .If c [.Assign [.Name x px] (.Call (.Name y p0) (.Name x p1 :: es) [] pc) ps] [] pif :: rest) (fFuse i fo fc g d fr) := by
  obtain ⟨f, fd, pps, Fk, hb, hk, hm, hn⟩ := D.ex
  intro F₀ H₀
  refine PSs.weak (pss_cons (h1 F₀ H₀) (pss_cons (ps_if hc.any (pss_one (ps_set hN hi hx (pe_call (E := E0) (CX := CX0) Fk hr hg hm hk hb .nil pass0 (pa_cons hv ha.any he) hdb he hpl) hs hf)) pss_nil) (hrest F₀ H₀))) ?_
  rintro Dn σ H ⟨F, τ, r, E, e1, q⟩
  obtain ⟨⟨o, τ1⟩, e2, e1⟩ := bind_some e1
  dsimp only at e1
  split at e1
  · next ha1 =>
    obtain ⟨⟨b, τ2⟩, e3, e1⟩ := bind_some e1
    dsimp only at e1
    split at e1
    · next ha2 =>
      refine ⟨F, τ, o, τ1, E, e2, fun F1 H1 v A E1 s1 ro nd h0 ow => ?_⟩
      have E1' : EnvOk X.K F₀ H₀ F1 H1 (σ.set i (some v)) (τ1.set i none) := E1.setNone
      have ha1' : allSh (τ1.set i none) = true := by
        have key : ∀ (l : TEnv) (i : Nat), allSh l = true → allSh (l.set i none) = true := fun l => by
          induction l with
          | nil => intro i h; exact h
          | cons a l ih =>
            intro i h
            cases i with
            | zero =>
              cases a with
              | none => exact h
              | some s => cases s with
                | sh t => exact h
                | own ts => cases h
            | succ i =>
              cases a with
              | none => exact ih i h
              | some s => cases s with
                | sh t => exact ih i h
                | own ts => cases h
        exact key τ1 i ha1.1
      have Eb : EnvOk X.K F1 H1 F1 H1 (σ.set i (some v)) (τ1.set i none) := E1'.rebase ha1' E1.g.fh
      have hσ : (σ.set i (some v))[i]? = some (some v) := List.getElem?_set_self (by rw [E1.len]; exact ha1.2)
      refine ⟨F1, H1, F1, _, b, τ2, Eb, e3, fun F2 H2 E2 s2 => ?_⟩
      have ro2 := ro.over E2.g
      have g2 : Grow F₀ H₀ F2 H2 := E1.g.trans E2.g
      split at e1
      · next hb1 =>
        dsimp only
        rw [if_pos hb1]
        obtain ⟨⟨ts, τ3⟩, e4, e1⟩ := bind_some e1
        dsimp only at e1
        split at e1
        · next ha3 =>
          obtain ⟨t, e5, e1⟩ := bind_some e1
          refine ⟨v, hσ, F2, H2, F2, τ2, ts, τ3, E2.rebase ha2 E2.g.fh, e4, fun F3 H3 vs E3 s3 r3 => ?_⟩
          have ro3 := ro2.over E3.g
          have g3 : Grow F₀ H₀ F3 H3 := g2.trans E3.g
          refine ⟨by rw [List.append_nil, List.length_cons, r3.length]; exact hl _ _ _ e4, F3, o, v, vs, ts, A, t, E3.g.fh, by rw [List.append_nil], ro3, nd, r3, e5, fun F4 H4 v4 g4 r4 => ?_⟩
          have g5 : Grow F₀ H₀ F4 H4 := g3.taken h0 g4
          exact ⟨F4, _, r, (E3.to ha3 g4.sF g5).set r4, e1, q.mono (((s1.trans s2).trans s3).trans g4.sF)⟩
        · cases e1
      · next hb1 =>
        dsimp only
        rw [if_neg hb1]
        have hF : ∀ a ∈ A, F2 a = none := fun a ha => (ro2.at a ha).1
        have E2' : EnvOk X.K F₀ H₀ (frzO F2 H2 A) H2 (σ.set i (some v)) τ2 := (E2.back ha2 E1.g).frzO hF h0 (allSh_apart ha2)
        have E3 := E2'.set (i := i) (ro2.frz)
        rw [List.set_set] at E3
        exact ⟨_, _, r, E3, e1, q.mono ((s1.trans s2).trans (frzO_same hF))⟩
    · cases e1
  · cases e1
theorem sso_setComp {i : Nat} {y : Str} {py spos : Pos} {elt tg iter : Expr} {ifs : List Expr} {scope : Scope} {pos : Pos} {N' : List Str} {no : Nat} {cap : List Nat} {fi : FA} {fg : FG} {ft : FT} {fe : FO'} (hNd : X.N.Nodup) (hiy : X.N[i]? = some y) (hy : X.env.scope.names.lookup y = some .local)
    (hx : X.xe = fun _ _ => False) (hc : X.calm = true) (B : BlkScope X scope) (hN : N'.length = no + cap.length)
    (hcap : ∀ (k j : Nat), cap[k]? = some j → ∃ x, N'[no + k]? = some x ∧ X.N[j]? = some x ∧ (x, NameKind.free) ∈ scope.names) (hi : SI X tg iter fi)
    (hg : ∀ C cs s₀ H₀ fp pins, SG (blk X scope N' C cs s₀ H₀ fp pins) tg fg) (ht : ∀ C cs s₀ H₀ fp pins, STs (blk X scope N' C cs s₀ H₀ fp pins) ifs ft) (he : ∀ C cs s₀ H₀ fp pins, SEo (blk X scope N' C cs s₀ H₀ fp pins) elt fe)
    (hsw : swapsWith (.ListComp elt [⟨tg, iter, ifs, 0⟩] scope pos) (some (.Name y py)) spos.line X.env = pure true := by rfl) (hs : ∀ x, foldedSetIterable iter X.env x = pure x := by intro _; rfl) :
    PSo X (.Assign [.Name y py] (.ListComp elt [⟨tg, iter, ifs, 0⟩] scope pos) spos) i (fCompO no cap fi fg ft fe) :=
  fun F₀ H₀ => pso_setComp i hNd hiy hy hx hc B hN hcap hi hg ht he hsw hs F₀ H₀
end
end TM

set_option Elab.async false
set_option linter.all false
set_option maxRecDepth 100000
namespace TM
open PySem PySem.Spec PyProof.Rows L2
section
variable {X : Cx}
/-! ### all(..) of a list of truths -/
def boolsOf : List T → Option (List Bool)
  | [] => some []
  | .bl b :: r => (boolsOf r).bind fun bs => some (b :: bs)
  | _ => none
def dAll : List T → Option T
  | [.lst ts] => (boolsOf ts).bind fun bs => some (.bl (bs.all id))
  | _ => none
def dAny : List T → Option T
  | [.lst ts] => (boolsOf ts).bind fun bs => some (.bl (bs.any id))
  | _ => none
theorem bools_get {K : PySem.W.Frag} {F : Hp} : ∀ {ts : List T} {bs : List Bool} {vs : List V} {its : List Value}, boolsOf ts = some bs → Reps K F ts vs → Vals vs its → its = bs.map Value.bool
  | [], bs, vs, its, e, r, z => by
    cases e; cases r; cases z; rfl
  | t :: ts, bs, vs, its, e, r, z => by
    obtain ⟨v, rr, rfl, h1, h2⟩ := r
    unfold boolsOf at e
    split at e
    · next he => cases he
    · next b r0 he =>
      cases he
      obtain ⟨bs', e1, e2⟩ := bind_some e
      cases e2
      cases h1
      cases z with
      | cons rz zz =>
        cases rz
        rw [bools_get e1 h2 zz]
        rfl
    · cases e
theorem kept_it {s : Shared} {h' : Heap} {o : Obj} (hk : ∀ b x, b ∉ [s.heap.objs.size] → (s.heap.push o).get? b = some x → h'.get? b = some x) : ∀ b x, s.heap.get? b = some x → h'.get? b = some x :=
  fun b x e => hk b x (fun hm => by rw [List.mem_singleton.mp hm] at e; exact Nat.lt_irrefl _ (Heap.lt_size e)) (Heap.get?_push_of_some _ e)
theorem range_all (bs : List Bool) : ((List.range bs.length).all fun i => (bs[i]?).getD true) = bs.all id := by
  induction bs with
  | nil => rfl
  | cons b bs ih =>
    rw [List.length_cons, List.range_succ_eq_map, List.all_cons, List.all_map]
    simp only [List.all_cons, List.getElem?_cons_zero, Option.getD_some, id]
    rw [← ih]
    congr 1
theorem range_any (bs : List Bool) : ((List.range bs.length).any fun i => (bs[i]?).getD true) = bs.any id := by
  induction bs with
  | nil => rfl
  | cons b bs ih =>
    rw [List.length_cons, List.range_succ_eq_map, List.any_cons, List.any_map]
    simp only [List.any_cons, List.getElem?_cons_zero, Option.getD_some, id]
    rw [← ih]
    congr 1
theorem ct_all (hc : X.calm = true) : CallT X (.builtin "all") dAll := by
  intro pins s σ H xs us Q I rx ⟨F, ts, t, sm, r, e, q⟩
  unfold dAll at e
  split at e
  · next ts =>
    obtain ⟨bs, e1, e2⟩ := bind_some e
    cases e2
    obtain ⟨v, rr, rfl, ⟨p, vs, rfl, h1, h2⟩, rfl⟩ := r
    obtain ⟨u, rfl, ru⟩ := Vals.one rx
    cases ru
    obtain ⟨its, rv, pl, hz⟩ := I.list (SqL.of (sm _ _ h1))
    have hb := bools_get e1 h2 rv
    subst hb
    have hl := pl.isList
    have hlt : @LT.lt Nat _ p s.heap.objs.size := by obtain ⟨_, e, _⟩ := hl; exact Heap.lt_size e
    refine call_all_walk (wpAny_pyIter_list hl ?_)
    refine ⟨s.heap.objs.size, [s.heap.objs.size, p], [s.heap.objs.size], (bs.map Value.bool).toArray.size, _, _, fun i => (bs[i]?).getD true, rfl, PySem.Walks.list (A := X.A.in1) (I.ok.hd hc) _ p (Nat.ne_of_lt hlt) (bs.map Value.bool).toArray,
      ⟨⟨_, Heap.get?_push_size _ rfl, rfl, rfl⟩, hl.push _⟩, fun i v s' Q' E' hP hQ => ?_, fun h' tk hk => ?_⟩
    · have hP' : (bs.map Value.bool)[i]? = some v := by simpa using hP
      rw [List.getElem?_map] at hP'
      cases eb : bs[i]? with
      | none => rw [eb] at hP'; cases hP'
      | some b =>
        rw [eb] at hP'
        have : v = .bool b := (Option.some.inj hP').symm
        subst this
        simp only [eb, Option.getD_some] at hQ
        exact wpAny_truthy_bool hQ
    · have e : ((List.range (bs.map Value.bool).toArray.size).all fun i => (bs[i]?).getD true) = bs.all id := by
        rw [List.size_toArray, List.length_map]
        exact range_all bs
      rw [e]
      exact ⟨.bl _, H, I.kept (t' := tk) (kept_it hk), rfl, q F H _ (Grow.refl sm) rfl⟩
  · cases e
/-! ### tuple(..) -/
def dTuple : List T → Option T
  | [.lst ts] => some (.tup ts)
  | [.tup ts] => some (.tup ts)
  | _ => none
theorem ct_tuple : CallT X (.type "tuple") dTuple := callT_of call_tuple_of fun vs H Q ⟨F, ts, t, sm, r, e, q⟩ => by
  unfold dTuple at e
  split at e
  · obtain ⟨v, rr, rfl, ⟨p, xs, rfl, h1, h2⟩, rfl⟩ := r
    cases e
    refine ⟨p, xs, rfl, .inl ⟨SqL.of (sm _ _ h1), fun l hl => ?_⟩⟩
    have gr := Grow.new (.tup xs) sm hl
    exact q _ _ _ gr ⟨l, xs, rfl, SqT.of upd_same, Reps.mono gr.sF h2⟩
  · obtain ⟨v, rr, rfl, ⟨p, xs, rfl, h1, h2⟩, rfl⟩ := r
    cases e
    exact ⟨p, xs, rfl, .inr ⟨same_sqT sm h1, q F H _ (Grow.refl sm) ⟨p, xs, rfl, h1, h2⟩⟩⟩
  · cases e
/-! ### n.bit_length() -/
theorem mt_bits : MtR X "int.bit_length" (fun x vs H Q => ∃ i, x = .int i ∧ vs = [] ∧ Q (.int (Builtin.Int.intBits i)) H) := by
  intro pins s σ H x vs v us Q I rx rv ⟨i, hx, hvs, q⟩
  subst hx; subst hvs
  obtain ⟨t, rfl⟩ := rx
  have := rv.zero
  subst this
  exact PyProof.Rows.call_int_bit_length ⟨.int _, H, I.tok _, ⟨_, rfl⟩, q⟩
def gBits : T → Option T
  | .int i => some (.int (Builtin.Int.intBits i))
  | _ => none
theorem se_bits {e : Expr} {f : FE} {p2 p3 : Pos} (he : SE X e f) (hbase : attributeBase e "bit_length" X.env (eval e X.env) = eval e X.env := by rfl) (hline : (p2.endLine == p3.line) = true := by rfl) :
    SE X (.Call (.Attribute e "bit_length" p2) [] [] p3) (fUn gBits f) := fun F₀ H₀ =>
  PE.weak (pe_bm0 PySem.F.plainAttrs_int PySem.F.slot_int_bit_length PySem.F.type_int_bit_length mt_bits (he F₀ H₀) hbase hline) fun σ H Q ⟨F, τ, t, τ', E, e1, q⟩ => by
    obtain ⟨⟨x, τ1⟩, e2, e1⟩ := bind_some e1
    obtain ⟨z, e4, e1⟩ := bind_some e1
    cases e1
    refine ⟨F, τ, x, _, E, e2, fun F1 H1 v1 E1 s1 r1 => ?_⟩
    dsimp only at e4
    unfold gBits at e4
    split at e4
    · cases e4; cases r1
      exact ⟨rfl, _, rfl, rfl, q F1 H1 _ E1 s1 rfl⟩
    · cases e4
/-! ### a module's whole number -/
theorem se_globI {x : Str} {i : Int} {t : Tok} {pos : Pos} (hg : Gl X x) (hm : X.mg x = some (.int i t)) (hd : (x == ("__debug__" : Str)) = false := by decide) : SE X (.Name x pos) (fC (.int i)) := se_const (pe_glob (v := .int i) hg hm ⟨_, rfl⟩ hd) fun _ => rfl
/-! ### walking a list or a tuple -/
def fiSeq (f : FE) : FA := fun τ => (f τ).bind fun p => match p.1 with | .lst ts => some (ts, p.2) | .scr ts => some (ts, p.2) | .tup ts => some (ts, p.2) | _ => none
theorem si_seq {tg l : Expr} {f : FE} (h : SE X l f) : SI X tg l (fiSeq f) := by
  intro F₀ H₀ pins s σ H R I ⟨F, τ, ts, τ', E, e1, q⟩
  obtain ⟨⟨x, τ1⟩, e2, e1⟩ := bind_some e1
  dsimp only at e1
  split at e1
  · exact si_list h F₀ H₀ pins s σ H R I ⟨F, τ, ts, τ', E, by unfold fiSeqL; rw [e2]; exact e1, q⟩
  · exact si_list h F₀ H₀ pins s σ H R I ⟨F, τ, ts, τ', E, by unfold fiSeqL; rw [e2]; exact e1, q⟩
  · exact si_tup h F₀ H₀ pins s σ H R I ⟨F, τ, ts, τ', E, by unfold fiSeqT; rw [e2]; exact e1, q⟩
  · cases e1
end
theorem fnok_of {P : Program} {w : World} {K : PySem.W.Frag} {mg : Str → Option Value} {base : Heap} {x qual : Str} {st : Stmt} {f : Addr} {fd : FuncData} {N ps : List Str} {k : Nat} {fb : FS} (F : Fun K x qual st f fd) (S : FnScope N ps (defScope st))
    (h : ∀ (cdv : Value) (A : Around) (outer : List Env) (s : Shared) (H : Hp) (E : XK), Room k (A.deeper (envOfC qual (defScope st) s.heap.objs.size f cdv)) → SSs (cxOf CX0 P w K mg base N qual (defScope st) f cdv A outer s H E).nox (defBody st) fb) :
    FnOk P w K mg base CX0 (k + 1) f fd ps (spT K ps.length (dOf N.length ps.length fb)) := by
  refine F.ok S (fun vs H Q E z => z.1) (fun cdv A outer s H vs Q E hr z => ?_)
  obtain ⟨hl, F1, ts, t, sm, r, e, q⟩ := z
  unfold dOf at e
  split at e
  · next hn =>
    obtain ⟨r', e1, e⟩ := bind_some e
    refine ⟨_, h cdv A outer s H E hr F1 H, F1, _, r', ?_, e1, ?_⟩
    · have := env_start (N := N) sm r
      rw [hn] at this
      exact this
    · cases r' with
      | rt u => cases e; exact fun F' H' v g r' => q F' H' v g r'
      | nx τ => cases e; exact fun F' H' σ' E' s' => q F' H' .non E'.g rfl
      | bk τ => cases e
      | ct τ => cases e
  · cases e
end TM

set_option Elab.async false
set_option linter.all false
set_option maxRecDepth 100000
namespace TM
open PySem PySem.Spec PyProof.Rows L2
theorem SS.any {X : Cx} {st : Stmt} {fs : FS} (h : SS X st fs) : PS X st (fun D σ H => ∃ F₀ H₀, tS X.K F₀ H₀ fs D σ H) := fun pins s σ H D I ⟨F₀, H₀, q⟩ => h F₀ H₀ pins s σ H D I q
/-! ### a list of lists that nobody else holds, while it is changed -/
structure Held (K : PySem.W.Frag) (F0 H0 F H : Hp) (p : Addr) (os : List O) (A : List Addr) : Prop where
  g : Grow F0 H0 F H
  r : ORep K F H (.lst os) (.ref p) A
  nd : A.Nodup
  h0 : ∀ a ∈ A, H0 a = none
section
variable {K : PySem.W.Frag} {F0 H0 F H F1 H1 : Hp} {p : Addr} {os : List O} {A : List Addr}
theorem Held.hp (S : Held K F0 H0 F H p os A) (s : Same H H1) : Held K F0 H0 F H1 p os A :=
  ⟨⟨S.g.sF, S.g.sH.trans s, S.g.fh.trans s, S.g.nw⟩, ORep.move (Same.refl _) (fun a ha => by obtain ⟨f1, ws, f2⟩ := S.r.at a ha; exact ⟨by rw [s _ _ f2, f2], f1⟩) S.r, S.nd, S.h0⟩
theorem Held.over (S : Held K F0 H0 F H p os A) (g : Grow F H F1 H1) : Held K F0 H0 F1 H1 p os A := ⟨S.g.trans g, S.r.over g, S.nd, S.h0⟩
theorem Held.root (S : Held K F0 H0 F H p os A) : ∃ vs B, A = p :: B ∧ H p = some (.lst vs) ∧ F p = none ∧ OReps K F H os vs B := by
  obtain ⟨p', vs, B, e, rfl, h1, h2, h3⟩ := S.r
  cases e
  exact ⟨vs, B, rfl, h1, h2, h3⟩
theorem Held.fin (S : Held K F0 H0 F H p os A) : ∃ F', Grow F0 H0 F' H ∧ Rep K F' (.lst (O.trs os)) (.ref p) :=
  ⟨frzO F H A, S.g.frzO (fun a ha => (S.r.at a ha).1) S.h0, S.r.frz⟩
/-- as it looks to one who only reads -/
theorem Held.view (S : Held K F0 H0 F H p os A) : ∃ FF, Grow F0 H0 FF H ∧ Rep K FF (.lst (O.trs os)) (.ref p) ∧ ∀ (k : Nat) o vs w, os[k]? = some o → H p = some (.lst vs) → vs[k]? = some w → Rep K FF o.tr w := by
  refine ⟨frzO F H A, S.g.frzO (fun a ha => (S.r.at a ha).1) S.h0, S.r.frz, fun k o vs w e1 e2 e3 => ?_⟩
  obtain ⟨vs', B, rfl, h1, h2, h3⟩ := S.root
  rw [e2] at h1; cases h1
  obtain ⟨ws, v, xs, B1, C, D, rfl, rfl, rfl, g1, g2, g3⟩ := h3.split e1
  rw [List.getElem?_append_right (Nat.le_refl _), Nat.sub_self, List.getElem?_cons_zero] at e3
  cases e3
  refine ORep.rep (frzO_same fun a ha => (S.r.at a ha).1) (fun a ha => frzO_in ?_) g2
  exact List.mem_cons_of_mem _ (List.mem_append_right _ (List.mem_append_left _ ha))
theorem set_mid {α : Type} (a : List α) (x y : α) (b : List α) : (a ++ x :: b).set a.length y = a ++ y :: b := by
  rw [List.set_append_right _ _ (Nat.le_refl _), Nat.sub_self, List.set_cons_zero]
theorem set_cut {os : List O} {j : Nat} {o : O} (o' : O) (e : os[j]? = some o) : os.set j o' = os.take j ++ ([o'] ++ os.drop (j + 1)) := by
  rw [List.set_eq_take_append_cons_drop, if_pos (List.getElem?_eq_some_iff.mp e).1]
  rfl
/-- one thing of it is put anew -/
theorem Held.put (S : Held K F0 H0 F H p os A) {j : Nat} {o : O} {vs : List V} {t : T} {v : V} (e : os[j]? = some o) (hp : H p = some (.lst vs)) (r : Rep K F t v) : ∃ A', Held K F0 H0 F (upd H p (.lst (vs.set j v))) p (os.set j (.val t)) A' := by
  obtain ⟨vs', B, rfl, h1, h2, h3⟩ := S.root
  rw [hp] at h1; cases h1
  obtain ⟨ws, v0, xs, B1, C, D, rfl, rfl, rfl, g1, g2, g3⟩ := h3.split e
  have nd := List.nodup_cons.mp S.nd
  have mv : ∀ {us : List O} {zs : List V} {E : List Addr}, (∀ a ∈ E, a ∈ B1 ++ (C ++ D)) → OReps K F H us zs E → OReps K F (upd H p (.lst ((ws ++ v0 :: xs).set ws.length v))) us zs E := fun sub h => OReps.move (Same.refl _) (fun a ha => ⟨upd_ne (fun z => nd.1 (z ▸ sub a ha)), (h.at a ha).1⟩) h
  have s1 : ∀ a ∈ B1, a ∈ B1 ++ (C ++ D) := fun a ha => List.mem_append_left _ ha
  have s2 : ∀ a ∈ D, a ∈ B1 ++ (C ++ D) := fun a ha => List.mem_append_right _ (List.mem_append_right _ ha)
  have p0 : H0 p = none := S.h0 p List.mem_cons_self
  refine ⟨p :: (B1 ++ ([] ++ D)), ⟨⟨S.g.sF, fun a o' ha => ?_, fun a o' ha => ?_, S.g.nw⟩, ⟨p, _, _, rfl, rfl, upd_same, h2, ?_⟩, ?_, fun a ha => ?_⟩⟩
  · rw [upd_ne (fun z => by subst z; rw [p0] at ha; cases ha)]; exact S.g.sH _ _ ha
  · rw [upd_ne (fun z => by subst z; rw [h2] at ha; cases ha)]; exact S.g.fh _ _ ha
  · rw [set_cut (.val t) e]
    have all := (mv s1 g1).app ((OReps.one (K := K) (F := F) (H := upd H p (.lst ((ws ++ v0 :: xs).set ws.length v))) (o := .val t) ⟨rfl, r⟩).app (mv s2 g3))
    have e2 : (ws ++ v0 :: xs).set ws.length v = ws ++ ([v] ++ xs) := set_mid ws v0 v xs
    rw [← e2] at all
    exact all
  · refine List.nodup_cons.mpr ⟨fun m => nd.1 ?_, ?_⟩
    · rcases List.mem_append.mp m with m | m
      · exact s1 _ m
      · exact s2 _ m
    · rw [List.nil_append]
      obtain ⟨n1, n2, n3⟩ := List.nodup_append.mp nd.2
      obtain ⟨n4, n5, n6⟩ := List.nodup_append.mp n2
      exact List.nodup_append.mpr ⟨n1, n5, fun a ha b hb => n3 a ha b (List.mem_append_right _ hb)⟩
  · rcases List.mem_cons.mp ha with rfl | ha
    · exact p0
    · refine S.h0 a (List.mem_cons_of_mem _ ?_)
      rcases List.mem_append.mp ha with m | m
      · exact s1 _ m
      · exact s2 _ m
/-- one thing more -/
theorem Held.more (S : Held K F0 H0 F H p os A) {vs : List V} {t : T} {v : V} (hp : H p = some (.lst vs)) (r : Rep K F t v) : Held K F0 H0 F (upd H p (.lst (vs ++ [v]))) p (os ++ [.val t]) A := by
  obtain ⟨vs', B, rfl, h1, h2, h3⟩ := S.root
  rw [hp] at h1; cases h1
  have nd := List.nodup_cons.mp S.nd
  have p0 : H0 p = none := S.h0 p List.mem_cons_self
  refine ⟨⟨S.g.sF, fun a o' ha => ?_, fun a o' ha => ?_, S.g.nw⟩, ⟨p, _, _, rfl, rfl, upd_same, h2, ?_⟩, S.nd, S.h0⟩
  · rw [upd_ne (fun z => by subst z; rw [p0] at ha; cases ha)]; exact S.g.sH _ _ ha
  · rw [upd_ne (fun z => by subst z; rw [h2] at ha; cases ha)]; exact S.g.fh _ _ ha
  · have m1 : OReps K F (upd H p (.lst (vs ++ [v]))) os vs B := OReps.move (Same.refl _) (fun a ha => ⟨upd_ne (fun z => nd.1 (z ▸ ha)), (h3.at a ha).1⟩) h3
    have all := m1.app (OReps.one (K := K) (F := F) (H := upd H p (.lst (vs ++ [v]))) (o := .val t) ⟨rfl, r⟩)
    rw [List.append_nil] at all
    exact all
def allVal : List O → Bool
  | [] => true
  | .val _ :: r => allVal r
  | _ :: _ => false
theorem OReps.plain : ∀ {ro : List O} {ws : List V} {C : List Addr}, allVal ro = true → OReps K F H ro ws C → C = [] ∧ Reps K F (O.trs ro) ws
  | [], ws, C, _, h => ⟨h.2, h.1⟩
  | .val t :: r, ws, C, ha, h => by
    obtain ⟨v, q, B, D, rfl, rfl, ⟨rfl, h1⟩, h2⟩ := h
    obtain ⟨rfl, h3⟩ := OReps.plain (ro := r) ha h2
    exact ⟨rfl, v, q, rfl, h1, h3⟩
  | .lst _ :: r, ws, C, ha, h => by cases ha
/-- one of its rows, as it lies in the heap -/
theorem Held.row (S : Held K F0 H0 F H p os A) {j : Nat} {ro : List O} (e : os[j]? = some (.lst ro)) (ha : allVal ro = true) : ∃ vs q ws, H p = some (.lst vs) ∧ vs[j]? = some (.ref q) ∧ H q = some (.lst ws) ∧ Reps K F (O.trs ro) ws ∧ vs.length = os.length := by
  obtain ⟨vs, B, rfl, h1, h2, h3⟩ := S.root
  have hl := h3.length
  obtain ⟨ws, v0, xs, B1, C, D, rfl, rfl, rfl, g1, ⟨q, zs, C', rfl, rfl, k1, k2, k3⟩, g3⟩ := h3.split e
  obtain ⟨rfl, k4⟩ := k3.plain ha
  exact ⟨_, q, zs, h1, by rw [List.getElem?_append_right (Nat.le_refl _), Nat.sub_self, List.getElem?_cons_zero], k1, k4, hl⟩
/-- one of its rows is changed -/
theorem Held.turn (S : Held K F0 H0 F H p os A) {j : Nat} {ro : List O} {vs : List V} {q : Addr} {ts : List T} {ws : List V} (e : os[j]? = some (.lst ro)) (ha : allVal ro = true) (hp : H p = some (.lst vs)) (hq : vs[j]? = some (.ref q)) (r : Reps K F ts ws) :
    Held K F0 H0 F (upd H q (.lst ws)) p (os.set j (.lst (ts.map O.val))) A := by
  obtain ⟨vs', B, rfl, h1, h2, h3⟩ := S.root
  rw [hp] at h1; cases h1
  obtain ⟨us, v0, xs, B1, C, D, rfl, rfl, rfl, g1, ⟨q', zs, C', rfl, rfl, k1, k2, k3⟩, g3⟩ := h3.split e
  rw [List.getElem?_append_right (Nat.le_refl _), Nat.sub_self, List.getElem?_cons_zero] at hq
  cases hq
  obtain ⟨rfl, k4⟩ := k3.plain ha
  have nd := List.nodup_cons.mp S.nd
  obtain ⟨n1, n2, n3⟩ := List.nodup_append.mp nd.2
  obtain ⟨n4, n5, n6⟩ := List.nodup_append.mp n2
  have q0 : H0 q = none := S.h0 q (List.mem_cons_of_mem _ (List.mem_append_right _ (List.mem_append_left _ List.mem_cons_self)))
  have qp : p ≠ q := fun z => nd.1 (z ▸ (List.mem_append_right _ (List.mem_append_left _ List.mem_cons_self)))
  have mv : ∀ {us : List O} {zs : List V} {E : List Addr}, (∀ a ∈ E, a ≠ q) → OReps K F H us zs E → OReps K F (upd H q (.lst ws)) us zs E := fun sub h => OReps.move (Same.refl _) (fun a ha => ⟨upd_ne (sub a ha), (h.at a ha).1⟩) h
  have s1 : ∀ a ∈ B1, a ≠ q := fun a ha => n3 a ha q (List.mem_append_left _ List.mem_cons_self)
  have s2 : ∀ a ∈ D, a ≠ q := fun a ha z => n6 q List.mem_cons_self a ha z.symm
  refine ⟨⟨S.g.sF, fun a o' ha => ?_, fun a o' ha => ?_, S.g.nw⟩, ⟨p, _, _, rfl, rfl, (upd_ne qp).trans hp, h2, ?_⟩, S.nd, S.h0⟩
  · rw [upd_ne (fun z => by subst z; rw [q0] at ha; cases ha)]; exact S.g.sH _ _ ha
  · rw [upd_ne (fun z => by subst z; rw [k2] at ha; cases ha)]; exact S.g.fh _ _ ha
  · rw [set_cut _ e]
    exact (mv s1 g1).app ((OReps.one (K := K) (F := F) (H := upd H q (.lst ws)) (o := .lst (ts.map O.val)) ⟨q, ws, [], rfl, rfl, upd_same, k2, .vals r⟩).app (mv s2 g3))
theorem trs_vals : ∀ (ts : List T), O.trs (ts.map O.val) = ts
  | [] => rfl
  | t :: ts => by rw [List.map_cons, O.trs, trs_vals ts]; rfl
theorem trs_app : ∀ (a b : List O), O.trs (a ++ b) = O.trs a ++ O.trs b
  | [], _ => rfl
  | o :: a, b => by rw [List.cons_append, O.trs, trs_app a b, O.trs]; rfl
theorem trs_set : ∀ (a : List O) (j : Nat) (o : O), O.trs (a.set j o) = (O.trs a).set j o.tr
  | [], _, _ => rfl
  | x :: a, 0, o => rfl
  | x :: a, j + 1, o => by rw [List.set_cons_succ, O.trs, trs_set a j o, O.trs, List.set_cons_succ]
theorem trs_get : ∀ (a : List O) (j : Nat), (O.trs a)[j]? = (a[j]?).map O.tr
  | [], j => by simp [O.trs]
  | x :: a, 0 => by simp [O.trs]
  | x :: a, j + 1 => by simp [O.trs, trs_get a j]
theorem trs_len : ∀ (a : List O), (O.trs a).length = a.length
  | [] => rfl
  | x :: a => by simp [O.trs, trs_len a]
end
end TM

set_option Elab.async false
set_option linter.all false
set_option maxRecDepth 100000
namespace My
open PySem PySem.Spec PyProof.Rows L2 TM
def top (i : Nat) : Stmt := PySem.Challenge.pw_echohouse_k05_rows_of_any_thing.main.body.getD i (.Pass ⟨0, 0, 0, 0⟩)
abbrev s_common : Stmt := top 3
def b_common (n : Nat) (d_half : List T → Option T) : FS :=
    (fSeq (fPar 0 1 (fCons (fCall dAbs (fCons (fVar 0) fNil)) (fCons (fCall dAbs (fCons (fVar 1) fNil)) fNil)))
    (fSeq (whileT (fTB (fOp gGt (fUn gBits (fVar 1)) (fC (.int 4000)))) (fSeq (fPar 0 1 (fCons (fVar 1) (fCons (fOp gMod (fVar 0) (fVar 1)) fNil)))
    (fIfS (fTB (fOp gGt (fUn gBits (fVar 1)) (fC (.int 4000)))) (fAsg (fCall d_half (fCons (fVar 0) (fCons (fVar 1) fNil))) (gnTup (gnCons (gnName 0) (gnCons (gnName 1) (gnCons (gnName 2) gnNil))))) fNext)) n)
    (fSeq (whileT (fTB (fOp gNe (fVar 1) (fC (.int 0)))) (fPar 0 1 (fCons (fVar 1) (fCons (fOp gMod (fVar 0) (fVar 1)) fNil))) n)
    (fRet (fVar 0)))))
theorem sc_common : FnScope ["one", "other", "factors"] ["one", "other"] (defScope s_common) := ⟨rfl, rfl, rfl, by decide +kernel, rfl, by decide +kernel, by decide +kernel⟩
set_option maxHeartbeats 4000000 in
theorem ok_common {P : Program} {w : World} {K : PySem.W.Frag} {mg : Str → Option Value} {base : Heap} {k : Nat} {f : Addr} {fd : FuncData} {d_half : List T → Option T} {t_SHORT : Tok} (n : Nat) (F : Fun K "common" "common" s_common f fd) (hb : Binds K fd ["one", "other"] []) (hm : mg "common" = some (.ref f)) (D_half : Def P w K mg base k "half" 2 d_half) (m_abs : mg "abs" = none) (g_SHORT : mg "SHORT" = some (.int 4000 t_SHORT)) :
    Def P w K mg base (k + 1) "common" 2 (dOf 3 2 (b_common n d_half)) :=
  def_of F sc_common hb hm fun cdv A outer s H E hr => (sss_cons (ss_par rfl sc_common.nd rfl rfl (by decide) rfl rfl (sa_cons (se_callB ct_abs rfl m_abs rfl (sa_cons (se_var 0 (pv 0)) sa_nil)) (sa_cons (se_callB ct_abs rfl m_abs rfl (sa_cons (se_var 1 (pv 1)) sa_nil)) sa_nil)) rfl)
    (sss_cons (ss_while n PassesOwn.never (st_cmp ot_gt (se_bits (se_var 1 (pv 1))) (se_globI rfl g_SHORT) (nomark _)) (sss_cons (ss_par rfl sc_common.nd rfl rfl (by decide) rfl rfl (sa_cons (se_var 1 (pv 1)) (sa_cons (se_op ot_mod (se_var 0 (pv 0)) (se_var 1 (pv 1))) sa_nil)) rfl)
    (sss_one (ss_if (st_cmp ot_gt (se_bits (se_var 1 (pv 1))) (se_globI rfl g_SHORT) (nomark _)) (sss_one (ss_asg (se_call D_half hr rfl (sa_cons (se_var 0 (pv 0)) (sa_cons (se_var 1 (pv 1)) sa_nil)) (len_cons (len_cons len_nil))) (sg_tup rfl (sgs_cons (sg_name 0 sc_common.nd rfl (Or.inl rfl)) (sgs_cons (sg_name 1 sc_common.nd rfl (Or.inl rfl)) (sgs_cons (sg_name 2 sc_common.nd rfl (Or.inl rfl)) sgs_nil))) (gl_cons (gl_cons (gl_cons gl_nil)))))) sss_nil))))
    (sss_cons (ss_while n PassesOwn.never (st_cmp (ot_ne hr.units) (se_var 1 (pv 1)) se_int (nomark _)) (sss_one (ss_par rfl sc_common.nd rfl rfl (by decide) rfl rfl (sa_cons (se_var 1 (pv 1)) (sa_cons (se_op ot_mod (se_var 0 (pv 0)) (se_var 1 (pv 1))) sa_nil)) rfl)))
    (sss_one (ss_ret (se_var 0 (pv 0)))))))
abbrev s_half : Stmt := top 4
abbrev s_stepped : Stmt := top 5
abbrev s_step : Stmt := top 6
abbrev s_upper_half : Stmt := top 7
abbrev s_factors_joined : Stmt := top 8
abbrev s_is_whole : Stmt := top 10
def b_is_whole : FS :=
    (fRet (fAndV (fCall dIsi (fCons (fVar 0) (fCons (fC (.ty "int")) fNil))) (fUn gNot (fCall dIsi (fCons (fVar 0) (fCons (fC (.ty "bool")) fNil))))))
theorem sc_is_whole : FnScope ["thing"] ["thing"] (defScope s_is_whole) := ⟨rfl, rfl, rfl, by decide +kernel, rfl, by decide +kernel, by decide +kernel⟩
set_option maxHeartbeats 4000000 in
theorem ok_is_whole {P : Program} {w : World} {K : PySem.W.Frag} {mg : Str → Option Value} {base : Heap} {k : Nat} {f : Addr} {fd : FuncData} (F : Fun K "is_whole" "is_whole" s_is_whole f fd) (hb : Binds K fd ["thing"] []) (hm : mg "is_whole" = some (.ref f)) (m_int : mg "int" = none) (m_isinstance : mg "isinstance" = none) (m_bool : mg "bool" = none) :
    Def P w K mg base (k + 1) "is_whole" 1 (dOf 1 1 (b_is_whole)) :=
  def_of F sc_is_whole hb hm fun cdv A outer s H E hr => (sss_one (ss_ret (se_and (se_callB ct_isi rfl m_isinstance rfl (sa_cons (se_var 0 (pv 0)) (sa_cons (se_ty rfl m_int rfl) sa_nil))) (se_one (se_not (se_callB ct_isi rfl m_isinstance rfl (sa_cons (se_var 0 (pv 0)) (sa_cons (se_ty rfl m_bool rfl) sa_nil))))))))
abbrev s_is_fraction : Stmt := top 11
def b_is_fraction (d_is_whole d_common : List T → Option T) : FS :=
    (fSeq (fIfS (fOr (fNot (fTru (fCall dIsi (fCons (fVar 0) (fCons (fC (.ty "tuple")) fNil))))) (fTB (fOp gNe (fCall dLen (fCons (fVar 0) fNil)) (fC (.int 2))))) (fRet (fC (.bl false))) fNext)
    (fSeq (fAsg (fVar 0) (gnTup (gnCons (gnName 1) (gnCons (gnName 2) gnNil))))
    (fRet (fAndV (fCall d_is_whole (fCons (fVar 1) fNil)) (fAndV (fCall d_is_whole (fCons (fVar 2) fNil)) (fAndV (fOp gGe (fVar 2) (fC (.int 1))) (fOp gEq (fCall d_common (fCons (fVar 1) (fCons (fVar 2) fNil))) (fC (.int 1)))))))))
theorem sc_is_fraction : FnScope ["thing", "top", "bottom"] ["thing"] (defScope s_is_fraction) := ⟨rfl, rfl, rfl, by decide +kernel, rfl, by decide +kernel, by decide +kernel⟩
set_option maxHeartbeats 4000000 in
theorem ok_is_fraction {P : Program} {w : World} {K : PySem.W.Frag} {mg : Str → Option Value} {base : Heap} {k : Nat} {f : Addr} {fd : FuncData} {d_is_whole : List T → Option T} {d_common : List T → Option T} (F : Fun K "is_fraction" "is_fraction" s_is_fraction f fd) (hb : Binds K fd ["thing"] []) (hm : mg "is_fraction" = some (.ref f)) (D_is_whole : Def P w K mg base k "is_whole" 1 d_is_whole) (D_common : Def P w K mg base k "common" 2 d_common) (m_tuple : mg "tuple" = none) (m_isinstance : mg "isinstance" = none) (m_len : mg "len" = none) :
    Def P w K mg base (k + 1) "is_fraction" 1 (dOf 3 1 (b_is_fraction d_is_whole d_common)) :=
  def_of F sc_is_fraction hb hm fun cdv A outer s H E hr => (sss_cons (ss_if (SW.st (sw_or (st_not (st_val (se_callB ct_isi rfl m_isinstance rfl (sa_cons (se_var 0 (pv 0)) (sa_cons (se_ty rfl m_tuple rfl) sa_nil))))) (sw_or1 (st_cmp (ot_ne hr.units) (se_callB ct_len rfl m_len PySem.boot_len (sa_cons (se_var 0 (pv 0)) sa_nil)) se_int (nomark _))))) (sss_one (ss_ret se_bl)) sss_nil)
    (sss_cons (ss_asg (se_var 0 (pv 0)) (sg_tup rfl (sgs_cons (sg_name 1 sc_is_fraction.nd rfl (Or.inl rfl)) (sgs_cons (sg_name 2 sc_is_fraction.nd rfl (Or.inl rfl)) sgs_nil)) (gl_cons (gl_cons gl_nil))))
    (sss_one (ss_ret (se_and (se_call D_is_whole hr rfl (sa_cons (se_var 1 (pv 1)) sa_nil) (len_cons len_nil)) (se_and (se_call D_is_whole hr rfl (sa_cons (se_var 2 (pv 2)) sa_nil) (len_cons len_nil)) (se_and (se_cmp ot_ge (se_var 2 (pv 2)) se_int (nomark _)) (se_one (se_cmp (ot_eq hr.units) (se_call D_common hr rfl (sa_cons (se_var 1 (pv 1)) (sa_cons (se_var 2 (pv 2)) sa_nil)) (len_cons (len_cons len_nil))) se_int (nomark _))))))))))
theorem nd_is_row_0 : (["number"] : List Str).Nodup := by decide +kernel
abbrev s_is_row : Stmt := top 13
def b_is_row (d_is_fraction : List T → Option T) : FS :=
    (fRet (fAndV (fCall dIsi (fCons (fVar 0) (fCons (fC (.ty "list")) fNil))) (fAndV (fOp gEq (fCall dLen (fCons (fVar 0) fNil)) (fVar 1)) (fCall dAll (fCons (fComp 1 [] (fiSeq (fVar 0)) (gnName 0) fAlways (fCall d_is_fraction (fCons (fVar 0) fNil))) fNil)))))
theorem sc_is_row : FnScope ["thing", "many"] ["thing", "many"] (defScope s_is_row) := ⟨rfl, rfl, rfl, by decide +kernel, rfl, by decide +kernel, by decide +kernel⟩
set_option maxHeartbeats 4000000 in
theorem ok_is_row {P : Program} {w : World} {K : PySem.W.Frag} {mg : Str → Option Value} {base : Heap} {k : Nat} {f : Addr} {fd : FuncData} {d_is_fraction : List T → Option T} (F : Fun K "is_row" "is_row" s_is_row f fd) (hb : Binds K fd ["thing", "many"] []) (hm : mg "is_row" = some (.ref f)) (D_is_fraction : Def P w K mg base k "is_fraction" 1 d_is_fraction) (m_list : mg "list" = none) (m_isinstance : mg "isinstance" = none) (m_len : mg "len" = none) (m_all : mg "all" = none) :
    Def P w K mg base (k + 1) "is_row" 2 (dOf 2 2 (b_is_row d_is_fraction)) :=
  def_of F sc_is_row hb hm fun cdv A outer s H E hr => (sss_one (ss_ret (se_and (se_callB ct_isi rfl m_isinstance rfl (sa_cons (se_var 0 (pv 0)) (sa_cons (se_ty rfl m_list rfl) sa_nil))) (se_and (se_cmp (ot_eq hr.units) (se_callB ct_len rfl m_len PySem.boot_len (sa_cons (se_var 0 (pv 0)) sa_nil)) (se_var 1 (pv 1)) (nomark _)) (se_one (se_callB (ct_all rfl) rfl m_all rfl (sa_cons (se_comp (N' := ["number"]) (no := 1) (cap := []) rfl rfl (blkScope_of rfl) rfl (cap_of rfl) (si_seq (se_var 0 (pv 0))) (fun _ _ _ _ _ _ => (sg_name 0 nd_is_row_0 rfl (Or.inl rfl))) (fun _ _ _ _ _ _ => sts_nil) (fun _ _ _ _ _ _ => (se_call D_is_fraction hr rfl (sa_cons (se_var 0 (pv 0)) sa_nil) (len_cons len_nil)))) sa_nil)))))))
theorem nd_is_table_0 : (["row", "wide"] : List Str).Nodup := by decide +kernel
abbrev s_is_table : Stmt := top 14
def b_is_table (d_is_row : List T → Option T) : FS :=
    (fRet (fAndV (fCall dIsi (fCons (fVar 0) (fCons (fC (.ty "list")) fNil))) (fAndV (fOp gEq (fCall dLen (fCons (fVar 0) fNil)) (fVar 1)) (fCall dAll (fCons (fComp 1 [2] (fiSeq (fVar 0)) (gnName 0) fAlways (fCall d_is_row (fCons (fVar 0) (fCons (fVar 1) fNil)))) fNil)))))
theorem sc_is_table : FnScope ["thing", "many", "wide"] ["thing", "many", "wide"] (defScope s_is_table) := ⟨rfl, rfl, rfl, by decide +kernel, rfl, by decide +kernel, by decide +kernel⟩
set_option maxHeartbeats 4000000 in
theorem ok_is_table {P : Program} {w : World} {K : PySem.W.Frag} {mg : Str → Option Value} {base : Heap} {k : Nat} {f : Addr} {fd : FuncData} {d_is_row : List T → Option T} (F : Fun K "is_table" "is_table" s_is_table f fd) (hb : Binds K fd ["thing", "many", "wide"] []) (hm : mg "is_table" = some (.ref f)) (D_is_row : Def P w K mg base k "is_row" 2 d_is_row) (m_list : mg "list" = none) (m_isinstance : mg "isinstance" = none) (m_len : mg "len" = none) (m_all : mg "all" = none) :
    Def P w K mg base (k + 1) "is_table" 3 (dOf 3 3 (b_is_table d_is_row)) :=
  def_of F sc_is_table hb hm fun cdv A outer s H E hr => (sss_one (ss_ret (se_and (se_callB ct_isi rfl m_isinstance rfl (sa_cons (se_var 0 (pv 0)) (sa_cons (se_ty rfl m_list rfl) sa_nil))) (se_and (se_cmp (ot_eq hr.units) (se_callB ct_len rfl m_len PySem.boot_len (sa_cons (se_var 0 (pv 0)) sa_nil)) (se_var 1 (pv 1)) (nomark _)) (se_one (se_callB (ct_all rfl) rfl m_all rfl (sa_cons (se_comp (N' := ["row", "wide"]) (no := 1) (cap := [2]) rfl rfl (blkScope_of rfl) rfl (cap_of rfl) (si_seq (se_var 0 (pv 0))) (fun _ _ _ _ _ _ => (sg_name 0 nd_is_table_0 rfl (Or.inl rfl))) (fun _ _ _ _ _ _ => sts_nil) (fun _ _ _ _ _ _ => (se_call D_is_row hr rfl (sa_cons (se_var 0 (pv 0)) (sa_cons (se_var 1 (pv 1)) sa_nil)) (len_cons (len_cons len_nil))))) sa_nil)))))))
abbrev s__law_cell : Stmt := top 16
def b__law_cell : FS :=
    (fSeq (fIfS (fTB (fOp gLt (fVar 1) (fCall dLen (fCons (fVar 0) fNil)))) (fRet (fOp gIx (fVar 0) (fVar 1))) fNext)
    (fSeq (fSet 2 (fOp gAdd (fOp gMulI (fC (.int 7919)) (fVar 1)) (fC (.int 5))))
    (fSeq (fIfS (fTB (fOp gGt (fCall dLen (fCons (fVar 0) fNil)) (fC (.int 0)))) (fSet 2 (fOp gMod (fOp gAdd (fOp gIx (fVar 0) (fOp gMod (fOp gMulI (fC (.int 7)) (fVar 1)) (fCall dLen (fCons (fVar 0) fNil)))) (fOp gMulI (fC (.int 7919)) (fVar 1))) (fC (.int 2147483647)))) fNext)
    (fRet (fOp gMod (fOp gMulI (fVar 2) (fVar 2)) (fC (.int 2147483629)))))))
theorem sc__law_cell : FnScope ["_law_script", "_law_k", "_law_number_here"] ["_law_script", "_law_k"] (defScope s__law_cell) := ⟨rfl, rfl, rfl, by decide +kernel, rfl, by decide +kernel, by decide +kernel⟩
set_option maxHeartbeats 4000000 in
theorem ok__law_cell {P : Program} {w : World} {K : PySem.W.Frag} {mg : Str → Option Value} {base : Heap} {k : Nat} {f : Addr} {fd : FuncData} (F : Fun K "_law_cell" "_law_cell" s__law_cell f fd) (hb : Binds K fd ["_law_script", "_law_k"] []) (hm : mg "_law_cell" = some (.ref f)) (m_len : mg "len" = none) :
    Def P w K mg base (k + 1) "_law_cell" 2 (dOf 3 2 (b__law_cell)) :=
  def_of F sc__law_cell hb hm fun cdv A outer s H E hr => (sss_cons (ss_if (st_cmp ot_lt (se_var 1 (pv 1)) (se_callB ct_len rfl m_len PySem.boot_len (sa_cons (se_var 0 (pv 0)) sa_nil)) (nomark _)) (sss_one (ss_ret (se_ix xt_ix (se_var 0 (pv 0)) (se_var 1 (pv 1)) (fun _ _ => rfl)))) sss_nil)
    (sss_cons (ss_set 2 sc__law_cell.nd rfl (Or.inl rfl) (se_op ot_add (se_op ot_mulI se_int (se_var 1 (pv 1))) se_int))
    (sss_cons (ss_if (st_cmp ot_gt (se_callB ct_len rfl m_len PySem.boot_len (sa_cons (se_var 0 (pv 0)) sa_nil)) se_int (nomark _)) (sss_one (ss_set 2 sc__law_cell.nd rfl (Or.inl rfl) (se_op ot_mod (se_op ot_add (se_ix xt_ix (se_var 0 (pv 0)) (se_op ot_mod (se_op ot_mulI se_int (se_var 1 (pv 1))) (se_callB ct_len rfl m_len PySem.boot_len (sa_cons (se_var 0 (pv 0)) sa_nil))) (fun _ _ => rfl)) (se_op ot_mulI se_int (se_var 1 (pv 1)))) se_int))) sss_nil)
    (sss_one (ss_ret (se_op ot_mod (se_op ot_mulI (se_var 2 (pv 2)) (se_var 2 (pv 2))) se_int))))))
abbrev s__law_mix : Stmt := top 17
def b__law_mix : FS :=
    (fSeq (fSet 2 (fOp gMod (fOp gAdd (fOp gAdd (fVar 0) (fOp gMulI (fC (.int 7919)) (fVar 1))) (fC (.int 11))) (fC (.int 2147483647))))
    (fSeq (fSet 2 (fOp gMod (fOp gAdd (fOp gMulI (fVar 2) (fVar 2)) (fOp gMulI (fC (.int 48271)) (fVar 1))) (fC (.int 2147483629))))
    (fRet (fOp gMod (fOp gAdd (fOp gAdd (fOp gMulI (fVar 2) (fVar 2)) (fOp gMulI (fC (.int 7)) (fVar 2))) (fVar 1)) (fC (.int 2147483587))))))
theorem sc__law_mix : FnScope ["_law_cell_here", "_law_k", "_law_number_here"] ["_law_cell_here", "_law_k"] (defScope s__law_mix) := ⟨rfl, rfl, rfl, by decide +kernel, rfl, by decide +kernel, by decide +kernel⟩
set_option maxHeartbeats 4000000 in
theorem ok__law_mix {P : Program} {w : World} {K : PySem.W.Frag} {mg : Str → Option Value} {base : Heap} {k : Nat} {f : Addr} {fd : FuncData} (F : Fun K "_law_mix" "_law_mix" s__law_mix f fd) (hb : Binds K fd ["_law_cell_here", "_law_k"] []) (hm : mg "_law_mix" = some (.ref f)) :
    Def P w K mg base (k + 1) "_law_mix" 2 (dOf 3 2 (b__law_mix)) :=
  def_of F sc__law_mix hb hm fun cdv A outer s H E hr => (sss_cons (ss_set 2 sc__law_mix.nd rfl (Or.inl rfl) (se_op ot_mod (se_op ot_add (se_op ot_add (se_var 0 (pv 0)) (se_op ot_mulI se_int (se_var 1 (pv 1)))) se_int) se_int))
    (sss_cons (ss_set 2 sc__law_mix.nd rfl (Or.inl rfl) (se_op ot_mod (se_op ot_add (se_op ot_mulI (se_var 2 (pv 2)) (se_var 2 (pv 2))) (se_op ot_mulI se_int (se_var 1 (pv 1)))) se_int))
    (sss_one (ss_ret (se_op ot_mod (se_op ot_add (se_op ot_add (se_op ot_mulI (se_var 2 (pv 2)) (se_var 2 (pv 2))) (se_op ot_mulI se_int (se_var 2 (pv 2)))) (se_var 1 (pv 1))) se_int)))))
abbrev s__law_digits : Stmt := top 18
def b__law_digits : FS :=
    (fSeq (fSetOwn 3 fNil)
    (fSeq (fFor (fiRng1 (fCons (fVar 2) fNil)) (gnName 4) (fSeq (fApp 3 (fOp gMod (fVar 0) (fVar 1)))
    (fSet 0 (fOp gDiv (fVar 0) (fVar 1)))))
    (fRet (fVar 3))))
theorem sc__law_digits : FnScope ["_law_number_here", "_law_by", "_law_many", "_law_found", "_law_k"] ["_law_number_here", "_law_by", "_law_many"] (defScope s__law_digits) := ⟨rfl, rfl, rfl, by decide +kernel, rfl, by decide +kernel, by decide +kernel⟩
set_option maxHeartbeats 4000000 in
theorem ok__law_digits {P : Program} {w : World} {K : PySem.W.Frag} {mg : Str → Option Value} {base : Heap} {k : Nat} {f : Addr} {fd : FuncData} (F : Fun K "_law_digits" "_law_digits" s__law_digits f fd) (hb : Binds K fd ["_law_number_here", "_law_by", "_law_many"] []) (hm : mg "_law_digits" = some (.ref f)) (m_range : mg "range" = none) :
    Def P w K mg base (k + 1) "_law_digits" 3 (dOf 5 3 (b__law_digits)) :=
  def_of F sc__law_digits hb hm fun cdv A outer s H E hr => (sss_cons (ss_setOwn 3 sc__law_digits.nd rfl (Or.inl rfl) sa_nil)
    (sss_cons (ss_for PassesOwn.never rfl (si_rng1 rfl m_range (sa_cons (se_var 2 (pv 2)) sa_nil)) (sg_name 4 sc__law_digits.nd rfl (Or.inl rfl)) (sss_cons (ss_append 3 (pv 3) (se_op ot_mod (se_var 0 (pv 0)) (se_var 1 (pv 1))))
    (sss_one (ss_set 0 sc__law_digits.nd rfl (Or.inl rfl) (se_op ot_div (se_var 0 (pv 0)) (se_var 1 (pv 1)))))))
    (sss_one (ss_ret (se_var 3 (pv 3))))))
abbrev s__law_frac : Stmt := top 19
def b__law_frac (n : Nat) : FS :=
    (fSeq (fSet 2 (fCall dAbs (fCons (fVar 0) fNil)))
    (fSeq (fSet 3 (fCall dAbs (fCons (fVar 1) fNil)))
    (fSeq (whileT (fTB (fOp gGt (fVar 3) (fC (.int 0)))) (fPar 2 3 (fCons (fVar 3) (fCons (fOp gMod (fVar 2) (fVar 3)) fNil))) n)
    (fSeq (fIfS (fTB (fOp gLt (fVar 1) (fC (.int 0)))) (fSet 2 (fOp gSub (fC (.int 0)) (fVar 2))) fNext)
    (fRet (fTup (fCons (fOp gDiv (fVar 0) (fVar 2)) (fCons (fOp gDiv (fVar 1) (fVar 2)) fNil))))))))
theorem sc__law_frac : FnScope ["_law_top", "_law_bottom", "_law_one", "_law_other"] ["_law_top", "_law_bottom"] (defScope s__law_frac) := ⟨rfl, rfl, rfl, by decide +kernel, rfl, by decide +kernel, by decide +kernel⟩
set_option maxHeartbeats 4000000 in
theorem ok__law_frac {P : Program} {w : World} {K : PySem.W.Frag} {mg : Str → Option Value} {base : Heap} {k : Nat} {f : Addr} {fd : FuncData} (n : Nat) (F : Fun K "_law_frac" "_law_frac" s__law_frac f fd) (hb : Binds K fd ["_law_top", "_law_bottom"] []) (hm : mg "_law_frac" = some (.ref f)) (m_abs : mg "abs" = none) :
    Def P w K mg base (k + 1) "_law_frac" 2 (dOf 4 2 (b__law_frac n)) :=
  def_of F sc__law_frac hb hm fun cdv A outer s H E hr => (sss_cons (ss_set 2 sc__law_frac.nd rfl (Or.inl rfl) (se_callB ct_abs rfl m_abs rfl (sa_cons (se_var 0 (pv 0)) sa_nil)))
    (sss_cons (ss_set 3 sc__law_frac.nd rfl (Or.inl rfl) (se_callB ct_abs rfl m_abs rfl (sa_cons (se_var 1 (pv 1)) sa_nil)))
    (sss_cons (ss_while n PassesOwn.never (st_cmp ot_gt (se_var 3 (pv 3)) se_int (nomark _)) (sss_one (ss_par rfl sc__law_frac.nd rfl rfl (by decide) rfl rfl (sa_cons (se_var 3 (pv 3)) (sa_cons (se_op ot_mod (se_var 2 (pv 2)) (se_var 3 (pv 3))) sa_nil)) rfl)))
    (sss_cons (ss_if (st_cmp ot_lt (se_var 1 (pv 1)) se_int (nomark _)) (sss_one (ss_set 2 sc__law_frac.nd rfl (Or.inl rfl) (se_op ot_sub se_int (se_var 2 (pv 2))))) sss_nil)
    (sss_one (ss_ret (se_tup (sa_cons (se_op ot_div (se_var 0 (pv 0)) (se_var 2 (pv 2))) (sa_cons (se_op ot_div (se_var 1 (pv 1)) (se_var 2 (pv 2))) sa_nil)))))))))
theorem nd__law_some_0 : (["_law_one"] : List Str).Nodup := by decide +kernel
abbrev s__law_some : Stmt := top 20
def b__law_some (d__law_digits d__law_frac d__law_mix : List T → Option T) : FS :=
    (fSeq (fIfS (fTB (fOp gEq (fOp gMod (fVar 0) (fC (.int 2))) (fC (.int 1)))) (fRet (fComp 1 [] (fiSeq (fCall d__law_digits (fCons (fOp gDiv (fVar 0) (fC (.int 2))) (fCons (fC (.int 228)) (fCons (fVar 1) fNil))))) (gnName 0) fAlways (fCall d__law_frac (fCons (fOp gSub (fOp gMod (fVar 0) (fC (.int 19))) (fC (.int 9))) (fCons (fOp gAdd (fC (.int 1)) (fOp gDiv (fVar 0) (fC (.int 19)))) fNil))))) fNext)
    (fSeq (fSetOwn 2 fNil)
    (fSeq (fFor (fiRng1 (fCons (fVar 1) fNil)) (gnName 3) (fSeq (fSet 4 (fCall d__law_mix (fCons (fVar 0) (fCons (fVar 3) fNil))))
    (fSeq (fSetOwn 5 (fCons (fTup (fCons (fC (.int 0)) (fCons (fC (.int 1)) fNil))) (fCons (fTup (fCons (fOp gSub (fOp gMod (fOp gDiv (fVar 4) (fC (.int 4))) (fC (.int 5))) (fC (.int 2))) (fCons (fC (.int 1)) fNil))) (fCons (fCall d__law_frac (fCons (fOp gSub (fOp gMod (fOp gDiv (fVar 4) (fC (.int 4))) (fC (.int 19))) (fC (.int 9))) (fCons (fOp gAdd (fC (.int 1)) (fOp gMod (fOp gDiv (fVar 4) (fC (.int 80))) (fC (.int 12)))) fNil))) fNil))))
    (fApp 2 (fOp gIx (fOp gAdd (fVar 5) (fLst (fCons (fTup (fCons (fC (.int 0)) (fCons (fC (.int 1)) fNil))) (fCons (fTup (fCons (fC (.int 1)) (fCons (fC (.int 1)) fNil))) fNil)))) (fOp gMod (fVar 4) (fC (.int 5))))))))
    (fRet (fVar 2)))))
theorem sc__law_some : FnScope ["_law_cell_here", "_law_many", "_law_found", "_law_k", "_law_number_here", "_law_some_here"] ["_law_cell_here", "_law_many"] (defScope s__law_some) := ⟨rfl, rfl, rfl, by decide +kernel, rfl, by decide +kernel, by decide +kernel⟩
set_option maxHeartbeats 4000000 in
theorem ok__law_some {P : Program} {w : World} {K : PySem.W.Frag} {mg : Str → Option Value} {base : Heap} {k : Nat} {f : Addr} {fd : FuncData} {d__law_digits : List T → Option T} {d__law_frac : List T → Option T} {d__law_mix : List T → Option T} (F : Fun K "_law_some" "_law_some" s__law_some f fd) (hb : Binds K fd ["_law_cell_here", "_law_many"] []) (hm : mg "_law_some" = some (.ref f)) (D__law_digits : Def P w K mg base k "_law_digits" 3 d__law_digits) (D__law_frac : Def P w K mg base k "_law_frac" 2 d__law_frac) (D__law_mix : Def P w K mg base k "_law_mix" 2 d__law_mix) (m_range : mg "range" = none) :
    Def P w K mg base (k + 1) "_law_some" 2 (dOf 6 2 (b__law_some d__law_digits d__law_frac d__law_mix)) :=
  def_of F sc__law_some hb hm fun cdv A outer s H E hr => (sss_cons (ss_if (st_cmp (ot_eq hr.units) (se_op ot_mod (se_var 0 (pv 0)) se_int) se_int (nomark _)) (sss_one (ss_ret (se_comp (N' := ["_law_one"]) (no := 1) (cap := []) rfl rfl (blkScope_of rfl) rfl (cap_of rfl) (si_seq (se_call D__law_digits hr rfl (sa_cons (se_op ot_div (se_var 0 (pv 0)) se_int) (sa_cons se_int (sa_cons (se_var 1 (pv 1)) sa_nil))) (len_cons (len_cons (len_cons len_nil))))) (fun _ _ _ _ _ _ => (sg_name 0 nd__law_some_0 rfl (Or.inl rfl))) (fun _ _ _ _ _ _ => sts_nil) (fun _ _ _ _ _ _ => (se_call D__law_frac hr rfl (sa_cons (se_op ot_sub (se_op ot_mod (se_var 0 (pv 0)) se_int) se_int) (sa_cons (se_op ot_add se_int (se_op ot_div (se_var 0 (pv 0)) se_int)) sa_nil)) (len_cons (len_cons len_nil))))))) sss_nil)
    (sss_cons (ss_setOwn 2 sc__law_some.nd rfl (Or.inl rfl) sa_nil)
    (sss_cons (ss_for PassesOwn.never rfl (si_rng1 rfl m_range (sa_cons (se_var 1 (pv 1)) sa_nil)) (sg_name 3 sc__law_some.nd rfl (Or.inl rfl)) (sss_cons (ss_set 4 sc__law_some.nd rfl (Or.inl rfl) (se_call D__law_mix hr rfl (sa_cons (se_var 0 (pv 0)) (sa_cons (se_var 3 (pv 3)) sa_nil)) (len_cons (len_cons len_nil))))
    (sss_cons (ss_setOwn 5 sc__law_some.nd rfl (Or.inl rfl) (sa_cons (se_tup (sa_cons se_int (sa_cons se_int sa_nil))) (sa_cons (se_tup (sa_cons (se_op ot_sub (se_op ot_mod (se_op ot_div (se_var 4 (pv 4)) se_int) se_int) se_int) (sa_cons se_int sa_nil))) (sa_cons (se_call D__law_frac hr rfl (sa_cons (se_op ot_sub (se_op ot_mod (se_op ot_div (se_var 4 (pv 4)) se_int) se_int) se_int) (sa_cons (se_op ot_add se_int (se_op ot_mod (se_op ot_div (se_var 4 (pv 4)) se_int) se_int)) sa_nil)) (len_cons (len_cons len_nil))) sa_nil))))
    (sss_one (ss_append 2 (pv 2) (se_ix xt_ix (se_op ot_add (se_var 5 (pv 5)) (se_lst (sa_cons (se_tup (sa_cons se_int (sa_cons se_int sa_nil))) (sa_cons (se_tup (sa_cons se_int (sa_cons se_int sa_nil))) sa_nil)))) (se_op ot_mod (se_var 4 (pv 4)) se_int) (fun _ _ => rfl)))))))
    (sss_one (ss_ret (se_var 2 (pv 2)))))))
abbrev s__law_odd : Stmt := top 21
def b__law_odd : FS :=
    (fSeq (fSet 1 (fOp gAdd (fC (.int 1)) (fOp gMod (fOp gDiv (fVar 0) (fC (.int 12))) (fC (.int 9)))))
    (fSeq (fSetOwn 2 (fCons (fTup (fCons (fOp gMulI (fC (.int 2)) (fVar 1)) (fCons (fOp gMulI (fC (.int 4)) (fVar 1)) fNil))) (fCons (fTup (fCons (fVar 1) (fCons (fC (.int 0)) fNil))) (fCons (fTup (fCons (fVar 1) (fCons (fUn gNeg (fC (.int 1))) fNil))) (fCons (fTup (fCons (fC (.bl true)) (fCons (fC (.int 1)) fNil))) (fCons (fVar 1) (fCons (fC (.str "1/2")) (fCons (fC .non) (fCons (fLst (fCons (fVar 1) (fCons (fC (.int 1)) fNil))) (fCons (fTup (fCons (fVar 1) fNil)) fNil))))))))))
    (fRet (fOp gIx (fOp gAdd (fVar 2) (fLst (fCons (fTup (fCons (fVar 1) (fCons (fC (.int 1)) (fCons (fC (.int 1)) fNil)))) (fCons (fTup (fCons (fC (.int 0)) (fCons (fOp gAdd (fC (.int 1)) (fVar 1)) fNil))) (fCons (fTup (fCons (fVar 1) (fCons (fC (.bl true)) fNil))) fNil))))) (fOp gMod (fVar 0) (fC (.int 12)))))))
theorem sc__law_odd : FnScope ["_law_cell_here", "_law_number_here", "_law_some_here"] ["_law_cell_here"] (defScope s__law_odd) := ⟨rfl, rfl, rfl, by decide +kernel, rfl, by decide +kernel, by decide +kernel⟩
set_option maxHeartbeats 4000000 in
theorem ok__law_odd {P : Program} {w : World} {K : PySem.W.Frag} {mg : Str → Option Value} {base : Heap} {k : Nat} {f : Addr} {fd : FuncData} (F : Fun K "_law_odd" "_law_odd" s__law_odd f fd) (hb : Binds K fd ["_law_cell_here"] []) (hm : mg "_law_odd" = some (.ref f)) :
    Def P w K mg base (k + 1) "_law_odd" 1 (dOf 3 1 (b__law_odd)) :=
  def_of F sc__law_odd hb hm fun cdv A outer s H E hr => (sss_cons (ss_set 1 sc__law_odd.nd rfl (Or.inl rfl) (se_op ot_add se_int (se_op ot_mod (se_op ot_div (se_var 0 (pv 0)) se_int) se_int)))
    (sss_cons (ss_setOwn 2 sc__law_odd.nd rfl (Or.inl rfl) (sa_cons (se_tup (sa_cons (se_op ot_mulI se_int (se_var 1 (pv 1))) (sa_cons (se_op ot_mulI se_int (se_var 1 (pv 1))) sa_nil))) (sa_cons (se_tup (sa_cons (se_var 1 (pv 1)) (sa_cons se_int sa_nil))) (sa_cons (se_tup (sa_cons (se_var 1 (pv 1)) (sa_cons (se_un ut_neg se_int) sa_nil))) (sa_cons (se_tup (sa_cons se_bl (sa_cons se_int sa_nil))) (sa_cons (se_var 1 (pv 1)) (sa_cons se_str (sa_cons se_non (sa_cons (se_lst (sa_cons (se_var 1 (pv 1)) (sa_cons se_int sa_nil))) (sa_cons (se_tup (sa_cons (se_var 1 (pv 1)) sa_nil)) sa_nil))))))))))
    (sss_one (ss_ret (se_ix xt_ix (se_op ot_add (se_var 2 (pv 2)) (se_lst (sa_cons (se_tup (sa_cons (se_var 1 (pv 1)) (sa_cons se_int (sa_cons se_int sa_nil)))) (sa_cons (se_tup (sa_cons se_int (sa_cons (se_op ot_add se_int (se_var 1 (pv 1))) sa_nil))) (sa_cons (se_tup (sa_cons (se_var 1 (pv 1)) (sa_cons se_bl sa_nil))) sa_nil))))) (se_op ot_mod (se_var 0 (pv 0)) se_int) (fun _ _ => rfl))))))
abbrev s__law_spoiled : Stmt := top 22
theorem sc__law_spoiled : FnScope ["_law_table_here", "_law_cell_here", "_law_way", "_law_at", "_law_row_here"] ["_law_table_here", "_law_cell_here"] (defScope s__law_spoiled) := ⟨rfl, rfl, rfl, by decide +kernel, rfl, by decide +kernel, by decide +kernel⟩
theorem nd__law_number_0 : (["_law_one"] : List Str).Nodup := by decide +kernel
abbrev s__law_number : Stmt := top 23
def b__law_number (d__law_frac : List T → Option T) : FS :=
    (fSeq (fIfS (fOr (fNot (fTru (fCall dIsi (fCons (fVar 0) (fCons (fC (.ty "tuple")) fNil))))) (fTB (fOp gNe (fCall dLen (fCons (fVar 0) fNil)) (fC (.int 2))))) (fRet (fC (.bl false))) fNext)
    (fSeq (fIfS (fOr (fTB (fOp gGt (fCall dLen (fCons (fComp 1 [] (fiSeq (fVar 0)) (gnName 0) (fOr (fNot (fTru (fCall dIsi (fCons (fVar 0) (fCons (fC (.ty "int")) fNil))))) (fTru (fCall dIsi (fCons (fVar 0) (fCons (fC (.ty "bool")) fNil))))) (fVar 0)) fNil)) (fC (.int 0)))) (fTB (fOp gLt (fOp gIx (fVar 0) (fC (.int 1))) (fC (.int 1))))) (fRet (fC (.bl false))) fNext)
    (fRet (fOp gEq (fCall d__law_frac (fCons (fOp gIx (fVar 0) (fC (.int 0))) (fCons (fOp gIx (fVar 0) (fC (.int 1))) fNil))) (fVar 0)))))
theorem sc__law_number : FnScope ["_law_thing"] ["_law_thing"] (defScope s__law_number) := ⟨rfl, rfl, rfl, by decide +kernel, rfl, by decide +kernel, by decide +kernel⟩
set_option maxHeartbeats 4000000 in
theorem ok__law_number {P : Program} {w : World} {K : PySem.W.Frag} {mg : Str → Option Value} {base : Heap} {k : Nat} {f : Addr} {fd : FuncData} {d__law_frac : List T → Option T} (F : Fun K "_law_number" "_law_number" s__law_number f fd) (hb : Binds K fd ["_law_thing"] []) (hm : mg "_law_number" = some (.ref f)) (D__law_frac : Def P w K mg base k "_law_frac" 2 d__law_frac) (m_tuple : mg "tuple" = none) (m_isinstance : mg "isinstance" = none) (m_len : mg "len" = none) (m_int : mg "int" = none) (m_bool : mg "bool" = none) :
    Def P w K mg base (k + 1) "_law_number" 1 (dOf 1 1 (b__law_number d__law_frac)) :=
  def_of F sc__law_number hb hm fun cdv A outer s H E hr => (sss_cons (ss_if (SW.st (sw_or (st_not (st_val (se_callB ct_isi rfl m_isinstance rfl (sa_cons (se_var 0 (pv 0)) (sa_cons (se_ty rfl m_tuple rfl) sa_nil))))) (sw_or1 (st_cmp (ot_ne hr.units) (se_callB ct_len rfl m_len PySem.boot_len (sa_cons (se_var 0 (pv 0)) sa_nil)) se_int (nomark _))))) (sss_one (ss_ret se_bl)) sss_nil)
    (sss_cons (ss_if (SW.st (sw_or (st_cmp ot_gt (se_callB ct_len rfl m_len PySem.boot_len (sa_cons (se_comp (N' := ["_law_one"]) (no := 1) (cap := []) rfl rfl (blkScope_of rfl) rfl (cap_of rfl) (si_seq (se_var 0 (pv 0))) (fun _ _ _ _ _ _ => (sg_name 0 nd__law_number_0 rfl (Or.inl rfl))) (fun _ _ _ _ _ _ => (sts_one (SW.st (sw_or (st_not (st_val (se_callB ct_isi rfl m_isinstance rfl (sa_cons (se_var 0 (pv 0)) (sa_cons (se_ty rfl m_int rfl) sa_nil))))) (sw_or1 (st_val (se_callB ct_isi rfl m_isinstance rfl (sa_cons (se_var 0 (pv 0)) (sa_cons (se_ty rfl m_bool rfl) sa_nil))))))))) (fun _ _ _ _ _ _ => (se_var 0 (pv 0)))) sa_nil)) se_int (nomark _)) (sw_or1 (st_cmp ot_lt (se_ix xt_ix (se_var 0 (pv 0)) se_int (fun _ _ => rfl)) se_int (nomark _))))) (sss_one (ss_ret se_bl)) sss_nil)
    (sss_one (ss_ret (se_cmp (ot_eq hr.units) (se_call D__law_frac hr rfl (sa_cons (se_ix xt_ix (se_var 0 (pv 0)) se_int (fun _ _ => rfl)) (sa_cons (se_ix xt_ix (se_var 0 (pv 0)) se_int (fun _ _ => rfl)) sa_nil)) (len_cons (len_cons len_nil))) (se_var 0 (pv 0)) (nomark _))))))
theorem nd__law_row_0 : (["_law_number_here"] : List Str).Nodup := by decide +kernel
abbrev s__law_row : Stmt := top 24
def b__law_row (d__law_number : List T → Option T) : FS :=
    (fSeq (fIfS (fOr (fNot (fTru (fCall dIsi (fCons (fVar 0) (fCons (fC (.ty "list")) fNil))))) (fTB (fOp gNe (fCall dLen (fCons (fVar 0) fNil)) (fVar 1)))) (fRet (fC (.bl false))) fNext)
    (fRet (fOp gEq (fCall dLen (fCons (fComp 1 [] (fiSeq (fVar 0)) (gnName 0) (fNot (fTru (fCall d__law_number (fCons (fVar 0) fNil)))) (fVar 0)) fNil)) (fC (.int 0)))))
theorem sc__law_row : FnScope ["_law_thing", "_law_many"] ["_law_thing", "_law_many"] (defScope s__law_row) := ⟨rfl, rfl, rfl, by decide +kernel, rfl, by decide +kernel, by decide +kernel⟩
set_option maxHeartbeats 4000000 in
theorem ok__law_row {P : Program} {w : World} {K : PySem.W.Frag} {mg : Str → Option Value} {base : Heap} {k : Nat} {f : Addr} {fd : FuncData} {d__law_number : List T → Option T} (F : Fun K "_law_row" "_law_row" s__law_row f fd) (hb : Binds K fd ["_law_thing", "_law_many"] []) (hm : mg "_law_row" = some (.ref f)) (D__law_number : Def P w K mg base k "_law_number" 1 d__law_number) (m_list : mg "list" = none) (m_isinstance : mg "isinstance" = none) (m_len : mg "len" = none) :
    Def P w K mg base (k + 1) "_law_row" 2 (dOf 2 2 (b__law_row d__law_number)) :=
  def_of F sc__law_row hb hm fun cdv A outer s H E hr => (sss_cons (ss_if (SW.st (sw_or (st_not (st_val (se_callB ct_isi rfl m_isinstance rfl (sa_cons (se_var 0 (pv 0)) (sa_cons (se_ty rfl m_list rfl) sa_nil))))) (sw_or1 (st_cmp (ot_ne hr.units) (se_callB ct_len rfl m_len PySem.boot_len (sa_cons (se_var 0 (pv 0)) sa_nil)) (se_var 1 (pv 1)) (nomark _))))) (sss_one (ss_ret se_bl)) sss_nil)
    (sss_one (ss_ret (se_cmp (ot_eq hr.units) (se_callB ct_len rfl m_len PySem.boot_len (sa_cons (se_comp (N' := ["_law_number_here"]) (no := 1) (cap := []) rfl rfl (blkScope_of rfl) rfl (cap_of rfl) (si_seq (se_var 0 (pv 0))) (fun _ _ _ _ _ _ => (sg_name 0 nd__law_row_0 rfl (Or.inl rfl))) (fun _ _ _ _ _ _ => (sts_one (st_not (st_val (se_call D__law_number hr rfl (sa_cons (se_var 0 (pv 0)) sa_nil) (len_cons len_nil)))))) (fun _ _ _ _ _ _ => (se_var 0 (pv 0)))) sa_nil)) se_int (nomark _)))))
theorem nd__law_table_0 : (["_law_row_here", "_law_wide"] : List Str).Nodup := by decide +kernel
abbrev s__law_table : Stmt := top 25
def b__law_table (d__law_row : List T → Option T) : FS :=
    (fSeq (fIfS (fOr (fNot (fTru (fCall dIsi (fCons (fVar 0) (fCons (fC (.ty "list")) fNil))))) (fTB (fOp gNe (fCall dLen (fCons (fVar 0) fNil)) (fVar 1)))) (fRet (fC (.bl false))) fNext)
    (fRet (fOp gEq (fCall dLen (fCons (fComp 1 [2] (fiSeq (fVar 0)) (gnName 0) (fNot (fTru (fCall d__law_row (fCons (fVar 0) (fCons (fVar 1) fNil))))) (fVar 0)) fNil)) (fC (.int 0)))))
theorem sc__law_table : FnScope ["_law_thing", "_law_many", "_law_wide"] ["_law_thing", "_law_many", "_law_wide"] (defScope s__law_table) := ⟨rfl, rfl, rfl, by decide +kernel, rfl, by decide +kernel, by decide +kernel⟩
set_option maxHeartbeats 4000000 in
theorem ok__law_table {P : Program} {w : World} {K : PySem.W.Frag} {mg : Str → Option Value} {base : Heap} {k : Nat} {f : Addr} {fd : FuncData} {d__law_row : List T → Option T} (F : Fun K "_law_table" "_law_table" s__law_table f fd) (hb : Binds K fd ["_law_thing", "_law_many", "_law_wide"] []) (hm : mg "_law_table" = some (.ref f)) (D__law_row : Def P w K mg base k "_law_row" 2 d__law_row) (m_list : mg "list" = none) (m_isinstance : mg "isinstance" = none) (m_len : mg "len" = none) :
    Def P w K mg base (k + 1) "_law_table" 3 (dOf 3 3 (b__law_table d__law_row)) :=
  def_of F sc__law_table hb hm fun cdv A outer s H E hr => (sss_cons (ss_if (SW.st (sw_or (st_not (st_val (se_callB ct_isi rfl m_isinstance rfl (sa_cons (se_var 0 (pv 0)) (sa_cons (se_ty rfl m_list rfl) sa_nil))))) (sw_or1 (st_cmp (ot_ne hr.units) (se_callB ct_len rfl m_len PySem.boot_len (sa_cons (se_var 0 (pv 0)) sa_nil)) (se_var 1 (pv 1)) (nomark _))))) (sss_one (ss_ret se_bl)) sss_nil)
    (sss_one (ss_ret (se_cmp (ot_eq hr.units) (se_callB ct_len rfl m_len PySem.boot_len (sa_cons (se_comp (N' := ["_law_row_here", "_law_wide"]) (no := 1) (cap := [2]) rfl rfl (blkScope_of rfl) rfl (cap_of rfl) (si_seq (se_var 0 (pv 0))) (fun _ _ _ _ _ _ => (sg_name 0 nd__law_table_0 rfl (Or.inl rfl))) (fun _ _ _ _ _ _ => (sts_one (st_not (st_val (se_call D__law_row hr rfl (sa_cons (se_var 0 (pv 0)) (sa_cons (se_var 1 (pv 1)) sa_nil)) (len_cons (len_cons len_nil))))))) (fun _ _ _ _ _ _ => (se_var 0 (pv 0)))) sa_nil)) se_int (nomark _)))))
end My

set_option Elab.async false
set_option linter.all false
set_option maxRecDepth 100000
namespace My
open PySem PySem.Spec PyProof.Rows L2 TM
theorem nd_law_0 : (["_law_j", "_law_numbers", "_law_wide"] : List Str).Nodup := by decide +kernel
abbrev s_law : Stmt := top 26
def b_law (d__law_cell d__law_mix d__law_some d_is_table d__law_table d_is_row d__law_row : List T → Option T) (dC__law_spoiled : O → List T → Option T) : FS :=
    (fSeq (fFor (fiRng1 (fCons (fCall dMax (fCons (fC (.int 5)) (fCons (fCall dMin (fCons (fC (.int 24)) (fCons (fCall dLen (fCons (fVar 0) fNil)) fNil))) fNil))) fNil)) (gnName 1) (fSeq (fSet 2 (fCall d__law_mix (fCons (fCall d__law_cell (fCons (fVar 0) (fCons (fVar 1) fNil))) (fCons (fVar 1) fNil))))
    (fSeq (fSet 3 (fOp gMod (fVar 2) (fC (.int 5))))
    (fSeq (fSet 4 (fOp gMod (fOp gDiv (fVar 2) (fC (.int 5))) (fC (.int 5))))
    (fSeq (fSet 5 (fCall d__law_some (fCons (fCall d__law_cell (fCons (fVar 0) (fCons (fVar 1) fNil))) (fCons (fOp gMulI (fVar 3) (fVar 4)) fNil))))
    (fFuse 6 (fCompO 1 [5, 4] (fiRng1 (fCons (fVar 3) fNil)) (gnName 0) fAlways (fSlo (fVar 1) (fPart (fOp gMulI (fVar 0) (fVar 2))) (fPart (fOp gAdd (fOp gMulI (fVar 0) (fVar 2)) (fVar 2))))) (fTB (fOp gGt (fOp gMod (fOp gDiv (fVar 2) (fC (.int 25))) (fC (.int 5))) (fC (.int 0)))) (fCons (fCall d__law_mix (fCons (fVar 2) (fCons (fC (.int 3)) fNil))) fNil) dC__law_spoiled
    (fSeq (fIfS (fTB (fOp gEq (fOp gMod (fOp gDiv (fVar 2) (fC (.int 125))) (fC (.int 6))) (fC (.int 0)))) (fSet 3 (fOp gAdd (fVar 3) (fC (.int 1)))) fNext)
    (fSeq (fIfS (fTB (fOp gEq (fOp gMod (fOp gDiv (fVar 2) (fC (.int 125))) (fC (.int 6))) (fC (.int 1)))) (fSet 4 (fOp gAdd (fVar 4) (fC (.int 1)))) fNext)
    (fFor (fiRng1 (fCons (fC (.int 2)) fNil)) (gnName 7) (fSeq (fSet 8 (fCall d_is_table (fCons (fVar 6) (fCons (fVar 3) (fCons (fVar 4) fNil)))))
    (fSeq (fIfS (fOr (fNot (fTru (fCall dIsi (fCons (fVar 8) (fCons (fC (.ty "bool")) fNil))))) (fTB (fOp gNe (fVar 8) (fCall d__law_table (fCons (fVar 6) (fCons (fVar 3) (fCons (fVar 4) fNil))))))) (fRet (fC (.bl false))) fNext)
    (fSeq (fSet 9 (fVar 6))
    (fSeq (fIfS (fAnd (fTru (fCall dIsi (fCons (fVar 6) (fCons (fC (.ty "list")) fNil)))) (fTB (fOp gNe (fVar 6) (fLst fNil)))) (fSet 9 (fOp gIx (fVar 6) (fC (.int 0)))) fNext)
    (fSeq (fSet 8 (fCall d_is_row (fCons (fVar 9) (fCons (fVar 4) fNil))))
    (fIfS (fOr (fNot (fTru (fCall dIsi (fCons (fVar 8) (fCons (fC (.ty "bool")) fNil))))) (fTB (fOp gNe (fVar 8) (fCall d__law_row (fCons (fVar 9) (fCons (fVar 4) fNil)))))) (fRet (fC (.bl false))) fNext)))))))))))))))
    (fRet (fC (.bl true))))
theorem sc_law : FnScope ["_law_script", "_law_k", "_law_cell_here", "_law_many", "_law_wide", "_law_numbers", "_law_thing", "_law_turn", "_law_found", "_law_row_here"] ["_law_script"] (defScope s_law) := ⟨rfl, rfl, rfl, by decide +kernel, rfl, by decide +kernel, by decide +kernel⟩
set_option maxHeartbeats 4000000 in
theorem fn_law {P : Program} {w : World} {K : PySem.W.Frag} {mg : Str → Option Value} {base : Heap} {k : Nat} {f : Addr} {fd : FuncData} {d__law_cell : List T → Option T} {d__law_mix : List T → Option T} {d__law_some : List T → Option T} {d_is_table : List T → Option T} {d__law_table : List T → Option T} {d_is_row : List T → Option T} {d__law_row : List T → Option T} {dC__law_spoiled : O → List T → Option T} (F : Fun K "law" "law" s_law f fd) (D__law_cell : Def P w K mg base k "_law_cell" 2 d__law_cell) (D__law_mix : Def P w K mg base k "_law_mix" 2 d__law_mix) (D__law_some : Def P w K mg base k "_law_some" 2 d__law_some) (D_is_table : Def P w K mg base k "is_table" 3 d_is_table) (D__law_table : Def P w K mg base k "_law_table" 3 d__law_table) (D_is_row : Def P w K mg base k "is_row" 2 d_is_row) (D__law_row : Def P w K mg base k "_law_row" 2 d__law_row) (DC__law_spoiled : DefC P w K mg base k "_law_spoiled" 2 dC__law_spoiled) (m_range : mg "range" = none) (m_len : mg "len" = none) (m_min : mg "min" = none) (m_max : mg "max" = none) (m_bool : mg "bool" = none) (m_isinstance : mg "isinstance" = none) (m_list : mg "list" = none) :
    FnOk P w K mg base CX0 (k + 1) f fd ["_law_script"] (spT K 1 (dOf 10 1 (b_law d__law_cell d__law_mix d__law_some d_is_table d__law_table d_is_row d__law_row dC__law_spoiled))) :=
  fnok_of F sc_law fun cdv A outer s H E hr => (sss_cons (ss_for PassesOwn.never rfl (si_rng1 rfl m_range (sa_cons (se_callB (ct_max rfl) rfl m_max rfl (sa_cons se_int (sa_cons (se_callB (ct_min rfl) rfl m_min rfl (sa_cons se_int (sa_cons (se_callB ct_len rfl m_len PySem.boot_len (sa_cons (se_var 0 (pv 0)) sa_nil)) sa_nil))) sa_nil))) sa_nil)) (sg_name 1 sc_law.nd rfl (Or.inl rfl)) (sss_cons (ss_set 2 sc_law.nd rfl (Or.inl rfl) (se_call D__law_mix hr rfl (sa_cons (se_call D__law_cell hr rfl (sa_cons (se_var 0 (pv 0)) (sa_cons (se_var 1 (pv 1)) sa_nil)) (len_cons (len_cons len_nil))) (sa_cons (se_var 1 (pv 1)) sa_nil)) (len_cons (len_cons len_nil))))
    (sss_cons (ss_set 3 sc_law.nd rfl (Or.inl rfl) (se_op ot_mod (se_var 2 (pv 2)) se_int))
    (sss_cons (ss_set 4 sc_law.nd rfl (Or.inr rfl) (se_op ot_mod (se_op ot_div (se_var 2 (pv 2)) se_int) se_int))
    (sss_cons (ss_set 5 sc_law.nd rfl (Or.inr rfl) (se_call D__law_some hr rfl (sa_cons (se_call D__law_cell hr rfl (sa_cons (se_var 0 (pv 0)) (sa_cons (se_var 1 (pv 1)) sa_nil)) (len_cons (len_cons len_nil))) (sa_cons (se_op ot_mulI (se_var 3 (pv 3)) (se_var 4 (pv 4))) sa_nil)) (len_cons (len_cons len_nil))))
    (sss_fuse (sso_setComp sc_law.nd rfl rfl (N' := ["_law_j", "_law_numbers", "_law_wide"]) (no := 1) (cap := [5, 4]) rfl rfl (blkScope_of rfl) rfl (cap_of rfl) (si_rng1 rfl m_range (sa_cons (se_var 3 (pv 3)) sa_nil)) (fun _ _ _ _ _ _ => (sg_name 0 nd_law_0 rfl (Or.inl rfl))) (fun _ _ _ _ _ _ => sts_nil) (fun _ _ _ _ _ _ => (seo_slice (se_var 1 (pv 1)) (so_some (se_op ot_mulI (se_var 0 (pv 0)) (se_var 2 (pv 2)))) (so_some (se_op ot_add (se_op ot_mulI (se_var 0 (pv 0)) (se_var 2 (pv 2))) (se_var 2 (pv 2))))))) (st_cmp ot_gt (se_op ot_mod (se_op ot_div (se_var 2 (pv 2)) se_int) se_int) se_int (nomark _)) DC__law_spoiled hr rfl (pv 6) (sa_cons (se_call D__law_mix hr rfl (sa_cons (se_var 2 (pv 2)) (sa_cons se_int sa_nil)) (len_cons (len_cons len_nil))) sa_nil) (fun τ ts τ' e => congrArg (· + 1) ((len_cons len_nil) τ ts τ' e)) sc_law.nd rfl (Or.inl rfl)
    (sss_cons (ss_if (st_cmp (ot_eq hr.units) (se_op ot_mod (se_op ot_div (se_var 2 (pv 2)) se_int) se_int) se_int (nomark _)) (sss_one (ss_set 3 sc_law.nd rfl (Or.inl rfl) (se_op ot_add (se_var 3 (pv 3)) se_int))) sss_nil)
    (sss_cons (ss_if (st_cmp (ot_eq hr.units) (se_op ot_mod (se_op ot_div (se_var 2 (pv 2)) se_int) se_int) se_int (nomark _)) (sss_one (ss_set 4 sc_law.nd rfl (Or.inr rfl) (se_op ot_add (se_var 4 (pv 4)) se_int))) sss_nil)
    (sss_one (ss_for PassesOwn.never rfl (si_rng1 rfl m_range (sa_cons se_int sa_nil)) (sg_name 7 sc_law.nd rfl (Or.inl rfl)) (sss_cons (ss_set 8 sc_law.nd rfl (Or.inl rfl) (se_call D_is_table hr rfl (sa_cons (se_var 6 (pv 6)) (sa_cons (se_var 3 (pv 3)) (sa_cons (se_var 4 (pv 4)) sa_nil))) (len_cons (len_cons (len_cons len_nil)))))
    (sss_cons (ss_if (SW.st (sw_or (st_not (st_val (se_callB ct_isi rfl m_isinstance rfl (sa_cons (se_var 8 (pv 8)) (sa_cons (se_ty rfl m_bool rfl) sa_nil))))) (sw_or1 (st_cmp (ot_ne hr.units) (se_var 8 (pv 8)) (se_call D__law_table hr rfl (sa_cons (se_var 6 (pv 6)) (sa_cons (se_var 3 (pv 3)) (sa_cons (se_var 4 (pv 4)) sa_nil))) (len_cons (len_cons (len_cons len_nil)))) (nomark _))))) (sss_one (ss_ret se_bl)) sss_nil)
    (sss_cons (ss_set 9 sc_law.nd rfl (Or.inl rfl) (se_var 6 (pv 6)))
    (sss_cons (ss_if (SW.st (sw_and (st_val (se_callB ct_isi rfl m_isinstance rfl (sa_cons (se_var 6 (pv 6)) (sa_cons (se_ty rfl m_list rfl) sa_nil)))) (sw_and1 (st_cmp (ot_ne hr.units) (se_var 6 (pv 6)) (se_lst sa_nil) (nomark _))))) (sss_one (ss_set 9 sc_law.nd rfl (Or.inl rfl) (se_ix xt_ix (se_var 6 (pv 6)) se_int (fun _ _ => rfl)))) sss_nil)
    (sss_cons (ss_set 8 sc_law.nd rfl (Or.inl rfl) (se_call D_is_row hr rfl (sa_cons (se_var 9 (pv 9)) (sa_cons (se_var 4 (pv 4)) sa_nil)) (len_cons (len_cons len_nil))))
    (sss_one (ss_if (SW.st (sw_or (st_not (st_val (se_callB ct_isi rfl m_isinstance rfl (sa_cons (se_var 8 (pv 8)) (sa_cons (se_ty rfl m_bool rfl) sa_nil))))) (sw_or1 (st_cmp (ot_ne hr.units) (se_var 8 (pv 8)) (se_call D__law_row hr rfl (sa_cons (se_var 9 (pv 9)) (sa_cons (se_var 4 (pv 4)) sa_nil)) (len_cons (len_cons len_nil))) (nomark _))))) (sss_one (ss_ret se_bl)) sss_nil)))))))))))))))))
    (sss_one (ss_ret se_bl)))
end My

set_option Elab.async false
set_option linter.all false
set_option maxRecDepth 100000
namespace TM
open PySem PySem.Spec PyProof.Rows L2
def Fits (K : PySem.W.Frag) (F : Hp) : L2.St → TEnv → Prop
  | [], [] => True
  | _ :: σ, none :: τ => Fits K F σ τ
  | some v :: σ, some (.sh t) :: τ => Rep K F t v ∧ Fits K F σ τ
  | _, _ => False
theorem Fits.len {K : PySem.W.Frag} {F : Hp} : ∀ {σ : L2.St} {τ : TEnv}, Fits K F σ τ → σ.length = τ.length
  | [], [], _ => rfl
  | [], _ :: _, h => by cases h
  | _ :: _, [], h => by cases h
  | _ :: σ, none :: τ, h => by have : Fits K F σ τ := h; simp [this.len]
  | some v :: σ, some (.sh t) :: τ, h => by simp [(h.2 : Fits K F σ τ).len]
  | none :: σ, some (.sh t) :: τ, h => by cases h
  | none :: σ, some (.own t) :: τ, h => by cases h
  | some v :: σ, some (.own t) :: τ, h => by cases h
theorem Fits.get {K : PySem.W.Frag} {F : Hp} : ∀ {σ : L2.St} {τ : TEnv} {i : Nat} {s : Sl}, Fits K F σ τ → τ[i]? = some (some s) → ∃ t v, s = .sh t ∧ σ[i]? = some (some v) ∧ Rep K F t v
  | [], [], i, s, _, e => by simp at e
  | [], _ :: _, _, _, h, _ => by cases h
  | _ :: _, [], _, _, h, _ => by cases h
  | _ :: σ, none :: τ, 0, s, h, e => by simp at e
  | _ :: σ, none :: τ, i + 1, s, h, e => Fits.get (σ := σ) (τ := τ) (i := i) h (by simpa using e)
  | some v :: σ, some (.sh t) :: τ, 0, s, h, e => by simp at e; exact ⟨t, v, e.symm, rfl, h.1⟩
  | some v :: σ, some (.sh t) :: τ, i + 1, s, h, e => Fits.get (σ := σ) (τ := τ) (i := i) h.2 (by simpa using e)
  | none :: σ, some (.sh t) :: τ, _, _, h, _ => by cases h
  | none :: σ, some (.own t) :: τ, _, _, h, _ => by cases h
  | some v :: σ, some (.own t) :: τ, _, _, h, _ => by cases h
theorem env_fits {K : PySem.W.Frag} {F H : Hp} {σ : L2.St} {τ : TEnv} (s : Same F H) (h : Fits K F σ τ) : EnvOk K F H F H σ τ := by
  refine ⟨Grow.refl s, h.len, fun i sl e => ?_, fun i j ts us p _ e1 => ?_⟩
  · obtain ⟨t, v, rfl, h1, h2⟩ := h.get e
    exact ⟨v, h1, h2⟩
  · obtain ⟨t, v, z, _⟩ := h.get e1
    cases z
end TM
namespace My
open PySem PySem.Spec PyProof.Rows L2 TM
/-! ### what _law_spoiled makes of a table that nobody else holds -/
abbrev fe1 : FE := fOp gMod (fVar 1) (fC (.int 8))
abbrev ft2 : FT := fOr (fTB (fOp gEq (fVar 0) (fLst fNil))) (fTB (fOp gEq (fVar 2) (fC (.int 0))))
abbrev fr2 : FE := fOp gIx (fLst (fCons (fVar 0) (fCons (fCall dTuple (fCons (fVar 0) fNil)) (fCons (fC .non) (fCons (fC (.str "")) (fCons (fC (.int 0)) (fCons fDic (fCons (fTup (fCons (fVar 0) fNil)) (fCons (fLst (fCons (fVar 0) fNil)) fNil))))))))) (fOp gMod (fOp gDiv (fVar 1) (fC (.int 8))) (fC (.int 8)))
abbrev fe3 : FE := fOp gMod (fOp gDiv (fVar 1) (fC (.int 8))) (fCall dLen (fCons (fVar 0) fNil))
abbrev fw (i : Int) : FT := fTB (fOp gEq (fVar 2) (fC (.int i)))
abbrev fn4 : FT := fTB (fOp gNe (fVar 4) (fLst fNil))
abbrev fix : FE := fOp gMod (fOp gDiv (fVar 1) (fC (.int 64))) (fCall dLen (fCons (fVar 4) fNil))
abbrev fodd (d : List T → Option T) : FE := fCall d (fCons (fOp gDiv (fVar 1) (fC (.int 512))) fNil)
abbrev fone : FE := fTup (fCons (fC (.int 1)) (fCons (fC (.int 1)) fNil))
def sh5 (a : Option T) (b : T) (c d e : Option T) : TEnv := [a.map Sl.sh, some (.sh b), c.map Sl.sh, d.map Sl.sh, e.map Sl.sh]
def asInt : T → Option Int
  | .int i => some i
  | _ => none
/-- the way of the last rows -/
def dTail (odd : List T → Option T) (os : List O) (c w k : T) (j : Nat) (ro : List O) : Option T :=
  let tb := T.lst (O.trs os)
  let row := O.trs ro
  let τ := sh5 (some tb) c (some w) (some k) (some (.lst row))
  let τn := sh5 none c (some w) (some k) none
  (fw 1 τ).bind fun b1 => if b1.1 = true then some (.lst ((O.trs os).set j (.tup row))) else
  (fw 2 τ).bind fun b2 => if b2.1 = true then (if os.length < sizeLine then some (.lst (O.trs os ++ [.lst row])) else none) else
  (fw 3 τ).bind fun b3 => if b3.1 = true then ((fone τn).bind fun t => if row.length < sizeLine then some (.lst ((O.trs os).set j (.lst (row ++ [t.1])))) else none) else
  (fAnd (fw 4) fn4 τ).bind fun b4 => if b4.1 = true then (if row = [] then none else some (.lst ((O.trs os).set j (.lst row.dropLast)))) else
  (fn4 τ).bind fun b5 => if b5.1 = true then ((fodd odd τn).bind fun t => (fix τ).bind fun x => (asInt x.1).bind fun i => (ixN row.length i).bind fun m => some (.lst ((O.trs os).set j (.lst (row.set m t.1))))) else
  some tb
def dSpoil (odd : List T → Option T) : O → List T → Option T
  | .lst os, [.int c] =>
    (fe1 (sh5 (some (.lst (O.trs os))) (.int c) none none none)).bind fun w => (asInt w.1).bind fun wi =>
    (ft2 (sh5 (some (.lst (O.trs os))) (.int c) (some (.int wi)) none none)).bind fun b => if b.1 = true then (fr2 (sh5 (some (.lst (O.trs os))) (.int c) (some (.int wi)) none none)).bind fun r => some r.1 else
    (fe3 (sh5 (some (.lst (O.trs os))) (.int c) (some (.int wi)) none none)).bind fun k => (asInt k.1).bind fun i => (ixN os.length i).bind fun j =>
      match os[j]? with
      | some (.lst ro) => if allVal ro = true then dTail odd os (.int c) (.int wi) (.int i) j ro else none
      | _ => none
  | _, _ => none
theorem rep_int {K : PySem.W.Frag} {F : Hp} {t : T} {v : V} {i : Int} (h : asInt t = some i) (r : Rep K F t v) : v = .int i := by
  unfold asInt at h
  split at h
  · cases h; exact r
  · cases h
theorem Reps_set {K : PySem.W.Frag} {F : Hp} {t : T} {v : V} (h : Rep K F t v) : ∀ {ts : List T} {vs : List V} (m : Nat), Reps K F ts vs → Reps K F (ts.set m t) (vs.set m v)
  | [], _, _, r => by cases r; rfl
  | a :: ts, _, 0, r => by obtain ⟨w, q, rfl, h1, h2⟩ := r; exact ⟨v, q, rfl, h, h2⟩
  | a :: ts, _, m + 1, r => by obtain ⟨w, q, rfl, h1, h2⟩ := r; exact ⟨w, _, rfl, h1, Reps_set h m h2⟩
theorem Reps_dropLast {K : PySem.W.Frag} {F : Hp} {ts : List T} {vs : List V} (r : Reps K F ts vs) : Reps K F ts.dropLast vs.dropLast := by
  rw [List.dropLast_eq_take, List.dropLast_eq_take, r.length]
  exact r.take _
set_option maxHeartbeats 4000000 in
theorem okC_spoiled {P : Program} {w : World} {K : PySem.W.Frag} {mg : Str → Option Value} {base : Heap} {k : Nat} {f : Addr} {fd : FuncData} {odd : List T → Option T} (Fn : Fun K "_law_spoiled" "_law_spoiled" s__law_spoiled f fd) (hb : Binds K fd ["_law_table_here", "_law_cell_here"] []) (hm : mg "_law_spoiled" = some (.ref f))
    (D__law_odd : Def P w K mg base k "_law_odd" 1 odd) (m_tuple : mg "tuple" = none) (m_list : mg "list" = none) (m_len : mg "len" = none) : DefC P w K mg base (k + 1) "_law_spoiled" 2 (dSpoil odd) := by
  refine ⟨f, fd, _, Fn.ok sc__law_spoiled (fun vs H Q E z => z.1) (fun cdv A outer s H vs Q E hr z => ?_), hb, Fn.kp, hm, rfl⟩
  obtain ⟨hl, F0, o, v, ws, ts, A0, t, sm, rfl, ro, nd, rts, e, q⟩ := z
  unfold dSpoil at e
  split at e
  case h_2 => cases e
  rename_i os c
  obtain ⟨⟨wt, τw⟩, e1, e⟩ := bind_some e
  obtain ⟨wi, e1i, e⟩ := bind_some e
  obtain ⟨⟨b, τb⟩, e2, e⟩ := bind_some e
  obtain ⟨cv, _, rfl, rc, rfl⟩ := rts
  cases rc
  obtain ⟨p, vs0, B0, hv, hA, _⟩ := id ro
  subst hv
  have S0 : Held K F0 (delA H A0) F0 H p os A0 := ⟨⟨Same.refl _, delA_same, sm, fun a o' z => .inl z⟩, ro, nd, fun a ha => delA_in ha⟩
  refine ⟨_, pss_cons (ps_set (i := 2) sc__law_spoiled.nd rfl (Or.inl rfl) (SE.any (f := fe1) (se_op ot_mod (se_var 1 (pv 1)) se_int)))
    (pss_cons (ps_if (ST.any (ft := ft2) (SW.st (sw_or (st_cmp (ot_eq hr.units) (se_var 0 (pv 0)) (se_lst sa_nil) (nomark _)) (sw_or1 (st_cmp (ot_eq hr.units) (se_var 2 (pv 2)) se_int (nomark _))))))
      (pss_one (ps_ret (SE.any (f := fr2) (se_ix xt_ix (se_lst (sa_cons (se_var 0 (pv 0)) (sa_cons (se_callTy ct_tuple rfl m_tuple rfl (sa_cons (se_var 0 (pv 0)) sa_nil)) (sa_cons se_non (sa_cons se_str (sa_cons se_int (sa_cons se_dic (sa_cons (se_tup (sa_cons (se_var 0 (pv 0)) sa_nil)) (sa_cons (se_lst (sa_cons (se_var 0 (pv 0)) sa_nil)) sa_nil))))))))) (se_op ot_mod (se_op ot_div (se_var 1 (pv 1)) se_int) se_int) (fun _ _ => rfl))))) pss_nil)
    (pss_cons (ps_set (i := 3) sc__law_spoiled.nd rfl (Or.inl rfl) (SE.any (f := fe3) (se_op ot_mod (se_op ot_div (se_var 1 (pv 1)) se_int) (se_callB ct_len rfl m_len PySem.boot_len (sa_cons (se_var 0 (pv 0)) sa_nil)))))
    (pss_cons (ps_set (i := 4) sc__law_spoiled.nd rfl (Or.inl rfl) (pe_ix ix_list (pv 0) (pv 3) (fun _ _ => rfl)))
    (pss_cons (ps_if (ST.any (ft := fw 1) (st_cmp (ot_eq hr.units) (se_var 2 (pv 2)) se_int (nomark _)))
        (pss_one (ps_asg (pe_callTy call_tuple_of rfl m_tuple rfl (pa_cons (pv 4) pa_nil)) (pg_sub (pv 0) (pv 3) set_list)))
      (pss_one (ps_if (ST.any (ft := fw 2) (st_cmp (ot_eq hr.units) (se_var 2 (pv 2)) se_int (nomark _)))
        (pss_one (ps_expr (pe_bm PySem.F.plainAttrs_list PySem.F.slot_list_append PySem.F.type_list_append mt_append (pv 0) (pa_cons (pe_callTy call_list_of rfl m_list rfl (pa_cons (pv 4) pa_nil)) pa_nil))))
      (pss_one (ps_if (ST.any (ft := fw 3) (st_cmp (ot_eq hr.units) (se_var 2 (pv 2)) se_int (nomark _)))
        (pss_one (ps_expr (pe_bm PySem.F.plainAttrs_list PySem.F.slot_list_append PySem.F.type_list_append mt_append (pv 4) (pa_cons (SE.any (f := fone) (se_tup (sa_cons se_int (sa_cons se_int sa_nil)))) pa_nil))))
      (pss_one (ps_if (ST.any (ft := fAnd (fw 4) fn4) (SW.st (sw_and (st_cmp (ot_eq hr.units) (se_var 2 (pv 2)) se_int (nomark _)) (sw_and1 (st_cmp (ot_ne hr.units) (se_var 4 (pv 4)) (se_lst sa_nil) (nomark _))))))
        (pss_one (ps_expr (pe_bm0 PySem.F.plainAttrs_list PySem.F.slot_list_pop PySem.F.type_list_pop mt_pop (pv 4))))
      (pss_one (ps_if (ST.any (ft := fn4) (st_cmp (ot_ne hr.units) (se_var 4 (pv 4)) (se_lst sa_nil) (nomark _)))
        (pss_one (ps_asg (SE.any (f := fodd odd) (se_call D__law_odd hr rfl (sa_cons (se_op ot_div (se_var 1 (pv 1)) se_int) sa_nil) (len_cons len_nil))) (pg_sub (pv 4) (SE.any (f := fix) (se_op ot_mod (se_op ot_div (se_var 1 (pv 1)) se_int) (se_callB ct_len rfl m_len PySem.boot_len (sa_cons (se_var 4 (pv 4)) sa_nil)))) set_list)))
      pss_nil))))))))) (pss_one (ps_ret (pv 0))))))), ?_⟩
  -- way
  obtain ⟨FF, gF, rT, _⟩ := S0.view
  refine ⟨FF, H, FF, _, wt, τw, env_fits (τ := sh5 (some (.lst (O.trs os))) (.int c) none none none) gF.fh ⟨rT, rfl, trivial⟩, e1, fun F1 H1 v1 E1 _ r1 => ?_⟩
  have hv1 := rep_int e1i r1
  subst hv1
  have S1 := S0.hp E1.g.sH
  -- nothing in it, or way 0
  obtain ⟨FF, gF, rT, _⟩ := S1.view
  refine ⟨FF, H1, FF, _, b, τb, env_fits (τ := sh5 (some (.lst (O.trs os))) (.int c) (some (.int wi)) none none) gF.fh ⟨rT, rfl, rfl, trivial⟩, e2, fun F2 H2 E2 _ => ?_⟩
  have S2 := S1.hp E2.g.sH
  dsimp only at e ⊢
  split at e
  · next hb1 =>
    rw [if_pos hb1]
    obtain ⟨⟨r, τr⟩, e3, e⟩ := bind_some e
    cases e
    obtain ⟨FF, gF, rT, _⟩ := S2.view
    exact ⟨FF, H2, FF, _, r, τr, env_fits (τ := sh5 (some (.lst (O.trs os))) (.int c) (some (.int wi)) none none) gF.fh ⟨rT, rfl, rfl, trivial⟩, e3, fun F3 H3 v E3 _ r3 => q F3 H3 v (gF.trans E3.g) r3⟩
  next hb1 =>
  rw [if_neg hb1]
  obtain ⟨⟨kt, τk⟩, e3, e⟩ := bind_some e
  obtain ⟨ki, e3i, e⟩ := bind_some e
  obtain ⟨j, ej, e⟩ := bind_some e
  split at e
  case h_2 => cases e
  rename_i ro ero
  split at e
  case isFalse => cases e
  rename_i hval
  obtain ⟨FF, gF, rT, _⟩ := S2.view
  refine ⟨FF, H2, FF, _, kt, τk, env_fits (τ := sh5 (some (.lst (O.trs os))) (.int c) (some (.int wi)) none none) gF.fh ⟨rT, rfl, rfl, trivial⟩, e3, fun F3 H3 v3 E3 _ r3 => ?_⟩
  have hv3 := rep_int e3i r3
  subst hv3
  have S3 := S2.hp E3.g.sH
  obtain ⟨vs, q', ws, hp, hq, hw, hr', hlen⟩ := S3.row ero hval
  -- the row
  refine ⟨_, rfl, _, rfl, p, vs, ki, .ref q', rfl, rfl, SqL.of hp, by unfold atI; rw [hlen, ej]; exact hq, ?_⟩
  have last : ∀ {F5 H5 : Hp} {os5 : List O} {A5 : List Addr}, Held K F0 (delA H A0) F5 H5 p os5 A5 → t = .lst (O.trs os5) → Q (.ref p) H5 := fun {F5 H5 os5 A5} S5 et => by
    obtain ⟨FF, gF, rF⟩ := S5.fin
    exact q FF H5 _ gF (by rw [et]; exact rF)
  unfold dTail at e
  dsimp only at e
  have fits : ∀ {F5 H5 : Hp}, Held K F0 (delA H A0) F5 H5 p os A0 → H5 p = some (.lst vs) → ∃ FF, Grow F0 (delA H A0) FF H5 ∧ Fits K FF [some (.ref p), some (.int c), some (.int wi), some (.int ki), some (.ref q')] (sh5 (some (.lst (O.trs os))) (.int c) (some (.int wi)) (some (.int ki)) (some (.lst (O.trs ro)))) := fun {F5 H5} S5 hp5 => by
    obtain ⟨FF, gF, rT, rR⟩ := S5.view
    exact ⟨FF, gF, rT, rfl, rfl, rfl, rR j _ vs _ ero hp5 hq, trivial⟩
  -- way 1
  obtain ⟨⟨b1, τ1⟩, t1, e⟩ := bind_some e
  obtain ⟨FF, gF, ft⟩ := fits S3 hp
  refine ⟨FF, H3, FF, _, b1, τ1, env_fits gF.fh ft, t1, fun _ H4 E4 _ => ?_⟩
  have S4 := S3.hp E4.g.sH
  have hp4 := E4.g.sH _ _ hp
  have hw4 := E4.g.sH _ _ hw
  dsimp only at e ⊢
  split at e
  · next hb =>
    rw [if_pos hb]
    cases e
    refine ⟨_, rfl, q', ws, rfl, .inl ⟨SqL.of hw4, fun l hl => ?_⟩⟩
    have gr := Grow.new (.tup ws) S4.g.fh hl
    have S5 := S4.over gr
    have hp5 := same_updN (o := .tup ws) hl _ _ hp4
    obtain ⟨A5, S6⟩ := S5.put (t := .tup (O.trs ro)) (v := .ref l) ero hp5 ⟨l, ws, rfl, SqT.of upd_same, Reps.mono gr.sF hr'⟩
    exact ⟨_, rfl, _, rfl, p, vs, ki, j, rfl, rfl, hp5, by rw [hlen]; exact ej, ⟨_, rfl, last S6 (by rw [trs_set]; rfl)⟩⟩
  next hb =>
  rw [if_neg hb]
  -- way 2
  obtain ⟨⟨b2, τ2⟩, t2, e⟩ := bind_some e
  obtain ⟨FF, gF, ft⟩ := fits S4 hp4
  refine ⟨FF, H4, FF, _, b2, τ2, env_fits gF.fh ft, t2, fun _ H5 E5 _ => ?_⟩
  have S5 := S4.hp E5.g.sH
  have hp5 := E5.g.sH _ _ hp4
  have hw5 := E5.g.sH _ _ hw4
  dsimp only at e ⊢
  split at e
  · next hb =>
    rw [if_pos hb]
    split at e
    · next hz =>
      cases e
      refine ⟨_, rfl, .inl ⟨rfl, vs, SqL.of hp5⟩, _, rfl, q', ws, rfl, .inl (SqL.of hw5), fun l hl => ?_⟩
      have gr := Grow.new (.lst ws) S5.g.fh hl
      have S6 := S5.over gr
      have hp6 := same_updN (o := .lst ws) hl _ _ hp5
      have S7 := S6.more (t := .lst (O.trs ro)) (v := .ref l) hp6 ⟨l, ws, rfl, upd_same, Reps.mono gr.sF hr'⟩
      exact ⟨p, vs, .ref l, rfl, rfl, hp6, by rw [hlen]; exact hz, ⟨_, rfl, last S7 (by rw [trs_app]; rfl)⟩⟩
    · cases e
  next hb =>
  rw [if_neg hb]
  -- way 3
  obtain ⟨⟨b3, τ3⟩, t3, e⟩ := bind_some e
  obtain ⟨FF, gF, ft⟩ := fits S5 hp5
  refine ⟨FF, H5, FF, _, b3, τ3, env_fits gF.fh ft, t3, fun _ H6 E6 _ => ?_⟩
  have S6 := S5.hp E6.g.sH
  have hp6 := E6.g.sH _ _ hp5
  have hw6 := E6.g.sH _ _ hw5
  dsimp only at e ⊢
  split at e
  · next hb =>
    rw [if_pos hb]
    obtain ⟨⟨one, τo⟩, eo, e⟩ := bind_some e
    dsimp only at e
    split at e
    · next hz =>
      cases e
      refine ⟨_, rfl, .inl ⟨rfl, ws, SqL.of hw6⟩, F0, H6, F0, _, one, τo, env_fits (τ := sh5 none (.int c) (some (.int wi)) (some (.int ki)) none) S6.g.fh ⟨rfl, rfl, rfl, trivial⟩, eo, fun F7 H7 v7 E7 _ r7 => ?_⟩
      have S7 := S6.over E7.g
      have hp7 := E7.g.sH _ _ hp6
      have hw7 := E7.g.sH _ _ hw6
      have S8 := S7.turn (ts := O.trs ro ++ [one]) (ws := ws ++ [v7]) ero hval hp7 hq ((Reps.mono E7.g.sF hr').append (.one r7))
      exact ⟨q', ws, v7, rfl, rfl, hw7, by rw [hr'.length]; exact hz, ⟨_, rfl, last S8 (by rw [trs_set]; show _ = T.lst (List.set _ _ (T.lst (O.trs (List.map O.val _)))); rw [trs_vals])⟩⟩
    · cases e
  next hb =>
  rw [if_neg hb]
  -- way 4
  obtain ⟨⟨b4, τ4⟩, t4, e⟩ := bind_some e
  obtain ⟨FF, gF, ft⟩ := fits S6 hp6
  refine ⟨FF, H6, FF, _, b4, τ4, env_fits gF.fh ft, t4, fun _ H7 E7 _ => ?_⟩
  have S7 := S6.hp E7.g.sH
  have hp7 := E7.g.sH _ _ hp6
  have hw7 := E7.g.sH _ _ hw6
  dsimp only at e ⊢
  split at e
  · next hb =>
    rw [if_pos hb]
    split at e
    · cases e
    · next hne =>
      cases e
      have hws : ws ≠ [] := fun z => by
        have := hr'.length
        rw [z] at this
        exact hne (List.length_eq_zero_iff.mp this.symm)
      have hy : ∃ y, ws[ws.length - 1]? = some y := ⟨ws[ws.length - 1]'(by have := List.length_pos_iff.mpr hws; omega), List.getElem?_eq_getElem _⟩
      obtain ⟨y, hy⟩ := hy
      have S8 := S7.turn (ts := (O.trs ro).dropLast) (ws := ws.dropLast) ero hval hp7 hq (Reps_dropLast hr')
      exact ⟨_, rfl, .inl ⟨rfl, ws, SqL.of hw7⟩, q', ws, y, rfl, rfl, hw7, hy, ⟨_, rfl, last S8 (by rw [trs_set]; show _ = T.lst (List.set _ _ (T.lst (O.trs (List.map O.val _)))); rw [trs_vals])⟩⟩
  next hb =>
  rw [if_neg hb]
  -- another number
  obtain ⟨⟨b5, τ5⟩, t5, e⟩ := bind_some e
  obtain ⟨FF, gF, ft⟩ := fits S7 hp7
  refine ⟨FF, H7, FF, _, b5, τ5, env_fits gF.fh ft, t5, fun _ H8 E8 _ => ?_⟩
  have S8 := S7.hp E8.g.sH
  have hp8 := E8.g.sH _ _ hp7
  have hw8 := E8.g.sH _ _ hw7
  dsimp only at e ⊢
  split at e
  · next hb =>
    rw [if_pos hb]
    obtain ⟨⟨ot, τo⟩, eo, e⟩ := bind_some e
    obtain ⟨⟨xt, τx⟩, ex, e⟩ := bind_some e
    obtain ⟨xi, exi, e⟩ := bind_some e
    obtain ⟨m, em, e⟩ := bind_some e
    cases e
    refine ⟨F0, H8, F0, _, ot, τo, env_fits (τ := sh5 none (.int c) (some (.int wi)) (some (.int ki)) none) S8.g.fh ⟨rfl, rfl, rfl, trivial⟩, eo, fun F9 H9 v9 E9 _ r9 => ?_⟩
    have S9 := S8.over E9.g
    have hp9 := E9.g.sH _ _ hp8
    have hw9 := E9.g.sH _ _ hw8
    obtain ⟨FF, gF, ft⟩ := fits S9 hp9
    refine ⟨_, rfl, FF, H9, FF, _, xt, τx, env_fits gF.fh ft, ex, fun _ Ha va Ea _ ra => ?_⟩
    have hva := rep_int exi ra
    subst hva
    have Sa := S9.hp Ea.g.sH
    have hpa := Ea.g.sH _ _ hp9
    have hwa := Ea.g.sH _ _ hw9
    have Sb := Sa.turn (ts := (O.trs ro).set m ot) (ws := ws.set m v9) ero hval hpa hq (Reps_set r9 m (Reps.mono E9.g.sF hr'))
    exact ⟨q', ws, xi, m, rfl, rfl, hwa, by rw [hr'.length]; exact em, ⟨_, rfl, last Sb (by rw [trs_set]; show _ = T.lst (List.set _ _ (T.lst (O.trs (List.map O.val _)))); rw [trs_vals])⟩⟩
  · next hb =>
    rw [if_neg hb]
    cases e
    exact ⟨_, rfl, last S8 rfl⟩
end My

set_option Elab.async false
namespace Qm
/-- coprime whole numbers -/
abbrev Cop (a b : Int) : Prop := Int.gcd a b = 1
theorem cop_nat {a b : Int} (h : Cop a b) : Nat.Coprime a.natAbs b.natAbs := h
theorem cop_of {a b : Int} (h : Nat.Coprime a.natAbs b.natAbs) : Cop a b := h
theorem Cop.symm {a b : Int} (h : Cop a b) : Cop b a := by unfold Cop; rw [Int.gcd_comm]; exact h
theorem Cop.mulL {a b c : Int} (h : Cop a c) (h' : Cop b c) : Cop (a * b) c := cop_of (by rw [Int.natAbs_mul]; exact Nat.Coprime.mul_left h h')
theorem Cop.mulR {a b c : Int} (h : Cop c a) (h' : Cop c b) : Cop c (a * b) := cop_of (by rw [Int.natAbs_mul]; exact Nat.Coprime.mul_right h h')
theorem Cop.dvdL {a b c : Int} (h : Cop b c) (d : a ∣ b) : Cop a c := cop_of (Nat.Coprime.coprime_dvd_left (Int.natAbs_dvd_natAbs.mpr d) h)
theorem Cop.dvdR {a b c : Int} (h : Cop c b) (d : a ∣ b) : Cop c a := cop_of (Nat.Coprime.coprime_dvd_right (Int.natAbs_dvd_natAbs.mpr d) h)
theorem Cop.addL {a b c : Int} (h : Cop a c) : Cop (a + b * c) c := by unfold Cop; rw [Int.gcd_add_mul_right_left]; exact h
/-- two whole numbers, not both nought, by their common part -/
theorem split {a b : Int} (h : b ≠ 0) : ∃ x y : Int, a = (Int.gcd a b : Int) * x ∧ b = (Int.gcd a b : Int) * y ∧ Cop x y ∧ (Int.gcd a b : Int) ≠ 0 := by
  have hg : (Int.gcd a b : Int) ≠ 0 := by
    intro z
    have : Int.gcd a b = 0 := by omega
    rw [Int.gcd_eq_zero_iff] at this
    exact h this.2
  obtain ⟨x, hx⟩ := Int.gcd_dvd_left a b
  obtain ⟨y, hy⟩ := Int.gcd_dvd_right a b
  refine ⟨x, y, hx, hy, ?_, hg⟩
  have e : Int.gcd a b = Int.gcd a b * Int.gcd x y := by
    have := Int.gcd_mul_left (Int.gcd a b : Int) x y
    rw [← hx, ← hy] at this
    simpa using this
  have hp : 0 < Int.gcd a b := by omega
  have := Nat.eq_of_mul_eq_mul_left hp (show Int.gcd a b * Int.gcd x y = Int.gcd a b * 1 by omega)
  exact this
theorem fdiv_of {a g x : Int} (h : a = g * x) (hg : g ≠ 0) : a.fdiv g = x := by rw [h]; exact Int.mul_fdiv_cancel_left x hg
/-- the sum's common part -/
theorem plus_q {a b c d : Int} (hb : 0 < b) (hd : 0 < d) (h1 : Cop a b) (h2 : Cop c d) (s top low : Int) (es : s = Int.gcd b d) (et : top = a * d.fdiv s + c * b.fdiv s) (el : low = Int.gcd top s) :
    top.fdiv low = (a * d + c * b).fdiv (Int.gcd (a * d + c * b) (b * d)) ∧ b.fdiv s * d.fdiv low = (b * d).fdiv (Int.gcd (a * d + c * b) (b * d)) ∧ s ≠ 0 ∧ low ≠ 0 := by
  obtain ⟨x, y, hx, hy, hc, hs⟩ := split (a := b) (b := d) (by omega)
  rw [← es] at hx hy hs
  have ex : b.fdiv s = x := fdiv_of hx hs
  have ey : d.fdiv s = y := fdiv_of hy hs
  rw [ex, ey] at et
  have cx : Cop top x := by
    have q1 : Cop (a * y) x := Cop.mulL (h1.dvdR ⟨s, by rw [hx, Int.mul_comm]⟩) hc.symm
    have q2 := q1.addL (b := c)
    rw [← et] at q2
    exact q2
  have cy : Cop top y := by
    have q1 : Cop (c * x) y := Cop.mulL (h2.dvdR ⟨s, by rw [hy, Int.mul_comm]⟩) hc
    have q2 := q1.addL (b := a)
    rw [Int.add_comm, ← et] at q2
    exact q2
  obtain ⟨u, v, hu, hv, _, hl⟩ := split (a := top) (b := s) hs
  rw [← el] at hu hv hl
  have e1 : a * d + c * b = s * top := by
    rw [et]
    calc a * d + c * b = a * (s * y) + c * (s * x) := by rw [← hx, ← hy]
      _ = s * (a * y + c * x) := by rw [Int.mul_add, Int.mul_left_comm, Int.mul_left_comm c]
  have e2 : b * d = s * (x * (y * s)) := by
    calc b * d = (s * x) * (s * y) := by rw [← hx, ← hy]
      _ = s * (x * (y * s)) := by rw [Int.mul_assoc, Int.mul_comm y s]
  have sp : 0 ≤ s := by rw [es]; omega
  have lp : 0 ≤ low := by rw [el]; omega
  have eg : ((Int.gcd (a * d + c * b) (b * d) : Nat) : Int) = s * low := by
    rw [e1, e2, Int.gcd_mul_left]
    have k1 : Int.gcd top (x * (y * s)) = Int.gcd top s := by
      show Nat.gcd top.natAbs (x * (y * s)).natAbs = Nat.gcd top.natAbs s.natAbs
      rw [Int.natAbs_mul, Int.natAbs_mul, Nat.Coprime.gcd_mul_left_cancel_right _ (Nat.Coprime.symm cx), Nat.Coprime.gcd_mul_left_cancel_right _ (Nat.Coprime.symm cy)]
    rw [k1, el]
    push_cast
    rw [Int.natAbs_of_nonneg sp]
  have hsl : s * low ≠ 0 := Int.mul_ne_zero hs hl
  have tl : top.fdiv low = u := fdiv_of hu hl
  have dl : d.fdiv low = v * y := fdiv_of (by rw [hy, hv, Int.mul_assoc]) hl
  refine ⟨?_, ?_, hs, hl⟩
  · rw [eg, tl, e1]
    exact (fdiv_of (by rw [Int.mul_assoc, ← hu]) hsl).symm
  · rw [eg, ex, dl, e2]
    refine (fdiv_of ?_ hsl).symm
    calc s * (x * (y * s)) = s * (x * (y * (low * v))) := by rw [← hv]
      _ = s * low * (x * (v * y)) := by
        rw [Int.mul_assoc s low]
        congr 1
        rw [Int.mul_left_comm y low v, Int.mul_left_comm x low, Int.mul_comm y v]
/-- the product's -/
theorem times_q {a b c d : Int} (hb : 0 < b) (hd : 0 < d) (h1 : Cop a b) (h2 : Cop c d) (l r : Int) (el : l = Int.gcd a d) (er : r = Int.gcd c b) :
    a.fdiv l * c.fdiv r = (a * c).fdiv (Int.gcd (a * c) (b * d)) ∧ b.fdiv r * d.fdiv l = (b * d).fdiv (Int.gcd (a * c) (b * d)) ∧ l ≠ 0 ∧ r ≠ 0 := by
  obtain ⟨a', d', ha, hd', c1, hl⟩ := split (a := a) (b := d) (by omega)
  obtain ⟨c', b', hc, hb', c2, hr⟩ := split (a := c) (b := b) (by omega)
  rw [← el] at ha hd' hl
  rw [← er] at hc hb' hr
  have k : Cop (a' * c') (b' * d') := by
    have ab : Cop a' b' := (h1.dvdL ⟨l, by rw [Int.mul_comm]; exact ha⟩).dvdR ⟨r, by rw [Int.mul_comm]; exact hb'⟩
    have cd : Cop c' d' := (h2.dvdL ⟨r, by rw [Int.mul_comm]; exact hc⟩).dvdR ⟨l, by rw [Int.mul_comm]; exact hd'⟩
    exact Cop.mulR (Cop.mulL ab c2) (Cop.mulL c1 cd)
  have e1 : a * c = l * r * (a' * c') := by
    calc a * c = (l * a') * (r * c') := by rw [← ha, ← hc]
      _ = l * r * (a' * c') := by rw [Int.mul_assoc, Int.mul_left_comm a' r c', Int.mul_assoc]
  have e2 : b * d = l * r * (b' * d') := by
    calc b * d = (r * b') * (l * d') := by rw [← hb', ← hd']
      _ = l * r * (b' * d') := by rw [Int.mul_assoc, Int.mul_left_comm b' l d', ← Int.mul_assoc, Int.mul_comm r l]
  have lp : 0 ≤ l := by rw [el]; omega
  have rp : 0 ≤ r := by rw [er]; omega
  have eg : ((Int.gcd (a * c) (b * d) : Nat) : Int) = l * r := by
    rw [e1, e2, Int.gcd_mul_left, k]
    push_cast
    rw [Int.mul_one, Int.natAbs_of_nonneg (Int.mul_nonneg lp rp)]
  have hlr : l * r ≠ 0 := Int.mul_ne_zero hl hr
  refine ⟨?_, ?_, hl, hr⟩
  · rw [eg, fdiv_of ha hl, fdiv_of hc hr]
    exact (fdiv_of e1 hlr).symm
  · rw [eg, fdiv_of hb' hr, fdiv_of hd' hl]
    exact (fdiv_of e2 hlr).symm
end Qm

set_option Elab.async false
set_option linter.all false
set_option maxRecDepth 100000
namespace My
open PySem PySem.Spec PyProof.Rows L2 TM Qm
theorem le17 : (17 : Nat) ≤ sizeLine := small_le (by decide)
theorem lt0 : (0 : Nat) < sizeLine := small1000 (by decide)
theorem lt1 : (1 : Nat) < sizeLine := small1000 (by decide)
theorem lt2 : (2 : Nat) < sizeLine := small1000 (by decide)
theorem gEq_pair {a b c d : Int} : gEq (.tup [.int a, .int b]) (.tup [.int c, .int d]) = some (.bl (decide (a = c) && decide (b = d))) := by
  have e : gEq (.tup [.int a, .int b]) (.tup [.int c, .int d]) = some (.bl ((a == c) && ((b == d) && true))) := rfl
  rw [e, Bool.and_true, Bool.beq_eq_decide_eq, Bool.beq_eq_decide_eq]
local macro_rules | `(tactic| walk_at "ev") => `(tactic| simp only [fC, fVar, fOp, fUn, fTB, fTru, tru, fAnd, fOr, fNot, fAndV, fOrV, fIf, fNil, fCons, fTup, fLst, fCall, fNever, fNext, fRet, fDrop, fIfS, fSeq, fSet, fSetOwn, fAsg, fPar, gnName, gnNil, gnCons, gnTup, fApp, fDic, fSl, fNoPart, fPart, fFor, fiZip, fiSeq, fComp, compT, blkOf, frzAll, frz1, capOf, allSh, fAlways, gBits, dAll, boolsOf, dTuple, sqK, zipT, loopT, gI_int, gAdd_int, gAdd_lst, gAdd_tup, gEq_int, gNe_int, gEq_bl, gNe_bl, gNot, gNeg, gIs, isNon, gIx_tup0, gIx_tup1, gIx_lst0, gIx_lst1, dAbs_nat, dMax, dMin, dLen, isi_non_int, isi_non_bool, isi_non_str, isi_non_list, isi_non_tuple, isi_non_dict, isi_non_lt, isi_bl_int, isi_bl_bool, isi_bl_str, isi_bl_list, isi_bl_tuple, isi_bl_dict, isi_bl_lt, isi_int_int, isi_int_bool, isi_int_str, isi_int_list, isi_int_tuple, isi_int_dict, isi_int_lt, isi_str_int, isi_str_bool, isi_str_str, isi_str_list, isi_str_tuple, isi_str_dict, isi_str_lt, isi_tup_int, isi_tup_bool, isi_tup_str, isi_tup_list, isi_tup_tuple, isi_tup_dict, isi_tup_lt, isi_lst_int, isi_lst_bool, isi_lst_str, isi_lst_list, isi_lst_tuple, isi_lst_dict, isi_lst_lt, isi_scr_int, isi_scr_bool, isi_scr_str, isi_scr_list, isi_scr_tuple, isi_scr_dict, isi_scr_lt, isi_dic_int, isi_dic_bool, isi_dic_str, isi_dic_list, isi_dic_tuple, isi_dic_dict, isi_dic_lt, Option.bind_some, Option.bind_none, List.getElem?_cons_zero, List.getElem?_cons_succ, List.set_cons_zero, List.set_cons_succ, List.map_cons, List.map_nil, List.cons_append, List.nil_append, List.replicate_succ, List.replicate_zero, List.length_cons, List.length_nil, if_true, if_false, ite_true, ite_false, reduceIte, Bool.not_true, Bool.not_false, Bool.false_eq_true, Nat.reduceSub, Nat.reduceAdd, Nat.reduceLeDiff, reduceCtorEq, decide_true, decide_false, ne_eq, not_true_eq_false, not_false_eq_true, CDivB_iff, CMulB_iff, CNz_iff, and_true, true_and, and_self, Nat.sub_self, Nat.zero_add, beq_self_eq_true, le0, le1, le2, le3, le4, le17, gEq_pair, lt0, lt1, lt2, *])
/-! the while of common -/
theorem while_common : ∀ (n : Nat) (u : Option Sl) (x y : Nat), y < n → whileT (fTB (fOp gNe (fVar 1) (fC (.int 0)))) (fPar 0 1 (fCons (fVar 1) (fCons (fOp gMod (fVar 0) (fVar 1)) fNil))) n [some (.sh (.int x)), some (.sh (.int y)), u]
    = some (.nx [some (.sh (.int (Nat.gcd x y))), some (.sh (.int 0)), u])
  | 0, _, _, _, h => by omega
  | n + 1, u, x, y, h => by
    unfold whileT
    by_cases hy : y = 0
    · subst hy
      have h0 : ((0 : Nat) : Int) = 0 := rfl
      walk_at "ev"
      simp
    · have hy' : ¬ ((y : Int) = 0) := by omega
      have hm : Int.fmod (x : Int) (y : Int) = ((x % y : Nat) : Int) := by rw [Int.fmod_eq_emod_of_nonneg _ (by omega)]; rfl
      have hg : Nat.gcd x y = Nat.gcd y (x % y) := by rw [Nat.gcd_comm x y, Nat.gcd_rec y x, Nat.gcd_comm]
      have ih := while_common n u y (x % y) (by have := Nat.mod_lt x (Nat.pos_of_ne_zero hy); omega)
      rw [hg]
      clear hg h hy
      walk_at "ev"
theorem while_law : ∀ (n : Nat) (u v : Option Sl) (x y : Nat), y < n → whileT (fTB (fOp gGt (fVar 3) (fC (.int 0)))) (fPar 2 3 (fCons (fVar 3) (fCons (fOp gMod (fVar 2) (fVar 3)) fNil))) n [u, v, some (.sh (.int x)), some (.sh (.int y))]
    = some (.nx [u, v, some (.sh (.int (Nat.gcd x y))), some (.sh (.int 0))])
  | 0, _, _, _, _, h => by omega
  | n + 1, u, v, x, y, h => by
    unfold whileT
    by_cases hy : y = 0
    · subst hy
      have h0 : ((0 : Nat) : Int) = 0 := rfl
      walk_at "ev"
      simp
    · have hy' : ¬ ((y : Int) = 0) := by omega
      have hy2 : (0 : Int) < y := by omega
      have hm : Int.fmod (x : Int) (y : Int) = ((x % y : Nat) : Int) := by rw [Int.fmod_eq_emod_of_nonneg _ (by omega)]; rfl
      have hg : Nat.gcd x y = Nat.gcd y (x % y) := by rw [Nat.gcd_comm x y, Nat.gcd_rec y x, Nat.gcd_comm]
      have ih := while_law n u v y (x % y) (by have := Nat.mod_lt x (Nat.pos_of_ne_zero hy); omega)
      rw [hg]
      clear hg h hy
      walk_at "ev"
theorem while_no {ft : FT} {fb : FS} {τ τ' : TEnv} {n : Nat} (h : ft τ = some (false, τ')) (hn : 0 < n) : whileT ft fb n τ = some (.nx τ') := by
  obtain ⟨m, rfl⟩ : ∃ m, n = m + 1 := ⟨n - 1, by omega⟩
  unfold whileT
  rw [h]
  rfl
def Bd : Nat := 2 ^ 4000
theorem BdB : Bd < B := by decide +kernel
theorem B_pos : 0 < B := by decide +kernel
theorem bits_le {x : Int} (h : x.natAbs < Bd) : ¬ ((Builtin.Int.intBits x : Int) > 4000) := by
  unfold Builtin.Int.intBits
  by_cases h0 : x = 0
  · subst h0; decide
  · rw [if_neg (by simpa using h0)]
    have : x.natAbs.log2 < 4000 := (Nat.log2_lt (by omega)).mpr h
    omega
def mCommon : List T → Option T
  | [.int a, .int b] => if a.natAbs < Bd ∧ b.natAbs < Bd then some (.int (Int.gcd a b)) else none
  | _ => none
theorem mCommon_eq {a b : Int} (ha : a.natAbs < Bd) (hb : b.natAbs < Bd) : mCommon [.int a, .int b] = some (.int (Int.gcd a b)) := if_pos ⟨ha, hb⟩
theorem sp_common (ts : List T) (t : T) (h : mCommon ts = some t) : dOf 3 2 (b_common B (fun _ => none)) ts = some t := by
  unfold mCommon at h
  split at h
  · next a b =>
    split at h
    · next hb =>
      cases h
      have hw := while_common B none a.natAbs b.natAbs (Nat.lt_trans hb.2 BdB)
      have hbits := bits_le (x := ((b.natAbs : Nat) : Int)) (by simpa using hb.2)
      have hgt : gGt (.int (Builtin.Int.intBits ((b.natAbs : Nat) : Int))) (.int 4000) = some (.bl false) := by
        show some (T.bl (decide _)) = _
        rw [decide_eq_false hbits]
      have hno : whileT (fTB (fOp gGt (fUn gBits (fVar 1)) (fC (.int 4000)))) (fSeq (fPar 0 1 (fCons (fVar 1) (fCons (fOp gMod (fVar 0) (fVar 1)) fNil))) (fIfS (fTB (fOp gGt (fUn gBits (fVar 1)) (fC (.int 4000)))) (fAsg (fCall (fun _ => none) (fCons (fVar 0) (fCons (fVar 1) fNil))) (gnTup (gnCons (gnName 0) (gnCons (gnName 1) (gnCons (gnName 2) gnNil))))) fNext)) B [some (.sh (.int (a.natAbs : Nat))), some (.sh (.int (b.natAbs : Nat))), none]
          = some (.nx [some (.sh (.int (a.natAbs : Nat))), some (.sh (.int (b.natAbs : Nat))), none]) := while_no (by
            clear hw hbits
            walk_at "ev") B_pos
      unfold dOf b_common
      clear hb hbits hgt
      walk_at "ev"
      rfl
    · cases h
  · cases h
/-- the divisor that brings a / b to lowest terms, with b's sign -/
def sg (a b : Int) : Int := if b < 0 then -(Int.gcd a b : Int) else (Int.gcd a b : Int)
def frT (a b : Int) : T := .tup [.int (a.fdiv (sg a b)), .int (b.fdiv (sg a b))]
def mFrac : List T → Option T
  | [.int a, .int b] => if a.natAbs < B ∧ b.natAbs < B ∧ b ≠ 0 then some (frT a b) else none
  | _ => none
theorem mFrac_eq {a b : Int} (ha : a.natAbs < B) (hb : b.natAbs < B) (h0 : b ≠ 0) : mFrac [.int a, .int b] = some (frT a b) := if_pos ⟨ha, hb, h0⟩
theorem gcd_ne {a b : Int} (h0 : b ≠ 0) : ¬ ((Int.gcd a b : Nat) : Int) = 0 := by
  intro h
  have : Int.gcd a b = 0 := by omega
  rw [Int.gcd_eq_zero_iff] at this
  exact h0 this.2
theorem gcd_B {a b : Int} (hb : b.natAbs < B) (h0 : b ≠ 0) : Int.gcd a b < B := by
  have h1 : Int.gcd a b ∣ b.natAbs := Int.gcd_dvd_natAbs_right a b
  have := Nat.le_of_dvd (by omega) h1
  omega
theorem sp_law_frac (ts : List T) (t : T) (h : mFrac ts = some t) : dOf 4 2 (b__law_frac B) ts = some t := by
  unfold mFrac at h
  split at h
  · next a b =>
    split at h
    · next hb =>
      cases h
      obtain ⟨ha, hb, h0⟩ := hb
      have h2 := gcd_ne (a := a) h0
      have h3 := gcd_B (a := a) hb h0
      have h4 : ((Int.gcd a b : Nat) : Int).natAbs < B := by omega
      have h5 : ¬ -((Int.gcd a b : Nat) : Int) = 0 := by omega
      have h6 : (-((Int.gcd a b : Nat) : Int)).natAbs < B := by omega
      have hz : ∀ i : Int, 0 - i = -i := fun i => by omega
      have hw := while_law B (some (.sh (.int a))) (some (.sh (.int b))) a.natAbs b.natAbs hb
      have hg : Nat.gcd a.natAbs b.natAbs = Int.gcd a b := rfl
      unfold dOf b__law_frac
      by_cases hs : b < 0
      · have e : frT a b = .tup [.int (a.fdiv (-(Int.gcd a b : Int))), .int (b.fdiv (-(Int.gcd a b : Int)))] := by unfold frT sg; rw [if_pos hs]
        walk_at "ev"
      · have e : frT a b = .tup [.int (a.fdiv (Int.gcd a b : Int)), .int (b.fdiv (Int.gcd a b : Int))] := by unfold frT sg; rw [if_neg hs]
        walk_at "ev"
    · cases h
  · cases h
end My

set_option Elab.async false
set_option linter.all false
set_option maxRecDepth 100000
namespace My
open PySem PySem.Spec PyProof.Rows L2 TM Qm
local macro_rules | `(tactic| walk_at "ev") => `(tactic| simp only [fC, fVar, fOp, fUn, fTB, fTru, tru, fAnd, fOr, fNot, fAndV, fOrV, fIf, fNil, fCons, fTup, fLst, fCall, fNever, fNext, fRet, fDrop, fIfS, fSeq, fSet, fSetOwn, fAsg, fPar, gnName, gnNil, gnCons, gnTup, fApp, fDic, fSl, fNoPart, fPart, fFor, fiZip, fiSeq, fAlways, gBits, dAll, boolsOf, dTuple, sqK, zipT, loopT, gI_int, gAdd_int, gAdd_lst, gAdd_tup, gEq_int, gNe_int, gEq_bl, gNe_bl, gNot, gNeg, gIs, isNon, gIx_tup0, gIx_tup1, gIx_lst0, gIx_lst1, dAbs_nat, dMax, dMin, dLen, isi_non_int, isi_non_bool, isi_non_str, isi_non_list, isi_non_tuple, isi_non_dict, isi_non_lt, isi_bl_int, isi_bl_bool, isi_bl_str, isi_bl_list, isi_bl_tuple, isi_bl_dict, isi_bl_lt, isi_int_int, isi_int_bool, isi_int_str, isi_int_list, isi_int_tuple, isi_int_dict, isi_int_lt, isi_str_int, isi_str_bool, isi_str_str, isi_str_list, isi_str_tuple, isi_str_dict, isi_str_lt, isi_tup_int, isi_tup_bool, isi_tup_str, isi_tup_list, isi_tup_tuple, isi_tup_dict, isi_tup_lt, isi_lst_int, isi_lst_bool, isi_lst_str, isi_lst_list, isi_lst_tuple, isi_lst_dict, isi_lst_lt, isi_scr_int, isi_scr_bool, isi_scr_str, isi_scr_list, isi_scr_tuple, isi_scr_dict, isi_scr_lt, isi_dic_int, isi_dic_bool, isi_dic_str, isi_dic_list, isi_dic_tuple, isi_dic_dict, isi_dic_lt, Option.bind_some, Option.bind_none, List.getElem?_cons_zero, List.getElem?_cons_succ, List.set_cons_zero, List.set_cons_succ, List.map_cons, List.map_nil, List.cons_append, List.nil_append, List.replicate_succ, List.replicate_zero, List.length_cons, List.length_nil, if_true, if_false, ite_true, ite_false, reduceIte, Bool.not_true, Bool.not_false, Bool.false_eq_true, Nat.reduceSub, Nat.reduceAdd, Nat.reduceLeDiff, reduceCtorEq, decide_true, decide_false, ne_eq, not_true_eq_false, not_false_eq_true, CDivB_iff, CMulB_iff, CNz_iff, and_true, true_and, and_self, Nat.sub_self, Nat.zero_add, beq_self_eq_true, le0, le1, le2, le3, le4, le17, gEq_pair, lt0, lt1, lt2, *])
theorem frT_pos {a b : Int} (h : 0 < b) : frT a b = .tup [.int (a.fdiv (Int.gcd a b)), .int (b.fdiv (Int.gcd a b))] := by
  unfold frT sg
  rw [if_neg (by omega)]
/-! ### what is a whole number, a fraction -/
def notTy : T → Bool
  | .ty _ => false
  | _ => true
def isWh : T → Bool
  | .int _ => true
  | _ => false
def mWhole : List T → Option T
  | [t] => if notTy t = true then some (.bl (isWh t)) else none
  | _ => none
theorem mWhole_eq {t : T} (h : notTy t = true) : mWhole [t] = some (.bl (isWh t)) := if_pos h
theorem sp_is_whole (ts : List T) (t : T) (h : mWhole ts = some t) : dOf 1 1 b_is_whole ts = some t := by
  unfold mWhole at h
  split at h
  · next u =>
    split at h
    · next hn =>
      cases h
      cases u with
      | ty _ => cases hn
      | _ => clear hn; unfold dOf b_is_whole isWh; walk_at "ev"
    · cases h
  · cases h
/-- a thing that may be asked -/
def okI : T → Prop
  | .ty _ => False
  | .scr _ => False
  | .int i => i.natAbs < Bd
  | _ => True
def okT : T → Prop
  | .ty _ => False
  | .scr _ => False
  | .tup [x, y] => okI x ∧ okI y
  | _ => True
def isFr : T → Bool
  | .tup [.int a, .int b] => decide (1 ≤ b) && decide (((Int.gcd a b : Nat) : Int) = 1)
  | _ => false
theorem okI_whole {x : T} (h : okI x) : (∃ i, x = .int i ∧ i.natAbs < Bd) ∨ (mWhole [x] = some (.bl false) ∧ ∀ i, x ≠ .int i) := by
  cases x with
  | int i => exact .inl ⟨i, rfl, h⟩
  | ty _ => cases h
  | scr _ => cases h
  | _ => exact .inr ⟨rfl, fun i e => nomatch e⟩
theorem isFr_l {x y : T} (h : ∀ i, x ≠ .int i) : isFr (.tup [x, y]) = false := by
  unfold isFr
  split
  · next a b e => injection e with e; injection e with e1 e2; exact absurd e1 (h a)
  · rfl
theorem isFr_r {x y : T} (h : ∀ i, y ≠ .int i) : isFr (.tup [x, y]) = false := by
  unfold isFr
  split
  · next a b e => injection e with e; injection e with e1 e2; injection e2 with e3 _; exact absurd e3 (h b)
  · rfl
theorem not2 {n : Nat} : ¬ (((n + 1 + 1 + 1 : Nat)) : Int) = 2 := by omega
theorem len0 : ¬ (((0 : Nat)) : Int) = 2 := by decide
theorem len1 : ¬ (((0 + 1 : Nat)) : Int) = 2 := by decide
theorem len1' : ¬ (((1 : Nat)) : Int) = 2 := by decide
theorem len2 : (((2 : Nat)) : Int) = 2 := by decide
theorem ev_is_fraction {t : T} (h : okT t) : dOf 3 1 (b_is_fraction mWhole mCommon) [t] = some (.bl (isFr t)) := by
  have l0 := len0
  have l1 := len1'
  have l2 := len2
  cases t with
  | ty _ => cases h
  | scr _ => cases h
  | tup ts =>
    match ts, h with
    | [], _ => unfold dOf b_is_fraction isFr; walk_at "ev"
    | [x], _ => unfold dOf b_is_fraction isFr; walk_at "ev"
    | x :: y :: z :: r, _ =>
      have l3 := not2 (n := r.length)
      unfold dOf b_is_fraction isFr
      walk_at "ev"
    | [x, y], h =>
      rcases okI_whole h.1 with ⟨a, rfl, ha⟩ | ⟨hx, hn⟩
      · have k1 := mWhole_eq (t := .int a) rfl
        have i1 : isWh (.int a) = true := rfl
        rcases okI_whole h.2 with ⟨b, rfl, hb⟩ | ⟨hy, hn⟩
        · have k2 := mWhole_eq (t := .int b) rfl
          have i2 : isWh (.int b) = true := rfl
          have k3 := mCommon_eq ha hb
          have e : isFr (.tup [.int a, .int b]) = (decide (1 ≤ b) && decide (((Int.gcd a b : Nat) : Int) = 1)) := rfl
          unfold dOf b_is_fraction
          clear h ha hb
          by_cases hc : 1 ≤ b
          · walk_at "ev"
            simp
          · walk_at "ev"
            simp
        · have e := isFr_r (x := .int a) hn
          clear hn h ha
          unfold dOf b_is_fraction
          walk_at "ev"
      · have e := isFr_l (y := y) hn
        clear hn h
        unfold dOf b_is_fraction
        walk_at "ev"
  | _ => clear h; unfold dOf b_is_fraction isFr; walk_at "ev"
theorem low_iff {a b : Int} (hb : 0 < b) : (decide (a.fdiv (Int.gcd a b : Nat) = a) && decide (b.fdiv (Int.gcd a b : Nat) = b)) = decide (((Int.gcd a b : Nat) : Int) = 1) := by
  obtain ⟨x, y, hx, hy, hc, hg⟩ := split (a := a) (b := b) (by omega)
  rw [fdiv_of hx hg, fdiv_of hy hg]
  by_cases h : ((Int.gcd a b : Nat) : Int) = 1
  · rw [h] at hx hy
    rw [decide_eq_true h, decide_eq_true (show x = a by omega), decide_eq_true (show y = b by omega)]
    rfl
  · rw [decide_eq_false h, decide_eq_false (show ¬ y = b from fun e => h ?_), Bool.and_false]
    rw [e] at hy
    have : b * ((Int.gcd a b : Nat) : Int) = b * 1 := by rw [Int.mul_one, Int.mul_comm]; exact hy.symm
    exact Int.eq_of_mul_eq_mul_left (by omega) this
/-! ### comprehensions over one name -/
theorem comp_filter {ft : FT} {p : T → Bool} {r : TEnv} (hr : allSh r = true) : ∀ (ts : List T) (u : Option Sl) (acc : List T), (∀ t ∈ ts, ft (some (.sh t) :: r) = some (p t, some (.sh t) :: r)) → acc.length + ts.length ≤ sizeLine → compT (gnName 0) ft (fVar 0) ts (u :: r) acc = some (acc ++ ts.filter p)
  | [], u, acc, _, _ => by simp [compT]
  | t :: ts, u, acc, h, hl => by
    have h1 := h t List.mem_cons_self
    have ih := fun acc hl => comp_filter hr ts (some (.sh t)) acc (fun x hx => h x (List.mem_cons_of_mem _ hx)) hl
    have hl' : acc.length + (ts.length + 1) ≤ sizeLine := hl
    have ha : allSh (some (Sl.sh t) :: r) = true := hr
    have hg : gnName 0 t (u :: r) = some (some (.sh t) :: r) := rfl
    have hv : fVar 0 (some (.sh t) :: r) = some (t, some (.sh t) :: r) := rfl
    unfold compT
    rw [hg, Option.bind_some, h1, Option.bind_some]
    cases hp : p t with
    | true =>
      dsimp only
      rw [if_pos rfl, hv, Option.bind_some, if_pos ⟨ha, by omega⟩, ih _ (by simp; omega), List.filter_cons_of_pos hp, List.append_assoc]
      rfl
    | false =>
      dsimp only
      rw [if_neg (by decide), if_pos ha, ih _ (by omega), List.filter_cons_of_neg (by rw [hp]; decide)]
theorem comp_map {fe : FE} {g : T → T} {r : TEnv} (hr : allSh r = true) : ∀ (ts : List T) (u : Option Sl) (acc : List T), (∀ t ∈ ts, fe (some (.sh t) :: r) = some (g t, some (.sh t) :: r)) → acc.length + ts.length ≤ sizeLine → compT (gnName 0) fAlways fe ts (u :: r) acc = some (acc ++ ts.map g)
  | [], u, acc, _, _ => by simp [compT]
  | t :: ts, u, acc, h, hl => by
    have h1 := h t List.mem_cons_self
    have ih := fun acc hl => comp_map hr ts (some (.sh t)) acc (fun x hx => h x (List.mem_cons_of_mem _ hx)) hl
    have hl' : acc.length + (ts.length + 1) ≤ sizeLine := hl
    have ha : allSh (some (Sl.sh t) :: r) = true := hr
    have hg : gnName 0 t (u :: r) = some (some (.sh t) :: r) := rfl
    have hv : fAlways (some (.sh t) :: r) = some (true, some (.sh t) :: r) := rfl
    unfold compT
    rw [hg, Option.bind_some, hv, Option.bind_some, if_pos rfl, h1, Option.bind_some, if_pos ⟨ha, by omega⟩, ih _ (by simp; omega), List.map_cons, List.append_assoc]
    rfl
def fBad : FT := fOr (fNot (fTru (fCall dIsi (fCons (fVar 0) (fCons (fC (.ty "int")) fNil))))) (fTru (fCall dIsi (fCons (fVar 0) (fCons (fC (.ty "bool")) fNil))))
theorem bad_eq {t : T} (h : okI t) : fBad [some (.sh t)] = some (!isWh t, [some (.sh t)]) := by
  cases t <;> first | rfl | cases h
theorem bad_comp {x y : T} (hx : okI x) (hy : okI y) : fComp 1 [] (fiSeq (fVar 0)) (gnName 0) (fOr (fNot (fTru (fCall dIsi (fCons (fVar 0) (fCons (fC (.ty "int")) fNil))))) (fTru (fCall dIsi (fCons (fVar 0) (fCons (fC (.ty "bool")) fNil))))) (fVar 0) [some (.sh (.tup [x, y]))]
    = some (.lst ([x, y].filter fun t => !isWh t), [some (.sh (.tup [x, y]))]) := by
  have h := comp_filter (ft := fBad) (p := fun t => !isWh t) (r := []) rfl [x, y] none [] (fun t ht => bad_eq (by
    rcases List.mem_cons.mp ht with rfl | ht
    · exact hx
    · rw [List.mem_singleton.mp ht]; exact hy)) (small_le (n := 2) (by decide))
  have e : fiSeq (fVar 0) [some (.sh (.tup [x, y]))] = some ([x, y], [some (.sh (.tup [x, y]))]) := rfl
  unfold fComp
  rw [e, Option.bind_some, if_pos (show allSh (blkOf 1 [] (frzAll [] [some (Sl.sh (T.tup [x, y]))])) = true from rfl)]
  have h' : compT (gnName 0) (fOr (fNot (fTru (fCall dIsi (fCons (fVar 0) (fCons (fC (T.ty "int")) fNil))))) (fTru (fCall dIsi (fCons (fVar 0) (fCons (fC (T.ty "bool")) fNil))))) (fVar 0) [x, y] (blkOf 1 [] (frzAll [] [some (Sl.sh (T.tup [x, y]))])) [] = _ := h
  dsimp only
  rw [h']
  rfl
theorem ev_law_number {t : T} (h : okT t) : dOf 1 1 (b__law_number mFrac) [t] = some (.bl (isFr t)) := by
  have l0 := len0
  have l1 := len1'
  have l2 := len2
  cases t with
  | ty _ => cases h
  | scr _ => cases h
  | tup ts =>
    match ts, h with
    | [], _ => unfold dOf b__law_number isFr; walk_at "ev"
    | [x], _ => unfold dOf b__law_number isFr; walk_at "ev"
    | x :: y :: z :: r, _ =>
      have l3 := not2 (n := r.length)
      unfold dOf b__law_number isFr
      walk_at "ev"
    | [x, y], h =>
      have hc := bad_comp h.1 h.2
      rcases okI_whole h.1 with ⟨a, rfl, ha⟩ | ⟨hx, hn⟩
      · rcases okI_whole h.2 with ⟨b, rfl, hb⟩ | ⟨hy, hn⟩
        · have e : isFr (.tup [.int a, .int b]) = (decide (1 ≤ b) && decide (((Int.gcd a b : Nat) : Int) = 1)) := rfl
          have hf : ([T.int a, T.int b].filter fun t => !isWh t) = [] := rfl
          rw [hf] at hc
          have g0 : gGt (.int ((0 : Nat) : Int)) (.int 0) = some (.bl false) := rfl
          have g0' : gGt (.int 0) (.int 0) = some (.bl false) := rfl
          unfold dOf b__law_number
          by_cases hb1 : 0 < b
          · have k3 := mFrac_eq (Nat.lt_trans ha BdB) (Nat.lt_trans hb BdB) (by omega)
            rw [frT_pos hb1] at k3
            have e2 := low_iff (a := a) hb1
            have hlt : gLt (.int b) (.int 1) = some (.bl false) := by show some (T.bl (decide _)) = _; rw [decide_eq_false (by omega)]
            have hc' : 1 ≤ b := hb1
            clear h ha hb
            walk_at "ev"
            simp
          · have hc' : ¬ 1 ≤ b := by omega
            have hlt : gLt (.int b) (.int 1) = some (.bl true) := by show some (T.bl (decide _)) = _; rw [decide_eq_true (by omega)]
            clear h ha hb
            walk_at "ev"
            simp
        · have e := isFr_r (x := .int a) hn
          have hf : ([T.int a, y].filter fun t => !isWh t) = [y] := by
            have : isWh y = false := by cases y <;> first | rfl | exact absurd rfl (hn _)
            simp [List.filter, isWh, this]
          rw [hf] at hc
          have g1 : gGt (.int ((0 + 1 : Nat) : Int)) (.int 0) = some (.bl true) := rfl
          have g1' : gGt (.int 1) (.int 0) = some (.bl true) := rfl
          have g1'' : gGt (.int ((1 : Nat) : Int)) (.int 0) = some (.bl true) := rfl
          clear hn h ha
          unfold dOf b__law_number
          walk_at "ev"
      · have e := isFr_l (y := y) hn
        have hw : isWh x = false := by cases x <;> first | rfl | exact absurd rfl (hn _)
        have hf : ∃ L, ([x, y].filter fun t => !isWh t) = x :: L := ⟨[y].filter fun t => !isWh t, by rw [List.filter_cons_of_pos (by rw [hw]; rfl)]⟩
        obtain ⟨L, hf⟩ := hf
        rw [hf] at hc
        have g1 : gGt (.int ((L.length + 1 : Nat) : Int)) (.int 0) = some (.bl true) := by show some (T.bl (decide _)) = _; rw [decide_eq_true (by omega)]
        clear hn h hf hw
        unfold dOf b__law_number
        walk_at "ev"
  | _ => clear h; unfold dOf b__law_number isFr; walk_at "ev"
end My

set_option Elab.async false
set_option linter.all false
set_option maxRecDepth 100000
namespace My
open PySem PySem.Spec PyProof.Rows L2 TM Qm
local macro_rules | `(tactic| walk_at "ev") => `(tactic| simp only [fC, fVar, fOp, fUn, fTB, fTru, tru, fAnd, fOr, fNot, fAndV, fOrV, fIf, fNil, fCons, fTup, fLst, fCall, fNever, fNext, fRet, fDrop, fIfS, fSeq, fSet, fSetOwn, fAsg, fPar, gnName, gnNil, gnCons, gnTup, fApp, fDic, fSl, fNoPart, fPart, fFor, fiZip, fiSeq, fAlways, gBits, dAll, boolsOf, dTuple, sqK, zipT, loopT, gI_int, gAdd_int, gAdd_lst, gAdd_tup, gEq_int, gNe_int, gEq_bl, gNe_bl, gNot, gNeg, gIs, isNon, gIx_tup0, gIx_tup1, gIx_lst0, gIx_lst1, dAbs_nat, dMax, dMin, dLen, isi_non_int, isi_non_bool, isi_non_str, isi_non_list, isi_non_tuple, isi_non_dict, isi_non_lt, isi_bl_int, isi_bl_bool, isi_bl_str, isi_bl_list, isi_bl_tuple, isi_bl_dict, isi_bl_lt, isi_int_int, isi_int_bool, isi_int_str, isi_int_list, isi_int_tuple, isi_int_dict, isi_int_lt, isi_str_int, isi_str_bool, isi_str_str, isi_str_list, isi_str_tuple, isi_str_dict, isi_str_lt, isi_tup_int, isi_tup_bool, isi_tup_str, isi_tup_list, isi_tup_tuple, isi_tup_dict, isi_tup_lt, isi_lst_int, isi_lst_bool, isi_lst_str, isi_lst_list, isi_lst_tuple, isi_lst_dict, isi_lst_lt, isi_scr_int, isi_scr_bool, isi_scr_str, isi_scr_list, isi_scr_tuple, isi_scr_dict, isi_scr_lt, isi_dic_int, isi_dic_bool, isi_dic_str, isi_dic_list, isi_dic_tuple, isi_dic_dict, isi_dic_lt, Option.bind_some, Option.bind_none, List.getElem?_cons_zero, List.getElem?_cons_succ, List.set_cons_zero, List.set_cons_succ, List.map_cons, List.map_nil, List.cons_append, List.nil_append, List.replicate_succ, List.replicate_zero, List.length_cons, List.length_nil, if_true, if_false, ite_true, ite_false, reduceIte, Bool.not_true, Bool.not_false, Bool.false_eq_true, Nat.reduceSub, Nat.reduceAdd, Nat.reduceLeDiff, reduceCtorEq, decide_true, decide_false, ne_eq, not_true_eq_false, not_false_eq_true, CDivB_iff, CMulB_iff, CNz_iff, and_true, true_and, and_self, Nat.sub_self, Nat.zero_add, beq_self_eq_true, le0, le1, le2, le3, le4, le17, gEq_pair, lt0, lt1, lt2, *])
theorem fComp_eq {no : Nat} {cap : List Nat} {fi : FA} {fg : FG} {ft : FT} {fe : FE} {τ : TEnv} {ts us : List T} (h1 : fi τ = some (ts, τ)) (h2 : frzAll cap τ = τ) (h3 : allSh (blkOf no cap τ) = true) (h4 : compT fg ft fe ts (blkOf no cap τ) [] = some us) : fComp no cap fi fg ft fe τ = some (.lst us, τ) := by
  unfold fComp
  rw [h1, Option.bind_some]
  dsimp only
  rw [h2, if_pos h3, h4]
  rfl
theorem boolsOf_map {f : T → Bool} : ∀ ts : List T, boolsOf (ts.map fun x => T.bl (f x)) = some (ts.map f)
  | [] => rfl
  | t :: ts => by
    rw [List.map_cons, List.map_cons]
    show (boolsOf (ts.map fun x => T.bl (f x))).bind _ = _
    rw [boolsOf_map ts]
    rfl
open Classical in
noncomputable def mIsFr : List T → Option T := fun ts => match ts with
  | [t] => if okT t then some (.bl (isFr t)) else none
  | _ => none
theorem mIsFr_eq {t : T} (h : okT t) : mIsFr [t] = some (.bl (isFr t)) := if_pos h
theorem mIsFr_inv {ts : List T} {t : T} (h : mIsFr ts = some t) : ∃ u, ts = [u] ∧ okT u ∧ t = .bl (isFr u) := by
  unfold mIsFr at h
  split at h
  · next u =>
    split at h
    · next k => cases h; exact ⟨u, rfl, k, rfl⟩
    · cases h
  · cases h
theorem sp_is_fraction (ts : List T) (t : T) (h : mIsFr ts = some t) : dOf 3 1 (b_is_fraction mWhole mCommon) ts = some t := by
  obtain ⟨u, rfl, k, rfl⟩ := mIsFr_inv h
  exact ev_is_fraction k
theorem sp_law_number (ts : List T) (t : T) (h : mIsFr ts = some t) : dOf 1 1 (b__law_number mFrac) ts = some t := by
  obtain ⟨u, rfl, k, rfl⟩ := mIsFr_inv h
  exact ev_law_number k
/-! ### rows -/
def okR : T → Prop
  | .ty _ => False
  | .scr _ => False
  | .lst ts => ts.length ≤ 900 ∧ ∀ x ∈ ts, okT x
  | _ => True
def isRow (n : Int) : T → Bool
  | .lst ts => decide ((ts.length : Int) = n) && ts.all isFr
  | _ => false
theorem filter_all {p : T → Bool} (ts : List T) : decide ((((ts.filter fun t => !p t).length : Nat) : Int) = 0) = ts.all p := by
  induction ts with
  | nil => rfl
  | cons t ts ih =>
    cases hp : p t with
    | true => rw [List.filter_cons_of_neg (by rw [hp]; decide), ih, List.all_cons, hp, Bool.true_and]
    | false =>
      rw [List.filter_cons_of_pos (by rw [hp]; rfl), List.all_cons, hp, Bool.false_and, List.length_cons]
      exact decide_eq_false (by omega)
theorem ev_is_row {t : T} {n : Int} (h : okR t) : dOf 2 2 (b_is_row mIsFr) [t, .int n] = some (.bl (isRow n t)) := by
  cases t with
  | ty _ => cases h
  | scr _ => cases h
  | lst ts =>
    have hm := comp_map (fe := fCall mIsFr (fCons (fVar 0) fNil)) (g := fun x => .bl (isFr x)) (r := []) rfl ts none [] (fun x hx => by
      show ((mIsFr [x]).bind _) = _
      rw [mIsFr_eq (h.2 x hx)]
      rfl) (small_le (by have := h.1; simp; omega))
    have hc : fComp 1 [] (fiSeq (fVar 0)) (gnName 0) fAlways (fCall mIsFr (fCons (fVar 0) fNil)) [some (.sh (.lst ts)), some (.sh (.int n))] = some (.lst (ts.map fun x => T.bl (isFr x)), [some (.sh (.lst ts)), some (.sh (.int n))]) :=
      fComp_eq (h1 := rfl) rfl rfl hm
    have hb := boolsOf_map (f := isFr) ts
    have e : isRow n (.lst ts) = (decide ((ts.length : Int) = n) && ts.all isFr) := rfl
    have ha : (ts.map isFr).all id = ts.all isFr := by rw [List.all_map]; rfl
    clear h hm
    unfold dOf b_is_row
    by_cases hn : (ts.length : Int) = n
    · have hd := decide_eq_true hn
      subst hn
      walk_at "ev"
      simp
    · have hd := decide_eq_false hn
      walk_at "ev"
      simp
  | _ => clear h; unfold dOf b_is_row isRow; walk_at "ev"
theorem ev_law_row {t : T} {n : Int} (h : okR t) : dOf 2 2 (b__law_row mIsFr) [t, .int n] = some (.bl (isRow n t)) := by
  cases t with
  | ty _ => cases h
  | scr _ => cases h
  | lst ts =>
    have hm := comp_filter (ft := fNot (fTru (fCall mIsFr (fCons (fVar 0) fNil)))) (p := fun x => !isFr x) (r := []) rfl ts none [] (fun x hx => by
      show ((((mIsFr [x]).bind fun t => some (t, [some (Sl.sh x)])).bind fun p => (tru p.1).bind fun c => some (c, p.2)).bind fun p => some (!p.1, p.2)) = _
      rw [mIsFr_eq (h.2 x hx)]
      rfl) (small_le (by have := h.1; simp; omega))
    have hc : fComp 1 [] (fiSeq (fVar 0)) (gnName 0) (fNot (fTru (fCall mIsFr (fCons (fVar 0) fNil)))) (fVar 0) [some (.sh (.lst ts)), some (.sh (.int n))] = some (.lst (ts.filter fun x => !isFr x), [some (.sh (.lst ts)), some (.sh (.int n))]) :=
      fComp_eq (h1 := rfl) rfl rfl hm
    have e : isRow n (.lst ts) = (decide ((ts.length : Int) = n) && ts.all isFr) := rfl
    have ha := filter_all (p := isFr) ts
    clear h hm
    unfold dOf b__law_row
    by_cases hn : (ts.length : Int) = n
    · have hd := decide_eq_true hn
      subst hn
      walk_at "ev"
      simp
    · have hd := decide_eq_false hn
      walk_at "ev"
      simp
  | _ => clear h; unfold dOf b__law_row isRow; walk_at "ev"
open Classical in
noncomputable def mRow : List T → Option T := fun ts => match ts with
  | [t, .int n] => if okR t then some (.bl (isRow n t)) else none
  | _ => none
theorem mRow_eq {t : T} {n : Int} (h : okR t) : mRow [t, .int n] = some (.bl (isRow n t)) := if_pos h
theorem mRow_inv {ts : List T} {t : T} (h : mRow ts = some t) : ∃ u n, ts = [u, .int n] ∧ okR u ∧ t = .bl (isRow n u) := by
  unfold mRow at h
  split at h
  · next u n =>
    split at h
    · next k => cases h; exact ⟨u, n, rfl, k, rfl⟩
    · cases h
  · cases h
theorem sp_is_row (ts : List T) (t : T) (h : mRow ts = some t) : dOf 2 2 (b_is_row mIsFr) ts = some t := by
  obtain ⟨u, n, rfl, k, rfl⟩ := mRow_inv h
  exact ev_is_row k
theorem sp_law_row (ts : List T) (t : T) (h : mRow ts = some t) : dOf 2 2 (b__law_row mIsFr) ts = some t := by
  obtain ⟨u, n, rfl, k, rfl⟩ := mRow_inv h
  exact ev_law_row k
/-! ### tables -/
def okTb : T → Prop
  | .ty _ => False
  | .scr _ => False
  | .lst ts => ts.length ≤ 900 ∧ ∀ x ∈ ts, okR x
  | _ => True
def isTab (m n : Int) : T → Bool
  | .lst ts => decide ((ts.length : Int) = m) && ts.all (isRow n)
  | _ => false
theorem ev_is_table {t : T} {m n : Int} (h : okTb t) : dOf 3 3 (b_is_table mRow) [t, .int m, .int n] = some (.bl (isTab m n t)) := by
  cases t with
  | ty _ => cases h
  | scr _ => cases h
  | lst ts =>
    have hm := comp_map (fe := fCall mRow (fCons (fVar 0) (fCons (fVar 1) fNil))) (g := fun x => .bl (isRow n x)) (r := [some (.sh (.int n))]) rfl ts none [] (fun x hx => by
      show ((mRow [x, .int n]).bind _) = _
      rw [mRow_eq (h.2 x hx)]
      rfl) (small_le (by have := h.1; simp; omega))
    have hc : fComp 1 [2] (fiSeq (fVar 0)) (gnName 0) fAlways (fCall mRow (fCons (fVar 0) (fCons (fVar 1) fNil))) [some (.sh (.lst ts)), some (.sh (.int m)), some (.sh (.int n))] = some (.lst (ts.map fun x => T.bl (isRow n x)), [some (.sh (.lst ts)), some (.sh (.int m)), some (.sh (.int n))]) :=
      fComp_eq (h1 := rfl) rfl rfl hm
    have hb := boolsOf_map (f := isRow n) ts
    have e : isTab m n (.lst ts) = (decide ((ts.length : Int) = m) && ts.all (isRow n)) := rfl
    have ha : (ts.map (isRow n)).all id = ts.all (isRow n) := by rw [List.all_map]; rfl
    clear h hm
    unfold dOf b_is_table
    by_cases hn : (ts.length : Int) = m
    · have hd := decide_eq_true hn
      subst hn
      walk_at "ev"
      simp
    · have hd := decide_eq_false hn
      walk_at "ev"
      simp
  | _ => clear h; unfold dOf b_is_table isTab; walk_at "ev"
theorem ev_law_table {t : T} {m n : Int} (h : okTb t) : dOf 3 3 (b__law_table mRow) [t, .int m, .int n] = some (.bl (isTab m n t)) := by
  cases t with
  | ty _ => cases h
  | scr _ => cases h
  | lst ts =>
    have hm := comp_filter (ft := fNot (fTru (fCall mRow (fCons (fVar 0) (fCons (fVar 1) fNil))))) (p := fun x => !isRow n x) (r := [some (.sh (.int n))]) rfl ts none [] (fun x hx => by
      show ((((mRow [x, .int n]).bind fun t => some (t, [some (Sl.sh x), some (Sl.sh (.int n))])).bind fun p => (tru p.1).bind fun c => some (c, p.2)).bind fun p => some (!p.1, p.2)) = _
      rw [mRow_eq (h.2 x hx)]
      rfl) (small_le (by have := h.1; simp; omega))
    have hc : fComp 1 [2] (fiSeq (fVar 0)) (gnName 0) (fNot (fTru (fCall mRow (fCons (fVar 0) (fCons (fVar 1) fNil))))) (fVar 0) [some (.sh (.lst ts)), some (.sh (.int m)), some (.sh (.int n))] = some (.lst (ts.filter fun x => !isRow n x), [some (.sh (.lst ts)), some (.sh (.int m)), some (.sh (.int n))]) :=
      fComp_eq (h1 := rfl) rfl rfl hm
    have e : isTab m n (.lst ts) = (decide ((ts.length : Int) = m) && ts.all (isRow n)) := rfl
    have ha := filter_all (p := isRow n) ts
    clear h hm
    unfold dOf b__law_table
    by_cases hn : (ts.length : Int) = m
    · have hd := decide_eq_true hn
      subst hn
      walk_at "ev"
      simp
    · have hd := decide_eq_false hn
      walk_at "ev"
      simp
  | _ => clear h; unfold dOf b__law_table isTab; walk_at "ev"
open Classical in
noncomputable def mTab : List T → Option T := fun ts => match ts with
  | [t, .int m, .int n] => if okTb t then some (.bl (isTab m n t)) else none
  | _ => none
theorem mTab_eq {t : T} {m n : Int} (h : okTb t) : mTab [t, .int m, .int n] = some (.bl (isTab m n t)) := if_pos h
theorem mTab_inv {ts : List T} {t : T} (h : mTab ts = some t) : ∃ u m n, ts = [u, .int m, .int n] ∧ okTb u ∧ t = .bl (isTab m n u) := by
  unfold mTab at h
  split at h
  · next u m n =>
    split at h
    · next k => cases h; exact ⟨u, m, n, rfl, k, rfl⟩
    · cases h
  · cases h
theorem sp_is_table (ts : List T) (t : T) (h : mTab ts = some t) : dOf 3 3 (b_is_table mRow) ts = some t := by
  obtain ⟨u, m, n, rfl, k, rfl⟩ := mTab_inv h
  exact ev_is_table k
theorem sp_law_table (ts : List T) (t : T) (h : mTab ts = some t) : dOf 3 3 (b__law_table mRow) ts = some t := by
  obtain ⟨u, m, n, rfl, k, rfl⟩ := mTab_inv h
  exact ev_law_table k
end My

set_option Elab.async false
set_option linter.all false
set_option maxRecDepth 100000
namespace My
open PySem PySem.Spec PyProof.Rows L2 TM Qm
local macro_rules | `(tactic| walk_at "ev") => `(tactic| simp only [fC, fVar, fOp, fUn, fTB, fTru, tru, fAnd, fOr, fNot, fAndV, fOrV, fIf, fNil, fCons, fTup, fLst, fCall, fNever, fNext, fRet, fDrop, fIfS, fSeq, fSet, fSetOwn, fAsg, fPar, gnName, gnNil, gnCons, gnTup, fApp, fDic, fSl, fNoPart, fPart, fFor, fiZip, fiSeq, fAlways, gBits, dAll, boolsOf, dTuple, sqK, zipT, loopT, gI_int, gAdd_int, gAdd_lst, gAdd_tup, gEq_int, gNe_int, gEq_bl, gNe_bl, gNot, gNeg, gIs, isNon, gIx_tup0, gIx_tup1, gIx_lst0, gIx_lst1, dAbs_nat, dMax, dMin, dLen, isi_non_int, isi_non_bool, isi_non_str, isi_non_list, isi_non_tuple, isi_non_dict, isi_non_lt, isi_bl_int, isi_bl_bool, isi_bl_str, isi_bl_list, isi_bl_tuple, isi_bl_dict, isi_bl_lt, isi_int_int, isi_int_bool, isi_int_str, isi_int_list, isi_int_tuple, isi_int_dict, isi_int_lt, isi_str_int, isi_str_bool, isi_str_str, isi_str_list, isi_str_tuple, isi_str_dict, isi_str_lt, isi_tup_int, isi_tup_bool, isi_tup_str, isi_tup_list, isi_tup_tuple, isi_tup_dict, isi_tup_lt, isi_lst_int, isi_lst_bool, isi_lst_str, isi_lst_list, isi_lst_tuple, isi_lst_dict, isi_lst_lt, isi_scr_int, isi_scr_bool, isi_scr_str, isi_scr_list, isi_scr_tuple, isi_scr_dict, isi_scr_lt, isi_dic_int, isi_dic_bool, isi_dic_str, isi_dic_list, isi_dic_tuple, isi_dic_dict, isi_dic_lt, Option.bind_some, Option.bind_none, List.getElem?_cons_zero, List.getElem?_cons_succ, List.set_cons_zero, List.set_cons_succ, List.map_cons, List.map_nil, List.cons_append, List.nil_append, List.replicate_succ, List.replicate_zero, List.length_cons, List.length_nil, if_true, if_false, ite_true, ite_false, reduceIte, Bool.not_true, Bool.not_false, Bool.false_eq_true, Nat.reduceSub, Nat.reduceAdd, Nat.reduceLeDiff, reduceCtorEq, decide_true, decide_false, ne_eq, not_true_eq_false, not_false_eq_true, CDivB_iff, CMulB_iff, CNz_iff, and_true, true_and, and_self, Nat.sub_self, Nat.zero_add, beq_self_eq_true, le0, le1, le2, le3, le4, le17, gEq_pair, lt0, lt1, lt2, *])
theorem fdiv_le {a g : Int} (h : g ∣ a) (hg : g ≠ 0) : (a.fdiv g).natAbs ≤ a.natAbs := by
  obtain ⟨x, rfl⟩ := h
  rw [Int.mul_fdiv_cancel_left x hg, Int.natAbs_mul]
  exact Nat.le_mul_of_pos_left _ (by omega)
theorem ix_in {L : List T} {i : Int} (h0 : 0 ≤ i) (h1 : i < (L.length : Int)) : ∃ t, gIx (.lst L) (.int i) = some t ∧ t ∈ L := by
  obtain ⟨j, rfl⟩ := Int.eq_ofNat_of_zero_le h0
  have hj : j < L.length := by omega
  exact ⟨L[j], atI_nat (List.getElem?_eq_getElem hj), List.getElem_mem hj⟩

/-! ### what can be compared -/
def shp (n : Nat) (t : T) : Prop := ∃ d, toP t = some d ∧ d.canLay0 = true ∧ d.depth ≤ n
theorem shp_all {n : Nat} : ∀ {ts : List T}, (∀ x ∈ ts, shp n x) → ∃ ds, toPs ts = some ds ∧ PyData.canLayAll0 ds = true ∧ PyData.depthAll ds ≤ n
  | [], _ => ⟨[], rfl, rfl, Nat.zero_le _⟩
  | t :: ts, h => by
    obtain ⟨d, h1, h2, h3⟩ := h t List.mem_cons_self
    obtain ⟨ds, g1, g2, g3⟩ := shp_all fun x hx => h x (List.mem_cons_of_mem _ hx)
    refine ⟨d :: ds, by simp only [toPs, h1, g1, Option.bind_some], by simp only [PyData.canLayAll0, h2, g2, Bool.and_self], by simp only [PyData.depthAll]; omega⟩
theorem shp_lst {n : Nat} {ts : List T} (h : ∀ x ∈ ts, shp n x) : shp (n + 1) (.lst ts) := by
  obtain ⟨ds, h1, h2, h3⟩ := shp_all h
  exact ⟨.list ds, by simp only [toP, h1, Option.map_some], by simp only [PyData.canLay0, h2], by simp only [PyData.depth]; omega⟩
theorem shp_tup {n : Nat} {ts : List T} (h : ∀ x ∈ ts, shp n x) : shp (n + 1) (.tup ts) := by
  obtain ⟨ds, h1, h2, h3⟩ := shp_all h
  exact ⟨.tuple ds, by simp only [toP, h1, Option.map_some], by simp only [PyData.canLay0, h2], by simp only [PyData.depth]; omega⟩
theorem shp.mono {n m : Nat} {t : T} (h : shp n t) (l : n ≤ m) : shp m t := by
  obtain ⟨d, h1, h2, h3⟩ := h
  exact ⟨d, h1, h2, Nat.le_trans h3 l⟩
theorem shp_int (n : Nat) (i : Int) : shp n (.int i) := ⟨.int i, rfl, rfl, Nat.zero_le _⟩
theorem shp_bl (n : Nat) (i : Bool) : shp n (.bl i) := ⟨.bool i, rfl, rfl, Nat.zero_le _⟩
theorem shp_non (n : Nat) : shp n .non := ⟨.none, rfl, rfl, Nat.zero_le _⟩
theorem cmp_nil {neg : Bool} {ts : List T} (h : shp 60 (.lst ts)) : gEqW neg (.lst ts) (.lst []) = some (.bl (if neg then !ts.isEmpty else ts.isEmpty)) := by
  obtain ⟨d, h1, h2, h3⟩ := h
  have hs : SeqAt.shaped d = true := by
    unfold SeqAt.shaped
    rw [h2, Bool.true_and]
    exact decide_eq_true (by omega)
  simp only [toP] at h1
  cases e : toPs ts with
  | none => rw [e] at h1; cases h1
  | some ds =>
    rw [e] at h1
    have hd : d = .list ds := (Option.some.inj h1).symm
    subst hd
    have e2 : toP (.lst ts) = some (.list ds) := by simp only [toP, e, Option.map_some]
    have e3 : toP (.lst []) = some (.list []) := rfl
    have hs2 : SeqAt.shaped (.list []) = true := rfl
    unfold gEqW
    rw [e2, e3, Option.bind_some, Option.bind_some, if_pos ⟨hs, hs2⟩]
    have e4 : PyData.eqv (.list ds) (.list []) = ts.isEmpty := by
      cases ts with
      | nil => cases e; rfl
      | cons t ts =>
        simp only [toPs] at e
        obtain ⟨d', _, e⟩ := bind_some e
        obtain ⟨ds', _, e⟩ := bind_some e
        cases e
        rfl
    rw [e4]
/-! ### figures -/
theorem B1000 : 1000 < Bd := by decide +kernel
theorem okI_small {i : Int} (h1 : -1000 ≤ i) (h2 : i ≤ 1000) : okI (.int i) := by
  show i.natAbs < Bd
  have := B1000
  omega
theorem loop_step {fg : FG} {fb : FS} {t : T} {ts : List T} {τ τ1 τ2 : TEnv} (h1 : fg t τ = some τ1) (h2 : fb τ1 = some (.nx τ2)) : loopT fg fb (t :: ts) τ = loopT fg fb ts τ2 := by
  rw [loopT, h1, Option.bind_some, h2]
  rfl
abbrev dDigits : List T → Option T := dOf 5 3 b__law_digits
def digBody : FS := fSeq (fApp 3 (fOp gMod (fVar 0) (fVar 1))) (fSet 0 (fOp gDiv (fVar 0) (fVar 1)))
theorem dig_loop : ∀ (m : Nat) (lo c n : Int) (ts : List T) (u : Option Sl), ts.length + m ≤ 1000 → ∃ (c' : Int) (ds : List Int) (u' : Option Sl), loopT (gnName 4) digBody (upTo lo m) [some (.sh (.int c)), some (.sh (.int 228)), some (.sh (.int n)), some (.own ts), u]
    = some (.nx [some (.sh (.int c')), some (.sh (.int 228)), some (.sh (.int n)), some (.own (ts ++ ds.map T.int)), u']) ∧ ds.length = m ∧ ∀ d ∈ ds, 0 ≤ d ∧ d < 228
  | 0, lo, c, n, ts, u, _ => ⟨c, [], u, by simp [TM.upTo, loopT], rfl, fun d hd => by cases hd⟩
  | m + 1, lo, c, n, ts, u, hl => by
    obtain ⟨c', ds, u', h1, h2, h3⟩ := dig_loop m (lo + 1) (c.fdiv 228) n (ts ++ [.int (c.fmod 228)]) (some (.sh (.int lo))) (by simp; omega)
    refine ⟨c', c.fmod 228 :: ds, u', ?_, by simp [h2], fun d hd => ?_⟩
    · have hz : ts.length < sizeLine := small1000 (by omega)
      have b1 : (228 : Int).natAbs < B := num_B (n := 228) (by decide)
      have n0 : ¬ (228 : Int) = 0 := by decide
      have hb : digBody [some (.sh (.int c)), some (.sh (.int 228)), some (.sh (.int n)), some (.own ts), some (.sh (.int lo))] = some (.nx [some (.sh (.int (c.fdiv 228))), some (.sh (.int 228)), some (.sh (.int n)), some (.own (ts ++ [.int (c.fmod 228)])), some (.sh (.int lo))]) := by
        clear h1 h2 h3 hl
        unfold digBody
        walk_at "ev"
      rw [show TM.upTo lo (m + 1) = T.int lo :: TM.upTo (lo + 1) m from rfl, loop_step rfl hb, h1]
      simp
    · rcases List.mem_cons.mp hd with rfl | hd
      · exact fmod_rng c (by decide)
      · exact h3 d hd
theorem ev_digits (c n : Int) (h0 : 0 ≤ n) (h1 : n ≤ 900) : ∃ ds : List Int, dDigits [.int c, .int 228, .int n] = some (.lst (ds.map T.int)) ∧ ds.length = n.toNat ∧ ∀ d ∈ ds, 0 ≤ d ∧ d < 228 := by
  obtain ⟨c', ds, u', e1, e2, e3⟩ := dig_loop n.toNat 0 c n [] none (by simp; omega)
  refine ⟨ds, ?_, e2, e3⟩
  have hr : (-(2 ^ 62 : Int) ≤ n ∧ n < 2 ^ 62) := by omega
  have hfi : fiRng1 (fCons (fVar 2) fNil) [some (.sh (.int c)), some (.sh (.int 228)), some (.sh (.int n)), some (.own []), none] = some (upTo 0 n.toNat, [some (.sh (.int c)), some (.sh (.int 228)), some (.sh (.int n)), some (.own []), none]) := by
    show (if _ then _ else _) = _
    rw [if_pos hr]
  have e1' : loopT (gnName 4) (fSeq (fApp 3 (fOp gMod (fVar 0) (fVar 1))) (fSet 0 (fOp gDiv (fVar 0) (fVar 1)))) (upTo 0 n.toNat) [some (.sh (.int c)), some (.sh (.int 228)), some (.sh (.int n)), some (.own []), none] = _ := e1
  rw [List.nil_append] at e1'
  clear hr e1 e2 e3
  unfold dDigits dOf b__law_digits
  walk_at "ev"
end My

set_option Elab.async false
set_option linter.all false
set_option maxRecDepth 100000
namespace My
open PySem PySem.Spec PyProof.Rows L2 TM Qm
local macro_rules | `(tactic| walk_at "ev") => `(tactic| simp only [fC, fVar, fOp, fUn, fTB, fTru, tru, fAnd, fOr, fNot, fAndV, fOrV, fIf, fNil, fCons, fTup, fLst, fCall, fNever, fNext, fRet, fDrop, fIfS, fSeq, fSet, fSetOwn, fAsg, fPar, gnName, gnNil, gnCons, gnTup, fApp, fDic, fSl, fNoPart, fPart, fFor, fiZip, fiSeq, fAlways, gBits, dAll, boolsOf, dTuple, sqK, zipT, loopT, gI_int, gAdd_int, gAdd_lst, gAdd_tup, gEq_int, gNe_int, gEq_bl, gNe_bl, gNot, gNeg, gIs, isNon, gIx_tup0, gIx_tup1, gIx_lst0, gIx_lst1, dAbs_nat, dMax, dMin, dLen, isi_non_int, isi_non_bool, isi_non_str, isi_non_list, isi_non_tuple, isi_non_dict, isi_non_lt, isi_bl_int, isi_bl_bool, isi_bl_str, isi_bl_list, isi_bl_tuple, isi_bl_dict, isi_bl_lt, isi_int_int, isi_int_bool, isi_int_str, isi_int_list, isi_int_tuple, isi_int_dict, isi_int_lt, isi_str_int, isi_str_bool, isi_str_str, isi_str_list, isi_str_tuple, isi_str_dict, isi_str_lt, isi_tup_int, isi_tup_bool, isi_tup_str, isi_tup_list, isi_tup_tuple, isi_tup_dict, isi_tup_lt, isi_lst_int, isi_lst_bool, isi_lst_str, isi_lst_list, isi_lst_tuple, isi_lst_dict, isi_lst_lt, isi_scr_int, isi_scr_bool, isi_scr_str, isi_scr_list, isi_scr_tuple, isi_scr_dict, isi_scr_lt, isi_dic_int, isi_dic_bool, isi_dic_str, isi_dic_list, isi_dic_tuple, isi_dic_dict, isi_dic_lt, Option.bind_some, Option.bind_none, List.getElem?_cons_zero, List.getElem?_cons_succ, List.set_cons_zero, List.set_cons_succ, List.map_cons, List.map_nil, List.cons_append, List.nil_append, List.replicate_succ, List.replicate_zero, List.length_cons, List.length_nil, if_true, if_false, ite_true, ite_false, reduceIte, Bool.not_true, Bool.not_false, Bool.false_eq_true, Nat.reduceSub, Nat.reduceAdd, Nat.reduceLeDiff, reduceCtorEq, decide_true, decide_false, ne_eq, not_true_eq_false, not_false_eq_true, CDivB_iff, CMulB_iff, CNz_iff, and_true, true_and, and_self, Nat.sub_self, Nat.zero_add, beq_self_eq_true, le0, le1, le2, le3, le4, le17, gEq_pair, lt0, lt1, lt2, *])
/-! ### fractions as they are drawn -/
def Num (t : T) : Prop := ∃ a b : Int, t = .tup [.int a, .int b] ∧ (-1000 ≤ a ∧ a ≤ 1000) ∧ (-1000 ≤ b ∧ b ≤ 1000)
theorem Num.ok {t : T} (h : Num t) : okT t := by
  obtain ⟨a, b, rfl, h1, h2⟩ := h
  exact ⟨okI_small h1.1 h1.2, okI_small h2.1 h2.2⟩
theorem Num.sh {t : T} (h : Num t) : shp 1 t := by
  obtain ⟨a, b, rfl, h1, h2⟩ := h
  refine shp_tup fun x hx => ?_
  rcases List.mem_cons.mp hx with rfl | hx
  · exact shp_int _ _
  · rw [List.mem_singleton.mp hx]; exact shp_int _ _
theorem num_pair {a b : Int} (h1 : -1000 ≤ a ∧ a ≤ 1000) (h2 : -1000 ≤ b ∧ b ≤ 1000) : Num (.tup [.int a, .int b]) := ⟨a, b, rfl, h1, h2⟩
theorem num_frT {a b : Int} (h1 : -1000 ≤ a ∧ a ≤ 1000) (h2 : 0 < b ∧ b ≤ 1000) : Num (frT a b) := by
  rw [frT_pos h2.1]
  have hg := gcd_ne (a := a) (b := b) (by omega)
  have q1 := fdiv_le (Int.gcd_dvd_left a b) hg
  have q2 := fdiv_le (Int.gcd_dvd_right a b) hg
  exact ⟨_, _, rfl, by omega, by omega⟩
theorem small_B {i : Int} (h1 : -1000000 ≤ i) (h2 : i ≤ 1000000) : i.natAbs < B := by
  have := bigB
  omega
theorem le5 : (5 : Nat) ≤ sizeLine := small_le (by decide)
theorem le8 : (8 : Nat) ≤ sizeLine := small_le (by decide)
theorem le9 : (9 : Nat) ≤ sizeLine := small_le (by decide)
theorem le12 : (12 : Nat) ≤ sizeLine := small_le (by decide)
noncomputable abbrev dSome : List T → Option T := dOf 6 2 (b__law_some dDigits mFrac mMix)
def someBody : FS := (fSeq (fSet 4 (fCall mMix (fCons (fVar 0) (fCons (fVar 3) fNil))))
    (fSeq (fSetOwn 5 (fCons (fTup (fCons (fC (.int 0)) (fCons (fC (.int 1)) fNil))) (fCons (fTup (fCons (fOp gSub (fOp gMod (fOp gDiv (fVar 4) (fC (.int 4))) (fC (.int 5))) (fC (.int 2))) (fCons (fC (.int 1)) fNil))) (fCons (fCall mFrac (fCons (fOp gSub (fOp gMod (fOp gDiv (fVar 4) (fC (.int 4))) (fC (.int 19))) (fC (.int 9))) (fCons (fOp gAdd (fC (.int 1)) (fOp gMod (fOp gDiv (fVar 4) (fC (.int 80))) (fC (.int 12)))) fNil))) fNil))))
    (fApp 2 (fOp gIx (fOp gAdd (fVar 5) (fLst (fCons (fTup (fCons (fC (.int 0)) (fCons (fC (.int 1)) fNil))) (fCons (fTup (fCons (fC (.int 1)) (fCons (fC (.int 1)) fNil))) fNil)))) (fOp gMod (fVar 4) (fC (.int 5)))))))
theorem some_turn (c n k : Int) (ts : List T) (x4 x5 : Option Sl) (hk : 0 ≤ k ∧ k ≤ 1000) (hl : ts.length < 1000) : ∃ t y4 y5, Num t ∧ someBody [some (.sh (.int c)), some (.sh (.int n)), some (.own ts), some (.sh (.int k)), x4, x5]
    = some (.nx [some (.sh (.int c)), some (.sh (.int n)), some (.own (ts ++ [t])), some (.sh (.int k)), y4, y5]) := by
  have hm := mMix_eq (c := c) (k := k) (small_B (by omega) (by omega))
  have hr := mixF_rng c k
  generalize mixF c k = m at *
  have r5 := fmod_rng (m.fdiv 4) (b := 5) (by decide)
  have r19 := fmod_rng (m.fdiv 4) (b := 19) (by decide)
  have r12 := fmod_rng (m.fdiv 80) (b := 12) (by decide)
  have rm := fmod_rng m (b := 5) (by decide)
  have hf := mFrac_eq (a := (m.fdiv 4).fmod 19 - 9) (b := 1 + (m.fdiv 80).fmod 12) (small_B (by omega) (by omega)) (small_B (by omega) (by omega)) (by omega)
  have hn := num_frT (a := (m.fdiv 4).fmod 19 - 9) (b := 1 + (m.fdiv 80).fmod 12) (by omega) (by omega)
  generalize frT ((m.fdiv 4).fmod 19 - 9) (1 + (m.fdiv 80).fmod 12) = fr at *
  obtain ⟨t, ht, hmem⟩ := ix_in (L := [.tup [.int 0, .int 1], .tup [.int ((m.fdiv 4).fmod 5 - 2), .int 1], fr, .tup [.int 0, .int 1], .tup [.int 1, .int 1]]) (i := m.fmod 5) (by omega) (by simp; omega)
  refine ⟨t, some (.sh (.int m)), some (.sh (.lst [.tup [.int 0, .int 1], .tup [.int ((m.fdiv 4).fmod 5 - 2), .int 1], fr])), ?_, ?_⟩
  rotate_left
  · have hz : ts.length < sizeLine := small1000 (by omega)
    have n4 : ¬ (4 : Int) = 0 := by decide
    have n5 : ¬ (5 : Int) = 0 := by decide
    have n19 : ¬ (19 : Int) = 0 := by decide
    have n80 : ¬ (80 : Int) = 0 := by decide
    have n12 : ¬ (12 : Int) = 0 := by decide
    have b4 : (4 : Int).natAbs < B := small_B (by decide) (by decide)
    have b5 : (5 : Int).natAbs < B := small_B (by decide) (by decide)
    have b19 : (19 : Int).natAbs < B := small_B (by decide) (by decide)
    have b80 : (80 : Int).natAbs < B := small_B (by decide) (by decide)
    have b12 : (12 : Int).natAbs < B := small_B (by decide) (by decide)
    have l5 := le5
    have l3 := le3
    have l2 := le2
    clear hr r5 r19 r12 rm hn hmem hk hl
    unfold someBody
    walk_at "ev"
  · simp only [List.mem_cons, List.not_mem_nil, or_false] at hmem
    rcases hmem with rfl | rfl | rfl | rfl | rfl
    · exact num_pair (by omega) (by omega)
    · exact num_pair (by omega) (by omega)
    · exact hn
    · exact num_pair (by omega) (by omega)
    · exact num_pair (by omega) (by omega)
theorem some_loop (c n : Int) : ∀ (m : Nat) (lo : Int) (ts : List T) (x3 x4 x5 : Option Sl), 0 ≤ lo → lo + m ≤ 1000 → ts.length + m < 1000 → ∃ us y3 y4 y5, (∀ t ∈ us, Num t) ∧ us.length = m ∧ loopT (gnName 3) someBody (TM.upTo lo m) [some (.sh (.int c)), some (.sh (.int n)), some (.own ts), x3, x4, x5]
    = some (.nx [some (.sh (.int c)), some (.sh (.int n)), some (.own (ts ++ us)), y3, y4, y5])
  | 0, lo, ts, x3, x4, x5, _, _, _ => ⟨[], x3, x4, x5, fun t ht => (by cases ht), rfl, by simp [TM.upTo, loopT]⟩
  | m + 1, lo, ts, x3, x4, x5, h0, h1, h2 => by
    obtain ⟨t, y4, y5, ht, hb⟩ := some_turn c n lo ts x4 x5 (by omega) (by omega)
    obtain ⟨us, z3, z4, z5, g1, g2, g3⟩ := some_loop c n m (lo + 1) (ts ++ [t]) (some (.sh (.int lo))) y4 y5 (by omega) (by omega) (by simp; omega)
    refine ⟨t :: us, z3, z4, z5, fun x hx => ?_, by simp [g2], ?_⟩
    · rcases List.mem_cons.mp hx with rfl | hx
      · exact ht
      · exact g1 x hx
    · rw [show TM.upTo lo (m + 1) = T.int lo :: TM.upTo (lo + 1) m from rfl, loop_step rfl hb, g3]
      simp
theorem rng1_eq {f : FE} {τ : TEnv} {n : Int} (h : f τ = some (.int n, τ)) (h0 : 0 ≤ n) (h1 : n ≤ 1000) : fiRng1 (fCons f fNil) τ = some (TM.upTo 0 n.toNat, τ) := by
  unfold fiRng1 fCons fNil
  rw [h]
  show (if _ then _ else _) = _
  rw [if_pos (by omega)]
def numOf : T → T
  | .int d => frT (d.fmod 19 - 9) (1 + d.fdiv 19)
  | _ => .non
theorem ev_some (c n : Int) (h0 : 0 ≤ n) (h1 : n ≤ 100) : ∃ ts, dSome [.int c, .int n] = some (.lst ts) ∧ ts.length = n.toNat ∧ ∀ t ∈ ts, Num t := by
  have n2 : ¬ (2 : Int) = 0 := by decide
  have b2 : (2 : Int).natAbs < B := small_B (by decide) (by decide)
  by_cases hc : c.fmod 2 = 1
  · obtain ⟨ds, e1, e2, e3⟩ := ev_digits (c.fdiv 2) n h0 (by omega)
    have hd : ∀ d ∈ ds, 0 ≤ d.fdiv 19 ∧ d.fdiv 19 ≤ 11 ∧ 0 ≤ d.fmod 19 ∧ d.fmod 19 < 19 := fun d hd => by
      have r := e3 d hd
      have q := fmod_rng d (b := 19) (by decide)
      have s := Int.mul_fdiv_add_fmod d 19
      omega
    have hnum : ∀ d ∈ ds, Num (frT (d.fmod 19 - 9) (1 + d.fdiv 19)) := fun d hd' => by
      have := hd d hd'
      exact num_frT (by omega) (by omega)
    refine ⟨(ds.map T.int).map numOf, ?_, by simp [e2], fun t ht => ?_⟩
    rotate_left
    · rw [List.map_map] at ht
      obtain ⟨d, hd', rfl⟩ := List.mem_map.mp ht
      exact hnum d hd'
    · have hm := comp_map (fe := fCall mFrac (fCons (fOp gSub (fOp gMod (fVar 0) (fC (.int 19))) (fC (.int 9))) (fCons (fOp gAdd (fC (.int 1)) (fOp gDiv (fVar 0) (fC (.int 19)))) fNil))) (g := numOf) (r := []) rfl (ds.map T.int) none [] (fun x hx => by
          obtain ⟨d, hd', rfl⟩ := List.mem_map.mp hx
          have q := hd d hd'
          have hf := mFrac_eq (a := d.fmod 19 - 9) (b := 1 + d.fdiv 19) (small_B (by omega) (by omega)) (small_B (by omega) (by omega)) (by omega)
          have n19 : ¬ (19 : Int) = 0 := by decide
          have b19 : (19 : Int).natAbs < B := small_B (by decide) (by decide)
          have e : numOf (.int d) = frT (d.fmod 19 - 9) (1 + d.fdiv 19) := rfl
          clear hd hnum e1 e2 e3 q hd' hx hc
          walk_at "ev") (small_le (by rw [List.length_map, e2]; simp; omega))
      have hq : fiSeq (fCall dDigits (fCons (fOp gDiv (fVar 0) (fC (.int 2))) (fCons (fC (.int 228)) (fCons (fVar 1) fNil)))) [some (.sh (.int c)), some (.sh (.int n)), none, none, none, none] = some (ds.map T.int, [some (.sh (.int c)), some (.sh (.int n)), none, none, none, none]) := by
        clear hd hnum e2 e3 hm hc
        walk_at "ev"
      have hcomp := fComp_eq (no := 1) (cap := []) (fg := gnName 0) (ft := fAlways) hq rfl rfl hm
      have g1 : gEq (.int 1) (.int 1) = some (.bl true) := rfl
      clear hd hnum e1 e2 e3 hm hq
      unfold dSome dOf b__law_some
      walk_at "ev"
  · obtain ⟨us, y3, y4, y5, g1, g2, g3⟩ := some_loop c n n.toNat 0 [] none none none (by omega) (by omega) (by simp; omega)
    refine ⟨us, ?_, g2, g1⟩
    have hr := rng1_eq (f := fVar 1) (τ := [some (.sh (.int c)), some (.sh (.int n)), some (.own []), none, none, none]) (n := n) rfl h0 (by omega)
    have hd := decide_eq_false hc
    rw [List.nil_append] at g3
    unfold someBody at g3
    clear g1 g2
    unfold dSome dOf b__law_some
    walk_at "ev"
/-! ### what is no fraction -/
theorem le_12 : 9 + 3 ≤ sizeLine := small_le (by decide)
abbrev dOdd : List T → Option T := dOf 3 1 b__law_odd
theorem ok_half : PyData.strOk "1/2" = true := by decide +kernel
theorem ev_odd (c : Int) : ∃ t, dOdd [.int c] = some t ∧ okT t ∧ shp 2 t := by
  have rn := fmod_rng (c.fdiv 12) (b := 9) (by decide)
  have rc := fmod_rng c (b := 12) (by decide)
  generalize hn : 1 + (c.fdiv 12).fmod 9 = n at *
  have rn' : 1 ≤ n ∧ n ≤ 9 := by omega
  obtain ⟨t, ht, hmem⟩ := ix_in (L := [.tup [.int (2 * n), .int (4 * n)], .tup [.int n, .int 0], .tup [.int n, .int (-1)], .tup [.bl true, .int 1], .int n, .str "1/2", .non, .lst [.int n, .int 1], .tup [.int n], .tup [.int n, .int 1, .int 1], .tup [.int 0, .int (1 + n)], .tup [.int n, .bl true]]) (i := c.fmod 12) (by omega) (by simp; omega)
  refine ⟨t, ?_, ?_, ?_⟩
  · have n12 : ¬ (12 : Int) = 0 := by decide
    have n9 : ¬ (9 : Int) = 0 := by decide
    have b12 : (12 : Int).natAbs < B := small_B (by decide) (by decide)
    have b9 : (9 : Int).natAbs < B := small_B (by decide) (by decide)
    have b2 : (2 : Int).natAbs < B := small_B (by decide) (by decide)
    have b4 : (4 : Int).natAbs < B := small_B (by decide) (by decide)
    have bn : n.natAbs < B := small_B (by omega) (by omega)
    have l12 := le12
    have l9 := le9
    clear hmem rn rc rn'
    unfold dOdd dOf b__law_odd
    walk_at "ev"
  · simp only [List.mem_cons, List.not_mem_nil, or_false] at hmem
    have ki : ∀ i : Int, -1000 ≤ i → i ≤ 1000 → okI (.int i) := fun i a b => okI_small a b
    rcases hmem with rfl | rfl | rfl | rfl | rfl | rfl | rfl | rfl | rfl | rfl | rfl | rfl
    · exact ⟨ki _ (by omega) (by omega), ki _ (by omega) (by omega)⟩
    · exact ⟨ki _ (by omega) (by omega), ki _ (by omega) (by omega)⟩
    · exact ⟨ki _ (by omega) (by omega), ki _ (by omega) (by omega)⟩
    · exact ⟨trivial, ki _ (by omega) (by omega)⟩
    · trivial
    · trivial
    · trivial
    · trivial
    · trivial
    · trivial
    · exact ⟨ki _ (by omega) (by omega), ki _ (by omega) (by omega)⟩
    · exact ⟨ki _ (by omega) (by omega), trivial⟩
  · simp only [List.mem_cons, List.not_mem_nil, or_false] at hmem
    rcases hmem with rfl | rfl | rfl | rfl | rfl | rfl | rfl | rfl | rfl | rfl | rfl | rfl
    all_goals first
      | exact ⟨_, rfl, rfl, Nat.le_of_ble_eq_true rfl⟩
      | exact ⟨.str "1/2", rfl, by decide +kernel, by decide⟩
end My

set_option Elab.async false
set_option linter.all false
set_option maxRecDepth 100000
namespace My
open PySem PySem.Spec PyProof.Rows L2 TM Qm
local macro_rules | `(tactic| walk_at "ev") => `(tactic| simp only [fC, fVar, fOp, fUn, fTB, fTru, tru, fAnd, fOr, fNot, fAndV, fOrV, fIf, fNil, fCons, fTup, fLst, fCall, fNever, fNext, fRet, fDrop, fIfS, fSeq, fSet, fSetOwn, fAsg, fPar, gnName, gnNil, gnCons, gnTup, fApp, fDic, fSl, fNoPart, fPart, fFor, fiZip, fiSeq, fAlways, gBits, dAll, boolsOf, dTuple, sqK, zipT, loopT, gI_int, gAdd_int, gAdd_lst, gAdd_tup, gEq_int, gNe_int, gEq_bl, gNe_bl, gNot, gNeg, gIs, isNon, gIx_tup0, gIx_tup1, gIx_lst0, gIx_lst1, dAbs_nat, dMax, dMin, dLen, isi_non_int, isi_non_bool, isi_non_str, isi_non_list, isi_non_tuple, isi_non_dict, isi_non_lt, isi_bl_int, isi_bl_bool, isi_bl_str, isi_bl_list, isi_bl_tuple, isi_bl_dict, isi_bl_lt, isi_int_int, isi_int_bool, isi_int_str, isi_int_list, isi_int_tuple, isi_int_dict, isi_int_lt, isi_str_int, isi_str_bool, isi_str_str, isi_str_list, isi_str_tuple, isi_str_dict, isi_str_lt, isi_tup_int, isi_tup_bool, isi_tup_str, isi_tup_list, isi_tup_tuple, isi_tup_dict, isi_tup_lt, isi_lst_int, isi_lst_bool, isi_lst_str, isi_lst_list, isi_lst_tuple, isi_lst_dict, isi_lst_lt, isi_scr_int, isi_scr_bool, isi_scr_str, isi_scr_list, isi_scr_tuple, isi_scr_dict, isi_scr_lt, isi_dic_int, isi_dic_bool, isi_dic_str, isi_dic_list, isi_dic_tuple, isi_dic_dict, isi_dic_lt, Option.bind_some, Option.bind_none, List.getElem?_cons_zero, List.getElem?_cons_succ, List.set_cons_zero, List.set_cons_succ, List.map_cons, List.map_nil, List.cons_append, List.nil_append, List.replicate_succ, List.replicate_zero, List.length_cons, List.length_nil, if_true, if_false, ite_true, ite_false, reduceIte, Bool.not_true, Bool.not_false, Bool.false_eq_true, Nat.reduceSub, Nat.reduceAdd, Nat.reduceLeDiff, reduceCtorEq, decide_true, decide_false, ne_eq, not_true_eq_false, not_false_eq_true, CDivB_iff, CMulB_iff, CNz_iff, and_true, true_and, and_self, Nat.sub_self, Nat.zero_add, beq_self_eq_true, le0, le1, le2, le3, le4, le17, gEq_pair, lt0, lt1, lt2, *])
/-! ### spoiled tables -/
abbrev rowO (ts : List T) : O := .lst (ts.map O.val)
theorem trs_rows : ∀ tss : List (List T), O.trs (tss.map rowO) = tss.map T.lst
  | [] => rfl
  | ts :: tss => by
    rw [List.map_cons, List.map_cons, O.trs, trs_rows tss]
    show T.lst (O.trs (ts.map O.val)) :: _ = _
    rw [trs_vals]
theorem allVal_map : ∀ ts : List T, allVal (ts.map O.val) = true
  | [] => rfl
  | _ :: ts => allVal_map ts
def Fine (t : T) : Prop := okTb t ∧ ∀ ts, t = .lst ts → shp 60 (.lst ts)
def El (t : T) : Prop := okT t ∧ shp 3 t
def Rw (t : T) : Prop := okR t ∧ shp 10 t
theorem Num.el {t : T} (h : Num t) : El t := ⟨h.ok, h.sh.mono (by decide)⟩
theorem rw_lst {ts : List T} (hl : ts.length ≤ 900) (h : ∀ x ∈ ts, El x) : Rw (.lst ts) := ⟨⟨hl, fun x hx => (h x hx).1⟩, (shp_lst (n := 3) fun x hx => (h x hx).2).mono (by decide)⟩
theorem rw_tup {ts : List T} (h : ∀ x ∈ ts, El x) : Rw (.tup ts) := ⟨trivial, (shp_tup (n := 3) fun x hx => (h x hx).2).mono (by decide)⟩
theorem fine_lst {us : List T} (hl : us.length ≤ 900) (h : ∀ x ∈ us, Rw x) : Fine (.lst us) := ⟨⟨hl, fun x hx => (h x hx).1⟩, fun ts e => by cases e; exact (shp_lst (n := 10) fun x hx => (h x hx).2).mono (by decide)⟩
theorem fine_else {t : T} (h1 : okTb t) (h2 : ∀ ts, t ≠ .lst ts) : Fine t := ⟨h1, fun ts e => absurd e (h2 ts)⟩
theorem mem_set {α : Type} {l : List α} {j : Nat} {a x : α} (h : x ∈ l.set j a) : x ∈ l ∨ x = a := List.mem_or_eq_of_mem_set h
theorem fw_eq (a : Option T) (b d : Option T) (c w i : Int) : fw i (sh5 a (.int c) (some (.int w)) b d) = some (decide (w = i), sh5 a (.int c) (some (.int w)) b d) := by
  have e : fw i (sh5 a (.int c) (some (.int w)) b d) = (gEq (.int w) (.int i)).bind fun t => (some (t, sh5 a (.int c) (some (.int w)) b d)).bind fun p => match p.1 with | .bl c => some (c, p.2) | _ => none := by
    unfold fw fTB fOp
    show ((gEq (.int w) (.int i)).bind fun t => some (t, sh5 a (.int c) (some (.int w)) b d)).bind _ = _
    rw [gEq_int]
    rfl
  rw [e, gEq_int]
  rfl
theorem fn4_eq {row : List T} (h : shp 60 (.lst row)) (a b d : Option T) (c : T) : fn4 (sh5 a c b d (some (.lst row))) = some (!row.isEmpty, sh5 a c b d (some (.lst row))) := by
  have q : gNe (.lst row) (.lst []) = some (.bl (!row.isEmpty)) := cmp_nil (neg := true) h
  have l0 := le0
  unfold fn4 fTB fOp
  show ((((if ([] : List T).length ≤ sizeLine then some (T.lst [], sh5 a c b d (some (.lst row))) else none).bind fun q => (gNe (.lst row) q.1).bind fun t => some (t, q.2))).bind _) = _
  rw [if_pos (show ([] : List T).length ≤ sizeLine from l0), Option.bind_some]; dsimp only; rw [q]
  rfl
theorem ixN_eq {n : Nat} {k : Int} (h0 : 0 ≤ k) (h1 : k < (n : Int)) : ixN n k = some k.toNat := by
  unfold ixN
  rw [if_pos h0, if_pos h1]
theorem len_B {n : Nat} (h : n ≤ 1000) : ((n : Int)).natAbs < B := small_B (by omega) (by omega)
theorem ev_tail (tss : List (List T)) (hl : tss.length ≤ 100) (hr : ∀ ts ∈ tss, ts.length ≤ 100 ∧ ∀ t ∈ ts, Num t) (c w k : Int) (j : Nat) (row : List T) (hj : tss[j]? = some row) : ∃ t, dTail dOdd (tss.map rowO) (.int c) (.int w) (.int k) j (row.map O.val) = some t ∧ Fine t := by
  have hjl : row ∈ tss := List.mem_of_getElem? hj
  have hrow := hr row hjl
  have allR : ∀ x ∈ tss.map T.lst, Rw x := fun x hx => by
    obtain ⟨ts, ht, rfl⟩ := List.mem_map.mp hx
    exact rw_lst (by have := (hr ts ht).1; omega) fun y hy => ((hr ts ht).2 y hy).el
  have elR : ∀ x ∈ row, El x := fun x hx => (hrow.2 x hx).el
  have hshp : shp 60 (.lst row) := (shp_lst (n := 3) fun x hx => (elR x hx).2).mono (by decide)
  have setR : ∀ y, Rw y → Fine (.lst ((tss.map T.lst).set j y)) := fun y hy => fine_lst (by simp; omega) fun x hx => by
    rcases mem_set hx with hx | rfl
    · exact allR x hx
    · exact hy
  unfold dTail
  dsimp only
  rw [trs_rows, trs_vals]
  rw [fw_eq, Option.bind_some]
  by_cases w1 : w = 1
  · rw [if_pos (decide_eq_true w1)]
    exact ⟨_, rfl, setR _ (rw_tup elR)⟩
  rw [if_neg (by rw [decide_eq_false w1]; exact Bool.false_ne_true), fw_eq, Option.bind_some]
  by_cases w2 : w = 2
  · rw [if_pos (decide_eq_true w2), if_pos (by rw [List.length_map]; exact small1000 (by omega))]
    refine ⟨_, rfl, fine_lst (by simp; omega) fun x hx => ?_⟩
    rcases List.mem_append.mp hx with hx | hx
    · exact allR x hx
    · rw [List.mem_singleton.mp hx]; exact rw_lst (by omega) elR
  rw [if_neg (by rw [decide_eq_false w2]; exact Bool.false_ne_true), fw_eq, Option.bind_some]
  by_cases w3 : w = 3
  · have l2 := le2
    have ho : fone (sh5 none (.int c) (some (.int w)) (some (.int k)) none) = some (.tup [.int 1, .int 1], sh5 none (.int c) (some (.int w)) (some (.int k)) none) := by
      unfold sh5
      simp only [Option.map]
      walk_at "ev"
    rw [if_pos (decide_eq_true w3), ho, Option.bind_some, if_pos (small1000 (by omega))]
    refine ⟨_, rfl, setR _ (rw_lst (by simp; omega) fun x hx => ?_)⟩
    rcases List.mem_append.mp hx with hx | hx
    · exact elR x hx
    · rw [List.mem_singleton.mp hx]; exact (num_pair (by omega) (by omega) : Num (.tup [.int 1, .int 1])).el
  rw [if_neg (by rw [decide_eq_false w3]; exact Bool.false_ne_true)]
  have h4 : fAnd (fw 4) fn4 (sh5 (some (.lst (tss.map T.lst))) (.int c) (some (.int w)) (some (.int k)) (some (.lst row))) = some (decide (w = 4) && !row.isEmpty, sh5 (some (.lst (tss.map T.lst))) (.int c) (some (.int w)) (some (.int k)) (some (.lst row))) := by
    unfold fAnd
    rw [fw_eq, Option.bind_some]
    by_cases w4 : w = 4
    · rw [if_pos (decide_eq_true w4), fn4_eq hshp, decide_eq_true w4, Bool.true_and]
    · rw [if_neg (by rw [decide_eq_false w4]; exact Bool.false_ne_true), decide_eq_false w4, Bool.false_and]
  rw [h4, Option.bind_some]
  by_cases b4 : (decide (w = 4) && !row.isEmpty) = true
  · have hne : row ≠ [] := fun z => by rw [z] at b4; simp at b4
    rw [if_pos b4, if_neg hne]
    exact ⟨_, rfl, setR _ (rw_lst (by simp; omega) fun x hx => elR x (List.dropLast_subset _ hx))⟩
  rw [if_neg b4, fn4_eq hshp, Option.bind_some]
  by_cases b5 : row = []
  · subst b5
    exact ⟨_, rfl, fine_lst (by simp; omega) allR⟩
  · have hpos : 0 < row.length := List.length_pos_iff.mpr b5
    rw [if_pos (by cases row with | nil => exact absurd rfl b5 | cons a r => rfl)]
    obtain ⟨ot, h1, h2, h3⟩ := ev_odd (c.fdiv 512)
    have ho : fodd dOdd (sh5 none (.int c) (some (.int w)) (some (.int k)) none) = some (ot, sh5 none (.int c) (some (.int w)) (some (.int k)) none) := by
      have n512 : ¬ (512 : Int) = 0 := by decide
      have b512 : (512 : Int).natAbs < B := small_B (by decide) (by decide)
      clear h2 h3 h4 hrow setR allR elR hshp b4 b5 w1 w2 w3 hr hl hj hjl
      unfold sh5
      simp only [Option.map]
      walk_at "ev"
    have rx := fmod_rng (c.fdiv 64) (b := (row.length : Int)) (by omega)
    have hx : fix (sh5 (some (.lst (tss.map T.lst))) (.int c) (some (.int w)) (some (.int k)) (some (.lst row))) = some (.int ((c.fdiv 64).fmod (row.length : Int)), sh5 (some (.lst (tss.map T.lst))) (.int c) (some (.int w)) (some (.int k)) (some (.lst row))) := by
      have n64 : ¬ (64 : Int) = 0 := by decide
      have b64 : (64 : Int).natAbs < B := small_B (by decide) (by decide)
      have nl : ¬ ((row.length : Int) = 0) := by omega
      have bl : ((row.length : Int)).natAbs < B := len_B (by omega)
      clear h1 h2 h3 h4 ho hrow setR allR elR hshp b4 b5 w1 w2 w3 hr hl hj hjl rx hpos
      unfold sh5
      simp only [Option.map]
      walk_at "ev"
    rw [ho, Option.bind_some, hx, Option.bind_some]
    show ∃ t, ((ixN row.length ((c.fdiv 64).fmod (row.length : Int))).bind fun m => _) = some t ∧ _
    rw [ixN_eq rx.1 rx.2, Option.bind_some]
    refine ⟨_, rfl, setR _ (rw_lst (by simp; omega) fun x hx => ?_)⟩
    rcases mem_set hx with hx | rfl
    · exact elR x hx
    · exact ⟨h2, h3.mono (by decide)⟩
theorem ev_spoil (tss : List (List T)) (hl : tss.length ≤ 100) (hr : ∀ ts ∈ tss, ts.length ≤ 100 ∧ ∀ t ∈ ts, Num t) (c : Int) : ∃ t, dSpoil dOdd (.lst (tss.map rowO)) [.int c] = some t ∧ Fine t := by
  have allR : ∀ x ∈ tss.map T.lst, Rw x := fun x hx => by
    obtain ⟨ts, ht, rfl⟩ := List.mem_map.mp hx
    exact rw_lst (by have := (hr ts ht).1; omega) fun y hy => ((hr ts ht).2 y hy).el
  have hft : Fine (.lst (tss.map T.lst)) := fine_lst (by simp; omega) allR
  have n8 : ¬ (8 : Int) = 0 := by decide
  have b8 : (8 : Int).natAbs < B := small_B (by decide) (by decide)
  have l8 := le8
  unfold dSpoil
  dsimp only
  rw [trs_rows]
  have h1 : fe1 (sh5 (some (.lst (tss.map T.lst))) (.int c) none none none) = some (.int (c.fmod 8), sh5 (some (.lst (tss.map T.lst))) (.int c) none none none) := by
    clear hft allR hr hl
    unfold sh5
    simp only [Option.map]
    walk_at "ev"
  rw [h1, Option.bind_some]
  generalize hw : c.fmod 8 = w
  show ∃ t, ((ft2 (sh5 (some (.lst (tss.map T.lst))) (.int c) (some (.int w)) none none)).bind _) = some t ∧ _
  have h2 : ft2 (sh5 (some (.lst (tss.map T.lst))) (.int c) (some (.int w)) none none) = some ((tss.map T.lst).isEmpty || decide (w = 0), sh5 (some (.lst (tss.map T.lst))) (.int c) (some (.int w)) none none) := by
    have q : gEq (.lst (tss.map T.lst)) (.lst []) = some (.bl (tss.map T.lst).isEmpty) := cmp_nil (neg := false) (hft.2 _ rfl)
    have q2 := fw_eq (some (.lst (tss.map T.lst))) none none c w 0
    have l0 := le0
    have q1 : fTB (fOp gEq (fVar 0) (fLst fNil)) (sh5 (some (.lst (tss.map T.lst))) (.int c) (some (.int w)) none none) = some ((tss.map T.lst).isEmpty, sh5 (some (.lst (tss.map T.lst))) (.int c) (some (.int w)) none none) := by
      unfold fTB fOp
      show ((((if ([] : List T).length ≤ sizeLine then some (T.lst [], sh5 (some (.lst (tss.map T.lst))) (.int c) (some (.int w)) none none) else none).bind fun q => (gEq (.lst (tss.map T.lst)) q.1).bind fun t => some (t, q.2))).bind _) = _
      rw [if_pos (show ([] : List T).length ≤ sizeLine from l0), Option.bind_some]; dsimp only; rw [q]
      rfl
    unfold ft2 fOr
    rw [q1, Option.bind_some]
    cases hE : (tss.map T.lst).isEmpty with
    | true => rw [if_pos rfl, Bool.true_or]
    | false => rw [if_neg (by exact Bool.false_ne_true), Bool.false_or]; exact q2
  rw [h2, Option.bind_some]
  by_cases hb : ((tss.map T.lst).isEmpty || decide (w = 0)) = true
  · rw [if_pos hb]
    have rx := fmod_rng (c.fdiv 8) (b := 8) (by decide)
    obtain ⟨t, ht, hmem⟩ := ix_in (L := [.lst (tss.map T.lst), .tup (tss.map T.lst), .non, .str "", .int 0, .dic, .tup [.lst (tss.map T.lst)], .lst [.lst (tss.map T.lst)]]) (i := (c.fdiv 8).fmod 8) rx.1 (by simp; omega)
    have h3 : fr2 (sh5 (some (.lst (tss.map T.lst))) (.int c) (some (.int w)) none none) = some (t, sh5 (some (.lst (tss.map T.lst))) (.int c) (some (.int w)) none none) := by
      have l1 := le1
      clear hft allR hr hl h1 h2 hb rx hmem hw
      unfold sh5
      simp only [Option.map]
      walk_at "ev"
    rw [h3, Option.bind_some]
    refine ⟨t, rfl, ?_⟩
    simp only [List.mem_cons, List.not_mem_nil, or_false] at hmem
    rcases hmem with rfl | rfl | rfl | rfl | rfl | rfl | rfl | rfl
    · exact hft
    · exact fine_else trivial (fun ts e => nomatch e)
    · exact fine_else trivial (fun ts e => nomatch e)
    · exact fine_else trivial (fun ts e => nomatch e)
    · exact fine_else trivial (fun ts e => nomatch e)
    · exact fine_else trivial (fun ts e => nomatch e)
    · exact fine_else trivial (fun ts e => nomatch e)
    · refine ⟨⟨by simp, fun x hx => ?_⟩, fun ts e => ?_⟩
      · rw [List.mem_singleton.mp hx]
        refine ⟨by simp; omega, fun y hy => ?_⟩
        obtain ⟨ts, _, rfl⟩ := List.mem_map.mp hy
        trivial
      · cases e
        exact (shp_lst (n := 11) fun x hx => by rw [List.mem_singleton.mp hx]; exact shp_lst fun y hy => (allR y hy).2).mono (by decide)
  · rw [if_neg hb]
    have hne : tss ≠ [] := fun z => by rw [z] at hb; simp at hb
    have hpos : 0 < tss.length := List.length_pos_iff.mpr hne
    have rx := fmod_rng (c.fdiv 8) (b := (tss.length : Int)) (by omega)
    have h3 : fe3 (sh5 (some (.lst (tss.map T.lst))) (.int c) (some (.int w)) none none) = some (.int ((c.fdiv 8).fmod (tss.length : Int)), sh5 (some (.lst (tss.map T.lst))) (.int c) (some (.int w)) none none) := by
      have nl : ¬ ((tss.length : Int) = 0) := by omega
      have bl : ((tss.length : Int)).natAbs < B := len_B (by omega)
      have hlen : (tss.map T.lst).length = tss.length := List.length_map _
      clear hft allR hr hl h1 h2 hb rx hw hne hpos
      unfold sh5
      simp only [Option.map]
      walk_at "ev"
    rw [h3, Option.bind_some]
    show ∃ t, ((ixN (tss.map rowO).length ((c.fdiv 8).fmod (tss.length : Int))).bind _) = some t ∧ _
    rw [List.length_map, ixN_eq rx.1 rx.2, Option.bind_some]
    have hlt : ((c.fdiv 8).fmod (tss.length : Int)).toNat < tss.length := by omega
    have hg : tss[((c.fdiv 8).fmod (tss.length : Int)).toNat]? = some tss[((c.fdiv 8).fmod (tss.length : Int)).toNat] := List.getElem?_eq_getElem hlt
    have hg2 : (tss.map rowO)[((c.fdiv 8).fmod (tss.length : Int)).toNat]? = some (rowO tss[((c.fdiv 8).fmod (tss.length : Int)).toNat]) := by rw [List.getElem?_map, hg]; rfl
    rw [hg2]
    dsimp only
    rw [if_pos (allVal_map _)]
    exact ev_tail tss hl hr c w _ _ _ hg
end My

set_option Elab.async false
set_option linter.all false
set_option maxRecDepth 100000
namespace My
open PySem PySem.Spec PyProof.Rows L2 TM Qm
local macro_rules | `(tactic| walk_at "ev") => `(tactic| simp only [fC, fVar, fOp, fUn, fTB, fTru, tru, fAnd, fOr, fNot, fAndV, fOrV, fIf, fNil, fCons, fTup, fLst, fCall, fNever, fNext, fRet, fDrop, fIfS, fSeq, fSet, fSetOwn, fAsg, fPar, gnName, gnNil, gnCons, gnTup, fApp, fDic, fSl, fNoPart, fPart, fFor, fiZip, fiSeq, fAlways, gBits, dAll, boolsOf, dTuple, sqK, zipT, loopT, gI_int, gAdd_int, gAdd_lst, gAdd_tup, gNot, gNeg, gIs, isNon, gIx_tup0, gIx_tup1, gIx_lst0, gIx_lst1, dAbs_nat, dMax, dMin, dLen, isi_non_int, isi_non_bool, isi_non_str, isi_non_list, isi_non_tuple, isi_non_dict, isi_non_lt, isi_bl_int, isi_bl_bool, isi_bl_str, isi_bl_list, isi_bl_tuple, isi_bl_dict, isi_bl_lt, isi_int_int, isi_int_bool, isi_int_str, isi_int_list, isi_int_tuple, isi_int_dict, isi_int_lt, isi_str_int, isi_str_bool, isi_str_str, isi_str_list, isi_str_tuple, isi_str_dict, isi_str_lt, isi_tup_int, isi_tup_bool, isi_tup_str, isi_tup_list, isi_tup_tuple, isi_tup_dict, isi_tup_lt, isi_lst_int, isi_lst_bool, isi_lst_str, isi_lst_list, isi_lst_tuple, isi_lst_dict, isi_lst_lt, isi_scr_int, isi_scr_bool, isi_scr_str, isi_scr_list, isi_scr_tuple, isi_scr_dict, isi_scr_lt, isi_dic_int, isi_dic_bool, isi_dic_str, isi_dic_list, isi_dic_tuple, isi_dic_dict, isi_dic_lt, Option.bind_some, Option.bind_none, List.getElem?_cons_zero, List.getElem?_cons_succ, List.set_cons_zero, List.set_cons_succ, List.map_cons, List.map_nil, List.cons_append, List.nil_append, List.replicate_succ, List.replicate_zero, List.length_cons, List.length_nil, if_true, if_false, ite_true, ite_false, reduceIte, Bool.not_true, Bool.not_false, Bool.false_eq_true, Nat.reduceSub, Nat.reduceAdd, Nat.reduceLeDiff, reduceCtorEq, decide_true, decide_false, ne_eq, not_true_eq_false, not_false_eq_true, CDivB_iff, CMulB_iff, CNz_iff, and_true, true_and, and_self, Nat.sub_self, Nat.zero_add, beq_self_eq_true, le0, le1, le2, le3, le4, le17, gEq_pair, lt0, lt1, lt2, *])
/-! ### the law, a turn -/
abbrev sO (o : Option T) : Option Sl := o.map Sl.sh
theorem allSh_sO (o : Option T) (r : TEnv) : allSh (sO o :: r) = allSh r := by cases o <;> rfl
theorem allSh_sh (t : T) (r : TEnv) : allSh (some (.sh t) :: r) = allSh r := rfl
theorem compo_map {fe : FO'} {g : T → O} {r : TEnv} (hr : allSh r = true) : ∀ (ts : List T) (u : Option Sl) (acc : List O), (∀ t ∈ ts, fe (some (.sh t) :: r) = some (g t, some (.sh t) :: r)) → acc.length + ts.length ≤ sizeLine → compTo (gnName 0) fAlways fe ts (u :: r) acc = some (acc ++ ts.map g)
  | [], u, acc, _, _ => by simp [compTo]
  | t :: ts, u, acc, h, hl => by
    have h1 := h t List.mem_cons_self
    have ih := fun acc hl => compo_map hr ts (some (.sh t)) acc (fun x hx => h x (List.mem_cons_of_mem _ hx)) hl
    have hl' : acc.length + (ts.length + 1) ≤ sizeLine := hl
    have ha : allSh (some (Sl.sh t) :: r) = true := hr
    have hg : gnName 0 t (u :: r) = some (some (.sh t) :: r) := rfl
    have hv : fAlways (some (.sh t) :: r) = some (true, some (.sh t) :: r) := rfl
    unfold compTo
    rw [hg, Option.bind_some, hv, Option.bind_some, if_pos rfl, h1, Option.bind_some, if_pos ⟨ha, by omega⟩, ih _ (by simp; omega), List.map_cons, List.append_assoc]
    rfl
theorem fCompO_eq {no : Nat} {cap : List Nat} {fi : FA} {fg : FG} {ft : FT} {fe : FO'} {τ : TEnv} {ts : List T} {us : List O} (h1 : fi τ = some (ts, τ)) (h2 : frzAll cap τ = τ) (h3 : allSh (blkOf no cap τ) = true) (h4 : compTo fg ft fe ts (blkOf no cap τ) [] = some us) : fCompO no cap fi fg ft fe τ = some (.lst us, τ) := by
  unfold fCompO
  rw [h1, Option.bind_some]
  dsimp only
  rw [h2, if_pos h3, h4]
  rfl
theorem mem_upTo : ∀ {n : Nat} {lo : Int} {t : T}, t ∈ TM.upTo lo n → ∃ i : Int, t = .int i ∧ lo ≤ i ∧ i < lo + n
  | 0, lo, t, h => by cases h
  | n + 1, lo, t, h => by
    rcases List.mem_cons.mp h with rfl | h
    · exact ⟨lo, rfl, by omega, by omega⟩
    · obtain ⟨i, e, h1, h2⟩ := mem_upTo h
      exact ⟨i, e, by omega, by omega⟩
noncomputable def askBody : FS := (fSeq (fSet 8 (fCall mTab (fCons (fVar 6) (fCons (fVar 3) (fCons (fVar 4) fNil)))))
    (fSeq (fIfS (fOr (fNot (fTru (fCall dIsi (fCons (fVar 8) (fCons (fC (.ty "bool")) fNil))))) (fTB (fOp gNe (fVar 8) (fCall mTab (fCons (fVar 6) (fCons (fVar 3) (fCons (fVar 4) fNil))))))) (fRet (fC (.bl false))) fNext)
    (fSeq (fSet 9 (fVar 6))
    (fSeq (fIfS (fAnd (fTru (fCall dIsi (fCons (fVar 6) (fCons (fC (.ty "list")) fNil)))) (fTB (fOp gNe (fVar 6) (fLst fNil)))) (fSet 9 (fOp gIx (fVar 6) (fC (.int 0)))) fNext)
    (fSeq (fSet 8 (fCall mRow (fCons (fVar 9) (fCons (fVar 4) fNil))))
    (fIfS (fOr (fNot (fTru (fCall dIsi (fCons (fVar 8) (fCons (fC (.ty "bool")) fNil))))) (fTB (fOp gNe (fVar 8) (fCall mRow (fCons (fVar 9) (fCons (fVar 4) fNil)))))) (fRet (fC (.bl false))) fNext))))))
theorem gNe_same (b : Bool) : gNe (.bl b) (.bl b) = some (.bl false) := by cases b <;> rfl
theorem ask_turn {t : T} (h : Fine t) (m n : Int) (s0 s1 s2 s5 s7 s8 s9 : Option Sl) : ∃ y8 y9 : T, askBody [s0, s1, s2, some (.sh (.int m)), some (.sh (.int n)), s5, some (.sh t), s7, s8, s9]
    = some (.nx [s0, s1, s2, some (.sh (.int m)), some (.sh (.int n)), s5, some (.sh t), s7, some (.sh y8), some (.sh y9)]) := by
  have k1 := mTab_eq (m := m) (n := n) h.1
  generalize isTab m n t = b1 at *
  have q1 := gNe_same b1
  have go : ∀ u : T, okR u → ∃ b2, mRow [u, .int n] = some (.bl b2) ∧ gNe (.bl b2) (.bl b2) = some (.bl false) := fun u hu => ⟨isRow n u, mRow_eq hu, gNe_same _⟩
  have l0 := le0
  cases t with
  | ty _ => exact absurd h.1 id
  | scr _ => exact absurd h.1 id
  | lst ts =>
    cases ts with
    | nil =>
      obtain ⟨b2, k2, q2⟩ := go (.lst []) ⟨by simp, fun x hx => by cases hx⟩
      have e : gNe (.lst []) (.lst []) = some (.bl false) := rfl
      refine ⟨.bl b2, .lst [], ?_⟩
      clear h go
      unfold askBody
      walk_at "ev"
    | cons x xs =>
      obtain ⟨b2, k2, q2⟩ := go x (h.1.2 x List.mem_cons_self)
      have e : gNe (.lst (x :: xs)) (.lst []) = some (.bl true) := cmp_nil (neg := true) (h.2 _ rfl)
      have e2 : gIx (.lst (x :: xs)) (.int 0) = some x := by
        obtain ⟨u, h1, _⟩ := ix_in (L := x :: xs) (i := 0) (by decide) (by simp)
        have : gIx (.lst (x :: xs)) (.int 0) = some x := atI_nat (j := 0) rfl
        exact this
      refine ⟨.bl b2, x, ?_⟩
      clear h go
      unfold askBody
      walk_at "ev"
  | non =>
    obtain ⟨b2, k2, q2⟩ := go (.non) trivial
    refine ⟨.bl b2, .non, ?_⟩
    clear h go
    unfold askBody
    walk_at "ev"
  | bl b =>
    obtain ⟨b2, k2, q2⟩ := go (.bl b) trivial
    refine ⟨.bl b2, .bl b, ?_⟩
    clear h go
    unfold askBody
    walk_at "ev"
  | int i =>
    obtain ⟨b2, k2, q2⟩ := go (.int i) trivial
    refine ⟨.bl b2, .int i, ?_⟩
    clear h go
    unfold askBody
    walk_at "ev"
  | str x =>
    obtain ⟨b2, k2, q2⟩ := go (.str x) trivial
    refine ⟨.bl b2, .str x, ?_⟩
    clear h go
    unfold askBody
    walk_at "ev"
  | tup ts =>
    obtain ⟨b2, k2, q2⟩ := go (.tup ts) trivial
    refine ⟨.bl b2, .tup ts, ?_⟩
    clear h go
    unfold askBody
    walk_at "ev"
  | dic =>
    obtain ⟨b2, k2, q2⟩ := go (.dic) trivial
    refine ⟨.bl b2, .dic, ?_⟩
    clear h go
    unfold askBody
    walk_at "ev"
noncomputable def restBody : FS := (fSeq (fIfS (fTB (fOp gEq (fOp gMod (fOp gDiv (fVar 2) (fC (.int 125))) (fC (.int 6))) (fC (.int 0)))) (fSet 3 (fOp gAdd (fVar 3) (fC (.int 1)))) fNext)
    (fSeq (fIfS (fTB (fOp gEq (fOp gMod (fOp gDiv (fVar 2) (fC (.int 125))) (fC (.int 6))) (fC (.int 1)))) (fSet 4 (fOp gAdd (fVar 4) (fC (.int 1)))) fNext)
    (fFor (fiRng1 (fCons (fC (.int 2)) fNil)) (gnName 7) askBody)))
theorem rest_ok {t : T} (h : Fine t) (e m n : Int) (s0 s1 s5 s7 s8 s9 : Option Sl) : ∃ (m' n' : Int) (y8 y9 : T), restBody [s0, s1, some (.sh (.int e)), some (.sh (.int m)), some (.sh (.int n)), s5, some (.sh t), s7, s8, s9]
    = some (.nx [s0, s1, some (.sh (.int e)), some (.sh (.int m')), some (.sh (.int n')), s5, some (.sh t), some (.sh (.int 1)), some (.sh y8), some (.sh y9)]) := by
  have n125 : ¬ (125 : Int) = 0 := by decide
  have n6 : ¬ (6 : Int) = 0 := by decide
  have b125 : (125 : Int).natAbs < B := small_B (by decide) (by decide)
  have b6 : (6 : Int).natAbs < B := small_B (by decide) (by decide)
  have fin : ∀ m' n' : Int, ∃ (y8 y9 : T), fFor (fiRng1 (fCons (fC (.int 2)) fNil)) (gnName 7) askBody [s0, s1, some (.sh (.int e)), some (.sh (.int m')), some (.sh (.int n')), s5, some (.sh t), s7, s8, s9]
      = some (.nx [s0, s1, some (.sh (.int e)), some (.sh (.int m')), some (.sh (.int n')), s5, some (.sh t), some (.sh (.int 1)), some (.sh y8), some (.sh y9)]) := fun m' n' => by
    obtain ⟨y8, y9, h1⟩ := ask_turn h m' n' s0 s1 (some (.sh (.int e))) s5 (some (.sh (.int 0))) s8 s9
    obtain ⟨z8, z9, h2⟩ := ask_turn h m' n' s0 s1 (some (.sh (.int e))) s5 (some (.sh (.int 1))) (some (.sh y8)) (some (.sh y9))
    refine ⟨z8, z9, ?_⟩
    unfold fFor
    rw [rng1_eq (n := 2) rfl (by decide) (by decide), Option.bind_some]
    show loopT (gnName 7) askBody [.int 0, .int 1] _ = _
    rw [loop_step rfl h1, loop_step rfl h2]
    rfl
  by_cases c0 : (e.fdiv 125).fmod 6 = 0
  · obtain ⟨y8, y9, hf⟩ := fin (m + 1) n
    have g1 : gEq (.int ((e.fdiv 125).fmod 6)) (.int 0) = some (.bl true) := by rw [gEq_int, decide_eq_true c0]
    have g2 : gEq (.int ((e.fdiv 125).fmod 6)) (.int 1) = some (.bl false) := by rw [gEq_int, decide_eq_false (by omega)]
    refine ⟨m + 1, n, y8, y9, ?_⟩
    unfold restBody
    generalize fFor (fiRng1 (fCons (fC (.int 2)) fNil)) (gnName 7) askBody = ff at *
    clear fin c0
    walk_at "ev"
  · have g1 : gEq (.int ((e.fdiv 125).fmod 6)) (.int 0) = some (.bl false) := by rw [gEq_int, decide_eq_false c0]
    by_cases c1 : (e.fdiv 125).fmod 6 = 1
    · obtain ⟨y8, y9, hf⟩ := fin m (n + 1)
      have g2 : gEq (.int ((e.fdiv 125).fmod 6)) (.int 1) = some (.bl true) := by rw [gEq_int, decide_eq_true c1]
      refine ⟨m, n + 1, y8, y9, ?_⟩
      unfold restBody
      generalize fFor (fiRng1 (fCons (fC (.int 2)) fNil)) (gnName 7) askBody = ff at *
      clear fin c0 c1
      walk_at "ev"
    · obtain ⟨y8, y9, hf⟩ := fin m n
      have g2 : gEq (.int ((e.fdiv 125).fmod 6)) (.int 1) = some (.bl false) := by rw [gEq_int, decide_eq_false c1]
      refine ⟨m, n, y8, y9, ?_⟩
      unfold restBody
      generalize fFor (fiRng1 (fCons (fC (.int 2)) fNil)) (gnName 7) askBody = ff at *
      clear fin c0 c1
      walk_at "ev"
end My

set_option Elab.async false
set_option linter.all false
set_option maxRecDepth 100000
namespace My
open PySem PySem.Spec PyProof.Rows L2 TM Qm
local macro_rules | `(tactic| walk_at "ev") => `(tactic| simp only [fC, fVar, fOp, fUn, fTB, fTru, tru, fAnd, fOr, fNot, fAndV, fOrV, fIf, fNil, fCons, fTup, fLst, fCall, fNever, fNext, fRet, fDrop, fIfS, fSeq, fSet, fSetOwn, fAsg, fPar, gnName, gnNil, gnCons, gnTup, fApp, fDic, fSl, fNoPart, fPart, fFor, fiZip, fiSeq, fAlways, gBits, dAll, boolsOf, dTuple, sqK, zipT, loopT, gI_int, gAdd_int, gAdd_lst, gAdd_tup, gNot, gNeg, gIs, isNon, gIx_tup0, gIx_tup1, gIx_lst0, gIx_lst1, dAbs_nat, dMax, dMin, dLen, isi_non_int, isi_non_bool, isi_non_str, isi_non_list, isi_non_tuple, isi_non_dict, isi_non_lt, isi_bl_int, isi_bl_bool, isi_bl_str, isi_bl_list, isi_bl_tuple, isi_bl_dict, isi_bl_lt, isi_int_int, isi_int_bool, isi_int_str, isi_int_list, isi_int_tuple, isi_int_dict, isi_int_lt, isi_str_int, isi_str_bool, isi_str_str, isi_str_list, isi_str_tuple, isi_str_dict, isi_str_lt, isi_tup_int, isi_tup_bool, isi_tup_str, isi_tup_list, isi_tup_tuple, isi_tup_dict, isi_tup_lt, isi_lst_int, isi_lst_bool, isi_lst_str, isi_lst_list, isi_lst_tuple, isi_lst_dict, isi_lst_lt, isi_scr_int, isi_scr_bool, isi_scr_str, isi_scr_list, isi_scr_tuple, isi_scr_dict, isi_scr_lt, isi_dic_int, isi_dic_bool, isi_dic_str, isi_dic_list, isi_dic_tuple, isi_dic_dict, isi_dic_lt, Option.bind_some, Option.bind_none, List.getElem?_cons_zero, List.getElem?_cons_succ, List.set_cons_zero, List.set_cons_succ, List.map_cons, List.map_nil, List.cons_append, List.nil_append, List.replicate_succ, List.replicate_zero, List.length_cons, List.length_nil, if_true, if_false, ite_true, ite_false, reduceIte, Bool.not_true, Bool.not_false, Bool.false_eq_true, Nat.reduceSub, Nat.reduceAdd, Nat.reduceLeDiff, reduceCtorEq, decide_true, decide_false, ne_eq, not_true_eq_false, not_false_eq_true, CDivB_iff, CMulB_iff, CNz_iff, and_true, true_and, and_self, Nat.sub_self, Nat.zero_add, beq_self_eq_true, le0, le1, le2, le3, le4, le17, gEq_pair, lt0, lt1, lt2, *])
/-! ### the law, whole -/
abbrev fRows : FO' := fCompO 1 [5, 4] (fiRng1 (fCons (fVar 3) fNil)) (gnName 0) fAlways (fSlo (fVar 1) (fPart (fOp gMulI (fVar 0) (fVar 2))) (fPart (fOp gAdd (fOp gMulI (fVar 0) (fVar 2)) (fVar 2))))
abbrev fSpoilt : FT := fTB (fOp gGt (fOp gMod (fOp gDiv (fVar 2) (fC (.int 25))) (fC (.int 5))) (fC (.int 0)))
noncomputable def lawBody : FS := (fSeq (fSet 2 (fCall mMix (fCons (fCall mCell (fCons (fVar 0) (fCons (fVar 1) fNil))) (fCons (fVar 1) fNil))))
    (fSeq (fSet 3 (fOp gMod (fVar 2) (fC (.int 5))))
    (fSeq (fSet 4 (fOp gMod (fOp gDiv (fVar 2) (fC (.int 5))) (fC (.int 5))))
    (fSeq (fSet 5 (fCall dSome (fCons (fCall mCell (fCons (fVar 0) (fCons (fVar 1) fNil))) (fCons (fOp gMulI (fVar 3) (fVar 4)) fNil))))
    (fFuse 6 fRows fSpoilt (fCons (fCall mMix (fCons (fVar 2) (fCons (fC (.int 3)) fNil))) fNil) (dSpoil dOdd) restBody)))))
def cutsOf (ts : List T) (w : Int) : T → List T
  | .int j => cutT ts (some (j * w)) (some (j * w + w))
  | _ => []
theorem cutT_mem {ts : List T} {lo hi : Option Int} {t : T} (h : t ∈ cutT ts lo hi) : t ∈ ts := by
  unfold cutT at h
  exact List.mem_of_mem_drop (List.mem_of_mem_take h)
theorem cutT_len {ts : List T} {lo hi : Option Int} : (cutT ts lo hi).length ≤ ts.length := by
  unfold cutT
  rw [List.length_take, List.length_drop]
  omega
theorem rows_eq (ts : List T) (s0 s1 s2 : Option Sl) (m w : Int) (o6 o7 o8 o9 : Option T) (hm : 0 ≤ m ∧ m < 5) (hw : 0 ≤ w ∧ w < 5) :
    fRows [s0, s1, s2, some (.sh (.int m)), some (.sh (.int w)), some (.sh (.lst ts)), sO o6, sO o7, sO o8, sO o9] = some (.lst (((TM.upTo 0 m.toNat).map (cutsOf ts w)).map rowO), [s0, s1, s2, some (.sh (.int m)), some (.sh (.int w)), some (.sh (.lst ts)), sO o6, sO o7, sO o8, sO o9]) := by
  have hc := compo_map (fe := fSlo (fVar 1) (fPart (fOp gMulI (fVar 0) (fVar 2))) (fPart (fOp gAdd (fOp gMulI (fVar 0) (fVar 2)) (fVar 2)))) (g := fun t => rowO (cutsOf ts w t)) (r := [some (.sh (.lst ts)), some (.sh (.int w))]) rfl (TM.upTo 0 m.toNat) none [] (fun t ht => by
    obtain ⟨j, rfl, h1, h2⟩ := mem_upTo ht
    have bj : j.natAbs < B := small_B (by omega) (by omega)
    have bw : w.natAbs < B := small_B (by omega) (by omega)
    have e : cutsOf ts w (.int j) = cutT ts (some (j * w)) (some (j * w + w)) := rfl
    rw [e]
    clear ht h1 h2 e hm hw
    unfold fSlo gSlo
    walk_at "ev") (small_le (by rw [upTo_length]; simp; omega))
  rw [List.nil_append] at hc
  rw [List.map_map]
  exact fCompO_eq (rng1_eq (f := fVar 3) rfl hm.1 (by omega)) rfl rfl hc
theorem fuse_yes {i : Nat} {fo : FO'} {fc : FT} {g : FA} {d : O → List T → Option T} {fr : FS} {τ τ1 τ2 τ3 : TEnv} {o : O} {ts : List T} {t : T} (h1 : fo τ = some (o, τ1)) (ha : allSh τ1 = true) (hi : i < τ1.length) (h2 : fc (τ1.set i none) = some (true, τ2)) (ha2 : allSh τ2 = true) (h3 : g τ2 = some (ts, τ3)) (ha3 : allSh τ3 = true) (h4 : d o ts = some t) :
    fFuse i fo fc g d fr τ = fr (τ3.set i (some (.sh t))) := by
  unfold fFuse
  rw [h1, Option.bind_some]
  dsimp only
  rw [if_pos ⟨ha, hi⟩, h2, Option.bind_some]
  dsimp only
  rw [if_pos ha2, if_pos rfl, h3, Option.bind_some]
  dsimp only
  rw [if_pos ha3, h4, Option.bind_some]
theorem fuse_no {i : Nat} {fo : FO'} {fc : FT} {g : FA} {d : O → List T → Option T} {fr : FS} {τ τ1 τ2 : TEnv} {o : O} (h1 : fo τ = some (o, τ1)) (ha : allSh τ1 = true) (hi : i < τ1.length) (h2 : fc (τ1.set i none) = some (false, τ2)) (ha2 : allSh τ2 = true) :
    fFuse i fo fc g d fr τ = fr (τ2.set i (some (.sh o.tr))) := by
  unfold fFuse
  rw [h1, Option.bind_some]
  dsimp only
  rw [if_pos ⟨ha, hi⟩, h2, Option.bind_some]
  dsimp only
  rw [if_pos ha2, if_neg (by exact Bool.false_ne_true)]
theorem law_turn (ns : List Int) (k : Int) (h0 : 0 ≤ k) (h1 : k < 1000) (o2 o3 o4 o5 o6 o7 o8 o9 : Option T) : ∃ p2 p3 p4 p5 p6 p7 p8 p9 : Option T, lawBody [some (.sh (.scr (ns.map T.int))), some (.sh (.int k)), sO o2, sO o3, sO o4, sO o5, sO o6, sO o7, sO o8, sO o9]
    = some (.nx [some (.sh (.scr (ns.map T.int))), some (.sh (.int k)), sO p2, sO p3, sO p4, sO p5, sO p6, sO p7, sO p8, sO p9]) := by
  have hcell := mCell_eq (ns := ns) h0 (by omega)
  generalize cellF ns k = c at *
  have hmix := mMix_eq (c := c) (k := k) (small_B (by omega) (by omega))
  have re := mixF_rng c k
  generalize mixF c k = e at *
  have hmix3 := mMix_eq (c := e) (k := 3) (small_B (by decide) (by decide))
  generalize mixF e 3 = e3 at *
  have hm := fmod_rng e (b := 5) (by decide)
  have hw := fmod_rng (e.fdiv 5) (b := 5) (by decide)
  have hmul : 0 ≤ e.fmod 5 * (e.fdiv 5).fmod 5 ∧ e.fmod 5 * (e.fdiv 5).fmod 5 ≤ 100 := by
    have a1 := Int.mul_nonneg hm.1 hw.1
    have a2 : e.fmod 5 * (e.fdiv 5).fmod 5 ≤ 5 * 5 := Int.mul_le_mul (by omega) (by omega) hw.1 (by decide)
    omega
  obtain ⟨ts, hsome, hlen, hnum⟩ := ev_some c (e.fmod 5 * (e.fdiv 5).fmod 5) hmul.1 hmul.2
  have hrows := rows_eq ts (some (.sh (.scr (ns.map T.int)))) (some (.sh (.int k))) (some (.sh (.int e))) (e.fmod 5) ((e.fdiv 5).fmod 5) o6 o7 o8 o9 hm hw
  have bm : (e.fmod 5).natAbs < B := small_B (by omega) (by omega)
  have bw : ((e.fdiv 5).fmod 5).natAbs < B := small_B (by omega) (by omega)
  have hl : ((TM.upTo 0 (e.fmod 5).toNat).map (cutsOf ts ((e.fdiv 5).fmod 5))).length ≤ 100 := by rw [List.length_map, upTo_length]; omega
  have hr : ∀ us ∈ (TM.upTo 0 (e.fmod 5).toNat).map (cutsOf ts ((e.fdiv 5).fmod 5)), us.length ≤ 100 ∧ ∀ t ∈ us, Num t := fun us hu => by
    obtain ⟨x, hx, rfl⟩ := List.mem_map.mp hu
    obtain ⟨j, rfl, _, _⟩ := mem_upTo hx
    have q : (cutsOf ts ((e.fdiv 5).fmod 5) (.int j)).length ≤ ts.length := cutT_len
    exact ⟨by omega, fun t ht => hnum t (cutT_mem ht)⟩
  generalize (TM.upTo 0 (e.fmod 5).toNat).map (cutsOf ts ((e.fdiv 5).fmod 5)) = tss at *
  have n5 : ¬ (5 : Int) = 0 := by decide
  have b5 : (5 : Int).natAbs < B := small_B (by decide) (by decide)
  have n25 : ¬ (25 : Int) = 0 := by decide
  have b25 : (25 : Int).natAbs < B := small_B (by decide) (by decide)
  have hA : ∀ x : Option Sl, (x = none ∨ x = sO o6) → allSh [some (.sh (.scr (ns.map T.int))), some (.sh (.int k)), some (.sh (.int e)), some (.sh (.int (e.fmod 5))), some (.sh (.int ((e.fdiv 5).fmod 5))), some (.sh (.lst ts)), x, sO o7, sO o8, sO o9] = true := fun x hx => by
    rw [allSh_sh, allSh_sh, allSh_sh, allSh_sh, allSh_sh, allSh_sh]
    rcases hx with rfl | rfl
    · show allSh [sO o7, sO o8, sO o9] = true
      rw [allSh_sO, allSh_sO, allSh_sO]
      rfl
    · rw [allSh_sO, allSh_sO, allSh_sO, allSh_sO]
      rfl
  have hg : ∃ b, fSpoilt [some (.sh (.scr (ns.map T.int))), some (.sh (.int k)), some (.sh (.int e)), some (.sh (.int (e.fmod 5))), some (.sh (.int ((e.fdiv 5).fmod 5))), some (.sh (.lst ts)), none, sO o7, sO o8, sO o9] = some (b, [some (.sh (.scr (ns.map T.int))), some (.sh (.int k)), some (.sh (.int e)), some (.sh (.int (e.fmod 5))), some (.sh (.int ((e.fdiv 5).fmod 5))), some (.sh (.lst ts)), none, sO o7, sO o8, sO o9]) := by
    have hgt : ∃ b, gGt (.int ((e.fdiv 25).fmod 5)) (.int 0) = some (.bl b) := ⟨_, rfl⟩
    obtain ⟨b, hgt⟩ := hgt
    refine ⟨b, ?_⟩
    clear hA hrows hsome hl hr hlen hnum hm hw hmul re bm bw hcell hmix hmix3 h0 h1
    walk_at "ev"
  obtain ⟨b, hg⟩ := hg
  have hfz : ∃ t, Fine t ∧ fFuse 6 fRows fSpoilt (fCons (fCall mMix (fCons (fVar 2) (fCons (fC (.int 3)) fNil))) fNil) (dSpoil dOdd) restBody [some (.sh (.scr (ns.map T.int))), some (.sh (.int k)), some (.sh (.int e)), some (.sh (.int (e.fmod 5))), some (.sh (.int ((e.fdiv 5).fmod 5))), some (.sh (.lst ts)), sO o6, sO o7, sO o8, sO o9]
      = restBody [some (.sh (.scr (ns.map T.int))), some (.sh (.int k)), some (.sh (.int e)), some (.sh (.int (e.fmod 5))), some (.sh (.int ((e.fdiv 5).fmod 5))), some (.sh (.lst ts)), some (.sh t), sO o7, sO o8, sO o9] := by
    cases b with
    | true =>
      obtain ⟨t, ht, hf⟩ := ev_spoil tss hl hr e3
      refine ⟨t, hf, ?_⟩
      have h3 : (fCons (fCall mMix (fCons (fVar 2) (fCons (fC (.int 3)) fNil))) fNil) [some (.sh (.scr (ns.map T.int))), some (.sh (.int k)), some (.sh (.int e)), some (.sh (.int (e.fmod 5))), some (.sh (.int ((e.fdiv 5).fmod 5))), some (.sh (.lst ts)), none, sO o7, sO o8, sO o9]
          = some ([.int e3], [some (.sh (.scr (ns.map T.int))), some (.sh (.int k)), some (.sh (.int e)), some (.sh (.int (e.fmod 5))), some (.sh (.int ((e.fdiv 5).fmod 5))), some (.sh (.lst ts)), none, sO o7, sO o8, sO o9]) := by
        clear hA hrows hsome hl hr hlen hnum hm hw hmul re bm bw hcell hmix h0 h1 hg hf ht
        walk_at "ev"
      exact fuse_yes hrows (hA _ (.inr rfl)) (by show 6 < 10; decide) hg (hA _ (.inl rfl)) h3 (hA _ (.inl rfl)) ht
    | false =>
      refine ⟨(O.lst (tss.map rowO)).tr, ?_, fuse_no hrows (hA _ (.inr rfl)) (by show 6 < 10; decide) hg (hA _ (.inl rfl))⟩
      show Fine (.lst (O.trs (tss.map rowO)))
      rw [trs_rows]
      refine fine_lst (by simp; omega) fun x hx => ?_
      obtain ⟨us, hu, rfl⟩ := List.mem_map.mp hx
      exact rw_lst (by have := (hr us hu).1; omega) fun y hy => ((hr us hu).2 y hy).el
  obtain ⟨t, hfine, hfz⟩ := hfz
  obtain ⟨m', n', y8, y9, hrest⟩ := rest_ok hfine e (e.fmod 5) ((e.fdiv 5).fmod 5) (some (.sh (.scr (ns.map T.int)))) (some (.sh (.int k))) (some (.sh (.lst ts))) (sO o7) (sO o8) (sO o9)
  rw [hrest] at hfz
  refine ⟨some (.int e), some (.int m'), some (.int n'), some (.lst ts), some t, some (.int 1), some y8, some y9, ?_⟩
  have s1 : ∀ x : T, sO (some x) = some (.sh x) := fun _ => rfl
  rw [s1, s1, s1, s1, s1, s1, s1, s1]
  generalize sO o2 = z2
  generalize sO o3 = z3
  generalize sO o4 = z4
  generalize sO o5 = z5
  generalize sO o6 = z6 at *
  generalize sO o7 = z7 at *
  generalize sO o8 = z8 at *
  generalize sO o9 = z9 at *
  unfold lawBody
  clear hrest hA hg hrows hl hr hlen hnum hm hw hmul re hmix3 h0 h1 s1
  walk_at "ev"
theorem law_loop (ns : List Int) : ∀ (n : Nat) (lo : Int) (o1 o2 o3 o4 o5 o6 o7 o8 o9 : Option T), 0 ≤ lo → lo + n ≤ 1000 → ∃ p1 p2 p3 p4 p5 p6 p7 p8 p9 : Option T, loopT (gnName 1) lawBody (TM.upTo lo n) [some (.sh (.scr (ns.map T.int))), sO o1, sO o2, sO o3, sO o4, sO o5, sO o6, sO o7, sO o8, sO o9]
    = some (.nx [some (.sh (.scr (ns.map T.int))), sO p1, sO p2, sO p3, sO p4, sO p5, sO p6, sO p7, sO p8, sO p9])
  | 0, lo, o1, o2, o3, o4, o5, o6, o7, o8, o9, _, _ => ⟨o1, o2, o3, o4, o5, o6, o7, o8, o9, by simp [TM.upTo, loopT]⟩
  | n + 1, lo, o1, o2, o3, o4, o5, o6, o7, o8, o9, h0, h1 => by
    obtain ⟨p2, p3, p4, p5, p6, p7, p8, p9, hb⟩ := law_turn ns lo h0 (by omega) o2 o3 o4 o5 o6 o7 o8 o9
    obtain ⟨q1, q2, q3, q4, q5, q6, q7, q8, q9, hq⟩ := law_loop ns n (lo + 1) (some (.int lo)) p2 p3 p4 p5 p6 p7 p8 p9 (by omega) (by omega)
    refine ⟨q1, q2, q3, q4, q5, q6, q7, q8, q9, ?_⟩
    rw [show TM.upTo lo (n + 1) = T.int lo :: TM.upTo (lo + 1) n from rfl, loop_step rfl hb]
    exact hq
theorem law_true (ns : List Int) (hl : ns.length ≤ 63) : dOf 10 1 (b_law mCell mMix dSome mTab mTab mRow mRow (dSpoil dOdd)) [.scr (ns.map T.int)] = some (.bl true) := by
  have hn : ∃ k : Int, 0 ≤ k ∧ k ≤ 100 ∧ (fCall dMax (fCons (fC (.int 5)) (fCons (fCall dMin (fCons (fC (.int 24)) (fCons (fCall dLen (fCons (fVar 0) fNil)) fNil))) fNil))) [some (.sh (.scr (ns.map T.int))), none, none, none, none, none, none, none, none, none] = some (.int k, [some (.sh (.scr (ns.map T.int))), none, none, none, none, none, none, none, none, none]) := by
    refine ⟨_, ?_, ?_, rfl⟩
    · split <;> omega
    · split
      · split
        · rw [List.length_map]; omega
        · omega
      · omega
  obtain ⟨k, k0, k1, hk⟩ := hn
  obtain ⟨p1, p2, p3, p4, p5, p6, p7, p8, p9, hloop⟩ := law_loop ns k.toNat 0 none none none none none none none none none (by decide) (by omega)
  have hr := rng1_eq hk k0 (by omega)
  have e : b_law mCell mMix dSome mTab mTab mRow mRow (dSpoil dOdd) = fSeq (fFor (fiRng1 (fCons (fCall dMax (fCons (fC (.int 5)) (fCons (fCall dMin (fCons (fC (.int 24)) (fCons (fCall dLen (fCons (fVar 0) fNil)) fNil))) fNil))) fNil)) (gnName 1) lawBody) (fRet (fC (.bl true))) := rfl
  unfold dOf
  rw [if_pos (show [T.scr (ns.map T.int)].length = 1 from rfl), e]
  show ((fSeq _ _ [some (.sh (.scr (ns.map T.int))), none, none, none, none, none, none, none, none, none]).bind _) = _
  unfold fSeq fFor
  rw [hr, Option.bind_some]
  have hloop' : loopT (gnName 1) lawBody (TM.upTo 0 k.toNat) [some (.sh (.scr (ns.map T.int))), none, none, none, none, none, none, none, none, none] = _ := hloop
  dsimp only
  rw [hloop', Option.bind_some]
  rfl
end My

set_option Elab.async false
set_option linter.all false
set_option maxRecDepth 100000
namespace My
open PySem PySem.Spec PyProof.Rows L2 TM
noncomputable abbrev dLaw : List T → Option T := (dOf 10 1 (b_law mCell mMix dSome mTab mTab mRow mRow (dSpoil dOdd)))
theorem all_mk {l : PySem.W.OpenLaw} {w : World} {K : PySem.W.Frag} {h : Heap} {mg : Str → Option Value} {fa : Addr} (X : K.In h) (G : h.Ns mainGlobals mg) (hfa : mg "law" = some (.ref fa))
    {f__law_cell : Addr} {od__law_cell an__law_cell : Option Addr} {sl__law_cell : Array (Option Value)} {oc__law_cell kV__law_cell dc__law_cell pm__law_cell cd__law_cell ct__law_cell : Value}
    {f__law_mix : Addr} {od__law_mix an__law_mix : Option Addr} {sl__law_mix : Array (Option Value)} {oc__law_mix kV__law_mix dc__law_mix pm__law_mix cd__law_mix ct__law_mix : Value}
    {f__law_digits : Addr} {od__law_digits an__law_digits : Option Addr} {sl__law_digits : Array (Option Value)} {oc__law_digits kV__law_digits dc__law_digits pm__law_digits cd__law_digits ct__law_digits : Value}
    {f__law_frac : Addr} {od__law_frac an__law_frac : Option Addr} {sl__law_frac : Array (Option Value)} {oc__law_frac kV__law_frac dc__law_frac pm__law_frac cd__law_frac ct__law_frac : Value}
    {f__law_some : Addr} {od__law_some an__law_some : Option Addr} {sl__law_some : Array (Option Value)} {oc__law_some kV__law_some dc__law_some pm__law_some cd__law_some ct__law_some : Value}
    {f_is_whole : Addr} {od_is_whole an_is_whole : Option Addr} {sl_is_whole : Array (Option Value)} {oc_is_whole kV_is_whole dc_is_whole pm_is_whole cd_is_whole ct_is_whole : Value}
    {f_half : Addr} {od_half an_half : Option Addr} {sl_half : Array (Option Value)} {oc_half kV_half dc_half pm_half cd_half ct_half : Value}
    {f_common : Addr} {od_common an_common : Option Addr} {sl_common : Array (Option Value)} {oc_common kV_common dc_common pm_common cd_common ct_common : Value}
    {f_is_fraction : Addr} {od_is_fraction an_is_fraction : Option Addr} {sl_is_fraction : Array (Option Value)} {oc_is_fraction kV_is_fraction dc_is_fraction pm_is_fraction cd_is_fraction ct_is_fraction : Value}
    {f_is_row : Addr} {od_is_row an_is_row : Option Addr} {sl_is_row : Array (Option Value)} {oc_is_row kV_is_row dc_is_row pm_is_row cd_is_row ct_is_row : Value}
    {f_is_table : Addr} {od_is_table an_is_table : Option Addr} {sl_is_table : Array (Option Value)} {oc_is_table kV_is_table dc_is_table pm_is_table cd_is_table ct_is_table : Value}
    {f__law_number : Addr} {od__law_number an__law_number : Option Addr} {sl__law_number : Array (Option Value)} {oc__law_number kV__law_number dc__law_number pm__law_number cd__law_number ct__law_number : Value}
    {f__law_row : Addr} {od__law_row an__law_row : Option Addr} {sl__law_row : Array (Option Value)} {oc__law_row kV__law_row dc__law_row pm__law_row cd__law_row ct__law_row : Value}
    {f__law_table : Addr} {od__law_table an__law_table : Option Addr} {sl__law_table : Array (Option Value)} {oc__law_table kV__law_table dc__law_table pm__law_table cd__law_table ct__law_table : Value}
    {f__law_odd : Addr} {od__law_odd an__law_odd : Option Addr} {sl__law_odd : Array (Option Value)} {oc__law_odd kV__law_odd dc__law_odd pm__law_odd cd__law_odd ct__law_odd : Value}
    {f__law_spoiled : Addr} {od__law_spoiled an__law_spoiled : Option Addr} {sl__law_spoiled : Array (Option Value)} {oc__law_spoiled kV__law_spoiled dc__law_spoiled pm__law_spoiled cd__law_spoiled ct__law_spoiled : Value}
    {f_law : Addr} {od_law an_law : Option Addr} {sl_law : Array (Option Value)} {oc_law kV_law dc_law pm_law cd_law ct_law : Value}
    {t_SHORT : Tok}
    (a__law_cell : PySem.W.nsIn K mainGlobals "_law_cell" = some (some (.ref f__law_cell)))
    (l__law_cell : K.lookup f__law_cell = some ⟨oc__law_cell, od__law_cell, .func (PySem.W.fnOf "_law_cell" "_law_cell" (defArgs s__law_cell) (defBody s__law_cell) (defScope s__law_cell) .none kV__law_cell dc__law_cell pm__law_cell an__law_cell cd__law_cell ct__law_cell), sl__law_cell⟩)
    (c__law_cell : PySem.W.codeIn K cd__law_cell "_law_cell" = true)
    (k__law_cell : PySem.W.keepIn K (.ref f__law_cell) = true)
    (a__law_mix : PySem.W.nsIn K mainGlobals "_law_mix" = some (some (.ref f__law_mix)))
    (l__law_mix : K.lookup f__law_mix = some ⟨oc__law_mix, od__law_mix, .func (PySem.W.fnOf "_law_mix" "_law_mix" (defArgs s__law_mix) (defBody s__law_mix) (defScope s__law_mix) .none kV__law_mix dc__law_mix pm__law_mix an__law_mix cd__law_mix ct__law_mix), sl__law_mix⟩)
    (c__law_mix : PySem.W.codeIn K cd__law_mix "_law_mix" = true)
    (k__law_mix : PySem.W.keepIn K (.ref f__law_mix) = true)
    (a__law_digits : PySem.W.nsIn K mainGlobals "_law_digits" = some (some (.ref f__law_digits)))
    (l__law_digits : K.lookup f__law_digits = some ⟨oc__law_digits, od__law_digits, .func (PySem.W.fnOf "_law_digits" "_law_digits" (defArgs s__law_digits) (defBody s__law_digits) (defScope s__law_digits) .none kV__law_digits dc__law_digits pm__law_digits an__law_digits cd__law_digits ct__law_digits), sl__law_digits⟩)
    (c__law_digits : PySem.W.codeIn K cd__law_digits "_law_digits" = true)
    (k__law_digits : PySem.W.keepIn K (.ref f__law_digits) = true)
    (a__law_frac : PySem.W.nsIn K mainGlobals "_law_frac" = some (some (.ref f__law_frac)))
    (l__law_frac : K.lookup f__law_frac = some ⟨oc__law_frac, od__law_frac, .func (PySem.W.fnOf "_law_frac" "_law_frac" (defArgs s__law_frac) (defBody s__law_frac) (defScope s__law_frac) .none kV__law_frac dc__law_frac pm__law_frac an__law_frac cd__law_frac ct__law_frac), sl__law_frac⟩)
    (c__law_frac : PySem.W.codeIn K cd__law_frac "_law_frac" = true)
    (k__law_frac : PySem.W.keepIn K (.ref f__law_frac) = true)
    (a__law_some : PySem.W.nsIn K mainGlobals "_law_some" = some (some (.ref f__law_some)))
    (l__law_some : K.lookup f__law_some = some ⟨oc__law_some, od__law_some, .func (PySem.W.fnOf "_law_some" "_law_some" (defArgs s__law_some) (defBody s__law_some) (defScope s__law_some) .none kV__law_some dc__law_some pm__law_some an__law_some cd__law_some ct__law_some), sl__law_some⟩)
    (c__law_some : PySem.W.codeIn K cd__law_some "_law_some" = true)
    (k__law_some : PySem.W.keepIn K (.ref f__law_some) = true)
    (a_is_whole : PySem.W.nsIn K mainGlobals "is_whole" = some (some (.ref f_is_whole)))
    (l_is_whole : K.lookup f_is_whole = some ⟨oc_is_whole, od_is_whole, .func (PySem.W.fnOf "is_whole" "is_whole" (defArgs s_is_whole) (defBody s_is_whole) (defScope s_is_whole) .none kV_is_whole dc_is_whole pm_is_whole an_is_whole cd_is_whole ct_is_whole), sl_is_whole⟩)
    (c_is_whole : PySem.W.codeIn K cd_is_whole "is_whole" = true)
    (k_is_whole : PySem.W.keepIn K (.ref f_is_whole) = true)
    (a_half : PySem.W.nsIn K mainGlobals "half" = some (some (.ref f_half)))
    (l_half : K.lookup f_half = some ⟨oc_half, od_half, .func (PySem.W.fnOf "half" "half" (defArgs s_half) (defBody s_half) (defScope s_half) .none kV_half dc_half pm_half an_half cd_half ct_half), sl_half⟩)
    (c_half : PySem.W.codeIn K cd_half "half" = true)
    (k_half : PySem.W.keepIn K (.ref f_half) = true)
    (a_common : PySem.W.nsIn K mainGlobals "common" = some (some (.ref f_common)))
    (l_common : K.lookup f_common = some ⟨oc_common, od_common, .func (PySem.W.fnOf "common" "common" (defArgs s_common) (defBody s_common) (defScope s_common) .none kV_common dc_common pm_common an_common cd_common ct_common), sl_common⟩)
    (c_common : PySem.W.codeIn K cd_common "common" = true)
    (k_common : PySem.W.keepIn K (.ref f_common) = true)
    (a_is_fraction : PySem.W.nsIn K mainGlobals "is_fraction" = some (some (.ref f_is_fraction)))
    (l_is_fraction : K.lookup f_is_fraction = some ⟨oc_is_fraction, od_is_fraction, .func (PySem.W.fnOf "is_fraction" "is_fraction" (defArgs s_is_fraction) (defBody s_is_fraction) (defScope s_is_fraction) .none kV_is_fraction dc_is_fraction pm_is_fraction an_is_fraction cd_is_fraction ct_is_fraction), sl_is_fraction⟩)
    (c_is_fraction : PySem.W.codeIn K cd_is_fraction "is_fraction" = true)
    (k_is_fraction : PySem.W.keepIn K (.ref f_is_fraction) = true)
    (a_is_row : PySem.W.nsIn K mainGlobals "is_row" = some (some (.ref f_is_row)))
    (l_is_row : K.lookup f_is_row = some ⟨oc_is_row, od_is_row, .func (PySem.W.fnOf "is_row" "is_row" (defArgs s_is_row) (defBody s_is_row) (defScope s_is_row) .none kV_is_row dc_is_row pm_is_row an_is_row cd_is_row ct_is_row), sl_is_row⟩)
    (c_is_row : PySem.W.codeIn K cd_is_row "is_row" = true)
    (k_is_row : PySem.W.keepIn K (.ref f_is_row) = true)
    (a_is_table : PySem.W.nsIn K mainGlobals "is_table" = some (some (.ref f_is_table)))
    (l_is_table : K.lookup f_is_table = some ⟨oc_is_table, od_is_table, .func (PySem.W.fnOf "is_table" "is_table" (defArgs s_is_table) (defBody s_is_table) (defScope s_is_table) .none kV_is_table dc_is_table pm_is_table an_is_table cd_is_table ct_is_table), sl_is_table⟩)
    (c_is_table : PySem.W.codeIn K cd_is_table "is_table" = true)
    (k_is_table : PySem.W.keepIn K (.ref f_is_table) = true)
    (a__law_number : PySem.W.nsIn K mainGlobals "_law_number" = some (some (.ref f__law_number)))
    (l__law_number : K.lookup f__law_number = some ⟨oc__law_number, od__law_number, .func (PySem.W.fnOf "_law_number" "_law_number" (defArgs s__law_number) (defBody s__law_number) (defScope s__law_number) .none kV__law_number dc__law_number pm__law_number an__law_number cd__law_number ct__law_number), sl__law_number⟩)
    (c__law_number : PySem.W.codeIn K cd__law_number "_law_number" = true)
    (k__law_number : PySem.W.keepIn K (.ref f__law_number) = true)
    (a__law_row : PySem.W.nsIn K mainGlobals "_law_row" = some (some (.ref f__law_row)))
    (l__law_row : K.lookup f__law_row = some ⟨oc__law_row, od__law_row, .func (PySem.W.fnOf "_law_row" "_law_row" (defArgs s__law_row) (defBody s__law_row) (defScope s__law_row) .none kV__law_row dc__law_row pm__law_row an__law_row cd__law_row ct__law_row), sl__law_row⟩)
    (c__law_row : PySem.W.codeIn K cd__law_row "_law_row" = true)
    (k__law_row : PySem.W.keepIn K (.ref f__law_row) = true)
    (a__law_table : PySem.W.nsIn K mainGlobals "_law_table" = some (some (.ref f__law_table)))
    (l__law_table : K.lookup f__law_table = some ⟨oc__law_table, od__law_table, .func (PySem.W.fnOf "_law_table" "_law_table" (defArgs s__law_table) (defBody s__law_table) (defScope s__law_table) .none kV__law_table dc__law_table pm__law_table an__law_table cd__law_table ct__law_table), sl__law_table⟩)
    (c__law_table : PySem.W.codeIn K cd__law_table "_law_table" = true)
    (k__law_table : PySem.W.keepIn K (.ref f__law_table) = true)
    (a__law_odd : PySem.W.nsIn K mainGlobals "_law_odd" = some (some (.ref f__law_odd)))
    (l__law_odd : K.lookup f__law_odd = some ⟨oc__law_odd, od__law_odd, .func (PySem.W.fnOf "_law_odd" "_law_odd" (defArgs s__law_odd) (defBody s__law_odd) (defScope s__law_odd) .none kV__law_odd dc__law_odd pm__law_odd an__law_odd cd__law_odd ct__law_odd), sl__law_odd⟩)
    (c__law_odd : PySem.W.codeIn K cd__law_odd "_law_odd" = true)
    (k__law_odd : PySem.W.keepIn K (.ref f__law_odd) = true)
    (a__law_spoiled : PySem.W.nsIn K mainGlobals "_law_spoiled" = some (some (.ref f__law_spoiled)))
    (l__law_spoiled : K.lookup f__law_spoiled = some ⟨oc__law_spoiled, od__law_spoiled, .func (PySem.W.fnOf "_law_spoiled" "_law_spoiled" (defArgs s__law_spoiled) (defBody s__law_spoiled) (defScope s__law_spoiled) .none kV__law_spoiled dc__law_spoiled pm__law_spoiled an__law_spoiled cd__law_spoiled ct__law_spoiled), sl__law_spoiled⟩)
    (c__law_spoiled : PySem.W.codeIn K cd__law_spoiled "_law_spoiled" = true)
    (k__law_spoiled : PySem.W.keepIn K (.ref f__law_spoiled) = true)
    (a_law : PySem.W.nsIn K mainGlobals "law" = some (some (.ref f_law)))
    (l_law : K.lookup f_law = some ⟨oc_law, od_law, .func (PySem.W.fnOf "law" "law" (defArgs s_law) (defBody s_law) (defScope s_law) .none kV_law dc_law pm_law an_law cd_law ct_law), sl_law⟩)
    (c_law : PySem.W.codeIn K cd_law "law" = true)
    (k_law : PySem.W.keepIn K (.ref f_law) = true)
    (z_len : PySem.W.nsIn K mainGlobals "len" = some none)
    (z_range : PySem.W.nsIn K mainGlobals "range" = some none)
    (z_abs : PySem.W.nsIn K mainGlobals "abs" = some none)
    (z_int : PySem.W.nsIn K mainGlobals "int" = some none)
    (z_isinstance : PySem.W.nsIn K mainGlobals "isinstance" = some none)
    (z_bool : PySem.W.nsIn K mainGlobals "bool" = some none)
    (z_tuple : PySem.W.nsIn K mainGlobals "tuple" = some none)
    (z_list : PySem.W.nsIn K mainGlobals "list" = some none)
    (z_all : PySem.W.nsIn K mainGlobals "all" = some none)
    (z_min : PySem.W.nsIn K mainGlobals "min" = some none)
    (z_max : PySem.W.nsIn K mainGlobals "max" = some none)
    (v_SHORT : PySem.W.nsIn K mainGlobals "SHORT" = some (some (.int 4000 t_SHORT))) :
    ∃ fd : FuncData, (∀ (s : Shared) (v : Value), BindsTo s fd ⟨[v], []⟩ [("_law_script", v)]) ∧ ∀ base : Heap, K.In base → base.Ns mainGlobals mg → FnOk l.prog w K mg base CX0 5 fa fd ["_law_script"] (spT K 1 dLaw) := by
  have e := hfa.symm.trans (PySem.W.mg_of X G a_law)
  cases e
  have F__law_cell := fun_mk (st := s__law_cell) l__law_cell c__law_cell k__law_cell
  have b__law_cell := F__law_cell.binds (ps := ["_law_script", "_law_k"]) fun _ _ _ _ _ _ us hl => match us, hl with | [_, _], _ => rfl
  have m__law_cell := PySem.W.mg_of X G a__law_cell
  have F__law_mix := fun_mk (st := s__law_mix) l__law_mix c__law_mix k__law_mix
  have b__law_mix := F__law_mix.binds (ps := ["_law_cell_here", "_law_k"]) fun _ _ _ _ _ _ us hl => match us, hl with | [_, _], _ => rfl
  have m__law_mix := PySem.W.mg_of X G a__law_mix
  have F__law_digits := fun_mk (st := s__law_digits) l__law_digits c__law_digits k__law_digits
  have b__law_digits := F__law_digits.binds (ps := ["_law_number_here", "_law_by", "_law_many"]) fun _ _ _ _ _ _ us hl => match us, hl with | [_, _, _], _ => rfl
  have m__law_digits := PySem.W.mg_of X G a__law_digits
  have F__law_frac := fun_mk (st := s__law_frac) l__law_frac c__law_frac k__law_frac
  have b__law_frac := F__law_frac.binds (ps := ["_law_top", "_law_bottom"]) fun _ _ _ _ _ _ us hl => match us, hl with | [_, _], _ => rfl
  have m__law_frac := PySem.W.mg_of X G a__law_frac
  have F__law_some := fun_mk (st := s__law_some) l__law_some c__law_some k__law_some
  have b__law_some := F__law_some.binds (ps := ["_law_cell_here", "_law_many"]) fun _ _ _ _ _ _ us hl => match us, hl with | [_, _], _ => rfl
  have m__law_some := PySem.W.mg_of X G a__law_some
  have F_is_whole := fun_mk (st := s_is_whole) l_is_whole c_is_whole k_is_whole
  have b_is_whole := F_is_whole.binds (ps := ["thing"]) fun _ _ _ _ _ _ us hl => match us, hl with | [_], _ => rfl
  have m_is_whole := PySem.W.mg_of X G a_is_whole
  have F_half := fun_mk (st := s_half) l_half c_half k_half
  have b_half := F_half.binds (ps := ["one", "other"]) fun _ _ _ _ _ _ us hl => match us, hl with | [_, _], _ => rfl
  have m_half := PySem.W.mg_of X G a_half
  have F_common := fun_mk (st := s_common) l_common c_common k_common
  have b_common := F_common.binds (ps := ["one", "other"]) fun _ _ _ _ _ _ us hl => match us, hl with | [_, _], _ => rfl
  have m_common := PySem.W.mg_of X G a_common
  have F_is_fraction := fun_mk (st := s_is_fraction) l_is_fraction c_is_fraction k_is_fraction
  have b_is_fraction := F_is_fraction.binds (ps := ["thing"]) fun _ _ _ _ _ _ us hl => match us, hl with | [_], _ => rfl
  have m_is_fraction := PySem.W.mg_of X G a_is_fraction
  have F_is_row := fun_mk (st := s_is_row) l_is_row c_is_row k_is_row
  have b_is_row := F_is_row.binds (ps := ["thing", "many"]) fun _ _ _ _ _ _ us hl => match us, hl with | [_, _], _ => rfl
  have m_is_row := PySem.W.mg_of X G a_is_row
  have F_is_table := fun_mk (st := s_is_table) l_is_table c_is_table k_is_table
  have b_is_table := F_is_table.binds (ps := ["thing", "many", "wide"]) fun _ _ _ _ _ _ us hl => match us, hl with | [_, _, _], _ => rfl
  have m_is_table := PySem.W.mg_of X G a_is_table
  have F__law_number := fun_mk (st := s__law_number) l__law_number c__law_number k__law_number
  have b__law_number := F__law_number.binds (ps := ["_law_thing"]) fun _ _ _ _ _ _ us hl => match us, hl with | [_], _ => rfl
  have m__law_number := PySem.W.mg_of X G a__law_number
  have F__law_row := fun_mk (st := s__law_row) l__law_row c__law_row k__law_row
  have b__law_row := F__law_row.binds (ps := ["_law_thing", "_law_many"]) fun _ _ _ _ _ _ us hl => match us, hl with | [_, _], _ => rfl
  have m__law_row := PySem.W.mg_of X G a__law_row
  have F__law_table := fun_mk (st := s__law_table) l__law_table c__law_table k__law_table
  have b__law_table := F__law_table.binds (ps := ["_law_thing", "_law_many", "_law_wide"]) fun _ _ _ _ _ _ us hl => match us, hl with | [_, _, _], _ => rfl
  have m__law_table := PySem.W.mg_of X G a__law_table
  have F__law_odd := fun_mk (st := s__law_odd) l__law_odd c__law_odd k__law_odd
  have b__law_odd := F__law_odd.binds (ps := ["_law_cell_here"]) fun _ _ _ _ _ _ us hl => match us, hl with | [_], _ => rfl
  have m__law_odd := PySem.W.mg_of X G a__law_odd
  have F__law_spoiled := fun_mk (st := s__law_spoiled) l__law_spoiled c__law_spoiled k__law_spoiled
  have b__law_spoiled := F__law_spoiled.binds (ps := ["_law_table_here", "_law_cell_here"]) fun _ _ _ _ _ _ us hl => match us, hl with | [_, _], _ => rfl
  have m__law_spoiled := PySem.W.mg_of X G a__law_spoiled
  have F_law := fun_mk (st := s_law) l_law c_law k_law
  have b_law := F_law.binds (ps := ["_law_script"]) fun _ _ _ _ _ _ us hl => match us, hl with | [_], _ => rfl
  have m_law := PySem.W.mg_of X G a_law
  have m_len := PySem.W.mg_none_of X G z_len
  have m_range := PySem.W.mg_none_of X G z_range
  have m_abs := PySem.W.mg_none_of X G z_abs
  have m_int := PySem.W.mg_none_of X G z_int
  have m_isinstance := PySem.W.mg_none_of X G z_isinstance
  have m_bool := PySem.W.mg_none_of X G z_bool
  have m_tuple := PySem.W.mg_none_of X G z_tuple
  have m_list := PySem.W.mg_none_of X G z_list
  have m_all := PySem.W.mg_none_of X G z_all
  have m_min := PySem.W.mg_none_of X G z_min
  have m_max := PySem.W.mg_none_of X G z_max
  have g_SHORT := PySem.W.mg_of X G v_SHORT
  refine ⟨PySem.W.fnOf "law" "law" (defArgs s_law) (defBody s_law) (defScope s_law) .none kV_law dc_law pm_law an_law cd_law ct_law, fun s v => .of_eq rfl, fun base _ _ => ?_⟩
  have D__law_cell : Def l.prog w K mg base 1 "_law_cell" 2 (mCell) := (ok__law_cell (P := l.prog) (w := w) (base := base) (k := 0) F__law_cell b__law_cell m__law_cell  m_len).imp sp_cell
  have D__law_mix : Def l.prog w K mg base 1 "_law_mix" 2 (mMix) := (ok__law_mix (P := l.prog) (w := w) (base := base) (k := 0) F__law_mix b__law_mix m__law_mix  ).imp sp_mix
  have D__law_digits : Def l.prog w K mg base 1 "_law_digits" 3 (dDigits) := ok__law_digits (P := l.prog) (w := w) (base := base) (k := 0) F__law_digits b__law_digits m__law_digits  m_range
  have D__law_frac : Def l.prog w K mg base 1 "_law_frac" 2 (mFrac) := (ok__law_frac (P := l.prog) (w := w) (base := base) (k := 0) B F__law_frac b__law_frac m__law_frac  m_abs).imp sp_law_frac
  have D__law_some : Def l.prog w K mg base 2 "_law_some" 2 (dSome) := ok__law_some (P := l.prog) (w := w) (base := base) (k := 1) F__law_some b__law_some m__law_some (D__law_digits.mono (by decide : 1 ≤ 1)) (D__law_frac.mono (by decide : 1 ≤ 1)) (D__law_mix.mono (by decide : 1 ≤ 1)) m_range
  have D_is_whole : Def l.prog w K mg base 1 "is_whole" 1 (mWhole) := (ok_is_whole (P := l.prog) (w := w) (base := base) (k := 0) F_is_whole b_is_whole m_is_whole  m_int m_isinstance m_bool).imp sp_is_whole
  have D_half : Def l.prog w K mg base 0 "half" 2 (fun _ => none) := Def.zero F_half b_half m_half
  have D_common : Def l.prog w K mg base 1 "common" 2 (mCommon) := (ok_common (P := l.prog) (w := w) (base := base) (k := 0) B F_common b_common m_common (D_half.mono (by decide : 0 ≤ 0)) m_abs g_SHORT).imp sp_common
  have D_is_fraction : Def l.prog w K mg base 2 "is_fraction" 1 (mIsFr) := (ok_is_fraction (P := l.prog) (w := w) (base := base) (k := 1) F_is_fraction b_is_fraction m_is_fraction (D_is_whole.mono (by decide : 1 ≤ 1)) (D_common.mono (by decide : 1 ≤ 1)) m_tuple m_isinstance m_len).imp sp_is_fraction
  have D_is_row : Def l.prog w K mg base 3 "is_row" 2 (mRow) := (ok_is_row (P := l.prog) (w := w) (base := base) (k := 2) F_is_row b_is_row m_is_row (D_is_fraction.mono (by decide : 2 ≤ 2)) m_list m_isinstance m_len m_all).imp sp_is_row
  have D_is_table : Def l.prog w K mg base 4 "is_table" 3 (mTab) := (ok_is_table (P := l.prog) (w := w) (base := base) (k := 3) F_is_table b_is_table m_is_table (D_is_row.mono (by decide : 3 ≤ 3)) m_list m_isinstance m_len m_all).imp sp_is_table
  have D__law_number : Def l.prog w K mg base 2 "_law_number" 1 (mIsFr) := (ok__law_number (P := l.prog) (w := w) (base := base) (k := 1) F__law_number b__law_number m__law_number (D__law_frac.mono (by decide : 1 ≤ 1)) m_tuple m_isinstance m_len m_int m_bool).imp sp_law_number
  have D__law_row : Def l.prog w K mg base 3 "_law_row" 2 (mRow) := (ok__law_row (P := l.prog) (w := w) (base := base) (k := 2) F__law_row b__law_row m__law_row (D__law_number.mono (by decide : 2 ≤ 2)) m_list m_isinstance m_len).imp sp_law_row
  have D__law_table : Def l.prog w K mg base 4 "_law_table" 3 (mTab) := (ok__law_table (P := l.prog) (w := w) (base := base) (k := 3) F__law_table b__law_table m__law_table (D__law_row.mono (by decide : 3 ≤ 3)) m_list m_isinstance m_len).imp sp_law_table
  have D__law_odd : Def l.prog w K mg base 1 "_law_odd" 1 (dOdd) := ok__law_odd (P := l.prog) (w := w) (base := base) (k := 0) F__law_odd b__law_odd m__law_odd  
  have DC__law_spoiled : DefC l.prog w K mg base 2 "_law_spoiled" 2 (dSpoil dOdd) := okC_spoiled (P := l.prog) (w := w) (base := base) (k := 1) F__law_spoiled b__law_spoiled m__law_spoiled (D__law_odd.mono (by decide : 1 ≤ 1)) m_tuple m_list m_len
  exact fn_law (P := l.prog) (w := w) (base := base) (k := 4) F_law (D__law_cell.mono (by decide : 1 ≤ 4)) (D__law_mix.mono (by decide : 1 ≤ 4)) (D__law_some.mono (by decide : 2 ≤ 4)) (D_is_table.mono (by decide : 4 ≤ 4)) (D__law_table.mono (by decide : 4 ≤ 4)) (D_is_row.mono (by decide : 3 ≤ 4)) (D__law_row.mono (by decide : 3 ≤ 4)) (DC__law_spoiled.mono (by decide : 2 ≤ 4)) m_range m_len m_min m_max m_bool m_isinstance m_list
theorem walk {l : PySem.W.OpenLaw} {q : Program} {loose : List Str} {XP : (Str → Option Value) → Heap → Prop} {YP : World → Heap → Prop} {d : DefRec} {K : Params → PySem.W.Frag} (hn : l.most = some 63) (hdf : d.params.defaults = [])
    (hY : ∀ (w : World) (h : Heap), YP w h → (K w.params).In h)
    (F : ∀ (w : World) (mg : Str → Option Value) (fa : Addr) (h : Heap), (K w.params).In h → h.Ns mainGlobals mg → mg d.name = some (.ref fa) →
      ∃ fd : FuncData, (∀ (s : Shared) (u : Value), BindsTo s fd ⟨[u], []⟩ [("_law_script", u)]) ∧ ∀ base : Heap, (K w.params).In base → base.Ns mainGlobals mg → FnOk l.prog w (K w.params) mg base CX0 5 fa fd ["_law_script"] (spT (K w.params) 1 dLaw)) :
    PySem.W.WalkO q loose XP YP l.row.toRowW d [] (fun f vs => PySem.call f vs) :=
  L2.walk_of (n := 63) (k := 5) (x := "_law_script") (CX := fun _ => CX0) (sp := fun w => spT (K w.params) 1 dLaw) hn (by decide) hdf ⟨rfl, by decide, by decide⟩ hY F
    (fun w H a ns hl _ hS => ⟨rfl, H, [.scr (ns.map T.int)], .bl true, Same.refl H, ⟨_, [], rfl, ⟨a, ns.map V.int, rfl, hS, reps_ints ns⟩, rfl⟩, law_true ns hl, fun _ _ v _ r => r⟩) fun _ _ _ _ _ z => z
end My
open PySem PySem.W PyProof.Rows
set_option maxRecDepth 100000 in
set_option maxHeartbeats 0 in
theorem PySem.Challenge.cw_echohouse_k05_rows_of_any_thing_holds : PySem.Challenge.rw_echohouse_k05_rows_of_any_thing.Holds := by
  w_on; o_law; k_head; (case hw => w_witness2)
  k_fill
  refine My.walk (l := PySem.Challenge.rw_echohouse_k05_rows_of_any_thing) rfl rfl (fun w h Y => PySem.W.kIn_of Y) ?F
  case F =>
    intro w mg fa h KX G hmg
    refine' My.all_mk KX G hmg ?a__law_cell ?l__law_cell ?c__law_cell ?k__law_cell ?a__law_mix ?l__law_mix ?c__law_mix ?k__law_mix ?a__law_digits ?l__law_digits ?c__law_digits ?k__law_digits ?a__law_frac ?l__law_frac ?c__law_frac ?k__law_frac ?a__law_some ?l__law_some ?c__law_some ?k__law_some ?a_is_whole ?l_is_whole ?c_is_whole ?k_is_whole ?a_half ?l_half ?c_half ?k_half ?a_common ?l_common ?c_common ?k_common ?a_is_fraction ?l_is_fraction ?c_is_fraction ?k_is_fraction ?a_is_row ?l_is_row ?c_is_row ?k_is_row ?a_is_table ?l_is_table ?c_is_table ?k_is_table ?a__law_number ?l__law_number ?c__law_number ?k__law_number ?a__law_row ?l__law_row ?c__law_row ?k__law_row ?a__law_table ?l__law_table ?c__law_table ?k__law_table ?a__law_odd ?l__law_odd ?c__law_odd ?k__law_odd ?a__law_spoiled ?l__law_spoiled ?c__law_spoiled ?k__law_spoiled ?a_law ?l_law ?c_law ?k_law ?z_len ?z_range ?z_abs ?z_int ?z_isinstance ?z_bool ?z_tuple ?z_list ?z_all ?z_min ?z_max ?v_SHORT
    (case a__law_cell => k_is); (case l__law_cell => k_is); (case c__law_cell => k_is); (case k__law_cell => k_is)
    (case a__law_mix => k_is); (case l__law_mix => k_is); (case c__law_mix => k_is); (case k__law_mix => k_is)
    (case a__law_digits => k_is); (case l__law_digits => k_is); (case c__law_digits => k_is); (case k__law_digits => k_is)
    (case a__law_frac => k_is); (case l__law_frac => k_is); (case c__law_frac => k_is); (case k__law_frac => k_is)
    (case a__law_some => k_is); (case l__law_some => k_is); (case c__law_some => k_is); (case k__law_some => k_is)
    (case a_is_whole => k_is); (case l_is_whole => k_is); (case c_is_whole => k_is); (case k_is_whole => k_is)
    (case a_half => k_is); (case l_half => k_is); (case c_half => k_is); (case k_half => k_is)
    (case a_common => k_is); (case l_common => k_is); (case c_common => k_is); (case k_common => k_is)
    (case a_is_fraction => k_is); (case l_is_fraction => k_is); (case c_is_fraction => k_is); (case k_is_fraction => k_is)
    (case a_is_row => k_is); (case l_is_row => k_is); (case c_is_row => k_is); (case k_is_row => k_is)
    (case a_is_table => k_is); (case l_is_table => k_is); (case c_is_table => k_is); (case k_is_table => k_is)
    (case a__law_number => k_is); (case l__law_number => k_is); (case c__law_number => k_is); (case k__law_number => k_is)
    (case a__law_row => k_is); (case l__law_row => k_is); (case c__law_row => k_is); (case k__law_row => k_is)
    (case a__law_table => k_is); (case l__law_table => k_is); (case c__law_table => k_is); (case k__law_table => k_is)
    (case a__law_odd => k_is); (case l__law_odd => k_is); (case c__law_odd => k_is); (case k__law_odd => k_is)
    (case a__law_spoiled => k_is); (case l__law_spoiled => k_is); (case c__law_spoiled => k_is); (case k__law_spoiled => k_is)
    (case a_law => k_is); (case l_law => k_is); (case c_law => k_is); (case k_law => k_is)
    (case z_len => k_is)
    (case z_range => k_is)
    (case z_abs => k_is)
    (case z_int => k_is)
    (case z_isinstance => k_is)
    (case z_bool => k_is)
    (case z_tuple => k_is)
    (case z_list => k_is)
    (case z_all => k_is)
    (case z_min => k_is)
    (case z_max => k_is)
    (case v_SHORT => k_is)

