import PyProof.Rows.All
import Wide.All
import OpenK.AllK
import Wide.FinOn
import HandS.ForMost
import HandS.ForExc
import HandS.IsInst
import HandS.Evl
import HandS.SetKeys
import HandS.Conv
import HandS.Zip
import HandS.TupAny
import HandS.Style
import HandS.DictComp
import HandS.SortOrd
import HandS.Defaults
import HandS.ExcInit
import HandS.TryMany
import HandS.Flow
import HandS.Wide
import KE.KStateDown
import HandS.HeadHook2
import HandS.HeadEnd
import HandS.ExcField
import HandS.ExcIs
import PySem.Challenge.RW_neverjoin_k21_books_judged
import Lean
import HandS.Head0
import HandS.Head1
import HandS.Head2
import HandS.HeadHook1
import HandS.Head3
import HandS.Strs
import HandS.SetFor
import HandS.TupSets
import KE.SortData
import KE.DataMinMax
import HandS.Deep
import HandS.WideBits
import HandS.More
import PyProof.Rows.StrMeet
import KE.KDictSum
import PyProof.TupleOfSeq
import PyProof.Rows.Range3
import HandS.OwnEq
import PyProof.InstNe
import PyProof.EqKinds
import PyProof.FactsAll.dict
import KE.GoesEnum
import HandS.DictTup
import HandS.RevRange
import KE.KDictDisplayH
import PyProof.StrBlock2
import PyProof.ListStr
import HandS.WordsDict
import HandS.Text
import HandS.Codes
import HandS.FStr
import KE.GoesEnumKw
import KE.KDictCopyH
import KE.KDictPairs
import KE.KDictItemsList
import PyProof.SeqIndex
import PyProof.ReprRoads
import PyProof.ReprLen
import PyProof.FitsInt
import PyProof.CallFns
set_option Elab.async false
set_option linter.all false
set_option maxRecDepth 100000
/-! Readings that leave what was known: representations of data, what evaluates to what. -/
namespace NJ
open PySem L2

/-- how data lie on the heap; once they lie there they stay -/
structure Rp (α : Type) where
  rel : Hp → V → α → Prop
  mono : ∀ {H H' : Hp} {v : V} {d : α}, Same H H' → rel H v d → rel H' v d
def tx (l : List Nat) : Str := ⟨l.toArray⟩
theorem tx_cps (l : List Nat) : (tx l).cps.toList = l := by simp [tx]
theorem tx_len (l : List Nat) : (tx l).length = l.length := by
  show (tx l).cps.size = _
  simp [tx]
theorem tx_inj {a b : List Nat} (h : tx a = tx b) : a = b := by
  have e := congrArg (fun z : Str => z.cps.toList) h
  simpa [tx_cps] using e
theorem tx_of (z : Str) : z = tx z.cps.toList := by
  cases z
  simp [tx]
theorem tx_app (a b : List Nat) : tx a ++ tx b = tx (a ++ b) := by
  have e : tx a ++ tx b = (⟨(tx a).cps ++ (tx b).cps⟩ : Str) := rfl
  rw [e]
  simp [tx]
def rI : Rp Int := ⟨fun _ v i => v = .int i, fun _ h => h⟩
def rB : Rp Bool := ⟨fun _ v b => v = .bl b, fun _ h => h⟩
def rS : Rp (List Nat) := ⟨fun _ v l => v = .str (tx l), fun _ h => h⟩
def rV : Rp V := ⟨fun _ v x => v = x, fun _ h => h⟩
def rN : Rp Unit := ⟨fun _ v _ => v = .non, fun _ h => h⟩
theorem paired_mono {α : Type} (R : Rp α) {H H' : Hp} (s : Same H H') : ∀ {vs : List V} {xs : List α}, Paired (R.rel H) vs xs → Paired (R.rel H') vs xs
  | _, _, .nil => .nil
  | _, _, .cons a b => .cons (R.mono s a) (paired_mono R s b)
theorem seqT_mono {K : PySem.W.Frag} {H H' : Hp} {a : Addr} {xs : List V} (e : Same H H') (h : SqT K H a xs) : SqT K H' a xs := by
  rcases h with (h | ⟨o, h⟩) | h
  · exact .inl (.inl (e _ _ h))
  · exact .inl (.inr ⟨o, e _ _ h⟩)
  · exact .inr h
variable (K : PySem.W.Frag)
/-- a list | a tuple of such -/
def rL {α : Type} (R : Rp α) : Rp (List α) := ⟨fun H v xs => ∃ a vs, v = .ref a ∧ SqL K H a vs ∧ Paired (R.rel H) vs xs,
  fun s ⟨a, vs, e, h, p⟩ => ⟨a, vs, e, s.seq h, paired_mono R s p⟩⟩
def rT {α : Type} (R : Rp α) : Rp (List α) := ⟨fun H v xs => ∃ a vs, v = .ref a ∧ SqT K H a vs ∧ Paired (R.rel H) vs xs,
  fun s ⟨a, vs, e, h, p⟩ => ⟨a, vs, e, seqT_mono s h, paired_mono R s p⟩⟩
/-- a pair, a triple -/
def rP {α β : Type} (R : Rp α) (S : Rp β) : Rp (α × β) := ⟨fun H v p => ∃ a x y, v = .ref a ∧ SqT K H a [x, y] ∧ R.rel H x p.1 ∧ S.rel H y p.2,
  fun s ⟨a, x, y, e, h, p, q⟩ => ⟨a, x, y, e, seqT_mono s h, R.mono s p, S.mono s q⟩⟩
def rP3 {α β γ : Type} (R : Rp α) (S : Rp β) (T : Rp γ) : Rp (α × β × γ) := ⟨fun H v p => ∃ a x y z, v = .ref a ∧ SqT K H a [x, y, z] ∧ R.rel H x p.1 ∧ S.rel H y p.2.1 ∧ T.rel H z p.2.2,
  fun s ⟨a, x, y, z, e, h, p, q, r⟩ => ⟨a, x, y, z, e, seqT_mono s h, R.mono s p, S.mono s q, T.mono s r⟩⟩
/-- some or None -/
def rO {α : Type} (R : Rp α) : Rp (Option α) := ⟨fun H v o => (match o with | none => v = .non | some d => R.rel H v d), fun {H H' v d} s h => by
  cases d with
  | none => exact h
  | some d => exact R.mono s h⟩
variable {K : PySem.W.Frag}

/-! ### what evaluates to what, over a heap Hm that is known of the whole -/
/-- from what was known (Hm of H) to what is known now (Hm' of H'): what is newly known was known or is new -/
structure Xt (Hm H Hm' H' : Hp) : Prop where
  s : Same Hm Hm'
  i : Same Hm' H'
  k : Same H H'
  f : ∀ p, Hm' p ≠ none → Hm p ≠ none ∨ H p = none
theorem Xt.refl {Hm H : Hp} (h : Same Hm H) : Xt Hm H Hm H := ⟨Same.refl _, h, Same.refl _, fun _ h => .inl h⟩
theorem none_back {H H' : Hp} (k : Same H H') {p : Addr} (h : H' p = none) : H p = none := by
  cases e : H p with
  | none => rfl
  | some o =>
    rw [k p o e] at h
    cases h
theorem Xt.trans {Hm H Hm2 H2 Hm3 H3 : Hp} (a : Xt Hm H Hm2 H2) (b : Xt Hm2 H2 Hm3 H3) : Xt Hm H Hm3 H3 := ⟨a.s.trans b.s, b.i, a.k.trans b.k, fun p h => by
  rcases b.f p h with c | c
  · exact a.f p c
  · exact .inr (none_back a.k c)⟩
/-- a new object, known from now on -/
theorem Xt.new {Hm H : Hp} (h : Same Hm H) {p : Addr} {o : HO} (hp : H p = none) : Xt Hm H (upd Hm p o) (upd H p o) := ⟨fun b u e => by
  rw [upd_ne (ne_of_none (h b u e) hp)]
  exact e, fun b u e => by
  by_cases hb : b = p
  · subst hb
    rw [upd_same] at e ⊢
    exact e
  · rw [upd_ne hb] at e ⊢
    exact h b u e, fun b u e => by
  rw [upd_ne (ne_of_none e hp)]
  exact e, fun b e => by
  by_cases hb : b = p
  · subst hb
    exact .inr hp
  · rw [upd_ne hb] at e
    exact .inl e⟩
/-- both -/
def uni (A B : Hp) : Hp := fun p => match A p with
  | some o => some o
  | none => B p
theorem uni_l {A B : Hp} : Same A (uni A B) := fun p o e => by
  unfold uni
  rw [e]
theorem uni_r {A B H : Hp} (ha : Same A H) (hb : Same B H) : Same B (uni A B) := fun p o e => by
  unfold uni
  cases q : A p with
  | none => exact e
  | some u =>
    have e1 := ha p u q
    rw [hb p o e] at e1
    exact e1.symm ▸ rfl
theorem uni_in {A B H : Hp} (ha : Same A H) (hb : Same B H) : Same (uni A B) H := fun p o e => by
  unfold uni at e
  cases q : A p with
  | none =>
    rw [q] at e
    exact hb p o e
  | some u =>
    rw [q] at e
    exact ha p o (q.trans e)
theorem uni_or {A B : Hp} {p : Addr} (h : uni A B p ≠ none) : A p ≠ none ∨ B p ≠ none := by
  unfold uni at h
  cases q : A p with
  | none =>
    rw [q] at h
    exact .inr h
  | some u => exact .inl (by simp)
theorem Xt.lift {Hm H Hm2 Hm3 H3 : Hp} (a : Same Hm Hm2) (ha : Same Hm2 H) (b : Xt Hm H Hm3 H3) : Xt Hm2 H (uni Hm2 Hm3) H3 := ⟨uni_l, uni_in (ha.trans b.k) b.i, b.k, fun p h => by
  rcases uni_or h with c | c
  · exact .inl c
  · rcases b.f p c with d | d
    · refine .inl fun e => d ?_
      exact none_back a e
    · exact .inr d⟩
def Ev {α : Type} (te : TE) (σ : L2.St) (Hm : Hp) (R : Rp α) (d : α) : Prop := ∀ H1, Same Hm H1 → ∀ Q : VK, (∀ v Hm' H2, Xt Hm H1 Hm' H2 → R.rel Hm' v d → Q v H2) → te σ H1 Q
def Et (tt : TT) (σ : L2.St) (Hm : Hp) (b : Bool) : Prop := ∀ H1, Same Hm H1 → ∀ Q : Bool → Hp → Prop, (∀ Hm' H2, Xt Hm H1 Hm' H2 → Q b H2) → tt σ H1 Q
/-- arguments -/
structure Ar where
  rel : Hp → List V → Prop
  mono : ∀ {H H' : Hp} {vs : List V}, Same H H' → rel H vs → rel H' vs
def a0 : Ar := ⟨fun _ vs => vs = [], fun _ h => h⟩
def a1 {α : Type} (R : Rp α) (d : α) (A : Ar) : Ar := ⟨fun H vs => ∃ v ws, vs = v :: ws ∧ R.rel H v d ∧ A.rel H ws, fun s ⟨v, ws, e, h, k⟩ => ⟨v, ws, e, R.mono s h, A.mono s k⟩⟩
def Ea (ta : TA) (σ : L2.St) (Hm : Hp) (A : Ar) : Prop := ∀ H1, Same Hm H1 → ∀ Q : List V → Hp → Prop, (∀ vs Hm' H2, Xt Hm H1 Hm' H2 → A.rel Hm' vs → Q vs H2) → ta σ H1 Q
section
variable {σ : L2.St} {Hm Hm' : Hp} {α β γ : Type} {R : Rp α} {S : Rp β} {T : Rp γ} {ta tb te tc : TE} {t u : TT} {d : α} {e : β} {z : γ}
theorem Ev.mono {te : TE} (s : Same Hm Hm') (h : Ev te σ Hm R d) : Ev te σ Hm' R d := fun H1 hi Q q => h H1 (s.trans hi) Q fun v H3 H2 x r => q v _ H2 (Xt.lift s hi x) (R.mono (uni_r (hi.trans x.k) x.i) r)
theorem Et.mono {t : TT} {b : Bool} (s : Same Hm Hm') (h : Et t σ Hm b) : Et t σ Hm' b := fun H1 hi Q q => h H1 (s.trans hi) Q fun H3 H2 x => q _ H2 (Xt.lift s hi x)
theorem Ea.mono {ta : TA} {A : Ar} (s : Same Hm Hm') (h : Ea ta σ Hm A) : Ea ta σ Hm' A := fun H1 hi Q q => h H1 (s.trans hi) Q fun vs H3 H2 x r => q vs _ H2 (Xt.lift s hi x) (A.mono (uni_r (hi.trans x.k) x.i) r)
theorem Ev.is {d' : α} (h : Ev te σ Hm R d) (e : d = d') : Ev te σ Hm R d' := e ▸ h
theorem Et.is {b b' : Bool} (h : Et t σ Hm b) (e : b = b') : Et t σ Hm b' := e ▸ h
theorem ev_v {i : Nat} {v : V} (h : σ[i]? = some (some v)) (r : R.rel Hm v d) : Ev (tVar i) σ Hm R d := fun H1 hi _ q => ⟨v, h, q v Hm H1 (Xt.refl hi) r⟩
theorem ev_c {v : V} (r : ∀ H, R.rel H v d) : Ev (tC v) σ Hm R d := fun H1 hi _ q => q v Hm H1 (Xt.refl hi) (r Hm)
theorem ev_i {i : Int} : Ev (tC (.int i)) σ Hm rI i := ev_c fun _ => rfl
theorem ev_b {b : Bool} : Ev (tC (.bl b)) σ Hm rB b := ev_c fun _ => rfl
theorem ev_s {z : Str} : Ev (tC (.str z)) σ Hm rS z.cps.toList := ev_c fun _ => by
  show V.str z = V.str (tx z.cps.toList)
  rw [← tx_of]
theorem ev_n : Ev (tC .non) σ Hm rN () := ev_c fun _ => rfl
theorem ea_nil : Ea tNil σ Hm a0 := fun H1 hi _ q => q [] Hm H1 (Xt.refl hi) rfl
theorem ea_cons {tr : TA} {A : Ar} (h : Ev te σ Hm R d) (hr : Ea tr σ Hm A) : Ea (tCons te tr) σ Hm (a1 R d A) := fun H1 hi _ q =>
  h H1 hi _ fun v K2 H2 x2 r => hr.mono x2.s H2 x2.i _ fun ws K3 H3 x3 k => q (v :: ws) K3 H3 (x2.trans x3) ⟨v, ws, rfl, R.mono x3.s r, k⟩
/-- a two-place operation, a one-place one, a built-in by its values -/
def Rv (r : R2) (R : Rp α) (d : α) (S : Rp β) (e : β) (T : Rp γ) (z : γ) : Prop := ∀ Hm H1, Same Hm H1 → ∀ x y, R.rel Hm x d → S.rel Hm y e → ∀ Q : VK, (∀ v Hm' H2, Xt Hm H1 Hm' H2 → T.rel Hm' v z → Q v H2) → r x y H1 Q
def Rc (r : List V → Hp → VK → Prop) (A : Ar) (T : Rp γ) (z : γ) : Prop := ∀ Hm H1, Same Hm H1 → ∀ vs, A.rel Hm vs → ∀ Q : VK, (∀ v Hm' H2, Xt Hm H1 Hm' H2 → T.rel Hm' v z → Q v H2) → r vs H1 Q
theorem ev_op {r : R2} (ha : Ev ta σ Hm R d) (hb : Ev tb σ Hm S e) (hr : Rv r R d S e T z) : Ev (tOp r ta tb) σ Hm T z := fun H1 hi Q q =>
  ha H1 hi _ fun x K2 H2 x2 rx => hb.mono x2.s H2 x2.i _ fun y K3 H3 x3 ry => hr K3 H3 x3.i x y (R.mono x3.s rx) ry Q fun v K4 H4 x4 rv => q v K4 H4 ((x2.trans x3).trans x4) rv
/-- an operation without anything new -/
theorem rv_now {r : R2} (h : ∀ Hm H1, Same Hm H1 → ∀ x y, R.rel Hm x d → S.rel Hm y e → ∃ v, T.rel Hm v z ∧ ∀ Q : VK, Q v H1 → r x y H1 Q) : Rv r R d S e T z := fun Hm H1 hi x y rx ry Q q => by
  obtain ⟨v, rv, k⟩ := h Hm H1 hi x y rx ry
  exact k Q (q v Hm H1 (Xt.refl hi) rv)
theorem rc_now {r : List V → Hp → VK → Prop} {A : Ar} (h : ∀ Hm H1, Same Hm H1 → ∀ vs, A.rel Hm vs → ∃ v, T.rel Hm v z ∧ ∀ Q : VK, Q v H1 → r vs H1 Q) : Rc r A T z := fun Hm H1 hi vs rx Q q => by
  obtain ⟨v, rv, k⟩ := h Hm H1 hi vs rx
  exact k Q (q v Hm H1 (Xt.refl hi) rv)
theorem ev_cb {r : List V → Hp → VK → Prop} {ta : TA} {A : Ar} (h : Ea ta σ Hm A) (hr : Rc r A T z) : Ev (tCB r ta) σ Hm T z := fun H1 hi Q q =>
  h H1 hi _ fun vs K2 H2 x2 k => hr K2 H2 x2.i vs k Q fun v K3 H3 x3 rv => q v K3 H3 (x2.trans x3) rv
theorem rv_I0 {g : Int → Int → V} {i j : Int} (h : ∀ H, T.rel H (g i j) z) : Rv (L2.rI0 g) rI i rI j T z := rv_now fun Hm H1 _ x y rx ry => ⟨g i j, h Hm, fun Q q => ⟨i, j, rx, ry, q⟩⟩
theorem rv_I {C : Int → Int → Prop} {g : Int → Int → V} {i j : Int} (hc : C i j) (h : ∀ H, T.rel H (g i j) z) : Rv (L2.rI C g) rI i rI j T z := rv_now fun Hm H1 _ x y rx ry => ⟨g i j, h Hm, fun Q q => ⟨i, j, rx, ry, hc, q⟩⟩
theorem rv_i0 {g : Int → Int → Int} {i j : Int} : Rv (L2.rI0 fun i j => .int (g i j)) rI i rI j rI (g i j) := rv_I0 fun _ => rfl
theorem rv_b0 {g : Int → Int → Bool} {i j : Int} : Rv (L2.rI0 fun i j => .bl (g i j)) rI i rI j rB (g i j) := rv_I0 fun _ => rfl
theorem rv_ic {C : Int → Int → Prop} {g : Int → Int → Int} {i j : Int} (hc : C i j) : Rv (L2.rI C fun i j => .int (g i j)) rI i rI j rI (g i j) := rv_I hc fun _ => rfl
theorem rv_eqI {i j : Int} : Rv rEq rI i rI j rB (decide (i = j)) := rv_now fun Hm H1 _ x y rx ry => ⟨.bl (decide (i = j)), rfl, fun Q q => by
  rw [show x = V.int i from rx, show y = V.int j from ry]
  exact ⟨rfl, by rw [show decide (V.int i = V.int j) = decide (i = j) from by simp]; exact q⟩⟩
theorem rv_neI {i j : Int} : Rv rNe rI i rI j rB (!decide (i = j)) := rv_now fun Hm H1 _ x y rx ry => ⟨.bl (!decide (i = j)), rfl, fun Q q => by
  rw [show x = V.int i from rx, show y = V.int j from ry]
  exact ⟨rfl, by rw [show decide (V.int i = V.int j) = decide (i = j) from by simp]; exact q⟩⟩
theorem str_eq (a b : List Nat) : decide (V.str (tx a) = V.str (tx b)) = decide (a = b) := by
  by_cases h : a = b
  · subst h
    simp
  · have h2 : ¬ V.str (tx a) = V.str (tx b) := fun e => h (tx_inj (V.str.inj e))
    rw [decide_eq_false h, decide_eq_false h2]
theorem rv_eqS {a b : List Nat} : Rv rEq rS a rS b rB (decide (a = b)) := rv_now fun Hm H1 _ x y rx ry => ⟨.bl (decide (a = b)), rfl, fun Q q => by
  rw [show x = V.str (tx a) from rx, show y = V.str (tx b) from ry]
  exact ⟨rfl, by rw [str_eq]; exact q⟩⟩
theorem rv_neS {a b : List Nat} : Rv rNe rS a rS b rB (!decide (a = b)) := rv_now fun Hm H1 _ x y rx ry => ⟨.bl (!decide (a = b)), rfl, fun Q q => by
  rw [show x = V.str (tx a) from rx, show y = V.str (tx b) from ry]
  exact ⟨rfl, by rw [str_eq]; exact q⟩⟩
/-! ### calls -/
/-- a def that hands back data and leaves what was known -/
def SpF {ι : Type} (A : ι → Ar) (pre : ι → Prop) (R : ι → Rp β) (m : ι → β) : Sp := fun vs H Q _ => ∃ (x : ι) (Hm : Hp), pre x ∧ (A x).rel Hm vs ∧ Same Hm H ∧ ∀ v Hm' H2, Xt Hm H Hm' H2 → (R x).rel Hm' v (m x) → Q v H2
theorem ev_call {ι : Type} {A : ι → Ar} {pre : ι → Prop} {RR : ι → Rp β} {m : ι → β} {ta : TA} {E : XK} (x : ι) (hp : pre x) (h : Ea ta σ Hm (A x)) : Ev (tCall (SpF A pre RR m) [] E ta) σ Hm (RR x) (m x) := fun H1 hi Q q =>
  h H1 hi _ fun vs K2 H2 x2 k => ⟨x, K2, hp, by rw [List.append_nil]; exact k, x2.i, fun v K3 H3 x3 r => q v K3 H3 (x2.trans x3) r⟩
/-! ### tests -/
theorem et_test {b : Bool} (h : Ev te σ Hm rB b) : Et (tTest te) σ Hm b := fun H1 hi _ q => h H1 hi _ fun v K2 H2 x2 r => ⟨b, r, q K2 H2 x2⟩
theorem et_B {b : Bool} (h : Ev te σ Hm rB b) : Et (tB te) σ Hm b := fun H1 hi _ q => h H1 hi _ fun v K2 H2 x2 r => ⟨b, r, q K2 H2 x2⟩
theorem et_not {b : Bool} (h : Et t σ Hm b) : Et (tNot t) σ Hm (!b) := fun H1 hi _ q => h H1 hi _ fun K2 H2 x2 => q K2 H2 x2
theorem et_and {a b : Bool} (h1 : Et t σ Hm a) (h2 : a = true → Et u σ Hm b) : Et (tAnd t u) σ Hm (a && b) := fun H1 hi Q q => h1 H1 hi _ fun K2 H2 x2 => by
  cases a with
  | true => exact iteT ((h2 rfl).mono x2.s H2 x2.i Q fun K3 H3 x3 => q K3 H3 (x2.trans x3))
  | false => exact iteF (q K2 H2 x2)
theorem et_or {a b : Bool} (h1 : Et t σ Hm a) (h2 : a = false → Et u σ Hm b) : Et (tOr t u) σ Hm (a || b) := fun H1 hi Q q => h1 H1 hi _ fun K2 H2 x2 => by
  cases a with
  | true => exact iteT (q K2 H2 x2)
  | false => exact iteF ((h2 rfl).mono x2.s H2 x2.i Q fun K3 H3 x3 => q K3 H3 (x2.trans x3))
theorem ev_and {a b : Bool} (h1 : Ev ta σ Hm rB a) (h2 : a = true → Ev tb σ Hm rB b) : Ev (tAndV ta tb) σ Hm rB (a && b) := fun H1 hi Q q => h1 H1 hi _ fun v K2 H2 x2 r => ⟨a, r, by
  cases a with
  | true => exact iteT ((h2 rfl).mono x2.s H2 x2.i Q fun w K3 H3 x3 k => q w K3 H3 (x2.trans x3) k)
  | false => exact iteF (q _ K2 H2 x2 rfl)⟩
theorem ev_or {a b : Bool} (h1 : Ev ta σ Hm rB a) (h2 : a = false → Ev tb σ Hm rB b) : Ev (tOrV ta tb) σ Hm rB (a || b) := fun H1 hi Q q => h1 H1 hi _ fun v K2 H2 x2 r => ⟨a, r, by
  cases a with
  | true => exact iteT (q _ K2 H2 x2 rfl)
  | false => exact iteF ((h2 rfl).mono x2.s H2 x2.i Q fun w K3 H3 x3 k => q w K3 H3 (x2.trans x3) k)⟩
theorem ev_not {a : Bool} (h : Ev ta σ Hm rB a) : Ev (tNotV ta) σ Hm rB (!a) := fun H1 hi Q q => h H1 hi _ fun v K2 H2 x2 r => ⟨a, r, q _ K2 H2 x2 rfl⟩
/-! ### statements -/
variable {D : Ends} {t1 t2 tz : TS} {H : Hp}
theorem s_ret (h : Ev te σ Hm R d) (hi : Same Hm H) (k : ∀ v K1 H1, Xt Hm H K1 H1 → R.rel K1 v d → D.rt v H1) : tRet te D σ H := h H hi _ k
theorem s_set {i : Nat} (h : Ev te σ Hm R d) (hi : Same Hm H) (k : ∀ v K1 H1, Xt Hm H K1 H1 → R.rel K1 v d → D.nx (σ.set i (some v)) H1) : tAsg te (gName i) D σ H := h H hi _ k
theorem q_set {i : Nat} (h : Ev te σ Hm R d) (hi : Same Hm H) (k : ∀ v K1 H1, Xt Hm H K1 H1 → R.rel K1 v d → tz D (σ.set i (some v)) H1) : tSeq (tAsg te (gName i)) tz D σ H := s_set (D := { D with nx := tz D }) h hi k
theorem s_if {b : Bool} (h : Et t σ Hm b) (hi : Same Hm H) (h1 : b = true → ∀ K1 H1, Xt Hm H K1 H1 → t1 D σ H1) (h2 : b = false → ∀ K1 H1, Xt Hm H K1 H1 → t2 D σ H1) : tIfS t t1 t2 D σ H := h H hi _ fun K1 H1 x => by
  cases b with
  | true => exact iteT (h1 rfl K1 H1 x)
  | false => exact iteF (h2 rfl K1 H1 x)
theorem q_if {b : Bool} (h : Et t σ Hm b) (hi : Same Hm H) (h1 : b = true → ∀ K1 H1, Xt Hm H K1 H1 → t1 { D with nx := tz D } σ H1) (h2 : b = false → ∀ K1 H1, Xt Hm H K1 H1 → t2 { D with nx := tz D } σ H1) : tSeq (tIfS t t1 t2) tz D σ H := s_if (D := { D with nx := tz D }) h hi h1 h2
/-- if without else -/
theorem q_when {b : Bool} (h : Et t σ Hm b) (hi : Same Hm H) (h1 : b = true → ∀ K1 H1, Xt Hm H K1 H1 → t1 { D with nx := tz D } σ H1) (h2 : b = false → ∀ K1 H1, Xt Hm H K1 H1 → tz D σ H1) : tSeq (tIfS t t1 tNext) tz D σ H := s_if (D := { D with nx := tz D }) h hi h1 h2
end
end NJ

set_option Elab.async false
set_option linter.all false
set_option maxRecDepth 100000
set_option maxHeartbeats 2000000
/-! Further facts of the head; exceptions whose making asks nothing. -/
namespace NJ
open PySem PySem.Spec PyProof.Rows L2
/-! ### a Hook that reads further tests too -/
def obX (n : Nat) (fa : List He.Fa) (fn : List He.DefD) (xs : List (PySem.W.Frag → Bool)) (g : Addr → Option Obj) : Bool × He.AlD :=
  (xs.all fun f => f (He.frG g (He.asD g n)), He.obsDG n fa fn g)
structure SaysX (fa : List He.Fa) (fn : List He.DefD) (xs : List (PySem.W.Frag → Bool)) (K : PySem.W.Frag) : Prop where
  d : He.SaysD fa fn K
  x : (xs.all fun f => f K) = true
def hookX (n : Nat) (fa : List He.Fa) (fn : List He.DefD) (xs : List (PySem.W.Frag → Bool)) : PySem.W.Hook where
  α := Bool × He.AlD
  obs := fun s => obX n fa fn xs s.heap.get?
  val := fun _ => (true, He.valD fn)
  says := fun _ h => ∃ K : PySem.W.Frag, K.In h ∧ SaysX fa fn xs K
  of := fun _ s e => ⟨He.frG s.heap.get? (He.asD s.heap.get? n), He.frG_in, congrArg Prod.snd e, congrArg Prod.fst e⟩
  keeps := fun _ _ _ ⟨K, hK, c⟩ k => ⟨K, PySem.W.Frag.In.keeps hK k, c⟩
theorem obX_eq {n : Nat} {fa : List He.Fa} {fn : List He.DefD} {xs : List (PySem.W.Frag → Bool)} {g : Addr → Option Obj} {s : Shared} (h : ∀ a, g a = s.heap.get? a) : obX n fa fn xs g = (hookX n fa fn xs).obs s := by
  have e : g = s.heap.get? := funext h
  rw [e] <;> rfl
theorem SaysX.at {fa : List He.Fa} {fn : List He.DefD} {xs : List (PySem.W.Frag → Bool)} {K : PySem.W.Frag} (c : SaysX fa fn xs K) (i : Nat) {f : PySem.W.Frag → Bool} (h : xs[i]? = some f := by rfl) : f K = true :=
  List.all_eq_true.mp c.x f (List.mem_of_getElem? h)
/-! ### an own exception class over ValueError -/
def newB (sl : List (Option Value)) : Bool := match sl with
  | [_, _, _, _, some (.builtin n), _] => decide (n = "ValueError.__new__")
  | _ => false
def mroB (C : Addr) (l : List Value) : Bool := match l with
  | .ref D :: bm => decide (D = C) && PySem.HandSPX.refsVE bm
  | _ => false
def clsB (K : PySem.W.Frag) (C : Addr) : Bool := match K.lookup C with
  | some ⟨.type c, _, .cls cd, sl⟩ => decide (c = "type") && (mroB C cd.mro && (cd.hasDict && (!cd.hasDel && newB sl.toList)))
  | _ => false
def oexB (x : Str) (K : PySem.W.Frag) : Bool := clsB K (He.ga K x) && (He.eqO (PySem.W.findIn K (.ref (He.ga K x)) "__setattr__") (some (some (.builtin "object.__setattr__"))) && (decide (PySem.W.subIn K (.ref (He.ga K x)) (.type "BaseException") = some true) &&
  (decide (PySem.W.typeIn K (.ref (He.ga K x)) = some (.type "type")) && PySem.W.keepIn K (.ref (He.ga K x)))))
theorem newB_ok {sl : Array (Option Value)} (h : newB sl.toList = true) : ∃ k0 k1 k2 k3 k5, sl = #[k0, k1, k2, k3, some (.builtin "ValueError.__new__"), k5] := by
  obtain ⟨l⟩ := sl
  have h2 : newB l = true := h
  unfold newB at h2
  split at h2
  · rename_i k0 k1 k2 k3 n k5
    have e := of_decide_eq_true h2
    subst e
    exact ⟨k0, k1, k2, k3, k5, rfl⟩
  · cases h2
theorem clsB_ok {K : PySem.W.Frag} {C : Addr} (h : clsB K C = true) : ∃ nm q N bs bm sn sub ab col dd k0 k1 k2 k3 k5, K.lookup C = some (excClassObj nm q C N bs bm true sn sub ab col dd k0 k1 k2 k3 k5 "ValueError.__new__") ∧ PySem.HandSPX.refsVE bm = true := by
  unfold clsB at h
  split at h
  · rename_i c dd cd sl e
    obtain ⟨h1, h⟩ := He.ba h
    obtain ⟨h2, h⟩ := He.ba h
    obtain ⟨h3, h⟩ := He.ba h
    obtain ⟨h4, h5⟩ := He.ba h
    have ec := of_decide_eq_true h1
    subst ec
    obtain ⟨k0, k1, k2, k3, k5, es⟩ := newB_ok h5
    subst es
    unfold mroB at h2
    split at h2
    · rename_i D bm em
      obtain ⟨g1, g2⟩ := He.ba h2
      have eD := of_decide_eq_true g1
      subst eD
      obtain ⟨nm, bs, mro, ns, qn, hd, sn, sb, ab, col, del⟩ := cd
      dsimp only at em h3 h4
      subst em
      subst h3
      have hd2 : del = false := by
        cases del
        · rfl
        · cases h4
      subst hd2
      exact ⟨nm, qn, ns, bs, bm, sn, sb, ab, col, dd, k0, k1, k2, k3, k5, e, g2⟩
    · cases h2
  · cases h
theorem oexB_ok {x : Str} {K : PySem.W.Frag} (h : oexB x K = true) : OexC K (He.ga K x) := by
  obtain ⟨h1, h⟩ := He.ba h
  obtain ⟨h2, h⟩ := He.ba h
  obtain ⟨h3, h⟩ := He.ba h
  obtain ⟨h4, h5⟩ := He.ba h
  exact ⟨clsB_ok h1, He.eqO_ok h2, of_decide_eq_true h3, of_decide_eq_true h4, h5⟩
/-- its __init__ is the def at the class y's method -/
def inheritB (x y : Str) (K : PySem.W.Frag) : Bool := He.eqO (PySem.W.findIn K (.ref (He.ga K x)) "__init__") (some (some (.ref (He.ma K (He.ga K y) "__init__")))) && decide (PySem.W.typeIn K (.ref (He.ma K (He.ga K y) "__init__")) = some (.type "function"))
theorem inheritB_ok {x y : Str} {K : PySem.W.Frag} (h : inheritB x y K = true) : PySem.W.findIn K (.ref (He.ga K x)) "__init__" = some (some (.ref (He.ma K (He.ga K y) "__init__"))) ∧ PySem.W.typeIn K (.ref (He.ma K (He.ga K y) "__init__")) = some (.type "function") := by
  obtain ⟨h1, h2⟩ := He.ba h
  exact ⟨He.eqO_ok h1, of_decide_eq_true h2⟩
/-- instances of the class x are known by isinstance -/
def insB (x : Str) (K : PySem.W.Frag) : Bool := He.eqO (PySem.W.findIn K (.ref (He.ga K x)) "__class__") (some (some (.builtin "object.__class__"))) && (He.eqO (PySem.W.specialIn K (.builtin "object.__class__") "__get__") (some (some (.builtin "getset_descriptor.__get__"))) &&
  (decide (PySem.W.takesIn K (.builtin "object.__class__") = some true) && decide (PySem.W.mroIn K (He.ga K x) (.type "object") = some true)))
structure InsK (K : PySem.W.Frag) (C : Addr) : Prop where
  cl : Cls K C
  ha : PySem.W.findIn K (.ref C) "__class__" = some (some (.builtin "object.__class__"))
  hn : PySem.W.specialIn K (.builtin "object.__class__") "__get__" = some (some (.builtin "getset_descriptor.__get__"))
  ht : PySem.W.takesIn K (.builtin "object.__class__") = some true
  hm : PySem.W.mroIn K C (.type "object") = some true
theorem insB_ok {x : Str} {K : PySem.W.Frag} (h : insB x K = true) (c : Cls K (He.ga K x)) : InsK K (He.ga K x) := by
  obtain ⟨h1, h⟩ := He.ba h
  obtain ⟨h2, h⟩ := He.ba h
  obtain ⟨h3, h4⟩ := He.ba h
  exact ⟨c, He.eqO_ok h1, He.eqO_ok h2, of_decide_eq_true h3, of_decide_eq_true h4⟩
theorem InsK.ty {K : PySem.W.Frag} {C : Addr} (k : InsK K C) {H : Hp} {a dx : Addr} {fs : List (Str × V)} (e : H a = some (.ins C dx fs)) : TyX K H (.ref a) (.ref C) := .base (.ins e k.cl k.ha k.hn k.ht k.hm)
/-- what isinstance answers of an own class's instance and a class -/
def kitB2 (x : Str) (c : String) (b : Bool) (K : PySem.W.Frag) : Bool := decide (PySem.W.kitOne K (.ref (He.ga K x)) (.type c) = some b)
/-! ### an exception whose __init__ does nothing -/
section
variable {X : Cx}
end
end NJ

set_option Elab.async false
set_option linter.all false
set_option maxRecDepth 100000
set_option maxHeartbeats 2000000
/-! Callable defs; walks, comprehensions and loops as evaluations. -/
namespace NJ
open PySem PySem.Spec PyProof.Rows L2
structure Fk (P : Program) (w : World) (K : PySem.W.Frag) (mg : Str → Option Value) (base : Heap) (CX : CXT) (k : Nat) (f : Addr) (ps : List Str) (sp : Sp) : Prop where
  ex : ∃ fd, FnOk P w K mg base CX k f fd ps sp ∧ L2.Binds K fd ps []
  kp : PySem.W.keepIn K (.ref f) = true
section
variable {X : Cx} {CX : CXT} {k : Nat} {f : Addr} {ps : List Str} {sp : Sp} {E : XK} {x : Str} {p pos : Pos} {e : Expr} {es : List Expr} {t : TA}
theorem pe_fk (F : Fk X.prog X.w X.K X.mg X.base CX k f ps sp) (hr : Room k X.A) (hm : X.mg x = some (.ref f)) (hx : Passes CX X E) (ha : PA X (e :: es) t) (hg : Gl X x := by rfl)
    (hdb : (x == ("__debug__" : Str)) = false := by decide) (he : starEach (e :: es) X.env = (false, eval e X.env) :: starEach es X.env := by rfl) (hpl : (backTo pos (starEach es X.env)).any (·.1) = false := by rfl) :
    PE X (.Call (.Name x p) (e :: es) [] pos) (tCall sp [] E t) := by
  obtain ⟨fd, G, b⟩ := F.ex
  exact pe_call G hr hg hm F.kp b .nil hx ha hdb he hpl
end
theorem none_of {Hm H Hm' H' : Hp} (x : Xt Hm H Hm' H') {p : Addr} (h : Hm p = none) {o : HO} (h2 : H p = some o) : Hm' p = none := by
  cases e : Hm' p with
  | none => rfl
  | some u =>
    rcases x.f p (by rw [e]; simp) with c | c
    · exact absurd h c
    · rw [h2] at c
      cases c
/-- an object that is not among the known ones may change -/
theorem same_mut {Hm H : Hp} (h : Same Hm H) {p : Addr} (hp : Hm p = none) {o : HO} : Same Hm (upd H p o) := fun b u e => by
  rw [upd_ne (ne_of_none e hp)]
  exact h b u e
section
variable {σ : L2.St} {Hm : Hp} {K : PySem.W.Frag} {α β : Type} {R : Rp α} {S : Rp β} {ta tb te tc tl : TE} {t u tt : TT} {d : α}
theorem paired_get {α β : Type} {F : α → β → Prop} : ∀ {l : List α} {m : List β}, Paired F l m → ∀ {i : Nat} {x : α}, l[i]? = some x → ∃ y, m[i]? = some y ∧ F x y
  | _, _, .nil, i, x, h => by simp at h
  | _, _, .cons (a := a) (b := b) r rs, 0, x, h => by
    have e : a = x := by simpa using h
    exact ⟨b, by simp, e ▸ r⟩
  | _, _, .cons r rs, i + 1, x, h => by
    obtain ⟨y, h1, h2⟩ := paired_get rs (i := i) (x := x) (by simpa using h)
    exact ⟨y, by simpa using h1, h2⟩
theorem paired_get' {α β : Type} {F : α → β → Prop} : ∀ {l : List α} {m : List β}, Paired F l m → ∀ {i : Nat} {y : β}, m[i]? = some y → ∃ x, l[i]? = some x ∧ F x y
  | _, _, .nil, i, x, h => by simp at h
  | _, _, .cons (a := a) (b := b) r rs, 0, x, h => by
    have e : b = x := by simpa using h
    exact ⟨a, by simp, e ▸ r⟩
  | _, _, .cons r rs, i + 1, x, h => by
    obtain ⟨y, h1, h2⟩ := paired_get' rs (i := i) (y := x) (by simpa using h)
    exact ⟨y, by simpa using h1, h2⟩
theorem paired_len {α β : Type} {F : α → β → Prop} : ∀ {l : List α} {m : List β}, Paired F l m → l.length = m.length
  | _, _, .nil => rfl
  | _, _, .cons _ rs => by simp [paired_len rs]
theorem paired_app {α β : Type} {F : α → β → Prop} : ∀ {l l' : List α} {m m' : List β}, Paired F l m → Paired F l' m' → Paired F (l ++ l') (m ++ m')
  | _, _, _, _, .nil, h => h
  | _, _, _, _, .cons a b, h => .cons a (paired_app b h)
/-! ### walks -/
/-- what a walk gives: the items xs, one by one -/
def Wi (J : It) (K2 : Hp) (R : Rp α) (xs : List α) : Prop := ∀ i H3, Same K2 H3 → (i < xs.length → J.go i H3) ∧ (xs.length ≤ i → J.stop i H3) ∧ (i < xs.length → ∀ v H4, J.yld i H3 v H4 → ∃ d K4, xs[i]? = some d ∧ Xt K2 H3 K4 H4 ∧ R.rel K4 v d)
def Wk (wi : TI) (σ : L2.St) (Hm : Hp) (R : Rp α) (xs : List α) : Prop := ∀ H1, Same Hm H1 → ∀ Rk : It → Hp → Prop, (∀ (J : It) K2 H2, Xt Hm H1 K2 H2 → Wi J K2 R xs → Rk J H2) → wi σ H1 Rk
theorem wk_list {xs : List α} (h : Ev tl σ Hm (rL K R) xs) : Wk (iList K tl) σ Hm R xs := fun H1 hi Rk q => h H1 hi _ fun v K2 H2 x2 ⟨a, vs, ev, hS, hP⟩ => ⟨a, ev, ⟨vs, x2.i.seq hS⟩, q _ K2 H2 x2 fun i H3 s3 => by
  have hS3 : SqL K H3 a vs := s3.seq hS
  have hl := paired_len hP
  refine ⟨fun hi => ?_, fun hi => ?_, fun hi v H4 hy => ?_⟩
  · obtain ⟨z, hz⟩ : ∃ z, vs[i]? = some z := ⟨_, List.getElem?_eq_getElem (by omega)⟩
    exact ⟨vs, z, hS3, hz⟩
  · exact ⟨vs, hS3, by omega⟩
  · obtain ⟨rfl, fv⟩ := hy
    obtain ⟨d, e1, e2⟩ := paired_get hP (fv vs hS3)
    exact ⟨d, K2, e1, Xt.refl s3, e2⟩⟩
theorem wk_tup {xs : List α} (h : Ev tl σ Hm (rT K R) xs) : Wk (iTup K tl) σ Hm R xs := fun H1 hi Rk q => h H1 hi _ fun v K2 H2 x2 ⟨a, vs, ev, hS, hP⟩ => ⟨a, ev, ⟨vs, seqT_mono x2.i hS⟩, q _ K2 H2 x2 fun i H3 s3 => by
  have hS3 : SqT K H3 a vs := seqT_mono s3 hS
  have hl := paired_len hP
  refine ⟨fun hi => ?_, fun hi => ?_, fun hi v H4 hy => ?_⟩
  · obtain ⟨z, hz⟩ : ∃ z, vs[i]? = some z := ⟨_, List.getElem?_eq_getElem (by omega)⟩
    exact ⟨vs, z, hS3, hz⟩
  · exact ⟨vs, hS3, by omega⟩
  · obtain ⟨rfl, fv⟩ := hy
    obtain ⟨d, e1, e2⟩ := paired_get hP (fv vs hS3)
    exact ⟨d, K2, e1, Xt.refl s3, e2⟩⟩
/-- the signs of a text -/
def rC : Rp Nat := ⟨fun _ v c => v = .str (tx [c]), fun _ h => h⟩
theorem wk_str {xs : List Nat} (h : Ev tl σ Hm rS xs) : Wk (iStr tl) σ Hm rC xs := fun H1 hi Rk q => h H1 hi _ fun v K2 H2 x2 ev => ⟨tx xs, ev, q _ K2 H2 x2 fun i H3 s3 => by
  have hz : (tx xs).cps.size = xs.length := by simp [tx]
  refine ⟨fun hi => ?_, fun hi => ?_, fun hi v H4 hy => ?_⟩
  · show i < (tx xs).cps.size
    omega
  · show (tx xs).cps.size ≤ i
    omega
  · obtain ⟨rfl, c, e1, e2⟩ := hy
    exact ⟨c, K2, by simpa [tx] using e1, Xt.refl s3, e2⟩⟩
def nums (n : Nat) : List Int := (List.range n).map fun (i : Nat) => (i : Int)
theorem nums_len (n : Nat) : (nums n).length = n := by simp [nums]
theorem nums_get {n i : Nat} (h : i < n) : (nums n)[i]? = some (i : Int) := by simp [nums, h]
theorem wk_rng {n : Int} {ta : TA} (h : Ea ta σ Hm (a1 rI n a0)) (h0 : n < 2 ^ 62) (h1 : -(2 ^ 62) ≤ n) : Wk (iRng1 ta) σ Hm rI (nums n.toNat) := fun H1 hi Rk q => h H1 hi _ fun vs K2 H2 x2 ⟨v, ws, e1, e2, e3⟩ => ⟨n, by rw [e1, show v = V.int n from e2, show ws = [] from e3], h1, h0, q _ K2 H2 x2 fun i H3 s3 => by
  have hl := nums_len n.toNat
  refine ⟨fun hi => ?_, fun hi => ?_, fun hi v H4 hy => ?_⟩
  · show i < n.toNat
    omega
  · show n.toNat ≤ i
    omega
  · obtain ⟨rfl, rfl⟩ := hy
    exact ⟨(i : Int), K2, nums_get (by omega), Xt.refl s3, by show V.int (0 + (i : Int)) = V.int (i : Int); rw [Int.zero_add]⟩⟩
/-! ### comprehensions -/
/-- the target takes the item v, leaving the slots σ2 -/
def Tk (g : TG) (σ : L2.St) (Hk : Hp) (v : V) (σ2 : L2.St) : Prop := ∀ H3, Same Hk H3 → ∀ Q : L2.St → Hp → Prop, Q σ2 H3 → g v σ H3 Q
theorem tk_name {j : Nat} {v : V} {Hk : Hp} : Tk (gName j) σ Hk v (σ.set j (some v)) := fun _ _ _ q => q
theorem filter_yes {xs : List α} {f : α → Bool} {i : Nat} {d : α} (h : xs[i]? = some d) (hf : f d = true) : (xs.take (i + 1)).filter f = (xs.take i).filter f ++ [d] := by
  rw [List.take_add_one, h, List.filter_append]
  simp [hf]
theorem filter_no {xs : List α} {f : α → Bool} {i : Nat} {d : α} (h : xs[i]? = some d) (hf : f d = false) : (xs.take (i + 1)).filter f = (xs.take i).filter f := by
  rw [List.take_add_one, h, List.filter_append]
  simp [hf]
structure Ci (K2 H2 : Hp) (D : Addr) (S : Rp β) (ys : List β) (Ki : Hp) (vs : List V) (H' : Hp) : Prop where
  s : Same K2 Ki
  i : Same Ki H'
  k : Same H2 H'
  f : ∀ p, Ki p ≠ none → K2 p ≠ none ∨ H2 p = none
  n : Ki D = none
  at_ : H' D = some (.lst vs)
  r : Paired (S.rel Ki) vs ys
theorem ev_lc {wi : TI} {g : TG} {vs : List Nat} {xs : List α} (f : α → Bool) (m : α → β) (hw : Wk wi σ Hm R xs) (hn : xs.length ≤ 16000000)
    (hb : ∀ d, d ∈ xs → ∀ v K3, Same Hm K3 → R.rel K3 v d → ∃ σ2, Tk g (wipe σ vs) K3 v σ2 ∧ wipe σ2 vs = wipe σ vs ∧ Et tt σ2 K3 (f d) ∧ (f d = true → Ev te σ2 K3 S (m d))) :
    Ev (tLc wi g tt te vs) σ Hm (rL K S) ((xs.filter f).map m) := fun H1 hi Q q => hw H1 hi _ fun J K2 H2 x2 hJ D hD => by
  have hKD : K2 D = none := none_back x2.i hD
  refine ⟨fun i mm H' => i + mm = xs.length ∧ ∃ Ki us, Ci K2 H2 D S (((xs.take i).filter f).map m) Ki us H', ⟨xs.length, by omega, K2, [], Same.refl _, same_mut x2.i hKD, same_mut (Same.refl _) hD, fun _ h => .inl h, hKD, upd_same, .nil⟩, ?_⟩
  rintro i mm H' ⟨em, Ki, us, c⟩
  obtain ⟨go, stop, yld⟩ := hJ i H' (c.s.trans c.i)
  have hul : us.length ≤ i := by
    rw [paired_len c.r, List.length_map]
    refine Nat.le_trans (List.length_filter_le _ _) ?_
    rw [List.length_take]
    exact Nat.min_le_left _ _
  by_cases hlt : i < xs.length
  · refine .inr ⟨go hlt, fun H'' => ∃ Ki us, Ci K2 H2 D S (((xs.take (i + 1)).filter f).map m) Ki us H'', fun H'' ⟨Ki2, us2, c2⟩ => ⟨mm - 1, by omega, by omega, Ki2, us2, c2⟩, fun v H4 hy => ?_⟩
    obtain ⟨d, K4, ed, x4, rv⟩ := yld hlt v H4 hy
    have x5 : Xt Ki H' (uni Ki K4) H4 := Xt.lift c.s c.i x4
    obtain ⟨σ2, htk, hwp, het, hev⟩ := hb d (List.mem_of_getElem? ed) v (uni Ki K4) ((x2.s.trans c.s).trans x5.s) (R.mono (uni_r (c.i.trans x4.k) x4.i) rv)
    refine htk H4 x5.i _ ⟨hwp, het H4 x5.i _ fun K6 H6 x6 => ?_⟩
    have y6 := x5.trans x6
    cases hf : f d with
    | true =>
      refine iteT ((hev hf).mono x6.s H6 x6.i _ fun y K7 H7 x7 ry => ?_)
      have y7 := y6.trans x7
      have hK7 : K7 D = none := none_of y7 c.n c.at_
      refine ⟨us, y7.k D _ c.at_, Nat.lt_of_le_of_lt hul (Nat.lt_of_lt_of_le hlt (Nat.le_trans hn (by rw [sizeLine_eq]; decide))), K7, us ++ [y], c.s.trans y7.s, same_mut y7.i hK7, fun b o e => ?_, fun p h => ?_, hK7, upd_same, ?_⟩
      · rw [upd_ne (ne_of_none e hD)]
        exact y7.k b o (c.k b o e)
      · rcases y7.f p h with z | z
        · exact c.f p z
        · exact .inr (none_back c.k z)
      · rw [filter_yes ed hf, List.map_append]
        exact paired_app (paired_mono S y7.s c.r) (.cons ry .nil)
    | false =>
      refine iteF ⟨K6, us, c.s.trans y6.s, y6.i, c.k.trans y6.k, fun p h => ?_, none_of y6 c.n c.at_, y6.k D _ c.at_, ?_⟩
      · rcases y6.f p h with z | z
        · exact c.f p z
        · exact .inr (none_back c.k z)
      · rw [filter_no ed hf]
        exact paired_mono S y6.s c.r
  · refine .inl ⟨stop (by omega), q (.ref D) (upd Ki D (.lst us)) H' (x2.trans ⟨fun b o e => ?_, fun b o e => ?_, c.k, fun p h => ?_⟩) ⟨D, us, rfl, .inl (.inl upd_same), ?_⟩⟩
    · rw [upd_ne (ne_of_none (c.s b o e) c.n)]
      exact c.s b o e
    · by_cases hb : b = D
      · subst hb
        rw [upd_same] at e
        rw [← e]
        exact c.at_
      · rw [upd_ne hb] at e
        exact c.i b o e
    · by_cases hb : p = D
      · subst hb
        exact .inr hD
      · rw [upd_ne hb] at h
        exact c.f p h
    · have hr := c.r
      rw [List.take_of_length_le (by omega)] at hr
      exact paired_mono S (fun b o e => by
        rw [upd_ne (ne_of_none e c.n)]
        exact e) hr
/-- without a test -/
theorem ev_lc0 {wi : TI} {g : TG} {vs : List Nat} {xs : List α} (m : α → β) (hw : Wk wi σ Hm R xs) (hn : xs.length ≤ 16000000)
    (hb : ∀ d, d ∈ xs → ∀ v K3, Same Hm K3 → R.rel K3 v d → ∃ σ2, Tk g (wipe σ vs) K3 v σ2 ∧ wipe σ2 vs = wipe σ vs ∧ Ev te σ2 K3 S (m d)) :
    Ev (tLc wi g tYes te vs) σ Hm (rL K S) (xs.map m) := by
  have h := ev_lc (K := K) (tt := tYes) (fun _ => true) m hw hn fun d hd v K3 s r => by
    obtain ⟨σ2, h1, h2, h3⟩ := hb d hd v K3 s r
    exact ⟨σ2, h1, h2, fun H1 hi Q q => q K3 H1 (Xt.refl hi), fun _ => h3⟩
  rw [List.filter_eq_self.mpr (fun _ _ => rfl)] at h
  exact h
/-! ### displays -/
theorem xt_ref {Hm H1 K2 H2 : Hp} (x : Xt Hm H1 K2 H2) {p : Addr} {o : HO} (hp : H2 p = none) : Xt Hm H1 (upd K2 p o) (upd H2 p o) := x.trans (Xt.new x.i hp)
/-- a list, a tuple of items alike -/
def aL (R : Rp α) : List α → Ar
  | [] => a0
  | d :: ds => a1 R d (aL R ds)
theorem aL_rel {R : Rp α} : ∀ {ds : List α} {H : Hp} {vs : List V}, (aL R ds).rel H vs → Paired (R.rel H) vs ds
  | [], H, vs, h => by
    have e : vs = [] := h
    rw [e]
    exact .nil
  | d :: ds, H, vs, h => by
    obtain ⟨v, ws, e, r, k⟩ := h
    rw [e]
    exact .cons r (aL_rel k)
theorem ev_lst {t : TA} {ds : List α} (h : Ea t σ Hm (aL R ds)) (hn : ds.length ≤ 16000000) : Ev (tLst t) σ Hm (rL K R) ds := fun H1 hi Q q => h H1 hi _ fun vs K2 H2 x2 r => by
  have hp := aL_rel r
  have hl := paired_len hp
  refine ⟨by rw [sizeLine_eq]; omega, fun p np => q (.ref p) _ _ (xt_ref x2 np) ⟨p, vs, rfl, .inl (.inl upd_same), paired_mono R (Xt.new x2.i np).s hp⟩⟩
theorem ev_tup {t : TA} {ds : List α} (h : Ea t σ Hm (aL R ds)) (hn : ds.length ≤ 16000000) : Ev (tTup t) σ Hm (rT K R) ds := fun H1 hi Q q => h H1 hi _ fun vs K2 H2 x2 r => by
  have hp := aL_rel r
  have hl := paired_len hp
  refine ⟨by rw [sizeLine_eq]; omega, fun p np => q (.ref p) _ _ (xt_ref x2 np) ⟨p, vs, rfl, .inl (.inl upd_same), paired_mono R (Xt.new x2.i np).s hp⟩⟩
theorem ev_pair {t : TA} {e : β} (h : Ea t σ Hm (a1 R d (a1 S e a0))) : Ev (tTup t) σ Hm (rP K R S) (d, e) := fun H1 hi Q q => h H1 hi _ fun vs K2 H2 x2 ⟨v, ws, e1, r1, v2, ws2, e2, r2, e3⟩ => by
  have e4 : vs = [v, v2] := by
    rw [e1, e2, show ws2 = [] from e3]
  subst e4
  exact ⟨by show 2 ≤ sizeLine; rw [sizeLine_eq]; decide, fun p np => q (.ref p) _ _ (xt_ref x2 np) ⟨p, v, v2, rfl, .inl (.inl upd_same), R.mono (Xt.new x2.i np).s r1, S.mono (Xt.new x2.i np).s r2⟩⟩
theorem ev_trip {γ : Type} {T : Rp γ} {t : TA} {e : β} {z : γ} (h : Ea t σ Hm (a1 R d (a1 S e (a1 T z a0)))) : Ev (tTup t) σ Hm (rP3 K R S T) (d, e, z) := fun H1 hi Q q => h H1 hi _ fun vs K2 H2 x2 ⟨v, ws, e1, r1, v2, ws2, e2, r2, v3, ws3, e3, r3, e4⟩ => by
  have e5 : vs = [v, v2, v3] := by
    rw [e1, e2, e3, show ws3 = [] from e4]
  subst e5
  exact ⟨by show 3 ≤ sizeLine; rw [sizeLine_eq]; decide, fun p np => q (.ref p) _ _ (xt_ref x2 np) ⟨p, v, v2, v3, rfl, .inl (.inl upd_same), R.mono (Xt.new x2.i np).s r1, S.mono (Xt.new x2.i np).s r2, T.mono (Xt.new x2.i np).s r3⟩⟩
/-! ### built-ins -/
theorem bls : ∀ {H : Hp} {vs : List V} {bs : List Bool}, Paired (rB.rel H) vs bs → vs = bs.map V.bl
  | _, _, _, .nil => rfl
  | H, _, _, .cons r rs => by
    rw [show _ = V.bl _ from r, bls rs] <;> rfl
theorem vints : ∀ {H : Hp} {vs : List V} {ns : List Int}, Paired (rI.rel H) vs ns → vs = ns.map V.int
  | _, _, _, .nil => rfl
  | H, _, _, .cons r rs => by
    rw [show _ = V.int _ from r, vints rs] <;> rfl
theorem vstrs : ∀ {H : Hp} {vs : List V} {ns : List (List Nat)}, Paired (rS.rel H) vs ns → vs = (ns.map tx).map V.str
  | _, _, _, .nil => rfl
  | H, _, _, .cons r rs => by
    rw [show _ = V.str _ from r, vstrs rs] <;> rfl
theorem rc_all {bs : List Bool} : Rc (rAll K) (a1 (rL K rB) bs a0) rB (bs.all id) := rc_now fun Hm H1 hi vs ⟨v, ws, e1, ⟨a, us, e2, hS, hP⟩, e3⟩ => ⟨.bl (bs.all id), rfl, fun Q q => ⟨a, bs, by rw [e1, e2, show ws = [] from e3], by rw [← bls hP]; exact hi.seq hS, q⟩⟩
theorem rc_any {bs : List Bool} : Rc (rAny K) (a1 (rL K rB) bs a0) rB (bs.any id) := rc_now fun Hm H1 hi vs ⟨v, ws, e1, ⟨a, us, e2, hS, hP⟩, e3⟩ => ⟨.bl (bs.any id), rfl, fun Q q => ⟨a, bs, by rw [e1, e2, show ws = [] from e3], by rw [← bls hP]; exact hi.seq hS, q⟩⟩
/-- len -/
abbrev rLen (K : PySem.W.Frag) : List V → Hp → VK → Prop := fun xs H Q => ∃ x n, xs = [x] ∧ LenV K x H n ∧ Q (.int n) H
theorem rc_lenS {l : List Nat} (h : l.length ≤ 16000000) : Rc (rLen K) (a1 rS l a0) rI (l.length : Int) := rc_now fun Hm H1 hi vs ⟨v, ws, e1, e2, e3⟩ => ⟨.int l.length, rfl, fun Q q => ⟨v, l.length, by rw [e1, show ws = [] from e3], by
  rw [show v = V.str (tx l) from e2]
  exact ⟨by rw [tx_len, sizeLine_eq]; omega, (tx_len l).symm⟩, q⟩⟩
theorem rc_lenL {xs : List α} : Rc (rLen K) (a1 (rL K R) xs a0) rI (xs.length : Int) := rc_now fun Hm H1 hi vs ⟨v, ws, e1, ⟨a, us, e2, hS, hP⟩, e3⟩ => ⟨.int xs.length, rfl, fun Q q => ⟨v, xs.length, by rw [e1, show ws = [] from e3], by
  rw [e2]
  exact .inl ⟨us, hi.seq hS, (paired_len hP).symm⟩, q⟩⟩
theorem rc_lenT {xs : List α} : Rc (rLen K) (a1 (rT K R) xs a0) rI (xs.length : Int) := rc_now fun Hm H1 hi vs ⟨v, ws, e1, ⟨a, us, e2, hS, hP⟩, e3⟩ => ⟨.int xs.length, rfl, fun Q q => ⟨v, xs.length, by rw [e1, show ws = [] from e3], by
  rw [e2]
  exact .inr ⟨us, seqT_mono hi hS, (paired_len hP).symm⟩, q⟩⟩
/-! ### isinstance -/
theorem tyx_mono {H H' : Hp} (s : Same H H') {v : V} {t : Value} (h : TyX K H v t) : TyX K H' v t := by
  cases h with
  | base b =>
    refine .base ?_
    cases b with
    | non => exact .non
    | bl x => exact .bl x
    | int i => exact .int i
    | str x => exact .str x
    | flt x => exact .flt x
    | lst e => exact .lst (s _ _ e)
    | frz e => exact .frz (s _ _ e)
    | tup e => exact .tup (s _ _ e)
    | dK e => exact .dK (s _ _ e)
    | dT e => exact .dT (s _ _ e)
    | ins e cl ha hn ht hm => exact .ins (s _ _ e) cl ha hn ht hm
  | byt b => exact .byt b
  | set e => exact .set (s _ _ e)
  | kList e c => exact .kList e c
  | kTuple e c => exact .kTuple e c
  | kDict e c => exact .kDict e c
  | fTuple e => exact .fTuple (s _ _ e)
  | fDict e => exact .fDict (s _ _ e)
/-- a thing of the type t -/
def rTy (K : PySem.W.Frag) : Rp Value := ⟨fun H v t => TyX K H v t, fun s h => tyx_mono s h⟩
theorem rc_isi {t : Value} {c : String} {b : Bool} (h : PySem.W.kitOne K t (.type c) = some b) : Rc (rIsi K) (a1 (rTy K) t (a1 rV (.ty c) a0)) rB b := rc_now fun Hm H1 hi vs ⟨v, ws, e1, e2, v2, ws2, e3, e4, e5⟩ => ⟨.bl b, rfl, fun Q q => ⟨v, .ty c, t, .type c, b, by rw [e1, e3, show ws2 = [] from e5, show v2 = V.ty c from e4], .ty c, tyx_mono hi e2, h, q⟩⟩
end
end NJ

set_option Elab.async false
set_option linter.all false
set_option maxRecDepth 100000
set_option maxHeartbeats 2000000
/-! Texts, lists, loops. -/
namespace NJ
open PySem PySem.Spec PyProof.Rows L2
section
variable {σ : L2.St} {Hm : Hp} {K : PySem.W.Frag} {α β : Type} {R : Rp α} {S : Rp β} {ta tb te tc tl : TE} {t u tt : TT} {d : α}
theorem sz16 {n : Nat} (h : n ≤ 16000000) : n ≤ sizeLine := Nat.le_trans h (by rw [sizeLine_eq]; decide)
theorem sz16' {n : Nat} (h : n < 16000000) : n < sizeLine := Nat.lt_of_lt_of_le h (by rw [sizeLine_eq]; decide)
/-! ### texts -/
abbrev rLeS : R2 := fun x y H Q => ∃ i j, x = .str i ∧ y = .str j ∧ Q (.bl (!decide (j.cps.toList < i.cps.toList))) H
abbrev rLtS : R2 := fun x y H Q => ∃ i j, x = .str i ∧ y = .str j ∧ Q (.bl (decide (i.cps.toList < j.cps.toList))) H
theorem rv_leS {a b : List Nat} : Rv rLeS rS a rS b rB (!decide (b < a)) := rv_now fun Hm H1 _ x y rx ry => ⟨.bl (!decide (b < a)), rfl, fun Q q => ⟨tx a, tx b, rx, ry, by rw [tx_cps, tx_cps]; exact q⟩⟩
theorem rv_ltS {a b : List Nat} : Rv rLtS rS a rS b rB (decide (a < b)) := rv_now fun Hm H1 _ x y rx ry => ⟨.bl (decide (a < b)), rfl, fun Q q => ⟨tx a, tx b, rx, ry, by rw [tx_cps, tx_cps]; exact q⟩⟩
abbrev rAddS : R2 := fun x y H Q => ∃ i j, x = .str i ∧ y = .str j ∧ i.length + j.length ≤ sizeLine ∧ Q (.str (i ++ j)) H
theorem rv_addS {a b : List Nat} (h : a.length + b.length ≤ 16000000) : Rv rAddS rS a rS b rS (a ++ b) := rv_now fun Hm H1 _ x y rx ry => ⟨.str (tx (a ++ b)), rfl, fun Q q => ⟨tx a, tx b, rx, ry, by rw [tx_len, tx_len]; exact sz16 h, by rw [tx_app]; exact q⟩⟩
/-- a sign as a text -/
theorem rs_of {H : Hp} {v : V} {c : Nat} (h : rC.rel H v c) : rS.rel H v [c] := h
theorem rv_ixS {l : List Nat} {i : Int} {j : Nat} {c : Nat} (hz : l.length ≤ 16000000) (hi : i = (j : Int)) (hc : l[j]? = some c) : Rv rIxS rS l rI i rS [c] := rv_now fun Hm H1 _ x y rx ry => ⟨.str (tx [c]), rfl, fun Q q => ⟨tx l, i, c, rx, ry, by rw [tx_len]; exact sz16 hz, by rw [tx_cps, hi]; exact atI_nat hc, q⟩⟩
/-- slices -/
def Eo (to : TO) (σ : L2.St) (Hm : Hp) (o : Option Int) : Prop := ∀ H1, Same Hm H1 → ∀ Q : Option Int → Hp → Prop, (∀ K2 H2, Xt Hm H1 K2 H2 → Q o H2) → to σ H1 Q
theorem eo_none : Eo tNoPart σ Hm none := fun H1 hi _ q => q Hm H1 (Xt.refl hi)
theorem eo_some {i : Int} (h : Ev te σ Hm rI i) : Eo (tPart te) σ Hm (some i) := fun H1 hi _ q => h H1 hi _ fun v K2 H2 x2 r => ⟨i, r, q K2 H2 x2⟩
theorem Eo.mono {to : TO} {o : Option Int} {Hm' : Hp} (s : Same Hm Hm') (h : Eo to σ Hm o) : Eo to σ Hm' o := fun H1 hi Q q => h H1 (s.trans hi) Q fun H3 H2 x => q _ H2 (Xt.lift s hi x)
def cut {γ : Type} (l : List γ) (lo hi : Option Int) : List γ := (l.drop (HT.sIx l.length 0 lo)).take (HT.sIx l.length l.length hi - HT.sIx l.length 0 lo)
theorem cut_len {γ : Type} (l : List γ) (lo hi : Option Int) : (cut l lo hi).length ≤ l.length := by
  unfold cut
  rw [List.length_take, List.length_drop]
  omega
theorem cut_take {γ : Type} (l : List γ) (k : Nat) : cut l none (some (k : Int)) = l.take k := by
  unfold cut
  rw [HT.sIx_none, HT.sIx_nat, List.drop_zero, Nat.sub_zero]
  rcases Nat.le_total k l.length with h | h
  · rw [Nat.min_eq_left h]
  · rw [Nat.min_eq_right h, List.take_of_length_le h, List.take_of_length_le (Nat.le_refl _)]
theorem cut_drop {γ : Type} (l : List γ) (k : Nat) : cut l (some (k : Int)) none = l.drop k := by
  unfold cut
  rw [HT.sIx_none, HT.sIx_nat]
  rcases Nat.le_total k l.length with h | h
  · rw [Nat.min_eq_left h, List.take_of_length_le (by rw [List.length_drop]; omega)]
  · rw [Nat.min_eq_right h, List.drop_of_length_le (Nat.le_refl _), List.drop_of_length_le h]
    simp
theorem ev_slS {to tp : TO} {l : List Nat} {lo hi : Option Int} (h : Ev te σ Hm rS l) (h1 : Eo to σ Hm lo) (h2 : Eo tp σ Hm hi) (hz : l.length ≤ 16000000) : Ev (tSl rSlS te to tp) σ Hm rS (cut l lo hi) := fun H1 hx Q q =>
  h H1 hx _ fun v K2 H2 x2 r => h1.mono x2.s H2 x2.i _ fun K3 H3 x3 => h2.mono (x2.trans x3).s H3 x3.i _ fun K4 H4 x4 => ⟨tx l, r, by rw [tx_len]; exact sz16 hz, by
    have e : cutS (tx l) lo hi = tx (cut l lo hi) := by
      unfold cutS cut tx
      simp [Str.length]
    rw [e]
    exact q _ K4 H4 ((x2.trans x3).trans x4) rfl⟩
theorem paired_drop {α β : Type} {F : α → β → Prop} : ∀ (n : Nat) {l : List α} {m : List β}, Paired F l m → Paired F (l.drop n) (m.drop n)
  | 0, _, _, h => h
  | _ + 1, _, _, .nil => .nil
  | n + 1, _, _, .cons _ h => paired_drop n h
theorem paired_take {α β : Type} {F : α → β → Prop} : ∀ (n : Nat) {l : List α} {m : List β}, Paired F l m → Paired F (l.take n) (m.take n)
  | 0, _, _, _ => .nil
  | _ + 1, _, _, .nil => .nil
  | n + 1, _, _, .cons a h => .cons a (paired_take n h)
theorem paired_cut {H : Hp} {vs : List V} {xs : List α} {lo hi : Option Int} (h : Paired (R.rel H) vs xs) : Paired (R.rel H) (cutV vs lo hi) (cut xs lo hi) := by
  unfold cutV cut
  rw [paired_len h]
  exact paired_take _ (paired_drop _ h)
theorem ev_slL {to tp : TO} {xs : List α} {lo hi : Option Int} (h : Ev te σ Hm (rL K R) xs) (h1 : Eo to σ Hm lo) (h2 : Eo tp σ Hm hi) : Ev (tSl (rSlL K) te to tp) σ Hm (rL K R) (cut xs lo hi) := fun H1 hx Q q =>
  h H1 hx _ fun v K2 H2 x2 ⟨a, vs, ev, hS, hP⟩ => h1.mono x2.s H2 x2.i _ fun K3 H3 x3 => h2.mono (x2.trans x3).s H3 x3.i _ fun K4 H4 x4 => ⟨a, vs, ev, ((x3.trans x4).s.trans x4.i).seq hS, fun p np =>
    q (.ref p) _ _ (xt_ref ((x2.trans x3).trans x4) np) ⟨p, cutV vs lo hi, rfl, .inl (.inl upd_same), paired_mono R ((x3.trans x4).s.trans (Xt.new x4.i np).s) (paired_cut hP)⟩⟩
theorem ev_slT {to tp : TO} {xs : List α} {lo hi : Option Int} (h : Ev te σ Hm (rT K R) xs) (h1 : Eo to σ Hm lo) (h2 : Eo tp σ Hm hi) : Ev (tSl (rSlA K) te to tp) σ Hm (rT K R) (cut xs lo hi) := fun H1 hx Q q =>
  h H1 hx _ fun v K2 H2 x2 ⟨a, vs, ev, hS, hP⟩ => h1.mono x2.s H2 x2.i _ fun K3 H3 x3 => h2.mono (x2.trans x3).s H3 x3.i _ fun K4 H4 x4 => ⟨a, vs, ev, seqT_mono ((x3.trans x4).s.trans x4.i) hS, fun ⟨e1, e2⟩ =>
    q (.ref a) K4 H4 ((x2.trans x3).trans x4) ⟨a, vs, rfl, seqT_mono (x3.trans x4).s hS, by
      have e : cut xs lo hi = xs := by
        have hl := paired_len hP
        unfold cut
        rw [← hl, e1, e2, List.drop_zero, Nat.sub_zero, hl, List.take_of_length_le (Nat.le_refl _)]
      rw [e]
      exact paired_mono R (x3.trans x4).s hP⟩, fun _ p np =>
    q (.ref p) _ _ (xt_ref ((x2.trans x3).trans x4) np) ⟨p, cutV vs lo hi, rfl, .inl (.inl upd_same), paired_mono R ((x3.trans x4).s.trans (Xt.new x4.i np).s) (paired_cut hP)⟩⟩
/-! ### items -/
theorem rv_ixL {xs : List α} {i : Int} {j : Nat} (hi : i = (j : Int)) (hd : xs[j]? = some d) : Rv (rIxL K) (rL K R) xs rI i R d := rv_now fun Hm H1 hx x y ⟨a, vs, ev, hS, hP⟩ ry => by
  obtain ⟨v, e1, e2⟩ := paired_get' hP hd
  exact ⟨v, e2, fun Q q => ⟨a, vs, i, v, ev, ry, hx.seq hS, by rw [hi]; exact atI_nat e1, q⟩⟩
theorem rv_ixT {xs : List α} {i : Int} {j : Nat} (hi : i = (j : Int)) (hd : xs[j]? = some d) : Rv (rIxT K) (rT K R) xs rI i R d := rv_now fun Hm H1 hx x y ⟨a, vs, ev, hS, hP⟩ ry => by
  obtain ⟨v, e1, e2⟩ := paired_get' hP hd
  exact ⟨v, e2, fun Q q => ⟨a, vs, i, v, ev, ry, seqT_mono hx hS, by rw [hi]; exact atI_nat e1, q⟩⟩
/-! ### zip -/
theorem wk_zip {ta : TA} {xs : List α} {ys : List β} (h : Ea ta σ Hm (a1 (rL K R) xs (a1 (rL K S) ys a0))) : Wk (iZip K ta) σ Hm (rP K R S) (xs.zip ys) := fun H1 hi Rk q => h H1 hi _ fun vs K2 H2 x2 ⟨v, ws, e1, ⟨a, us, ea, hS, hP⟩, v2, ws2, e2, ⟨b, us2, eb, hS2, hP2⟩, e3⟩ =>
  ⟨a, b, us, us2, by rw [e1, e2, ea, eb, show ws2 = [] from e3], x2.i.seq hS, x2.i.seq hS2, q _ K2 H2 x2 fun i H3 s3 => by
    have g1 : SqL K H3 a us := s3.seq hS
    have g2 : SqL K H3 b us2 := s3.seq hS2
    have l1 := paired_len hP
    have l2 := paired_len hP2
    have lz : (xs.zip ys).length = min us.length us2.length := by rw [List.length_zip, l1, l2]
    refine ⟨fun hi => ?_, fun hi => ?_, fun hi v H4 hy => ?_⟩
    · exact ⟨us, us2, _, _, g1, g2, List.getElem?_eq_getElem (by omega), List.getElem?_eq_getElem (by omega)⟩
    · exact ⟨us, us2, g1, g2, by omega⟩
    · obtain ⟨T, x, y, rfl, nT, rfl, f1, f2⟩ := hy
      obtain ⟨dx, e1, r1⟩ := paired_get hP (f1 us g1)
      obtain ⟨dy, e2, r2⟩ := paired_get hP2 (f2 us2 g2)
      exact ⟨(dx, dy), _, by rw [List.getElem?_zip_eq_some]; exact ⟨e1, e2⟩, Xt.new s3 nT, T, x, y, rfl, .inl (.inl upd_same), R.mono (Xt.new s3 nT).s r1, S.mono (Xt.new s3 nT).s r2⟩⟩
theorem wk_zipT {ta : TA} {xs : List α} {ys : List β} (h : Ea ta σ Hm (a1 (rT K R) xs (a1 (rT K S) ys a0))) : Wk (RZ.iZipA K ta) σ Hm (rP K R S) (xs.zip ys) := fun H1 hi Rk q => h H1 hi _ fun vs K2 H2 x2 ⟨v, ws, e1, ⟨a, us, ea, hS, hP⟩, v2, ws2, e2, ⟨b, us2, eb, hS2, hP2⟩, e3⟩ =>
  ⟨a, b, us, us2, by rw [e1, e2, ea, eb, show ws2 = [] from e3], .inr ⟨seqT_mono x2.i hS, seqT_mono x2.i hS2, q _ K2 H2 x2 fun i H3 s3 => by
    have g1 : SqT K H3 a us := seqT_mono s3 hS
    have g2 : SqT K H3 b us2 := seqT_mono s3 hS2
    have l1 := paired_len hP
    have l2 := paired_len hP2
    have lz : (xs.zip ys).length = min us.length us2.length := by rw [List.length_zip, l1, l2]
    refine ⟨fun hi => ?_, fun hi => ?_, fun hi v H4 hy => ?_⟩
    · exact ⟨us, us2, _, _, g1, g2, List.getElem?_eq_getElem (by omega), List.getElem?_eq_getElem (by omega)⟩
    · exact ⟨us, us2, g1, g2, by omega⟩
    · obtain ⟨T, x, y, rfl, nT, rfl, f1, f2⟩ := hy
      obtain ⟨dx, e1, r1⟩ := paired_get hP (f1 us g1)
      obtain ⟨dy, e2, r2⟩ := paired_get hP2 (f2 us2 g2)
      exact ⟨(dx, dy), _, by rw [List.getElem?_zip_eq_some]; exact ⟨e1, e2⟩, Xt.new s3 nT, T, x, y, rfl, .inl (.inl upd_same), R.mono (Xt.new s3 nT).s r1, S.mono (Xt.new s3 nT).s r2⟩⟩⟩
/-- a pair, a triple taken apart into names -/
theorem tk_pair {i j : Nat} {v : V} {Hk : Hp} {p : α × β} (h : (rP K R S).rel Hk v p) : ∃ x y, R.rel Hk x p.1 ∧ S.rel Hk y p.2 ∧ Tk (gTup K 2 (gCons (gName i) (gCons (gName j) gNil))) σ Hk v ((σ.set i (some x)).set j (some y)) := by
  obtain ⟨a, x, y, e, hS, r1, r2⟩ := h
  exact ⟨x, y, r1, r2, fun H3 s Q q => ⟨a, [x, y], e, seqT_mono s hS, rfl, x, [y], rfl, y, [], rfl, rfl, q⟩⟩
/-! ### loops -/
variable {D : Ends} {t1 t2 tz : TS} {H : Hp} {g : TG} {wi : TI}
theorem s_for {xs : List α} (hw : Wk wi σ Hm R xs) (hi : Same Hm H)
    (h : ∀ K2 H2, Xt Hm H K2 H2 → ∃ Pv : Nat → L2.St → Hp → Prop, Pv 0 σ H2 ∧ (∀ i σ' H', Pv i σ' H' → Same K2 H') ∧
      (∀ i d σ' H' v K4 H4, xs[i]? = some d → Pv i σ' H' → Xt K2 H' K4 H4 → R.rel K4 v d → g v σ' H4 fun σ2 H5 => t1 { D with nx := Pv (i + 1), ct := Pv (i + 1), bk := D.nx } σ2 H5) ∧
      ∀ σ' H', Pv xs.length σ' H' → D.nx σ' H') : tFor wi g t1 D σ H := hw H hi _ fun J K2 H2 x2 hJ => by
  obtain ⟨Pv, p0, ps, pt, pe⟩ := h K2 H2 x2
  refine ⟨fun i m σ' H' => i + m = xs.length ∧ Pv i σ' H', ⟨xs.length, by omega, p0⟩, ?_⟩
  rintro i m σ' H' ⟨em, p⟩
  obtain ⟨go, stop, yld⟩ := hJ i H' (ps i σ' H' p)
  by_cases hlt : i < xs.length
  · refine .inr ⟨go hlt, Pv (i + 1), fun σ2 H3 p2 => ⟨m - 1, by omega, by omega, p2⟩, fun v H4 hy => ?_⟩
    obtain ⟨d, K4, ed, x4, rv⟩ := yld hlt v H4 hy
    exact pt i d σ' H' v K4 H4 ed p x4 rv
  · have e : i = xs.length := by omega
    subst e
    exact .inl ⟨stop (Nat.le_refl _), pe σ' H' p⟩
theorem q_for {xs : List α} (hw : Wk wi σ Hm R xs) (hi : Same Hm H)
    (h : ∀ K2 H2, Xt Hm H K2 H2 → ∃ Pv : Nat → L2.St → Hp → Prop, Pv 0 σ H2 ∧ (∀ i σ' H', Pv i σ' H' → Same K2 H') ∧
      (∀ i d σ' H' v K4 H4, xs[i]? = some d → Pv i σ' H' → Xt K2 H' K4 H4 → R.rel K4 v d → g v σ' H4 fun σ2 H5 => t1 { D with nx := Pv (i + 1), ct := Pv (i + 1), bk := tz D } σ2 H5) ∧
      ∀ σ' H', Pv xs.length σ' H' → tz D σ' H') : tSeq (tFor wi g t1) tz D σ H := s_for (D := { D with nx := tz D }) hw hi h
/-- xs.append(e), xs a list of one's own -/
theorem s_app {i : Nat} {l : Addr} {us : List V} (hv : σ[i]? = some (some (.ref l))) (ha : H l = some (.lst us)) (h : Ev te σ Hm R d) (hi : Same Hm H) (hz : us.length < 16000000)
    (k : ∀ v K1 H1, Xt Hm H K1 H1 → R.rel K1 v d → D.nx σ (upd H1 l (.lst (us ++ [v])))) : tDrop (tBM K "list" rAppend (tVar i) (tCons te tNil)) D σ H :=
  ⟨.ref l, hv, .inl ⟨rfl, us, .inl (.inl ha)⟩, h H hi _ fun v K1 H1 x r => ⟨l, us, v, rfl, rfl, x.k l _ ha, sz16' hz, k v K1 H1 x r⟩⟩
end
end NJ

set_option Elab.async false
set_option linter.all false
set_option maxRecDepth 100000
set_option maxHeartbeats 4000000
/-! An exception's own field, a class's own == and !=, as facts (early, so that a law's head may stand before the long texts). -/
namespace NJ
open PySem PySem.Spec PyProof.Rows L2
def xfFB (x : Str) (f : Str) (K : PySem.W.Frag) : Bool := xfB K (He.ga K x) && decide (PySem.W.findIn K (.ref (He.ga K x)) f = some none)
theorem xfFB_ok {x f : Str} {K : PySem.W.Frag} (h : xfFB x f K = true) : XfC K (He.ga K x) ∧ PySem.W.findIn K (.ref (He.ga K x)) f = some none := by
  obtain ⟨a, b⟩ := He.ba h
  exact ⟨xfB_ok a, of_decide_eq_true b⟩
/-- a class's own ==, asked of anything -/
structure OwnEqM (K : PySem.W.Frag) (C f : Addr) : Prop where
  find : PySem.W.findIn K (.ref C) "__eq__" = some (some (.ref f))
  fn : PySem.W.isFn K (.ref f) = true
def oeqB (x : Str) (K : PySem.W.Frag) : Bool := He.eqO (PySem.W.findIn K (.ref (He.ga K x)) "__eq__") (some (some (.ref (He.ma K (He.ga K x) "__eq__")))) && PySem.W.isFn K (.ref (He.ma K (He.ga K x) "__eq__"))
theorem oeqB_ok {x : Str} {K : PySem.W.Frag} (h : oeqB x K = true) : OwnEqM K (He.ga K x) (He.ma K (He.ga K x) "__eq__") := by
  obtain ⟨h1, h2⟩ := He.ba h
  exact ⟨He.eqO_ok h1, h2⟩
def oneB (x : Str) (K : PySem.W.Frag) : Bool := He.eqO (PySem.W.findIn K (.ref (He.ga K x)) "__ne__") (some (some (.builtin "object.__ne__")))
def plainT : List String := ["NoneType", "bool", "int", "str", "list", "tuple", "dict"]
structure OthK (K : PySem.W.Frag) (C : Addr) : Prop where
  h : ∀ T ∈ plainT, PySem.W.kitOne K (.type T) (.ref C) = some false ∧ PySem.W.notFirst K C (.type T) = true ∧ PySem.W.subIn K (.ref C) (.type T) = some false
def othB (x : Str) (K : PySem.W.Frag) : Bool := plainT.all fun T => decide (PySem.W.kitOne K (.type T) (.ref (He.ga K x)) = some false) && (PySem.W.notFirst K (He.ga K x) (.type T) && decide (PySem.W.subIn K (.ref (He.ga K x)) (.type T) = some false))
theorem othB_ok {x : Str} {K : PySem.W.Frag} (h : othB x K = true) : OthK K (He.ga K x) := ⟨fun T hT => by
  have h1 := List.all_eq_true.mp h T hT
  obtain ⟨a, b⟩ := He.ba h1
  obtain ⟨b, c⟩ := He.ba b
  exact ⟨of_decide_eq_true a, b, of_decide_eq_true c⟩⟩
structure OtcK (K : PySem.W.Frag) (C D : Addr) : Prop where
  k : PySem.W.kitOne K (.ref C) (.ref D) = some false
  n : PySem.W.notFirst K D (.ref C) = true
def otcB (x y : Str) (K : PySem.W.Frag) : Bool := decide (PySem.W.kitOne K (.ref (He.ga K x)) (.ref (He.ga K y)) = some false) && PySem.W.notFirst K (He.ga K y) (.ref (He.ga K x))
theorem otcB_ok {x y : Str} {K : PySem.W.Frag} (h : otcB x y K = true) : OtcK K (He.ga K x) (He.ga K y) := by
  obtain ⟨a, b⟩ := He.ba h
  exact ⟨of_decide_eq_true a, b⟩
end NJ

set_option Elab.async false
set_option linter.all false
set_option maxRecDepth 100000
set_option maxHeartbeats 0
namespace NJ
open PySem PySem.Spec PyProof.Rows L2
def topS (i : Nat) : Stmt := PySem.Challenge.pw_neverjoin_k21_books_judged.main.body.getD i (.Pass ⟨0, 0, 0, 0⟩)
abbrev s_BadBook__init_ : Stmt := inClass (topS 3) 0
abbrev s_is_integer : Stmt := topS 5
abbrev s_is_number : Stmt := topS 6
abbrev s_is_text : Stmt := topS 7
abbrev s_is_long_text : Stmt := topS 8
abbrev s_is_letter : Stmt := topS 9
abbrev s_are_ascending : Stmt := topS 10
abbrev s_links : Stmt := topS 12
abbrev s_led_back : Stmt := topS 13
abbrev s_reached : Stmt := topS 14
abbrev s_all_joined : Stmt := topS 15
abbrev s_all_points : Stmt := topS 17
abbrev s_moved : Stmt := topS 18
abbrev s_step : Stmt := topS 19
abbrev s_walked : Stmt := topS 20
abbrev s_Web__init_ : Stmt := inClass (topS 24) 0
abbrev s_Web_lay : Stmt := inClass (topS 24) 1
abbrev s_Web__eq_ : Stmt := inClass (topS 24) 2
abbrev s_letter_rows : Stmt := topS 25
abbrev s_wrong_part_webs : Stmt := topS 26
abbrev s_are_arrows : Stmt := topS 28
abbrev s_is_arrow : Stmt := topS 29
abbrev s_is_stretch : Stmt := topS 30
abbrev s_Book__init_ : Stmt := inClass (topS 34) 0
abbrev s_Book__eq_ : Stmt := inClass (topS 34) 1
abbrev s_wrong_part_books : Stmt := topS 35
abbrev s_are_words : Stmt := topS 37
abbrev s_least_clash : Stmt := topS 38
abbrev s_beginning_texts : Stmt := topS 39
abbrev s_law_hand : Stmt := topS 41
abbrev s_law_draw : Stmt := topS 42
abbrev s_law_is : Stmt := topS 43
abbrev s_law_some : Stmt := topS 44
abbrev s_law_web : Stmt := topS 45
abbrev s_law_ends : Stmt := topS 46
abbrev s_law_signs : Stmt := topS 47
abbrev s_law_longer : Stmt := topS 48
abbrev s_law_stretches : Stmt := topS 49
abbrev s_law_clashing : Stmt := topS 50
abbrev s_law_fits : Stmt := topS 51
abbrev s_law_comings : Stmt := topS 52
abbrev s_law_count : Stmt := topS 53
abbrev s_law_made : Stmt := topS 54
abbrev s_law_is_last : Stmt := topS 55
abbrev s_law_lot : Stmt := topS 56
abbrev s_law_full : Stmt := topS 57
abbrev s_law_words : Stmt := topS 58
abbrev s_law_walk : Stmt := topS 59
abbrev s_law_deep : Stmt := topS 60
abbrev s_law_least_clash : Stmt := topS 61
abbrev s_law_is_text : Stmt := topS 62
abbrev s_law_is_stretch : Stmt := topS 63
abbrev s_law_due : Stmt := topS 64
abbrev s_law_bent : Stmt := topS 65
abbrev s_law_told : Stmt := topS 66
abbrev s_law : Stmt := topS 67
theorem c_BadBook__init_ : FnScope ["self", "part"] ["self", "part"] (defScope s_BadBook__init_) := ⟨rfl, rfl, rfl, by decide +kernel, rfl, by decide +kernel, by decide +kernel⟩
theorem c_is_integer : FnScope ["thing"] ["thing"] (defScope s_is_integer) := ⟨rfl, rfl, rfl, by decide +kernel, rfl, by decide +kernel, by decide +kernel⟩
theorem c_is_number : FnScope ["least", "most", "thing"] ["least", "most", "thing"] (defScope s_is_number) := ⟨rfl, rfl, rfl, by decide +kernel, rfl, by decide +kernel, by decide +kernel⟩
theorem c_is_text : FnScope ["thing", "sign"] ["thing"] (defScope s_is_text) := ⟨rfl, rfl, rfl, by decide +kernel, rfl, by decide +kernel, by decide +kernel⟩
theorem c_is_long_text : FnScope ["least", "most", "thing"] ["least", "most", "thing"] (defScope s_is_long_text) := ⟨rfl, rfl, rfl, by decide +kernel, rfl, by decide +kernel, by decide +kernel⟩
theorem c_is_letter : FnScope ["thing"] ["thing"] (defScope s_is_letter) := ⟨rfl, rfl, rfl, by decide +kernel, rfl, by decide +kernel, by decide +kernel⟩
theorem c_are_ascending : FnScope ["row", "one", "other"] ["row"] (defScope s_are_ascending) := ⟨rfl, rfl, rfl, by decide +kernel, rfl, by decide +kernel, by decide +kernel⟩
theorem c_links : FnScope ["steps", "found", "begin", "_", "end"] ["steps"] (defScope s_links) := ⟨rfl, rfl, rfl, by decide +kernel, rfl, by decide +kernel, by decide +kernel⟩
theorem c_led_back : FnScope ["steps", "begin", "letter", "end"] ["steps"] (defScope s_led_back) := ⟨rfl, rfl, rfl, by decide +kernel, rfl, by decide +kernel, by decide +kernel⟩
theorem c_reached : FnScope ["leading", "start", "found", "waiting", "begin", "end"] ["leading", "start"] (defScope s_reached) := ⟨rfl, rfl, rfl, by decide +kernel, rfl, by decide +kernel, by decide +kernel⟩
theorem c_all_joined : FnScope ["states", "steps", "ahead", "behind", "state"] ["states", "steps"] (defScope s_all_joined) := ⟨rfl, rfl, rfl, by decide +kernel, rfl, by decide +kernel, by decide +kernel⟩
theorem c_all_points : FnScope ["web"] ["web"] (defScope s_all_points) := ⟨rfl, rfl, rfl, by decide +kernel, rfl, by decide +kernel, by decide +kernel⟩
theorem c_moved : FnScope ["row", "mask", "found", "lowest"] ["row", "mask"] (defScope s_moved) := ⟨rfl, rfl, rfl, by decide +kernel, rfl, by decide +kernel, by decide +kernel⟩
theorem c_step : FnScope ["rows", "mask", "letter", "row"] ["rows", "mask", "letter"] (defScope s_step) := ⟨rfl, rfl, rfl, by decide +kernel, rfl, by decide +kernel, by decide +kernel⟩
theorem c_walked : FnScope ["web", "mask", "text", "letter"] ["web", "mask", "text"] (defScope s_walked) := ⟨rfl, rfl, rfl, by decide +kernel, rfl, by decide +kernel, by decide +kernel⟩
theorem c_Web__init_ : FnScope ["self", "points", "arrows", "part"] ["self", "points", "arrows"] (defScope s_Web__init_) := ⟨rfl, rfl, rfl, by decide +kernel, rfl, by decide +kernel, by decide +kernel⟩
theorem c_Web_lay : FnScope ["self", "points", "arrows"] ["self", "points", "arrows"] (defScope s_Web_lay) := ⟨rfl, rfl, rfl, by decide +kernel, rfl, by decide +kernel, by decide +kernel⟩
theorem c_Web__eq_ : FnScope ["self", "other"] ["self", "other"] (defScope s_Web__eq_) := ⟨rfl, rfl, rfl, by decide +kernel, rfl, by decide +kernel, by decide +kernel⟩
theorem c_letter_rows : FnScope ["points", "arrows", "rows", "begin", "letter", "end", "_"] ["points", "arrows"] (defScope s_letter_rows) := ⟨rfl, rfl, rfl, by decide +kernel, rfl, by decide +kernel, by decide +kernel⟩
theorem c_wrong_part_webs : FnScope ["points", "arrows"] ["points", "arrows"] (defScope s_wrong_part_webs) := ⟨rfl, rfl, rfl, by decide +kernel, rfl, by decide +kernel, by decide +kernel⟩
theorem c_are_arrows : FnScope ["points", "thing", "item"] ["points", "thing"] (defScope s_are_arrows) := ⟨rfl, rfl, rfl, by decide +kernel, rfl, by decide +kernel, by decide +kernel⟩
theorem c_is_arrow : FnScope ["points", "thing", "begin", "letter", "end"] ["points", "thing"] (defScope s_is_arrow) := ⟨rfl, rfl, rfl, by decide +kernel, rfl, by decide +kernel, by decide +kernel⟩
theorem c_is_stretch : FnScope ["web", "thing"] ["web", "thing"] (defScope s_is_stretch) := ⟨rfl, rfl, rfl, by decide +kernel, rfl, by decide +kernel, by decide +kernel⟩
theorem c_Book__init_ : FnScope ["self", "web", "words", "part"] ["self", "web", "words"] (defScope s_Book__init_) := ⟨rfl, rfl, rfl, by decide +kernel, rfl, by decide +kernel, by decide +kernel⟩
theorem c_Book__eq_ : FnScope ["self", "other"] ["self", "other"] (defScope s_Book__eq_) := ⟨rfl, rfl, rfl, by decide +kernel, rfl, by decide +kernel, by decide +kernel⟩
theorem c_wrong_part_books : FnScope ["web", "words", "word"] ["web", "words"] (defScope s_wrong_part_books) := ⟨rfl, rfl, rfl, by decide +kernel, rfl, by decide +kernel, by decide +kernel⟩
theorem c_are_words : FnScope ["thing", "item"] ["thing"] (defScope s_are_words) := ⟨rfl, rfl, rfl, by decide +kernel, rfl, by decide +kernel, by decide +kernel⟩
theorem c_least_clash : FnScope ["texts", "listed", "beginning", "ending", "clashing", "one", "others", "text"] ["texts"] (defScope s_least_clash) := ⟨rfl, rfl, rfl, by decide +kernel, rfl, by decide +kernel, by decide +kernel⟩
theorem c_beginning_texts : FnScope ["listed", "one", "other"] ["listed"] (defScope s_beginning_texts) := ⟨rfl, rfl, rfl, by decide +kernel, rfl, by decide +kernel, by decide +kernel⟩
theorem c_law_hand : FnScope ["_law_script", "_law_cells", "_law_cell"] ["_law_script"] (defScope s_law_hand) := ⟨rfl, rfl, rfl, by decide +kernel, rfl, by decide +kernel, by decide +kernel⟩
theorem c_law_draw : FnScope ["_law_hand_here", "_law_many", "_law_cell", "_law_digit", "_law_number"] ["_law_hand_here", "_law_many"] (defScope s_law_draw) := ⟨rfl, rfl, rfl, by decide +kernel, rfl, by decide +kernel, by decide +kernel⟩
theorem c_law_is : FnScope ["_law_told_here", "_law_due_here", "_law_one", "_law_two"] ["_law_told_here", "_law_due_here"] (defScope s_law_is) := ⟨rfl, rfl, rfl, by decide +kernel, rfl, by decide +kernel, by decide +kernel⟩
theorem c_law_some : FnScope ["_law_hand_here", "_law_things"] ["_law_hand_here", "_law_things"] (defScope s_law_some) := ⟨rfl, rfl, rfl, by decide +kernel, rfl, by decide +kernel, by decide +kernel⟩
theorem c_law_web : FnScope ["_law_hand_here", "_law_most", "_law_points", "_law_signs_here", "_law_found", "_law_point", "_law_turn", "_law_sign"] ["_law_hand_here", "_law_most"] (defScope s_law_web) := ⟨rfl, rfl, rfl, by decide +kernel, rfl, by decide +kernel, by decide +kernel⟩
theorem c_law_ends : FnScope ["_law_parts", "_law_text", "_law_points", "_law_sign", "_law_goal", "_law_one"] ["_law_parts", "_law_text"] (defScope s_law_ends) := ⟨rfl, rfl, rfl, by decide +kernel, rfl, by decide +kernel, by decide +kernel⟩
theorem c_law_signs : FnScope ["_law_parts", "_law_sign", "_law_arrow"] ["_law_parts"] (defScope s_law_signs) := ⟨rfl, rfl, rfl, by decide +kernel, rfl, by decide +kernel, by decide +kernel⟩
theorem c_law_longer : FnScope ["_law_parts", "_law_texts", "_law_found", "_law_text", "_law_sign"] ["_law_parts", "_law_texts"] (defScope s_law_longer) := ⟨rfl, rfl, rfl, by decide +kernel, rfl, by decide +kernel, by decide +kernel⟩
theorem c_law_stretches : FnScope ["_law_parts", "_law_length", "_law_found", "_law_turn"] ["_law_parts", "_law_length"] (defScope s_law_stretches) := ⟨rfl, rfl, rfl, by decide +kernel, rfl, by decide +kernel, by decide +kernel⟩
theorem c_law_clashing : FnScope ["_law_one", "_law_other", "_law_short", "_law_long"] ["_law_one", "_law_other"] (defScope s_law_clashing) := ⟨rfl, rfl, rfl, by decide +kernel, rfl, by decide +kernel, by decide +kernel⟩
theorem c_law_fits : FnScope ["_law_words_here", "_law_text", "_law_word"] ["_law_words_here", "_law_text"] (defScope s_law_fits) := ⟨rfl, rfl, rfl, by decide +kernel, rfl, by decide +kernel, by decide +kernel⟩
theorem c_law_comings : FnScope ["_law_words_here", "_law_text", "_law_found", "_law_begin", "_law_end"] ["_law_words_here", "_law_text"] (defScope s_law_comings) := ⟨rfl, rfl, rfl, by decide +kernel, rfl, by decide +kernel, by decide +kernel⟩
theorem c_law_count : FnScope ["_law_words_here", "_law_text"] ["_law_words_here", "_law_text"] (defScope s_law_count) := ⟨rfl, rfl, rfl, by decide +kernel, rfl, by decide +kernel, by decide +kernel⟩
theorem c_law_made : FnScope ["_law_parts", "_law_lot_here", "_law_number", "_law_found", "_law_texts", "_law_length", "_law_few", "_law_text", "_law_word", "_law_more", "_law_last"] ["_law_parts", "_law_lot_here", "_law_number"] (defScope s_law_made) := ⟨rfl, rfl, rfl, by decide +kernel, rfl, by decide +kernel, by decide +kernel⟩
theorem c_law_is_last : FnScope ["_law_lot_here", "_law_number", "_law_text", "_law_more"] ["_law_lot_here", "_law_number", "_law_text"] (defScope s_law_is_last) := ⟨rfl, rfl, rfl, by decide +kernel, rfl, by decide +kernel, by decide +kernel⟩
theorem c_law_lot : FnScope ["_law_hand_here", "_law_parts", "_law_number", "_law_found", "_law_turn", "_law_text"] ["_law_hand_here", "_law_parts", "_law_number"] (defScope s_law_lot) := ⟨rfl, rfl, rfl, by decide +kernel, rfl, by decide +kernel, by decide +kernel⟩
theorem c_law_full : FnScope ["_law_hand_here", "_law_parts", "_law_number", "_law_lot_here", "_law_found", "_law_text"] ["_law_hand_here", "_law_parts"] (defScope s_law_full) := ⟨rfl, rfl, rfl, by decide +kernel, rfl, by decide +kernel, by decide +kernel⟩
theorem c_law_words : FnScope ["_law_hand_here", "_law_parts", "_law_kind", "_law_words_here", "_law_found", "_law_turn", "_law_text", "_law_word"] ["_law_hand_here", "_law_parts"] (defScope s_law_words) := ⟨rfl, rfl, rfl, by decide +kernel, rfl, by decide +kernel, by decide +kernel⟩
theorem c_law_walk : FnScope ["_law_hand_here", "_law_parts", "_law_length", "_law_point", "_law_text", "_law_turn", "_law_arrow", "_law_one"] ["_law_hand_here", "_law_parts", "_law_length"] (defScope s_law_walk) := ⟨rfl, rfl, rfl, by decide +kernel, rfl, by decide +kernel, by decide +kernel⟩
theorem c_law_deep : FnScope ["_law_kind", "_law_found", "_law_turn"] ["_law_kind"] (defScope s_law_deep) := ⟨rfl, rfl, rfl, by decide +kernel, rfl, by decide +kernel, by decide +kernel⟩
theorem c_law_least_clash : FnScope ["_law_texts", "_law_found", "_law_one", "_law_other"] ["_law_texts"] (defScope s_law_least_clash) := ⟨rfl, rfl, rfl, by decide +kernel, rfl, by decide +kernel, by decide +kernel⟩
theorem c_law_is_text : FnScope ["_law_thing", "_law_least", "_law_most", "_law_sign"] ["_law_thing", "_law_least", "_law_most"] (defScope s_law_is_text) := ⟨rfl, rfl, rfl, by decide +kernel, rfl, by decide +kernel, by decide +kernel⟩
theorem c_law_is_stretch : FnScope ["_law_parts", "_law_thing"] ["_law_parts", "_law_thing"] (defScope s_law_is_stretch) := ⟨rfl, rfl, rfl, by decide +kernel, rfl, by decide +kernel, by decide +kernel⟩
theorem c_law_due : FnScope ["_law_parts", "_law_thing", "_law_word", "_law_k"] ["_law_parts", "_law_thing"] (defScope s_law_due) := ⟨rfl, rfl, rfl, by decide +kernel, rfl, by decide +kernel, by decide +kernel⟩
theorem c_law_bent : FnScope ["_law_hand_here", "_law_parts", "_law_words_here", "_law_web_here", "_law_kind", "_law_odd", "_law_text", "_law_at", "_law_other", "_law_word"] ["_law_hand_here", "_law_parts", "_law_words_here", "_law_web_here"] (defScope s_law_bent) := ⟨rfl, rfl, rfl, by decide +kernel, rfl, by decide +kernel, by decide +kernel⟩
theorem c_law_told : FnScope ["_law_web_here", "_law_thing", "_law_told_here", "e"] ["_law_web_here", "_law_thing"] (defScope s_law_told) := ⟨rfl, rfl, rfl, by decide +kernel, rfl, by decide +kernel, by decide +kernel⟩
theorem c_law : FnScope ["_law_script", "_law_hand_here", "_law_parts", "_law_web_here", "_law_turn", "_law_words_here", "_law_thing", "_law_due_here", "_law_told_here", "_law_other", "_law_free", "_law_many", "_law_sign"] ["_law_script"] (defScope s_law) := ⟨rfl, rfl, rfl, by decide +kernel, rfl, by decide +kernel, by decide +kernel⟩
end NJ
namespace NJ
open PySem PySem.Spec PyProof.Rows L2
structure Tx (K : PySem.W.Frag) (mg : Str → Option Value) : Prop where
  F_BadBook__init_ : ∃ fd, FunD K "__init__" "BadBook.__init__" (defArgs s_BadBook__init_) (defBody s_BadBook__init_) (defScope s_BadBook__init_) [] [] (He.fAd K ("BadBook", some "__init__")) fd
  F_is_integer : ∃ fd, FunD K "is_integer" "is_integer" (defArgs s_is_integer) (defBody s_is_integer) (defScope s_is_integer) [] [] (He.fAd K ("is_integer", none)) fd
  F_is_number : ∃ fd, FunD K "is_number" "is_number" (defArgs s_is_number) (defBody s_is_number) (defScope s_is_number) [] [] (He.fAd K ("is_number", none)) fd
  F_is_text : ∃ fd, FunD K "is_text" "is_text" (defArgs s_is_text) (defBody s_is_text) (defScope s_is_text) [] [] (He.fAd K ("is_text", none)) fd
  F_is_long_text : ∃ fd, FunD K "is_long_text" "is_long_text" (defArgs s_is_long_text) (defBody s_is_long_text) (defScope s_is_long_text) [] [] (He.fAd K ("is_long_text", none)) fd
  F_is_letter : ∃ fd, FunD K "is_letter" "is_letter" (defArgs s_is_letter) (defBody s_is_letter) (defScope s_is_letter) [] [] (He.fAd K ("is_letter", none)) fd
  F_are_ascending : ∃ fd, FunD K "are_ascending" "are_ascending" (defArgs s_are_ascending) (defBody s_are_ascending) (defScope s_are_ascending) [] [] (He.fAd K ("are_ascending", none)) fd
  F_links : ∃ fd, FunD K "links" "links" (defArgs s_links) (defBody s_links) (defScope s_links) [] [] (He.fAd K ("links", none)) fd
  F_led_back : ∃ fd, FunD K "led_back" "led_back" (defArgs s_led_back) (defBody s_led_back) (defScope s_led_back) [] [] (He.fAd K ("led_back", none)) fd
  F_reached : ∃ fd, FunD K "reached" "reached" (defArgs s_reached) (defBody s_reached) (defScope s_reached) [] [] (He.fAd K ("reached", none)) fd
  F_all_joined : ∃ fd, FunD K "all_joined" "all_joined" (defArgs s_all_joined) (defBody s_all_joined) (defScope s_all_joined) [] [] (He.fAd K ("all_joined", none)) fd
  F_all_points : ∃ fd, FunD K "all_points" "all_points" (defArgs s_all_points) (defBody s_all_points) (defScope s_all_points) [] [] (He.fAd K ("all_points", none)) fd
  F_moved : ∃ fd, FunD K "moved" "moved" (defArgs s_moved) (defBody s_moved) (defScope s_moved) [] [] (He.fAd K ("moved", none)) fd
  F_step : ∃ fd, FunD K "step" "step" (defArgs s_step) (defBody s_step) (defScope s_step) [] [] (He.fAd K ("step", none)) fd
  F_walked : ∃ fd, FunD K "walked" "walked" (defArgs s_walked) (defBody s_walked) (defScope s_walked) [] [] (He.fAd K ("walked", none)) fd
  F_Web__init_ : ∃ fd, FunD K "__init__" "Web.__init__" (defArgs s_Web__init_) (defBody s_Web__init_) (defScope s_Web__init_) [] [] (He.fAd K ("Web", some "__init__")) fd
  F_Web_lay : ∃ fd, FunD K "lay" "Web.lay" (defArgs s_Web_lay) (defBody s_Web_lay) (defScope s_Web_lay) [] [] (He.fAd K ("Web", some "lay")) fd
  F_Web__eq_ : ∃ fd, FunD K "__eq__" "Web.__eq__" (defArgs s_Web__eq_) (defBody s_Web__eq_) (defScope s_Web__eq_) [] [] (He.fAd K ("Web", some "__eq__")) fd
  F_letter_rows : ∃ fd, FunD K "letter_rows" "letter_rows" (defArgs s_letter_rows) (defBody s_letter_rows) (defScope s_letter_rows) [] [] (He.fAd K ("letter_rows", none)) fd
  F_wrong_part_webs : ∃ fd, FunD K "wrong_part" "wrong_part" (defArgs s_wrong_part_webs) (defBody s_wrong_part_webs) (defScope s_wrong_part_webs) [] [] (He.fAd K ("wrong_part_webs", none)) fd
  F_are_arrows : ∃ fd, FunD K "are_arrows" "are_arrows" (defArgs s_are_arrows) (defBody s_are_arrows) (defScope s_are_arrows) [] [] (He.fAd K ("are_arrows", none)) fd
  F_is_arrow : ∃ fd, FunD K "is_arrow" "is_arrow" (defArgs s_is_arrow) (defBody s_is_arrow) (defScope s_is_arrow) [] [] (He.fAd K ("is_arrow", none)) fd
  F_is_stretch : ∃ fd, FunD K "is_stretch" "is_stretch" (defArgs s_is_stretch) (defBody s_is_stretch) (defScope s_is_stretch) [] [] (He.fAd K ("is_stretch", none)) fd
  F_Book__init_ : ∃ fd, FunD K "__init__" "Book.__init__" (defArgs s_Book__init_) (defBody s_Book__init_) (defScope s_Book__init_) [] [] (He.fAd K ("Book", some "__init__")) fd
  F_Book__eq_ : ∃ fd, FunD K "__eq__" "Book.__eq__" (defArgs s_Book__eq_) (defBody s_Book__eq_) (defScope s_Book__eq_) [] [] (He.fAd K ("Book", some "__eq__")) fd
  F_wrong_part_books : ∃ fd, FunD K "wrong_part" "wrong_part" (defArgs s_wrong_part_books) (defBody s_wrong_part_books) (defScope s_wrong_part_books) [] [] (He.fAd K ("wrong_part_books", none)) fd
  F_are_words : ∃ fd, FunD K "are_words" "are_words" (defArgs s_are_words) (defBody s_are_words) (defScope s_are_words) [] [] (He.fAd K ("are_words", none)) fd
  F_least_clash : ∃ fd, FunD K "least_clash" "least_clash" (defArgs s_least_clash) (defBody s_least_clash) (defScope s_least_clash) [] [] (He.fAd K ("least_clash", none)) fd
  F_beginning_texts : ∃ fd, FunD K "beginning_texts" "beginning_texts" (defArgs s_beginning_texts) (defBody s_beginning_texts) (defScope s_beginning_texts) [] [] (He.fAd K ("beginning_texts", none)) fd
  F_law_hand : ∃ fd, FunD K "_law_hand" "_law_hand" (defArgs s_law_hand) (defBody s_law_hand) (defScope s_law_hand) [] [] (He.fAd K ("_law_hand", none)) fd
  F_law_draw : ∃ fd, FunD K "_law_draw" "_law_draw" (defArgs s_law_draw) (defBody s_law_draw) (defScope s_law_draw) [] [] (He.fAd K ("_law_draw", none)) fd
  F_law_is : ∃ fd, FunD K "_law_is" "_law_is" (defArgs s_law_is) (defBody s_law_is) (defScope s_law_is) [] [] (He.fAd K ("_law_is", none)) fd
  F_law_some : ∃ fd, FunD K "_law_some" "_law_some" (defArgs s_law_some) (defBody s_law_some) (defScope s_law_some) [] [] (He.fAd K ("_law_some", none)) fd
  F_law_web : ∃ fd, FunD K "_law_web" "_law_web" (defArgs s_law_web) (defBody s_law_web) (defScope s_law_web) [] [] (He.fAd K ("_law_web", none)) fd
  F_law_ends : ∃ fd, FunD K "_law_ends" "_law_ends" (defArgs s_law_ends) (defBody s_law_ends) (defScope s_law_ends) [] [] (He.fAd K ("_law_ends", none)) fd
  F_law_signs : ∃ fd, FunD K "_law_signs" "_law_signs" (defArgs s_law_signs) (defBody s_law_signs) (defScope s_law_signs) [] [] (He.fAd K ("_law_signs", none)) fd
  F_law_longer : ∃ fd, FunD K "_law_longer" "_law_longer" (defArgs s_law_longer) (defBody s_law_longer) (defScope s_law_longer) [] [] (He.fAd K ("_law_longer", none)) fd
  F_law_stretches : ∃ fd, FunD K "_law_stretches" "_law_stretches" (defArgs s_law_stretches) (defBody s_law_stretches) (defScope s_law_stretches) [] [] (He.fAd K ("_law_stretches", none)) fd
  F_law_clashing : ∃ fd, FunD K "_law_clashing" "_law_clashing" (defArgs s_law_clashing) (defBody s_law_clashing) (defScope s_law_clashing) [] [] (He.fAd K ("_law_clashing", none)) fd
  F_law_fits : ∃ fd, FunD K "_law_fits" "_law_fits" (defArgs s_law_fits) (defBody s_law_fits) (defScope s_law_fits) [] [] (He.fAd K ("_law_fits", none)) fd
  F_law_comings : ∃ fd, FunD K "_law_comings" "_law_comings" (defArgs s_law_comings) (defBody s_law_comings) (defScope s_law_comings) [] [] (He.fAd K ("_law_comings", none)) fd
  F_law_count : ∃ fd, FunD K "_law_count" "_law_count" (defArgs s_law_count) (defBody s_law_count) (defScope s_law_count) [] [] (He.fAd K ("_law_count", none)) fd
  F_law_made : ∃ fd, FunD K "_law_made" "_law_made" (defArgs s_law_made) (defBody s_law_made) (defScope s_law_made) [] [] (He.fAd K ("_law_made", none)) fd
  F_law_is_last : ∃ fd, FunD K "_law_is_last" "_law_is_last" (defArgs s_law_is_last) (defBody s_law_is_last) (defScope s_law_is_last) [] [] (He.fAd K ("_law_is_last", none)) fd
  F_law_lot : ∃ fd, FunD K "_law_lot" "_law_lot" (defArgs s_law_lot) (defBody s_law_lot) (defScope s_law_lot) [] [] (He.fAd K ("_law_lot", none)) fd
  F_law_full : ∃ fd, FunD K "_law_full" "_law_full" (defArgs s_law_full) (defBody s_law_full) (defScope s_law_full) [] [] (He.fAd K ("_law_full", none)) fd
  F_law_words : ∃ fd, FunD K "_law_words" "_law_words" (defArgs s_law_words) (defBody s_law_words) (defScope s_law_words) [] [] (He.fAd K ("_law_words", none)) fd
  F_law_walk : ∃ fd, FunD K "_law_walk" "_law_walk" (defArgs s_law_walk) (defBody s_law_walk) (defScope s_law_walk) [] [] (He.fAd K ("_law_walk", none)) fd
  F_law_deep : ∃ fd, FunD K "_law_deep" "_law_deep" (defArgs s_law_deep) (defBody s_law_deep) (defScope s_law_deep) [] [] (He.fAd K ("_law_deep", none)) fd
  F_law_least_clash : ∃ fd, FunD K "_law_least_clash" "_law_least_clash" (defArgs s_law_least_clash) (defBody s_law_least_clash) (defScope s_law_least_clash) [] [] (He.fAd K ("_law_least_clash", none)) fd
  F_law_is_text : ∃ fd, FunD K "_law_is_text" "_law_is_text" (defArgs s_law_is_text) (defBody s_law_is_text) (defScope s_law_is_text) [] [] (He.fAd K ("_law_is_text", none)) fd
  F_law_is_stretch : ∃ fd, FunD K "_law_is_stretch" "_law_is_stretch" (defArgs s_law_is_stretch) (defBody s_law_is_stretch) (defScope s_law_is_stretch) [] [] (He.fAd K ("_law_is_stretch", none)) fd
  F_law_due : ∃ fd, FunD K "_law_due" "_law_due" (defArgs s_law_due) (defBody s_law_due) (defScope s_law_due) [] [] (He.fAd K ("_law_due", none)) fd
  F_law_bent : ∃ fd, FunD K "_law_bent" "_law_bent" (defArgs s_law_bent) (defBody s_law_bent) (defScope s_law_bent) [] [] (He.fAd K ("_law_bent", none)) fd
  F_law_told : ∃ fd, FunD K "_law_told" "_law_told" (defArgs s_law_told) (defBody s_law_told) (defScope s_law_told) [] [] (He.fAd K ("_law_told", none)) fd
  F_law : ∃ fd, FunD K "law" "law" (defArgs s_law) (defBody s_law) (defScope s_law) [] [] (He.fAd K ("law", none)) fd
  g_BadBook : mg "BadBook" = some (.ref (He.ga K "BadBook"))
  g_is_integer : mg "is_integer" = some (.ref (He.ga K "is_integer"))
  g_is_number : mg "is_number" = some (.ref (He.ga K "is_number"))
  g_is_text : mg "is_text" = some (.ref (He.ga K "is_text"))
  g_is_long_text : mg "is_long_text" = some (.ref (He.ga K "is_long_text"))
  g_is_letter : mg "is_letter" = some (.ref (He.ga K "is_letter"))
  g_are_ascending : mg "are_ascending" = some (.ref (He.ga K "are_ascending"))
  g_links : mg "links" = some (.ref (He.ga K "links"))
  g_led_back : mg "led_back" = some (.ref (He.ga K "led_back"))
  g_reached : mg "reached" = some (.ref (He.ga K "reached"))
  g_all_joined : mg "all_joined" = some (.ref (He.ga K "all_joined"))
  g_all_points : mg "all_points" = some (.ref (He.ga K "all_points"))
  g_moved : mg "moved" = some (.ref (He.ga K "moved"))
  g_step : mg "step" = some (.ref (He.ga K "step"))
  g_walked : mg "walked" = some (.ref (He.ga K "walked"))
  i_MOST_POINTS : ∃ t, mg "MOST_POINTS" = some (.int 12 t)
  i_MOST_ARROWS : ∃ t, mg "MOST_ARROWS" = some (.int 60 t)
  g_Web : mg "Web" = some (.ref (He.ga K "Web"))
  g_letter_rows : mg "letter_rows" = some (.ref (He.ga K "letter_rows"))
  g_wrong_part_webs : mg "wrong_part_webs" = some (.ref (He.ga K "wrong_part_webs"))
  g_are_arrows : mg "are_arrows" = some (.ref (He.ga K "are_arrows"))
  g_is_arrow : mg "is_arrow" = some (.ref (He.ga K "is_arrow"))
  g_is_stretch : mg "is_stretch" = some (.ref (He.ga K "is_stretch"))
  i_MOST_WORDS : ∃ t, mg "MOST_WORDS" = some (.int 400 t)
  i_LONGEST_WORD : ∃ t, mg "LONGEST_WORD" = some (.int 60 t)
  g_Book : mg "Book" = some (.ref (He.ga K "Book"))
  g_wrong_part_books : mg "wrong_part_books" = some (.ref (He.ga K "wrong_part_books"))
  g_are_words : mg "are_words" = some (.ref (He.ga K "are_words"))
  g_least_clash : mg "least_clash" = some (.ref (He.ga K "least_clash"))
  g_beginning_texts : mg "beginning_texts" = some (.ref (He.ga K "beginning_texts"))
  g_law_hand : mg "_law_hand" = some (.ref (He.ga K "_law_hand"))
  g_law_draw : mg "_law_draw" = some (.ref (He.ga K "_law_draw"))
  g_law_is : mg "_law_is" = some (.ref (He.ga K "_law_is"))
  g_law_some : mg "_law_some" = some (.ref (He.ga K "_law_some"))
  g_law_web : mg "_law_web" = some (.ref (He.ga K "_law_web"))
  g_law_ends : mg "_law_ends" = some (.ref (He.ga K "_law_ends"))
  g_law_signs : mg "_law_signs" = some (.ref (He.ga K "_law_signs"))
  g_law_longer : mg "_law_longer" = some (.ref (He.ga K "_law_longer"))
  g_law_stretches : mg "_law_stretches" = some (.ref (He.ga K "_law_stretches"))
  g_law_clashing : mg "_law_clashing" = some (.ref (He.ga K "_law_clashing"))
  g_law_fits : mg "_law_fits" = some (.ref (He.ga K "_law_fits"))
  g_law_comings : mg "_law_comings" = some (.ref (He.ga K "_law_comings"))
  g_law_count : mg "_law_count" = some (.ref (He.ga K "_law_count"))
  g_law_made : mg "_law_made" = some (.ref (He.ga K "_law_made"))
  g_law_is_last : mg "_law_is_last" = some (.ref (He.ga K "_law_is_last"))
  g_law_lot : mg "_law_lot" = some (.ref (He.ga K "_law_lot"))
  g_law_full : mg "_law_full" = some (.ref (He.ga K "_law_full"))
  g_law_words : mg "_law_words" = some (.ref (He.ga K "_law_words"))
  g_law_walk : mg "_law_walk" = some (.ref (He.ga K "_law_walk"))
  g_law_deep : mg "_law_deep" = some (.ref (He.ga K "_law_deep"))
  g_law_least_clash : mg "_law_least_clash" = some (.ref (He.ga K "_law_least_clash"))
  g_law_is_text : mg "_law_is_text" = some (.ref (He.ga K "_law_is_text"))
  g_law_is_stretch : mg "_law_is_stretch" = some (.ref (He.ga K "_law_is_stretch"))
  g_law_due : mg "_law_due" = some (.ref (He.ga K "_law_due"))
  g_law_bent : mg "_law_bent" = some (.ref (He.ga K "_law_bent"))
  g_law_told : mg "_law_told" = some (.ref (He.ga K "_law_told"))
  g_law : mg "law" = some (.ref (He.ga K "law"))
  n_isinstance : mg "isinstance" = none
  n_int : mg "int" = none
  n_bool : mg "bool" = none
  n_str : mg "str" = none
  n_all : mg "all" = none
  n_len : mg "len" = none
  n_zip : mg "zip" = none
  n_sorted : mg "sorted" = none
  n_set : mg "set" = none
  n_list : mg "list" = none
  n_range : mg "range" = none
  n_tuple : mg "tuple" = none
  n_abs : mg "abs" = none
  n_dict : mg "dict" = none
  n_any : mg "any" = none
  n_min : mg "min" = none
  cl_Web : Cls K (He.ga K "Web")
  na_Web_points : NoAttr K (He.ga K "Web") "points"
  na_Web_arrows : NoAttr K (He.ga K "Web") "arrows"
  na_Web_onward : NoAttr K (He.ga K "Web") "onward"
  na_Web_backward : NoAttr K (He.ga K "Web") "backward"
  mk_Web : Mk K (He.ga K "Web") (He.ma K (He.ga K "Web") "__init__")
  mt_Web_lay : Meth K (He.ga K "Web") "lay" (He.ma K (He.ga K "Web") "lay")
  cl_Book : Cls K (He.ga K "Book")
  na_Book_web : NoAttr K (He.ga K "Book") "web"
  na_Book_words : NoAttr K (He.ga K "Book") "words"
  mk_Book : Mk K (He.ga K "Book") (He.ma K (He.ga K "Book") "__init__")
  em_BadBook_BadBook : PySem.W.exmOne K (.ref (He.ga K "BadBook")) (.ref (He.ga K "BadBook")) = some true
  in_Web : InsK K (He.ga K "Web")
  kt_Web_str : PySem.W.kitOne K (.ref (He.ga K "Web")) (.type "str") = some false
  kt_Web_tuple : PySem.W.kitOne K (.ref (He.ga K "Web")) (.type "tuple") = some false
  in_Book : InsK K (He.ga K "Book")
  ox_BadBook : OexC K (He.ga K "BadBook")
  ih_BadBook : PySem.W.findIn K (.ref (He.ga K "BadBook")) "__init__" = some (some (.ref (He.ma K (He.ga K "BadBook") "__init__"))) ∧ PySem.W.typeIn K (.ref (He.ma K (He.ga K "BadBook") "__init__")) = some (.type "function")
  xf_BadBook_part : XfC K (He.ga K "BadBook") ∧ PySem.W.findIn K (.ref (He.ga K "BadBook")) "part" = some none
  oe_Web : OwnEqM K (He.ga K "Web") (He.ma K (He.ga K "Web") "__eq__")
  oe_Book : OwnEqM K (He.ga K "Book") (He.ma K (He.ga K "Book") "__eq__")
  on_Book : PySem.W.findIn K (.ref (He.ga K "Book")) "__ne__" = some (some (.builtin "object.__ne__"))
  oc_Web_Book : OtcK K (He.ga K "Web") (He.ga K "Book")
  ot_Book : OthK K (He.ga K "Book")
section
variable {P : Program} {w : World} {K : PySem.W.Frag} {mg : Str → Option Value} {base : Heap} {CX : CXT} {k : Nat} {sp : Sp}
theorem k_BadBook__init_ (T : Tx K mg) (len : ∀ vs H Q E, sp vs H Q E → vs.length = 2)
    (hb : ∀ (cdv : Value) (A : Around) (outer : List Env) (s : Shared) (H : Hp) (vs : List V) (Q : VK) (E : XK), Room k (A.deeper (envOfC "BadBook.__init__" (defScope s_BadBook__init_) s.heap.objs.size (He.fAd K ("BadBook", some "__init__")) cdv)) → sp vs H Q E →
      ∃ t, PSs (cxOf CX P w K mg base ["self", "part"] "BadBook.__init__" (defScope s_BadBook__init_) (He.fAd K ("BadBook", some "__init__")) cdv A outer s H E) (defBody s_BadBook__init_) t ∧ t { nx := fun _ H' => Q .non H', rt := Q } (start ["self", "part"] vs) H) :
    Fk P w K mg base CX (k + 1) (He.fAd K ("BadBook", some "__init__")) ["self", "part"] sp := by
  obtain ⟨fd, F⟩ := T.F_BadBook__init_
  exact ⟨⟨fd, F.ok c_BadBook__init_ len hb, F.bindsN fun _ _ _ _ _ _ us hl => match us, hl with | [_, _], _ => rfl⟩, F.kp⟩
theorem k0_BadBook__init_ (T : Tx K mg) (len : ∀ vs H Q E, sp vs H Q E → vs.length = 2)
    (hb : ∀ (cdv : Value) (A : Around) (outer : List Env) (s : Shared) (H : Hp) (vs : List V) (Q : VK) (E : XK), Room k (A.deeper (envOfC "BadBook.__init__" (defScope s_BadBook__init_) s.heap.objs.size (He.fAd K ("BadBook", some "__init__")) cdv)) → sp vs H Q E →
      ∃ t, PSs (cxOf CX0 P w K mg base ["self", "part"] "BadBook.__init__" (defScope s_BadBook__init_) (He.fAd K ("BadBook", some "__init__")) cdv A outer s H E).nox (defBody s_BadBook__init_) t ∧ t { nx := fun _ H' => Q .non H', rt := Q } (start ["self", "part"] vs) H) :
    Fk P w K mg base CX0 (k + 1) (He.fAd K ("BadBook", some "__init__")) ["self", "part"] sp :=
  k_BadBook__init_ T len fun cdv A outer s H vs Q E hr h => let ⟨t, a, b⟩ := hb cdv A outer s H vs Q E hr h; ⟨t, a.nox, b⟩
theorem k_is_integer (T : Tx K mg) (len : ∀ vs H Q E, sp vs H Q E → vs.length = 1)
    (hb : ∀ (cdv : Value) (A : Around) (outer : List Env) (s : Shared) (H : Hp) (vs : List V) (Q : VK) (E : XK), Room k (A.deeper (envOfC "is_integer" (defScope s_is_integer) s.heap.objs.size (He.fAd K ("is_integer", none)) cdv)) → sp vs H Q E →
      ∃ t, PSs (cxOf CX P w K mg base ["thing"] "is_integer" (defScope s_is_integer) (He.fAd K ("is_integer", none)) cdv A outer s H E) (defBody s_is_integer) t ∧ t { nx := fun _ H' => Q .non H', rt := Q } (start ["thing"] vs) H) :
    Fk P w K mg base CX (k + 1) (He.fAd K ("is_integer", none)) ["thing"] sp := by
  obtain ⟨fd, F⟩ := T.F_is_integer
  exact ⟨⟨fd, F.ok c_is_integer len hb, F.bindsN fun _ _ _ _ _ _ us hl => match us, hl with | [_], _ => rfl⟩, F.kp⟩
theorem k0_is_integer (T : Tx K mg) (len : ∀ vs H Q E, sp vs H Q E → vs.length = 1)
    (hb : ∀ (cdv : Value) (A : Around) (outer : List Env) (s : Shared) (H : Hp) (vs : List V) (Q : VK) (E : XK), Room k (A.deeper (envOfC "is_integer" (defScope s_is_integer) s.heap.objs.size (He.fAd K ("is_integer", none)) cdv)) → sp vs H Q E →
      ∃ t, PSs (cxOf CX0 P w K mg base ["thing"] "is_integer" (defScope s_is_integer) (He.fAd K ("is_integer", none)) cdv A outer s H E).nox (defBody s_is_integer) t ∧ t { nx := fun _ H' => Q .non H', rt := Q } (start ["thing"] vs) H) :
    Fk P w K mg base CX0 (k + 1) (He.fAd K ("is_integer", none)) ["thing"] sp :=
  k_is_integer T len fun cdv A outer s H vs Q E hr h => let ⟨t, a, b⟩ := hb cdv A outer s H vs Q E hr h; ⟨t, a.nox, b⟩
theorem k_is_number (T : Tx K mg) (len : ∀ vs H Q E, sp vs H Q E → vs.length = 3)
    (hb : ∀ (cdv : Value) (A : Around) (outer : List Env) (s : Shared) (H : Hp) (vs : List V) (Q : VK) (E : XK), Room k (A.deeper (envOfC "is_number" (defScope s_is_number) s.heap.objs.size (He.fAd K ("is_number", none)) cdv)) → sp vs H Q E →
      ∃ t, PSs (cxOf CX P w K mg base ["least", "most", "thing"] "is_number" (defScope s_is_number) (He.fAd K ("is_number", none)) cdv A outer s H E) (defBody s_is_number) t ∧ t { nx := fun _ H' => Q .non H', rt := Q } (start ["least", "most", "thing"] vs) H) :
    Fk P w K mg base CX (k + 1) (He.fAd K ("is_number", none)) ["least", "most", "thing"] sp := by
  obtain ⟨fd, F⟩ := T.F_is_number
  exact ⟨⟨fd, F.ok c_is_number len hb, F.bindsN fun _ _ _ _ _ _ us hl => match us, hl with | [_, _, _], _ => rfl⟩, F.kp⟩
theorem k0_is_number (T : Tx K mg) (len : ∀ vs H Q E, sp vs H Q E → vs.length = 3)
    (hb : ∀ (cdv : Value) (A : Around) (outer : List Env) (s : Shared) (H : Hp) (vs : List V) (Q : VK) (E : XK), Room k (A.deeper (envOfC "is_number" (defScope s_is_number) s.heap.objs.size (He.fAd K ("is_number", none)) cdv)) → sp vs H Q E →
      ∃ t, PSs (cxOf CX0 P w K mg base ["least", "most", "thing"] "is_number" (defScope s_is_number) (He.fAd K ("is_number", none)) cdv A outer s H E).nox (defBody s_is_number) t ∧ t { nx := fun _ H' => Q .non H', rt := Q } (start ["least", "most", "thing"] vs) H) :
    Fk P w K mg base CX0 (k + 1) (He.fAd K ("is_number", none)) ["least", "most", "thing"] sp :=
  k_is_number T len fun cdv A outer s H vs Q E hr h => let ⟨t, a, b⟩ := hb cdv A outer s H vs Q E hr h; ⟨t, a.nox, b⟩
theorem k_is_text (T : Tx K mg) (len : ∀ vs H Q E, sp vs H Q E → vs.length = 1)
    (hb : ∀ (cdv : Value) (A : Around) (outer : List Env) (s : Shared) (H : Hp) (vs : List V) (Q : VK) (E : XK), Room k (A.deeper (envOfC "is_text" (defScope s_is_text) s.heap.objs.size (He.fAd K ("is_text", none)) cdv)) → sp vs H Q E →
      ∃ t, PSs (cxOf CX P w K mg base ["thing", "sign"] "is_text" (defScope s_is_text) (He.fAd K ("is_text", none)) cdv A outer s H E) (defBody s_is_text) t ∧ t { nx := fun _ H' => Q .non H', rt := Q } (start ["thing", "sign"] vs) H) :
    Fk P w K mg base CX (k + 1) (He.fAd K ("is_text", none)) ["thing"] sp := by
  obtain ⟨fd, F⟩ := T.F_is_text
  exact ⟨⟨fd, F.ok c_is_text len hb, F.bindsN fun _ _ _ _ _ _ us hl => match us, hl with | [_], _ => rfl⟩, F.kp⟩
theorem k0_is_text (T : Tx K mg) (len : ∀ vs H Q E, sp vs H Q E → vs.length = 1)
    (hb : ∀ (cdv : Value) (A : Around) (outer : List Env) (s : Shared) (H : Hp) (vs : List V) (Q : VK) (E : XK), Room k (A.deeper (envOfC "is_text" (defScope s_is_text) s.heap.objs.size (He.fAd K ("is_text", none)) cdv)) → sp vs H Q E →
      ∃ t, PSs (cxOf CX0 P w K mg base ["thing", "sign"] "is_text" (defScope s_is_text) (He.fAd K ("is_text", none)) cdv A outer s H E).nox (defBody s_is_text) t ∧ t { nx := fun _ H' => Q .non H', rt := Q } (start ["thing", "sign"] vs) H) :
    Fk P w K mg base CX0 (k + 1) (He.fAd K ("is_text", none)) ["thing"] sp :=
  k_is_text T len fun cdv A outer s H vs Q E hr h => let ⟨t, a, b⟩ := hb cdv A outer s H vs Q E hr h; ⟨t, a.nox, b⟩
theorem k_is_long_text (T : Tx K mg) (len : ∀ vs H Q E, sp vs H Q E → vs.length = 3)
    (hb : ∀ (cdv : Value) (A : Around) (outer : List Env) (s : Shared) (H : Hp) (vs : List V) (Q : VK) (E : XK), Room k (A.deeper (envOfC "is_long_text" (defScope s_is_long_text) s.heap.objs.size (He.fAd K ("is_long_text", none)) cdv)) → sp vs H Q E →
      ∃ t, PSs (cxOf CX P w K mg base ["least", "most", "thing"] "is_long_text" (defScope s_is_long_text) (He.fAd K ("is_long_text", none)) cdv A outer s H E) (defBody s_is_long_text) t ∧ t { nx := fun _ H' => Q .non H', rt := Q } (start ["least", "most", "thing"] vs) H) :
    Fk P w K mg base CX (k + 1) (He.fAd K ("is_long_text", none)) ["least", "most", "thing"] sp := by
  obtain ⟨fd, F⟩ := T.F_is_long_text
  exact ⟨⟨fd, F.ok c_is_long_text len hb, F.bindsN fun _ _ _ _ _ _ us hl => match us, hl with | [_, _, _], _ => rfl⟩, F.kp⟩
theorem k0_is_long_text (T : Tx K mg) (len : ∀ vs H Q E, sp vs H Q E → vs.length = 3)
    (hb : ∀ (cdv : Value) (A : Around) (outer : List Env) (s : Shared) (H : Hp) (vs : List V) (Q : VK) (E : XK), Room k (A.deeper (envOfC "is_long_text" (defScope s_is_long_text) s.heap.objs.size (He.fAd K ("is_long_text", none)) cdv)) → sp vs H Q E →
      ∃ t, PSs (cxOf CX0 P w K mg base ["least", "most", "thing"] "is_long_text" (defScope s_is_long_text) (He.fAd K ("is_long_text", none)) cdv A outer s H E).nox (defBody s_is_long_text) t ∧ t { nx := fun _ H' => Q .non H', rt := Q } (start ["least", "most", "thing"] vs) H) :
    Fk P w K mg base CX0 (k + 1) (He.fAd K ("is_long_text", none)) ["least", "most", "thing"] sp :=
  k_is_long_text T len fun cdv A outer s H vs Q E hr h => let ⟨t, a, b⟩ := hb cdv A outer s H vs Q E hr h; ⟨t, a.nox, b⟩
theorem k_is_letter (T : Tx K mg) (len : ∀ vs H Q E, sp vs H Q E → vs.length = 1)
    (hb : ∀ (cdv : Value) (A : Around) (outer : List Env) (s : Shared) (H : Hp) (vs : List V) (Q : VK) (E : XK), Room k (A.deeper (envOfC "is_letter" (defScope s_is_letter) s.heap.objs.size (He.fAd K ("is_letter", none)) cdv)) → sp vs H Q E →
      ∃ t, PSs (cxOf CX P w K mg base ["thing"] "is_letter" (defScope s_is_letter) (He.fAd K ("is_letter", none)) cdv A outer s H E) (defBody s_is_letter) t ∧ t { nx := fun _ H' => Q .non H', rt := Q } (start ["thing"] vs) H) :
    Fk P w K mg base CX (k + 1) (He.fAd K ("is_letter", none)) ["thing"] sp := by
  obtain ⟨fd, F⟩ := T.F_is_letter
  exact ⟨⟨fd, F.ok c_is_letter len hb, F.bindsN fun _ _ _ _ _ _ us hl => match us, hl with | [_], _ => rfl⟩, F.kp⟩
theorem k0_is_letter (T : Tx K mg) (len : ∀ vs H Q E, sp vs H Q E → vs.length = 1)
    (hb : ∀ (cdv : Value) (A : Around) (outer : List Env) (s : Shared) (H : Hp) (vs : List V) (Q : VK) (E : XK), Room k (A.deeper (envOfC "is_letter" (defScope s_is_letter) s.heap.objs.size (He.fAd K ("is_letter", none)) cdv)) → sp vs H Q E →
      ∃ t, PSs (cxOf CX0 P w K mg base ["thing"] "is_letter" (defScope s_is_letter) (He.fAd K ("is_letter", none)) cdv A outer s H E).nox (defBody s_is_letter) t ∧ t { nx := fun _ H' => Q .non H', rt := Q } (start ["thing"] vs) H) :
    Fk P w K mg base CX0 (k + 1) (He.fAd K ("is_letter", none)) ["thing"] sp :=
  k_is_letter T len fun cdv A outer s H vs Q E hr h => let ⟨t, a, b⟩ := hb cdv A outer s H vs Q E hr h; ⟨t, a.nox, b⟩
theorem k_are_ascending (T : Tx K mg) (len : ∀ vs H Q E, sp vs H Q E → vs.length = 1)
    (hb : ∀ (cdv : Value) (A : Around) (outer : List Env) (s : Shared) (H : Hp) (vs : List V) (Q : VK) (E : XK), Room k (A.deeper (envOfC "are_ascending" (defScope s_are_ascending) s.heap.objs.size (He.fAd K ("are_ascending", none)) cdv)) → sp vs H Q E →
      ∃ t, PSs (cxOf CX P w K mg base ["row", "one", "other"] "are_ascending" (defScope s_are_ascending) (He.fAd K ("are_ascending", none)) cdv A outer s H E) (defBody s_are_ascending) t ∧ t { nx := fun _ H' => Q .non H', rt := Q } (start ["row", "one", "other"] vs) H) :
    Fk P w K mg base CX (k + 1) (He.fAd K ("are_ascending", none)) ["row"] sp := by
  obtain ⟨fd, F⟩ := T.F_are_ascending
  exact ⟨⟨fd, F.ok c_are_ascending len hb, F.bindsN fun _ _ _ _ _ _ us hl => match us, hl with | [_], _ => rfl⟩, F.kp⟩
theorem k0_are_ascending (T : Tx K mg) (len : ∀ vs H Q E, sp vs H Q E → vs.length = 1)
    (hb : ∀ (cdv : Value) (A : Around) (outer : List Env) (s : Shared) (H : Hp) (vs : List V) (Q : VK) (E : XK), Room k (A.deeper (envOfC "are_ascending" (defScope s_are_ascending) s.heap.objs.size (He.fAd K ("are_ascending", none)) cdv)) → sp vs H Q E →
      ∃ t, PSs (cxOf CX0 P w K mg base ["row", "one", "other"] "are_ascending" (defScope s_are_ascending) (He.fAd K ("are_ascending", none)) cdv A outer s H E).nox (defBody s_are_ascending) t ∧ t { nx := fun _ H' => Q .non H', rt := Q } (start ["row", "one", "other"] vs) H) :
    Fk P w K mg base CX0 (k + 1) (He.fAd K ("are_ascending", none)) ["row"] sp :=
  k_are_ascending T len fun cdv A outer s H vs Q E hr h => let ⟨t, a, b⟩ := hb cdv A outer s H vs Q E hr h; ⟨t, a.nox, b⟩
theorem k_links (T : Tx K mg) (len : ∀ vs H Q E, sp vs H Q E → vs.length = 1)
    (hb : ∀ (cdv : Value) (A : Around) (outer : List Env) (s : Shared) (H : Hp) (vs : List V) (Q : VK) (E : XK), Room k (A.deeper (envOfC "links" (defScope s_links) s.heap.objs.size (He.fAd K ("links", none)) cdv)) → sp vs H Q E →
      ∃ t, PSs (cxOf CX P w K mg base ["steps", "found", "begin", "_", "end"] "links" (defScope s_links) (He.fAd K ("links", none)) cdv A outer s H E) (defBody s_links) t ∧ t { nx := fun _ H' => Q .non H', rt := Q } (start ["steps", "found", "begin", "_", "end"] vs) H) :
    Fk P w K mg base CX (k + 1) (He.fAd K ("links", none)) ["steps"] sp := by
  obtain ⟨fd, F⟩ := T.F_links
  exact ⟨⟨fd, F.ok c_links len hb, F.bindsN fun _ _ _ _ _ _ us hl => match us, hl with | [_], _ => rfl⟩, F.kp⟩
theorem k0_links (T : Tx K mg) (len : ∀ vs H Q E, sp vs H Q E → vs.length = 1)
    (hb : ∀ (cdv : Value) (A : Around) (outer : List Env) (s : Shared) (H : Hp) (vs : List V) (Q : VK) (E : XK), Room k (A.deeper (envOfC "links" (defScope s_links) s.heap.objs.size (He.fAd K ("links", none)) cdv)) → sp vs H Q E →
      ∃ t, PSs (cxOf CX0 P w K mg base ["steps", "found", "begin", "_", "end"] "links" (defScope s_links) (He.fAd K ("links", none)) cdv A outer s H E).nox (defBody s_links) t ∧ t { nx := fun _ H' => Q .non H', rt := Q } (start ["steps", "found", "begin", "_", "end"] vs) H) :
    Fk P w K mg base CX0 (k + 1) (He.fAd K ("links", none)) ["steps"] sp :=
  k_links T len fun cdv A outer s H vs Q E hr h => let ⟨t, a, b⟩ := hb cdv A outer s H vs Q E hr h; ⟨t, a.nox, b⟩
theorem k_led_back (T : Tx K mg) (len : ∀ vs H Q E, sp vs H Q E → vs.length = 1)
    (hb : ∀ (cdv : Value) (A : Around) (outer : List Env) (s : Shared) (H : Hp) (vs : List V) (Q : VK) (E : XK), Room k (A.deeper (envOfC "led_back" (defScope s_led_back) s.heap.objs.size (He.fAd K ("led_back", none)) cdv)) → sp vs H Q E →
      ∃ t, PSs (cxOf CX P w K mg base ["steps", "begin", "letter", "end"] "led_back" (defScope s_led_back) (He.fAd K ("led_back", none)) cdv A outer s H E) (defBody s_led_back) t ∧ t { nx := fun _ H' => Q .non H', rt := Q } (start ["steps", "begin", "letter", "end"] vs) H) :
    Fk P w K mg base CX (k + 1) (He.fAd K ("led_back", none)) ["steps"] sp := by
  obtain ⟨fd, F⟩ := T.F_led_back
  exact ⟨⟨fd, F.ok c_led_back len hb, F.bindsN fun _ _ _ _ _ _ us hl => match us, hl with | [_], _ => rfl⟩, F.kp⟩
theorem k0_led_back (T : Tx K mg) (len : ∀ vs H Q E, sp vs H Q E → vs.length = 1)
    (hb : ∀ (cdv : Value) (A : Around) (outer : List Env) (s : Shared) (H : Hp) (vs : List V) (Q : VK) (E : XK), Room k (A.deeper (envOfC "led_back" (defScope s_led_back) s.heap.objs.size (He.fAd K ("led_back", none)) cdv)) → sp vs H Q E →
      ∃ t, PSs (cxOf CX0 P w K mg base ["steps", "begin", "letter", "end"] "led_back" (defScope s_led_back) (He.fAd K ("led_back", none)) cdv A outer s H E).nox (defBody s_led_back) t ∧ t { nx := fun _ H' => Q .non H', rt := Q } (start ["steps", "begin", "letter", "end"] vs) H) :
    Fk P w K mg base CX0 (k + 1) (He.fAd K ("led_back", none)) ["steps"] sp :=
  k_led_back T len fun cdv A outer s H vs Q E hr h => let ⟨t, a, b⟩ := hb cdv A outer s H vs Q E hr h; ⟨t, a.nox, b⟩
theorem k_reached (T : Tx K mg) (len : ∀ vs H Q E, sp vs H Q E → vs.length = 2)
    (hb : ∀ (cdv : Value) (A : Around) (outer : List Env) (s : Shared) (H : Hp) (vs : List V) (Q : VK) (E : XK), Room k (A.deeper (envOfC "reached" (defScope s_reached) s.heap.objs.size (He.fAd K ("reached", none)) cdv)) → sp vs H Q E →
      ∃ t, PSs (cxOf CX P w K mg base ["leading", "start", "found", "waiting", "begin", "end"] "reached" (defScope s_reached) (He.fAd K ("reached", none)) cdv A outer s H E) (defBody s_reached) t ∧ t { nx := fun _ H' => Q .non H', rt := Q } (start ["leading", "start", "found", "waiting", "begin", "end"] vs) H) :
    Fk P w K mg base CX (k + 1) (He.fAd K ("reached", none)) ["leading", "start"] sp := by
  obtain ⟨fd, F⟩ := T.F_reached
  exact ⟨⟨fd, F.ok c_reached len hb, F.bindsN fun _ _ _ _ _ _ us hl => match us, hl with | [_, _], _ => rfl⟩, F.kp⟩
theorem k0_reached (T : Tx K mg) (len : ∀ vs H Q E, sp vs H Q E → vs.length = 2)
    (hb : ∀ (cdv : Value) (A : Around) (outer : List Env) (s : Shared) (H : Hp) (vs : List V) (Q : VK) (E : XK), Room k (A.deeper (envOfC "reached" (defScope s_reached) s.heap.objs.size (He.fAd K ("reached", none)) cdv)) → sp vs H Q E →
      ∃ t, PSs (cxOf CX0 P w K mg base ["leading", "start", "found", "waiting", "begin", "end"] "reached" (defScope s_reached) (He.fAd K ("reached", none)) cdv A outer s H E).nox (defBody s_reached) t ∧ t { nx := fun _ H' => Q .non H', rt := Q } (start ["leading", "start", "found", "waiting", "begin", "end"] vs) H) :
    Fk P w K mg base CX0 (k + 1) (He.fAd K ("reached", none)) ["leading", "start"] sp :=
  k_reached T len fun cdv A outer s H vs Q E hr h => let ⟨t, a, b⟩ := hb cdv A outer s H vs Q E hr h; ⟨t, a.nox, b⟩
theorem k_all_joined (T : Tx K mg) (len : ∀ vs H Q E, sp vs H Q E → vs.length = 2)
    (hb : ∀ (cdv : Value) (A : Around) (outer : List Env) (s : Shared) (H : Hp) (vs : List V) (Q : VK) (E : XK), Room k (A.deeper (envOfC "all_joined" (defScope s_all_joined) s.heap.objs.size (He.fAd K ("all_joined", none)) cdv)) → sp vs H Q E →
      ∃ t, PSs (cxOf CX P w K mg base ["states", "steps", "ahead", "behind", "state"] "all_joined" (defScope s_all_joined) (He.fAd K ("all_joined", none)) cdv A outer s H E) (defBody s_all_joined) t ∧ t { nx := fun _ H' => Q .non H', rt := Q } (start ["states", "steps", "ahead", "behind", "state"] vs) H) :
    Fk P w K mg base CX (k + 1) (He.fAd K ("all_joined", none)) ["states", "steps"] sp := by
  obtain ⟨fd, F⟩ := T.F_all_joined
  exact ⟨⟨fd, F.ok c_all_joined len hb, F.bindsN fun _ _ _ _ _ _ us hl => match us, hl with | [_, _], _ => rfl⟩, F.kp⟩
theorem k0_all_joined (T : Tx K mg) (len : ∀ vs H Q E, sp vs H Q E → vs.length = 2)
    (hb : ∀ (cdv : Value) (A : Around) (outer : List Env) (s : Shared) (H : Hp) (vs : List V) (Q : VK) (E : XK), Room k (A.deeper (envOfC "all_joined" (defScope s_all_joined) s.heap.objs.size (He.fAd K ("all_joined", none)) cdv)) → sp vs H Q E →
      ∃ t, PSs (cxOf CX0 P w K mg base ["states", "steps", "ahead", "behind", "state"] "all_joined" (defScope s_all_joined) (He.fAd K ("all_joined", none)) cdv A outer s H E).nox (defBody s_all_joined) t ∧ t { nx := fun _ H' => Q .non H', rt := Q } (start ["states", "steps", "ahead", "behind", "state"] vs) H) :
    Fk P w K mg base CX0 (k + 1) (He.fAd K ("all_joined", none)) ["states", "steps"] sp :=
  k_all_joined T len fun cdv A outer s H vs Q E hr h => let ⟨t, a, b⟩ := hb cdv A outer s H vs Q E hr h; ⟨t, a.nox, b⟩
theorem k_all_points (T : Tx K mg) (len : ∀ vs H Q E, sp vs H Q E → vs.length = 1)
    (hb : ∀ (cdv : Value) (A : Around) (outer : List Env) (s : Shared) (H : Hp) (vs : List V) (Q : VK) (E : XK), Room k (A.deeper (envOfC "all_points" (defScope s_all_points) s.heap.objs.size (He.fAd K ("all_points", none)) cdv)) → sp vs H Q E →
      ∃ t, PSs (cxOf CX P w K mg base ["web"] "all_points" (defScope s_all_points) (He.fAd K ("all_points", none)) cdv A outer s H E) (defBody s_all_points) t ∧ t { nx := fun _ H' => Q .non H', rt := Q } (start ["web"] vs) H) :
    Fk P w K mg base CX (k + 1) (He.fAd K ("all_points", none)) ["web"] sp := by
  obtain ⟨fd, F⟩ := T.F_all_points
  exact ⟨⟨fd, F.ok c_all_points len hb, F.bindsN fun _ _ _ _ _ _ us hl => match us, hl with | [_], _ => rfl⟩, F.kp⟩
theorem k0_all_points (T : Tx K mg) (len : ∀ vs H Q E, sp vs H Q E → vs.length = 1)
    (hb : ∀ (cdv : Value) (A : Around) (outer : List Env) (s : Shared) (H : Hp) (vs : List V) (Q : VK) (E : XK), Room k (A.deeper (envOfC "all_points" (defScope s_all_points) s.heap.objs.size (He.fAd K ("all_points", none)) cdv)) → sp vs H Q E →
      ∃ t, PSs (cxOf CX0 P w K mg base ["web"] "all_points" (defScope s_all_points) (He.fAd K ("all_points", none)) cdv A outer s H E).nox (defBody s_all_points) t ∧ t { nx := fun _ H' => Q .non H', rt := Q } (start ["web"] vs) H) :
    Fk P w K mg base CX0 (k + 1) (He.fAd K ("all_points", none)) ["web"] sp :=
  k_all_points T len fun cdv A outer s H vs Q E hr h => let ⟨t, a, b⟩ := hb cdv A outer s H vs Q E hr h; ⟨t, a.nox, b⟩
theorem k_moved (T : Tx K mg) (len : ∀ vs H Q E, sp vs H Q E → vs.length = 2)
    (hb : ∀ (cdv : Value) (A : Around) (outer : List Env) (s : Shared) (H : Hp) (vs : List V) (Q : VK) (E : XK), Room k (A.deeper (envOfC "moved" (defScope s_moved) s.heap.objs.size (He.fAd K ("moved", none)) cdv)) → sp vs H Q E →
      ∃ t, PSs (cxOf CX P w K mg base ["row", "mask", "found", "lowest"] "moved" (defScope s_moved) (He.fAd K ("moved", none)) cdv A outer s H E) (defBody s_moved) t ∧ t { nx := fun _ H' => Q .non H', rt := Q } (start ["row", "mask", "found", "lowest"] vs) H) :
    Fk P w K mg base CX (k + 1) (He.fAd K ("moved", none)) ["row", "mask"] sp := by
  obtain ⟨fd, F⟩ := T.F_moved
  exact ⟨⟨fd, F.ok c_moved len hb, F.bindsN fun _ _ _ _ _ _ us hl => match us, hl with | [_, _], _ => rfl⟩, F.kp⟩
theorem k0_moved (T : Tx K mg) (len : ∀ vs H Q E, sp vs H Q E → vs.length = 2)
    (hb : ∀ (cdv : Value) (A : Around) (outer : List Env) (s : Shared) (H : Hp) (vs : List V) (Q : VK) (E : XK), Room k (A.deeper (envOfC "moved" (defScope s_moved) s.heap.objs.size (He.fAd K ("moved", none)) cdv)) → sp vs H Q E →
      ∃ t, PSs (cxOf CX0 P w K mg base ["row", "mask", "found", "lowest"] "moved" (defScope s_moved) (He.fAd K ("moved", none)) cdv A outer s H E).nox (defBody s_moved) t ∧ t { nx := fun _ H' => Q .non H', rt := Q } (start ["row", "mask", "found", "lowest"] vs) H) :
    Fk P w K mg base CX0 (k + 1) (He.fAd K ("moved", none)) ["row", "mask"] sp :=
  k_moved T len fun cdv A outer s H vs Q E hr h => let ⟨t, a, b⟩ := hb cdv A outer s H vs Q E hr h; ⟨t, a.nox, b⟩
theorem k_step (T : Tx K mg) (len : ∀ vs H Q E, sp vs H Q E → vs.length = 3)
    (hb : ∀ (cdv : Value) (A : Around) (outer : List Env) (s : Shared) (H : Hp) (vs : List V) (Q : VK) (E : XK), Room k (A.deeper (envOfC "step" (defScope s_step) s.heap.objs.size (He.fAd K ("step", none)) cdv)) → sp vs H Q E →
      ∃ t, PSs (cxOf CX P w K mg base ["rows", "mask", "letter", "row"] "step" (defScope s_step) (He.fAd K ("step", none)) cdv A outer s H E) (defBody s_step) t ∧ t { nx := fun _ H' => Q .non H', rt := Q } (start ["rows", "mask", "letter", "row"] vs) H) :
    Fk P w K mg base CX (k + 1) (He.fAd K ("step", none)) ["rows", "mask", "letter"] sp := by
  obtain ⟨fd, F⟩ := T.F_step
  exact ⟨⟨fd, F.ok c_step len hb, F.bindsN fun _ _ _ _ _ _ us hl => match us, hl with | [_, _, _], _ => rfl⟩, F.kp⟩
theorem k0_step (T : Tx K mg) (len : ∀ vs H Q E, sp vs H Q E → vs.length = 3)
    (hb : ∀ (cdv : Value) (A : Around) (outer : List Env) (s : Shared) (H : Hp) (vs : List V) (Q : VK) (E : XK), Room k (A.deeper (envOfC "step" (defScope s_step) s.heap.objs.size (He.fAd K ("step", none)) cdv)) → sp vs H Q E →
      ∃ t, PSs (cxOf CX0 P w K mg base ["rows", "mask", "letter", "row"] "step" (defScope s_step) (He.fAd K ("step", none)) cdv A outer s H E).nox (defBody s_step) t ∧ t { nx := fun _ H' => Q .non H', rt := Q } (start ["rows", "mask", "letter", "row"] vs) H) :
    Fk P w K mg base CX0 (k + 1) (He.fAd K ("step", none)) ["rows", "mask", "letter"] sp :=
  k_step T len fun cdv A outer s H vs Q E hr h => let ⟨t, a, b⟩ := hb cdv A outer s H vs Q E hr h; ⟨t, a.nox, b⟩
theorem k_walked (T : Tx K mg) (len : ∀ vs H Q E, sp vs H Q E → vs.length = 3)
    (hb : ∀ (cdv : Value) (A : Around) (outer : List Env) (s : Shared) (H : Hp) (vs : List V) (Q : VK) (E : XK), Room k (A.deeper (envOfC "walked" (defScope s_walked) s.heap.objs.size (He.fAd K ("walked", none)) cdv)) → sp vs H Q E →
      ∃ t, PSs (cxOf CX P w K mg base ["web", "mask", "text", "letter"] "walked" (defScope s_walked) (He.fAd K ("walked", none)) cdv A outer s H E) (defBody s_walked) t ∧ t { nx := fun _ H' => Q .non H', rt := Q } (start ["web", "mask", "text", "letter"] vs) H) :
    Fk P w K mg base CX (k + 1) (He.fAd K ("walked", none)) ["web", "mask", "text"] sp := by
  obtain ⟨fd, F⟩ := T.F_walked
  exact ⟨⟨fd, F.ok c_walked len hb, F.bindsN fun _ _ _ _ _ _ us hl => match us, hl with | [_, _, _], _ => rfl⟩, F.kp⟩
theorem k0_walked (T : Tx K mg) (len : ∀ vs H Q E, sp vs H Q E → vs.length = 3)
    (hb : ∀ (cdv : Value) (A : Around) (outer : List Env) (s : Shared) (H : Hp) (vs : List V) (Q : VK) (E : XK), Room k (A.deeper (envOfC "walked" (defScope s_walked) s.heap.objs.size (He.fAd K ("walked", none)) cdv)) → sp vs H Q E →
      ∃ t, PSs (cxOf CX0 P w K mg base ["web", "mask", "text", "letter"] "walked" (defScope s_walked) (He.fAd K ("walked", none)) cdv A outer s H E).nox (defBody s_walked) t ∧ t { nx := fun _ H' => Q .non H', rt := Q } (start ["web", "mask", "text", "letter"] vs) H) :
    Fk P w K mg base CX0 (k + 1) (He.fAd K ("walked", none)) ["web", "mask", "text"] sp :=
  k_walked T len fun cdv A outer s H vs Q E hr h => let ⟨t, a, b⟩ := hb cdv A outer s H vs Q E hr h; ⟨t, a.nox, b⟩
theorem k_Web__init_ (T : Tx K mg) (len : ∀ vs H Q E, sp vs H Q E → vs.length = 3)
    (hb : ∀ (cdv : Value) (A : Around) (outer : List Env) (s : Shared) (H : Hp) (vs : List V) (Q : VK) (E : XK), Room k (A.deeper (envOfC "Web.__init__" (defScope s_Web__init_) s.heap.objs.size (He.fAd K ("Web", some "__init__")) cdv)) → sp vs H Q E →
      ∃ t, PSs (cxOf CX P w K mg base ["self", "points", "arrows", "part"] "Web.__init__" (defScope s_Web__init_) (He.fAd K ("Web", some "__init__")) cdv A outer s H E) (defBody s_Web__init_) t ∧ t { nx := fun _ H' => Q .non H', rt := Q } (start ["self", "points", "arrows", "part"] vs) H) :
    Fk P w K mg base CX (k + 1) (He.fAd K ("Web", some "__init__")) ["self", "points", "arrows"] sp := by
  obtain ⟨fd, F⟩ := T.F_Web__init_
  exact ⟨⟨fd, F.ok c_Web__init_ len hb, F.bindsN fun _ _ _ _ _ _ us hl => match us, hl with | [_, _, _], _ => rfl⟩, F.kp⟩
theorem k0_Web__init_ (T : Tx K mg) (len : ∀ vs H Q E, sp vs H Q E → vs.length = 3)
    (hb : ∀ (cdv : Value) (A : Around) (outer : List Env) (s : Shared) (H : Hp) (vs : List V) (Q : VK) (E : XK), Room k (A.deeper (envOfC "Web.__init__" (defScope s_Web__init_) s.heap.objs.size (He.fAd K ("Web", some "__init__")) cdv)) → sp vs H Q E →
      ∃ t, PSs (cxOf CX0 P w K mg base ["self", "points", "arrows", "part"] "Web.__init__" (defScope s_Web__init_) (He.fAd K ("Web", some "__init__")) cdv A outer s H E).nox (defBody s_Web__init_) t ∧ t { nx := fun _ H' => Q .non H', rt := Q } (start ["self", "points", "arrows", "part"] vs) H) :
    Fk P w K mg base CX0 (k + 1) (He.fAd K ("Web", some "__init__")) ["self", "points", "arrows"] sp :=
  k_Web__init_ T len fun cdv A outer s H vs Q E hr h => let ⟨t, a, b⟩ := hb cdv A outer s H vs Q E hr h; ⟨t, a.nox, b⟩
theorem k_Web_lay (T : Tx K mg) (len : ∀ vs H Q E, sp vs H Q E → vs.length = 3)
    (hb : ∀ (cdv : Value) (A : Around) (outer : List Env) (s : Shared) (H : Hp) (vs : List V) (Q : VK) (E : XK), Room k (A.deeper (envOfC "Web.lay" (defScope s_Web_lay) s.heap.objs.size (He.fAd K ("Web", some "lay")) cdv)) → sp vs H Q E →
      ∃ t, PSs (cxOf CX P w K mg base ["self", "points", "arrows"] "Web.lay" (defScope s_Web_lay) (He.fAd K ("Web", some "lay")) cdv A outer s H E) (defBody s_Web_lay) t ∧ t { nx := fun _ H' => Q .non H', rt := Q } (start ["self", "points", "arrows"] vs) H) :
    Fk P w K mg base CX (k + 1) (He.fAd K ("Web", some "lay")) ["self", "points", "arrows"] sp := by
  obtain ⟨fd, F⟩ := T.F_Web_lay
  exact ⟨⟨fd, F.ok c_Web_lay len hb, F.bindsN fun _ _ _ _ _ _ us hl => match us, hl with | [_, _, _], _ => rfl⟩, F.kp⟩
theorem k0_Web_lay (T : Tx K mg) (len : ∀ vs H Q E, sp vs H Q E → vs.length = 3)
    (hb : ∀ (cdv : Value) (A : Around) (outer : List Env) (s : Shared) (H : Hp) (vs : List V) (Q : VK) (E : XK), Room k (A.deeper (envOfC "Web.lay" (defScope s_Web_lay) s.heap.objs.size (He.fAd K ("Web", some "lay")) cdv)) → sp vs H Q E →
      ∃ t, PSs (cxOf CX0 P w K mg base ["self", "points", "arrows"] "Web.lay" (defScope s_Web_lay) (He.fAd K ("Web", some "lay")) cdv A outer s H E).nox (defBody s_Web_lay) t ∧ t { nx := fun _ H' => Q .non H', rt := Q } (start ["self", "points", "arrows"] vs) H) :
    Fk P w K mg base CX0 (k + 1) (He.fAd K ("Web", some "lay")) ["self", "points", "arrows"] sp :=
  k_Web_lay T len fun cdv A outer s H vs Q E hr h => let ⟨t, a, b⟩ := hb cdv A outer s H vs Q E hr h; ⟨t, a.nox, b⟩
theorem k_Web__eq_ (T : Tx K mg) (len : ∀ vs H Q E, sp vs H Q E → vs.length = 2)
    (hb : ∀ (cdv : Value) (A : Around) (outer : List Env) (s : Shared) (H : Hp) (vs : List V) (Q : VK) (E : XK), Room k (A.deeper (envOfC "Web.__eq__" (defScope s_Web__eq_) s.heap.objs.size (He.fAd K ("Web", some "__eq__")) cdv)) → sp vs H Q E →
      ∃ t, PSs (cxOf CX P w K mg base ["self", "other"] "Web.__eq__" (defScope s_Web__eq_) (He.fAd K ("Web", some "__eq__")) cdv A outer s H E) (defBody s_Web__eq_) t ∧ t { nx := fun _ H' => Q .non H', rt := Q } (start ["self", "other"] vs) H) :
    Fk P w K mg base CX (k + 1) (He.fAd K ("Web", some "__eq__")) ["self", "other"] sp := by
  obtain ⟨fd, F⟩ := T.F_Web__eq_
  exact ⟨⟨fd, F.ok c_Web__eq_ len hb, F.bindsN fun _ _ _ _ _ _ us hl => match us, hl with | [_, _], _ => rfl⟩, F.kp⟩
theorem k0_Web__eq_ (T : Tx K mg) (len : ∀ vs H Q E, sp vs H Q E → vs.length = 2)
    (hb : ∀ (cdv : Value) (A : Around) (outer : List Env) (s : Shared) (H : Hp) (vs : List V) (Q : VK) (E : XK), Room k (A.deeper (envOfC "Web.__eq__" (defScope s_Web__eq_) s.heap.objs.size (He.fAd K ("Web", some "__eq__")) cdv)) → sp vs H Q E →
      ∃ t, PSs (cxOf CX0 P w K mg base ["self", "other"] "Web.__eq__" (defScope s_Web__eq_) (He.fAd K ("Web", some "__eq__")) cdv A outer s H E).nox (defBody s_Web__eq_) t ∧ t { nx := fun _ H' => Q .non H', rt := Q } (start ["self", "other"] vs) H) :
    Fk P w K mg base CX0 (k + 1) (He.fAd K ("Web", some "__eq__")) ["self", "other"] sp :=
  k_Web__eq_ T len fun cdv A outer s H vs Q E hr h => let ⟨t, a, b⟩ := hb cdv A outer s H vs Q E hr h; ⟨t, a.nox, b⟩
theorem k_letter_rows (T : Tx K mg) (len : ∀ vs H Q E, sp vs H Q E → vs.length = 2)
    (hb : ∀ (cdv : Value) (A : Around) (outer : List Env) (s : Shared) (H : Hp) (vs : List V) (Q : VK) (E : XK), Room k (A.deeper (envOfC "letter_rows" (defScope s_letter_rows) s.heap.objs.size (He.fAd K ("letter_rows", none)) cdv)) → sp vs H Q E →
      ∃ t, PSs (cxOf CX P w K mg base ["points", "arrows", "rows", "begin", "letter", "end", "_"] "letter_rows" (defScope s_letter_rows) (He.fAd K ("letter_rows", none)) cdv A outer s H E) (defBody s_letter_rows) t ∧ t { nx := fun _ H' => Q .non H', rt := Q } (start ["points", "arrows", "rows", "begin", "letter", "end", "_"] vs) H) :
    Fk P w K mg base CX (k + 1) (He.fAd K ("letter_rows", none)) ["points", "arrows"] sp := by
  obtain ⟨fd, F⟩ := T.F_letter_rows
  exact ⟨⟨fd, F.ok c_letter_rows len hb, F.bindsN fun _ _ _ _ _ _ us hl => match us, hl with | [_, _], _ => rfl⟩, F.kp⟩
theorem k0_letter_rows (T : Tx K mg) (len : ∀ vs H Q E, sp vs H Q E → vs.length = 2)
    (hb : ∀ (cdv : Value) (A : Around) (outer : List Env) (s : Shared) (H : Hp) (vs : List V) (Q : VK) (E : XK), Room k (A.deeper (envOfC "letter_rows" (defScope s_letter_rows) s.heap.objs.size (He.fAd K ("letter_rows", none)) cdv)) → sp vs H Q E →
      ∃ t, PSs (cxOf CX0 P w K mg base ["points", "arrows", "rows", "begin", "letter", "end", "_"] "letter_rows" (defScope s_letter_rows) (He.fAd K ("letter_rows", none)) cdv A outer s H E).nox (defBody s_letter_rows) t ∧ t { nx := fun _ H' => Q .non H', rt := Q } (start ["points", "arrows", "rows", "begin", "letter", "end", "_"] vs) H) :
    Fk P w K mg base CX0 (k + 1) (He.fAd K ("letter_rows", none)) ["points", "arrows"] sp :=
  k_letter_rows T len fun cdv A outer s H vs Q E hr h => let ⟨t, a, b⟩ := hb cdv A outer s H vs Q E hr h; ⟨t, a.nox, b⟩
theorem k_wrong_part_webs (T : Tx K mg) (len : ∀ vs H Q E, sp vs H Q E → vs.length = 2)
    (hb : ∀ (cdv : Value) (A : Around) (outer : List Env) (s : Shared) (H : Hp) (vs : List V) (Q : VK) (E : XK), Room k (A.deeper (envOfC "wrong_part" (defScope s_wrong_part_webs) s.heap.objs.size (He.fAd K ("wrong_part_webs", none)) cdv)) → sp vs H Q E →
      ∃ t, PSs (cxOf CX P w K mg base ["points", "arrows"] "wrong_part" (defScope s_wrong_part_webs) (He.fAd K ("wrong_part_webs", none)) cdv A outer s H E) (defBody s_wrong_part_webs) t ∧ t { nx := fun _ H' => Q .non H', rt := Q } (start ["points", "arrows"] vs) H) :
    Fk P w K mg base CX (k + 1) (He.fAd K ("wrong_part_webs", none)) ["points", "arrows"] sp := by
  obtain ⟨fd, F⟩ := T.F_wrong_part_webs
  exact ⟨⟨fd, F.ok c_wrong_part_webs len hb, F.bindsN fun _ _ _ _ _ _ us hl => match us, hl with | [_, _], _ => rfl⟩, F.kp⟩
theorem k0_wrong_part_webs (T : Tx K mg) (len : ∀ vs H Q E, sp vs H Q E → vs.length = 2)
    (hb : ∀ (cdv : Value) (A : Around) (outer : List Env) (s : Shared) (H : Hp) (vs : List V) (Q : VK) (E : XK), Room k (A.deeper (envOfC "wrong_part" (defScope s_wrong_part_webs) s.heap.objs.size (He.fAd K ("wrong_part_webs", none)) cdv)) → sp vs H Q E →
      ∃ t, PSs (cxOf CX0 P w K mg base ["points", "arrows"] "wrong_part" (defScope s_wrong_part_webs) (He.fAd K ("wrong_part_webs", none)) cdv A outer s H E).nox (defBody s_wrong_part_webs) t ∧ t { nx := fun _ H' => Q .non H', rt := Q } (start ["points", "arrows"] vs) H) :
    Fk P w K mg base CX0 (k + 1) (He.fAd K ("wrong_part_webs", none)) ["points", "arrows"] sp :=
  k_wrong_part_webs T len fun cdv A outer s H vs Q E hr h => let ⟨t, a, b⟩ := hb cdv A outer s H vs Q E hr h; ⟨t, a.nox, b⟩
theorem k_are_arrows (T : Tx K mg) (len : ∀ vs H Q E, sp vs H Q E → vs.length = 2)
    (hb : ∀ (cdv : Value) (A : Around) (outer : List Env) (s : Shared) (H : Hp) (vs : List V) (Q : VK) (E : XK), Room k (A.deeper (envOfC "are_arrows" (defScope s_are_arrows) s.heap.objs.size (He.fAd K ("are_arrows", none)) cdv)) → sp vs H Q E →
      ∃ t, PSs (cxOf CX P w K mg base ["points", "thing", "item"] "are_arrows" (defScope s_are_arrows) (He.fAd K ("are_arrows", none)) cdv A outer s H E) (defBody s_are_arrows) t ∧ t { nx := fun _ H' => Q .non H', rt := Q } (start ["points", "thing", "item"] vs) H) :
    Fk P w K mg base CX (k + 1) (He.fAd K ("are_arrows", none)) ["points", "thing"] sp := by
  obtain ⟨fd, F⟩ := T.F_are_arrows
  exact ⟨⟨fd, F.ok c_are_arrows len hb, F.bindsN fun _ _ _ _ _ _ us hl => match us, hl with | [_, _], _ => rfl⟩, F.kp⟩
theorem k0_are_arrows (T : Tx K mg) (len : ∀ vs H Q E, sp vs H Q E → vs.length = 2)
    (hb : ∀ (cdv : Value) (A : Around) (outer : List Env) (s : Shared) (H : Hp) (vs : List V) (Q : VK) (E : XK), Room k (A.deeper (envOfC "are_arrows" (defScope s_are_arrows) s.heap.objs.size (He.fAd K ("are_arrows", none)) cdv)) → sp vs H Q E →
      ∃ t, PSs (cxOf CX0 P w K mg base ["points", "thing", "item"] "are_arrows" (defScope s_are_arrows) (He.fAd K ("are_arrows", none)) cdv A outer s H E).nox (defBody s_are_arrows) t ∧ t { nx := fun _ H' => Q .non H', rt := Q } (start ["points", "thing", "item"] vs) H) :
    Fk P w K mg base CX0 (k + 1) (He.fAd K ("are_arrows", none)) ["points", "thing"] sp :=
  k_are_arrows T len fun cdv A outer s H vs Q E hr h => let ⟨t, a, b⟩ := hb cdv A outer s H vs Q E hr h; ⟨t, a.nox, b⟩
theorem k_is_arrow (T : Tx K mg) (len : ∀ vs H Q E, sp vs H Q E → vs.length = 2)
    (hb : ∀ (cdv : Value) (A : Around) (outer : List Env) (s : Shared) (H : Hp) (vs : List V) (Q : VK) (E : XK), Room k (A.deeper (envOfC "is_arrow" (defScope s_is_arrow) s.heap.objs.size (He.fAd K ("is_arrow", none)) cdv)) → sp vs H Q E →
      ∃ t, PSs (cxOf CX P w K mg base ["points", "thing", "begin", "letter", "end"] "is_arrow" (defScope s_is_arrow) (He.fAd K ("is_arrow", none)) cdv A outer s H E) (defBody s_is_arrow) t ∧ t { nx := fun _ H' => Q .non H', rt := Q } (start ["points", "thing", "begin", "letter", "end"] vs) H) :
    Fk P w K mg base CX (k + 1) (He.fAd K ("is_arrow", none)) ["points", "thing"] sp := by
  obtain ⟨fd, F⟩ := T.F_is_arrow
  exact ⟨⟨fd, F.ok c_is_arrow len hb, F.bindsN fun _ _ _ _ _ _ us hl => match us, hl with | [_, _], _ => rfl⟩, F.kp⟩
theorem k0_is_arrow (T : Tx K mg) (len : ∀ vs H Q E, sp vs H Q E → vs.length = 2)
    (hb : ∀ (cdv : Value) (A : Around) (outer : List Env) (s : Shared) (H : Hp) (vs : List V) (Q : VK) (E : XK), Room k (A.deeper (envOfC "is_arrow" (defScope s_is_arrow) s.heap.objs.size (He.fAd K ("is_arrow", none)) cdv)) → sp vs H Q E →
      ∃ t, PSs (cxOf CX0 P w K mg base ["points", "thing", "begin", "letter", "end"] "is_arrow" (defScope s_is_arrow) (He.fAd K ("is_arrow", none)) cdv A outer s H E).nox (defBody s_is_arrow) t ∧ t { nx := fun _ H' => Q .non H', rt := Q } (start ["points", "thing", "begin", "letter", "end"] vs) H) :
    Fk P w K mg base CX0 (k + 1) (He.fAd K ("is_arrow", none)) ["points", "thing"] sp :=
  k_is_arrow T len fun cdv A outer s H vs Q E hr h => let ⟨t, a, b⟩ := hb cdv A outer s H vs Q E hr h; ⟨t, a.nox, b⟩
theorem k_is_stretch (T : Tx K mg) (len : ∀ vs H Q E, sp vs H Q E → vs.length = 2)
    (hb : ∀ (cdv : Value) (A : Around) (outer : List Env) (s : Shared) (H : Hp) (vs : List V) (Q : VK) (E : XK), Room k (A.deeper (envOfC "is_stretch" (defScope s_is_stretch) s.heap.objs.size (He.fAd K ("is_stretch", none)) cdv)) → sp vs H Q E →
      ∃ t, PSs (cxOf CX P w K mg base ["web", "thing"] "is_stretch" (defScope s_is_stretch) (He.fAd K ("is_stretch", none)) cdv A outer s H E) (defBody s_is_stretch) t ∧ t { nx := fun _ H' => Q .non H', rt := Q } (start ["web", "thing"] vs) H) :
    Fk P w K mg base CX (k + 1) (He.fAd K ("is_stretch", none)) ["web", "thing"] sp := by
  obtain ⟨fd, F⟩ := T.F_is_stretch
  exact ⟨⟨fd, F.ok c_is_stretch len hb, F.bindsN fun _ _ _ _ _ _ us hl => match us, hl with | [_, _], _ => rfl⟩, F.kp⟩
theorem k0_is_stretch (T : Tx K mg) (len : ∀ vs H Q E, sp vs H Q E → vs.length = 2)
    (hb : ∀ (cdv : Value) (A : Around) (outer : List Env) (s : Shared) (H : Hp) (vs : List V) (Q : VK) (E : XK), Room k (A.deeper (envOfC "is_stretch" (defScope s_is_stretch) s.heap.objs.size (He.fAd K ("is_stretch", none)) cdv)) → sp vs H Q E →
      ∃ t, PSs (cxOf CX0 P w K mg base ["web", "thing"] "is_stretch" (defScope s_is_stretch) (He.fAd K ("is_stretch", none)) cdv A outer s H E).nox (defBody s_is_stretch) t ∧ t { nx := fun _ H' => Q .non H', rt := Q } (start ["web", "thing"] vs) H) :
    Fk P w K mg base CX0 (k + 1) (He.fAd K ("is_stretch", none)) ["web", "thing"] sp :=
  k_is_stretch T len fun cdv A outer s H vs Q E hr h => let ⟨t, a, b⟩ := hb cdv A outer s H vs Q E hr h; ⟨t, a.nox, b⟩
theorem k_Book__init_ (T : Tx K mg) (len : ∀ vs H Q E, sp vs H Q E → vs.length = 3)
    (hb : ∀ (cdv : Value) (A : Around) (outer : List Env) (s : Shared) (H : Hp) (vs : List V) (Q : VK) (E : XK), Room k (A.deeper (envOfC "Book.__init__" (defScope s_Book__init_) s.heap.objs.size (He.fAd K ("Book", some "__init__")) cdv)) → sp vs H Q E →
      ∃ t, PSs (cxOf CX P w K mg base ["self", "web", "words", "part"] "Book.__init__" (defScope s_Book__init_) (He.fAd K ("Book", some "__init__")) cdv A outer s H E) (defBody s_Book__init_) t ∧ t { nx := fun _ H' => Q .non H', rt := Q } (start ["self", "web", "words", "part"] vs) H) :
    Fk P w K mg base CX (k + 1) (He.fAd K ("Book", some "__init__")) ["self", "web", "words"] sp := by
  obtain ⟨fd, F⟩ := T.F_Book__init_
  exact ⟨⟨fd, F.ok c_Book__init_ len hb, F.bindsN fun _ _ _ _ _ _ us hl => match us, hl with | [_, _, _], _ => rfl⟩, F.kp⟩
theorem k0_Book__init_ (T : Tx K mg) (len : ∀ vs H Q E, sp vs H Q E → vs.length = 3)
    (hb : ∀ (cdv : Value) (A : Around) (outer : List Env) (s : Shared) (H : Hp) (vs : List V) (Q : VK) (E : XK), Room k (A.deeper (envOfC "Book.__init__" (defScope s_Book__init_) s.heap.objs.size (He.fAd K ("Book", some "__init__")) cdv)) → sp vs H Q E →
      ∃ t, PSs (cxOf CX0 P w K mg base ["self", "web", "words", "part"] "Book.__init__" (defScope s_Book__init_) (He.fAd K ("Book", some "__init__")) cdv A outer s H E).nox (defBody s_Book__init_) t ∧ t { nx := fun _ H' => Q .non H', rt := Q } (start ["self", "web", "words", "part"] vs) H) :
    Fk P w K mg base CX0 (k + 1) (He.fAd K ("Book", some "__init__")) ["self", "web", "words"] sp :=
  k_Book__init_ T len fun cdv A outer s H vs Q E hr h => let ⟨t, a, b⟩ := hb cdv A outer s H vs Q E hr h; ⟨t, a.nox, b⟩
theorem k_Book__eq_ (T : Tx K mg) (len : ∀ vs H Q E, sp vs H Q E → vs.length = 2)
    (hb : ∀ (cdv : Value) (A : Around) (outer : List Env) (s : Shared) (H : Hp) (vs : List V) (Q : VK) (E : XK), Room k (A.deeper (envOfC "Book.__eq__" (defScope s_Book__eq_) s.heap.objs.size (He.fAd K ("Book", some "__eq__")) cdv)) → sp vs H Q E →
      ∃ t, PSs (cxOf CX P w K mg base ["self", "other"] "Book.__eq__" (defScope s_Book__eq_) (He.fAd K ("Book", some "__eq__")) cdv A outer s H E) (defBody s_Book__eq_) t ∧ t { nx := fun _ H' => Q .non H', rt := Q } (start ["self", "other"] vs) H) :
    Fk P w K mg base CX (k + 1) (He.fAd K ("Book", some "__eq__")) ["self", "other"] sp := by
  obtain ⟨fd, F⟩ := T.F_Book__eq_
  exact ⟨⟨fd, F.ok c_Book__eq_ len hb, F.bindsN fun _ _ _ _ _ _ us hl => match us, hl with | [_, _], _ => rfl⟩, F.kp⟩
theorem k0_Book__eq_ (T : Tx K mg) (len : ∀ vs H Q E, sp vs H Q E → vs.length = 2)
    (hb : ∀ (cdv : Value) (A : Around) (outer : List Env) (s : Shared) (H : Hp) (vs : List V) (Q : VK) (E : XK), Room k (A.deeper (envOfC "Book.__eq__" (defScope s_Book__eq_) s.heap.objs.size (He.fAd K ("Book", some "__eq__")) cdv)) → sp vs H Q E →
      ∃ t, PSs (cxOf CX0 P w K mg base ["self", "other"] "Book.__eq__" (defScope s_Book__eq_) (He.fAd K ("Book", some "__eq__")) cdv A outer s H E).nox (defBody s_Book__eq_) t ∧ t { nx := fun _ H' => Q .non H', rt := Q } (start ["self", "other"] vs) H) :
    Fk P w K mg base CX0 (k + 1) (He.fAd K ("Book", some "__eq__")) ["self", "other"] sp :=
  k_Book__eq_ T len fun cdv A outer s H vs Q E hr h => let ⟨t, a, b⟩ := hb cdv A outer s H vs Q E hr h; ⟨t, a.nox, b⟩
theorem k_wrong_part_books (T : Tx K mg) (len : ∀ vs H Q E, sp vs H Q E → vs.length = 2)
    (hb : ∀ (cdv : Value) (A : Around) (outer : List Env) (s : Shared) (H : Hp) (vs : List V) (Q : VK) (E : XK), Room k (A.deeper (envOfC "wrong_part" (defScope s_wrong_part_books) s.heap.objs.size (He.fAd K ("wrong_part_books", none)) cdv)) → sp vs H Q E →
      ∃ t, PSs (cxOf CX P w K mg base ["web", "words", "word"] "wrong_part" (defScope s_wrong_part_books) (He.fAd K ("wrong_part_books", none)) cdv A outer s H E) (defBody s_wrong_part_books) t ∧ t { nx := fun _ H' => Q .non H', rt := Q } (start ["web", "words", "word"] vs) H) :
    Fk P w K mg base CX (k + 1) (He.fAd K ("wrong_part_books", none)) ["web", "words"] sp := by
  obtain ⟨fd, F⟩ := T.F_wrong_part_books
  exact ⟨⟨fd, F.ok c_wrong_part_books len hb, F.bindsN fun _ _ _ _ _ _ us hl => match us, hl with | [_, _], _ => rfl⟩, F.kp⟩
theorem k0_wrong_part_books (T : Tx K mg) (len : ∀ vs H Q E, sp vs H Q E → vs.length = 2)
    (hb : ∀ (cdv : Value) (A : Around) (outer : List Env) (s : Shared) (H : Hp) (vs : List V) (Q : VK) (E : XK), Room k (A.deeper (envOfC "wrong_part" (defScope s_wrong_part_books) s.heap.objs.size (He.fAd K ("wrong_part_books", none)) cdv)) → sp vs H Q E →
      ∃ t, PSs (cxOf CX0 P w K mg base ["web", "words", "word"] "wrong_part" (defScope s_wrong_part_books) (He.fAd K ("wrong_part_books", none)) cdv A outer s H E).nox (defBody s_wrong_part_books) t ∧ t { nx := fun _ H' => Q .non H', rt := Q } (start ["web", "words", "word"] vs) H) :
    Fk P w K mg base CX0 (k + 1) (He.fAd K ("wrong_part_books", none)) ["web", "words"] sp :=
  k_wrong_part_books T len fun cdv A outer s H vs Q E hr h => let ⟨t, a, b⟩ := hb cdv A outer s H vs Q E hr h; ⟨t, a.nox, b⟩
theorem k_are_words (T : Tx K mg) (len : ∀ vs H Q E, sp vs H Q E → vs.length = 1)
    (hb : ∀ (cdv : Value) (A : Around) (outer : List Env) (s : Shared) (H : Hp) (vs : List V) (Q : VK) (E : XK), Room k (A.deeper (envOfC "are_words" (defScope s_are_words) s.heap.objs.size (He.fAd K ("are_words", none)) cdv)) → sp vs H Q E →
      ∃ t, PSs (cxOf CX P w K mg base ["thing", "item"] "are_words" (defScope s_are_words) (He.fAd K ("are_words", none)) cdv A outer s H E) (defBody s_are_words) t ∧ t { nx := fun _ H' => Q .non H', rt := Q } (start ["thing", "item"] vs) H) :
    Fk P w K mg base CX (k + 1) (He.fAd K ("are_words", none)) ["thing"] sp := by
  obtain ⟨fd, F⟩ := T.F_are_words
  exact ⟨⟨fd, F.ok c_are_words len hb, F.bindsN fun _ _ _ _ _ _ us hl => match us, hl with | [_], _ => rfl⟩, F.kp⟩
theorem k0_are_words (T : Tx K mg) (len : ∀ vs H Q E, sp vs H Q E → vs.length = 1)
    (hb : ∀ (cdv : Value) (A : Around) (outer : List Env) (s : Shared) (H : Hp) (vs : List V) (Q : VK) (E : XK), Room k (A.deeper (envOfC "are_words" (defScope s_are_words) s.heap.objs.size (He.fAd K ("are_words", none)) cdv)) → sp vs H Q E →
      ∃ t, PSs (cxOf CX0 P w K mg base ["thing", "item"] "are_words" (defScope s_are_words) (He.fAd K ("are_words", none)) cdv A outer s H E).nox (defBody s_are_words) t ∧ t { nx := fun _ H' => Q .non H', rt := Q } (start ["thing", "item"] vs) H) :
    Fk P w K mg base CX0 (k + 1) (He.fAd K ("are_words", none)) ["thing"] sp :=
  k_are_words T len fun cdv A outer s H vs Q E hr h => let ⟨t, a, b⟩ := hb cdv A outer s H vs Q E hr h; ⟨t, a.nox, b⟩
theorem k_least_clash (T : Tx K mg) (len : ∀ vs H Q E, sp vs H Q E → vs.length = 1)
    (hb : ∀ (cdv : Value) (A : Around) (outer : List Env) (s : Shared) (H : Hp) (vs : List V) (Q : VK) (E : XK), Room k (A.deeper (envOfC "least_clash" (defScope s_least_clash) s.heap.objs.size (He.fAd K ("least_clash", none)) cdv)) → sp vs H Q E →
      ∃ t, PSs (cxOf CX P w K mg base ["texts", "listed", "beginning", "ending", "clashing", "one", "others", "text"] "least_clash" (defScope s_least_clash) (He.fAd K ("least_clash", none)) cdv A outer s H E) (defBody s_least_clash) t ∧ t { nx := fun _ H' => Q .non H', rt := Q } (start ["texts", "listed", "beginning", "ending", "clashing", "one", "others", "text"] vs) H) :
    Fk P w K mg base CX (k + 1) (He.fAd K ("least_clash", none)) ["texts"] sp := by
  obtain ⟨fd, F⟩ := T.F_least_clash
  exact ⟨⟨fd, F.ok c_least_clash len hb, F.bindsN fun _ _ _ _ _ _ us hl => match us, hl with | [_], _ => rfl⟩, F.kp⟩
theorem k0_least_clash (T : Tx K mg) (len : ∀ vs H Q E, sp vs H Q E → vs.length = 1)
    (hb : ∀ (cdv : Value) (A : Around) (outer : List Env) (s : Shared) (H : Hp) (vs : List V) (Q : VK) (E : XK), Room k (A.deeper (envOfC "least_clash" (defScope s_least_clash) s.heap.objs.size (He.fAd K ("least_clash", none)) cdv)) → sp vs H Q E →
      ∃ t, PSs (cxOf CX0 P w K mg base ["texts", "listed", "beginning", "ending", "clashing", "one", "others", "text"] "least_clash" (defScope s_least_clash) (He.fAd K ("least_clash", none)) cdv A outer s H E).nox (defBody s_least_clash) t ∧ t { nx := fun _ H' => Q .non H', rt := Q } (start ["texts", "listed", "beginning", "ending", "clashing", "one", "others", "text"] vs) H) :
    Fk P w K mg base CX0 (k + 1) (He.fAd K ("least_clash", none)) ["texts"] sp :=
  k_least_clash T len fun cdv A outer s H vs Q E hr h => let ⟨t, a, b⟩ := hb cdv A outer s H vs Q E hr h; ⟨t, a.nox, b⟩
theorem k_beginning_texts (T : Tx K mg) (len : ∀ vs H Q E, sp vs H Q E → vs.length = 1)
    (hb : ∀ (cdv : Value) (A : Around) (outer : List Env) (s : Shared) (H : Hp) (vs : List V) (Q : VK) (E : XK), Room k (A.deeper (envOfC "beginning_texts" (defScope s_beginning_texts) s.heap.objs.size (He.fAd K ("beginning_texts", none)) cdv)) → sp vs H Q E →
      ∃ t, PSs (cxOf CX P w K mg base ["listed", "one", "other"] "beginning_texts" (defScope s_beginning_texts) (He.fAd K ("beginning_texts", none)) cdv A outer s H E) (defBody s_beginning_texts) t ∧ t { nx := fun _ H' => Q .non H', rt := Q } (start ["listed", "one", "other"] vs) H) :
    Fk P w K mg base CX (k + 1) (He.fAd K ("beginning_texts", none)) ["listed"] sp := by
  obtain ⟨fd, F⟩ := T.F_beginning_texts
  exact ⟨⟨fd, F.ok c_beginning_texts len hb, F.bindsN fun _ _ _ _ _ _ us hl => match us, hl with | [_], _ => rfl⟩, F.kp⟩
theorem k0_beginning_texts (T : Tx K mg) (len : ∀ vs H Q E, sp vs H Q E → vs.length = 1)
    (hb : ∀ (cdv : Value) (A : Around) (outer : List Env) (s : Shared) (H : Hp) (vs : List V) (Q : VK) (E : XK), Room k (A.deeper (envOfC "beginning_texts" (defScope s_beginning_texts) s.heap.objs.size (He.fAd K ("beginning_texts", none)) cdv)) → sp vs H Q E →
      ∃ t, PSs (cxOf CX0 P w K mg base ["listed", "one", "other"] "beginning_texts" (defScope s_beginning_texts) (He.fAd K ("beginning_texts", none)) cdv A outer s H E).nox (defBody s_beginning_texts) t ∧ t { nx := fun _ H' => Q .non H', rt := Q } (start ["listed", "one", "other"] vs) H) :
    Fk P w K mg base CX0 (k + 1) (He.fAd K ("beginning_texts", none)) ["listed"] sp :=
  k_beginning_texts T len fun cdv A outer s H vs Q E hr h => let ⟨t, a, b⟩ := hb cdv A outer s H vs Q E hr h; ⟨t, a.nox, b⟩
theorem k_law_hand (T : Tx K mg) (len : ∀ vs H Q E, sp vs H Q E → vs.length = 1)
    (hb : ∀ (cdv : Value) (A : Around) (outer : List Env) (s : Shared) (H : Hp) (vs : List V) (Q : VK) (E : XK), Room k (A.deeper (envOfC "_law_hand" (defScope s_law_hand) s.heap.objs.size (He.fAd K ("_law_hand", none)) cdv)) → sp vs H Q E →
      ∃ t, PSs (cxOf CX P w K mg base ["_law_script", "_law_cells", "_law_cell"] "_law_hand" (defScope s_law_hand) (He.fAd K ("_law_hand", none)) cdv A outer s H E) (defBody s_law_hand) t ∧ t { nx := fun _ H' => Q .non H', rt := Q } (start ["_law_script", "_law_cells", "_law_cell"] vs) H) :
    Fk P w K mg base CX (k + 1) (He.fAd K ("_law_hand", none)) ["_law_script"] sp := by
  obtain ⟨fd, F⟩ := T.F_law_hand
  exact ⟨⟨fd, F.ok c_law_hand len hb, F.bindsN fun _ _ _ _ _ _ us hl => match us, hl with | [_], _ => rfl⟩, F.kp⟩
theorem k0_law_hand (T : Tx K mg) (len : ∀ vs H Q E, sp vs H Q E → vs.length = 1)
    (hb : ∀ (cdv : Value) (A : Around) (outer : List Env) (s : Shared) (H : Hp) (vs : List V) (Q : VK) (E : XK), Room k (A.deeper (envOfC "_law_hand" (defScope s_law_hand) s.heap.objs.size (He.fAd K ("_law_hand", none)) cdv)) → sp vs H Q E →
      ∃ t, PSs (cxOf CX0 P w K mg base ["_law_script", "_law_cells", "_law_cell"] "_law_hand" (defScope s_law_hand) (He.fAd K ("_law_hand", none)) cdv A outer s H E).nox (defBody s_law_hand) t ∧ t { nx := fun _ H' => Q .non H', rt := Q } (start ["_law_script", "_law_cells", "_law_cell"] vs) H) :
    Fk P w K mg base CX0 (k + 1) (He.fAd K ("_law_hand", none)) ["_law_script"] sp :=
  k_law_hand T len fun cdv A outer s H vs Q E hr h => let ⟨t, a, b⟩ := hb cdv A outer s H vs Q E hr h; ⟨t, a.nox, b⟩
theorem k_law_draw (T : Tx K mg) (len : ∀ vs H Q E, sp vs H Q E → vs.length = 2)
    (hb : ∀ (cdv : Value) (A : Around) (outer : List Env) (s : Shared) (H : Hp) (vs : List V) (Q : VK) (E : XK), Room k (A.deeper (envOfC "_law_draw" (defScope s_law_draw) s.heap.objs.size (He.fAd K ("_law_draw", none)) cdv)) → sp vs H Q E →
      ∃ t, PSs (cxOf CX P w K mg base ["_law_hand_here", "_law_many", "_law_cell", "_law_digit", "_law_number"] "_law_draw" (defScope s_law_draw) (He.fAd K ("_law_draw", none)) cdv A outer s H E) (defBody s_law_draw) t ∧ t { nx := fun _ H' => Q .non H', rt := Q } (start ["_law_hand_here", "_law_many", "_law_cell", "_law_digit", "_law_number"] vs) H) :
    Fk P w K mg base CX (k + 1) (He.fAd K ("_law_draw", none)) ["_law_hand_here", "_law_many"] sp := by
  obtain ⟨fd, F⟩ := T.F_law_draw
  exact ⟨⟨fd, F.ok c_law_draw len hb, F.bindsN fun _ _ _ _ _ _ us hl => match us, hl with | [_, _], _ => rfl⟩, F.kp⟩
theorem k0_law_draw (T : Tx K mg) (len : ∀ vs H Q E, sp vs H Q E → vs.length = 2)
    (hb : ∀ (cdv : Value) (A : Around) (outer : List Env) (s : Shared) (H : Hp) (vs : List V) (Q : VK) (E : XK), Room k (A.deeper (envOfC "_law_draw" (defScope s_law_draw) s.heap.objs.size (He.fAd K ("_law_draw", none)) cdv)) → sp vs H Q E →
      ∃ t, PSs (cxOf CX0 P w K mg base ["_law_hand_here", "_law_many", "_law_cell", "_law_digit", "_law_number"] "_law_draw" (defScope s_law_draw) (He.fAd K ("_law_draw", none)) cdv A outer s H E).nox (defBody s_law_draw) t ∧ t { nx := fun _ H' => Q .non H', rt := Q } (start ["_law_hand_here", "_law_many", "_law_cell", "_law_digit", "_law_number"] vs) H) :
    Fk P w K mg base CX0 (k + 1) (He.fAd K ("_law_draw", none)) ["_law_hand_here", "_law_many"] sp :=
  k_law_draw T len fun cdv A outer s H vs Q E hr h => let ⟨t, a, b⟩ := hb cdv A outer s H vs Q E hr h; ⟨t, a.nox, b⟩
theorem k_law_is (T : Tx K mg) (len : ∀ vs H Q E, sp vs H Q E → vs.length = 2)
    (hb : ∀ (cdv : Value) (A : Around) (outer : List Env) (s : Shared) (H : Hp) (vs : List V) (Q : VK) (E : XK), Room k (A.deeper (envOfC "_law_is" (defScope s_law_is) s.heap.objs.size (He.fAd K ("_law_is", none)) cdv)) → sp vs H Q E →
      ∃ t, PSs (cxOf CX P w K mg base ["_law_told_here", "_law_due_here", "_law_one", "_law_two"] "_law_is" (defScope s_law_is) (He.fAd K ("_law_is", none)) cdv A outer s H E) (defBody s_law_is) t ∧ t { nx := fun _ H' => Q .non H', rt := Q } (start ["_law_told_here", "_law_due_here", "_law_one", "_law_two"] vs) H) :
    Fk P w K mg base CX (k + 1) (He.fAd K ("_law_is", none)) ["_law_told_here", "_law_due_here"] sp := by
  obtain ⟨fd, F⟩ := T.F_law_is
  exact ⟨⟨fd, F.ok c_law_is len hb, F.bindsN fun _ _ _ _ _ _ us hl => match us, hl with | [_, _], _ => rfl⟩, F.kp⟩
theorem k0_law_is (T : Tx K mg) (len : ∀ vs H Q E, sp vs H Q E → vs.length = 2)
    (hb : ∀ (cdv : Value) (A : Around) (outer : List Env) (s : Shared) (H : Hp) (vs : List V) (Q : VK) (E : XK), Room k (A.deeper (envOfC "_law_is" (defScope s_law_is) s.heap.objs.size (He.fAd K ("_law_is", none)) cdv)) → sp vs H Q E →
      ∃ t, PSs (cxOf CX0 P w K mg base ["_law_told_here", "_law_due_here", "_law_one", "_law_two"] "_law_is" (defScope s_law_is) (He.fAd K ("_law_is", none)) cdv A outer s H E).nox (defBody s_law_is) t ∧ t { nx := fun _ H' => Q .non H', rt := Q } (start ["_law_told_here", "_law_due_here", "_law_one", "_law_two"] vs) H) :
    Fk P w K mg base CX0 (k + 1) (He.fAd K ("_law_is", none)) ["_law_told_here", "_law_due_here"] sp :=
  k_law_is T len fun cdv A outer s H vs Q E hr h => let ⟨t, a, b⟩ := hb cdv A outer s H vs Q E hr h; ⟨t, a.nox, b⟩
theorem k_law_some (T : Tx K mg) (len : ∀ vs H Q E, sp vs H Q E → vs.length = 2)
    (hb : ∀ (cdv : Value) (A : Around) (outer : List Env) (s : Shared) (H : Hp) (vs : List V) (Q : VK) (E : XK), Room k (A.deeper (envOfC "_law_some" (defScope s_law_some) s.heap.objs.size (He.fAd K ("_law_some", none)) cdv)) → sp vs H Q E →
      ∃ t, PSs (cxOf CX P w K mg base ["_law_hand_here", "_law_things"] "_law_some" (defScope s_law_some) (He.fAd K ("_law_some", none)) cdv A outer s H E) (defBody s_law_some) t ∧ t { nx := fun _ H' => Q .non H', rt := Q } (start ["_law_hand_here", "_law_things"] vs) H) :
    Fk P w K mg base CX (k + 1) (He.fAd K ("_law_some", none)) ["_law_hand_here", "_law_things"] sp := by
  obtain ⟨fd, F⟩ := T.F_law_some
  exact ⟨⟨fd, F.ok c_law_some len hb, F.bindsN fun _ _ _ _ _ _ us hl => match us, hl with | [_, _], _ => rfl⟩, F.kp⟩
theorem k0_law_some (T : Tx K mg) (len : ∀ vs H Q E, sp vs H Q E → vs.length = 2)
    (hb : ∀ (cdv : Value) (A : Around) (outer : List Env) (s : Shared) (H : Hp) (vs : List V) (Q : VK) (E : XK), Room k (A.deeper (envOfC "_law_some" (defScope s_law_some) s.heap.objs.size (He.fAd K ("_law_some", none)) cdv)) → sp vs H Q E →
      ∃ t, PSs (cxOf CX0 P w K mg base ["_law_hand_here", "_law_things"] "_law_some" (defScope s_law_some) (He.fAd K ("_law_some", none)) cdv A outer s H E).nox (defBody s_law_some) t ∧ t { nx := fun _ H' => Q .non H', rt := Q } (start ["_law_hand_here", "_law_things"] vs) H) :
    Fk P w K mg base CX0 (k + 1) (He.fAd K ("_law_some", none)) ["_law_hand_here", "_law_things"] sp :=
  k_law_some T len fun cdv A outer s H vs Q E hr h => let ⟨t, a, b⟩ := hb cdv A outer s H vs Q E hr h; ⟨t, a.nox, b⟩
theorem k_law_web (T : Tx K mg) (len : ∀ vs H Q E, sp vs H Q E → vs.length = 2)
    (hb : ∀ (cdv : Value) (A : Around) (outer : List Env) (s : Shared) (H : Hp) (vs : List V) (Q : VK) (E : XK), Room k (A.deeper (envOfC "_law_web" (defScope s_law_web) s.heap.objs.size (He.fAd K ("_law_web", none)) cdv)) → sp vs H Q E →
      ∃ t, PSs (cxOf CX P w K mg base ["_law_hand_here", "_law_most", "_law_points", "_law_signs_here", "_law_found", "_law_point", "_law_turn", "_law_sign"] "_law_web" (defScope s_law_web) (He.fAd K ("_law_web", none)) cdv A outer s H E) (defBody s_law_web) t ∧ t { nx := fun _ H' => Q .non H', rt := Q } (start ["_law_hand_here", "_law_most", "_law_points", "_law_signs_here", "_law_found", "_law_point", "_law_turn", "_law_sign"] vs) H) :
    Fk P w K mg base CX (k + 1) (He.fAd K ("_law_web", none)) ["_law_hand_here", "_law_most"] sp := by
  obtain ⟨fd, F⟩ := T.F_law_web
  exact ⟨⟨fd, F.ok c_law_web len hb, F.bindsN fun _ _ _ _ _ _ us hl => match us, hl with | [_, _], _ => rfl⟩, F.kp⟩
theorem k0_law_web (T : Tx K mg) (len : ∀ vs H Q E, sp vs H Q E → vs.length = 2)
    (hb : ∀ (cdv : Value) (A : Around) (outer : List Env) (s : Shared) (H : Hp) (vs : List V) (Q : VK) (E : XK), Room k (A.deeper (envOfC "_law_web" (defScope s_law_web) s.heap.objs.size (He.fAd K ("_law_web", none)) cdv)) → sp vs H Q E →
      ∃ t, PSs (cxOf CX0 P w K mg base ["_law_hand_here", "_law_most", "_law_points", "_law_signs_here", "_law_found", "_law_point", "_law_turn", "_law_sign"] "_law_web" (defScope s_law_web) (He.fAd K ("_law_web", none)) cdv A outer s H E).nox (defBody s_law_web) t ∧ t { nx := fun _ H' => Q .non H', rt := Q } (start ["_law_hand_here", "_law_most", "_law_points", "_law_signs_here", "_law_found", "_law_point", "_law_turn", "_law_sign"] vs) H) :
    Fk P w K mg base CX0 (k + 1) (He.fAd K ("_law_web", none)) ["_law_hand_here", "_law_most"] sp :=
  k_law_web T len fun cdv A outer s H vs Q E hr h => let ⟨t, a, b⟩ := hb cdv A outer s H vs Q E hr h; ⟨t, a.nox, b⟩
theorem k_law_ends (T : Tx K mg) (len : ∀ vs H Q E, sp vs H Q E → vs.length = 2)
    (hb : ∀ (cdv : Value) (A : Around) (outer : List Env) (s : Shared) (H : Hp) (vs : List V) (Q : VK) (E : XK), Room k (A.deeper (envOfC "_law_ends" (defScope s_law_ends) s.heap.objs.size (He.fAd K ("_law_ends", none)) cdv)) → sp vs H Q E →
      ∃ t, PSs (cxOf CX P w K mg base ["_law_parts", "_law_text", "_law_points", "_law_sign", "_law_goal", "_law_one"] "_law_ends" (defScope s_law_ends) (He.fAd K ("_law_ends", none)) cdv A outer s H E) (defBody s_law_ends) t ∧ t { nx := fun _ H' => Q .non H', rt := Q } (start ["_law_parts", "_law_text", "_law_points", "_law_sign", "_law_goal", "_law_one"] vs) H) :
    Fk P w K mg base CX (k + 1) (He.fAd K ("_law_ends", none)) ["_law_parts", "_law_text"] sp := by
  obtain ⟨fd, F⟩ := T.F_law_ends
  exact ⟨⟨fd, F.ok c_law_ends len hb, F.bindsN fun _ _ _ _ _ _ us hl => match us, hl with | [_, _], _ => rfl⟩, F.kp⟩
theorem k0_law_ends (T : Tx K mg) (len : ∀ vs H Q E, sp vs H Q E → vs.length = 2)
    (hb : ∀ (cdv : Value) (A : Around) (outer : List Env) (s : Shared) (H : Hp) (vs : List V) (Q : VK) (E : XK), Room k (A.deeper (envOfC "_law_ends" (defScope s_law_ends) s.heap.objs.size (He.fAd K ("_law_ends", none)) cdv)) → sp vs H Q E →
      ∃ t, PSs (cxOf CX0 P w K mg base ["_law_parts", "_law_text", "_law_points", "_law_sign", "_law_goal", "_law_one"] "_law_ends" (defScope s_law_ends) (He.fAd K ("_law_ends", none)) cdv A outer s H E).nox (defBody s_law_ends) t ∧ t { nx := fun _ H' => Q .non H', rt := Q } (start ["_law_parts", "_law_text", "_law_points", "_law_sign", "_law_goal", "_law_one"] vs) H) :
    Fk P w K mg base CX0 (k + 1) (He.fAd K ("_law_ends", none)) ["_law_parts", "_law_text"] sp :=
  k_law_ends T len fun cdv A outer s H vs Q E hr h => let ⟨t, a, b⟩ := hb cdv A outer s H vs Q E hr h; ⟨t, a.nox, b⟩
theorem k_law_signs (T : Tx K mg) (len : ∀ vs H Q E, sp vs H Q E → vs.length = 1)
    (hb : ∀ (cdv : Value) (A : Around) (outer : List Env) (s : Shared) (H : Hp) (vs : List V) (Q : VK) (E : XK), Room k (A.deeper (envOfC "_law_signs" (defScope s_law_signs) s.heap.objs.size (He.fAd K ("_law_signs", none)) cdv)) → sp vs H Q E →
      ∃ t, PSs (cxOf CX P w K mg base ["_law_parts", "_law_sign", "_law_arrow"] "_law_signs" (defScope s_law_signs) (He.fAd K ("_law_signs", none)) cdv A outer s H E) (defBody s_law_signs) t ∧ t { nx := fun _ H' => Q .non H', rt := Q } (start ["_law_parts", "_law_sign", "_law_arrow"] vs) H) :
    Fk P w K mg base CX (k + 1) (He.fAd K ("_law_signs", none)) ["_law_parts"] sp := by
  obtain ⟨fd, F⟩ := T.F_law_signs
  exact ⟨⟨fd, F.ok c_law_signs len hb, F.bindsN fun _ _ _ _ _ _ us hl => match us, hl with | [_], _ => rfl⟩, F.kp⟩
theorem k0_law_signs (T : Tx K mg) (len : ∀ vs H Q E, sp vs H Q E → vs.length = 1)
    (hb : ∀ (cdv : Value) (A : Around) (outer : List Env) (s : Shared) (H : Hp) (vs : List V) (Q : VK) (E : XK), Room k (A.deeper (envOfC "_law_signs" (defScope s_law_signs) s.heap.objs.size (He.fAd K ("_law_signs", none)) cdv)) → sp vs H Q E →
      ∃ t, PSs (cxOf CX0 P w K mg base ["_law_parts", "_law_sign", "_law_arrow"] "_law_signs" (defScope s_law_signs) (He.fAd K ("_law_signs", none)) cdv A outer s H E).nox (defBody s_law_signs) t ∧ t { nx := fun _ H' => Q .non H', rt := Q } (start ["_law_parts", "_law_sign", "_law_arrow"] vs) H) :
    Fk P w K mg base CX0 (k + 1) (He.fAd K ("_law_signs", none)) ["_law_parts"] sp :=
  k_law_signs T len fun cdv A outer s H vs Q E hr h => let ⟨t, a, b⟩ := hb cdv A outer s H vs Q E hr h; ⟨t, a.nox, b⟩
theorem k_law_longer (T : Tx K mg) (len : ∀ vs H Q E, sp vs H Q E → vs.length = 2)
    (hb : ∀ (cdv : Value) (A : Around) (outer : List Env) (s : Shared) (H : Hp) (vs : List V) (Q : VK) (E : XK), Room k (A.deeper (envOfC "_law_longer" (defScope s_law_longer) s.heap.objs.size (He.fAd K ("_law_longer", none)) cdv)) → sp vs H Q E →
      ∃ t, PSs (cxOf CX P w K mg base ["_law_parts", "_law_texts", "_law_found", "_law_text", "_law_sign"] "_law_longer" (defScope s_law_longer) (He.fAd K ("_law_longer", none)) cdv A outer s H E) (defBody s_law_longer) t ∧ t { nx := fun _ H' => Q .non H', rt := Q } (start ["_law_parts", "_law_texts", "_law_found", "_law_text", "_law_sign"] vs) H) :
    Fk P w K mg base CX (k + 1) (He.fAd K ("_law_longer", none)) ["_law_parts", "_law_texts"] sp := by
  obtain ⟨fd, F⟩ := T.F_law_longer
  exact ⟨⟨fd, F.ok c_law_longer len hb, F.bindsN fun _ _ _ _ _ _ us hl => match us, hl with | [_, _], _ => rfl⟩, F.kp⟩
theorem k0_law_longer (T : Tx K mg) (len : ∀ vs H Q E, sp vs H Q E → vs.length = 2)
    (hb : ∀ (cdv : Value) (A : Around) (outer : List Env) (s : Shared) (H : Hp) (vs : List V) (Q : VK) (E : XK), Room k (A.deeper (envOfC "_law_longer" (defScope s_law_longer) s.heap.objs.size (He.fAd K ("_law_longer", none)) cdv)) → sp vs H Q E →
      ∃ t, PSs (cxOf CX0 P w K mg base ["_law_parts", "_law_texts", "_law_found", "_law_text", "_law_sign"] "_law_longer" (defScope s_law_longer) (He.fAd K ("_law_longer", none)) cdv A outer s H E).nox (defBody s_law_longer) t ∧ t { nx := fun _ H' => Q .non H', rt := Q } (start ["_law_parts", "_law_texts", "_law_found", "_law_text", "_law_sign"] vs) H) :
    Fk P w K mg base CX0 (k + 1) (He.fAd K ("_law_longer", none)) ["_law_parts", "_law_texts"] sp :=
  k_law_longer T len fun cdv A outer s H vs Q E hr h => let ⟨t, a, b⟩ := hb cdv A outer s H vs Q E hr h; ⟨t, a.nox, b⟩
theorem k_law_stretches (T : Tx K mg) (len : ∀ vs H Q E, sp vs H Q E → vs.length = 2)
    (hb : ∀ (cdv : Value) (A : Around) (outer : List Env) (s : Shared) (H : Hp) (vs : List V) (Q : VK) (E : XK), Room k (A.deeper (envOfC "_law_stretches" (defScope s_law_stretches) s.heap.objs.size (He.fAd K ("_law_stretches", none)) cdv)) → sp vs H Q E →
      ∃ t, PSs (cxOf CX P w K mg base ["_law_parts", "_law_length", "_law_found", "_law_turn"] "_law_stretches" (defScope s_law_stretches) (He.fAd K ("_law_stretches", none)) cdv A outer s H E) (defBody s_law_stretches) t ∧ t { nx := fun _ H' => Q .non H', rt := Q } (start ["_law_parts", "_law_length", "_law_found", "_law_turn"] vs) H) :
    Fk P w K mg base CX (k + 1) (He.fAd K ("_law_stretches", none)) ["_law_parts", "_law_length"] sp := by
  obtain ⟨fd, F⟩ := T.F_law_stretches
  exact ⟨⟨fd, F.ok c_law_stretches len hb, F.bindsN fun _ _ _ _ _ _ us hl => match us, hl with | [_, _], _ => rfl⟩, F.kp⟩
theorem k0_law_stretches (T : Tx K mg) (len : ∀ vs H Q E, sp vs H Q E → vs.length = 2)
    (hb : ∀ (cdv : Value) (A : Around) (outer : List Env) (s : Shared) (H : Hp) (vs : List V) (Q : VK) (E : XK), Room k (A.deeper (envOfC "_law_stretches" (defScope s_law_stretches) s.heap.objs.size (He.fAd K ("_law_stretches", none)) cdv)) → sp vs H Q E →
      ∃ t, PSs (cxOf CX0 P w K mg base ["_law_parts", "_law_length", "_law_found", "_law_turn"] "_law_stretches" (defScope s_law_stretches) (He.fAd K ("_law_stretches", none)) cdv A outer s H E).nox (defBody s_law_stretches) t ∧ t { nx := fun _ H' => Q .non H', rt := Q } (start ["_law_parts", "_law_length", "_law_found", "_law_turn"] vs) H) :
    Fk P w K mg base CX0 (k + 1) (He.fAd K ("_law_stretches", none)) ["_law_parts", "_law_length"] sp :=
  k_law_stretches T len fun cdv A outer s H vs Q E hr h => let ⟨t, a, b⟩ := hb cdv A outer s H vs Q E hr h; ⟨t, a.nox, b⟩
theorem k_law_clashing (T : Tx K mg) (len : ∀ vs H Q E, sp vs H Q E → vs.length = 2)
    (hb : ∀ (cdv : Value) (A : Around) (outer : List Env) (s : Shared) (H : Hp) (vs : List V) (Q : VK) (E : XK), Room k (A.deeper (envOfC "_law_clashing" (defScope s_law_clashing) s.heap.objs.size (He.fAd K ("_law_clashing", none)) cdv)) → sp vs H Q E →
      ∃ t, PSs (cxOf CX P w K mg base ["_law_one", "_law_other", "_law_short", "_law_long"] "_law_clashing" (defScope s_law_clashing) (He.fAd K ("_law_clashing", none)) cdv A outer s H E) (defBody s_law_clashing) t ∧ t { nx := fun _ H' => Q .non H', rt := Q } (start ["_law_one", "_law_other", "_law_short", "_law_long"] vs) H) :
    Fk P w K mg base CX (k + 1) (He.fAd K ("_law_clashing", none)) ["_law_one", "_law_other"] sp := by
  obtain ⟨fd, F⟩ := T.F_law_clashing
  exact ⟨⟨fd, F.ok c_law_clashing len hb, F.bindsN fun _ _ _ _ _ _ us hl => match us, hl with | [_, _], _ => rfl⟩, F.kp⟩
theorem k0_law_clashing (T : Tx K mg) (len : ∀ vs H Q E, sp vs H Q E → vs.length = 2)
    (hb : ∀ (cdv : Value) (A : Around) (outer : List Env) (s : Shared) (H : Hp) (vs : List V) (Q : VK) (E : XK), Room k (A.deeper (envOfC "_law_clashing" (defScope s_law_clashing) s.heap.objs.size (He.fAd K ("_law_clashing", none)) cdv)) → sp vs H Q E →
      ∃ t, PSs (cxOf CX0 P w K mg base ["_law_one", "_law_other", "_law_short", "_law_long"] "_law_clashing" (defScope s_law_clashing) (He.fAd K ("_law_clashing", none)) cdv A outer s H E).nox (defBody s_law_clashing) t ∧ t { nx := fun _ H' => Q .non H', rt := Q } (start ["_law_one", "_law_other", "_law_short", "_law_long"] vs) H) :
    Fk P w K mg base CX0 (k + 1) (He.fAd K ("_law_clashing", none)) ["_law_one", "_law_other"] sp :=
  k_law_clashing T len fun cdv A outer s H vs Q E hr h => let ⟨t, a, b⟩ := hb cdv A outer s H vs Q E hr h; ⟨t, a.nox, b⟩
theorem k_law_fits (T : Tx K mg) (len : ∀ vs H Q E, sp vs H Q E → vs.length = 2)
    (hb : ∀ (cdv : Value) (A : Around) (outer : List Env) (s : Shared) (H : Hp) (vs : List V) (Q : VK) (E : XK), Room k (A.deeper (envOfC "_law_fits" (defScope s_law_fits) s.heap.objs.size (He.fAd K ("_law_fits", none)) cdv)) → sp vs H Q E →
      ∃ t, PSs (cxOf CX P w K mg base ["_law_words_here", "_law_text", "_law_word"] "_law_fits" (defScope s_law_fits) (He.fAd K ("_law_fits", none)) cdv A outer s H E) (defBody s_law_fits) t ∧ t { nx := fun _ H' => Q .non H', rt := Q } (start ["_law_words_here", "_law_text", "_law_word"] vs) H) :
    Fk P w K mg base CX (k + 1) (He.fAd K ("_law_fits", none)) ["_law_words_here", "_law_text"] sp := by
  obtain ⟨fd, F⟩ := T.F_law_fits
  exact ⟨⟨fd, F.ok c_law_fits len hb, F.bindsN fun _ _ _ _ _ _ us hl => match us, hl with | [_, _], _ => rfl⟩, F.kp⟩
theorem k0_law_fits (T : Tx K mg) (len : ∀ vs H Q E, sp vs H Q E → vs.length = 2)
    (hb : ∀ (cdv : Value) (A : Around) (outer : List Env) (s : Shared) (H : Hp) (vs : List V) (Q : VK) (E : XK), Room k (A.deeper (envOfC "_law_fits" (defScope s_law_fits) s.heap.objs.size (He.fAd K ("_law_fits", none)) cdv)) → sp vs H Q E →
      ∃ t, PSs (cxOf CX0 P w K mg base ["_law_words_here", "_law_text", "_law_word"] "_law_fits" (defScope s_law_fits) (He.fAd K ("_law_fits", none)) cdv A outer s H E).nox (defBody s_law_fits) t ∧ t { nx := fun _ H' => Q .non H', rt := Q } (start ["_law_words_here", "_law_text", "_law_word"] vs) H) :
    Fk P w K mg base CX0 (k + 1) (He.fAd K ("_law_fits", none)) ["_law_words_here", "_law_text"] sp :=
  k_law_fits T len fun cdv A outer s H vs Q E hr h => let ⟨t, a, b⟩ := hb cdv A outer s H vs Q E hr h; ⟨t, a.nox, b⟩
theorem k_law_comings (T : Tx K mg) (len : ∀ vs H Q E, sp vs H Q E → vs.length = 2)
    (hb : ∀ (cdv : Value) (A : Around) (outer : List Env) (s : Shared) (H : Hp) (vs : List V) (Q : VK) (E : XK), Room k (A.deeper (envOfC "_law_comings" (defScope s_law_comings) s.heap.objs.size (He.fAd K ("_law_comings", none)) cdv)) → sp vs H Q E →
      ∃ t, PSs (cxOf CX P w K mg base ["_law_words_here", "_law_text", "_law_found", "_law_begin", "_law_end"] "_law_comings" (defScope s_law_comings) (He.fAd K ("_law_comings", none)) cdv A outer s H E) (defBody s_law_comings) t ∧ t { nx := fun _ H' => Q .non H', rt := Q } (start ["_law_words_here", "_law_text", "_law_found", "_law_begin", "_law_end"] vs) H) :
    Fk P w K mg base CX (k + 1) (He.fAd K ("_law_comings", none)) ["_law_words_here", "_law_text"] sp := by
  obtain ⟨fd, F⟩ := T.F_law_comings
  exact ⟨⟨fd, F.ok c_law_comings len hb, F.bindsN fun _ _ _ _ _ _ us hl => match us, hl with | [_, _], _ => rfl⟩, F.kp⟩
theorem k0_law_comings (T : Tx K mg) (len : ∀ vs H Q E, sp vs H Q E → vs.length = 2)
    (hb : ∀ (cdv : Value) (A : Around) (outer : List Env) (s : Shared) (H : Hp) (vs : List V) (Q : VK) (E : XK), Room k (A.deeper (envOfC "_law_comings" (defScope s_law_comings) s.heap.objs.size (He.fAd K ("_law_comings", none)) cdv)) → sp vs H Q E →
      ∃ t, PSs (cxOf CX0 P w K mg base ["_law_words_here", "_law_text", "_law_found", "_law_begin", "_law_end"] "_law_comings" (defScope s_law_comings) (He.fAd K ("_law_comings", none)) cdv A outer s H E).nox (defBody s_law_comings) t ∧ t { nx := fun _ H' => Q .non H', rt := Q } (start ["_law_words_here", "_law_text", "_law_found", "_law_begin", "_law_end"] vs) H) :
    Fk P w K mg base CX0 (k + 1) (He.fAd K ("_law_comings", none)) ["_law_words_here", "_law_text"] sp :=
  k_law_comings T len fun cdv A outer s H vs Q E hr h => let ⟨t, a, b⟩ := hb cdv A outer s H vs Q E hr h; ⟨t, a.nox, b⟩
theorem k_law_count (T : Tx K mg) (len : ∀ vs H Q E, sp vs H Q E → vs.length = 2)
    (hb : ∀ (cdv : Value) (A : Around) (outer : List Env) (s : Shared) (H : Hp) (vs : List V) (Q : VK) (E : XK), Room k (A.deeper (envOfC "_law_count" (defScope s_law_count) s.heap.objs.size (He.fAd K ("_law_count", none)) cdv)) → sp vs H Q E →
      ∃ t, PSs (cxOf CX P w K mg base ["_law_words_here", "_law_text"] "_law_count" (defScope s_law_count) (He.fAd K ("_law_count", none)) cdv A outer s H E) (defBody s_law_count) t ∧ t { nx := fun _ H' => Q .non H', rt := Q } (start ["_law_words_here", "_law_text"] vs) H) :
    Fk P w K mg base CX (k + 1) (He.fAd K ("_law_count", none)) ["_law_words_here", "_law_text"] sp := by
  obtain ⟨fd, F⟩ := T.F_law_count
  exact ⟨⟨fd, F.ok c_law_count len hb, F.bindsN fun _ _ _ _ _ _ us hl => match us, hl with | [_, _], _ => rfl⟩, F.kp⟩
theorem k0_law_count (T : Tx K mg) (len : ∀ vs H Q E, sp vs H Q E → vs.length = 2)
    (hb : ∀ (cdv : Value) (A : Around) (outer : List Env) (s : Shared) (H : Hp) (vs : List V) (Q : VK) (E : XK), Room k (A.deeper (envOfC "_law_count" (defScope s_law_count) s.heap.objs.size (He.fAd K ("_law_count", none)) cdv)) → sp vs H Q E →
      ∃ t, PSs (cxOf CX0 P w K mg base ["_law_words_here", "_law_text"] "_law_count" (defScope s_law_count) (He.fAd K ("_law_count", none)) cdv A outer s H E).nox (defBody s_law_count) t ∧ t { nx := fun _ H' => Q .non H', rt := Q } (start ["_law_words_here", "_law_text"] vs) H) :
    Fk P w K mg base CX0 (k + 1) (He.fAd K ("_law_count", none)) ["_law_words_here", "_law_text"] sp :=
  k_law_count T len fun cdv A outer s H vs Q E hr h => let ⟨t, a, b⟩ := hb cdv A outer s H vs Q E hr h; ⟨t, a.nox, b⟩
theorem k_law_made (T : Tx K mg) (len : ∀ vs H Q E, sp vs H Q E → vs.length = 3)
    (hb : ∀ (cdv : Value) (A : Around) (outer : List Env) (s : Shared) (H : Hp) (vs : List V) (Q : VK) (E : XK), Room k (A.deeper (envOfC "_law_made" (defScope s_law_made) s.heap.objs.size (He.fAd K ("_law_made", none)) cdv)) → sp vs H Q E →
      ∃ t, PSs (cxOf CX P w K mg base ["_law_parts", "_law_lot_here", "_law_number", "_law_found", "_law_texts", "_law_length", "_law_few", "_law_text", "_law_word", "_law_more", "_law_last"] "_law_made" (defScope s_law_made) (He.fAd K ("_law_made", none)) cdv A outer s H E) (defBody s_law_made) t ∧ t { nx := fun _ H' => Q .non H', rt := Q } (start ["_law_parts", "_law_lot_here", "_law_number", "_law_found", "_law_texts", "_law_length", "_law_few", "_law_text", "_law_word", "_law_more", "_law_last"] vs) H) :
    Fk P w K mg base CX (k + 1) (He.fAd K ("_law_made", none)) ["_law_parts", "_law_lot_here", "_law_number"] sp := by
  obtain ⟨fd, F⟩ := T.F_law_made
  exact ⟨⟨fd, F.ok c_law_made len hb, F.bindsN fun _ _ _ _ _ _ us hl => match us, hl with | [_, _, _], _ => rfl⟩, F.kp⟩
theorem k0_law_made (T : Tx K mg) (len : ∀ vs H Q E, sp vs H Q E → vs.length = 3)
    (hb : ∀ (cdv : Value) (A : Around) (outer : List Env) (s : Shared) (H : Hp) (vs : List V) (Q : VK) (E : XK), Room k (A.deeper (envOfC "_law_made" (defScope s_law_made) s.heap.objs.size (He.fAd K ("_law_made", none)) cdv)) → sp vs H Q E →
      ∃ t, PSs (cxOf CX0 P w K mg base ["_law_parts", "_law_lot_here", "_law_number", "_law_found", "_law_texts", "_law_length", "_law_few", "_law_text", "_law_word", "_law_more", "_law_last"] "_law_made" (defScope s_law_made) (He.fAd K ("_law_made", none)) cdv A outer s H E).nox (defBody s_law_made) t ∧ t { nx := fun _ H' => Q .non H', rt := Q } (start ["_law_parts", "_law_lot_here", "_law_number", "_law_found", "_law_texts", "_law_length", "_law_few", "_law_text", "_law_word", "_law_more", "_law_last"] vs) H) :
    Fk P w K mg base CX0 (k + 1) (He.fAd K ("_law_made", none)) ["_law_parts", "_law_lot_here", "_law_number"] sp :=
  k_law_made T len fun cdv A outer s H vs Q E hr h => let ⟨t, a, b⟩ := hb cdv A outer s H vs Q E hr h; ⟨t, a.nox, b⟩
theorem k_law_is_last (T : Tx K mg) (len : ∀ vs H Q E, sp vs H Q E → vs.length = 3)
    (hb : ∀ (cdv : Value) (A : Around) (outer : List Env) (s : Shared) (H : Hp) (vs : List V) (Q : VK) (E : XK), Room k (A.deeper (envOfC "_law_is_last" (defScope s_law_is_last) s.heap.objs.size (He.fAd K ("_law_is_last", none)) cdv)) → sp vs H Q E →
      ∃ t, PSs (cxOf CX P w K mg base ["_law_lot_here", "_law_number", "_law_text", "_law_more"] "_law_is_last" (defScope s_law_is_last) (He.fAd K ("_law_is_last", none)) cdv A outer s H E) (defBody s_law_is_last) t ∧ t { nx := fun _ H' => Q .non H', rt := Q } (start ["_law_lot_here", "_law_number", "_law_text", "_law_more"] vs) H) :
    Fk P w K mg base CX (k + 1) (He.fAd K ("_law_is_last", none)) ["_law_lot_here", "_law_number", "_law_text"] sp := by
  obtain ⟨fd, F⟩ := T.F_law_is_last
  exact ⟨⟨fd, F.ok c_law_is_last len hb, F.bindsN fun _ _ _ _ _ _ us hl => match us, hl with | [_, _, _], _ => rfl⟩, F.kp⟩
theorem k0_law_is_last (T : Tx K mg) (len : ∀ vs H Q E, sp vs H Q E → vs.length = 3)
    (hb : ∀ (cdv : Value) (A : Around) (outer : List Env) (s : Shared) (H : Hp) (vs : List V) (Q : VK) (E : XK), Room k (A.deeper (envOfC "_law_is_last" (defScope s_law_is_last) s.heap.objs.size (He.fAd K ("_law_is_last", none)) cdv)) → sp vs H Q E →
      ∃ t, PSs (cxOf CX0 P w K mg base ["_law_lot_here", "_law_number", "_law_text", "_law_more"] "_law_is_last" (defScope s_law_is_last) (He.fAd K ("_law_is_last", none)) cdv A outer s H E).nox (defBody s_law_is_last) t ∧ t { nx := fun _ H' => Q .non H', rt := Q } (start ["_law_lot_here", "_law_number", "_law_text", "_law_more"] vs) H) :
    Fk P w K mg base CX0 (k + 1) (He.fAd K ("_law_is_last", none)) ["_law_lot_here", "_law_number", "_law_text"] sp :=
  k_law_is_last T len fun cdv A outer s H vs Q E hr h => let ⟨t, a, b⟩ := hb cdv A outer s H vs Q E hr h; ⟨t, a.nox, b⟩
theorem k_law_lot (T : Tx K mg) (len : ∀ vs H Q E, sp vs H Q E → vs.length = 3)
    (hb : ∀ (cdv : Value) (A : Around) (outer : List Env) (s : Shared) (H : Hp) (vs : List V) (Q : VK) (E : XK), Room k (A.deeper (envOfC "_law_lot" (defScope s_law_lot) s.heap.objs.size (He.fAd K ("_law_lot", none)) cdv)) → sp vs H Q E →
      ∃ t, PSs (cxOf CX P w K mg base ["_law_hand_here", "_law_parts", "_law_number", "_law_found", "_law_turn", "_law_text"] "_law_lot" (defScope s_law_lot) (He.fAd K ("_law_lot", none)) cdv A outer s H E) (defBody s_law_lot) t ∧ t { nx := fun _ H' => Q .non H', rt := Q } (start ["_law_hand_here", "_law_parts", "_law_number", "_law_found", "_law_turn", "_law_text"] vs) H) :
    Fk P w K mg base CX (k + 1) (He.fAd K ("_law_lot", none)) ["_law_hand_here", "_law_parts", "_law_number"] sp := by
  obtain ⟨fd, F⟩ := T.F_law_lot
  exact ⟨⟨fd, F.ok c_law_lot len hb, F.bindsN fun _ _ _ _ _ _ us hl => match us, hl with | [_, _, _], _ => rfl⟩, F.kp⟩
theorem k0_law_lot (T : Tx K mg) (len : ∀ vs H Q E, sp vs H Q E → vs.length = 3)
    (hb : ∀ (cdv : Value) (A : Around) (outer : List Env) (s : Shared) (H : Hp) (vs : List V) (Q : VK) (E : XK), Room k (A.deeper (envOfC "_law_lot" (defScope s_law_lot) s.heap.objs.size (He.fAd K ("_law_lot", none)) cdv)) → sp vs H Q E →
      ∃ t, PSs (cxOf CX0 P w K mg base ["_law_hand_here", "_law_parts", "_law_number", "_law_found", "_law_turn", "_law_text"] "_law_lot" (defScope s_law_lot) (He.fAd K ("_law_lot", none)) cdv A outer s H E).nox (defBody s_law_lot) t ∧ t { nx := fun _ H' => Q .non H', rt := Q } (start ["_law_hand_here", "_law_parts", "_law_number", "_law_found", "_law_turn", "_law_text"] vs) H) :
    Fk P w K mg base CX0 (k + 1) (He.fAd K ("_law_lot", none)) ["_law_hand_here", "_law_parts", "_law_number"] sp :=
  k_law_lot T len fun cdv A outer s H vs Q E hr h => let ⟨t, a, b⟩ := hb cdv A outer s H vs Q E hr h; ⟨t, a.nox, b⟩
theorem k_law_full (T : Tx K mg) (len : ∀ vs H Q E, sp vs H Q E → vs.length = 2)
    (hb : ∀ (cdv : Value) (A : Around) (outer : List Env) (s : Shared) (H : Hp) (vs : List V) (Q : VK) (E : XK), Room k (A.deeper (envOfC "_law_full" (defScope s_law_full) s.heap.objs.size (He.fAd K ("_law_full", none)) cdv)) → sp vs H Q E →
      ∃ t, PSs (cxOf CX P w K mg base ["_law_hand_here", "_law_parts", "_law_number", "_law_lot_here", "_law_found", "_law_text"] "_law_full" (defScope s_law_full) (He.fAd K ("_law_full", none)) cdv A outer s H E) (defBody s_law_full) t ∧ t { nx := fun _ H' => Q .non H', rt := Q } (start ["_law_hand_here", "_law_parts", "_law_number", "_law_lot_here", "_law_found", "_law_text"] vs) H) :
    Fk P w K mg base CX (k + 1) (He.fAd K ("_law_full", none)) ["_law_hand_here", "_law_parts"] sp := by
  obtain ⟨fd, F⟩ := T.F_law_full
  exact ⟨⟨fd, F.ok c_law_full len hb, F.bindsN fun _ _ _ _ _ _ us hl => match us, hl with | [_, _], _ => rfl⟩, F.kp⟩
theorem k0_law_full (T : Tx K mg) (len : ∀ vs H Q E, sp vs H Q E → vs.length = 2)
    (hb : ∀ (cdv : Value) (A : Around) (outer : List Env) (s : Shared) (H : Hp) (vs : List V) (Q : VK) (E : XK), Room k (A.deeper (envOfC "_law_full" (defScope s_law_full) s.heap.objs.size (He.fAd K ("_law_full", none)) cdv)) → sp vs H Q E →
      ∃ t, PSs (cxOf CX0 P w K mg base ["_law_hand_here", "_law_parts", "_law_number", "_law_lot_here", "_law_found", "_law_text"] "_law_full" (defScope s_law_full) (He.fAd K ("_law_full", none)) cdv A outer s H E).nox (defBody s_law_full) t ∧ t { nx := fun _ H' => Q .non H', rt := Q } (start ["_law_hand_here", "_law_parts", "_law_number", "_law_lot_here", "_law_found", "_law_text"] vs) H) :
    Fk P w K mg base CX0 (k + 1) (He.fAd K ("_law_full", none)) ["_law_hand_here", "_law_parts"] sp :=
  k_law_full T len fun cdv A outer s H vs Q E hr h => let ⟨t, a, b⟩ := hb cdv A outer s H vs Q E hr h; ⟨t, a.nox, b⟩
theorem k_law_words (T : Tx K mg) (len : ∀ vs H Q E, sp vs H Q E → vs.length = 2)
    (hb : ∀ (cdv : Value) (A : Around) (outer : List Env) (s : Shared) (H : Hp) (vs : List V) (Q : VK) (E : XK), Room k (A.deeper (envOfC "_law_words" (defScope s_law_words) s.heap.objs.size (He.fAd K ("_law_words", none)) cdv)) → sp vs H Q E →
      ∃ t, PSs (cxOf CX P w K mg base ["_law_hand_here", "_law_parts", "_law_kind", "_law_words_here", "_law_found", "_law_turn", "_law_text", "_law_word"] "_law_words" (defScope s_law_words) (He.fAd K ("_law_words", none)) cdv A outer s H E) (defBody s_law_words) t ∧ t { nx := fun _ H' => Q .non H', rt := Q } (start ["_law_hand_here", "_law_parts", "_law_kind", "_law_words_here", "_law_found", "_law_turn", "_law_text", "_law_word"] vs) H) :
    Fk P w K mg base CX (k + 1) (He.fAd K ("_law_words", none)) ["_law_hand_here", "_law_parts"] sp := by
  obtain ⟨fd, F⟩ := T.F_law_words
  exact ⟨⟨fd, F.ok c_law_words len hb, F.bindsN fun _ _ _ _ _ _ us hl => match us, hl with | [_, _], _ => rfl⟩, F.kp⟩
theorem k0_law_words (T : Tx K mg) (len : ∀ vs H Q E, sp vs H Q E → vs.length = 2)
    (hb : ∀ (cdv : Value) (A : Around) (outer : List Env) (s : Shared) (H : Hp) (vs : List V) (Q : VK) (E : XK), Room k (A.deeper (envOfC "_law_words" (defScope s_law_words) s.heap.objs.size (He.fAd K ("_law_words", none)) cdv)) → sp vs H Q E →
      ∃ t, PSs (cxOf CX0 P w K mg base ["_law_hand_here", "_law_parts", "_law_kind", "_law_words_here", "_law_found", "_law_turn", "_law_text", "_law_word"] "_law_words" (defScope s_law_words) (He.fAd K ("_law_words", none)) cdv A outer s H E).nox (defBody s_law_words) t ∧ t { nx := fun _ H' => Q .non H', rt := Q } (start ["_law_hand_here", "_law_parts", "_law_kind", "_law_words_here", "_law_found", "_law_turn", "_law_text", "_law_word"] vs) H) :
    Fk P w K mg base CX0 (k + 1) (He.fAd K ("_law_words", none)) ["_law_hand_here", "_law_parts"] sp :=
  k_law_words T len fun cdv A outer s H vs Q E hr h => let ⟨t, a, b⟩ := hb cdv A outer s H vs Q E hr h; ⟨t, a.nox, b⟩
theorem k_law_walk (T : Tx K mg) (len : ∀ vs H Q E, sp vs H Q E → vs.length = 3)
    (hb : ∀ (cdv : Value) (A : Around) (outer : List Env) (s : Shared) (H : Hp) (vs : List V) (Q : VK) (E : XK), Room k (A.deeper (envOfC "_law_walk" (defScope s_law_walk) s.heap.objs.size (He.fAd K ("_law_walk", none)) cdv)) → sp vs H Q E →
      ∃ t, PSs (cxOf CX P w K mg base ["_law_hand_here", "_law_parts", "_law_length", "_law_point", "_law_text", "_law_turn", "_law_arrow", "_law_one"] "_law_walk" (defScope s_law_walk) (He.fAd K ("_law_walk", none)) cdv A outer s H E) (defBody s_law_walk) t ∧ t { nx := fun _ H' => Q .non H', rt := Q } (start ["_law_hand_here", "_law_parts", "_law_length", "_law_point", "_law_text", "_law_turn", "_law_arrow", "_law_one"] vs) H) :
    Fk P w K mg base CX (k + 1) (He.fAd K ("_law_walk", none)) ["_law_hand_here", "_law_parts", "_law_length"] sp := by
  obtain ⟨fd, F⟩ := T.F_law_walk
  exact ⟨⟨fd, F.ok c_law_walk len hb, F.bindsN fun _ _ _ _ _ _ us hl => match us, hl with | [_, _, _], _ => rfl⟩, F.kp⟩
theorem k0_law_walk (T : Tx K mg) (len : ∀ vs H Q E, sp vs H Q E → vs.length = 3)
    (hb : ∀ (cdv : Value) (A : Around) (outer : List Env) (s : Shared) (H : Hp) (vs : List V) (Q : VK) (E : XK), Room k (A.deeper (envOfC "_law_walk" (defScope s_law_walk) s.heap.objs.size (He.fAd K ("_law_walk", none)) cdv)) → sp vs H Q E →
      ∃ t, PSs (cxOf CX0 P w K mg base ["_law_hand_here", "_law_parts", "_law_length", "_law_point", "_law_text", "_law_turn", "_law_arrow", "_law_one"] "_law_walk" (defScope s_law_walk) (He.fAd K ("_law_walk", none)) cdv A outer s H E).nox (defBody s_law_walk) t ∧ t { nx := fun _ H' => Q .non H', rt := Q } (start ["_law_hand_here", "_law_parts", "_law_length", "_law_point", "_law_text", "_law_turn", "_law_arrow", "_law_one"] vs) H) :
    Fk P w K mg base CX0 (k + 1) (He.fAd K ("_law_walk", none)) ["_law_hand_here", "_law_parts", "_law_length"] sp :=
  k_law_walk T len fun cdv A outer s H vs Q E hr h => let ⟨t, a, b⟩ := hb cdv A outer s H vs Q E hr h; ⟨t, a.nox, b⟩
theorem k_law_deep (T : Tx K mg) (len : ∀ vs H Q E, sp vs H Q E → vs.length = 1)
    (hb : ∀ (cdv : Value) (A : Around) (outer : List Env) (s : Shared) (H : Hp) (vs : List V) (Q : VK) (E : XK), Room k (A.deeper (envOfC "_law_deep" (defScope s_law_deep) s.heap.objs.size (He.fAd K ("_law_deep", none)) cdv)) → sp vs H Q E →
      ∃ t, PSs (cxOf CX P w K mg base ["_law_kind", "_law_found", "_law_turn"] "_law_deep" (defScope s_law_deep) (He.fAd K ("_law_deep", none)) cdv A outer s H E) (defBody s_law_deep) t ∧ t { nx := fun _ H' => Q .non H', rt := Q } (start ["_law_kind", "_law_found", "_law_turn"] vs) H) :
    Fk P w K mg base CX (k + 1) (He.fAd K ("_law_deep", none)) ["_law_kind"] sp := by
  obtain ⟨fd, F⟩ := T.F_law_deep
  exact ⟨⟨fd, F.ok c_law_deep len hb, F.bindsN fun _ _ _ _ _ _ us hl => match us, hl with | [_], _ => rfl⟩, F.kp⟩
theorem k0_law_deep (T : Tx K mg) (len : ∀ vs H Q E, sp vs H Q E → vs.length = 1)
    (hb : ∀ (cdv : Value) (A : Around) (outer : List Env) (s : Shared) (H : Hp) (vs : List V) (Q : VK) (E : XK), Room k (A.deeper (envOfC "_law_deep" (defScope s_law_deep) s.heap.objs.size (He.fAd K ("_law_deep", none)) cdv)) → sp vs H Q E →
      ∃ t, PSs (cxOf CX0 P w K mg base ["_law_kind", "_law_found", "_law_turn"] "_law_deep" (defScope s_law_deep) (He.fAd K ("_law_deep", none)) cdv A outer s H E).nox (defBody s_law_deep) t ∧ t { nx := fun _ H' => Q .non H', rt := Q } (start ["_law_kind", "_law_found", "_law_turn"] vs) H) :
    Fk P w K mg base CX0 (k + 1) (He.fAd K ("_law_deep", none)) ["_law_kind"] sp :=
  k_law_deep T len fun cdv A outer s H vs Q E hr h => let ⟨t, a, b⟩ := hb cdv A outer s H vs Q E hr h; ⟨t, a.nox, b⟩
theorem k_law_least_clash (T : Tx K mg) (len : ∀ vs H Q E, sp vs H Q E → vs.length = 1)
    (hb : ∀ (cdv : Value) (A : Around) (outer : List Env) (s : Shared) (H : Hp) (vs : List V) (Q : VK) (E : XK), Room k (A.deeper (envOfC "_law_least_clash" (defScope s_law_least_clash) s.heap.objs.size (He.fAd K ("_law_least_clash", none)) cdv)) → sp vs H Q E →
      ∃ t, PSs (cxOf CX P w K mg base ["_law_texts", "_law_found", "_law_one", "_law_other"] "_law_least_clash" (defScope s_law_least_clash) (He.fAd K ("_law_least_clash", none)) cdv A outer s H E) (defBody s_law_least_clash) t ∧ t { nx := fun _ H' => Q .non H', rt := Q } (start ["_law_texts", "_law_found", "_law_one", "_law_other"] vs) H) :
    Fk P w K mg base CX (k + 1) (He.fAd K ("_law_least_clash", none)) ["_law_texts"] sp := by
  obtain ⟨fd, F⟩ := T.F_law_least_clash
  exact ⟨⟨fd, F.ok c_law_least_clash len hb, F.bindsN fun _ _ _ _ _ _ us hl => match us, hl with | [_], _ => rfl⟩, F.kp⟩
theorem k0_law_least_clash (T : Tx K mg) (len : ∀ vs H Q E, sp vs H Q E → vs.length = 1)
    (hb : ∀ (cdv : Value) (A : Around) (outer : List Env) (s : Shared) (H : Hp) (vs : List V) (Q : VK) (E : XK), Room k (A.deeper (envOfC "_law_least_clash" (defScope s_law_least_clash) s.heap.objs.size (He.fAd K ("_law_least_clash", none)) cdv)) → sp vs H Q E →
      ∃ t, PSs (cxOf CX0 P w K mg base ["_law_texts", "_law_found", "_law_one", "_law_other"] "_law_least_clash" (defScope s_law_least_clash) (He.fAd K ("_law_least_clash", none)) cdv A outer s H E).nox (defBody s_law_least_clash) t ∧ t { nx := fun _ H' => Q .non H', rt := Q } (start ["_law_texts", "_law_found", "_law_one", "_law_other"] vs) H) :
    Fk P w K mg base CX0 (k + 1) (He.fAd K ("_law_least_clash", none)) ["_law_texts"] sp :=
  k_law_least_clash T len fun cdv A outer s H vs Q E hr h => let ⟨t, a, b⟩ := hb cdv A outer s H vs Q E hr h; ⟨t, a.nox, b⟩
theorem k_law_is_text (T : Tx K mg) (len : ∀ vs H Q E, sp vs H Q E → vs.length = 3)
    (hb : ∀ (cdv : Value) (A : Around) (outer : List Env) (s : Shared) (H : Hp) (vs : List V) (Q : VK) (E : XK), Room k (A.deeper (envOfC "_law_is_text" (defScope s_law_is_text) s.heap.objs.size (He.fAd K ("_law_is_text", none)) cdv)) → sp vs H Q E →
      ∃ t, PSs (cxOf CX P w K mg base ["_law_thing", "_law_least", "_law_most", "_law_sign"] "_law_is_text" (defScope s_law_is_text) (He.fAd K ("_law_is_text", none)) cdv A outer s H E) (defBody s_law_is_text) t ∧ t { nx := fun _ H' => Q .non H', rt := Q } (start ["_law_thing", "_law_least", "_law_most", "_law_sign"] vs) H) :
    Fk P w K mg base CX (k + 1) (He.fAd K ("_law_is_text", none)) ["_law_thing", "_law_least", "_law_most"] sp := by
  obtain ⟨fd, F⟩ := T.F_law_is_text
  exact ⟨⟨fd, F.ok c_law_is_text len hb, F.bindsN fun _ _ _ _ _ _ us hl => match us, hl with | [_, _, _], _ => rfl⟩, F.kp⟩
theorem k0_law_is_text (T : Tx K mg) (len : ∀ vs H Q E, sp vs H Q E → vs.length = 3)
    (hb : ∀ (cdv : Value) (A : Around) (outer : List Env) (s : Shared) (H : Hp) (vs : List V) (Q : VK) (E : XK), Room k (A.deeper (envOfC "_law_is_text" (defScope s_law_is_text) s.heap.objs.size (He.fAd K ("_law_is_text", none)) cdv)) → sp vs H Q E →
      ∃ t, PSs (cxOf CX0 P w K mg base ["_law_thing", "_law_least", "_law_most", "_law_sign"] "_law_is_text" (defScope s_law_is_text) (He.fAd K ("_law_is_text", none)) cdv A outer s H E).nox (defBody s_law_is_text) t ∧ t { nx := fun _ H' => Q .non H', rt := Q } (start ["_law_thing", "_law_least", "_law_most", "_law_sign"] vs) H) :
    Fk P w K mg base CX0 (k + 1) (He.fAd K ("_law_is_text", none)) ["_law_thing", "_law_least", "_law_most"] sp :=
  k_law_is_text T len fun cdv A outer s H vs Q E hr h => let ⟨t, a, b⟩ := hb cdv A outer s H vs Q E hr h; ⟨t, a.nox, b⟩
theorem k_law_is_stretch (T : Tx K mg) (len : ∀ vs H Q E, sp vs H Q E → vs.length = 2)
    (hb : ∀ (cdv : Value) (A : Around) (outer : List Env) (s : Shared) (H : Hp) (vs : List V) (Q : VK) (E : XK), Room k (A.deeper (envOfC "_law_is_stretch" (defScope s_law_is_stretch) s.heap.objs.size (He.fAd K ("_law_is_stretch", none)) cdv)) → sp vs H Q E →
      ∃ t, PSs (cxOf CX P w K mg base ["_law_parts", "_law_thing"] "_law_is_stretch" (defScope s_law_is_stretch) (He.fAd K ("_law_is_stretch", none)) cdv A outer s H E) (defBody s_law_is_stretch) t ∧ t { nx := fun _ H' => Q .non H', rt := Q } (start ["_law_parts", "_law_thing"] vs) H) :
    Fk P w K mg base CX (k + 1) (He.fAd K ("_law_is_stretch", none)) ["_law_parts", "_law_thing"] sp := by
  obtain ⟨fd, F⟩ := T.F_law_is_stretch
  exact ⟨⟨fd, F.ok c_law_is_stretch len hb, F.bindsN fun _ _ _ _ _ _ us hl => match us, hl with | [_, _], _ => rfl⟩, F.kp⟩
theorem k0_law_is_stretch (T : Tx K mg) (len : ∀ vs H Q E, sp vs H Q E → vs.length = 2)
    (hb : ∀ (cdv : Value) (A : Around) (outer : List Env) (s : Shared) (H : Hp) (vs : List V) (Q : VK) (E : XK), Room k (A.deeper (envOfC "_law_is_stretch" (defScope s_law_is_stretch) s.heap.objs.size (He.fAd K ("_law_is_stretch", none)) cdv)) → sp vs H Q E →
      ∃ t, PSs (cxOf CX0 P w K mg base ["_law_parts", "_law_thing"] "_law_is_stretch" (defScope s_law_is_stretch) (He.fAd K ("_law_is_stretch", none)) cdv A outer s H E).nox (defBody s_law_is_stretch) t ∧ t { nx := fun _ H' => Q .non H', rt := Q } (start ["_law_parts", "_law_thing"] vs) H) :
    Fk P w K mg base CX0 (k + 1) (He.fAd K ("_law_is_stretch", none)) ["_law_parts", "_law_thing"] sp :=
  k_law_is_stretch T len fun cdv A outer s H vs Q E hr h => let ⟨t, a, b⟩ := hb cdv A outer s H vs Q E hr h; ⟨t, a.nox, b⟩
theorem k_law_due (T : Tx K mg) (len : ∀ vs H Q E, sp vs H Q E → vs.length = 2)
    (hb : ∀ (cdv : Value) (A : Around) (outer : List Env) (s : Shared) (H : Hp) (vs : List V) (Q : VK) (E : XK), Room k (A.deeper (envOfC "_law_due" (defScope s_law_due) s.heap.objs.size (He.fAd K ("_law_due", none)) cdv)) → sp vs H Q E →
      ∃ t, PSs (cxOf CX P w K mg base ["_law_parts", "_law_thing", "_law_word", "_law_k"] "_law_due" (defScope s_law_due) (He.fAd K ("_law_due", none)) cdv A outer s H E) (defBody s_law_due) t ∧ t { nx := fun _ H' => Q .non H', rt := Q } (start ["_law_parts", "_law_thing", "_law_word", "_law_k"] vs) H) :
    Fk P w K mg base CX (k + 1) (He.fAd K ("_law_due", none)) ["_law_parts", "_law_thing"] sp := by
  obtain ⟨fd, F⟩ := T.F_law_due
  exact ⟨⟨fd, F.ok c_law_due len hb, F.bindsN fun _ _ _ _ _ _ us hl => match us, hl with | [_, _], _ => rfl⟩, F.kp⟩
theorem k0_law_due (T : Tx K mg) (len : ∀ vs H Q E, sp vs H Q E → vs.length = 2)
    (hb : ∀ (cdv : Value) (A : Around) (outer : List Env) (s : Shared) (H : Hp) (vs : List V) (Q : VK) (E : XK), Room k (A.deeper (envOfC "_law_due" (defScope s_law_due) s.heap.objs.size (He.fAd K ("_law_due", none)) cdv)) → sp vs H Q E →
      ∃ t, PSs (cxOf CX0 P w K mg base ["_law_parts", "_law_thing", "_law_word", "_law_k"] "_law_due" (defScope s_law_due) (He.fAd K ("_law_due", none)) cdv A outer s H E).nox (defBody s_law_due) t ∧ t { nx := fun _ H' => Q .non H', rt := Q } (start ["_law_parts", "_law_thing", "_law_word", "_law_k"] vs) H) :
    Fk P w K mg base CX0 (k + 1) (He.fAd K ("_law_due", none)) ["_law_parts", "_law_thing"] sp :=
  k_law_due T len fun cdv A outer s H vs Q E hr h => let ⟨t, a, b⟩ := hb cdv A outer s H vs Q E hr h; ⟨t, a.nox, b⟩
theorem k_law_bent (T : Tx K mg) (len : ∀ vs H Q E, sp vs H Q E → vs.length = 4)
    (hb : ∀ (cdv : Value) (A : Around) (outer : List Env) (s : Shared) (H : Hp) (vs : List V) (Q : VK) (E : XK), Room k (A.deeper (envOfC "_law_bent" (defScope s_law_bent) s.heap.objs.size (He.fAd K ("_law_bent", none)) cdv)) → sp vs H Q E →
      ∃ t, PSs (cxOf CX P w K mg base ["_law_hand_here", "_law_parts", "_law_words_here", "_law_web_here", "_law_kind", "_law_odd", "_law_text", "_law_at", "_law_other", "_law_word"] "_law_bent" (defScope s_law_bent) (He.fAd K ("_law_bent", none)) cdv A outer s H E) (defBody s_law_bent) t ∧ t { nx := fun _ H' => Q .non H', rt := Q } (start ["_law_hand_here", "_law_parts", "_law_words_here", "_law_web_here", "_law_kind", "_law_odd", "_law_text", "_law_at", "_law_other", "_law_word"] vs) H) :
    Fk P w K mg base CX (k + 1) (He.fAd K ("_law_bent", none)) ["_law_hand_here", "_law_parts", "_law_words_here", "_law_web_here"] sp := by
  obtain ⟨fd, F⟩ := T.F_law_bent
  exact ⟨⟨fd, F.ok c_law_bent len hb, F.bindsN fun _ _ _ _ _ _ us hl => match us, hl with | [_, _, _, _], _ => rfl⟩, F.kp⟩
theorem k0_law_bent (T : Tx K mg) (len : ∀ vs H Q E, sp vs H Q E → vs.length = 4)
    (hb : ∀ (cdv : Value) (A : Around) (outer : List Env) (s : Shared) (H : Hp) (vs : List V) (Q : VK) (E : XK), Room k (A.deeper (envOfC "_law_bent" (defScope s_law_bent) s.heap.objs.size (He.fAd K ("_law_bent", none)) cdv)) → sp vs H Q E →
      ∃ t, PSs (cxOf CX0 P w K mg base ["_law_hand_here", "_law_parts", "_law_words_here", "_law_web_here", "_law_kind", "_law_odd", "_law_text", "_law_at", "_law_other", "_law_word"] "_law_bent" (defScope s_law_bent) (He.fAd K ("_law_bent", none)) cdv A outer s H E).nox (defBody s_law_bent) t ∧ t { nx := fun _ H' => Q .non H', rt := Q } (start ["_law_hand_here", "_law_parts", "_law_words_here", "_law_web_here", "_law_kind", "_law_odd", "_law_text", "_law_at", "_law_other", "_law_word"] vs) H) :
    Fk P w K mg base CX0 (k + 1) (He.fAd K ("_law_bent", none)) ["_law_hand_here", "_law_parts", "_law_words_here", "_law_web_here"] sp :=
  k_law_bent T len fun cdv A outer s H vs Q E hr h => let ⟨t, a, b⟩ := hb cdv A outer s H vs Q E hr h; ⟨t, a.nox, b⟩
theorem k_law_told (T : Tx K mg) (len : ∀ vs H Q E, sp vs H Q E → vs.length = 2)
    (hb : ∀ (cdv : Value) (A : Around) (outer : List Env) (s : Shared) (H : Hp) (vs : List V) (Q : VK) (E : XK), Room k (A.deeper (envOfC "_law_told" (defScope s_law_told) s.heap.objs.size (He.fAd K ("_law_told", none)) cdv)) → sp vs H Q E →
      ∃ t, PSs (cxOf CX P w K mg base ["_law_web_here", "_law_thing", "_law_told_here", "e"] "_law_told" (defScope s_law_told) (He.fAd K ("_law_told", none)) cdv A outer s H E) (defBody s_law_told) t ∧ t { nx := fun _ H' => Q .non H', rt := Q } (start ["_law_web_here", "_law_thing", "_law_told_here", "e"] vs) H) :
    Fk P w K mg base CX (k + 1) (He.fAd K ("_law_told", none)) ["_law_web_here", "_law_thing"] sp := by
  obtain ⟨fd, F⟩ := T.F_law_told
  exact ⟨⟨fd, F.ok c_law_told len hb, F.bindsN fun _ _ _ _ _ _ us hl => match us, hl with | [_, _], _ => rfl⟩, F.kp⟩
theorem k0_law_told (T : Tx K mg) (len : ∀ vs H Q E, sp vs H Q E → vs.length = 2)
    (hb : ∀ (cdv : Value) (A : Around) (outer : List Env) (s : Shared) (H : Hp) (vs : List V) (Q : VK) (E : XK), Room k (A.deeper (envOfC "_law_told" (defScope s_law_told) s.heap.objs.size (He.fAd K ("_law_told", none)) cdv)) → sp vs H Q E →
      ∃ t, PSs (cxOf CX0 P w K mg base ["_law_web_here", "_law_thing", "_law_told_here", "e"] "_law_told" (defScope s_law_told) (He.fAd K ("_law_told", none)) cdv A outer s H E).nox (defBody s_law_told) t ∧ t { nx := fun _ H' => Q .non H', rt := Q } (start ["_law_web_here", "_law_thing", "_law_told_here", "e"] vs) H) :
    Fk P w K mg base CX0 (k + 1) (He.fAd K ("_law_told", none)) ["_law_web_here", "_law_thing"] sp :=
  k_law_told T len fun cdv A outer s H vs Q E hr h => let ⟨t, a, b⟩ := hb cdv A outer s H vs Q E hr h; ⟨t, a.nox, b⟩
end
end NJ

set_option Elab.async false
set_option linter.all false
set_option maxRecDepth 100000
set_option maxHeartbeats 0
namespace NJ
open PySem PySem.Spec PyProof.Rows L2
def d_BadBook__init_ : He.DefD := ⟨("BadBook", some "__init__"), "__init__", "BadBook.__init__", defArgs s_BadBook__init_, defBody s_BadBook__init_, defScope s_BadBook__init_, [], []⟩
def d_is_integer : He.DefD := ⟨("is_integer", none), "is_integer", "is_integer", defArgs s_is_integer, defBody s_is_integer, defScope s_is_integer, [], []⟩
def d_is_number : He.DefD := ⟨("is_number", none), "is_number", "is_number", defArgs s_is_number, defBody s_is_number, defScope s_is_number, [], []⟩
def d_is_text : He.DefD := ⟨("is_text", none), "is_text", "is_text", defArgs s_is_text, defBody s_is_text, defScope s_is_text, [], []⟩
def d_is_long_text : He.DefD := ⟨("is_long_text", none), "is_long_text", "is_long_text", defArgs s_is_long_text, defBody s_is_long_text, defScope s_is_long_text, [], []⟩
def d_is_letter : He.DefD := ⟨("is_letter", none), "is_letter", "is_letter", defArgs s_is_letter, defBody s_is_letter, defScope s_is_letter, [], []⟩
def d_are_ascending : He.DefD := ⟨("are_ascending", none), "are_ascending", "are_ascending", defArgs s_are_ascending, defBody s_are_ascending, defScope s_are_ascending, [], []⟩
def d_links : He.DefD := ⟨("links", none), "links", "links", defArgs s_links, defBody s_links, defScope s_links, [], []⟩
def d_led_back : He.DefD := ⟨("led_back", none), "led_back", "led_back", defArgs s_led_back, defBody s_led_back, defScope s_led_back, [], []⟩
def d_reached : He.DefD := ⟨("reached", none), "reached", "reached", defArgs s_reached, defBody s_reached, defScope s_reached, [], []⟩
def d_all_joined : He.DefD := ⟨("all_joined", none), "all_joined", "all_joined", defArgs s_all_joined, defBody s_all_joined, defScope s_all_joined, [], []⟩
def d_all_points : He.DefD := ⟨("all_points", none), "all_points", "all_points", defArgs s_all_points, defBody s_all_points, defScope s_all_points, [], []⟩
def d_moved : He.DefD := ⟨("moved", none), "moved", "moved", defArgs s_moved, defBody s_moved, defScope s_moved, [], []⟩
def d_step : He.DefD := ⟨("step", none), "step", "step", defArgs s_step, defBody s_step, defScope s_step, [], []⟩
def d_walked : He.DefD := ⟨("walked", none), "walked", "walked", defArgs s_walked, defBody s_walked, defScope s_walked, [], []⟩
def d_Web__init_ : He.DefD := ⟨("Web", some "__init__"), "__init__", "Web.__init__", defArgs s_Web__init_, defBody s_Web__init_, defScope s_Web__init_, [], []⟩
def d_Web_lay : He.DefD := ⟨("Web", some "lay"), "lay", "Web.lay", defArgs s_Web_lay, defBody s_Web_lay, defScope s_Web_lay, [], []⟩
def d_Web__eq_ : He.DefD := ⟨("Web", some "__eq__"), "__eq__", "Web.__eq__", defArgs s_Web__eq_, defBody s_Web__eq_, defScope s_Web__eq_, [], []⟩
def d_letter_rows : He.DefD := ⟨("letter_rows", none), "letter_rows", "letter_rows", defArgs s_letter_rows, defBody s_letter_rows, defScope s_letter_rows, [], []⟩
def d_wrong_part_webs : He.DefD := ⟨("wrong_part_webs", none), "wrong_part", "wrong_part", defArgs s_wrong_part_webs, defBody s_wrong_part_webs, defScope s_wrong_part_webs, [], []⟩
def d_are_arrows : He.DefD := ⟨("are_arrows", none), "are_arrows", "are_arrows", defArgs s_are_arrows, defBody s_are_arrows, defScope s_are_arrows, [], []⟩
def d_is_arrow : He.DefD := ⟨("is_arrow", none), "is_arrow", "is_arrow", defArgs s_is_arrow, defBody s_is_arrow, defScope s_is_arrow, [], []⟩
def d_is_stretch : He.DefD := ⟨("is_stretch", none), "is_stretch", "is_stretch", defArgs s_is_stretch, defBody s_is_stretch, defScope s_is_stretch, [], []⟩
def d_Book__init_ : He.DefD := ⟨("Book", some "__init__"), "__init__", "Book.__init__", defArgs s_Book__init_, defBody s_Book__init_, defScope s_Book__init_, [], []⟩
def d_Book__eq_ : He.DefD := ⟨("Book", some "__eq__"), "__eq__", "Book.__eq__", defArgs s_Book__eq_, defBody s_Book__eq_, defScope s_Book__eq_, [], []⟩
def d_wrong_part_books : He.DefD := ⟨("wrong_part_books", none), "wrong_part", "wrong_part", defArgs s_wrong_part_books, defBody s_wrong_part_books, defScope s_wrong_part_books, [], []⟩
def d_are_words : He.DefD := ⟨("are_words", none), "are_words", "are_words", defArgs s_are_words, defBody s_are_words, defScope s_are_words, [], []⟩
def d_least_clash : He.DefD := ⟨("least_clash", none), "least_clash", "least_clash", defArgs s_least_clash, defBody s_least_clash, defScope s_least_clash, [], []⟩
def d_beginning_texts : He.DefD := ⟨("beginning_texts", none), "beginning_texts", "beginning_texts", defArgs s_beginning_texts, defBody s_beginning_texts, defScope s_beginning_texts, [], []⟩
def d_law_hand : He.DefD := ⟨("_law_hand", none), "_law_hand", "_law_hand", defArgs s_law_hand, defBody s_law_hand, defScope s_law_hand, [], []⟩
def d_law_draw : He.DefD := ⟨("_law_draw", none), "_law_draw", "_law_draw", defArgs s_law_draw, defBody s_law_draw, defScope s_law_draw, [], []⟩
def d_law_is : He.DefD := ⟨("_law_is", none), "_law_is", "_law_is", defArgs s_law_is, defBody s_law_is, defScope s_law_is, [], []⟩
def d_law_some : He.DefD := ⟨("_law_some", none), "_law_some", "_law_some", defArgs s_law_some, defBody s_law_some, defScope s_law_some, [], []⟩
def d_law_web : He.DefD := ⟨("_law_web", none), "_law_web", "_law_web", defArgs s_law_web, defBody s_law_web, defScope s_law_web, [], []⟩
def d_law_ends : He.DefD := ⟨("_law_ends", none), "_law_ends", "_law_ends", defArgs s_law_ends, defBody s_law_ends, defScope s_law_ends, [], []⟩
def d_law_signs : He.DefD := ⟨("_law_signs", none), "_law_signs", "_law_signs", defArgs s_law_signs, defBody s_law_signs, defScope s_law_signs, [], []⟩
def d_law_longer : He.DefD := ⟨("_law_longer", none), "_law_longer", "_law_longer", defArgs s_law_longer, defBody s_law_longer, defScope s_law_longer, [], []⟩
def d_law_stretches : He.DefD := ⟨("_law_stretches", none), "_law_stretches", "_law_stretches", defArgs s_law_stretches, defBody s_law_stretches, defScope s_law_stretches, [], []⟩
def d_law_clashing : He.DefD := ⟨("_law_clashing", none), "_law_clashing", "_law_clashing", defArgs s_law_clashing, defBody s_law_clashing, defScope s_law_clashing, [], []⟩
def d_law_fits : He.DefD := ⟨("_law_fits", none), "_law_fits", "_law_fits", defArgs s_law_fits, defBody s_law_fits, defScope s_law_fits, [], []⟩
def d_law_comings : He.DefD := ⟨("_law_comings", none), "_law_comings", "_law_comings", defArgs s_law_comings, defBody s_law_comings, defScope s_law_comings, [], []⟩
def d_law_count : He.DefD := ⟨("_law_count", none), "_law_count", "_law_count", defArgs s_law_count, defBody s_law_count, defScope s_law_count, [], []⟩
def d_law_made : He.DefD := ⟨("_law_made", none), "_law_made", "_law_made", defArgs s_law_made, defBody s_law_made, defScope s_law_made, [], []⟩
def d_law_is_last : He.DefD := ⟨("_law_is_last", none), "_law_is_last", "_law_is_last", defArgs s_law_is_last, defBody s_law_is_last, defScope s_law_is_last, [], []⟩
def d_law_lot : He.DefD := ⟨("_law_lot", none), "_law_lot", "_law_lot", defArgs s_law_lot, defBody s_law_lot, defScope s_law_lot, [], []⟩
def d_law_full : He.DefD := ⟨("_law_full", none), "_law_full", "_law_full", defArgs s_law_full, defBody s_law_full, defScope s_law_full, [], []⟩
def d_law_words : He.DefD := ⟨("_law_words", none), "_law_words", "_law_words", defArgs s_law_words, defBody s_law_words, defScope s_law_words, [], []⟩
def d_law_walk : He.DefD := ⟨("_law_walk", none), "_law_walk", "_law_walk", defArgs s_law_walk, defBody s_law_walk, defScope s_law_walk, [], []⟩
def d_law_deep : He.DefD := ⟨("_law_deep", none), "_law_deep", "_law_deep", defArgs s_law_deep, defBody s_law_deep, defScope s_law_deep, [], []⟩
def d_law_least_clash : He.DefD := ⟨("_law_least_clash", none), "_law_least_clash", "_law_least_clash", defArgs s_law_least_clash, defBody s_law_least_clash, defScope s_law_least_clash, [], []⟩
def d_law_is_text : He.DefD := ⟨("_law_is_text", none), "_law_is_text", "_law_is_text", defArgs s_law_is_text, defBody s_law_is_text, defScope s_law_is_text, [], []⟩
def d_law_is_stretch : He.DefD := ⟨("_law_is_stretch", none), "_law_is_stretch", "_law_is_stretch", defArgs s_law_is_stretch, defBody s_law_is_stretch, defScope s_law_is_stretch, [], []⟩
def d_law_due : He.DefD := ⟨("_law_due", none), "_law_due", "_law_due", defArgs s_law_due, defBody s_law_due, defScope s_law_due, [], []⟩
def d_law_bent : He.DefD := ⟨("_law_bent", none), "_law_bent", "_law_bent", defArgs s_law_bent, defBody s_law_bent, defScope s_law_bent, [], []⟩
def d_law_told : He.DefD := ⟨("_law_told", none), "_law_told", "_law_told", defArgs s_law_told, defBody s_law_told, defScope s_law_told, [], []⟩
def d_law : He.DefD := ⟨("law", none), "law", "law", defArgs s_law, defBody s_law, defScope s_law, [], []⟩
def fns : List He.DefD := [d_BadBook__init_, d_is_integer, d_is_number, d_is_text, d_is_long_text, d_is_letter, d_are_ascending, d_links, d_led_back, d_reached, d_all_joined, d_all_points, d_moved, d_step, d_walked, d_Web__init_, d_Web_lay, d_Web__eq_, d_letter_rows, d_wrong_part_webs, d_are_arrows, d_is_arrow, d_is_stretch, d_Book__init_, d_Book__eq_, d_wrong_part_books, d_are_words, d_least_clash, d_beginning_texts, d_law_hand, d_law_draw, d_law_is, d_law_some, d_law_web, d_law_ends, d_law_signs, d_law_longer, d_law_stretches, d_law_clashing, d_law_fits, d_law_comings, d_law_count, d_law_made, d_law_is_last, d_law_lot, d_law_full, d_law_words, d_law_walk, d_law_deep, d_law_least_clash, d_law_is_text, d_law_is_stretch, d_law_due, d_law_bent, d_law_told, d_law]
def fas : List He.Fa := [.glo "BadBook", .glo "is_integer", .glo "is_number", .glo "is_text", .glo "is_long_text", .glo "is_letter", .glo "are_ascending", .glo "links", .glo "led_back", .glo "reached", .glo "all_joined", .glo "all_points", .glo "moved", .glo "step", .glo "walked", .int "MOST_POINTS" 12, .int "MOST_ARROWS" 60, .glo "Web", .glo "letter_rows", .glo "wrong_part_webs", .glo "are_arrows", .glo "is_arrow", .glo "is_stretch", .int "MOST_WORDS" 400, .int "LONGEST_WORD" 60, .glo "Book", .glo "wrong_part_books", .glo "are_words", .glo "least_clash", .glo "beginning_texts", .glo "_law_hand", .glo "_law_draw", .glo "_law_is", .glo "_law_some", .glo "_law_web", .glo "_law_ends", .glo "_law_signs", .glo "_law_longer", .glo "_law_stretches", .glo "_law_clashing", .glo "_law_fits", .glo "_law_comings", .glo "_law_count", .glo "_law_made", .glo "_law_is_last", .glo "_law_lot", .glo "_law_full", .glo "_law_words", .glo "_law_walk", .glo "_law_deep", .glo "_law_least_clash", .glo "_law_is_text", .glo "_law_is_stretch", .glo "_law_due", .glo "_law_bent", .glo "_law_told", .glo "law", .free "isinstance", .free "int", .free "bool", .free "str", .free "all", .free "len", .free "zip", .free "sorted", .free "set", .free "list", .free "range", .free "tuple", .free "abs", .free "dict", .free "any", .free "min", .cls "Web", .noat "Web" "points", .noat "Web" "arrows", .noat "Web" "onward", .noat "Web" "backward", .mkr "Web", .meth "Web" "lay", .cls "Book", .noat "Book" "web", .noat "Book" "words", .mkr "Book", .exm "BadBook" "BadBook" true]
def xfs : List (PySem.W.Frag → Bool) := [insB "Web", kitB2 "Web" "str" false, kitB2 "Web" "tuple" false, insB "Book", oexB "BadBook", inheritB "BadBook" "BadBook", xfFB "BadBook" "part", oeqB "Web", oeqB "Book", oneB "Book", otcB "Web" "Book", othB "Book"]
abbrev RR : PySem.W.OpenRow := PySem.W.OpenLaw.row PySem.Challenge.rw_neverjoin_k21_books_judged
abbrev hk : PySem.W.Hook := hookX 5 fas fns xfs
def ob (s : PySem.W.SharedT) : Bool × He.AlD := obX 5 fas fns xfs (HandSHeadRun.getT s)
theorem ob_eq (s : PySem.W.SharedT) : ob s = hk.obs s.abs := obX_eq (HandSHeadRun.getT_eq s)
def nms0 : List PySem.Str := ["JoinError", "BadWeb", "BadBook", "is_integer", "is_number", "is_text", "is_long_text", "is_letter", "are_ascending", "links", "led_back", "reached"]
def nms1 : List PySem.Str := ["all_joined", "all_points", "moved", "step", "walked", "MOST_POINTS", "MOST_ARROWS", "Web", "letter_rows", "wrong_part", "wrong_part_webs", "are_arrows"]
def nms2 : List PySem.Str := ["is_arrow", "is_stretch", "MOST_WORDS", "LONGEST_WORD", "Book", "wrong_part_books", "are_words", "least_clash", "beginning_texts", "_law_hand", "_law_draw", "_law_is"]
def nms3 : List PySem.Str := ["_law_some", "_law_web", "_law_ends", "_law_signs", "_law_longer", "_law_stretches", "_law_clashing", "_law_fits", "_law_comings", "_law_count", "_law_made", "_law_is_last"]
def nms4 : List PySem.Str := ["_law_lot", "_law_full", "_law_words", "_law_walk", "_law_deep", "_law_least_clash", "_law_is_text", "_law_is_stretch", "_law_due", "_law_bent", "_law_told"]
abbrev nms : List PySem.Str := nms0 ++ nms1 ++ nms2 ++ nms3 ++ nms4
theorem map3 {α β γ δ : Type} {x : Option α} {f : α → β} {g : α → γ} {h : α → δ} {a : β} {b : γ} {c : δ} (h1 : x.map f = some a) (h2 : x.map g = some b) (h3 : x.map h = some c) : x.map (fun s => (f s, g s, h s)) = some (a, b, c) := by
  cases x with
  | none => cases h1
  | some s =>
    cases h1
    cases h2
    cases h3
    rfl
theorem mapP {α β γ : Type} {x : Option α} {f : α → β × γ} {a : β × γ} (h1 : x.map (fun s => (f s).1) = some a.1) (h2 : x.map (fun s => (f s).2) = some a.2) : x.map f = some a := by
  cases x with
  | none => cases h1
  | some s =>
    rw [Option.map_some, Option.some.injEq] at h1 h2 ⊢
    exact Prod.ext h1 h2
theorem mapAll {α β : Type} {x : Option α} {l : List β} {p : α → β → Bool} (k : Nat) (h1 : x.map (fun s => (l.take k).all (p s)) = some true) (h2 : x.map (fun s => (l.drop k).all (p s)) = some true) : x.map (fun s => l.all (p s)) = some true := by
  cases x with
  | none => cases h1
  | some s =>
    rw [Option.map_some, Option.some.injEq] at h1 h2 ⊢
    rw [← List.take_append_drop k l, List.all_append, h1, h2]
    rfl
theorem mapMap {α β γ : Type} {x : Option α} {l : List β} {p : α → β → γ} {v : β → γ} (k : Nat) (h1 : x.map (fun s => (l.take k).map (p s)) = some ((l.take k).map v)) (h2 : x.map (fun s => (l.drop k).map (p s)) = some ((l.drop k).map v)) : x.map (fun s => l.map (p s)) = some (l.map v) := by
  cases x with
  | none => cases h1
  | some s =>
    rw [Option.map_some, Option.some.injEq] at h1 h2 ⊢
    rw [← List.take_append_drop k l, List.map_append, List.map_append, h1, h2]
theorem mapAnd {α : Type} {x : Option α} {f g : α → Bool} (h1 : x.map f = some true) (h2 : x.map g = some true) : x.map (fun s => f s && g s) = some true := by
  cases x with
  | none => cases h1
  | some s =>
    rw [Option.map_some, Option.some.injEq] at h1 h2 ⊢
    rw [h1, h2]
    rfl
section
open PySem.W PySem.Calls
theorem run_a (w : World) (os : OsState) : (HandSHeadRun.endF (HandSHeadRun.stepQ (HandSHeadRun.denQ HandSHeadRun.tabQ) RR.prog w) 8000 RR.prog w os).map (fun s => HandSHeadRun.looksF RR.prog (boot_heap w.params) s.abs) = some true := by
  kernel_rfl
theorem run_b (w : World) (os : OsState) : (HandSHeadRun.endF (HandSHeadRun.stepQ (HandSHeadRun.denQ HandSHeadRun.tabQ) RR.prog w) 8000 RR.prog w os).map (fun s => HandSHeadRun.seenQ (PySem.W.view RR.prog [67]) nms (importedModules RR.prog.main.body) (fun s => PySem.W.xlAt (PySem.W.view RR.prog [67]) [] s && recOk RR.toRowW.records s) s.abs) = some (PySem.W.openGood (PySem.W.view RR.prog [67]) nms) := by
  kernel_rfl
def obK (s : PySem.W.SharedT) : PySem.W.Frag := He.frG (HandSHeadRun.getT s) (He.asD (HandSHeadRun.getT s) 5)
theorem run_c0 (w : World) (os : OsState) : (HandSHeadRun.endF (HandSHeadRun.stepQ (HandSHeadRun.denQ HandSHeadRun.tabQ) RR.prog w) 8000 RR.prog w os).map (fun s => xfs.all fun f => f (obK s)) = some true := by
  kernel_rfl
theorem run_f0 (w : World) (os : OsState) : (HandSHeadRun.endF (HandSHeadRun.stepQ (HandSHeadRun.denQ HandSHeadRun.tabQ) RR.prog w) 8000 RR.prog w os).map (fun s => (fas.take 45).all fun f => f.ok (obK s)) = some true := by
  kernel_rfl
theorem run_f1 (w : World) (os : OsState) : (HandSHeadRun.endF (HandSHeadRun.stepQ (HandSHeadRun.denQ HandSHeadRun.tabQ) RR.prog w) 8000 RR.prog w os).map (fun s => ((fas.drop 45).take 20).all fun f => f.ok (obK s)) = some true := by
  kernel_rfl
theorem run_f2 (w : World) (os : OsState) : (HandSHeadRun.endF (HandSHeadRun.stepQ (HandSHeadRun.denQ HandSHeadRun.tabQ) RR.prog w) 8000 RR.prog w os).map (fun s => (((fas.drop 45).drop 20).take 15).all fun f => f.ok (obK s)) = some true := by
  kernel_rfl
theorem run_f3 (w : World) (os : OsState) : (HandSHeadRun.endF (HandSHeadRun.stepQ (HandSHeadRun.denQ HandSHeadRun.tabQ) RR.prog w) 8000 RR.prog w os).map (fun s => (((fas.drop 45).drop 20).drop 15).all fun f => f.ok (obK s)) = some true := by
  kernel_rfl
theorem run_g0 (w : World) (os : OsState) : (HandSHeadRun.endF (HandSHeadRun.stepQ (HandSHeadRun.denQ HandSHeadRun.tabQ) RR.prog w) 8000 RR.prog w os).map (fun s => (fns.take 20).all fun f => f.ok (obK s)) = some true := by
  kernel_rfl
theorem run_g1 (w : World) (os : OsState) : (HandSHeadRun.endF (HandSHeadRun.stepQ (HandSHeadRun.denQ HandSHeadRun.tabQ) RR.prog w) 8000 RR.prog w os).map (fun s => ((fns.drop 20).take 20).all fun f => f.ok (obK s)) = some true := by
  kernel_rfl
theorem run_g2 (w : World) (os : OsState) : (HandSHeadRun.endF (HandSHeadRun.stepQ (HandSHeadRun.denQ HandSHeadRun.tabQ) RR.prog w) 8000 RR.prog w os).map (fun s => ((fns.drop 20).drop 20).all fun f => f.ok (obK s)) = some true := by
  kernel_rfl
theorem run_c (w : World) (os : OsState) : (HandSHeadRun.endF (HandSHeadRun.stepQ (HandSHeadRun.denQ HandSHeadRun.tabQ) RR.prog w) 8000 RR.prog w os).map (fun s => (ob s).1) = some ((hk.val w).1) := (show (HandSHeadRun.endF (HandSHeadRun.stepQ (HandSHeadRun.denQ HandSHeadRun.tabQ) RR.prog w) 8000 RR.prog w os).map (fun s => xfs.all fun f => f (obK s)) = some true from (run_c0 w os))
theorem run_d (w : World) (os : OsState) : (HandSHeadRun.endF (HandSHeadRun.stepQ (HandSHeadRun.denQ HandSHeadRun.tabQ) RR.prog w) 8000 RR.prog w os).map (fun s => (ob s).2.1) = some ((hk.val w).2.1) := (show (HandSHeadRun.endF (HandSHeadRun.stepQ (HandSHeadRun.denQ HandSHeadRun.tabQ) RR.prog w) 8000 RR.prog w os).map (fun s => (fas.all fun f => f.ok (obK s)) && fns.all fun f => f.ok (obK s)) = some true from mapAnd (mapAll 45 (run_f0 w os) (mapAll 20 (run_f1 w os) (mapAll 15 (run_f2 w os) (run_f3 w os)))) (mapAll 20 (run_g0 w os) (mapAll 20 (run_g1 w os) (run_g2 w os))))
theorem run_e0 (w : World) (os : OsState) : (HandSHeadRun.endF (HandSHeadRun.stepQ (HandSHeadRun.denQ HandSHeadRun.tabQ) RR.prog w) 8000 RR.prog w os).map (fun s => (fns.take 26).map fun d => He.fnW (obK s) d.at_) = some ((fns.take 26).map He.DefD.val) := by
  kernel_rfl
theorem run_e1 (w : World) (os : OsState) : (HandSHeadRun.endF (HandSHeadRun.stepQ (HandSHeadRun.denQ HandSHeadRun.tabQ) RR.prog w) 8000 RR.prog w os).map (fun s => ((fns.drop 26).take 26).map fun d => He.fnW (obK s) d.at_) = some (((fns.drop 26).take 26).map He.DefD.val) := by
  kernel_rfl
theorem run_e2 (w : World) (os : OsState) : (HandSHeadRun.endF (HandSHeadRun.stepQ (HandSHeadRun.denQ HandSHeadRun.tabQ) RR.prog w) 8000 RR.prog w os).map (fun s => ((fns.drop 26).drop 26).map fun d => He.fnW (obK s) d.at_) = some (((fns.drop 26).drop 26).map He.DefD.val) := by
  kernel_rfl
theorem run_e (w : World) (os : OsState) : (HandSHeadRun.endF (HandSHeadRun.stepQ (HandSHeadRun.denQ HandSHeadRun.tabQ) RR.prog w) 8000 RR.prog w os).map (fun s => (ob s).2.2) = some ((hk.val w).2.2) := (show (HandSHeadRun.endF (HandSHeadRun.stepQ (HandSHeadRun.denQ HandSHeadRun.tabQ) RR.prog w) 8000 RR.prog w os).map (fun s => fns.map fun d => He.fnW (obK s) d.at_) = some (fns.map He.DefD.val) from (mapMap 26 (run_e0 w os) (mapMap 26 (run_e1 w os) (run_e2 w os))))
end
theorem run (w : World) : HandSHeadRun.RunEq RR (PySem.W.view RR.prog [67]) hk ob 8000 nms w := fun os => map3 (run_a w os) (run_b w os) (mapP (run_c w os) (mapP (run_d w os) (run_e w os)))
theorem tx_of_says {K : PySem.W.Frag} {h : Heap} {mg : Str → Option Value} (X : K.In h) (G : h.Ns mainGlobals mg) (c : SaysX fas fns xfs K) : Tx K mg := by
  have g_BadBook := He.glo_ok X G (c.d.fact 0 (f := .glo "BadBook") rfl)
  have g_is_integer := He.glo_ok X G (c.d.fact 1 (f := .glo "is_integer") rfl)
  have g_is_number := He.glo_ok X G (c.d.fact 2 (f := .glo "is_number") rfl)
  have g_is_text := He.glo_ok X G (c.d.fact 3 (f := .glo "is_text") rfl)
  have g_is_long_text := He.glo_ok X G (c.d.fact 4 (f := .glo "is_long_text") rfl)
  have g_is_letter := He.glo_ok X G (c.d.fact 5 (f := .glo "is_letter") rfl)
  have g_are_ascending := He.glo_ok X G (c.d.fact 6 (f := .glo "are_ascending") rfl)
  have g_links := He.glo_ok X G (c.d.fact 7 (f := .glo "links") rfl)
  have g_led_back := He.glo_ok X G (c.d.fact 8 (f := .glo "led_back") rfl)
  have g_reached := He.glo_ok X G (c.d.fact 9 (f := .glo "reached") rfl)
  have g_all_joined := He.glo_ok X G (c.d.fact 10 (f := .glo "all_joined") rfl)
  have g_all_points := He.glo_ok X G (c.d.fact 11 (f := .glo "all_points") rfl)
  have g_moved := He.glo_ok X G (c.d.fact 12 (f := .glo "moved") rfl)
  have g_step := He.glo_ok X G (c.d.fact 13 (f := .glo "step") rfl)
  have g_walked := He.glo_ok X G (c.d.fact 14 (f := .glo "walked") rfl)
  have i_MOST_POINTS := He.int_ok X G (c.d.fact 15 (f := .int "MOST_POINTS" 12) rfl)
  have i_MOST_ARROWS := He.int_ok X G (c.d.fact 16 (f := .int "MOST_ARROWS" 60) rfl)
  have g_Web := He.glo_ok X G (c.d.fact 17 (f := .glo "Web") rfl)
  have g_letter_rows := He.glo_ok X G (c.d.fact 18 (f := .glo "letter_rows") rfl)
  have g_wrong_part_webs := He.glo_ok X G (c.d.fact 19 (f := .glo "wrong_part_webs") rfl)
  have g_are_arrows := He.glo_ok X G (c.d.fact 20 (f := .glo "are_arrows") rfl)
  have g_is_arrow := He.glo_ok X G (c.d.fact 21 (f := .glo "is_arrow") rfl)
  have g_is_stretch := He.glo_ok X G (c.d.fact 22 (f := .glo "is_stretch") rfl)
  have i_MOST_WORDS := He.int_ok X G (c.d.fact 23 (f := .int "MOST_WORDS" 400) rfl)
  have i_LONGEST_WORD := He.int_ok X G (c.d.fact 24 (f := .int "LONGEST_WORD" 60) rfl)
  have g_Book := He.glo_ok X G (c.d.fact 25 (f := .glo "Book") rfl)
  have g_wrong_part_books := He.glo_ok X G (c.d.fact 26 (f := .glo "wrong_part_books") rfl)
  have g_are_words := He.glo_ok X G (c.d.fact 27 (f := .glo "are_words") rfl)
  have g_least_clash := He.glo_ok X G (c.d.fact 28 (f := .glo "least_clash") rfl)
  have g_beginning_texts := He.glo_ok X G (c.d.fact 29 (f := .glo "beginning_texts") rfl)
  have g_law_hand := He.glo_ok X G (c.d.fact 30 (f := .glo "_law_hand") rfl)
  have g_law_draw := He.glo_ok X G (c.d.fact 31 (f := .glo "_law_draw") rfl)
  have g_law_is := He.glo_ok X G (c.d.fact 32 (f := .glo "_law_is") rfl)
  have g_law_some := He.glo_ok X G (c.d.fact 33 (f := .glo "_law_some") rfl)
  have g_law_web := He.glo_ok X G (c.d.fact 34 (f := .glo "_law_web") rfl)
  have g_law_ends := He.glo_ok X G (c.d.fact 35 (f := .glo "_law_ends") rfl)
  have g_law_signs := He.glo_ok X G (c.d.fact 36 (f := .glo "_law_signs") rfl)
  have g_law_longer := He.glo_ok X G (c.d.fact 37 (f := .glo "_law_longer") rfl)
  have g_law_stretches := He.glo_ok X G (c.d.fact 38 (f := .glo "_law_stretches") rfl)
  have g_law_clashing := He.glo_ok X G (c.d.fact 39 (f := .glo "_law_clashing") rfl)
  have g_law_fits := He.glo_ok X G (c.d.fact 40 (f := .glo "_law_fits") rfl)
  have g_law_comings := He.glo_ok X G (c.d.fact 41 (f := .glo "_law_comings") rfl)
  have g_law_count := He.glo_ok X G (c.d.fact 42 (f := .glo "_law_count") rfl)
  have g_law_made := He.glo_ok X G (c.d.fact 43 (f := .glo "_law_made") rfl)
  have g_law_is_last := He.glo_ok X G (c.d.fact 44 (f := .glo "_law_is_last") rfl)
  have g_law_lot := He.glo_ok X G (c.d.fact 45 (f := .glo "_law_lot") rfl)
  have g_law_full := He.glo_ok X G (c.d.fact 46 (f := .glo "_law_full") rfl)
  have g_law_words := He.glo_ok X G (c.d.fact 47 (f := .glo "_law_words") rfl)
  have g_law_walk := He.glo_ok X G (c.d.fact 48 (f := .glo "_law_walk") rfl)
  have g_law_deep := He.glo_ok X G (c.d.fact 49 (f := .glo "_law_deep") rfl)
  have g_law_least_clash := He.glo_ok X G (c.d.fact 50 (f := .glo "_law_least_clash") rfl)
  have g_law_is_text := He.glo_ok X G (c.d.fact 51 (f := .glo "_law_is_text") rfl)
  have g_law_is_stretch := He.glo_ok X G (c.d.fact 52 (f := .glo "_law_is_stretch") rfl)
  have g_law_due := He.glo_ok X G (c.d.fact 53 (f := .glo "_law_due") rfl)
  have g_law_bent := He.glo_ok X G (c.d.fact 54 (f := .glo "_law_bent") rfl)
  have g_law_told := He.glo_ok X G (c.d.fact 55 (f := .glo "_law_told") rfl)
  have g_law := He.glo_ok X G (c.d.fact 56 (f := .glo "law") rfl)
  have n_isinstance := He.free_ok X G (c.d.fact 57 (f := .free "isinstance") rfl)
  have n_int := He.free_ok X G (c.d.fact 58 (f := .free "int") rfl)
  have n_bool := He.free_ok X G (c.d.fact 59 (f := .free "bool") rfl)
  have n_str := He.free_ok X G (c.d.fact 60 (f := .free "str") rfl)
  have n_all := He.free_ok X G (c.d.fact 61 (f := .free "all") rfl)
  have n_len := He.free_ok X G (c.d.fact 62 (f := .free "len") rfl)
  have n_zip := He.free_ok X G (c.d.fact 63 (f := .free "zip") rfl)
  have n_sorted := He.free_ok X G (c.d.fact 64 (f := .free "sorted") rfl)
  have n_set := He.free_ok X G (c.d.fact 65 (f := .free "set") rfl)
  have n_list := He.free_ok X G (c.d.fact 66 (f := .free "list") rfl)
  have n_range := He.free_ok X G (c.d.fact 67 (f := .free "range") rfl)
  have n_tuple := He.free_ok X G (c.d.fact 68 (f := .free "tuple") rfl)
  have n_abs := He.free_ok X G (c.d.fact 69 (f := .free "abs") rfl)
  have n_dict := He.free_ok X G (c.d.fact 70 (f := .free "dict") rfl)
  have n_any := He.free_ok X G (c.d.fact 71 (f := .free "any") rfl)
  have n_min := He.free_ok X G (c.d.fact 72 (f := .free "min") rfl)
  have cl_Web := He.cls_ok (c.d.fact 73 (f := .cls "Web") rfl)
  have na_Web_points := He.noat_ok (c.d.fact 74 (f := .noat "Web" "points") rfl)
  have na_Web_arrows := He.noat_ok (c.d.fact 75 (f := .noat "Web" "arrows") rfl)
  have na_Web_onward := He.noat_ok (c.d.fact 76 (f := .noat "Web" "onward") rfl)
  have na_Web_backward := He.noat_ok (c.d.fact 77 (f := .noat "Web" "backward") rfl)
  have mk_Web := He.mkr_ok (c.d.fact 78 (f := .mkr "Web") rfl)
  have mt_Web_lay := He.meth_ok (c.d.fact 79 (f := .meth "Web" "lay") rfl)
  have cl_Book := He.cls_ok (c.d.fact 80 (f := .cls "Book") rfl)
  have na_Book_web := He.noat_ok (c.d.fact 81 (f := .noat "Book" "web") rfl)
  have na_Book_words := He.noat_ok (c.d.fact 82 (f := .noat "Book" "words") rfl)
  have mk_Book := He.mkr_ok (c.d.fact 83 (f := .mkr "Book") rfl)
  have em_BadBook_BadBook := He.exm_ok (c.d.fact 84 (f := .exm "BadBook" "BadBook" true) rfl)
  have in_Web := (fun h => insB_ok h cl_Web) (c.at 0 (f := insB "Web") rfl)
  have kt_Web_str := of_decide_eq_true (c.at 1 (f := kitB2 "Web" "str" false) rfl)
  have kt_Web_tuple := of_decide_eq_true (c.at 2 (f := kitB2 "Web" "tuple" false) rfl)
  have in_Book := (fun h => insB_ok h cl_Book) (c.at 3 (f := insB "Book") rfl)
  have ox_BadBook := oexB_ok (c.at 4 (f := oexB "BadBook") rfl)
  have ih_BadBook := inheritB_ok (c.at 5 (f := inheritB "BadBook" "BadBook") rfl)
  have xf_BadBook_part := xfFB_ok (c.at 6 (f := xfFB "BadBook" "part") rfl)
  have oe_Web := oeqB_ok (c.at 7 (f := oeqB "Web") rfl)
  have oe_Book := oeqB_ok (c.at 8 (f := oeqB "Book") rfl)
  have on_Book := He.eqO_ok (c.at 9 (f := oneB "Book") rfl)
  have oc_Web_Book := otcB_ok (c.at 10 (f := otcB "Web" "Book") rfl)
  have ot_Book := othB_ok (c.at 11 (f := othB "Book") rfl)
  exact ⟨c.d.def_ 0 (d := d_BadBook__init_) rfl, c.d.def_ 1 (d := d_is_integer) rfl, c.d.def_ 2 (d := d_is_number) rfl, c.d.def_ 3 (d := d_is_text) rfl, c.d.def_ 4 (d := d_is_long_text) rfl, c.d.def_ 5 (d := d_is_letter) rfl, c.d.def_ 6 (d := d_are_ascending) rfl, c.d.def_ 7 (d := d_links) rfl, c.d.def_ 8 (d := d_led_back) rfl, c.d.def_ 9 (d := d_reached) rfl, c.d.def_ 10 (d := d_all_joined) rfl, c.d.def_ 11 (d := d_all_points) rfl, c.d.def_ 12 (d := d_moved) rfl, c.d.def_ 13 (d := d_step) rfl, c.d.def_ 14 (d := d_walked) rfl, c.d.def_ 15 (d := d_Web__init_) rfl, c.d.def_ 16 (d := d_Web_lay) rfl, c.d.def_ 17 (d := d_Web__eq_) rfl, c.d.def_ 18 (d := d_letter_rows) rfl, c.d.def_ 19 (d := d_wrong_part_webs) rfl, c.d.def_ 20 (d := d_are_arrows) rfl, c.d.def_ 21 (d := d_is_arrow) rfl, c.d.def_ 22 (d := d_is_stretch) rfl, c.d.def_ 23 (d := d_Book__init_) rfl, c.d.def_ 24 (d := d_Book__eq_) rfl, c.d.def_ 25 (d := d_wrong_part_books) rfl, c.d.def_ 26 (d := d_are_words) rfl, c.d.def_ 27 (d := d_least_clash) rfl, c.d.def_ 28 (d := d_beginning_texts) rfl, c.d.def_ 29 (d := d_law_hand) rfl, c.d.def_ 30 (d := d_law_draw) rfl, c.d.def_ 31 (d := d_law_is) rfl, c.d.def_ 32 (d := d_law_some) rfl, c.d.def_ 33 (d := d_law_web) rfl, c.d.def_ 34 (d := d_law_ends) rfl, c.d.def_ 35 (d := d_law_signs) rfl, c.d.def_ 36 (d := d_law_longer) rfl, c.d.def_ 37 (d := d_law_stretches) rfl, c.d.def_ 38 (d := d_law_clashing) rfl, c.d.def_ 39 (d := d_law_fits) rfl, c.d.def_ 40 (d := d_law_comings) rfl, c.d.def_ 41 (d := d_law_count) rfl, c.d.def_ 42 (d := d_law_made) rfl, c.d.def_ 43 (d := d_law_is_last) rfl, c.d.def_ 44 (d := d_law_lot) rfl, c.d.def_ 45 (d := d_law_full) rfl, c.d.def_ 46 (d := d_law_words) rfl, c.d.def_ 47 (d := d_law_walk) rfl, c.d.def_ 48 (d := d_law_deep) rfl, c.d.def_ 49 (d := d_law_least_clash) rfl, c.d.def_ 50 (d := d_law_is_text) rfl, c.d.def_ 51 (d := d_law_is_stretch) rfl, c.d.def_ 52 (d := d_law_due) rfl, c.d.def_ 53 (d := d_law_bent) rfl, c.d.def_ 54 (d := d_law_told) rfl, c.d.def_ 55 (d := d_law) rfl, g_BadBook, g_is_integer, g_is_number, g_is_text, g_is_long_text, g_is_letter, g_are_ascending, g_links, g_led_back, g_reached, g_all_joined, g_all_points, g_moved, g_step, g_walked, i_MOST_POINTS, i_MOST_ARROWS, g_Web, g_letter_rows, g_wrong_part_webs, g_are_arrows, g_is_arrow, g_is_stretch, i_MOST_WORDS, i_LONGEST_WORD, g_Book, g_wrong_part_books, g_are_words, g_least_clash, g_beginning_texts, g_law_hand, g_law_draw, g_law_is, g_law_some, g_law_web, g_law_ends, g_law_signs, g_law_longer, g_law_stretches, g_law_clashing, g_law_fits, g_law_comings, g_law_count, g_law_made, g_law_is_last, g_law_lot, g_law_full, g_law_words, g_law_walk, g_law_deep, g_law_least_clash, g_law_is_text, g_law_is_stretch, g_law_due, g_law_bent, g_law_told, g_law, n_isinstance, n_int, n_bool, n_str, n_all, n_len, n_zip, n_sorted, n_set, n_list, n_range, n_tuple, n_abs, n_dict, n_any, n_min, cl_Web, na_Web_points, na_Web_arrows, na_Web_onward, na_Web_backward, mk_Web, mt_Web_lay, cl_Book, na_Book_web, na_Book_words, mk_Book, em_BadBook_BadBook, in_Web, kt_Web_str, kt_Web_tuple, in_Book, ox_BadBook, ih_BadBook, xf_BadBook_part, oe_Web, oe_Book, on_Book, oc_Web_Book, ot_Book⟩
end NJ

set_option Elab.async false
set_option linter.all false
set_option maxRecDepth 100000
set_option maxHeartbeats 4000000
/-! Sets of ints and texts: made of a list, sorted. -/
namespace NJ
open PySem PySem.Spec PyProof.Rows L2
def kOf : Value → Key
  | .int i _ => .inl i
  | .str x _ => .inr x
  | _ => .inl 0
theorem kOf_is {k : Key} {v : Value} (h : keyIs k v = true) : kOf v = k := by
  rcases keyIs_shape h with ⟨i, t, rfl, rfl⟩ | ⟨x, t, rfl, rfl⟩ <;> rfl
theorem key_scans {k : Key} {v : Value} (h : keyIs k v = true) : v.scannable = true := by
  rcases keyIs_shape h with ⟨i, t, rfl, rfl⟩ | ⟨x, t, rfl, rfl⟩ <;> rfl
/-- what stands in such a set's table -/
structure TabK (w : World) (es : Array (Int × Value)) (t : SetTable) (l : List Key) : Prop where
  good : ∀ e ∈ es.toList, ∃ k, keyIs k e.2 = true ∧ e.1 = keyH w k
  nd : (es.toList.map fun e => kOf e.2).Nodup
  mem : ∀ k, k ∈ l ↔ k ∈ es.toList.map fun e => kOf e.2
  few : es.size < scanBound
  fits : t.fits es.size = true
  ris : L2.Ris t.place.toList
  led : w.params.followText "set-order" = true ∨ t.led = true
def SetKR (w : World) (h : Heap) (a : Addr) (l : List Key) (n : Nat) : Prop := ∃ o es ep t, h.get? a = some o ∧ o.ExactSet ∧ o.data = .set es ep t ∧ es.size = n ∧ TabK w es t l
section
variable {P : Program} {w : World} {h h' : Heap} {a : Addr} {l : List Key} {n : Nat} {es : Array (Int × Value)} {t : SetTable}
theorem TabK.elems (T : TabK w es t l) : ElemsOf (mixKind P w) es.toList := fun e he => by
  obtain ⟨k, h1, h2⟩ := T.good e he
  exact ⟨⟨k, h1, h2⟩, key_scans h1⟩
theorem TabK.has (T : TabK w es t l) (k : Key) : k ∈ l ↔ ∃ e ∈ es.toList, keyIs k e.2 = true := by
  rw [T.mem k, List.mem_map]
  constructor
  · rintro ⟨e, he, q⟩
    obtain ⟨j, h1, _⟩ := T.good e he
    exact ⟨e, he, by rw [← q, kOf_is h1]; exact h1⟩
  · rintro ⟨e, he, q⟩
    exact ⟨e, he, kOf_is q⟩
theorem SetKR.stay (R : SetKR w h a l n) (k : ∀ o, h.get? a = some o → h'.get? a = some o) : SetKR w h' a l n := by
  obtain ⟨o, es, ep, t, ho, r⟩ := R
  exact ⟨o, es, ep, t, k o ho, r⟩
theorem TabK.same {l' : List Key} (T : TabK w es t l) (e : ∀ k, k ∈ l' ↔ k ∈ l) : TabK w es t l' := ⟨T.good, T.nd, fun k => (e k).trans (T.mem k), T.few, T.fits, T.ris, T.led⟩
theorem tabK_nil : TabK w #[] (.fresh 0 0 (!w.params.followText "set-order")) [] := ⟨fun e he => by simp at he, by simp, fun k => by simp, by decide, by rfl, List.Pairwise.nil, by
  show _ ∨ (!w.params.followText "set-order") = true
  cases w.params.followText "set-order" with
  | true => exact .inl rfl
  | false => exact .inr rfl⟩
/-- the entries in another order, with another table -/
theorem TabK.turn {es2 : Array (Int × Value)} {t2 : SetTable} (T : TabK w es t l) (pm : es2.toList.Perm es.toList) (hf : t2.fits es2.size = true) (hr : L2.Ris t2.place.toList) (hl : t2.led = t.led) : TabK w es2 t2 l := by
  have hz : es2.size = es.size := by rw [← Array.length_toList, pm.length_eq, Array.length_toList]
  have pk := pm.map fun e : Int × Value => kOf e.2
  exact ⟨fun e he => T.good e (pm.mem_iff.mp he), pk.nodup_iff.mpr T.nd, fun k => (T.mem k).trans pk.mem_iff.symm, by rw [hz]; exact T.few, hf, hr, T.led.imp id fun z => by rw [hl]; exact z⟩
/-- one entry more -/
theorem TabK.more {es1 : Array (Int × Value)} {t1 : SetTable} {k : Key} {v : Value} (T : TabK w es t l) (hk : keyIs k v = true) (hn : k ∉ l) (pc : es1.toList.Perm ((keyH w k, v) :: es.toList)) (hz : es1.size < scanBound) (hf : t1.fits es1.size = true) (hr : L2.Ris t1.place.toList)
    (hl : t1.led = t.led) : TabK w es1 t1 (l ++ [k]) := by
  have pk : (es1.toList.map fun e => kOf e.2).Perm (k :: es.toList.map fun e => kOf e.2) := by
    have q := pc.map fun e : Int × Value => kOf e.2
    rw [List.map_cons] at q
    have e : kOf v = k := kOf_is hk
    rw [show kOf ((keyH w k, v) : Int × Value).2 = k from e] at q
    exact q
  refine ⟨fun e he => ?_, pk.nodup_iff.mpr (List.nodup_cons.mpr ⟨fun z => hn ((T.mem k).mpr z), T.nd⟩), fun j => ?_, hz, hf, hr, T.led.imp id fun z => by rw [hl]; exact z⟩
  · rcases List.mem_cons.mp (pc.mem_iff.mp he) with z | z
    · rw [z]
      exact ⟨k, hk, rfl⟩
    · exact T.good e z
  · rw [List.mem_append, List.mem_singleton, pk.mem_iff, List.mem_cons, T.mem j]
    exact Or.comm
end
section
variable {P : Program} {w : World} {A : Around} {E : Value → Shared → Prop} {s : Shared} {a : Addr} {l : List Key} {n : Nat}
/-- the table is laid, and laid anew where it is too full -/
theorem lay_tail {g : Bool → Sem Unit} (hg : ∀ (b : Bool) (s₁ : Shared) (Q' : Unit → Shared → Prop), Q' () s₁ → wpAny (model P w) A (g b) Q' E s₁) {o : Obj} {es es1 : Array (Int × Value)} {ep : Nat} {t t2 : SetTable} (ho : s.heap.get? a = some o) (hex : o.ExactSet) (hd : o.data = .set es ep t)
    (T : TabK w es1 t2 l) {wasDummy : Bool} {R : Option Bool → Shared → Prop} (hR : ∀ h', Heap.SameBut a s.heap h' → SetKR w h' a l es1.size → R (some true) { s with heap := h' }) :
    wpAny (model P w) A (do
        storeSet a es1 t2
        if (!wasDummy && t2.tooFull) = true then do
            g (relayAll t2 es1 (SetTable.grown es1.size)).2.2
            storeSet a (relayAll t2 es1 (SetTable.grown es1.size)).1 (relayAll t2 es1 (SetTable.grown es1.size)).2.1
            pure (some true)
          else pure (some true)) R E s := by
  refine wpAny_bind (wpAny_storeSet_of ho hd ?_ (fits_of_scanBound T.few))
  have h1 := store_at (es' := es1) (t' := t2) ho hd
  have b1 := Heap.SameBut.update s.heap a (Obj.putSet es1 t2)
  split
  · have pm := relayAll_perm t2 es1 (SetTable.grown es1.size)
    have f3 := relayAll_fits t2 es1 (SetTable.grown es1.size)
    have r3 := relayAll_ris t2 es1 (SetTable.grown es1.size)
    have l3 := relayAll_led t2 es1 (SetTable.grown es1.size)
    generalize relayAll t2 es1 (SetTable.grown es1.size) = Z at pm f3 r3 l3 ⊢
    obtain ⟨es2, t3, gave⟩ := Z
    have T3 := T.turn pm f3 r3 l3
    have hz : es2.size = es1.size := by rw [← Array.length_toList, pm.length_eq, Array.length_toList]
    refine wpAny_bind (hg _ _ _ (wpAny_bind (wpAny_storeSet_of h1 rfl ?_ (fits_of_scanBound T3.few))))
    exact wpAny_pure (hR _ (b1.trans (Heap.SameBut.update _ a _)) ⟨_, es2, _, t3, store_at (es' := es2) (t' := t3) h1 rfl, hex, rfl, hz, T3⟩)
  · exact wpAny_pure (hR _ b1 ⟨_, es1, _, t2, h1, hex, rfl, rfl, T⟩)
theorem keys_add {k : Key} {v : Value} (hk : keyIs k v = true) {Q : Bool → Shared → Prop} (R : SetKR w s.heap a l n) (room : n + 1 < scanBound)
    (hQ : ∀ (b : Bool) h' m, Heap.SameBut a s.heap h' → m ≤ n + 1 → SetKR w h' a (l ++ [k]) m → Q b { s with heap := h' }) :
    wpAny (model P w) A (setAddHashed a v ((mixKind P w).hash k)) Q E s := by
  obtain ⟨o, es, ep, t, ho, hex, hd, hn, T⟩ := R
  have hel : ElemsOf (mixKind P w) es.toList := T.elems
  have hsc := key_scans hk
  unfold setAddHashed setAddHashedIn
  refine wpAny_holding (wpAny_bind (wpAny_setState_of ho hd T.fits ?_))
  dsimp only
  rw [byScan_of hsc T.few hel]
  simp only [↓reduceIte]
  unfold setAddByScan
  refine wpAny_bind (wpAny_bind (wpAny_rule (wpAny_bind (wpAny_setScan_of (knd := mixKind P w) hk ho hd T.fits hel ?_))))
  cases hfi : List.findIdx? (fun e => (mixKind P w).is k e.2) es.toList with
  | some j =>
    dsimp only
    obtain ⟨hj, pj, _⟩ := List.findIdx?_eq_some_iff_getElem.mp hfi
    have hin : k ∈ l := (T.has k).mpr ⟨es.toList[j], List.getElem_mem hj, pj⟩
    exact wpAny_pure (wpAny_pure (hQ _ s.heap n (Heap.SameBut.refl a s.heap) (Nat.le_succ n) ⟨o, es, ep, t, ho, hex, hd, hn, T.same fun i => by
      rw [List.mem_append, List.mem_singleton]
      exact ⟨fun z => z.elim id fun e => e ▸ hin, .inl⟩⟩))
  | none =>
    dsimp only
    have hout : k ∉ l := fun z => by
      obtain ⟨e, he, q⟩ := (T.has k).mp z
      have c := List.findIdx?_eq_none_iff.mp hfi e he
      rw [show (mixKind P w).is k e.2 = true from q] at c
      cases c
    have way : ∀ (b : Bool) {s₁ : Shared} {Q' : Unit → Shared → Prop}, Q' () s₁ → wpAny (model P w) A (match b with | true => rule "set.scan.the-table-gave-way" | false => pure ()) Q' E s₁ := fun b s₁ Q' q => by
      cases b
      · exact wpAny_pure q
      · exact wpAny_rule q
    have pm := layNew_perm t es ((mixKind P w).hash k) v
    have f1 := layNew_fits t es ((mixKind P w).hash k) v
    have r1 := layNew_ris t es ((mixKind P w).hash k) v T.ris
    have l1 := layNew_led t es ((mixKind P w).hash k) v
    generalize layNew t es ((mixKind P w).hash k) v = Z at pm f1 r1 l1 ⊢
    obtain ⟨es1, t1, wasDummy, gave⟩ := Z
    dsimp only at pm f1 r1 l1 ⊢
    rw [Array.toList_push] at pm
    have pc : es1.toList.Perm ((keyH w k, v) :: es.toList) := pm.trans (List.perm_append_singleton _ _)
    have hz : es1.size = n + 1 := by rw [← Array.length_toList, pc.length_eq, List.length_cons, Array.length_toList, hn]
    have hb : es1.size < scanBound := by rw [hz]; exact room
    have fin : ∀ h', Heap.SameBut a s.heap h' → SetKR w h' a (l ++ [k]) es1.size → Q true { s with heap := h' } := fun h' sb r => hQ true h' _ sb (by rw [hz]; exact Nat.le_refl _) r
    have gv : ∀ (b : Bool) (s₁ : Shared) (Q' : Unit → Shared → Prop), Q' () s₁ → wpAny (model P w) A (match b with | true => rule "set.relay.the-table-gave-way" | false => pure ()) Q' E s₁ := fun b s₁ Q' q => by
      cases b
      · exact wpAny_pure q
      · exact wpAny_rule q
    refine wpAny_bind (way _ ?_)
    split
    · refine wpAny_bind ?_
      rw [hashByValue_scannable 8 hsc]
      refine wpAny_pure ?_
      refine lay_tail (l := l ++ [k]) ?_ ho hex hd (T.more hk hout pc hb ?_ ?_ ?_) ?_
      · intro b s₁ Q' q; cases b <;> first | exact wpAny_pure q | exact wpAny_rule q
      · first | (split <;> first | exact f1 | exact SetTable.fits_plain_off f1) | exact f1
      · first | (split <;> exact r1) | exact r1
      · first | (split <;> exact l1) | exact l1
      · intro h' sb r
        dsimp only
        exact wpAny_pure (fin h' sb r)
    · refine wpAny_bind (wpAny_pure ?_)
      simp only [↓reduceIte]
      refine lay_tail (l := l ++ [k]) ?_ ho hex hd (T.more hk hout pc hb f1 r1 l1) ?_
      · intro b s₁ Q' q; cases b <;> first | exact wpAny_pure q | exact wpAny_rule q
      · intro h' sb r
        dsimp only
        exact wpAny_pure (fin h' sb r)
end
end NJ

set_option Elab.async false
set_option linter.all false
set_option maxRecDepth 100000
set_option maxHeartbeats 4000000
/-! set(list), sorted(set), sorted(list), min(list), over data. -/
namespace NJ
open PySem PySem.Spec PyProof.Rows L2
section
variable {P : Program} {w : World} {A : Around} {E : Value → Shared → Prop} {s : Shared}
theorem keys_loop {I : Addr} {fp wr : List Addr} {G : Array GenState → Array GenState → Prop} {n : Nat} {Pv : Nat → Value → Prop} {St : Nat → Shared → Prop} {R : Result → Shared → Prop}
    (W : WalksS P w A.in1 I fp wr G n Pv St) (S : Addr) (hSf : S ∉ fp) (ks : List Key) (hn : n = ks.length) (hb : ks.length + 1 < scanBound) (hval : ∀ (i : Nat) (v : Value), Pv i v → ∃ k : Key, ks[i]? = some k ∧ keyIs k v = true) :
    ∀ (k i : Nat) (s : Shared), n - i = k → i ≤ n → St i s → (∃ c, c ≤ i ∧ SetKR w s.heap S (ks.take i) c) →
      (∀ s' c, Moved (S :: wr) G s s' → c ≤ n → SetKR w s'.heap S ks c → R (.ok (.ret .none)) s') → codeAny (model P w) A (.builtin "set.update.loop" ⟨[.ref S, .ref I], []⟩) R s := by
  have out : S ∉ wr := fun h => hSf (W.sub _ h)
  have sub : ∀ b ∈ wr, b ∈ S :: wr := fun b hb => List.mem_cons_of_mem _ hb
  intro k
  induction k with
  | zero =>
    intro i s hk hi hst ⟨c, hc, hS⟩ hR
    have ei : i = n := by omega
    subst ei
    rw [List.take_of_length_le (by omega)] at hS
    refine codeAny_builtin F.entry_set_update_loop ?_
    rw [Around.under_plainId F.plain_set_update_loop _]
    show wpAny _ A.in1 (pyNext (.ref I) >>= _) _ _ s
    refine wpAny_bind (W.done s _ _ hst fun s' hm => ?_)
    exact wpAny_pure (hR s' c (hm.mono sub) hc (hS.stay fun o e => hm.heap S o out e))
  | succ k ih =>
    intro i s hk hi hst ⟨c, hc, hS⟩ hR
    have lt : i < n := by omega
    refine codeAny_builtin F.entry_set_update_loop ?_
    rw [Around.under_plainId F.plain_set_update_loop _]
    show wpAny _ A.in1 (pyNext (.ref I) >>= _) _ _ s
    refine wpAny_bind (W.item i s _ _ lt hst fun v s' hP hst' hm => ?_)
    obtain ⟨z, hz, hv⟩ := hval i v hP
    have hS' : SetKR w s'.heap S (ks.take i) c := hS.stay fun o e => hm.heap S o out e
    show wpAny _ A.in1 (holding [v] (setAdd S v) >>= _) _ _ s'
    refine wpAny_bind (wpAny_holding ?_)
    unfold setAdd
    refine wpAny_holding (wpAny_bind ((mixKind P w).pyHash (k := z) hv ?_))
    refine keys_add (s := { s' with toks := s'.toks + 1 }) hv hS' (by omega) fun b h' m sb hm2 hS2 => ?_
    have e : ks.take i ++ [z] = ks.take (i + 1) := by rw [List.take_add_one, hz] <;> rfl
    rw [e] at hS2
    refine wpAny_pure ⟨plainId_quiet F.plain_set_update_loop _, ih (i + 1) _ (by omega) lt (W.frame _ s' _ _ hst' (Nat.le_succ _) fun b hb o q => ?_) ⟨m, by omega, hS2⟩ fun s2 c2 hm3 hc3 hS3 => ?_⟩
    · rw [sb.2 b (fun h : b = S => hSf (h ▸ hb))]
      exact q
    · refine hR s2 c2 (Moved.trans W.gtrans ((hm.mono sub).then_heap (Nat.le_succ _) fun b o hb q => ?_) hm3) hc3 hS3
      rw [sb.2 b (fun h : b = S => hb (by rw [h]; exact List.mem_cons_self))]
      exact q
theorem setKR_new {w : World} {h : Heap} {a : Addr} (ho : h.get? a = some { cls := .type "set", dict := none, data := .set #[] 0 (.fresh 0 0 (!w.params.followText "set-order")) }) : SetKR w h a [] 0 := ⟨_, #[], 0, _, ho, ⟨rfl, rfl, rfl⟩, rfl, rfl, tabK_nil⟩
set_option maxHeartbeats 8000000 in
theorem set_of_list {l : Addr} {items : Array Value} (ks : List Key) {Q : Value → Shared → Prop} (hh : A.handled = none) (hl : s.heap.IsList l items) (hz : items.size = ks.length) (hval : ∀ (i : Nat) (v : Value), items[i]? = some v → ∃ k : Key, ks[i]? = some k ∧ keyIs k v = true) (hb : ks.length + 1 < scanBound)
    (h : ∀ (h' : Heap) (tk c : Nat), SetKR w h' s.heap.objs.size ks c → c ≤ ks.length → (∀ b o, s.heap.get? b = some o → h'.get? b = some o) → Q (.ref s.heap.objs.size) { s with heap := h', toks := tk }) :
    wpAny (model P w) A (call (.type "set") [.ref l]) Q E s := by
  obtain ⟨c, tl, hmro⟩ := F.called_set.mro
  have hmade := F.called_set.made
  have hsub := F.called_set.sub
  refine wpAny_call (codeAny_of_tree ?_)
  show wpAny _ _ (callAny (.type "set") _) _ _ _
  refine wpAny_pure ⟨Code.quiet_builtin _ (by decide +kernel), codeAny_builtin F.entry_type_call ?_⟩
  rw [Around.under_plain (weight_type_call_type "set" [.ref l] []) rfl]
  have h1 := F.called_set.notType
  have h2 := F.called_set.canCreate
  have hct := F.typeCall_set_1 (.ref l)
  repeat (any_goals (first | assumption | wp_step))
  generalize ehp : s.heap.push { cls := .type "set", dict := none, data := .set #[] 0 (.fresh 0 0 (!w.params.followText "set-order")) } = hp
  refine codeAny_mono (code_set_led1 (.ref l) (E := E) (Q₁ := fun obj s₁ => obj = .ref s.heap.objs.size ∧ s₁ = { s with heap := hp }) ⟨rfl, by rw [ehp]⟩) fun r s₁ hr => ?_
  have size : hp.objs.size = s.heap.objs.size + 1 := by rw [← ehp, Heap.size_push]
  have old : ∀ b o, s.heap.get? b = some o → hp.get? b = some o := fun b o e => by rw [← ehp]; exact Heap.get?_push_of_some _ e
  cases r with
  | error e => exact hr
  | ok fl =>
    cases fl with
    | ret obj =>
      obtain ⟨rfl, rfl⟩ := hr
      have hS : hp.get? s.heap.objs.size = some { cls := .type "set", dict := none, data := .set #[] 0 (.fresh 0 0 (!w.params.followText "set-order")) } := by rw [← ehp]; exact Heap.get?_push_size _ rfl
      have hT : Shared.TypeIs { s with heap := hp } (.ref s.heap.objs.size) "set" := ⟨_, hS, rfl⟩
      have hli := F.called_set.init.lookup
      have hbi := F.called_set.init.bind (.ref s.heap.objs.size)
      repeat (any_goals (first | assumption | wp_step))
      refine codeAny_mono (codeAny_call_builtin (R := wants (fun r s₂ => r = .none ∧ ∃ h' tk c, s₂ = { s with heap := h', toks := tk } ∧ SetKR w h' s.heap.objs.size ks c ∧ c ≤ ks.length ∧ (∀ b o, s.heap.get? b = some o → h'.get? b = some o)) E)
        F.called_set.init.plain F.entry_set_init (check_set_init_1 hT ?_)) fun r₂ s₂ hr₂ => ?_
      · obtain ⟨ol, hol, hcl, nl, hdl⟩ := hl
        obtain ⟨ocls, odict, odata, oslots⟩ := ol
        simp only at hcl hdl
        subst hcl; subst hdl
        have hol' := old _ _ hol
        have hsls := F.sub_list_set
        have hslf := F.sub_list_frozenset
        have hne : (Value.type "list" == Value.type "dict") = false := by decide
        have hl1 : hp.IsList l items := ⟨_, hol', rfl, nl, rfl⟩
        unfold Builtin.«set.__init__» noKeywords Builtin.Frozenset.updateFrom
        generalize hPI : pyIter = PI
        wp_walk
        subst hPI
        refine wpAny_pyIter_list hl1 (wpAny_bind (wpAny_runValue ?_))
        have lS : l < s.heap.objs.size := Heap.lt_size hol
        have hh3 : A.in1.in1.in1.handled = none := by simp [hh]
        have neI : l ≠ hp.objs.size := by rw [size]; exact Nat.ne_of_lt (Nat.lt_succ_of_lt lS)
        have notF : s.heap.objs.size ∉ [hp.objs.size, l] := by
          rw [size]
          simp only [List.mem_cons, List.not_mem_nil, or_false, not_or]
          exact ⟨Nat.ne_of_lt (Nat.lt_succ_self _), Nat.ne_of_gt lS⟩
        refine keys_loop ((Walks.list hh3 _ l neI items).toS) s.heap.objs.size notF ks hz hb hval (items.size - 0) 0 _ (by omega) (Nat.zero_le _) ⟨⟨_, Heap.get?_push_size _ rfl, rfl, rfl⟩, (hl1.push _)⟩ ⟨0, Nat.le_refl 0, ?_⟩ ?_
        · exact setKR_new (Heap.get?_push_of_some _ hS)
        · intro s' c' hm hc' hS'
          obtain ⟨h', g2, d', tk', os'⟩ := s'
          have eg : g2 = s.gens := hm.gens
          have ed : d' = s.drawn := hm.drawn
          have eo : os' = s.os := hm.os
          subst eg; subst ed; subst eo
          rw [hz] at hc'
          show wpAny _ _ _ _ _ _
          refine wpAny_pure ?_
          show wpAny _ _ (ret Value.none) _ _ _
          refine wpAny_pure ⟨rfl, h', tk', c', rfl, hS', hc', fun b o e => ?_⟩
          have lb := Heap.lt_size e
          exact hm.heap b o (by simp only [List.mem_cons, List.not_mem_nil, or_false, not_or]; exact ⟨Nat.ne_of_lt lb, by rw [size]; exact Nat.ne_of_lt (Nat.lt_succ_of_lt lb)⟩) (Heap.get?_push_of_some _ (old b o e))
      · cases r₂ with
        | error e => exact hr₂
        | ok fl₂ =>
          cases fl₂ with
          | ret r =>
            obtain ⟨rfl, h', tk, c2, rfl, hS', hc', hk'⟩ := hr₂
            repeat (any_goals (first | assumption | wp_step))
            exact h _ _ _ hS' hc' hk'
          | _ => exact hr₂.elim
    | _ => exact hr.elim
end
end NJ

set_option Elab.async false
set_option linter.all false
set_option maxRecDepth 100000
set_option maxHeartbeats 4000000
/-! Rules for these built-ins. -/
namespace NJ
open PySem PySem.Spec PyProof.Rows L2
open PySem.W (EachIs AllAlike Sortable dataLe)
section
variable {X : Cx}
/-- the set of the keys l at a -/
def SetKO (w : World) (a : Addr) (l : List Key) : HO := .ext fun h => ∃ n, n ≤ l.length ∧ SetKR w h a l n
theorem setKO_new {w : World} {P : Program} {H : Hp} {h : Heap} {a : Addr} {l : List Key} {n : Nat} (hn : n ≤ l.length) (R : SetKR w h a l n) : ObjOk P w H h a (SetKO w a l) := by
  have ⟨o, _, _, _, ho, _⟩ := R
  exact ⟨⟨n, hn, R⟩, ⟨o, ho⟩, fun h1 h2 ⟨m, hm, p⟩ k => ⟨m, hm, p.stay k⟩⟩
theorem setKO_get {pins : List (Addr × Obj)} {σ : L2.St} {H : Hp} {s : Shared} {a : Addr} {l : List Key} (I : Inv X pins σ H s) (ha : H a = some (SetKO X.w a l)) : ∃ n, n ≤ l.length ∧ SetKR X.w s.heap a l n := (I.hok a _ ha).1
/-- set(xs), xs a list of ints and texts -/
def rSetL (K : PySem.W.Frag) (w : World) : List V → Hp → VK → Prop := fun xs H Q => ∃ (a : Addr) (ks : List Key), xs = [V.ref a] ∧ SqL K H a (ks.map kV) ∧ ks.length + 1 < scanBound ∧ ∀ p, H p = none → Q (.ref p) (upd H p (SetKO w p ks))
theorem kV_is' {k : Key} {u : Value} (h : RelV (kV k) u) : keyIs k u = true := by
  cases k with
  | inl i =>
    obtain ⟨t, rfl⟩ := h
    exact keyIs_int i t
  | inr x =>
    obtain ⟨t, rfl⟩ := h
    exact keyIs_str x t
theorem vals_key {ks : List Key} {us : List Value} (r : Vals (ks.map kV) us) {i : Nat} {v : Value} (h : us[i]? = some v) : ∃ k, ks[i]? = some k ∧ keyIs k v = true := by
  have hl : ks.length = us.length := by
    have q := r.length
    rw [List.length_map] at q
    exact q
  have hi : i < ks.length := by
    rw [hl]
    exact (List.getElem?_eq_some_iff.mp h).1
  have e : (ks.map kV)[i]? = some (kV ks[i]) := by rw [List.getElem?_map, List.getElem?_eq_getElem hi] <;> rfl
  obtain ⟨u, h1, h2⟩ := r.get e
  rw [h] at h1
  cases h1
  exact ⟨ks[i], List.getElem?_eq_getElem hi, kV_is' h2⟩
theorem cr_setL (hc : X.calm = true) : CallR X (.type "set") (rSetL X.K X.w) := by
  intro pins s σ H xs us Q I r h
  obtain ⟨a, ks, rfl, hS, hb, q⟩ := h
  obtain ⟨its, rv, hl, _⟩ := I.list hS
  rw [Vals.ref1 r]
  have hz : its.toArray.size = ks.length := by
    have e := rv.length
    rw [List.length_map] at e
    rw [List.size_toArray, e]
  refine set_of_list (P := X.prog) (w := X.w) ks (I.ok.hd hc) hl.isList hz (fun i v hv => vals_key rv (by simpa using hv)) hb fun h' tk c hR hc2 hk => ?_
  have hn : H s.heap.objs.size = none := I.hok.fresh (Nat.le_refl _)
  exact ⟨.ref _, upd H s.heap.objs.size (SetKO X.w s.heap.objs.size ks), I.laid (t' := tk) hk (Nat.le_refl _) (setKO_new hc2 hR), rfl, q _ hn⟩
/-! ### sorted -/
/-- a value with what it stands for -/
abbrev VD := V × PyData
theorem each_vd {H : Hp} {K : PySem.W.Frag} : ∀ {ps : List VD} {us : List Value}, Vals (ps.map (·.1)) us → (∀ p ∈ ps, Dp K H p.1 p.2) → EachIs (fun (u : Value) (p : VD) => RelV p.1 u ∧ Dp K H p.1 p.2) us ps
  | [], _, .nil, _ => .nil
  | p :: ps, _, .cons a b, h => .cons ⟨a, h p List.mem_cons_self⟩ (each_vd b fun q hq => h q (List.mem_cons_of_mem _ hq))
theorem vals_vd {H : Hp} {K : PySem.W.Frag} : ∀ {ps : List VD} {us : List Value}, EachIs (fun (u : Value) (p : VD) => RelV p.1 u ∧ Dp K H p.1 p.2) us ps → Vals (ps.map (·.1)) us
  | _, _, .nil => .nil
  | _, _, .cons a b => .cons a.1 (vals_vd b)
theorem each_imp {α β : Type} {R S : α → β → Prop} (f : ∀ a b, R a b → S a b) : ∀ {l : List α} {m : List β}, EachIs R l m → EachIs S l m
  | _, _, .nil => .nil
  | _, _, .cons a b => .cons (f _ _ a) (each_imp f b)
def srt (ps : List VD) : List VD := ps.mergeSort (dataLe false Prod.snd)
def okSort (ds : List PyData) : Prop := AllAlike ds ∧ Sortable ds ∧ ds.length ≤ 16000000 ∧ ∀ d ∈ ds, d.depth ≤ 64
/-- sorted(xs), xs a list -/
def rSortD (K : PySem.W.Frag) : List V → Hp → VK → Prop := fun vs H Q => ∃ (a : Addr) (ps : List VD), vs = [V.ref a] ∧ SqL K H a (ps.map (·.1)) ∧ (∀ p ∈ ps, Dp K H p.1 p.2) ∧ okSort (ps.map (·.2)) ∧ ∀ p, H p = none → Q (.ref p) (upd H p (.lst ((srt ps).map (·.1))))
theorem cr_sortD (hu : X.A.units + 100 < cLine) : CallR X (.builtin "sorted") (rSortD X.K) := by
  intro pins s σ H xs us Q I r h
  obtain ⟨a, ps, rfl, hS, hd, ⟨o1, o2, o3, o4⟩, q⟩ := h
  obtain ⟨its, rv, hl, hz⟩ := I.list hS
  rw [Vals.ref1 r]
  have e := each_vd rv hd
  refine PySem.W.sorted_data (enc := Prod.snd) hl.isList e (each_imp (fun u p z => Dp.reads I p.2 p.1 u z.2 z.1) e) o1 o2 (by rw [List.length_map] at o3; exact sz16 o3) (fun p hp => ?_) fun out ho eo => ?_
  · have := o4 p.2 (List.mem_map_of_mem hp)
    omega
  · obtain ⟨ep, he⟩ := sortedAll_at s.heap its out.toArray
    have hlen : ((srt ps).map (·.1)).length ≤ sizeLine := by
      unfold srt
      rw [List.length_map, List.length_mergeSort]
      rw [List.length_map] at o3
      exact sz16 o3
    exact ⟨.ref _, upd H (s.heap.objs.size + 1) (.lst ((srt ps).map (·.1))), I.laid (t' := s.toks) (fun _ _ => sortedAll_old) (Nat.le_succ _) ⟨hlen, out, ep, vals_vd eo, he⟩, rfl, q _ (I.hok.fresh (Nat.le_succ _))⟩
end
end NJ

set_option Elab.async false
set_option linter.all false
set_option maxRecDepth 100000
set_option maxHeartbeats 4000000
/-! sorted(set). -/
namespace NJ
open PySem PySem.Spec PyProof.Rows L2
open PySem.W (EachIs AllAlike Sortable dataLe)
def encK : Key → PyData
  | .inl i => .int i
  | .inr x => .str x
def sameKind (ks : List Key) : Prop := (∀ k ∈ ks, ∃ i, k = .inl i) ∨ ∀ k ∈ ks, ∃ x, k = .inr x
theorem alike_keys {ks : List Key} (h : sameKind ks) : AllAlike (ks.map encK) := by
  intro d hd e he
  obtain ⟨k, hk, rfl⟩ := List.mem_map.mp hd
  obtain ⟨j, hj, rfl⟩ := List.mem_map.mp he
  rcases h with h | h
  · obtain ⟨i, rfl⟩ := h k hk
    obtain ⟨i2, rfl⟩ := h j hj
    simp [encK, PySem.W.alike]
  · obtain ⟨i, rfl⟩ := h k hk
    obtain ⟨i2, rfl⟩ := h j hj
    simp [encK, PySem.W.alike]
theorem sortable_keys (ks : List Key) : Sortable (ks.map encK) := .others fun k => by
  cases k <;> exact ⟨fun z => (by cases z), fun xs z => (by cases z)⟩
theorem depth_key (k : Key) : (encK k).depth = 0 := by
  cases k <;> rfl
theorem each_keys : ∀ {vs : List Value}, (∀ v ∈ vs, ∃ k, keyIs k v = true) → EachIs (fun (v : Value) (k : Key) => keyIs k v = true) vs (vs.map kOf)
  | [], _ => .nil
  | v :: vs, h => by
    obtain ⟨k, hk⟩ := h v List.mem_cons_self
    refine .cons ?_ (each_keys fun u hu => h u (List.mem_cons_of_mem _ hu))
    rw [kOf_is hk]
    exact hk
theorem reads_key {h : Heap} {k : Key} {v : Value} (e : keyIs k v = true) : Reads h v (encK k) [] := by
  rcases keyIs_shape e with ⟨i, t, rfl, rfl⟩ | ⟨x, t, rfl, rfl⟩
  · exact Reads.int i t
  · exact Reads.str x t
theorem vals_keys : ∀ {ks : List Key} {us : List Value}, EachIs (fun (v : Value) (k : Key) => keyIs k v = true) us ks → Vals (ks.map kV) us
  | _, _, .nil => .nil
  | _, _, .cons (b := k) a r => .cons (by
    rcases keyIs_shape a with ⟨i, t, rfl, rfl⟩ | ⟨x, t, rfl, rfl⟩
    · exact ⟨t, rfl⟩
    · exact ⟨t, rfl⟩) (vals_keys r)
section
variable {X : Cx}
def srtK (ks : List Key) : List Key := ks.mergeSort (dataLe false encK)
/-- sorted(s), s a set of ints alone or of texts alone -/
def rSortSet (w : World) : List V → Hp → VK → Prop := fun vs H Q => ∃ (a : Addr) (ks : List Key), vs = [V.ref a] ∧ H a = some (SetKO w a ks) ∧ sameKind ks ∧ ks.length ≤ 16000000 ∧ ∀ (bs : List Key) p, bs.Nodup → (∀ k, k ∈ bs ↔ k ∈ ks) → H p = none → Q (.ref p) (upd H p (.lst ((srtK bs).map kV)))
theorem cr_sortSet (hc : X.calm = true) (hu : X.A.units + 100 < cLine) : CallR X (.builtin "sorted") (rSortSet X.w) := by
  intro pins s σ H xs us Q I r h
  obtain ⟨a, ks, rfl, ha, hk, hl, q⟩ := h
  obtain ⟨n, hn, o, es, ep, t, ho, hex, hd, hz, T⟩ := setKO_get I ha
  rw [Vals.ref1 r]
  refine Calls.call_function_entry kind_sorted plain_sorted entry_sorted (args_sorted1 _) ?_
  unfold Builtin.«sorted»
  refine wpAny_bind (m := checkCount "sorted" 1 1 _) (wpAny_pure ?_)
  refine wpAny_bind (collect_set (P := X.prog) (w := X.w) (A := X.A.in1) (I.ok.hd hc) ⟨o, ho, hex.1, hd⟩ T.fits T.few T.ris T.led fun s1 vs k1 hz1 g1 o1 pm => ?_)
  have keys : ∀ v ∈ vs, ∃ k, keyIs k v = true := fun v hv => by
    obtain ⟨e, he, q⟩ := List.mem_map.mp (pm.mem_iff.mp hv)
    obtain ⟨k, h1, _⟩ := T.good e he
    exact ⟨k, by rw [← q]; exact h1⟩
  have pk : (vs.map kOf).Perm (es.toList.map fun e => kOf e.2) := by
    have q := pm.map kOf
    rw [List.map_map] at q
    exact q
  have hv : vs.length ≤ 16000000 := by
    rw [pm.length_eq, List.length_map, Array.length_toList, hz]
    exact Nat.le_trans hn hl
  have nd : (vs.map kOf).Nodup := pk.nodup_iff.mpr T.nd
  have mem : ∀ k, k ∈ vs.map kOf ↔ k ∈ ks := fun k => by rw [pk.mem_iff, ← T.mem k]
  have sk : sameKind (vs.map kOf) := by
    rcases hk with hk | hk
    · exact .inl fun k h => hk k ((mem k).mp h)
    · exact .inr fun k h => hk k ((mem k).mp h)
  refine wpAny_bind (wpAny_newList ?_ (sz16 hv))
  have hoL : (s1.heap.push (seqObj "list" vs.toArray 0)).get? s1.heap.objs.size = some (seqObj "list" vs.toArray 0) := Heap.get?_push_size _ rfl
  have ek := each_keys keys
  refine wpAny_bind (wpAny_holding (PySem.W.list_sort_data (enc := encK) hoL ek (each_imp (fun v k z => ⟨[], reads_key z, by simp⟩) ek) (alike_keys sk) (sortable_keys _) (by rw [List.length_map]; exact sz16 hv) (fun k _ => by rw [depth_key]; show X.A.units + _ + 1 + 0 < cLine; omega) fun out ho2 eo => ?_))
  obtain ⟨c, hc2⟩ := sortedHeap_at (vs := vs) (out := out.toArray) hoL
  have hp : H s1.heap.objs.size = none := I.hok.fresh hz1
  have keep : ∀ b u, s.heap.get? b = some u → (sortedHeap (s1.heap.push (seqObj "list" vs.toArray 0)) s1.heap.objs.size vs out.toArray).get? b = some u := fun b u e => by
    have q := k1 b u e
    have hlt := Heap.lt_size q
    rw [sortedHeap_old (Nat.ne_of_lt hlt) (by rw [size_push']; exact Nat.lt_succ_of_lt hlt)]
    exact Heap.get?_push_of_some _ q
  have lz : ((srtK (vs.map kOf)).map kV).length ≤ sizeLine := by
    unfold srtK
    rw [List.length_map, List.length_mergeSort, List.length_map]
    exact sz16 hv
  have ob : ObjOk X.prog X.w (upd H s1.heap.objs.size (.lst ((srtK (vs.map kOf)).map kV))) (sortedHeap (s1.heap.push (seqObj "list" vs.toArray 0)) s1.heap.objs.size vs out.toArray) s1.heap.objs.size (.lst ((srtK (vs.map kOf)).map kV)) := ⟨lz, out, c, vals_keys eo, hc2⟩
  obtain ⟨hp1, gs1, d1, t1, os1⟩ := s1
  have J := I.call' (s' := ⟨sortedHeap (hp1.push (seqObj "list" vs.toArray 0)) hp1.objs.size vs out.toArray, gs1, d1, t1, os1⟩) (H' := upd H hp1.objs.size (.lst ((srtK (vs.map kOf)).map kV))) (ch := []) o1 (Un.laid keep hz1 hp) (I.hok.laid keep hz1 ob) (by rw [show gs1 = s.gens from g1]; exact I.bare) (fun _ z => nomatch z)
  exact wpAny_pure ⟨_, rfl, .ref hp1.objs.size, _, J, rfl, q _ _ nd mem hp⟩
end
end NJ

set_option Elab.async false
set_option linter.all false
set_option maxRecDepth 100000
set_option maxHeartbeats 4000000
/-! Texts read backward, beginnings and endings; dicts of texts. -/
namespace NJ
open PySem PySem.Spec PyProof.Rows L2
/-! ### text[::-1] -/
def tRevS (te : TE) : TE := fun σ H Q => te σ H fun x H1 => ∃ l : List Nat, x = .str (tx l) ∧ l.length ≤ 16000000 ∧ Q (.str (tx l.reverse)) H1
theorem picked_rev (l : List Nat) : ((Builtin.Str.strSliceIndices none none (-1) (tx l).length).filterMap ((tx l).cps[·]?)) = l.reverse := by
  have e : Builtin.Str.strSliceIndices none none (-1) (tx l).length = (List.range (tx l).length).reverse := by
    rw [tx_len]
    unfold Builtin.Str.strSliceIndices
    first
    | exact (PySem.W.krv_sliceRange _).trans (PySem.W.krv_range _)
    | simp [PySem.W.krv_sliceRange, PySem.W.krv_range]
  rw [e, List.filterMap_reverse]
  have h := PySem.W.krv_all (tx l).cps
  rw [tx_cps] at h
  exact congrArg List.reverse h
theorem pe_revS {X : Cx} {e : Expr} {te : TE} {k : Nat} {p1 p2 p3 pos : Pos} (he : PE X e te) : PE X (.Subscript e (.Slice none none (some (.UnaryOp .USub (.Constant (.int 1) k p1) p2)) p3) pos) (tRevS te) := by
  refine ⟨fun pins s σ H Q I h => ?_⟩
  refine Subscript_ (thn (he.run pins s σ H _ I h) fun v s1 ⟨x, H1, I1, r1, q1⟩ => ?_)
  obtain ⟨l, ex, hz, q⟩ := q1
  subst ex
  obtain ⟨t, rfl⟩ := r1
  have hst : PO X (some (.UnaryOp .USub (.Constant (.int 1) k p1) p2)) (tPart (tUn (rU fun i => .int (-i)) (tC (.int 1)))) := po_some (pe_un un_neg pe_int)
  refine wpAny_Slice (thn (po_none.run pins s1 σ H1 (fun o H2 => o = none ∧ H2 = H1) I1 ⟨rfl, rfl⟩) fun vl s2 ⟨l2, H2, I2, pl, el, e2⟩ => ?_)
  subst el e2
  refine thn (po_none.run pins s2 σ H2 (fun o H3 => o = none ∧ H3 = H2) I2 ⟨rfl, rfl⟩) fun vu s3 ⟨u, H3, I3, pu, eu, e3⟩ => ?_
  subst eu e3
  refine thn (hst.run pins s3 σ H3 (fun o H4 => o = some (-1) ∧ H4 = H3) I3 ⟨1, rfl, -1, rfl, rfl, rfl⟩) fun vs s4 ⟨o, H4, I4, ps, eo, e4⟩ => ?_
  subst eo e4
  have I5 : Inv X pins σ H4 { s4 with heap := s4.heap.push { cls := .type "slice", data := .fields #[vl, vu, vs] } } := I4.kept (t' := s4.toks) fun b ob q => Heap.get?_push_of_some _ q
  show wpAny (model X.prog X.w) X.A (subscriptTail e (.Slice none none (some (.UnaryOp .USub (.Constant (.int 1) k p1) p2)) p3) (.str (tx l) t) (.ref s4.heap.objs.size)) (EP X pins σ Q) X.xe { s4 with heap := s4.heap.push { cls := .type "slice", data := .fields #[vl, vu, vs] } }
  refine tail_any (T := "str") (ops := [.ref s4.heap.objs.size, .str (tx l) t]) (typeIs_str _ _ _) (F.slot_str_getitem.lookup) ?_ (by with_unfolding_all rfl)
  obtain ⟨l1, rfl, q1⟩ := IsPart.raw pl
  obtain ⟨l2, rfl, q2⟩ := IsPart.raw pu
  obtain ⟨l3, rfl, q3⟩ := IsPart.raw ps
  have e1 : l1 = none := by
    cases l1 with
    | none => rfl
    | some _ => cases q1
  have e2 : l2 = none := by
    cases l2 with
    | none => rfl
    | some _ => cases q2
  subst e1 e2
  cases l3 with
  | none => cases q3
  | some z =>
    have e3 : z.1 = -1 := by
      have := Option.some.inj q3
      first | exact this | exact this.symm
    refine wpAny_getItem_str_slice (l := none) (u := none) (st := some z) (Heap.IsSliceOf.new ..) (by show (z.1 == 0) = false; rw [e3]; rfl) ?_
    show Made.post (if (z.1 == 1 && (Builtin.Str.strSliceIndices none none z.1 (tx l).length).length == (tx l).length) = true then Made.val (.str (tx l) t)
      else Made.str ⟨((Builtin.Str.strSliceIndices none none z.1 (tx l).length).filterMap ((tx l).cps[·]?)).toArray⟩) (EP X pins σ Q) _
    rw [e3, if_neg (by simp), picked_rev]
    refine ⟨?_, .str (tx l.reverse), H4, I5.tok _, ⟨_, rfl⟩, q⟩
    show (tx l.reverse).length ≤ sizeLine
    rw [tx_len, List.length_reverse]
    exact sz16 hz
section
variable {σ : L2.St} {Hm : Hp} {K : PySem.W.Frag} {α β : Type} {R : Rp α} {S : Rp β} {ta tb te tc tl td : TE} {t u tt : TT} {d : α}
theorem ev_revS {l : List Nat} (h : Ev te σ Hm rS l) (hz : l.length ≤ 16000000) : Ev (tRevS te) σ Hm rS l.reverse := fun H1 hi Q q => h H1 hi _ fun v K2 H2 x2 r => ⟨l, r, hz, q _ K2 H2 x2 rfl⟩
/-! ### begins, ends -/
theorem subAt_take (a b : List Nat) (i : Nat) : PySem.Builtin.Str.subAt (tx a) (tx b) i = decide ((a.drop i).take b.length = b) := by
  unfold PySem.Builtin.Str.subAt
  rw [tx_len]
  have e : (tx a).cps.extract i (i + b.length) = ((a.drop i).take b.length).toArray := by
    simp [tx, List.extract_eq_drop_take]
  rw [e]
  show (((a.drop i).take b.length).toArray == b.toArray) = _
  rw [Bool.eq_iff_iff, beq_iff_eq, decide_eq_true_iff]
  constructor
  · intro h
    exact congrArg Array.toList h
  · intro h
    rw [h]
theorem starts_tx (a b : List Nat) : Txt.startswith (tx a) (tx b) = b.isPrefixOf a := by
  unfold Txt.startswith
  rw [subAt_take, tx_len, tx_len, List.drop_zero, Bool.eq_iff_iff, List.isPrefixOf_iff_prefix]
  simp only [Bool.and_eq_true, decide_eq_true_iff, Nat.zero_add]
  constructor
  · rintro ⟨_, h⟩
    refine ⟨a.drop b.length, ?_⟩
    have h3 := List.take_append_drop b.length a
    rw [h] at h3
    exact h3
  · rintro ⟨c, rfl⟩
    simp
theorem ends_tx (a b : List Nat) : Txt.endswith (tx a) (tx b) = b.isSuffixOf a := by
  unfold Txt.endswith
  rw [subAt_take, tx_len, tx_len, Bool.eq_iff_iff, List.isSuffixOf_iff_suffix]
  simp only [Bool.and_eq_true, decide_eq_true_iff, Nat.zero_add]
  constructor
  · rintro ⟨hl, h⟩
    refine ⟨a.take (a.length - b.length), ?_⟩
    have e : (a.drop (a.length - b.length)).take b.length = a.drop (a.length - b.length) := List.take_of_length_le (by rw [List.length_drop]; omega)
    rw [e] at h
    have h3 := List.take_append_drop (a.length - b.length) a
    rw [h] at h3
    exact h3
  · rintro ⟨c, rfl⟩
    simp
abbrev rStarts : V → List V → Hp → VK → Prop := fun x xs H Q => ∃ a b, x = .str a ∧ xs = [.str b] ∧ Q (.bl (Txt.startswith a b)) H
abbrev rEnds : V → List V → Hp → VK → Prop := fun x xs H Q => ∃ a b, x = .str a ∧ xs = [.str b] ∧ Q (.bl (Txt.endswith a b)) H
theorem ev_starts {a b : List Nat} (h1 : Ev ta σ Hm rS a) (h2 : Ev tb σ Hm rS b) : Ev (tM1 rStarts ta tb) σ Hm rB (b.isPrefixOf a) := fun H1 hi Q q => h1 H1 hi _ fun v K2 H2 x2 r => ⟨⟨_, r⟩, h2.mono x2.s H2 x2.i _ fun w K3 H3 x3 r3 => ⟨tx a, tx b, r, by rw [show w = V.str (tx b) from r3], by
  rw [starts_tx]
  exact q _ K3 H3 (x2.trans x3) rfl⟩⟩
theorem ev_ends {a b : List Nat} (h1 : Ev ta σ Hm rS a) (h2 : Ev tb σ Hm rS b) : Ev (tM1 rEnds ta tb) σ Hm rB (b.isSuffixOf a) := fun H1 hi Q q => h1 H1 hi _ fun v K2 H2 x2 r => ⟨⟨_, r⟩, h2.mono x2.s H2 x2.i _ fun w K3 H3 x3 r3 => ⟨tx a, tx b, r, by rw [show w = V.str (tx b) from r3], by
  rw [ends_tx]
  exact q _ K3 H3 (x2.trans x3) rfl⟩⟩
/-! ### the truth of a list -/
theorem et_truthL {xs : List α} (h : Ev te σ Hm (rL K R) xs) : Et (fun σ H Q => te σ H fun x H' => ∃ k, TruV K x H' k ∧ Q k H') σ Hm (!xs.isEmpty) := fun H1 hi Q q => h H1 hi _ fun v K2 H2 x2 ⟨a, vs, e, hS, hP⟩ => ⟨!xs.isEmpty, by
  subst e
  exact .inl ⟨vs, x2.i.seq hS, by
    have hl := paired_len hP
    cases vs <;> cases xs <;> simp at hl ⊢⟩, q K2 H2 x2⟩
/-! ### dicts whose keys are texts -/
def rD : Rp (List (List Nat)) := ⟨fun H v ks => ∃ a kvs, v = .ref a ∧ H a = some (.dK kvs) ∧ ∀ l : List Nat, (valV kvs (.inr (tx l))).isSome = decide (l ∈ ks), fun s ⟨a, kvs, e, h, p⟩ => ⟨a, kvs, e, s _ _ h, p⟩⟩
theorem ev_din {l : List Nat} {ks : List (List Nat)} (h1 : Ev te σ Hm rS l) (h2 : Ev td σ Hm rD ks) : Ev (tDIn te td) σ Hm rB (decide (l ∈ ks)) := fun H1 hi Q q => h1 H1 hi _ fun v K2 H2 x2 r => h2.mono x2.s H2 x2.i _ fun w K3 H3 x3 ⟨a, kvs, e, hd, hv⟩ => ⟨a, valV kvs (.inr (tx l)), e, by
  rw [show v = V.str (tx l) from r]
  exact DGet.k (k := .inr (tx l)) (x3.i _ _ hd), by
  rw [hv]
  exact q _ K3 H3 (x2.trans x3) rfl⟩
end
end NJ

set_option Elab.async false
set_option linter.all false
set_option maxRecDepth 100000
set_option maxHeartbeats 4000000
/-! set(tuple). -/
namespace NJ
open PySem PySem.Spec PyProof.Rows L2
section
variable {P : Program} {w : World} {A : Around} {E : Value → Shared → Prop} {s : Shared}
set_option maxHeartbeats 8000000 in
theorem set_of_tuple {l : Addr} {items : Array Value} (ks : List Key) {Q : Value → Shared → Prop} (hh : A.handled = none) (hl : s.heap.IsTuple l items) (hz : items.size = ks.length) (hval : ∀ (i : Nat) (v : Value), items[i]? = some v → ∃ k : Key, ks[i]? = some k ∧ keyIs k v = true) (hb : ks.length + 1 < scanBound)
    (h : ∀ (h' : Heap) (tk c : Nat), SetKR w h' s.heap.objs.size ks c → c ≤ ks.length → (∀ b o, s.heap.get? b = some o → h'.get? b = some o) → Q (.ref s.heap.objs.size) { s with heap := h', toks := tk }) :
    wpAny (model P w) A (call (.type "set") [.ref l]) Q E s := by
  obtain ⟨c, tl, hmro⟩ := F.called_set.mro
  have hmade := F.called_set.made
  have hsub := F.called_set.sub
  refine wpAny_call (codeAny_of_tree ?_)
  show wpAny _ _ (callAny (.type "set") _) _ _ _
  refine wpAny_pure ⟨Code.quiet_builtin _ (by decide +kernel), codeAny_builtin F.entry_type_call ?_⟩
  rw [Around.under_plain (weight_type_call_type "set" [.ref l] []) rfl]
  have h1 := F.called_set.notType
  have h2 := F.called_set.canCreate
  have hct := F.typeCall_set_1 (.ref l)
  repeat (any_goals (first | assumption | wp_step))
  generalize ehp : s.heap.push { cls := .type "set", dict := none, data := .set #[] 0 (.fresh 0 0 (!w.params.followText "set-order")) } = hp
  refine codeAny_mono (code_set_led1 (.ref l) (E := E) (Q₁ := fun obj s₁ => obj = .ref s.heap.objs.size ∧ s₁ = { s with heap := hp }) ⟨rfl, by rw [ehp]⟩) fun r s₁ hr => ?_
  have size : hp.objs.size = s.heap.objs.size + 1 := by rw [← ehp, Heap.size_push]
  have old : ∀ b o, s.heap.get? b = some o → hp.get? b = some o := fun b o e => by rw [← ehp]; exact Heap.get?_push_of_some _ e
  cases r with
  | error e => exact hr
  | ok fl =>
    cases fl with
    | ret obj =>
      obtain ⟨rfl, rfl⟩ := hr
      have hS : hp.get? s.heap.objs.size = some { cls := .type "set", dict := none, data := .set #[] 0 (.fresh 0 0 (!w.params.followText "set-order")) } := by rw [← ehp]; exact Heap.get?_push_size _ rfl
      have hT : Shared.TypeIs { s with heap := hp } (.ref s.heap.objs.size) "set" := ⟨_, hS, rfl⟩
      have hli := F.called_set.init.lookup
      have hbi := F.called_set.init.bind (.ref s.heap.objs.size)
      repeat (any_goals (first | assumption | wp_step))
      refine codeAny_mono (codeAny_call_builtin (R := wants (fun r s₂ => r = .none ∧ ∃ h' tk c, s₂ = { s with heap := h', toks := tk } ∧ SetKR w h' s.heap.objs.size ks c ∧ c ≤ ks.length ∧ (∀ b o, s.heap.get? b = some o → h'.get? b = some o)) E)
        F.called_set.init.plain F.entry_set_init (check_set_init_1 hT ?_)) fun r₂ s₂ hr₂ => ?_
      · obtain ⟨ol, hol, hcl, nl, hdl⟩ := hl
        obtain ⟨ocls, odict, odata, oslots⟩ := ol
        simp only at hcl hdl
        subst hcl; subst hdl
        have hol' := old _ _ hol
        have hsls := PySem.F.sub_tuple_set
        have hslf := PySem.F.sub_tuple_frozenset
        have hne : (Value.type "tuple" == Value.type "dict") = false := by decide
        have hl1 : hp.IsTuple l items := ⟨_, hol', rfl, nl, rfl⟩
        unfold Builtin.«set.__init__» noKeywords Builtin.Frozenset.updateFrom
        generalize hPI : pyIter = PI
        wp_walk
        subst hPI
        refine wpAny_pyIter_tuple hl1 (wpAny_bind (wpAny_runValue ?_))
        have lS : l < s.heap.objs.size := Heap.lt_size hol
        have hh3 : A.in1.in1.in1.handled = none := by simp [hh]
        have neI : l ≠ hp.objs.size := by rw [size]; exact Nat.ne_of_lt (Nat.lt_succ_of_lt lS)
        have notF : s.heap.objs.size ∉ [hp.objs.size, l] := by
          rw [size]
          simp only [List.mem_cons, List.not_mem_nil, or_false, not_or]
          exact ⟨Nat.ne_of_lt (Nat.lt_succ_self _), Nat.ne_of_gt lS⟩
        refine keys_loop ((Walks.tuple hh3 _ l neI items).toS) s.heap.objs.size notF ks hz hb hval (items.size - 0) 0 _ (by omega) (Nat.zero_le _) ⟨⟨_, Heap.get?_push_size _ rfl, rfl, rfl⟩, (IsTup.push hl1 _)⟩ ⟨0, Nat.le_refl 0, ?_⟩ ?_
        · exact setKR_new (Heap.get?_push_of_some _ hS)
        · intro s' c' hm hc' hS'
          obtain ⟨h', g2, d', tk', os'⟩ := s'
          have eg : g2 = s.gens := hm.gens
          have ed : d' = s.drawn := hm.drawn
          have eo : os' = s.os := hm.os
          subst eg; subst ed; subst eo
          rw [hz] at hc'
          show wpAny _ _ _ _ _ _
          refine wpAny_pure ?_
          show wpAny _ _ (ret Value.none) _ _ _
          refine wpAny_pure ⟨rfl, h', tk', c', rfl, hS', hc', fun b o e => ?_⟩
          have lb := Heap.lt_size e
          exact hm.heap b o (by simp only [List.mem_cons, List.not_mem_nil, or_false, not_or]; exact ⟨Nat.ne_of_lt lb, by rw [size]; exact Nat.ne_of_lt (Nat.lt_succ_of_lt lb)⟩) (Heap.get?_push_of_some _ (old b o e))
      · cases r₂ with
        | error e => exact hr₂
        | ok fl₂ =>
          cases fl₂ with
          | ret r =>
            obtain ⟨rfl, h', tk, c2, rfl, hS', hc', hk'⟩ := hr₂
            repeat (any_goals (first | assumption | wp_step))
            exact h _ _ _ hS' hc' hk'
          | _ => exact hr₂.elim
    | _ => exact hr.elim

end
section
variable {X : Cx}
/-- set(xs), xs a tuple of ints and texts -/
def rSetT (K : PySem.W.Frag) (w : World) : List V → Hp → VK → Prop := fun xs H Q => ∃ (a : Addr) (ks : List Key), xs = [V.ref a] ∧ SqT K H a (ks.map kV) ∧ ks.length + 1 < scanBound ∧ ∀ p, H p = none → Q (.ref p) (upd H p (SetKO w p ks))
theorem cr_setT (hc : X.calm = true) : CallR X (.type "set") (rSetT X.K X.w) := by
  intro pins s σ H xs us Q I r h
  obtain ⟨a, ks, rfl, hS, hb, q⟩ := h
  obtain ⟨its, rv, hl, _⟩ := I.tuple hS
  rw [Vals.ref1 r]
  have hz : its.toArray.size = ks.length := by
    have e := rv.length
    rw [List.length_map] at e
    rw [List.size_toArray, e]
  refine set_of_tuple (P := X.prog) (w := X.w) ks (I.ok.hd hc) hl hz (fun i v hv => vals_key rv (by simpa using hv)) hb fun h' tk c hR hc2 hk => ?_
  have hn : H s.heap.objs.size = none := I.hok.fresh (Nat.le_refl _)
  exact ⟨.ref _, upd H s.heap.objs.size (SetKO X.w s.heap.objs.size ks), I.laid (t' := tk) hk (Nat.le_refl _) (setKO_new hc2 hR), rfl, q _ hn⟩
end
end NJ

set_option Elab.async false
set_option linter.all false
set_option maxRecDepth 100000
set_option maxHeartbeats 4000000
/-! Texts in order; lists of one's own. -/
namespace NJ
open PySem PySem.Spec PyProof.Rows L2
open PySem.W (dataLe dataLt_str dataLe_eq not_lt_str AllAlike Sortable)
abbrev T8 := List Nat
/-! ### the order -/
def leT (a b : T8) : Bool := decide (a ≤ b)
theorem leT_trans (a b c : T8) (h : leT a b = true) (g : leT b c = true) : leT a c = true := decide_eq_true (List.le_trans (of_decide_eq_true h) (of_decide_eq_true g))
theorem leT_total (a b : T8) : (leT a b || leT b a) = true := by
  rcases List.le_total a b with h | h
  · simp [leT, h]
  · simp [leT, h]
theorem leT_anti {a b : T8} (h : leT a b = true) (g : leT b a = true) : a = b := List.le_antisymm (of_decide_eq_true h) (of_decide_eq_true g)
def srtT (xs : List T8) : List T8 := xs.mergeSort leT
theorem srtT_perm (xs : List T8) : (srtT xs).Perm xs := List.mergeSort_perm xs leT
theorem srtT_pw (xs : List T8) : (srtT xs).Pairwise fun a b => leT a b = true := List.pairwise_mergeSort leT_trans leT_total xs
theorem srtT_of_perm {xs ys : List T8} (h : xs.Perm ys) : srtT xs = srtT ys := List.Perm.eq_of_pairwise (le := fun a b => leT a b = true) (fun _ _ _ _ => leT_anti) (srtT_pw xs) (srtT_pw ys) ((srtT_perm xs).trans (h.trans (srtT_perm ys).symm))
/-- each once -/
def dd : List T8 → List T8
  | [] => []
  | x :: xs => if x ∈ xs then dd xs else x :: dd xs
theorem mem_dd {x : T8} : ∀ {xs : List T8}, x ∈ dd xs ↔ x ∈ xs
  | [] => Iff.rfl
  | y :: ys => by
    unfold dd
    have ih := mem_dd (x := x) (xs := ys)
    split
    · rename_i h
      rw [ih, List.mem_cons]
      exact ⟨.inr, fun z => z.elim (fun e => e ▸ h) id⟩
    · rw [List.mem_cons, List.mem_cons, ih]
theorem nd_dd : ∀ {xs : List T8}, (dd xs).Nodup
  | [] => List.nodup_nil
  | y :: ys => by
    unfold dd
    split
    · exact nd_dd
    · rename_i h
      exact List.nodup_cons.mpr ⟨fun z => h (mem_dd.mp z), nd_dd⟩
theorem dd_len : ∀ {xs : List T8}, (dd xs).length ≤ xs.length
  | [] => Nat.le_refl _
  | y :: ys => by
    unfold dd
    have := dd_len (xs := ys)
    split
    · rw [List.length_cons]
      omega
    · rw [List.length_cons, List.length_cons]
      omega
def sd (xs : List T8) : List T8 := srtT (dd xs)
theorem mem_sd {x : T8} {xs : List T8} : x ∈ sd xs ↔ x ∈ xs := by
  unfold sd
  rw [(srtT_perm _).mem_iff, mem_dd]
theorem nd_sd {xs : List T8} : (sd xs).Nodup := (srtT_perm _).nodup_iff.mpr nd_dd
theorem sd_len {xs : List T8} : (sd xs).length ≤ xs.length := by
  unfold sd
  rw [(srtT_perm _).length_eq]
  exact dd_len
def kT (l : T8) : Key := .inr (tx l)
theorem kT_inj {a b : T8} (h : kT a = kT b) : a = b := tx_inj (Sum.inr.inj h)
theorem srtK_kT (ys : List T8) : srtK (ys.map kT) = (srtT ys).map kT := by
  unfold srtK srtT
  refine (List.map_mergeSort fun a _ b _ => ?_).symm
  rw [dataLe_eq]
  show leT a b = !PySem.W.dataLt (encK (kT b)) (encK (kT a))
  rw [show encK (kT b) = .str (tx b) from rfl, show encK (kT a) = .str (tx a) from rfl, dataLt_str, not_lt_str, tx_cps, tx_cps] <;> rfl
/-- a list of keys that are texts -/
theorem keys_texts {xs : List T8} : ∀ {bs : List Key}, (∀ k ∈ bs, k ∈ xs.map kT) → ∃ ys : List T8, bs = ys.map kT
  | [], _ => ⟨[], rfl⟩
  | k :: bs, h => by
    obtain ⟨ys, e⟩ := keys_texts (bs := bs) fun j hj => h j (List.mem_cons_of_mem _ hj)
    obtain ⟨y, _, e2⟩ := List.mem_map.mp (h k List.mem_cons_self)
    exact ⟨y :: ys, by rw [e, ← e2] <;> rfl⟩
theorem srtK_sd {xs : List T8} {bs : List Key} (nd : bs.Nodup) (m : ∀ k, k ∈ bs ↔ k ∈ xs.map kT) : srtK bs = (sd xs).map kT := by
  obtain ⟨ys, rfl⟩ := keys_texts (xs := xs) (bs := bs) fun k h => (m k).mp h
  rw [srtK_kT]
  have ndy : ys.Nodup := List.Pairwise.of_map kT (fun a b h e => h (by rw [e])) nd
  have e : srtT ys = sd xs := srtT_of_perm ((List.perm_ext_iff_of_nodup ndy nd_dd).mpr fun y => by
    rw [mem_dd]
    constructor
    · intro hy
      obtain ⟨z, h1, h2⟩ := List.mem_map.mp ((m (kT y)).mp (List.mem_map_of_mem hy))
      rw [← kT_inj h2]
      exact h1
    · intro hy
      obtain ⟨z, h1, h2⟩ := List.mem_map.mp ((m (kT y)).mpr (List.mem_map_of_mem hy))
      rw [← kT_inj h2]
      exact h1)
  rw [e]
section
variable {σ : L2.St} {Hm : Hp} {K : PySem.W.Frag} {α β : Type} {R : Rp α} {S : Rp β} {ta tb te tc tl td : TE} {t u tt : TT} {d : α} {w : World}
theorem paired_texts {H : Hp} : ∀ (xs : List T8), Paired (rS.rel H) ((xs.map kT).map kV) xs
  | [] => .nil
  | x :: xs => .cons rfl (paired_texts xs)
theorem keys_of_texts {H : Hp} {vs : List V} {xs : List T8} (h : Paired (rS.rel H) vs xs) : vs = (xs.map kT).map kV := by
  rw [vstrs h, List.map_map, List.map_map] <;> rfl
theorem scan16 {n : Nat} (h : n ≤ 1000) : n + 1 < scanBound := Nat.lt_of_le_of_lt (Nat.succ_le_succ h) (by decide)
/-- sorted(set(xs)) -/
theorem ev_ssetL {xs : List T8} (h : Ev te σ Hm (rL K rS) xs) (hz : xs.length ≤ 1000) : Ev (tCB (rSortSet w) (tCons (tCB (rSetL K w) (tCons te tNil)) tNil)) σ Hm (rL K rS) (sd xs) := fun H1 hi Q q => h H1 hi _ fun v K2 H2 x2 ⟨a, vs, ev, hS, hP⟩ => ⟨a, xs.map kT, by rw [ev], by rw [← keys_of_texts hP]; exact x2.i.seq hS, by rw [List.length_map]; exact scan16 hz, fun p np => ⟨p, xs.map kT, rfl, upd_same, .inr fun k hk => by
  obtain ⟨y, _, e⟩ := List.mem_map.mp hk
  exact ⟨tx y, e.symm⟩, by rw [List.length_map]; omega, fun bs p2 nd m np2 => by
  have x3 := xt_ref x2 (o := SetKO w p (xs.map kT)) np
  rw [srtK_sd nd m]
  exact q (.ref p2) _ _ (xt_ref x3 np2) ⟨p2, _, rfl, .inl (.inl upd_same), paired_texts _⟩⟩⟩
theorem ev_ssetT {xs : List T8} (h : Ev te σ Hm (rT K rS) xs) (hz : xs.length ≤ 1000) : Ev (tCB (rSortSet w) (tCons (tCB (rSetT K w) (tCons te tNil)) tNil)) σ Hm (rL K rS) (sd xs) := fun H1 hi Q q => h H1 hi _ fun v K2 H2 x2 ⟨a, vs, ev, hS, hP⟩ => ⟨a, xs.map kT, by rw [ev], by rw [← keys_of_texts hP]; exact seqT_mono x2.i hS, by rw [List.length_map]; exact scan16 hz, fun p np => ⟨p, xs.map kT, rfl, upd_same, .inr fun k hk => by
  obtain ⟨y, _, e⟩ := List.mem_map.mp hk
  exact ⟨tx y, e.symm⟩, by rw [List.length_map]; omega, fun bs p2 nd m np2 => by
  have x3 := xt_ref x2 (o := SetKO w p (xs.map kT)) np
  rw [srtK_sd nd m]
  exact q (.ref p2) _ _ (xt_ref x3 np2) ⟨p2, _, rfl, .inl (.inl upd_same), paired_texts _⟩⟩⟩
/-- sorted(xs), a list of texts -/
def vd (l : T8) : VD := (.str (tx l), .str (tx l))
theorem srt_vd (xs : List T8) : srt (xs.map vd) = (srtT xs).map vd := by
  unfold srt srtT
  refine (List.map_mergeSort fun a _ b _ => ?_).symm
  rw [dataLe_eq]
  show leT a b = !PySem.W.dataLt (.str (tx b)) (.str (tx a))
  rw [dataLt_str, not_lt_str, tx_cps, tx_cps] <;> rfl
theorem vd_fst {H : Hp} {vs : List V} {xs : List T8} (h : Paired (rS.rel H) vs xs) : vs = (xs.map vd).map (·.1) := by
  rw [vstrs h, List.map_map, List.map_map] <;> rfl
theorem okSort_vd {xs : List T8} (hz : xs.length ≤ 16000000) : okSort ((xs.map vd).map (·.2)) := by
  have e : ∀ d ∈ (xs.map vd).map (·.2), ∃ l : T8, d = .str (tx l) := fun d hd => by
    rw [List.map_map] at hd
    obtain ⟨l, _, e⟩ := List.mem_map.mp hd
    exact ⟨l, e.symm⟩
  refine ⟨fun d hd d' hd' => ?_, .inr fun d hd => ?_, by simpa using hz, fun d hd => ?_⟩
  · obtain ⟨l, rfl⟩ := e d hd
    obtain ⟨l', rfl⟩ := e d' hd'
    simp [PySem.W.alike]
  · obtain ⟨l, rfl⟩ := e d hd
    exact ⟨fun z => (by cases z), fun xs z => (by cases z)⟩
  · obtain ⟨l, rfl⟩ := e d hd
    exact Nat.zero_le _
theorem rc_sortS {xs : List T8} (hz : xs.length ≤ 16000000) : Rc (rSortD K) (a1 (rL K rS) xs a0) (rL K rS) (srtT xs) := fun Hm H1 hi vs ⟨v, ws, e1, ⟨a, us, e2, hS, hP⟩, e3⟩ Q q => ⟨a, xs.map vd, by rw [e1, e2, show ws = [] from e3], by rw [← vd_fst hP]; exact hi.seq hS, fun p hp => by
  obtain ⟨l, _, rfl⟩ := List.mem_map.mp hp
  exact .str _, okSort_vd hz, fun p np => by
  rw [srt_vd]
  refine q (.ref p) _ _ (Xt.new hi np) ⟨p, _, rfl, .inl (.inl upd_same), ?_⟩
  have e : ∀ ys : List T8, Paired (rS.rel (upd Hm p (.lst (((srtT xs).map vd).map (·.1))))) ((ys.map vd).map (·.1)) ys := fun ys => by
    induction ys with
    | nil => exact .nil
    | cons y ys ih => exact .cons rfl ih
  exact e _⟩
/-! ### a list of one's own -/
def rM (R : Rp α) : Rp (List α) := ⟨fun H v xs => ∃ a vs, v = .ref a ∧ H a = some (.lst vs) ∧ Paired (R.rel H) vs xs, fun s ⟨a, vs, e, h, p⟩ => ⟨a, vs, e, s _ _ h, paired_mono R s p⟩⟩
theorem Ev.l {xs : List α} (h : Ev te σ Hm (rM R) xs) : Ev te σ Hm (rL K R) xs := fun H1 hi Q q => h H1 hi Q fun v K2 H2 x2 ⟨a, vs, e, hS, hP⟩ => q v K2 H2 x2 ⟨a, vs, e, .inl (.inl hS), hP⟩
theorem rm_l {H : Hp} {v : V} {xs : List α} (h : (rM R).rel H v xs) : (rL K R).rel H v xs := by
  obtain ⟨a, vs, e, hS, hP⟩ := h
  exact ⟨a, vs, e, .inl (.inl hS), hP⟩
theorem ev_lstM {t : TA} {ds : List α} (h : Ea t σ Hm (aL R ds)) (hn : ds.length ≤ 16000000) : Ev (tLst t) σ Hm (rM R) ds := fun H1 hi Q q => h H1 hi _ fun vs K2 H2 x2 r => by
  have hp := aL_rel r
  have hl := paired_len hp
  refine ⟨by rw [sizeLine_eq]; omega, fun p np => q (.ref p) _ _ (xt_ref x2 np) ⟨p, vs, rfl, upd_same, paired_mono R (Xt.new x2.i np).s hp⟩⟩
theorem paired_rev {F : β → α → Prop} : ∀ {l : List β} {m : List α}, Paired F l m → Paired F l.reverse m.reverse
  | _, _, .nil => .nil
  | _, _, .cons a b => by
    rw [List.reverse_cons, List.reverse_cons]
    exact paired_app (paired_rev b) (.cons a .nil)
theorem rv_cat {xs ys : List α} (hz : xs.length + ys.length ≤ 16000000) : Rv rCat (rM R) xs (rM R) ys (rM R) (xs ++ ys) := fun Hm H1 hi x y ⟨a, vs, e1, h1, p1⟩ ⟨b, us, e2, h2, p2⟩ Q q => ⟨a, b, vs, us, e1, e2, hi _ _ h1, hi _ _ h2, by rw [paired_len p1, paired_len p2]; exact sz16 hz, fun p np => q (.ref p) _ _ (Xt.new hi np) ⟨p, _, rfl, upd_same, paired_mono R (Xt.new hi np).s (paired_app p1 p2)⟩⟩
/-- tuple(xs), list(xs) -/
abbrev rTupOf (K : PySem.W.Frag) : List V → Hp → VK → Prop := fun xs H Q => ∃ p ys, xs = [.ref p] ∧ ((SqL K H p ys ∧ ∀ l, H l = none → Q (.ref l) (upd H l (.tup ys))) ∨ (SqT K H p ys ∧ Q (.ref p) H))
theorem rc_tupOfL {xs : List α} : Rc (rTupOf K) (a1 (rL K R) xs a0) (rT K R) xs := fun Hm H1 hi vs ⟨v, ws, e1, ⟨a, us, e2, hS, hP⟩, e3⟩ Q q => ⟨a, us, by rw [e1, e2, show ws = [] from e3], .inl ⟨hi.seq hS, fun p np => q (.ref p) _ _ (Xt.new hi np) ⟨p, us, rfl, .inl (.inl upd_same), paired_mono R (Xt.new hi np).s hP⟩⟩⟩
end
end NJ

set_option Elab.async false
set_option linter.all false
set_option maxRecDepth 100000
set_option maxHeartbeats 4000000
/-! A dict of texts, made by a comprehension. -/
namespace NJ
open PySem PySem.Spec PyProof.Rows L2
theorem putK_len {kvs : List (Key × V)} {k : Key} {v : V} : (putK kvs k v).length ≤ kvs.length + 1 := by
  unfold putK
  split
  · rw [List.length_map]
    omega
  · simp
theorem put_has {kvs : List (Key × V)} {l : T8} {v : V} {ys : List T8} (h : ∀ z : T8, (valV kvs (.inr (tx z))).isSome = decide (z ∈ ys)) (z : T8) : (valV (putK kvs (.inr (tx l)) v) (.inr (tx z))).isSome = decide (z ∈ ys ++ [l]) := by
  rw [valV_put]
  by_cases e : z = l
  · subst e
    simp
  · have e2 : ¬ (Sum.inr (tx z) : Key) = .inr (tx l) := fun q => e (tx_inj (Sum.inr.inj q))
    rw [if_neg e2, h z]
    simp [e]
structure Cd (K2 H2 : Hp) (D : Addr) (ys : List T8) (n : Nat) (Ki : Hp) (kvs : List (Key × V)) (H' : Hp) : Prop where
  s : Same K2 Ki
  i : Same Ki H'
  k : Same H2 H'
  f : ∀ p, Ki p ≠ none → K2 p ≠ none ∨ H2 p = none
  nn : Ki D = none
  at_ : H' D = some (.dK kvs)
  r : ∀ z : T8, (valV kvs (.inr (tx z))).isSome = decide (z ∈ ys)
  len : kvs.length ≤ n
section
variable {σ : L2.St} {Hm : Hp} {K : PySem.W.Frag} {α β : Type} {R : Rp α} {S : Rp β} {ta tb te tc tl tk tv : TE} {t u tt : TT} {d : α} {e0 : β}
theorem ev_dcT {wi : TI} {g : TG} {vs : List Nat} {xs : List α} (f : α → Bool) (m : α → T8) (hw : Wk wi σ Hm R xs) (hn : xs.length ≤ 16000000)
    (hb : ∀ d, d ∈ xs → ∀ v K3, Same Hm K3 → R.rel K3 v d → ∃ σ2, Tk g (wipe σ vs) K3 v σ2 ∧ wipe σ2 vs = wipe σ vs ∧ Et tt σ2 K3 (f d) ∧ (f d = true → Ev tk σ2 K3 rS (m d) ∧ Ev tv σ2 K3 S e0)) :
    Ev (tDc wi g tt tk tv vs) σ Hm rD ((xs.filter f).map m) := fun H1 hi Q q => hw H1 hi _ fun J K2 H2 x2 hJ D hD => by
  have hKD : K2 D = none := none_back x2.i hD
  refine ⟨fun i mm H' => i + mm = xs.length ∧ ∃ Ki us, Cd K2 H2 D (((xs.take i).filter f).map m) i Ki us H', ⟨xs.length, by omega, K2, [], Same.refl _, same_mut x2.i hKD, same_mut (Same.refl _) hD, fun _ h => .inl h, hKD, upd_same, fun _ => rfl, Nat.le_refl _⟩, ?_⟩
  rintro i mm H' ⟨em, Ki, us, c⟩
  obtain ⟨go, stop, yld⟩ := hJ i H' (c.s.trans c.i)
  by_cases hlt : i < xs.length
  · refine .inr ⟨go hlt, fun H'' => ∃ Ki us, Cd K2 H2 D (((xs.take (i + 1)).filter f).map m) (i + 1) Ki us H'', fun H'' ⟨Ki2, us2, c2⟩ => ⟨mm - 1, by omega, by omega, Ki2, us2, c2⟩, fun v H4 hy => ?_⟩
    obtain ⟨d, K4, ed, x4, rv⟩ := yld hlt v H4 hy
    have x5 : Xt Ki H' (uni Ki K4) H4 := Xt.lift c.s c.i x4
    obtain ⟨σ2, htk, hwp, het, hev⟩ := hb d (List.mem_of_getElem? ed) v (uni Ki K4) ((x2.s.trans c.s).trans x5.s) (R.mono (uni_r (c.i.trans x4.k) x4.i) rv)
    refine htk H4 x5.i _ ⟨hwp, het H4 x5.i _ fun K6 H6 x6 => ?_⟩
    have y6 := x5.trans x6
    cases hf : f d with
    | true =>
      refine iteT (((hev hf).1.mono x6.s) H6 x6.i _ fun y K7 H7 x7 ry => ((hev hf).2.mono (x6.s.trans x7.s)) H7 x7.i _ fun y2 K8 H8 x8 ry2 => ?_)
      have y7 := (y6.trans x7).trans x8
      have hK7 : K8 D = none := none_of y7 c.nn c.at_
      refine ⟨us, .inr (tx (m d)), ry, y7.k D _ c.at_, Nat.lt_of_le_of_lt c.len (Nat.lt_of_lt_of_le hlt (sz16 hn)), K8, _, c.s.trans y7.s, same_mut y7.i hK7, fun b o e => ?_, fun p h => ?_, hK7, upd_same, ?_, Nat.le_trans putK_len (Nat.succ_le_succ c.len)⟩
      · rw [upd_ne (ne_of_none e hD)]
        exact y7.k b o (c.k b o e)
      · rcases y7.f p h with z | z
        · exact c.f p z
        · exact .inr (none_back c.k z)
      · rw [filter_yes ed hf, List.map_append]
        exact put_has c.r
    | false =>
      refine iteF ⟨K6, us, c.s.trans y6.s, y6.i, c.k.trans y6.k, fun p h => ?_, none_of y6 c.nn c.at_, y6.k D _ c.at_, ?_, Nat.le_succ_of_le c.len⟩
      · rcases y6.f p h with z | z
        · exact c.f p z
        · exact .inr (none_back c.k z)
      · rw [filter_no ed hf]
        exact c.r
  · refine .inl ⟨stop (by omega), q (.ref D) (upd Ki D (.dK us)) H' (x2.trans ⟨fun b o e => ?_, fun b o e => ?_, c.k, fun p h => ?_⟩) ⟨D, us, rfl, upd_same, ?_⟩⟩
    · rw [upd_ne (ne_of_none (c.s b o e) c.nn)]
      exact c.s b o e
    · by_cases hb : b = D
      · subst hb
        rw [upd_same] at e
        rw [← e]
        exact c.at_
      · rw [upd_ne hb] at e
        exact c.i b o e
    · by_cases hb : p = D
      · subst hb
        exact .inr hD
      · rw [upd_ne hb] at h
        exact c.f p h
    · have hr := c.r
      rw [List.take_of_length_le (by omega)] at hr
      exact hr
end
end NJ

set_option Elab.async false
set_option linter.all false
set_option maxRecDepth 100000
set_option maxHeartbeats 4000000
/-! What is known of a result only up to a property; objects that a def changes behind a veil. -/
namespace NJ
open PySem PySem.Spec PyProof.Rows L2
/-- some d with P, so laid -/
def rE {α : Type} (R : Rp α) (P : α → Prop) : Rp Unit := ⟨fun H v _ => ∃ d, R.rel H v d ∧ P d, fun s ⟨d, h, p⟩ => ⟨d, R.mono s h, p⟩⟩
section
variable {σ : L2.St} {Hm : Hp} {K : PySem.W.Frag} {α β γ : Type} {R : Rp α} {S : Rp β} {T : Rp γ} {ta tb te tc tl td : TE} {d : α} {e : β} {z : γ} {P : α → Prop} {P2 : γ → Prop} {Pb : β → Prop}
theorem Ev.some_ (h : Ev te σ Hm R d) (p : P d) : Ev te σ Hm (rE R P) () := fun H1 hi Q q => h H1 hi Q fun v K2 H2 x2 r => q v K2 H2 x2 ⟨d, r, p⟩
/-- a part whose result is known up to P -/
theorem ev_opE {r : R2} (ha : Ev ta σ Hm R d) (hb : Ev tb σ Hm (rE S Pb) ()) (hr : ∀ e, Pb e → ∃ z, P2 z ∧ Rv r R d S e T z) : Ev (tOp r ta tb) σ Hm (rE T P2) () := fun H1 hi Q q =>
  ha H1 hi _ fun x K2 H2 x2 rx => hb.mono x2.s H2 x2.i _ fun y K3 H3 x3 ⟨e, ry, pe⟩ => by
    obtain ⟨z, pz, hz⟩ := hr e pe
    exact hz K3 H3 x3.i x y (R.mono x3.s rx) ry Q fun v K4 H4 x4 rv => q v K4 H4 ((x2.trans x3).trans x4) ⟨z, rv, pz⟩
theorem ev_opE2 {r : R2} (ha : Ev ta σ Hm (rE R P) ()) (hb : Ev tb σ Hm S e) (hr : ∀ d, P d → ∃ z, P2 z ∧ Rv r R d S e T z) : Ev (tOp r ta tb) σ Hm (rE T P2) () := fun H1 hi Q q =>
  ha H1 hi _ fun x K2 H2 x2 ⟨d, rx, pd⟩ => hb.mono x2.s H2 x2.i _ fun y K3 H3 x3 ry => by
    obtain ⟨z, pz, hz⟩ := hr d pd
    exact hz K3 H3 x3.i x y (R.mono x3.s rx) ry Q fun v K4 H4 x4 rv => q v K4 H4 ((x2.trans x3).trans x4) ⟨z, rv, pz⟩
theorem Ev.imp {P' : α → Prop} (h : Ev te σ Hm (rE R P) ()) (f : ∀ d, P d → P' d) : Ev te σ Hm (rE R P') () := fun H1 hi Q q => h H1 hi Q fun v K2 H2 x2 ⟨d, r, p⟩ => q v K2 H2 x2 ⟨d, r, f d p⟩
theorem ev_rv {v : V} (h : Ev te σ Hm rV v) (r : R.rel Hm v d) : Ev te σ Hm R d := fun H1 hi Q q => h H1 hi Q fun u K2 H2 x2 e => q u K2 H2 x2 (by rw [show u = v from e]; exact R.mono x2.s r)
/-- a list of one's own, whatever its items -/
def rX : Rp (List V) := ⟨fun H v vs => ∃ a, v = .ref a ∧ H a = some (.lst vs), fun s ⟨a, e, h⟩ => ⟨a, e, s _ _ h⟩⟩
theorem rv_ixX {xs : List V} {i : Int} {j : Nat} {v : V} (hi : i = (j : Int)) (hd : xs[j]? = some v) : Rv (rIxL K) rX xs rI i rV v := rv_now fun Hm H1 hx x y ⟨a, ev, hS⟩ ry => ⟨v, rfl, fun Q q => ⟨a, xs, i, v, ev, ry, .inl (.inl (hx _ _ hS)), by rw [hi]; exact atI_nat hd, q⟩⟩
abbrev rInt1 : List V → Hp → VK → Prop := fun xs H Q => (∃ i, xs = [.int i] ∧ Q (.int i) H) ∨ ∃ k, xs = [.bl k] ∧ Q (.int (if k then 1 else 0)) H
theorem rc_int1 {i : Int} : Rc rInt1 (a1 rI i a0) rI i := rc_now fun Hm H1 hi vs ⟨v, ws, e1, e2, e3⟩ => ⟨.int i, rfl, fun Q q => .inl ⟨i, by rw [e1, show v = V.int i from e2, show ws = [] from e3], q⟩⟩
abbrev rAbs : List V → Hp → VK → Prop := fun xs H Q => ∃ i, xs = [.int i] ∧ Q (.int (if i < 0 then -i else i)) H
theorem rc_abs {i : Int} : Rc rAbs (a1 rI i a0) rI (if i < 0 then -i else i) := rc_now fun Hm H1 hi vs ⟨v, ws, e1, e2, e3⟩ => ⟨_, rfl, fun Q q => ⟨i, by rw [e1, show v = V.int i from e2, show ws = [] from e3], q⟩⟩
/-! ### statements -/
variable {D : Ends} {t : TT} {t1 t2 tz : TS} {H : Hp}
theorem q_whenJ {b : Bool} (M : L2.St → Hp → Prop) (h : Et t σ Hm b) (hi : Same Hm H) (tail : ∀ σ' H', M σ' H' → tz D σ' H') (h1 : (∀ σ' H', M σ' H' → tz D σ' H') → b = true → ∀ K1 H1, Xt Hm H K1 H1 → t1 { D with nx := tz D } σ H1) (h2 : b = false → ∀ K1 H1, Xt Hm H K1 H1 → M σ H1) : tSeq (tIfS t t1 tNext) tz D σ H :=
  q_when h hi (h1 tail) fun hb K1 H1 x => tail _ _ (h2 hb K1 H1 x)
/-- xs[i] = e, xs a list of one's own -/
theorem s_put {a : Addr} {i j : Nat} {k : Int} {us : List V} {ti : TE} (hv : σ[i]? = some (some (.ref a))) (ha : H a = some (.lst us)) (h : Ev te σ Hm R d) (hi : Same Hm H) (hk : Ev ti σ Hm rI k) (e : k = (j : Int)) (hj : j < us.length)
    (q : ∀ v K1 H1, Xt Hm H K1 H1 → R.rel K1 v d → D.nx σ (upd H1 a (.lst (us.set j v)))) : tAsg te (gSub (tVar i) ti L2.rSetL) D σ H := h H hi _ fun v K1 H1 x r => ⟨.ref a, hv, hk.mono x.s H1 x.i _ fun u K2 H2 x2 ru => ⟨a, us, k, j, rfl, ru, (x.trans x2).k a _ ha, by
  subst e
  unfold ixN
  rw [if_pos (by omega), if_pos (by omega)]
  simp, q v K2 H2 (x.trans x2) (R.mono x2.s r)⟩⟩
theorem q_put {a : Addr} {i j : Nat} {k : Int} {us : List V} {ti : TE} (hv : σ[i]? = some (some (.ref a))) (ha : H a = some (.lst us)) (h : Ev te σ Hm R d) (hi : Same Hm H) (hk : Ev ti σ Hm rI k) (e : k = (j : Int)) (hj : j < us.length)
    (q : ∀ v K1 H1, Xt Hm H K1 H1 → R.rel K1 v d → tz D σ (upd H1 a (.lst (us.set j v)))) : tSeq (tAsg te (gSub (tVar i) ti L2.rSetL)) tz D σ H := s_put (D := { D with nx := tz D }) hv ha h hi hk e hj q
end
/-! ### the hand -/
/-- a hand of cards: where it stands nobody need know -/
def HandP (a c : Addr) (h : Heap) : Prop := ∃ (p b sd n : Int) (its : List Value) (m : Nat), 0 ≤ p ∧ Vals [.ref c, .int p, .int b, .int sd, .int n] its ∧ h.get? a = some { cls := .type "list", data := .seq its.toArray m }
def HandO (a c : Addr) : HO := .ext (HandP a c)
theorem hand_ok {P : Program} {w : World} {H : Hp} {h : Heap} {a c : Addr} (p : HandP a c h) : ObjOk P w H h a (HandO a c) := by
  refine ⟨p, ?_, ?_⟩
  · obtain ⟨_, _, _, _, its, m, _, _, e⟩ := p
    exact ⟨_, e⟩
  · rintro h1 h2 ⟨p, b, sd, n, its, m, hp, hv, e⟩ k
    exact ⟨p, b, sd, n, its, m, hp, hv, k _ e⟩
def rHand : Rp (List Int) := ⟨fun H v cs => ∃ a c, v = .ref a ∧ H a = some (HandO a c) ∧ H c = some (.lst (cs.map V.int)), fun s ⟨a, c, e, h, g⟩ => ⟨a, c, e, s _ _ h, s _ _ g⟩⟩
section
variable {P : Program} {w : World} {K : PySem.W.Frag} {mg : Str → Option Value} {base : Heap} {k : Nat} {f : Addr} {fd : FuncData} {ps : List Str} {sp sp0 : Sp}
/-- one object's description changed -/
theorem hok_turn {H H' : Hp} {h : Heap} {a : Addr} {u o : HO} (k : HOk P w H h) (ha : H a = some u) (hu1 : ∀ y, u ≠ .own y) (hu2 : ∀ xs, u ≠ .tup xs) (he : ∀ b, b ≠ a → H' b = H b) (h' : H' a = some o) (ok : ObjOk P w H' h a o) : HOk P w H' h := fun b x e => by
  by_cases hb : b = a
  · subst hb
    rw [h'] at e
    cases e
    exact ok
  · rw [he b hb] at e
    refine (k b x e).stay (fun _ _ _ q => q) (fun y hy => ?_) (fun y xs hy => ?_)
    · by_cases hya : y = a
      · subst hya
        rw [ha] at hy
        exact absurd (Option.some.inj hy) (hu1 b)
      · rw [he y hya]
        exact hy
    · by_cases hya : y = a
      · subst hya
        rw [ha] at hy
        exact absurd (Option.some.inj hy) (hu2 xs)
      · rw [he y hya]
        exact hy
theorem un_turn {fr : List Addr} {H H0 H' H'' : Hp} {h h' : Heap} (un : Un fr [] H0 H' h h') (hn : ∀ b, H b = none → H0 b = none) (hf : ∀ b, H b = none → H' b = none → H'' b = none) (ht : ∀ b xs, H b = some (.tup xs) → H'' b = some (.tup xs)) (hz : ∀ b o u, H b = some (.frz o u) → H'' b = some (.frz o u))
    (hl : ∀ b ps, H b = some (.tbl ps) → ∃ more, H'' b = some (.tbl (ps ++ more))) : Un fr [] H H'' h h' :=
  ⟨fun b o e n => un.keep b o e (hn b n), fun b o e n => un.slot b o e (hn b n), fun b o e n x => hf b n (un.free b o e (hn b n) x), un.there, ht, hz, hl⟩
/-- a def's promise by way of another one -/
theorem FnOk.turn (F : FnOk P w K mg base CX0 k f fd ps sp0) (len : ∀ vs H Q E, sp vs H Q E → vs.length = ps.length)
    (h : ∀ (fr : List Addr) (vs : List V) (H : Hp) (Q : VK) (E : XK) (hp : Heap), sp vs H Q E → HOk P w H hp → ∃ (H0 : Hp) (Q0 : VK), sp0 vs H0 Q0 E ∧ HOk P w H0 hp ∧ (∀ b, H b = none → H0 b = none) ∧
      ∀ v H' hp', Un fr [] H0 H' hp hp' → HOk P w H' hp' → Q0 v H' → ∃ H'', Un fr [] H H'' hp hp' ∧ HOk P w H'' hp' ∧ Q v H'') : FnOk P w K mg base CX0 k f fd ps sp := by
  refine ⟨len, fun A outer s H args us vs Q E hr he hb hv hs => ?_⟩
  obtain ⟨H0, Q0, s0, ok0, hn, back⟩ := h (frs outer) vs H Q E s.heap hs he.hok
  refine codeAny_mono (F.run A outer s H0 args us vs Q0 E hr ⟨he.frames, he.mod, fun b o e => ⟨(he.bs b o e).1, hn b (he.bs b o e).2⟩, he.bsz, he.funs, fun b hb => hn b (he.frf b hb), ok0, he.bare⟩ hb hv s0) fun r s' hr' => ?_
  cases r with
  | error e => exact hr'
  | ok fl =>
    cases fl with
    | ret u =>
      obtain ⟨v, H', e1, e2, un, ok', rv, q0⟩ := hr'
      obtain ⟨H'', un2, ok2, q2⟩ := back v H' s'.heap un ok' q0
      exact ⟨v, H'', e1, e2, un2, ok2, rv, q2⟩
    | _ => exact hr'
theorem Fk.turn (F : Fk P w K mg base CX0 k f ps sp0) (len : ∀ vs H Q E, sp vs H Q E → vs.length = ps.length)
    (h : ∀ (fr : List Addr) (vs : List V) (H : Hp) (Q : VK) (E : XK) (hp : Heap), sp vs H Q E → HOk P w H hp → ∃ (H0 : Hp) (Q0 : VK), sp0 vs H0 Q0 E ∧ HOk P w H0 hp ∧ (∀ b, H b = none → H0 b = none) ∧
      ∀ v H' hp', Un fr [] H0 H' hp hp' → HOk P w H' hp' → Q0 v H' → ∃ H'', Un fr [] H H'' hp hp' ∧ HOk P w H'' hp' ∧ Q v H'') : Fk P w K mg base CX0 k f ps sp := by
  obtain ⟨⟨fd, G, b⟩, kp⟩ := F
  exact ⟨⟨fd, FnOk.turn G len h, b⟩, kp⟩
end
/-- a comprehension's list is one's own -/
theorem ev_lcM {σ : L2.St} {Hm : Hp} {α β : Type} {R : Rp α} {S : Rp β} {te : TE} {wi : TI} {g : TG} {vs : List Nat} {xs : List α} (m : α → β) (hw : Wk wi σ Hm R xs) (hn : xs.length ≤ 16000000)
    (hb : ∀ d, d ∈ xs → ∀ v K3, Same Hm K3 → R.rel K3 v d → ∃ σ2, Tk g (wipe σ vs) K3 v σ2 ∧ wipe σ2 vs = wipe σ vs ∧ Ev te σ2 K3 S (m d)) :
    Ev (tLc wi g tYes te vs) σ Hm (rM S) (xs.map m) := fun H1 hi Q q => hw H1 hi _ fun J K2 H2 x2 hJ D hD => by
  have hKD : K2 D = none := none_back x2.i hD
  refine ⟨fun i mm H' => i + mm = xs.length ∧ ∃ Ki us, Ci K2 H2 D S ((xs.take i).map m) Ki us H', ⟨xs.length, by omega, K2, [], Same.refl _, same_mut x2.i hKD, same_mut (Same.refl _) hD, fun _ h => .inl h, hKD, upd_same, .nil⟩, ?_⟩
  rintro i mm H' ⟨em, Ki, us, c⟩
  obtain ⟨go, stop, yld⟩ := hJ i H' (c.s.trans c.i)
  have hul : us.length ≤ i := by
    rw [paired_len c.r, List.length_map, List.length_take]
    exact Nat.min_le_left _ _
  by_cases hlt : i < xs.length
  · refine .inr ⟨go hlt, fun H'' => ∃ Ki us, Ci K2 H2 D S ((xs.take (i + 1)).map m) Ki us H'', fun H'' ⟨Ki2, us2, c2⟩ => ⟨mm - 1, by omega, by omega, Ki2, us2, c2⟩, fun v H4 hy => ?_⟩
    obtain ⟨d, K4, ed, x4, rv⟩ := yld hlt v H4 hy
    have x5 : Xt Ki H' (uni Ki K4) H4 := Xt.lift c.s c.i x4
    obtain ⟨σ2, htk, hwp, hev⟩ := hb d (List.mem_of_getElem? ed) v (uni Ki K4) ((x2.s.trans c.s).trans x5.s) (R.mono (uni_r (c.i.trans x4.k) x4.i) rv)
    refine htk H4 x5.i _ ⟨hwp, ?_⟩
    unfold tYes
    dsimp only
    rw [if_pos rfl]
    refine hev H4 x5.i _ fun y K7 H7 x7 ry => ?_
    have y7 := x5.trans x7
    have hK7 : K7 D = none := none_of y7 c.n c.at_
    refine ⟨us, y7.k D _ c.at_, Nat.lt_of_le_of_lt hul (Nat.lt_of_lt_of_le hlt (Nat.le_trans hn (by rw [sizeLine_eq]; decide))), K7, us ++ [y], c.s.trans y7.s, same_mut y7.i hK7, fun b o e => ?_, fun p h => ?_, hK7, upd_same, ?_⟩
    · rw [upd_ne (ne_of_none e hD)]
      exact y7.k b o (c.k b o e)
    · rcases y7.f p h with z | z
      · exact c.f p z
      · exact .inr (none_back c.k z)
    · rw [List.take_add_one, ed, List.map_append]
      exact paired_app (paired_mono S y7.s c.r) (.cons ry .nil)
  · refine .inl ⟨stop (by omega), q (.ref D) (upd Ki D (.lst us)) H' (x2.trans ⟨fun b o e => ?_, fun b o e => ?_, c.k, fun p h => ?_⟩) ⟨D, us, rfl, upd_same, ?_⟩⟩
    · rw [upd_ne (ne_of_none (c.s b o e) c.n)]
      exact c.s b o e
    · by_cases hb : b = D
      · subst hb
        rw [upd_same] at e
        rw [← e]
        exact c.at_
      · rw [upd_ne hb] at e
        exact c.i b o e
    · by_cases hb : p = D
      · subst hb
        exact .inr hD
      · rw [upd_ne hb] at h
        exact c.f p h
    · have hr := c.r
      rw [List.take_of_length_le (by omega)] at hr
      exact paired_mono S (fun b o e => by
        rw [upd_ne (ne_of_none e c.n)]
        exact e) hr
end NJ

set_option Elab.async false
set_option linter.all false
set_option maxHeartbeats 1000000
/-! What begins another text, in a list in order. -/
namespace NJ
theorem pre_mid : ∀ {p r q : T8}, p ≤ r → r ≤ q → p <+: q → p <+: r
  | [], _, _, _, _, _ => List.nil_prefix
  | a :: p, [], q, h, _, _ => by
    exfalso
    have : ([] : T8) < a :: p := List.nil_lt_cons a p
    exact h this
  | a :: p, b :: r, [], h, g, k => by simp at k
  | a :: p, b :: r, c :: q, h, g, k => by
    rw [List.cons_prefix_cons] at k
    obtain ⟨rfl, k⟩ := k
    rw [List.cons_le_cons_iff] at h g
    have e : a = b := by
      rcases h with h | h
      · rcases g with g | g
        · omega
        · omega
      · exact h.1
    subst e
    have h2 : p ≤ r := by
      rcases h with h | h
      · omega
      · exact h.2
    have g2 : r ≤ q := by
      rcases g with g | g
      · omega
      · exact g.2
    rw [List.cons_prefix_cons]
    exact ⟨rfl, pre_mid h2 g2 k⟩
theorem pre_le : ∀ {p q : T8}, p <+: q → p ≤ q
  | [], _, _ => List.nil_le _
  | a :: p, [], k => by simp at k
  | a :: p, c :: q, k => by
    rw [List.cons_prefix_cons] at k
    obtain ⟨rfl, k⟩ := k
    rw [List.cons_le_cons_iff]
    exact .inr ⟨rfl, pre_le k⟩
def begF (ls : List T8) : List T8 := ((ls.zip (ls.drop 1)).filter fun p => p.1.isPrefixOf p.2).map (·.1)
def Asc (ls : List T8) : Prop := ls.Pairwise (fun a b => leT a b = true) ∧ ls.Nodup
theorem begF_in {ls : List T8} {p : T8} (h : p ∈ begF ls) (nd : ls.Nodup) : p ∈ ls ∧ ∃ q ∈ ls, q ≠ p ∧ p <+: q := by
  obtain ⟨⟨a, b⟩, h1, rfl⟩ := List.mem_map.mp h
  obtain ⟨h2, h3⟩ := List.mem_filter.mp h1
  obtain ⟨i, hi⟩ := List.mem_iff_getElem?.mp h2
  rw [List.getElem?_zip_eq_some, List.getElem?_drop] at hi
  obtain ⟨ha, hb⟩ := hi
  refine ⟨List.mem_of_getElem? ha, b, List.mem_of_getElem? hb, fun e => ?_, List.isPrefixOf_iff_prefix.mp h3⟩
  dsimp only at e ha hb
  subst e
  have l1 := (List.getElem?_eq_some_iff.mp ha).1
  have := (List.getElem?_inj l1 nd).mp (ha.trans hb.symm)
  omega
theorem begF_of : ∀ {ls : List T8} {p q : T8}, Asc ls → p ∈ ls → q ∈ ls → q ≠ p → p <+: q → p ∈ begF ls
  | [], p, q, _, h, _, _, _ => by cases h
  | [x], p, q, _, h, g, n, _ => by
    rw [List.mem_singleton] at h g
    exact absurd (g.trans h.symm) n
  | x :: y :: ls, p, q, ⟨pw, nd⟩, h, g, n, k => by
    have e : begF (x :: y :: ls) = (if x.isPrefixOf y then [x] else []) ++ begF (y :: ls) := by
      unfold begF
      simp only [List.drop_succ_cons, List.drop_zero, List.zip_cons_cons, List.filter_cons]
      split <;> simp
    rw [e, List.mem_append]
    have pw2 := List.pairwise_cons.mp pw
    have nd2 := List.nodup_cons.mp nd
    by_cases hx : p = x
    · subst hx
      left
      have hq : q ∈ y :: ls := by
        rcases List.mem_cons.mp g with z | z
        · exact absurd z n
        · exact z
      have h1 : p ≤ y := of_decide_eq_true (pw2.1 y List.mem_cons_self)
      have h2 : y ≤ q := by
        rcases List.mem_cons.mp hq with z | z
        · subst z
          exact List.le_refl _
        · exact of_decide_eq_true ((List.pairwise_cons.mp pw2.2).1 q z)
      have := pre_mid h1 h2 k
      rw [List.isPrefixOf_iff_prefix.mpr this]
      simp
    · right
      have hp : p ∈ y :: ls := by
        rcases List.mem_cons.mp h with z | z
        · exact absurd z hx
        · exact z
      have hq : q ∈ y :: ls := by
        rcases List.mem_cons.mp g with z | z
        · subst z
          have := leT_anti (pw2.1 p hp) (decide_eq_true (pre_le k))
          exact absurd this n
        · exact z
      exact begF_of ⟨pw2.2, nd2.2⟩ hp hq n k
theorem mem_begF {ls : List T8} {p : T8} (h : Asc ls) : p ∈ begF ls ↔ p ∈ ls ∧ ∃ q ∈ ls, q ≠ p ∧ p <+: q := ⟨fun z => begF_in z h.2, fun ⟨a, q, b, c, d⟩ => begF_of h a b c d⟩
theorem asc_sd (xs : List T8) : Asc (sd xs) := ⟨srtT_pw _, nd_sd⟩
theorem rev_inj {a b : T8} (h : a.reverse = b.reverse) : a = b := List.reverse_inj.mp h
theorem asc_rev (xs : List T8) : Asc (srtT ((sd xs).map List.reverse)) := ⟨srtT_pw _, (srtT_perm _).nodup_iff.mpr (List.Pairwise.map _ (fun a b h e => h (rev_inj e)) nd_sd)⟩
/-- t begins or ends another one of ls -/
def Cl (ls : List T8) (t : T8) : Prop := ∃ q ∈ ls, q ≠ t ∧ (t <+: q ∨ t <:+ q)
def clashing (xs : List T8) : List T8 := (sd xs).filter fun t => decide (t ∈ begF (sd xs)) || decide (t.reverse ∈ begF (srtT ((sd xs).map List.reverse)))
def others (xs : List T8) (one : T8) : List T8 := (sd xs).filter fun t => (!decide (t = one)) && (one.isPrefixOf t || one.isSuffixOf t)
theorem mem_clashing {xs : List T8} {t : T8} : t ∈ clashing xs ↔ t ∈ sd xs ∧ Cl (sd xs) t := by
  unfold clashing
  rw [List.mem_filter, Bool.or_eq_true, decide_eq_true_iff, decide_eq_true_iff, mem_begF (asc_sd xs), mem_begF (asc_rev xs)]
  constructor
  · rintro ⟨h, ⟨_, q, a, b, c⟩ | ⟨_, q, a, b, c⟩⟩
    · exact ⟨h, q, a, b, .inl c⟩
    · rw [(srtT_perm _).mem_iff] at a
      obtain ⟨z, h1, rfl⟩ := List.mem_map.mp a
      exact ⟨h, z, h1, fun e => b (by rw [e]), .inr (List.reverse_prefix.mp c)⟩
  · rintro ⟨h, q, a, b, c | c⟩
    · exact ⟨h, .inl ⟨h, q, a, b, c⟩⟩
    · refine ⟨h, .inr ⟨?_, q.reverse, ?_, fun e => b (rev_inj e), List.reverse_prefix.mpr c⟩⟩
      · rw [(srtT_perm _).mem_iff]
        exact List.mem_map_of_mem h
      · rw [(srtT_perm _).mem_iff]
        exact List.mem_map_of_mem a
theorem mem_others {xs : List T8} {one t : T8} : t ∈ others xs one ↔ t ∈ sd xs ∧ t ≠ one ∧ (one <+: t ∨ one <:+ t) := by
  unfold others
  rw [List.mem_filter, Bool.and_eq_true, Bool.or_eq_true, List.isPrefixOf_iff_prefix, List.isSuffixOf_iff_suffix]
  simp
theorem others_some {xs : List T8} {one : T8} (h : one ∈ clashing xs) : others xs one ≠ [] := by
  obtain ⟨_, q, a, b, c⟩ := mem_clashing.mp h
  exact List.ne_nil_of_mem (mem_others.mpr ⟨a, b, c⟩)
/-- what least_clash tells -/
def lcF (xs : List T8) : Option (T8 × T8) := match clashing xs with
  | [] => none
  | one :: _ => some (one, (others xs one).headD [])
/-- the pairs that clash -/
def Pr (xs : List T8) (p : T8 × T8) : Prop := p.1 ∈ xs ∧ p.2 ∈ xs ∧ p.1.length < p.2.length ∧ (p.1 <+: p.2 ∨ p.1 <:+ p.2)
theorem cl_len {t q : T8} (n : q ≠ t) (h : t <+: q ∨ t <:+ q) : t.length < q.length := by
  rcases h with h | h
  · have := h.length_le
    rcases Nat.lt_or_ge t.length q.length with z | z
    · exact z
    · exact absurd (h.eq_of_length (by omega)).symm n
  · have := h.length_le
    rcases Nat.lt_or_ge t.length q.length with z | z
    · exact z
    · exact absurd (h.eq_of_length (by omega)).symm n
/-- the order of the pairs -/
def leP (p q : T8 × T8) : Prop := p.1 < q.1 ∨ (p.1 = q.1 ∧ p.2 ≤ q.2)
theorem head_le {l : List T8} {x : T8} {r : List T8} (pw : l.Pairwise fun a b => leT a b = true) (e : l = x :: r) {y : T8} (h : y ∈ l) : x ≤ y := by
  subst e
  rcases List.mem_cons.mp h with z | z
  · rw [z]
    exact List.le_refl _
  · exact of_decide_eq_true ((List.pairwise_cons.mp pw).1 y z)
theorem lcF_none {xs : List T8} (h : lcF xs = none) (p : T8 × T8) : ¬ Pr xs p := by
  rintro ⟨a, b, c, d⟩
  have : p.1 ∈ clashing xs := mem_clashing.mpr ⟨mem_sd.mpr a, p.2, mem_sd.mpr b, fun e => by rw [e] at c; omega, d⟩
  unfold lcF at h
  split at h
  · rename_i e
    rw [e] at this
    cases this
  · cases h
theorem lcF_some {xs : List T8} {m : T8 × T8} (h : lcF xs = some m) : Pr xs m ∧ ∀ p, Pr xs p → leP m p := by
  unfold lcF at h
  split at h
  · cases h
  · rename_i one r e
    have e1 : one ∈ clashing xs := by rw [e]; exact List.mem_cons_self
    have e2 := others_some e1
    cases eo : others xs one with
    | nil => exact absurd eo e2
    | cons o os =>
      rw [eo] at h
      have em : m = (one, o) := (Option.some.inj h).symm
      subst em
      have ho : o ∈ others xs one := by rw [eo]; exact List.mem_cons_self
      obtain ⟨h1, h2, h3⟩ := mem_others.mp ho
      refine ⟨⟨mem_sd.mp (mem_clashing.mp e1).1, mem_sd.mp h1, cl_len h2 h3, h3⟩, ?_⟩
      rintro ⟨a, b⟩ ⟨ha, hb, hl, hc⟩
      dsimp only at ha hb hl hc
      have nab : b ≠ a := fun z => by rw [z] at hl; omega
      have ca : a ∈ clashing xs := mem_clashing.mpr ⟨mem_sd.mpr ha, b, mem_sd.mpr hb, nab, hc⟩
      have le1 : one ≤ a := head_le (List.Pairwise.sublist List.filter_sublist (asc_sd xs).1) e ca
      by_cases z : one = a
      · subst z
        have cb : b ∈ others xs one := mem_others.mpr ⟨mem_sd.mpr hb, nab, hc⟩
        exact .inr ⟨rfl, head_le (List.Pairwise.sublist List.filter_sublist (asc_sd xs).1) eo cb⟩
      · refine .inl ?_
        rcases Decidable.em (one < a) with y | y
        · exact y
        · exact absurd (List.le_antisymm le1 (List.not_lt.mp y)) z
theorem leP_anti {p q : T8 × T8} (h : leP p q) (g : leP q p) : p = q := by
  obtain ⟨a, b⟩ := p
  obtain ⟨c, d⟩ := q
  unfold leP at h g
  dsimp only at h g
  rcases h with h | ⟨h1, h2⟩
  · rcases g with g | ⟨g1, g2⟩
    · exact absurd g (List.lt_asymm h)
    · rw [g1] at h
      exact absurd h (List.lt_irrefl _)
  · subst h1
    rcases g with g | ⟨g1, g2⟩
    · exact absurd g (List.lt_irrefl _)
    · rw [List.le_antisymm h2 g2]
/-- the least of the pairs is what least_clash tells -/
theorem lcF_is {xs : List T8} {m : T8 × T8} (h : Pr xs m) (g : ∀ p, Pr xs p → leP m p) : lcF xs = some m := by
  cases e : lcF xs with
  | none => exact absurd h (lcF_none e m)
  | some z =>
    obtain ⟨h1, h2⟩ := lcF_some e
    rw [leP_anti (h2 m h) (g z h1)]
theorem lcF_is_none {xs : List T8} (h : ∀ p, ¬ Pr xs p) : lcF xs = none := by
  cases e : lcF xs with
  | none => rfl
  | some z => exact absurd (lcF_some e).1 (h z)
end NJ

set_option Elab.async false
set_option linter.all false
set_option maxRecDepth 100000
set_option maxHeartbeats 4000000
/-! min of a list of pairs of texts; loops that make a list. -/
namespace NJ
open PySem PySem.Spec PyProof.Rows L2
open PySem.W (alike dataLt dataLt_str dataLt_pair AlikeAll minD min_list_data)
section
variable {X : Cx}
/-- min(xs), xs a list of data alike -/
def rMinD (K : PySem.W.Frag) : List V → Hp → VK → Prop := fun vs H Q => ∃ (a : Addr) (xs : List V) (d0 : PyData) (ds : List PyData), vs = [V.ref a] ∧ SqL K H a xs ∧ DpAll K H xs (d0 :: ds) ∧ AlikeAll (d0 :: ds) ∧ PyData.depthAll (d0 :: ds) ≤ 64 ∧
  ∀ (i : Nat) x, xs[i]? = some x → (d0 :: ds)[i]? = some (minD d0 ds) → Q x H
theorem dpAll_at {K : PySem.W.Frag} {H : Hp} : ∀ {xs : List V} {ds : List PyData}, DpAll K H xs ds → ∀ {i : Nat} {x : V}, xs[i]? = some x → ∃ d, ds[i]? = some d ∧ Dp K H x d
  | _, _, .nil, i, x, h => by simp at h
  | _, _, .cons (v := v) (d := d) a r, 0, x, h => by
    have e : v = x := by simpa using h
    exact ⟨d, by simp, e ▸ a⟩
  | _, _, .cons a r, i + 1, x, h => by
    obtain ⟨y, h1, h2⟩ := dpAll_at r (i := i) (x := x) (by simpa using h)
    exact ⟨y, by simpa using h1, h2⟩
theorem foldl_in {α : Type} (f : α → α → Bool) : ∀ (xs : List α) (x : α), (xs.foldl (fun a y => if f y a = true then y else a) x) ∈ x :: xs
  | [], x => List.mem_cons_self
  | y :: ys, x => by
    rw [List.foldl_cons]
    have h := foldl_in f ys (if f y x = true then y else x)
    rcases List.mem_cons.mp h with z | z
    · rw [z]
      split
      · exact List.mem_cons_of_mem _ List.mem_cons_self
      · exact List.mem_cons_self
    · exact List.mem_cons_of_mem _ (List.mem_cons_of_mem _ z)
theorem cr_minP (hc : X.calm = true) (hu : X.A.units + 100 < cLine) : CallR X (.builtin "min") (rMinD X.K) := by
  intro pins s σ H vs us Q I r h
  obtain ⟨a, xs, d0, ds, rfl, hS, hd, ha, hz, q⟩ := h
  obtain ⟨its, rv, hl, _⟩ := I.list hS
  rw [Vals.ref1 r]
  obtain ⟨as, hr⟩ := Dp.readsAll I (d0 :: ds) xs its hd rv
  refine min_list_data (I.ok.hd hc) hl.isList (by simpa using hr) ha (by omega) fun i v h' tk bs hv hm hk => ?_
  have hv2 : its[i]? = some v := by simpa using hv
  have hi : i < xs.length := by
    rw [rv.length]
    exact (List.getElem?_eq_some_iff.mp hv2).1
  obtain ⟨u, h1, h2⟩ := rv.get (List.getElem?_eq_getElem hi)
  rw [hv2] at h1
  cases h1
  obtain ⟨d, e1, e2⟩ := dpAll_at hd (List.getElem?_eq_getElem hi)
  obtain ⟨as2, r2⟩ := Dp.reads I d _ v e2 h2
  have hmin : minD d0 ds ∈ d0 :: ds := by
    unfold minD
    exact foldl_in _ ds d0
  have e : d = minD d0 ds := PySem.W.alike_unique d _ v as2 bs (ha.1 d (List.mem_of_getElem? e1) _ hmin) (Reads.keeps hk r2) hm
  exact ⟨xs[i], H, I.kept (t' := tk) hk, h2, q i _ (List.getElem?_eq_getElem hi) (by rw [e1, e])⟩
end
/-! ### pairs of texts -/
def dP (p : T8 × T8) : PyData := .tuple [.str (tx p.1), .str (tx p.2)]
def ltP (p q : T8 × T8) : Bool := decide (p.1 < q.1) || (decide (p.1 = q.1) && decide (p.2 < q.2))
theorem eqv_str (a b : T8) : PyData.eqv (.str (tx a)) (.str (tx b)) = decide (a = b) := by
  by_cases h : a = b
  · subst h
    simp [PyData.eqv]
  · have : ¬ tx a = tx b := fun e => h (tx_inj e)
    simp [PyData.eqv, h, this]
theorem dataLt_dP (p q : T8 × T8) : dataLt (dP p) (dP q) = ltP p q := by
  obtain ⟨a, b⟩ := p
  obtain ⟨c, d⟩ := q
  unfold dP ltP
  rw [dataLt_pair (by simp [alike]) (by simp [alike]), dataLt_str, dataLt_str, eqv_str, eqv_str]
  simp only [tx_cps]
  by_cases h1 : a = c
  · subst h1
    by_cases h2 : b = d
    · subst h2
      simp [List.lt_irrefl]
    · simp [h2, List.lt_irrefl]
  · simp [h1]
def mnP (x : T8 × T8) (xs : List (T8 × T8)) : T8 × T8 := xs.foldl (fun a y => if ltP y a = true then y else a) x
theorem minD_dP (x : T8 × T8) : ∀ xs : List (T8 × T8), minD (dP x) (xs.map dP) = dP (mnP x xs) := fun xs => by
  unfold minD mnP
  induction xs generalizing x with
  | nil => rfl
  | cons y ys ih =>
    rw [List.map_cons, List.foldl_cons, List.foldl_cons, dataLt_dP]
    have e : (if ltP y x = true then dP y else dP x) = dP (if ltP y x = true then y else x) := by split <;> rfl
    rw [e]
    exact ih _
theorem ltP_leP {p q : T8 × T8} (h : ltP p q = true) : leP p q := by
  unfold ltP at h
  rw [Bool.or_eq_true, Bool.and_eq_true, decide_eq_true_iff, decide_eq_true_iff, decide_eq_true_iff] at h
  rcases h with h | ⟨h, g⟩
  · exact .inl h
  · exact .inr ⟨h, List.le_of_lt g⟩
theorem leP_not {p q : T8 × T8} (h : ltP p q = false) : leP q p := by
  unfold ltP at h
  rw [Bool.or_eq_false_iff, Bool.and_eq_false_iff] at h
  obtain ⟨h1, h2⟩ := h
  have h1' : q.1 ≤ p.1 := List.not_lt.mp (of_decide_eq_false h1)
  by_cases e : p.1 = q.1
  · rcases h2 with h2 | h2
    · exact absurd e (of_decide_eq_false h2)
    · exact .inr ⟨e.symm, List.not_lt.mp (of_decide_eq_false h2)⟩
  · refine .inl ?_
    rcases Decidable.em (q.1 < p.1) with y | y
    · exact y
    · exact absurd (List.le_antisymm (List.not_lt.mp y) h1') e
theorem leP_refl (p : T8 × T8) : leP p p := .inr ⟨rfl, List.le_refl _⟩
theorem leP_trans {p q r : T8 × T8} (h : leP p q) (g : leP q r) : leP p r := by
  rcases h with h | ⟨h1, h2⟩
  · rcases g with g | ⟨g1, g2⟩
    · exact .inl (List.lt_trans h g)
    · exact .inl (g1 ▸ h)
  · rcases g with g | ⟨g1, g2⟩
    · exact .inl (h1 ▸ g)
    · exact .inr ⟨h1.trans g1, List.le_trans h2 g2⟩
theorem mnP_le : ∀ (xs : List (T8 × T8)) (x : T8 × T8), ∀ y ∈ x :: xs, leP (mnP x xs) y
  | [], x, y, h => by
    rw [List.mem_singleton] at h
    subst h
    exact leP_refl _
  | z :: zs, x, y, h => by
    have e : mnP x (z :: zs) = mnP (if ltP z x = true then z else x) zs := rfl
    rw [e]
    have key := mnP_le zs (if ltP z x = true then z else x)
    have k0 := key _ List.mem_cons_self
    rcases List.mem_cons.mp h with h | h
    · subst h
      refine leP_trans k0 ?_
      split
      · rename_i q
        exact ltP_leP q
      · exact leP_refl _
    · rcases List.mem_cons.mp h with h | h
      · subst h
        refine leP_trans k0 ?_
        split
        · exact leP_refl _
        · rename_i q
          exact leP_not (by simpa using q)
      · exact key y (List.mem_cons_of_mem _ h)
theorem mnP_in (x : T8 × T8) (xs : List (T8 × T8)) : mnP x xs ∈ x :: xs := foldl_in _ xs x
theorem dP_inj {p q : T8 × T8} (h : dP p = dP q) : p = q := by
  unfold dP at h
  simp only [PyData.tuple.injEq, List.cons.injEq, PyData.str.injEq, and_true] at h
  exact Prod.ext (tx_inj h.1) (tx_inj h.2)
section
variable {σ : L2.St} {Hm : Hp} {K : PySem.W.Frag} {α β : Type} {R : Rp α} {S : Rp β} {te : TE}
theorem dpAll_pairs {H : Hp} : ∀ {vs : List V} {ps : List (T8 × T8)}, Paired ((rP K rS rS).rel H) vs ps → DpAll K H vs (ps.map dP)
  | _, _, .nil => .nil
  | _, _, .cons a r => by
    refine .cons ?_ (dpAll_pairs r)
    obtain ⟨b, x, y, rfl, hS, r1, r2⟩ := a
    rw [show x = _ from r1, show y = _ from r2] at hS
    exact .tup hS (.cons (.str _) (.cons (.str _) .nil))
theorem depth_dP : ∀ ps : List (T8 × T8), PyData.depthAll (ps.map dP) ≤ 64
  | [] => Nat.zero_le _
  | p :: ps => by
    have h := depth_dP ps
    rw [List.map_cons]
    show max (PyData.depth (dP p)) (PyData.depthAll (ps.map dP)) ≤ 64
    have e : PyData.depth (dP p) ≤ 64 := by
      show max 0 (max 0 0) + 1 ≤ 64
      decide
    omega
theorem ev_minP {p : T8 × T8} {ps : List (T8 × T8)} (h : Ev te σ Hm (rL K (rP K rS rS)) (p :: ps)) : Ev (tCB (rMinD K) (tCons te tNil)) σ Hm (rP K rS rS) (mnP p ps) := fun H1 hi Q q => h H1 hi _ fun v K2 H2 x2 ⟨a, vs, e, hS, hP⟩ =>
  ⟨a, vs, dP p, ps.map dP, by rw [e], x2.i.seq hS, dpAll_pairs (paired_mono _ x2.i hP), ⟨fun x hx y hy => by
    obtain ⟨x1, _, rfl⟩ := List.mem_map.mp (show x ∈ (p :: ps).map dP from hx)
    obtain ⟨y1, _, rfl⟩ := List.mem_map.mp (show y ∈ (p :: ps).map dP from hy)
    simp [alike, dP, PySem.W.alikeAll], fun x hx => by
    obtain ⟨x1, _, rfl⟩ := List.mem_map.mp (show x ∈ (p :: ps).map dP from hx)
    unfold dP
    simp⟩, depth_dP (p :: ps), fun i x hx hm => by
    rw [minD_dP] at hm
    obtain ⟨d, e1, e2⟩ := paired_get hP hx
    have e3 : ((p :: ps).map dP)[i]? = some (dP (mnP p ps)) := hm
    rw [List.getElem?_map, e1] at e3
    have e4 := dP_inj (Option.some.inj e3)
    exact q x K2 H2 x2 (e4 ▸ e2)⟩
end
end NJ

set_option Elab.async false
set_option linter.all false
set_option maxRecDepth 100000
set_option maxHeartbeats 4000000
/-! Loops that make a list; parallel stores. -/
namespace NJ
open PySem PySem.Spec PyProof.Rows L2
section
variable {Hm H H' H2 K2 Ki : Hp} {f : Addr} {α β : Type} {R : Rp α} {S : Rp β} {ys : List β} {vs : List V}
theorem Ci.new (hi : Same Hm H) (hf : H f = none) : Ci Hm H f S [] Hm [] (upd H f (.lst [])) := ⟨Same.refl _, same_mut hi (none_back hi hf), same_mut (Same.refl _) hf, fun _ h => .inl h, none_back hi hf, upd_same, .nil⟩
theorem Ci.ext {K6 H6 : Hp} (c : Ci Hm H f S ys Ki vs H') (x : Xt Ki H' K6 H6) : Ci Hm H f S ys K6 vs H6 := ⟨c.s.trans x.s, x.i, c.k.trans x.k, fun p h => by
  rcases x.f p h with z | z
  · exact c.f p z
  · exact .inr (none_back c.k z), none_of x c.n c.at_, x.k _ _ c.at_, paired_mono S x.s c.r⟩
theorem Ci.app {v : V} {d : β} (c : Ci Hm H f S ys Ki vs H') (hf : H f = none) (r : S.rel Ki v d) : Ci Hm H f S (ys ++ [d]) Ki (vs ++ [v]) (upd H' f (.lst (vs ++ [v]))) := ⟨c.s, same_mut c.i c.n, fun b o e => by
  rw [upd_ne (ne_of_none e hf)]
  exact c.k b o e, c.f, c.n, upd_same, paired_app c.r (.cons r .nil)⟩
theorem Ci.len (c : Ci Hm H f S ys Ki vs H') : vs.length = ys.length := paired_len c.r
/-- the list is known from now on -/
theorem Ci.done (c : Ci Hm H f S ys Ki vs H') (hf : H f = none) : Xt Hm H (upd Ki f (.lst vs)) H' ∧ (rM S).rel (upd Ki f (.lst vs)) (.ref f) ys := by
  refine ⟨⟨fun b o e => ?_, fun b o e => ?_, c.k, fun p h => ?_⟩, f, vs, rfl, upd_same, paired_mono S (fun b o e => ?_) c.r⟩
  · rw [upd_ne (ne_of_none (c.s b o e) c.n)]
    exact c.s b o e
  · by_cases hb : b = f
    · subst hb
      rw [upd_same] at e
      rw [← e]
      exact c.at_
    · rw [upd_ne hb] at e
      exact c.i b o e
  · by_cases hb : p = f
    · subst hb
      exact .inr hf
    · rw [upd_ne hb] at h
      exact c.f p h
  · rw [upd_ne (ne_of_none e c.n)]
    exact e
variable {σ : L2.St} {D : Ends} {t1 tz : TS} {g : TG} {wi : TI} {Ka Hx : Hp} {vs0 : List V}
/-- for .. in xs: the list at f grows -/
theorem s_forC {xs : List α} {Y : Nat → List β} (Sg : L2.St → Prop) (hw : Wk wi σ Ka R xs) (c0 : Ci Hm H f S (Y 0) Ka vs0 Hx) (hσ : Sg σ)
    (step : ∀ i d σ' Ki vs H' v, xs[i]? = some d → Sg σ' → Ci Hm H f S (Y i) Ki vs H' → Same Ka Ki → R.rel Ki v d → ∀ N : L2.St → Hp → Prop, (∀ σ2 Ki2 vs2 H2, Sg σ2 → Ci Hm H f S (Y (i + 1)) Ki2 vs2 H2 → Same Ki Ki2 → N σ2 H2) → g v σ' H' fun σ2 H5 => t1 { D with nx := N, ct := N, bk := D.nx } σ2 H5)
    (done : ∀ σ' Ki vs H', Sg σ' → Ci Hm H f S (Y xs.length) Ki vs H' → Same Ka Ki → D.nx σ' H') : tFor wi g t1 D σ Hx :=
  s_for hw c0.i fun K2 H2 x2 => ⟨fun i σ' H' => Sg σ' ∧ ∃ Ki vs, Ci Hm H f S (Y i) Ki vs H' ∧ Same K2 Ki, ⟨hσ, K2, vs0, c0.ext x2, Same.refl _⟩, fun i σ' H' ⟨_, Ki, vs, c, s⟩ => s.trans c.i,
    fun i d σ' H' v K4 H4 hd ⟨hs, Ki, vs, c, s⟩ x4 r => by
      have x5 : Xt Ki H' (uni Ki K4) H4 := Xt.lift s c.i x4
      exact step i d σ' (uni Ki K4) vs H4 v hd hs (c.ext x5) ((x2.s.trans s).trans x5.s) (R.mono (uni_r (c.i.trans x4.k) x4.i) r) _ fun σ2 Ki2 vs2 H2 h1 h2 h3 => ⟨h1, Ki2, vs2, h2, (s.trans x5.s).trans h3⟩,
    fun σ' H' ⟨hs, Ki, vs, c, s⟩ => done σ' Ki vs H' hs c (x2.s.trans s)⟩
theorem q_forC {xs : List α} {Y : Nat → List β} (Sg : L2.St → Prop) (hw : Wk wi σ Ka R xs) (c0 : Ci Hm H f S (Y 0) Ka vs0 Hx) (hσ : Sg σ)
    (step : ∀ i d σ' Ki vs H' v, xs[i]? = some d → Sg σ' → Ci Hm H f S (Y i) Ki vs H' → Same Ka Ki → R.rel Ki v d → ∀ N : L2.St → Hp → Prop, (∀ σ2 Ki2 vs2 H2, Sg σ2 → Ci Hm H f S (Y (i + 1)) Ki2 vs2 H2 → Same Ki Ki2 → N σ2 H2) → g v σ' H' fun σ2 H5 => t1 { D with nx := N, ct := N, bk := tz D } σ2 H5)
    (done : ∀ σ' Ki vs H', Sg σ' → Ci Hm H f S (Y xs.length) Ki vs H' → Same Ka Ki → tz D σ' H') : tSeq (tFor wi g t1) tz D σ Hx := s_forC (D := { D with nx := tz D }) Sg hw c0 hσ step done
/-- found.append(e) -/
theorem s_appC {i : Nat} {te : TE} {d : β} (hv : σ[i]? = some (some (.ref f))) (c : Ci Hm H f S ys Ki vs Hx) (hf : H f = none) (h : Ev te σ Ki S d) (hz : ys.length < 16000000) {K : PySem.W.Frag}
    (k : ∀ K1 vs1 H1, Ci Hm H f S (ys ++ [d]) K1 vs1 H1 → Same Ki K1 → D.nx σ H1) : tDrop (tBM K "list" rAppend (tVar i) (tCons te tNil)) D σ Hx :=
  s_app hv c.at_ h c.i (by rw [c.len]; exact hz) fun v K1 H1 x r => k K1 _ _ ((c.ext x).app hf r) x.s
/-- a, b = x, y -/
theorem s_par {i j : Nat} {ta : TA} {a : α} {b : β} (h : Ea ta σ Hm (a1 R a (a1 S b a0))) (hi : Same Hm H) (k : ∀ v u K1 H1, Xt Hm H K1 H1 → R.rel K1 v a → S.rel K1 u b → D.nx ((σ.set i (some v)).set j (some u)) H1) : tPar i j ta D σ H :=
  h H hi _ fun vs K1 H1 x ⟨v, ws, e1, r1, u, ws2, e2, r2, e3⟩ => ⟨v, u, by rw [e1, e2, show ws2 = [] from e3], k v u K1 H1 x r1 r2⟩
theorem q_par {i j : Nat} {ta : TA} {a : α} {b : β} (h : Ea ta σ Hm (a1 R a (a1 S b a0))) (hi : Same Hm H) (k : ∀ v u K1 H1, Xt Hm H K1 H1 → R.rel K1 v a → S.rel K1 u b → tz D ((σ.set i (some v)).set j (some u)) H1) : tSeq (tPar i j ta) tz D σ H := s_par (D := { D with nx := tz D }) h hi k
end
/-! ### code that is not reached -/
theorem pss_dead {X : Cx} {b : List Stmt} : PSs X b (fun _ _ _ => False) := ⟨fun _ _ _ _ _ _ h => h.elim⟩
end NJ

set_option Elab.async false
set_option linter.all false
set_option maxRecDepth 100000
set_option maxHeartbeats 4000000
/-! Ranges of a number that is known up to a property; join. -/
namespace NJ
open PySem PySem.Spec PyProof.Rows L2
section
variable {Hm H H' H2 K2 Ki : Hp} {f : Addr} {α β γ : Type} {R : Rp α} {S : Rp β} {T : Rp γ} {ys : List β} {vs : List V} {σ : L2.St} {D : Ends} {t1 tz : TS} {g : TG} {te ta tb : TE} {P : Int → Prop} {d : α} {z : γ} {Pb : β → Prop} {K : PySem.W.Frag}
theorem Ci.keep {H6 : Hp} (c : Ci Hm H f S ys Ki vs H') (k : Same H' H6) : Ci Hm H f S ys Ki vs H6 := ⟨c.s, c.i.trans k, c.k.trans k, c.f, c.n, k _ _ c.at_, c.r⟩
theorem s_rngE (h : Ev te σ Hm (rE rI P) ()) (hi : Same Hm H) (k : ∀ n K1 H1, P n → Xt Hm H K1 H1 → tFor (iRng1 (tCons (tC (.int n)) tNil)) g t1 D σ H1) : tFor (iRng1 (tCons te tNil)) g t1 D σ H := h H hi _ fun v K1 H1 x ⟨n, r, p⟩ => by
  cases r
  exact k n K1 H1 p x
theorem q_rngE (h : Ev te σ Hm (rE rI P) ()) (hi : Same Hm H) (k : ∀ n K1 H1, P n → Xt Hm H K1 H1 → tSeq (tFor (iRng1 (tCons (tC (.int n)) tNil)) g t1) tz D σ H1) : tSeq (tFor (iRng1 (tCons te tNil)) g t1) tz D σ H := s_rngE (D := { D with nx := tz D }) h hi k
theorem wk_rngC {n : Int} (h0 : n < 2 ^ 62) (h1 : -(2 ^ 62) ≤ n) : Wk (iRng1 (tCons (tC (.int n)) tNil)) σ Hm rI (nums n.toNat) := wk_rng (ea_cons ev_i ea_nil) h0 h1
end
/-! ### tests whose answer is known up to a property -/
def En (tt : TT) (σ : L2.St) (Hm : Hp) (P : Bool → Prop) : Prop := ∀ H1, Same Hm H1 → ∀ Q : Bool → Hp → Prop, (∀ b Hm' H2, Xt Hm H1 Hm' H2 → P b → Q b H2) → tt σ H1 Q
section
variable {σ : L2.St} {Hm H : Hp} {t u : TT} {te : TE} {a : Bool} {P P2 : Bool → Prop} {D : Ends} {t1 t2 tz : TS}
theorem en_test (h : Ev te σ Hm (rE rB P) ()) : En (tTest te) σ Hm P := fun H1 hi _ q => h H1 hi _ fun v K2 H2 x2 ⟨b, r, p⟩ => ⟨b, r, q b K2 H2 x2 p⟩
theorem En.mono {Hm' : Hp} (s : Same Hm Hm') (h : En t σ Hm P) : En t σ Hm' P := fun H1 hi Q q => h H1 (s.trans hi) Q fun b H3 H2 x => q b _ H2 (Xt.lift s hi x)
theorem s_ifN (h : En t σ Hm P) (hi : Same Hm H) (h1 : P true → ∀ K1 H1, Xt Hm H K1 H1 → t1 D σ H1) (h2 : P false → ∀ K1 H1, Xt Hm H K1 H1 → t2 D σ H1) : tIfS t t1 t2 D σ H := h H hi _ fun b K1 H1 x p => by
  cases b with
  | true => exact iteT (h1 p K1 H1 x)
  | false => exact iteF (h2 p K1 H1 x)
theorem q_whenN (h : En t σ Hm P) (hi : Same Hm H) (h1 : P true → ∀ K1 H1, Xt Hm H K1 H1 → t1 { D with nx := tz D } σ H1) (h2 : P false → ∀ K1 H1, Xt Hm H K1 H1 → tz D σ H1) : tSeq (tIfS t t1 tNext) tz D σ H := s_ifN (D := { D with nx := tz D }) h hi h1 h2
end
/-! ### join -/
section
variable {σ : L2.St} {Hm : Hp} {ta te : TE} {K : PySem.W.Frag} {l : T8} {us : List Unit}
end
end NJ

set_option Elab.async false
set_option linter.all false
set_option maxRecDepth 100000
set_option maxHeartbeats 4000000
/-! Stores into lists and dicts, displays. -/
namespace NJ
open PySem PySem.Spec PyProof.Rows L2
section
variable {X : Cx}
/-- xs[i], to be written again -/
def gGet (K : PySem.W.Frag) : V → V → Hp → VK → Prop := fun o i H Q => ∃ (p : Addr) (xs : List V) (j : Nat) (v : V), o = .ref p ∧ i = .int (j : Int) ∧ SqL K H p xs ∧ xs[j]? = some v ∧ Q v H
theorem get_lst : PGet X (gGet X.K) := by
  intro pins s σ H o i ov iv Q I ro ri h
  obtain ⟨p, xs, j, v, rfl, rfl, hS, hv, q⟩ := h
  cases ro
  obtain ⟨t, rfl⟩ := ri
  obtain ⟨its, rv, hl, hz⟩ := I.list hS
  obtain ⟨u, h1, h2⟩ := rv.get hv
  have hj : j < xs.length := (List.getElem?_eq_some_iff.mp hv).1
  refine wpAny_getItem_list hl.isList (by omega) ?_ (x := u) (by simpa using h1) ⟨v, H, I, h2, q⟩
  rw [sizeLine_eq] at hz
  omega
theorem ip_or : PIp X .BitOr (rI0 fun i j => .int (Builtin.bitOr i j)) := iop_or
end
section
variable {σ : L2.St} {Hm H : Hp} {K : PySem.W.Frag} {α β : Type} {R : Rp α} {te : TE} {tz : TS} {D : Ends} {i : Nat}
/-- name = {} -/
theorem q_newD (q : ∀ f, H f = none → tz D (σ.set i (some (.ref f))) (upd H f (.dK []))) : tSeq (tAsg tDNewK (gName i)) tz D σ H := fun f hf => q f hf
/-- begin, letter, end = thing -/
theorem q_tup3 {x y z : V} {i j k : Nat} (h : Ev te σ Hm (rT K rV) [x, y, z]) (hi : Same Hm H) (q : ∀ K1 H1, Xt Hm H K1 H1 → tz D (((σ.set i (some x)).set j (some y)).set k (some z)) H1) : tSeq (tAsg te (gTup K 3 (gCons (gName i) (gCons (gName j) (gCons (gName k) gNil))))) tz D σ H :=
  h H hi _ fun v K1 H1 x1 ⟨a, vs, e, hS, hP⟩ => ⟨a, [x, y, z], e, by
    have e2 : vs = [x, y, z] := by
      cases hP with
      | cons a1 hP =>
        cases hP with
        | cons a2 hP =>
          cases hP with
          | cons a3 hP =>
            cases hP
            rw [show _ = x from a1, show _ = y from a2, show _ = z from a3]
    rw [← e2]
    exact seqT_mono x1.i hS, rfl, x, [y, z], rfl, y, [z], rfl, z, [], rfl, rfl, q K1 H1 x1⟩
theorem tk_3 {i j k : Nat} {v x y z : V} {Hk : Hp} (h : (rT K rV).rel Hk v [x, y, z]) : Tk (gTup K 3 (gCons (gName i) (gCons (gName j) (gCons (gName k) gNil)))) σ Hk v (((σ.set i (some x)).set j (some y)).set k (some z)) := by
  obtain ⟨a, vs, e, hS, hP⟩ := h
  have e2 : vs = [x, y, z] := by
    cases hP with
    | cons a1 hP =>
      cases hP with
      | cons a2 hP =>
        cases hP with
        | cons a3 hP =>
          cases hP
          rw [show _ = x from a1, show _ = y from a2, show _ = z from a3]
  subst e2
  exact fun H3 s Q q => ⟨a, _, e, seqT_mono s hS, rfl, x, [y, z], rfl, y, [z], rfl, z, [], rfl, rfl, q⟩
end
end NJ

set_option Elab.async false
set_option linter.all false
set_option maxRecDepth 100000
set_option maxHeartbeats 4000000
/-! name = {k: v for ..}, stored in the comprehension's own block. -/
namespace NJ
open PySem PySem.Spec PyProof.Rows L2
section
variable {X : Cx}
theorem ps_setDc {i : Nat} {y : Str} {py : Pos} {kx vx tg iter : Expr} {ifs : List Expr} {scope : Scope} {own : List (Str × Nat)} {pos spos : Pos} {wi : TI} {g : TG} {tt : TT} {tk tv : TE} (hc : X.calm = true) (hN : X.N.Nodup) (hy : X.N[i]? = some y) (hyl : X.env.scope.names.lookup y = some .local)
    (hsw : swapsWith (.DictComp kx vx [⟨tg, iter, ifs, 0⟩] scope pos) (some (.Name y py)) spos.line X.env = pure true) (hi : PI X tg iter wi) (ok : BlkOk X.N X.env.scope scope own)
    (hg : ∀ (s : Shared) (H : Hp) (C : Addr) (cl : List (Str × Addr)) (fp : List Addr), PG (X.blk s H scope (compEnvC scope cl C X.env) fp) tg g) (ht : ∀ (s : Shared) (H : Hp) (C : Addr) (cl : List (Str × Addr)) (fp : List Addr), PTs (X.blk s H scope (compEnvC scope cl C X.env) fp) ifs tt)
    (hk : ∀ (s : Shared) (H : Hp) (C : Addr) (cl : List (Str × Addr)) (fp : List Addr), PE (X.blk s H scope (compEnvC scope cl C X.env) fp) kx tk)
    (he : ∀ (s : Shared) (H : Hp) (C : Addr) (cl : List (Str × Addr)) (fp : List Addr), PE (X.blk s H scope (compEnvC scope cl C X.env) fp) vx tv) (hs : ∀ x, foldedSetIterable iter X.env x = pure x := by intro _; rfl) :
    PS X (.Assign [.Name y py] (.DictComp kx vx [⟨tg, iter, ifs, 0⟩] scope pos) spos) (tAsg (tDc wi g tt tk tv (own.map (·.2))) (gName i)) := by
  refine ⟨fun pins s σ H D I h => ?_⟩
  rw [exec_Assign_Name_used _ _ _ _ hsw]
  refine wpAny_bind (wpAny_standAt (wpAny_bind ?_))
  show wpAny _ X.A (do let _ ← comprehension (.DictComp kx vx [⟨tg, iter, ifs, 0⟩] scope pos) scope X.env (firstIterPos [⟨tg, iter, ifs, 0⟩] pos) newDict false (eval iter X.env) (some (assign (.Name y py) X.env))) _ _ s
  have h2 : tDc wi g tt tk tv (own.map (·.2)) σ H (fun x H1 => gName i x σ H1 D.nx) := h
  refine wpAny_bind (thn (dc_core (Qf := fun _ s' => SP X pins D .next s') hc hN I hi ok hg ht hk he hs h2 fun Dd C s' m H' I' q hn f => ?_) fun _ s' hq => wpAny_pure (wpAny_pure hq))
  show wpAny _ _ (assign (.Name y py) X.env (.ref Dd)) _ _ _
  refine wpAny_assign_Name (store_ok2 (v := V.ref Dd) I' hN hy (.inl hyl) rfl (fun s2 I2 ⟨a, sb, ha⟩ => ?_) (.inr hyl))
  obtain ⟨f0, f1, f2, f3, f4, f5⟩ := f
  have haC : C ≠ a := by
    rcases ha with z | z
    · rw [z]
      exact f1
    · exact fun e => f4 y a z e.symm
  refine ⟨m, hn.sameBut sb haC, fun h3 sb3 => ⟨_, H', I2.turned (t' := s2.toks) (fun b o hb e => (sb3.2 b hb).trans e) f0 f1 f3 f4 f5, q⟩⟩
theorem sw_dc {kx vx : Expr} {gs : List Comprehension} {scope : Scope} {pos py : Pos} {y : Str} {l : Nat} {env : Env} (hk : env.scope.kind = .function) (hy : env.scope.names.lookup y = some .local) (hl : (py.line == pos.line) = true)
    (ha : (scope.names.any fun (n, k) => n == y && (k == .local || k == .cell)) = false) : swapsWith (.DictComp kx vx gs scope pos) (some (.Name y py)) l env = pure true := by
  have ky : env.kindOf y = some .local := hy
  have hb : env.blockKind = .function := by
    unfold Env.blockKind
    rw [hk] <;> rfl
  unfold swapsWith
  simp only [hb, ky, ha, Expr.pos, hl]
  rfl
end
end NJ

set_option Elab.async false
set_option linter.all false
set_option maxRecDepth 100000
set_option maxHeartbeats 4000000
/-! A comprehension's list as one's own, its address new. -/
namespace NJ
open PySem PySem.Spec PyProof.Rows L2
section
variable {σ : L2.St} {Hm : Hp} {α β : Type} {R : Rp α} {S : Rp β} {te : TE} {tt : TT}
theorem lc_own {wi : TI} {g : TG} {vs : List Nat} {xs : List α} (f : α → Bool) (m : α → β) (hw : Wk wi σ Hm R xs) (hn : xs.length ≤ 16000000)
    (hb : ∀ d, d ∈ xs → ∀ v K3, Same Hm K3 → R.rel K3 v d → ∃ σ2, Tk g (wipe σ vs) K3 v σ2 ∧ wipe σ2 vs = wipe σ vs ∧ Et tt σ2 K3 (f d) ∧ (f d = true → Ev te σ2 K3 S (m d))) :
    ∀ H1, Same Hm H1 → ∀ Q : VK, (∀ D K2 H2 Ki us H', Xt Hm H1 K2 H2 → H2 D = none → Ci K2 H2 D S ((xs.filter f).map m) Ki us H' → Q (.ref D) H') → tLc wi g tt te vs σ H1 Q := fun H1 hi Q q => hw H1 hi _ fun J K2 H2 x2 hJ D hD => by
  have hKD : K2 D = none := none_back x2.i hD
  refine ⟨fun i mm H' => i + mm = xs.length ∧ ∃ Ki us, Ci K2 H2 D S (((xs.take i).filter f).map m) Ki us H', ⟨xs.length, by omega, K2, [], Same.refl _, same_mut x2.i hKD, same_mut (Same.refl _) hD, fun _ h => .inl h, hKD, upd_same, .nil⟩, ?_⟩
  rintro i mm H' ⟨em, Ki, us, c⟩
  obtain ⟨go, stop, yld⟩ := hJ i H' (c.s.trans c.i)
  have hul : us.length ≤ i := by
    rw [paired_len c.r, List.length_map]
    refine Nat.le_trans (List.length_filter_le _ _) ?_
    rw [List.length_take]
    exact Nat.min_le_left _ _
  by_cases hlt : i < xs.length
  · refine .inr ⟨go hlt, fun H'' => ∃ Ki us, Ci K2 H2 D S (((xs.take (i + 1)).filter f).map m) Ki us H'', fun H'' ⟨Ki2, us2, c2⟩ => ⟨mm - 1, by omega, by omega, Ki2, us2, c2⟩, fun v H4 hy => ?_⟩
    obtain ⟨d, K4, ed, x4, rv⟩ := yld hlt v H4 hy
    have x5 : Xt Ki H' (uni Ki K4) H4 := Xt.lift c.s c.i x4
    obtain ⟨σ2, htk, hwp, het, hev⟩ := hb d (List.mem_of_getElem? ed) v (uni Ki K4) ((x2.s.trans c.s).trans x5.s) (R.mono (uni_r (c.i.trans x4.k) x4.i) rv)
    refine htk H4 x5.i _ ⟨hwp, het H4 x5.i _ fun K6 H6 x6 => ?_⟩
    have y6 := x5.trans x6
    cases hf : f d with
    | true =>
      refine iteT ((hev hf).mono x6.s H6 x6.i _ fun y K7 H7 x7 ry => ?_)
      have y7 := y6.trans x7
      have hK7 : K7 D = none := none_of y7 c.n c.at_
      refine ⟨us, y7.k D _ c.at_, Nat.lt_of_le_of_lt hul (Nat.lt_of_lt_of_le hlt (Nat.le_trans hn (by rw [sizeLine_eq]; decide))), K7, us ++ [y], c.s.trans y7.s, same_mut y7.i hK7, fun b o e => ?_, fun p h => ?_, hK7, upd_same, ?_⟩
      · rw [upd_ne (ne_of_none e hD)]
        exact y7.k b o (c.k b o e)
      · rcases y7.f p h with z | z
        · exact c.f p z
        · exact .inr (none_back c.k z)
      · rw [filter_yes ed hf, List.map_append]
        exact paired_app (paired_mono S y7.s c.r) (.cons ry .nil)
    | false =>
      refine iteF ⟨K6, us, c.s.trans y6.s, y6.i, c.k.trans y6.k, fun p h => ?_, none_of y6 c.n c.at_, y6.k D _ c.at_, ?_⟩
      · rcases y6.f p h with z | z
        · exact c.f p z
        · exact .inr (none_back c.k z)
      · rw [filter_no ed hf]
        exact paired_mono S y6.s c.r
  · have hr := c
    rw [List.take_of_length_le (by omega)] at hr
    exact .inl ⟨stop (by omega), q D K2 H2 Ki us H' x2 hD hr⟩
end
end NJ

set_option Elab.async false
set_option linter.all false
set_option maxRecDepth 100000
set_option maxHeartbeats 8000000
/-! Sets of tuples of ints and texts: made of a list, sorted. -/
namespace NJ
open PySem PySem.Spec PyProof.Rows L2
/-- what such a tuple is known by -/
abbrev MKey := List Key
abbrev mHs (P : Program) (w : World) (k : MKey) : Int := tupleKeyHash (mixKind P w) k
section
variable {P : Program} {w : World} {A : Around} {E : Value → Shared → Prop} {s : Shared}
/-! ### what stands in such a set -/
def mRow (P : Program) (w : World) (q : Addr × MKey) : Int × Value := (mHs P w q.2, .ref q.1)
/-- the table, without what its tuples are -/
structure Mtab (P : Program) (w : World) (h : Heap) (a : Addr) (L : List (Addr × MKey)) (es : Array (Int × Value)) (t : SetTable) : Prop where
  ob : ∃ o ep, h.get? a = some o ∧ o.ExactSet ∧ o.data = .set es ep t
  rw_ : es.toList = L.map (mRow P w)
  tb : TabOk t (L.map fun q => mHs P w q.2)
  nd : (L.map (·.2)).Nodup
  ld : w.params.followText "set-order" = true ∨ t.led = true
  rm : L.length * 5 < t.mask * 3
  fw : L.length < 64
variable {a : Addr} {L : List (Addr × MKey)} {es : Array (Int × Value)} {t : SetTable}
theorem rows_len (h : es.toList = L.map (mRow P w)) : es.size = L.length := by
  rw [← Array.length_toList, h, List.length_map]
theorem fits_of {t : SetTable} {n : Nat} (hs : t.place.size = n) (hd : t.dummies = #[]) (hm : n ≤ t.mask) : t.fits n = true := by
  unfold SetTable.fits SetTable.fill
  rw [hd, Bool.and_eq_true, beq_iff_eq, decide_eq_true_eq]
  show t.place.size = n ∧ t.place.size + 0 ≤ t.mask
  omega
theorem Mtab.sz (R : Mtab P w s.heap a L es t) : t.place.size = L.length := by rw [R.tb.sz, List.length_map]
theorem Mtab.fits (R : Mtab P w s.heap a L es t) : t.fits es.size = true := by
  have h1 := R.sz
  have h2 := rows_len R.rw_
  have h3 := R.rm
  exact fits_of (by omega) R.tb.dm (by omega)
theorem Mtab.keep {h h' : Heap} (R : Mtab P w h a L es t) (k : ∀ o, h.get? a = some o → h'.get? a = some o) : Mtab P w h' a L es t := by
  obtain ⟨o, ep, ho, r⟩ := R.ob
  exact ⟨⟨o, ep, k o ho, r⟩, R.rw_, R.tb, R.nd, R.ld, R.rm, R.fw⟩
/-! ### one more -/
end
end NJ

set_option Elab.async false
set_option linter.all false
set_option maxRecDepth 100000
set_option maxHeartbeats 8000000
/-! set(list of tuples of ints and texts), sorted of it; arrows. -/
namespace NJ
open PySem PySem.Spec PyProof.Rows L2
open PySem.W (EachIs AllAlike Sortable dataLe dataLe_eq)
section
variable {P : Program} {w : World} {A : Around} {E : Value → Shared → Prop} {s : Shared}
/-- what of the first i items is in the set -/
structure Mgot (ks : List (Addr × MKey)) (i : Nat) (L : List (Addr × MKey)) : Prop where
  sub : ∀ p ∈ L, p ∈ ks.take i
  all : ∀ p ∈ ks.take i, p.2 ∈ L.map (·.2)
  few : L.length ≤ i
theorem Mgot.next {ks L L' : List (Addr × MKey)} {i : Nat} {x : Addr × MKey} (g : Mgot ks i L) (h : ks[i]? = some x) (c : x.2 ∈ L.map (·.2) ∧ L' = L ∨ x.2 ∉ L.map (·.2) ∧ L'.Perm (x :: L)) : Mgot ks (i + 1) L' := by
  have et : ks.take (i + 1) = ks.take i ++ [x] := by rw [List.take_add_one, h] <;> rfl
  rcases c with ⟨c, rfl⟩ | ⟨c, pm⟩
  · exact ⟨fun p hp => by rw [et]; exact List.mem_append_left _ (g.sub p hp), fun p hp => by
      rw [et, List.mem_append, List.mem_singleton] at hp
      rcases hp with hp | rfl
      · exact g.all p hp
      · exact c, Nat.le_succ_of_le g.few⟩
  · refine ⟨fun p hp => ?_, fun p hp => ?_, by rw [pm.length_eq, List.length_cons]; exact Nat.succ_le_succ g.few⟩
    · rw [et, List.mem_append, List.mem_singleton]
      rcases List.mem_cons.mp (pm.mem_iff.mp hp) with e | hp
      · exact .inr e
      · exact .inl (g.sub p hp)
    · rw [(pm.map (·.2)).mem_iff, List.map_cons, List.mem_cons]
      rw [et, List.mem_append, List.mem_singleton] at hp
      rcases hp with hp | rfl
      · exact .inr (g.all p hp)
      · exact .inl rfl
set_option maxHeartbeats 16000000 in
end
end NJ

set_option Elab.async false
set_option linter.all false
set_option maxRecDepth 100000
set_option maxHeartbeats 1000000
/-! Sorted of such a set; the rules. -/
namespace NJ
open PySem PySem.Spec PyProof.Rows L2
open PySem.W (EachIs AllAlike Sortable dataLe dataLe_eq)
section
variable {P : Program} {w : World} {A : Around} {E : Value → Shared → Prop} {s : Shared}
/-! ### what it reads as -/
end
/-! ### rules -/
section
variable {X : Cx}
end
end NJ

set_option Elab.async false
set_option linter.all false
set_option maxRecDepth 100000
set_option maxHeartbeats 4000000
/-! Arrows: tuples (int, text, int), their order. -/
namespace NJ
open PySem PySem.Spec PyProof.Rows L2
open PySem.W (alike dataLt dataLt_str dataLt_int dataLt_cons dataLt_tuple lt_data keyToksAll)
abbrev Arw := Int × T8 × Int
def arV (t : Arw) : List V := [.int t.1, .str (tx t.2.1), .int t.2.2]
def dA (t : Arw) : PyData := .tuple [.int t.1, .str (tx t.2.1), .int t.2.2]
def ltA (p q : Arw) : Bool := decide (p.1 < q.1) || (decide (p.1 = q.1) && (decide (p.2.1 < q.2.1) || (decide (p.2.1 = q.2.1) && decide (p.2.2 < q.2.2))))
theorem eqv_int (a b : Int) : PyData.eqv (.int a) (.int b) = decide (a = b) := by
  by_cases h : a = b
  · subst h
    simp [PyData.eqv]
  · simp [PyData.eqv, h]
theorem dataLt_dA (p q : Arw) : dataLt (dA p) (dA q) = ltA p q := by
  obtain ⟨a, b, c⟩ := p
  obtain ⟨a', b', c'⟩ := q
  have e : lexLt itemOrd (keyToksAll []) (keyToksAll []) = false := lex_irrefl _
  unfold dA ltA
  rw [dataLt_tuple, dataLt_cons (by simp [alike]), dataLt_cons (by simp [alike]), dataLt_cons (by simp [alike]), e, dataLt_int, dataLt_int, dataLt_str, eqv_int, eqv_int, eqv_str]
  simp only [tx_cps]
  by_cases h1 : a = a'
  · subst h1
    by_cases h2 : b = b'
    · subst h2
      by_cases h3 : c = c'
      · subst h3
        simp [List.lt_irrefl]
      · simp [h3, List.lt_irrefl]
    · simp [h2]
  · simp [h1]
section
variable {X : Cx}
/-- x < y, of data -/
def rLtD (K : PySem.W.Frag) : R2 := fun x y H Q => ∃ d e, Dp K H x d ∧ Dp K H y e ∧ alike d e = true ∧ d ≠ .none ∧ d.depth ≤ 64 ∧ Q (.bl (dataLt d e)) H
theorem op_ltD (hu : X.A.units + 64 < cLine) : OpR X (compareOp .Lt) (rLtD X.K) := by
  intro pins s σ H x y v u Q I rx ry h
  obtain ⟨d, e, hd, he, ha, hn, hz, q⟩ := h
  obtain ⟨as, r1⟩ := Dp.reads I d x v hd rx
  obtain ⟨bs, r2⟩ := Dp.reads I e y u he ry
  exact lt_data r1 r2 ha hn (by omega) ⟨.bl (dataLt d e), H, I, rfl, q⟩
end
section
variable {σ : L2.St} {Hm : Hp} {K : PySem.W.Frag}
theorem dp_arr {H : Hp} {v : V} {t : Arw} (h : (rT K rV).rel H v (arV t)) : Dp K H v (dA t) := by
  obtain ⟨a, vs, rfl, hS, hP⟩ := h
  have e2 : vs = arV t := by
    unfold arV at hP ⊢
    cases hP with
    | cons a1 hP =>
      cases hP with
      | cons a2 hP =>
        cases hP with
        | cons a3 hP =>
          cases hP
          rw [show _ = V.int t.1 from a1, show _ = V.str (tx t.2.1) from a2, show _ = V.int t.2.2 from a3]
  subst e2
  exact .tup hS (.cons (.int _) (.cons (.str _) (.cons (.int _) .nil)))
theorem rv_ltA {p q : Arw} : Rv (rLtD K) (rT K rV) (arV p) (rT K rV) (arV q) rB (ltA p q) := rv_now fun Hm H1 hi x y rx ry => ⟨.bl (ltA p q), rfl, fun Q k => ⟨dA p, dA q, dp_arr ((rT K rV).mono hi rx), dp_arr ((rT K rV).mono hi ry), by simp [alike, dA, PySem.W.alikeAll], by unfold dA; simp, by show max 0 (max 0 (max 0 0)) + 1 ≤ 64; decide, by rw [dataLt_dA]; exact k⟩⟩
end
/-! ### a list of arrows in order -/
def ascA (ar : List Arw) : Bool := ((ar.zip (ar.drop 1)).map fun p => ltA p.1 p.2).all id
end NJ

set_option Elab.async false
set_option linter.all false
set_option maxRecDepth 100000
set_option maxHeartbeats 2000000
/-! What serves every law: lengths of arguments, kinds, what is new. -/
namespace NJ
open PySem PySem.Spec PyProof.Rows L2
theorem a1_len {α : Type} {R : Rp α} {d : α} {A : Ar} {n : Nat} (h : ∀ H vs, A.rel H vs → vs.length = n) : ∀ H vs, (a1 R d A).rel H vs → vs.length = n + 1 := fun H vs ⟨v, ws, e, _, k⟩ => by
  rw [e, List.length_cons, h H ws k]
theorem a0_len : ∀ H vs, a0.rel H vs → vs.length = 0 := fun H vs h => by
  rw [show vs = [] from h] <;> rfl
theorem spf_len {ι β : Type} {A : ι → Ar} {pre : ι → Prop} {R : ι → Rp β} {m : ι → β} {n : Nat} (h : ∀ x H vs, (A x).rel H vs → vs.length = n) : ∀ vs H Q E, SpF A pre R m vs H Q E → vs.length = n := fun vs H Q E ⟨x, Hm, _, k, _⟩ => h x Hm vs k
theorem hu100 {A : Around} {k : Nat} (hr : Room k A) : A.units + 100 < cLine := by
  have := hr.un
  omega
def inR (m : Int) (r : Int) : Prop := 0 ≤ r ∧ r < m
def pairedI : ∀ {H : Hp} (cs : List Int), Paired (rI.rel H) (cs.map V.int) cs
  | _, [] => .nil
  | _, x :: xs => .cons rfl (pairedI xs)
theorem ev_hc.pairedI {H : Hp} (cs : List Int) : Paired (rI.rel H) (cs.map V.int) cs := NJ.pairedI cs
theorem cmul_r {i j : Int} (h : -(2 ^ 64) < j) (g : j < 2 ^ 64) : CMul i j := .inr ⟨h, g⟩
theorem cmul_l {i j : Int} (h : -(2 ^ 64) < i) (g : i < 2 ^ 64) : CMul i j := .inl ⟨h, g⟩
def nw (Hm H H' : Hp) : Hp := fun p => match H p with
  | none => H' p
  | some _ => Hm p
theorem nw_new {Hm H H' : Hp} {p : Addr} (h : H p = none) : nw Hm H H' p = H' p := by
  unfold nw
  rw [h]
theorem xt_nw {Hm H H' : Hp} (hi : Same Hm H) (k : Same H H') : Xt Hm H (nw Hm H H') H' := ⟨fun b o e => by
  unfold nw
  rw [hi b o e]
  exact e, fun b o e => by
  unfold nw at e
  cases q : H b with
  | none =>
    rw [q] at e
    exact e
  | some u =>
    rw [q] at e
    exact k b o (hi b o e), k, fun p h => by
  unfold nw at h
  cases q : H p with
  | none => exact .inr rfl
  | some u =>
    rw [q] at h
    exact .inl h⟩
theorem put_new {H H' : Hp} {a : Addr} {o : HO} (k : Same H H') (h : H a = none) : Same H (upd H' a o) := fun b u e => by
  rw [upd_ne (ne_of_none e h)]
  exact k b u e
theorem putF_len (f : Str) (v : V) (fs : List (Str × V)) : (putF f v fs).length ≤ fs.length + 1 := length_putF f v fs
abbrev rIsN : R2 := fun x y H Q => y = .non ∧ Q (.bl (decide (x = .non))) H
abbrev rNotN : R2 := fun x y H Q => y = .non ∧ Q (.bl (!decide (x = .non))) H
theorem rv_notN {v : V} : Rv rNotN rV v rN () rB (!decide (v = .non)) := rv_now fun Hm H1 _ x y rx ry => ⟨_, rfl, fun Q q => ⟨ry, by rw [show x = v from rx]; exact q⟩⟩
theorem rv_isN {v : V} : Rv rIsN rV v rN () rB (decide (v = .non)) := rv_now fun Hm H1 _ x y rx ry => ⟨_, rfl, fun Q q => ⟨ry, by rw [show x = v from rx]; exact q⟩⟩
def Bt (x : Addr) (H H' : Hp) : Prop := ∀ b o, b ≠ x → H b = some o → H' b = some o
theorem Bt.put {x : Addr} {H H' H2 : Hp} {o : HO} (h : Bt x H H') (s : Same H' H2) : Bt x H (upd H2 x o) := fun b u n e => by
  rw [upd_ne n]
  exact s _ _ (h b u n e)
theorem Bt.same {x : Addr} {Hm H H' : Hp} (h : Bt x H H') (hi : Same Hm H) (n : Hm x = none) : Same Hm H' := fun b o e => h b o (ne_of_none e n) (hi b o e)
section
variable {K : PySem.W.Frag}
abbrev CW (K : PySem.W.Frag) : Addr := He.ga K "Web"
theorem ev_ty {σ : L2.St} {Hm : Hp} {n : String} : Ev (tC (.ty n)) σ Hm rV (.ty n) := ev_c fun _ => rfl
theorem ev_isi {σ : L2.St} {Hm : Hp} {te : TE} {t : Value} {c : String} {b : Bool} (h : Ev te σ Hm (rTy K) t) (k : PySem.W.kitOne K t (.type c) = some b) : Ev (tCB (rIsi K) (tCons te (tCons (tC (.ty c)) tNil))) σ Hm rB b := ev_cb (ea_cons h (ea_cons ev_ty ea_nil)) (rc_isi k)
theorem ty_int {Hm : Hp} {v : V} {i : Int} (h : rI.rel Hm v i) : (rTy K).rel Hm v (.type "int") := by
  rw [show v = V.int i from h]
  exact .base (.int i)
theorem kit_int_int : PySem.W.kitOne K (.type "int") (.type "int") = some true := kit_ty (by decide +kernel)
theorem kit_int_bool : PySem.W.kitOne K (.type "int") (.type "bool") = some false := kit_ty (by decide +kernel)
theorem ev_chain {σ : L2.St} {Hm : Hp} {r r' : R2} {ta tb tc : TE} {α β γ : Type} {R : Rp α} {S : Rp β} {U : Rp γ} {x : α} {y : β} {z : γ} {a b : Bool} (ha : Ev ta σ Hm R x) (hb : Ev tb σ Hm S y) (hc : Ev tc σ Hm U z) (h1 : Rv r R x S y rB a) (h2 : Rv r' S y U z rB b) :
    Ev (tChain r r' ta tb tc) σ Hm rB (a && b) := fun H1 hi Q q =>
  ha H1 hi _ fun v K2 H2 x2 rv => hb.mono x2.s H2 x2.i _ fun u K3 H3 x3 ru => h1 K3 H3 x3.i v u (R.mono x3.s rv) ru _ fun c K4 H4 x4 rc => ⟨a, rc, by
    have x24 := (x2.trans x3).trans x4
    cases a with
    | true => exact iteT (hc.mono x24.s H4 x24.i _ fun t K5 H5 x5 rt => h2 K5 H5 x5.i u t (S.mono (x4.trans x5).s ru) rt Q fun o K6 H6 x6 ro => q o K6 H6 ((x24.trans x5).trans x6) ro)
    | false => exact iteF (q _ K4 H4 x24 rfl)⟩
def rTh (K : PySem.W.Frag) : Rp (Option (List Nat)) := ⟨fun H v o => (match o with | some l => v = .str (tx l) | none => ∃ t, TyX K H v t ∧ PySem.W.kitOne K t (.type "str") = some false), fun {H H' v d} s h => by
  cases d with
  | none =>
    obtain ⟨t, a, b⟩ := h
    exact ⟨t, tyx_mono s a, b⟩
  | some l => exact h⟩
def lower (c : Nat) : Bool := decide (97 ≤ c) && decide (c ≤ 122)
def isTx (o : Option (List Nat)) : Bool := match o with
  | some l => l.all lower
  | none => false
def okTh (o : Option (List Nat)) : Prop := match o with
  | some l => l.length ≤ 16000000
  | none => True
theorem th_ty {H : Hp} {v : V} {o : Option (List Nat)} (h : (rTh K).rel H v o) : ∃ t, (rTy K).rel H v t ∧ PySem.W.kitOne K t (.type "str") = some o.isSome := by
  cases o with
  | none => exact h
  | some l => exact ⟨.type "str", by rw [show v = V.str (tx l) from h]; exact .base (.str _), (kit_ty (by decide +kernel) : PySem.W.kitOne K (.type "str") (.type "str") = some true)⟩
theorem lower_eq (c : Nat) : (!decide ([c] < [97]) && !decide ([122] < [c])) = lower c := by
  unfold lower
  have h1 : decide ([c] < [97]) = decide (c < 97) := by
    rw [decide_eq_decide]
    constructor
    · intro h
      cases h with
      | rel h => exact h
      | cons h => cases h
    · exact fun h => .rel h
  have h2 : decide ([122] < [c]) = decide (122 < c) := by
    rw [decide_eq_decide]
    constructor
    · intro h
      cases h with
      | rel h => exact h
      | cons h => cases h
    · exact fun h => .rel h
  rw [h1, h2]
  by_cases a : c < 97 <;> by_cases b : 122 < c <;> simp [a, b] <;> omega
def rTX (R : Rp α) : Rp (List α) := ⟨fun H v xs => ∃ a vs, v = .ref a ∧ H a = some (.tup vs) ∧ Paired (R.rel H) vs xs, fun s ⟨a, vs, e, h, p⟩ => ⟨a, vs, e, s _ _ h, paired_mono R s p⟩⟩
theorem ev_tupX {σ : L2.St} {Hm : Hp} {R : Rp α} {t : TA} {ds : List α} (h : Ea t σ Hm (aL R ds)) (hn : ds.length ≤ 16000000) : Ev (tTup t) σ Hm (rTX R) ds := fun H1 hi Q q => h H1 hi _ fun vs K2 H2 x2 r => by
  have hp := aL_rel r
  have hl := paired_len hp
  refine ⟨by rw [sizeLine_eq]; omega, fun p np => q (.ref p) _ _ (xt_ref x2 np) ⟨p, vs, rfl, upd_same, paired_mono R (Xt.new x2.i np).s hp⟩⟩
theorem clsv_ty : ∀ {H : Hp} {vs : List V} {ns : List String}, Paired (rV.rel H) vs (ns.map V.ty) → Paired ClsV vs (ns.map Value.type)
  | _, _, [], h => by
    cases h
    exact .nil
  | H, _, n :: ns, h => by
    cases h with
    | cons a b =>
      rw [show _ = V.ty n from a]
      exact .cons (.ty n) (clsv_ty b)
theorem rc_isiT {t : Value} {ns : List String} {b : Bool} (h : PySem.W.kitAny K t (ns.map Value.type) = some b) : Rc (rIsiT K) (a1 (rTy K) t (a1 (rTX rV) (ns.map V.ty) a0)) rB b := rc_now fun Hm H1 hi vs ⟨v, ws, e1, e2, v2, ws2, e3, ⟨tp, us, e4, hT, hP⟩, e5⟩ => ⟨.bl b, rfl, fun Q q => ⟨v, tp, us, t, ns.map Value.type, b, by rw [e1, e3, show ws2 = [] from e5, e4], hi _ _ hT, clsv_ty hP, tyx_mono hi e2, h, q⟩⟩
theorem tk_w3 {σ : L2.St} {i j : Nat} {v x y z : V} {Hk : Hp} (h : (rT K rV).rel Hk v [x, y, z]) : Tk (gTup K 3 (gCons (gName i) (gCons (gName j) (gCons (gName i) gNil)))) σ Hk v (((σ.set i (some x)).set j (some y)).set i (some z)) := tk_3 h
def rowsTv : TE := tOp rRep (tLst (tCons (tC (.int 0)) tNil)) (tVar 0)
theorem ev_some {α : Type} {R : Rp α} {d : α} {σ : L2.St} {Hm : Hp} {te : TE} (h : Ev te σ Hm R d) : Ev te σ Hm (rO R) (some d) := h
theorem ev_none {α : Type} {R : Rp α} {σ : L2.St} {Hm : Hp} {te : TE} (h : Ev te σ Hm rN ()) : Ev te σ Hm (rO R) none := h
end
end NJ

set_option Elab.async false
set_option linter.all false
set_option maxRecDepth 100000
set_option maxHeartbeats 2000000
/-! Lists of arrows: in order, each once, asked for one. -/
namespace NJ
open PySem PySem.Spec PyProof.Rows L2
open PySem.W (EachIs AllAlike Sortable dataLe dataLe_eq)
/-! ### the order -/
theorem ltA_iff {p q : Arw} : ltA p q = true ↔ p.1 < q.1 ∨ (p.1 = q.1 ∧ (p.2.1 < q.2.1 ∨ (p.2.1 = q.2.1 ∧ p.2.2 < q.2.2))) := by
  unfold ltA
  simp
theorem ltA_irrefl (p : Arw) : ltA p p = false := by
  rw [← Bool.not_eq_true, ltA_iff]
  rintro (h | ⟨_, h | ⟨_, h⟩⟩)
  · omega
  · exact List.lt_irrefl _ h
  · omega
theorem ltA_trans {p q r : Arw} (h : ltA p q = true) (g : ltA q r = true) : ltA p r = true := by
  rw [ltA_iff] at h g ⊢
  rcases h with h | ⟨e, h | ⟨e2, h⟩⟩
  · rcases g with g | ⟨f, g⟩
    · exact .inl (by omega)
    · exact .inl (by omega)
  · rcases g with g | ⟨f, g | ⟨f2, g⟩⟩
    · exact .inl (by omega)
    · exact .inr ⟨by omega, .inl (List.lt_trans h g)⟩
    · exact .inr ⟨by omega, .inl (f2 ▸ h)⟩
  · rcases g with g | ⟨f, g | ⟨f2, g⟩⟩
    · exact .inl (by omega)
    · exact .inr ⟨by omega, .inl (e2 ▸ g)⟩
    · exact .inr ⟨by omega, .inr ⟨e2.trans f2, by omega⟩⟩
theorem ltA_tri (p q : Arw) : ltA p q = true ∨ p = q ∨ ltA q p = true := by
  obtain ⟨a, b, c⟩ := p
  obtain ⟨a', b', c'⟩ := q
  rw [ltA_iff, ltA_iff]
  dsimp only
  rcases Int.lt_trichotomy a a' with h | h | h
  · exact .inl (.inl h)
  · subst h
    by_cases h1 : b < b'
    · exact .inl (.inr ⟨rfl, .inl h1⟩)
    · by_cases h2 : b' < b
      · exact .inr (.inr (.inr ⟨rfl, .inl h2⟩))
      · have e : b = b' := List.le_antisymm (List.not_lt.mp h2) (List.not_lt.mp h1)
        subst e
        rcases Int.lt_trichotomy c c' with g | g | g
        · exact .inl (.inr ⟨rfl, .inr ⟨rfl, g⟩⟩)
        · exact .inr (.inl (by rw [g]))
        · exact .inr (.inr (.inr ⟨rfl, .inr ⟨rfl, g⟩⟩))
  · exact .inr (.inr (.inl h))
def leA (p q : Arw) : Bool := !ltA q p
theorem leA_trans (p q r : Arw) (h : leA p q = true) (g : leA q r = true) : leA p r = true := by
  unfold leA at *
  rw [Bool.not_eq_true'] at *
  rcases ltA_tri r p with k | k | k
  · rcases ltA_tri p q with z | z | z
    · rw [ltA_trans k z] at g
      cases g
    · subst z
      rw [k] at g
      cases g
    · rw [z] at h
      cases h
  · rw [k, ltA_irrefl]
  · rw [← Bool.not_eq_true]
    intro z
    have := ltA_trans k z
    rw [ltA_irrefl] at this
    cases this
theorem leA_total (p q : Arw) : (leA p q || leA q p) = true := by
  unfold leA
  rcases ltA_tri p q with k | k | k
  · have : ltA q p = false := by
      rw [← Bool.not_eq_true]
      intro z
      have := ltA_trans k z
      rw [ltA_irrefl] at this
      cases this
    rw [this] <;> rfl
  · rw [k, ltA_irrefl] <;> rfl
  · have : ltA p q = false := by
      rw [← Bool.not_eq_true]
      intro z
      have := ltA_trans k z
      rw [ltA_irrefl] at this
      cases this
    rw [this, Bool.not_false, Bool.or_true]
def srtA (ar : List Arw) : List Arw := ar.mergeSort leA
theorem srtA_perm (ar : List Arw) : (srtA ar).Perm ar := List.mergeSort_perm ar leA
theorem srtA_pw (ar : List Arw) : (srtA ar).Pairwise fun a b => leA a b = true := List.pairwise_mergeSort leA_trans leA_total ar
theorem mem_srtA {t : Arw} {ar : List Arw} : t ∈ srtA ar ↔ t ∈ ar := (srtA_perm ar).mem_iff
theorem srtA_len (ar : List Arw) : (srtA ar).length = ar.length := (srtA_perm ar).length_eq
theorem srtA_lt {ar : List Arw} (nd : ar.Nodup) : (srtA ar).Pairwise fun a b => ltA a b = true := by
  have nd2 : (srtA ar).Nodup := (srtA_perm ar).nodup_iff.mpr nd
  refine List.Pairwise.imp₂ (fun a b h g => ?_) (srtA_pw ar) nd2
  unfold leA at h
  rcases ltA_tri a b with k | k | k
  · exact k
  · exact absurd k g
  · rw [k] at h
    cases h
theorem ascA_of {ar : List Arw} (h : ar.Pairwise fun a b => ltA a b = true) : ascA ar = true := by
  unfold ascA
  rw [List.all_map, List.all_eq_true]
  intro p hp
  obtain ⟨i, hi⟩ := List.mem_iff_getElem?.mp hp
  rw [List.getElem?_zip_eq_some] at hi
  obtain ⟨h1, h2⟩ := hi
  rw [List.getElem?_drop] at h2
  obtain ⟨l1, e1⟩ := List.getElem?_eq_some_iff.mp h1
  obtain ⟨l2, e2⟩ := List.getElem?_eq_some_iff.mp h2
  have := List.pairwise_iff_getElem.mp h i (1 + i) l1 l2 (by omega)
  rw [e1, e2] at this
  exact this
/-! ### pairs of what stands and what it is -/
theorem paired_pairs {α β : Type} {F : α → β → Prop} : ∀ {vs : List α} {xs : List β}, Paired F vs xs → ∃ l : List (α × β), vs = l.map (·.1) ∧ xs = l.map (·.2) ∧ ∀ p ∈ l, F p.1 p.2
  | _, _, .nil => ⟨[], rfl, rfl, fun p h => by cases h⟩
  | _, _, .cons (a := a) (b := b) r rs => by
    obtain ⟨l, e1, e2, h⟩ := paired_pairs rs
    refine ⟨(a, b) :: l, by rw [List.map_cons, e1], by rw [List.map_cons, e2], fun p hp => ?_⟩
    rcases List.mem_cons.mp hp with e | hp
    · rw [e]
      exact r
    · exact h p hp
theorem pairs_paired {α β : Type} {F : α → β → Prop} : ∀ {l : List (α × β)}, (∀ p ∈ l, F p.1 p.2) → Paired F (l.map (·.1)) (l.map (·.2))
  | [], _ => .nil
  | p :: l, h => .cons (h p List.mem_cons_self) (pairs_paired fun q hq => h q (List.mem_cons_of_mem _ hq))
section
variable {σ : L2.St} {Hm : Hp} {K : PySem.W.Frag} {te ta tb tl : TE} {w : World} {P : Program}
/-- an arrow -/
def rA (K : PySem.W.Frag) : Rp Arw := ⟨fun H v t => (rT K rV).rel H v (arV t), fun s h => (rT K rV).mono s h⟩
theorem rA_at {H : Hp} {v : V} {t : Arw} (h : (rA K).rel H v t) : ∃ a, v = .ref a ∧ SqT K H a (arV t) := by
  obtain ⟨a, vs, e, hS, hP⟩ := h
  refine ⟨a, e, ?_⟩
  have e2 : vs = arV t := by
    unfold arV at hP ⊢
    cases hP with
    | cons a1 hP =>
      cases hP with
      | cons a2 hP =>
        cases hP with
        | cons a3 hP =>
          cases hP
          rw [show _ = V.int t.1 from a1, show _ = V.str (tx t.2.1) from a2, show _ = V.int t.2.2 from a3]
  rw [← e2]
  exact hS
theorem ev_arw {a b : Int} {l : T8} (h1 : Ev ta σ Hm rI a) (h2 : Ev te σ Hm rS l) (h3 : Ev tb σ Hm rI b) : Ev (tTup (tCons ta (tCons te (tCons tb tNil)))) σ Hm (rA K) (a, l, b) := fun H1 hi Q q => ev_trip (K := K) (ea_cons h1 (ea_cons h2 (ea_cons h3 ea_nil))) H1 hi Q fun v K2 H2 x2 ⟨p, x, y, z, e, hS, r1, r2, r3⟩ => q v K2 H2 x2 ⟨p, [x, y, z], e, hS, by
  rw [show x = V.int a from r1, show y = V.str (tx l) from r2, show z = V.int b from r3]
  exact .cons rfl (.cons rfl (.cons rfl .nil))⟩
theorem dp_A {H : Hp} {v : V} {t : Arw} (h : (rA K).rel H v t) : Dp K H v (dA t) := dp_arr h
theorem dpAll_A {H : Hp} : ∀ {vs : List V} {ar : List Arw}, Paired ((rA K).rel H) vs ar → DpAll K H vs (ar.map dA)
  | _, _, .nil => .nil
  | _, _, .cons r rs => .cons (dp_A r) (dpAll_A rs)
theorem alike_dA (p q : Arw) : PySem.W.alike (dA p) (dA q) = true := by simp [PySem.W.alike, dA, PySem.W.alikeAll]
theorem alikeAll_dA (ar : List Arw) : AllAlike (ar.map dA) := by
  intro d hd e he
  obtain ⟨t, _, rfl⟩ := List.mem_map.mp hd
  obtain ⟨u, _, rfl⟩ := List.mem_map.mp he
  exact alike_dA t u
theorem okSort_dA {ar : List Arw} (hz : ar.length ≤ 16000000) : okSort (ar.map dA) := by
  refine ⟨alikeAll_dA ar, .inl fun d hd => ?_, by rw [List.length_map]; exact hz, fun d hd => ?_⟩
  · obtain ⟨t, _, rfl⟩ := List.mem_map.mp hd
    exact ⟨_, _, rfl⟩
  · obtain ⟨t, _, rfl⟩ := List.mem_map.mp hd
    show max 0 (max 0 (max 0 0)) + 1 ≤ 64
    decide
theorem dataLe_dA (p q : Arw) : (!PySem.W.dataLt (dA q) (dA p)) = leA p q := by
  rw [dataLt_dA] <;> rfl
/-- sorted(xs), a list of arrows -/
theorem rc_sortA {ar : List Arw} (hz : ar.length ≤ 16000000) : Rc (rSortD K) (a1 (rL K (rA K)) ar a0) (rL K (rA K)) (srtA ar) := fun Hm H1 hi vs ⟨v, ws, e1, ⟨a, us, e2, hS, hP⟩, e3⟩ Q q => by
  obtain ⟨l, rfl, rfl, hl⟩ := paired_pairs hP
  have e5 : (l.map fun p => ((p.1, dA p.2) : VD)).map (·.1) = l.map (·.1) := by rw [List.map_map] <;> rfl
  have e6 : (l.map fun p => ((p.1, dA p.2) : VD)).map (·.2) = (l.map (·.2)).map dA := by rw [List.map_map, List.map_map] <;> rfl
  refine ⟨a, l.map fun p => (p.1, dA p.2), by rw [e1, e2, show ws = [] from e3], by rw [e5]; exact hi.seq hS, fun p hp => ?_, by rw [e6]; exact okSort_dA hz, fun p np => ?_⟩
  · obtain ⟨x, hx, rfl⟩ := List.mem_map.mp hp
    exact dp_A ((rA K).mono hi (hl x hx))
  · have es : srt (l.map fun p => ((p.1, dA p.2) : VD)) = (l.mergeSort fun p q => leA p.2 q.2).map fun p => (p.1, dA p.2) := by
      unfold srt
      refine (List.map_mergeSort fun x _ y _ => ?_).symm
      rw [dataLe_eq]
      exact (dataLe_dA x.2 y.2).symm
    have e7 : (l.mergeSort fun p q => leA p.2 q.2).map (·.2) = srtA (l.map (·.2)) := List.map_mergeSort fun _ _ _ _ => rfl
    rw [es, List.map_map]
    refine q (.ref p) _ _ (Xt.new hi np) ⟨p, _, rfl, .inl (.inl upd_same), ?_⟩
    rw [← e7]
    exact pairs_paired (l := l.mergeSort fun p q => leA p.2 q.2) fun x hx => (rA K).mono (Xt.new hi np).s (hl x ((List.mergeSort_perm _ _).mem_iff.mp hx))
/-! ### sorted(set(xs)) -/
def keyA (t : Arw) : MKey := [.inl t.1, .inr (tx t.2.1), .inl t.2.2]
theorem keyA_inj {t u : Arw} (h : keyA t = keyA u) : t = u := by
  obtain ⟨a, b, c⟩ := t
  obtain ⟨a', b', c'⟩ := u
  unfold keyA at h
  dsimp only at h
  injection h with h1 h
  injection h with h2 h
  injection h with h3 h
  rw [Sum.inl.inj h1, tx_inj (Sum.inr.inj h2), Sum.inl.inj h3]
/-! ### x in xs -/
/-- letters alone -/
def lowT (l : T8) : Prop := ∀ c ∈ l, lower c = true
def lowA (t : Arw) : Prop := lowT t.2.1
theorem strOk_low {l : T8} (h : lowT l) : PyData.strOk (tx l) = true := by
  unfold PyData.strOk
  rw [← Array.all_toList, tx_cps, List.all_eq_true]
  intro c hc
  have := h c hc
  unfold lower at this
  rw [Bool.and_eq_true, decide_eq_true_iff, decide_eq_true_iff] at this
  exact decide_eq_true (by omega)
theorem lay_A {t : Arw} (h : lowA t) : (dA t).canLay0 = true := by
  show (true && (PyData.strOk (tx t.2.1) && (true && true))) = true
  rw [strOk_low h] <;> rfl
theorem shaped_A {t : Arw} (h : lowA t) : SeqAt.shaped (dA t) = true := by
  unfold SeqAt.shaped
  rw [Bool.and_eq_true]
  exact ⟨lay_A h, rfl⟩
theorem layAll_A : ∀ {ar : List Arw}, (∀ t ∈ ar, lowA t) → PyData.canLayAll0 (ar.map dA) = true ∧ PyData.depthAll (ar.map dA) ≤ 1
  | [], _ => ⟨rfl, Nat.zero_le _⟩
  | t :: ar, h => by
    obtain ⟨h1, h2⟩ := layAll_A fun u hu => h u (List.mem_cons_of_mem _ hu)
    refine ⟨?_, ?_⟩
    · show ((dA t).canLay0 && PyData.canLayAll0 (ar.map dA)) = true
      rw [lay_A (h t List.mem_cons_self), h1] <;> rfl
    · show max (dA t).depth (PyData.depthAll (ar.map dA)) ≤ 1
      have : (dA t).depth = 1 := rfl
      omega
theorem shaped_As {ar : List Arw} (h : ∀ t ∈ ar, lowA t) : SeqAt.shaped (.list (ar.map dA)) = true := by
  obtain ⟨h1, h2⟩ := layAll_A h
  unfold SeqAt.shaped
  rw [Bool.and_eq_true, decide_eq_true_iff]
  refine ⟨h1, ?_⟩
  show PyData.depthAll (ar.map dA) + 1 ≤ 64
  omega
theorem eqv_dA (p q : Arw) : PyData.eqv (dA p) (dA q) = decide (p = q) := by
  obtain ⟨a, b, c⟩ := p
  obtain ⟨a', b', c'⟩ := q
  show (PyData.eqv (.int a) (.int a') && (PyData.eqv (.str (tx b)) (.str (tx b')) && (PyData.eqv (.int c) (.int c') && true))) = _
  rw [eqv_int, eqv_int, eqv_str, Bool.and_true]
  by_cases h1 : a = a' <;> by_cases h2 : b = b' <;> by_cases h3 : c = c' <;> simp [h1, h2, h3]
theorem any_eqv {t : Arw} : ∀ ar : List Arw, ((ar.map dA).any fun z => PyData.eqv z (dA t)) = decide (t ∈ ar)
  | [] => by simp
  | u :: ar => by
    rw [List.map_cons, List.any_cons, eqv_dA, any_eqv ar, Bool.eq_iff_iff, Bool.or_eq_true, decide_eq_true_iff, decide_eq_true_iff, decide_eq_true_iff, List.mem_cons]
    exact ⟨fun h => h.imp Eq.symm id, fun h => h.imp Eq.symm id⟩
/-- the parts of pairs and arrows -/
theorem rv_fst {α β : Type} {R : Rp α} {S : Rp β} {p : α × β} : Rv (rIxT K) (rP K R S) p rI 0 R p.1 := rv_now fun Hm H1 hx x y ⟨a, u, v, ev, hS, r1, r2⟩ ry => ⟨u, r1, fun Q q => ⟨a, [u, v], 0, u, ev, ry, seqT_mono hx hS, atI_nat (j := 0) rfl, q⟩⟩
theorem rv_snd {α β : Type} {R : Rp α} {S : Rp β} {p : α × β} : Rv (rIxT K) (rP K R S) p rI 1 S p.2 := rv_now fun Hm H1 hx x y ⟨a, u, v, ev, hS, r1, r2⟩ ry => ⟨v, r2, fun Q q => ⟨a, [u, v], 1, v, ev, ry, seqT_mono hx hS, atI_nat (j := 1) rfl, q⟩⟩
theorem rv_A0 {t : Arw} : Rv (rIxT K) (rA K) t rI 0 rI t.1 := rv_now fun Hm H1 hx x y r ry => by
  obtain ⟨a, e, hS⟩ := rA_at r
  exact ⟨.int t.1, rfl, fun Q q => ⟨a, arV t, 0, .int t.1, e, ry, seqT_mono hx hS, atI_nat (j := 0) rfl, q⟩⟩
end
end NJ

set_option Elab.async false
set_option linter.all false
set_option maxRecDepth 100000
set_option maxHeartbeats 2000000
/-! What is known up to a property: arguments, arrows, texts; lists mixed. -/
namespace NJ
open PySem PySem.Spec PyProof.Rows L2
section
variable {σ : L2.St} {Hm H : Hp} {α β : Type} {R : Rp α} {S : Rp β} {te ta tb : TE} {tz : TS} {D : Ends} {i : Nat} {K : PySem.W.Frag}
/-- name = [] -/
theorem q_new (q : ∀ f, H f = none → tz D (σ.set i (some (.ref f))) (upd H f (.lst []))) : tSeq (tAsg (tLst tNil) (gName i)) tz D σ H := ⟨Nat.zero_le _, fun f hf => q f hf⟩
end
/-! ### signs in order -/
def sgl (cs : T8) : List T8 := cs.map fun c => [c]
section
variable {σ : L2.St} {Hm : Hp} {te : TE} {K : PySem.W.Frag}
end
theorem nums_lt {n : Nat} {k : Int} (h : k ∈ nums n) : 0 ≤ k ∧ k < n := by
  unfold nums at h
  obtain ⟨i, hi, rfl⟩ := List.mem_map.mp h
  have := List.mem_range.mp hi
  omega
theorem hu65 {A : Around} {k : Nat} (hr : Room k A) : A.units + 65 < cLine := by
  have := hr.un
  omega
section
variable {σ : L2.St} {Hm : Hp} {K : PySem.W.Frag} {α β : Type} {R : Rp α} {S : Rp β} {te ta tb : TE}
theorem ev_some1 {d : α} (h : Ev te σ Hm R d) : Ev te σ Hm (rE R (fun x => x = d)) () := h.some_ rfl
end
end NJ

set_option Elab.async false
set_option linter.all false
set_option maxRecDepth 100000
set_option maxHeartbeats 2000000
/-! Masks: lots of points as numbers. -/
namespace NJ
open PySem PySem.Spec PyProof.Rows L2
/-! ### bits -/
theorem low_bit : ∀ m : Nat, 0 < m → ∃ k, (m &&& (m - 1)) + 2 ^ k = m ∧ m.testBit k = true ∧ ∀ j, (m &&& (m - 1)).testBit j = (m.testBit j && decide (j ≠ k)) := by
  intro m
  induction m using Nat.strongRecOn with
  | ind m ih =>
    intro hm
    have d2 : (m &&& (m - 1)) / 2 = m / 2 &&& (m - 1) / 2 := Nat.and_div_two
    have m2 := @Nat.and_mod_two_eq_one m (m - 1)
    by_cases odd : m % 2 = 1
    · have e1 : (m - 1) / 2 = m / 2 := by omega
      rw [e1, Nat.and_self] at d2
      have x : (m &&& (m - 1)) = m - 1 := by omega
      refine ⟨0, by rw [x]; omega, by rw [Nat.testBit_zero]; simp [odd], fun j => ?_⟩
      rw [x]
      cases j with
      | zero =>
        rw [Nat.testBit_zero]
        simp
        omega
      | succ j =>
        rw [Nat.testBit_succ, Nat.testBit_succ, e1]
        simp
    · have e1 : (m - 1) / 2 = m / 2 - 1 := by omega
      rw [e1] at d2
      obtain ⟨k, h1, h2, h3⟩ := ih (m / 2) (by omega) (by omega)
      have x2 : (m &&& (m - 1)) % 2 = 0 := by omega
      have x : (m &&& (m - 1)) = 2 * (m / 2 &&& (m / 2 - 1)) := by omega
      refine ⟨k + 1, ?_, by rw [Nat.testBit_succ]; exact h2, fun j => ?_⟩
      · rw [Nat.pow_succ]
        omega
      · cases j with
        | zero =>
          rw [Nat.testBit_zero, Nat.testBit_zero]
          have : m % 2 = 0 := by omega
          simp [x2, this]
        | succ j =>
          rw [Nat.testBit_succ, d2, h3, Nat.testBit_succ]
          simp
theorem bits_pow (k : Nat) : Builtin.Int.intBits ((2 ^ k : Nat) : Int) = k + 1 := by
  unfold Builtin.Int.intBits
  have h : ((2 ^ k : Nat) : Int) ≠ 0 := by
    have := Nat.two_pow_pos k
    omega
  rw [if_neg (by simpa using h), Int.natAbs_natCast, Nat.log2_two_pow]
theorem and_neg (m : Nat) (h : 0 < m) : Builtin.bitAnd (m : Int) (-(m : Int)) = ((m - (m &&& (m - 1)) : Nat) : Int) := by
  rw [bitAnd_pn (Int.natCast_nonneg m) (by omega)]
  have e : (Builtin.bitNot (-(m : Int))).toNat = m - 1 := by
    unfold Builtin.bitNot
    omega
  rw [e, Int.toNat_natCast]
  have : (m &&& (m - 1)) ≤ m := Nat.and_le_left
  omega
theorem or_nat (a b : Nat) : Builtin.bitOr (a : Int) (b : Int) = ((a ||| b : Nat) : Int) := by
  rw [bitOr_and, bitAnd_pp (Int.natCast_nonneg a) (Int.natCast_nonneg b), Int.toNat_natCast, Int.toNat_natCast]
  have := nat_or_add_and a b
  omega
/-! ### the mask of a lot of points -/
def mkM (S : List Int) : Nat := S.foldr (fun x m => 2 ^ x.toNat ||| m) 0
theorem mkM_bit (S : List Int) (j : Nat) : (mkM S).testBit j = true ↔ ∃ x ∈ S, x.toNat = j := by
  induction S with
  | nil =>
    unfold mkM
    simp
  | cons x S ih =>
    show (2 ^ x.toNat ||| mkM S).testBit j = true ↔ _
    rw [Nat.testBit_or, Bool.or_eq_true, ih, Nat.testBit_two_pow, decide_eq_true_iff]
    simp
theorem mkM_eq {S : List Int} {m : Nat} (h : ∀ j, m.testBit j = true ↔ ∃ x ∈ S, x.toNat = j) : m = mkM S := by
  refine Nat.eq_of_testBit_eq fun j => ?_
  rw [Bool.eq_iff_iff, h j, mkM_bit]
theorem mkM_zero {S : List Int} : mkM S = 0 ↔ S = [] := by
  constructor
  · intro h
    cases S with
    | nil => rfl
    | cons x S =>
      have : (mkM (x :: S)).testBit x.toNat = true := (mkM_bit _ _).mpr ⟨x, List.mem_cons_self, rfl⟩
      rw [h, Nat.zero_testBit] at this
      cases this
  · intro h
    subst h
    rfl
theorem mkM_nums (n : Nat) : mkM (nums n) = 2 ^ n - 1 := by
  refine (mkM_eq fun j => ?_).symm
  rw [Nat.testBit_two_pow_sub_one, decide_eq_true_iff]
  unfold nums
  constructor
  · intro h
    exact ⟨(j : Int), List.mem_map.mpr ⟨j, List.mem_range.mpr h, rfl⟩, Int.toNat_natCast j⟩
  · rintro ⟨x, hx, e⟩
    obtain ⟨i, hi, rfl⟩ := List.mem_map.mp hx
    rw [Int.toNat_natCast] at e
    rw [← e]
    exact List.mem_range.mp hi
/-! ### sorted(set(ints)) -/
section
variable {σ : L2.St} {Hm H : Hp} {K : PySem.W.Frag} {α β : Type} {R : Rp α} {S : Rp β} {te ta tb : TE} {w : World} {tt : TT} {t1 t2 tz : TS} {D : Ends}
/-! ### small rules -/
/-- x.bit_length() -/
theorem ev_bits {i : Int} (h : Ev te σ Hm rI i) : Ev (tBits te) σ Hm rI (Builtin.Int.intBits i : Nat) := fun H1 hi Q q => h H1 hi _ fun v K2 H2 x2 r => ⟨i, r, q _ K2 H2 x2 rfl⟩
/-- -x -/
theorem ev_neg {i : Int} (h : Ev te σ Hm rI i) : Ev (tUn (rU fun i => .int (-i)) te) σ Hm rI (-i) := fun H1 hi Q q => h H1 hi _ fun v K2 H2 x2 r => ⟨i, r, q _ K2 H2 x2 rfl⟩
/-- truth of an int -/
theorem et_int {i : Int} (h : Ev te σ Hm rI i) : Et (fun σ H Q => te σ H fun x H' => ∃ k, TruV K x H' k ∧ Q k H') σ Hm (i != 0) := fun H1 hi Q q => h H1 hi _ fun v K2 H2 x2 r => by
  cases r
  exact ⟨_, rfl, q K2 H2 x2⟩
/-- name op= e -/
theorem s_aug {i : Nat} {v : V} {a b c : Int} {ti : TIp} (hv : σ[i]? = some (some v)) (r : rI.rel Hm v a) (h : Ev te σ Hm rI b) (hi : Same Hm H) (ht : ∀ H1 (Q : VK), Q (.int c) H1 → ti (.int a) (.int b) H1 Q) (k : ∀ K1 H1, Xt Hm H K1 H1 → D.nx (σ.set i (some (.int c))) H1) : tAug i te ti D σ H := ⟨v, hv, h H hi _ fun u K1 H1 x1 ru => by
  cases r
  cases ru
  exact ht H1 _ (k K1 H1 x1)⟩
theorem q_aug {i : Nat} {v : V} {a b c : Int} {ti : TIp} (hv : σ[i]? = some (some v)) (r : rI.rel Hm v a) (h : Ev te σ Hm rI b) (hi : Same Hm H) (ht : ∀ H1 (Q : VK), Q (.int c) H1 → ti (.int a) (.int b) H1 Q) (k : ∀ K1 H1, Xt Hm H K1 H1 → tz D (σ.set i (some (.int c))) H1) : tSeq (tAug i te ti) tz D σ H := s_aug (D := { D with nx := tz D }) hv r h hi ht k
end
end NJ

set_option Elab.async false
set_option linter.all false
set_option maxRecDepth 100000
set_option maxHeartbeats 2000000
/-! Comprehensions with two clauses; the sorted keys of a dict. -/
namespace NJ
open PySem PySem.Spec PyProof.Rows L2
section
variable {σ : L2.St} {Hm : Hp} {K : PySem.W.Frag} {α β γ : Type} {R : Rp α} {S : Rp β} {T : Rp γ} {te : TE}
/-! ### sorted(a dict), texts -/
end
end NJ

set_option Elab.async false
set_option linter.all false
set_option maxRecDepth 100000
set_option maxHeartbeats 2000000
/-! tuple(a dict): its keys. -/
namespace NJ
open PySem PySem.Spec PyProof.Rows L2
section
variable {prog : Program} {w : World} {d : Addr} {n : Nat} {P : Nat → Value → Prop} {OK : Heap → Prop}
open AutoSeq1 (wpAny_loadPart') in
end
section
variable {X : Cx}
end
section
variable {σ : L2.St} {Hm : Hp} {K : PySem.W.Frag} {te : TE}
end
end NJ

set_option Elab.async false
set_option linter.all false
set_option maxRecDepth 100000
set_option maxHeartbeats 2000000
/-! == of a class of one's own: any answer, any other side whose type is known. -/
namespace NJ
open PySem PySem.Spec PyProof.Rows L2
section
variable {X : Cx} {n : Nat}
abbrev rEqOwn (K : PySem.W.Frag) (C : Addr) (sp : Sp) (E : XK) : R2 := fun x y H Q => ∃ (a dx : Addr) (fs : List (Str × V)) (tb : Value), x = .ref a ∧ H a = some (.ins C dx fs) ∧ TyX K H y tb ∧ PySem.W.notFirst K C tb = true ∧ sp [x, y] H (fun v H' => (∃ b, v = .bl b) ∧ Q v H') E
theorem op_eqOwn {CX : CXT} {C f : Addr} {fd : FuncData} {ps : List Str} {sp : Sp} {E : XK} (F : FnOk X.prog X.w X.K X.mg X.base CX n f fd ps sp) (o : OwnEqM X.K C f) (hb : Binds X.K fd ps []) (hx : Passes CX X E) (hr : Room n X.A) :
    OpR X (compareOp .Eq) (rEqOwn X.K C sp E) := by
  intro pins s σ H x y v u Q I rx ry hq
  obtain ⟨a, dx, fs, tb, rfl, ha, ty, nf, hsp⟩ := hq
  cases rx
  obtain ⟨mA, J, _⟩ := ins_get I.hok ha
  obtain ⟨od, J, _⟩ := J.look
  obtain ⟨m, hF⟩ := I.fr
  obtain ⟨Pk, kx, hp, _⟩ := kit_of I ry ty
  show wpAny (model X.prog X.w) X.A (richCompare .Eq (.ref a) u) (EP X pins σ Q) X.xe s
  refine PySem.W.cmp_K (op := .Eq) (tb := tb) hr.units0 hF I.ok.mod.kin J (kx.ty _ _ I.kIn hp) nf o.find o.fn ?_
  have hl := F.len _ _ _ _ hsp
  have r2 : Vals [V.ref a, y] [Value.ref a, u] := .cons rfl (.cons ry .nil)
  refine wpAny_call (codeAny_mono (F.run X.A X.stack s H ⟨[.ref a, u], []⟩ [.ref a, u] [.ref a, y] _ E hr I.env0 (by
    have := hb s [.ref a, u] I.kIn (by simpa using hl)
    simpa using this) r2 hsp) fun r s' hq => ?_)
  cases r with
  | error e => exact hx pins σ H s e s' I hq
  | ok fl =>
    cases fl with
    | ret w =>
      obtain ⟨z, H', I', rz, ⟨b, ez⟩, ex⟩ := I.after hq
      subst ez
      cases rz
      exact ⟨.bl b, H', I', rfl, ex⟩
    | next => exact False.elim hq
    | brk => exact False.elim hq
    | cont => exact False.elim hq
end
end NJ

set_option Elab.async false
set_option linter.all false
set_option maxRecDepth 100000
set_option maxHeartbeats 4000000
/-! != of a class of one's own; thing == an own object, thing of a built-in type. -/
namespace NJ
open PySem PySem.Spec PyProof.Rows L2
section
variable {prog : Program} {w : World} {A : Around} {E : Value → Shared → Prop} {s : Shared} {K : PySem.W.Frag} {x C f : Addr} {ox : Obj} {od : Option Obj}
/-- a special that is a built-in -/
theorem ifBound_B {M : Model} {name : Str} {id : String} {args : List Value} {Q : Option Value → Shared → Prop} (X : K.In s.heap) (I : PySem.W.InstAt s.heap x ox C od) (hs : PySem.W.findIn K (.ref C) name = some (some (.builtin id))) (hb : ∀ self : Value, bindSpecial (.builtin id) self = pure (.builtin id, [self]))
    (h : wpAny M A (call (.builtin id) (.ref x :: args)) (fun v => Q (some v)) E s) : wpAny M A (callSpecialIfBound? (.ref x) name args) Q E s := by
  simp only [callSpecialIfBound?, bindSpecialIfBound?]
  refine wpAny_holding (wpAny_bind (wpAny_bind (wpAny_bind (I.type.here ((PySem.W.looks_findIn X hs).here ?_)))))
  simp only [hb]
  refine wpAny_bind (wpAny_askSetting (wpAny_ite ?_))
  have fin : wpAny M A (call (.builtin id) ([.ref x] ++ args) >>= fun v => pure (some v)) Q E s := wpAny_bind (wpAny_mono h (fun v s' h' => wpAny_pure h') fun _ _ h' => h')
  split
  · exact wpAny_bind (wpAny_pure (wpAny_pure (by exact fin)))
  · exact wpAny_tryCatch (wpAny_bind (wpAny_pure (wpAny_pure (by exact fin))))
theorem check_slot_K {M : Model} {id owner n : String} {rest : List Value} {Q : Unit → Shared → Prop} (X : K.In s.heap) (I : PySem.W.InstAt s.heap x ox C od) (hk : builtinKind id = some .slot) (hs : splitId id = some (owner, n)) (ha : argsOk id ⟨.ref x :: rest, []⟩) (hm : PySem.W.subIn K (.ref C) (.type owner) = some true) (hq : Q () s) :
    wpAny M A (checkBuiltinCall id ⟨.ref x :: rest, []⟩) Q E s := by
  simp only [checkBuiltinCall, hk, hs]
  refine wpAny_bind ?_
  · unfold isInstance
    refine wpAny_bind (I.type.here ((PySem.W.looks_subIn X hm).here ?_))
    wp_walk
    cases hsig : Manifest.signature? id with
    | none => exact wpAny_pure hq
    | some sig =>
      simp only [argsOk, hsig] at ha
      have h2 : Bind.checkArgs id sig ⟨.ref x :: rest, []⟩ = pure () := ha
      show wpAny M A (Bind.checkArgs id sig ⟨.ref x :: rest, []⟩) Q E _
      rw [h2]; exact wpAny_pure hq
theorem objNe_K {b : Value} {Q : Fin → Shared → Prop} (hu : A.units < cLine) (X : K.In s.heap) (I : PySem.W.InstAt s.heap x ox C od) (hs : PySem.W.findIn K (.ref C) "__eq__" = some (some (.ref f))) (hf : PySem.W.isFn K (.ref f) = true)
    (hcall : wpAny (model prog w) A (call (.ref f) [.ref x, b]) (fun v s' => ∃ c, v = .bool c ∧ Q (.done (.ret (.bool (!c)))) s') E s) : wpAny (model prog w) A (Builtin.«object.__ne__» ⟨[.ref x, b], []⟩) Q E s := by
  unfold Builtin.«object.__ne__»
  repeat (first
    | with_reducible refine wpAny_cRoomFor hu ?_
    | (refine wpAny_bind (m := callSpecialIfBound? (.ref x) (Str.ofString "__eq__") [b])
        (PySem.W.ifBound_K X I hs hf (wpAny_mono hcall (fun r s' hr => by
          obtain ⟨c, rfl, hq⟩ := hr
          repeat (first | exact hq | exact wpAny_pure hq | exact wpAny_truthy_bool hq | (refine wpAny_bind (m := truthy (.bool _)) (wpAny_truthy_bool ?_)) | wp_step)) fun _ _ e => e)))
    | wp_step)
theorem ne_K {b tb : Value} {Q : Value → Shared → Prop} (hu : A.units + 1 < cLine) (X : K.In s.heap) (I : PySem.W.InstAt s.heap x ox C od) (hb : PySem.W.Looks (model prog w) s.heap (typeOf b) tb) (hn : PySem.W.notFirst K C tb = true)
    (hne : PySem.W.findIn K (.ref C) "__ne__" = some (some (.builtin "object.__ne__"))) (hm : PySem.W.mroIn K C (.type "object") = some true) (hs : PySem.W.findIn K (.ref C) "__eq__" = some (some (.ref f))) (hf : PySem.W.isFn K (.ref f) = true)
    (h : wpAny (model prog w) A.in1 (call (.ref f) [.ref x, b]) (fun v s' => ∃ c, v = .bool c ∧ Q (.bool (!c)) s') E s) : wpAny (model prog w) A (richCompare .NotEq (.ref x) b) Q E s := by
  have one : wpAny (model prog w) A (tryCompare (.ref x) "__ne__" b) (fun r s' => ∃ v, r = some v ∧ Q v s') E s := by
    simp only [tryCompare]
    refine wpAny_bind (ifBound_B X I hne F.cmp_object.ne.bind (wpAny_call (codeAny_call_builtin F.cmp_object.ne.plain F.cmpEntry_ne
      (check_slot_K X I F.cmpKind_ne F.cmpSplit_ne (F.cmpArgs_ne _ _) hm (objNe_K (A := A.in1) hu X I hs hf (wpAny_mono h (fun v s' hv => ?_) fun _ _ e => e))))))
    obtain ⟨c, rfl, hq⟩ := hv
    exact ⟨c, rfl, wpAny_pure ⟨_, rfl, hq⟩⟩
  unfold richCompare
  simp only [oneThing_ref]
  refine wpAny_holding (wpAny_bind (wpAny_cRoomFor (Nat.lt_of_succ_lt hu) ?_))
  refine wpAny_bind (I.type.here (wpAny_bind (hb.here ?_)))
  split
  · rename_i q
    have e : PySem.W.subIn K tb (.ref C) = some false := by
      rcases Bool.or_eq_true_iff.mp hn with e | e
      · rw [beq_iff_eq.mp e] at q; simp at q
      · exact beq_iff_eq.mp e
    refine wpAny_bind ((PySem.W.looks_subIn X e).here ?_)
    simp only [Bool.false_eq_true, if_false]
    refine wpAny_bind (wpAny_mono one (fun r s' z => ?_) fun _ _ e => e)
    obtain ⟨v, rfl, hq⟩ := z
    exact wpAny_pure hq
  · refine wpAny_bind (wpAny_pure ?_)
    simp only [Bool.false_eq_true, if_false]
    refine wpAny_bind (wpAny_mono one (fun r s' z => ?_) fun _ _ e => e)
    obtain ⟨v, rfl, hq⟩ := z
    exact wpAny_pure hq
end
section
variable {X : Cx} {n : Nat}
theorem env_in1 {X : Cx} {pins : List (Addr × Obj)} {σ : L2.St} {H : Hp} {s : Shared} (I : Inv X pins σ H s) : Env0 X.prog X.w X.K X.mg X.base X.A.in1 X.stack s H := by
  have e := I.env0
  exact ⟨e.frames, e.mod, e.bs, e.bsz, e.funs, e.frf, e.hok, e.bare⟩
/-- x != y, x an own object, y anything whose type is known -/
abbrev rNeOwn (K : PySem.W.Frag) (C : Addr) (sp : Sp) (E : XK) : R2 := fun x y H Q => ∃ (a dx : Addr) (fs : List (Str × V)) (tb : Value), x = .ref a ∧ H a = some (.ins C dx fs) ∧ TyX K H y tb ∧ PySem.W.notFirst K C tb = true ∧ sp [x, y] H (fun v H' => ∃ b, v = .bl b ∧ Q (.bl (!b)) H') E
theorem op_neOwn {CX : CXT} {C f : Addr} {fd : FuncData} {ps : List Str} {sp : Sp} {E : XK} (F : FnOk X.prog X.w X.K X.mg X.base CX n f fd ps sp) (o : OwnEqM X.K C f) (hne : PySem.W.findIn X.K (.ref C) "__ne__" = some (some (.builtin "object.__ne__"))) (hm : PySem.W.mroIn X.K C (.type "object") = some true)
    (hb : Binds X.K fd ps []) (hx : Passes CX X E) (hr : Room (n + 1) X.A) : OpR X (compareOp .NotEq) (rNeOwn X.K C sp E) := by
  intro pins s σ H x y v u Q I rx ry hq
  obtain ⟨a, dx, fs, tb, rfl, ha, ty, nf, hsp⟩ := hq
  cases rx
  obtain ⟨mA, J, _⟩ := ins_get I.hok ha
  obtain ⟨od, J, _⟩ := J.look
  obtain ⟨Pk, kx, hp, _⟩ := kit_of I ry ty
  show wpAny (model X.prog X.w) X.A (richCompare .NotEq (.ref a) u) (EP X pins σ Q) X.xe s
  refine ne_K (tb := tb) (by have := hr.un; omega) I.kIn J (kx.ty _ _ I.kIn hp) nf hne hm o.find o.fn ?_
  have hl := F.len _ _ _ _ hsp
  have r2 : Vals [V.ref a, y] [Value.ref a, u] := .cons rfl (.cons ry .nil)
  refine wpAny_call (codeAny_mono (F.run X.A.in1 X.stack s H ⟨[.ref a, u], []⟩ [.ref a, u] [.ref a, y] _ E hr.in1 (env_in1 I) (by
    have := hb s [.ref a, u] I.kIn (by simpa using hl)
    simpa using this) r2 hsp) fun r s' hq => ?_)
  cases r with
  | error e => exact hx pins σ H s e s' I hq
  | ok fl =>
    cases fl with
    | ret w =>
      obtain ⟨z, H', I', rz, b, ez, ex⟩ := I.after hq
      subst ez
      cases rz
      exact ⟨b, rfl, .bl (!b), H', I', rfl, ex⟩
    | next => exact False.elim hq
    | brk => exact False.elim hq
    | cont => exact False.elim hq
open AutoSeq1 (wpAny_loadPart') in
/-- one of two ways -/
theorem op_or {op : Value → Value → Sem Value} {r1 r2 : R2} (h1 : OpR X op r1) (h2 : OpR X op r2) : OpR X op (fun x y H Q => r1 x y H Q ∨ r2 x y H Q) := fun pins s σ H x y v u Q I rx ry hq =>
  hq.elim (h1 pins s σ H x y v u Q I rx ry) (h2 pins s σ H x y v u Q I rx ry)
end
end NJ

set_option Elab.async false
set_option linter.all false
set_option maxRecDepth 100000
set_option maxHeartbeats 4000000
/-! zip of two texts. -/
namespace NJ
open PySem PySem.Spec PyProof.Rows L2
section
variable {σ : L2.St} {Hm : Hp} {K : PySem.W.Frag} {ta : TA}
end
end NJ

set_option Elab.async false
set_option linter.all false
set_option maxRecDepth 100000
set_option maxHeartbeats 4000000
/-! Tuples of arrows: x not in, ==, sorted, t + u. -/
namespace NJ
open PySem PySem.Spec PyProof.Rows L2
open PySem.W (EachIs AllAlike Sortable dataLe)
section
variable {X : Cx}
end
section
variable {σ : L2.St} {Hm : Hp} {K : PySem.W.Frag} {te ta tb : TE}
theorem dp_As {H : Hp} {v : V} {ar : List Arw} (h : (rT K (rA K)).rel H v ar) : Dp K H v (.tuple (ar.map dA)) := by
  obtain ⟨a, vs, e, hS, hP⟩ := h
  rw [e]
  exact .tup hS (dpAll_A hP)
theorem eqvAll_dA : ∀ ar br : List Arw, PyData.eqvAll (ar.map dA) (br.map dA) = decide (ar = br)
  | [], [] => rfl
  | [], _ :: _ => rfl
  | _ :: _, [] => rfl
  | t :: ar, u :: br => by
    show (PyData.eqv (dA t) (dA u) && PyData.eqvAll (ar.map dA) (br.map dA)) = _
    rw [eqv_dA, eqvAll_dA ar br]
    by_cases h1 : t = u <;> by_cases h2 : ar = br <;> simp [h1, h2]
theorem shaped_AT {ar : List Arw} (h : ∀ t ∈ ar, lowA t) : SeqAt.shaped (.tuple (ar.map dA)) = true := by
  obtain ⟨h1, h2⟩ := layAll_A h
  unfold SeqAt.shaped
  rw [Bool.and_eq_true, decide_eq_true_iff]
  refine ⟨h1, ?_⟩
  show PyData.depthAll (ar.map dA) + 1 ≤ 64
  omega
theorem rv_eqAT {ar br : List Arw} (h : ∀ t ∈ ar, lowA t) (g : ∀ t ∈ br, lowA t) : Rv (rEqD K) (rT K (rA K)) ar (rT K (rA K)) br rB (decide (ar = br)) := rv_now fun Hm H1 hi x y rx ry => ⟨_, rfl, fun Q q => ⟨_, _, dp_As ((rT K (rA K)).mono hi rx), dp_As ((rT K (rA K)).mono hi ry), shaped_AT h, shaped_AT g, by
  rw [show PyData.eqv (.tuple (ar.map dA)) (.tuple (br.map dA)) = decide (ar = br) from eqvAll_dA ar br]
  exact q⟩⟩
end
end NJ

set_option Elab.async false
set_option linter.all false
set_option maxRecDepth 100000
set_option maxHeartbeats 4000000
/-! Things of any sort and their types; three stores at once. -/
namespace NJ
open PySem PySem.Spec PyProof.Rows L2
section
variable {H H' : Hp} {K : PySem.W.Frag} {v : V} {T : String}
theorem tyx_lst {a : Addr} {xs : List V} (h : SqL K H a xs) : TyX K H (.ref a) (.type "list") := by
  rcases h with (h | ⟨o, h⟩) | h
  · exact .base (.lst h)
  · exact .base (.frz h)
  · obtain ⟨o, its, n, h1, h2, _⟩ := h
    exact .kList h1 h2
theorem tyx_tup {a : Addr} {xs : List V} (h : SqT K H a xs) : TyX K H (.ref a) (.type "tuple") := by
  rcases h with (h | ⟨o, h⟩) | h
  · exact .base (.tup h)
  · exact .fTuple h
  · obtain ⟨o, its, n, h1, h2, _⟩ := h
    exact .kTuple h1 h2
end
section
variable {σ : L2.St} {Hm H : Hp} {K : PySem.W.Frag} {α β γ : Type} {R : Rp α} {S : Rp β} {T : Rp γ} {D : Ends} {tz : TS} {ta : TA}
theorem rv_neB {a b : Bool} : Rv rNe rB a rB b rB (!decide (a = b)) := rv_now fun Hm H1 _ x y rx ry => ⟨.bl (!decide (a = b)), rfl, fun Q q => by
  rw [show x = V.bl a from rx, show y = V.bl b from ry]
  exact ⟨rfl, by rw [show decide (V.bl a = V.bl b) = decide (a = b) from by simp]; exact q⟩⟩
/-- isinstance(x, C), C a class of one's own -/
theorem rc_isiC {t : Value} {C : Addr} {b : Bool} (h : PySem.W.kitOne K t (.ref C) = some b) : Rc (rIsi K) (a1 (rTy K) t (a1 rV (.ref C) a0)) rB b := rc_now fun Hm H1 hi vs ⟨v, ws, e1, e2, v2, ws2, e3, e4, e5⟩ => ⟨.bl b, rfl, fun Q q => ⟨v, .ref C, t, .ref C, b, by rw [e1, e3, show ws2 = [] from e5, show v2 = V.ref C from e4], .own C, tyx_mono hi e2, h, q⟩⟩
theorem ev_isiC {te : TE} {t : Value} {C : Addr} {b : Bool} (h : Ev te σ Hm (rTy K) t) (k : PySem.W.kitOne K t (.ref C) = some b) : Ev (tCB (rIsi K) (tCons te (tCons (tC (.ref C)) tNil))) σ Hm rB b := ev_cb (ea_cons h (ea_cons (ev_c (R := rV) (d := .ref C) fun _ => rfl) ea_nil)) (rc_isiC k)
theorem kit_self {C : Addr} : PySem.W.kitOne K (.ref C) (.ref C) = some true := by
  unfold PySem.W.kitOne
  simp
theorem nf_self {C : Addr} : PySem.W.notFirst K C (.ref C) = true := by
  unfold PySem.W.notFirst
  simp
end
end NJ

set_option Elab.async false
set_option linter.all false
set_option maxRecDepth 100000
set_option maxHeartbeats 4000000
/-! sorted(t), list(t), t + u of tuples; {}. -/
namespace NJ
open PySem PySem.Spec PyProof.Rows L2
section
variable {σ : L2.St} {Hm : Hp} {K : PySem.W.Frag} {α : Type} {R : Rp α}
theorem rv_catT {xs ys : List α} (hz : xs.length + ys.length ≤ 16000000) : Rv (rCatA K) (rT K R) xs (rT K R) ys (rT K R) (xs ++ ys) := fun Hm H1 hi x y ⟨a, vs, e1, h1, p1⟩ ⟨b, us, e2, h2, p2⟩ Q q => ⟨a, b, vs, us, e1, e2, seqT_mono hi h1, seqT_mono hi h2, by rw [paired_len p1, paired_len p2]; exact sz16 hz, fun e => by
  subst e
  cases p1
  exact q (.ref b) Hm H1 (Xt.refl hi) ⟨b, us, rfl, h2, p2⟩, fun _ e => by
  subst e
  cases p2
  rw [List.append_nil] at q
  exact q (.ref a) Hm H1 (Xt.refl hi) ⟨a, vs, rfl, h1, p1⟩, fun _ _ p np => q (.ref p) _ _ (Xt.new hi np) ⟨p, _, rfl, .inl (.inl upd_same), paired_mono R (Xt.new hi np).s (paired_app p1 p2)⟩⟩
end
end NJ

set_option Elab.async false
set_option linter.all false
set_option maxRecDepth 100000
set_option maxHeartbeats 4000000
/-! Objects made in a try's body; except clauses with and without a name; exceptions with a field. -/
namespace NJ
open PySem PySem.Spec PyProof.Rows L2
section
variable {X : Cx} {CX : CXT} {k : Nat} {f C : Addr} {fd : FuncData} {ps : List Str} {sp : Sp} {E : L2.St → XK} {x : Str} {p pos : Pos} {e : Expr} {es : List Expr} {t : TA}
theorem run_makeS {pins : List (Addr × Obj)} {σ : L2.St} {H : Hp} {s : Shared} {Q : VK} {us : List Value} {vs : List V} (M : Mk X.K C f) (F : FnOk X.prog X.w X.K X.mg X.base CX k f fd ps sp) (hr : Room (k + 1) X.A) (hb : Binds X.K fd ps [])
    (hx : PassesAt CX X σ (E σ)) (I : Inv X pins σ H s) (r : Vals vs us)
    (h : ∀ x dx, H x = none → H dx = none → dx ≠ x → sp (.ref x :: vs) (upd (upd H dx (.own x)) x (.ins C dx [])) (fun v H2 => v = .non ∧ Q (.ref x) H2) (E σ)) :
    wpAny (model X.prog X.w) X.A (call (.ref C) us) (EP X pins σ Q) X.xe s := by
  have hq := h (s.heap.objs.size + 1) s.heap.objs.size (I.hok.fresh (Nat.le_succ _)) (I.hok.fresh (Nat.le_refl _)) (Nat.ne_of_lt (Nat.lt_succ_self _))
  have I2 := Inv.made (C := C) I
  have r2 : Vals (V.ref (s.heap.objs.size + 1) :: vs) (Value.ref (s.heap.objs.size + 1) :: us) := .cons rfl r
  have hl : (Value.ref (s.heap.objs.size + 1) :: us).length = ps.length := by
    have e := r2.length
    rw [F.len _ _ _ _ hq] at e
    exact e.symm
  have e0 := I2.env0.make C us []
  refine wpAny_call (make_map (f := f) I.kIn M.makes M.init (beq_iff_eq.mp M.fn) (codeAny_mono (F.run _ X.stack _ _ ⟨Value.ref (s.heap.objs.size + 1) :: us, []⟩ (Value.ref (s.heap.objs.size + 1) :: us) _ _ (E σ) (hr.make C us [])
    e0 (by
      have z := hb _ (Value.ref (s.heap.objs.size + 1) :: us) I2.kIn (by simpa using hl)
      simpa using z) r2 hq) fun r s' hq' => ?_))
  cases r with
  | error e => exact hx pins _ _ e s' I2 hq'
  | ok fl =>
    cases fl with
    | ret u =>
      obtain ⟨v, H', I3, rv, ev, q3⟩ := I2.after hq'
      subst ev
      exact ⟨rv, ⟨V.ref (s.heap.objs.size + 1), H', I3, rfl, q3⟩⟩
    | next => exact False.elim hq'
    | brk => exact False.elim hq'
    | cont => exact False.elim hq'
def tMakeS (C : Addr) (sp : Sp) (E : L2.St → XK) (t : TA) : TE := fun σ H Q => t σ H fun vs H1 => ∀ x dx, H1 x = none → H1 dx = none → dx ≠ x →
  sp (.ref x :: vs) (upd (upd H1 dx (.own x)) x (.ins C dx [])) (fun v H2 => v = .non ∧ Q (.ref x) H2) (E σ)
theorem pe_makeS (M : Mk X.K C f) (F : FnOk X.prog X.w X.K X.mg X.base CX k f fd ps sp) (hr : Room (k + 1) X.A) (hg : Gl X x) (hm : X.mg x = some (.ref C)) (hb : Binds X.K fd ps []) (hx : ∀ σ, PassesAt CX X σ (E σ))
    (ha : PA X (e :: es) t) (hdb : (x == ("__debug__" : Str)) = false := by decide) (he : starEach (e :: es) X.env = (false, eval e X.env) :: starEach es X.env := by rfl) (hpl : (backTo pos (starEach es X.env)).any (·.1) = false := by rfl) :
    PE X (.Call (.Name x p) (e :: es) [] pos) (tMakeS C sp E t) := by
  refine ⟨fun pins s σ H Q I h => ?_⟩
  refine wpAny_Call_Name_kw (ld_glob I hg hm ?_ hdb)
  refine PySem.W.callWith_K (h₀ := X.base) I.ok.mod.kin M.kp (thn (ha.run pos pins s σ H _ I h) fun us s1 ⟨vs, H1, I1, r, q⟩ => ⟨I1.kIn, ?_⟩) he hpl
  exact run_makeS M F hr hb (hx σ) I1 r q
end
/-! ### several except clauses, with names and without -/
/-- without the slot of the clause's name -/
def Das (D : Ends) (i : Nat) : Ends := { nx := fun σ' H' => D.nx (σ'.set i none) H', rt := D.rt, bk := fun σ' H' => D.bk (σ'.set i none) H', ct := fun σ' H' => D.ct (σ'.set i none) H' }
abbrev Cls1 := Value × Option Nat × (Addr → Value → Option Addr → TS)
def wMany2 (K : PySem.W.Frag) (Wout : WX) (D : Ends) : List Cls1 → WX
  | [] => Wout
  | (c, none, ts) :: r => fun cls d σ H => ∃ b, PySem.W.exmOne K cls c = some b ∧ (b = true → ∀ a, H a = none → ts a cls d D σ H) ∧ (b = false → wMany2 K Wout D r cls d σ H)
  | (c, some i, ts) :: r => fun cls d σ H => ∃ b, PySem.W.exmOne K cls c = some b ∧ (b = true → ∀ a, H a = none → ts a cls d (Das D i) (σ.set i (some (.ref a))) H) ∧ (b = false → wMany2 K Wout D r cls d σ H)
inductive Hds2 (X : Cx) : List ExceptHandler → List Cls1 → Prop
  | nil : Hds2 X [] []
  | plain {x : Str} {c : Value} {ts : Addr → Value → Option Addr → TS} {b₀ : Stmt} {suite : List Stmt} {np pos' : Pos} {hds : List ExceptHandler} {l : List Cls1} (hc : Names X x c)
      (hsu : ∀ (a : Addr) (oe : Obj) (cls : Value) (d : Option Addr) (pn : List (Addr × Obj)), Zc cls d oe → (∃ vs, oe.data = .fields vs) → PSs (X.suite a ((a, oe) :: pn)) (b₀ :: suite) (ts a cls d)) (r : Hds2 X hds l) :
      Hds2 X (.ExceptHandler (some (.Name x np)) none (b₀ :: suite) pos' :: hds) ((c, none, ts) :: l)
  | named {x n : Str} {c : Value} {i : Nat} {ts : Addr → Value → Option Addr → TS} {b₀ : Stmt} {suite : List Stmt} {np pos' : Pos} {hds : List ExceptHandler} {l : List Cls1} (hi : X.N[i]? = some n) (hln : X.env.kindOf n = some .local) (hc : Names X x c)
      (hsu : ∀ (a : Addr) (oe : Obj) (cls : Value) (d : Option Addr) (pn : List (Addr × Obj)), Zc cls d oe → (∃ vs, oe.data = .fields vs) → PSs (X.suite a ((a, oe) :: pn)) (b₀ :: suite) (ts a cls d)) (r : Hds2 X hds l) :
      Hds2 X (.ExceptHandler (some (.Name x np)) (some n) (b₀ :: suite) pos' :: hds) ((c, some i, ts) :: l)
section
variable {X : Cx} {body : List Stmt} {h₀ : ExceptHandler} {hds : List ExceptHandler} {l : List Cls1} {pos : Pos} {tb : WX → TS} {Wout : WX}
theorem ps_try2 (hs : X.stack = X.env :: X.outer) (hf : X.env.frame = some X.env.locals) (hN : X.N.Nodup) (tk : Takes X Wout)
    (hb : ∀ (W : WX) (pn : List (Addr × Obj)) (xe : Value → Shared → Prop), Takes (X.tr pn xe) W → PassesOwn (model X.prog X.w) X.A X.env xe → PSs (X.tr pn xe) body (tb W))
    (hh : Hds2 X (h₀ :: hds) l) : PS X (.Try body (h₀ :: hds) [] [] pos) (fun D σ H => tb (wMany2 X.K Wout D l) D σ H) := by
  refine ⟨fun pins s σ H D I h => ?_⟩
  have ok := I.ok
  have hfr : X.A.frames = some (X.env :: X.outer) := by rw [ok.frames, hs]
  refine wpAny_Try_except ?_
  refine wpAny_mono ((hb (wMany2 X.K Wout D l) (X.pn ++ pins) (fun e s₁ => wpAny (model X.prog X.w) X.A (noteFrame e X.env) (fun _ s₂ => wpAny (model X.prog X.w) X.A (setFlight e none) (fun _ s₃ =>
    wpAny (model X.prog X.w) X.A (handleBy e X.env (h₀ :: hds)) (SP X pins D) X.xe s₃) X.xe s₂) X.xe s₁) (fun u s' xx => ?_) PassesOwn.looking).run [] s σ H D (I.toTry _) h) (fun f s1 hsp => ?_) (fun e s1 he => he)
  · obtain ⟨a, B, sI, pins', σ', H', cls, d, rfl, J', nb, up, sky, na, os, ag, w⟩ := xx
    have J : Inv X pins σ' H' sI := J'.ofTry ok
    have sky' : Sky B (X.env :: X.outer) a (Zc cls d) X.env.locals s'.heap := by rw [← hs]; exact sky
    show wpAny (model X.prog X.w) X.A (noteFrame (.ref a) X.env) _ _ _
    refine Sky.land Zc.steady hfr hf sky' fun h3 fl3 up3 => ?_
    have J3 : Inv X pins σ' H' { s' with heap := h3 } := J.landed nb fl3.1 (up.trans up3) os ag
    obtain ⟨oe3, vs3, he3, hz3, hd3⟩ := fl3.there
    have notFr : ∀ {h : Heap} {o : Obj} {vs : Array Value}, h.FunFrames B (X.env :: X.outer) → h.get? a = some o → o.data = .fields vs → a ∉ frs (X.env :: X.outer) := fun {h o vs} ff e dd hm => by
      obtain ⟨_, o', e', hnf⟩ := ff.mem hm
      rw [e] at e'; cases e'
      exact hnf _ dd
    have nfr := notFr fl3.2.2.1 he3 hd3
    have nL : a ≠ X.env.locals := fun z => nfr (List.mem_filterMap.mpr ⟨X.env, List.mem_cons_self, by rw [hf, z]⟩)
    have nF : a ∉ X.fs := fun hm => by
      obtain ⟨e, he, q⟩ := List.mem_filterMap.mp hm
      exact nfr (List.mem_filterMap.mpr ⟨e, List.mem_cons_of_mem _ he, q⟩)
    have S3 := J3.suite he3 hd3 na nL nF
    have go : ∀ {hds' : List ExceptHandler} {l' : List Cls1}, Hds2 X hds' l' → wMany2 X.K Wout D l' cls d σ' H' →
        wpAny (model X.prog X.w) X.A (handleBy (.ref a) X.env hds') (SP X pins D) X.xe { s' with heap := h3 } := by
      intro hds' l' hk
      induction hk with
      | nil =>
        intro w
        refine wpAny_handleBy_nil ?_
        obtain ⟨k1, k2, k3, oe, vs, T, oT, ts', he, hz, hd, h1, hr⟩ := id fl3
        unfold PySem.passOn
        refine wpAny_bind (wpAny_field he hd h1 ?_)
        rw [if_neg (show ¬ ((Value.ref T == Value.none) = true) from by simp)]
        have fin : wpAny (model X.prog X.w) X.A (setFlight (.ref a) X.env.frame) (fun _ s4 => wpAny (model X.prog X.w) X.A (throw (.ref a) : Sem Flow) (SP X pins D) X.xe s4) X.xe { s' with heap := h3 } := by
          rw [hf]
          refine HandSPX.setFlight_upZ fl3 fun h4 hh4 up4 => wpAny_throw (tk _ _ ?_)
          exact ⟨a, B, sI, pins, σ', H', cls, d, rfl, J, nb, (up.trans up3).trans up4, .inr (.inr (by rw [hs]; exact hh4)), na, os, ag, w⟩
        first
          | exact wpAny_bind (wpAny_pure (wpAny_bind fin))
          | exact wpAny_bind fin
      | @plain x c ts b₀ suite np pos' hds2 l2 hc hsu r ih =>
        intro w
        obtain ⟨b, hb1, hyes, hno⟩ := w
        refine wpAny_handleBy_cons (codeAny_handlers_test ?_) (by intro q; cases q)
        have LT : PySem.W.Looks (model X.prog X.w) h3 (typeOf (.ref a)) cls := fun A Q E s k q => wpAny_typeOf_ref (k _ _ he3) (by rw [hz3.1]; exact q)
        have LM := PySem.W.exm_one (M := model X.prog X.w) (J3.kIn) LT hb1
        have test : ∀ {Q : Value → Shared → Prop} {E : Value → Shared → Prop}, Q c { s' with heap := h3 } → wpAny (model X.prog X.w) (X.A.mark (some (.ref a))) (eval (.Name x np) X.env) Q E { s' with heap := h3 } := fun {Q E} q => by
          obtain ⟨hg, hdbg, hm | ⟨hm, hv, hnn⟩⟩ := hc
          · exact ld_glob (X := X.suite a ((a, oe3) :: (X.pn ++ pins))) S3 hg hm q hdbg
          · exact ld_blt (X := X.suite a ((a, oe3) :: (X.pn ++ pins))) S3 hg hm hv q hnn hdbg
        refine test (LM.here ?_)
        cases b with
        | true =>
          refine codeAny_handlers_suite ?_
          refine HandSPX.lands_againZ fl3 fun h4 fl4 up4 => ?_
          have J4 : Inv X pins σ' H' { s' with heap := h4 } := J.landed nb fl4.1 ((up.trans up3).trans up4) os ag
          obtain ⟨oe4, vs4, he4, hz4, hd4⟩ := fl4.there
          have S4 := J4.suite he4 hd4 na nL nF
          refine wpAny_mono ((hsu a oe4 cls d (X.pn ++ pins) hz4 ⟨_, hd4⟩).run [] _ _ H' _ S4 (hyes rfl a na)) (fun f s6 hsp => ?_) (fun _ _ z => False.elim z)
          cases f with
          | next =>
            obtain ⟨σ6, H6, S6, q6⟩ := hsp
            exact ⟨_, _, S6.unsuite ok, q6⟩
          | brk =>
            obtain ⟨σ6, H6, S6, q6⟩ := hsp
            exact ⟨_, _, S6.unsuite ok, q6⟩
          | cont =>
            obtain ⟨σ6, H6, S6, q6⟩ := hsp
            exact ⟨_, _, S6.unsuite ok, q6⟩
          | ret u =>
            obtain ⟨v6, σ6, H6, S6, r6, q6⟩ := hsp
            exact ⟨_, _, _, S6.unsuite ok, r6, q6⟩
        | false =>
          show wpAny _ X.A (handleBy (.ref a) X.env hds2) _ _ _
          exact ih (hno rfl)
      | @named x n c i ts b₀ suite np pos' hds2 l2 hi hln hc hsu r ih =>
        intro w
        obtain ⟨b, hb1, hyes, hno⟩ := w
        have hloc : Loc X.env.scope n := .inl hln
        refine wpAny_handleBy_cons (codeAny_handlers_test ?_) (by intro q; cases q)
        have LT : PySem.W.Looks (model X.prog X.w) h3 (typeOf (.ref a)) cls := fun A Q E s k q => wpAny_typeOf_ref (k _ _ he3) (by rw [hz3.1]; exact q)
        have LM := PySem.W.exm_one (M := model X.prog X.w) (J3.kIn) LT hb1
        have test : ∀ {Q : Value → Shared → Prop} {E : Value → Shared → Prop}, Q c { s' with heap := h3 } → wpAny (model X.prog X.w) (X.A.mark (some (.ref a))) (eval (.Name x np) X.env) Q E { s' with heap := h3 } := fun {Q E} q => by
          obtain ⟨hg, hdbg, hm | ⟨hm, hv, hnn⟩⟩ := hc
          · exact ld_glob (X := X.suite a ((a, oe3) :: (X.pn ++ pins))) S3 hg hm q hdbg
          · exact ld_blt (X := X.suite a ((a, oe3) :: (X.pn ++ pins))) S3 hg hm hv q hnn hdbg
        refine test (LM.here ?_)
        cases b with
        | true =>
          refine codeAny_handlers_suite_as ?_
          refine HandSPX.lands_againZ fl3 fun h4 fl4 up4 => ?_
          have J4 : Inv X pins σ' H' { s' with heap := h4 } := J.landed nb fl4.1 ((up.trans up3).trans up4) os ag
          obtain ⟨oe4, vs4, he4, hz4, hd4⟩ := fl4.there
          have S4 := J4.suite he4 hd4 na nL nF
          refine store_ok (X := X.suite a ((a, oe4) :: (X.pn ++ pins))) (v := .ref a) S4 hN hi hloc rfl (fun s5 S5 => ?_) (.inr hln)
          refine wpAny_mono ((hsu a oe4 cls d (X.pn ++ pins) hz4 ⟨_, hd4⟩).run [] s5 _ H' _ S5 (hyes rfl a na)) (fun f s6 hsp => ?_) (fun _ _ z => False.elim z)
          have end_ : ∀ {σ6 : L2.St} {H6 : Hp} {Q : Shared → Prop}, Inv (X.suite a ((a, oe4) :: (X.pn ++ pins))) [] σ6 H6 s6 → (∀ s7, Inv X pins (σ6.set i none) H6 s7 → Q s7) →
              wpAny (model X.prog X.w) X.A (do bindName X.env n .none; unbindBehindTheSuite X.env n pos') (fun _ s7 => Q s7) X.xe s6 := fun {σ6 H6 Q} S6 hq => gone_ok (S6.unsuite ok) hN hi hln hq
          cases f with
          | next =>
            obtain ⟨σ6, H6, S6, q6⟩ := hsp
            exact end_ S6 fun s7 J7 => ⟨_, _, J7, q6⟩
          | brk =>
            obtain ⟨σ6, H6, S6, q6⟩ := hsp
            exact end_ S6 fun s7 J7 => ⟨_, _, J7, q6⟩
          | cont =>
            obtain ⟨σ6, H6, S6, q6⟩ := hsp
            exact end_ S6 fun s7 J7 => ⟨_, _, J7, q6⟩
          | ret u =>
            obtain ⟨v6, σ6, H6, S6, r6, q6⟩ := hsp
            exact end_ S6 fun s7 J7 => ⟨_, _, _, J7, r6, q6⟩
        | false =>
          show wpAny _ X.A (handleBy (.ref a) X.env hds2) _ _ _
          exact ih (hno rfl)
    exact go hh w
  · cases f with
    | next =>
      obtain ⟨σ', H', J', q⟩ := hsp
      exact wpAny_execs_nil ⟨σ', H', J'.ofTry ok, q⟩
    | brk =>
      obtain ⟨σ', H', J', q⟩ := hsp
      exact ⟨σ', H', J'.ofTry ok, q⟩
    | cont =>
      obtain ⟨σ', H', J', q⟩ := hsp
      exact ⟨σ', H', J'.ofTry ok, q⟩
    | ret u =>
      obtain ⟨v, σ', H', J', r, q⟩ := hsp
      exact ⟨v, σ', H', J'.ofTry ok, r, q⟩
end
/-! ### an exception's own field -/
/-- __init__(self, y): self.f = y -/
def spFld (C : Addr) (f : Str) : Sp := fun vs H Q _ => ∃ (a : Addr) (y : V), vs = [.ref a, y] ∧ H a = some (exo a C none) ∧ ∀ dx, H dx = none → dx ≠ a → Q .non (upd (upd H dx (exd dx [(f, y)])) a (exo a C (some dx)))
/-- what raise C(y) tells -/
theorem mko_fld {C : Addr} {f : Str} {σ : L2.St} {Hm H1 : Hp} {α : Type} {R : Rp α} {d : α} {te : TE} {W : XK} (h : Ev te σ Hm R d) (hi : Same Hm H1) (q : ∀ dd y Hm' H2, Xt Hm H1 Hm' H2 → Hm' dd = some (.xd [(f, y)]) → R.rel Hm' y d → W (.ref C) (some dd) H2) : tMkO C (spFld C f) [] (tCons te tNil) σ H1 W :=
  h H1 hi _ fun y K2 H2 x2 r => ⟨by show 1 ≤ 1000; decide, fun a na => ⟨a, y, rfl, upd_same, fun dx nx ne => ⟨rfl, dx, [(f, y)], upd_same, by rw [upd_ne ne, upd_same], by rw [upd_ne ne] at nx; exact nx, by
    rw [upd_ne ne] at nx
    have e : upd (del (upd (upd (upd H2 a (exo a C none)) dx (exd dx [(f, y)])) a (exo a C (some dx))) a) dx (.xd [(f, y)]) = upd H2 dx (.xd [(f, y)]) := by
      funext b
      by_cases hb : b = dx
      · subst hb
        rw [upd_same, upd_same]
      · rw [upd_ne hb, upd_ne hb]
        by_cases hc : b = a
        · subst hc
          rw [del_same]
          exact na.symm
        · rw [del_ne hc, upd_ne hc, upd_ne hb, upd_ne hc]
    rw [e]
    exact q dx y _ _ (xt_ref x2 nx) upd_same (R.mono (Xt.new x2.i nx).s r)⟩⟩⟩
end NJ

set_option Elab.async false
set_option linter.all false
set_option maxRecDepth 100000
set_option maxHeartbeats 8000000
/-! set(tuple of arrows), each arrow once; the answers of two defs compared. -/
namespace NJ
open PySem PySem.Spec PyProof.Rows L2
open PySem.W (EachIs AllAlike Sortable dataLe dataLe_eq)
section
variable {P : Program} {w : World} {A : Around} {E : Value → Shared → Prop} {s : Shared}
set_option maxHeartbeats 16000000 in
end
section
variable {X : Cx}
end
section
variable {P : Program} {w : World} {σ : L2.St} {Hm : Hp} {K : PySem.W.Frag} {te : TE}
end
end NJ

set_option Elab.async false
set_option linter.all false
set_option maxRecDepth 100000
set_option maxHeartbeats 4000000
/-! t[::-1] of a tuple, t[-1]. -/
namespace NJ
open PySem PySem.Spec PyProof.Rows L2
section
variable {prog : Program} {w : World} {A : Around} {E : Value → Shared → Prop} {s : Shared}
theorem adjust_rev (n : Nat) : Builtin.Slice.sliceAdjust none none (-1) (n : Int) = ((n : Int) - 1, -1) := by
  unfold Builtin.Slice.sliceAdjust
  have h1 : ((-1 : Int) < 0) := by decide
  simp [h1]
theorem places_rev (n : Nat) : Builtin.Slice.slicePlaces ((n : Int) - 1) (-1) (-1) = n := by
  unfold Builtin.Slice.slicePlaces
  have h1 : ¬ ((-1 : Int) > 0) := by decide
  simp only [h1, if_false]
  split
  · rw [show (- (-1 : Int)) = 1 from rfl, Int.ediv_one]
    omega
  · omega
theorem fm_congr {α β : Type} {f g : α → Option β} : ∀ {l : List α}, (∀ x ∈ l, f x = g x) → l.filterMap f = l.filterMap g
  | [], _ => rfl
  | a :: l, h => by
    have h1 := h a List.mem_cons_self
    have h2 := fm_congr (l := l) fun x hx => h x (List.mem_cons_of_mem _ hx)
    rw [List.filterMap_cons, List.filterMap_cons, h1, h2]
theorem sliceApplied_rev {sl : Addr} {vs : Value} {n : Nat} {Q : Int × Int × Nat → Shared → Prop} (hs : s.heap.IsSliceOf sl .none .none vs) (ps : IsPart vs (some (-1)))
    (h : Q ((n : Int) - 1, -1, n) s) : wpAny (model prog w) A (Builtin.Slice.sliceApplied (.ref sl) (pure (n : Int))) Q E s := by
  obtain ⟨os, hos, hcs, hds⟩ := id hs
  unfold Builtin.Slice.sliceApplied Builtin.Slice.sliceFields
  refine wpAny_bind (wpAny_bind (wpAny_field hos hds (x := .none) rfl (wpAny_bind (wpAny_field hos hds (x := .none) rfl (wpAny_bind (wpAny_field hos hds (x := vs) rfl (wpAny_pure ?_)))))))
  refine wpAny_bind (HT.slicePart_ ps ?_)
  show wpAny _ _ (if ((-1 : Int) == 0) = true then _ else _) _ _ s
  rw [if_neg (by decide)]
  refine wpAny_bind (slicePart_none (wpAny_bind (slicePart_none (wpAny_bind (wpAny_pure ?_)))))
  show wpAny _ _ (match Builtin.Slice.sliceAdjust none none (-1) (n : Int) with | (lo, hi) => pure (lo, (-1 : Int), Builtin.Slice.slicePlaces lo hi (-1))) _ _ s
  rw [adjust_rev n]
  show wpAny _ _ (pure ((n : Int) - 1, (-1 : Int), Builtin.Slice.slicePlaces ((n : Int) - 1) (-1) (-1))) _ _ s
  rw [places_rev]
  exact wpAny_pure h
theorem pick_rev (xs : Array Value) : ((List.range xs.size).filterMap fun (m : Nat) => xs[((xs.size : Int) - 1 + (m : Int) * (-1)).toNat]?).toArray = xs.toList.reverse.toArray := by
  have e : ∀ m ∈ List.range xs.size, xs[((xs.size : Int) - 1 + (m : Int) * (-1)).toNat]? = xs.toList.reverse.toArray[m]? := fun m hm => by
    have hm := List.mem_range.mp hm
    have h1 : ((xs.size : Int) - 1 + (m : Int) * (-1)).toNat = xs.size - 1 - m := by omega
    rw [h1]
    simp
    rw [List.getElem?_reverse (by simpa using hm)]
    simp
  have h2 : (List.range xs.size).filterMap (fun (m : Nat) => xs[((xs.size : Int) - 1 + (m : Int) * (-1)).toNat]?) = (List.range xs.size).filterMap (fun m => xs.toList.reverse.toArray[m]?) := fm_congr e
  rw [h2]
  have h3 := PySem.W.krv_all xs.toList.reverse.toArray
  have h4 : xs.toList.reverse.toArray.size = xs.size := by simp
  rw [h4] at h3
  exact congrArg List.toArray h3
theorem getItem_tuple_rev {t sl : Addr} {items : Array Value} {vs : Value} {Q : Value → Shared → Prop} (ht : IsTup s.heap t items) (hs : s.heap.IsSliceOf sl .none .none vs) (ps : IsPart vs (some (-1)))
    (h : Q (.ref s.heap.objs.size) { s with heap := s.heap.push { cls := .type "tuple", data := .seq items.toList.reverse.toArray } })
    (hsz : items.size ≤ sizeLine) : wpAny (model prog w) A (getItem (.ref t) (.ref sl)) Q E s := by
  have htake : sizeOk (.seq items.toList.reverse.toArray) := by
    show items.toList.reverse.toArray.size ≤ sizeLine
    rw [List.size_toArray, List.length_reverse, Array.length_toList]
    exact hsz
  obtain ⟨os, hos, hcs, hds⟩ := id hs
  have hTs : s.TypeIs (.ref sl) "slice" := ⟨os, hos, hcs⟩
  unfold getItem
  try with_reducible refine wpAny_holding ?_
  first | refine wpAny_bind (wpAny_pure ?_) | skip
  refine wpAny_bind (wpAny_sequenceKey ht.typeIs (by decide) ?_)
  refine wpAny_bind (wpAny_callSpecial?_slot (name := Str.ofString "__getitem__") ht.typeIs PyProof.Rows.slot_tuple_getitem
    (wpAny_call_entry PyProof.Rows.slot_tuple_getitem ht.typeIs entry_tuple_getitem ?_ (args_tuple_getitem _ _)))
  show wpAny _ _ (Builtin.Tuple.tupleItemsOf (.ref t) >>= _) _ _ s
  refine wpAny_bind (tupleItemsOf_ ht ?_)
  refine wpAny_bind (wpAny_typeOf hTs ?_)
  rw [if_pos (by decide)]
  refine wpAny_bind (sliceApplied_rev hs ps ?_)
  have hno : ¬ ((((items.size : Int) - 1) == 0 && (-1 : Int) == 1 && items.size == items.size) = true) := by
    intro q
    rw [Bool.and_eq_true, Bool.and_eq_true] at q
    have := eq_of_beq q.1.2
    omega
  show wpAny _ _ (if (((items.size : Int) - 1) == 0 && (-1 : Int) == 1 && items.size == items.size) = true then _ else _) _ _ s
  rw [if_neg hno, pick_rev]
  first
    | exact wpAny_bind (m := Builtin.Tuple.tupleExact _) (wpAny_newObj_type (wpAny_pure ⟨_, rfl, wpAny_pure h⟩) htake)
    | exact wpAny_bind (m := Builtin.Tuple.tupleExact _) (wpAny_newObj_type (wpAny_bind (wpAny_pure (wpAny_pure ⟨_, rfl, wpAny_pure h⟩))) htake)
    | exact wpAny_bind (wpAny_bind (m := Builtin.Tuple.tupleExact _) (wpAny_newObj_type (wpAny_pure (wpAny_pure ⟨_, rfl, wpAny_pure h⟩)) htake))
    | exact wpAny_bind (wpAny_bind (m := Builtin.Tuple.tupleExact _) (wpAny_newObj_type (wpAny_pure ⟨_, rfl, wpAny_pure h⟩) htake))
end
/-! ### t[::-1] -/
def tRevT (K : PySem.W.Frag) (te : TE) : TE := fun σ H Q => te σ H fun x H1 => ∃ a xs, x = .ref a ∧ SqT K H1 a xs ∧ ∀ p, H1 p = none → Q (.ref p) (upd H1 p (.tup xs.reverse))
theorem pe_revT {X : Cx} {e : Expr} {te : TE} {k : Nat} {p1 p2 p3 pos : Pos} (he : PE X e te) : PE X (.Subscript e (.Slice none none (some (.UnaryOp .USub (.Constant (.int 1) k p1) p2)) p3) pos) (tRevT X.K te) := by
  refine ⟨fun pins s σ H Q I h => ?_⟩
  refine Subscript_ (thn (he.run pins s σ H _ I h) fun v s1 ⟨x, H1, I1, r1, q1⟩ => ?_)
  obtain ⟨a, xs, ex, hx, q⟩ := q1
  subst ex
  cases r1
  have hst : PO X (some (.UnaryOp .USub (.Constant (.int 1) k p1) p2)) (tPart (tUn (rU fun i => .int (-i)) (tC (.int 1)))) := po_some (pe_un un_neg pe_int)
  refine wpAny_Slice (thn (po_none.run pins s1 σ H1 (fun o H2 => o = none ∧ H2 = H1) I1 ⟨rfl, rfl⟩) fun vl s2 ⟨l, H2, I2, pl, el, e2⟩ => ?_)
  subst el e2
  refine thn (po_none.run pins s2 σ H2 (fun o H3 => o = none ∧ H3 = H2) I2 ⟨rfl, rfl⟩) fun vu s3 ⟨u, H3, I3, pu, eu, e3⟩ => ?_
  subst eu e3
  refine thn (hst.run pins s3 σ H3 (fun o H4 => o = some (-1) ∧ H4 = H3) I3 ⟨1, rfl, -1, rfl, rfl, rfl⟩) fun vs s4 ⟨o, H4, I4, ps, eo, e4⟩ => ?_
  subst eo e4
  cases pl
  cases pu
  have I5 : Inv X pins σ H4 { s4 with heap := s4.heap.push { cls := .type "slice", data := .fields #[.none, .none, vs] } } := I4.kept (t' := s4.toks) fun b ob q => Heap.get?_push_of_some _ q
  obtain ⟨its, r, ht, hz⟩ := I5.tuple hx
  have hlen := r.length
  show wpAny (model X.prog X.w) X.A (subscriptTail e (.Slice none none (some (.UnaryOp .USub (.Constant (.int 1) k p1) p2)) p3) (.ref a) (.ref s4.heap.objs.size)) (EP X pins σ Q) X.xe { s4 with heap := s4.heap.push { cls := .type "slice", data := .fields #[.none, .none, vs] } }
  refine tail_any (ops := [.ref a, .ref s4.heap.objs.size]) ht.typeIs (slot_tuple_getitem.lookup) ?_ (by with_unfolding_all rfl)
  refine getItem_tuple_rev ht (Heap.IsSliceOf.new _ .none .none vs) ps ?_ (by rw [List.size_toArray]; omega)
  refine ⟨.ref _, _, I5.laid (t' := s4.toks) (o := .tup xs.reverse) (fun b ob q => Heap.get?_push_of_some _ q) (Nat.le_refl _) ?_, rfl, q _ (I5.hok.fresh (Nat.le_refl _))⟩
  refine ⟨by rw [List.length_reverse]; exact hz, its.reverse, r.reverse, ⟨_, Heap.get?_push_size _ rfl, rfl, 0, by simp⟩⟩
section
variable {σ : L2.St} {Hm : Hp} {K : PySem.W.Frag} {α : Type} {R : Rp α} {te : TE}
theorem ev_revT {xs : List α} (h : Ev te σ Hm (rT K R) xs) : Ev (tRevT K te) σ Hm (rT K R) xs.reverse := fun H1 hi Q q => h H1 hi _ fun v K2 H2 x2 ⟨a, vs, e, hS, hP⟩ => ⟨a, vs, e, seqT_mono x2.i hS, fun p np => q (.ref p) _ _ (xt_ref x2 np) ⟨p, vs.reverse, rfl, .inl (.inl upd_same), paired_mono R (Xt.new x2.i np).s (paired_rev hP)⟩⟩
end
end NJ

set_option Elab.async false
set_option linter.all false
set_option maxRecDepth 100000
set_option maxHeartbeats 4000000
/-! for .. in d.items(), d with tuple keys. -/
namespace NJ
open PySem PySem.Spec PyProof.Rows L2
section
variable {X : Cx} {pins : List (Addr × Obj)} {σ : L2.St} {H : Hp} {s : Shared} {d : Addr} {o : Obj}
end
section
variable {P : Program} {w : World} {K : PySem.W.Frag} {d : Addr} {o : Obj} {es : Array DictEntry} {ep : Nat}
end
section
variable {X : Cx} {tg e : Expr} {td : TE} {apos cpos : Pos}
end
end NJ

set_option Elab.async false
set_option linter.all false
set_option maxRecDepth 100000
set_option maxHeartbeats 4000000
/-! A list made of a locked dict's items. -/
namespace NJ
open PySem PySem.Spec PyProof.Rows L2
section
variable {σ : L2.St} {Hm : Hp} {K : PySem.W.Frag} {α β : Type} {S : Rp β} {te : TE}
end
section
variable {σ : L2.St} {Hm H : Hp} {K : PySem.W.Frag}
end
end NJ

set_option Elab.async false
set_option linter.all false
set_option maxRecDepth 100000
set_option maxHeartbeats 4000000
/-! [{} for _ in ..]: dicts of one's own. -/
namespace NJ
open PySem PySem.Spec PyProof.Rows L2
section
variable {σ : L2.St} {Hm : Hp} {α : Type} {R : Rp α}
structure Cdd (K2 H2 : Hp) (D : Addr) (ds : List Addr) (Ki H' : Hp) : Prop where
  s : Same K2 Ki
  i : Same Ki H'
  k : Same H2 H'
  f : ∀ p, Ki p ≠ none → K2 p ≠ none ∨ H2 p = none
  n : Ki D = none
  at_ : H' D = some (.lst (ds.map V.ref))
  nd : ds.Nodup
  e : ∀ d ∈ ds, Ki d = none ∧ H2 d = none ∧ d ≠ D ∧ H' d = some (.dK [])
end
/-! ### a dict as a set of ints -/
def bm (ks : List Int) : List (Key × V) := ks.map fun m => (.inl m, .bl true)
end NJ

set_option Elab.async false
set_option linter.all false
set_option maxRecDepth 100000
set_option maxHeartbeats 4000000
/-! reversed(range(n)), a locked dict's keys. -/
namespace NJ
open PySem PySem.Spec PyProof.Rows L2
section
variable {σ : L2.St} {Hm : Hp} {te : TE}
end
section
variable {td : TE} {g : TG} {t1 tz : TS} {D : Ends} {σ : L2.St} {H : Hp} {d : Addr} {kvs : List (Key × V)}
end
end NJ

set_option Elab.async false
set_option linter.all false
set_option maxRecDepth 100000
set_option maxHeartbeats 4000000
/-! {t: v}, t a tuple; tuple(range(n)); the keys of a locked dict with tuple keys. -/
namespace NJ
open PySem PySem.Spec PyProof.Rows L2
section
variable {td : TE} {g : TG} {t1 tz : TS} {D : Ends} {σ : L2.St} {H : Hp} {d : Addr} {kvs : List (List Key × V)}
end
end NJ

set_option Elab.async false
set_option linter.all false
set_option maxRecDepth 100000
set_option maxHeartbeats 4000000
/-! text * int. -/
namespace NJ
open PySem PySem.Spec PyProof.Rows L2
/-- a text so many times -/
def rp (l : T8) : Nat → T8
  | 0 => []
  | k + 1 => rp l k ++ l
theorem rp_len (l : T8) : ∀ k, (rp l k).length = k * l.length
  | 0 => by simp [rp]
  | k + 1 => by
    show (rp l k ++ l).length = _
    rw [List.length_append, rp_len l k, Nat.succ_mul]
abbrev rMulS : R2 := fun x y H Q => ∃ i n, x = .str i ∧ y = .int n ∧ MulOk i n ∧ Q (.str (Txt.mul i n)) H
theorem op_mulS {X : Cx} : OpR X (binaryOp .Mult) rMulS := by
  intro pins s σ H x y v u Q I rx ry h
  obtain ⟨i, n, rfl, rfl, ok, q⟩ := h
  obtain ⟨t, rfl⟩ := rx
  obtain ⟨t', rfl⟩ := ry
  exact SB.mul ok (fun t' tk => ⟨.str (Txt.mul i n), H, I.tok _, ⟨_, rfl⟩, q⟩)
theorem foldl_rp (a : Array Nat) (l : T8) : ∀ k, (List.replicate k l.toArray).foldl (· ++ ·) a = a ++ (rp l k).toArray
  | 0 => by simp [rp]
  | k + 1 => by
    rw [List.replicate_succ', List.foldl_append, foldl_rp a l k]
    show (a ++ (rp l k).toArray) ++ l.toArray = a ++ (rp l k ++ l).toArray
    rw [Array.append_assoc]
    simp
theorem mul_tx {l : T8} {k : Nat} (hk : 1 ≤ k) : Txt.mul (tx l) (k : Int) = tx (rp l k) := by
  unfold Txt.mul
  rw [if_neg (by omega)]
  by_cases h1 : ((k : Int) == 1 || (tx l).length == 0) = true
  · rw [if_pos h1]
    rw [Bool.or_eq_true, beq_iff_eq, beq_iff_eq] at h1
    rcases h1 with h | h
    · have : k = 1 := by omega
      rw [this]
      show tx l = tx ([] ++ l)
      rw [List.nil_append]
    · have : l = [] := by
        rw [tx_len] at h
        exact List.eq_nil_of_length_eq_zero h
      rw [this]
      have e : rp [] k = [] := List.eq_nil_of_length_eq_zero (by rw [rp_len]; simp)
      rw [e]
  · rw [if_neg h1, Int.toNat_natCast]
    have e := foldl_rp #[] l k
    have e2 : (#[] : Array Nat) ++ (rp l k).toArray = (rp l k).toArray := by simp
    rw [e2] at e
    show Str.mk _ = Str.mk _
    exact congrArg Str.mk e
theorem mulOk {l : T8} {k : Nat} (hk : 1 ≤ k) (h1 : k ≤ 1000) (h2 : l.length ≤ 10000) : MulOk (tx l) (k : Int) := by
  refine ⟨?_, fun _ _ => ?_, fun _ _ => ?_⟩
  · rw [Bool.or_eq_false_iff, decide_eq_false_iff_not, decide_eq_false_iff_not]
    omega
  · rw [tx_len]
    have hd : (10000 : Int) ≤ (2 ^ 63 - 1) / (k : Int) := by
      refine (Int.le_ediv_iff_mul_le (by omega)).mpr ?_
      omega
    omega
  · rw [tx_len, Int.toNat_natCast]
    have : l.length * k ≤ 10000 * 1000 := Nat.mul_le_mul h2 h1
    unfold Builtin.Str.tooLong
    rw [decide_eq_false_iff_not, sizeLine_eq]
    omega
theorem rv_mulS {l : T8} {k : Nat} (hk : 1 ≤ k) (h1 : k ≤ 1000) (h2 : l.length ≤ 10000) : Rv rMulS rS l rI (k : Int) rS (rp l k) := rv_now fun Hm H1 _ x y rx ry => ⟨.str (tx (rp l k)), rfl, fun Q q => ⟨tx l, (k : Int), rx, ry, mulOk hk h1 h2, by rw [mul_tx hk]; exact q⟩⟩
end NJ

set_option Elab.async false
set_option linter.all false
set_option maxRecDepth 100000
set_option maxHeartbeats 4000000
/-! range(a, b); tests known up to a property; a list of one's own as a value. -/
namespace NJ
open PySem PySem.Spec PyProof.Rows L2
def numsFrom (i : Int) (n : Nat) : List Int := (List.range n).map fun (k : Nat) => i + (k : Int)
theorem numsFrom_len (i : Int) (n : Nat) : (numsFrom i n).length = n := by
  unfold numsFrom
  rw [List.length_map, List.length_range]
theorem numsFrom_get {i : Int} {n k : Nat} (h : k < n) : (numsFrom i n)[k]? = some (i + (k : Int)) := by
  unfold numsFrom
  rw [List.getElem?_map, List.getElem?_range h] <;> rfl
section
variable {σ : L2.St} {Hm Hm' H : Hp} {α : Type} {R : Rp α} {te : TE} {t u : TT} {P : Bool → Prop} {t1 t2 tz : TS} {D : Ends}
theorem wk_rng2 {i j : Int} {ta : TA} (h : Ea ta σ Hm (a1 rI i (a1 rI j a0))) (h0 : -(2 ^ 62) ≤ i ∧ i < 2 ^ 62 ∧ -(2 ^ 62) ≤ j ∧ j < 2 ^ 62) : Wk (iRng2 ta) σ Hm rI (numsFrom i (j - i).toNat) := fun H1 hi Rk q => h H1 hi _ fun vs K2 H2 x2 ⟨v, ws, e1, e2, v2, ws2, e3, e4, e5⟩ => ⟨i, j, by rw [e1, show v = V.int i from e2, e3, show v2 = V.int j from e4, show ws2 = [] from e5], h0, q _ K2 H2 x2 fun k H3 s3 => by
  have hl := numsFrom_len i (j - i).toNat
  refine ⟨fun hi => ?_, fun hi => ?_, fun hi v H4 hy => ?_⟩
  · show k < (j - i).toNat
    omega
  · show (j - i).toNat ≤ k
    omega
  · obtain ⟨rfl, rfl⟩ := hy
    exact ⟨i + (k : Int), K2, numsFrom_get (by omega), Xt.refl s3, rfl⟩⟩
/-- a test whose answer is known up to a property -/
def EtE (t : TT) (σ : L2.St) (Hm : Hp) (P : Bool → Prop) : Prop := ∀ H1, Same Hm H1 → ∀ Q : Bool → Hp → Prop, (∀ b Hm' H2, P b → Xt Hm H1 Hm' H2 → Q b H2) → t σ H1 Q
theorem EtE.mono (s : Same Hm Hm') (h : EtE t σ Hm P) : EtE t σ Hm' P := fun H1 hi Q q => h H1 (s.trans hi) Q fun b H3 H2 p x => q b _ H2 p (Xt.lift s hi x)
theorem etE_test (h : Ev te σ Hm (rE rB P) ()) : EtE (tTest te) σ Hm P := fun H1 hi Q q => h H1 hi _ fun v K2 H2 x2 ⟨b, r, p⟩ => ⟨b, r, q b K2 H2 p x2⟩
end
end NJ

set_option Elab.async false
set_option linter.all false
set_option maxRecDepth 100000
set_option maxHeartbeats 4000000
/-! list(text). -/
namespace NJ
open PySem PySem.Spec PyProof.Rows L2
end NJ

set_option Elab.async false
set_option linter.all false
set_option maxRecDepth 100000
set_option maxHeartbeats 4000000
/-! Kinds. -/
namespace NJ
open PySem PySem.Spec PyProof.Rows L2
section
variable {P : Program} {w : World} {K : PySem.W.Frag} {mg : Str → Option Value} {base : Heap}
def spIsInteger (K : PySem.W.Frag) : Sp := SpF (fun (x : Value × Bool × Bool) => a1 (rTy K) x.1 a0) (fun x => PySem.W.kitOne K x.1 (.type "int") = some x.2.1 ∧ PySem.W.kitOne K x.1 (.type "bool") = some x.2.2) (fun _ => rB) (fun x => x.2.1 && !x.2.2)
theorem ok_is_integer (T : Tx K mg) : Fk P w K mg base CX0 1 (He.ga K "is_integer") ["thing"] (spIsInteger K) := by
  refine k0_is_integer T (spf_len fun _ => a1_len a0_len) (fun cdv A outer s H vs Q E hr h => ?_)
  refine ⟨_, (pss_one (ps_ret (pe_and (pe_callB call_isi (by rfl) T.n_isinstance boot_isinstance (pa_cons (pv 0) (pa_cons (pe_bltn (v := .ty "int") (by rfl) T.n_int boot_int rfl) pa_nil))) (pe_one (pe_not (pe_callB call_isi (by rfl) T.n_isinstance boot_isinstance (pa_cons (pv 0) (pa_cons (pe_bltn (v := .ty "bool") (by rfl) T.n_bool boot_bool rfl) pa_nil)))))))), ?_⟩
  obtain ⟨x, Hm, ⟨h1, h2⟩, ⟨v, ws, rfl, r, rfl⟩, hi, q⟩ := h
  exact s_ret (ev_and (ev_isi (ev_v rfl r) h1) fun _ => ev_not (ev_isi (ev_v rfl r) h2)) hi q
def spIsNumber (K : PySem.W.Frag) : Sp := SpF (fun (x : Int × Int × Int) => a1 rI x.1 (a1 rI x.2.1 (a1 rI x.2.2 a0))) (fun _ => True) (fun _ => rB) (fun x => decide (x.1 ≤ x.2.2) && decide (x.2.2 ≤ x.2.1))
theorem ok_is_number (T : Tx K mg) : Fk P w K mg base CX0 2 (He.ga K "is_number") ["least", "most", "thing"] (spIsNumber K) := by
  refine k0_is_number T (spf_len fun _ => a1_len (a1_len (a1_len a0_len))) (fun cdv A outer s H vs Q E hr h => ?_)
  refine ⟨_, (pss_one (ps_ret (pe_and (pe_fk (ok_is_integer T) (hr.mono (by decide)) T.g_is_integer pass0 (pa_cons (pv 2) pa_nil)) (pe_one (pe_chain op_le op_le (pv 0) (pv 2) (pv 1)))))), ?_⟩
  obtain ⟨x, Hm, _, ⟨v1, ws, rfl, r1, v2, ws2, rfl, r2, v3, ws3, rfl, r3, rfl⟩, hi, q⟩ := h
  refine s_ret (Ev.is (ev_and (ev_call (x := (.type "int", true, false)) ⟨kit_int_int, kit_int_bool⟩ (ea_cons (ev_v rfl (ty_int r3)) ea_nil)) fun _ => ev_chain (ev_v rfl r1) (ev_v rfl r3) (ev_v rfl r2) rv_b0 rv_b0) (Bool.true_and _)) hi q
def spIsText (K : PySem.W.Frag) : Sp := SpF (fun (x : Option (List Nat)) => a1 (rTh K) x a0) okTh (fun _ => rB) isTx
theorem ok_is_text (T : Tx K mg) : Fk P w K mg base CX0 1 (He.ga K "is_text") ["thing"] (spIsText K) := by
  refine k0_is_text T (spf_len fun _ => a1_len a0_len) (fun cdv A outer s H vs Q E hr h => ?_)
  refine ⟨_, (pss_one (ps_ret (pe_and (pe_callB call_isi (by rfl) T.n_isinstance boot_isinstance (pa_cons (pv 0) (pa_cons (pe_bltn (v := .ty "str") (by rfl) T.n_str boot_str rfl) pa_nil))) (pe_one (pe_callB (cr_all rfl) (by rfl) T.n_all boot_all (pa_cons (pe_lc (own := [("sign", 1)]) rfl c_is_text.nd (pi_str (pv 0)) (blkOk_by (N := ["thing", "sign"]) (sc := defScope s_is_text) (by decide +kernel)) (fun _ _ _ _ _ => (pg_name (i := 1) c_is_text.nd rfl (by first | exact Or.inl rfl | exact Or.inr rfl))) (fun _ _ _ _ _ => pts_nil) (fun _ _ _ _ _ => (pe_chain op_le_str op_le_str pe_str (pv 1) pe_str))) pa_nil)))))), ?_⟩
  obtain ⟨x, Hm, hx, ⟨v, ws, rfl, r, rfl⟩, hi, q⟩ := h
  obtain ⟨t, r2, k⟩ := th_ty r
  have e : isTx x = (x.isSome && ((x.getD []).map lower).all id) := by
    cases x with
    | none => rfl
    | some l => simp [isTx, List.all_map]
  rw [e] at q
  refine s_ret (ev_and (ev_isi (ev_v rfl r2) k) fun hs => ?_) hi q
  cases x with
  | none => cases hs
  | some l =>
    refine ev_cb (ea_cons (ev_lc0 lower (wk_str (ev_v rfl (show rS.rel Hm v l from r))) hx fun c _ u K3 s3 rc => ?_) ea_nil) rc_all
    exact ⟨_, tk_name, rfl, Ev.is (ev_chain ev_s (ev_v rfl (rs_of rc)) ev_s rv_leS rv_leS) (lower_eq c)⟩
def spIsLong (K : PySem.W.Frag) : Sp := SpF (fun (x : Int × Int × Option (List Nat)) => a1 rI x.1 (a1 rI x.2.1 (a1 (rTh K) x.2.2 a0))) (fun x => okTh x.2.2) (fun _ => rB)
  (fun x => isTx x.2.2 && (decide (x.1 ≤ ((x.2.2.getD []).length : Int)) && decide (((x.2.2.getD []).length : Int) ≤ x.2.1)))
theorem ok_is_long_text (T : Tx K mg) : Fk P w K mg base CX0 2 (He.ga K "is_long_text") ["least", "most", "thing"] (spIsLong K) := by
  refine k0_is_long_text T (spf_len fun _ => a1_len (a1_len (a1_len a0_len))) (fun cdv A outer s H vs Q E hr h => ?_)
  refine ⟨_, (pss_one (ps_ret (pe_and (pe_fk (ok_is_text T) (hr.mono (by decide)) T.g_is_text pass0 (pa_cons (pv 2) pa_nil)) (pe_one (pe_chain op_le op_le (pv 0) (pe_callB call_len (by rfl) T.n_len boot_len (pa_cons (pv 2) pa_nil)) (pv 1)))))), ?_⟩
  obtain ⟨x, Hm, hx, ⟨v1, ws, rfl, r1, v2, ws2, rfl, r2, v3, ws3, rfl, r3, rfl⟩, hi, q⟩ := h
  refine s_ret (ev_and (ev_call (x := x.2.2) hx (ea_cons (ev_v rfl r3) ea_nil)) fun hs => ?_) hi q
  obtain ⟨a, b, o⟩ := x
  cases o with
  | none => cases hs
  | some l => exact ev_chain (ev_v rfl r1) (ev_cb (ea_cons (ev_v rfl (show rS.rel Hm v3 l from r3)) ea_nil) (rc_lenS hx)) (ev_v rfl r2) rv_b0 rv_b0
/-- is_letter(thing) -/
def spIsLetter (K : PySem.W.Frag) : Sp := SpF (fun (x : Option (List Nat)) => a1 (rTh K) x a0) okTh (fun _ => rB) (fun x => isTx x && (decide ((1 : Int) ≤ ((x.getD []).length : Int)) && decide (((x.getD []).length : Int) ≤ 1)))
theorem ok_is_letter (T : Tx K mg) : Fk P w K mg base CX0 3 (He.ga K "is_letter") ["thing"] (spIsLetter K) := by
  refine k0_is_letter T (spf_len fun _ => a1_len a0_len) (fun cdv A outer s H vs Q E hr h => ?_)
  refine ⟨_, (pss_one (ps_ret (pe_fk (ok_is_long_text T) (hr.mono (by decide)) T.g_is_long_text pass0 (pa_cons pe_int (pa_cons pe_int (pa_cons (pv 0) pa_nil)))))), ?_⟩
  obtain ⟨x, Hm, hx, ⟨v1, ws, rfl, r1, rfl⟩, hi, q⟩ := h
  exact s_ret (ev_call (x := ((1 : Int), (1 : Int), x)) hx (ea_cons ev_i (ea_cons ev_i (ea_cons (ev_v rfl r1) ea_nil)))) hi q
end
end NJ

set_option Elab.async false
set_option linter.all false
set_option maxRecDepth 100000
set_option maxHeartbeats 4000000
/-! A web's parts: what is asked of arrows, any arrows. -/
namespace NJ
open PySem PySem.Spec PyProof.Rows L2
namespace GW
section
variable {P : Program} {w : World} {K : PySem.W.Frag} {mg : Str → Option Value} {base : Heap}
theorem ty_tupA {H : Hp} {a : Addr} {xs : List V} (h : SqT K H a xs) : TyX K H (.ref a) (.type "tuple") := by
  rcases h with (h | ⟨o, h⟩) | h
  · exact .base (.tup h)
  · exact .fTuple h
  · obtain ⟨o, its, n, h1, h2, _⟩ := h
    exact .kTuple h1 h2
theorem ty_rtA {α : Type} {R : Rp α} {Hm : Hp} {v : V} {xs : List α} (r : (rT K R).rel Hm v xs) : (rTy K).rel Hm v (.type "tuple") := by
  obtain ⟨a, vs, e, hS, hP⟩ := r
  rw [e]
  exact ty_tupA hS
theorem kit_tt : PySem.W.kitOne K (.type "tuple") (.type "tuple") = some true := kit_ty (by decide +kernel)
def numB (a b i : Int) : Bool := decide (a ≤ i) && decide (i ≤ b)
def arB (p : Int) (t : Arw) : Bool := numB 0 (p - 1) t.1 && (numB 0 (p - 1) t.2.2 && (isTx (some t.2.1) && (decide ((1 : Int) ≤ (t.2.1.length : Int)) && decide ((t.2.1.length : Int) ≤ 1))))
def spArrow (K : PySem.W.Frag) : Sp := SpF (fun (x : Int × Arw) => a1 rI x.1 (a1 (rT K rV) (arV x.2) a0)) (fun x => x.2.2.1.length ≤ 16000000) (fun _ => rB) (fun x => arB x.1 x.2)
theorem ok_is_arrow (T : Tx K mg) : Fk P w K mg base CX0 4 (He.ga K "is_arrow") ["points", "thing"] (spArrow K) := by
  refine k0_is_arrow T (spf_len fun _ => a1_len (a1_len a0_len)) (fun cdv A outer s H vs Q E hr h => ?_)
  refine ⟨_, (pss_cons (ps_if (PW.pt (pw_or (pt_not (pt_val (pe_callB call_isi (by rfl) T.n_isinstance boot_isinstance (pa_cons (pv 1) (pa_cons (pe_bltn (v := .ty "tuple") (by rfl) T.n_tuple boot_tuple rfl) pa_nil))))) (pw_or1 (pt_cmpR op_ne (pe_callB call_len (by rfl) T.n_len boot_len (pa_cons (pv 1) pa_nil)) pe_int (nomark _))))) (pss_one (ps_ret pe_bl)) pss_nil)
  (pss_cons (ps_asg (pv 1) (pg_tup rfl (pgs_cons (pg_name (i := 2) c_is_arrow.nd rfl (by first | exact Or.inl rfl | exact Or.inr rfl)) (pgs_cons (pg_name (i := 3) c_is_arrow.nd rfl (by first | exact Or.inl rfl | exact Or.inr rfl)) (pgs_cons (pg_name (i := 4) c_is_arrow.nd rfl (by first | exact Or.inl rfl | exact Or.inr rfl)) pgs_nil)))))
  (pss_cons (ps_if (PW.pt (pw_or (pt_not (pt_val (pe_fk (ok_is_number T) (hr.mono (by decide)) T.g_is_number pass0 (pa_cons pe_int (pa_cons (pe_op op_sub (pv 0) pe_int) (pa_cons (pv 2) pa_nil)))))) (pw_or1 (pt_not (pt_val (pe_fk (ok_is_number T) (hr.mono (by decide)) T.g_is_number pass0 (pa_cons pe_int (pa_cons (pe_op op_sub (pv 0) pe_int) (pa_cons (pv 4) pa_nil))))))))) (pss_one (ps_ret pe_bl)) pss_nil)
  (pss_one (ps_ret (pe_fk (ok_is_letter T) (hr.mono (by decide)) T.g_is_letter pass0 (pa_cons (pv 3) pa_nil))))))), ?_⟩
  obtain ⟨⟨p, t⟩, Hm, hz, ⟨v1, ws, rfl, r1, v2, ws2, rfl, r2, rfl⟩, hi, q⟩ := h
  dsimp only at hz r1 r2 q
  refine q_when (b := !true || !decide (((arV t).length : Int) = 3)) (et_or (et_not (et_test (ev_isi (ev_v rfl (ty_rtA r2)) kit_tt))) fun _ => et_test (ev_op (ev_cb (ea_cons (ev_v rfl r2) ea_nil) rc_lenT) ev_i rv_neI)) hi (fun hb => by cases hb) (fun _ K1 H1 x1 => ?_)
  have r2a := (rT K rV).mono x1.s r2
  refine q_tup3 (K := K) (ev_v (R := rT K rV) (d := arV t) rfl r2a) x1.i fun K2 H2 x2 => ?_
  cases r1
  have n1 : ∀ {σ : L2.St} {te : TE} {i : Int}, Ev te σ K2 rI i → σ[0]? = some (some (V.int p)) → Ev (tCall (spIsNumber K) [] E0 (tCons (tC (.int 0)) (tCons (tOp (rI0 fun i j => .int (i - j)) (tVar 0) (tC (.int 1))) (tCons te tNil)))) σ K2 rB (numB 0 (p - 1) i) := fun {σ te i} h h0 => ev_call (x := ((0 : Int), p - 1, i)) trivial (ea_cons ev_i (ea_cons (ev_op (ev_v (R := rI) (d := p) h0 rfl) (ev_i (i := 1)) rv_i0) (ea_cons h ea_nil)))
  refine q_when (b := !(numB 0 (p - 1) t.1) || !(numB 0 (p - 1) t.2.2)) (et_or (et_not (et_test (n1 (ev_v (R := rI) (d := t.1) rfl rfl) rfl))) fun _ => et_not (et_test (n1 (ev_v (R := rI) (d := t.2.2) rfl rfl) rfl))) x2.i (fun hb K3 H3 x3 => ?_) (fun hb K3 H3 x3 => ?_)
  · have e : arB p t = false := by
      unfold arB
      rw [Bool.or_eq_true] at hb
      rcases hb with hb | hb
      · have : numB 0 (p - 1) t.1 = false := by simpa using hb
        rw [this] <;> rfl
      · have : numB 0 (p - 1) t.2.2 = false := by simpa using hb
        rw [this]
        simp
    rw [e] at q
    exact s_ret ev_b x3.i fun v K4 H4 x4 r => q v K4 H4 (((x1.trans x2).trans x3).trans x4) r
  · rw [Bool.or_eq_false_iff] at hb
    have h1 : numB 0 (p - 1) t.1 = true := by simpa using hb.1
    have h2 : numB 0 (p - 1) t.2.2 = true := by simpa using hb.2
    have e : arB p t = (isTx (some t.2.1) && (decide ((1 : Int) ≤ (t.2.1.length : Int)) && decide ((t.2.1.length : Int) ≤ 1))) := by
      unfold arB
      rw [h1, h2, Bool.true_and, Bool.true_and]
    rw [e] at q
    exact s_ret (ev_call (x := some t.2.1) hz (ea_cons (ev_v (R := rTh K) (d := some t.2.1) rfl rfl) ea_nil)) x3.i fun v K4 H4 x4 r => q v K4 H4 (((x1.trans x2).trans x3).trans x4) r
def arVs (ar : List Arw) : List (List V) := ar.map arV
def spAsc (K : PySem.W.Frag) : Sp := SpF (fun (ar : List Arw) => a1 (rT K (rT K rV)) (arVs ar) a0) (fun ar => ar.length ≤ 1000) (fun _ => rB) ascA
/-- a tuple of arrows: each is one -/
def rAr (K : PySem.W.Frag) : Rp Arw := ⟨fun H v t => (rT K rV).rel H v (arV t), fun s h => (rT K rV).mono s h⟩
theorem paired_ar {H : Hp} : ∀ {vs : List V} {ar : List Arw}, Paired ((rT K rV).rel H) vs (arVs ar) → Paired ((rAr K).rel H) vs ar
  | _, [], h => by
    cases h
    exact .nil
  | _, t :: ar, h => by
    cases h with
    | cons a r => exact .cons a (paired_ar r)
theorem rt_ar {H : Hp} {v : V} {ar : List Arw} (h : (rT K (rT K rV)).rel H v (arVs ar)) : (rT K (rAr K)).rel H v ar := by
  obtain ⟨a, vs, e, hS, hP⟩ := h
  exact ⟨a, vs, e, hS, paired_ar hP⟩
theorem rl_ar {H : Hp} {v : V} {ar : List Arw} (h : (rL K (rT K rV)).rel H v (arVs ar)) : (rL K (rAr K)).rel H v ar := by
  obtain ⟨a, vs, e, hS, hP⟩ := h
  exact ⟨a, vs, e, hS, paired_ar hP⟩
theorem ok_are_ascending (T : Tx K mg) : Fk P w K mg base CX0 1 (He.ga K "are_ascending") ["row"] (spAsc K) := by
  refine k0_are_ascending T (spf_len fun _ => a1_len a0_len) (fun cdv A outer s H vs Q E hr h => ?_)
  refine ⟨_, (pss_one (ps_ret (pe_callB (cr_all rfl) (by rfl) T.n_all boot_all (pa_cons (pe_lc (g := gTup K 2 (gCons (gName 1) (gCons (gName 2) gNil))) (te := tOp (rLtD K) (tVar 1) (tVar 2)) (own := [("one", 1), ("other", 2)]) rfl c_are_ascending.nd (RZ.pi_zipA (by rfl) T.n_zip (pa_cons (pv 0) (pa_cons (pe_slice sl_tupA (pv 0) (po_some pe_int) po_none) pa_nil))) (blkOk_by (N := ["row", "one", "other"]) (sc := defScope s_are_ascending) (by decide +kernel)) (fun _ _ _ _ _ => (pg_tup rfl (pgs_cons (pg_name (i := 1) c_are_ascending.nd rfl (by first | exact Or.inl rfl | exact Or.inr rfl)) (pgs_cons (pg_name (i := 2) c_are_ascending.nd rfl (by first | exact Or.inl rfl | exact Or.inr rfl)) pgs_nil)))) (fun _ _ _ _ _ => pts_nil) (fun _ _ _ _ _ => (pe_cmpR (op_ltD hr.units) (pv 1) (pv 2) (nomark _)))) pa_nil)))), ?_⟩
  obtain ⟨ar, Hm, hz, ⟨v1, ws, rfl, r1, rfl⟩, hi, q⟩ := h
  have r2 := rt_ar r1
  exact s_ret (ev_cb (ea_cons (ev_lc0 (K := K) (S := rB) (fun p : Arw × Arw => ltA p.1 p.2) (wk_zipT (R := rAr K) (S := rAr K) (ea_cons (ev_v rfl r2) (ea_cons (Ev.is (ev_slT (ev_v rfl r2) (eo_some ev_i) eo_none) (cut_drop ar 1)) ea_nil))) (by rw [List.length_zip]; have := Nat.min_le_left ar.length (ar.drop 1).length; omega) fun d hd v K3 s3 r3 => by
    obtain ⟨x, y, ra, rb, tk⟩ := tk_pair (σ := wipe _ _) (i := 1) (j := 2) r3
    exact ⟨_, tk, rfl, ev_op (ev_v (R := rT K rV) rfl ra) (ev_v (R := rT K rV) rfl rb) rv_ltA⟩) ea_nil) rc_all) hi q
def arsB (p : Int) (ar : List Arw) : Bool := (decide (1 ≤ ar.length) && decide (ar.length ≤ 60)) && ((ar.map (arB p)).all id && ascA ar)
def spArrows (K : PySem.W.Frag) : Sp := SpF (fun (x : Int × List Arw) => a1 rI x.1 (a1 (rT K (rT K rV)) (arVs x.2) a0)) (fun x => x.2.length ≤ 1000 ∧ ∀ t ∈ x.2, t.2.1.length ≤ 16000000) (fun _ => rB) (fun x => arsB x.1 x.2)
theorem ok_are_arrows (T : Tx K mg) : Fk P w K mg base CX0 5 (He.ga K "are_arrows") ["points", "thing"] (spArrows K) := by
  refine k0_are_arrows T (spf_len fun _ => a1_len (a1_len a0_len)) (fun cdv A outer s H vs Q E hr h => ?_)
  obtain ⟨tA, h_MOST_ARROWS⟩ := T.i_MOST_ARROWS
  refine ⟨_, (pss_cons (ps_if (PW.pt (pw_or (pt_not (pt_val (pe_callB call_isi (by rfl) T.n_isinstance boot_isinstance (pa_cons (pv 1) (pa_cons (pe_bltn (v := .ty "tuple") (by rfl) T.n_tuple boot_tuple rfl) pa_nil))))) (pw_or1 (pt_not (pt_chain op_le op_le pe_int (pe_callB call_len (by rfl) T.n_len boot_len (pa_cons (pv 1) pa_nil)) (pe_glob (v := .int 60) (by rfl) h_MOST_ARROWS ⟨_, rfl⟩)))))) (pss_one (ps_ret pe_bl)) pss_nil)
  (pss_one (ps_ret (pe_and (pe_callB (cr_all rfl) (by rfl) T.n_all boot_all (pa_cons (pe_lc (own := [("item", 2)]) rfl c_are_arrows.nd (pi_tup (pv 1)) (blkOk_by (N := ["points", "thing", "item"]) (sc := defScope s_are_arrows) (by decide +kernel)) (fun _ _ _ _ _ => (pg_name (i := 2) c_are_arrows.nd rfl (by first | exact Or.inl rfl | exact Or.inr rfl))) (fun _ _ _ _ _ => pts_nil) (fun _ _ _ _ _ => (pe_fk (ok_is_arrow T) (hr.mono (by decide)) T.g_is_arrow pass0 (pa_cons (pv 0) (pa_cons (pv 2) pa_nil))))) pa_nil)) (pe_one (pe_fk (ok_are_ascending T) (hr.mono (by decide)) T.g_are_ascending pass0 (pa_cons (pv 1) pa_nil))))))), ?_⟩
  obtain ⟨⟨p, ar⟩, Hm, ⟨hz, hl⟩, ⟨v1, ws, rfl, r1, v2, ws2, rfl, r2, rfl⟩, hi, q⟩ := h
  dsimp only at hz hl r1 r2 q
  have e1 : (arVs ar).length = ar.length := by
    unfold arVs
    rw [List.length_map]
  refine q_when (b := !true || !(decide ((1 : Int) ≤ ((arVs ar).length : Int)) && decide (((arVs ar).length : Int) ≤ 60))) (et_or (et_not (et_test (ev_isi (ev_v rfl (ty_rtA r2)) kit_tt))) fun _ => et_not (et_test (ev_chain ev_i (ev_cb (ea_cons (ev_v rfl r2) ea_nil) rc_lenT) ev_i rv_b0 rv_b0))) hi (fun hb K1 H1 x1 => ?_) (fun hb K1 H1 x1 => ?_)
  · have e : arsB p ar = false := by
      have hb2 : (decide ((1 : Int) ≤ ((arVs ar).length : Int)) && decide (((arVs ar).length : Int) ≤ 60)) = false := by
        cases z : (decide ((1 : Int) ≤ ((arVs ar).length : Int)) && decide (((arVs ar).length : Int) ≤ 60)) with
        | true =>
          rw [z] at hb
          cases hb
        | false => rfl
      rw [e1] at hb2
      unfold arsB
      have : (decide (1 ≤ ar.length) && decide (ar.length ≤ 60)) = false := by
        rw [← hb2, Bool.eq_iff_iff, Bool.and_eq_true, Bool.and_eq_true, decide_eq_true_iff, decide_eq_true_iff, decide_eq_true_iff, decide_eq_true_iff]
        omega
      rw [this] <;> rfl
    rw [e] at q
    exact s_ret ev_b x1.i fun v K2 H2 x2 r => q v K2 H2 (x1.trans x2) r
  · have e : arsB p ar = ((ar.map (arB p)).all id && ascA ar) := by
      have hb2 : (decide ((1 : Int) ≤ ((arVs ar).length : Int)) && decide (((arVs ar).length : Int) ≤ 60)) = true := by
        cases z : (decide ((1 : Int) ≤ ((arVs ar).length : Int)) && decide (((arVs ar).length : Int) ≤ 60)) with
        | true => rfl
        | false =>
          rw [z] at hb
          cases hb
      rw [e1] at hb2
      unfold arsB
      have : (decide (1 ≤ ar.length) && decide (ar.length ≤ 60)) = true := by
        rw [← hb2, Bool.eq_iff_iff, Bool.and_eq_true, Bool.and_eq_true, decide_eq_true_iff, decide_eq_true_iff, decide_eq_true_iff, decide_eq_true_iff]
        omega
      rw [this, Bool.true_and]
    rw [e] at q
    have r1a := rI.mono x1.s r1
    have r2a := (rT K (rT K rV)).mono x1.s r2
    exact s_ret (ev_and (ev_cb (ea_cons (ev_lc0 (K := K) (S := rB) (R := rAr K) (arB p) (wk_tup (ev_v rfl (rt_ar r2a))) (by omega) fun d hd v K3 s3 r3 => ⟨_, tk_name, rfl, ev_call (x := (p, d)) (hl d hd) (ea_cons (ev_v rfl (rI.mono s3 r1a)) (ea_cons (ev_v (R := rT K rV) rfl r3) ea_nil))⟩) ea_nil) rc_all) fun _ => ev_call (x := ar) hz (ea_cons (ev_v rfl r2a) ea_nil)) x1.i fun v K2 H2 x2 r => q v K2 H2 (x1.trans x2) r
def spLed (K : PySem.W.Frag) : Sp := SpF (fun (ar : List Arw) => a1 (rT K (rT K rV)) (arVs ar) a0) (fun ar => ar.length ≤ 1000) (fun _ => rL K (rT K rV)) (fun ar => arVs (ar.map fun t => (t.2.2, t.2.1, t.1)))
theorem ok_led_back (T : Tx K mg) : Fk P w K mg base CX0 1 (He.ga K "led_back") ["steps"] (spLed K) := by
  refine k0_led_back T (spf_len fun _ => a1_len a0_len) (fun cdv A outer s H vs Q E hr h => ?_)
  refine ⟨_, (pss_one (ps_ret (pe_lc (g := gTup K 3 (gCons (gName 1) (gCons (gName 2) (gCons (gName 3) gNil)))) (own := [("begin", 1), ("letter", 2), ("end", 3)]) rfl c_led_back.nd (pi_tup (pv 0)) (blkOk_by (N := ["steps", "begin", "letter", "end"]) (sc := defScope s_led_back) (by decide +kernel)) (fun _ _ _ _ _ => (pg_tup rfl (pgs_cons (pg_name (i := 1) c_led_back.nd rfl (by first | exact Or.inl rfl | exact Or.inr rfl)) (pgs_cons (pg_name (i := 2) c_led_back.nd rfl (by first | exact Or.inl rfl | exact Or.inr rfl)) (pgs_cons (pg_name (i := 3) c_led_back.nd rfl (by first | exact Or.inl rfl | exact Or.inr rfl)) pgs_nil))))) (fun _ _ _ _ _ => pts_nil) (fun _ _ _ _ _ => (pe_tup (pa_cons (pv 3) (pa_cons (pv 2) (pa_cons (pv 1) pa_nil)))))))), ?_⟩
  obtain ⟨ar, Hm, hz, ⟨v1, ws, rfl, r1, rfl⟩, hi, q⟩ := h
  refine s_ret (Ev.is (ev_lc0 (K := K) (R := rAr K) (S := rT K rV) (fun t => arV (t.2.2, t.2.1, t.1)) (wk_tup (ev_v rfl (rt_ar r1))) (by omega) fun d hd v K3 s3 r3 => ?_) ?_) hi q
  · exact ⟨_, tk_3 r3, rfl, ev_tup (ds := arV (d.2.2, d.2.1, d.1)) (ea_cons (ev_v (R := rV) rfl rfl) (ea_cons (ev_v (R := rV) rfl rfl) (ea_cons (ev_v (R := rV) rfl rfl) ea_nil))) (by show 3 ≤ 16000000; decide)⟩
  · show List.map _ ar = List.map arV (List.map _ ar)
    rw [List.map_map] <;> rfl
end
end GW
end NJ

set_option Elab.async false
set_option linter.all false
set_option maxRecDepth 100000
set_option maxHeartbeats 4000000
/-! What arrows lead to. -/
namespace NJ
open PySem PySem.Spec PyProof.Rows L2
namespace GW
section
variable {P : Program} {w : World} {K : PySem.W.Frag} {mg : Str → Option Value} {base : Heap}
def succ (ar : List Arw) (b : Int) : List Int := (ar.filter fun t => decide (t.1 = b)).map (·.2.2)
theorem succ_snoc (ar : List Arw) (t : Arw) (b : Int) : succ (ar ++ [t]) b = if t.1 = b then succ ar b ++ [t.2.2] else succ ar b := by
  unfold succ
  rw [List.filter_append, List.map_append]
  by_cases h : t.1 = b
  · simp [h]
  · simp [h]
theorem mem_succ {ar : List Arw} {b e : Int} : e ∈ succ ar b ↔ ∃ c, (b, c, e) ∈ ar := by
  unfold succ
  rw [List.mem_map]
  constructor
  · rintro ⟨t, h, rfl⟩
    obtain ⟨h1, h2⟩ := List.mem_filter.mp h
    have h3 := of_decide_eq_true h2
    exact ⟨t.2.1, by rw [← h3]; exact h1⟩
  · rintro ⟨c, h⟩
    exact ⟨(b, c, e), List.mem_filter.mpr ⟨h, by simp⟩, rfl⟩
/-- the dict from each point to the list of those to which arrows lead -/
def Lk (H : Hp) (kvs : List (Key × V)) (ar : List Arw) : Prop := ∀ b : Int, match valV kvs (.inl b) with
  | none => succ ar b = []
  | some x => ∃ l, x = .ref l ∧ H l = some (.lst ((succ ar b).map V.int))
def rLk : Rp (List Arw) := ⟨fun H v ar => ∃ a kvs, v = .ref a ∧ H a = some (.dK kvs) ∧ Lk H kvs ar, fun {H H' v ar} s ⟨a, kvs, e, h, g⟩ => ⟨a, kvs, e, s _ _ h, fun b => by
  have q := g b
  split at q
  · exact q
  · obtain ⟨l, e1, e2⟩ := q
    exact ⟨l, e1, s _ _ e2⟩⟩⟩
def aArs (K : PySem.W.Frag) : Bool × List Arw → Ar
  | (true, ar) => a1 (rT K (rT K rV)) (arVs ar) a0
  | (false, ar) => a1 (rL K (rT K rV)) (arVs ar) a0
theorem aArs_len : ∀ (x : Bool × List Arw) H vs, (aArs K x).rel H vs → vs.length = 1
  | (true, _) => a1_len a0_len
  | (false, _) => a1_len a0_len
def spLinks (K : PySem.W.Frag) : Sp := SpF (fun x => aArs K x) (fun x => x.2.length ≤ 1000) (fun _ => rLk) (fun x => x.2)
structure LI (H K2 H' : Hp) (d : Addr) (ar : List Arw) (n : Nat) : Prop where
  s1 : Same K2 H'
  s2 : Same H H'
  ex : ∃ kvs, H' d = some (.dK kvs) ∧ kvs.length ≤ n ∧ (∀ b : Int, match valV kvs (.inl b) with
      | none => succ ar b = []
      | some x => ∃ l, x = .ref l ∧ H l = none ∧ K2 l = none ∧ l ≠ d ∧ H' l = some (.lst ((succ ar b).map V.int))) ∧
    ∀ (b b' : Int) (l : Addr), valV kvs (.inl b) = some (.ref l) → valV kvs (.inl b') = some (.ref l) → b = b'
theorem LI.ext {H K2 H' H4 : Hp} {d : Addr} {ar : List Arw} {n : Nat} (h : LI H K2 H' d ar n) (k : Same H' H4) : LI H K2 H4 d ar n := ⟨h.s1.trans k, h.s2.trans k, by
  obtain ⟨kvs, h1, h2, h3, h4⟩ := h.ex
  refine ⟨kvs, k _ _ h1, h2, fun b => ?_, h4⟩
  have q := h3 b
  split at q
  · rename_i e
    try rw [e]
    exact q
  · rename_i x e
    try rw [e]
    obtain ⟨l, e1, e2, e3, e4, e5⟩ := q
    exact ⟨l, e1, e2, e3, e4, k _ _ e5⟩⟩
theorem inl_ne {b b' : Int} (h : b ≠ b') : ¬ (Sum.inl b' : Key) = .inl b := fun e => h (Sum.inl.inj e).symm
theorem links_run {Hm H : Hp} {D : Ends} {wi : TI} {v : V} {ar : List Arw} (hz : ar.length ≤ 1000) (hi : Same Hm H) (hw : ∀ d, Wk wi [some v, some (.ref d), none, none, none] Hm (rAr K) ar) (q : ∀ u Hm' H2, Xt Hm H Hm' H2 → rLk.rel Hm' u ar → D.rt u H2) :
    tSeq (tAsg tDNewK (gName 1)) (tSeq (tFor wi (gTup K 3 (gCons (gName 2) (gCons (gName 3) (gCons (gName 4) gNil)))) (tDrop (tBM K "list" rAppend (tDSetd (tVar 1) (tVar 2) (tLst tNil)) (tCons (tVar 4) tNil)))) (tRet (tVar 1))) D [some v, none, none, none, none] H := by
  refine q_newD fun d nd => ?_
  have ndm : Hm d = none := none_back hi nd
  refine q_for (hw d) (same_mut hi ndm) fun K2 H2 x2 => ?_
  have ndk : K2 d = none := none_of x2 ndm upd_same
  have kH2 : Same H H2 := fun b o e => x2.k b o (by rw [upd_ne (ne_of_none e nd)]; exact e)
  refine ⟨fun i σ' H' => (∃ o2 o3 o4, σ' = [some v, some (.ref d), o2, o3, o4]) ∧ LI H K2 H' d (ar.take i) i, ⟨⟨_, _, _, rfl⟩, x2.i, kH2, [], x2.k _ _ upd_same, Nat.le_refl _, fun b => rfl, fun b b' l h => by cases h⟩, fun i σ' H' h => h.2.s1, ?_, ?_⟩
  · rintro i t σ' H' u K4 H4 ht ⟨⟨o2, o3, o4, rfl⟩, li⟩ x4 r4
    have li4 := li.ext x4.k
    obtain ⟨kvs, hd4, hn4, h3, h4⟩ := li4.ex
    have hil : i < ar.length := (List.getElem?_eq_some_iff.mp ht).1
    refine tk_3 (K := K) r4 H4 x4.i _ ?_
    refine ⟨.ref d, rfl, d, rfl, .inl ⟨kvs, .inl hd4⟩, .int t.1, rfl, Nat.zero_le _, fun l0 nl => ?_⟩
    have nlH : H l0 = none := none_back li4.s2 nl
    have nlK : K2 l0 = none := none_back li4.s1 nl
    have nld : l0 ≠ d := fun e => by
      rw [e, hd4] at nl
      cases nl
    have hd5 : upd H4 l0 (.lst []) d = some (.dK kvs) := by
      rw [upd_ne (Ne.symm nld)]
      exact hd4
    have et : ar.take (i + 1) = ar.take i ++ [t] := by rw [List.take_add_one, ht] <;> rfl
    refine ⟨kvs, .inl t.1, hd5, rfl, by rw [sizeLine_eq]; omega, fun x hx => ?_, fun hx => ?_⟩
    · have q1 := h3 t.1
      rw [hx] at q1
      obtain ⟨l, e1, e2, e3, e4, e5⟩ := q1
      subst e1
      have ll0 : l ≠ l0 := fun e => by
        rw [e, nl] at e5
        cases e5
      have e6 : upd H4 l0 (.lst []) l = some (.lst ((succ (ar.take i) t.1).map V.int)) := by
        rw [upd_ne ll0]
        exact e5
      have hlen : (succ (ar.take i) t.1).length ≤ 1000 := by
        unfold succ
        rw [List.length_map]
        exact Nat.le_trans (List.length_filter_le _ _) (by rw [List.length_take]; omega)
      refine ⟨.inl ⟨rfl, _, .inl (.inl e6)⟩, .int t.2.2, rfl, l, _, .int t.2.2, rfl, rfl, e6, by rw [List.length_map, sizeLine_eq]; omega, ⟨_, _, _, rfl⟩, same_mut (same_mut li4.s1 nlK) e3, put_new (put_new li4.s2 nlH) e2, kvs, by rw [upd_ne (Ne.symm e4)]; exact hd5, by omega, fun b => ?_, h4⟩
      have qb := h3 b
      rw [et, succ_snoc]
      by_cases hb : t.1 = b
      · subst hb
        rw [hx]
        rw [if_pos rfl]
        exact ⟨l, rfl, e2, e3, e4, by rw [upd_same, List.map_append] <;> rfl⟩
      · rw [if_neg hb]
        split at qb
        · rename_i e
          try rw [e]
          exact qb
        · rename_i x e
          try rw [e]
          obtain ⟨l', f1, f2, f3, f4, f5⟩ := qb
          subst f1
          have hll : l' ≠ l := fun z => hb (h4 t.1 b l hx (by rw [e, z]))
          have hl0 : l' ≠ l0 := fun z => by
            rw [z, nl] at f5
            cases f5
          exact ⟨l', rfl, f2, f3, f4, by rw [upd_ne hll, upd_ne hl0]; exact f5⟩
    · have q1 := h3 t.1
      rw [hx] at q1
      have e6 : upd (upd H4 l0 (.lst [])) d (.dK (putK kvs (.inl t.1) (.ref l0))) l0 = some (.lst []) := by rw [upd_ne nld, upd_same]
      refine ⟨.inl ⟨rfl, _, .inl (.inl e6)⟩, .int t.2.2, rfl, l0, _, .int t.2.2, rfl, rfl, e6, by rw [sizeLine_eq]; decide, ⟨_, _, _, rfl⟩, same_mut (same_mut (same_mut li4.s1 nlK) ndk) nlK, put_new (put_new (put_new li4.s2 nlH) nd) nlH, putK kvs (.inl t.1) (.ref l0), by rw [upd_ne (Ne.symm nld), upd_same], by have := putK_len (kvs := kvs) (k := .inl t.1) (v := .ref l0); omega, fun b => ?_, fun b b' l g1 g2 => ?_⟩
      · rw [et, succ_snoc, valV_put]
        by_cases hb : t.1 = b
        · subst hb
          rw [if_pos rfl, if_pos rfl, q1]
          exact ⟨l0, rfl, nlH, nlK, nld, by rw [upd_same] <;> rfl⟩
        · rw [if_neg (inl_ne hb), if_neg hb]
          have qb := h3 b
          split at qb
          · rename_i e
            try rw [e]
            exact qb
          · rename_i x e
            try rw [e]
            obtain ⟨l', f1, f2, f3, f4, f5⟩ := qb
            have hl0 : l' ≠ l0 := fun z => by
              rw [z, nl] at f5
              cases f5
            exact ⟨l', f1, f2, f3, f4, by rw [upd_ne hl0, upd_ne f4, upd_ne hl0]; exact f5⟩
      · have old : ∀ c : Int, valV kvs (.inl c) = some (.ref l) → l ≠ l0 := fun c hc z => by
          have qc := h3 c
          rw [hc] at qc
          obtain ⟨l', f1, _, _, _, f5⟩ := qc
          cases f1
          rw [z, nl] at f5
          cases f5
        rw [valV_put] at g1 g2
        by_cases c1 : t.1 = b <;> by_cases c2 : t.1 = b'
        · rw [← c1, ← c2]
        · rw [if_neg (inl_ne c2)] at g2
          subst c1
          rw [if_pos rfl] at g1
          have := old b' g2
          cases g1
          exact absurd rfl this
        · rw [if_neg (inl_ne c1)] at g1
          subst c2
          rw [if_pos rfl] at g2
          have := old b g1
          cases g2
          exact absurd rfl this
        · rw [if_neg (inl_ne c1)] at g1
          rw [if_neg (inl_ne c2)] at g2
          exact h4 b b' l g1 g2
  · rintro σ' H' ⟨⟨o2, o3, o4, rfl⟩, li⟩
    rw [List.take_length] at li
    obtain ⟨kvs, hd, hn, h3, h4⟩ := li.ex
    refine s_ret (ev_v (R := rLk) (d := ar) rfl ⟨d, kvs, rfl, (nw_new nd).trans hd, fun b => ?_⟩) (xt_nw hi li.s2).i fun u K5 H5 x5 r5 => q u K5 H5 ((xt_nw hi li.s2).trans x5) r5
    have qb := h3 b
    split at qb
    · rename_i e
      exact qb
    · rename_i x e
      obtain ⟨l, f1, f2, f3, f4, f5⟩ := qb
      exact ⟨l, f1, (nw_new f2).trans f5⟩
theorem ok_links (T : Tx K mg) : Fk P w K mg base CX0 1 (He.ga K "links") ["steps"] (spLinks K) := by
  refine k0_links T (spf_len fun b => aArs_len b) (fun cdv A outer s H vs Q E hr h => ?_)
  obtain ⟨⟨b, ar⟩, Hm, hz, a, hi, q⟩ := h
  cases b with
  | true =>
    obtain ⟨v, ws, rfl, r, rfl⟩ := a
    refine ⟨_, (pss_cons (ps_set (i := 1) c_links.nd rfl (by first | exact Or.inl rfl | exact Or.inr rfl) pe_dnewK)
  (pss_cons (ps_for PassesOwn.never rfl (pi_tup (pv 0)) (pg_tup rfl (pgs_cons (pg_name (i := 2) c_links.nd rfl (by first | exact Or.inl rfl | exact Or.inr rfl)) (pgs_cons (pg_name (i := 3) c_links.nd rfl (by first | exact Or.inl rfl | exact Or.inr rfl)) (pgs_cons (pg_name (i := 4) c_links.nd rfl (by first | exact Or.inl rfl | exact Or.inr rfl)) pgs_nil)))) (pss_one (ps_expr (pe_bm PySem.F.plainAttrs_list PySem.F.slot_list_append PySem.F.type_list_append mt_append (pe_dsetd (pv 1) (pv 2) (pe_lst pa_nil) ⟨rfl, rfl, rfl, rfl⟩) (pa_cons (pv 4) pa_nil)))))
  (pss_one (ps_ret (pv 1))))), ?_⟩
    exact links_run hz hi (fun d => wk_tup (ev_v rfl (rt_ar r))) q
  | false =>
    obtain ⟨v, ws, rfl, r, rfl⟩ := a
    refine ⟨_, (pss_cons (ps_set (i := 1) c_links.nd rfl (by first | exact Or.inl rfl | exact Or.inr rfl) pe_dnewK)
  (pss_cons (ps_for PassesOwn.never rfl (pi_list (pv 0)) (pg_tup rfl (pgs_cons (pg_name (i := 2) c_links.nd rfl (by first | exact Or.inl rfl | exact Or.inr rfl)) (pgs_cons (pg_name (i := 3) c_links.nd rfl (by first | exact Or.inl rfl | exact Or.inr rfl)) (pgs_cons (pg_name (i := 4) c_links.nd rfl (by first | exact Or.inl rfl | exact Or.inr rfl)) pgs_nil)))) (pss_one (ps_expr (pe_bm PySem.F.plainAttrs_list PySem.F.slot_list_append PySem.F.type_list_append mt_append (pe_dsetd (pv 1) (pv 2) (pe_lst pa_nil) ⟨rfl, rfl, rfl, rfl⟩) (pa_cons (pv 4) pa_nil)))))
  (pss_one (ps_ret (pv 1))))), ?_⟩
    exact links_run hz hi (fun d => wk_list (ev_v rfl (rl_ar r))) q
end
end GW
end NJ

set_option Elab.async false
set_option linter.all false
set_option maxRecDepth 100000
set_option maxHeartbeats 4000000
/-! What can be reached. -/
namespace NJ
open PySem PySem.Spec PyProof.Rows L2
namespace GW
inductive Rch (ar : List Arw) (s : Int) : Int → Prop
  | refl : Rch ar s s
  | step {a e : Int} {c : T8} : Rch ar s a → (a, c, e) ∈ ar → Rch ar s e
def in12 (i : Int) : Prop := 0 ≤ i ∧ i < 12
theorem few12 {S : List Int} (nd : S.Nodup) (h : ∀ a ∈ S, in12 a) : S.length ≤ 12 := by
  have e : (S.map Int.toNat).length = S.length := List.length_map _
  rw [← e]
  refine Nat.le_trans (nat_nodup_len (S.map Int.toNat) (List.range 12) ?_ fun x hx => ?_) (by simp)
  · refine List.pairwise_map.mpr (List.Pairwise.imp_of_mem (fun {a b} ha hb hne e => hne ?_) nd)
    have h1 := (h a ha).1
    have h2 := (h b hb).1
    omega
  · obtain ⟨a, ha, rfl⟩ := List.mem_map.mp hx
    have := h a ha
    unfold in12 at this
    rw [List.mem_range]
    omega
section
variable {P : Program} {w : World} {K : PySem.W.Frag} {mg : Str → Option Value} {base : Heap}
def rFd (ar : List Arw) (s : Int) : Rp Unit := ⟨fun H v _ => ∃ a kvs, v = .ref a ∧ H a = some (.dK kvs) ∧ ∀ b : Int, (valV kvs (.inl b)).isSome = true ↔ Rch ar s b, fun s ⟨a, kvs, e, h, g⟩ => ⟨a, kvs, e, s _ _ h, g⟩⟩
theorem keys_some {kvs : List (Key × V)} {S : List Int} (e : kvs.map (·.1) = S.map Sum.inl) (b : Int) : (valV kvs (.inl b)).isSome = true ↔ b ∈ S := by
  have m : (Sum.inl b : Key) ∈ kvs.map (·.1) ↔ b ∈ S := by
    rw [e, List.mem_map]
    constructor
    · rintro ⟨a, h, q⟩
      cases q
      exact h
    · exact fun h => ⟨b, h, rfl⟩
  cases h : valV kvs (Sum.inl b : Key) with
  | none =>
    have := valV_not h
    rw [m] at this
    simp [this]
  | some v =>
    have := valV_in h
    rw [m] at this
    simp [this]
/-- found and waiting -/
structure FI (ar : List Arw) (s : Int) (H H' : Hp) (d l : Addr) (S ws : List Int) : Prop where
  k : Same H H'
  ex : ∃ kvs, H' d = some (.dK kvs) ∧ kvs.map (·.1) = S.map Sum.inl
  lst : H' l = some (.lst (ws.map V.int))
  nd : S.Nodup
  sm : ∀ a ∈ S, in12 a
  ws : ∀ a ∈ ws, a ∈ S
  rc : ∀ a ∈ S, Rch ar s a
  st : s ∈ S
theorem FI.ext {ar : List Arw} {s : Int} {H H' H4 : Hp} {d l : Addr} {S ws : List Int} (h : FI ar s H H' d l S ws) (k : Same H' H4) : FI ar s H H4 d l S ws := ⟨h.k.trans k, by
  obtain ⟨kvs, a, b⟩ := h.ex
  exact ⟨kvs, k _ _ a, b⟩, k _ _ h.lst, h.nd, h.sm, h.ws, h.rc, h.st⟩
theorem ev_lk {σ : L2.St} {Hm : Hp} {td ty : TE} {ar : List Arw} {b : Int} (h1 : Ev td σ Hm rLk ar) (h2 : Ev ty σ Hm rI b) : Ev (tDGet2 td ty (tLst tNil)) σ Hm (rL K rI) (succ ar b) := fun H1 hi Q q => h1 H1 hi _ fun v K2 H2 x2 ⟨a, kvs, e, hd, hl⟩ => ⟨a, e, .inl ⟨kvs, .inl (x2.i _ _ hd)⟩, h2.mono x2.s H2 x2.i _ fun u K3 H3 x3 r3 => ⟨Nat.zero_le _, fun p np => by
  cases r3
  have x4 := (x2.trans x3).trans (Xt.new x3.i np (o := .lst []))
  have hd4 : upd H3 p (.lst []) a = some (.dK kvs) := x4.i _ _ ((Xt.new x3.i np (o := .lst [])).s _ _ (x3.s _ _ hd))
  refine ⟨_, DGet.k (k := .inl b) hd4, ?_⟩
  have q1 := hl b
  cases hv : valV kvs (Sum.inl b : Key) with
  | none =>
    rw [hv] at q1
    have q1 : succ ar b = [] := q1
    rw [q1] at q
    exact q (.ref p) _ _ x4 ⟨p, [], rfl, .inl (.inl upd_same), .nil⟩
  | some x =>
    rw [hv] at q1
    obtain ⟨l, e1, e2⟩ := q1
    subst e1
    refine q (.ref l) _ _ x4 ⟨l, _, rfl, .inl (.inl ((Xt.new x3.i np (o := .lst [])).s _ _ (x3.s _ _ e2))), ?_⟩
    exact ev_hc.pairedI _⟩⟩
def spReached (K : PySem.W.Frag) : Sp := SpF (fun (x : List Arw × Int) => a1 rLk x.1 (a1 rI x.2 a0)) (fun x => in12 x.2 ∧ ∀ t ∈ x.1, in12 t.2.2) (fun x => rFd x.1 x.2) (fun _ => ())
theorem ok_reached (T : Tx K mg) : Fk P w K mg base CX0 1 (He.ga K "reached") ["leading", "start"] (spReached K) := by
  refine k0_reached T (spf_len fun b => a1_len (a1_len a0_len)) (fun cdv A outer s H vs Q E hr h => ?_)
  refine ⟨_, (pss_cons (ps_set (i := 2) c_reached.nd rfl (by first | exact Or.inl rfl | exact Or.inr rfl) (pe_disp (pps_cons (pv 1) pe_bl pps_nil) rfl rfl (by simp) (by decide)))
  (pss_cons (ps_set (i := 3) c_reached.nd rfl (by first | exact Or.inl rfl | exact Or.inr rfl) (pe_lst (pa_cons (pv 1) pa_nil)))
  (pss_cons (ps_while PassesOwn.never (pt_truth (pv 3) (fun _ => rfl)) (pss_cons (ps_set (i := 4) c_reached.nd rfl (by first | exact Or.inl rfl | exact Or.inr rfl) (pe_bm0 PySem.F.plainAttrs_list PySem.F.slot_list_pop PySem.F.type_list_pop mt_pop (pv 3)))
  (pss_one (ps_for PassesOwn.never rfl (pi_list (pe_dget2 (hu_of hr) (pv 0) (pv 4) (pe_lst pa_nil) ⟨rfl, rfl, rfl, rfl⟩)) (pg_name (i := 5) c_reached.nd rfl (by first | exact Or.inl rfl | exact Or.inr rfl)) (pss_one (ps_if (pt_cmp (pc_dnotin (hu_of hr) (pv 5) (pv 2))) (pss_cons (ps_dput (hu_of hr) (pv 2) (pv 5) pe_bl rfl)
  (pss_one (ps_expr (pe_bm PySem.F.plainAttrs_list PySem.F.slot_list_append PySem.F.type_list_append mt_append (pv 3) (pa_cons (pv 5) pa_nil))))) pss_nil))))))
  (pss_one (ps_ret (pv 2)))))), ?_⟩
  obtain ⟨⟨ar, s0⟩, Hm, ⟨hs0, har⟩, ⟨v1, ws, rfl, r1, v2, ws2, rfl, r2, rfl⟩, hi, q⟩ := h
  dsimp only at hs0 har r1 r2 q
  cases r2
  have r1H := rLk.mono hi r1
  refine fun d nd => ⟨.int s0, rfl, ⟨upd_same, [(.inl s0, .bl true)], rfl, by simp, ?_⟩⟩
  refine ⟨.int s0, rfl, ⟨by show 1 ≤ sizeLine; rw [sizeLine_eq]; decide, fun l nl => ?_⟩⟩
  have nld : l ≠ d := fun e => by
    rw [e, upd_same] at nl
    cases nl
  have nlH : H l = none := by
    rw [upd_ne nld, upd_ne nld] at nl
    exact nl
  refine ⟨fun m σ' H' => ∃ S ws, m = 2 * (12 - S.length) + ws.length ∧ m ≤ 23 ∧ (∃ o4 o5, σ' = [some v1, some (.int s0), some (.ref d), some (.ref l), o4, o5]) ∧ FI ar s0 H H' d l S ws ∧ ∀ a ∈ S, a ∈ ws ∨ ∀ e ∈ succ ar a, e ∈ S, ⟨_, [s0], [s0], rfl, by simp, ⟨none, none, rfl⟩, ⟨put_new (put_new (put_new (Same.refl H) nd) nd) nlH, ⟨_, by rw [upd_ne (Ne.symm nld), upd_same], rfl⟩, upd_same, by simp, fun a ha => by
    rw [List.mem_singleton] at ha
    subst ha
    exact hs0, fun a ha => ha, fun a ha => by
    rw [List.mem_singleton] at ha
    subst ha
    exact .refl, List.mem_cons_self⟩, fun a ha => .inl ha⟩, ?_⟩
  rintro m σ' H' ⟨S, ws, rfl, hm23, ⟨o4, o5, rfl⟩, fi, cl⟩
  refine ⟨.ref l, rfl, !ws.isEmpty, .inl ⟨_, .inl (.inl fi.lst), by cases ws <;> simp⟩, ?_⟩
  cases hws : ws with
  | nil =>
    refine iteF ?_
    subst hws
    obtain ⟨kvs, hd, hk⟩ := fi.ex
    refine s_ret (ev_v (R := rFd ar s0) (d := ()) rfl ⟨d, kvs, rfl, (nw_new nd).trans hd, fun b => ?_⟩) (xt_nw hi fi.k).i fun u K5 H5 x5 r5 => q u K5 H5 ((xt_nw hi fi.k).trans x5) r5
    rw [keys_some hk]
    constructor
    · exact fi.rc b
    · intro h
      induction h with
      | refl => exact fi.st
      | step h hm ih =>
        rcases cl _ ih with z | z
        · cases z
        · exact z _ (mem_succ.mpr ⟨_, hm⟩)
  | cons w0 wr =>
    refine iteT ?_
    rw [← hws]
    have hne : ws ≠ [] := by rw [hws]; exact List.cons_ne_nil _ _
    obtain ⟨wi, b, hwb⟩ : ∃ L b, ws = L ++ [b] := by
      obtain ⟨L, b, e⟩ := (List.eq_nil_or_concat ws).resolve_left hne
      exact ⟨L, b, by rw [e, List.concat_eq_append]⟩
    clear hws
    subst hwb
    have hbl : ((wi ++ [b]).map V.int)[((wi ++ [b]).map V.int).length - 1]? = some (.int b) := by simp
    have hbm : b ∈ wi ++ [b] := List.mem_append_right _ (List.mem_singleton.mpr rfl)
    have hdl : ((wi ++ [b]).map V.int).dropLast = wi.map V.int := by simp
    have hlen : (wi ++ [b]).length = wi.length + 1 := by simp
    refine ⟨fun σ'' H'' => ∃ m', m' < 2 * (12 - S.length) + (wi ++ [b]).length ∧ ∃ S' ws', m' = 2 * (12 - S'.length) + ws'.length ∧ m' ≤ 23 ∧ (∃ o4 o5, σ'' = [some v1, some (.int s0), some (.ref d), some (.ref l), o4, o5]) ∧ FI ar s0 H H'' d l S' ws' ∧ ∀ a ∈ S', a ∈ ws' ∨ ∀ e ∈ succ ar a, e ∈ S', fun σ'' H'' h => h, ?_⟩
    refine ⟨.ref l, rfl, .inl ⟨rfl, _, .inl (.inl fi.lst)⟩, l, _, .int b, rfl, rfl, fi.lst, hbl, ?_⟩
    rw [hdl]
    have fi2 : FI ar s0 H (upd H' l (.lst (wi.map V.int))) d l S wi := ⟨put_new fi.k nlH, by
      obtain ⟨kvs, hd, hk⟩ := fi.ex
      exact ⟨kvs, by rw [upd_ne (Ne.symm nld)]; exact hd, hk⟩, upd_same, fi.nd, fi.sm, fun a ha => fi.ws a (List.mem_append_left _ ha), fi.rc, fi.st⟩
    unfold gName
    dsimp only
    generalize upd H' l (.lst (wi.map V.int)) = H2 at fi2
    refine s_for (xs := succ ar b) (R := rI) (Hm := H) (wk_list (K := K) (ev_lk (ev_v (R := rLk) rfl r1H) (ev_v (R := rI) (d := b) rfl rfl))) fi2.k fun K4 H4 x4 => ?_
    have ndk : K4 d = none := by
      obtain ⟨kvs, hd, _⟩ := fi2.ex
      exact none_of x4 nd hd
    have nlk : K4 l = none := none_of x4 nlH fi2.lst
    refine ⟨fun j σ'' H'' => (∃ o5, σ'' = [some v1, some (.int s0), some (.ref d), some (.ref l), some (.int b), o5]) ∧ Same K4 H'' ∧ ∃ S' ws', 2 * (12 - S'.length) + ws'.length < 2 * (12 - S.length) + (wi ++ [b]).length ∧ FI ar s0 H H'' d l S' ws' ∧ b ∈ S' ∧ (∀ a ∈ S', a ∈ ws' ∨ a = b ∨ ∀ e ∈ succ ar a, e ∈ S') ∧ ∀ e ∈ (succ ar b).take j, e ∈ S', ⟨⟨_, rfl⟩, x4.i, S, wi, by omega, fi2.ext x4.k, fi.ws b hbm, fun a ha => ?_, fun e he => by simp at he⟩, fun j σ'' H'' h => h.2.1, ?_, ?_⟩
    · rcases cl a ha with z | z
      · by_cases hab : a = b
        · exact .inr (.inl hab)
        · refine .inl ?_
          rw [List.mem_append, List.mem_singleton] at z
          exact z.resolve_right hab
      · exact .inr (.inr z)
    · rintro j e σ'' H'' u K5 H5 he ⟨⟨o5, rfl⟩, s3, S', ws', hm, fi3, hbS, cl3, tk3⟩ x5 r5
      cases r5
      have fi5 := fi3.ext x5.k
      obtain ⟨kvs, hd5, hk5⟩ := fi5.ex
      have et : (succ ar b).take (j + 1) = (succ ar b).take j ++ [e] := by rw [List.take_add_one, he] <;> rfl
      have hes : e ∈ succ ar b := List.mem_of_getElem? he
      obtain ⟨c, hc⟩ := mem_succ.mp hes
      refine ⟨.int e, rfl, .ref d, rfl, d, valV kvs (.inl e), rfl, DGet.k (k := .inl e) hd5, !(valV kvs (.inl e : Key)).isSome, rfl, ?_⟩
      cases hv : valV kvs (Sum.inl e : Key) with
      | some x =>
        refine iteF ⟨⟨_, rfl⟩, s3.trans x5.k, S', ws', hm, fi5, hbS, cl3, fun e' h' => ?_⟩
        rw [et, List.mem_append, List.mem_singleton] at h'
        rcases h' with h' | rfl
        · exact tk3 e' h'
        · exact (keys_some hk5 _).mp (by rw [hv] <;> rfl)
      | none =>
        have heS : e ∉ S' := fun h => by
          have := (keys_some hk5 e).mpr h
          rw [hv] at this
          cases this
        have l12 : (S' ++ [e]).length ≤ 12 := few12 (List.nodup_append.mpr ⟨fi5.nd, by simp, fun a ha b' hb' => by
          rw [List.mem_singleton] at hb'
          subst hb'
          exact fun z => heS (z ▸ ha)⟩) fun a ha => by
          rw [List.mem_append, List.mem_singleton] at ha
          rcases ha with ha | rfl
          · exact fi5.sm a ha
          · exact har _ hc
        have l12' : S'.length + 1 ≤ 12 := by simpa using l12
        have kl : kvs.length = S'.length := by
          have := congrArg List.length hk5
          simpa using this
        have wl : ws'.length ≤ 100 := by omega
        refine iteT ⟨.ref d, rfl, .int e, rfl, d, _, rfl, DPut.k (k := .inl e) hd5 (by rw [kl, sizeLine_eq]; omega), ?_⟩
        have hl6 : upd H5 d (.dK (putK kvs (.inl e) (.bl true))) l = some (.lst (ws'.map V.int)) := by
          rw [upd_ne nld]
          exact fi5.lst
        refine ⟨.ref l, rfl, .inl ⟨rfl, _, .inl (.inl hl6)⟩, .int e, rfl, l, _, .int e, rfl, rfl, hl6, by rw [List.length_map, sizeLine_eq]; omega, ⟨_, rfl⟩, same_mut (same_mut (s3.trans x5.k) ndk) nlk, S' ++ [e], ws' ++ [e], by rw [List.length_append, List.length_append, List.length_singleton]; omega, ⟨put_new (put_new fi5.k nd) nlH, ⟨_, by rw [upd_ne (Ne.symm nld), upd_same], by rw [putK_new _ hv, List.map_append, List.map_append, hk5] <;> rfl⟩, by rw [upd_same, List.map_append] <;> rfl, ?_, ?_, ?_, ?_, List.mem_append_left _ fi5.st⟩, List.mem_append_left _ hbS, ?_, ?_⟩
        · exact List.nodup_append.mpr ⟨fi5.nd, by simp, fun a ha b' hb' => by
            rw [List.mem_singleton] at hb'
            subst hb'
            exact fun z => heS (z ▸ ha)⟩
        · intro a ha
          rw [List.mem_append, List.mem_singleton] at ha
          rcases ha with ha | rfl
          · exact fi5.sm a ha
          · exact har _ hc
        · intro a ha
          rw [List.mem_append, List.mem_singleton] at ha ⊢
          exact ha.imp (fi5.ws a) id
        · intro a ha
          rw [List.mem_append, List.mem_singleton] at ha
          rcases ha with ha | rfl
          · exact fi5.rc a ha
          · exact .step (fi5.rc b hbS) hc
        · intro a ha
          rw [List.mem_append, List.mem_singleton] at ha
          rcases ha with ha | rfl
          · rcases cl3 a ha with z | z | z
            · exact .inl (List.mem_append_left _ z)
            · exact .inr (.inl z)
            · exact .inr (.inr fun e' h' => List.mem_append_left _ (z e' h'))
          · exact .inl (List.mem_append_right _ (List.mem_singleton.mpr rfl))
        · intro e' h'
          rw [et, List.mem_append, List.mem_singleton] at h'
          rw [List.mem_append, List.mem_singleton]
          exact h'.imp (tk3 e') id
    · rintro σ'' H'' ⟨⟨o5, rfl⟩, s3, S', ws', hm, fi3, hbS, cl3, tk3⟩
      rw [List.take_length] at tk3
      refine ⟨_, hm, S', ws', rfl, by omega, ⟨_, _, rfl⟩, fi3, fun a ha => ?_⟩
      rcases cl3 a ha with z | rfl | z
      · exact .inl z
      · exact .inr tk3
      · exact .inr z
end
end GW
end NJ

set_option Elab.async false
set_option linter.all false
set_option maxRecDepth 100000
set_option maxHeartbeats 4000000
/-! Joined; what of a web's parts is wrong. -/
namespace NJ
open PySem PySem.Spec PyProof.Rows L2
namespace GW
section
variable {P : Program} {w : World} {K : PySem.W.Frag} {mg : Str → Option Value} {base : Heap}
def bk (ar : List Arw) : List Arw := ar.map fun t => (t.2.2, t.2.1, t.1)
open Classical in
noncomputable def rchB (ar : List Arw) (s b : Int) : Bool := decide (Rch ar s b)
noncomputable def joB (p : Int) (ar : List Arw) : Bool := ((nums p.toNat).map fun b => rchB ar 0 b && rchB (bk ar) 0 b).all id
open Classical in
theorem rchB_iff {ar : List Arw} {s b : Int} : rchB ar s b = true ↔ Rch ar s b := by
  unfold rchB
  exact decide_eq_true_iff
theorem ev_rch {σ : L2.St} {Hm : Hp} {te td : TE} {ar : List Arw} {s b : Int} (h1 : Ev te σ Hm rI b) (h2 : Ev td σ Hm (rFd ar s) ()) : Ev (tDIn te td) σ Hm rB (rchB ar s b) := fun H1 hi Q q => h1 H1 hi _ fun v K2 H2 x2 r => h2.mono x2.s H2 x2.i _ fun w K3 H3 x3 ⟨a, kvs, e, hd, g⟩ => ⟨a, valV kvs (.inl b), e, by
  cases r
  exact DGet.k (k := .inl b) (x3.i _ _ hd), q _ K3 H3 (x2.trans x3) (by
  have : (valV kvs (.inl b : Key)).isSome = rchB ar s b := by
    rw [Bool.eq_iff_iff]
    exact (g b).trans rchB_iff.symm
  rw [this] <;> rfl)⟩
def spJoined (K : PySem.W.Frag) : Sp := SpF (fun (x : Int × List Arw) => a1 (rL K rI) (nums x.1.toNat) (a1 (rT K (rT K rV)) (arVs x.2) a0)) (fun x => 1 ≤ x.1 ∧ x.1 ≤ 12 ∧ x.2.length ≤ 1000 ∧ ∀ t ∈ x.2, in12 t.1 ∧ in12 t.2.2) (fun _ => rB) (fun x => joB x.1 x.2)
theorem ok_all_joined (T : Tx K mg) : Fk P w K mg base CX0 2 (He.ga K "all_joined") ["states", "steps"] (spJoined K) := by
  refine k0_all_joined T (spf_len fun b => a1_len (a1_len a0_len)) (fun cdv A outer s H vs Q E hr h => ?_)
  refine ⟨_, (pss_cons (ps_set (i := 2) c_all_joined.nd rfl (by first | exact Or.inl rfl | exact Or.inr rfl) (pe_fk (ok_reached T) (hr.mono (by decide)) T.g_reached pass0 (pa_cons (pe_fk (ok_links T) (hr.mono (by decide)) T.g_links pass0 (pa_cons (pv 1) pa_nil)) (pa_cons (pe_ix ix_list (pv 0) pe_int (fun _ _ => rfl)) pa_nil))))
  (pss_cons (ps_set (i := 3) c_all_joined.nd rfl (by first | exact Or.inl rfl | exact Or.inr rfl) (pe_fk (ok_reached T) (hr.mono (by decide)) T.g_reached pass0 (pa_cons (pe_fk (ok_links T) (hr.mono (by decide)) T.g_links pass0 (pa_cons (pe_fk (ok_led_back T) (hr.mono (by decide)) T.g_led_back pass0 (pa_cons (pv 1) pa_nil)) pa_nil)) (pa_cons (pe_ix ix_list (pv 0) pe_int (fun _ _ => rfl)) pa_nil))))
  (pss_one (ps_ret (pe_callB (cr_all rfl) (by rfl) T.n_all boot_all (pa_cons (pe_lc (own := [("state", 4)]) rfl c_all_joined.nd (pi_list (pv 0)) (blkOk_by (N := ["states", "steps", "ahead", "behind", "state"]) (sc := defScope s_all_joined) (by decide +kernel)) (fun _ _ _ _ _ => (pg_name (i := 4) c_all_joined.nd rfl (by first | exact Or.inl rfl | exact Or.inr rfl))) (fun _ _ _ _ _ => pts_nil) (fun _ _ _ _ _ => (pe_and (pe_cmp (pc_din (hu_of hr) (pv 4) (pv 2))) (pe_one (pe_cmp (pc_din (hu_of hr) (pv 4) (pv 3))))))) pa_nil)))))), ?_⟩
  obtain ⟨⟨p, ar⟩, Hm, ⟨p1, p2, hz, ha⟩, ⟨v1, ws, rfl, r1, v2, ws2, rfl, r2, rfl⟩, hi, q⟩ := h
  dsimp only at p1 p2 hz ha r1 r2 q
  have h0 : in12 0 := ⟨by decide, by decide⟩
  have g0 : (nums p.toNat)[0]? = some 0 := nums_get (by omega)
  have hbk : ∀ t ∈ bk ar, in12 t.2.2 := fun t ht => by
    obtain ⟨u, hu, rfl⟩ := List.mem_map.mp ht
    exact (ha u hu).1
  refine q_set (ev_call (x := (ar, (0 : Int))) ⟨h0, fun t ht => (ha t ht).2⟩ (ea_cons (ev_call (x := (true, ar)) hz (ea_cons (ev_v rfl r2) ea_nil)) (ea_cons (ev_op (ev_v rfl r1) ev_i (rv_ixL (j := 0) rfl g0)) ea_nil))) hi fun v3 K1 H1 x1 r3 => ?_
  have r1a := (rL K rI).mono x1.s r1
  have r2a := (rT K (rT K rV)).mono x1.s r2
  refine q_set (ev_call (x := (bk ar, (0 : Int))) ⟨h0, hbk⟩ (ea_cons (ev_call (x := (false, bk ar)) (by unfold bk; rw [List.length_map]; exact hz) (ea_cons (ev_call (x := ar) hz (ea_cons (ev_v rfl r2a) ea_nil)) ea_nil)) (ea_cons (ev_op (ev_v rfl r1a) ev_i (rv_ixL (j := 0) rfl g0)) ea_nil))) x1.i fun v4 K2 H2 x2 r4 => ?_
  have r1b := (rL K rI).mono x2.s r1a
  have r3b := (rFd ar 0).mono x2.s r3
  have r4b : (rFd (bk ar) 0).rel K2 v4 () := r4
  exact s_ret (ev_cb (ea_cons (ev_lc0 (K := K) (S := rB) (fun b => rchB ar 0 b && rchB (bk ar) 0 b) (wk_list (ev_v rfl r1b)) (by rw [nums_len]; omega) fun d hd v K3 s3 r5 => ⟨_, tk_name, rfl, ev_and (ev_rch (ev_v rfl r5) (ev_v (R := rFd ar 0) rfl ((rFd ar 0).mono s3 r3b))) fun _ => ev_rch (ev_v rfl r5) (ev_v (R := rFd (bk ar) 0) rfl ((rFd (bk ar) 0).mono s3 r4b))⟩) ea_nil) rc_all) x2.i fun v K3 H3 x3 r => q v K3 H3 ((x1.trans x2).trans x3) r
noncomputable def wrB (p : Int) (ar : List Arw) : Option T8 := if numB 1 12 p = false then some (Str.ofString "points").cps.toList else if arsB p ar = false then some (Str.ofString "arrows").cps.toList else if joB p ar = false then some (Str.ofString "apart").cps.toList else none
theorem ars_in {p : Int} {ar : List Arw} (h : arsB p ar = true) (hp : p ≤ 12) : ∀ t ∈ ar, in12 t.1 ∧ in12 t.2.2 := fun t ht => by
  unfold arsB at h
  rw [Bool.and_eq_true, Bool.and_eq_true (List.all _ _)] at h
  have := List.all_eq_true.mp h.2.1 (arB p t) (List.mem_map_of_mem ht)
  have h2 : arB p t = true := this
  unfold arB numB at h2
  simp only [Bool.and_eq_true, decide_eq_true_iff] at h2
  unfold in12
  omega
def spWrong (K : PySem.W.Frag) : Sp := SpF (fun (x : Int × List Arw) => a1 rI x.1 (a1 (rT K (rT K rV)) (arVs x.2) a0)) (fun x => x.2.length ≤ 1000 ∧ ∀ t ∈ x.2, t.2.1.length ≤ 16000000) (fun _ => rO rS) (fun x => wrB x.1 x.2)
theorem ev_listRg {σ : L2.St} {Hm : Hp} {te : TE} {p : Int} (h : Ev te σ Hm rI p) (h0 : 0 ≤ p) (h1 : p ≤ 1000) : Ev (tLstRg (tRg1 te)) σ Hm (rL K rI) (nums p.toNat) := fun H1 hi Q q => h H1 hi _ fun v K2 H2 x2 r => ⟨p, r, RgOk.of_le (by decide) (by omega) (by decide) (by omega), fun a na => q (.ref a) _ _ (xt_ref x2 na) ⟨a, rgV 0 p, rfl, .inl (.inl upd_same), by
  have e : rgV 0 p = (nums p.toNat).map V.int := by
    unfold rgV nums
    rw [List.map_map, Int.sub_zero]
    refine List.map_congr_left fun i _ => ?_
    simp
  rw [e]
  exact ev_hc.pairedI _⟩⟩
theorem ok_wrong_part (T : Tx K mg) : Fk P w K mg base CX0 6 (He.ga K "wrong_part_webs") ["points", "arrows"] (spWrong K) := by
  refine k0_wrong_part_webs T (spf_len fun b => a1_len (a1_len a0_len)) (fun cdv A outer s H vs Q E hr h => ?_)
  obtain ⟨tP, h_MOST_POINTS⟩ := T.i_MOST_POINTS
  refine ⟨_, (pss_cons (ps_if (pt_not (pt_val (pe_fk (ok_is_number T) (hr.mono (by decide)) T.g_is_number pass0 (pa_cons pe_int (pa_cons (pe_glob (v := .int 12) (by rfl) h_MOST_POINTS ⟨_, rfl⟩) (pa_cons (pv 0) pa_nil)))))) (pss_one (ps_ret pe_str)) pss_nil)
  (pss_cons (ps_if (pt_not (pt_val (pe_fk (ok_are_arrows T) (hr.mono (by decide)) T.g_are_arrows pass0 (pa_cons (pv 0) (pa_cons (pv 1) pa_nil))))) (pss_one (ps_ret pe_str)) pss_nil)
  (pss_cons (ps_if (pt_not (pt_val (pe_fk (ok_all_joined T) (hr.mono (by decide)) T.g_all_joined pass0 (pa_cons (pe_listRg rfl (by rfl) T.n_list (prg_1 (by rfl) T.n_range (pv 0))) (pa_cons (pv 1) pa_nil))))) (pss_one (ps_ret pe_str)) pss_nil)
  (pss_one (ps_ret pe_non))))), ?_⟩
  obtain ⟨⟨p, ar⟩, Hm, ⟨hz, hl⟩, ⟨v1, ws, rfl, r1, v2, ws2, rfl, r2, rfl⟩, hi, q⟩ := h
  dsimp only at hz hl r1 r2 q
  refine q_when (b := !(numB 1 12 p)) (et_not (et_test (ev_call (x := ((1 : Int), (12 : Int), p)) trivial (ea_cons ev_i (ea_cons ev_i (ea_cons (ev_v rfl r1) ea_nil)))))) hi (fun hb K1 H1 x1 => ?_) (fun hb K1 H1 x1 => ?_)
  · have e : wrB p ar = some (Str.ofString "points").cps.toList := if_pos (by simpa using hb)
    rw [e] at q
    exact s_ret (ev_some ev_s) x1.i fun v K2 H2 x2 r => q v K2 H2 (x1.trans x2) r
  have n1 : numB 1 12 p = true := by simpa using hb
  have np : 1 ≤ p ∧ p ≤ 12 := by
    unfold numB at n1
    simpa using n1
  have r1a := rI.mono x1.s r1
  have r2a := (rT K (rT K rV)).mono x1.s r2
  refine q_when (b := !(arsB p ar)) (et_not (et_test (ev_call (x := (p, ar)) ⟨hz, hl⟩ (ea_cons (ev_v rfl r1a) (ea_cons (ev_v rfl r2a) ea_nil))))) x1.i (fun hb K2 H2 x2 => ?_) (fun hb K2 H2 x2 => ?_)
  · have e : wrB p ar = some (Str.ofString "arrows").cps.toList := by
      unfold wrB
      rw [if_neg (by rw [n1]; simp), if_pos (by simpa using hb)]
    rw [e] at q
    exact s_ret (ev_some ev_s) x2.i fun v K3 H3 x3 r => q v K3 H3 ((x1.trans x2).trans x3) r
  have n2 : arsB p ar = true := by simpa using hb
  have r1b := rI.mono x2.s r1a
  have r2b := (rT K (rT K rV)).mono x2.s r2a
  refine q_when (b := !(joB p ar)) (et_not (et_test (ev_call (x := (p, ar)) ⟨np.1, np.2, hz, ars_in n2 np.2⟩ (ea_cons (ev_listRg (ev_v rfl r1b) (by omega) (by omega)) (ea_cons (ev_v rfl r2b) ea_nil))))) x2.i (fun hb K3 H3 x3 => ?_) (fun hb K3 H3 x3 => ?_)
  · have e : wrB p ar = some (Str.ofString "apart").cps.toList := by
      unfold wrB
      rw [if_neg (by rw [n1]; simp), if_neg (by rw [n2]; simp), if_pos (by simpa using hb)]
    rw [e] at q
    exact s_ret (ev_some ev_s) x3.i fun v K4 H4 x4 r => q v K4 H4 (((x1.trans x2).trans x3).trans x4) r
  · have e : wrB p ar = none := by
      unfold wrB
      rw [if_neg (by rw [n1]; simp), if_neg (by rw [n2]; simp), if_neg (by
        have : joB p ar = true := by simpa using hb
        rw [this]
        simp)]
    rw [e] at q
    exact s_ret (ev_none ev_n) x3.i fun v K4 H4 x4 r => q v K4 H4 (((x1.trans x2).trans x3).trans x4) r
end
end GW
end NJ

set_option Elab.async false
set_option linter.all false
set_option maxRecDepth 100000
set_option maxHeartbeats 4000000
/-! The rows of masks by letters. -/
namespace NJ
open PySem PySem.Spec PyProof.Rows L2
namespace GW
section
variable {P : Program} {w : World} {K : PySem.W.Frag} {mg : Str → Option Value} {base : Heap}
def rowV (p : Nat) (M : Nat → Int) : List V := (List.range p).map fun i => V.int (M i)
theorem rowV_len (p : Nat) (M : Nat → Int) : (rowV p M).length = p := by simp [rowV]
theorem rowV_zero (p : Nat) : (List.replicate p [V.int 0]).flatten = rowV p fun _ => 0 := by
  unfold rowV
  induction p with
  | zero => rfl
  | succ n ih =>
    rw [List.replicate_succ', List.flatten_append, ih, List.range_succ, List.map_append] <;> rfl
theorem rowV_set {p i : Nat} (M : Nat → Int) (x : Int) (hi : i < p) : (rowV p M).set i (.int x) = rowV p fun j => if j = i then x else M j := by
  refine List.ext_getElem (by rw [List.length_set, rowV_len, rowV_len]) fun j h1 h2 => ?_
  rw [List.getElem_set]
  simp only [rowV, List.getElem_map, List.getElem_range]
  by_cases h : i = j
  · subst h
    simp
  · rw [if_neg h, if_neg fun e => h e.symm]
/-- one arrow more -/
def bitA (t : Arw) : Int := 1 * 2 ^ t.2.2.toNat
def addA (M : T8 → Nat → Int) (t : Arw) : T8 → Nat → Int := fun l j => if l = t.2.1 ∧ (j : Int) = t.1 then Builtin.bitOr (M l j) (bitA t) else M l j
def masks (ar : List Arw) : T8 → Nat → Int := ar.foldl addA fun _ _ => 0
/-- the rows -/
structure RI (H K2 H' : Hp) (d : Addr) (p : Nat) (xs : List T8) (M : T8 → Nat → Int) : Prop where
  s1 : Same K2 H'
  s2 : Same H H'
  ex : ∃ kvs, H' d = some (.dK kvs) ∧ kvs.map (·.1) = xs.map kT ∧ (∀ l ∈ xs, ∃ r, valV kvs (kT l) = some (.ref r) ∧ H r = none ∧ K2 r = none ∧ r ≠ d ∧ H' r = some (.lst (rowV p (M l)))) ∧
    ∀ l ∈ xs, ∀ l' ∈ xs, ∀ r : Addr, valV kvs (kT l) = some (.ref r) → valV kvs (kT l') = some (.ref r) → l = l'
theorem RI.ext {H K2 H' H4 : Hp} {d : Addr} {p : Nat} {xs : List T8} {M : T8 → Nat → Int} (h : RI H K2 H' d p xs M) (k : Same H' H4) : RI H K2 H4 d p xs M := ⟨h.s1.trans k, h.s2.trans k, by
  obtain ⟨kvs, h1, h2, h3, h4⟩ := h.ex
  exact ⟨kvs, k _ _ h1, h2, fun l hl => by
    obtain ⟨r, e1, e2, e3, e4, e5⟩ := h3 l hl
    exact ⟨r, e1, e2, e3, e4, k _ _ e5⟩, h4⟩⟩
theorem kT_ne {l l' : T8} (h : l ≠ l') : ¬ kT l' = kT l := fun e => h (kT_inj e).symm
/-- rows = {letter: [0] * points for letter in xs} -/
theorem q_rows {Hm H : Hp} {D : Ends} {wi : TI} {tz : TS} {v2 : V} {p : Int} {xs : List T8} (hw : Wk wi [some (V.int p), some v2, none, none, none, none, none] Hm rS xs) (hi : Same Hm H) (nd : xs.Nodup) (hz : xs.length ≤ 1000) (p0 : 0 ≤ p) (p1 : p ≤ 1000)
    (fin : ∀ d H', H d = none → RI H Hm H' d p.toNat xs (fun _ _ => 0) → tz D [some (V.int p), some v2, some (.ref d), none, none, none, none] H') :
    tSeq (tAsg (tDc wi (gName 4) tYes (tVar 4) rowsTv [4]) (gName 2)) tz D [some (V.int p), some v2, none, none, none, none, none] H := by
  refine hw H hi _ fun J K2 H2 x2 hJ d nd2 => ?_
  have ndk : K2 d = none := none_back x2.i nd2
  have ndH : H d = none := none_back x2.k nd2
  refine ⟨fun j m H' => j + m = xs.length ∧ RI H K2 H' d p.toNat (xs.take j) (fun _ _ => 0), ⟨xs.length, by omega, same_mut x2.i ndk, put_new x2.k ndH, [], upd_same, rfl, fun l hl => by simp at hl, fun l hl => by simp at hl⟩, ?_⟩
  rintro j m H' ⟨em, ri⟩
  obtain ⟨go, stop, yld⟩ := hJ j H' ri.s1
  by_cases hlt : j < xs.length
  · refine .inr ⟨go hlt, fun H'' => RI H K2 H'' d p.toNat (xs.take (j + 1)) (fun _ _ => 0), fun H'' h => ⟨m - 1, by omega, by omega, h⟩, fun u H4 hy => ?_⟩
    obtain ⟨x, K4, ex, x4, rv⟩ := yld hlt u H4 hy
    have ri4 := ri.ext x4.k
    obtain ⟨kvs, hd4, hk4, h3, h4⟩ := ri4.ex
    have et : xs.take (j + 1) = xs.take j ++ [x] := by rw [List.take_add_one, ex] <;> rfl
    have hnx : x ∉ xs.take j := fun h => by
      have n2 : (xs.take (j + 1)).Nodup := List.Nodup.sublist (List.take_sublist _ _) nd
      rw [et, List.nodup_append] at n2
      exact n2.2.2 x h x (List.mem_singleton.mpr rfl) rfl
    have vn : valV kvs (kT x) = none := by
      cases hv : valV kvs (kT x) with
      | none => rfl
      | some y =>
        have m1 := valV_in hv
        rw [hk4] at m1
        obtain ⟨z, hz1, hz2⟩ := List.mem_map.mp m1
        rw [kT_inj hz2] at hz1
        exact absurd hz1 hnx
    have kl : kvs.length ≤ 1000 := by
      have := congrArg List.length hk4
      rw [List.length_map, List.length_map, List.length_take] at this
      omega
    refine ⟨rfl, ?_⟩
    unfold tYes
    dsimp only
    rw [if_pos rfl]
    refine ⟨u, rfl, ⟨by show 1 ≤ sizeLine; rw [sizeLine_eq]; decide, fun p1' np => ⟨.int p, rfl, p1', p, [.int 0], rfl, rfl, upd_same, by omega, by omega, by rw [List.length_singleton, Nat.one_mul, sizeLine_eq]; omega, fun l nl => ?_⟩⟩⟩
    rw [rowV_zero]
    have ndp : d ≠ p1' := fun e => by
      rw [← e, hd4] at np
      cases np
    have nld : l ≠ d := fun e => by
      rw [e, upd_ne ndp, hd4] at nl
      cases nl
    have nlp : l ≠ p1' := fun e => by
      rw [e, upd_same] at nl
      cases nl
    have npH : H p1' = none := none_back ri4.s2 np
    have npK : K2 p1' = none := none_back ri4.s1 np
    have nl4 : H4 l = none := by
      rw [upd_ne nlp] at nl
      exact nl
    have nlH : H l = none := none_back ri4.s2 nl4
    have nlK : K2 l = none := none_back ri4.s1 nl4
    have old : ∀ c ∈ xs.take j, ∀ r : Addr, valV kvs (kT c) = some (.ref r) → r ≠ l ∧ r ≠ p1' := fun c hc r hr => by
      obtain ⟨r', e1, _, _, _, e5⟩ := h3 c hc
      rw [hr] at e1
      cases e1
      refine ⟨fun z => ?_, fun z => ?_⟩
      · rw [z, nl4] at e5
        cases e5
      · rw [z, np] at e5
        cases e5
    have nex : ∀ c ∈ xs.take j, c ≠ x := fun c hc e => hnx (e ▸ hc)
    refine ⟨kvs, kT x, rv, by rw [upd_ne (Ne.symm nld), upd_ne ndp]; exact hd4, by rw [sizeLine_eq]; omega, same_mut (same_mut (same_mut ri4.s1 npK) nlK) ndk, put_new (put_new (put_new ri4.s2 npH) nlH) ndH, putK kvs (kT x) (.ref l), upd_same, by rw [putK_new _ vn, List.map_append, hk4, et, List.map_append] <;> rfl, fun c hc => ?_, fun c hc c' hc' r g1 g2 => ?_⟩
    · rw [et, List.mem_append, List.mem_singleton] at hc
      rw [valV_put]
      rcases hc with hc | rfl
      · rw [if_neg (kT_ne (Ne.symm (nex c hc)))]
        obtain ⟨r, e1, e2, e3, e4, e5⟩ := h3 c hc
        have o := old c hc r e1
        exact ⟨r, e1, e2, e3, e4, by rw [upd_ne e4, upd_ne o.1, upd_ne o.2]; exact e5⟩
      · rw [if_pos rfl]
        exact ⟨l, rfl, nlH, nlK, nld, by rw [upd_ne nld, upd_same]⟩
    · rw [et, List.mem_append, List.mem_singleton] at hc hc'
      rw [valV_put] at g1 g2
      rcases hc with hc | rfl <;> rcases hc' with hc' | rfl
      · rw [if_neg (kT_ne (Ne.symm (nex c hc)))] at g1
        rw [if_neg (kT_ne (Ne.symm (nex c' hc')))] at g2
        exact h4 c hc c' hc' r g1 g2
      · rw [if_neg (kT_ne (Ne.symm (nex c hc)))] at g1
        rw [if_pos rfl] at g2
        cases g2
        exact absurd rfl (old c hc _ g1).1
      · rw [if_neg (kT_ne (Ne.symm (nex c' hc')))] at g2
        rw [if_pos rfl] at g1
        cases g1
        exact absurd rfl (old c' hc' _ g2).1
      · rfl
  · have e : j = xs.length := by omega
    subst e
    rw [List.take_length] at ri
    refine .inl ⟨stop (Nat.le_refl _), fin d H' ndH ⟨x2.s.trans ri.s1, ri.s2, ?_⟩⟩
    obtain ⟨kvs, h1, h2, h3, h4⟩ := ri.ex
    exact ⟨kvs, h1, h2, fun l hl => by
      obtain ⟨r, e1, e2, e3, e4, e5⟩ := h3 l hl
      exact ⟨r, e1, e2, none_back hi e2, e4, e5⟩, h4⟩
/-- what letter_rows tells -/
def lets (ar : List Arw) : List T8 := sd (ar.map fun t => t.2.1)
def rRows (p : Nat) (ar : List Arw) : Rp Unit := ⟨fun H v _ => ∃ a kvs, v = .ref a ∧ H a = some (.dK kvs) ∧ kvs.map (·.1) = (lets ar).map kT ∧ ∀ l ∈ lets ar, ∃ r, valV kvs (kT l) = some (.ref r) ∧ H r = some (.lst (rowV p (masks ar l))), fun s ⟨a, kvs, e, h, g, k⟩ => ⟨a, kvs, e, s _ _ h, g, fun l hl => by
  obtain ⟨r, e1, e2⟩ := k l hl
  exact ⟨r, e1, s _ _ e2⟩⟩⟩
theorem masks_snoc (ar : List Arw) (t : Arw) : masks (ar ++ [t]) = addA (masks ar) t := by
  unfold masks
  rw [List.foldl_append] <;> rfl
def aRows (K : PySem.W.Frag) (x : Bool × Int × List Arw) : Ar := a1 rI x.2.1 (aArs K (x.1, x.2.2))
def spRows (K : PySem.W.Frag) : Sp := SpF (fun x => aRows K x) (fun x => 0 ≤ x.2.1 ∧ x.2.1 ≤ 1000 ∧ x.2.2.length ≤ 1000 ∧ ∀ t ∈ x.2.2, 0 ≤ t.1 ∧ t.1 < x.2.1 ∧ 0 ≤ t.2.2 ∧ t.2.2 ≤ 1000) (fun x => rRows x.2.1.toNat x.2.2) (fun _ => ())
theorem rows_loop {Hm H : Hp} {D : Ends} {wi : TI} {v2 : V} {p : Int} {ar : List Arw} {d : Addr} {H0 : Hp} (hw : Wk wi [some (V.int p), some v2, some (.ref d), none, none, none, none] Hm (rAr K) ar) (hi : Same Hm H) (ha : ∀ t ∈ ar, 0 ≤ t.1 ∧ t.1 < p ∧ 0 ≤ t.2.2 ∧ t.2.2 ≤ 1000) (nd : H d = none)
    (ri0 : RI H Hm H0 d p.toNat (lets ar) (fun _ _ => 0)) (q : ∀ u Hm' H2, Xt Hm H Hm' H2 → (rRows p.toNat ar).rel Hm' u () → D.rt u H2) :
    tSeq (tFor wi (gTup K 3 (gCons (gName 3) (gCons (gName 4) (gCons (gName 5) gNil)))) (tAugS (tDGet (tVar 2) (tVar 4)) (tVar 3) (tOp (L2.rI CPow fun i j => .int (i * 2 ^ j.toNat)) (tC (.int 1)) (tVar 5)) (gGet K) (rI0 fun i j => .int (Builtin.bitOr i j)) L2.rSetL)) (tRet (tVar 2)) D [some (V.int p), some v2, some (.ref d), none, none, none, none] H0 := by
  refine q_for hw ri0.s1 fun K2 H2 x2 => ?_
  have ndm : Hm d = none := none_back hi nd
  have ri2 : RI H K2 H2 d p.toNat (lets ar) (masks (ar.take 0)) := ⟨x2.i, ri0.s2.trans x2.k, by
    obtain ⟨kvs, h1, h2, h3, h4⟩ := ri0.ex
    exact ⟨kvs, x2.k _ _ h1, h2, fun l hl => by
      obtain ⟨r, e1, e2, e3, e4, e5⟩ := h3 l hl
      exact ⟨r, e1, e2, none_of x2 e3 e5, e4, x2.k _ _ e5⟩, h4⟩⟩
  refine ⟨fun i σ' H' => (∃ o3 o4 o5, σ' = [some (V.int p), some v2, some (.ref d), o3, o4, o5, none]) ∧ RI H K2 H' d p.toNat (lets ar) (masks (ar.take i)), ⟨⟨_, _, _, rfl⟩, ri2⟩, fun i σ' H' h => h.2.s1, ?_, ?_⟩
  · rintro i t σ' H' u K4 H4 ht ⟨⟨o3, o4, o5, rfl⟩, ri⟩ x4 r4
    have ri4 := ri.ext x4.k
    obtain ⟨kvs, hd4, hk4, h3, h4⟩ := ri4.ex
    have htm := List.mem_of_getElem? ht
    obtain ⟨a1', a2', a3', a4'⟩ := ha t htm
    have hl : t.2.1 ∈ lets ar := mem_sd.mpr (List.mem_map_of_mem htm)
    obtain ⟨r, e1, e2, e3, e4, e5⟩ := h3 t.2.1 hl
    have et : ar.take (i + 1) = ar.take i ++ [t] := by rw [List.take_add_one, ht] <;> rfl
    have hb : t.1.toNat < p.toNat := by omega
    have hbi : ((t.1.toNat : Nat) : Int) = t.1 := by omega
    refine tk_3 (K := K) r4 H4 x4.i _ ?_
    refine ⟨.ref d, rfl, .str (tx t.2.1), rfl, d, .ref r, rfl, by rw [← e1]; exact DGet.k (k := kT t.2.1) hd4, ?_⟩
    refine ⟨.int t.1, rfl, r, _, t.1.toNat, .int (masks (ar.take i) t.2.1 t.1.toNat), rfl, by rw [hbi], .inl (.inl e5), by simp [rowV, hb], ?_⟩
    refine ⟨.int t.2.2, rfl, 1, t.2.2, rfl, rfl, ⟨a3', by omega, by decide⟩, ?_⟩
    refine ⟨_, _, rfl, rfl, r, _, t.1, t.1.toNat, rfl, rfl, e5, ?_, ⟨_, _, _, rfl⟩, ?_⟩
    · rw [rowV_len]
      unfold ixN
      rw [if_pos a1', if_pos (by omega)]
    · rw [rowV_set _ _ hb]
      refine ⟨same_mut ri4.s1 e3, put_new ri4.s2 e2, kvs, by rw [upd_ne (Ne.symm e4)]; exact hd4, hk4, fun l hl' => ?_, h4⟩
      rw [et, masks_snoc]
      by_cases hlt : l = t.2.1
      · subst hlt
        refine ⟨r, e1, e2, e3, e4, ?_⟩
        rw [upd_same]
        congr 2
        unfold rowV
        refine List.map_congr_left fun j hj => ?_
        unfold addA bitA
        dsimp only
        by_cases hj2 : j = t.1.toNat
        · subst hj2
          rw [if_pos rfl, if_pos ⟨rfl, hbi⟩]
        · rw [if_neg hj2, if_neg fun z => hj2 (by have := z.2; omega)]
      · obtain ⟨r', f1, f2, f3, f4, f5⟩ := h3 l hl'
        have hne : r' ≠ r := fun z => hlt (h4 l hl' t.2.1 hl r (by rw [f1, z]) e1)
        refine ⟨r', f1, f2, f3, f4, ?_⟩
        rw [upd_ne hne, f5]
        congr 2
        unfold rowV
        refine List.map_congr_left fun j hj => ?_
        unfold addA
        rw [if_neg fun z => hlt z.1]
  · rintro σ' H' ⟨⟨o3, o4, o5, rfl⟩, ri⟩
    rw [List.take_length] at ri
    obtain ⟨kvs, hd, hk, h3, h4⟩ := ri.ex
    exact s_ret (ev_v (R := rRows p.toNat ar) (d := ()) rfl ⟨d, kvs, rfl, (nw_new nd).trans hd, hk, fun l hl => by
      obtain ⟨r, e1, e2, e3, e4, e5⟩ := h3 l hl
      exact ⟨r, e1, (nw_new e2).trans e5⟩⟩) (xt_nw hi ri.s2).i fun u K5 H5 x5 r5 => q u K5 H5 ((xt_nw hi ri.s2).trans x5) r5
theorem ok_letter_rows (T : Tx K mg) : Fk P w K mg base CX0 1 (He.ga K "letter_rows") ["points", "arrows"] (spRows K) := by
  refine k0_letter_rows T (spf_len fun b => a1_len (aArs_len _)) (fun cdv A outer s H vs Q E hr h => ?_)
  obtain ⟨⟨b, p, ar⟩, Hm, ⟨p0, p1, hz, ha⟩, ⟨v1, ws, rfl, r1, a⟩, hi, q⟩ := h
  dsimp only at p0 p1 hz ha r1 a q
  cases r1
  cases b with
  | true =>
    obtain ⟨v2, ws2, rfl, r2, rfl⟩ := a
    refine ⟨_, (pss_cons (ps_setDc (i := 2) (own := [("letter", 4)]) rfl c_letter_rows.nd rfl (by rfl) (sw_dc rfl rfl rfl (by decide +kernel)) (pi_list (pe_callB (cr_sortSet rfl (hu100 hr)) (by rfl) T.n_sorted boot_sorted (pa_cons (pe_callTy (cr_setL rfl) (by rfl) T.n_set boot_set (pa_cons (pe_lc (g := gTup K 3 (gCons (gName 6) (gCons (gName 4) (gCons (gName 6) gNil)))) (own := [("_", 6), ("letter", 4)]) rfl c_letter_rows.nd (pi_tup (pv 1)) (blkOk_by (N := ["points", "arrows", "rows", "begin", "letter", "end", "_"]) (sc := defScope s_letter_rows) (by decide +kernel)) (fun _ _ _ _ _ => (pg_tup rfl (pgs_cons (pg_name (i := 6) c_letter_rows.nd rfl (by first | exact Or.inl rfl | exact Or.inr rfl)) (pgs_cons (pg_name (i := 4) c_letter_rows.nd rfl (by first | exact Or.inl rfl | exact Or.inr rfl)) (pgs_cons (pg_name (i := 6) c_letter_rows.nd rfl (by first | exact Or.inl rfl | exact Or.inr rfl)) pgs_nil))))) (fun _ _ _ _ _ => pts_nil) (fun _ _ _ _ _ => (pv 4))) pa_nil)) pa_nil))) (blkOk_by (N := ["points", "arrows", "rows", "begin", "letter", "end", "_"]) (sc := defScope s_letter_rows) (by decide +kernel)) (fun _ _ _ _ _ => (pg_name (i := 4) c_letter_rows.nd rfl (by first | exact Or.inl rfl | exact Or.inr rfl))) (fun _ _ _ _ _ => pts_nil) (fun _ _ _ _ _ => (pv 4)) (fun _ _ _ _ _ => (pe_op op_rep (pe_lst (pa_cons pe_int pa_nil)) (pv 0))))
  (pss_cons (ps_for PassesOwn.never rfl (pi_tup (pv 1)) (pg_tup rfl (pgs_cons (pg_name (i := 3) c_letter_rows.nd rfl (by first | exact Or.inl rfl | exact Or.inr rfl)) (pgs_cons (pg_name (i := 4) c_letter_rows.nd rfl (by first | exact Or.inl rfl | exact Or.inr rfl)) (pgs_cons (pg_name (i := 5) c_letter_rows.nd rfl (by first | exact Or.inl rfl | exact Or.inr rfl)) pgs_nil)))) (pss_one (ps_augS (pe_dget (hu_of hr) (pv 2) (pv 4) (fun _ _ => rfl)) (pv 3) get_lst (pe_op op_shl pe_int (pv 5)) ip_or set_list)))
  (pss_one (ps_ret (pv 2))))), ?_⟩
    refine q_rows (p := p) (xs := lets ar) (wk_list (K := K) (ev_ssetL (ev_lc0 (K := K) (S := rS) (R := rAr K) (fun t : Arw => t.2.1) (wk_tup (ev_v rfl (rt_ar r2))) (by omega) fun t ht u K3 s3 r3 => ?_) (by rw [List.length_map]; exact hz))) hi nd_sd (by have := sd_len (xs := ar.map fun t => t.2.1); rw [List.length_map] at this; unfold lets; omega) p0 p1 fun d H' nd ri => ?_
    · exact ⟨_, tk_w3 r3, rfl, ev_v (R := rS) (d := t.2.1) rfl rfl⟩
    · exact rows_loop (wk_tup (ev_v rfl (rt_ar r2))) hi ha nd ri q
  | false =>
    obtain ⟨v2, ws2, rfl, r2, rfl⟩ := a
    refine ⟨_, (pss_cons (ps_setDc (i := 2) (own := [("letter", 4)]) rfl c_letter_rows.nd rfl (by rfl) (sw_dc rfl rfl rfl (by decide +kernel)) (pi_list (pe_callB (cr_sortSet rfl (hu100 hr)) (by rfl) T.n_sorted boot_sorted (pa_cons (pe_callTy (cr_setL rfl) (by rfl) T.n_set boot_set (pa_cons (pe_lc (g := gTup K 3 (gCons (gName 6) (gCons (gName 4) (gCons (gName 6) gNil)))) (own := [("_", 6), ("letter", 4)]) rfl c_letter_rows.nd (pi_list (pv 1)) (blkOk_by (N := ["points", "arrows", "rows", "begin", "letter", "end", "_"]) (sc := defScope s_letter_rows) (by decide +kernel)) (fun _ _ _ _ _ => (pg_tup rfl (pgs_cons (pg_name (i := 6) c_letter_rows.nd rfl (by first | exact Or.inl rfl | exact Or.inr rfl)) (pgs_cons (pg_name (i := 4) c_letter_rows.nd rfl (by first | exact Or.inl rfl | exact Or.inr rfl)) (pgs_cons (pg_name (i := 6) c_letter_rows.nd rfl (by first | exact Or.inl rfl | exact Or.inr rfl)) pgs_nil))))) (fun _ _ _ _ _ => pts_nil) (fun _ _ _ _ _ => (pv 4))) pa_nil)) pa_nil))) (blkOk_by (N := ["points", "arrows", "rows", "begin", "letter", "end", "_"]) (sc := defScope s_letter_rows) (by decide +kernel)) (fun _ _ _ _ _ => (pg_name (i := 4) c_letter_rows.nd rfl (by first | exact Or.inl rfl | exact Or.inr rfl))) (fun _ _ _ _ _ => pts_nil) (fun _ _ _ _ _ => (pv 4)) (fun _ _ _ _ _ => (pe_op op_rep (pe_lst (pa_cons pe_int pa_nil)) (pv 0))))
  (pss_cons (ps_for PassesOwn.never rfl (pi_list (pv 1)) (pg_tup rfl (pgs_cons (pg_name (i := 3) c_letter_rows.nd rfl (by first | exact Or.inl rfl | exact Or.inr rfl)) (pgs_cons (pg_name (i := 4) c_letter_rows.nd rfl (by first | exact Or.inl rfl | exact Or.inr rfl)) (pgs_cons (pg_name (i := 5) c_letter_rows.nd rfl (by first | exact Or.inl rfl | exact Or.inr rfl)) pgs_nil)))) (pss_one (ps_augS (pe_dget (hu_of hr) (pv 2) (pv 4) (fun _ _ => rfl)) (pv 3) get_lst (pe_op op_shl pe_int (pv 5)) ip_or set_list)))
  (pss_one (ps_ret (pv 2))))), ?_⟩
    refine q_rows (p := p) (xs := lets ar) (wk_list (K := K) (ev_ssetL (ev_lc0 (K := K) (S := rS) (R := rAr K) (fun t : Arw => t.2.1) (wk_list (ev_v rfl (rl_ar r2))) (by omega) fun t ht u K3 s3 r3 => ?_) (by rw [List.length_map]; exact hz))) hi nd_sd (by have := sd_len (xs := ar.map fun t => t.2.1); rw [List.length_map] at this; unfold lets; omega) p0 p1 fun d H' nd ri => ?_
    · exact ⟨_, tk_w3 r3, rfl, ev_v (R := rS) (d := t.2.1) rfl rfl⟩
    · exact rows_loop (wk_list (ev_v rfl (rl_ar r2))) hi ha nd ri q
end
end GW
end NJ

set_option Elab.async false
set_option linter.all false
set_option maxRecDepth 100000
set_option maxHeartbeats 4000000
/-! Web(points, arrows), right ones. -/
namespace NJ
open PySem PySem.Spec PyProof.Rows L2
namespace GW
theorem to_nw {Hm H Ha K3 Hb H' : Hp} {x : Addr} (x3 : Xt Hm Ha K3 Hb) (hb : Bt x H Ha) (nx : Hm x = none) (ex : ∃ o, Ha x = some o) (hi : Same Hm H) (kk : ∀ p o, p ≠ x → K3 p = some o → H' p = some o) : Same K3 (nw Hm H H') := fun p o e => by
  have hpx : p ≠ x := fun z => by
    obtain ⟨o', ho'⟩ := ex
    rw [z, none_of x3 nx ho'] at e
    cases e
  unfold nw
  cases h : H p with
  | none => exact kk p o hpx e
  | some u =>
    have h2 := hb p u hpx h
    rcases x3.f p (by rw [e]; simp) with z | z
    · cases hm : Hm p with
      | none => exact absurd hm z
      | some u' =>
        have := x3.s p u' hm
        rw [e] at this
        exact this.symm
    · rw [h2] at z
      cases z
theorem nw_nw {Hm H H2 H' : Hp} (hi : Same Hm H) (k : Same H H2) : Same (nw Hm H2 H') (nw Hm H H') := fun p o e => by
  unfold nw at e ⊢
  cases h2 : H2 p with
  | none =>
    rw [h2] at e
    rw [none_back k h2]
    exact e
  | some u =>
    rw [h2] at e
    have h := hi p o e
    rw [h]
    exact e
section
variable {P : Program} {w : World} {K : PySem.W.Frag} {mg : Str → Option Value} {base : Heap}
theorem s_fldR {σ : L2.St} {Hm H : Hp} {α : Type} {R : Rp α} {d : α} {te : TE} {D : Ends} {x C dx : Addr} {fs : List (Str × V)} {f : Str} (h : Ev te σ Hm R d) (hi : Same Hm H) (hv : σ[0]? = some (some (.ref x))) (hx : H x = some (.ins C dx fs)) (c : Cls K C) (n : NoAttr K C f) (hl : fs.length < 1000)
    (k : ∀ y K1 H1, Xt Hm H K1 H1 → R.rel K1 y d → D.nx σ (upd H1 x (.ins C dx (putF f y fs)))) : sFld K (tVar 0) te f D σ H := h H hi _ fun y K1 H1 x1 r => ⟨.ref x, hv, x, C, dx, fs, rfl, x1.k _ _ hx, c, n, hl, k y K1 H1 x1 r⟩
theorem q_fldR {σ : L2.St} {Hm H : Hp} {α : Type} {R : Rp α} {d : α} {te : TE} {D : Ends} {tz : TS} {x C dx : Addr} {fs : List (Str × V)} {f : Str} (h : Ev te σ Hm R d) (hi : Same Hm H) (hv : σ[0]? = some (some (.ref x))) (hx : H x = some (.ins C dx fs)) (c : Cls K C) (n : NoAttr K C f) (hl : fs.length < 1000)
    (k : ∀ y K1 H1, Xt Hm H K1 H1 → R.rel K1 y d → tz D σ (upd H1 x (.ins C dx (putF f y fs)))) : tSeq (sFld K (tVar 0) te f) tz D σ H := s_fldR (D := { D with nx := tz D }) h hi hv hx c n hl k
/-- a web's fields -/
structure WF (K : PySem.W.Frag) (H : Hp) (fs : List (Str × V)) (p : Int) (ar : List Arw) : Prop where
  pt : fs.lookup ("points" : Str) = some (.int p)
  aw : ∃ x, fs.lookup ("arrows" : Str) = some x ∧ (rT K (rT K rV)).rel H x (arVs ar)
  ow : ∃ x, fs.lookup ("onward" : Str) = some x ∧ (rRows p.toNat ar).rel H x ()
  bw : ∃ x, fs.lookup ("backward" : Str) = some x ∧ (rRows p.toNat (bk ar)).rel H x ()
theorem WF.mono {H H' : Hp} {fs : List (Str × V)} {p : Int} {ar : List Arw} (s : Same H H') (h : WF K H fs p ar) : WF K H' fs p ar := ⟨h.pt, by
  obtain ⟨x, a, b⟩ := h.aw
  exact ⟨x, a, (rT K (rT K rV)).mono s b⟩, by
  obtain ⟨x, a, b⟩ := h.ow
  exact ⟨x, a, (rRows p.toNat ar).mono s b⟩, by
  obtain ⟨x, a, b⟩ := h.bw
  exact ⟨x, a, (rRows p.toNat (bk ar)).mono s b⟩⟩
def wf (p : Int) (ar : List Arw) : Prop := wrB p ar = none ∧ ar.length ≤ 1000 ∧ (∀ t ∈ ar, t.2.1.length ≤ 16000000)
theorem wf_in {p : Int} {ar : List Arw} (h : wf p ar) : (1 ≤ p ∧ p ≤ 12) ∧ arsB p ar = true ∧ joB p ar = true := by
  have h1 := h.1
  unfold wrB at h1
  split at h1
  · cases h1
  · split at h1
    · cases h1
    · split at h1
      · cases h1
      · rename_i a b c
        refine ⟨?_, by simpa using b, by simpa using c⟩
        have : numB 1 12 p = true := by simpa using a
        unfold numB at this
        simpa using this
theorem wf_at {p : Int} {ar : List Arw} (h : wf p ar) : ∀ t ∈ ar, (0 ≤ t.1 ∧ t.1 < p) ∧ 0 ≤ t.2.2 ∧ t.2.2 < p := fun t ht => by
  have h2 := (wf_in h).2.1
  unfold arsB at h2
  rw [Bool.and_eq_true, Bool.and_eq_true (List.all _ _)] at h2
  have h3 : arB p t = true := List.all_eq_true.mp h2.2.1 (arB p t) (List.mem_map_of_mem ht)
  unfold arB numB at h3
  simp only [Bool.and_eq_true, decide_eq_true_iff] at h3
  omega
def spLay (K : PySem.W.Frag) : Sp := fun vs H Q _ => ∃ (x dx : Addr) (u : V) (p : Int) (ar : List Arw) (Hm : Hp), vs = [.ref x, .int p, u] ∧ wf p ar ∧ (rT K (rT K rV)).rel Hm u (arVs ar) ∧ Same Hm H ∧ Hm x = none ∧ H x = some (.ins (CW K) dx []) ∧ ∀ H' fs', Bt x H H' → H' x = some (.ins (CW K) dx fs') → WF K (nw Hm H H') fs' p ar → Q .non H'
theorem ok_lay (T : Tx K mg) : Fk P w K mg base CX0 2 (He.ma K (CW K) "lay") ["self", "points", "arrows"] (spLay K) := by
  refine k0_Web_lay T (fun vs H Q E ⟨x, dx, u, p, ar, Hm, e, _⟩ => by rw [e] <;> rfl) (fun cdv A outer s H vs Q E hr h => ?_)
  refine ⟨_, (pss_cons (ps_fld (pv 0) (pv 1) rfl)
  (pss_cons (ps_fld (pv 0) (pv 2) rfl)
  (pss_cons (ps_fld (pv 0) (pe_fk (ok_letter_rows T) (hr.mono (by decide)) T.g_letter_rows pass0 (pa_cons (pv 1) (pa_cons (pv 2) pa_nil))) rfl)
  (pss_one (ps_fld (pv 0) (pe_fk (ok_letter_rows T) (hr.mono (by decide)) T.g_letter_rows pass0 (pa_cons (pv 1) (pa_cons (pe_fk (ok_led_back T) (hr.mono (by decide)) T.g_led_back pass0 (pa_cons (pv 2) pa_nil)) pa_nil))) rfl))))), ?_⟩
  obtain ⟨x, dx, u, p, ar, Hm, rfl, hw, r, hi, nx, hx, q⟩ := h
  have hp := (wf_in hw).1
  have hat := wf_at hw
  have b0 : Bt x H H := fun _ _ _ e => e
  have hzr : 0 ≤ p ∧ p ≤ 1000 ∧ ar.length ≤ 1000 ∧ ∀ t ∈ ar, 0 ≤ t.1 ∧ t.1 < p ∧ 0 ≤ t.2.2 ∧ t.2.2 ≤ 1000 := ⟨by omega, by omega, hw.2.1, fun t ht => by have := hat t ht; omega⟩
  have hzb : 0 ≤ p ∧ p ≤ 1000 ∧ (bk ar).length ≤ 1000 ∧ ∀ t ∈ bk ar, 0 ≤ t.1 ∧ t.1 < p ∧ 0 ≤ t.2.2 ∧ t.2.2 ≤ 1000 := ⟨by omega, by omega, by unfold bk; rw [List.length_map]; exact hw.2.1, fun t ht => by
    obtain ⟨u, hu, rfl⟩ := List.mem_map.mp ht
    have := hat u hu
    dsimp only
    omega⟩
  refine q_fldR (ev_v (R := rV) (d := .int p) rfl rfl) hi rfl hx T.cl_Web T.na_Web_points (by decide) fun y1 K1 H1 x1 g1 => ?_
  cases g1
  have b1 := b0.put x1.k (o := .ins (CW K) dx (putF "points" (.int p) []))
  have l1 := putF_len "points" (.int p) []
  refine q_fldR (ev_v (R := rV) (d := u) rfl rfl) (b1.same hi nx) rfl upd_same T.cl_Web T.na_Web_arrows (by simp at l1; omega) fun y2 K2 H2 x2 g2 => ?_
  cases g2
  have b2 := b1.put x2.k (o := .ins (CW K) dx (putF "arrows" u (putF "points" (.int p) [])))
  have l2 := putF_len "arrows" u (putF "points" (.int p) [])
  refine q_fldR (ev_call (x := (true, p, ar)) hzr (ea_cons (ev_v (R := rI) (d := p) rfl rfl) (ea_cons (ev_v rfl r) ea_nil))) (b2.same hi nx) rfl upd_same T.cl_Web T.na_Web_onward (by simp at l1; omega) fun y3 K3 H3 x3 g3 => ?_
  have b3 := b2.put x3.k (o := .ins (CW K) dx (putF "onward" y3 (putF "arrows" u (putF "points" (.int p) []))))
  have l3 := putF_len "onward" y3 (putF "arrows" u (putF "points" (.int p) []))
  refine s_fldR (ev_call (x := (false, p, bk ar)) hzb (ea_cons (ev_v (R := rI) (d := p) rfl rfl) (ea_cons (ev_call (x := ar) hw.2.1 (ea_cons (ev_v rfl r) ea_nil)) ea_nil))) (b3.same hi nx) rfl upd_same T.cl_Web T.na_Web_backward (by simp at l1; omega) fun y4 K4 H4 x4 g4 => ?_
  have b4 := b3.put x4.k (o := .ins (CW K) dx (putF "backward" y4 (putF "onward" y3 (putF "arrows" u (putF "points" (.int p) [])))))
  have k3 : Same K3 (nw Hm H (upd H4 x (.ins (CW K) dx (putF "backward" y4 (putF "onward" y3 (putF "arrows" u (putF "points" (.int p) []))))))) := to_nw x3 b2 nx ⟨_, upd_same⟩ hi fun a o na e => by
    rw [upd_ne na]
    refine x4.k _ _ ?_
    rw [upd_ne na]
    exact x3.i _ _ e
  have k4 : Same K4 (nw Hm H (upd H4 x (.ins (CW K) dx (putF "backward" y4 (putF "onward" y3 (putF "arrows" u (putF "points" (.int p) []))))))) := to_nw x4 b3 nx ⟨_, upd_same⟩ hi fun a o na e => by
    rw [upd_ne na]
    exact x4.i _ _ e
  refine q _ _ b4 upd_same ⟨?_, ⟨u, ?_, (rT K (rT K rV)).mono (x3.s.trans k3) r⟩, ⟨y3, ?_, (rRows p.toNat ar).mono k3 g3⟩, ⟨y4, ?_, (rRows p.toNat (bk ar)).mono k4 g4⟩⟩
  · simp only [lookup_putF]
    rfl
  · simp only [lookup_putF]
    rfl
  · simp only [lookup_putF]
    rfl
  · simp only [lookup_putF]
    rfl
def spInit (K : PySem.W.Frag) : Sp := fun vs H Q _ => ∃ (x dx : Addr) (u : V) (p : Int) (ar : List Arw) (Hm : Hp), vs = [.ref x, .int p, u] ∧ wf p ar ∧ (rT K (rT K rV)).rel Hm u (arVs ar) ∧ Same Hm H ∧ Hm x = none ∧ H x = some (.ins (CW K) dx []) ∧ ∀ H' fs', Bt x H H' → H' x = some (.ins (CW K) dx fs') → WF K (nw Hm H H') fs' p ar → Q .non H'
theorem ok_init (T : Tx K mg) : Fk P w K mg base CX0 7 (He.ma K (CW K) "__init__") ["self", "points", "arrows"] (spInit K) := by
  refine k0_Web__init_ T (fun vs H Q E ⟨x, dx, u, p, ar, Hm, e, _⟩ => by rw [e] <;> rfl) (fun cdv A outer s H vs Q E hr h => ?_)
  obtain ⟨fdL, FL, bL⟩ := (ok_lay (P := P) (w := w) (base := base) T).ex
  refine ⟨_, (pss_cons (ps_set (i := 3) c_Web__init_.nd rfl (by first | exact Or.inl rfl | exact Or.inr rfl) (pe_fk (ok_wrong_part T) (hr.mono (by decide)) T.g_wrong_part_webs pass0 (pa_cons (pv 1) (pa_cons (pv 2) pa_nil))))
  (pss_cons (ps_if (pt_cmpR op_notN (pv 3) pe_non (nomark _)) pss_dead pss_nil)
  (pss_one (ps_expr (pe_meth (pv 0) T.cl_Web T.mt_Web_lay FL (hr.mono (by decide)) bL .nil pass0 (pa_cons (pv 1) (pa_cons (pv 2) pa_nil))))))), ?_⟩
  obtain ⟨x, dx, u, p, ar, Hm, rfl, hw, r, hi, nx, hx, q⟩ := h
  refine q_set (ev_call (x := (p, ar)) hw.2 (ea_cons (ev_v (R := rI) (d := p) rfl rfl) (ea_cons (ev_v rfl r) ea_nil))) hi fun v3 K1 H1 x1 r3 => ?_
  have r3 : (rO rS).rel K1 v3 (wrB p ar) := r3
  rw [hw.1] at r3
  cases r3
  refine q_when (b := false) (t1 := fun _ _ _ => False) (et_test (Ev.is (ev_op (ev_v (R := rV) (d := .non) rfl rfl) ev_n rv_notN) (by rfl))) (hi.trans x1.k) (fun hb => by cases hb) (fun _ K2 H2 x2 => ?_)
  have k2 : Same H H2 := x1.k.trans x2.k
  have hx2 := k2 _ _ hx
  refine ⟨.ref x, rfl, x, dx, [], rfl, hx2, rfl, .int p, rfl, u, rfl, x, dx, u, p, ar, Hm, rfl, hw, r, hi.trans k2, nx, hx2, fun H' fs' hb hx' hf => q H' fs' (fun b o n e => hb b o n (k2 _ _ e)) hx' (hf.mono (nw_nw hi k2))⟩
def rWeb (K : PySem.W.Frag) : Rp (Int × List Arw) := ⟨fun H v x => ∃ a dx fs, v = .ref a ∧ H a = some (.ins (CW K) dx fs) ∧ WF K H fs x.1 x.2, fun s ⟨a, dx, fs, e, h, g⟩ => ⟨a, dx, fs, e, s _ _ h, g.mono s⟩⟩
/-- Web(points, arrows) -/
theorem ev_web {σ : L2.St} {Hm : Hp} {ta te : TE} {p : Int} {ar : List Arw} (hw : wf p ar) (h1 : Ev ta σ Hm rI p) (h2 : Ev te σ Hm (rT K (rT K rV)) (arVs ar)) : Ev (tMake (CW K) (spInit K) [] E0 (tCons ta (tCons te tNil))) σ Hm (rWeb K) (p, ar) := fun H1 hi Q q => h1 H1 hi _ fun v K2 H2 x2 r => h2.mono x2.s H2 x2.i _ fun u K3 H3 x3 r3 x dx nx ndx hne => by
  cases r
  have kx : Same H3 (upd (upd H3 dx (.own x)) x (.ins (CW K) dx [])) := put_new (put_new (Same.refl _) ndx) nx
  refine ⟨x, dx, u, p, ar, K3, rfl, hw, r3, x3.i.trans kx, none_back x3.i nx, upd_same, fun H' fs' hb hx' hf => ⟨rfl, ?_⟩⟩
  have kH : Same H3 H' := fun b o e => hb b o (ne_of_none e nx) (kx b o e)
  exact q (.ref x) (nw K3 H3 H') H' ((x2.trans x3).trans (xt_nw x3.i kH)) ⟨x, dx, fs', rfl, (nw_new nx).trans hx', hf.mono (nw_nw x3.i kx)⟩
end
end GW
end NJ

set_option Elab.async false
set_option linter.all false
set_option maxRecDepth 100000
set_option maxHeartbeats 4000000
/-! Masks: where letters lead. -/
namespace NJ
open PySem PySem.Spec PyProof.Rows L2
/-- or of the rows of the points of a mask -/
def mvL (rows : List Nat) (m : Nat) : Nat := ((rows.zipIdx.filter fun p => m.testBit p.2).map (·.1)).foldr (fun r x => r ||| x) 0
theorem or_bit (xs : List Nat) (b : Nat) : (xs.foldr (fun r x => r ||| x) 0).testBit b = true ↔ ∃ r ∈ xs, r.testBit b = true := by
  induction xs with
  | nil => simp
  | cons x xs ih =>
    rw [List.foldr_cons, Nat.testBit_or, Bool.or_eq_true, ih]
    simp
theorem mvL_bit {rows : List Nat} {m b : Nat} : (mvL rows m).testBit b = true ↔ ∃ j r, rows[j]? = some r ∧ m.testBit j = true ∧ r.testBit b = true := by
  unfold mvL
  rw [or_bit]
  constructor
  · rintro ⟨r, hr, hb⟩
    obtain ⟨⟨r', j⟩, hp, rfl⟩ := List.mem_map.mp hr
    obtain ⟨h1, h2⟩ := List.mem_filter.mp hp
    exact ⟨j, r', List.mem_zipIdx_iff_getElem?.mp h1, h2, hb⟩
  · rintro ⟨j, r, h1, h2, h3⟩
    exact ⟨r, List.mem_map.mpr ⟨(r, j), List.mem_filter.mpr ⟨List.mem_zipIdx_iff_getElem?.mpr h1, h2⟩, rfl⟩, h3⟩
section
variable {P : Program} {w : World} {K : PySem.W.Frag} {mg : Str → Option Value} {base : Heap}
theorem cpow1 {j : Int} (h0 : 0 ≤ j) (h1 : j ≤ 1000) : CPow 1 j := ⟨h0, by omega, by decide⟩
/-- web.points, web.onward -/
theorem ev_points {σ : L2.St} {Hm : Hp} {te : TE} {x : Int × List Arw} (T : Tx K mg) (h : Ev te σ Hm (GW.rWeb K) x) : Ev (tFld K te "points") σ Hm rI x.1 := fun H1 hi Q q => h H1 hi _ fun v K2 H2 x2 ⟨a, dx, fs, e, hh, wf⟩ => ⟨a, CW K, dx, fs, .int x.1, e, x2.i _ _ hh, T.cl_Web, T.na_Web_points, wf.pt, q _ K2 H2 x2 rfl⟩
theorem ev_onward {σ : L2.St} {Hm : Hp} {te : TE} {x : Int × List Arw} (T : Tx K mg) (h : Ev te σ Hm (GW.rWeb K) x) : Ev (tFld K te "onward") σ Hm (GW.rRows x.1.toNat x.2) () := fun H1 hi Q q => h H1 hi _ fun v K2 H2 x2 ⟨a, dx, fs, e, hh, wf⟩ => by
  obtain ⟨u, e1, r1⟩ := wf.ow
  exact ⟨a, CW K, dx, fs, u, e, x2.i _ _ hh, T.cl_Web, T.na_Web_onward, e1, q u K2 H2 x2 r1⟩
def spAll (K : PySem.W.Frag) : Sp := SpF (fun (x : Nat × List Arw) => a1 (GW.rWeb K) ((x.1 : Int), x.2) a0) (fun x => x.1 ≤ 1000) (fun _ => rI) (fun x => (mkM (nums x.1) : Int))
theorem ok_all_points (T : Tx K mg) : Fk P w K mg base CX0 1 (He.ga K "all_points") ["web"] (spAll K) := by
  refine k0_all_points T (spf_len fun _ => a1_len a0_len) (fun cdv A outer s H vs Q E hr h => ?_)
  refine ⟨_, (pss_one (ps_ret (pe_op op_sub (pe_op op_shl pe_int (pe_fld (pv 0) rfl)) pe_int))), ?_⟩
  obtain ⟨⟨n, ar⟩, Hm, hn, ⟨v1, ws, rfl, r1, rfl⟩, hi, q⟩ := h
  dsimp only at hn r1 q
  refine s_ret (Ev.is (ev_op (ev_op ev_i (ev_points T (ev_v rfl r1)) (rv_ic (cpow1 (by dsimp only; omega) (by dsimp only; omega)))) ev_i rv_i0) ?_) hi q
  rw [mkM_nums]
  dsimp only
  rw [Int.toNat_natCast]
  have := Nat.two_pow_pos n
  have e : ((2 ^ n : Nat) : Int) = (2 : Int) ^ n := Int.natCast_pow 2 n
  omega
def rowI (rows : List Nat) : List Int := rows.map fun (r : Nat) => (r : Int)
def spMoved (K : PySem.W.Frag) : Sp := SpF (fun (x : List Nat × Nat) => a1 (rL K rI) (rowI x.1) (a1 rI (x.2 : Int) a0)) (fun x => x.1.length ≤ 1000 ∧ ∀ j, x.2.testBit j = true → j < x.1.length) (fun _ => rI) (fun x => (mvL x.1 x.2 : Int))
theorem ok_moved (T : Tx K mg) : Fk P w K mg base CX0 1 (He.ga K "moved") ["row", "mask"] (spMoved K) := by
  refine k0_moved T (spf_len fun _ => a1_len (a1_len a0_len)) (fun cdv A outer s H vs Q E hr h => ?_)
  refine ⟨_, (pss_cons (ps_set (i := 2) c_moved.nd rfl (by first | exact Or.inl rfl | exact Or.inr rfl) pe_int)
  (pss_cons (ps_while PassesOwn.never (pt_truth (pv 1) (fun _ => rfl)) (pss_cons (ps_set (i := 3) c_moved.nd rfl (by first | exact Or.inl rfl | exact Or.inr rfl) (pe_op op_and (pv 1) (pe_un un_neg (pv 1))))
  (pss_cons (ps_aug (i := 2) c_moved.nd rfl (by first | exact Or.inl rfl | exact Or.inr rfl) (pe_ix ix_list (pv 0) (pe_op op_sub (pe_bits (pv 3)) pe_int) (fun _ _ => rfl)) ip_or)
  (pss_one (ps_aug (i := 1) c_moved.nd rfl (by first | exact Or.inl rfl | exact Or.inr rfl) (pv 3) ip_sub)))))
  (pss_one (ps_ret (pv 2))))), ?_⟩
  obtain ⟨⟨rows, m0⟩, Hm, ⟨hz, hm⟩, ⟨v1, ws, rfl, r1, v2, ws2, rfl, r2, rfl⟩, hi, q⟩ := h
  cases r2
  dsimp only at hz hm r1 q
  refine q_set (ev_i (i := 0)) hi fun u2 K1 H1 x1 e2 => ?_
  cases e2
  refine ⟨fun m σ' H' => (∃ (f : Nat) (o3 : Option V), σ' = [some v1, some (V.int (m : Int)), some (V.int (f : Int)), o3] ∧ (f ||| mvL rows m) = mvL rows m0) ∧ (∀ j, m.testBit j = true → j < rows.length) ∧ ∃ K', Xt Hm H K' H', ⟨m0, ⟨0, none, rfl, Nat.zero_or _⟩, hm, K1, x1⟩, ?_⟩
  rintro m σ' H' ⟨⟨f, o3, rfl, hf⟩, hb, K', x'⟩
  refine ⟨.int (m : Int), rfl, ((m : Int) != 0), rfl, ?_⟩
  by_cases m00 : m = 0
  · subst m00
    refine iteF ?_
    have e : mvL rows 0 = 0 := Nat.eq_of_testBit_eq fun b => by
      rw [Nat.zero_testBit, ← Bool.not_eq_true, mvL_bit]
      rintro ⟨j, r, _, h, _⟩
      rw [Nat.zero_testBit] at h
      cases h
    rw [e, Nat.or_zero] at hf
    subst hf
    exact s_ret (ev_v (R := rI) (d := (mvL rows m0 : Int)) rfl rfl) x'.i fun v K5 H5 x5 r5 => q v K5 H5 (x'.trans x5) r5
  · have ht : ((m : Int) != 0) = true := by
      rw [bne_iff_ne]
      omega
    rw [ht]
    refine iteT ⟨fun σ'' H'' => ∃ m', m' < m ∧ (∃ (f : Nat) (o3 : Option V), σ'' = [some v1, some (V.int (m' : Int)), some (V.int (f : Int)), o3] ∧ (f ||| mvL rows m') = mvL rows m0) ∧ (∀ j, m'.testBit j = true → j < rows.length) ∧ ∃ K', Xt Hm H K' H'', fun σ'' H'' z => z, ?_⟩
    obtain ⟨k, h1, h2, h3⟩ := low_bit m (by omega)
    have hk := hb k h2
    have pw := Nat.two_pow_pos k
    refine q_set (i := 3) (Ev.is (ev_op (ev_v (R := rI) (d := (m : Int)) rfl rfl) (ev_neg (ev_v (R := rI) (d := (m : Int)) rfl rfl)) rv_i0) ((and_neg m (by omega)).trans (show _ = ((2 ^ k : Nat) : Int) by omega))) x'.i fun u3 K3 H3 x3 e3 => ?_
    cases e3
    have gk : rows[k]? = some rows[k] := List.getElem?_eq_getElem hk
    refine q_aug (i := 2) (a := (f : Int)) (b := ((rows[k] : Nat) : Int)) (c := ((f ||| rows[k] : Nat) : Int)) rfl rfl (ev_op (ev_v rfl ((rL K rI).mono (x'.s.trans x3.s) r1)) (ev_op (ev_bits (ev_v (R := rI) (d := ((2 ^ k : Nat) : Int)) rfl rfl)) ev_i rv_i0) (rv_ixL (j := k) (by rw [bits_pow]; omega) (by unfold rowI; rw [List.getElem?_map, gk] <;> rfl))) x3.i (fun H1 Q q => ⟨_, _, rfl, rfl, by dsimp only; rw [or_nat]; exact q⟩) fun K4 H4 x4 => ?_
    refine s_aug (i := 1) (a := (m : Int)) (b := ((2 ^ k : Nat) : Int)) (c := ((m &&& (m - 1) : Nat) : Int)) rfl rfl (ev_v (R := rI) (d := ((2 ^ k : Nat) : Int)) rfl rfl) x4.i (fun H1 Q q => ⟨_, _, rfl, rfl, by dsimp only; rw [show (m : Int) - ((2 ^ k : Nat) : Int) = ((m &&& (m - 1) : Nat) : Int) by omega]; exact q⟩) fun K5 H5 x5 => ?_
    refine ⟨m &&& (m - 1), by omega, ⟨f ||| rows[k], _, rfl, ?_⟩, fun j hj => ?_, K5, ((x'.trans x3).trans x4).trans x5⟩
    · rw [← hf]
      refine Nat.eq_of_testBit_eq fun b => ?_
      rw [Nat.testBit_or, Nat.testBit_or, Nat.testBit_or, Bool.eq_iff_iff, Bool.or_eq_true, Bool.or_eq_true, Bool.or_eq_true, mvL_bit, mvL_bit]
      constructor
      · rintro ((h | h) | ⟨j, r, g1, g2, g3⟩)
        · exact .inl h
        · exact .inr ⟨k, rows[k], gk, h2, h⟩
        · rw [h3, Bool.and_eq_true] at g2
          exact .inr ⟨j, r, g1, g2.1, g3⟩
      · rintro (h | ⟨j, r, g1, g2, g3⟩)
        · exact .inl (.inl h)
        · by_cases e : j = k
          · subst e
            rw [gk] at g1
            cases g1
            exact .inl (.inr g3)
          · exact .inr ⟨j, r, g1, by rw [h3, g2, decide_eq_true e] <;> rfl, g3⟩
    · rw [h3, Bool.and_eq_true] at hj
      exact hb j hj.1
end
end NJ

set_option Elab.async false
set_option linter.all false
set_option maxRecDepth 100000
set_option maxHeartbeats 4000000
/-! Walks: where texts lead. -/
namespace NJ
open PySem PySem.Spec PyProof.Rows L2
/-- the points to which a letter leads from some -/
def nxF (ar : List Arw) (S : List Int) (l : T8) : List Int := (ar.filter fun t => decide (t.2.1 = l) && decide (t.1 ∈ S)).map fun t => t.2.2
theorem mem_nxF {ar : List Arw} {S : List Int} {l : T8} {y : Int} : y ∈ nxF ar S l ↔ ∃ x ∈ S, (x, l, y) ∈ ar := by
  unfold nxF
  rw [List.mem_map]
  constructor
  · rintro ⟨⟨a, b, c⟩, h, rfl⟩
    obtain ⟨h1, h2⟩ := List.mem_filter.mp h
    rw [Bool.and_eq_true, decide_eq_true_iff, decide_eq_true_iff] at h2
    obtain ⟨rfl, h3⟩ := h2
    exact ⟨a, h3, h1⟩
  · rintro ⟨x, hx, h⟩
    exact ⟨(x, l, y), List.mem_filter.mpr ⟨h, by simp [hx]⟩, rfl⟩
def endF (ar : List Arw) (S : List Int) (l : T8) : List Int := l.foldl (fun S c => nxF ar S [c]) S
theorem endF_nil (ar : List Arw) : ∀ l : T8, endF ar [] l = []
  | [] => rfl
  | c :: l => by
    have e : nxF ar [] [c] = [] := by
      unfold nxF
      simp
    show endF ar (nxF ar [] [c]) l = []
    rw [e, endF_nil ar l]
/-- right arrows, right points -/
def okW (n : Nat) (ar : List Arw) : Prop := n ≤ 1000 ∧ ar.length ≤ 1000 ∧ ∀ t ∈ ar, (0 ≤ t.1 ∧ t.1 < (n : Int)) ∧ 0 ≤ t.2.2 ∧ t.2.2 < (n : Int)
def okS (n : Nat) (S : List Int) : Prop := ∀ x ∈ S, 0 ≤ x ∧ x < (n : Int)
theorem okS_nx {n : Nat} {ar : List Arw} {S : List Int} {l : T8} (h : okW n ar) : okS n (nxF ar S l) := fun y hy => by
  obtain ⟨x, _, ht⟩ := mem_nxF.mp hy
  exact (h.2.2 _ ht).2
theorem okS_end {n : Nat} {ar : List Arw} (h : okW n ar) : ∀ (l : T8) {S : List Int}, okS n S → okS n (endF ar S l)
  | [], _, s => s
  | c :: l, _, _ => okS_end h l (okS_nx h)
theorem okS_nums (n : Nat) : okS n (nums n) := fun x hx => nums_lt hx
theorem snocRec {α : Type} {motive : List α → Prop} (nil : motive []) (snoc : ∀ l x, motive l → motive (l ++ [x])) : ∀ l, motive l := fun l => by
  have h : ∀ m : List α, motive m.reverse := fun m => by
    induction m with
    | nil => exact nil
    | cons x m ih =>
      rw [List.reverse_cons]
      exact snoc _ _ ih
  have := h l.reverse
  rw [List.reverse_reverse] at this
  exact this
/-- the masks of a row -/
theorem masks_bits : ∀ (ar : List Arw), (∀ t ∈ ar, 0 ≤ t.2.2) → ∀ (l : T8) (j : Nat), ∃ r : Nat, GW.masks ar l j = (r : Int) ∧ ∀ b, r.testBit b = true ↔ ∃ t ∈ ar, t.2.1 = l ∧ t.1 = (j : Int) ∧ t.2.2.toNat = b := fun ar => by
  induction ar using snocRec with
  | nil =>
    intro _ l j
    exact ⟨0, rfl, fun b => by simp⟩
  | snoc ar t ih =>
    intro h l j
    obtain ⟨r, e, hr⟩ := ih (fun u hu => h u (List.mem_append_left _ hu)) l j
    rw [GW.masks_snoc]
    unfold GW.addA
    by_cases c : l = t.2.1 ∧ (j : Int) = t.1
    · rw [if_pos c, e]
      have e2 : GW.bitA t = ((2 ^ t.2.2.toNat : Nat) : Int) := by
        unfold GW.bitA
        rw [Int.one_mul, Int.natCast_pow] <;> rfl
      refine ⟨r ||| 2 ^ t.2.2.toNat, by rw [e2, or_nat], fun b => ?_⟩
      rw [Nat.testBit_or, Bool.or_eq_true, hr, Nat.testBit_two_pow, decide_eq_true_iff]
      constructor
      · rintro (⟨u, hu, q⟩ | q)
        · exact ⟨u, List.mem_append_left _ hu, q⟩
        · exact ⟨t, List.mem_append_right _ (List.mem_singleton.mpr rfl), c.1.symm, c.2.symm, q⟩
      · rintro ⟨u, hu, q⟩
        rw [List.mem_append, List.mem_singleton] at hu
        rcases hu with hu | rfl
        · exact .inl ⟨u, hu, q⟩
        · exact .inr q.2.2
    · rw [if_neg c]
      refine ⟨r, e, fun b => (hr b).trans ?_⟩
      constructor
      · rintro ⟨u, hu, q⟩
        exact ⟨u, List.mem_append_left _ hu, q⟩
      · rintro ⟨u, hu, q⟩
        rw [List.mem_append, List.mem_singleton] at hu
        rcases hu with hu | rfl
        · exact ⟨u, hu, q⟩
        · exact absurd ⟨q.1.symm, q.2.1.symm⟩ c
/-- a row as numbers -/
theorem row_nats (ar : List Arw) (h : ∀ t ∈ ar, 0 ≤ t.2.2) (l : T8) (n : Nat) : ∃ rows : List Nat, rows.length = n ∧ GW.rowV n (GW.masks ar l) = (rowI rows).map V.int ∧ ∀ (j r : Nat), rows[j]? = some r → ∀ b : Nat, r.testBit b = true ↔ ∃ t ∈ ar, t.2.1 = l ∧ t.1 = (j : Int) ∧ t.2.2.toNat = b := by
  refine ⟨(List.range n).map fun j => (GW.masks ar l j).toNat, by rw [List.length_map, List.length_range], ?_, fun j r hj b => ?_⟩
  · unfold GW.rowV rowI
    rw [List.map_map, List.map_map]
    refine List.map_congr_left fun j _ => ?_
    obtain ⟨r, e, _⟩ := masks_bits ar h l j
    show V.int (GW.masks ar l j) = V.int (((GW.masks ar l j).toNat : Nat) : Int)
    rw [e, Int.toNat_natCast]
  · rw [List.getElem?_map] at hj
    cases g : (List.range n)[j]? with
    | none =>
      rw [g] at hj
      cases hj
    | some i =>
      rw [g] at hj
      have ei : i = j := by
        have := List.getElem?_eq_some_iff.mp g
        obtain ⟨h1, h2⟩ := this
        rw [List.getElem_range] at h2
        exact h2.symm
      subst ei
      obtain ⟨r', e, hr⟩ := masks_bits ar h l i
      have er : r = r' := by
        have := (Option.some.inj hj).symm
        rw [this]
        dsimp only
        rw [e, Int.toNat_natCast]
      rw [er]
      exact hr b
theorem mv_nx {ar : List Arw} {S : List Int} {l : T8} {n : Nat} {rows : List Nat} (h : okW n ar) (hs : okS n S) (hl : rows.length = n) (hr : ∀ (j r : Nat), rows[j]? = some r → ∀ b : Nat, r.testBit b = true ↔ ∃ t ∈ ar, t.2.1 = l ∧ t.1 = (j : Int) ∧ t.2.2.toNat = b) : mvL rows (mkM S) = mkM (nxF ar S l) := mkM_eq fun b => by
  rw [mvL_bit]
  constructor
  · rintro ⟨j, r, h1, h2, h3⟩
    obtain ⟨t, ht, e1, e2, e3⟩ := (hr j r h1 b).mp h3
    obtain ⟨x, hx, ex⟩ := (mkM_bit _ _).mp h2
    have := (hs x hx).1
    refine ⟨t.2.2, mem_nxF.mpr ⟨x, hx, ?_⟩, e3⟩
    have : x = t.1 := by omega
    rw [this, ← e1]
    exact ht
  · rintro ⟨y, hy, e⟩
    obtain ⟨x, hx, ht⟩ := mem_nxF.mp hy
    have := hs x hx
    have lt : x.toNat < rows.length := by omega
    refine ⟨x.toNat, rows[x.toNat], List.getElem?_eq_getElem lt, (mkM_bit _ _).mpr ⟨x, hx, rfl⟩, ?_⟩
    exact (hr _ _ (List.getElem?_eq_getElem lt) b).mpr ⟨(x, l, y), ht, rfl, by dsimp only; omega, e⟩
section
variable {P : Program} {w : World} {K : PySem.W.Frag} {mg : Str → Option Value} {base : Heap}
def spStep (K : PySem.W.Frag) : Sp := SpF (fun (x : (Nat × List Arw) × List Int × T8) => a1 (GW.rRows x.1.1 x.1.2) () (a1 rI (mkM x.2.1 : Int) (a1 rS x.2.2 a0))) (fun x => okW x.1.1 x.1.2 ∧ okS x.1.1 x.2.1) (fun _ => rI) (fun x => (mkM (nxF x.1.2 x.2.1 x.2.2) : Int))
theorem ok_step (T : Tx K mg) : Fk P w K mg base CX0 2 (He.ga K "step") ["rows", "mask", "letter"] (spStep K) := by
  refine k0_step T (spf_len fun _ => a1_len (a1_len (a1_len a0_len))) (fun cdv A outer s H vs Q E hr h => ?_)
  refine ⟨_, (pss_cons (ps_set (i := 3) c_step.nd rfl (by first | exact Or.inl rfl | exact Or.inr rfl) (pe_dget1 (hu_of hr) (pv 0) (pv 2) ⟨rfl, rfl, rfl, rfl⟩))
  (pss_cons (ps_if (pt_cmpR op_isN (pv 3) pe_non (nomark _)) (pss_one (ps_ret pe_int)) pss_nil)
  (pss_one (ps_ret (pe_fk (ok_moved T) (hr.mono (by decide)) T.g_moved pass0 (pa_cons (pv 3) (pa_cons (pv 1) pa_nil))))))), ?_⟩
  obtain ⟨⟨⟨n, ar⟩, S, l⟩, Hm, ⟨hw, hs⟩, ⟨v1, ws, rfl, r1, v2, ws2, rfl, r2, v3, ws3, rfl, r3, rfl⟩, hi, q⟩ := h
  cases r2
  cases r3
  dsimp only at hw hs r1 q
  obtain ⟨d, kvs, rfl, hd, hk, hrow⟩ := r1
  -- row = rows.get(letter)
  refine ⟨.ref d, rfl, d, rfl, .inl ⟨kvs, .inl (hi _ _ hd)⟩, .str (tx l), rfl, _, DGet.k (k := kT l) (hi _ _ hd), ?_⟩
  unfold gName
  dsimp only
  by_cases hl : l ∈ GW.lets ar
  · obtain ⟨r, e1, e2⟩ := hrow l hl
    rw [e1]
    refine q_when (b := false) (et_test (Ev.is (ev_op (ev_v (R := rV) (d := .ref r) rfl rfl) ev_n rv_isN) (by rfl))) hi (fun hb => by cases hb) (fun _ K1 H1 x1 => ?_)
    obtain ⟨rows, hlen, hv, hbit⟩ := row_nats ar (fun t ht => (hw.2.2 t ht).2.1) l n
    refine s_ret (Ev.is (ev_call (x := (rows, mkM S)) ⟨by rw [hlen]; exact hw.1, fun j hj => ?_⟩ (ea_cons (ev_v (R := rL K rI) rfl ⟨r, _, rfl, .inl (.inl (x1.s _ _ e2)), by rw [hv]; exact pairedI _⟩) (ea_cons (ev_v (R := rI) (d := (mkM S : Int)) rfl rfl) ea_nil))) ?_) x1.i fun v K2 H2 x2 r => q v K2 H2 (x1.trans x2) r
    · obtain ⟨x, hx, ex⟩ := (mkM_bit _ _).mp hj
      have := hs x hx
      rw [hlen]
      omega
    · dsimp only
      rw [mv_nx hw hs hlen hbit]
  · have vn : valV kvs (kT l) = none := by
      cases hv : valV kvs (kT l) with
      | none => rfl
      | some y =>
        have m1 := valV_in hv
        rw [hk] at m1
        obtain ⟨z, hz1, hz2⟩ := List.mem_map.mp m1
        rw [kT_inj hz2] at hz1
        exact absurd hz1 hl
    rw [vn]
    refine q_when (b := true) (et_test (Ev.is (ev_op (ev_v (R := rV) (d := .non) rfl rfl) ev_n rv_isN) (by rfl))) hi (fun _ K1 H1 x1 => ?_) (fun hb => by cases hb)
    have e : nxF ar S l = [] := by
      refine List.eq_nil_iff_forall_not_mem.mpr fun y hy => ?_
      obtain ⟨x, _, ht⟩ := mem_nxF.mp hy
      exact hl (mem_sd.mpr (List.mem_map.mpr ⟨_, ht, rfl⟩))
    rw [e] at q
    exact s_ret (ev_i (i := 0)) x1.i fun v K2 H2 x2 r => q v K2 H2 (x1.trans x2) r
def spWalked (K : PySem.W.Frag) : Sp := SpF (fun (x : (Nat × List Arw) × List Int × T8) => a1 (GW.rWeb K) ((x.1.1 : Int), x.1.2) (a1 rI (mkM x.2.1 : Int) (a1 rS x.2.2 a0))) (fun x => (okW x.1.1 x.1.2 ∧ okS x.1.1 x.2.1) ∧ x.2.2.length ≤ 16000000) (fun _ => rI) (fun x => (mkM (endF x.1.2 x.2.1 x.2.2) : Int))
theorem endF_snoc (ar : List Arw) (S : List Int) (l : T8) (c : Nat) : endF ar S (l ++ [c]) = nxF ar (endF ar S l) [c] := by
  unfold endF
  rw [List.foldl_append] <;> rfl
theorem endF_cut {ar : List Arw} {S : List Int} {l : T8} {i : Nat} (h : endF ar S (l.take i) = []) : endF ar S l = [] := by
  have e : endF ar S l = endF ar (endF ar S (l.take i)) (l.drop i) := by
    unfold endF
    rw [← List.foldl_append, List.take_append_drop]
  rw [e, h, endF_nil]
theorem ok_walked (T : Tx K mg) : Fk P w K mg base CX0 3 (He.ga K "walked") ["web", "mask", "text"] (spWalked K) := by
  refine k0_walked T (spf_len fun _ => a1_len (a1_len (a1_len a0_len))) (fun cdv A outer s H vs Q E hr h => ?_)
  refine ⟨_, (pss_cons (ps_for PassesOwn.never rfl (pi_str (pv 2)) (pg_name (i := 3) c_walked.nd rfl (by first | exact Or.inl rfl | exact Or.inr rfl)) (pss_cons (ps_if (pt_not (pt_truth (pv 1) (fun _ => rfl))) (pss_one (ps_ret pe_int)) pss_nil)
  (pss_one (ps_set (i := 1) c_walked.nd rfl (by first | exact Or.inl rfl | exact Or.inr rfl) (pe_fk (ok_step T) (hr.mono (by decide)) T.g_step pass0 (pa_cons (pe_fld (pv 0) rfl) (pa_cons (pv 1) (pa_cons (pv 3) pa_nil))))))))
  (pss_one (ps_ret (pv 1)))), ?_⟩
  obtain ⟨⟨⟨n, ar⟩, S, l⟩, Hm, ⟨⟨hw, hs⟩, hz⟩, ⟨v1, ws, rfl, r1, v2, ws2, rfl, r2, v3, ws3, rfl, r3, rfl⟩, hi, q⟩ := h
  cases r2
  cases r3
  dsimp only at hw hs hz r1 q
  refine q_for (wk_str (ev_v (R := rS) (d := l) rfl rfl)) hi fun K2 H2 x2 => ?_
  refine ⟨fun i σ' H' => (∃ o3, σ' = [some v1, some (V.int (mkM (endF ar S (l.take i)) : Int)), some (V.str (tx l)), o3]) ∧ ∃ K', Xt K2 H2 K' H', ⟨⟨_, rfl⟩, K2, Xt.refl x2.i⟩, fun i σ' H' ⟨_, K', x⟩ => x.s.trans x.i, ?_, ?_⟩
  · rintro i c σ' H' v K4 H4 hc ⟨⟨o3, rfl⟩, K', x'⟩ x4 rv
    have x5 : Xt K' H' (uni K' K4) H4 := Xt.lift x'.s x'.i x4
    have x6 := x'.trans x5
    unfold gName
    dsimp only
    have hst : okS n (endF ar S (l.take i)) := okS_end hw _ hs
    refine q_when (b := !((mkM (endF ar S (l.take i)) : Int) != 0)) (et_not (et_int (ev_v (R := rI) rfl rfl))) x5.i (fun hb K7 H7 x7 => ?_) (fun hb K7 H7 x7 => ?_)
    · have e0 : endF ar S (l.take i) = [] := by
        rw [Bool.not_eq_true', bne_eq_false_iff_eq] at hb
        exact mkM_zero.mp (by omega)
      rw [endF_cut e0] at q
      exact s_ret (ev_i (i := 0)) x7.i fun u K8 H8 x8 r8 => q u K8 H8 (((x2.trans x6).trans x7).trans x8) r8
    · have s7 := (x2.s.trans x6.s).trans x7.s
      refine s_set (i := 1) (te := _) (R := rI) (d := (mkM (nxF ar (endF ar S (l.take i)) [c]) : Int)) (ev_call (x := ((n, ar), endF ar S (l.take i), [c])) ⟨hw, hst⟩ (ea_cons (by
        have := ev_onward T (ev_v (i := 0) (σ := [some v1, some (V.int (mkM (endF ar S (l.take i)) : Int)), some (V.str (tx l)), some v]) rfl ((GW.rWeb K).mono s7 r1))
        dsimp only at this
        rw [Int.toNat_natCast] at this
        exact this) (ea_cons (ev_v (R := rI) rfl rfl) (ea_cons (ev_v (R := rS) (d := [c]) rfl (show rS.rel K7 v [c] from rs_of (rC.mono ((uni_r (x'.i.trans x4.k) x4.i).trans x7.s) rv))) ea_nil)))) x7.i fun u K8 H8 x8 r8 => ?_
      cases r8
      refine ⟨⟨some v, ?_⟩, K8, (x6.trans x7).trans x8⟩
      have et : l.take (i + 1) = l.take i ++ [c] := by rw [List.take_add_one, hc] <;> rfl
      rw [et, endF_snoc] <;> rfl
  · rintro σ' H' ⟨⟨o3, rfl⟩, K', x'⟩
    rw [List.take_length]
    exact s_ret (ev_v (R := rI) (d := (mkM (endF ar S l) : Int)) rfl rfl) x'.i fun u K8 H8 x8 r8 => q u K8 H8 ((x2.trans x').trans x8) r8
end
end NJ

set_option Elab.async false
set_option linter.all false
set_option maxRecDepth 100000
set_option maxHeartbeats 4000000
/-! Stretches and their ends. -/
namespace NJ
open PySem PySem.Spec PyProof.Rows L2
/-- a text is a stretch -/
def strB (n : Nat) (ar : List Arw) (l : T8) : Bool := !(endF ar (nums n) l).isEmpty
def strO (n : Nat) (ar : List Arw) (o : Option T8) : Bool := isTx o && strB n ar (o.getD [])
theorem ne_zero {S : List Int} : (!decide ((mkM S : Int) = 0)) = !S.isEmpty := by
  cases S with
  | nil => rfl
  | cons x S =>
    have : mkM (x :: S) ≠ 0 := fun e => by
      have := mkM_zero.mp e
      cases this
    have : ¬ ((mkM (x :: S) : Int) = 0) := by omega
    rw [decide_eq_false this] <;> rfl
section
variable {P : Program} {w : World} {K : PySem.W.Frag} {mg : Str → Option Value} {base : Heap}
theorem ev_walk {σ : L2.St} {Hm : Hp} {ta tb : TE} {n : Nat} {ar : List Arw} {l : T8} {E : XK} (hw : okW n ar) (hz : l.length ≤ 16000000) (h1 : Ev ta σ Hm (GW.rWeb K) ((n : Int), ar)) (h2 : Ev tb σ Hm rS l) : Ev (tCall (spWalked K) [] E (tCons ta (tCons (tCall (spAll K) [] E (tCons ta tNil)) (tCons tb tNil)))) σ Hm rI (mkM (endF ar (nums n) l) : Int) :=
  ev_call (x := ((n, ar), nums n, l)) ⟨⟨hw, okS_nums n⟩, hz⟩ (ea_cons h1 (ea_cons (ev_call (x := (n, ar)) hw.1 (ea_cons h1 ea_nil)) (ea_cons h2 ea_nil)))
def spStretch (K : PySem.W.Frag) : Sp := SpF (fun (x : (Nat × List Arw) × Option T8) => a1 (GW.rWeb K) ((x.1.1 : Int), x.1.2) (a1 (rTh K) x.2 a0)) (fun x => okW x.1.1 x.1.2 ∧ okTh x.2) (fun _ => rB) (fun x => strO x.1.1 x.1.2 x.2)
theorem ok_is_stretch (T : Tx K mg) : Fk P w K mg base CX0 4 (He.ga K "is_stretch") ["web", "thing"] (spStretch K) := by
  refine k0_is_stretch T (spf_len fun _ => a1_len (a1_len a0_len)) (fun cdv A outer s H vs Q E hr h => ?_)
  refine ⟨_, (pss_one (ps_ret (pe_and (pe_fk (ok_is_text T) (hr.mono (by decide)) T.g_is_text pass0 (pa_cons (pv 1) pa_nil)) (pe_one (pe_cmpR op_ne (pe_fk (ok_walked T) (hr.mono (by decide)) T.g_walked pass0 (pa_cons (pv 0) (pa_cons (pe_fk (ok_all_points T) (hr.mono (by decide)) T.g_all_points pass0 (pa_cons (pv 0) pa_nil)) (pa_cons (pv 1) pa_nil)))) pe_int (nomark _)))))), ?_⟩
  obtain ⟨⟨⟨n, ar⟩, o⟩, Hm, ⟨hw, ho⟩, ⟨v1, ws, rfl, r1, v2, ws2, rfl, r2, rfl⟩, hi, q⟩ := h
  dsimp only at hw ho r1 r2 q
  refine s_ret (ev_and (ev_call (x := o) ho (ea_cons (ev_v rfl r2) ea_nil)) fun ht => ?_) hi q
  cases o with
  | none => cases ht
  | some l => exact Ev.is (ev_op (ev_walk hw ho (ev_v rfl r1) (ev_v rfl (show rS.rel Hm v2 l from r2))) ev_i rv_neI) ne_zero
theorem ev_stretch {σ : L2.St} {Hm : Hp} {ta tb : TE} {n : Nat} {ar : List Arw} {o : Option T8} {E : XK} (hw : okW n ar) (ho : okTh o) (h1 : Ev ta σ Hm (GW.rWeb K) ((n : Int), ar)) (h2 : Ev tb σ Hm (rTh K) o) : Ev (tCall (spStretch K) [] E (tCons ta (tCons tb tNil))) σ Hm rB (strO n ar o) :=
  ev_call (x := ((n, ar), o)) ⟨hw, ho⟩ (ea_cons h1 (ea_cons h2 ea_nil))
end
section
variable {P : Program} {w : World} {K : PySem.W.Frag} {mg : Str → Option Value} {base : Heap}
end
end NJ

set_option Elab.async false
set_option linter.all false
set_option maxRecDepth 100000
set_option maxHeartbeats 4000000
/-! split, partition, int(text), str(int), f-strings. -/
namespace NJ
open PySem PySem.Spec PyProof.Rows L2
section
variable {σ : L2.St} {Hm : Hp} {K : PySem.W.Frag} {ta tb te : TE} {l : T8}
/-! ### numbers as texts -/
def numT (n : Nat) : T8 := TL.numL n
/-! ### f-strings -/
end
end NJ

set_option Elab.async false
set_option linter.all false
set_option maxRecDepth 100000
set_option maxHeartbeats 4000000
/-! enumerate(a list, start=k). -/
namespace NJ
open PySem PySem.Spec PyProof.Rows L2
section
variable {σ : L2.St} {Hm : Hp} {K : PySem.W.Frag} {α : Type} {R : Rp α} {te tk : TE}
end
end NJ

set_option Elab.async false
set_option linter.all false
set_option maxRecDepth 100000
set_option maxHeartbeats 4000000
/-! [[] for _ in ..]: lists of one's own; an append to one of them; join. -/
namespace NJ
open PySem PySem.Spec PyProof.Rows L2
section
variable {σ : L2.St} {Hm : Hp} {α : Type} {R : Rp α}
structure Cdo (o : HO) (K2 H2 : Hp) (D : Addr) (ds : List Addr) (Ki H' : Hp) : Prop where
  s : Same K2 Ki
  i : Same Ki H'
  k : Same H2 H'
  f : ∀ p, Ki p ≠ none → K2 p ≠ none ∨ H2 p = none
  n : Ki D = none
  at_ : H' D = some (.lst (ds.map V.ref))
  nd : ds.Nodup
  e : ∀ d ∈ ds, Ki d = none ∧ H2 d = none ∧ d ≠ D ∧ H' d = some o
end
/-! ### "".join of texts -/
end NJ

set_option Elab.async false
set_option linter.all false
set_option maxRecDepth 100000
set_option maxHeartbeats 4000000
/-! Lines of a book's text. -/
namespace NJ
open PySem PySem.Spec PyProof.Rows L2
section
variable {σ : L2.St} {Hm : Hp} {K : PySem.W.Frag} {α : Type} {R : Rp α} {te : TE}
end
/-! ### numbers -/
/-! ### lines -/
def sA : T8 := [97, 114, 114, 111, 119]
def sW : T8 := [119, 111, 114, 100]
def lnA (t : Arw) : T8 := sA ++ 32 :: (numT t.1.toNat ++ 32 :: (t.2.1 ++ 32 :: numT t.2.2.toNat))
def lnW (w : T8) : T8 := sW ++ 32 :: w
abbrev It2 := Sum Arw T8
def ln : It2 → T8
  | .inl t => lnA t
  | .inr w => lnW w
def kd : It2 → T8
  | .inl _ => sA
  | .inr _ => sW
def wds : It2 → List T8
  | .inl t => [sA, numT t.1.toNat, t.2.1, numT t.2.2.toNat]
  | .inr w => [sW, w]
def body (its : List It2) : T8 := (its.map fun i => ln i ++ [10]).flatten
end NJ

set_option Elab.async false
set_option linter.all false
set_option maxRecDepth 100000
set_option maxHeartbeats 4000000
/-! list(d), dict(pairs): keys that are tuples. -/
namespace NJ
open PySem PySem.Spec PyProof.Rows L2
section
variable {X : Cx}
theorem vals_refT : ∀ qs : List Addr, Vals (qs.map V.ref) (qs.map Value.ref)
  | [] => .nil
  | q :: qs => .cons rfl (vals_refT qs)
end
end NJ

set_option Elab.async false
set_option linter.all false
set_option maxRecDepth 100000
set_option maxHeartbeats 4000000
/-! An arrow in a tuple of arrows, int(a flag), s[:e] and arrows as keys known up to a property, dicts of arrows. -/
namespace NJ
open PySem PySem.Spec PyProof.Rows L2
section
variable {X : Cx}
def rInT (K : PySem.W.Frag) : R2 := fun x y H Q => ∃ d ds, Dp K H x d ∧ Dp K H y (.tuple ds) ∧ SeqAt.shaped d = true ∧ SeqAt.shaped (.list ds) = true ∧ Q (.bl (ds.any fun z => PyData.eqv z d)) H
theorem op_inT (hu : X.A.units + 65 < cLine) : OpR X (compareOp .In) (rInT X.K) := by
  intro pins s σ H x y v u Q I rx ry h
  obtain ⟨d, ds, hd, he, sd, se, q⟩ := h
  obtain ⟨as, r1⟩ := Dp.reads I d x v hd rx
  obtain ⟨bs, r2⟩ := Dp.reads I (.tuple ds) y u he ry
  exact SeqAt.in_tuple_reads r2 r1 (SeqAt.canLay_of_shaped se) (SeqAt.canLay_of_shaped sd) (room_in_shaped sd hu) ⟨.bl _, H, I, rfl, q⟩
end
section
variable {σ : L2.St} {Hm H : Hp} {K : PySem.W.Frag} {te ta tb : TE}
theorem rv_inAT {t : Arw} {ar : List Arw} (h : lowA t) (hs : ∀ u ∈ ar, lowA u) : Rv (rInT K) (rA K) t (rT K (rA K)) ar rB (decide (t ∈ ar)) := rv_now fun Hm H1 hi x y rx r => ⟨_, rfl, fun Q q => ⟨dA t, ar.map dA, dp_A ((rA K).mono hi rx), dp_As ((rT K (rA K)).mono hi r), shaped_A h, shaped_As hs, by rw [any_eqv]; exact q⟩⟩
/-- int(a flag) -/
theorem rc_intB {b : Bool} : Rc rInt1 (a1 rB b a0) rI (if b then 1 else 0) := rc_now fun Hm H1 hi vs ⟨v, ws, e1, e2, e3⟩ => ⟨.int (if b then 1 else 0), rfl, fun Q q => .inr ⟨b, by rw [e1, show v = V.bl b from e2, show ws = [] from e3], q⟩⟩
variable {α β : Type} {R : Rp α} {S : Rp β}
/-- a built-in of what is known up to a property -/
theorem ev_cbE {γ : Type} {T : Rp γ} {r : List V → Hp → VK → Prop} {P1 : α → Prop} {P2 : γ → Prop} (h : Ev te σ Hm (rE R P1) ()) (hr : ∀ d, P1 d → ∃ z, P2 z ∧ Rc r (a1 R d a0) T z) : Ev (tCB r (tCons te tNil)) σ Hm (rE T P2) () := fun H1 hi Q q =>
  h H1 hi _ fun v K2 H2 x2 ⟨d, rd, pd⟩ => by
    obtain ⟨z, pz, k⟩ := hr d pd
    exact k K2 H2 x2.i [v] ⟨v, [], rfl, rd, rfl⟩ Q fun u K3 H3 x3 ru => q u K3 H3 (x2.trans x3) ⟨z, ru, pz⟩
theorem ev_slST {l : T8} {P1 : Int → Prop} {P2 : T8 → Prop} (h : Ev ta σ Hm rS l) (h1 : Ev te σ Hm (rE rI P1) ()) (hz : l.length ≤ 16000000) (hp : ∀ i, P1 i → P2 (cut l none (some i))) : Ev (tSl rSlS ta tNoPart (tPart te)) σ Hm (rE rS P2) () := fun H1 hx Q q =>
  h H1 hx _ fun v K2 H2 x2 r => h1.mono x2.s H2 x2.i _ fun u K3 H3 x3 ⟨i, ru, pi⟩ => ⟨i, ru, tx l, r, by rw [tx_len]; exact sz16 hz, by
    have e : cutS (tx l) none (some i) = tx (cut l none (some i)) := by
      unfold cutS cut tx
      simp [Str.length]
    rw [e]
    exact q _ K3 H3 (x2.trans x3) ⟨_, rfl, hp i pi⟩⟩
/-- an arrow whose tuple is one's own -/
def rAX : Rp Arw := ⟨fun H v t => ∃ a, v = .ref a ∧ H a = some (.tup (arV t)), fun s ⟨a, e, h⟩ => ⟨a, e, s _ _ h⟩⟩
theorem ev_arwX {P1 P3 : Int → Prop} {P2 : T8 → Prop} (h1 : Ev ta σ Hm (rE rI P1) ()) (h2 : Ev te σ Hm (rE rS P2) ()) (h3 : Ev tb σ Hm (rE rI P3) ()) : Ev (tTup (tCons ta (tCons te (tCons tb tNil)))) σ Hm (rE rAX (fun t => P1 t.1 ∧ P2 t.2.1 ∧ P3 t.2.2)) () := fun H1 hi Q q =>
  ea_cons h1 (ea_cons h2 (ea_cons h3 ea_nil)) H1 hi _ fun vs K2 H2 x2 ⟨v, ws, e1, ⟨a, r1, p1⟩, v2, ws2, e2, ⟨l, r2, p2⟩, v3, ws3, e3, ⟨b, r3, p3⟩, e4⟩ => by
    cases r1
    cases r2
    cases r3
    have e4 : ws3 = [] := e4
    rw [e4] at e3
    rw [e3] at e2
    rw [e2] at e1
    rw [e1]
    exact ⟨by rw [sizeLine_eq]; show 3 ≤ 16777216; decide, fun p np => q (.ref p) _ _ (xt_ref x2 np) ⟨(a, l, b), ⟨p, rfl, upd_same⟩, p1, p2, p3⟩⟩
def insA (ts : List Arw) (t : Arw) : List Arw := if t ∈ ts then ts else ts ++ [t]
theorem mem_insA {ts : List Arw} {t x : Arw} : x ∈ insA ts t ↔ x ∈ ts ∨ x = t := by
  unfold insA
  split
  · rename_i h
    exact ⟨.inl, fun e => e.elim id fun e => e ▸ h⟩
  · simp
theorem nd_insA {ts : List Arw} {t : Arw} (h : ts.Nodup) : (insA ts t).Nodup := by
  unfold insA
  split
  · exact h
  · rename_i k
    refine List.nodup_append.mpr ⟨h, by simp, fun a ha b hb => ?_⟩
    rw [List.mem_singleton] at hb
    subst hb
    exact fun e => k (e ▸ ha)
theorem insA_len {ts : List Arw} {t : Arw} : (insA ts t).length ≤ ts.length + 1 := by
  unfold insA
  split
  · omega
  · simp
/-- list(d): the arrows -/
theorem any_refl {H : Hp} : ∀ vs : List V, Paired (rV.rel H) vs vs
  | [] => .nil
  | v :: vs => .cons rfl (any_refl vs)
end
end NJ

set_option Elab.async false
set_option linter.all false
set_option maxRecDepth 100000
set_option maxHeartbeats 4000000
/-! Family B: webs told, walks; pure parts of family A's texts. -/
namespace NJ
open PySem PySem.Spec PyProof.Rows L2
def okAr (n : Nat) (t : Arw) : Prop := (0 ≤ t.1 ∧ t.1 < (n : Int)) ∧ (0 ≤ t.2.2 ∧ t.2.2 < (n : Int)) ∧ ∃ c, t.2.1 = [c] ∧ lower c = true
def Ring (n : Nat) (ar : List Arw) : Prop := ∃ row : List Int, row.Perm (nums n) ∧ ∀ k, k < n → ∃ c, (row.getD k 0, c, row.getD ((k + 1) % row.length) 0) ∈ ar
/-- each arrow's letter is among some -/
def LtP (s : T8) (ar : List Arw) : Prop := ∀ t ∈ ar, ∃ c ∈ s, t.2.1 = [c]
structure ToldP (n : Nat) (ar : List Arw) : Prop where
  n0 : 1 ≤ n
  n1 : n ≤ 12
  ok : ∀ t ∈ ar, okAr n t
  ring : Ring n ar
  l0 : 1 ≤ ar.length
  l1 : ar.length ≤ 50
  asc : ar.Pairwise fun a b => ltA a b = true
  lt : ∃ s : T8, s.length ≤ 3 ∧ LtP s ar
theorem Ring.mono {n : Nat} {ar br : List Arw} (h : Ring n ar) (s : ∀ t ∈ ar, t ∈ br) : Ring n br := by
  obtain ⟨row, pm, h⟩ := h
  exact ⟨row, pm, fun k hk => by
    obtain ⟨c, hc⟩ := h k hk
    exact ⟨c, s _ hc⟩⟩
theorem okAr.low {n : Nat} {t : Arw} (h : okAr n t) : lowA t := by
  obtain ⟨_, _, c, e, hc⟩ := h
  intro d hd
  rw [e, List.mem_singleton] at hd
  rw [hd]
  exact hc
theorem told_srt {n : Nat} {ar : List Arw} (n0 : 1 ≤ n) (n1 : n ≤ 12) (ok : ∀ t ∈ ar, okAr n t) (ring : Ring n ar) (l0 : 1 ≤ ar.length) (l1 : ar.length ≤ 50) (nd : ar.Nodup) (lt : ∃ s : T8, s.length ≤ 3 ∧ LtP s ar) : ToldP n (srtA ar) :=
  ⟨n0, n1, fun t h => ok t (mem_srtA.mp h), ring.mono fun t h => mem_srtA.mpr h, by rw [srtA_len]; exact l0, by rw [srtA_len]; exact l1, srtA_lt nd, by
    obtain ⟨s, h1, h2⟩ := lt
    exact ⟨s, h1, fun t ht => h2 t (mem_srtA.mp ht)⟩⟩
def rTold (K : PySem.W.Frag) : Rp (Int × List Arw) := rP K rI (rT K (rA K))
section
variable {P : Program} {w : World} {K : PySem.W.Frag} {mg : Str → Option Value} {base : Heap}
theorem paired_arrs {H : Hp} : ∀ {vs : List V} {ar : List Arw}, Paired ((rA K).rel H) vs ar → Paired ((rT K rV).rel H) vs (GW.arVs ar)
  | _, _, .nil => .nil
  | _, _, .cons a r => .cons a (paired_arrs r)
theorem rt_arrs {H : Hp} {v : V} {ar : List Arw} (h : (rT K (rA K)).rel H v ar) : (rT K (rT K rV)).rel H v (GW.arVs ar) := by
  obtain ⟨a, vs, e, hS, hP⟩ := h
  exact ⟨a, vs, e, hS, paired_arrs hP⟩
theorem rch_head {ar : List Arw} {a e b : Int} {c : T8} (h : (a, c, e) ∈ ar) (r : GW.Rch ar e b) : GW.Rch ar a b := by
  induction r with
  | refl => exact .step .refl h
  | step _ m ih => exact .step ih m
theorem rch_back {ar : List Arw} {a b : Int} (r : GW.Rch ar a b) : GW.Rch (GW.bk ar) b a := by
  induction r with
  | refl => exact .refl
  | step _ m ih => exact rch_head (List.mem_map.mpr ⟨_, m, rfl⟩) ih
theorem ring_walk {n : Nat} {ar : List Arw} {row : List Int} (rl : row.length = n) (h : ∀ k, k < n → ∃ c, (row.getD k 0, c, row.getD ((k + 1) % row.length) 0) ∈ ar) {i : Nat} (hi : i < n) : ∀ m : Nat, GW.Rch ar (row.getD i 0) (row.getD ((i + m) % n) 0)
  | 0 => by
    rw [Nat.add_zero, Nat.mod_eq_of_lt hi]
    exact .refl
  | m + 1 => by
    obtain ⟨c, hc⟩ := h ((i + m) % n) (Nat.mod_lt _ (by omega))
    have e : ((i + m) % n + 1) % row.length = (i + (m + 1)) % n := by
      rw [rl, ← Nat.add_assoc, Nat.mod_add_mod]
    rw [e] at hc
    exact .step (ring_walk rl h hi m) hc
theorem ring_all {n : Nat} {ar : List Arw} (h : Ring n ar) {a b : Int} (ha : 0 ≤ a ∧ a < (n : Int)) (hb : 0 ≤ b ∧ b < (n : Int)) : GW.Rch ar a b := by
  obtain ⟨row, pm, h⟩ := h
  have rl : row.length = n := by rw [pm.length_eq, nums_len]
  have at_ : ∀ x : Int, 0 ≤ x ∧ x < (n : Int) → ∃ k, k < n ∧ row.getD k 0 = x := fun x hx => by
    have hm : x ∈ row := pm.mem_iff.mpr (by
      unfold nums
      exact List.mem_map.mpr ⟨x.toNat, List.mem_range.mpr (by omega), by omega⟩)
    obtain ⟨k, hk, e⟩ := List.getElem_of_mem hm
    exact ⟨k, by omega, by rw [List.getD_eq_getElem?_getD, List.getElem?_eq_getElem hk, ← e] <;> rfl⟩
  obtain ⟨i, hi, rfl⟩ := at_ a ha
  obtain ⟨j, hj, rfl⟩ := at_ b hb
  have r := ring_walk rl h hi (n + j - i)
  have e : (i + (n + j - i)) % n = j := by
    rw [show i + (n + j - i) = n + j by omega, Nat.add_mod_left, Nat.mod_eq_of_lt hj]
  rw [e] at r
  exact r
theorem okAr.len {n : Nat} {t : Arw} (h : okAr n t) : t.2.1.length = 1 := by
  obtain ⟨_, _, c, e, _⟩ := h
  rw [e] <;> rfl
theorem wf_ok {n : Nat} {ar : List Arw} (n0 : 1 ≤ n) (n1 : n ≤ 12) (ok : ∀ t ∈ ar, okAr n t) (ring : Ring n ar) (l0 : 1 ≤ ar.length) (l1 : ar.length ≤ 60) (asc : ar.Pairwise fun a b => ltA a b = true) : GW.wf n ar := by
  refine ⟨?_, by omega, fun t ht => by rw [(ok t ht).len]; decide⟩
  have h1 : GW.numB 1 12 n = true := by
    unfold GW.numB
    simp
    omega
  have h2 : GW.arsB n ar = true := by
    unfold GW.arsB
    rw [Bool.and_eq_true, Bool.and_eq_true, Bool.and_eq_true, decide_eq_true_iff, decide_eq_true_iff]
    refine ⟨⟨l0, l1⟩, ?_, ascA_of asc⟩
    rw [List.all_map, List.all_eq_true]
    intro t ht
    obtain ⟨⟨a0, a1⟩, ⟨b0, b1⟩, c, e, hc⟩ := ok t ht
    show GW.arB n t = true
    unfold GW.arB GW.numB isTx
    rw [e]
    simp [hc]
    omega
  have h3 : GW.joB n ar = true := by
    unfold GW.joB
    rw [List.all_map, List.all_eq_true]
    intro b hb
    have hb2 := nums_lt hb
    show (GW.rchB ar 0 b && GW.rchB (GW.bk ar) 0 b) = true
    rw [Bool.and_eq_true, GW.rchB_iff, GW.rchB_iff]
    exact ⟨ring_all ring (by omega) (by omega), rch_back (ring_all ring (by omega) (by omega))⟩
  unfold GW.wrB
  rw [h1, h2, h3]
  simp
theorem told_wf {n : Nat} {ar : List Arw} (h : ToldP n ar) : GW.wf n ar := wf_ok h.n0 h.n1 h.ok h.ring h.l0 (by have := h.l1; omega) h.asc
end
theorem mem_nums {n : Nat} {x : Int} (h : 0 ≤ x ∧ x < (n : Int)) : x ∈ nums n := by
  unfold nums
  exact List.mem_map.mpr ⟨x.toNat, List.mem_range.mpr (by omega), by omega⟩
theorem low_app {a b : T8} (h : lowT a) (g : lowT b) : lowT (a ++ b) := fun c hc => by
  rcases List.mem_append.mp hc with z | z
  · exact h c z
  · exact g c z
theorem low_isTx {l : T8} (h : lowT l) : isTx (some l) = true := List.all_eq_true.mpr h
theorem told_okW {n : Nat} {ar : List Arw} (h : ToldP n ar) : okW n ar := ⟨by have := h.n1; omega, by have := h.l1; omega, fun t ht => ⟨(h.ok t ht).1, (h.ok t ht).2.1⟩⟩
section
variable {P : Program} {w : World} {K : PySem.W.Frag} {mg : Str → Option Value} {base : Heap}
theorem ev_t1 {σ : L2.St} {Hm : Hp} {te : TE} {n : Nat} {ar : List Arw} (h : Ev te σ Hm (rTold K) ((n : Int), ar)) : Ev (tOp (rIxT K) te (tC (.int 1))) σ Hm (rT K (rA K)) ar := ev_op h ev_i rv_snd
theorem ev_t0 {σ : L2.St} {Hm : Hp} {te : TE} {n : Nat} {ar : List Arw} (h : Ev te σ Hm (rTold K) ((n : Int), ar)) : Ev (tOp (rIxT K) te (tC (.int 0))) σ Hm rI (n : Int) := ev_op h ev_i rv_fst
theorem ring_out {n : Nat} {ar : List Arw} (h : Ring n ar) {x : Int} (hx : 0 ≤ x ∧ x < (n : Int)) : ∃ t ∈ ar, t.1 = x := by
  obtain ⟨row, pm, h⟩ := h
  have rl : row.length = n := by rw [pm.length_eq, nums_len]
  have hm : x ∈ row := pm.mem_iff.mpr (mem_nums hx)
  obtain ⟨k, hk, e⟩ := List.getElem_of_mem hm
  obtain ⟨c, hc⟩ := h k (by omega)
  exact ⟨_, hc, by dsimp only; rw [List.getD_eq_getElem?_getD, List.getElem?_eq_getElem hk, ← e] <;> rfl⟩
end
section
variable {σ : L2.St} {Hm : Hp} {te : TE}
theorem Ev.conv {α β : Type} {R : Rp α} {S : Rp β} {d : α} {e : β} (h : Ev te σ Hm R d) (f : ∀ {H v}, R.rel H v d → S.rel H v e) : Ev te σ Hm S e := fun H1 hi Q q => h H1 hi Q fun v K2 H2 x2 r => q v K2 H2 x2 (f r)
end
end NJ

set_option Elab.async false
set_option linter.all false
set_option maxRecDepth 100000
set_option maxHeartbeats 4000000
namespace NJ
open PySem PySem.Spec PyProof.Rows L2
section
variable {P : Program} {w : World} {K : PySem.W.Frag} {mg : Str → Option Value} {base : Heap}
theorem s_retL {σ : L2.St} {Hm : Hp} {t : TA} {A : Ar} {D : Ends} {H : Hp} (h : Ea t σ Hm A) (hi : Same Hm H) (k : ∀ vs K1 H1, Xt Hm H K1 H1 → A.rel K1 vs → vs.length ≤ sizeLine ∧ ∀ p, H1 p = none → D.rt (.ref p) (upd H1 p (.lst vs))) : tRet (tLst t) D σ H := h H hi _ k
/-! ### _law_hand -/
def spHand0 (K : PySem.W.Frag) : Sp := fun vs H Q _ => ∃ (ns : List Int) (Hm : Hp), ns.length ≤ 1000 ∧ (a1 (rL K rI) ns a0).rel Hm vs ∧ Same Hm H ∧
  ∀ (cs : List Int) (c a : Addr) (sd : Int) Hm' H2, Xt Hm H Hm' H2 → Hm' c = some (.lst (cs.map V.int)) → H2 a = none → Q (.ref a) (upd H2 a (.lst [.ref c, .int 0, .int 0, .int sd, .int 0]))
def spHand (K : PySem.W.Frag) : Sp := SpF (fun (ns : List Int) => a1 (rL K rI) ns a0) (fun ns => ns.length ≤ 1000) (fun _ => rE rHand fun _ => True) (fun _ => ())
theorem ok_hand0 (T : Tx K mg) : Fk P w K mg base CX0 1 (He.ga K "_law_hand") ["_law_script"] (spHand0 K) := by
  refine k0_law_hand T (fun vs H Q E ⟨ns, Hm, _, h, _⟩ => a1_len a0_len Hm vs h) (fun cdv A outer s H vs Q E hr h => ?_)
  refine ⟨_, (pss_cons (ps_setLc (i := 1) (own := [("_law_cell", 2)]) rfl c_law_hand.nd rfl (by rfl) (sw_true rfl rfl rfl (by decide +kernel)) (pi_list (pe_slice sl_list (pv 0) po_none (po_some pe_int))) (blkOk_by (N := ["_law_script", "_law_cells", "_law_cell"]) (sc := defScope s_law_hand) (by decide +kernel)) (fun _ _ _ _ _ => (pg_name (i := 2) c_law_hand.nd rfl (by first | exact Or.inl rfl | exact Or.inr rfl))) (fun _ _ _ _ _ => pts_nil) (fun _ _ _ _ _ => (pe_callB call_abs (by rfl) T.n_abs boot_abs (pa_cons (pe_callTy call_int1 (by rfl) T.n_int boot_int (pa_cons (pv 2) pa_nil)) pa_nil))))
  (pss_one (ps_ret (pe_lst (pa_cons (pv 1) (pa_cons pe_int (pa_cons pe_int (pa_cons (pe_op op_add pe_int (pe_callB call_len (by rfl) T.n_len boot_len (pa_cons (pv 1) pa_nil))) (pa_cons pe_int pa_nil))))))))), ?_⟩
  obtain ⟨ns, Hm, hz, ⟨v, ws, rfl, r, rfl⟩, hi, q⟩ := h
  refine q_set (ev_lcM (S := rI) (fun i : Int => if i < 0 then -i else i) (wk_list (ev_slL (ev_v rfl r) eo_none (eo_some ev_i))) (by have := cut_len ns none (some 63); omega) fun i hx u K3 s3 rc => ⟨_, tk_name, rfl, ev_cb (ea_cons (ev_cb (ea_cons (ev_v rfl rc) ea_nil) rc_int1) ea_nil) rc_abs⟩) hi fun v1 K1 H1 x1 r1 => ?_
  obtain ⟨c, us, e1, hc, hp⟩ := r1
  subst e1
  have e2 := vints hp
  subst e2
  have rl : (rL K rI).rel K1 (.ref c) _ := rm_l ⟨c, _, rfl, hc, hp⟩
  refine s_retL (ea_cons (ev_v (R := rV) (d := .ref c) rfl rfl) (ea_cons (ev_i (i := 0)) (ea_cons (ev_i (i := 0)) (ea_cons (ev_op (ev_i (i := 1)) (ev_cb (ea_cons (ev_v rfl rl) ea_nil) rc_lenL) rv_i0) (ea_cons (ev_i (i := 0)) ea_nil))))) x1.i fun vs K2 H2 x2 r2 => ?_
  obtain ⟨_, _, rfl, e1, _, _, rfl, e2, _, _, rfl, e3, _, _, rfl, e4, _, _, rfl, e5, e6⟩ := r2
  cases e1
  cases e2
  cases e3
  cases e4
  cases e5
  cases e6
  exact ⟨by show 5 ≤ sizeLine; rw [sizeLine_eq]; decide, fun a na => q _ c a _ K2 H2 (x1.trans x2) (x2.s _ _ hc) na⟩
theorem ok_hand (T : Tx K mg) : Fk P w K mg base CX0 1 (He.ga K "_law_hand") ["_law_script"] (spHand K) := by
  refine Fk.turn (ok_hand0 T) (spf_len fun _ => a1_len a0_len) fun fr vs H Q E hp h ok => ?_
  obtain ⟨ns, Hm, hz, hr, hi, q⟩ := h
  refine ⟨H, fun v H' => ∃ (cs : List Int) (c a : Addr) (sd : Int) (Hm' H2 : Hp), Xt Hm H Hm' H2 ∧ Hm' c = some (.lst (cs.map V.int)) ∧ H2 a = none ∧ v = .ref a ∧ H' = upd H2 a (.lst [.ref c, .int 0, .int 0, .int sd, .int 0]), ⟨ns, Hm, hz, hr, hi, fun cs c a sd Hm' H2 x hc na => ⟨cs, c, a, sd, Hm', H2, x, hc, na, rfl, rfl⟩⟩, ok, fun _ h => h, ?_⟩
  rintro v H' hp' un ok' ⟨cs, c, a, sd, Hm', H2, x, hc, na, rfl, rfl⟩
  have nH : H a = none := none_back x.k na
  have nb : ∀ b, H b ≠ none → b ≠ a := fun b h e => h (by rw [e]; exact nH)
  refine ⟨upd H2 a (HandO a c), un_turn un (fun _ h => h) (fun b h1 h2 => ?_) (fun b xs h => ?_) (fun b o u h => ?_) (fun b ps h => ?_), hok_turn ok' (u := .lst _) upd_same (fun _ => by simp) (fun _ => by simp) (fun b hb => by rw [upd_ne hb, upd_ne hb]) upd_same ?_, q _ (upd Hm' a (HandO a c)) _ (xt_ref x na) ⟨cs, ⟨a, c, rfl, upd_same, ?_⟩, trivial⟩⟩
  · by_cases hb : b = a
    · subst hb
      rw [upd_same] at h2
      cases h2
    · rw [upd_ne hb] at h2 ⊢
      exact h2
  · have := un.tups b xs h
    have hb := nb b (by rw [h]; simp)
    rw [upd_ne hb] at this ⊢
    exact this
  · have := un.frzs b o u h
    have hb := nb b (by rw [h]; simp)
    rw [upd_ne hb] at this ⊢
    exact this
  · have := un.tbls b ps h
    have hb := nb b (by rw [h]; simp)
    rw [upd_ne hb] at this ⊢
    exact this
  · obtain ⟨_, its, m, hv, hg⟩ := ok' a _ upd_same
    exact hand_ok ⟨0, 0, sd, 0, its, m, Int.le_refl _, hv, hg⟩
  · rw [upd_ne fun e => ?_]
    · exact hc
    · subst e
      have := x.i _ _ hc
      rw [na] at this
      cases this
end
end NJ

set_option Elab.async false
set_option linter.all false
set_option maxRecDepth 100000
set_option maxHeartbeats 4000000
namespace NJ
open PySem PySem.Spec PyProof.Rows L2
section
variable {P : Program} {w : World} {K : PySem.W.Frag} {mg : Str → Option Value} {base : Heap}
/-! ### _law_draw -/
/-- the hand's list at a, all else of H as it was -/
def Hd (H : Hp) (a c : Addr) (H' : Hp) (p b sd n : Int) : Prop := 0 ≤ p ∧ H' a = some (.lst [.ref c, .int p, .int b, .int sd, .int n]) ∧ ∀ x o, x ≠ a → H x = some o → H' x = some o
theorem Hd.ext {H H' H2 : Hp} {a c : Addr} {p b sd n : Int} (h : Hd H a c H' p b sd n) (s : Same H' H2) : Hd H a c H2 p b sd n := ⟨h.1, s _ _ h.2.1, fun x o n e => s _ _ (h.2.2 x o n e)⟩
theorem Hd.put {H H' H2 : Hp} {a c : Addr} {p b sd n p' b' sd' n' : Int} (h : Hd H a c H' p b sd n) (s : Same H' H2) (hp : 0 ≤ p') {ls : List V} (e : ls = [.ref c, .int p', .int b', .int sd', .int n']) : Hd H a c (upd H2 a (.lst ls)) p' b' sd' n' := ⟨hp, by rw [upd_same, e], fun x o n q => by
  rw [upd_ne n]
  exact s _ _ (h.2.2 x o n q)⟩
def spDraw0 (K : PySem.W.Frag) : Sp := fun vs H Q _ => ∃ (a c : Addr) (cs : List Int) (p b sd n many : Int), vs = [.ref a, .int many] ∧ 0 < many ∧ many < 1073741824 ∧ Hd H a c H p b sd n ∧ a ≠ c ∧ H c = some (.lst (cs.map V.int)) ∧ ∀ r H' p' b' sd' n', 0 ≤ r → r < many → Hd H a c H' p' b' sd' n' → Q (.int r) H'
def spDraw (K : PySem.W.Frag) : Sp := SpF (fun (x : List Int × Int) => a1 rHand x.1 (a1 rI x.2 a0)) (fun x => 0 < x.2 ∧ x.2 < 1073741824) (fun x => rE rI (inR x.2)) (fun _ => ())
/-- hand[j] -/
theorem ev_hd {H H' : Hp} {a c : Addr} {p b sd n : Int} {σ : L2.St} (h : Hd H a c H' p b sd n) (s0 : σ[0]? = some (some (.ref a))) {i : Int} (j : Nat) (e : i = (j : Int)) {v : V} (hv : [V.ref c, .int p, .int b, .int sd, .int n][j]? = some v) : Ev (tOp (rIxL K) (tVar 0) (tC (.int i))) σ H' rV v :=
  ev_op (ev_v (R := rX) s0 ⟨a, rfl, h.2.1⟩) ev_i (rv_ixX e hv)
theorem ev_hp {H H' : Hp} {a c : Addr} {p b sd n : Int} {σ : L2.St} (h : Hd H a c H' p b sd n) (s0 : σ[0]? = some (some (.ref a))) : Ev (tOp (rIxL K) (tVar 0) (tC (.int 1))) σ H' rI p := ev_hd h s0 1 rfl rfl
theorem ev_hb {H H' : Hp} {a c : Addr} {p b sd n : Int} {σ : L2.St} (h : Hd H a c H' p b sd n) (s0 : σ[0]? = some (some (.ref a))) : Ev (tOp (rIxL K) (tVar 0) (tC (.int 2))) σ H' rI b := ev_hd h s0 2 rfl rfl
theorem ev_hs {H H' : Hp} {a c : Addr} {p b sd n : Int} {σ : L2.St} (h : Hd H a c H' p b sd n) (s0 : σ[0]? = some (some (.ref a))) : Ev (tOp (rIxL K) (tVar 0) (tC (.int 3))) σ H' rI sd := ev_hd h s0 3 rfl rfl
theorem ev_hn {H H' : Hp} {a c : Addr} {p b sd n : Int} {σ : L2.St} (h : Hd H a c H' p b sd n) (s0 : σ[0]? = some (some (.ref a))) : Ev (tOp (rIxL K) (tVar 0) (tC (.int 4))) σ H' rI n := ev_hd h s0 4 rfl rfl
theorem ev_hc {H H' : Hp} {a c : Addr} {p b sd n : Int} {σ : L2.St} {cs : List Int} (h : Hd H a c H' p b sd n) (s0 : σ[0]? = some (some (.ref a))) (hac : a ≠ c) (hc : H c = some (.lst (cs.map V.int))) : Ev (tOp (rIxL K) (tVar 0) (tC (.int 0))) σ H' (rL K rI) cs :=
  ev_rv (ev_hd h s0 0 rfl rfl) ⟨c, _, rfl, .inl (.inl (h.2.2 c _ (Ne.symm hac) hc)), pairedI cs⟩
theorem ok_draw0 (T : Tx K mg) : Fk P w K mg base CX0 1 (He.ga K "_law_draw") ["_law_hand_here", "_law_many"] (spDraw0 K) := by
  refine k0_law_draw T (fun vs H Q E ⟨a, c, cs, p, b, sd, n, many, e, _⟩ => by rw [e] <;> rfl) (fun cdv A outer s H vs Q E hr h => ?_)
  refine ⟨_, (pss_cons (ps_if (PW.pt (pw_and (pt_cmpR op_eq (pe_ix ix_list (pv 0) pe_int (fun _ _ => rfl)) pe_int (nomark _)) (pw_and1 (pt_cmpR op_lt (pe_ix ix_list (pv 0) pe_int (fun _ _ => rfl)) (pe_callB call_len (by rfl) T.n_len boot_len (pa_cons (pe_ix ix_list (pv 0) pe_int (fun _ _ => rfl)) pa_nil)) (nomark _))))) (pss_cons (ps_set (i := 2) c_law_draw.nd rfl (by first | exact Or.inl rfl | exact Or.inr rfl) (pe_ix ix_list (pe_ix ix_list (pv 0) pe_int (fun _ _ => rfl)) (pe_ix ix_list (pv 0) pe_int (fun _ _ => rfl)) (fun _ _ => rfl)))
  (pss_cons (ps_asg (pe_op op_add (pe_ix ix_list (pv 0) pe_int (fun _ _ => rfl)) pe_int) (pg_sub (pv 0) pe_int set_list))
  (pss_cons (ps_asg (pe_op op_mod (pe_callTy call_int1 (by rfl) T.n_int boot_int (pa_cons (pe_op op_add (pe_op op_add (pe_op op_mul (pe_ix ix_list (pv 0) pe_int (fun _ _ => rfl)) pe_int) (pv 2)) pe_int) pa_nil)) pe_int) (pg_sub (pv 0) pe_int set_list))
  (pss_one (ps_if (pt_cmpR op_ge (pv 2) (pe_op op_pow pe_int pe_int) (nomark _)) (pss_one (ps_asg (pv 2) (pg_sub (pv 0) pe_int set_list))) pss_nil))))) pss_nil)
  (pss_cons (ps_if (pt_cmpR op_gt (pe_ix ix_list (pv 0) pe_int (fun _ _ => rfl)) pe_int (nomark _)) (pss_cons (ps_set (i := 3) c_law_draw.nd rfl (by first | exact Or.inl rfl | exact Or.inr rfl) (pe_op op_mod (pe_callTy call_int1 (by rfl) T.n_int boot_int (pa_cons (pe_ix ix_list (pv 0) pe_int (fun _ _ => rfl)) pa_nil)) (pv 1)))
  (pss_cons (ps_asg (pe_op op_fdiv (pe_ix ix_list (pv 0) pe_int (fun _ _ => rfl)) (pv 1)) (pg_sub (pv 0) pe_int set_list))
  (pss_one (ps_ret (pv 3))))) pss_nil)
  (pss_cons (ps_asg (pe_op op_add (pe_ix ix_list (pv 0) pe_int (fun _ _ => rfl)) pe_int) (pg_sub (pv 0) pe_int set_list))
  (pss_cons (ps_set (i := 4) c_law_draw.nd rfl (by first | exact Or.inl rfl | exact Or.inr rfl) (pe_op op_mod (pe_callTy call_int1 (by rfl) T.n_int boot_int (pa_cons (pe_op op_mul (pe_callTy call_int1 (by rfl) T.n_int boot_int (pa_cons (pe_op op_add (pe_ix ix_list (pv 0) pe_int (fun _ _ => rfl)) (pe_op op_mul pe_int (pe_ix ix_list (pv 0) pe_int (fun _ _ => rfl)))) pa_nil)) pe_int) pa_nil)) pe_int))
  (pss_cons (ps_set (i := 4) c_law_draw.nd rfl (by first | exact Or.inl rfl | exact Or.inr rfl) (pe_op op_mod (pe_callTy call_int1 (by rfl) T.n_int boot_int (pa_cons (pe_op op_mul (pv 4) (pe_op op_add (pe_op op_fdiv (pv 4) pe_int) pe_int)) pa_nil)) pe_int))
  (pss_cons (ps_set (i := 4) c_law_draw.nd rfl (by first | exact Or.inl rfl | exact Or.inr rfl) (pe_op op_mod (pe_callTy call_int1 (by rfl) T.n_int boot_int (pa_cons (pe_op op_mul (pv 4) (pe_op op_add (pe_op op_fdiv (pv 4) pe_int) pe_int)) pa_nil)) pe_int))
  (pss_one (ps_ret (pe_op op_mod (pe_callTy call_int1 (by rfl) T.n_int boot_int (pa_cons (pe_op op_fdiv (pv 4) pe_int) pa_nil)) (pv 1)))))))))), ?_⟩
  obtain ⟨a, c, cs, p, b, sd, n, many, rfl, m0, m1, hd, hac, hc, q⟩ := h
  refine q_whenJ (b := decide (b = 0) && decide (p < (cs.length : Int))) (fun σ' H' => ∃ o2 p b sd n, σ' = [some (.ref a), some (.int many), o2, none, none] ∧ Hd H a c H' p b sd n) (et_and (et_test (ev_op (ev_hb hd rfl) ev_i rv_eqI)) fun _ => et_test (ev_op (ev_hp hd rfl) (ev_cb (ea_cons (ev_hc hd rfl hac hc) ea_nil) rc_lenL) rv_b0)) (Same.refl H) ?tail (fun tail hb K1 H1 x1 => ?yes) (fun hb K1 H1 x1 => ⟨none, p, b, sd, n, rfl, hd.ext x1.k⟩)
  case tail =>
    clear p b sd n hd
    rintro σ' H' ⟨o2, p, b, sd, n, rfl, hd⟩
    refine q_when (et_test (ev_op (ev_hb hd rfl) ev_i rv_b0)) (Same.refl H') (fun hb K1 H1 x1 => ?_) (fun hb K1 H1 x1 => ?_)
    · have hd1 := hd.ext x1.k
      refine q_set (ev_op (ev_cb (ea_cons (ev_hb hd1 rfl) ea_nil) rc_int1) (ev_v (R := rI) rfl rfl) (rv_ic m0)) (Same.refl H1) fun v2 K2 H2 x2 r2 => ?_
      have hd2 := hd1.ext x2.k
      refine q_put (j := 2) rfl hd2.2.1 (ev_op (ev_hb hd2 rfl) (ev_v (R := rI) rfl rfl) (rv_ic ⟨m0, m1⟩)) (Same.refl H2) ev_i rfl (by simp) fun v3 K3 H3 x3 r3 => ?_
      have hd3 := hd2.put x3.k hd2.1 (ls := [V.ref c, .int p, .int b, .int sd, .int n].set 2 v3) (b' := b / many) (by rw [show v3 = _ from r3] <;> rfl)
      exact s_ret (ev_v (R := rI) (d := b % many) rfl (by exact r2)) (Same.refl _) fun v4 K4 H4 x4 r4 => by
        rw [show v4 = _ from r4]
        exact q _ _ _ _ _ _ (Int.emod_nonneg _ (by omega)) (Int.emod_lt_of_pos _ m0) (hd3.ext x4.k)
    · have hd1 := hd.ext x1.k
      refine q_put (j := 4) rfl hd1.2.1 (ev_op (ev_hn hd1 rfl) ev_i rv_i0) (Same.refl H1) ev_i rfl (by simp) fun v2 K2 H2 x2 r2 => ?_
      have hd2 := hd1.put x2.k hd1.1 (ls := [V.ref c, .int p, .int b, .int sd, .int n].set 4 v2) (n' := n + 1) (by rw [show v2 = _ from r2] <;> rfl)
      refine q_set (ev_op (ev_cb (ea_cons (ev_op (ev_cb (ea_cons (ev_op (ev_hs hd2 rfl) (ev_op ev_i (ev_hn hd2 rfl) (rv_ic (cmul_l (by decide) (by decide)))) rv_i0) ea_nil) rc_int1) ev_i (rv_ic (cmul_r (by decide) (by decide)))) ea_nil) rc_int1) ev_i (rv_ic (by decide))) (Same.refl _) fun v3 K3 H3 x3 r3 => ?_
      have hd3 := hd2.ext x3.k
      generalize ew : (sd + 7919 * (n + 1)) * 48271 % 2147483647 = w1 at r3
      have w1a : 0 ≤ w1 := by rw [← ew]; exact Int.emod_nonneg _ (by decide)
      have w1b : w1 < 2147483647 := by rw [← ew]; exact Int.emod_lt_of_pos _ (by decide)
      refine q_set (ev_op (ev_cb (ea_cons (ev_op (ev_v (R := rI) rfl r3) (ev_op (ev_op (ev_v (R := rI) rfl r3) ev_i (rv_ic ⟨by decide, by decide⟩)) ev_i rv_i0) (rv_ic (cmul_l (by omega) (by omega)))) ea_nil) rc_int1) ev_i (rv_ic (by decide))) x3.i fun v4 K4 H4 x4 r4 => ?_
      have hd4 := hd3.ext x4.k
      generalize ew2 : w1 * (w1 / 1009 + 69621) % 2147483647 = w2 at r4
      have w2a : 0 ≤ w2 := by rw [← ew2]; exact Int.emod_nonneg _ (by decide)
      have w2b : w2 < 2147483647 := by rw [← ew2]; exact Int.emod_lt_of_pos _ (by decide)
      refine q_set (ev_op (ev_cb (ea_cons (ev_op (ev_v (R := rI) rfl r4) (ev_op (ev_op (ev_v (R := rI) rfl r4) ev_i (rv_ic ⟨by decide, by decide⟩)) ev_i rv_i0) (rv_ic (cmul_l (by omega) (by omega)))) ea_nil) rc_int1) ev_i (rv_ic (by decide))) x4.i fun v5 K5 H5 x5 r5 => ?_
      have hd5 := hd4.ext x5.k
      exact s_ret (ev_op (ev_cb (ea_cons (ev_op (ev_v (R := rI) rfl r5) ev_i (rv_ic ⟨by decide, by decide⟩)) ea_nil) rc_int1) (ev_v (R := rI) rfl rfl) (rv_ic m0)) x5.i fun v6 K6 H6 x6 r6 => by
        rw [show v6 = _ from r6]
        exact q _ _ _ _ _ _ (Int.emod_nonneg _ (by omega)) (Int.emod_lt_of_pos _ m0) (hd5.ext x6.k)
  case yes =>
    have hd1 := hd.ext x1.k
    have hb2 := Bool.and_eq_true_iff.mp hb
    have hlt : p < (cs.length : Int) := of_decide_eq_true hb2.2
    have hp := hd.1
    obtain ⟨cell, hcell⟩ : ∃ cell, cs[p.toNat]? = some cell := ⟨_, List.getElem?_eq_getElem (by omega)⟩
    refine q_set (ev_op (ev_hc hd1 rfl hac hc) (ev_hp hd1 rfl) (rv_ixL (j := p.toNat) (by omega) hcell)) (Same.refl H1) fun v2 K2 H2 x2 r2 => ?_
    have hd2 := hd1.ext x2.k
    refine q_put (j := 1) rfl hd2.2.1 (ev_op (ev_hp hd2 rfl) ev_i rv_i0) (Same.refl H2) ev_i rfl (by simp) fun v3 K3 H3 x3 r3 => ?_
    have hd3 := hd2.put x3.k (p' := p + 1) (by omega) (ls := [V.ref c, .int p, .int b, .int sd, .int n].set 1 v3) (by rw [show v3 = _ from r3] <;> rfl)
    refine q_put (j := 3) rfl hd3.2.1 (ev_op (ev_cb (ea_cons (ev_op (ev_op (ev_op (ev_hs hd3 rfl) ev_i (rv_ic (cmul_r (by decide) (by decide)))) (ev_v (R := rI) (d := cell) rfl (by exact r2)) rv_i0) ev_i rv_i0) ea_nil) rc_int1) ev_i (rv_ic (by decide))) (Same.refl _) ev_i rfl (by simp) fun v4 K4 H4 x4 r4 => ?_
    have hd4 := hd3.put x4.k hd3.1 (ls := [V.ref c, .int (p + 1), .int b, .int sd, .int n].set 3 v4) (by rw [show v4 = _ from r4] <;> rfl)
    refine s_if (et_test (ev_op (ev_v (R := rI) (d := cell) rfl (by exact r2)) (ev_op ev_i ev_i (rv_ic ⟨by decide, by decide, by decide⟩)) rv_b0)) (Same.refl _) (fun hb5 K5 H5 x5 => ?_) (fun hb5 K5 H5 x5 => ?_)
    · have hd5 := hd4.ext x5.k
      refine s_put (j := 2) rfl hd5.2.1 (ev_v (R := rI) (d := cell) rfl (by exact r2)) (Same.refl _) ev_i rfl (by simp) fun v6 K6 H6 x6 r6 => by
        cases r6
        exact tail _ _ ⟨_, p + 1, cell, _, n, rfl, hd5.put x6.k hd5.1 rfl⟩
    · exact tail _ _ ⟨_, _, _, _, _, rfl, hd4.ext x5.k⟩
theorem ok_draw (T : Tx K mg) : Fk P w K mg base CX0 1 (He.ga K "_law_draw") ["_law_hand_here", "_law_many"] (spDraw K) := by
  refine Fk.turn (ok_draw0 T) (spf_len fun _ => a1_len (a1_len a0_len)) fun fr vs H Q E hp h ok => ?_
  obtain ⟨⟨cs, many⟩, Hm, ⟨m0, m1⟩, ⟨v1, ws, rfl, ⟨a, c, rfl, ha, hc⟩, v2, ws2, rfl, r2, rfl⟩, hi, q⟩ := h
  dsimp only at m0 m1 ha hc r2 q
  cases r2
  have ha1 := hi _ _ ha
  have hc1 := hi _ _ hc
  have hac : a ≠ c := fun e => by
    subst e
    rw [ha] at hc
    cases hc
  obtain ⟨⟨p, b, sd, n, its, m, hp0, hv, hg⟩, _, _⟩ := ok a _ ha1
  refine ⟨upd H a (.lst [.ref c, .int p, .int b, .int sd, .int n]), fun v H' => ∃ r p' b' sd' n', v = .int r ∧ 0 ≤ r ∧ r < many ∧ Hd (upd H a (.lst [.ref c, .int p, .int b, .int sd, .int n])) a c H' p' b' sd' n',
    ⟨a, c, cs, p, b, sd, n, many, rfl, m0, m1, ⟨hp0, upd_same, fun _ _ _ e => e⟩, hac, by rw [upd_ne (Ne.symm hac)]; exact hc1, fun r H' p' b' sd' n' h0 h1 hd => ⟨r, p', b', sd', n', rfl, h0, h1, hd⟩⟩,
    hok_turn ok ha1 (fun _ => by simp [HandO]) (fun _ => by simp [HandO]) (fun b hb => upd_ne hb) upd_same ⟨by show 5 ≤ sizeLine; rw [sizeLine_eq]; decide, its, m, hv, hg⟩, fun b hb => ?_, ?_⟩
  · rw [upd_ne fun e => ?_]
    · exact hb
    · subst e
      rw [ha1] at hb
      cases hb
  · rintro v H' hp' un ok' ⟨r, p', b', sd', n', rfl, h0, h1, hd⟩
    have kk : ∀ x o, x ≠ a → H x = some o → H' x = some o := fun x o nx e => hd.2.2 x o nx (by rw [upd_ne nx]; exact e)
    have hs : Same H (upd H' a (HandO a c)) := fun x o e => by
      by_cases hx : x = a
      · subst hx
        rw [ha1] at e
        rw [upd_same]
        exact e
      · rw [upd_ne hx]
        exact kk x o hx e
    refine ⟨upd H' a (HandO a c), un_turn un (fun b hb => ?_) (fun b h1 h2 => ?_) (fun b xs h => hs _ _ h) (fun b o u h => hs _ _ h) (fun b ps h => ⟨#[], by rw [hs _ _ h]; simp⟩), hok_turn ok' hd.2.1 (fun _ => by simp) (fun _ => by simp) (fun b hb => upd_ne hb) upd_same ?_, q (.int r) Hm _ ⟨Same.refl _, hi.trans hs, hs, fun _ h => .inl h⟩ ⟨r, rfl, h0, h1⟩⟩
    · rw [upd_ne fun e => ?_]
      · exact hb
      · subst e
        rw [ha1] at hb
        cases hb
    · rw [upd_ne fun e => ?_]
      · exact h2
      · subst e
        rw [ha1] at h1
        cases h1
    · obtain ⟨_, its2, m2, hv2, hg2⟩ := ok' a _ hd.2.1
      exact hand_ok ⟨p', b', sd', n', its2, m2, hd.1, hv2, hg2⟩
end
end NJ

set_option Elab.async false
set_option linter.all false
set_option maxRecDepth 100000
set_option maxHeartbeats 4000000
namespace NJ
open PySem PySem.Spec PyProof.Rows L2
section
variable {P : Program} {w : World} {K : PySem.W.Frag} {mg : Str → Option Value} {base : Heap}
/-- _law_draw(hand, many) -/
theorem ev_draw {σ : L2.St} {Hm : Hp} {ta tb : TE} {cs : List Int} {m : Int} {E : XK} (h1 : Ev ta σ Hm rHand cs) (h2 : Ev tb σ Hm rI m) (m0 : 0 < m) (m1 : m < 1073741824) : Ev (tCall (spDraw K) [] E (tCons ta (tCons tb tNil))) σ Hm (rE rI (inR m)) () :=
  ev_call (x := (cs, m)) ⟨m0, m1⟩ (ea_cons h1 (ea_cons h2 ea_nil))
def aSome (K : PySem.W.Frag) (x : List Int × (T8 ⊕ List V ⊕ List V)) : Ar := match x.2 with
  | .inl l => a1 rHand x.1 (a1 rS l a0)
  | .inr (.inl vs) => a1 rHand x.1 (a1 (rL K rV) vs a0)
  | .inr (.inr vs) => a1 rHand x.1 (a1 (rT K rV) vs a0)
def okSome : T8 ⊕ List V ⊕ List V → Prop
  | .inl l => 0 < l.length ∧ l.length ≤ 1000
  | .inr (.inl vs) => 0 < vs.length ∧ vs.length ≤ 1000
  | .inr (.inr vs) => 0 < vs.length ∧ vs.length ≤ 1000
def inSome : T8 ⊕ List V ⊕ List V → V → Prop
  | .inl l => fun x => ∃ c ∈ l, x = .str (tx [c])
  | .inr (.inl vs) => fun x => x ∈ vs
  | .inr (.inr vs) => fun x => x ∈ vs
def spSome (K : PySem.W.Frag) : Sp := SpF (fun x => aSome K x) (fun x => okSome x.2) (fun x => rE rV (inSome x.2)) (fun _ => ())
theorem aSome_len (x : List Int × (T8 ⊕ List V ⊕ List V)) : ∀ H vs, (aSome K x).rel H vs → vs.length = 2 := by
  obtain ⟨cs, y⟩ := x
  rcases y with y | y | y
  · exact a1_len (a1_len a0_len)
  · exact a1_len (a1_len a0_len)
  · exact a1_len (a1_len a0_len)
theorem ok_some (T : Tx K mg) : Fk P w K mg base CX0 2 (He.ga K "_law_some") ["_law_hand_here", "_law_things"] (spSome K) := by
  refine k0_law_some T (spf_len fun _ => aSome_len _) (fun cdv A outer s H vs Q E hr h => ?_)
  obtain ⟨⟨cs, y⟩, Hm, ok, a, hi, q⟩ := h
  rcases y with l | xs | xs
  · obtain ⟨v1, ws, rfl, r1, v2, ws2, rfl, r2, rfl⟩ := a
    refine ⟨_, (pss_one (ps_ret (pe_ix ix_str (pv 1) (pe_fk (ok_draw T) (hr.mono (by decide)) T.g_law_draw pass0 (pa_cons (pv 0) (pa_cons (pe_callB call_len (by rfl) T.n_len boot_len (pa_cons (pv 1) pa_nil)) pa_nil))) (fun _ _ => rfl)))), ?_⟩
    have hz : l.length ≤ 1000 := ok.2
    refine s_ret (ev_opE (T := rV) (ev_v (R := rS) rfl r2) (ev_draw (ev_v rfl r1) (ev_cb (ea_cons (ev_v (R := rS) rfl r2) ea_nil) (rc_lenS (by omega))) (by have := ok.1; omega) (by omega)) fun e he => ?_) hi q
    obtain ⟨c, hc⟩ : ∃ c, l[e.toNat]? = some c := ⟨_, List.getElem?_eq_getElem (by have := he.1; have := he.2; omega)⟩
    exact ⟨.str (tx [c]), ⟨c, List.mem_of_getElem? hc, rfl⟩, rv_ixS (by omega) (by have := he.1; omega) hc⟩
  · obtain ⟨v1, ws, rfl, r1, v2, ws2, rfl, r2, rfl⟩ := a
    refine ⟨_, (pss_one (ps_ret (pe_ix ix_list (pv 1) (pe_fk (ok_draw T) (hr.mono (by decide)) T.g_law_draw pass0 (pa_cons (pv 0) (pa_cons (pe_callB call_len (by rfl) T.n_len boot_len (pa_cons (pv 1) pa_nil)) pa_nil))) (fun _ _ => rfl)))), ?_⟩
    have hz : xs.length ≤ 1000 := ok.2
    refine s_ret (ev_opE (T := rV) (ev_v (R := rL K rV) rfl r2) (ev_draw (ev_v rfl r1) (ev_cb (ea_cons (ev_v (R := rL K rV) rfl r2) ea_nil) rc_lenL) (by have := ok.1; omega) (by omega)) fun e he => ?_) hi q
    obtain ⟨c, hc⟩ : ∃ c, xs[e.toNat]? = some c := ⟨_, List.getElem?_eq_getElem (by have := he.1; have := he.2; omega)⟩
    exact ⟨c, List.mem_of_getElem? hc, rv_ixL (by have := he.1; omega) hc⟩
  · obtain ⟨v1, ws, rfl, r1, v2, ws2, rfl, r2, rfl⟩ := a
    refine ⟨_, (pss_one (ps_ret (pe_ix ix_tup (pv 1) (pe_fk (ok_draw T) (hr.mono (by decide)) T.g_law_draw pass0 (pa_cons (pv 0) (pa_cons (pe_callB call_len (by rfl) T.n_len boot_len (pa_cons (pv 1) pa_nil)) pa_nil))) (fun _ _ => rfl)))), ?_⟩
    have hz : xs.length ≤ 1000 := ok.2
    refine s_ret (ev_opE (T := rV) (ev_v (R := rT K rV) rfl r2) (ev_draw (ev_v rfl r1) (ev_cb (ea_cons (ev_v (R := rT K rV) rfl r2) ea_nil) rc_lenT) (by have := ok.1; omega) (by omega)) fun e he => ?_) hi q
    obtain ⟨c, hc⟩ : ∃ c, xs[e.toNat]? = some c := ⟨_, List.getElem?_eq_getElem (by have := he.1; have := he.2; omega)⟩
    exact ⟨c, List.mem_of_getElem? hc, rv_ixT (by have := he.1; omega) hc⟩
/-- some sign of a text -/
theorem ev_someS {σ : L2.St} {Hm : Hp} {ta tb : TE} {cs : List Int} {l : T8} {E : XK} (h1 : Ev ta σ Hm rHand cs) (h2 : Ev tb σ Hm rS l) (m0 : 0 < l.length) (m1 : l.length ≤ 1000) : Ev (tCall (spSome K) [] E (tCons ta (tCons tb tNil))) σ Hm (rE rC (fun c => c ∈ l)) () := fun H1 hi Q q =>
  ev_call (x := (cs, Sum.inl l)) ⟨m0, m1⟩ (ea_cons h1 (ea_cons h2 ea_nil)) H1 hi Q fun v K2 H2 x2 ⟨u, e, c, hc, e2⟩ => q v K2 H2 x2 ⟨c, (show v = _ from e).trans e2, hc⟩
theorem rl_V {α : Type} {R : Rp α} {H : Hp} {v : V} {xs : List α} (h : (rL K R).rel H v xs) : ∃ vs, (rL K rV).rel H v vs ∧ Paired (R.rel H) vs xs := by
  obtain ⟨a, vs, e, hS, hP⟩ := h
  refine ⟨vs, ⟨a, vs, e, hS, ?_⟩, hP⟩
  have go : ∀ us : List V, Paired (rV.rel H) us us := fun us => by
    induction us with
    | nil => exact .nil
    | cons u us ih => exact .cons rfl ih
  exact go vs
theorem paired_in {α : Type} {F : V → α → Prop} : ∀ {vs : List V} {xs : List α}, Paired F vs xs → ∀ x ∈ vs, ∃ d ∈ xs, F x d
  | _, _, .nil, x, h => by cases h
  | _, _, .cons a r, x, h => by
    rcases List.mem_cons.mp h with z | z
    · subst z
      exact ⟨_, List.mem_cons_self, a⟩
    · obtain ⟨d, h1, h2⟩ := paired_in r x z
      exact ⟨d, List.mem_cons_of_mem _ h1, h2⟩
/-- some item of a list -/
theorem ev_someL {α : Type} {R : Rp α} {σ : L2.St} {Hm : Hp} {ta tb : TE} {cs : List Int} {xs : List α} {E : XK} (h1 : Ev ta σ Hm rHand cs) (h2 : Ev tb σ Hm (rL K R) xs) (m0 : 0 < xs.length) (m1 : xs.length ≤ 1000) : Ev (tCall (spSome K) [] E (tCons ta (tCons tb tNil))) σ Hm (rE R (fun d => d ∈ xs)) () := fun H1 hi Q q =>
  h1 H1 hi _ fun v1 K2 H2 x2 r1 => h2.mono x2.s H2 x2.i _ fun v2 K3 H3 x3 r2 => by
    obtain ⟨vs, r3, pr⟩ := rl_V r2
    have hl := paired_len pr
    exact ⟨(cs, Sum.inr (Sum.inl vs)), K3, ⟨by omega, by omega⟩, ⟨v1, _, rfl, rHand.mono x3.s r1, v2, _, rfl, r3, rfl⟩, x3.i, fun v K4 H4 x4 ⟨u, e, hu⟩ => by
      obtain ⟨d, hd, rd⟩ := paired_in pr u hu
      exact q v K4 H4 ((x2.trans x3).trans x4) ⟨d, by rw [show v = u from e]; exact R.mono x4.s rd, hd⟩⟩
end
end NJ

set_option Elab.async false
set_option linter.all false
set_option maxRecDepth 100000
set_option maxHeartbeats 4000000
/-! Mathematics of bifix codes: readings counted, words made by differences, how many there are. -/
namespace NJ.BX
abbrev T8 := List Nat
def occ (Y : List T8) (w : T8) : Int := if w ∈ Y then 1 else 0
theorem occ0 (Y : List T8) (w : T8) : 0 ≤ occ Y w := by unfold occ; split <;> decide
theorem occ1 (Y : List T8) (w : T8) : occ Y w ≤ 1 := by unfold occ; split <;> decide
def pfA (Y : List T8) : T8 → T8 → Int
  | _, [] => 0
  | acc, c :: t => occ Y (acc ++ [c]) + pfA Y (acc ++ [c]) t
theorem pfA_snoc (Y : List T8) (b : Nat) : ∀ (s acc : T8), pfA Y acc (s ++ [b]) = pfA Y acc s + occ Y (acc ++ (s ++ [b]))
  | [], acc => by
    show occ Y (acc ++ [b]) + 0 = 0 + occ Y (acc ++ [b])
    omega
  | c :: s, acc => by
    show occ Y (acc ++ [c]) + pfA Y (acc ++ [c]) (s ++ [b]) = occ Y (acc ++ [c]) + pfA Y (acc ++ [c]) s + occ Y (acc ++ (c :: s ++ [b]))
    rw [pfA_snoc Y b s (acc ++ [c])]
    have e : acc ++ [c] ++ (s ++ [b]) = acc ++ (c :: s ++ [b]) := by simp
    rw [e]
    omega
/-- nonempty prefixes, suffixes that are in Y; comings -/
def pf (Y : List T8) (s : T8) : Int := pfA Y [] s
theorem pf_snoc (Y : List T8) (s : T8) (b : Nat) : pf Y (s ++ [b]) = pf Y s + occ Y (s ++ [b]) := pfA_snoc Y b s []
def sf (Y : List T8) : T8 → Int
  | [] => 0
  | a :: t => occ Y (a :: t) + sf Y t
def cm (Y : List T8) : T8 → Int
  | [] => 0
  | a :: t => pf Y (a :: t) + cm Y t
theorem cm_snoc (Y : List T8) (b : Nat) : ∀ t : T8, cm Y (t ++ [b]) = cm Y t + sf Y (t ++ [b])
  | [] => by
    show occ Y [b] + 0 + 0 = 0 + (occ Y [b] + 0)
    omega
  | a :: t => by
    show pf Y (a :: t ++ [b]) + cm Y (t ++ [b]) = pf Y (a :: t) + cm Y t + (occ Y (a :: t ++ [b]) + sf Y (t ++ [b]))
    rw [pf_snoc, cm_snoc Y b t]
    omega
def cnt (Y : List T8) (t : T8) : Int := (t.length : Int) + 1 - cm Y t
theorem cnt_nil (Y : List T8) : cnt Y [] = 1 := rfl
theorem cnt_cons (Y : List T8) (a : Nat) (t : T8) : cnt Y (a :: t) = cnt Y t + 1 - pf Y (a :: t) := by
  show ((t.length + 1 : Nat) : Int) + 1 - (pf Y (a :: t) + cm Y t) = (t.length : Int) + 1 - cm Y t + 1 - pf Y (a :: t)
  omega
theorem cnt_snoc (Y : List T8) (t : T8) (b : Nat) : cnt Y (t ++ [b]) = cnt Y t + 1 - sf Y (t ++ [b]) := by
  unfold cnt
  rw [cm_snoc, List.length_append]
  show (((t.length + 1 : Nat) : Int)) + 1 - _ = _
  omega
/-- none of them begins or ends another one, none is empty -/
structure Lot (Y : List T8) : Prop where
  nn : [] ∉ Y
  cl : ∀ x ∈ Y, ∀ y ∈ Y, x ≠ y → ¬ x <+: y ∧ ¬ x <:+ y
theorem pf0 (Y : List T8) : ∀ s : T8, 0 ≤ pf Y s := fun s => by
  have go : ∀ (s acc : T8), 0 ≤ pfA Y acc s := fun s => by
    induction s with
    | nil => exact fun _ => Int.le_refl _
    | cons c s ih =>
      intro acc
      have h1 := occ0 Y (acc ++ [c])
      have h2 := ih (acc ++ [c])
      show 0 ≤ occ Y (acc ++ [c]) + pfA Y (acc ++ [c]) s
      omega
  exact go s []
theorem sf0 (Y : List T8) : ∀ s : T8, 0 ≤ sf Y s
  | [] => Int.le_refl _
  | a :: t => by
    have h1 := occ0 Y (a :: t)
    have h2 := sf0 Y t
    show 0 ≤ occ Y (a :: t) + sf Y t
    omega
theorem snocRec {α : Type} {motive : List α → Prop} (nil : motive []) (snoc : ∀ l x, motive l → motive (l ++ [x])) : ∀ l, motive l := fun l => by
  have h : ∀ m : List α, motive m.reverse := fun m => by
    induction m with
    | nil => exact nil
    | cons x m ih =>
      rw [List.reverse_cons]
      exact snoc _ _ ih
  have := h l.reverse
  rw [List.reverse_reverse] at this
  exact this
theorem occ_iff {Y : List T8} {w : T8} : 1 ≤ occ Y w ↔ w ∈ Y := by
  unfold occ
  split
  · rename_i h
    exact ⟨fun _ => h, fun _ => Int.le_refl _⟩
  · rename_i h
    exact ⟨fun e => absurd e (by decide), fun e => absurd e h⟩
theorem pf_ex {Y : List T8} (s : T8) : 1 ≤ pf Y s → ∃ p, p ≠ [] ∧ p <+: s ∧ p ∈ Y := by
  induction s using snocRec with
  | nil => exact fun h => absurd h (by show ¬ (1 : Int) ≤ 0; decide)
  | snoc s b ih =>
    intro h
    rw [pf_snoc] at h
    by_cases h1 : 1 ≤ pf Y s
    · obtain ⟨p, h2, h3, h4⟩ := ih h1
      exact ⟨p, h2, h3.trans (List.prefix_append s [b]), h4⟩
    · exact ⟨s ++ [b], by simp, List.prefix_refl _, occ_iff.mp (by omega)⟩
theorem sf_ex {Y : List T8} : ∀ s : T8, 1 ≤ sf Y s → ∃ p, p ≠ [] ∧ p <:+ s ∧ p ∈ Y
  | [], h => absurd h (by show ¬ (1 : Int) ≤ 0; decide)
  | a :: t, h => by
    have e : sf Y (a :: t) = occ Y (a :: t) + sf Y t := rfl
    rw [e] at h
    by_cases h1 : 1 ≤ sf Y t
    · obtain ⟨p, h2, h3, h4⟩ := sf_ex t h1
      exact ⟨p, h2, h3.trans (List.suffix_cons a t), h4⟩
    · exact ⟨a :: t, by simp, List.suffix_refl _, occ_iff.mp (by omega)⟩
theorem pf1 {Y : List T8} (L : Lot Y) (s : T8) : pf Y s ≤ 1 := by
  induction s using snocRec with
  | nil => show (0 : Int) ≤ 1; decide
  | snoc s b ih =>
    rw [pf_snoc]
    have h0 := pf0 Y s
    have h1 := occ1 Y (s ++ [b])
    by_cases h : 1 ≤ pf Y s
    · by_cases h2 : 1 ≤ occ Y (s ++ [b])
      · obtain ⟨p, p0, p1, p2⟩ := pf_ex s h
        have ne : p ≠ s ++ [b] := fun e => by
          have := p1.length_le
          rw [e, List.length_append] at this
          simp at this
          omega
        exact absurd (p1.trans (List.prefix_append s [b])) (L.cl _ p2 _ (occ_iff.mp h2) ne).1
      · omega
    · omega
theorem sf1 {Y : List T8} (L : Lot Y) : ∀ s : T8, sf Y s ≤ 1
  | [] => by show (0 : Int) ≤ 1; decide
  | a :: t => by
    have e : sf Y (a :: t) = occ Y (a :: t) + sf Y t := rfl
    rw [e]
    have h0 := sf1 L t
    have h1 := occ1 Y (a :: t)
    have h3 := sf0 Y t
    by_cases h : 1 ≤ sf Y t
    · by_cases h2 : 1 ≤ occ Y (a :: t)
      · obtain ⟨p, p0, p1, p2⟩ := sf_ex t h
        have ne : p ≠ a :: t := fun e => by
          have := p1.length_le
          rw [e, List.length_cons] at this
          omega
        exact absurd (p1.trans (List.suffix_cons a t)) (L.cl _ p2 _ (occ_iff.mp h2) ne).2
      · omega
    · omega
theorem sf_mono (Y : List T8) (s : T8) (a : Nat) : sf Y s ≤ sf Y (a :: s) := by
  show sf Y s ≤ occ Y (a :: s) + sf Y s
  have := occ0 Y (a :: s)
  omega
theorem cnt_sq (Y : List T8) (a b : Nat) (u : T8) : cnt Y (a :: (u ++ [b])) = cnt Y (a :: u) + cnt Y (u ++ [b]) - cnt Y u - occ Y (a :: (u ++ [b])) := by
  have h1 : cnt Y (a :: u ++ [b]) = _ := cnt_snoc Y (a :: u) b
  have h2 := cnt_snoc Y u b
  have h3 : sf Y (a :: u ++ [b]) = occ Y (a :: (u ++ [b])) + sf Y (u ++ [b]) := rfl
  show cnt Y (a :: u ++ [b]) = _
  omega
variable {Y : List T8} (L : Lot Y)
include L
theorem up_cons (a : Nat) (t : T8) : cnt Y t ≤ cnt Y (a :: t) ∧ cnt Y (a :: t) ≤ cnt Y t + 1 := by
  have h1 := cnt_cons Y a t
  have h2 := pf0 Y (a :: t)
  have h3 := pf1 L (a :: t)
  omega
theorem up_snoc (t : T8) (b : Nat) : cnt Y t ≤ cnt Y (t ++ [b]) ∧ cnt Y (t ++ [b]) ≤ cnt Y t + 1 := by
  have h1 := cnt_snoc Y t b
  have h2 := sf0 Y (t ++ [b])
  have h3 := sf1 L (t ++ [b])
  omega
omit L
def ff (Y : List T8) (d : Int) (t : T8) : Int := min d (cnt Y t)
/-- a word by its inner part -/
def wrd (Y : List T8) (d : Int) (w : T8) : Bool := if w.length = 1 then decide (ff Y d w = 1) else decide (ff Y d w.dropLast + ff Y d w.tail - ff Y d w - ff Y d w.tail.dropLast = 1)
def S1 (Y : List T8) (d : Int) (s : T8) : Int := 1 + ff Y d s.tail - ff Y d s
def S2 (Y : List T8) (d : Int) (s : T8) : Int := 1 + ff Y d s.dropLast - ff Y d s
theorem two_ends : ∀ {w : T8}, 2 ≤ w.length → ∃ a u b, w = a :: (u ++ [b])
  | [], h => by simp at h
  | a :: t, h => by
    have ht : t ≠ [] := fun e => by
      rw [e] at h
      simp at h
    exact ⟨a, t.dropLast, t.getLast ht, by rw [List.dropLast_concat_getLast]⟩
theorem drop_sq (a b : Nat) (u : T8) : (a :: (u ++ [b])).dropLast = a :: u := by
  show (a :: u ++ [b]).dropLast = _
  rw [List.dropLast_concat]
theorem wrd_sq {d : Int} {a b : Nat} {u : T8} : wrd Y d (a :: (u ++ [b])) = decide (ff Y d (a :: u) + ff Y d (u ++ [b]) - ff Y d (a :: (u ++ [b])) - ff Y d u = 1) := by
  unfold wrd
  rw [if_neg (by simp), drop_sq]
  show decide (ff Y d (a :: u) + ff Y d (u ++ [b]) - ff Y d (a :: (u ++ [b])) - ff Y d (u ++ [b]).dropLast = 1) = _
  rw [List.dropLast_concat]
include L
theorem x_nn {d : Int} (a b : Nat) (u : T8) : 0 ≤ ff Y d (a :: u) + ff Y d (u ++ [b]) - ff Y d (a :: (u ++ [b])) - ff Y d u := by
  have h1 := up_cons L a u
  have h2 := up_snoc L u b
  have h3 := cnt_sq Y a b u
  have h4 := occ0 Y (a :: (u ++ [b]))
  have h5 := (up_cons L a (u ++ [b])).1
  have h6 := (up_snoc L (a :: u) b).1
  have h7 : cnt Y (a :: u ++ [b]) = cnt Y (a :: (u ++ [b])) := rfl
  unfold ff
  omega
theorem S1_le {d : Int} {s : T8} (h : s ≠ []) : 0 ≤ S1 Y d s ∧ S1 Y d s ≤ 1 := by
  cases s with
  | nil => exact absurd rfl h
  | cons a t =>
    have := up_cons L a t
    unfold S1 ff
    show 0 ≤ 1 + min d (cnt Y t) - min d (cnt Y (a :: t)) ∧ 1 + min d (cnt Y t) - min d (cnt Y (a :: t)) ≤ 1
    omega
theorem S1_snoc {d : Int} {s : T8} (h : s ≠ []) (b : Nat) : S1 Y d s ≤ S1 Y d (s ++ [b]) ∧ (wrd Y d (s ++ [b]) = true → S1 Y d (s ++ [b]) = S1 Y d s + 1) := by
  cases s with
  | nil => exact absurd rfl h
  | cons a u =>
    have h0 := x_nn L (d := d) a b u
    have e1 : S1 Y d (a :: u ++ [b]) = 1 + ff Y d (u ++ [b]) - ff Y d (a :: (u ++ [b])) := rfl
    have e2 : S1 Y d (a :: u) = 1 + ff Y d u - ff Y d (a :: u) := rfl
    refine ⟨by omega, fun hw => ?_⟩
    have hw : wrd Y d (a :: (u ++ [b])) = true := hw
    rw [wrd_sq, decide_eq_true_iff] at hw
    omega
theorem S1_app {d : Int} {s : T8} (h : s ≠ []) (t : T8) : S1 Y d s ≤ S1 Y d (s ++ t) := by
  induction t using snocRec with
  | nil => rw [List.append_nil]; exact Int.le_refl _
  | snoc t b ih =>
    rw [← List.append_assoc]
    have := (S1_snoc L (d := d) (s := s ++ t) (by simp [h]) b).1
    omega
theorem S1_word {d : Int} (d1 : 1 ≤ d) {w : T8} (h : w ≠ []) (hw : wrd Y d w = true) : 1 ≤ S1 Y d w := by
  by_cases e : w.length = 1
  · obtain ⟨c, rfl⟩ : ∃ c, w = [c] := List.length_eq_one_iff.mp e
    unfold wrd at hw
    rw [if_pos e, decide_eq_true_iff] at hw
    have : ff Y d ([] : T8) = 1 := by
      unfold ff
      rw [cnt_nil]
      omega
    show 1 ≤ 1 + ff Y d ([] : T8) - ff Y d [c]
    omega
  · have hl : 2 ≤ w.length := by
      have : w.length ≠ 0 := fun z => h (List.length_eq_zero_iff.mp z)
      omega
    obtain ⟨a, u, b, rfl⟩ := two_ends hl
    have h1 := (S1_snoc L (d := d) (s := a :: u) (by simp) b).2 hw
    have h2 := (S1_le L (d := d) (s := a :: u) (by simp)).1
    have h1 : S1 Y d (a :: (u ++ [b])) = S1 Y d (a :: u) + 1 := h1
    omega
/-- no word begins another one -/
theorem pre_free {d : Int} (d1 : 1 ≤ d) {w w' : T8} (h : w ≠ []) (hw : wrd Y d w = true) (hw' : wrd Y d w' = true) (p : w <+: w') : w = w' := by
  obtain ⟨t, rfl⟩ := p
  cases ht : t with
  | nil => rw [List.append_nil]
  | cons x r =>
    exfalso
    have hne : t ≠ [] := by rw [ht]; simp
    have e : w ++ t = (w ++ t.dropLast) ++ [t.getLast hne] := by rw [List.append_assoc, List.dropLast_concat_getLast]
    have n0 : w ++ t.dropLast ≠ [] := by simp [h]
    rw [e] at hw'
    have h1 := (S1_snoc L (d := d) n0 _).2 hw'
    have h2 := S1_app L (d := d) h t.dropLast
    have h3 := S1_word L d1 h hw
    have h4 := (S1_le L (d := d) (s := w ++ t.dropLast ++ [t.getLast hne]) (by simp)).2
    omega
theorem S2_le {d : Int} {s : T8} (h : s ≠ []) : 0 ≤ S2 Y d s ∧ S2 Y d s ≤ 1 := by
  have e : s = s.dropLast ++ [s.getLast h] := (List.dropLast_concat_getLast h).symm
  have := up_snoc L s.dropLast (s.getLast h)
  rw [← e] at this
  unfold S2 ff
  omega
theorem S2_cons {d : Int} {s : T8} (h : s ≠ []) (a : Nat) : S2 Y d s ≤ S2 Y d (a :: s) ∧ (wrd Y d (a :: s) = true → S2 Y d (a :: s) = S2 Y d s + 1) := by
  obtain ⟨u, b, rfl⟩ : ∃ u b, s = u ++ [b] := ⟨s.dropLast, s.getLast h, (List.dropLast_concat_getLast h).symm⟩
  have h0 := x_nn L (d := d) a b u
  have e1 : S2 Y d (a :: (u ++ [b])) = 1 + ff Y d (a :: u) - ff Y d (a :: (u ++ [b])) := by
    unfold S2
    rw [drop_sq]
  have e2 : S2 Y d (u ++ [b]) = 1 + ff Y d u - ff Y d (u ++ [b]) := by
    unfold S2
    rw [List.dropLast_concat]
  refine ⟨by omega, fun hw => ?_⟩
  rw [wrd_sq, decide_eq_true_iff] at hw
  omega
theorem S2_app {d : Int} {s : T8} (h : s ≠ []) : ∀ t : T8, S2 Y d s ≤ S2 Y d (t ++ s)
  | [] => Int.le_refl _
  | a :: t => by
    have h1 := S2_app (d := d) h t
    have h2 := (S2_cons L (d := d) (s := t ++ s) (by simp [h]) a).1
    show S2 Y d s ≤ S2 Y d (a :: (t ++ s))
    omega
theorem S2_word {d : Int} (d1 : 1 ≤ d) {w : T8} (h : w ≠ []) (hw : wrd Y d w = true) : 1 ≤ S2 Y d w := by
  by_cases e : w.length = 1
  · obtain ⟨c, rfl⟩ : ∃ c, w = [c] := List.length_eq_one_iff.mp e
    unfold wrd at hw
    rw [if_pos e, decide_eq_true_iff] at hw
    have : ff Y d ([] : T8) = 1 := by
      unfold ff
      rw [cnt_nil]
      omega
    show 1 ≤ 1 + ff Y d ([] : T8) - ff Y d [c]
    omega
  · have hl : 2 ≤ w.length := by
      have : w.length ≠ 0 := fun z => h (List.length_eq_zero_iff.mp z)
      omega
    obtain ⟨a, u, b, rfl⟩ := two_ends hl
    have h1 := (S2_cons L (d := d) (s := u ++ [b]) (by simp) a).2 hw
    have h2 := (S2_le L (d := d) (s := u ++ [b]) (by simp)).1
    omega
/-- no word ends another one -/
theorem suf_free {d : Int} (d1 : 1 ≤ d) {w w' : T8} (h : w ≠ []) (hw : wrd Y d w = true) (hw' : wrd Y d w' = true) (p : w <:+ w') : w = w' := by
  obtain ⟨t, rfl⟩ := p
  cases t with
  | nil => rfl
  | cons x r =>
    exfalso
    have n0 : r ++ w ≠ [] := by simp [h]
    have h1 := (S2_cons L (d := d) n0 x).2 hw'
    have h2 := S2_app L (d := d) h r
    have h3 := S2_word L d1 h hw
    have h4 := (S2_le L (d := d) (s := x :: (r ++ w)) (by simp)).2
    omega
omit L
/-! how many -/
theorem nodup_sub {α : Type} [DecidableEq α] : ∀ {A F : List α}, A.Nodup → (∀ x ∈ A, x ∈ F) → A.length ≤ F.length
  | [], F, _, _ => Nat.zero_le _
  | a :: A, F, nd, h => by
    obtain ⟨n1, n2⟩ := List.nodup_cons.mp nd
    have hm := h a List.mem_cons_self
    have := nodup_sub (A := A) (F := F.erase a) n2 fun x hx => (List.mem_erase_of_ne (fun e => n1 (by rw [← e]; exact hx))).mpr (h x (List.mem_cons_of_mem _ hx))
    rw [List.length_erase_of_mem hm] at this
    have := List.length_pos_of_mem hm
    rw [List.length_cons]
    omega
theorem nodup_map_on {α β : Type} (g : α → β) : ∀ {A : List α}, A.Nodup → (∀ x ∈ A, ∀ y ∈ A, g x = g y → x = y) → (A.map g).Nodup
  | [], _, _ => List.nodup_nil
  | a :: A, nd, h => by
    obtain ⟨n1, n2⟩ := List.nodup_cons.mp nd
    rw [List.map_cons, List.nodup_cons]
    refine ⟨fun hm => ?_, nodup_map_on g n2 fun x hx y hy => h x (List.mem_cons_of_mem _ hx) y (List.mem_cons_of_mem _ hy)⟩
    obtain ⟨y, hy, e⟩ := List.mem_map.mp hm
    have ey : a = y := h a List.mem_cons_self y (List.mem_cons_of_mem _ hy) e.symm
    rw [ey] at n1
    exact n1 hy
theorem pre_or {x y z : T8} (h1 : x <+: z) (h2 : y <+: z) : x <+: y ∨ y <+: x := by
  rcases Nat.le_total x.length y.length with h | h
  · exact .inl (List.prefix_of_prefix_length_le h1 h2 h)
  · exact .inr (List.prefix_of_prefix_length_le h2 h1 h)
/-- texts of which none begins another one, each of which goes on to one of F -/
theorem card_pre {A F : List T8} (nd : A.Nodup) (pr : ∀ x ∈ A, ∀ y ∈ A, x <+: y → x = y) (ex : ∀ x ∈ A, ∃ y ∈ F, x <+: y) : A.length ≤ F.length := by
  classical
  let g : T8 → T8 := fun x => if h : x ∈ A then Classical.choose (ex x h) else x
  have hg : ∀ x ∈ A, g x ∈ F ∧ x <+: g x := fun x hx => by
    have := Classical.choose_spec (ex x hx)
    show (if h : x ∈ A then Classical.choose (ex x h) else x) ∈ F ∧ x <+: (if h : x ∈ A then Classical.choose (ex x h) else x)
    rw [dif_pos hx]
    exact this
  have := nodup_sub (A := A.map g) (F := F) (nodup_map_on g nd fun x hx y hy e => by
    have h1 := (hg x hx).2
    have h2 := (hg y hy).2
    rw [← e] at h2
    rcases pre_or h1 h2 with h | h
    · exact pr x hx y hy h
    · exact (pr y hy x hx h).symm) fun z hz => by
    obtain ⟨x, hx, rfl⟩ := List.mem_map.mp hz
    exact (hg x hx).1
  rw [List.length_map] at this
  exact this
theorem flat_len {α β : Type} (g : α → List β) (k : Nat) : ∀ {A : List α}, (∀ x ∈ A, (g x).length ≤ k) → (A.flatMap g).length ≤ k * A.length
  | [], _ => by simp
  | a :: A, h => by
    have h1 := h a List.mem_cons_self
    have h2 := flat_len g k (A := A) fun x hx => h x (List.mem_cons_of_mem _ hx)
    rw [List.flatMap_cons, List.length_append, List.length_cons, Nat.mul_succ]
    omega
theorem three_counts {α : Type} (p q : α → Bool) : ∀ F : List α, (F.filter fun t => p t && !q t).length + (F.filter fun t => q t && !p t).length + (F.filter fun t => p t && q t).length ≤ F.length ∧
    (F.filter p).length = (F.filter fun t => p t && !q t).length + (F.filter fun t => p t && q t).length ∧ (F.filter q).length = (F.filter fun t => q t && !p t).length + (F.filter fun t => p t && q t).length
  | [] => by simp
  | a :: F => by
    obtain ⟨h1, h2, h3⟩ := three_counts p q F
    cases ep : p a <;> cases eq : q a <;> simp [List.filter_cons, ep, eq] <;> omega
theorem few_ar {p q m P Q F A W : Nat} (t1 : p + q + m ≤ F) (t2 : P = p + m) (t3 : Q = q + m) (v1 : W ≤ 3 * P) (v2 : W ≤ 3 * Q) (v3 : W ≤ 3 * p + 3 * q) (h : A + P ≤ F) (f : F ≤ 160) : A + W ≤ 400 := by omega
include L
/-- the words of a full book are at most 400 -/
theorem few {d : Int} (d1 : 1 ≤ d) (d4 : d ≤ 4) {n : Nat} (n5 : 5 ≤ n) {sg : T8} (hs : sg.length ≤ 3) (hy : ∀ c, [c] ∈ Y → c ∈ sg) {F A W : List T8} (fz : F.length ≤ 160) (fl : ∀ t ∈ F, t.length = n)
    (fd : ∀ t ∈ F, d ≤ cnt Y t) (fnd : F.Nodup) (and_ : A.Nodup) (aw : ∀ x ∈ A, x ≠ [] ∧ x.length ≤ n ∧ wrd Y d x = true ∧ ∃ y ∈ F, x <+: y) (wnd : W.Nodup)
    (ww : ∀ w ∈ W, w.length = n + 1 ∧ wrd Y d w = true ∧ w.dropLast ∈ F ∧ w.tail ∈ F ∧ ∀ c ∈ w, c ∈ sg) : A.length + W.length ≤ 400 := by
  have hd : ∀ t ∈ F, ff Y d t = d := fun t ht => by
    have := fd t ht
    unfold ff
    omega
  -- the parts of a longest word
  have parts : ∀ w ∈ W, ∃ a u b, w = a :: (u ++ [b]) ∧ u.length + 1 = n ∧ cnt Y u = d - 1 ∧ d ≤ cnt Y (a :: u) ∧ d ≤ cnt Y (u ++ [b]) ∧ (a :: u) ∈ F ∧ (u ++ [b]) ∈ F ∧ a ∈ sg ∧ b ∈ sg := fun w hw => by
    obtain ⟨l, hw1, h1, h2, h3⟩ := ww w hw
    obtain ⟨a, u, b, rfl⟩ := two_ends (w := w) (by omega)
    rw [drop_sq] at h1
    have h2 : (u ++ [b]) ∈ F := h2
    rw [wrd_sq, decide_eq_true_iff, hd _ h1, hd _ h2] at hw1
    have k1 := fd _ h1
    have k2 := fd _ h2
    have k3 := (up_cons L a (u ++ [b])).1
    have k4 : ff Y d (a :: (u ++ [b])) = d := by
      unfold ff
      omega
    rw [k4] at hw1
    have k5 : cnt Y u = d - 1 := by
      unfold ff at hw1
      omega
    refine ⟨a, u, b, rfl, ?_, k5, k1, k2, h1, h2, h3 a (by simp), h3 b (by simp)⟩
    simp at l
    omega
  let p : T8 → Bool := fun t => decide (ff Y d t.tail = d - 1)
  let q : T8 → Bool := fun t => decide (ff Y d t.dropLast = d - 1)
  have hfu : ∀ u, cnt Y u = d - 1 → ff Y d u = d - 1 := fun u e => by
    unfold ff
    omega
  have memP : ∀ a u, (a :: u) ∈ F → cnt Y u = d - 1 → p (a :: u) = true := fun a u _ e => decide_eq_true (hfu u e)
  have memQ : ∀ b u, (u ++ [b]) ∈ F → cnt Y u = d - 1 → q (u ++ [b]) = true := fun b u _ e => decide_eq_true (by rw [List.dropLast_concat]; exact hfu u e)
  -- short words and P
  have hA : A.length + (F.filter p).length ≤ F.length := by
    have S0 : ∀ t ∈ F, p t = true → S1 Y d t = 0 := fun t ht e => by
      have e := of_decide_eq_true e
      have := hd t ht
      unfold S1
      omega
    have ne : ∀ t ∈ F, t ≠ [] := fun t ht e => by
      have := fl t ht
      rw [e] at this
      simp at this
      omega
    have no : ∀ x ∈ A, ∀ t ∈ F, p t = true → ¬ x <+: t := fun x hx t ht hp ⟨r, e⟩ => by
      obtain ⟨x0, _, xw, _⟩ := aw x hx
      have h1 := S1_word L d1 x0 xw
      have h2 := S1_app L (d := d) x0 r
      rw [e, S0 t ht hp] at h2
      omega
    have := card_pre (A := A ++ F.filter p) (F := F) (List.nodup_append.mpr ⟨and_, fnd.filter _, fun x hx y hy e => by
      obtain ⟨h1, h2⟩ := List.mem_filter.mp hy
      exact no x hx y h1 h2 (by rw [e]; exact List.prefix_refl _)⟩) (fun x hx y hy hp => by
      rcases List.mem_append.mp hx with hx | hx
      · rcases List.mem_append.mp hy with hy | hy
        · exact pre_free L d1 (aw x hx).1 (aw x hx).2.2.1 (aw y hy).2.2.1 hp
        · obtain ⟨h1, h2⟩ := List.mem_filter.mp hy
          exact absurd hp (no x hx y h1 h2)
      · obtain ⟨h1, h2⟩ := List.mem_filter.mp hx
        have lx := fl x h1
        refine hp.eq_of_length ?_
        have := hp.length_le
        rcases List.mem_append.mp hy with hy | hy
        · have := (aw y hy).2.1
          omega
        · have := fl y (List.mem_filter.mp hy).1
          omega) (fun x hx => by
      rcases List.mem_append.mp hx with hx | hx
      · exact (aw x hx).2.2.2
      · exact ⟨x, (List.mem_filter.mp hx).1, List.prefix_refl _⟩)
    rw [List.length_append] at this
    exact this
  by_cases hc : ∃ c, [c] ∈ Y
  · obtain ⟨c, hc⟩ := hc
    have hcs := hy c hc
    have := nodup_sub (A := W) (F := (F.filter p).flatMap fun t => (sg.erase c).map fun b => t ++ [b]) wnd fun w hw => by
      obtain ⟨a, u, b, rfl, _, k1, k2, k3, m1, m2, _, m3⟩ := parts w hw
      refine List.mem_flatMap.mpr ⟨a :: u, List.mem_filter.mpr ⟨m1, memP a u m1 k1⟩, List.mem_map.mpr ⟨b, ?_, rfl⟩⟩
      refine (List.mem_erase_of_ne (fun e => ?_)).mpr m3
      subst e
      have h1 := cnt_snoc Y u b
      have h2 : 1 ≤ sf Y (u ++ [b]) := by
        have h3 : sf Y [b] = 1 := by
          show occ Y [b] + 0 = 1
          unfold occ
          rw [if_pos hc] <;> rfl
        have h4 : ∀ u : T8, sf Y [b] ≤ sf Y (u ++ [b]) := fun u => by
          induction u with
          | nil => exact Int.le_refl _
          | cons a u ih => exact Int.le_trans ih (sf_mono Y (u ++ [b]) a)
        have := h4 u
        omega
      omega
    have h2 := flat_len (A := F.filter p) (fun t => (sg.erase c).map fun b => t ++ [b]) 2 fun t _ => by
      rw [List.length_map, List.length_erase_of_mem hcs]
      omega
    have h3 := Nat.le_trans this h2
    omega
  · have one : ∀ u : T8, u ≠ [] → 2 ≤ cnt Y u := fun u hu => by
      cases u with
      | nil => exact absurd rfl hu
      | cons c u =>
        have h1 : cnt Y [c] = 2 := by
          rw [cnt_cons, cnt_nil]
          have : pf Y [c] = 0 := by
            show occ Y [c] + 0 = 0
            unfold occ
            rw [if_neg fun h => hc ⟨c, h⟩] <;> rfl
          omega
        have h2 : ∀ u : T8, cnt Y [c] ≤ cnt Y (c :: u) := fun u => by
          induction u using snocRec with
          | nil => exact Int.le_refl _
          | snoc u b ih =>
            have := (up_snoc L (c :: u) b).1
            show cnt Y [c] ≤ cnt Y (c :: u ++ [b])
            omega
        have := h2 u
        omega
    obtain ⟨t1, t2, t3⟩ := three_counts p q F
    have hs3 : ∀ t : T8, (sg.map fun b => t ++ [b]).length ≤ 3 := fun t => by rw [List.length_map]; exact hs
    have hs4 : ∀ t : T8, (sg.map fun b => b :: t).length ≤ 3 := fun t => by rw [List.length_map]; exact hs
    have w1 := nodup_sub (A := W) (F := (F.filter p).flatMap fun t => sg.map fun b => t ++ [b]) wnd fun w hw => by
      obtain ⟨a, u, b, rfl, _, k1, k2, k3, m1, m2, _, m3⟩ := parts w hw
      exact List.mem_flatMap.mpr ⟨a :: u, List.mem_filter.mpr ⟨m1, memP a u m1 k1⟩, List.mem_map.mpr ⟨b, m3, rfl⟩⟩
    have w2 := flat_len (A := F.filter p) (fun t => sg.map fun b => t ++ [b]) 3 fun t _ => hs3 t
    have w3 := nodup_sub (A := W) (F := (F.filter q).flatMap fun t => sg.map fun b => b :: t) wnd fun w hw => by
      obtain ⟨a, u, b, rfl, _, k1, k2, k3, m1, m2, m4, m3⟩ := parts w hw
      exact List.mem_flatMap.mpr ⟨u ++ [b], List.mem_filter.mpr ⟨m2, memQ b u m2 k1⟩, List.mem_map.mpr ⟨a, m4, rfl⟩⟩
    have w4 := flat_len (A := F.filter q) (fun t => sg.map fun b => b :: t) 3 fun t _ => hs4 t
    have w5 := nodup_sub (A := W) (F := ((F.filter fun t => p t && !q t).flatMap fun t => sg.map fun b => t ++ [b]) ++ ((F.filter fun t => q t && !p t).flatMap fun t => sg.map fun b => b :: t)) wnd fun w hw => by
      obtain ⟨a, u, b, rfl, lu, k1, k2, k3, m1, m2, m4, m3⟩ := parts w hw
      rw [List.mem_append]
      by_cases hq : q (a :: u) = true
      · by_cases hp : p (u ++ [b]) = true
        · exfalso
          obtain ⟨c, v, e, rfl⟩ := two_ends (w := u) (by omega)
          have hq : ff Y d (a :: (c :: (v ++ [e]))).dropLast = d - 1 := of_decide_eq_true hq
          have hp : ff Y d ((c :: (v ++ [e])) ++ [b]).tail = d - 1 := of_decide_eq_true hp
          have hq : ff Y d (a :: c :: v) = d - 1 := by
            have e1 : (a :: (c :: (v ++ [e]))).dropLast = a :: c :: v := drop_sq a e (c :: v)
            rw [e1] at hq
            exact hq
          have hp : ff Y d (v ++ [e] ++ [b]) = d - 1 := hp
          have g1 : cnt Y (a :: c :: v) = d - 1 := by unfold ff at hq; omega
          have g2 : cnt Y (v ++ [e] ++ [b]) = d - 1 := by unfold ff at hp; omega
          have a1 := cnt_snoc Y (a :: c :: v) e
          have a2 := cnt_snoc Y (c :: v) e
          have a3 := cnt_snoc Y v e
          have a4 : sf Y (a :: c :: v ++ [e]) = occ Y (a :: c :: v ++ [e]) + sf Y (c :: v ++ [e]) := rfl
          have a5 : sf Y (c :: v ++ [e]) = occ Y (c :: v ++ [e]) + sf Y (v ++ [e]) := rfl
          have a6 := occ0 Y (a :: c :: v ++ [e])
          have a7 := occ0 Y (c :: v ++ [e])
          have a8 := sf0 Y (v ++ [e])
          have b1 := cnt_cons Y c (v ++ [e] ++ [b])
          have b2 := cnt_cons Y c (v ++ [e])
          have b3 : pf Y (c :: (v ++ [e]) ++ [b]) = pf Y (c :: (v ++ [e])) + occ Y (c :: (v ++ [e]) ++ [b]) := pf_snoc Y (c :: (v ++ [e])) b
          have b4 := occ0 Y (c :: (v ++ [e]) ++ [b])
          have b5 := pf0 Y (c :: (v ++ [e]))
          have k2' : d ≤ cnt Y (a :: c :: v ++ [e]) := k2
          have k3' : d ≤ cnt Y (c :: (v ++ [e] ++ [b])) := k3
          have k1' : cnt Y (c :: v ++ [e]) = d - 1 := k1
          have k1'' : cnt Y (c :: (v ++ [e])) = d - 1 := k1
          have b3' : pf Y (c :: (v ++ [e] ++ [b])) = pf Y (c :: (v ++ [e])) + occ Y (c :: (v ++ [e]) ++ [b]) := b3
          have hv : v ≠ [] := fun z => by
            rw [z] at lu
            simp at lu
            omega
          have := one v hv
          omega
        · refine .inr (List.mem_flatMap.mpr ⟨u ++ [b], List.mem_filter.mpr ⟨m2, ?_⟩, List.mem_map.mpr ⟨a, m4, rfl⟩⟩)
          rw [memQ b u m2 k1, Bool.eq_false_iff.mpr hp]
          rfl
      · refine .inl (List.mem_flatMap.mpr ⟨a :: u, List.mem_filter.mpr ⟨m1, ?_⟩, List.mem_map.mpr ⟨b, m3, rfl⟩⟩)
        rw [memP a u m1 k1, Bool.eq_false_iff.mpr hq]
        rfl
    have w6 := flat_len (A := F.filter fun t => p t && !q t) (fun t => sg.map fun b => t ++ [b]) 3 fun t _ => hs3 t
    have w7 := flat_len (A := F.filter fun t => q t && !p t) (fun t => sg.map fun b => b :: t) 3 fun t _ => hs4 t
    rw [List.length_append] at w5
    have v1 := Nat.le_trans w1 w2
    have v2 := Nat.le_trans w3 w4
    have v3 := Nat.le_trans w5 (Nat.add_le_add w6 w7)
    exact few_ar t1 t2 t3 v1 v2 v3 hA fz
end NJ.BX

set_option Elab.async false
set_option linter.all false
set_option maxRecDepth 100000
set_option maxHeartbeats 4000000
/-! xs.extend(a comprehension), comprehensions as lists of one's own, {} filled with arrows. -/
namespace NJ
open PySem PySem.Spec PyProof.Rows L2
section
variable {σ : L2.St} {Hm H : Hp} {α β γ : Type} {R : Rp α} {S : Rp β} {U : Rp γ} {te : TE} {tt : TT} {D : Ends} {tz : TS}
theorem ev_lcO {wi : TI} {g : TG} {vs : List Nat} {xs : List α} (f : α → Bool) (m : α → β) (hw : Wk wi σ Hm R xs) (hn : xs.length ≤ 16000000)
    (hb : ∀ d, d ∈ xs → ∀ v K3, Same Hm K3 → R.rel K3 v d → ∃ σ2, Tk g (wipe σ vs) K3 v σ2 ∧ wipe σ2 vs = wipe σ vs ∧ Et tt σ2 K3 (f d) ∧ (f d = true → Ev te σ2 K3 S (m d))) : Ev (tLc wi g tt te vs) σ Hm (rM S) ((xs.filter f).map m) := fun H1 hi Q q =>
  lc_own f m hw hn hb H1 hi Q fun E K2 H2 Ki us H' x nE c => q (.ref E) _ _ (x.trans (c.done nE).1) (c.done nE).2
theorem s_extC {f : Addr} {ys ds : List β} {Ki Hx : Hp} {vs : List V} {i : Nat} (hv : σ[i]? = some (some (.ref f))) (c : Ci Hm H f S ys Ki vs Hx) (hf : H f = none) (h : Ev te σ Ki (rM S) ds) (hz : ys.length + ds.length ≤ 16000000) {K : PySem.W.Frag}
    (k : ∀ K1 vs1 H1, Ci Hm H f S (ys ++ ds) K1 vs1 H1 → Same Ki K1 → D.nx σ H1) : tDrop (tBM K "list" rExtend (tVar i) (tCons te tNil)) D σ Hx :=
  ⟨.ref f, hv, .inl ⟨rfl, vs, .inl (.inl c.at_)⟩, h Hx c.i _ fun v K1 H1 x ⟨b, us, e, hb, hP⟩ => by
    have c1 := c.ext x
    refine ⟨f, b, vs, us, rfl, by rw [e], c1.at_, x.i _ _ hb, by rw [c.len, paired_len hP]; exact sz16 hz, k K1 (vs ++ us) _ ⟨c1.s, same_mut c1.i c1.n, fun b o e => ?_, c1.f, c1.n, upd_same, paired_app c1.r hP⟩ x.s⟩
    rw [upd_ne (ne_of_none e hf)]
    exact c1.k b o e⟩
end
/-! ### dicts of arrows, known by where their keys stand -/
def DaP (P : Program) (w : World) (d : Addr) (L : List (Addr × Arw)) : Heap → Prop := fun h => ∃ vs : List (List Key × Addr × Value), vs.map (fun y => (y.2.1, y.1)) = L.map (fun p => (p.1, keyA p.2)) ∧ (d == sysModules) = false ∧ L.length ≤ sizeLine ∧
  ∃ o es ep, h.get? d = some o ∧ o.ExactDict ∧ o.data = .dict es ep ∧ es.toList = vs.map (entryOfKey (tupleKind (mixKind P w))) ∧ (vs.map (·.1)).Nodup
def DaO (P : Program) (w : World) (d : Addr) (L : List (Addr × Arw)) : HO := .ext (DaP P w d L)
theorem dao_ok {P : Program} {w : World} {H : Hp} {h : Heap} {d : Addr} {L : List (Addr × Arw)} (p : DaP P w d L h) : ObjOk P w H h d (DaO P w d L) := by
  refine ⟨p, ?_, fun h1 h2 ⟨vs, e, a, z, o, es, ep, g1, g⟩ k => ⟨vs, e, a, z, o, es, ep, k o g1, g⟩⟩
  obtain ⟨vs, _, _, _, o, _, _, g1, _⟩ := p
  exact ⟨o, g1⟩
def putL (L : List (Addr × Arw)) (b : Addr) (t : Arw) : List (Addr × Arw) := if t ∈ L.map (·.2) then L else L ++ [(b, t)]
theorem putL_len {L : List (Addr × Arw)} {b : Addr} {t : Arw} : (putL L b t).length ≤ L.length + 1 := by
  unfold putL
  split
  · omega
  · simp
theorem putL_snd {L : List (Addr × Arw)} {b : Addr} {t : Arw} : (putL L b t).map (·.2) = insA (L.map (·.2)) t := by
  unfold putL insA
  split
  · rfl
  · rw [List.map_append]
    rfl
theorem putL_all {L : List (Addr × Arw)} {b : Addr} {t : Arw} {F : Addr × Arw → Prop} (h : ∀ p ∈ L, F p) (hb : F (b, t)) : ∀ p ∈ putL L b t, F p := fun p hp => by
  unfold putL at hp
  split at hp
  · exact h p hp
  · rcases List.mem_append.mp hp with hp | hp
    · exact h p hp
    · rw [List.mem_singleton] at hp
      exact hp ▸ hb
theorem keys_of_dap {vs : List (List Key × Addr × Value)} {L : List (Addr × Arw)} (e : vs.map (fun y => (y.2.1, y.1)) = L.map (fun p => (p.1, keyA p.2))) {y : List Key × Addr × Value} (hy : y ∈ vs) : ∃ p ∈ L, y.2.1 = p.1 ∧ y.1 = keyA p.2 := by
  have h : (y.2.1, y.1) ∈ vs.map (fun y => (y.2.1, y.1)) := List.mem_map_of_mem hy
  rw [e] at h
  obtain ⟨p, hp, q⟩ := List.mem_map.mp h
  exact ⟨p, hp, (congrArg Prod.fst q).symm, (congrArg Prod.snd q).symm⟩
theorem atKey_iff {vs : List (List Key × Addr × Value)} {L : List (Addr × Arw)} (e : vs.map (fun y => (y.2.1, y.1)) = L.map (fun p => (p.1, keyA p.2))) (t : Arw) : (atKey vs (keyA t)).isSome = decide (t ∈ L.map (·.2)) := by
  rw [Bool.eq_iff_iff, decide_eq_true_iff]
  unfold atKey
  rw [Option.isSome_map, List.find?_isSome]
  constructor
  · rintro ⟨y, hy, hk⟩
    obtain ⟨p, hp, _, e2⟩ := keys_of_dap e hy
    have hk : y.1 = keyA t := by simpa using hk
    rw [e2] at hk
    rw [← keyA_inj hk]
    exact List.mem_map_of_mem hp
  · intro h
    obtain ⟨p, hp, rfl⟩ := List.mem_map.mp h
    have h2 : (p.1, keyA p.2) ∈ vs.map (fun y => (y.2.1, y.1)) := by rw [e]; exact List.mem_map_of_mem (f := fun p : Addr × Arw => (p.1, keyA p.2)) hp
    obtain ⟨y, hy, q⟩ := List.mem_map.mp h2
    exact ⟨y, hy, by simpa using congrArg Prod.snd q⟩
theorem storedH_map {vs : List (List Key × Addr × Value)} {L : List (Addr × Arw)} (e : vs.map (fun y => (y.2.1, y.1)) = L.map (fun p => (p.1, keyA p.2))) (b : Addr) (t : Arw) (u : Value) : (storedH vs (keyA t) b u).map (fun y => (y.2.1, y.1)) = (putL L b t).map (fun p => (p.1, keyA p.2)) := by
  unfold storedH putL
  rw [atKey_iff e]
  by_cases h : t ∈ L.map (·.2)
  · rw [if_pos (decide_eq_true h), if_pos h, ← e, List.map_map]
    refine List.map_congr_left fun y _ => ?_
    show ((putAt (keyA t) u y).2.1, (putAt (keyA t) u y).1) = _
    unfold putAt
    split <;> rfl
  · rw [if_neg (by rw [decide_eq_true_iff]; exact h), if_neg h, List.map_append, List.map_append, e]
    rfl
section
variable {X : Cx}
/-- {} -/
def tDNewA (P : Program) (w : World) : TE := fun _ H Q => ∀ p, H p = none → Q (.ref p) (upd H p (DaO P w p []))
theorem pe_dnewA {pos : Pos} : PE X (.Dict [] [] pos) (tDNewA X.prog X.w) := ⟨fun pins s σ H Q I h =>
  wpAny_Dict_empty ⟨.ref s.heap.objs.size, _, I.laid (a := s.heap.objs.size) (o := DaO X.prog X.w s.heap.objs.size []) (t' := s.toks) (fun _ _ q => Heap.get?_push_of_some _ q) (Nat.le_refl _)
    (dao_ok ⟨[], rfl, beq_eq_false_iff_ne.mpr (Ne.symm (Nat.ne_of_lt I.big)), Nat.zero_le _, _, #[], 0, Heap.get?_push_size _ rfl, ⟨rfl, rfl, rfl⟩, rfl, rfl, List.nodup_nil⟩), rfl, h _ (I.hok.fresh (Nat.le_refl _))⟩⟩
/-- d[t] = v -/
def sDPutA (P : Program) (w : World) (td ty tv : TE) : TS := fun D σ H => tv σ H fun v H1 => td σ H1 fun x H2 => ty σ H2 fun y H3 => ∃ d L b t, x = .ref d ∧ H3 d = some (DaO P w d L) ∧ y = .ref b ∧ H3 b = some (.tup (arV t)) ∧ (∀ p ∈ L, H3 p.1 = some (.tup (arV p.2))) ∧ L.length < sizeLine ∧ D.nx σ (upd H3 d (DaO P w d (putL L b t)))
theorem ps_dputA {o i value : Expr} {pos pos' : Pos} {td ty tv : TE} (hu : X.A.units + 1 < cLine) (ho : PE X o td) (hi : PE X i ty) (hv : PE X value tv) (hs : swapsWith value (some (.Subscript o i pos')) pos.line X.env = pure false) :
    PS X (.Assign [.Subscript o i pos'] value pos) (sDPutA X.prog X.w td ty tv) := by
  refine ⟨fun pins s σ H D I h => ?_⟩
  refine wpAny_Assign_Subscript (thn (hv.run pins s σ H _ I h) fun r s1 ⟨v, H1, I1, rv, q1⟩ => thn (ho.run pins s1 σ H1 _ I1 q1) fun u s2 ⟨x, H2, I2, rx, q2⟩ => thn (hi.run pins s2 σ H2 _ I2 q2) fun iv s3 ⟨y, H3, I3, ry, d, L, b, t, ex, hd, ey, hb, hL, hz, q3⟩ => ?_) hs
  subst ex ey
  obtain rfl : u = Value.ref d := rx
  obtain rfl : iv = Value.ref b := ry
  obtain ⟨⟨vs, e, a, z, ob, es, ep, g1, g2, g3, g4, g5⟩, _, _⟩ := I3.hok d _ hd
  have dd : s3.heap.DictOfH (tupleKind (mixKind X.prog X.w)) d vs := ⟨ob, es, ep, g1, g2, g3, g4, fun y hy => by
    obtain ⟨p, hp, e1, e2⟩ := keys_of_dap e hy
    rw [e1, e2]
    exact key_of I3.hok (hL p hp), g5⟩
  have lv : vs.length = L.length := by
    have := congrArg List.length e
    rwa [List.length_map, List.length_map] at this
  refine wpAny_setItem_heap (hsz := by rw [lv]; omega) (tupleKind_room_in1 hu) (key_of (ks := keyA t) I3.hok hb) dd fun h' dd' hs => ⟨σ, _, ?_, q3⟩
  obtain ⟨q, es2, ep2, hq, h2, h3, h4, _, h5⟩ := dd'
  have := putL_len (L := L) (b := b) (t := t)
  exact d_write I3 (by rw [hd]; exact True.intro) hs ⟨q, hq⟩ (dao_ok ⟨_, storedH_map e b t _, a, by omega, q, es2, ep2, hq, h2, h3, h4, h5⟩)
/-- list(d) -/
abbrev rListDA (P : Program) (w : World) : List V → Hp → VK → Prop := fun xs H Q => ∃ (d : Addr) (L : List (Addr × Arw)), xs = [.ref d] ∧ H d = some (DaO P w d L) ∧ ∀ p, H p = none → Q (.ref p) (upd H p (.lst (L.map fun p => V.ref p.1)))
theorem call_listDA (hcalm : X.calm = true) : CallR X (.type "list") (rListDA X.prog X.w) := by
  intro pins s σ H xs us Q I r q
  obtain ⟨d, L, ex, hd, q⟩ := q
  subst ex
  obtain ⟨u, eu, rx⟩ := vals1 r
  subst eu
  cases rx
  obtain ⟨⟨vs, e, a, z, ob, es, ep, g1, g2, g3, g4, g5⟩, _, _⟩ := I.hok d _ hd
  have lv : vs.length = L.length := by
    have := congrArg List.length e
    rwa [List.length_map, List.length_map] at this
  have hs := size_of_entries g4
  refine PySem.W.kdl_call (PySem.KdlSrc.rawDict (es := es) (ep := ep) a) (I.ok.hd hcalm) ⟨ob, g1, g2, g3⟩ (by rw [hs, lv]; exact z) fun h' tk acc c' hk hD hacc => ?_
  have ea : acc.toList = (L.map fun p => p.1).map Value.ref := by
    have e2 : (L.map fun p => p.1) = vs.map fun y => y.2.1 := by
      have := congrArg (List.map Prod.fst) e
      rw [List.map_map, List.map_map] at this
      exact this.symm
    rw [e2]
    refine List.ext_getElem? fun j => ?_
    rw [List.map_map, List.getElem?_map]
    by_cases hj : j < vs.length
    · have hj2 : j < acc.size := by rw [hacc.1, hs]; exact hj
      obtain ⟨hi, e3⟩ := hacc.2 j acc[j] (Array.getElem?_eq_getElem hj2)
      have e4 := entry_at g4 j
      rw [Array.getElem?_eq_getElem hi, List.getElem?_eq_getElem hj] at e4
      have e5 := Option.some.inj e4
      rw [Array.getElem?_toList, Array.getElem?_eq_getElem hj2, e3, e5, List.getElem?_eq_getElem hj]
      rfl
    · have hj2 : acc.size ≤ j := by rw [hacc.1, hs]; omega
      rw [Array.getElem?_toList, Array.getElem?_eq_none hj2, List.getElem?_eq_none (Nat.le_of_not_lt hj)]
      rfl
  have hv : Vals (L.map fun p => V.ref p.1) acc.toList := by
    have e9 : (L.map fun p => V.ref p.1) = (L.map fun p => p.1).map V.ref := by
      rw [List.map_map]
      rfl
    rw [ea, e9]
    exact vals_refT _
  refine ⟨.ref s.heap.objs.size, upd H s.heap.objs.size (.lst (L.map fun p => V.ref p.1)), I.laid (t' := tk) hk (Nat.le_refl _)
    (show ObjOk X.prog X.w _ _ _ (.lst (L.map fun p => V.ref p.1)) from ⟨by rw [List.length_map]; exact z, acc.toList, c', hv, by rw [Array.toArray_toList]; exact hD⟩), rfl, q _ (I.hok.fresh (Nat.le_refl _))⟩
/-- dict(xs), pairs of arrows and something -/
abbrev rDictPA (K : PySem.W.Frag) (P : Program) (w : World) : List V → Hp → VK → Prop := fun xs H Q => ∃ (a : Addr) (ps : List Addr) (L : List (Addr × Arw)), xs = [.ref a] ∧ SqL K H a (ps.map V.ref) ∧ Paired (fun p (z : Addr × Arw) => ∃ v, SqT K H p [V.ref z.1, v]) ps L ∧ (∀ z ∈ L, H z.1 = some (.tup (arV z.2))) ∧ (L.map (·.2)).Nodup ∧ ∀ p, H p = none → Q (.ref p) (upd H p (DaO P w p L))
theorem pairsA_of {pins : List (Addr × Obj)} {σ : L2.St} {H : Hp} {s : Shared} (I : Inv X pins σ H s) : ∀ {ps : List Addr} {L : List (Addr × Arw)}, Paired (fun p (z : Addr × Arw) => ∃ v, SqT X.K H p [V.ref z.1, v]) ps L →
    ∃ rs : List (List Key × Addr × Value), rs.map (fun y => (y.2.1, y.1)) = L.map (fun p => (p.1, keyA p.2)) ∧ rs.length = ps.length ∧ ∀ (j : Nat) (q : List Key × Addr × Value), rs[j]? = some q → ∃ p : Addr, ps[j]? = some p ∧ IsTup s.heap p #[.ref q.2.1, q.2.2]
  | _, _, .nil => ⟨[], rfl, rfl, fun j q e => by simp at e⟩
  | _, _, .cons (a := p) (b := z) h t => by
    obtain ⟨rs, r, hl, hp⟩ := pairsA_of I t
    obtain ⟨v, hS⟩ := h
    obtain ⟨its, rv, ht, _⟩ := I.tuple hS
    obtain ⟨u, y, ei, ru, ry⟩ := vals2 rv
    subst ei
    cases ru
    refine ⟨(keyA z.2, z.1, y) :: rs, by rw [List.map_cons, List.map_cons, r], by rw [List.length_cons, List.length_cons, hl], fun j q e => ?_⟩
    cases j with
    | zero =>
      have e' : (keyA z.2, z.1, y) = q := Option.some.inj e
      subst e'
      exact ⟨p, rfl, ht⟩
    | succ j =>
      obtain ⟨p', e1, e2⟩ := hp j q (by simpa using e)
      exact ⟨p', by simpa using e1, e2⟩
theorem call_dictPA (hcalm : X.calm = true) (hu : X.A.units + 100 < cLine) : CallR X (.type "dict") (rDictPA X.K X.prog X.w) := by
  intro pins s σ H xs us Q I r q
  obtain ⟨a, ps, L, ex, hq, hp, hL, nd, q⟩ := q
  subst ex
  obtain ⟨u, eu, rx⟩ := vals1 r
  subst eu
  cases rx
  obtain ⟨its, rv, pl, hz⟩ := I.list hq
  have ei := refs_at rv
  subst ei
  rw [List.length_map] at hz
  obtain ⟨rs, rel, hl, hpr⟩ := pairsA_of I hp
  have lr : rs.length = L.length := by
    have := congrArg List.length rel
    rwa [List.length_map, List.length_map] at this
  have nr : (rs.map (·.1)).Nodup := by
    have e1 : rs.map (·.1) = (L.map (·.2)).map keyA := by
      have := congrArg (List.map Prod.snd) rel
      rw [List.map_map, List.map_map] at this
      rw [List.map_map]
      exact this
    rw [e1]
    exact BX.nodup_map_on keyA nd fun x _ y _ e => keyA_inj e
  obtain ⟨o, n, ho, hc, hd, hdat⟩ := pl
  have ok : PySem.PlainSeq "list" s.heap a (ps.map Value.ref).toArray ∧ PySem.PairItems s.heap (ps.map Value.ref).toArray (fun j => ps.getD j 0) (rs.map fun z => (Value.ref z.2.1, z.2.2)) := by
    refine ⟨⟨o, n, ho, hc, hd, hdat⟩, by simp [hl], fun j k v e => ?_⟩
    rw [List.getElem?_map] at e
    cases hj : rs[j]? with
    | none => rw [hj] at e; cases e
    | some z =>
      rw [hj] at e
      obtain ⟨p, e1, e2⟩ := hpr j z hj
      cases e
      refine ⟨by simp [e1], .inl ?_⟩
      show s.heap.IsTuple (ps.getD j 0) _
      rw [List.getD_eq_getElem?_getD, e1]
      exact e2
  refine PySem.call_dict_pairsH (knd := tupleKind (mixKind X.prog X.w)) (ps := rs) (PySem.PairArg.list a (ps.map Value.ref).toArray (fun j => ps.getD j 0) (rs.map fun z => (Value.ref z.2.1, z.2.2))) (I.ok.hd hcalm) ?_ ok ⟨by rw [List.length_map], fun i key v e => ?_⟩ ?_ (by rw [List.length_map, hl]; exact hz) fun h' tk dd hk => ?_
  · show X.A.in1.in1.units < cLine
    simp only [units_in1]
    omega
  · rw [PySem.PairRel, List.getElem?_map] at e
    cases hj : rs[i]? with
    | none => rw [hj] at e; cases e
    | some z =>
      rw [hj] at e
      cases e
      exact ⟨z.1, z.2.1, rfl, rfl⟩
  · intro h' hk x hx
    obtain ⟨p, hp, e1, e2⟩ := keys_of_dap rel hx
    rw [e1, e2]
    have k0 := key_of (ks := keyA p.2) I.hok (hL p hp)
    obtain ⟨oo, it, n', g1, g2, g3, g4⟩ := k0
    exact ⟨oo, it, n', hk _ _ (Nat.ne_of_lt (Heap.lt_size g1)) (by simp) g1, g2, g3, g4⟩
  · have hm : (s.heap.objs.size == sysModules) = false := beq_eq_false_iff_ne.mpr (Nat.ne_of_gt I.big)
    rw [storedAllH_nil_of_nodup rs nr] at dd
    obtain ⟨o2, es, ep, g1, g2, g3, g4, _, g5⟩ := dd
    exact ⟨.ref s.heap.objs.size, upd H s.heap.objs.size (DaO X.prog X.w s.heap.objs.size L), I.laid (t' := tk) (fun b o e => hk b o (by simp) e) (Nat.le_refl _) (dao_ok ⟨rs, rel, hm, by rw [← lr, hl]; exact hz, o2, es, ep, g1, g2, g3, g4, g5⟩), rfl, q _ (I.hok.fresh (Nat.le_refl _))⟩
end
section
variable {σ : L2.St} {Hm H : Hp} {te : TE} {D : Ends} {tz : TS} {P : Program} {w : World}
/-- name = {} to hold arrows -/
theorem q_newA {i : Nat} (q : ∀ f, H f = none → tz D (σ.set i (some (.ref f))) (upd H f (DaO P w f []))) : tSeq (tAsg (tDNewA P w) (gName i)) tz D σ H := fun f hf => q f hf
/-- a dict of arrows that grows: known Ki, there H' -/
structure Cda (P : Program) (w : World) (Hm H : Hp) (f : Addr) (L : List (Addr × Arw)) (Ki H' : Hp) : Prop where
  s : Same Hm Ki
  i : Same Ki H'
  k : Same H H'
  fr : ∀ p, Ki p ≠ none → Hm p ≠ none ∨ H p = none
  n : Ki f = none
  at_ : H' f = some (DaO P w f L)
  ks : ∀ p ∈ L, Ki p.1 = some (.tup (arV p.2))
  nd : (L.map (·.2)).Nodup
theorem Cda.new {f : Addr} (hi : Same Hm H) (hf : H f = none) : Cda P w Hm H f [] Hm (upd H f (DaO P w f [])) := ⟨Same.refl _, same_mut hi (none_back hi hf), same_mut (Same.refl _) hf, fun _ h => .inl h, none_back hi hf, upd_same, fun p h => (by cases h), List.nodup_nil⟩
theorem Cda.ext {f : Addr} {L : List (Addr × Arw)} {Ki H' K6 H6 : Hp} (c : Cda P w Hm H f L Ki H') (x : Xt Ki H' K6 H6) : Cda P w Hm H f L K6 H6 := ⟨c.s.trans x.s, x.i, c.k.trans x.k, fun p h => by
  rcases x.f p h with z | z
  · exact c.fr p z
  · exact .inr (none_back c.k z), none_of x c.n c.at_, x.k _ _ c.at_, fun p h => x.s _ _ (c.ks p h), c.nd⟩
theorem Cda.put {f b : Addr} {L : List (Addr × Arw)} {Ki H' : Hp} {t : Arw} (c : Cda P w Hm H f L Ki H') (hf : H f = none) (hb : Ki b = some (.tup (arV t))) : Cda P w Hm H f (putL L b t) Ki (upd H' f (DaO P w f (putL L b t))) := ⟨c.s, same_mut c.i c.n, fun b o e => by
  rw [upd_ne (ne_of_none e hf)]
  exact c.k b o e, c.fr, c.n, upd_same, putL_all c.ks hb, by
  rw [putL_snd]
  exact nd_insA c.nd⟩
/-- found[arrow] = True -/
theorem s_dputA {f : Addr} {L : List (Addr × Arw)} {Ki Hx : Hp} {i : Nat} {P1 : Arw → Prop} (hv : σ[i]? = some (some (.ref f))) (c : Cda P w Hm H f L Ki Hx) (hf : H f = none) (h : Ev te σ Ki (rE rAX P1) ()) (hz : L.length < 16000000)
    (k : ∀ L' t K1 H1, P1 t → L'.map (·.2) = insA (L.map (·.2)) t → Cda P w Hm H f L' K1 H1 → Same Ki K1 → D.nx σ H1) : sDPutA P w (tVar i) te (tC (.bl true)) D σ Hx :=
  ⟨.ref f, hv, h Hx c.i _ fun v K1 H1 x ⟨t, ⟨b, e, hb⟩, pt⟩ => by
    have c1 := c.ext x
    exact ⟨f, L, b, t, rfl, c1.at_, e, x.i _ _ hb, fun p hp => x.i _ _ (c1.ks p hp), sz16' hz, k _ t K1 _ pt putL_snd (c1.put hf hb) x.s⟩⟩
theorem refs_A {H : Hp} {K : PySem.W.Frag} : ∀ {L : List (Addr × Arw)}, (∀ p ∈ L, H p.1 = some (.tup (arV p.2))) → Paired ((rA K).rel H) (L.map fun p => V.ref p.1) (L.map (·.2))
  | [], _ => .nil
  | p :: L, h => .cons ⟨p.1, arV p.2, rfl, .inl (.inl (h p List.mem_cons_self)), any_refl _⟩ (refs_A fun q hq => h q (List.mem_cons_of_mem _ hq))
/-- a dict of arrows that is known -/
def rDA (P : Program) (w : World) : Rp (List Arw) := ⟨fun H v ts => ∃ d L, v = .ref d ∧ H d = some (DaO P w d L) ∧ L.map (·.2) = ts ∧ ∀ p ∈ L, H p.1 = some (.tup (arV p.2)), fun s ⟨d, L, e, h, m, k⟩ => ⟨d, L, e, s _ _ h, m, fun p hp => s _ _ (k p hp)⟩⟩
theorem Cda.done {f : Addr} {L : List (Addr × Arw)} {Ki H' : Hp} (c : Cda P w Hm H f L Ki H') (hf : H f = none) : Xt Hm H (upd Ki f (DaO P w f L)) H' ∧ (rDA P w).rel (upd Ki f (DaO P w f L)) (.ref f) (L.map (·.2)) := by
  have kn : ∀ b o, Ki b = some o → upd Ki f (DaO P w f L) b = some o := fun b o e => by
    rw [upd_ne (ne_of_none e c.n)]
    exact e
  refine ⟨⟨fun b o e => kn b o (c.s b o e), fun b o e => ?_, c.k, fun p h => ?_⟩, f, L, rfl, upd_same, rfl, fun p hp => kn _ _ (c.ks p hp)⟩
  · by_cases hb : b = f
    · subst hb
      rw [upd_same] at e
      rw [← e]
      exact c.at_
    · rw [upd_ne hb] at e
      exact c.i b o e
  · by_cases hb : p = f
    · subst hb
      exact .inr hf
    · rw [upd_ne hb] at h
      exact c.fr p h
/-- list(d) -/
theorem ev_listDA {K : PySem.W.Frag} {ts : List Arw} (h : Ev te σ Hm (rDA P w) ts) : Ev (tCB (rListDA P w) (tCons te tNil)) σ Hm (rM (rA K)) ts := fun H1 hi Q q => h H1 hi _ fun v K2 H2 x2 ⟨d, L, e, hd, m, hk⟩ =>
  ⟨d, L, by rw [e], x2.i _ _ hd, fun p np => q (.ref p) _ _ (x2.trans (Xt.new x2.i np)) ⟨p, _, rfl, upd_same, by
    rw [← m]
    exact refs_A fun z hz => by
      rw [upd_ne (ne_of_none (x2.i _ _ (hk z hz)) np)]
      exact hk z hz⟩⟩
/-- (arrow, True) -/
def rPA (K : PySem.W.Frag) : Rp Arw := ⟨fun H v t => ∃ p b, v = .ref p ∧ SqT K H p [.ref b, .bl true] ∧ H b = some (.tup (arV t)), fun s ⟨p, b, e, h, k⟩ => ⟨p, b, e, seqT_mono s h, s _ _ k⟩⟩
theorem ev_pairA {K : PySem.W.Frag} {ta tb : TE} {a b : Int} {l : T8} (h1 : Ev ta σ Hm rI a) (h2 : Ev te σ Hm rS l) (h3 : Ev tb σ Hm rI b) : Ev (tTup (tCons (tTup (tCons ta (tCons te (tCons tb tNil)))) (tCons (tC (.bl true)) tNil))) σ Hm (rPA K) (a, l, b) := fun H1 hi Q q =>
  ea_cons (ev_arwX (h1.some_ (P := fun x => x = a) rfl) (h2.some_ (P := fun x => x = l) rfl) (h3.some_ (P := fun x => x = b) rfl)) (ea_cons (ev_b (b := true)) ea_nil) H1 hi _ fun vs K2 H2 x2 ⟨v, ws, ev, ⟨⟨a', l', b'⟩, ⟨c, e, hc⟩, e1, e2, e3⟩, v2, ws2, ev2, r2, ev3⟩ => by
    dsimp only at e1 e2 e3
    subst e1 e2 e3
    have ev3 : ws2 = [] := ev3
    have r2 : v2 = .bl true := r2
    rw [ev, ev2, ev3, r2, e]
    refine ⟨by rw [sizeLine_eq]; show 2 ≤ 16777216; decide, fun p np => q (.ref p) _ _ (xt_ref x2 np) ⟨p, c, rfl, .inl (.inl upd_same), ?_⟩⟩
    rw [upd_ne (ne_of_none (x2.i _ _ hc) np)]
    exact hc
theorem pairs_L {K : PySem.W.Frag} {H : Hp} : ∀ {vs : List V} {ts : List Arw}, Paired ((rPA K).rel H) vs ts → ∃ (ps : List Addr) (L : List (Addr × Arw)), vs = ps.map V.ref ∧ L.map (·.2) = ts ∧ Paired (fun p (z : Addr × Arw) => ∃ v, SqT K H p [V.ref z.1, v]) ps L ∧ ∀ z ∈ L, H z.1 = some (.tup (arV z.2))
  | _, _, .nil => ⟨[], [], rfl, rfl, .nil, fun _ h => (by cases h)⟩
  | _, t :: _, .cons ⟨p, b, e, hS, hb⟩ r => by
    obtain ⟨ps, L, e1, e2, e3, e4⟩ := pairs_L r
    refine ⟨p :: ps, (b, t) :: L, by rw [e, e1] <;> rfl, by rw [List.map_cons, e2], .cons ⟨_, hS⟩ e3, fun z hz => ?_⟩
    rcases List.mem_cons.mp hz with rfl | hz
    · exact hb
    · exact e4 z hz
/-- dict(xs) -/
theorem ev_dictPA {K : PySem.W.Frag} {ts : List Arw} (h : Ev te σ Hm (rM (rPA K)) ts) (nd : ts.Nodup) : Ev (tCB (rDictPA K P w) (tCons te tNil)) σ Hm (rDA P w) ts := fun H1 hi Q q => h H1 hi _ fun v K2 H2 x2 ⟨a, vs, e, ha, hP⟩ => by
  obtain ⟨ps, L, e1, e2, e3, e4⟩ := pairs_L hP
  refine ⟨a, ps, L, by rw [e], .inl (.inl (by rw [← e1]; exact x2.i _ _ ha)), ?_, fun z hz => x2.i _ _ (e4 z hz), by rw [e2]; exact nd, fun p np => q (.ref p) _ _ (x2.trans (Xt.new x2.i np)) ⟨p, L, rfl, upd_same, e2, fun z hz => ?_⟩⟩
  · have go : ∀ {ps : List Addr} {L : List (Addr × Arw)}, Paired (fun p (z : Addr × Arw) => ∃ v, SqT K K2 p [V.ref z.1, v]) ps L → Paired (fun p (z : Addr × Arw) => ∃ v, SqT K H2 p [V.ref z.1, v]) ps L := by
      intro ps L h
      induction h with
      | nil => exact .nil
      | cons h _ ih => exact .cons (let ⟨v, hv⟩ := h; ⟨v, seqT_mono x2.i hv⟩) ih
    exact go e3
  · rw [upd_ne (ne_of_none (x2.i _ _ (e4 z hz)) np)]
    exact e4 z hz
end
end NJ

set_option Elab.async false
set_option linter.all false
set_option maxRecDepth 100000
set_option maxHeartbeats 4000000
/-! Family B: a drawn web. -/
namespace NJ
open PySem PySem.Spec PyProof.Rows L2
/-- a web told by family B -/
structure PartP (n : Nat) (ar : List Arw) : Prop where
  t : ToldP n ar
  n4 : n ≤ 12
  a : ar.length ≤ 20
  lt : LtP [97, 98, 99] ar
def isPart (x : Int × List Arw) : Prop := ∃ n : Nat, x.1 = (n : Int) ∧ PartP n x.2
section
variable {P : Program} {w : World} {K : PySem.W.Frag} {mg : Str → Option Value} {base : Heap}
def isSg (l : T8) : Prop := l = [97, 98] ∨ l = [97, 98, 99]
theorem isSg.len {l : T8} (h : isSg l) : 0 < l.length ∧ l.length ≤ 3 := by
  rcases h with rfl | rfl <;> decide
theorem isSg.mem {l : T8} (h : isSg l) {c : Nat} (hc : c ∈ l) : c ∈ [97, 98, 99] ∧ lower c = true := by
  rcases h with rfl | rfl
  · simp at hc
    rcases hc with rfl | rfl <;> decide
  · simp at hc
    rcases hc with rfl | rfl | rfl <;> decide
theorem one_sg {l : T8} (h : isSg l) {x : T8} (hx : ∃ c ∈ l, x = [c]) : ∃ c, x = [c] ∧ c ∈ [97, 98, 99] ∧ lower c = true := by
  obtain ⟨c, hc, rfl⟩ := hx
  exact ⟨c, rfl, h.mem hc⟩
/-- the arrows drawn so far -/
structure PtI (n : Nat) (i : Nat) (ts : List Arw) : Prop where
  z : ts.length ≤ i
  ok : ∀ t ∈ ts, okAr n t
  lt : LtP [97, 98, 99] ts
  nd : ts.Nodup
theorem PtI.put {n i : Nat} {ts : List Arw} {t : Arw} (h : PtI n i ts) (a : 0 ≤ t.1 ∧ t.1 < (n : Int)) (b : 0 ≤ t.2.2 ∧ t.2.2 < (n : Int)) (c : ∃ c, t.2.1 = [c] ∧ c ∈ [97, 98, 99] ∧ lower c = true) : PtI n (i + 1) (insA ts t) := by
  obtain ⟨c, e, hc, lc⟩ := c
  refine ⟨Nat.le_trans insA_len (by have := h.z; omega), fun u hu => ?_, fun u hu => ?_, nd_insA h.nd⟩
  · rcases mem_insA.mp hu with hu | rfl
    · exact h.ok u hu
    · exact ⟨a, b, c, e, lc⟩
  · rcases mem_insA.mp hu with hu | rfl
    · exact h.lt u hu
    · exact ⟨c, hc, e⟩
def ringTo (n i : Nat) (ts : List Arw) : Prop := ∀ k, k < i → ∃ c, ((k : Int), c, (((k + 1) % n : Nat) : Int)) ∈ ts
theorem ringTo.ring {n : Nat} {ts : List Arw} (h : ringTo n n ts) : Ring n ts := ⟨nums n, List.Perm.refl _, fun k hk => by
  obtain ⟨c, hc⟩ := h k hk
  rw [nums_len]
  have e1 : (nums n).getD k 0 = (k : Int) := by rw [List.getD_eq_getElem?_getD, nums_get hk] <;> rfl
  have e2 : (nums n).getD ((k + 1) % n) 0 = (((k + 1) % n : Nat) : Int) := by rw [List.getD_eq_getElem?_getD, nums_get (Nat.mod_lt _ (by omega))] <;> rfl
  rw [e1, e2]
  exact ⟨c, hc⟩⟩
theorem part_of {n i : Nat} {ts : List Arw} (h : PtI n i ts) (hi : i ≤ 20) (r : ringTo n n ts) (n0 : 1 ≤ n) (n4 : n ≤ 12) : PartP n (srtA ts) := by
  have l0 : 1 ≤ ts.length := by
    obtain ⟨c, hc⟩ := r 0 (by omega)
    exact List.length_pos_of_mem hc
  have := h.z
  exact ⟨told_srt n0 (by omega) h.ok r.ring l0 (by omega) h.nd ⟨[97, 98, 99], by decide, h.lt⟩, n4, by rw [srtA_len]; omega, fun t ht => h.lt t (mem_srtA.mp ht)⟩
theorem part_free {l : T8} (h : isSg l) : PartP 1 (srtA (l.map fun c => ((0 : Int), [c], (0 : Int)))) := by
  have z := h.len
  refine part_of (i := 3) ⟨by rw [List.length_map]; omega, fun t ht => ?_, fun t ht => ?_, ?_⟩ (by decide) (fun k hk => ?_) (by decide) (by decide)
  · obtain ⟨c, hc, rfl⟩ := List.mem_map.mp ht
    exact ⟨⟨by simp, by simp⟩, ⟨by simp, by simp⟩, c, rfl, (h.mem hc).2⟩
  · obtain ⟨c, hc, rfl⟩ := List.mem_map.mp ht
    exact ⟨c, (h.mem hc).1, rfl⟩
  · rcases h with rfl | rfl <;> decide
  · have e : k = 0 := by omega
    subst e
    rcases h with rfl | rfl
    · exact ⟨[97], by decide⟩
    · exact ⟨[97], by decide⟩
/-- some sign of l, as a text -/
theorem ev_sgn {σ : L2.St} {Hm : Hp} {ta tb : TE} {cs : List Int} {l : T8} {E : XK} (h1 : Ev ta σ Hm rHand cs) (h2 : Ev tb σ Hm rS l) (m0 : 0 < l.length) (m1 : l.length ≤ 1000) : Ev (tCall (spSome K) [] E (tCons ta (tCons tb tNil))) σ Hm (rE rS (fun x => ∃ c ∈ l, x = [c])) () := fun H1 hi Q q =>
  ev_someS h1 h2 m0 m1 H1 hi Q fun v K2 H2 x2 ⟨c, r, hc⟩ => q v K2 H2 x2 ⟨[c], rs_of r, c, hc, rfl⟩
def spPart (K : PySem.W.Frag) : Sp := SpF (fun (x : List Int × Int) => a1 rHand x.1 (a1 rI x.2 a0)) (fun x => 0 < x.2 ∧ x.2 ≤ 10) (fun _ => rE (rTold K) isPart) (fun _ => ())
theorem ev_intBE {σ : L2.St} {Hm : Hp} {te : TE} (h : Ev te σ Hm (rE rB fun _ => True) ()) : Ev (tCB rInt1 (tCons te tNil)) σ Hm (rE rI (fun i => 0 ≤ i ∧ i ≤ 1)) () :=
  ev_cbE h fun b _ => ⟨if b then 1 else 0, by cases b <;> decide, rc_intB⟩
theorem eqE {σ : L2.St} {Hm : Hp} {ta tb : TE} {Pa : Int → Prop} {j : Int} (h1 : Ev ta σ Hm (rE rI Pa) ()) (h2 : Ev tb σ Hm rI j) : Ev (tOp rEq ta tb) σ Hm (rE rB fun _ => True) () :=
  ev_opE2 h1 h2 fun d _ => ⟨_, trivial, rv_eqI⟩
theorem sdraw {σ : L2.St} {Hm : Hp} {t : TE} {cs : List Int} (h : Ev t σ Hm rHand cs) {m : Int} {tb : TE} {E : XK} (h2 : Ev tb σ Hm rI m) (m0 : 0 < m) (m1 : m < 1073741824) : Ev (tCall (spDraw K) [] E (tCons t (tCons tb tNil))) σ Hm (rE rI fun i => 0 ≤ i ∧ i < m) () := (ev_draw h h2 m0 m1).imp fun _ h => h
theorem ok_law_web (T : Tx K mg) : Fk P w K mg base CX0 4 (He.ga K "_law_web") ["_law_hand_here", "_law_most"] (spPart K) := by
  refine k0_law_web T (spf_len fun _ => a1_len (a1_len a0_len)) (fun cdv A outer s H vs Q E hr h => ?_)
  refine ⟨_, (pss_cons (ps_set (i := 2) c_law_web.nd rfl (by first | exact Or.inl rfl | exact Or.inr rfl) (pe_ix ix_list (pe_lst (pa_cons pe_int (pa_cons pe_int (pa_cons pe_int (pa_cons pe_int (pa_cons pe_int pa_nil)))))) (pe_fk (ok_draw T) (hr.mono (by decide)) T.g_law_draw pass0 (pa_cons (pv 0) (pa_cons pe_int pa_nil))) (fun _ _ => rfl)))
  (pss_cons (ps_set (i := 3) c_law_web.nd rfl (by first | exact Or.inl rfl | exact Or.inr rfl) (pe_slice sl_str pe_str po_none (po_some (pe_op op_add pe_int (pe_callTy call_int1 (by rfl) T.n_int boot_int (pa_cons (pe_cmpR op_eq (pe_fk (ok_draw T) (hr.mono (by decide)) T.g_law_draw pass0 (pa_cons (pv 0) (pa_cons pe_int pa_nil))) pe_int (nomark _)) pa_nil))))))
  (pss_cons (ps_set (i := 4) c_law_web.nd rfl (by first | exact Or.inl rfl | exact Or.inr rfl) pe_dnewA)
  (pss_cons (ps_for PassesOwn.never rfl (pi_range1 (by rfl) T.n_range (pa_cons (pv 2) pa_nil)) (pg_name (i := 5) c_law_web.nd rfl (by first | exact Or.inl rfl | exact Or.inr rfl)) (pss_one (ps_dputA (hu_of hr) (pv 4) (pe_tup (pa_cons (pv 5) (pa_cons (pe_fk (ok_some T) (hr.mono (by decide)) T.g_law_some pass0 (pa_cons (pv 0) (pa_cons (pv 3) pa_nil))) (pa_cons (pe_op op_mod (pe_op op_add (pv 5) pe_int) (pv 2)) pa_nil)))) pe_bl rfl)))
  (pss_cons (ps_for PassesOwn.never rfl (pi_range1 (by rfl) T.n_range (pa_cons (pe_op op_add pe_int (pe_fk (ok_draw T) (hr.mono (by decide)) T.g_law_draw pass0 (pa_cons (pv 0) (pa_cons (pv 1) pa_nil)))) pa_nil)) (pg_name (i := 6) c_law_web.nd rfl (by first | exact Or.inl rfl | exact Or.inr rfl)) (pss_one (ps_dputA (hu_of hr) (pv 4) (pe_tup (pa_cons (pe_fk (ok_draw T) (hr.mono (by decide)) T.g_law_draw pass0 (pa_cons (pv 0) (pa_cons (pv 2) pa_nil))) (pa_cons (pe_fk (ok_some T) (hr.mono (by decide)) T.g_law_some pass0 (pa_cons (pv 0) (pa_cons (pv 3) pa_nil))) (pa_cons (pe_fk (ok_draw T) (hr.mono (by decide)) T.g_law_draw pass0 (pa_cons (pv 0) (pa_cons (pv 2) pa_nil))) pa_nil)))) pe_bl rfl)))
  (pss_cons (ps_if (pt_cmpR op_eq (pe_fk (ok_draw T) (hr.mono (by decide)) T.g_law_draw pass0 (pa_cons (pv 0) (pa_cons pe_int pa_nil))) pe_int (nomark _)) (pss_cons (ps_set (i := 2) c_law_web.nd rfl (by first | exact Or.inl rfl | exact Or.inr rfl) pe_int)
  (pss_one (ps_set (i := 4) c_law_web.nd rfl (by first | exact Or.inl rfl | exact Or.inr rfl) (pe_callTy (call_dictPA rfl (hu100 hr)) (by rfl) T.n_dict boot_dict (pa_cons (pe_lc (own := [("_law_sign", 7)]) rfl c_law_web.nd (pi_str (pv 3)) (blkOk_by (N := ["_law_hand_here", "_law_most", "_law_points", "_law_signs_here", "_law_found", "_law_point", "_law_turn", "_law_sign"]) (sc := defScope s_law_web) (by decide +kernel)) (fun _ _ _ _ _ => (pg_name (i := 7) c_law_web.nd rfl (by first | exact Or.inl rfl | exact Or.inr rfl))) (fun _ _ _ _ _ => pts_nil) (fun _ _ _ _ _ => (pe_tup (pa_cons (pe_tup (pa_cons pe_int (pa_cons (pv 7) (pa_cons pe_int pa_nil)))) (pa_cons pe_bl pa_nil))))) pa_nil))))) pss_nil)
  (pss_one (ps_ret (pe_tup (pa_cons (pv 2) (pa_cons (pe_callTy call_tuple_of (by rfl) T.n_tuple boot_tuple (pa_cons (pe_callB (cr_sortD (hu100 hr)) (by rfl) T.n_sorted boot_sorted (pa_cons (pe_callTy (call_listDA rfl) (by rfl) T.n_list boot_list (pa_cons (pv 4) pa_nil)) pa_nil)) pa_nil)) pa_nil))))))))))), ?_⟩
  obtain ⟨⟨cs, mo⟩, Hm, ⟨m0, m1⟩, ⟨v1, ws, rfl, r1, v2, ws2, rfl, r2, rfl⟩, hi, q⟩ := h
  cases r2
  dsimp only at m0 m1 r1 q
  have hand : ∀ {σ : L2.St} {K' : Hp}, Same Hm K' → σ[0]? = some (some v1) → Ev (tVar 0) σ K' rHand cs := fun s e => ev_v e (rHand.mono s r1)
  refine q_set (ev_opE (T := rI) (P2 := fun i : Int => 1 ≤ i ∧ i ≤ 4) (ev_lst (K := K) (R := rI) (ds := [1, 1, 2, 3, 4]) (ea_cons ev_i (ea_cons ev_i (ea_cons ev_i (ea_cons ev_i (ea_cons ev_i ea_nil))))) (by decide)) (ev_draw (hand (Same.refl _) rfl) ev_i (by decide) (by decide)) fun e ⟨e0, e1⟩ => ?_) hi fun u2 K1 H1 x1 ⟨p, e2, p0, p1⟩ => ?_
  · have hl : e.toNat < 5 := by omega
    have hm : ([1, 1, 2, 3, 4] : List Int)[e.toNat]? = some (([1, 1, 2, 3, 4] : List Int)[e.toNat]) := List.getElem?_eq_getElem (by simpa using hl)
    refine ⟨([1, 1, 2, 3, 4] : List Int)[e.toNat], ?_, rv_ixL (by omega) hm⟩
    have hx := List.getElem_mem (l := ([1, 1, 2, 3, 4] : List Int)) (n := e.toNat) (by simpa using hl)
    generalize ([1, 1, 2, 3, 4] : List Int)[e.toNat] = y at hx
    simp at hx
    omega
  obtain ⟨n, rfl⟩ : ∃ n : Nat, p = (n : Int) := ⟨p.toNat, by omega⟩
  cases e2
  refine q_set (ev_slST (P2 := isSg) (ev_s) (ev_opE (T := rI) (P2 := fun i : Int => i = 2 ∨ i = 3) ev_i (ev_intBE (eqE (ev_draw (hand x1.s rfl) ev_i (by decide) (by decide)) ev_i)) fun e ⟨e0, e1⟩ => ⟨2 + e, by omega, rv_i0⟩) (by decide) fun i hi => ?_) x1.i fun u3 K2 H2 x2 ⟨l, e3, sg⟩ => ?_
  · rcases hi with rfl | rfl
    · exact .inl (by decide)
    · exact .inr (by decide)
  cases e3
  have x12 := x1.trans x2
  have lz := sg.len
  refine q_newA fun f nf => ?_
  have c0 : Cda P w Hm H f [] K2 (upd H2 f (DaO P w f [])) := by
    have := (Cda.new (P := P) (w := w) x2.i nf)
    exact ⟨x12.s, this.i, x12.k.trans this.k, fun p h => x12.f p h, this.n, this.at_, this.ks, this.nd⟩
  have nfH : H f = none := none_back x12.k nf
  refine q_for (wk_rng (n := (n : Int)) (Hm := K2) (ea_cons (ev_v (R := rI) (d := (n : Int)) rfl rfl) ea_nil) (by omega) (by omega)) c0.i fun K3 H3 x3 => ?_
  have hn : (nums (n : Int).toNat).length = n := by rw [nums_len]; omega
  refine ⟨fun i σ' H' => ∃ (o5 : Option V) (L : List (Addr × Arw)) (Ki : Hp), σ' = [some v1, some (.int mo), some (.int (n : Int)), some (.str (tx l)), some (.ref f), o5, none, none] ∧ Cda P w Hm H f L Ki H' ∧ Same K3 Ki ∧ PtI n i (L.map (·.2)) ∧ ringTo n i (L.map (·.2)), ⟨_, [], K3, rfl, c0.ext x3, Same.refl _, ⟨Nat.le_refl _, fun t h => (by cases h), fun t h => (by cases h), List.nodup_nil⟩, fun k hk => by omega⟩, fun i σ' H' ⟨_, L, Ki, _, c, s, _⟩ => s.trans c.i, ?_, ?_⟩
  · rintro i d σ' H' v K4 H4 hd ⟨o5, L, Ki, rfl, c, sK, pi, rt⟩ x4 rv
    have il : i < n := by
      rw [← hn]
      exact (List.getElem?_eq_some_iff.mp hd).1
    have ed : d = (i : Int) := by
      rw [nums_get (by omega)] at hd
      exact (Option.some.inj hd).symm
    subst ed
    cases rv
    have x5 : Xt Ki H' (uni Ki K4) H4 := Xt.lift sK c.i x4
    have c5 := c.ext x5
    unfold gName
    dsimp only
    refine s_dputA (P1 := fun t => t.1 = (i : Int) ∧ (∃ c ∈ l, t.2.1 = [c]) ∧ t.2.2 = (((i + 1) % n : Nat) : Int)) rfl c5 nfH (ev_arwX (ev_some1 (ev_v (R := rI) (d := (i : Int)) rfl rfl)) (ev_sgn (hand c5.s rfl) (ev_v (R := rS) (d := l) rfl rfl) lz.1 (by omega)) (ev_some1 (Ev.is (ev_op (ev_op (ev_v (R := rI) (d := (i : Int)) rfl rfl) ev_i rv_i0) (ev_v (R := rI) (d := (n : Int)) rfl rfl) (rv_ic (by omega))) (by rw [Int.natCast_emod, Int.natCast_add] <;> rfl)))) (by have := pi.z; rw [List.length_map] at this; omega) fun L' t K6 H6 ⟨t1, t2, t3⟩ eL c6 s6 => ⟨_, L', K6, rfl, c6, (sK.trans x5.s).trans s6, ?_, ?_⟩
    · rw [eL]
      exact pi.put (by rw [t1]; omega) (by rw [t3]; have := Nat.mod_lt (i + 1) (show n > 0 by omega); omega) (one_sg sg t2)
    · rw [eL]
      intro k hk
      by_cases e : k = i
      · subst e
        refine ⟨t.2.1, mem_insA.mpr (.inr ?_)⟩
        rw [← t1, ← t3]
      · obtain ⟨ch, hc⟩ := rt k (by omega)
        exact ⟨ch, mem_insA.mpr (.inl hc)⟩
  rintro σ' H' ⟨o5, L, Ki, rfl, c, sK, pi, rt⟩
  rw [hn] at pi rt
  refine q_rngE (P := fun i => 1 ≤ i ∧ i ≤ 10) (ev_opE (T := rI) (P2 := fun i : Int => 1 ≤ i ∧ i ≤ 10) ev_i (ev_draw (hand c.s rfl) (ev_v (R := rI) (d := mo) rfl rfl) m0 (by omega)) fun e ⟨e0, e1⟩ => ⟨1 + e, by omega, rv_i0⟩) c.i fun j K5 H5 ⟨j0, j1⟩ x5 => ?_
  have c5 := c.ext x5
  refine q_for (wk_rngC (n := j) (Hm := K5) (by omega) (by omega)) c5.i fun K6 H6 x6 => ?_
  have hj : (nums j.toNat).length ≤ 10 := by rw [nums_len]; omega
  refine ⟨fun i σ' H' => ∃ (o6 : Option V) (L : List (Addr × Arw)) (Ki : Hp), σ' = [some v1, some (.int mo), some (.int (n : Int)), some (.str (tx l)), some (.ref f), o5, o6, none] ∧ Cda P w Hm H f L Ki H' ∧ Same K6 Ki ∧ PtI n (n + i) (L.map (·.2)) ∧ ringTo n n (L.map (·.2)), ⟨_, L, K6, rfl, c5.ext x6, Same.refl _, pi, rt⟩, fun i σ' H' ⟨_, L, Ki, _, c, s, _⟩ => s.trans c.i, ?_, ?_⟩
  · rintro i d σ' H' v K4 H4 hd ⟨o6, L, Ki, rfl, c, sK, pi, rt⟩ x4 rv
    have il : i < 10 := by
      have := (List.getElem?_eq_some_iff.mp hd).1
      omega
    have x5 : Xt Ki H' (uni Ki K4) H4 := Xt.lift sK c.i x4
    have c5 := c.ext x5
    unfold gName
    dsimp only
    refine s_dputA (P1 := fun t => (0 ≤ t.1 ∧ t.1 < (n : Int)) ∧ (∃ c ∈ l, t.2.1 = [c]) ∧ (0 ≤ t.2.2 ∧ t.2.2 < (n : Int))) rfl c5 nfH (ev_arwX (sdraw (hand c5.s rfl) (ev_v (R := rI) (d := (n : Int)) rfl rfl) (by omega) (by omega)) (ev_sgn (hand c5.s rfl) (ev_v (R := rS) (d := l) rfl rfl) lz.1 (by omega)) (sdraw (hand c5.s rfl) (ev_v (R := rI) (d := (n : Int)) rfl rfl) (by omega) (by omega))) (by have := pi.z; rw [List.length_map] at this; omega) fun L' t K7 H7 ⟨t1, t2, t3⟩ eL c6 s6 => ⟨_, L', K7, rfl, c6, (sK.trans x5.s).trans s6, ?_, ?_⟩
    · rw [eL]
      exact pi.put t1 t3 (one_sg sg t2)
    · rw [eL]
      intro k hk
      obtain ⟨ch, hc⟩ := rt k hk
      exact ⟨ch, mem_insA.mpr (.inl hc)⟩
  rintro σ' H' ⟨o6, L, Ki, rfl, c, sK, pi, rt⟩
  have pz := pi.z
  rw [List.length_map] at pz
  have fin : ∀ (n' : Nat) (ts : List Arw) {σ' : L2.St} {K1 H1 : Hp}, Xt Hm H K1 H1 → σ'[2]? = some (some (.int (n' : Int))) → Ev (tVar 4) σ' K1 (rDA P w) ts → ts.length ≤ 20 → PartP n' (srtA ts) → (tRet (tTup (tCons (tVar 2) (tCons (tCB (rTupOf K) (tCons (tCB (rSortD K) (tCons (tCB (rListDA P w) (tCons (tVar 4) tNil)) tNil)) tNil)) tNil)))) { nx := fun _ H' => Q .non H', rt := Q } σ' H1 :=
    fun n' ts σ' K1 H1 x h2 h4 lz pp => s_ret (ev_pair (K := K) (R := rI) (S := rT K (rA K)) (d := (n' : Int)) (e := srtA ts) (ea_cons (ev_v h2 rfl) (ea_cons (ev_cb (ea_cons (ev_cb (ea_cons (Ev.l (ev_listDA h4)) ea_nil) (rc_sortA (by omega))) ea_nil) rc_tupOfL) ea_nil))) x.i fun v K2 H2 x2 r => q v K2 H2 (x.trans x2) ⟨_, r, n', rfl, pp⟩
  refine q_whenN (P := fun _ => True) (en_test (eqE (ev_draw (hand c.s rfl) ev_i (by decide) (by decide)) ev_i)) c.i (fun _ K7 H7 x7 => ?_) (fun _ K7 H7 x7 => ?_)
  · obtain ⟨xd, _⟩ := (c.ext x7).done nfH
    refine q_set (ev_i (i := 1)) xd.i fun u8 K8 H8 x8 r8 => ?_
    cases r8
    refine s_set (ev_dictPA (ts := l.map fun c => ((0 : Int), [c], (0 : Int))) (ev_lcM (S := rPA K) (R := rC) (fun c => ((0 : Int), [c], (0 : Int))) (wk_str (ev_v (R := rS) (d := l) rfl rfl)) (by omega) fun c hc v K5 s5 r5 => ⟨_, tk_name, rfl, ev_pairA ev_i (ev_v (R := rS) (d := [c]) rfl r5) ev_i⟩) ?_) x8.i fun u9 K9 H9 x9 r9 => ?_
    · rcases sg with rfl | rfl <;> decide
    exact fin 1 _ ((xd.trans x8).trans x9) rfl (ev_v rfl r9) (by rw [List.length_map]; omega) (part_free sg)
  · obtain ⟨xd, rd⟩ := (c.ext x7).done nfH
    exact fin n _ xd rfl (ev_v rfl rd) (by rw [List.length_map]; omega) (part_of pi (by omega) rt (by omega) (by omega))
end
end NJ

set_option Elab.async false
set_option linter.all false
set_option maxRecDepth 100000
set_option maxHeartbeats 4000000
/-! Family B: the law's own walks, letters and stretches. -/
namespace NJ
open PySem PySem.Spec PyProof.Rows L2
def nxB (n : Nat) (ar : List Arw) (S : List Int) (c : Nat) : List Int := (nums n).filter fun g => (S.map fun o => decide ((o, [c], g) ∈ ar)).any id
def enB (n : Nat) (ar : List Arw) (l : T8) : List Int := l.foldl (nxB n ar) (nums n)
theorem enB_snoc (n : Nat) (ar : List Arw) (l : T8) (c : Nat) : enB n ar (l ++ [c]) = nxB n ar (enB n ar l) c := by
  unfold enB
  rw [List.foldl_append] <;> rfl
theorem mem_nxB {n : Nat} {ar : List Arw} {S : List Int} {c : Nat} {y : Int} : y ∈ nxB n ar S c ↔ y ∈ nums n ∧ ∃ x ∈ S, (x, [c], y) ∈ ar := by
  unfold nxB
  rw [List.mem_filter, List.any_map, List.any_eq_true]
  constructor
  · rintro ⟨h, x, hx, e⟩
    exact ⟨h, x, hx, of_decide_eq_true e⟩
  · rintro ⟨h, x, hx, e⟩
    exact ⟨h, x, hx, decide_eq_true e⟩
theorem enB_end {n : Nat} {ar : List Arw} (h : okW n ar) : ∀ (l : T8) {S T : List Int}, (∀ x, x ∈ S ↔ x ∈ T) → ∀ x, x ∈ l.foldl (nxB n ar) S ↔ x ∈ endF ar T l
  | [], _, _, e => e
  | c :: l, S, T, e => enB_end h l (S := nxB n ar S c) (T := nxF ar T [c]) fun y => by
    rw [mem_nxB, mem_nxF]
    constructor
    · rintro ⟨_, x, hx, m⟩
      exact ⟨x, (e x).mp hx, m⟩
    · rintro ⟨x, hx, m⟩
      exact ⟨mem_nums (h.2.2 _ m).2, x, (e x).mpr hx, m⟩
theorem enB_len {n : Nat} {ar : List Arw} : ∀ l : T8, (enB n ar l).length ≤ n := fun l => by
  induction l using snocRec with
  | nil => show (nums n).length ≤ n; rw [nums_len]; omega
  | snoc l c ih =>
    rw [enB_snoc]
    unfold nxB
    refine Nat.le_trans (List.length_filter_le _ _) ?_
    rw [nums_len]
    omega
theorem enB_str {n : Nat} {ar : List Arw} (h : okW n ar) (l : T8) : decide ((0 : Int) < ((enB n ar l).length : Int)) = strB n ar l := by
  have k := enB_end h l (S := nums n) (T := nums n) fun _ => Iff.rfl
  unfold strB
  have e1 : decide ((0 : Int) < ((enB n ar l).length : Int)) = !(enB n ar l).isEmpty := by cases enB n ar l <;> simp
  rw [e1, Bool.eq_iff_iff, Bool.not_eq_true', Bool.not_eq_true', List.isEmpty_eq_false_iff_exists_mem, List.isEmpty_eq_false_iff_exists_mem]
  exact ⟨fun ⟨x, hx⟩ => ⟨x, (k x).mp hx⟩, fun ⟨x, hx⟩ => ⟨x, (k x).mpr hx⟩⟩
theorem PartP.w {n : Nat} {ar : List Arw} (h : PartP n ar) : okW n ar := told_okW h.t
theorem PartP.low {n : Nat} {ar : List Arw} (h : PartP n ar) : ∀ u ∈ ar, lowA u := fun u hu => (h.t.ok u hu).low
def abc : T8 := (List.range 26).map fun i => 97 + i
def sgB (ar : List Arw) : T8 := abc.filter fun c => (ar.map fun t => decide (t.2.1 = [c])).any id
theorem mem_sgB {n : Nat} {ar : List Arw} (h : PartP n ar) {c : Nat} : c ∈ sgB ar ↔ ∃ t ∈ ar, t.2.1 = [c] := by
  unfold sgB
  rw [List.mem_filter, List.any_map, List.any_eq_true]
  constructor
  · rintro ⟨_, t, ht, e⟩
    exact ⟨t, ht, of_decide_eq_true e⟩
  · rintro ⟨t, ht, e⟩
    refine ⟨?_, t, ht, decide_eq_true e⟩
    obtain ⟨d, hd, e2⟩ := h.lt t ht
    rw [e] at e2
    cases e2
    unfold abc
    simp at hd
    rcases hd with rfl | rfl | rfl <;> decide
theorem sgB_low {n : Nat} {ar : List Arw} (h : PartP n ar) {c : Nat} (hc : c ∈ sgB ar) : lower c = true := by
  obtain ⟨t, ht, e⟩ := (mem_sgB h).mp hc
  exact h.low t ht c (by rw [e]; exact List.mem_singleton.mpr rfl)
theorem abc_asc : abc.Pairwise fun a b => a < b := by decide
theorem sgB_asc (ar : List Arw) : (sgB ar).Pairwise fun a b => a < b := abc_asc.filter _
theorem asc_nd {l : T8} (h : l.Pairwise fun a b => a < b) : l.Nodup := h.imp fun h => Nat.ne_of_lt h
theorem sgB_len {n : Nat} {ar : List Arw} (h : PartP n ar) : (sgB ar).length ≤ 3 := BX.nodup_sub (F := [97, 98, 99]) (asc_nd (sgB_asc ar)) fun c hc => by
  obtain ⟨t, ht, e⟩ := (mem_sgB h).mp hc
  obtain ⟨d, hd, e2⟩ := h.lt t ht
  rw [e] at e2
  cases e2
  exact hd
/-- longer stretches, all stretches of a length -/
def lgF (n : Nat) (ar : List Arw) (xs : List T8) : List T8 := xs.flatMap fun t => ((sgB ar).filter fun c => strB n ar (t ++ [c])).map fun c => t ++ [c]
def stB (n : Nat) (ar : List Arw) : Nat → List T8
  | 0 => [[]]
  | k + 1 => lgF n ar (stB n ar k)
theorem lgF_len {n : Nat} {ar : List Arw} (h : PartP n ar) (xs : List T8) : (lgF n ar xs).length ≤ 3 * xs.length := BX.flat_len _ 3 fun t _ => by
  rw [List.length_map]
  exact Nat.le_trans (List.length_filter_le _ _) (sgB_len h)
theorem mem_lgF {n : Nat} {ar : List Arw} {xs : List T8} {x : T8} : x ∈ lgF n ar xs ↔ ∃ t ∈ xs, ∃ c ∈ sgB ar, strB n ar (t ++ [c]) = true ∧ x = t ++ [c] := by
  unfold lgF
  rw [List.mem_flatMap]
  constructor
  · rintro ⟨t, ht, hx⟩
    obtain ⟨c, hc, rfl⟩ := List.mem_map.mp hx
    obtain ⟨h1, h2⟩ := List.mem_filter.mp hc
    exact ⟨t, ht, c, h1, h2, rfl⟩
  · rintro ⟨t, ht, c, h1, h2, rfl⟩
    exact ⟨t, ht, List.mem_map.mpr ⟨c, List.mem_filter.mpr ⟨h1, h2⟩, rfl⟩⟩
theorem stB_len {n : Nat} {ar : List Arw} (h : PartP n ar) : ∀ k, (stB n ar k).length ≤ 3 ^ k
  | 0 => Nat.le_refl _
  | k + 1 => by
    have := lgF_len h (stB n ar k)
    have := stB_len h k
    show (lgF n ar (stB n ar k)).length ≤ _
    rw [Nat.pow_succ]
    omega
theorem str_pre {n : Nat} {ar : List Arw} {a b : T8} (h : strB n ar (a ++ b) = true) : strB n ar a = true := by
  unfold strB at h ⊢
  rw [Bool.not_eq_true', List.isEmpty_eq_false_iff] at h ⊢
  intro e
  apply h
  have e2 : endF ar (nums n) (a ++ b) = endF ar (endF ar (nums n) a) b := by
    unfold endF
    rw [List.foldl_append]
  rw [e2, e, endF_nil]
theorem end_letter {n : Nat} {ar : List Arw} (h : PartP n ar) {l : T8} {c : Nat} (hs : strB n ar (l ++ [c]) = true) : c ∈ sgB ar := by
  unfold strB at hs
  rw [endF_snoc, Bool.not_eq_true', List.isEmpty_eq_false_iff_exists_mem] at hs
  obtain ⟨y, hy⟩ := hs
  obtain ⟨x, _, m⟩ := mem_nxF.mp hy
  exact (mem_sgB h).mpr ⟨_, m, rfl⟩
theorem str_nil {n : Nat} {ar : List Arw} (h : PartP n ar) : strB n ar [] = true := by
  have := h.t.n0
  unfold strB
  rw [Bool.not_eq_true', List.isEmpty_eq_false_iff_exists_mem]
  exact ⟨0, mem_nums (by omega)⟩
theorem mem_stB {n : Nat} {ar : List Arw} (h : PartP n ar) : ∀ (k : Nat) (x : T8), x ∈ stB n ar k ↔ x.length = k ∧ strB n ar x = true
  | 0, x => by
    show x ∈ [[]] ↔ _
    rw [List.mem_singleton]
    constructor
    · rintro rfl
      exact ⟨rfl, str_nil h⟩
    · rintro ⟨h1, _⟩
      exact List.length_eq_zero_iff.mp h1
  | k + 1, x => by
    show x ∈ lgF n ar (stB n ar k) ↔ _
    rw [mem_lgF]
    constructor
    · rintro ⟨t, ht, c, _, h2, rfl⟩
      exact ⟨by rw [List.length_append, ((mem_stB h k t).mp ht).1] <;> rfl, h2⟩
    · rintro ⟨h1, h2⟩
      have hx : x ≠ [] := fun e => by
        rw [e] at h1
        cases h1
      have e := (List.dropLast_concat_getLast hx).symm
      rw [e] at h2
      exact ⟨x.dropLast, (mem_stB h k _).mpr ⟨by rw [List.length_dropLast]; omega, str_pre h2⟩, x.getLast hx, end_letter h h2, h2, e⟩
theorem stB_low {n : Nat} {ar : List Arw} (h : PartP n ar) : ∀ (k : Nat), ∀ x ∈ stB n ar k, ∀ c ∈ x, c ∈ sgB ar
  | 0, x, hx, c, hc => by
    have : x = [] := List.mem_singleton.mp hx
    subst this
    cases hc
  | k + 1, x, hx, c, hc => by
    obtain ⟨t, ht, d, hd, _, rfl⟩ := mem_lgF.mp hx
    rcases List.mem_append.mp hc with hc | hc
    · exact stB_low h k t ht c hc
    · rw [List.mem_singleton] at hc
      exact hc ▸ hd
theorem lt_snoc (t : T8) {a b : Nat} (h : a < b) : t ++ [a] < t ++ [b] := by
  induction t with
  | nil => exact .rel h
  | cons c t ih => exact .cons ih
theorem lt_app {a b : T8} (h : a < b) (hl : a.length = b.length) : ∀ x y : T8, a ++ x < b ++ y := by
  intro x y
  induction h with
  | nil => simp at hl
  | rel h => exact .rel h
  | cons h ih => exact .cons (ih (by simpa using hl))
theorem stB_asc {n : Nat} {ar : List Arw} (h : PartP n ar) : ∀ k, (stB n ar k).Pairwise fun a b => a < b
  | 0 => List.pairwise_singleton _ _
  | k + 1 => by
    show (lgF n ar (stB n ar k)).Pairwise _
    unfold lgF
    have ih := stB_asc h k
    have hl : ∀ t ∈ stB n ar k, t.length = k := fun t ht => ((mem_stB h k t).mp ht).1
    generalize stB n ar k = xs at ih hl
    induction xs with
    | nil => exact .nil
    | cons t xs ih2 =>
      cases ih with
      | cons h1 h2 =>
        rw [List.flatMap_cons]
        refine List.pairwise_append.mpr ⟨?_, ih2 h2 (fun t ht => hl t (List.mem_cons_of_mem _ ht)), fun a ha b hb => ?_⟩
        · rw [List.pairwise_map]
          exact ((sgB_asc ar).filter _).imp fun h => lt_snoc t h
        · obtain ⟨c, _, rfl⟩ := List.mem_map.mp ha
          obtain ⟨u, hu, hb⟩ := List.mem_flatMap.mp hb
          obtain ⟨d, _, rfl⟩ := List.mem_map.mp hb
          exact lt_app (h1 u hu) (by rw [hl t List.mem_cons_self, hl u (List.mem_cons_of_mem _ hu)]) _ _
theorem ltT_nd {xs : List T8} (h : xs.Pairwise fun a b => a < b) : xs.Nodup := h.imp fun h e => by
  subst e
  exact List.lt_irrefl _ h
section
variable {P : Program} {w : World} {K : PySem.W.Frag} {mg : Str → Option Value} {base : Heap}
theorem ev_listRgN {σ : L2.St} {Hm : Hp} {te : TE} {n : Nat} (h : Ev te σ Hm rI (n : Int)) (h1 : n ≤ 1000) : Ev (tLstRg (tRg1 te)) σ Hm (rL K rI) (nums n) := fun H1 hi Q q => h H1 hi _ fun v K2 H2 x2 r => ⟨(n : Int), r, RgOk.of_le (by decide) (by omega) (by decide) (by omega), fun a na => q (.ref a) _ _ (xt_ref x2 na) ⟨a, rgV 0 n, rfl, .inl (.inl upd_same), by
  have e : rgV 0 (n : Int) = (nums n).map V.int := by
    unfold rgV nums
    rw [List.map_map, Int.sub_zero]
    refine List.map_congr_left fun i _ => ?_
    simp
  rw [e]
  exact pairedI _⟩⟩
def spLwEnds (K : PySem.W.Frag) : Sp := SpF (fun (x : (Nat × List Arw) × T8) => a1 (rTold K) ((x.1.1 : Int), x.1.2) (a1 rS x.2 a0)) (fun x => PartP x.1.1 x.1.2 ∧ lowT x.2 ∧ x.2.length ≤ 16000000) (fun _ => rL K rI) (fun x => enB x.1.1 x.1.2 x.2)
theorem ok_law_ends (T : Tx K mg) : Fk P w K mg base CX0 1 (He.ga K "_law_ends") ["_law_parts", "_law_text"] (spLwEnds K) := by
  refine k0_law_ends T (spf_len fun _ => a1_len (a1_len a0_len)) (fun cdv A outer s H vs Q E hr h => ?_)
  refine ⟨_, (pss_cons (ps_set (i := 2) c_law_ends.nd rfl (by first | exact Or.inl rfl | exact Or.inr rfl) (pe_listRg rfl (by rfl) T.n_list (prg_1 (by rfl) T.n_range (pe_ix ix_tup (pv 0) pe_int (fun _ _ => rfl)))))
  (pss_cons (ps_for PassesOwn.never rfl (pi_str (pv 1)) (pg_name (i := 3) c_law_ends.nd rfl (by first | exact Or.inl rfl | exact Or.inr rfl)) (pss_one (ps_set (i := 2) c_law_ends.nd rfl (by first | exact Or.inl rfl | exact Or.inr rfl) (pe_lc (tt := tTest (tCB (rAny K) (tCons (tLc (iList K (tVar 2)) (gName 5) tYes (tOp (rInT K) (tTup (tCons (tVar 5) (tCons (tVar 3) (tCons (tVar 4) tNil)))) (tOp (rIxT K) (tVar 0) (tC (.int 1)))) [5]) tNil))) (own := [("_law_goal", 4)]) rfl c_law_ends.nd (pi_range1 (by rfl) T.n_range (pa_cons (pe_ix ix_tup (pv 0) pe_int (fun _ _ => rfl)) pa_nil)) (blkOk_by (N := ["_law_parts", "_law_text", "_law_points", "_law_sign", "_law_goal", "_law_one"]) (sc := defScope s_law_ends) (by decide +kernel)) (fun _ _ _ _ _ => (pg_name (i := 4) c_law_ends.nd rfl (by first | exact Or.inl rfl | exact Or.inr rfl))) (fun _ _ _ _ _ => (pts_one (pt_val (pe_callB (cr_any rfl) (by rfl) T.n_any boot_any (pa_cons (pe_lc (own := [("_law_one", 5)]) rfl c_law_ends.nd (pi_list (pv 2)) (blkOk_by (N := ["_law_parts", "_law_text", "_law_points", "_law_sign", "_law_goal", "_law_one"]) (sc := (⟨.function, [(".0", .local), ("_law_goal", .cell), ("any", .globalImplicit), ("_law_parts", .cell), ("_law_points", .cell), ("_law_sign", .cell)], false, false, []⟩ : Scope)) (by decide +kernel)) (fun _ _ _ _ _ => (pg_name (i := 5) c_law_ends.nd rfl (by first | exact Or.inl rfl | exact Or.inr rfl))) (fun _ _ _ _ _ => pts_nil) (fun _ _ _ _ _ => (pe_cmpR (op_inT (hu65 hr)) (pe_tup (pa_cons (pv 5) (pa_cons (pv 3) (pa_cons (pv 4) pa_nil)))) (pe_ix ix_tup (pv 0) pe_int (fun _ _ => rfl)) (by rfl)))) pa_nil))))) (fun _ _ _ _ _ => (pv 4))))))
  (pss_one (ps_ret (pv 2))))), ?_⟩
  obtain ⟨⟨⟨n, ar⟩, l⟩, Hm, ⟨pp, low, hl⟩, ⟨v1, ws, rfl, r1, v2, ws2, rfl, r2, rfl⟩, hi, q⟩ := h
  cases r2
  dsimp only at pp low hl r1 q
  have n4 := pp.n4
  refine q_set (ev_listRgN (K := K) (ev_t0 (ev_v rfl r1)) (by omega)) hi fun u2 K1 H1 x1 r2 => ?_
  refine q_for (wk_str (ev_v (R := rS) (d := l) rfl rfl)) x1.i fun K2 H2 x2 => ?_
  refine ⟨fun i σ' H' => ∃ (o3 : Option V) (u : V) (K' : Hp), σ' = [some v1, some (V.str (tx l)), some u, o3, none, none] ∧ Xt K2 H2 K' H' ∧ (rL K rI).rel K' u (enB n ar (l.take i)), ⟨_, u2, K2, rfl, Xt.refl x2.i, (rL K rI).mono x2.s r2⟩, fun i σ' H' ⟨_, _, K', _, x, _⟩ => x.s.trans x.i, ?_, ?_⟩
  · rintro i c σ' H' v K4 H4 hc ⟨o3, u, K', rfl, x', ru⟩ x4 rv
    have x5 : Xt K' H' (uni K' K4) H4 := Xt.lift x'.s x'.i x4
    have x6 := x'.trans x5
    cases rv
    unfold gName
    dsimp only
    have s6 : Same Hm (uni K' K4) := (x1.s.trans x2.s).trans x6.s
    have ru5 := (rL K rI).mono x5.s ru
    have lc : lower c = true := low c (List.mem_of_getElem? hc)
    have el := enB_len (n := n) (ar := ar) (l.take i)
    refine s_set (i := 2) (Ev.is (ev_lc (K := K) (S := rI) (R := rI) (fun g => ((enB n ar (l.take i)).map fun o => decide ((o, [c], g) ∈ ar)).any id) id (wk_rng (ea_cons (ev_t0 (ev_v rfl ((rTold K).mono s6 r1))) ea_nil) (by omega) (by omega)) (by rw [nums_len]; omega) fun g hg v K7 s7 r7 => ?_) (by rw [List.map_id, Int.toNat_natCast] <;> rfl)) x5.i fun w K8 H8 x8 r8 => ?_
    · cases r7
      refine ⟨_, tk_name, rfl, et_test (ev_cb (ea_cons (ev_lc0 (K := K) (S := rB) (R := rI) (fun o => decide ((o, [c], g) ∈ ar)) (wk_list (ev_v rfl ((rL K rI).mono s7 ru5))) (by omega) fun o ho v K9 s9 r9 => ⟨_, tk_name, rfl, ev_op (R := rA K) (ev_arw (ev_v (R := rI) (d := o) rfl r9) (ev_v (R := rS) (d := [c]) rfl rfl) (ev_v (R := rI) (d := g) rfl rfl)) (ev_t1 (ev_v rfl ((rTold K).mono (s6.trans (s7.trans s9)) r1))) (rv_inAT (fun d hd => ?_) pp.low)⟩) ea_nil) rc_any), fun _ => ev_v rfl rfl⟩
      rw [List.mem_singleton] at hd
      rw [hd]
      exact lc
    · refine ⟨_, w, K8, rfl, x6.trans x8, ?_⟩
      have et : l.take (i + 1) = l.take i ++ [c] := by rw [List.take_add_one, hc] <;> rfl
      rw [et, enB_snoc]
      exact r8
  · rintro σ' H' ⟨o3, u, K', rfl, x', ru⟩
    rw [List.take_length] at ru
    exact s_ret (ev_v rfl ru) x'.i fun w K8 H8 x8 r8 => q w K8 H8 (((x1.trans x2).trans x').trans x8) r8
/-- len(_law_ends(parts, text)) > 0 -/
theorem ev_there {σ : L2.St} {Hm : Hp} {ta tb : TE} {n : Nat} {ar : List Arw} {l : T8} {E : XK} (pp : PartP n ar) (low : lowT l) (hl : l.length ≤ 16000000) (h1 : Ev ta σ Hm (rTold K) ((n : Int), ar)) (h2 : Ev tb σ Hm rS l) : Ev (tOp (rI0 fun i j => .bl (decide (j < i))) (tCB (rLen K) (tCons (tCall (spLwEnds K) [] E (tCons ta (tCons tb tNil))) tNil)) (tC (.int 0))) σ Hm rB (strB n ar l) :=
  Ev.is (ev_op (ev_cb (ea_cons (ev_call (x := ((n, ar), l)) ⟨pp, low, hl⟩ (ea_cons h1 (ea_cons h2 ea_nil))) ea_nil) rc_lenL) ev_i rv_b0) (enB_str pp.w l)
theorem rv_A1 {t : Arw} : Rv (rIxT K) (rA K) t rI 1 rS t.2.1 := rv_now fun Hm H1 hx x y r ry => by
  obtain ⟨a, e, hS⟩ := rA_at r
  exact ⟨.str (tx t.2.1), rfl, fun Q q => ⟨a, arV t, 1, _, e, ry, seqT_mono hx hS, atI_nat (j := 1) rfl, q⟩⟩
theorem rv_A2 {t : Arw} : Rv (rIxT K) (rA K) t rI 2 rI t.2.2 := rv_now fun Hm H1 hx x y r ry => by
  obtain ⟨a, e, hS⟩ := rA_at r
  exact ⟨.int t.2.2, rfl, fun Q q => ⟨a, arV t, 2, _, e, ry, seqT_mono hx hS, atI_nat (j := 2) rfl, q⟩⟩
def spSigns (K : PySem.W.Frag) : Sp := SpF (fun (x : Nat × List Arw) => a1 (rTold K) ((x.1 : Int), x.2) a0) (fun x => PartP x.1 x.2) (fun _ => rL K rS) (fun x => sgl (sgB x.2))
theorem ok_signs (T : Tx K mg) : Fk P w K mg base CX0 1 (He.ga K "_law_signs") ["_law_parts"] (spSigns K) := by
  refine k0_law_signs T (spf_len fun _ => a1_len a0_len) (fun cdv A outer s H vs Q E hr h => ?_)
  refine ⟨_, (pss_one (ps_ret (pe_lc (tt := tTest (tCB (rAny K) (tCons (tLc (iTup K (tOp (rIxT K) (tVar 0) (tC (.int 1)))) (gName 2) tYes (tOp rEq (tOp (rIxT K) (tVar 2) (tC (.int 1))) (tVar 1)) [2]) tNil))) (own := [("_law_sign", 1)]) rfl c_law_signs.nd (pi_str pe_str) (blkOk_by (N := ["_law_parts", "_law_sign", "_law_arrow"]) (sc := defScope s_law_signs) (by decide +kernel)) (fun _ _ _ _ _ => (pg_name (i := 1) c_law_signs.nd rfl (by first | exact Or.inl rfl | exact Or.inr rfl))) (fun _ _ _ _ _ => (pts_one (pt_val (pe_callB (cr_any rfl) (by rfl) T.n_any boot_any (pa_cons (pe_lc (own := [("_law_arrow", 2)]) rfl c_law_signs.nd (pi_tup (pe_ix ix_tup (pv 0) pe_int (fun _ _ => rfl))) (blkOk_by (N := ["_law_parts", "_law_sign", "_law_arrow"]) (sc := (⟨.function, [(".0", .local), ("_law_sign", .cell), ("any", .globalImplicit), ("_law_parts", .cell)], false, false, []⟩ : Scope)) (by decide +kernel)) (fun _ _ _ _ _ => (pg_name (i := 2) c_law_signs.nd rfl (by first | exact Or.inl rfl | exact Or.inr rfl))) (fun _ _ _ _ _ => pts_nil) (fun _ _ _ _ _ => (pe_cmpR op_eq (pe_ix ix_tup (pv 2) pe_int (fun _ _ => rfl)) (pv 1) (nomark _)))) pa_nil))))) (fun _ _ _ _ _ => (pv 1))))), ?_⟩
  obtain ⟨⟨n, ar⟩, Hm, pp, ⟨v1, ws, rfl, r1, rfl⟩, hi, q⟩ := h
  dsimp only at pp r1 q
  have az := pp.a
  refine s_ret (ev_lc (K := K) (S := rS) (R := rC) (fun c : Nat => (ar.map fun t : Arw => decide (t.2.1 = [c])).any id) (fun c : Nat => [c]) (wk_str (xs := abc) (ev_s)) (by decide) fun c hc v K3 s3 r3 => ?_) hi q
  cases r3
  exact ⟨_, tk_name, rfl, et_test (ev_cb (ea_cons (ev_lc0 (K := K) (S := rB) (R := rA K) (fun t : Arw => decide (t.2.1 = [c])) (wk_tup (ev_t1 (ev_v rfl ((rTold K).mono s3 r1)))) (by omega) fun t ht v K5 s5 r5 => ⟨_, tk_name, rfl, ev_op (ev_op (ev_v (R := rA K) (d := t) rfl r5) ev_i rv_A1) (ev_v (R := rS) (d := [c]) rfl rfl) rv_eqS⟩) ea_nil) rc_any), fun _ => ev_v rfl rfl⟩
theorem ev_signs {σ : L2.St} {Hm : Hp} {ta : TE} {n : Nat} {ar : List Arw} {E : XK} (pp : PartP n ar) (h1 : Ev ta σ Hm (rTold K) ((n : Int), ar)) : Ev (tCall (spSigns K) [] E (tCons ta tNil)) σ Hm (rL K rS) (sgl (sgB ar)) :=
  ev_call (x := (n, ar)) pp (ea_cons h1 ea_nil)
def okTs (ar : List Arw) (xs : List T8) : Prop := xs.length ≤ 100000 ∧ ∀ x ∈ xs, x.length ≤ 1000 ∧ ∀ c ∈ x, c ∈ sgB ar
def spLonger (K : PySem.W.Frag) : Sp := SpF (fun (x : (Nat × List Arw) × List T8) => a1 (rTold K) ((x.1.1 : Int), x.1.2) (a1 (rL K rS) x.2 a0)) (fun x => PartP x.1.1 x.1.2 ∧ okTs x.1.2 x.2) (fun _ => rM rS) (fun x => lgF x.1.1 x.1.2 x.2)
theorem lgF_snoc (n : Nat) (ar : List Arw) (xs : List T8) (t : T8) : lgF n ar (xs ++ [t]) = lgF n ar xs ++ ((sgl (sgB ar)).filter fun s => strB n ar (t ++ s)).map fun s => t ++ s := by
  unfold lgF
  rw [List.flatMap_append]
  congr 1
  unfold sgl
  rw [List.flatMap_cons, List.flatMap_nil, List.append_nil, List.filter_map, List.map_map]
  rfl
theorem ok_longer (T : Tx K mg) : Fk P w K mg base CX0 2 (He.ga K "_law_longer") ["_law_parts", "_law_texts"] (spLonger K) := by
  refine k0_law_longer T (spf_len fun _ => a1_len (a1_len a0_len)) (fun cdv A outer s H vs Q E hr h => ?_)
  refine ⟨_, (pss_cons (ps_set (i := 2) c_law_longer.nd rfl (by first | exact Or.inl rfl | exact Or.inr rfl) (pe_lst pa_nil))
  (pss_cons (ps_for PassesOwn.never rfl (pi_list (pv 1)) (pg_name (i := 3) c_law_longer.nd rfl (by first | exact Or.inl rfl | exact Or.inr rfl)) (pss_one (ps_expr (pe_bm PySem.F.plainAttrs_list PySem.F.slot_list_extend PySem.F.type_list_extend mt_extend (pv 2) (pa_cons (pe_lc (own := [("_law_sign", 4)]) rfl c_law_longer.nd (pi_list (pe_fk (ok_signs T) (hr.mono (by decide)) T.g_law_signs pass0 (pa_cons (pv 0) pa_nil))) (blkOk_by (N := ["_law_parts", "_law_texts", "_law_found", "_law_text", "_law_sign"]) (sc := defScope s_law_longer) (by decide +kernel)) (fun _ _ _ _ _ => (pg_name (i := 4) c_law_longer.nd rfl (by first | exact Or.inl rfl | exact Or.inr rfl))) (fun _ _ _ _ _ => (pts_one (pt_cmpR op_gt (pe_callB (r := rLen K) call_len (by rfl) T.n_len boot_len (pa_cons (pe_fk (ok_law_ends T) (hr.mono (by decide)) T.g_law_ends pass0 (pa_cons (pv 0) (pa_cons (pe_op op_add_str (pv 3) (pv 4)) pa_nil))) pa_nil)) pe_int (nomark _)))) (fun _ _ _ _ _ => (pe_op op_add_str (pv 3) (pv 4)))) pa_nil)))))
  (pss_one (ps_ret (pv 2))))), ?_⟩
  obtain ⟨⟨⟨n, ar⟩, xs⟩, Hm, ⟨pp, xz, xo⟩, ⟨v1, ws, rfl, r1, v2, ws2, rfl, r2, rfl⟩, hi, q⟩ := h
  dsimp only at pp xz xo r1 r2 q
  refine q_new fun f nf => ?_
  have c0 := Ci.new (S := rS) hi nf
  refine q_forC (Y := fun i => lgF n ar (xs.take i)) (fun σ' => ∃ o3, σ' = [some v1, some v2, some (.ref f), o3, none]) (wk_list (ev_v rfl r2)) c0 ⟨none, rfl⟩ ?step ?done
  case step =>
    rintro i t σ' Ki us H' u ht ⟨o3, rfl⟩ c sa ru N hN
    have tm := List.mem_of_getElem? ht
    obtain ⟨tl, tc⟩ := xo t tm
    have y := lgF_len pp (xs.take i)
    have yt : (xs.take i).length ≤ xs.length := by rw [List.length_take]; exact Nat.min_le_right _ _
    cases ru
    unfold gName
    dsimp only
    have sl := sgB_len pp
    have e : lgF n ar (xs.take (i + 1)) = lgF n ar (xs.take i) ++ ((sgl (sgB ar)).filter fun s => strB n ar (t ++ s)).map fun s => t ++ s := by
      rw [List.take_add_one, ht]
      exact lgF_snoc n ar _ t
    refine s_extC (i := 2) rfl c nf (ev_lcO (R := rS) (S := rS) (fun s => strB n ar (t ++ s)) (fun s => t ++ s) (wk_list (ev_signs pp (ev_v rfl ((rTold K).mono sa r1)))) (by unfold sgl; rw [List.length_map]; omega) fun s hs v K5 s5 r5 => ?_) ?_ fun K6 us6 H6 c6 s6 => hN _ K6 us6 H6 ⟨_, rfl⟩ (by rw [e]; exact c6) s6
    · obtain ⟨d, hd, rfl⟩ := List.mem_map.mp hs
      have cat : ∀ {σ' : L2.St} {K' : Hp}, σ'[3]? = some (some (.str (tx t))) → σ'[4]? = some (some v) → Ev (tOp rAddS (tVar 3) (tVar 4)) σ' K' rS (t ++ [d]) := fun e3 e4 => ev_op (ev_v (R := rS) (d := t) e3 rfl) (ev_v (R := rS) (d := [d]) e4 r5) (rv_addS (by simp; omega))
      exact ⟨_, tk_name, rfl, et_test (ev_there pp (low_app (fun c hc => sgB_low pp (tc c hc)) (fun c hc => by rw [List.mem_singleton] at hc; rw [hc]; exact sgB_low pp hd)) (by simp; omega) (ev_v rfl ((rTold K).mono (sa.trans s5) r1)) (cat rfl rfl)), fun _ => cat rfl rfl⟩
    · rw [List.length_map]
      have h1 : ((sgl (sgB ar)).filter fun s => strB n ar (t ++ s)).length ≤ 3 := Nat.le_trans (List.length_filter_le _ _) (by unfold sgl; rw [List.length_map]; exact sl)
      exact Nat.le_trans (Nat.add_le_add y h1) (by omega)
  case done =>
    rintro σ' Ki us H' ⟨o3, rfl⟩ c sa
    rw [List.take_length] at c
    obtain ⟨xd, rd⟩ := c.done nf
    exact s_ret (ev_v rfl rd) xd.i fun v K5 H5 x5 r5 => q v K5 H5 (xd.trans x5) r5
theorem okTs_st {n : Nat} {ar : List Arw} (pp : PartP n ar) {k : Nat} (hk : k ≤ 10) : okTs ar (stB n ar k) := by
  refine ⟨?_, fun x hx => ⟨by rw [((mem_stB pp k x).mp hx).1]; omega, stB_low pp k x hx⟩⟩
  have h1 := stB_len pp k
  have h2 : 3 ^ k ≤ 3 ^ 10 := Nat.pow_le_pow_right (by decide) hk
  have h3 : 3 ^ 10 = 59049 := by decide
  omega
def spStrs (K : PySem.W.Frag) : Sp := SpF (fun (x : (Nat × List Arw) × Nat) => a1 (rTold K) ((x.1.1 : Int), x.1.2) (a1 rI (x.2 : Int) a0)) (fun x => PartP x.1.1 x.1.2 ∧ x.2 ≤ 10) (fun _ => rM rS) (fun x => stB x.1.1 x.1.2 x.2)
theorem ok_strs (T : Tx K mg) : Fk P w K mg base CX0 3 (He.ga K "_law_stretches") ["_law_parts", "_law_length"] (spStrs K) := by
  refine k0_law_stretches T (spf_len fun _ => a1_len (a1_len a0_len)) (fun cdv A outer s H vs Q E hr h => ?_)
  refine ⟨_, (pss_cons (ps_set (i := 2) c_law_stretches.nd rfl (by first | exact Or.inl rfl | exact Or.inr rfl) (pe_lst (pa_cons pe_str pa_nil)))
  (pss_cons (ps_for PassesOwn.never rfl (pi_range1 (by rfl) T.n_range (pa_cons (pv 1) pa_nil)) (pg_name (i := 3) c_law_stretches.nd rfl (by first | exact Or.inl rfl | exact Or.inr rfl)) (pss_one (ps_set (i := 2) c_law_stretches.nd rfl (by first | exact Or.inl rfl | exact Or.inr rfl) (pe_fk (ok_longer T) (hr.mono (by decide)) T.g_law_longer pass0 (pa_cons (pv 0) (pa_cons (pv 2) pa_nil))))))
  (pss_one (ps_ret (pv 2))))), ?_⟩
  obtain ⟨⟨⟨n, ar⟩, k⟩, Hm, ⟨pp, hk⟩, ⟨v1, ws, rfl, r1, v2, ws2, rfl, r2, rfl⟩, hi, q⟩ := h
  cases r2
  dsimp only at pp hk r1 q
  refine q_set (ev_lstM (R := rS) (ds := [[]]) (ea_cons (Ev.is ev_s (by rfl)) ea_nil) (by decide)) hi fun u2 K1 H1 x1 r2 => ?_
  refine q_for (wk_rng (n := (k : Int)) (Hm := K1) (ea_cons (ev_v (R := rI) (d := (k : Int)) rfl rfl) ea_nil) (by omega) (by omega)) x1.i fun K2 H2 x2 => ?_
  have hn : (nums (k : Int).toNat).length = k := by rw [nums_len]; omega
  refine ⟨fun i σ' H' => ∃ (o3 : Option V) (u : V) (K' : Hp), σ' = [some v1, some (V.int (k : Int)), some u, o3] ∧ Xt K2 H2 K' H' ∧ (rM rS).rel K' u (stB n ar i), ⟨_, u2, K2, rfl, Xt.refl x2.i, (rM rS).mono x2.s r2⟩, fun i σ' H' ⟨_, _, K', _, x, _⟩ => x.s.trans x.i, ?_, ?_⟩
  · rintro i d σ' H' v K4 H4 hd ⟨o3, u, K', rfl, x', ru⟩ x4 rv
    have il : i < k := by
      rw [← hn]
      exact (List.getElem?_eq_some_iff.mp hd).1
    have x5 : Xt K' H' (uni K' K4) H4 := Xt.lift x'.s x'.i x4
    have x6 := x'.trans x5
    unfold gName
    dsimp only
    refine s_set (i := 2) (ev_call (x := ((n, ar), stB n ar i)) ⟨pp, okTs_st pp (by omega)⟩ (ea_cons (ev_v rfl ((rTold K).mono ((x1.s.trans x2.s).trans x6.s) r1)) (ea_cons (ev_v rfl (rm_l ((rM rS).mono x5.s ru))) ea_nil))) x5.i fun w K8 H8 x8 r8 => ?_
    exact ⟨_, w, K8, rfl, x6.trans x8, r8⟩
  · rintro σ' H' ⟨o3, u, K', rfl, x', ru⟩
    rw [hn] at ru
    exact s_ret (ev_v rfl ru) x'.i fun w K8 H8 x8 r8 => q w K8 H8 (((x1.trans x2).trans x').trans x8) r8
theorem ev_strs {σ : L2.St} {Hm : Hp} {ta tb : TE} {n k : Nat} {ar : List Arw} {E : XK} (pp : PartP n ar) (hk : k ≤ 10) (h1 : Ev ta σ Hm (rTold K) ((n : Int), ar)) (h2 : Ev tb σ Hm rI (k : Int)) : Ev (tCall (spStrs K) [] E (tCons ta (tCons tb tNil))) σ Hm (rM rS) (stB n ar k) :=
  ev_call (x := ((n, ar), k)) ⟨pp, hk⟩ (ea_cons h1 (ea_cons h2 ea_nil))
end
end NJ

set_option Elab.async false
set_option linter.all false
set_option maxRecDepth 100000
set_option maxHeartbeats 4000000
/-! Texts in lists and tuples, min of two, tests that look at a list that still grows. -/
namespace NJ
open PySem PySem.Spec PyProof.Rows L2
theorem eqV_str (x : T8) : ∀ S : List T8, inV (.str (tx x)) ((S.map tx).map V.str) = decide (x ∈ S)
  | [] => by simp [inV]
  | y :: S => by
    have ih := eqV_str x S
    unfold inV at ih ⊢
    rw [List.map_cons, List.map_cons, List.any_cons, ih, Bool.eq_iff_iff, Bool.or_eq_true, decide_eq_true_iff, decide_eq_true_iff, List.mem_cons]
    show (tx y == tx x) = true ∨ _ ↔ _
    rw [beq_iff_eq]
    exact ⟨fun h => h.imp (fun e => (tx_inj e).symm) id, fun h => h.imp (fun e => by rw [e]) id⟩
theorem flat_strs (S : List T8) : ((S.map tx).map V.str).all flatV = true := by
  rw [List.all_map, List.all_eq_true]
  exact fun x _ => rfl
section
variable {σ : L2.St} {Hm H : Hp} {K : PySem.W.Frag} {te ta tb : TE}
theorem rv_notInS {x : T8} {S : List T8} : Rv (rIn K true) rS x (rL K rS) S rB (!decide (x ∈ S)) := rv_now fun Hm H1 hi u v ru ⟨a, vs, e, hS, hP⟩ => ⟨_, rfl, fun Q q => ⟨a, (S.map tx).map V.str, e, .inl (by rw [← vstrs hP]; exact hi.seq hS), by rw [show u = V.str (tx x) from ru] <;> rfl, flat_strs S, by rw [show u = V.str (tx x) from ru, eqV_str]; exact q⟩⟩
theorem rv_inST {x : T8} {S : List T8} : Rv (rIn K false) rS x (rT K rS) S rB (decide (x ∈ S)) := rv_now fun Hm H1 hi u v ru ⟨a, vs, e, hS, hP⟩ => ⟨_, rfl, fun Q q => ⟨a, (S.map tx).map V.str, e, .inr (by rw [← vstrs hP]; exact seqT_mono hi hS), by rw [show u = V.str (tx x) from ru] <;> rfl, flat_strs S, by rw [show u = V.str (tx x) from ru, eqV_str]; exact q⟩⟩
abbrev rMin2 : List V → Hp → VK → Prop := fun xs H Q => ∃ i j, xs = [.int i, .int j] ∧ Q (.int (if j < i then j else i)) H
theorem rc_min2 {i j : Int} : Rc rMin2 (a1 rI i (a1 rI j a0)) rI (if j < i then j else i) := rc_now fun Hm H1 hi vs ⟨v, ws, e1, e2, v2, ws2, e3, e4, e5⟩ => ⟨_, rfl, fun Q q => ⟨i, j, by rw [e1, show v = V.int i from e2, e3, show v2 = V.int j from e4, show ws2 = [] from e5], q⟩⟩
theorem min_if {i j : Int} : (if j < i then j else i) = min i j := by
  split <;> omega
theorem ev_min2 {i j : Int} (h1 : Ev ta σ Hm rI i) (h2 : Ev tb σ Hm rI j) : Ev (tCB rMin2 (tCons ta (tCons tb tNil))) σ Hm rI (min i j) := Ev.is (ev_cb (ea_cons h1 (ea_cons h2 ea_nil)) rc_min2) min_if
theorem xt_drop {K1 K2 H1 H2 : Hp} {A : Addr} {o : HO} (x : Xt (upd K1 A o) H1 K2 H2) (n : K1 A = none) : Xt K1 H1 (L2.del K2 A) H2 ∧ H2 A = some o := by
  have e : K2 A = some o := x.s _ _ upd_same
  refine ⟨⟨fun p u h => ?_, fun p u h => ?_, x.k, fun p h => ?_⟩, x.i _ _ e⟩
  · have hp := ne_of_none h n
    rw [del_ne hp]
    exact x.s p u (by rw [upd_ne hp]; exact h)
  · by_cases hp : p = A
    · rw [hp, del_same] at h
      cases h
    · rw [del_ne hp] at h
      exact x.i p u h
  · by_cases hp : p = A
    · rw [hp, del_same] at h
      exact absurd rfl h
    · rw [del_ne hp] at h
      rcases x.f p h with z | z
      · rw [upd_ne hp] at z
        exact .inl z
      · exact .inr z
variable {α β : Type} {R : Rp α} {S : Rp β} {D : Ends} {t1 t2 tz : TS} {t : TT}
/-- a test that looks at a list that still grows -/
theorem s_ifF {b : Bool} {f : Addr} {ys : List β} {Ki H' : Hp} {vs : List V} (c : Ci Hm H f S ys Ki vs H') (hf : H f = none) (h : Et t σ (upd Ki f (.lst vs)) b)
    (h1 : b = true → ∀ K1 H1, Ci Hm H f S ys K1 vs H1 → Same Ki K1 → t1 D σ H1) (h2 : b = false → ∀ K1 H1, Ci Hm H f S ys K1 vs H1 → Same Ki K1 → t2 D σ H1) : tIfS t t1 t2 D σ H' :=
  s_if h (c.done hf).1.i (fun hb K1 H1 x => by
    obtain ⟨y, _⟩ := xt_drop x c.n
    exact h1 hb _ _ (c.ext y) y.s) (fun hb K1 H1 x => by
    obtain ⟨y, _⟩ := xt_drop x c.n
    exact h2 hb _ _ (c.ext y) y.s)
/-- the list as one sees it -/
theorem ev_seen {f : Addr} {ys : List β} {Ki H' : Hp} {vs : List V} {i : Nat} (c : Ci Hm H f S ys Ki vs H') (hf : H f = none) (hv : σ[i]? = some (some (.ref f))) : Ev (tVar i) σ (upd Ki f (.lst vs)) (rM S) ys := ev_v hv (c.done hf).2
/-- what was known stays known beside it -/
theorem Ci.up {f : Addr} {ys : List β} {Ki H' : Hp} {vs : List V} (c : Ci Hm H f S ys Ki vs H') : Same Ki (upd Ki f (.lst vs)) := fun b o e => by
  rw [upd_ne (ne_of_none e c.n)]
  exact e
end
end NJ

set_option Elab.async false
set_option linter.all false
set_option maxRecDepth 100000
set_option maxHeartbeats 4000000
/-! A comprehension whose test nobody knows. -/
namespace NJ
open PySem PySem.Spec PyProof.Rows L2
section
variable {σ : L2.St} {Hm : Hp} {α β : Type} {R : Rp α} {te : TE} {tt : TT}
theorem ev_lcS {wi : TI} {g : TG} {vs : List Nat} {xs : List α} (hw : Wk wi σ Hm R xs) (hn : xs.length ≤ 16000000)
    (hb : ∀ d, d ∈ xs → ∀ v K3, Same Hm K3 → R.rel K3 v d → ∃ σ2, Tk g (wipe σ vs) K3 v σ2 ∧ wipe σ2 vs = wipe σ vs ∧ EtE tt σ2 K3 (fun _ => True) ∧ Ev te σ2 K3 R d) :
    Ev (tLc wi g tt te vs) σ Hm (rE (rM R) (fun ys => ys.Sublist xs)) () := fun H1 hi Q q => hw H1 hi _ fun J K2 H2 x2 hJ D hD => by
  have hKD : K2 D = none := none_back x2.i hD
  refine ⟨fun i mm H' => i + mm = xs.length ∧ ∃ ys Ki us, ys.Sublist (xs.take i) ∧ Ci K2 H2 D R ys Ki us H', ⟨xs.length, by omega, [], K2, [], List.nil_sublist _, Ci.new x2.i hD⟩, ?_⟩
  rintro i mm H' ⟨em, ys, Ki, us, sl, c⟩
  obtain ⟨go, stop, yld⟩ := hJ i H' (c.s.trans c.i)
  have hul : us.length ≤ i := by
    rw [paired_len c.r]
    refine Nat.le_trans sl.length_le ?_
    rw [List.length_take]
    exact Nat.min_le_left _ _
  by_cases hlt : i < xs.length
  · refine .inr ⟨go hlt, fun H'' => ∃ ys Ki us, ys.Sublist (xs.take (i + 1)) ∧ Ci K2 H2 D R ys Ki us H'', fun H'' ⟨ys2, Ki2, us2, s2, c2⟩ => ⟨mm - 1, by omega, by omega, ys2, Ki2, us2, s2, c2⟩, fun v H4 hy => ?_⟩
    obtain ⟨d, K4, ed, x4, rv⟩ := yld hlt v H4 hy
    have x5 : Xt Ki H' (uni Ki K4) H4 := Xt.lift c.s c.i x4
    obtain ⟨σ2, htk, hwp, het, hev⟩ := hb d (List.mem_of_getElem? ed) v (uni Ki K4) ((x2.s.trans c.s).trans x5.s) (R.mono (uni_r (c.i.trans x4.k) x4.i) rv)
    have e2 : xs.take (i + 1) = xs.take i ++ [d] := by rw [List.take_add_one, ed] <;> rfl
    refine htk H4 x5.i _ ⟨hwp, het H4 x5.i _ fun b K6 H6 _ x6 => ?_⟩
    have c6 := (c.ext x5).ext x6
    cases b with
    | true =>
      refine iteT (hev.mono x6.s H6 x6.i _ fun y K7 H7 x7 ry => ?_)
      have c7 := c6.ext x7
      refine ⟨us, c7.at_, Nat.lt_of_le_of_lt hul (Nat.lt_of_lt_of_le hlt (Nat.le_trans hn (by rw [sizeLine_eq]; decide))), ys ++ [d], K7, us ++ [y], ?_, c7.app hD ry⟩
      rw [e2]
      exact sl.append (List.Sublist.refl _)
    | false =>
      refine iteF ⟨ys, K6, us, ?_, c6⟩
      rw [e2]
      exact sl.trans (List.sublist_append_left _ _)
  · refine .inl ⟨stop (by omega), ?_⟩
    obtain ⟨xd, rd⟩ := c.done hD
    rw [List.take_of_length_le (by omega)] at sl
    exact q (.ref D) _ H' (x2.trans xd) ⟨ys, rd, sl⟩
end
end NJ

set_option Elab.async false
set_option linter.all false
set_option maxRecDepth 100000
set_option maxHeartbeats 4000000
/-! Dicts from ints to ints: dict(pairs), in, d[x], their values under the lock; xs[-1] of a list. -/
namespace NJ
open PySem PySem.Spec PyProof.Rows L2
section
variable {σ : L2.St} {Hm H : Hp} {K : PySem.W.Frag} {te td ta tb : TE} {D : Ends} {tz : TS}
end
end NJ

set_option Elab.async false
set_option linter.all false
set_option maxRecDepth 100000
set_option maxHeartbeats 4000000
/-! dict(pairs) with texts or ints as keys, keys that come again; list of such a dict; sorted(list of ints). -/
namespace NJ
open PySem PySem.Spec PyProof.Rows L2
section
variable {σ : L2.St} {Hm H : Hp} {K : PySem.W.Frag} {te : TE}
end
end NJ

set_option Elab.async false
set_option linter.all false
set_option maxRecDepth 100000
set_option maxHeartbeats 4000000
/-! xs.index(k), list(d.items()), {k: {} for k in ks}, d[k][x] = v. -/
namespace NJ
open PySem PySem.Spec PyProof.Rows L2
section
variable {σ : L2.St} {Hm : Hp} {K : PySem.W.Frag} {te td : TE}
end
/-! ### many new things at once -/
/-! ### list(d.items()) -/
section
variable {X : Cx} {e : Expr} {td : TE} {apos cpos : Pos}
end
end NJ

set_option Elab.async false
set_option linter.all false
set_option maxRecDepth 100000
set_option maxHeartbeats 4000000
/-! {**a, **b}: keys that are new. -/
namespace NJ
open PySem PySem.Spec PyProof.Rows L2
section
variable {prog : Program} {w : World} {K : Type} [DecidableEq K] {knd : KeyKind prog w K} {A : Around} {E : Value → Shared → Prop} {s : Shared}
end
section
variable {X : Cx}
end
end NJ

set_option Elab.async false
set_option linter.all false
set_option maxRecDepth 100000
set_option maxHeartbeats 2000000
/-! Runs at one place of the stack (whose guards are known); repr of data. -/
namespace NJ
open PySem PySem.Spec PyProof.Rows L2
/-- what a def does where the stack is A -/
structure RunA (P : Program) (w : World) (K : PySem.W.Frag) (mg : Str → Option Value) (base : Heap) (CX : CXT) (A : Around) (f : Addr) (fd : FuncData) (ps : List Str) (sp : Sp) : Prop where
  ln : ∀ vs H Q E, sp vs H Q E → vs.length = ps.length
  go : ∀ (o : List Env) (s : Shared) (H : Hp) (ar : Args) (us : List Value) (vs : List V) (Q : VK) (E : XK), Env0 P w K mg base A o s H → BindsTo s fd ar (ps.zip us) → Vals vs us → sp vs H Q E → codeAny (model P w) A (.call (.ref f) ar) (CR CX o P w H s Q E) s
section
variable {X : Cx} {CX : CXT} {f : Addr} {fd : FuncData} {ps : List Str} {sp : Sp} {E : XK} {x : Str} {p pos : Pos} {e : Expr} {es : List Expr} {t : TA}
end
end NJ

set_option Elab.async false
set_option linter.all false
set_option maxRecDepth 100000
set_option maxHeartbeats 2000000
/-! Data as they lie; their repr, where no guard stands. -/
namespace NJ
open PySem PySem.Spec PyProof.Rows L2
mutual
inductive Dq (K : PySem.W.Frag) (H : Hp) : V → PyData → Prop
  | non : Dq K H .non .none
  | bl (b : Bool) : Dq K H (.bl b) (.bool b)
  | int (i : Int) : Dq K H (.int i) (.int i)
  | str (x : Str) : Dq K H (.str x) (.str x)
  | lst {a : Addr} {vs : List V} {ds : List PyData} : SqL K H a vs → Dqs K H vs ds → Dq K H (.ref a) (.list ds)
  | tup {a : Addr} {vs : List V} {ds : List PyData} : SqT K H a vs → Dqs K H vs ds → Dq K H (.ref a) (.tuple ds)
  | dic {a : Addr} : H a = some (.dK []) → Dq K H (.ref a) (.dict [])
inductive Dqs (K : PySem.W.Frag) (H : Hp) : List V → List PyData → Prop
  | nil : Dqs K H [] []
  | cons {v : V} {vs : List V} {d : PyData} {ds : List PyData} : Dq K H v d → Dqs K H vs ds → Dqs K H (v :: vs) (d :: ds)
end
mutual
theorem dq_mono {K : PySem.W.Frag} {H H' : Hp} (s : Same H H') : ∀ {d : PyData} {v : V}, Dq K H v d → Dq K H' v d
  | .none, _, .non => .non
  | .bool _, _, .bl b => .bl b
  | .int _, _, .int i => .int i
  | .str _, _, .str x => .str x
  | .list ds, _, .lst h g => .lst (s.seq h) (dqs_mono s g)
  | .tuple ds, _, .tup h g => .tup (seqT_mono s h) (dqs_mono s g)
  | .dict _, _, .dic h => .dic (s _ _ h)
theorem dqs_mono {K : PySem.W.Frag} {H H' : Hp} (s : Same H H') : ∀ {ds : List PyData} {vs : List V}, Dqs K H vs ds → Dqs K H' vs ds
  | [], _, .nil => .nil
  | _ :: _, _, .cons a b => .cons (dq_mono s a) (dqs_mono s b)
end
def rQ (K : PySem.W.Frag) : Rp PyData := ⟨fun H v d => Dq K H v d, fun s h => dq_mono s h⟩
section
variable {K : PySem.W.Frag} {H : Hp} {α β : Type} {R : Rp α} {S : Rp β} {f : α → PyData} {g : β → PyData}
theorem dq_int {v : V} {i : Int} : rI.rel H v i → Dq K H v (.int i) := fun e => by
  rw [show v = .int i from e]
  exact .int i
theorem dq_str {v : V} {l : List Nat} : rS.rel H v l → Dq K H v (.str (tx l)) := fun e => by
  rw [show v = .str (tx l) from e]
  exact .str _
end
section
variable {X : Cx} {pins : List (Addr × Obj)} {σ : L2.St} {H : Hp} {s : Shared}
mutual
theorem dq_reads (I : Inv X pins σ H s) : ∀ {d : PyData} {v : V} {u : Value}, Dq X.K H v d → RelV v u → (d.hasDict = false ∨ d = .dict []) → ∃ as, Reads s.heap u d as ∧ (d.hasDict = true → sysModules ∉ as)
  | .none, _, u, .non, r, _ => by
    cases (show u = Value.none from r)
    exact ⟨[], .none, nofun⟩
  | .bool _, _, u, .bl b, r, _ => by
    cases (show u = Value.bool b from r)
    exact ⟨[], .bool b, nofun⟩
  | .int _, _, u, .int i, r, _ => by
    obtain ⟨t, rfl⟩ := r
    exact ⟨[], .int i t, nofun⟩
  | .str _, _, u, .str x, r, _ => by
    obtain ⟨t, rfl⟩ := r
    exact ⟨[], .str x t, nofun⟩
  | .list ds, _, u, .lst h g, r, hd => by
    obtain rfl : u = _ := r
    have hd : PyData.hasDictAll ds = false := by
      rcases hd with hd | hd
      · simpa [PyData.hasDict] using hd
      · cases hd
    obtain ⟨its, rv, ⟨o, n, e1, e2, _, e3⟩, _⟩ := I.list h
    obtain ⟨as, ra⟩ := dqs_reads I g rv hd
    exact ⟨_, .list e1 e2 e3 (by simpa using ra), fun z => by
      rw [PyData.hasDict, hd] at z
      cases z⟩
  | .tuple ds, _, u, .tup h g, r, hd => by
    obtain rfl : u = _ := r
    have hd : PyData.hasDictAll ds = false := by
      rcases hd with hd | hd
      · simpa [PyData.hasDict] using hd
      · cases hd
    obtain ⟨its, rv, ⟨o, e1, e2, n, e3⟩, _⟩ := I.tuple h
    obtain ⟨as, ra⟩ := dqs_reads I g rv hd
    exact ⟨_, .tuple e1 e2 e3 (by simpa using ra), fun z => by
      rw [PyData.hasDict, hd] at z
      cases z⟩
  | .dict _, _, u, .dic h, r, _ => by
    obtain rfl : u = _ := r
    obtain ⟨_, hs, vs, kv, o, es, ep, e1, e2, e3, _, e4, _⟩ := dk_of I.hok h
    cases kv
    have z : es.toList = [] := by
      cases hz : es.toList with
      | nil => rfl
      | cons x xs =>
        rw [hz] at e4
        cases e4
    refine ⟨_, .dict e1 e2.1 e3 (by rw [z]; exact .nil) (by rw [z]; exact .nil), fun _ => ?_⟩
    have hs := beq_eq_false_iff_ne.mp hs
    simpa using Ne.symm hs
theorem dqs_reads (I : Inv X pins σ H s) : ∀ {ds : List PyData} {vs : List V} {us : List Value}, Dqs X.K H vs ds → Vals vs us → PyData.hasDictAll ds = false → ∃ as, ReadsAll s.heap us ds as
  | [], _, us, .nil, r, _ => by
    cases r
    exact ⟨[], .nil⟩
  | d :: ds, _, us, .cons a b, r, hd => by
    rw [PyData.hasDictAll, Bool.or_eq_false_iff] at hd
    cases r with
    | cons r1 r2 =>
      obtain ⟨as, h1, _⟩ := dq_reads I a r1 (.inl hd.1)
      obtain ⟨bs, h2⟩ := dqs_reads I b r2 hd.2
      exact ⟨_, .cons h1 h2⟩
end
end
/-- what repr is good for -/
structure ShQ (d : PyData) : Prop where
  sh : d.showable = true
  nd : d.hasDict = false ∨ d = .dict []
  dp : d.depth ≤ 50
  sz : d.shown.length ≤ sizeLine
section
variable {K : PySem.W.Frag} {σ : L2.St} {Hm : Hp} {te : TE} {d : PyData}
end
/-! ### how long -/
theorem shown_all : ∀ ds : List PyData, PyData.shownAll ds = ds.map PyData.shown
  | [] => by rw [PyData.shownAll] <;> rfl
  | d :: ds => by rw [PyData.shownAll, shown_all ds] <;> rfl
theorem sum_leN {α : Type} {f : α → Nat} {m : Nat} : ∀ {xs : List α}, (∀ x ∈ xs, f x ≤ m) → (xs.map f).sum ≤ m * xs.length
  | [], _ => by simp
  | x :: xs, h => by
    have h1 := h x List.mem_cons_self
    have h2 := sum_leN (xs := xs) fun y hy => h y (List.mem_cons_of_mem _ hy)
    rw [List.map_cons, List.sum_cons, List.length_cons, Nat.mul_succ]
    omega
theorem shown_list {ds : List PyData} {m : Nat} (h : ∀ d ∈ ds, d.shown.length ≤ m) : (PyData.list ds).shown.length ≤ (m + 2) * ds.length + 3 := by
  rw [PyData.shown]
  refine Nat.le_trans (listText_len_le _) ?_
  rw [shown_all, List.map_map, List.length_map]
  have := sum_leN (f := fun d : PyData => d.shown.length) h
  show ((ds.map fun d : PyData => d.shown.length).sum) + _ + _ ≤ _
  rw [Nat.add_mul]
  omega
theorem shown_tup {ds : List PyData} {m : Nat} (h : ∀ d ∈ ds, d.shown.length ≤ m) : (PyData.tuple ds).shown.length ≤ (m + 2) * ds.length + 3 := by
  rw [PyData.shown]
  refine Nat.le_trans (tupleText_len_le _) ?_
  rw [shown_all, List.map_map, List.length_map]
  have := sum_leN (f := fun d : PyData => d.shown.length) h
  show ((ds.map fun d : PyData => d.shown.length).sum) + _ + _ ≤ _
  rw [Nat.add_mul]
  omega
theorem shown_int {i : Int} {k : Nat} (hk : 0 < k) (h : i.natAbs < 10 ^ k) : (PyData.int i).shown.length ≤ k + 1 := by
  rw [PyData.shown]
  show (Str.ofString (toString i)).length ≤ _
  rw [PySem.ofString_length]
  exact int_text_length_le10 hk h
theorem allB {α : Type} {p : α → Bool} {g : List α → Bool} (h0 : g [] = true) (h1 : ∀ x xs, g (x :: xs) = (p x && g xs)) : ∀ {xs : List α}, (∀ x ∈ xs, p x = true) → g xs = true
  | [], _ => h0
  | x :: xs, h => by rw [h1, h x List.mem_cons_self, allB h0 h1 fun y hy => h y (List.mem_cons_of_mem _ hy)] <;> rfl
theorem anyB {α : Type} {p : α → Bool} {g : List α → Bool} (h0 : g [] = false) (h1 : ∀ x xs, g (x :: xs) = (p x || g xs)) : ∀ {xs : List α}, (∀ x ∈ xs, p x = false) → g xs = false
  | [], _ => h0
  | x :: xs, h => by rw [h1, h x List.mem_cons_self, anyB h0 h1 fun y hy => h y (List.mem_cons_of_mem _ hy)] <;> rfl
theorem depth_le {ds : List PyData} {m : Nat} (h : ∀ d ∈ ds, d.depth ≤ m) : PyData.depthAll ds ≤ m := by
  induction ds with
  | nil => simp [PyData.depthAll]
  | cons d ds ih =>
    rw [PyData.depthAll]
    exact Nat.max_le.mpr ⟨h d List.mem_cons_self, ih fun y hy => h y (List.mem_cons_of_mem _ hy)⟩
structure ShM (d : PyData) (dp m : Nat) : Prop where
  sh : d.showable = true
  nd : d.hasDict = false
  dp : d.depth ≤ dp
  sz : d.shown.length ≤ m
theorem ShM.ok {d : PyData} {dp m : Nat} (h : ShM d dp m) (h1 : dp ≤ 50) (h2 : m ≤ 16000000) : ShQ d := ⟨h.sh, .inl h.nd, Nat.le_trans h.dp h1, Nat.le_trans h.sz (Nat.le_trans h2 (by decide))⟩
theorem ShM.list {ds : List PyData} {dp m : Nat} (h : ∀ d ∈ ds, ShM d dp m) : ShM (.list ds) (dp + 1) ((m + 2) * ds.length + 3) :=
  ⟨by
    rw [PyData.showable]
    exact allB (by rw [PyData.showableAll]) (fun x xs => by rw [PyData.showableAll]) fun d hd => (h d hd).sh, by
    rw [PyData.hasDict]
    exact anyB (by rw [PyData.hasDictAll]) (fun x xs => by rw [PyData.hasDictAll]) fun d hd => (h d hd).nd, by
    have := depth_le fun d hd => (h d hd).dp
    rw [PyData.depth]
    omega, shown_list fun d hd => (h d hd).sz⟩
theorem ShM.tup {ds : List PyData} {dp m : Nat} (h : ∀ d ∈ ds, ShM d dp m) : ShM (.tuple ds) (dp + 1) ((m + 2) * ds.length + 3) :=
  ⟨by
    rw [PyData.showable]
    exact allB (by rw [PyData.showableAll]) (fun x xs => by rw [PyData.showableAll]) fun d hd => (h d hd).sh, by
    rw [PyData.hasDict]
    exact anyB (by rw [PyData.hasDictAll]) (fun x xs => by rw [PyData.hasDictAll]) fun d hd => (h d hd).nd, by
    have := depth_le fun d hd => (h d hd).dp
    rw [PyData.depth]
    omega, shown_tup fun d hd => (h d hd).sz⟩
theorem ShM.int {i : Int} {k : Nat} (hk : 0 < k) (hk2 : k < 480) (h : i.natAbs < 10 ^ k) : ShM (.int i) 1 (k + 1) := ⟨by
    rw [PyData.showable, decide_eq_true_eq]
    by_cases z : i.natAbs = 0
    · rw [z]
      decide
    · refine (Nat.log2_lt z).mpr (Nat.lt_of_lt_of_le h ?_)
      refine Nat.le_trans (Nat.pow_le_pow_left (show 10 ≤ 2 ^ 4 by decide) k) ?_
      rw [← Nat.pow_mul]
      exact Nat.pow_le_pow_right (by decide) (by omega), by rw [PyData.hasDict], by rw [PyData.depth] <;> omega, shown_int hk h⟩
theorem ShM.mono {d : PyData} {dp m dp' m' : Nat} (h : ShM d dp m) (h1 : dp ≤ dp') (h2 : m ≤ m') : ShM d dp' m' := ⟨h.sh, h.nd, Nat.le_trans h.dp h1, Nat.le_trans h.sz h2⟩
end NJ

set_option Elab.async false
set_option linter.all false
set_option maxRecDepth 100000
set_option maxHeartbeats 4000000
/-! Data by their kinds: ==, != and in of whatever is made of ints and texts. -/
namespace NJ
open PySem PySem.Spec PyProof.Rows L2
structure DtR (K : PySem.W.Frag) {α : Type} [DecidableEq α] (R : Rp α) (f : α → PyData) (ok : α → Prop) (dp : Nat) : Prop where
  rel : ∀ {H : Hp} {v : V} {x : α}, R.rel H v x → Dp K H v (f x)
  lay : ∀ x, ok x → (f x).canLay0 = true
  dpt : ∀ x, (f x).depth ≤ dp
  eqv : ∀ x y, PyData.eqv (f x) (f y) = decide (x = y)
section
variable {K : PySem.W.Frag} {α β : Type} [DecidableEq α] [DecidableEq β] {R : Rp α} {S : Rp β} {f : α → PyData} {g : β → PyData} {ok : α → Prop} {okb : β → Prop} {dp dq : Nat}
theorem DtR.shaped (h : DtR K R f ok dp) (hd : dp ≤ 60) {x : α} (hx : ok x) : SeqAt.shaped (f x) = true := by
  unfold SeqAt.shaped
  rw [Bool.and_eq_true, decide_eq_true_iff]
  exact ⟨h.lay x hx, Nat.le_trans (h.dpt x) (Nat.le_trans hd (by decide))⟩
end
mutual
theorem dq_of {K : PySem.W.Frag} {H : Hp} : ∀ {d : PyData} {v : V}, Dp K H v d → Dq K H v d
  | .none, _, .non => .non
  | .bool _, _, .bl b => .bl b
  | .int _, _, .int i => .int i
  | .str _, _, .str x => .str x
  | .list _, _, .lst h g => .lst h (dqs_of g)
  | .tuple _, _, .tup h g => .tup h (dqs_of g)
theorem dqs_of {K : PySem.W.Frag} {H : Hp} : ∀ {ds : List PyData} {vs : List V}, DpAll K H vs ds → Dqs K H vs ds
  | [], _, .nil => .nil
  | _ :: _, _, .cons a b => .cons (dq_of a) (dqs_of b)
end
end NJ

set_option Elab.async false
set_option linter.all false
set_option maxRecDepth 100000
set_option maxHeartbeats 4000000
/-! Things of any data, looked at by their types. -/
namespace NJ
open PySem PySem.Spec PyProof.Rows L2
def tyN : PyData → String
  | .none => "NoneType"
  | .bool _ => "bool"
  | .int _ => "int"
  | .str _ => "str"
  | .list _ => "list"
  | .tuple _ => "tuple"
  | .dict _ => "dict"
def isTupD : PyData → Bool
  | .tuple _ => true
  | _ => false
def isStrD : PyData → Bool
  | .str _ => true
  | _ => false
section
variable {K : PySem.W.Frag} {H : Hp} {v : V} {d : PyData}
theorem dq_ty (h : Dq K H v d) : (rTy K).rel H v (.type (tyN d)) := by
  cases h with
  | non => exact .base .non
  | bl b => exact .base (.bl b)
  | int i => exact .base (.int i)
  | str x => exact .base (.str x)
  | lst h _ => exact tyx_lst h
  | tup h _ => exact tyx_tup h
  | dic h => exact .base (.dK h)
theorem tyN_mem (d : PyData) : tyN d ∈ ["NoneType", "bool", "int", "str", "list", "tuple", "dict"] := by
  cases d <;> simp [tyN]
theorem kq_of {c : String} {b : String → Bool} (h : ∀ n ∈ ["NoneType", "bool", "int", "str", "list", "tuple", "dict"], L2.kitB n c = some (b n)) (d : PyData) : PySem.W.kitOne K (.type (tyN d)) (.type c) = some (b (tyN d)) := kit_ty (h _ (tyN_mem d))
theorem kq_tup (d : PyData) : PySem.W.kitOne K (.type (tyN d)) (.type "tuple") = some (isTupD d) := by
  rw [kq_of (b := fun n => n == "tuple") (by decide +kernel) d]
  cases d <;> rfl
theorem kq_str (d : PyData) : PySem.W.kitOne K (.type (tyN d)) (.type "str") = some (isStrD d) := by
  rw [kq_of (b := fun n => n == "str") (by decide +kernel) d]
  cases d <;> rfl
theorem dqs_pair : ∀ {vs : List V} {ds : List PyData}, Dqs K H vs ds → Paired ((rQ K).rel H) vs ds
  | _, _, .nil => .nil
  | _, _, .cons a b => .cons a (dqs_pair b)
theorem pair_dqs : ∀ {vs : List V} {ds : List PyData}, Paired ((rQ K).rel H) vs ds → Dqs K H vs ds
  | _, _, .nil => .nil
  | _, _, .cons a b => .cons a (pair_dqs b)
theorem q_tupO {ds : List PyData} (h : (rQ K).rel H v (.tuple ds)) : (rT K (rQ K)).rel H v ds := by
  cases h with
  | tup hS g => exact ⟨_, _, rfl, hS, dqs_pair g⟩
theorem q_tupI {ds : List PyData} (h : (rT K (rQ K)).rel H v ds) : (rQ K).rel H v (.tuple ds) := by
  obtain ⟨a, vs, e, hS, hP⟩ := h
  rw [e]
  exact .tup hS (pair_dqs hP)
theorem q_listI {ds : List PyData} (h : (rL K (rQ K)).rel H v ds) : (rQ K).rel H v (.list ds) := by
  obtain ⟨a, vs, e, hS, hP⟩ := h
  rw [e]
  exact .lst hS (pair_dqs hP)
end
/-! ### displays of things -/
section
variable {K : PySem.W.Frag} {σ : L2.St} {Hm : Hp} {te : TE} {α : Type} {R : Rp α}
theorem eq_non : Ev (tC .non) σ Hm (rQ K) .none := ev_c fun _ => .non
theorem eq_bl {b : Bool} : Ev (tC (.bl b)) σ Hm (rQ K) (.bool b) := ev_c fun _ => .bl b
theorem eq_int {i : Int} (h : Ev te σ Hm rI i) : Ev te σ Hm (rQ K) (.int i) := fun H1 hi Q q => h H1 hi Q fun v K2 H2 x2 r => q v K2 H2 x2 (dq_int r)
theorem eq_str {l : T8} (h : Ev te σ Hm rS l) : Ev te σ Hm (rQ K) (.str (tx l)) := fun H1 hi Q q => h H1 hi Q fun v K2 H2 x2 r => q v K2 H2 x2 (dq_str r)
theorem eq_dct : Ev tDNewK σ Hm (rQ K) (.dict []) := fun H1 hi Q q p np => q (.ref p) _ _ (Xt.new hi np) (.dic upd_same)
theorem eq_tup {ds : List PyData} (h : Ev te σ Hm (rT K (rQ K)) ds) : Ev te σ Hm (rQ K) (.tuple ds) := fun H1 hi Q q => h H1 hi Q fun v K2 H2 x2 r => q v K2 H2 x2 (q_tupI r)
theorem eq_list {ds : List PyData} (h : Ev te σ Hm (rL K (rQ K)) ds) : Ev te σ Hm (rQ K) (.list ds) := fun H1 hi Q q => h H1 hi Q fun v K2 H2 x2 r => q v K2 H2 x2 (q_listI r)
end
end NJ

set_option Elab.async false
set_option linter.all false
set_option maxRecDepth 100000
set_option maxHeartbeats 4000000
/-! A function out of a list, called; a promise put together of two; isinstance of a caught exception; count and index in lists of bools. -/
namespace NJ
open PySem PySem.Spec PyProof.Rows L2
section
variable {P : Program} {w : World} {K : PySem.W.Frag} {mg : Str → Option Value} {base : Heap} {CX : CXT} {j k : Nat} {f : Addr} {sp sp' : Sp} {ps : List Str}
/-- what lets nothing out lets out what may be let out -/
theorem FnR.up (F : FnR P w K mg base CX0 k f sp) : FnR P w K mg base (L2.CX P w) k f sp := fun A outer s H us vs Q E hr e0 r h => codeAny_mono (F A outer s H us vs Q E hr e0 r h) fun r s' hq => by
  cases r with
  | error e => exact False.elim hq
  | ok fl =>
    cases fl with
    | ret u => exact hq
    | next => exact False.elim hq
    | brk => exact False.elim hq
    | cont => exact False.elim hq
theorem FnR.or (F : FnR P w K mg base CX k f sp) (G : FnR P w K mg base CX k f sp') : FnR P w K mg base CX k f (fun vs H Q E => sp vs H Q E ∨ sp' vs H Q E) := fun A outer s H us vs Q E hr e0 r h => by
  rcases h with h | h
  · exact F A outer s H us vs Q E hr e0 r h
  · exact G A outer s H us vs Q E hr e0 r h
end
section
variable {X : Cx} {CX : CXT} {k : Nat} {f : Addr} {sp : Sp} {E : L2.St → XK} {x : Str} {p pos : Pos} {e fe : Expr} {es : List Expr} {t : TA} {tf : TE}
end
/-! ### bools -/
end NJ

set_option Elab.async false
set_option linter.all false
set_option maxRecDepth 100000
set_option maxHeartbeats 16000000
/-! Things of any kind as texts, as numbers: is_number, ask_number, the law's own _law_is_text, _law_is_stretch. -/
namespace NJ
open PySem PySem.Spec PyProof.Rows L2
/-- a thing as a text, as a number -/
def tgS : PyData ⊕ Value → Option T8
  | .inl (.str x) => some x.cps.toList
  | _ => none
/-- what may be asked of: of data any, of other things the kinds -/
structure okX (K : PySem.W.Frag) (x : PyData ⊕ Value) : Prop where
  k : ∀ ty, x = .inr ty → PySem.W.kitOne K ty (.type "str") = some false ∧ PySem.W.kitOne K ty (.type "int") = some false ∧ PySem.W.kitOne K ty (.type "bool") = some false ∧ PySem.W.kitOne K ty (.type "tuple") = some false
  z : ∀ t, tgS x = some t → t.length ≤ 1000
  u : ∀ ds, x = .inl (.tuple ds) → ds.length ≤ 1000
theorem str_tx (x : Str) : tx x.cps.toList = x := (tx_of x).symm
section
variable {P : Program} {w : World} {K : PySem.W.Frag} {mg : Str → Option Value} {base : Heap}
/-! ### the law's own looks -/
theorem rv_inAlO {c : Nat} {z : T8} : Rv (fun x y H Q => ∃ (c : Nat) (z : Str), x = .str ⟨#[c]⟩ ∧ y = .str z ∧ Q (.bl (decide (c ∈ z.cps.toList))) H) rC c rS z rB (decide (c ∈ z)) := rv_now fun Hm H1 hi x y rx ry => ⟨.bl (decide (c ∈ z)), rfl, fun Q q => ⟨c, tx z, rx, ry, by rw [tx_cps]; exact q⟩⟩
def AL : T8 := [97, 98, 99, 100, 101, 102, 103, 104, 105, 106, 107, 108, 109, 110, 111, 112, 113, 114, 115, 116, 117, 118, 119, 120, 121, 122]
theorem in_al (c : Nat) : decide (c ∈ AL) = lower c := by
  rw [Bool.eq_iff_iff, decide_eq_true_iff]
  unfold lower AL
  rw [Bool.and_eq_true, decide_eq_true_iff, decide_eq_true_iff]
  simp
  omega
def lenB (a b : Int) (o : Option T8) : Bool := decide (a ≤ ((o.getD []).length : Int)) && decide (((o.getD []).length : Int) ≤ b)
def spLitO (K : PySem.W.Frag) : Sp := SpF (fun (x : Option T8 × Int × Int) => a1 (rTh K) x.1 (a1 rI x.2.1 (a1 rI x.2.2 a0))) (fun x => okTh x.1) (fun _ => rB) (fun x => isTx x.1 && lenB x.2.1 x.2.2 x.1)
theorem ok_litO (T : Tx K mg) : Fk P w K mg base CX0 1 (He.ga K "_law_is_text") ["_law_thing", "_law_least", "_law_most"] (spLitO K) := by
  refine k0_law_is_text T (spf_len fun _ => a1_len (a1_len (a1_len a0_len))) (fun cdv A outer s H vs Q E hr h => ?_)
  refine ⟨_, (pss_cons (ps_if (PW.pt (pw_or (pt_not (pt_val (pe_callB call_isi (by rfl) T.n_isinstance boot_isinstance (pa_cons (pv 0) (pa_cons (pe_bltn (v := .ty "str") (by rfl) T.n_str boot_str rfl) pa_nil))))) (pw_or (pt_cmpR op_lt (pe_callB call_len (by rfl) T.n_len boot_len (pa_cons (pv 0) pa_nil)) (pv 1) (nomark _)) (pw_or1 (pt_cmpR op_gt (pe_callB call_len (by rfl) T.n_len boot_len (pa_cons (pv 0) pa_nil)) (pv 2) (nomark _)))))) (pss_one (ps_ret pe_bl)) pss_nil)
  (pss_one (ps_ret (pe_callB (cr_all rfl) (by rfl) T.n_all boot_all (pa_cons (pe_lc (own := [("_law_sign", 3)]) rfl c_law_is_text.nd (pi_str (pv 0)) (blkOk_by (N := ["_law_thing", "_law_least", "_law_most", "_law_sign"]) (sc := defScope s_law_is_text) (by decide +kernel)) (fun _ _ _ _ _ => (pg_name (i := 3) c_law_is_text.nd rfl (by first | exact Or.inl rfl | exact Or.inr rfl))) (fun _ _ _ _ _ => pts_nil) (fun _ _ _ _ _ => (pe_cmpR op_in_sign (pv 3) pe_str (by rfl)))) pa_nil))))), ?_⟩
  obtain ⟨⟨o, l, m⟩, Hm, ok, ⟨v1, ws, rfl, r1, v2, ws2, rfl, r2, v3, ws3, rfl, r3, rfl⟩, hi, q⟩ := h
  cases r2
  cases r3
  dsimp only at ok r1 q
  obtain ⟨ty, rty, kt⟩ := th_ty r1
  cases o with
  | none =>
    refine q_when (b := true) (et_or (a := true) (b := false) (Et.is (et_not (et_B (ev_isi (ev_v rfl rty) kt))) rfl) fun z => by cases z) hi (fun _ K1 H1 x1 => ?_) (fun hb => by cases hb)
    exact s_ret (ev_b (b := false)) x1.i fun v K2 H2 x2 r => q v K2 H2 (x1.trans x2) r
  | some t =>
    have tz : t.length ≤ 16000000 := ok
    have r1 : rS.rel Hm v1 t := r1
    have q : ∀ (v : V) (Hm' H2 : Hp), Xt Hm H Hm' H2 → rB.rel Hm' v (isTx (some t) && (decide (l ≤ (t.length : Int)) && decide ((t.length : Int) ≤ m))) → Q v H2 := q
    refine q_when (b := !(decide (l ≤ (t.length : Int)) && decide ((t.length : Int) ≤ m))) (Et.is (et_or (a := false) (et_not (et_B (ev_isi (ev_v rfl rty) kt))) fun _ => et_or (et_test (ev_op (ev_cb (ea_cons (ev_v rfl r1) ea_nil) (rc_lenS tz)) (ev_v (R := rI) (d := l) rfl rfl) rv_b0)) fun _ => et_test (ev_op (ev_cb (ea_cons (ev_v rfl r1) ea_nil) (rc_lenS tz)) (ev_v (R := rI) (d := m) rfl rfl) rv_b0)) (by
      rw [Bool.false_or, Bool.eq_iff_iff]
      simp only [Bool.or_eq_true, Bool.not_eq_true', Bool.and_eq_false_iff, decide_eq_true_iff, decide_eq_false_iff_not]
      omega)) hi (fun hb K1 H1 x1 => ?_) (fun hb K1 H1 x1 => ?_)
    · rw [Bool.not_eq_true'] at hb
      rw [hb, Bool.and_false] at q
      exact s_ret (ev_b (b := false)) x1.i fun v K2 H2 x2 r => q v K2 H2 (x1.trans x2) r
    · rw [Bool.not_eq_false'] at hb
      rw [hb, Bool.and_true] at q
      refine s_ret (Ev.is (ev_cb (ea_cons (ev_lc0 (K := K) (S := rB) (R := rC) lower (wk_str (ev_v rfl (rS.mono x1.s r1))) tz fun c hc v K3 s3 r3 => ⟨_, tk_name, rfl, Ev.is (ev_op (ev_v (R := rC) (d := c) rfl r3) (Ev.is ev_s (show _ = AL by rfl)) rv_inAlO) (in_al c)⟩) ea_nil) rc_all) ?_) x1.i fun v K2 H2 x2 r => q v K2 H2 (x1.trans x2) r
      rw [List.all_map]
      rfl
theorem tx_low {t : T8} (h : isTx (some t) = true) : lowT t := fun c hc => List.all_eq_true.mp h c hc
def spLisO (K : PySem.W.Frag) : Sp := SpF (fun (x : (Nat × List Arw) × Option T8) => a1 (rTold K) ((x.1.1 : Int), x.1.2) (a1 (rTh K) x.2 a0)) (fun x => PartP x.1.1 x.1.2 ∧ okTh x.2 ∧ ∀ t, x.2 = some t → t.length ≤ 400) (fun _ => rB) (fun x => strO x.1.1 x.1.2 x.2)
theorem ok_lisO (T : Tx K mg) : Fk P w K mg base CX0 2 (He.ga K "_law_is_stretch") ["_law_parts", "_law_thing"] (spLisO K) := by
  refine k0_law_is_stretch T (spf_len fun _ => a1_len (a1_len a0_len)) (fun cdv A outer s H vs Q E hr h => ?_)
  refine ⟨_, (pss_one (ps_ret (pe_and (pe_fk (ok_litO T) (hr.mono (by decide)) T.g_law_is_text pass0 (pa_cons (pv 1) (pa_cons pe_int (pa_cons pe_int pa_nil)))) (pe_one (pe_cmpR op_gt (pe_callB call_len (by rfl) T.n_len boot_len (pa_cons (pe_fk (ok_law_ends T) (hr.mono (by decide)) T.g_law_ends pass0 (pa_cons (pv 0) (pa_cons (pv 1) pa_nil))) pa_nil)) pe_int (nomark _)))))), ?_⟩
  obtain ⟨⟨⟨n, ar⟩, o⟩, Hm, ⟨pp, ok, z⟩, ⟨v1, ws, rfl, r1, v2, ws2, rfl, r2, rfl⟩, hi, q⟩ := h
  dsimp only at pp ok z r1 r2 q
  have e1 : Ev (tCall (spLitO K) [] E0 (tCons (tVar 1) (tCons (tC (.int 0)) (tCons (tC (.int 400)) tNil)))) [some v1, some v2] Hm rB (isTx o && lenB 0 400 o) := ev_call (x := (o, (0 : Int), (400 : Int))) ok (ea_cons (ev_v (i := 1) rfl r2) (ea_cons ev_i (ea_cons ev_i ea_nil)))
  cases o with
  | none => exact s_ret (Ev.is (ev_and e1 (b := false) fun h => by cases h) rfl) hi q
  | some t =>
    have tz := z t rfl
    have eb : lenB 0 400 (some t) = true := by
      show (decide ((0 : Int) ≤ (t.length : Int)) && decide ((t.length : Int) ≤ 400)) = true
      rw [Bool.and_eq_true, decide_eq_true_iff, decide_eq_true_iff]
      omega
    refine s_ret (Ev.is (ev_and (Ev.is e1 (show _ = isTx (some t) by rw [eb, Bool.and_true])) (b := strB n ar t) fun h => ev_there pp (tx_low h) (by omega) (ev_v rfl r1) (ev_v (R := rS) rfl r2)) ?_) hi q
    rfl
end
end NJ

set_option Elab.async false
set_option linter.all false
set_option maxRecDepth 100000
set_option maxHeartbeats 4000000
namespace NJ
open PySem PySem.Spec PyProof.Rows L2
section
variable {P : Program} {w : World} {K : PySem.W.Frag} {mg : Str → Option Value} {base : Heap}
/-- small texts -/
def okL (xs : List T8) : Prop := xs.length ≤ 1000 ∧ ∀ x ∈ xs, x.length ≤ 1000
theorem okL.big {xs : List T8} (h : okL xs) : xs.length ≤ 16000000 := by
  have := h.1
  omega
theorem okL.at {xs : List T8} (h : okL xs) {x : T8} (hx : x ∈ xs) : x.length ≤ 16000000 := by
  have := h.2 x hx
  omega
theorem okL.sd {xs : List T8} (h : okL xs) : okL (sd xs) := ⟨Nat.le_trans sd_len h.1, fun x hx => h.2 x (mem_sd.mp hx)⟩
theorem okL.rev {xs : List T8} (h : okL xs) : okL (srtT (xs.map List.reverse)) := ⟨by rw [(srtT_perm _).length_eq, List.length_map]; exact h.1, fun x hx => by
  obtain ⟨z, hz, rfl⟩ := List.mem_map.mp ((srtT_perm _).mem_iff.mp hx)
  rw [List.length_reverse]
  exact h.2 z hz⟩
/-- beginning_texts(listed) -/
def spBegin (K : PySem.W.Frag) : Sp := SpF (fun (xs : List T8) => a1 (rL K rS) xs a0) okL (fun _ => rD) begF
theorem ok_beginning_texts (T : Tx K mg) : Fk P w K mg base CX0 1 (He.ga K "beginning_texts") ["listed"] (spBegin K) := by
  refine k0_beginning_texts T (spf_len fun _ => a1_len a0_len) (fun cdv A outer s H vs Q E hr h => ?_)
  refine ⟨_, (pss_one (ps_ret (pe_dc (g := gTup K 2 (gCons (gName 1) (gCons (gName 2) gNil))) (own := [("one", 1), ("other", 2)]) rfl c_beginning_texts.nd (pi_zip (by rfl) T.n_zip (pa_cons (pv 0) (pa_cons (pe_slice sl_list (pv 0) (po_some pe_int) po_none) pa_nil))) (blkOk_by (N := ["listed", "one", "other"]) (sc := defScope s_beginning_texts) (by decide +kernel)) (fun _ _ _ _ _ => (pg_tup rfl (pgs_cons (pg_name (i := 1) c_beginning_texts.nd rfl (by first | exact Or.inl rfl | exact Or.inr rfl)) (pgs_cons (pg_name (i := 2) c_beginning_texts.nd rfl (by first | exact Or.inl rfl | exact Or.inr rfl)) pgs_nil)))) (fun _ _ _ _ _ => (pts_one (pt_val (pe_m1 PySem.F.slot_str_startswith PySem.F.type_str_startswith mt_startswith (pv 2) (pv 1))))) (fun _ _ _ _ _ => (pv 1)) (fun _ _ _ _ _ => pe_bl)))), ?_⟩
  obtain ⟨xs, Hm, ok, ⟨v, ws, rfl, r, rfl⟩, hi, q⟩ := h
  refine s_ret (Ev.is (ev_dcT (xs := xs.zip (xs.drop 1)) (S := rB) (e0 := true) (fun p => p.1.isPrefixOf p.2) (·.1) (wk_zip (R := rS) (S := rS) (ea_cons (ev_v rfl r) (ea_cons (Ev.is (ev_slL (ev_v rfl r) (eo_some ev_i) eo_none) (cut_drop xs 1)) ea_nil))) (by rw [List.length_zip]; exact Nat.le_trans (Nat.min_le_left _ _) ok.big) fun p hp v K3 s3 r3 => ?_) rfl) hi q
  obtain ⟨x, y, r1, r2, tk⟩ := tk_pair (σ := wipe _ _) (i := 1) (j := 2) r3
  exact ⟨_, tk, rfl, et_test (ev_starts (ev_v rfl r2) (ev_v rfl r1)), fun _ => ⟨ev_v rfl r1, ev_b⟩⟩
end
section
variable {P : Program} {w : World} {K : PySem.W.Frag} {mg : Str → Option Value} {base : Heap}
/-- a list | a tuple of texts -/
def aTs (K : PySem.W.Frag) (b : Bool) (xs : List T8) : Ar := match b with
  | true => a1 (rT K rS) xs a0
  | false => a1 (rL K rS) xs a0
def spLc (K : PySem.W.Frag) : Sp := SpF (fun (x : Bool × List T8) => aTs K x.1 x.2) (fun x => okL x.2) (fun _ => rO (rP K rS rS)) (fun x => lcF x.2)
theorem aTs_len (b : Bool) (xs : List T8) : ∀ H vs, (aTs K b xs).rel H vs → vs.length = 1 := by
  cases b
  · exact a1_len a0_len
  · exact a1_len a0_len
theorem ok_least_clash (T : Tx K mg) : Fk P w K mg base CX0 2 (He.ga K "least_clash") ["texts"] (spLc K) := by
  refine k0_least_clash T (spf_len fun _ => aTs_len _ _) (fun cdv A outer s H vs Q E hr h => ?_)
  obtain ⟨⟨b, xs⟩, Hm, ok, a, hi, q⟩ := h
  dsimp only at ok a q
  cases b with
  | false =>
    obtain ⟨v, ws, rfl, r, rfl⟩ := a
    refine ⟨_, (pss_cons (ps_set (i := 1) c_least_clash.nd rfl (by first | exact Or.inl rfl | exact Or.inr rfl) (pe_callB (cr_sortSet rfl (hu100 hr)) (by rfl) T.n_sorted boot_sorted (pa_cons (pe_callTy (cr_setL rfl) (by rfl) T.n_set boot_set (pa_cons (pv 0) pa_nil)) pa_nil)))
  (pss_cons (ps_set (i := 2) c_least_clash.nd rfl (by first | exact Or.inl rfl | exact Or.inr rfl) (pe_fk (ok_beginning_texts T) (hr.mono (by decide)) T.g_beginning_texts pass0 (pa_cons (pv 1) pa_nil)))
  (pss_cons (ps_set (i := 3) c_least_clash.nd rfl (by first | exact Or.inl rfl | exact Or.inr rfl) (pe_fk (ok_beginning_texts T) (hr.mono (by decide)) T.g_beginning_texts pass0 (pa_cons (pe_callB (cr_sortD (hu100 hr)) (by rfl) T.n_sorted boot_sorted (pa_cons (pe_lc (own := [("text", 7)]) rfl c_least_clash.nd (pi_list (pv 1)) (blkOk_by (N := ["texts", "listed", "beginning", "ending", "clashing", "one", "others", "text"]) (sc := defScope s_least_clash) (by decide +kernel)) (fun _ _ _ _ _ => (pg_name (i := 7) c_least_clash.nd rfl (by first | exact Or.inl rfl | exact Or.inr rfl))) (fun _ _ _ _ _ => pts_nil) (fun _ _ _ _ _ => (pe_revS (pv 7)))) pa_nil)) pa_nil)))
  (pss_cons (ps_setLc (i := 4) (own := [("text", 7)]) rfl c_least_clash.nd rfl (by rfl) (sw_true rfl rfl rfl (by decide +kernel)) (pi_list (pv 1)) (blkOk_by (N := ["texts", "listed", "beginning", "ending", "clashing", "one", "others", "text"]) (sc := defScope s_least_clash) (by decide +kernel)) (fun _ _ _ _ _ => (pg_name (i := 7) c_least_clash.nd rfl (by first | exact Or.inl rfl | exact Or.inr rfl))) (fun _ _ _ _ _ => (pts_one (PW.pt (pw_or (pt_cmp (pc_din (hu_of hr) (pv 7) (pv 2))) (pw_or1 (pt_cmp (pc_din (hu_of hr) (pe_revS (pv 7)) (pv 3)))))))) (fun _ _ _ _ _ => (pv 7)))
  (pss_cons (ps_if (pt_not (pt_truth (pv 4) (fun _ => rfl))) (pss_one (ps_ret pe_non)) pss_nil)
  (pss_cons (ps_set (i := 5) c_least_clash.nd rfl (by first | exact Or.inl rfl | exact Or.inr rfl) (pe_ix ix_list (pv 4) pe_int (fun _ _ => rfl)))
  (pss_cons (ps_setLc (i := 6) (own := [("text", 7)]) rfl c_least_clash.nd rfl (by rfl) (sw_true rfl rfl rfl (by decide +kernel)) (pi_list (pv 1)) (blkOk_by (N := ["texts", "listed", "beginning", "ending", "clashing", "one", "others", "text"]) (sc := defScope s_least_clash) (by decide +kernel)) (fun _ _ _ _ _ => (pg_name (i := 7) c_least_clash.nd rfl (by first | exact Or.inl rfl | exact Or.inr rfl))) (fun _ _ _ _ _ => (pts_one (PW.pt (pw_and (pt_cmpR op_ne (pv 7) (pv 5) (nomark _)) (pw_and1 (PW.pt (pw_or (pt_val (pe_m1 PySem.F.slot_str_startswith PySem.F.type_str_startswith mt_startswith (pv 7) (pv 5))) (pw_or1 (pt_val (pe_m1 PySem.F.slot_str_endswith PySem.F.type_str_endswith mt_endswith (pv 7) (pv 5))))))))))) (fun _ _ _ _ _ => (pv 7)))
  (pss_one (ps_ret (pe_tup (pa_cons (pv 5) (pa_cons (pe_ix ix_list (pv 6) pe_int (fun _ _ => rfl)) pa_nil)))))))))))), ?_⟩
    refine q_set (ev_ssetL (ev_v rfl r) ok.1) hi fun v1 K1 H1 x1 r1 => ?_
    refine q_set (ev_call (x := sd xs) ok.sd (ea_cons (ev_v rfl r1) ea_nil)) x1.i fun v2 K2 H2 x2 r2 => ?_
    have r1a := (rL K rS).mono x2.s r1
    refine q_set (ev_call (x := srtT ((sd xs).map List.reverse)) ok.sd.rev (ea_cons (ev_cb (ea_cons (ev_lc0 (S := rS) List.reverse (wk_list (ev_v rfl r1a)) ok.sd.big fun c hc u K3 s3 rc => ⟨_, tk_name, rfl, ev_revS (ev_v rfl rc) (ok.sd.at hc)⟩) ea_nil) (rc_sortS (by rw [List.length_map]; exact ok.sd.big))) ea_nil)) x2.i fun v3 K3 H3 x3 r3 => ?_
    have r1b := (rL K rS).mono x3.s r1a
    have r2b := rD.mono x3.s r2
    refine q_set (ev_lc (K := K) (S := rS) (fun t => decide (t ∈ begF (sd xs)) || decide (t.reverse ∈ begF (srtT ((sd xs).map List.reverse)))) id (wk_list (ev_v rfl r1b)) ok.sd.big fun c hc u K4 s4 rc => ⟨_, tk_name, rfl, et_or (et_B (ev_din (ev_v rfl rc) (ev_v rfl (rD.mono s4 r2b)))) fun _ => et_B (ev_din (ev_revS (ev_v rfl rc) (ok.sd.at hc)) (ev_v rfl (rD.mono s4 r3))), fun _ => ev_v rfl rc⟩) x3.i fun v4 K4 H4 x4 r4 => ?_
    rw [List.map_id] at r4
    have r4a : (rL K rS).rel K4 v4 (clashing xs) := r4
    have r1c := (rL K rS).mono x4.s r1b
    have xx := ((x1.trans x2).trans x3).trans x4
    refine q_when (et_not (et_truthL (ev_v rfl r4a))) x4.i (fun hb K5 H5 x5 => ?_) (fun hb K5 H5 x5 => ?_)
    · have e : clashing xs = [] := by
        cases z : clashing xs with
        | nil => rfl
        | cons a b =>
          rw [z] at hb
          cases hb
      have e2 : lcF xs = none := by
        unfold lcF
        rw [e]
      rw [e2] at q
      exact s_ret (ev_none ev_n) x5.i fun v K6 H6 x6 r6 => q v K6 H6 ((xx.trans x5).trans x6) r6
    · obtain ⟨one, rest, e⟩ : ∃ one rest, clashing xs = one :: rest := by
        cases z : clashing xs with
        | nil =>
          rw [z] at hb
          cases hb
        | cons a b => exact ⟨a, b, rfl⟩
      have e1 : one ∈ clashing xs := by rw [e]; exact List.mem_cons_self
      have e2 := others_some e1
      obtain ⟨o, os, eo⟩ : ∃ o os, others xs one = o :: os := by
        cases z : others xs one with
        | nil => exact absurd z e2
        | cons a b => exact ⟨a, b, rfl⟩
      have e3 : lcF xs = some (one, o) := by
        unfold lcF
        rw [e]
        dsimp only
        rw [eo] <;> rfl
      rw [e3] at q
      refine q_set (ev_op (ev_v rfl ((rL K rS).mono x5.s r4a)) ev_i (rv_ixL (j := 0) rfl (by rw [e] <;> rfl))) x5.i fun v6 K6 H6 x6 r6 => ?_
      have r1d := (rL K rS).mono (x5.trans x6).s r1c
      have r6a : rS.rel K6 v6 one := r6
      refine q_set (ev_lc (K := K) (S := rS) (fun t => (!decide (t = one)) && (one.isPrefixOf t || one.isSuffixOf t)) id (wk_list (ev_v rfl r1d)) ok.sd.big fun c hc u K7 s7 rc => ⟨_, tk_name, rfl, et_and (et_test (ev_op (ev_v rfl rc) (ev_v rfl (rS.mono s7 r6a)) rv_neS)) fun _ => et_or (et_test (ev_starts (ev_v rfl rc) (ev_v rfl (rS.mono s7 r6a)))) fun _ => et_test (ev_ends (ev_v rfl rc) (ev_v rfl (rS.mono s7 r6a))), fun _ => ev_v rfl rc⟩) x6.i fun v7 K7 H7 x7 r7 => ?_
      rw [List.map_id] at r7
      have r7a : (rL K rS).rel K7 v7 (others xs one) := r7
      exact s_ret (ev_some (ev_pair (ea_cons (ev_v rfl (rS.mono x7.s r6a)) (ea_cons (ev_op (ev_v rfl r7a) ev_i (rv_ixL (j := 0) rfl (by rw [eo] <;> rfl))) ea_nil)))) x7.i fun v K8 H8 x8 r8 => q v K8 H8 ((((xx.trans x5).trans x6).trans x7).trans x8) r8
  | true =>
    obtain ⟨v, ws, rfl, r, rfl⟩ := a
    refine ⟨_, (pss_cons (ps_set (i := 1) c_least_clash.nd rfl (by first | exact Or.inl rfl | exact Or.inr rfl) (pe_callB (cr_sortSet rfl (hu100 hr)) (by rfl) T.n_sorted boot_sorted (pa_cons (pe_callTy (cr_setT rfl) (by rfl) T.n_set boot_set (pa_cons (pv 0) pa_nil)) pa_nil)))
  (pss_cons (ps_set (i := 2) c_least_clash.nd rfl (by first | exact Or.inl rfl | exact Or.inr rfl) (pe_fk (ok_beginning_texts T) (hr.mono (by decide)) T.g_beginning_texts pass0 (pa_cons (pv 1) pa_nil)))
  (pss_cons (ps_set (i := 3) c_least_clash.nd rfl (by first | exact Or.inl rfl | exact Or.inr rfl) (pe_fk (ok_beginning_texts T) (hr.mono (by decide)) T.g_beginning_texts pass0 (pa_cons (pe_callB (cr_sortD (hu100 hr)) (by rfl) T.n_sorted boot_sorted (pa_cons (pe_lc (own := [("text", 7)]) rfl c_least_clash.nd (pi_list (pv 1)) (blkOk_by (N := ["texts", "listed", "beginning", "ending", "clashing", "one", "others", "text"]) (sc := defScope s_least_clash) (by decide +kernel)) (fun _ _ _ _ _ => (pg_name (i := 7) c_least_clash.nd rfl (by first | exact Or.inl rfl | exact Or.inr rfl))) (fun _ _ _ _ _ => pts_nil) (fun _ _ _ _ _ => (pe_revS (pv 7)))) pa_nil)) pa_nil)))
  (pss_cons (ps_setLc (i := 4) (own := [("text", 7)]) rfl c_least_clash.nd rfl (by rfl) (sw_true rfl rfl rfl (by decide +kernel)) (pi_list (pv 1)) (blkOk_by (N := ["texts", "listed", "beginning", "ending", "clashing", "one", "others", "text"]) (sc := defScope s_least_clash) (by decide +kernel)) (fun _ _ _ _ _ => (pg_name (i := 7) c_least_clash.nd rfl (by first | exact Or.inl rfl | exact Or.inr rfl))) (fun _ _ _ _ _ => (pts_one (PW.pt (pw_or (pt_cmp (pc_din (hu_of hr) (pv 7) (pv 2))) (pw_or1 (pt_cmp (pc_din (hu_of hr) (pe_revS (pv 7)) (pv 3)))))))) (fun _ _ _ _ _ => (pv 7)))
  (pss_cons (ps_if (pt_not (pt_truth (pv 4) (fun _ => rfl))) (pss_one (ps_ret pe_non)) pss_nil)
  (pss_cons (ps_set (i := 5) c_least_clash.nd rfl (by first | exact Or.inl rfl | exact Or.inr rfl) (pe_ix ix_list (pv 4) pe_int (fun _ _ => rfl)))
  (pss_cons (ps_setLc (i := 6) (own := [("text", 7)]) rfl c_least_clash.nd rfl (by rfl) (sw_true rfl rfl rfl (by decide +kernel)) (pi_list (pv 1)) (blkOk_by (N := ["texts", "listed", "beginning", "ending", "clashing", "one", "others", "text"]) (sc := defScope s_least_clash) (by decide +kernel)) (fun _ _ _ _ _ => (pg_name (i := 7) c_least_clash.nd rfl (by first | exact Or.inl rfl | exact Or.inr rfl))) (fun _ _ _ _ _ => (pts_one (PW.pt (pw_and (pt_cmpR op_ne (pv 7) (pv 5) (nomark _)) (pw_and1 (PW.pt (pw_or (pt_val (pe_m1 PySem.F.slot_str_startswith PySem.F.type_str_startswith mt_startswith (pv 7) (pv 5))) (pw_or1 (pt_val (pe_m1 PySem.F.slot_str_endswith PySem.F.type_str_endswith mt_endswith (pv 7) (pv 5))))))))))) (fun _ _ _ _ _ => (pv 7)))
  (pss_one (ps_ret (pe_tup (pa_cons (pv 5) (pa_cons (pe_ix ix_list (pv 6) pe_int (fun _ _ => rfl)) pa_nil)))))))))))), ?_⟩
    refine q_set (ev_ssetT (ev_v rfl r) ok.1) hi fun v1 K1 H1 x1 r1 => ?_
    refine q_set (ev_call (x := sd xs) ok.sd (ea_cons (ev_v rfl r1) ea_nil)) x1.i fun v2 K2 H2 x2 r2 => ?_
    have r1a := (rL K rS).mono x2.s r1
    refine q_set (ev_call (x := srtT ((sd xs).map List.reverse)) ok.sd.rev (ea_cons (ev_cb (ea_cons (ev_lc0 (S := rS) List.reverse (wk_list (ev_v rfl r1a)) ok.sd.big fun c hc u K3 s3 rc => ⟨_, tk_name, rfl, ev_revS (ev_v rfl rc) (ok.sd.at hc)⟩) ea_nil) (rc_sortS (by rw [List.length_map]; exact ok.sd.big))) ea_nil)) x2.i fun v3 K3 H3 x3 r3 => ?_
    have r1b := (rL K rS).mono x3.s r1a
    have r2b := rD.mono x3.s r2
    refine q_set (ev_lc (K := K) (S := rS) (fun t => decide (t ∈ begF (sd xs)) || decide (t.reverse ∈ begF (srtT ((sd xs).map List.reverse)))) id (wk_list (ev_v rfl r1b)) ok.sd.big fun c hc u K4 s4 rc => ⟨_, tk_name, rfl, et_or (et_B (ev_din (ev_v rfl rc) (ev_v rfl (rD.mono s4 r2b)))) fun _ => et_B (ev_din (ev_revS (ev_v rfl rc) (ok.sd.at hc)) (ev_v rfl (rD.mono s4 r3))), fun _ => ev_v rfl rc⟩) x3.i fun v4 K4 H4 x4 r4 => ?_
    rw [List.map_id] at r4
    have r4a : (rL K rS).rel K4 v4 (clashing xs) := r4
    have r1c := (rL K rS).mono x4.s r1b
    have xx := ((x1.trans x2).trans x3).trans x4
    refine q_when (et_not (et_truthL (ev_v rfl r4a))) x4.i (fun hb K5 H5 x5 => ?_) (fun hb K5 H5 x5 => ?_)
    · have e : clashing xs = [] := by
        cases z : clashing xs with
        | nil => rfl
        | cons a b =>
          rw [z] at hb
          cases hb
      have e2 : lcF xs = none := by
        unfold lcF
        rw [e]
      rw [e2] at q
      exact s_ret (ev_none ev_n) x5.i fun v K6 H6 x6 r6 => q v K6 H6 ((xx.trans x5).trans x6) r6
    · obtain ⟨one, rest, e⟩ : ∃ one rest, clashing xs = one :: rest := by
        cases z : clashing xs with
        | nil =>
          rw [z] at hb
          cases hb
        | cons a b => exact ⟨a, b, rfl⟩
      have e1 : one ∈ clashing xs := by rw [e]; exact List.mem_cons_self
      have e2 := others_some e1
      obtain ⟨o, os, eo⟩ : ∃ o os, others xs one = o :: os := by
        cases z : others xs one with
        | nil => exact absurd z e2
        | cons a b => exact ⟨a, b, rfl⟩
      have e3 : lcF xs = some (one, o) := by
        unfold lcF
        rw [e]
        dsimp only
        rw [eo] <;> rfl
      rw [e3] at q
      refine q_set (ev_op (ev_v rfl ((rL K rS).mono x5.s r4a)) ev_i (rv_ixL (j := 0) rfl (by rw [e] <;> rfl))) x5.i fun v6 K6 H6 x6 r6 => ?_
      have r1d := (rL K rS).mono (x5.trans x6).s r1c
      have r6a : rS.rel K6 v6 one := r6
      refine q_set (ev_lc (K := K) (S := rS) (fun t => (!decide (t = one)) && (one.isPrefixOf t || one.isSuffixOf t)) id (wk_list (ev_v rfl r1d)) ok.sd.big fun c hc u K7 s7 rc => ⟨_, tk_name, rfl, et_and (et_test (ev_op (ev_v rfl rc) (ev_v rfl (rS.mono s7 r6a)) rv_neS)) fun _ => et_or (et_test (ev_starts (ev_v rfl rc) (ev_v rfl (rS.mono s7 r6a)))) fun _ => et_test (ev_ends (ev_v rfl rc) (ev_v rfl (rS.mono s7 r6a))), fun _ => ev_v rfl rc⟩) x6.i fun v7 K7 H7 x7 r7 => ?_
      rw [List.map_id] at r7
      have r7a : (rL K rS).rel K7 v7 (others xs one) := r7
      exact s_ret (ev_some (ev_pair (ea_cons (ev_v rfl (rS.mono x7.s r6a)) (ea_cons (ev_op (ev_v rfl r7a) ev_i (rv_ixL (j := 0) rfl (by rw [eo] <;> rfl))) ea_nil)))) x7.i fun v K8 H8 x8 r8 => q v K8 H8 ((((xx.trans x5).trans x6).trans x7).trans x8) r8
end
end NJ

set_option Elab.async false
set_option linter.all false
set_option maxRecDepth 100000
set_option maxHeartbeats 8000000
/-! Books with words. -/
namespace NJ
open PySem PySem.Spec PyProof.Rows L2
abbrev BK (K : PySem.W.Frag) : Addr := He.ga K "Book"
/-- words of a book -/
structure WsP (n : Nat) (ar : List Arw) (ws : List T8) : Prop where
  z : ws.length ≤ 400
  w : ∀ x ∈ ws, lowT x ∧ 1 ≤ x.length ∧ x.length ≤ 60 ∧ strB n ar x = true
  asc : ws.Pairwise (· < ·)
  cl : ∀ x ∈ ws, ∀ y ∈ ws, x ≠ y → ¬ x <+: y ∧ ¬ x <:+ y
theorem WsP.nil {n : Nat} {ar : List Arw} : WsP n ar [] := ⟨by decide, fun x h => absurd h (by simp), .nil, fun x h => absurd h (by simp)⟩
theorem WsP.lc {n : Nat} {ar : List Arw} {ws : List T8} (h : WsP n ar ws) : lcF ws = none := lcF_is_none fun p ⟨a, b, c, d⟩ => by
  have ne : p.1 ≠ p.2 := fun e => by rw [e] at c; omega
  obtain ⟨e1, e2⟩ := h.cl _ a _ b ne
  rcases d with d | d
  · exact e1 d
  · exact e2 d
def ascT (ws : List T8) : Bool := ((ws.zip (ws.drop 1)).map fun p => decide (p.1 < p.2)).all id
theorem ascT_of : ∀ {ws : List T8}, ws.Pairwise (· < ·) → ascT ws = true
  | [], _ => rfl
  | [a], _ => rfl
  | a :: b :: l, h => by
    cases h with
    | cons h1 h2 =>
      have ih := ascT_of h2
      have h3 := h1 b List.mem_cons_self
      unfold ascT at ih ⊢
      show (decide (a < b) && (((b :: l).zip l).map fun p => decide (p.1 < p.2)).all id) = true
      rw [Bool.and_eq_true, decide_eq_true_iff]
      exact ⟨h3, ih⟩
section
variable {P : Program} {w : World} {K : PySem.W.Frag} {mg : Str → Option Value} {base : Heap}
def spAscT (K : PySem.W.Frag) : Sp := SpF (fun (ws : List T8) => a1 (rT K rS) ws a0) (fun ws => ws.length ≤ 1000) (fun _ => rB) ascT
theorem ok_ascT (T : Tx K mg) : Fk P w K mg base CX0 1 (He.ga K "are_ascending") ["row"] (spAscT K) := by
  refine k0_are_ascending T (spf_len fun _ => a1_len a0_len) (fun cdv A outer s H vs Q E hr h => ?_)
  refine ⟨_, (pss_one (ps_ret (pe_callB (cr_all rfl) (by rfl) T.n_all boot_all (pa_cons (pe_lc (g := gTup K 2 (gCons (gName 1) (gCons (gName 2) gNil))) (own := [("one", 1), ("other", 2)]) rfl c_are_ascending.nd (RZ.pi_zipA (by rfl) T.n_zip (pa_cons (pv 0) (pa_cons (pe_slice sl_tupA (pv 0) (po_some pe_int) po_none) pa_nil))) (blkOk_by (N := ["row", "one", "other"]) (sc := defScope s_are_ascending) (by decide +kernel)) (fun _ _ _ _ _ => (pg_tup rfl (pgs_cons (pg_name (i := 1) c_are_ascending.nd rfl (by first | exact Or.inl rfl | exact Or.inr rfl)) (pgs_cons (pg_name (i := 2) c_are_ascending.nd rfl (by first | exact Or.inl rfl | exact Or.inr rfl)) pgs_nil)))) (fun _ _ _ _ _ => pts_nil) (fun _ _ _ _ _ => (pe_cmpR op_lt_str (pv 1) (pv 2) (nomark _)))) pa_nil)))), ?_⟩
  obtain ⟨ws', Hm, hz, ⟨v1, ws, rfl, r1, rfl⟩, hi, q⟩ := h
  exact s_ret (ev_cb (ea_cons (ev_lc0 (K := K) (S := rB) (R := rP K rS rS) (fun p => decide (p.1 < p.2)) (wk_zipT (R := rS) (S := rS) (ea_cons (ev_v rfl r1) (ea_cons (Ev.is (ev_slT (ev_v rfl r1) (eo_some ev_i) eo_none) (cut_drop ws' 1)) ea_nil))) (by rw [List.length_zip]; have := Nat.min_le_left ws'.length (ws'.drop 1).length; omega) fun d hd v K3 s3 r3 => by
    obtain ⟨x, y, ra, rb, tk⟩ := tk_pair (σ := wipe _ _) (i := 1) (j := 2) r3
    exact ⟨_, tk, rfl, ev_op (ev_v (R := rS) (d := d.1) rfl ra) (ev_v (R := rS) (d := d.2) rfl rb) rv_ltS⟩) ea_nil) rc_all) hi q
def spWords (K : PySem.W.Frag) : Sp := SpF (fun (x : (Nat × List Arw) × List T8) => a1 (rT K rS) x.2 a0) (fun x => WsP x.1.1 x.1.2 x.2) (fun _ => rB) (fun _ => true)
theorem long_ok {l : T8} (h : lowT l) (h1 : 1 ≤ l.length) (h2 : l.length ≤ 60) : (isTx (some l) && (decide ((1 : Int) ≤ (l.length : Int)) && decide ((l.length : Int) ≤ 60))) = true := by
  rw [low_isTx h, Bool.true_and, Bool.and_eq_true, decide_eq_true_iff, decide_eq_true_iff]
  omega
theorem all_map_true {α : Type} {xs : List α} : (xs.map fun _ => true).all id = true := by
  rw [List.all_map, List.all_eq_true]
  exact fun _ _ => rfl
theorem ok_words (T : Tx K mg) : Fk P w K mg base CX0 3 (He.ga K "are_words") ["thing"] (spWords K) := by
  refine k0_are_words T (spf_len fun _ => a1_len a0_len) (fun cdv A outer s H vs Q E hr h => ?_)
  obtain ⟨tA, h_MOST_WORDS⟩ := T.i_MOST_WORDS
  obtain ⟨tB, h_LONGEST_WORD⟩ := T.i_LONGEST_WORD
  refine ⟨_, (pss_cons (ps_if (PW.pt (pw_or (pt_not (pt_val (pe_callB call_isi (by rfl) T.n_isinstance boot_isinstance (pa_cons (pv 0) (pa_cons (pe_bltn (v := .ty "tuple") (by rfl) T.n_tuple boot_tuple rfl) pa_nil))))) (pw_or1 (pt_cmpR op_gt (pe_callB call_len (by rfl) T.n_len boot_len (pa_cons (pv 0) pa_nil)) (pe_glob (v := .int 400) (by rfl) h_MOST_WORDS ⟨_, rfl⟩) (nomark _))))) pss_dead pss_nil)
  (pss_one (ps_ret (pe_and (pe_callB (cr_all rfl) (by rfl) T.n_all boot_all (pa_cons (pe_lc (own := [("item", 1)]) rfl c_are_words.nd (pi_tup (pv 0)) (blkOk_by (N := ["thing", "item"]) (sc := defScope s_are_words) (by decide +kernel)) (fun _ _ _ _ _ => (pg_name (i := 1) c_are_words.nd rfl (by first | exact Or.inl rfl | exact Or.inr rfl))) (fun _ _ _ _ _ => pts_nil) (fun _ _ _ _ _ => (pe_fk (ok_is_long_text T) (hr.mono (by decide)) T.g_is_long_text pass0 (pa_cons pe_int (pa_cons (pe_glob (v := .int 60) (by rfl) h_LONGEST_WORD ⟨_, rfl⟩) (pa_cons (pv 1) pa_nil)))))) pa_nil)) (pe_one (pe_fk (ok_ascT T) (hr.mono (by decide)) T.g_are_ascending pass0 (pa_cons (pv 0) pa_nil))))))), ?_⟩
  obtain ⟨⟨⟨n, ar⟩, ws⟩, Hm, wp, ⟨v1, vs', rfl, r1, rfl⟩, hi, q⟩ := h
  dsimp only at wp r1 q
  have wz := wp.z
  refine q_when (b := !true || decide ((ws.length : Int) > 400)) (et_or (et_not (et_test (ev_isi (ev_v rfl (GW.ty_rtA r1)) GW.kit_tt))) fun _ => et_test (ev_op (ev_cb (ea_cons (ev_v rfl r1) ea_nil) rc_lenT) ev_i rv_b0)) hi (fun hb => absurd hb (by simp; omega)) (fun _ K1 H1 x1 => ?_)
  have r1a := (rT K rS).mono x1.s r1
  exact s_ret (Ev.is (ev_and (ev_cb (ea_cons (ev_lc0 (K := K) (S := rB) (R := rS) (fun _ => true) (wk_tup (ev_v rfl r1a)) (by omega) fun d hd v K3 s3 r3 => ⟨_, tk_name, rfl, Ev.is (ev_call (x := ((1 : Int), (60 : Int), some d)) (by show d.length ≤ 16000000; have := (wp.w d hd).2.2.1; omega) (ea_cons ev_i (ea_cons ev_i (ea_cons (ev_v (R := rTh K) (d := some d) rfl r3) ea_nil)))) (long_ok (wp.w d hd).1 (wp.w d hd).2.1 (wp.w d hd).2.2.1)⟩) ea_nil) rc_all) fun _ => ev_call (x := ws) (by omega) (ea_cons (ev_v rfl r1a) ea_nil)) (by rw [all_map_true, ascT_of wp.asc] <;> rfl)) x1.i fun v K2 H2 x2 r2 => q v K2 H2 (x1.trans x2) r2
def spWpb (K : PySem.W.Frag) : Sp := SpF (fun (x : (Nat × List Arw) × List T8) => a1 (GW.rWeb K) ((x.1.1 : Int), x.1.2) (a1 (rT K rS) x.2 a0)) (fun x => okW x.1.1 x.1.2 ∧ WsP x.1.1 x.1.2 x.2) (fun _ => rN) (fun _ => ())
theorem ok_wpb (T : Tx K mg) : Fk P w K mg base CX0 5 (He.ga K "wrong_part_books") ["web", "words"] (spWpb K) := by
  refine k0_wrong_part_books T (spf_len fun _ => a1_len (a1_len a0_len)) (fun cdv A outer s H vs Q E hr h => ?_)
  refine ⟨_, (pss_cons (ps_if (pt_not (pt_val (pe_fk (ok_words T) (hr.mono (by decide)) T.g_are_words pass0 (pa_cons (pv 1) pa_nil)))) pss_dead pss_nil)
  (pss_cons (ps_if (pt_not (pt_val (pe_callB (cr_all rfl) (by rfl) T.n_all boot_all (pa_cons (pe_lc (own := [("word", 2)]) rfl c_wrong_part_books.nd (pi_tup (pv 1)) (blkOk_by (N := ["web", "words", "word"]) (sc := defScope s_wrong_part_books) (by decide +kernel)) (fun _ _ _ _ _ => (pg_name (i := 2) c_wrong_part_books.nd rfl (by first | exact Or.inl rfl | exact Or.inr rfl))) (fun _ _ _ _ _ => pts_nil) (fun _ _ _ _ _ => (pe_fk (ok_is_stretch T) (hr.mono (by decide)) T.g_is_stretch pass0 (pa_cons (pv 0) (pa_cons (pv 2) pa_nil))))) pa_nil)))) pss_dead pss_nil)
  (pss_cons (ps_if (pt_cmpR op_notN (pe_fk (ok_least_clash T) (hr.mono (by decide)) T.g_least_clash pass0 (pa_cons (pv 1) pa_nil)) pe_non (nomark _)) pss_dead pss_nil)
  (pss_one (ps_ret pe_non))))), ?_⟩
  obtain ⟨⟨⟨n, ar⟩, ws⟩, Hm, ⟨hw, wp⟩, ⟨v1, vs1, rfl, r1, v2, vs2, rfl, r2, rfl⟩, hi, q⟩ := h
  dsimp only at hw wp r1 r2 q
  have wz := wp.z
  refine q_when (b := !true) (et_not (et_test (ev_call (x := ((n, ar), ws)) wp (ea_cons (ev_v rfl r2) ea_nil)))) hi (fun hb => by cases hb) (fun _ K1 H1 x1 => ?_)
  have r2a := (rT K rS).mono x1.s r2
  refine q_when (b := !true) (et_not (et_test (Ev.is (ev_cb (ea_cons (ev_lc0 (K := K) (S := rB) (R := rS) (fun _ => true) (wk_tup (ev_v rfl r2a)) (by omega) fun d hd v K3 s3 r3 => ⟨_, tk_name, rfl, Ev.is (ev_stretch (o := some d) hw (by show d.length ≤ 16000000; have := (wp.w d hd).2.2.1; omega) (ev_v rfl ((GW.rWeb K).mono (x1.s.trans s3) r1)) (ev_v (R := rTh K) (d := some d) rfl r3)) (by unfold strO; rw [low_isTx (wp.w d hd).1, Bool.true_and]; exact (wp.w d hd).2.2.2)⟩) ea_nil) rc_all) all_map_true))) x1.i (fun hb => by cases hb) (fun _ K2 H2 x2 => ?_)
  have r2b := (rT K rS).mono x2.s r2a
  refine q_when (b := false) (et_test (Ev.is (ev_op (Ev.conv (R := rO (rP K rS rS)) (d := lcF ws) (S := rV) (e := V.non) (ev_call (x := (true, ws)) ⟨by show ws.length ≤ 1000; omega, fun x hx => by have := (wp.w x hx).2.2.1; show x.length ≤ 1000; omega⟩ (ea_cons (ev_v rfl r2b) ea_nil)) (fun {H v} r => by rw [wp.lc] at r; exact r)) ev_n rv_notN) rfl)) x2.i (fun hb => by cases hb) (fun _ K3 H3 x3 => ?_)
  exact s_ret ev_n x3.i fun v K4 H4 x4 r4 => q v K4 H4 (((x1.trans x2).trans x3).trans x4) r4
/-- an object of the class Book -/
abbrev BkT := (Int × List Arw) × List T8
structure BF (K : PySem.W.Frag) (H : Hp) (fs : List (Str × V)) (x : BkT) : Prop where
  wb : ∃ u, fs.lookup ("web" : Str) = some u ∧ (GW.rWeb K).rel H u x.1
  ws : ∃ u, fs.lookup ("words" : Str) = some u ∧ (rT K rS).rel H u x.2
theorem BF.mono {H H' : Hp} {fs : List (Str × V)} {x : BkT} (s : Same H H') (h : BF K H fs x) : BF K H' fs x := ⟨by
  obtain ⟨u, a, b⟩ := h.wb
  exact ⟨u, a, (GW.rWeb K).mono s b⟩, by
  obtain ⟨u, a, b⟩ := h.ws
  exact ⟨u, a, (rT K rS).mono s b⟩⟩
def rBk (K : PySem.W.Frag) : Rp BkT := ⟨fun H v x => ∃ a dx fs, v = .ref a ∧ H a = some (.ins (BK K) dx fs) ∧ BF K H fs x, fun s ⟨a, dx, fs, e, h, g⟩ => ⟨a, dx, fs, e, s _ _ h, g.mono s⟩⟩
def spBInit (K : PySem.W.Frag) : Sp := fun vs H Q _ => ∃ (x dx : Addr) (u1 u2 : V) (n : Nat) (ar : List Arw) (ws : List T8) (Hm : Hp), vs = [.ref x, u1, u2] ∧ okW n ar ∧ WsP n ar ws ∧ (GW.rWeb K).rel Hm u1 ((n : Int), ar) ∧ (rT K rS).rel Hm u2 ws ∧ Same Hm H ∧ Hm x = none ∧ H x = some (.ins (BK K) dx []) ∧ ∀ H', Bt x H H' → H' x = some (.ins (BK K) dx [("web", u1), ("words", u2)]) → Q .non H'
theorem ok_binit (T : Tx K mg) : Fk P w K mg base CX0 6 (He.ma K (BK K) "__init__") ["self", "web", "words"] (spBInit K) := by
  refine k0_Book__init_ T (fun vs H Q E ⟨x, dx, u1, u2, n, ar, ws, Hm, e, _⟩ => by rw [e] <;> rfl) (fun cdv A outer s H vs Q E hr h => ?_)
  refine ⟨_, (pss_cons (ps_set (i := 3) c_Book__init_.nd rfl (by first | exact Or.inl rfl | exact Or.inr rfl) (pe_fk (ok_wpb T) (hr.mono (by decide)) T.g_wrong_part_books pass0 (pa_cons (pv 1) (pa_cons (pv 2) pa_nil))))
  (pss_cons (ps_if (pt_cmpR op_notN (pv 3) pe_non (nomark _)) pss_dead pss_nil)
  (pss_cons (ps_fld (pv 0) (pv 1) rfl)
  (pss_one (ps_fld (pv 0) (pv 2) rfl))))), ?_⟩
  obtain ⟨x, dx, u1, u2, n, ar, ws, Hm, rfl, hw, wp, r1, r2, hi, nx, hx, q⟩ := h
  refine q_set (ev_call (x := ((n, ar), ws)) ⟨hw, wp⟩ (ea_cons (ev_v rfl r1) (ea_cons (ev_v rfl r2) ea_nil))) hi fun v3 K1 H1 x1 r3 => ?_
  cases r3
  refine q_when (b := false) (t1 := fun _ _ _ => False) (et_test (Ev.is (ev_op (ev_v (R := rV) (d := .non) rfl rfl) ev_n rv_notN) (by rfl))) (hi.trans x1.k) (fun hb => by cases hb) (fun _ K2 H2 x2 => ?_)
  have k2 : Same H H2 := x1.k.trans x2.k
  have hx2 := k2 _ _ hx
  have b0 : Bt x H H2 := fun b o n e => k2 b o e
  refine GW.q_fldR (Hm := Hm) (ev_v (R := rV) (d := u1) rfl rfl) (hi.trans k2) rfl hx2 T.cl_Book T.na_Book_web (by decide) fun y1 K3 H3 x3 g3 => ?_
  cases g3
  have b3 := b0.put x3.k (o := .ins (BK K) dx (putF "web" u1 []))
  have l3 := putF_len "web" u1 []
  refine GW.s_fldR (Hm := Hm) (ev_v (R := rV) (d := u2) rfl rfl) (b3.same hi nx) rfl upd_same T.cl_Book T.na_Book_words (by simp at l3; omega) fun y2 K4 H4 x4 g4 => ?_
  cases g4
  exact q _ (b3.put x4.k) upd_same
/-- Book(web, words) -/
theorem ev_book {σ : L2.St} {Hm : Hp} {ta te : TE} {n : Nat} {ar : List Arw} {ws : List T8} (hw : okW n ar) (wp : WsP n ar ws) (h1 : Ev ta σ Hm (GW.rWeb K) ((n : Int), ar)) (h2 : Ev te σ Hm (rT K rS) ws) : Ev (tMake (BK K) (spBInit K) [] E0 (tCons ta (tCons te tNil))) σ Hm (rBk K) (((n : Int), ar), ws) := fun H1 hi Q q => h1 H1 hi _ fun v K2 H2 x2 r => h2.mono x2.s H2 x2.i _ fun u K3 H3 x3 r3 x dx nx ndx hne => by
  have kx : Same H3 (upd (upd H3 dx (.own x)) x (.ins (BK K) dx [])) := put_new (put_new (Same.refl _) ndx) nx
  refine ⟨x, dx, v, u, n, ar, ws, K3, rfl, hw, wp, (GW.rWeb K).mono x3.s r, r3, x3.i.trans kx, none_back x3.i nx, upd_same, fun H' hb hx' => ⟨rfl, ?_⟩⟩
  have kH : Same H3 H' := fun b o e => hb b o (ne_of_none e nx) (kx b o e)
  have xn := xt_nw x3.i kH
  exact q (.ref x) (nw K3 H3 H') H' ((x2.trans x3).trans xn) ⟨x, dx, _, rfl, (nw_new nx).trans hx', ⟨v, by rfl, (GW.rWeb K).mono (x3.s.trans xn.s) r⟩, ⟨u, by rfl, (rT K rS).mono xn.s r3⟩⟩
theorem ev_bweb {σ : L2.St} {Hm : Hp} {te : TE} {x : BkT} (T : Tx K mg) (h : Ev te σ Hm (rBk K) x) : Ev (tFld K te "web") σ Hm (GW.rWeb K) x.1 := fun H1 hi Q q => h H1 hi _ fun v K2 H2 x2 ⟨a, dx, fs, e, hh, bf⟩ => by
  obtain ⟨u, e1, r1⟩ := bf.wb
  exact ⟨a, BK K, dx, fs, u, e, x2.i _ _ hh, T.cl_Book, T.na_Book_web, e1, q u K2 H2 x2 r1⟩
theorem ev_bwords {σ : L2.St} {Hm : Hp} {te : TE} {x : BkT} (T : Tx K mg) (h : Ev te σ Hm (rBk K) x) : Ev (tFld K te "words") σ Hm (rT K rS) x.2 := fun H1 hi Q q => h H1 hi _ fun v K2 H2 x2 ⟨a, dx, fs, e, hh, bf⟩ => by
  obtain ⟨u, e1, r1⟩ := bf.ws
  exact ⟨a, BK K, dx, fs, u, e, x2.i _ _ hh, T.cl_Book, T.na_Book_words, e1, q u K2 H2 x2 r1⟩
end
end NJ

set_option Elab.async false
set_option linter.all false
set_option maxRecDepth 100000
set_option maxHeartbeats 16000000
/-! Book over anything: the part that is wrong, told. -/
namespace NJ
open PySem PySem.Spec PyProof.Rows L2
def wdO (o : Option T8) : Bool := isTx o && (decide ((1 : Int) ≤ ((o.getD []).length : Int)) && decide (((o.getD []).length : Int) ≤ 60))
def txs (os : List (Option T8)) : List T8 := os.map (·.getD [])
def wdsO (os : List (Option T8)) : Bool := decide ((os.length : Int) ≤ 400) && ((os.map wdO).all id && ascT (txs os))
def wdsR : Option (List (Option T8)) → Bool
  | none => false
  | some os => wdsO os
def tWords : T8 := [119, 111, 114, 100, 115]
def tStretch : T8 := [115, 116, 114, 101, 116, 99, 104]
def tClash : T8 := [99, 108, 97, 115, 104]
/-- the wrong part of a tuple of things, of what is no tuple -/
def wpO (n : Nat) (ar : List Arw) : Option (List (Option T8)) → Option T8
  | none => some tWords
  | some os => if wdsO os = false then some tWords else if ((txs os).map fun l => strO n ar (some l)).all id = false then some tStretch else if (lcF (txs os)).isSome = true then some tClash else none
def rRw (K : PySem.W.Frag) : Rp (Option (List (Option T8))) := ⟨fun H v o => (match o with | some os => (rT K (rTh K)).rel H v os | none => ∃ ty, TyX K H v ty ∧ PySem.W.kitOne K ty (.type "tuple") = some false), fun {H H' v o} s h => by
  cases o with
  | some os => exact (rT K (rTh K)).mono s h
  | none =>
    obtain ⟨ty, a, b⟩ := h
    exact ⟨ty, tyx_mono s a, b⟩⟩
def okRw : Option (List (Option T8)) → Prop
  | none => True
  | some os => os.length ≤ 1000 ∧ ∀ o ∈ os, (o.getD []).length ≤ 1000
theorem okRw.th {os : List (Option T8)} (h : okRw (some os)) {o : Option T8} (ho : o ∈ os) : okTh o := by
  cases o with
  | none => trivial
  | some t => exact Nat.le_trans (h.2 _ ho) (by decide)
theorem mem_txs {os : List (Option T8)} (h : (os.map wdO).all id = true) {t : T8} (ht : t ∈ txs os) : some t ∈ os ∧ wdO (some t) = true := by
  obtain ⟨o, ho, rfl⟩ := List.mem_map.mp ht
  have hw : wdO o = true := List.all_eq_true.mp h _ (List.mem_map_of_mem ho)
  cases o with
  | none =>
    unfold wdO at hw
    cases hw
  | some l => exact ⟨ho, hw⟩
theorem wdO_is {t : T8} (h : wdO (some t) = true) : lowT t ∧ 1 ≤ t.length ∧ t.length ≤ 60 := by
  unfold wdO at h
  rw [Bool.and_eq_true, Bool.and_eq_true, decide_eq_true_iff, decide_eq_true_iff] at h
  have h2 : (1 : Int) ≤ (t.length : Int) ∧ (t.length : Int) ≤ 60 := h.2
  exact ⟨tx_low h.1, by omega, by omega⟩
theorem rt_txs {K : PySem.W.Frag} {H : Hp} {v : V} {os : List (Option T8)} (h : (rT K (rTh K)).rel H v os) (hs : (os.map wdO).all id = true) : (rT K rS).rel H v (txs os) := by
  obtain ⟨a, vs, e, hS, hP⟩ := h
  refine ⟨a, vs, e, hS, ?_⟩
  clear hS
  induction hP with
  | nil => exact .nil
  | @cons v o vs os r rs ih =>
    rw [List.map_cons, List.all_cons, Bool.and_eq_true] at hs
    cases o with
    | none =>
      have := hs.1
      unfold wdO at this
      cases this
    | some l => exact .cons r (ih hs.2)
theorem ascT_pwO : ∀ {ws : List T8}, ascT ws = true → ws.Pairwise (· < ·)
  | [], _ => .nil
  | [x], _ => List.pairwise_singleton _ _
  | x :: y :: ws, h => by
    have e : ascT (x :: y :: ws) = (decide (x < y) && ascT (y :: ws)) := rfl
    rw [e, Bool.and_eq_true, decide_eq_true_iff] at h
    have ih := ascT_pwO h.2
    refine List.pairwise_cons.mpr ⟨fun z hz => ?_, ih⟩
    rcases List.mem_cons.mp hz with rfl | hz
    · exact h.1
    · exact List.lt_trans h.1 ((List.pairwise_cons.mp ih).1 z hz)
/-- right words -/
theorem wpO_none {n : Nat} {ar : List Arw} {o : Option (List (Option T8))} (h : wpO n ar o = none) : ∃ os, o = some os ∧ (os.map wdO).all id = true ∧ WsP n ar (txs os) := by
  cases o with
  | none => cases h
  | some os =>
    unfold wpO at h
    dsimp only at h
    split at h
    · cases h
    · rename_i h1
      split at h
      · cases h
      · rename_i h2
        split at h
        · cases h
        · rename_i h3
          have h1 : wdsO os = true := by simpa using h1
          unfold wdsO at h1
          rw [Bool.and_eq_true, Bool.and_eq_true, decide_eq_true_iff] at h1
          obtain ⟨hz, hw, ha⟩ := h1
          have h2 : ((txs os).map fun l => strO n ar (some l)).all id = true := by simpa using h2
          have lc : lcF (txs os) = none := by
            cases e : lcF (txs os) with
            | none => rfl
            | some p => rw [e] at h3; exact absurd rfl h3
          refine ⟨os, rfl, hw, ⟨by unfold txs; rw [List.length_map]; omega, fun x hx => ?_, ascT_pwO ha, fun x hx y hy ne => ?_⟩⟩
          · obtain ⟨_, hx2⟩ := mem_txs hw hx
            obtain ⟨a, b, c⟩ := wdO_is hx2
            have hs : strO n ar (some x) = true := List.all_eq_true.mp h2 _ (List.mem_map_of_mem (f := fun l => strO n ar (some l)) hx)
            unfold strO at hs
            rw [Bool.and_eq_true] at hs
            exact ⟨a, b, c, hs.2⟩
          · refine ⟨fun hp => ?_, fun hp => ?_⟩
            · exact lcF_none lc (x, y) ⟨hx, hy, by
                show x.length < y.length
                rcases Nat.lt_or_ge x.length y.length with h | h
                · exact h
                · exact absurd (hp.eq_of_length_le h) ne, .inl hp⟩
            · exact lcF_none lc (x, y) ⟨hx, hy, by
                show x.length < y.length
                rcases Nat.lt_or_ge x.length y.length with h | h
                · exact h
                · exact absurd (hp.eq_of_length_le h) ne, .inr hp⟩
theorem rv_notNOb {α : Type} {R : Rp α} {o : Option α} (h : ∀ H v d, R.rel H v d → v ≠ V.non) : Rv rNotN (rO R) o rN () rB o.isSome := rv_now fun Hm H1 _ x y rx ry => ⟨_, rfl, fun Q q => ⟨ry, by
  cases o with
  | none =>
    rw [show x = V.non from rx]
    exact q
  | some d =>
    have := h _ _ _ rx
    rw [decide_eq_false this]
    exact q⟩⟩
section
variable {P : Program} {w : World} {K : PySem.W.Frag} {mg : Str → Option Value} {base : Heap}
theorem rw_ty {H : Hp} {v : V} {o : Option (List (Option T8))} (h : (rRw K).rel H v o) : ∃ ty, (rTy K).rel H v ty ∧ PySem.W.kitOne K ty (.type "tuple") = some o.isSome := by
  cases o with
  | none =>
    obtain ⟨ty, a, b⟩ := h
    exact ⟨ty, a, b⟩
  | some os => exact ⟨.type "tuple", GW.ty_rtA h, GW.kit_tt⟩
def spWordsO (K : PySem.W.Frag) : Sp := SpF (fun (o : Option (List (Option T8))) => a1 (rRw K) o a0) okRw (fun _ => rB) wdsR
theorem ok_wordsO (T : Tx K mg) : Fk P w K mg base CX0 3 (He.ga K "are_words") ["thing"] (spWordsO K) := by
  refine k0_are_words T (spf_len fun _ => a1_len a0_len) (fun cdv A outer s H vs Q E hr h => ?_)
  obtain ⟨tA, h_MOST_WORDS⟩ := T.i_MOST_WORDS
  obtain ⟨tB, h_LONGEST_WORD⟩ := T.i_LONGEST_WORD
  refine ⟨_, (pss_cons (ps_if (PW.pt (pw_or (pt_not (pt_val (pe_callB call_isi (by rfl) T.n_isinstance boot_isinstance (pa_cons (pv 0) (pa_cons (pe_bltn (v := .ty "tuple") (by rfl) T.n_tuple boot_tuple rfl) pa_nil))))) (pw_or1 (pt_cmpR op_gt (pe_callB call_len (by rfl) T.n_len boot_len (pa_cons (pv 0) pa_nil)) (pe_glob (v := .int 400) (by rfl) h_MOST_WORDS ⟨_, rfl⟩) (nomark _))))) (pss_one (ps_ret pe_bl)) pss_nil)
  (pss_one (ps_ret (pe_and (pe_callB (cr_all rfl) (by rfl) T.n_all boot_all (pa_cons (pe_lc (own := [("item", 1)]) rfl c_are_words.nd (pi_tup (pv 0)) (blkOk_by (N := ["thing", "item"]) (sc := defScope s_are_words) (by decide +kernel)) (fun _ _ _ _ _ => (pg_name (i := 1) c_are_words.nd rfl (by first | exact Or.inl rfl | exact Or.inr rfl))) (fun _ _ _ _ _ => pts_nil) (fun _ _ _ _ _ => (pe_fk (ok_is_long_text T) (hr.mono (by decide)) T.g_is_long_text pass0 (pa_cons pe_int (pa_cons (pe_glob (v := .int 60) (by rfl) h_LONGEST_WORD ⟨_, rfl⟩) (pa_cons (pv 1) pa_nil)))))) pa_nil)) (pe_one (pe_fk (ok_ascT T) (hr.mono (by decide)) T.g_are_ascending pass0 (pa_cons (pv 0) pa_nil))))))), ?_⟩
  obtain ⟨o, Hm, ok, ⟨v1, vs', rfl, r1, rfl⟩, hi, q⟩ := h
  obtain ⟨ty, rty, kt⟩ := rw_ty r1
  cases o with
  | none =>
    refine q_when (b := true) (et_or (a := true) (b := false) (Et.is (et_not (et_test (ev_isi (ev_v rfl rty) kt))) rfl) fun z => by cases z) hi (fun _ K1 H1 x1 => ?_) (fun hb => by cases hb)
    exact s_ret (ev_b (b := false)) x1.i fun v K2 H2 x2 r => q v K2 H2 (x1.trans x2) r
  | some os =>
    have r1 : (rT K (rTh K)).rel Hm v1 os := r1
    have q : ∀ (v : V) (Hm' H2 : Hp), Xt Hm H Hm' H2 → rB.rel Hm' v (wdsO os) → Q v H2 := q
    unfold wdsO at q
    have oz := ok.1
    refine q_when (b := !decide ((os.length : Int) ≤ 400)) (Et.is (et_or (a := false) (et_not (et_test (ev_isi (ev_v rfl rty) kt))) fun _ => et_test (ev_op (ev_cb (ea_cons (ev_v rfl r1) ea_nil) rc_lenT) ev_i rv_b0)) (by
      rw [Bool.false_or, Bool.eq_iff_iff]
      simp)) hi (fun hb K1 H1 x1 => ?_) (fun hb K1 H1 x1 => ?_)
    · rw [Bool.not_eq_true'] at hb
      rw [hb, Bool.false_and] at q
      exact s_ret (ev_b (b := false)) x1.i fun v K2 H2 x2 r => q v K2 H2 (x1.trans x2) r
    · rw [Bool.not_eq_false'] at hb
      rw [hb, Bool.true_and] at q
      have r1a := (rT K (rTh K)).mono x1.s r1
      exact s_ret (ev_and (ev_cb (ea_cons (ev_lc0 (K := K) (S := rB) (R := rTh K) wdO (wk_tup (ev_v rfl r1a)) (by omega) fun d hd v K3 s3 r3 => ⟨_, tk_name, rfl, ev_call (x := ((1 : Int), (60 : Int), d)) (ok.th hd) (ea_cons ev_i (ea_cons ev_i (ea_cons (ev_v rfl r3) ea_nil)))⟩) ea_nil) rc_all) fun hw => ev_call (x := txs os) (by unfold txs; rw [List.length_map]; exact oz) (ea_cons (ev_v rfl (rt_txs r1a hw)) ea_nil)) x1.i fun v K2 H2 x2 r2 => q v K2 H2 (x1.trans x2) r2
def spWpbO (K : PySem.W.Frag) : Sp := SpF (fun (x : (Nat × List Arw) × Option (List (Option T8))) => a1 (GW.rWeb K) ((x.1.1 : Int), x.1.2) (a1 (rRw K) x.2 a0)) (fun x => okW x.1.1 x.1.2 ∧ okRw x.2) (fun _ => rO rS) (fun x => wpO x.1.1 x.1.2 x.2)
theorem ok_wpbO (T : Tx K mg) : Fk P w K mg base CX0 5 (He.ga K "wrong_part_books") ["web", "words"] (spWpbO K) := by
  refine k0_wrong_part_books T (spf_len fun _ => a1_len (a1_len a0_len)) (fun cdv A outer s H vs Q E hr h => ?_)
  refine ⟨_, (pss_cons (ps_if (pt_not (pt_val (pe_fk (ok_wordsO T) (hr.mono (by decide)) T.g_are_words pass0 (pa_cons (pv 1) pa_nil)))) (pss_one (ps_ret pe_str)) pss_nil)
  (pss_cons (ps_if (pt_not (pt_val (pe_callB (cr_all rfl) (by rfl) T.n_all boot_all (pa_cons (pe_lc (own := [("word", 2)]) rfl c_wrong_part_books.nd (pi_tup (pv 1)) (blkOk_by (N := ["web", "words", "word"]) (sc := defScope s_wrong_part_books) (by decide +kernel)) (fun _ _ _ _ _ => (pg_name (i := 2) c_wrong_part_books.nd rfl (by first | exact Or.inl rfl | exact Or.inr rfl))) (fun _ _ _ _ _ => pts_nil) (fun _ _ _ _ _ => (pe_fk (ok_is_stretch T) (hr.mono (by decide)) T.g_is_stretch pass0 (pa_cons (pv 0) (pa_cons (pv 2) pa_nil))))) pa_nil)))) (pss_one (ps_ret pe_str)) pss_nil)
  (pss_cons (ps_if (pt_cmpR op_notN (pe_fk (ok_least_clash T) (hr.mono (by decide)) T.g_least_clash pass0 (pa_cons (pv 1) pa_nil)) pe_non (nomark _)) (pss_one (ps_ret pe_str)) pss_nil)
  (pss_one (ps_ret pe_non))))), ?_⟩
  obtain ⟨⟨⟨n, ar⟩, o⟩, Hm, ⟨hw, ok⟩, ⟨v1, vs1, rfl, r1, v2, vs2, rfl, r2, rfl⟩, hi, q⟩ := h
  dsimp only at hw ok r1 r2 q
  refine q_when (b := !(wdsR o)) (et_not (et_test (ev_call (x := o) ok (ea_cons (ev_v rfl r2) ea_nil)))) hi (fun hb K1 H1 x1 => ?_) (fun hb1 K1 H1 x1 => ?_)
  · have e : wpO n ar o = some tWords := by
      cases o with
      | none => rfl
      | some os => exact if_pos (by simpa [wdsR] using hb)
    rw [e] at q
    exact s_ret (ev_some (Ev.is ev_s (show _ = tWords by rfl))) x1.i fun v K2 H2 x2 r => q v K2 H2 (x1.trans x2) r
  cases o with
  | none => cases hb1
  | some os =>
    have b1 : wdsO os = true := by simpa [wdsR] using hb1
    have bw : (os.map wdO).all id = true := by
      unfold wdsO at b1
      rw [Bool.and_eq_true, Bool.and_eq_true] at b1
      exact b1.2.1
    have r2 : (rT K (rTh K)).rel Hm v2 os := r2
    have r2a := (rT K rS).mono x1.s (rt_txs r2 bw)
    have wz : (txs os).length ≤ 1000 := by
      unfold txs
      rw [List.length_map]
      exact ok.1
    have wp : ∀ x ∈ txs os, x.length ≤ 1000 := fun x hx => by
      have := (wdO_is (mem_txs bw hx).2).2.2
      omega
    refine q_when (b := !(((txs os).map fun l => strO n ar (some l)).all id)) (et_not (et_test (ev_cb (ea_cons (ev_lc0 (K := K) (S := rB) (R := rS) (fun l => strO n ar (some l)) (wk_tup (ev_v rfl r2a)) (by omega) fun d hd v K3 s3 r3 => ⟨_, tk_name, rfl, ev_stretch (o := some d) hw (by show d.length ≤ 16000000; have := wp d hd; omega) (ev_v rfl ((GW.rWeb K).mono (x1.s.trans s3) r1)) (ev_v (R := rTh K) (d := some d) rfl r3)⟩) ea_nil) rc_all))) x1.i (fun hb K2 H2 x2 => ?_) (fun hb2 K2 H2 x2 => ?_)
    · have e : wpO n ar (some os) = some tStretch := by
        unfold wpO
        dsimp only
        rw [if_neg (by rw [b1]; exact Bool.noConfusion), if_pos (by simpa using hb)]
      rw [e] at q
      exact s_ret (ev_some (Ev.is ev_s (show _ = tStretch by rfl))) x2.i fun v K3 H3 x3 r => q v K3 H3 ((x1.trans x2).trans x3) r
    have r2b := (rT K rS).mono x2.s r2a
    have b2 : ((txs os).map fun l => strO n ar (some l)).all id = true := by
      rw [Bool.not_eq_false'] at hb2
      exact hb2
    refine q_when (b := (lcF (txs os)).isSome) (et_test (ev_op (ev_call (x := (true, txs os)) ⟨wz, wp⟩ (ea_cons (ev_v rfl r2b) ea_nil)) ev_n (rv_notNOb fun H v d ⟨a, _, _, e, _⟩ h => by rw [h] at e; cases e))) x2.i (fun hb K3 H3 x3 => ?_) (fun hb3 K3 H3 x3 => ?_)
    · have e : wpO n ar (some os) = some tClash := by
        unfold wpO
        dsimp only
        rw [if_neg (by rw [b1]; exact Bool.noConfusion), if_neg (by rw [b2]; exact Bool.noConfusion), if_pos hb]
      rw [e] at q
      exact s_ret (ev_some (Ev.is ev_s (show _ = tClash by rfl))) x3.i fun v K4 H4 x4 r => q v K4 H4 (((x1.trans x2).trans x3).trans x4) r
    · have e : wpO n ar (some os) = none := by
        unfold wpO
        dsimp only
        rw [if_neg (by rw [b1]; exact Bool.noConfusion), if_neg (by rw [b2]; exact Bool.noConfusion), if_neg (by rw [hb3]; exact Bool.noConfusion)]
      rw [e] at q
      exact s_ret (ev_none ev_n) x3.i fun v K4 H4 x4 r => q v K4 H4 (((x1.trans x2).trans x3).trans x4) r
end
end NJ

set_option Elab.async false
set_option linter.all false
set_option maxRecDepth 100000
set_option maxHeartbeats 8000000
/-! Webs and books asked by == and !=. -/
namespace NJ
open PySem PySem.Spec PyProof.Rows L2
/-- a web, or something that is none -/
def rOW (K : PySem.W.Frag) : Rp (Option (Int × List Arw)) := ⟨fun H v o => (match o with | some x => (GW.rWeb K).rel H v x | none => ∃ t, TyX K H v t ∧ PySem.W.kitOne K t (.ref (CW K)) = some false ∧ PySem.W.notFirst K (CW K) t = true), fun {H H' v d} s h => by
  cases d with
  | none =>
    obtain ⟨t, a, b⟩ := h
    exact ⟨t, tyx_mono s a, b⟩
  | some x => exact (GW.rWeb K).mono s h⟩
def eqW (d : Int × List Arw) (o : Option (Int × List Arw)) : Bool := match o with
  | some y => decide (d = y)
  | none => false
def lowO (o : Option (Int × List Arw)) : Prop := ∀ y, o = some y → ∀ t ∈ y.2, lowA t
section
variable {P : Program} {w : World} {K : PySem.W.Frag} {mg : Str → Option Value} {base : Heap}
theorem arrs_paired {H : Hp} : ∀ {ar : List Arw} {vs : List V}, Paired ((rT K rV).rel H) vs (GW.arVs ar) → Paired ((rA K).rel H) vs ar
  | [], _, h => by
    cases h
    exact .nil
  | t :: ar, _, h => by
    cases h with
    | cons a r => exact .cons a (arrs_paired r)
theorem ev_arrows {σ : L2.St} {Hm : Hp} {te : TE} {x : Int × List Arw} (T : Tx K mg) (h : Ev te σ Hm (GW.rWeb K) x) : Ev (tFld K te "arrows") σ Hm (rT K (rA K)) x.2 := fun H1 hi Q q => h H1 hi _ fun v K2 H2 x2 ⟨a, dx, fs, e, hh, wf⟩ => by
  obtain ⟨u, e1, b, vs, e2, hS, hP⟩ := wf.aw
  exact ⟨a, CW K, dx, fs, u, e, x2.i _ _ hh, T.cl_Web, T.na_Web_arrows, e1, q u K2 H2 x2 ⟨b, vs, e2, hS, arrs_paired hP⟩⟩
/-- letters(web) -/
theorem dpAll_S {H : Hp} : ∀ {vs : List V} {xs : List T8}, Paired (rS.rel H) vs xs → DpAll K H vs (xs.map fun x => PyData.str (tx x))
  | _, _, .nil => .nil
  | _, _, .cons r rs => by
    rw [show _ = V.str _ from r]
    exact .cons (.str _) (dpAll_S rs)
theorem layAll_S : ∀ {xs : List T8}, (∀ x ∈ xs, lowT x) → PyData.canLayAll0 (xs.map fun x => PyData.str (tx x)) = true ∧ PyData.depthAll (xs.map fun x => PyData.str (tx x)) = 0
  | [], _ => ⟨rfl, rfl⟩
  | x :: xs, h => by
    obtain ⟨h1, h2⟩ := layAll_S fun u hu => h u (List.mem_cons_of_mem _ hu)
    refine ⟨?_, ?_⟩
    · show (PyData.strOk (tx x) && PyData.canLayAll0 (xs.map fun x => PyData.str (tx x))) = true
      rw [strOk_low (h x List.mem_cons_self), h1] <;> rfl
    · show max 0 (PyData.depthAll (xs.map fun x => PyData.str (tx x))) = 0
      rw [h2] <;> rfl
theorem shaped_TS {xs : List T8} (h : ∀ x ∈ xs, lowT x) : SeqAt.shaped (.tuple (xs.map fun x => PyData.str (tx x))) = true := by
  obtain ⟨h1, h2⟩ := layAll_S h
  unfold SeqAt.shaped
  rw [Bool.and_eq_true, decide_eq_true_iff]
  refine ⟨h1, ?_⟩
  show PyData.depthAll (xs.map fun x => PyData.str (tx x)) + 1 ≤ 64
  omega
theorem eqvAll_S2 : ∀ xs ys : List T8, PyData.eqvAll (xs.map fun x => PyData.str (tx x)) (ys.map fun x => PyData.str (tx x)) = decide (xs = ys)
  | [], [] => rfl
  | [], _ :: _ => rfl
  | _ :: _, [] => rfl
  | x :: xs, y :: ys => by
    show (PyData.eqv (.str (tx x)) (.str (tx y)) && PyData.eqvAll (xs.map fun x => PyData.str (tx x)) (ys.map fun x => PyData.str (tx x))) = _
    rw [eqvAll_S2 xs ys, eqv_str]
    by_cases h1 : x = y <;> by_cases h2 : xs = ys <;> simp [h1, h2]
theorem dp_TS {H : Hp} {v : V} {xs : List T8} (h : (rT K rS).rel H v xs) : Dp K H v (.tuple (xs.map fun x => PyData.str (tx x))) := by
  obtain ⟨a, vs, e, hS, hP⟩ := h
  rw [e]
  exact .tup hS (dpAll_S hP)
theorem rv_eqTS {xs ys : List T8} (h : ∀ x ∈ xs, lowT x) (g : ∀ x ∈ ys, lowT x) : Rv (rEqD K) (rT K rS) xs (rT K rS) ys rB (decide (xs = ys)) := rv_now fun Hm H1 hi x y rx ry => ⟨_, rfl, fun Q q => ⟨_, _, dp_TS ((rT K rS).mono hi rx), dp_TS ((rT K rS).mono hi ry), shaped_TS h, shaped_TS g, by
  rw [show PyData.eqv (.tuple (xs.map fun x => PyData.str (tx x))) (.tuple (ys.map fun x => PyData.str (tx x))) = decide (xs = ys) from eqvAll_S2 xs ys]
  exact q⟩⟩
theorem rv_neTS {xs ys : List T8} (h : ∀ x ∈ xs, lowT x) (g : ∀ x ∈ ys, lowT x) : Rv (rNeD K) (rT K rS) xs (rT K rS) ys rB (!decide (xs = ys)) := rv_now fun Hm H1 hi x y rx ry => ⟨_, rfl, fun Q q => ⟨_, _, dp_TS ((rT K rS).mono hi rx), dp_TS ((rT K rS).mono hi ry), shaped_TS h, shaped_TS g, by
  rw [show PyData.eqv (.tuple (xs.map fun x => PyData.str (tx x))) (.tuple (ys.map fun x => PyData.str (tx x))) = decide (xs = ys) from eqvAll_S2 xs ys]
  exact q⟩⟩
theorem ty_web (T : Tx K mg) {H : Hp} {v : V} {x : Int × List Arw} (h : (GW.rWeb K).rel H v x) : (rTy K).rel H v (.ref (CW K)) := by
  obtain ⟨a, dx, fs, rfl, ha, _⟩ := h
  exact T.in_Web.ty ha
def spEqW (K : PySem.W.Frag) : Sp := SpF (fun (x : (Int × List Arw) × Option (Int × List Arw)) => a1 (GW.rWeb K) x.1 (a1 (rOW K) x.2 a0)) (fun x => (∀ t ∈ x.1.2, lowA t) ∧ lowO x.2) (fun _ => rB) (fun x => eqW x.1 x.2)
theorem ok_eqW (T : Tx K mg) : Fk P w K mg base CX0 1 (He.ma K (CW K) "__eq__") ["self", "other"] (spEqW K) := by
  refine k0_Web__eq_ T (spf_len fun _ => a1_len (a1_len a0_len)) (fun cdv A outer s H vs Q E hr h => ?_)
  refine ⟨_, (pss_one (ps_ret (pe_and (pe_callB call_isi (by rfl) T.n_isinstance boot_isinstance (pa_cons (pv 1) (pa_cons (pe_glob (v := .ref (He.ga K "Web")) (by rfl) T.g_Web rfl) pa_nil))) (pe_and (pe_cmpR op_eq (pe_fld (pv 0) rfl) (pe_fld (pv 1) rfl) (nomark _)) (pe_one (pe_cmpR (op_eqD hr.units) (pe_fld (pv 0) rfl) (pe_fld (pv 1) rfl) (nomark _))))))), ?_⟩
  obtain ⟨⟨d, o⟩, Hm, ⟨l1, l2⟩, ⟨v1, ws, rfl, r1, v2, ws2, rfl, r2, rfl⟩, hi, q⟩ := h
  dsimp only at l1 l2 r1 r2 q
  cases o with
  | none =>
    obtain ⟨t, ty, kk, _⟩ := r2
    exact s_ret (Ev.is (d := false && false) (ev_and (ev_isiC (ev_v rfl ty) kk) fun z => by cases z) rfl) hi q
  | some y =>
    have r2 : (GW.rWeb K).rel Hm v2 y := r2
    refine s_ret (Ev.is (ev_and (ev_isiC (ev_v rfl (ty_web T r2)) kit_self) fun _ => ev_and (ev_op (ev_points T (ev_v rfl r1)) (ev_points T (ev_v rfl r2)) rv_eqI) fun _ => ev_op (ev_arrows T (ev_v rfl r1)) (ev_arrows T (ev_v rfl r2)) (rv_eqAT l1 (l2 y rfl))) ?_) hi q
    obtain ⟨a, b⟩ := d
    obtain ⟨c, e⟩ := y
    show (true && (decide (a = c) && decide (b = e))) = decide ((a, b) = (c, e))
    by_cases h1 : a = c <;> by_cases h2 : b = e <;> simp [h1, h2]
theorem rv_eqWeb (T : Tx K mg) {d : Int × List Arw} {o : Option (Int × List Arw)} (l1 : ∀ t ∈ d.2, lowA t) (l2 : lowO o) : Rv (rEqOwn K (CW K) (spEqW K) E0) (GW.rWeb K) d (rOW K) o rB (eqW d o) := fun Hm H1 hi x y rx ry Q q => by
  have rx' := rx
  obtain ⟨a, dx, fs, rfl, ha, wf⟩ := rx
  have h : ∃ tb, TyX K H1 y tb ∧ PySem.W.notFirst K (CW K) tb = true := by
    cases o with
    | none =>
      obtain ⟨t, z1, _, z2⟩ := ry
      exact ⟨t, tyx_mono hi z1, z2⟩
    | some z => exact ⟨.ref (CW K), tyx_mono hi (ty_web T ry), nf_self⟩
  obtain ⟨tb, ty, nf⟩ := h
  exact ⟨a, dx, fs, tb, rfl, hi _ _ ha, ty, nf, (d, o), Hm, ⟨l1, l2⟩, ⟨_, _, rfl, rx', _, _, rfl, ry, rfl⟩, hi, fun v Hm' H2 x2 r => ⟨⟨_, r⟩, q v Hm' H2 x2 r⟩⟩
theorem ty_bk (T : Tx K mg) {H : Hp} {v : V} {x : BkT} (h : (rBk K).rel H v x) : (rTy K).rel H v (.ref (BK K)) := by
  obtain ⟨a, dx, fs, rfl, ha, _⟩ := h
  exact T.in_Book.ty ha
def lowB (x : BkT) : Prop := (∀ t ∈ x.1.2, lowA t) ∧ ∀ l ∈ x.2, lowT l
theorem lowO_some {x : Int × List Arw} (h : ∀ t ∈ x.2, lowA t) : lowO (some x) := fun y e => by
  cases e
  exact h
end
end NJ

set_option Elab.async false
set_option linter.all false
set_option maxRecDepth 100000
set_option maxHeartbeats 16000000
/-! Book made of anything, in a try; a book == anything. -/
namespace NJ
open PySem PySem.Spec PyProof.Rows L2
abbrev BB (K : PySem.W.Frag) : Addr := He.ga K "BadBook"
/-- a book, or something that is none -/
def rOB (K : PySem.W.Frag) : Rp (Option BkT) := ⟨fun H v o => (match o with | some x => (rBk K).rel H v x | none => ∃ t, TyX K H v t ∧ PySem.W.kitOne K t (.ref (BK K)) = some false ∧ PySem.W.notFirst K (BK K) t = true), fun {H H' v d} s h => by
  cases d with
  | none =>
    obtain ⟨t, a, b⟩ := h
    exact ⟨t, tyx_mono s a, b⟩
  | some x => exact (rBk K).mono s h⟩
def eqB (d : BkT) (o : Option BkT) : Bool := match o with
  | some y => decide (d = y)
  | none => false
section
variable {P : Program} {w : World} {K : PySem.W.Frag} {mg : Str → Option Value} {base : Heap}
def spEqBO (K : PySem.W.Frag) : Sp := SpF (fun (x : BkT × Option BkT) => a1 (rBk K) x.1 (a1 (rOB K) x.2 a0)) (fun x => lowB x.1 ∧ ∀ y, x.2 = some y → lowB y) (fun _ => rB) (fun x => eqB x.1 x.2)
theorem ok_eqBO (T : Tx K mg) : Fk P w K mg base CX0 3 (He.ma K (BK K) "__eq__") ["self", "other"] (spEqBO K) := by
  refine k0_Book__eq_ T (spf_len fun _ => a1_len (a1_len a0_len)) (fun cdv A outer s H vs Q E hr h => ?_)
  obtain ⟨fdE, FE, bE⟩ := (ok_eqW (P := P) (w := w) (base := base) T).ex
  refine ⟨_, (pss_one (ps_ret (pe_and (pe_callB call_isi (by rfl) T.n_isinstance boot_isinstance (pa_cons (pv 1) (pa_cons (pe_glob (v := .ref (He.ga K "Book")) (by rfl) T.g_Book rfl) pa_nil))) (pe_and (pe_cmpR (op_eqOwn FE T.oe_Web bE pass0 (hr.mono (by decide))) (pe_fld (pv 0) rfl) (pe_fld (pv 1) rfl) (nomark _)) (pe_one (pe_cmpR (op_eqD hr.units) (pe_fld (pv 0) rfl) (pe_fld (pv 1) rfl) (nomark _))))))), ?_⟩
  obtain ⟨⟨d, o⟩, Hm, ⟨l1, l2⟩, ⟨v1, ws, rfl, r1, v2, ws2, rfl, r2, rfl⟩, hi, q⟩ := h
  dsimp only at l1 l2 r1 r2 q
  cases o with
  | none =>
    obtain ⟨t, rt, kt, _⟩ := r2
    exact s_ret (Ev.is (ev_and (b := false) (ev_isiC (ev_v (R := rTy K) (d := t) rfl rt) kt) fun h => by cases h) rfl) hi q
  | some o =>
    have l2 := l2 o rfl
    have r2 : (rBk K).rel Hm v2 o := r2
    refine s_ret (Ev.is (ev_and (ev_isiC (ev_v rfl (ty_bk T r2)) kit_self) fun _ => ev_and (ev_op (ev_bweb T (ev_v rfl r1)) (Ev.conv (S := rOW K) (e := some o.1) (ev_bweb T (ev_v rfl r2)) fun r => r) (rv_eqWeb T l1.1 (lowO_some l2.1))) fun _ => ev_op (ev_bwords T (ev_v rfl r1)) (ev_bwords T (ev_v rfl r2)) (rv_eqTS l1.2 l2.2)) ?_) hi q
    obtain ⟨a, b⟩ := d
    obtain ⟨c, e⟩ := o
    show (true && (decide (a = c) && decide (b = e))) = decide ((a, b) = (c, e))
    by_cases h1 : a = c <;> by_cases h2 : b = e <;> simp [h1, h2]
theorem ob_ty (T : Tx K mg) {H : Hp} {v : V} {o : Option BkT} (h : (rOB K).rel H v o) : ∃ tb, TyX K H v tb ∧ PySem.W.notFirst K (BK K) tb = true := by
  cases o with
  | none =>
    obtain ⟨t, a, _, b⟩ := h
    exact ⟨t, a, b⟩
  | some y => exact ⟨.ref (BK K), ty_bk T h, nf_self⟩
theorem rv_eqBO (T : Tx K mg) {d : BkT} {o : Option BkT} (l1 : lowB d) (l2 : ∀ y, o = some y → lowB y) : Rv (rEqOwn K (BK K) (spEqBO K) E0) (rBk K) d (rOB K) o rB (eqB d o) := fun Hm H1 hi x y rx ry Q q => by
  have rx' := rx
  obtain ⟨a, dx, fs, rfl, ha, wf⟩ := rx
  obtain ⟨tb, ty, nf⟩ := ob_ty T ry
  exact ⟨a, dx, fs, tb, rfl, hi _ _ ha, tyx_mono hi ty, nf, (d, o), Hm, ⟨l1, l2⟩, ⟨_, _, rfl, rx', _, _, rfl, ry, rfl⟩, hi, fun v Hm' H2 x2 r => ⟨⟨_, r⟩, q v Hm' H2 x2 r⟩⟩
theorem rv_neBO (T : Tx K mg) {d : BkT} {o : Option BkT} (l1 : lowB d) (l2 : ∀ y, o = some y → lowB y) : Rv (rNeOwn K (BK K) (spEqBO K) E0) (rBk K) d (rOB K) o rB (!eqB d o) := fun Hm H1 hi x y rx ry Q q => by
  have rx' := rx
  obtain ⟨a, dx, fs, rfl, ha, wf⟩ := rx
  obtain ⟨tb, ty, nf⟩ := ob_ty T ry
  exact ⟨a, dx, fs, tb, rfl, hi _ _ ha, tyx_mono hi ty, nf, (d, o), Hm, ⟨l1, l2⟩, ⟨_, _, rfl, rx', _, _, rfl, ry, rfl⟩, hi, fun v Hm' H2 x2 r => ⟨_, r, q _ Hm' H2 x2 rfl⟩⟩
theorem ok_badB (T : Tx K mg) : Fk P w K mg base CX0 1 (He.ma K (He.ga K "BadBook") "__init__") ["self", "part"] (spFld (He.ga K "BadBook") "part") := by
  refine k0_BadBook__init_ T (fun vs H Q E ⟨a, y, e, _⟩ => by rw [e] <;> rfl) (fun cdv A outer s H vs Q E hr h => ?_)
  refine ⟨_, (pss_one (ps_ost (pv 0) (pv 1))), ?_⟩
  obtain ⟨a, y, rfl, ha, q⟩ := h
  exact ⟨y, rfl, .ref a, rfl, a, _, rfl, T.ox_BadBook, T.xf_BadBook_part.2, .inl ⟨ha, fun dx nx ne => q dx nx ne⟩⟩
/-- Book(web, thing), or the part that is wrong -/
def spBInitO (K : PySem.W.Frag) : Sp := fun vs H Q E => ∃ (x dx : Addr) (u1 u2 : V) (n : Nat) (ar : List Arw) (o : Option (List (Option T8))) (Hm : Hp), vs = [.ref x, u1, u2] ∧ okW n ar ∧ okRw o ∧ (GW.rWeb K).rel Hm u1 ((n : Int), ar) ∧ (rRw K).rel Hm u2 o ∧ Same Hm H ∧ Hm x = none ∧ H x = some (.ins (BK K) dx []) ∧
  (wpO n ar o = none → ∀ H', Bt x H H' → H' x = some (.ins (BK K) dx [("web", u1), ("words", u2)]) → Q .non H') ∧
  ∀ l, wpO n ar o = some l → ∀ dd y Hm' H2, Xt Hm H Hm' H2 → Hm' dd = some (.xd [("part", y)]) → rS.rel Hm' y l → E (.ref (BB K)) (some dd) H2
theorem ok_binitO (T : Tx K mg) : Fk P w K mg base (L2.CX P w) 6 (He.ma K (BK K) "__init__") ["self", "web", "words"] (spBInitO K) := by
  refine k_Book__init_ T (fun vs H Q E ⟨x, dx, u1, u2, n, ar, o, Hm, e, _⟩ => by rw [e] <;> rfl) (fun cdv A outer s H vs Q E hr h => ?_)
  obtain ⟨fdB, F_BadBook, b_BadBook⟩ := (ok_badB (P := P) (w := w) (base := base) T).ex
  refine ⟨_, (pss_cons (ps_set (i := 3) c_Book__init_.nd rfl (by first | exact Or.inl rfl | exact Or.inr rfl) (pe_fk (ok_wpbO T) (hr.mono (by decide)) T.g_wrong_part_books pass0 (pa_cons (pv 1) (pa_cons (pv 2) pa_nil))))
  (pss_cons (ps_if (pt_cmpR op_notN (pv 3) pe_non (nomark _)) (pss_one (ps_raise rfl (takes_of rfl rfl rfl rfl) (pmk_oex (p := _) (pos := _) T.ox_BadBook T.ih_BadBook.1 T.ih_BadBook.2 F_BadBook (hr.mono (by decide)) b_BadBook .nil pass0 (by rfl) T.g_BadBook (pa_cons (pv 3) pa_nil)))) pss_nil)
  (pss_cons (ps_fld (pv 0) (pv 1) rfl)
  (pss_one (ps_fld (pv 0) (pv 2) rfl))))), ?_⟩
  obtain ⟨x, dx, u1, u2, n, ar, o, Hm, rfl, hw, ok, r1, r2, hi, nx, hx, q, qx⟩ := h
  refine q_set (ev_call (x := ((n, ar), o)) ⟨hw, ok⟩ (ea_cons (ev_v rfl r1) (ea_cons (ev_v rfl r2) ea_nil))) hi fun v3 K1 H1 x1 r3 => ?_
  have r3 : (rO rS).rel K1 v3 (wpO n ar o) := r3
  cases e : wpO n ar o with
  | some l =>
    rw [e] at r3
    have r3' : rS.rel K1 v3 l := r3
    refine q_when (b := true) (et_test (Ev.is (ev_op (ev_v (R := rV) (d := v3) rfl rfl) ev_n rv_notN) (by rw [show v3 = V.str (tx l) from r3]; rfl))) x1.i (fun _ K2 H2 x2 => ?_) (fun hb => by cases hb)
    exact mko_fld (ev_v (R := rS) (d := l) rfl (rS.mono x2.s r3')) x2.i fun dd y Hm' H3 x3 hd ry => qx l e dd y Hm' H3 ((x1.trans x2).trans x3) hd ry
  | none =>
    rw [e] at r3
    have e3 : v3 = V.non := r3
    subst e3
    refine q_when (b := false) (et_test (Ev.is (ev_op (ev_v (R := rV) (d := .non) rfl rfl) ev_n rv_notN) (by rfl))) (hi.trans x1.k) (fun hb => by cases hb) (fun _ K2 H2 x2 => ?_)
    have k2 : Same H H2 := x1.k.trans x2.k
    have hx2 := k2 _ _ hx
    have b0 : Bt x H H2 := fun b o n e => k2 b o e
    refine GW.q_fldR (Hm := Hm) (ev_v (R := rV) (d := u1) rfl rfl) (hi.trans k2) rfl hx2 T.cl_Book T.na_Book_web (by decide) fun y1 K3 H3 x3 g3 => ?_
    cases g3
    have b3 := b0.put x3.k (o := .ins (BK K) dx (putF "web" u1 []))
    have l3 := putF_len "web" u1 []
    refine GW.s_fldR (Hm := Hm) (ev_v (R := rV) (d := u2) rfl rfl) (b3.same hi nx) rfl upd_same T.cl_Book T.na_Book_words (by simp at l3; omega) fun y2 K4 H4 x4 g4 => ?_
    cases g4
    exact q e _ (b3.put x4.k) upd_same
/-- what the law's _law_told tells -/
def clsBB (K : PySem.W.Frag) : List Cls1 := [(.ref (BB K), some 3, fun a cls d => tAsg (tXf a cls d (BB K) "part" (tVar 3)) (gName 2))]
def spToldB (K : PySem.W.Frag) : Sp := fun vs H Q _ => ∃ (v u : V) (n : Nat) (ar : List Arw) (o : Option (List (Option T8))) (Hm : Hp), vs = [v, u] ∧ okW n ar ∧ okRw o ∧ (GW.rWeb K).rel Hm v ((n : Int), ar) ∧ (rRw K).rel Hm u o ∧ Same Hm H ∧
  (∀ os, o = some os → wpO n ar o = none → WsP n ar (txs os) → ∀ y Hm' H2, Xt Hm H Hm' H2 → (rBk K).rel Hm' y (((n : Int), ar), txs os) → Q y H2) ∧ ∀ l, wpO n ar o = some l → ∀ Hm' H2, Xt Hm H Hm' H2 → Q (.str (tx l)) H2
theorem ok_toldB (T : Tx K mg) : Fk P w K mg base CX0 8 (He.ga K "_law_told") ["_law_web_here", "_law_thing"] (spToldB K) := by
  refine k0_law_told T (fun vs H Q E ⟨v, u, n, ar, o, Hm, e, _⟩ => by rw [e] <;> rfl) (fun cdv A outer s H vs Q E hr h => ?_)
  obtain ⟨fdB, FB, bB⟩ := (ok_binitO (P := P) (w := w) (base := base) T).ex
  refine ⟨_, (pss_cons (ps_set (i := 2) c_law_told.nd rfl (by first | exact Or.inl rfl | exact Or.inr rfl) pe_str)
    (pss_cons (ps_try2 (tb := fun W => tAsg (tMakeS (BK K) (spBInitO K) (WE W) (tCons (tVar 0) (tCons (tVar 1) tNil))) (gName 2)) (Wout := fun _ _ _ _ => False) (l := clsBB K) rfl rfl c_law_told.nd takes0
      (fun W pn xe tk _ => pss_one (ps_set (i := 2) c_law_told.nd rfl (by first | exact Or.inl rfl | exact Or.inr rfl) (pe_makeS T.mk_Book FB (hr.mono (by decide)) rfl T.g_Book bB (fun σ => passAt tk σ) (pa_cons (pv 0) (pa_cons (pv 1) pa_nil)))))
      (.named rfl rfl ⟨rfl, by decide, Or.inl T.g_BadBook⟩ (fun a oe cls d pn hz hf => pss_one (ps_set (i := 2) c_law_told.nd rfl (by first | exact Or.inl rfl | exact Or.inr rfl) (pe_xf T.xf_BadBook_part.1 T.xf_BadBook_part.2 hz hf (pv 3)))) .nil))
    (pss_one (ps_ret (pv 2))))), ?_⟩
  obtain ⟨v1, v2, n, ar, o, Hm, rfl, hw, ok, r1, r2, hi, q1, q2⟩ := h
  refine q_set ev_s hi fun v3 K1 H1 x1 r3 => ?_
  have r1a := (GW.rWeb K).mono x1.s r1
  have r2a := (rRw K).mono x1.s r2
  refine ⟨v1, rfl, v2, rfl, fun x dx nx ndx hne => ?_⟩
  have kx : Same H1 (upd (upd H1 dx (.own x)) x (.ins (BK K) dx [])) := put_new (put_new (Same.refl _) ndx) nx
  refine ⟨x, dx, v1, v2, n, ar, o, K1, rfl, hw, ok, r1a, r2a, x1.i.trans kx, none_back x1.i nx, upd_same, fun hp H' hb hx' => ⟨rfl, ?_⟩, fun l hp dd y Hm' H2 x2 hd ry => ?_⟩
  · obtain ⟨os, eo, wds, wp⟩ := wpO_none hp
    subst eo
    have kH : Same H1 H' := fun b o e => hb b o (ne_of_none e nx) (kx b o e)
    have xw : Xt K1 H1 (nw K1 H1 H') H' := xt_nw x1.i kH
    have rb : (rBk K).rel (nw K1 H1 H') (.ref x) (((n : Int), ar), txs os) := ⟨x, dx, _, rfl, (nw_new nx).trans hx', ⟨v1, by rfl, (GW.rWeb K).mono xw.s r1a⟩, ⟨v2, by rfl, (rT K rS).mono xw.s (rt_txs r2a wds)⟩⟩
    exact ⟨.ref x, rfl, q1 os rfl hp wp (.ref x) _ H' (x1.trans xw) rb⟩
  · refine ⟨true, T.em_BadBook_BadBook, fun _ a na => ?_, fun h => by cases h⟩
    have x3 : Xt K1 H1 Hm' H2 := ⟨x2.s, x2.i, kx.trans x2.k, fun p hp => (x2.f p hp).imp id (none_back kx)⟩
    refine ⟨.ref a, rfl, rfl, rfl, dd, _, y, rfl, x2.i _ _ hd, rfl, ?_⟩
    rw [show y = V.str (tx l) from ry]
    exact ⟨_, rfl, q2 l hp _ H2 (x1.trans x3)⟩
end
end NJ

set_option Elab.async false
set_option linter.all false
set_option maxRecDepth 100000
set_option maxHeartbeats 4000000
/-! Family B: clashes, comings, readings counted. -/
namespace NJ
open PySem PySem.Spec PyProof.Rows L2
def clB (a b : T8) : Bool := a.isPrefixOf b || a.isSuffixOf b
def clX (a b : T8) : Bool := if b.length < a.length then clB b a else clB a b
theorem clB_eq {a b : T8} (h : a.length ≤ b.length) : (decide (cut b none (some (a.length : Int)) = a) || decide (cut b (some ((b.length : Int) - (a.length : Int))) none = a)) = clB a b := by
  have e : ((b.length : Int) - (a.length : Int)) = ((b.length - a.length : Nat) : Int) := by omega
  rw [e, cut_take, cut_drop]
  unfold clB
  rw [Bool.eq_iff_iff, Bool.or_eq_true, Bool.or_eq_true, decide_eq_true_iff, decide_eq_true_iff, List.isPrefixOf_iff_prefix, List.isSuffixOf_iff_suffix, List.prefix_iff_eq_take, List.suffix_iff_eq_drop]
  constructor
  · rintro (h | h)
    · exact .inl h.symm
    · exact .inr h.symm
  · rintro (h | h)
    · exact .inl h.symm
    · exact .inr h.symm
theorem clX_iff {a b : T8} : clX a b = true ↔ (a <+: b ∨ a <:+ b) ∨ (b <+: a ∨ b <:+ a) := by
  unfold clX clB
  split
  · rename_i h
    rw [Bool.or_eq_true, List.isPrefixOf_iff_prefix, List.isSuffixOf_iff_suffix]
    refine ⟨.inr, fun k => k.elim (fun k => ?_) id⟩
    exfalso
    rcases k with k | k
    · have := k.length_le; omega
    · have := k.length_le; omega
  · rename_i h
    rw [Bool.or_eq_true, List.isPrefixOf_iff_prefix, List.isSuffixOf_iff_suffix]
    refine ⟨.inl, fun k => k.elim id (fun k => ?_)⟩
    rcases k with k | k
    · have e := k.eq_of_length (by have := k.length_le; omega)
      exact .inl (e ▸ List.prefix_refl _)
    · have e := k.eq_of_length (by have := k.length_le; omega)
      exact .inl (e ▸ List.prefix_refl _)
section
variable {P : Program} {w : World} {K : PySem.W.Frag} {mg : Str → Option Value} {base : Heap}
def spClX (K : PySem.W.Frag) : Sp := SpF (fun (x : T8 × T8) => a1 rS x.1 (a1 rS x.2 a0)) (fun x => x.1.length ≤ 1000 ∧ x.2.length ≤ 1000) (fun _ => rB) (fun x => clX x.1 x.2)
theorem ok_clX (T : Tx K mg) : Fk P w K mg base CX0 1 (He.ga K "_law_clashing") ["_law_one", "_law_other"] (spClX K) := by
  refine k0_law_clashing T (spf_len fun _ => a1_len (a1_len a0_len)) (fun cdv A outer s H vs Q E hr h => ?_)
  refine ⟨_, (pss_cons (ps_par (i := 2) (j := 3) rfl c_law_clashing.nd rfl rfl (by decide) rfl rfl (pa_cons (pv 0) (pa_cons (pv 1) pa_nil)) rfl)
  (pss_cons (ps_if (pt_cmpR op_gt (pe_callB call_len (by rfl) T.n_len boot_len (pa_cons (pv 0) pa_nil)) (pe_callB call_len (by rfl) T.n_len boot_len (pa_cons (pv 1) pa_nil)) (nomark _)) (pss_one (ps_par (i := 2) (j := 3) rfl c_law_clashing.nd rfl rfl (by decide) rfl rfl (pa_cons (pv 1) (pa_cons (pv 0) pa_nil)) rfl)) pss_nil)
  (pss_one (ps_ret (pe_or (pe_cmpR op_eq (pe_slice sl_str (pv 3) po_none (po_some (pe_callB call_len (by rfl) T.n_len boot_len (pa_cons (pv 2) pa_nil)))) (pv 2) (nomark _)) (pe_one (pe_cmpR op_eq (pe_slice sl_str (pv 3) (po_some (pe_op op_sub (pe_callB call_len (by rfl) T.n_len boot_len (pa_cons (pv 3) pa_nil)) (pe_callB call_len (by rfl) T.n_len boot_len (pa_cons (pv 2) pa_nil)))) po_none) (pv 2) (nomark _)))))))), ?_⟩
  obtain ⟨⟨a, b⟩, Hm, ⟨h1, h2⟩, ⟨v1, ws, rfl, r1, v2, ws2, rfl, r2, rfl⟩, hi, q⟩ := h
  dsimp only at h1 h2 r1 r2 q
  unfold clX at q
  refine q_par (ea_cons (ev_v rfl r1) (ea_cons (ev_v rfl r2) ea_nil)) hi fun v u K1 H1 x1 ra rb => ?_
  have r1a := rS.mono x1.s r1
  have r2a := rS.mono x1.s r2
  refine q_whenJ (b := decide ((b.length : Int) < (a.length : Int))) (fun σ' H' => ∃ vs vl s l K2, σ' = [some v1, some v2, some vs, some vl] ∧ Xt Hm H K2 H' ∧ rS.rel K2 vs s ∧ rS.rel K2 vl l ∧ s.length ≤ l.length ∧ l.length ≤ 1000 ∧ clB s l = (if b.length < a.length then clB b a else clB a b)) (et_test (ev_op (ev_cb (ea_cons (ev_v rfl r1a) ea_nil) (rc_lenS (by omega))) (ev_cb (ea_cons (ev_v rfl r2a) ea_nil) (rc_lenS (by omega))) rv_b0)) x1.i ?tail (fun tail hb K2 H2 x2 => ?_) (fun hb K2 H2 x2 => ?_)
  case tail =>
    rintro σ' H' ⟨vs', vl, s', l, K2, rfl, xx, ra, rb, sl, lz, e⟩
    rw [← e] at q
    have x2 : Xt K2 H' K2 H' := Xt.refl xx.i
    have rb2 := rS.mono x2.s rb
    have ra2 := rS.mono x2.s ra
    exact s_ret (Ev.is (ev_or (ev_op (ev_slS (ev_v rfl rb2) eo_none (eo_some (ev_cb (ea_cons (ev_v rfl ra2) ea_nil) (rc_lenS (by omega)))) (by omega)) (ev_v rfl ra2) rv_eqS) fun _ => ev_op (ev_slS (ev_v rfl rb2) (eo_some (ev_op (ev_cb (ea_cons (ev_v rfl rb2) ea_nil) (rc_lenS (by omega))) (ev_cb (ea_cons (ev_v rfl ra2) ea_nil) (rc_lenS (by omega))) rv_i0)) eo_none (by omega)) (ev_v rfl ra2) rv_eqS) (clB_eq (by omega))) x2.i fun v K3 H3 x3 r3 => q v K3 H3 (xx.trans x3) r3
  · have hlt := of_decide_eq_true hb
    refine s_par (ea_cons (ev_v rfl (rS.mono x2.s r2a)) (ea_cons (ev_v rfl (rS.mono x2.s r1a)) ea_nil)) x2.i fun v' u' K3 H3 x3 ra3 rb3 => ?_
    exact tail _ _ ⟨v', u', b, a, K3, rfl, (x1.trans x2).trans x3, ra3, rb3, by omega, h1, by rw [if_pos (by omega)]⟩
  · have hlt := of_decide_eq_false hb
    exact ⟨v, u, a, b, K2, rfl, x1.trans x2, rS.mono x2.s ra, rS.mono x2.s rb, by omega, h2, by rw [if_neg (by omega)]⟩
/-- _law_fits -/
def fitB (xs : List T8) (t : T8) : Bool := !decide (t = []) && !(xs.map fun x => clX x t).any id
def spFits (K : PySem.W.Frag) : Sp := SpF (fun (x : List T8 × T8) => a1 (rL K rS) x.1 (a1 rS x.2 a0)) (fun x => x.2.length ≤ 1000 ∧ okL x.1) (fun _ => rB) (fun x => fitB x.1 x.2)
theorem ok_fits (T : Tx K mg) : Fk P w K mg base CX0 2 (He.ga K "_law_fits") ["_law_words_here", "_law_text"] (spFits K) := by
  refine k0_law_fits T (spf_len fun _ => a1_len (a1_len a0_len)) (fun cdv A outer s H vs Q E hr h => ?_)
  refine ⟨_, (pss_one (ps_ret (pe_and (pe_cmpR op_ne (pv 1) pe_str (nomark _)) (pe_one (pe_not (pe_callB (cr_any rfl) (by rfl) T.n_any boot_any (pa_cons (pe_lc (own := [("_law_word", 2)]) rfl c_law_fits.nd (pi_list (pv 0)) (blkOk_by (N := ["_law_words_here", "_law_text", "_law_word"]) (sc := defScope s_law_fits) (by decide +kernel)) (fun _ _ _ _ _ => (pg_name (i := 2) c_law_fits.nd rfl (by first | exact Or.inl rfl | exact Or.inr rfl))) (fun _ _ _ _ _ => pts_nil) (fun _ _ _ _ _ => (pe_fk (ok_clX T) (hr.mono (by decide)) T.g_law_clashing pass0 (pa_cons (pv 2) (pa_cons (pv 1) pa_nil))))) pa_nil))))))), ?_⟩
  obtain ⟨⟨xs, t⟩, Hm, ⟨h1, h2⟩, ⟨v1, ws, rfl, r1, v2, ws2, rfl, r2, rfl⟩, hi, q⟩ := h
  cases r2
  dsimp only at h1 h2 r1 q
  exact s_ret (ev_and (ev_op (ev_v (R := rS) (d := t) rfl rfl) (Ev.is ev_s (show _ = ([] : T8) by rfl)) rv_neS) fun _ => ev_not (ev_cb (ea_cons (ev_lc0 (K := K) (S := rB) (R := rS) (fun x => clX x t) (wk_list (ev_v rfl r1)) h2.big fun x hx v K3 s3 r3 => ⟨_, tk_name, rfl, ev_call (x := (x, t)) ⟨h2.2 x hx, h1⟩ (ea_cons (ev_v rfl r3) (ea_cons (ev_v (R := rS) (d := t) rfl rfl) ea_nil))⟩) ea_nil) rc_any)) hi q
/-- _law_comings -/
def cmR (Y : List T8) (t : T8) (b : Nat) : List (Int × Int) := ((numsFrom ((b : Int) + 1) (t.length - b)).filter fun e => decide (cut t (some (b : Int)) (some e) ∈ Y)).map fun e => ((b : Int), e)
def cmL (Y : List T8) (t : T8) : List (Int × Int) := (List.range t.length).flatMap (cmR Y t)
theorem cmR_len (Y : List T8) (t : T8) (b : Nat) : (cmR Y t b).length ≤ t.length := by
  unfold cmR
  rw [List.length_map]
  refine Nat.le_trans (List.length_filter_le _ _) ?_
  rw [numsFrom_len]
  omega
theorem cmL_len (Y : List T8) (t : T8) (i : Nat) : ((List.range i).flatMap (cmR Y t)).length ≤ t.length * i := by
  have := BX.flat_len (A := List.range i) (cmR Y t) t.length fun b _ => cmR_len Y t b
  rwa [List.length_range] at this
theorem cut_mid (t : T8) (b e : Nat) (h : b ≤ e) (h2 : e ≤ t.length) : cut t (some (b : Int)) (some (e : Int)) = (t.drop b).take (e - b) := by
  unfold cut HT.sIx
  have n1 : ¬ ((b : Int) < 0) := by omega
  have n2 : ¬ ((e : Int) < 0) := by omega
  have e1 : min b t.length = b := by omega
  have e2 : min e t.length = e := by omega
  simp [n1, n2, e1, e2]
theorem pf_count (Y : List T8) (s : T8) : (((List.range s.length).filter fun i => decide (s.take (i + 1) ∈ Y)).length : Int) = BX.pf Y s := by
  induction s using snocRec with
  | nil => rfl
  | snoc s c ih =>
    rw [BX.pf_snoc, List.length_append, List.length_singleton, List.range_succ, List.filter_append, List.length_append, ← ih]
    have e1 : ((List.range s.length).filter fun i => decide ((s ++ [c]).take (i + 1) ∈ Y)) = (List.range s.length).filter fun i => decide (s.take (i + 1) ∈ Y) := List.filter_congr fun i hi => by
      have := List.mem_range.mp hi
      rw [List.take_append_of_le_length (by omega)]
    rw [e1, Int.natCast_add]
    congr 1
    have e2 : (s ++ [c]).take (s.length + 1) = s ++ [c] := List.take_of_length_le (by rw [List.length_append] <;> exact Nat.le_refl _)
    unfold BX.occ
    by_cases h : s ++ [c] ∈ Y
    · rw [if_pos h, List.filter_cons_of_pos (by rw [e2]; exact decide_eq_true h)] <;> rfl
    · rw [if_neg h, List.filter_cons_of_neg (by rw [e2, decide_eq_true_iff]; exact h)] <;> rfl
theorem cmR_pf (Y : List T8) (t : T8) {b : Nat} (hb : b ≤ t.length) : ((cmR Y t b).length : Int) = BX.pf Y (t.drop b) := by
  rw [← pf_count]
  unfold cmR numsFrom
  rw [List.length_map, List.filter_map, List.length_map, List.length_drop]
  congr 2
  refine List.filter_congr fun i hi => ?_
  have := List.mem_range.mp hi
  show decide (cut t (some (b : Int)) (some ((b : Int) + 1 + (i : Int))) ∈ Y) = _
  have e : (b : Int) + 1 + (i : Int) = ((b + 1 + i : Nat) : Int) := by omega
  rw [e, cut_mid t b _ (by omega) (by omega), show b + 1 + i - b = i + 1 by omega]
theorem cm_sum (Y : List T8) : ∀ t : T8, BX.cm Y t = (((List.range t.length).map fun b => BX.pf Y (t.drop b)).sum)
  | [] => rfl
  | a :: t => by
    show BX.pf Y (a :: t) + BX.cm Y t = _
    rw [cm_sum Y t, List.length_cons, List.range_succ_eq_map, List.map_cons, List.sum_cons, List.map_map]
    rfl
theorem cmL_cm (Y : List T8) (t : T8) : ((cmL Y t).length : Int) = BX.cm Y t := by
  rw [cm_sum]
  unfold cmL
  have go : ∀ n, n ≤ t.length → ((((List.range n).flatMap (cmR Y t)).length : Nat) : Int) = ((List.range n).map fun b => BX.pf Y (t.drop b)).sum := fun n => by
    induction n with
    | zero => exact fun _ => rfl
    | succ n ih =>
      intro h
      rw [List.range_succ, List.flatMap_append, List.map_append, List.length_append, List.sum_append, Int.natCast_add, ih (by omega)]
      congr 1
      rw [List.flatMap_cons, List.flatMap_nil, List.append_nil, cmR_pf Y t (by omega)]
      simp
  exact go _ (Nat.le_refl _)
/-- how long a text may be whose readings are counted -/
def lzP (Y : List T8) (t : T8) : Prop := t.length ≤ 1000 ∨ (BX.Lot Y ∧ t.length ≤ 8000)
theorem lzP.z {Y : List T8} {t : T8} (h : lzP Y t) : t.length ≤ 8000 := h.elim (fun h => by omega) fun h => h.2
def spComings (K : PySem.W.Frag) : Sp := SpF (fun (x : List T8 × T8) => a1 (rT K rS) x.1 (a1 rS x.2 a0)) (fun x => lzP x.1 x.2) (fun _ => rM (rP K rI rI)) (fun x => cmL x.1 x.2)
theorem ok_law_comings (T : Tx K mg) : Fk P w K mg base CX0 1 (He.ga K "_law_comings") ["_law_words_here", "_law_text"] (spComings K) := by
  refine k0_law_comings T (spf_len fun _ => a1_len (a1_len a0_len)) (fun cdv A outer s H vs Q E hr h => ?_)
  refine ⟨_, (pss_cons (ps_set (i := 2) c_law_comings.nd rfl (by first | exact Or.inl rfl | exact Or.inr rfl) (pe_lst pa_nil))
  (pss_cons (ps_for PassesOwn.never rfl (pi_range1 (by rfl) T.n_range (pa_cons (pe_callB call_len (by rfl) T.n_len boot_len (pa_cons (pv 1) pa_nil)) pa_nil)) (pg_name (i := 3) c_law_comings.nd rfl (by first | exact Or.inl rfl | exact Or.inr rfl)) (pss_one (ps_expr (pe_bm PySem.F.plainAttrs_list PySem.F.slot_list_extend PySem.F.type_list_extend mt_extend (pv 2) (pa_cons (pe_lc (tt := tTest (tOp (rIn K false) (tSl rSlS (tVar 1) (tPart (tVar 3)) (tPart (tVar 4))) (tVar 0))) (own := [("_law_end", 4)]) rfl c_law_comings.nd (pi_range2 (by rfl) T.n_range (pa_cons (pe_op op_add (pv 3) pe_int) (pa_cons (pe_op op_add (pe_callB (r := rLen K) call_len (by rfl) T.n_len boot_len (pa_cons (pv 1) pa_nil)) pe_int) pa_nil))) (blkOk_by (N := ["_law_words_here", "_law_text", "_law_found", "_law_begin", "_law_end"]) (sc := defScope s_law_comings) (by decide +kernel)) (fun _ _ _ _ _ => (pg_name (i := 4) c_law_comings.nd rfl (by first | exact Or.inl rfl | exact Or.inr rfl))) (fun _ _ _ _ _ => (pts_one (pt_cmpR op_in_seq (pe_slice sl_str (pv 1) (po_some (pv 3)) (po_some (pv 4))) (pv 0) (by rfl)))) (fun _ _ _ _ _ => (pe_tup (pa_cons (pv 3) (pa_cons (pv 4) pa_nil))))) pa_nil)))))
  (pss_one (ps_ret (pv 2))))), ?_⟩
  obtain ⟨⟨Y, t⟩, Hm, tz0, ⟨v1, ws, rfl, r1, v2, ws2, rfl, r2, rfl⟩, hi, q⟩ := h
  cases r2
  dsimp only at tz0 r1 q
  have tz := tz0.z
  refine q_new fun f nf => ?_
  have c0 := Ci.new (S := rP K rI rI) hi nf
  refine q_forC (Y := fun i => (List.range i).flatMap (cmR Y t)) (fun σ' => ∃ o3, σ' = [some v1, some (.str (tx t)), some (.ref f), o3, none]) (wk_rng (n := (t.length : Int)) (ea_cons (ev_cb (ea_cons (ev_v (R := rS) (d := t) rfl rfl) ea_nil) (rc_lenS (by omega))) ea_nil) (by omega) (by omega)) c0 ⟨none, rfl⟩ ?step ?done
  case step =>
    rintro i d σ' Ki us H' u hd ⟨o3, rfl⟩ c sa ru N hN
    have il : i < t.length := by
      have := (List.getElem?_eq_some_iff.mp hd).1
      rw [nums_len] at this
      omega
    have ed : d = (i : Int) := by
      rw [nums_get (by omega)] at hd
      exact (Option.some.inj hd).symm
    subst ed
    cases ru
    unfold gName
    dsimp only
    have e : (List.range (i + 1)).flatMap (cmR Y t) = (List.range i).flatMap (cmR Y t) ++ cmR Y t i := by
      rw [List.range_succ, List.flatMap_append, List.flatMap_cons, List.flatMap_nil, List.append_nil]
    have z1 := cmL_len Y t i
    have z2 := cmR_len Y t i
    have z4 : ((List.range i).flatMap (cmR Y t)).length ≤ 1000000 := by
      rcases tz0 with h | ⟨L, h⟩
      · have z3 : t.length * i ≤ 1000 * 1000 := Nat.mul_le_mul h (by omega)
        omega
      · have h1 := BX.flat_len (A := List.range i) (cmR Y t) 1 fun b hb => by
          have e := cmR_pf Y t (b := b) (by have := List.mem_range.mp hb; omega)
          have := BX.pf1 L (t.drop b)
          omega
        rw [List.length_range] at h1
        omega
    refine s_extC (ds := cmR Y t i) (i := 2) rfl c nf (Ev.is (ev_lcO (R := rI) (S := rP K rI rI) (fun e => decide (cut t (some (i : Int)) (some e) ∈ Y)) (fun e => ((i : Int), e)) (wk_rng2 (i := (i : Int) + 1) (j := (t.length : Int) + 1) (ea_cons (ev_op (ev_v (R := rI) (d := (i : Int)) rfl rfl) ev_i rv_i0) (ea_cons (ev_op (ev_cb (ea_cons (ev_v (R := rS) (d := t) rfl rfl) ea_nil) (rc_lenS (by omega))) ev_i rv_i0) ea_nil)) (by omega)) (by rw [numsFrom_len]; omega) fun e he v K5 s5 r5 => ?_) ?_) (by omega) fun K6 us6 H6 c6 s6 => hN _ K6 us6 H6 ⟨_, rfl⟩ (by rw [e]; exact c6) s6
    · cases r5
      exact ⟨_, tk_name, rfl, et_test (ev_op (ev_slS (ev_v (R := rS) (d := t) rfl rfl) (eo_some (ev_v (R := rI) (d := (i : Int)) rfl rfl)) (eo_some (ev_v (R := rI) (d := e) rfl rfl)) (by omega)) (ev_v rfl ((rT K rS).mono (sa.trans s5) r1)) rv_inST), fun _ => ev_pair (ea_cons (ev_v (R := rI) (d := (i : Int)) rfl rfl) (ea_cons (ev_v (R := rI) (d := e) rfl rfl) ea_nil))⟩
    · unfold cmR
      rw [show ((t.length : Int) + 1 - ((i : Int) + 1)).toNat = t.length - i by omega]
  case done =>
    rintro σ' Ki us H' ⟨o3, rfl⟩ c sa
    rw [nums_len, show ((t.length : Int)).toNat = t.length by omega] at c
    obtain ⟨xd, rd⟩ := c.done nf
    exact s_ret (ev_v rfl rd) xd.i fun v K5 H5 x5 r5 => q v K5 H5 (xd.trans x5) r5
theorem ev_lcomingsZ {σ : L2.St} {Hm : Hp} {ta tb : TE} {Y : List T8} {t : T8} {E : XK} (tz : lzP Y t) (h1 : Ev ta σ Hm (rT K rS) Y) (h2 : Ev tb σ Hm rS t) : Ev (tCall (spComings K) [] E (tCons ta (tCons tb tNil))) σ Hm (rM (rP K rI rI)) (cmL Y t) :=
  ev_call (x := (Y, t)) tz (ea_cons h1 (ea_cons h2 ea_nil))
/-- _law_count -/
def spCount (K : PySem.W.Frag) : Sp := SpF (fun (x : List T8 × T8) => a1 (rT K rS) x.1 (a1 rS x.2 a0)) (fun x => lzP x.1 x.2) (fun _ => rI) (fun x => BX.cnt x.1 x.2)
theorem ok_count (T : Tx K mg) : Fk P w K mg base CX0 2 (He.ga K "_law_count") ["_law_words_here", "_law_text"] (spCount K) := by
  refine k0_law_count T (spf_len fun _ => a1_len (a1_len a0_len)) (fun cdv A outer s H vs Q E hr h => ?_)
  refine ⟨_, (pss_one (ps_ret (pe_op op_sub (pe_op op_add (pe_callB call_len (by rfl) T.n_len boot_len (pa_cons (pv 1) pa_nil)) pe_int) (pe_callB call_len (by rfl) T.n_len boot_len (pa_cons (pe_fk (ok_law_comings T) (hr.mono (by decide)) T.g_law_comings pass0 (pa_cons (pv 0) (pa_cons (pv 1) pa_nil))) pa_nil))))), ?_⟩
  obtain ⟨⟨Y, t⟩, Hm, tz0, ⟨v1, ws, rfl, r1, v2, ws2, rfl, r2, rfl⟩, hi, q⟩ := h
  dsimp only at tz0 r1 r2 q
  have tz := tz0.z
  exact s_ret (Ev.is (ev_op (ev_op (ev_cb (ea_cons (ev_v rfl r2) ea_nil) (rc_lenS (by omega))) ev_i rv_i0) (ev_cb (ea_cons (Ev.l (K := K) (ev_lcomingsZ tz0 (ev_v rfl r1) (ev_v rfl r2))) ea_nil) rc_lenL) rv_i0) (by unfold BX.cnt; rw [cmL_cm])) hi q
theorem ev_count {σ : L2.St} {Hm : Hp} {ta tb : TE} {Y : List T8} {t : T8} {E : XK} (tz : t.length ≤ 1000) (h1 : Ev ta σ Hm (rT K rS) Y) (h2 : Ev tb σ Hm rS t) : Ev (tCall (spCount K) [] E (tCons ta (tCons tb tNil))) σ Hm rI (BX.cnt Y t) :=
  ev_call (x := (Y, t)) (.inl tz) (ea_cons h1 (ea_cons h2 ea_nil))
/-- min(number, _law_count(lot, text)) -/
theorem ev_ff {σ : L2.St} {Hm : Hp} {tn ta tb : TE} {Y : List T8} {t : T8} {d : Int} {E : XK} (tz : t.length ≤ 1000) (h0 : Ev tn σ Hm rI d) (h1 : Ev ta σ Hm (rT K rS) Y) (h2 : Ev tb σ Hm rS t) : Ev (tCB rMin2 (tCons tn (tCons (tCall (spCount K) [] E (tCons ta (tCons tb tNil))) tNil))) σ Hm rI (BX.ff Y d t) :=
  ev_min2 h0 (ev_count tz h1 h2)
theorem cutm_init (t : T8) : cut t none (some (-1)) = t.dropLast := by
  unfold cut HT.sIx
  simp [List.dropLast_eq_take]
  congr 1
  omega
theorem cutm_tail (t : T8) : cut t (some 1) none = t.tail := by
  have := cut_drop t 1
  rw [List.drop_one] at this
  exact this
theorem cutm_in (t : T8) : cut t (some 1) (some (-1)) = t.tail.dropLast := by
  unfold cut HT.sIx
  simp [List.dropLast_eq_take]
  cases t with
  | nil => rfl
  | cons a t =>
    simp
    congr 1
    omega
/-- by its inner part -/
theorem ev_four {σ : L2.St} {Hm : Hp} {Y : List T8} {t : T8} {d : Int} {i j k : Nat} {E1 E2 : XK} (tz : t.length ≤ 1000) (hd : Ev (tVar i) σ Hm rI d) (hY : Ev (tVar j) σ Hm (rT K rS) Y) (ht : Ev (tVar k) σ Hm rS t) :
    Ev (tOp (rI0 fun i j => .int (i + j)) (tCB rMin2 (tCons (tVar i) (tCons (tCall (spCount K) [] E1 (tCons (tVar j) (tCons (tSl rSlS (tVar k) tNoPart (tPart (tUn (rU fun i => .int (-i)) (tC (.int 1))))) tNil))) tNil))) (tCB rMin2 (tCons (tVar i) (tCons (tCall (spCount K) [] E2 (tCons (tVar j) (tCons (tSl rSlS (tVar k) (tPart (tC (.int 1))) tNoPart) tNil))) tNil)))) σ Hm rI (BX.ff Y d t.dropLast + BX.ff Y d t.tail) :=
  ev_op (ev_ff (by rw [List.length_dropLast]; omega) hd hY (Ev.is (ev_slS ht eo_none (eo_some (ev_neg ev_i)) (by omega)) (cutm_init t))) (ev_ff (by rw [List.length_tail]; omega) hd hY (Ev.is (ev_slS ht (eo_some ev_i) eo_none (by omega)) (cutm_tail t))) rv_i0
def lastB (Y : List T8) (d : Int) (t : T8) : Bool := decide (BX.ff Y d t.dropLast + BX.ff Y d t.tail - BX.ff Y d t - BX.ff Y d t.tail.dropLast = 1)
theorem lastB_wrd {Y : List T8} {d : Int} {t : T8} (h : t.length ≠ 1) : lastB Y d t = BX.wrd Y d t := by
  unfold BX.wrd lastB
  rw [if_neg h]
def spLast (K : PySem.W.Frag) : Sp := SpF (fun (x : List T8 × Int × T8) => a1 (rT K rS) x.1 (a1 rI x.2.1 (a1 rS x.2.2 a0))) (fun x => x.2.2.length ≤ 1000) (fun _ => rB) (fun x => lastB x.1 x.2.1 x.2.2)
theorem ok_is_last (T : Tx K mg) : Fk P w K mg base CX0 3 (He.ga K "_law_is_last") ["_law_lot_here", "_law_number", "_law_text"] (spLast K) := by
  refine k0_law_is_last T (spf_len fun _ => a1_len (a1_len (a1_len a0_len))) (fun cdv A outer s H vs Q E hr h => ?_)
  refine ⟨_, (pss_cons (ps_set (i := 3) c_law_is_last.nd rfl (by first | exact Or.inl rfl | exact Or.inr rfl) (pe_op op_add (pe_callB (call_min2 rfl) (by rfl) T.n_min boot_min (pa_cons (pv 1) (pa_cons (pe_fk (ok_count T) (hr.mono (by decide)) T.g_law_count pass0 (pa_cons (pv 0) (pa_cons (pe_slice sl_str (pv 2) po_none (po_some (pe_un un_neg pe_int))) pa_nil))) pa_nil))) (pe_callB (call_min2 rfl) (by rfl) T.n_min boot_min (pa_cons (pv 1) (pa_cons (pe_fk (ok_count T) (hr.mono (by decide)) T.g_law_count pass0 (pa_cons (pv 0) (pa_cons (pe_slice sl_str (pv 2) (po_some pe_int) po_none) pa_nil))) pa_nil)))))
  (pss_one (ps_ret (pe_cmpR op_eq (pe_op op_sub (pe_op op_sub (pv 3) (pe_callB (call_min2 rfl) (by rfl) T.n_min boot_min (pa_cons (pv 1) (pa_cons (pe_fk (ok_count T) (hr.mono (by decide)) T.g_law_count pass0 (pa_cons (pv 0) (pa_cons (pv 2) pa_nil))) pa_nil)))) (pe_callB (call_min2 rfl) (by rfl) T.n_min boot_min (pa_cons (pv 1) (pa_cons (pe_fk (ok_count T) (hr.mono (by decide)) T.g_law_count pass0 (pa_cons (pv 0) (pa_cons (pe_slice sl_str (pv 2) (po_some pe_int) (po_some (pe_un un_neg pe_int))) pa_nil))) pa_nil)))) pe_int (nomark _))))), ?_⟩
  obtain ⟨⟨Y, d, t⟩, Hm, tz, ⟨v1, ws, rfl, r1, v2, ws2, rfl, r2, v3, ws3, rfl, r3, rfl⟩, hi, q⟩ := h
  cases r2
  cases r3
  dsimp only at tz r1 q
  refine q_set (ev_four (i := 1) (j := 0) (k := 2) (t := t) tz (ev_v (R := rI) (d := d) rfl rfl) (ev_v rfl r1) (ev_v (R := rS) (d := t) rfl rfl)) hi fun u3 K1 H1 x1 r3 => ?_
  have r1a := (rT K rS).mono x1.s r1
  exact s_ret (ev_op (ev_op (ev_op (ev_v (R := rI) rfl r3) (ev_ff (t := t) tz (ev_v (R := rI) (d := d) rfl rfl) (ev_v rfl r1a) (ev_v (R := rS) (d := t) rfl rfl)) rv_i0) (ev_ff (t := t.tail.dropLast) (by rw [List.length_dropLast, List.length_tail]; omega) (ev_v (R := rI) (d := d) rfl rfl) (ev_v rfl r1a) (Ev.is (ev_slS (ev_v (R := rS) (d := t) rfl rfl) (eo_some ev_i) (eo_some (ev_neg ev_i)) (by omega)) (cutm_in t))) rv_i0) ev_i rv_eqI) x1.i fun v K2 H2 x2 r => q v K2 H2 (x1.trans x2) r
end
end NJ

set_option Elab.async false
set_option linter.all false
set_option maxRecDepth 100000
set_option maxHeartbeats 8000000
/-! The law's own _law_least_clash, of a list or a tuple. -/
namespace NJ
open PySem PySem.Spec PyProof.Rows L2
def pF (xs : List T8) (x : T8) : List (T8 × T8) := (xs.filter fun y => decide (x.length < y.length) && clB x y).map fun y => (x, y)
def pA (xs : List T8) (i : Nat) : List (T8 × T8) := ((xs.take i).map (pF xs)).flatten
theorem pA_succ {xs : List T8} {i : Nat} {x : T8} (h : xs[i]? = some x) : pA xs (i + 1) = pA xs i ++ pF xs x := by
  unfold pA
  rw [List.take_add_one, h]
  simp
theorem pF_yes {xs : List T8} {j : Nat} {x y : T8} (h : xs[j]? = some y) (c : (decide (x.length < y.length) && clB x y) = true) : pF (xs.take (j + 1)) x = pF (xs.take j) x ++ [(x, y)] := by
  unfold pF
  rw [filter_yes (f := fun y => decide (x.length < y.length) && clB x y) h c, List.map_append] <;> rfl
theorem pF_no {xs : List T8} {j : Nat} {x y : T8} (h : xs[j]? = some y) (c : (decide (x.length < y.length) && clB x y) = false) : pF (xs.take (j + 1)) x = pF (xs.take j) x := by
  unfold pF
  rw [filter_no (f := fun y => decide (x.length < y.length) && clB x y) h c]
theorem pF_len (xs : List T8) (x : T8) : (pF xs x).length ≤ xs.length := by
  unfold pF
  rw [List.length_map]
  exact List.length_filter_le _ _
theorem pA_len (xs : List T8) : ∀ i, (pA xs i).length ≤ i * xs.length
  | 0 => by simp [pA]
  | i + 1 => by
    have h := pA_len xs i
    have e : (i + 1) * xs.length = i * xs.length + xs.length := Nat.succ_mul i xs.length
    cases hx : xs[i]? with
    | none =>
      have e2 : pA xs (i + 1) = pA xs i := by
        unfold pA
        rw [List.take_add_one, hx]
        simp
      rw [e2]
      omega
    | some x =>
      rw [pA_succ hx, List.length_append]
      have := pF_len xs x
      omega
theorem mem_pA {xs : List T8} {p : T8 × T8} : p ∈ pA xs xs.length ↔ Pr xs p := by
  unfold pA Pr
  rw [List.take_length, List.mem_flatten]
  constructor
  · rintro ⟨l, hl, hp⟩
    obtain ⟨x, hx, rfl⟩ := List.mem_map.mp hl
    unfold pF at hp
    obtain ⟨y, hy, rfl⟩ := List.mem_map.mp hp
    obtain ⟨h1, h2⟩ := List.mem_filter.mp hy
    rw [Bool.and_eq_true, decide_eq_true_iff] at h2
    refine ⟨hx, h1, h2.1, ?_⟩
    have := h2.2
    unfold clB at this
    rw [Bool.or_eq_true, List.isPrefixOf_iff_prefix, List.isSuffixOf_iff_suffix] at this
    exact this
  · rintro ⟨h1, h2, h3, h4⟩
    refine ⟨pF xs p.1, List.mem_map_of_mem h1, ?_⟩
    unfold pF
    refine List.mem_map.mpr ⟨p.2, List.mem_filter.mpr ⟨h2, ?_⟩, rfl⟩
    rw [Bool.and_eq_true, decide_eq_true_iff]
    refine ⟨h3, ?_⟩
    unfold clB
    rw [Bool.or_eq_true, List.isPrefixOf_iff_prefix, List.isSuffixOf_iff_suffix]
    exact h4
section
variable {P : Program} {w : World} {K : PySem.W.Frag} {mg : Str → Option Value} {base : Heap}
def spLeastT (K : PySem.W.Frag) : Sp := SpF (fun (xs : List T8) => a1 (rT K rS) xs a0) okL (fun _ => rO (rP K rS rS)) lcF
theorem ok_leastT (T : Tx K mg) : Fk P w K mg base CX0 2 (He.ga K "_law_least_clash") ["_law_texts"] (spLeastT K) := by
  refine k0_law_least_clash T (spf_len fun _ => a1_len a0_len) (fun cdv A outer s H vs Q E hr h => ?_)
  refine ⟨_, (pss_cons (ps_set (i := 1) c_law_least_clash.nd rfl (by first | exact Or.inl rfl | exact Or.inr rfl) (pe_lst pa_nil))
  (pss_cons (ps_for PassesOwn.never rfl (pi_tup (pv 0)) (pg_name (i := 2) c_law_least_clash.nd rfl (by first | exact Or.inl rfl | exact Or.inr rfl)) (pss_one (ps_for PassesOwn.never rfl (pi_tup (pv 0)) (pg_name (i := 3) c_law_least_clash.nd rfl (by first | exact Or.inl rfl | exact Or.inr rfl)) (pss_one (ps_if (PW.pt (pw_and (pt_cmpR op_lt (pe_callB call_len (by rfl) T.n_len boot_len (pa_cons (pv 2) pa_nil)) (pe_callB call_len (by rfl) T.n_len boot_len (pa_cons (pv 3) pa_nil)) (nomark _)) (pw_and1 (pt_val (pe_fk (ok_clX T) (hr.mono (by decide)) T.g_law_clashing pass0 (pa_cons (pv 2) (pa_cons (pv 3) pa_nil))))))) (pss_one (ps_expr (pe_bm PySem.F.plainAttrs_list PySem.F.slot_list_append PySem.F.type_list_append mt_append (pv 1) (pa_cons (pe_tup (pa_cons (pv 2) (pa_cons (pv 3) pa_nil))) pa_nil)))) pss_nil)))))
  (pss_cons (ps_if (pt_cmpR op_eq (pe_callB call_len (by rfl) T.n_len boot_len (pa_cons (pv 1) pa_nil)) pe_int (nomark _)) (pss_one (ps_ret pe_non)) pss_nil)
  (pss_one (ps_ret (pe_callB (cr_minP rfl (hu100 hr)) (by rfl) T.n_min boot_min (pa_cons (pv 1) pa_nil))))))), ?_⟩
  obtain ⟨xs, Hm, ok, ⟨v, ws, rfl, r, rfl⟩, hi, q⟩ := h
  refine q_new fun f nf => ?_
  have c0 := Ci.new (S := rP K rS rS) hi nf
  have e0 : pA xs 0 = [] := rfl
  have sq : xs.length * xs.length ≤ 1000000 := Nat.mul_le_mul ok.1 ok.1
  refine q_forC (Y := pA xs) (fun σ' => ∃ o2 o3, σ' = [some v, some (.ref f), o2, o3]) (wk_tup (ev_v (R := rT K rS) rfl r)) (e0 ▸ c0) ⟨none, none, rfl⟩ ?step ?done
  case step =>
    rintro i x σ' Ki us H' u hx ⟨o2, o3, rfl⟩ c sa ru N hN
    refine s_forC (D := { nx := N, ct := N, bk := _, rt := _ }) (Y := fun j => pA xs i ++ pF (xs.take j) x) (Ka := Ki) (fun σ' => ∃ o3, σ' = [some v, some (.ref f), some u, o3]) (wk_tup (ev_v (R := rT K rS) rfl ((rT K rS).mono sa r))) (by
      have e : pA xs i ++ pF (xs.take 0) x = pA xs i := by simp [pF]
      rw [e]
      exact c) ⟨o3, rfl⟩ ?step2 ?done2
    case step2 =>
      rintro j y σ2 Kj us2 H2 u2 hy ⟨o3, rfl⟩ c2 sb ru2 N2 hN2
      have hxl := ok.at (List.mem_of_getElem? hx)
      have hyl := ok.at (List.mem_of_getElem? hy)
      have hyk := ok.2 y (List.mem_of_getElem? hy)
      have rua := rS.mono sb ru
      refine s_if (b := decide (x.length < y.length) && clB x y) (et_and (Et.is (et_test (ev_op (ev_cb (ea_cons (ev_v rfl rua) ea_nil) (rc_lenS hxl)) (ev_cb (ea_cons (ev_v rfl ru2) ea_nil) (rc_lenS hyl)) rv_b0)) (by
        rw [decide_eq_decide]
        omega)) fun hlt => et_test (Ev.is (ev_call (x := (x, y)) ⟨ok.2 x (List.mem_of_getElem? hx), hyk⟩ (ea_cons (ev_v rfl rua) (ea_cons (ev_v rfl ru2) ea_nil))) (show clX x y = clB x y by unfold clX; rw [if_neg (by have := of_decide_eq_true hlt; omega)]))) c2.i (fun hb K3 H3 x3 => ?_) (fun hb K3 H3 x3 => ?_)
      · have hl := pA_len xs i
        have hi' : i < xs.length := (List.getElem?_eq_some_iff.mp hx).1
        have hm : i * xs.length ≤ xs.length * xs.length := Nat.mul_le_mul_right _ (Nat.le_of_lt hi')
        have hp := pF_len (xs.take j) x
        have hp2 : (xs.take j).length ≤ xs.length := by
          rw [List.length_take]
          exact Nat.min_le_right _ _
        have hxs := ok.1
        refine s_appC (d := (x, y)) (K := K) rfl (c2.ext x3) nf (ev_pair (ea_cons (ev_v rfl (rS.mono x3.s rua)) (ea_cons (ev_v rfl (rS.mono x3.s ru2)) ea_nil))) (by rw [List.length_append]; omega) fun K4 vs4 H4 c4 s4 => hN2 _ K4 vs4 H4 ⟨_, rfl⟩ ?_ (x3.s.trans s4)
        rw [List.append_assoc, ← pF_yes hy hb] at c4
        exact c4
      · refine hN2 _ K3 us2 H3 ⟨_, rfl⟩ ?_ x3.s
        show Ci Hm H f (rP K rS rS) (pA xs i ++ pF (xs.take (j + 1)) x) K3 us2 H3
        rw [pF_no hy hb]
        exact c2.ext x3
    case done2 =>
      rintro σ2 Kj us2 H2 ⟨o3, rfl⟩ c2 sb
      refine hN _ Kj us2 H2 ⟨_, _, rfl⟩ ?_ sb
      rw [List.take_length, ← pA_succ hx] at c2
      exact c2
  case done =>
    rintro σ' Ki us H' ⟨o2, o3, rfl⟩ c sa
    obtain ⟨xd, rm⟩ := c.done nf
    have rl : (rL K (rP K rS rS)).rel _ (.ref f) _ := rm_l rm
    refine q_when (Et.is (b' := (pA xs xs.length).isEmpty) (et_test (ev_op (ev_cb (ea_cons (ev_v rfl rl) ea_nil) rc_lenL) ev_i rv_eqI)) (by
      cases pA xs xs.length with
      | nil => rfl
      | cons a b => exact decide_eq_false (by rw [List.length_cons]; omega))) xd.i (fun hb K1 H1 x1 => ?_) (fun hb K1 H1 x1 => ?_)
    · have e : pA xs xs.length = [] := List.isEmpty_iff.mp hb
      have e2 : lcF xs = none := lcF_is_none fun p hp => by
        have := mem_pA.mpr hp
        rw [e] at this
        cases this
      rw [e2] at q
      exact s_ret (ev_none ev_n) x1.i fun v K2 H2 x2 r2 => q v K2 H2 ((xd.trans x1).trans x2) r2
    · cases e : pA xs xs.length with
      | nil =>
        rw [e] at hb
        cases hb
      | cons p ps =>
        rw [e] at rl
        have e2 : lcF xs = some (mnP p ps) := lcF_is (mem_pA.mp (by rw [e]; exact mnP_in p ps)) fun y hy => mnP_le ps p y (by rw [← e]; exact mem_pA.mpr hy)
        rw [e2] at q
        exact s_ret (ev_some (ev_minP (ev_v rfl ((rL K (rP K rS rS)).mono x1.s rl)))) x1.i fun v K2 H2 x2 r2 => q v K2 H2 ((xd.trans x1).trans x2) r2
end
end NJ

set_option Elab.async false
set_option linter.all false
set_option maxRecDepth 100000
set_option maxHeartbeats 4000000
/-! Family B: the words of a made book. -/
namespace NJ
open PySem PySem.Spec PyProof.Rows L2
/-- a lot of a web -/
structure LotP (n : Nat) (ar : List Arw) (Y : List T8) : Prop where
  lot : BX.Lot Y
  z : Y.length ≤ 400
  st : ∀ y ∈ Y, y.length ≤ 60 ∧ strB n ar y = true ∧ ∀ c ∈ y, c ∈ sgB ar
  asc : Y.Pairwise (· < ·)
theorem str_more {n : Nat} {ar : List Arw} (h : PartP n ar) {t : T8} (ht : strB n ar t = true) : ∃ c, strB n ar (t ++ [c]) = true := by
  unfold strB at ht
  rw [Bool.not_eq_true', List.isEmpty_eq_false_iff_exists_mem] at ht
  obtain ⟨x, hx⟩ := ht
  obtain ⟨a, ha, rfl⟩ := ring_out h.t.ring (okS_end h.w t (okS_nums n) _ hx)
  obtain ⟨_, _, c, e, _⟩ := h.t.ok a ha
  refine ⟨c, ?_⟩
  unfold strB
  rw [endF_snoc, Bool.not_eq_true', List.isEmpty_eq_false_iff_exists_mem]
  exact ⟨a.2.2, mem_nxF.mpr ⟨a.1, hx, by rw [← e]; exact ha⟩⟩
theorem ext_to {n : Nat} {ar : List Arw} (h : PartP n ar) {x : T8} (hx : strB n ar x = true) : ∀ m : Nat, x.length ≤ m → ∃ y ∈ stB n ar m, x <+: y := fun m => by
  induction m with
  | zero => exact fun hm => ⟨x, (mem_stB h 0 x).mpr ⟨by omega, hx⟩, List.prefix_refl _⟩
  | succ m ih =>
    intro hm
    by_cases e : x.length = m + 1
    · exact ⟨x, (mem_stB h _ x).mpr ⟨e, hx⟩, List.prefix_refl _⟩
    · obtain ⟨y, hy, p⟩ := ih (by omega)
      obtain ⟨hl, hs⟩ := (mem_stB h m y).mp hy
      obtain ⟨c, hc⟩ := str_more h hs
      exact ⟨y ++ [c], (mem_stB h _ _).mpr ⟨by rw [List.length_append, hl] <;> rfl, hc⟩, p.trans (List.prefix_append y [c])⟩
theorem stB_pos {n : Nat} {ar : List Arw} (h : PartP n ar) (k : Nat) : 0 < (stB n ar k).length := by
  obtain ⟨y, hy, _⟩ := ext_to h (str_nil h) k (Nat.zero_le _)
  exact List.length_pos_of_mem hy
theorem str_suf {n : Nat} {ar : List Arw} (h : PartP n ar) {a b : T8} (hs : strB n ar (a ++ b) = true) : strB n ar b = true := by
  unfold strB at hs ⊢
  rw [Bool.not_eq_true', List.isEmpty_eq_false_iff_exists_mem] at hs ⊢
  obtain ⟨y, hy⟩ := hs
  have mono : ∀ (l : T8) {S T : List Int}, (∀ x ∈ S, x ∈ T) → ∀ x ∈ endF ar S l, x ∈ endF ar T l := fun l => by
    induction l with
    | nil => exact fun h x hx => h x hx
    | cons c l ih =>
      intro S T h x hx
      refine ih (S := nxF ar S [c]) (T := nxF ar T [c]) (fun y hy => ?_) x hx
      obtain ⟨z, hz, m⟩ := mem_nxF.mp hy
      exact mem_nxF.mpr ⟨z, h z hz, m⟩
  have e2 : endF ar (nums n) (a ++ b) = endF ar (endF ar (nums n) a) b := by
    unfold endF
    rw [List.foldl_append]
  rw [e2] at hy
  exact ⟨y, mono b (fun x hx => mem_nums (okS_end h.w a (okS_nums n) x hx)) y hy⟩
/-- words of lengths 1 to k -/
def wsU (n : Nat) (ar : List Arw) (Y : List T8) (d : Int) : Nat → List T8
  | 0 => []
  | k + 1 => wsU n ar Y d k ++ (stB n ar (k + 1)).filter (BX.wrd Y d)
theorem mem_wsU {n : Nat} {ar : List Arw} {Y : List T8} {d : Int} : ∀ {k : Nat} {x : T8}, x ∈ wsU n ar Y d k → ∃ j, 1 ≤ j ∧ j ≤ k ∧ x ∈ stB n ar j ∧ BX.wrd Y d x = true
  | 0, x, h => by cases h
  | k + 1, x, h => by
    rcases List.mem_append.mp h with h | h
    · obtain ⟨j, a, b, c⟩ := mem_wsU h
      exact ⟨j, a, by omega, c⟩
    · obtain ⟨h1, h2⟩ := List.mem_filter.mp h
      exact ⟨k + 1, by omega, Nat.le_refl _, h1, h2⟩
theorem wsU_nd {n : Nat} {ar : List Arw} (h : PartP n ar) {Y : List T8} {d : Int} : ∀ k, (wsU n ar Y d k).Nodup
  | 0 => List.nodup_nil
  | k + 1 => List.nodup_append.mpr ⟨wsU_nd h k, (ltT_nd (stB_asc h _)).filter _, fun a ha b hb e => by
    obtain ⟨j, _, j2, j3, _⟩ := mem_wsU ha
    have l1 := ((mem_stB h _ _).mp j3).1
    have l2 := ((mem_stB h _ _).mp (List.mem_filter.mp hb).1).1
    rw [e, l2] at l1
    omega⟩
theorem asc_strict : ∀ {xs : List T8}, xs.Pairwise (fun a b => leT a b = true) → xs.Nodup → xs.Pairwise (· < ·)
  | [], _, _ => .nil
  | x :: xs, .cons h1 h2, nd => by
    obtain ⟨n1, n2⟩ := List.nodup_cons.mp nd
    refine .cons (fun y hy => ?_) (asc_strict h2 n2)
    have h := of_decide_eq_true (h1 y hy)
    have ne : x ≠ y := fun e => n1 (e ▸ hy)
    exact Std.lt_of_le_of_ne h ne
theorem ws_ok {n : Nat} {ar : List Arw} (h : PartP n ar) {Y : List T8} {d : Int} (ly : BX.Lot Y) (d1 : 1 ≤ d) {xs : List T8} (nd : xs.Nodup) (hz : xs.length ≤ 400) (hm : ∀ x ∈ xs, ∃ j, 1 ≤ j ∧ j ≤ 60 ∧ x ∈ stB n ar j ∧ BX.wrd Y d x = true) : WsP n ar (srtT xs) := by
  have pm := srtT_perm xs
  refine ⟨by rw [pm.length_eq]; exact hz, fun x hx => ?_, asc_strict (srtT_pw xs) (pm.nodup_iff.mpr nd), fun x hx y hy ne => ?_⟩
  · obtain ⟨j, j1, j2, j3, _⟩ := hm x (pm.mem_iff.mp hx)
    obtain ⟨l, s⟩ := (mem_stB h _ _).mp j3
    exact ⟨fun c hc => sgB_low h (stB_low h j x j3 c hc), by omega, by omega, s⟩
  · obtain ⟨j, j1, _, j3, wx⟩ := hm x (pm.mem_iff.mp hx)
    obtain ⟨k, k1, _, k3, wy⟩ := hm y (pm.mem_iff.mp hy)
    have lx := ((mem_stB h _ _).mp j3).1
    have x0 : x ≠ [] := fun e => by
      rw [e] at lx
      simp at lx
      omega
    exact ⟨fun p => ne (BX.pre_free ly d1 x0 wx wy p), fun p => ne (BX.suf_free ly d1 x0 wx wy p)⟩
theorem made_ok {n : Nat} {ar : List Arw} (h : PartP n ar) {Y : List T8} (hy : LotP n ar Y) {d : Int} (d1 : 1 ≤ d) (d4 : d ≤ 4) {L : Nat} (L1 : 1 ≤ L) (L9 : L ≤ 9) (hc : 2 ≤ L → (stB n ar L).length ≤ 160) (hf : ∀ t ∈ stB n ar L, d ≤ BX.cnt Y t) :
    WsP n ar (srtT (wsU n ar Y d L ++ (stB n ar (L + 1)).filter (lastB Y d))) := by
  have e : (stB n ar (L + 1)).filter (lastB Y d) = (stB n ar (L + 1)).filter (BX.wrd Y d) := List.filter_congr fun x hx => lastB_wrd (by rw [((mem_stB h _ _).mp hx).1]; omega)
  rw [e]
  have nd : (wsU n ar Y d L ++ (stB n ar (L + 1)).filter (BX.wrd Y d)).Nodup := wsU_nd h (L + 1)
  have hm : ∀ x ∈ wsU n ar Y d L ++ (stB n ar (L + 1)).filter (BX.wrd Y d), ∃ j, 1 ≤ j ∧ j ≤ L + 1 ∧ x ∈ stB n ar j ∧ BX.wrd Y d x = true := fun x hx => mem_wsU (k := L + 1) hx
  refine ws_ok h hy.lot d1 nd ?_ fun x hx => by
    obtain ⟨j, a, b, c⟩ := hm x hx
    exact ⟨j, a, by omega, c⟩
  have ne : ∀ {j : Nat} {x : T8}, 1 ≤ j → x ∈ stB n ar j → x ≠ [] := fun {j x} j1 hx e => by
    have := ((mem_stB h _ _).mp hx).1
    rw [e] at this
    simp at this
    omega
  by_cases L5 : 5 ≤ L
  · rw [List.length_append]
    refine BX.few (Y := Y) hy.lot d1 d4 L5 (sgB_len h) (fun c hc => (hy.st _ hc).2.2 c (by simp)) (hc (by omega)) (fun t ht => ((mem_stB h _ _).mp ht).1) hf (ltT_nd (stB_asc h L)) (wsU_nd h L) (fun x hx => ?_) ((ltT_nd (stB_asc h _)).filter _) (fun w hw => ?_)
    · obtain ⟨j, j1, j2, j3, j4⟩ := mem_wsU hx
      obtain ⟨l, s⟩ := (mem_stB h _ _).mp j3
      exact ⟨ne j1 j3, by omega, j4, ext_to h s L (by omega)⟩
    · obtain ⟨h1, h2⟩ := List.mem_filter.mp hw
      obtain ⟨l, s⟩ := (mem_stB h _ _).mp h1
      have w0 := ne (by omega) h1
      obtain ⟨a, u, b, rfl⟩ := BX.two_ends (w := w) (by omega)
      refine ⟨l, h2, ?_, ?_, stB_low h _ _ h1⟩
      · rw [BX.drop_sq]
        refine (mem_stB h _ _).mpr ⟨by simp at l ⊢; omega, str_pre (b := [b]) s⟩
      · exact (mem_stB h _ _).mpr ⟨by simp at l ⊢; omega, str_suf h (a := [a]) s⟩
  · have := BX.card_pre (A := wsU n ar Y d L ++ (stB n ar (L + 1)).filter (BX.wrd Y d)) (F := stB n ar (L + 1)) nd (fun x hx y hy' p => by
      obtain ⟨j, j1, _, j3, j4⟩ := hm x hx
      obtain ⟨k, k1, _, k3, k4⟩ := hm y hy'
      exact BX.pre_free hy.lot d1 (ne j1 j3) j4 k4 p) fun x hx => by
      obtain ⟨j, j1, j2, j3, _⟩ := hm x hx
      obtain ⟨l, s⟩ := (mem_stB h _ _).mp j3
      exact ext_to h s _ (by omega)
    have h2 := stB_len h (L + 1)
    have h3 : 3 ^ (L + 1) ≤ 3 ^ 5 := Nat.pow_le_pow_right (by decide) (by omega)
    have h4 : 3 ^ 5 = 243 := by decide
    omega
end NJ

set_option Elab.async false
set_option linter.all false
set_option maxRecDepth 100000
set_option maxHeartbeats 4000000
/-! Family B: full books, the number of readings. -/
namespace NJ
open PySem PySem.Spec PyProof.Rows L2
/-- a full book: d readings of all long stretches, at most so many of any -/
structure FullP (n : Nat) (ar : List Arw) (d : Int) (W : List T8) : Prop where
  ws : WsP n ar W
  le : ∀ t, strB n ar t = true → BX.cnt W t ≤ d
  ev : ∃ N : Nat, ∀ t, strB n ar t = true → N ≤ t.length → BX.cnt W t = d
theorem cnt_app {Y : List T8} (L : BX.Lot Y) (p q : T8) : BX.cnt Y p ≤ BX.cnt Y (p ++ q) := by
  induction q using snocRec with
  | nil => rw [List.append_nil]; exact Int.le_refl _
  | snoc q c ih =>
    rw [← List.append_assoc]
    exact Int.le_trans ih (BX.up_snoc L (p ++ q) c).1
theorem occ_in {Y : List T8} {w : T8} (h : w ∈ Y) : BX.occ Y w = 1 := if_pos h
theorem occ_out {Y : List T8} {w : T8} (h : w ∉ Y) : BX.occ Y w = 0 := if_neg h
theorem cnt_one (W : List T8) (c : Nat) : BX.cnt W [c] = 2 - BX.occ W [c] := by
  rw [BX.cnt_cons, BX.cnt_nil]
  have : BX.pf W [c] = BX.occ W [c] + 0 := rfl
  omega
theorem x_le {Y : List T8} (L : BX.Lot Y) {d : Int} (a b : Nat) (u : T8) : BX.ff Y d (a :: u) + BX.ff Y d (u ++ [b]) - BX.ff Y d (a :: (u ++ [b])) - BX.ff Y d u ≤ 1 := by
  have h1 := BX.up_cons L a u
  have h2 := BX.up_snoc L u b
  have h3 := BX.cnt_sq Y a b u
  have h4 := BX.occ1 Y (a :: (u ++ [b]))
  have h5 := BX.up_cons L a (u ++ [b])
  have h6 := BX.up_snoc L (a :: u) b
  have h7 : BX.cnt Y (a :: u ++ [b]) = BX.cnt Y (a :: (u ++ [b])) := rfl
  unfold BX.ff
  omega
theorem cnt_ff {n : Nat} {ar : List Arw} (h : PartP n ar) {Y : List T8} (ly : BX.Lot Y) {d : Int} (d1 : 1 ≤ d) {L : Nat} (hf : ∀ t ∈ stB n ar L, d ≤ BX.cnt Y t) {W : List T8} (hW : ∀ x, x ∈ W ↔ (∃ j, 1 ≤ j ∧ j ≤ L + 1 ∧ x ∈ stB n ar j) ∧ BX.wrd Y d x = true) :
    ∀ (k : Nat) (t : T8), t.length ≤ k → strB n ar t = true → BX.cnt W t = BX.ff Y d t := fun k => by
  have far : ∀ u, strB n ar u = true → L ≤ u.length → BX.ff Y d u = d := fun u hu hl => by
    have e : u = u.take L ++ u.drop L := (List.take_append_drop _ _).symm
    have h1 := hf (u.take L) ((mem_stB h _ _).mpr ⟨by rw [List.length_take]; omega, str_pre (b := u.drop L) (by rw [← e]; exact hu)⟩)
    have h2 := cnt_app ly (u.take L) (u.drop L)
    rw [← e] at h2
    unfold BX.ff
    omega
  induction k with
  | zero =>
    intro t ht _
    obtain rfl : t = [] := List.length_eq_zero_iff.mp (by omega)
    unfold BX.ff
    rw [BX.cnt_nil, BX.cnt_nil]
    omega
  | succ k ih =>
    intro t ht hs
    by_cases e1 : t.length = 1
    · obtain ⟨c, rfl⟩ : ∃ c, t = [c] := List.length_eq_one_iff.mp e1
      have b := BX.up_cons ly c []
      rw [BX.cnt_nil] at b
      rw [cnt_one]
      by_cases hw : BX.wrd Y d [c] = true
      · rw [occ_in ((hW _).mpr ⟨⟨1, Nat.le_refl _, by omega, (mem_stB h _ _).mpr ⟨rfl, hs⟩⟩, hw⟩)]
        unfold BX.wrd at hw
        rw [if_pos e1, decide_eq_true_iff] at hw
        omega
      · rw [occ_out fun m => hw ((hW _).mp m).2]
        unfold BX.wrd at hw
        rw [if_pos e1, decide_eq_true_iff] at hw
        unfold BX.ff at hw ⊢
        omega
    by_cases e2 : 2 ≤ t.length
    · obtain ⟨a, u, b, rfl⟩ := BX.two_ends e2
      have sa : strB n ar (a :: u) = true := str_pre (b := [b]) hs
      have sb : strB n ar (u ++ [b]) = true := str_suf h (a := [a]) hs
      have su : strB n ar u = true := str_pre (b := [b]) sb
      have l1 : (a :: (u ++ [b])).length = u.length + 2 := by simp
      rw [BX.cnt_sq, ih (a :: u) (by simp; omega) sa, ih (u ++ [b]) (by simp; omega) sb, ih u (by omega) su]
      have x0 := BX.x_nn ly (d := d) a b u
      have x1 := x_le ly (d := d) a b u
      by_cases hL : (a :: (u ++ [b])).length ≤ L + 1
      · by_cases hw : BX.wrd Y d (a :: (u ++ [b])) = true
        · rw [occ_in ((hW _).mpr ⟨⟨_, by omega, hL, (mem_stB h _ _).mpr ⟨rfl, hs⟩⟩, hw⟩)]
          rw [BX.wrd_sq, decide_eq_true_iff] at hw
          omega
        · rw [occ_out fun m => hw ((hW _).mp m).2]
          rw [BX.wrd_sq, decide_eq_true_iff] at hw
          omega
      · rw [occ_out fun m => by
          obtain ⟨⟨j, _, j2, j3⟩, _⟩ := (hW _).mp m
          have := ((mem_stB h _ _).mp j3).1
          omega]
        have f1 := far _ sa (by simp; omega)
        have f2 := far _ sb (by simp; omega)
        have f3 := far _ su (by omega)
        have f4 := far _ hs (by omega)
        omega
    · exact ih t (by omega) hs
theorem wsU_mem {n : Nat} {ar : List Arw} {Y : List T8} {d : Int} {j : Nat} {x : T8} (h3 : x ∈ stB n ar j) (h4 : BX.wrd Y d x = true) (h1 : 1 ≤ j) : ∀ {k : Nat}, j ≤ k → x ∈ wsU n ar Y d k
  | 0, h => by omega
  | k + 1, h => by
    by_cases e : j = k + 1
    · subst e
      exact List.mem_append_right _ (List.mem_filter.mpr ⟨h3, h4⟩)
    · exact List.mem_append_left _ (wsU_mem h3 h4 h1 (by omega))
theorem made_full {n : Nat} {ar : List Arw} (h : PartP n ar) {Y : List T8} (hy : LotP n ar Y) {d : Int} (d1 : 1 ≤ d) (d4 : d ≤ 4) {L : Nat} (L1 : 1 ≤ L) (L9 : L ≤ 9) (hc : 2 ≤ L → (stB n ar L).length ≤ 160) (hf : ∀ t ∈ stB n ar L, d ≤ BX.cnt Y t) :
    FullP n ar d (srtT (wsU n ar Y d L ++ (stB n ar (L + 1)).filter (lastB Y d))) := by
  have ok := made_ok h hy d1 d4 L1 L9 hc hf
  have e : (stB n ar (L + 1)).filter (lastB Y d) = (stB n ar (L + 1)).filter (BX.wrd Y d) := List.filter_congr fun x hx => lastB_wrd (by rw [((mem_stB h _ _).mp hx).1]; omega)
  rw [e] at ok ⊢
  have c := fun t => cnt_ff h hy.lot d1 hf (W := srtT (wsU n ar Y d L ++ (stB n ar (L + 1)).filter (BX.wrd Y d))) (fun x => by
    rw [(srtT_perm _).mem_iff]
    constructor
    · intro hx
      obtain ⟨j, j1, j2, j3, j4⟩ := mem_wsU (k := L + 1) hx
      exact ⟨⟨j, j1, j2, j3⟩, j4⟩
    · rintro ⟨⟨j, j1, j2, j3⟩, j4⟩
      exact wsU_mem (k := L + 1) j3 j4 j1 j2) t.length t (Nat.le_refl _)
  refine ⟨ok, fun t ht => ?_, L, fun t ht hl => ?_⟩
  · rw [c t ht]
    unfold BX.ff
    omega
  · rw [c t ht]
    have e : t = t.take L ++ t.drop L := (List.take_append_drop _ _).symm
    have h1 := hf (t.take L) ((mem_stB h _ _).mpr ⟨by rw [List.length_take]; omega, str_pre (b := t.drop L) (by rw [← e]; exact ht)⟩)
    have h2 := cnt_app hy.lot (t.take L) (t.drop L)
    rw [← e] at h2
    unfold BX.ff
    omega
theorem sf_st {n : Nat} {ar : List Arw} (h : PartP n ar) {k : Nat} (k1 : 1 ≤ k) : ∀ s : T8, strB n ar s = true → BX.sf (stB n ar k) s = if k ≤ s.length then 1 else 0
  | [], _ => by rw [if_neg (by simp; omega)] <;> rfl
  | a :: t, hs => by
    have ih := sf_st h k1 t (str_suf h (a := [a]) hs)
    show BX.occ (stB n ar k) (a :: t) + BX.sf (stB n ar k) t = _
    rw [ih, List.length_cons]
    by_cases e : t.length + 1 = k
    · rw [occ_in ((mem_stB h k (a :: t)).mpr ⟨e, hs⟩), if_neg (by omega), if_pos (by omega)] <;> rfl
    · rw [occ_out fun m => e ((mem_stB h k (a :: t)).mp m).1]
      by_cases e2 : k ≤ t.length
      · rw [if_pos e2, if_pos (by omega)] <;> rfl
      · rw [if_neg e2, if_neg (by omega)] <;> rfl
theorem cnt_st {n : Nat} {ar : List Arw} (h : PartP n ar) {k : Nat} (k1 : 1 ≤ k) (t : T8) : strB n ar t = true → BX.cnt (stB n ar k) t = min (k : Int) ((t.length : Int) + 1) := by
  induction t using snocRec with
  | nil =>
    intro _
    rw [BX.cnt_nil]
    simp
    omega
  | snoc t b ih =>
    intro hs
    rw [BX.cnt_snoc, ih (str_pre hs), sf_st h k1 _ hs, List.length_append, List.length_singleton]
    by_cases e : k ≤ t.length + 1
    · rw [if_pos e]
      omega
    · rw [if_neg e]
      omega
end NJ

set_option Elab.async false
set_option linter.all false
set_option maxRecDepth 100000
set_option maxHeartbeats 8000000
/-! Family B: _law_made. -/
namespace NJ
open PySem PySem.Spec PyProof.Rows L2
theorem sgl_st {n : Nat} {ar : List Arw} (h : PartP n ar) : sgl (sgB ar) = stB n ar 1 := by
  have e : stB n ar 1 = ((sgB ar).filter fun c => strB n ar ([] ++ [c])).map fun c => [] ++ [c] := by
    show lgF n ar [[]] = _
    unfold lgF
    rw [List.flatMap_cons, List.flatMap_nil, List.append_nil]
  rw [e, List.filter_eq_self.mpr]
  · rfl
  · intro c hc
    obtain ⟨t, ht, e⟩ := (mem_sgB h).mp hc
    have ok := h.t.ok t ht
    unfold strB
    rw [List.nil_append, Bool.not_eq_true', List.isEmpty_eq_false_iff_exists_mem]
    exact ⟨t.2.2, mem_nxF.mpr ⟨t.1, mem_nums ok.1, by rw [← e]; exact ht⟩⟩
section
variable {P : Program} {w : World} {K : PySem.W.Frag} {mg : Str → Option Value} {base : Heap}
theorem q_ifJ {σ : L2.St} {Hm H : Hp} {t : TT} {D : Ends} {t1 t2 tz : TS} {b : Bool} (M : L2.St → Hp → Prop) (h : Et t σ Hm b) (hi : Same Hm H) (tail : ∀ σ' H', M σ' H' → tz D σ' H') (h1 : (∀ σ' H', M σ' H' → tz D σ' H') → b = true → ∀ K1 H1, Xt Hm H K1 H1 → t1 { D with nx := tz D } σ H1) (h2 : (∀ σ' H', M σ' H' → tz D σ' H') → b = false → ∀ K1 H1, Xt Hm H K1 H1 → t2 { D with nx := tz D } σ H1) : tSeq (tIfS t t1 t2) tz D σ H :=
  q_if h hi (h1 tail) (h2 tail)
def fewN (Y : List T8) (d : Int) (xs : List T8) : Nat := (xs.filter fun t => decide (BX.cnt Y t < d)).length
theorem few_snoc (Y : List T8) (d : Int) (xs : List T8) (t : T8) : ((fewN Y d (xs ++ [t]) : Nat) : Int) = (fewN Y d xs : Int) + (if decide (BX.cnt Y t < d) = true then 1 else 0) := by
  unfold fewN
  rw [List.filter_append, List.length_append]
  by_cases h : BX.cnt Y t < d
  · simp [h]
  · simp [h]
theorem few_zero {Y : List T8} {d : Int} {xs : List T8} (h : ((fewN Y d xs : Nat) : Int) = 0) : ∀ t ∈ xs, d ≤ BX.cnt Y t := fun t ht => by
  unfold fewN at h
  have h : (xs.filter fun t => decide (BX.cnt Y t < d)) = [] := List.length_eq_zero_iff.mp (by omega)
  rw [List.filter_eq_nil_iff] at h
  have := h t ht
  rw [decide_eq_true_iff] at this
  omega
theorem made_len {n : Nat} {ar : List Arw} (h : PartP n ar) {Y : List T8} {d : Int} {k : Nat} (hk : k ≤ 10) : (wsU n ar Y d k).length ≤ 649539 := by
  have h1 := BX.nodup_sub (A := wsU n ar Y d k) (F := (List.range (k + 1)).flatMap fun k => stB n ar k) (wsU_nd h k) fun x hx => by
    obtain ⟨j, _, k2, k3, _⟩ := mem_wsU hx
    exact List.mem_flatMap.mpr ⟨j, List.mem_range.mpr (by omega), k3⟩
  have h2 := BX.flat_len (A := List.range (k + 1)) (fun k => stB n ar k) 59049 fun j hj => by
    have := stB_len h j
    have h3 : 3 ^ j ≤ 3 ^ 10 := Nat.pow_le_pow_right (by decide) (by have := List.mem_range.mp hj; omega)
    have h4 : 3 ^ 10 = 59049 := by decide
    omega
  rw [List.length_range] at h2
  have h3 := Nat.le_trans h1 h2
  omega
def isMade (n : Nat) (ar : List Arw) (d : Int) (o : Option (List T8)) : Prop := ∀ ws, o = some ws → FullP n ar d ws
def spMade (K : PySem.W.Frag) : Sp := SpF (fun (x : (Nat × List Arw) × List T8 × Int) => a1 (rTold K) ((x.1.1 : Int), x.1.2) (a1 (rT K rS) x.2.1 (a1 rI x.2.2 a0))) (fun x => PartP x.1.1 x.1.2 ∧ LotP x.1.1 x.1.2 x.2.1 ∧ 1 ≤ x.2.2 ∧ x.2.2 ≤ 4) (fun x => rE (rO (rT K rS)) (isMade x.1.1 x.1.2 x.2.2)) (fun _ => ())
theorem ok_made (T : Tx K mg) : Fk P w K mg base CX0 4 (He.ga K "_law_made") ["_law_parts", "_law_lot_here", "_law_number"] (spMade K) := by
  refine k0_law_made T (spf_len fun _ => a1_len (a1_len (a1_len a0_len))) (fun cdv A outer s H vs Q E hr h => ?_)
  refine ⟨_, (pss_cons (ps_set (i := 3) c_law_made.nd rfl (by first | exact Or.inl rfl | exact Or.inr rfl) (pe_lst pa_nil))
  (pss_cons (ps_set (i := 4) c_law_made.nd rfl (by first | exact Or.inl rfl | exact Or.inr rfl) (pe_fk (ok_signs T) (hr.mono (by decide)) T.g_law_signs pass0 (pa_cons (pv 0) pa_nil)))
  (pss_cons (ps_for PassesOwn.never rfl (pi_range2 (by rfl) T.n_range (pa_cons pe_int (pa_cons pe_int pa_nil))) (pg_name (i := 5) c_law_made.nd rfl (by first | exact Or.inl rfl | exact Or.inr rfl)) (pss_cons (ps_set (i := 6) c_law_made.nd rfl (by first | exact Or.inl rfl | exact Or.inr rfl) pe_int)
  (pss_cons (ps_for PassesOwn.never rfl (pi_list (pv 4)) (pg_name (i := 7) c_law_made.nd rfl (by first | exact Or.inl rfl | exact Or.inr rfl)) (pss_cons (ps_if (pt_cmpR op_eq (pv 5) pe_int (nomark _)) (pss_one (ps_set (i := 8) c_law_made.nd rfl (by first | exact Or.inl rfl | exact Or.inr rfl) (pe_cmpR op_eq (pe_callB (call_min2 rfl) (by rfl) T.n_min boot_min (pa_cons (pv 2) (pa_cons (pe_fk (ok_count T) (hr.mono (by decide)) T.g_law_count pass0 (pa_cons (pv 1) (pa_cons (pv 7) pa_nil))) pa_nil))) pe_int (nomark _)))) (pss_cons (ps_set (i := 9) c_law_made.nd rfl (by first | exact Or.inl rfl | exact Or.inr rfl) (pe_op op_add (pe_callB (call_min2 rfl) (by rfl) T.n_min boot_min (pa_cons (pv 2) (pa_cons (pe_fk (ok_count T) (hr.mono (by decide)) T.g_law_count pass0 (pa_cons (pv 1) (pa_cons (pe_slice sl_str (pv 7) po_none (po_some (pe_un un_neg pe_int))) pa_nil))) pa_nil))) (pe_callB (call_min2 rfl) (by rfl) T.n_min boot_min (pa_cons (pv 2) (pa_cons (pe_fk (ok_count T) (hr.mono (by decide)) T.g_law_count pass0 (pa_cons (pv 1) (pa_cons (pe_slice sl_str (pv 7) (po_some pe_int) po_none) pa_nil))) pa_nil)))))
  (pss_one (ps_set (i := 8) c_law_made.nd rfl (by first | exact Or.inl rfl | exact Or.inr rfl) (pe_cmpR op_eq (pe_op op_sub (pe_op op_sub (pv 9) (pe_callB (call_min2 rfl) (by rfl) T.n_min boot_min (pa_cons (pv 2) (pa_cons (pe_fk (ok_count T) (hr.mono (by decide)) T.g_law_count pass0 (pa_cons (pv 1) (pa_cons (pv 7) pa_nil))) pa_nil)))) (pe_callB (call_min2 rfl) (by rfl) T.n_min boot_min (pa_cons (pv 2) (pa_cons (pe_fk (ok_count T) (hr.mono (by decide)) T.g_law_count pass0 (pa_cons (pv 1) (pa_cons (pe_slice sl_str (pv 7) (po_some pe_int) (po_some (pe_un un_neg pe_int))) pa_nil))) pa_nil)))) pe_int (nomark _))))))
  (pss_cons (ps_if (pt_val (pv 8)) (pss_one (ps_expr (pe_bm PySem.F.plainAttrs_list PySem.F.slot_list_append PySem.F.type_list_append mt_append (pv 3) (pa_cons (pv 7) pa_nil)))) pss_nil)
  (pss_one (ps_set (i := 6) c_law_made.nd rfl (by first | exact Or.inl rfl | exact Or.inr rfl) (pe_op op_add (pv 6) (pe_callTy call_int1 (by rfl) T.n_int boot_int (pa_cons (pe_cmpR op_lt (pe_fk (ok_count T) (hr.mono (by decide)) T.g_law_count pass0 (pa_cons (pv 1) (pa_cons (pv 7) pa_nil))) (pv 2) (nomark _)) pa_nil))))))))
  (pss_cons (ps_if (pt_cmpR op_eq (pv 6) pe_int (nomark _)) (pss_cons (ps_setLc (i := 10) (own := [("_law_text", 7)]) rfl c_law_made.nd rfl (by rfl) (sw_true rfl rfl rfl (by decide +kernel)) (pi_list (pe_fk (ok_longer T) (hr.mono (by decide)) T.g_law_longer pass0 (pa_cons (pv 0) (pa_cons (pv 4) pa_nil)))) (blkOk_by (N := ["_law_parts", "_law_lot_here", "_law_number", "_law_found", "_law_texts", "_law_length", "_law_few", "_law_text", "_law_word", "_law_more", "_law_last"]) (sc := defScope s_law_made) (by decide +kernel)) (fun _ _ _ _ _ => (pg_name (i := 7) c_law_made.nd rfl (by first | exact Or.inl rfl | exact Or.inr rfl))) (fun _ _ _ _ _ => (pts_one (pt_val (pe_fk (ok_is_last T) (hr.mono (by decide)) T.g_law_is_last pass0 (pa_cons (pv 1) (pa_cons (pv 2) (pa_cons (pv 7) pa_nil))))))) (fun _ _ _ _ _ => (pv 7)))
  (pss_one (ps_ret (pe_callTy call_tuple_of (by rfl) T.n_tuple boot_tuple (pa_cons (pe_callB (cr_sortD (hu100 hr)) (by rfl) T.n_sorted boot_sorted (pa_cons (pe_op op_cat (pv 3) (pv 10)) pa_nil)) pa_nil))))) pss_nil)
  (pss_cons (ps_set (i := 4) c_law_made.nd rfl (by first | exact Or.inl rfl | exact Or.inr rfl) (pe_fk (ok_longer T) (hr.mono (by decide)) T.g_law_longer pass0 (pa_cons (pv 0) (pa_cons (pv 4) pa_nil))))
  (pss_one (ps_if (pt_cmpR op_gt (pe_callB call_len (by rfl) T.n_len boot_len (pa_cons (pv 4) pa_nil)) pe_int (nomark _)) (pss_one (ps_ret pe_non)) pss_nil)))))))
  (pss_one (ps_ret pe_non))))), ?_⟩
  obtain ⟨⟨⟨n, ar⟩, Y, d⟩, Hm, ⟨pp, ly, d1, d4⟩, ⟨v1, ws, rfl, r1, v2, ws2, rfl, r2, v3, ws3, rfl, r3, rfl⟩, hi, q⟩ := h
  cases r3
  dsimp only at pp ly d1 d4 r1 r2 q
  refine q_new fun f nf => ?_
  have c0 := Ci.new (S := rS) hi nf
  refine q_set (Ev.is (ev_signs pp (ev_v rfl r1)) (sgl_st pp)) c0.i fun u4 K1 H1 x1 r4 => ?_
  have c1 := c0.ext x1
  refine q_for (wk_rng2 (Hm := K1) (i := 1) (j := 10) (ea_cons ev_i (ea_cons ev_i ea_nil)) (by decide)) c1.i fun K2 H2 x2 => ?_
  have hn : (numsFrom 1 ((10 : Int) - 1).toNat).length = 9 := by rw [numsFrom_len] <;> rfl
  refine ⟨fun i σ' H' => ∃ (u o5 o6 o7 o8 o9 : Option V) (u4 : V) (Ki : Hp) (vs : List V), σ' = [some v1, some v2, some (.int d), some (.ref f), some u4, o5, o6, o7, o8, o9, none] ∧ Ci Hm H f rS (wsU n ar Y d i) Ki vs H' ∧ Same K2 Ki ∧ (rL K rS).rel Ki u4 (stB n ar (i + 1)) ∧ (1 ≤ i → (stB n ar (i + 1)).length ≤ 160), ⟨none, none, none, none, none, none, u4, K2, _, rfl, c1.ext x2, Same.refl _, (rL K rS).mono x2.s r4, fun h => absurd h (by decide)⟩, fun i σ' H' ⟨_, _, _, _, _, _, _, _, _, _, c, s, _⟩ => s.trans c.i, ?_, ?_⟩
  · rintro i dd σ' H' v K4 H4 hd ⟨u, o5, o6, o7, o8, o9, u4, Ki, vs, rfl, c, sK, r4, hc⟩ x4 rv
    have il : i < 9 := by
      rw [← hn]
      exact (List.getElem?_eq_some_iff.mp hd).1
    have ed : dd = ((i + 1 : Nat) : Int) := by
      rw [numsFrom_get (by omega)] at hd
      have := (Option.some.inj hd).symm
      omega
    subst ed
    cases rv
    have x5 : Xt Ki H' (uni Ki K4) H4 := Xt.lift sK c.i x4
    have c5 := c.ext x5
    have r45 := (rL K rS).mono x5.s r4
    generalize uni Ki K4 = K5 at x5 c5 r45
    unfold gName
    dsimp only
    have ts := okTs_st pp (k := i + 1) (by omega)
    have tl := fun x hx => (mem_stB pp (i + 1) x).mp hx
    generalize hxs : stB n ar (i + 1) = xs at r45 ts tl hc
    refine q_set (ev_i (i := 0)) c5.i fun u6 K6 H6 x6 r6 => ?_
    cases r6
    have c6 := c5.ext x6
    refine q_for (wk_list (ev_v (Hm := K6) (R := rL K rS) (d := xs) rfl ((rL K rS).mono x6.s r45))) c6.i fun K7 H7 x7 => ?_
    have c7 := c6.ext x7
    refine ⟨fun j σ' H' => ∃ (o7 o8 o9 : Option V) (Kj : Hp) (vs : List V), σ' = [some v1, some v2, some (.int d), some (.ref f), some u4, some (.int ((i + 1 : Nat) : Int)), some (.int (fewN Y d (xs.take j) : Int)), o7, o8, o9, none] ∧ Ci Hm H f rS (wsU n ar Y d i ++ (xs.take j).filter (BX.wrd Y d)) Kj vs H' ∧ Same K7 Kj, ⟨o7, o8, o9, K7, _, rfl, by simpa using c7, Same.refl _⟩, fun j σ' H' ⟨_, _, _, _, _, _, c, s⟩ => s.trans c.i, ?_, ?_⟩
    · rintro j t σ' H' v K8 H8 ht ⟨o7, o8, o9, Kj, vs, rfl, cj, sj⟩ x8 rv
      have x9 : Xt Kj H' (uni Kj K8) H8 := Xt.lift sj cj.i x8
      have c9 := cj.ext x9
      cases rv
      have tm := List.mem_of_getElem? ht
      have tz : t.length ≤ 1000 := (ts.2 t tm).1
      have tl1 := (tl t tm).1
      have s9 : Same Hm (uni Kj K8) := c9.s
      generalize uni Kj K8 = K9 at x9 c9 s9
      dsimp only
      have ea : xs.take (j + 1) = xs.take j ++ [t] := by rw [List.take_add_one, ht] <;> rfl
      have yz : (wsU n ar Y d i ++ (xs.take j).filter (BX.wrd Y d)).length < 16000000 := by
        have h3 := made_len pp (Y := Y) (d := d) (k := i) (by omega)
        have h5 : ((xs.take j).filter (BX.wrd Y d)).length ≤ xs.length := Nat.le_trans (List.length_filter_le _ _) (by rw [List.length_take]; exact Nat.min_le_right _ _)
        have h6 := ts.1
        rw [List.length_append]
        omega
      have yp : (wsU n ar Y d i ++ (xs.take j).filter (BX.wrd Y d)) ++ [t].filter (BX.wrd Y d) = wsU n ar Y d i ++ (xs.take (j + 1)).filter (BX.wrd Y d) := by
        rw [ea, List.filter_append, List.append_assoc]
      refine q_ifJ (b := decide (((i + 1 : Nat) : Int) = 1)) (fun σ' H' => ∃ (o9 : Option V) (Kk : Hp) (vs : List V), σ' = [some v1, some v2, some (.int d), some (.ref f), some u4, some (.int ((i + 1 : Nat) : Int)), some (.int (fewN Y d (xs.take j) : Int)), some (.str (tx t)), some (.bl (BX.wrd Y d t)), o9, none] ∧ Ci Hm H f rS (wsU n ar Y d i ++ (xs.take j).filter (BX.wrd Y d)) Kk vs H' ∧ Same K7 Kk) (et_test (ev_op (ev_v (R := rI) (d := ((i + 1 : Nat) : Int)) rfl rfl) ev_i rv_eqI)) c9.i ?tail ?h1 ?h2
      case h1 =>
        intro tail hb K10 H10 x10
        have hb := of_decide_eq_true hb
        have c10 := c9.ext x10
        refine s_set (i := 8) (Ev.is (ev_op (ev_ff (t := t) tz (ev_v (R := rI) (d := d) rfl rfl) (ev_v rfl ((rT K rS).mono c10.s r2)) (ev_v (R := rS) (d := t) rfl rfl)) ev_i rv_eqI) (show decide (BX.ff Y d t = 1) = BX.wrd Y d t by unfold BX.wrd; rw [if_pos (by omega)])) c10.i fun u K11 H11 x11 r11 => ?_
        cases r11
        exact tail _ _ ⟨o9, K11, _, rfl, c10.ext x11, ((sj.trans x9.s).trans x10.s).trans x11.s⟩
      case h2 =>
        intro tail hb K10 H10 x10
        have hb := of_decide_eq_false hb
        have c10 := c9.ext x10
        refine q_set (i := 9) (ev_four (i := 2) (j := 1) (k := 7) (t := t) tz (ev_v (R := rI) (d := d) rfl rfl) (ev_v rfl ((rT K rS).mono c10.s r2)) (ev_v (R := rS) (d := t) rfl rfl)) c10.i fun u K11 H11 x11 r11 => ?_
        have c11 := c10.ext x11
        have r2b := (rT K rS).mono c11.s r2
        refine s_set (i := 8) (Ev.is (ev_op (ev_op (ev_op (ev_v (R := rI) rfl r11) (ev_ff (t := t) tz (ev_v (R := rI) (d := d) rfl rfl) (ev_v rfl r2b) (ev_v (R := rS) (d := t) rfl rfl)) rv_i0) (ev_ff (t := t.tail.dropLast) (by rw [List.length_dropLast, List.length_tail]; omega) (ev_v (R := rI) (d := d) rfl rfl) (ev_v rfl r2b) (Ev.is (ev_slS (ev_v (R := rS) (d := t) rfl rfl) (eo_some ev_i) (eo_some (ev_neg ev_i)) (by omega)) (cutm_in t))) rv_i0) ev_i rv_eqI) (show lastB Y d t = BX.wrd Y d t from lastB_wrd (by omega))) c11.i fun u2 K12 H12 x12 r12 => ?_
        cases r12
        exact tail _ _ ⟨_, K12, _, rfl, c11.ext x12, (((sj.trans x9.s).trans x10.s).trans x11.s).trans x12.s⟩
      case tail =>
        rintro σ' H' ⟨o9, Kk, vs, rfl, ck, sk⟩
        refine q_whenJ (b := BX.wrd Y d t) (fun σ' H' => ∃ (Kk : Hp) (vs : List V), σ' = [some v1, some v2, some (.int d), some (.ref f), some u4, some (.int ((i + 1 : Nat) : Int)), some (.int (fewN Y d (xs.take j) : Int)), some (.str (tx t)), some (.bl (BX.wrd Y d t)), o9, none] ∧ Ci Hm H f rS (wsU n ar Y d i ++ (xs.take (j + 1)).filter (BX.wrd Y d)) Kk vs H' ∧ Same K7 Kk) (et_test (ev_v (R := rB) rfl rfl)) ck.i ?tail2 (fun tail hb K10 H10 x10 => ?_) (fun hb K10 H10 x10 => ?_)
        case tail2 =>
          rintro σ' H' ⟨Kk, vs, rfl, ck, sk⟩
          refine s_set (i := 6) (ev_op (ev_v (R := rI) (d := (fewN Y d (xs.take j) : Int)) rfl rfl) (ev_cb (ea_cons (ev_op (ev_count (t := t) tz (ev_v rfl ((rT K rS).mono ck.s r2)) (ev_v (R := rS) (d := t) rfl rfl)) (ev_v (R := rI) (d := d) rfl rfl) rv_b0) ea_nil) rc_intB) rv_i0) ck.i fun w K10 H10 x10 r10 => ?_
          refine ⟨some (.str (tx t)), some (.bl (BX.wrd Y d t)), o9, K10, vs, ?_, ck.ext x10, sk.trans x10.s⟩
          rw [show w = V.int _ from r10, ea, few_snoc]
          rfl
        · have c10 := ck.ext x10
          refine s_appC (d := t) rfl c10 nf (ev_v (R := rS) (d := t) rfl rfl) yz fun K11 vs11 H11 c11 s11 => tail _ _ ⟨K11, vs11, rfl, ?_, (sk.trans x10.s).trans s11⟩
          rw [← yp, List.filter_cons_of_pos hb]
          exact c11
        · refine ⟨K10, vs, rfl, ?_, sk.trans x10.s⟩
          rw [← yp, List.filter_cons_of_neg (by rw [hb]; exact Bool.false_ne_true), List.filter_nil, List.append_nil]
          exact ck.ext x10
    · rintro σ' H' ⟨o7, o8, o9, Kj, vs, rfl, cj, sj⟩
      rw [List.take_length] at cj ⊢
      have r48 := (rL K rS).mono ((x6.s.trans x7.s).trans sj) r45
      refine q_when (et_test (ev_op (ev_v (R := rI) (d := (fewN Y d xs : Int)) rfl rfl) ev_i rv_eqI)) cj.i (fun hb K8 H8 x8 => ?_) (fun hb K8 H8 x8 => ?_)
      · have fz := few_zero (of_decide_eq_true hb)
        obtain ⟨xd, rd⟩ := (cj.ext x8).done nf
        have sf := (cj.ext x8).up
        have r49 := (rL K rS).mono (x8.s.trans sf) r48
        refine q_set (i := 10) (Ev.is (ev_lcO (R := rS) (S := rS) (fun t => lastB Y d t) id (wk_list (Ev.l (ev_call (x := ((n, ar), xs)) ⟨pp, ts⟩ (ea_cons (ev_v rfl ((rTold K).mono xd.s r1)) (ea_cons (ev_v rfl r49) ea_nil))))) (by show (lgF n ar xs).length ≤ 16000000; have := lgF_len pp xs; have := ts.1; omega) fun t ht v K9 s9 r9 => ⟨_, tk_name, rfl, et_test (ev_call (x := (Y, d, t)) (by
            obtain ⟨t', h1, c, _, _, rfl⟩ := mem_lgF.mp ht
            have := (tl t' h1).1
            show (t' ++ [c]).length ≤ 1000
            rw [List.length_append, this]
            simp
            omega) (ea_cons (ev_v rfl ((rT K rS).mono (xd.s.trans s9) r2)) (ea_cons (ev_v (R := rI) (d := d) rfl rfl) (ea_cons (ev_v rfl r9) ea_nil)))), fun _ => ev_v rfl r9⟩) (List.map_id _)) xd.i fun u10 K10 H10 x10 r10 => ?_
        have lz : (wsU n ar Y d i ++ xs.filter (BX.wrd Y d)).length + ((lgF n ar xs).filter fun t => lastB Y d t).length ≤ 16000000 := by
          have h0 := cj.len
          have h1 := Nat.le_trans (List.length_filter_le (fun t => lastB Y d t) (lgF n ar xs)) (lgF_len pp xs)
          have h2 := ts.1
          have h3 := made_len pp (Y := Y) (d := d) (k := i + 1) (by omega)
          have h4 : wsU n ar Y d (i + 1) = wsU n ar Y d i ++ xs.filter (BX.wrd Y d) := by rw [← hxs] <;> rfl
          rw [← h4]
          omega
        refine s_ret (R := rT K rS) (ev_cb (ea_cons (ev_cb (ea_cons (Ev.l (ev_op (ev_v rfl ((rM rS).mono x10.s rd)) (ev_v rfl r10) (rv_cat lz))) ea_nil) (rc_sortS (by rw [List.length_append]; exact lz))) ea_nil) rc_tupOfL) x10.i fun v K11 H11 x11 r11 => q v K11 H11 ((xd.trans x10).trans x11) ⟨some _, r11, fun ws e => ?_⟩
        cases e
        have := made_full pp ly d1 d4 (L := i + 1) (by omega) (by omega) (fun h => by rw [hxs]; exact hc (by omega)) (by rw [hxs]; exact fz)
        have h4 : wsU n ar Y d (i + 1) = wsU n ar Y d i ++ xs.filter (BX.wrd Y d) := by rw [← hxs] <;> rfl
        have h5 : stB n ar (i + 1 + 1) = lgF n ar xs := by rw [← hxs] <;> rfl
        rw [h4, h5] at this
        exact this
      · have c8 := cj.ext x8
        have r49 := (rL K rS).mono x8.s r48
        refine q_set (i := 4) (ev_call (x := ((n, ar), xs)) ⟨pp, ts⟩ (ea_cons (ev_v rfl ((rTold K).mono c8.s r1)) (ea_cons (ev_v rfl r49) ea_nil))) c8.i fun u9 K9 H9 x9 r9 => ?_
        have c9 := c8.ext x9
        have rl := rm_l (K := K) r9
        have h4 : wsU n ar Y d (i + 1) = wsU n ar Y d i ++ xs.filter (BX.wrd Y d) := by rw [← hxs] <;> rfl
        have h5 : stB n ar (i + 1 + 1) = lgF n ar xs := by rw [← hxs] <;> rfl
        refine s_if (et_test (ev_op (ev_cb (ea_cons (ev_v rfl rl) ea_nil) rc_lenL) ev_i rv_b0)) c9.i (fun hb K10 H10 x10 => ?_) (fun hb K10 H10 x10 => ?_)
        · obtain ⟨xd, _⟩ := (c9.ext x10).done nf
          exact s_ret (R := rO (rT K rS)) (d := none) (ev_none ev_n) xd.i fun v K5 H5 x5 r5 => q v K5 H5 (xd.trans x5) ⟨none, r5, fun ws h => by cases h⟩
        · have hb : ¬ ((160 : Int) < ((lgF n ar xs).length : Int)) := of_decide_eq_false hb
          refine ⟨none, _, _, _, _, _, u9, K10, vs, rfl, ?_, ?_, ?_, fun _ => ?_⟩
          · rw [h4]
            exact c9.ext x10
          · exact (((((sK.trans x5.s).trans x6.s).trans x7.s).trans sj).trans x8.s).trans (x9.s.trans x10.s)
          · rw [h5]
            exact (rL K rS).mono x10.s rl
          · rw [h5]
            omega
  · rintro σ' H' ⟨u, o5, o6, o7, o8, o9, u4, Ki, vs, rfl, c, sK, r4, hc⟩
    obtain ⟨xd, _⟩ := c.done nf
    exact s_ret (R := rO (rT K rS)) (d := none) (ev_none ev_n) xd.i fun v K5 H5 x5 r5 => q v K5 H5 (xd.trans x5) ⟨none, r5, fun ws h => by cases h⟩
end
end NJ

set_option Elab.async false
set_option linter.all false
set_option maxRecDepth 100000
set_option maxHeartbeats 8000000
/-! Family B: drawn lots, full books, words, walks. -/
namespace NJ
open PySem PySem.Spec PyProof.Rows L2
/-- texts drawn so far -/
structure DrI (n : Nat) (ar : List Arw) (i : Nat) (xs : List T8) : Prop where
  z : xs.length ≤ i
  st : ∀ x ∈ xs, 1 ≤ x.length ∧ x.length ≤ 10 ∧ strB n ar x = true ∧ ∀ c ∈ x, c ∈ sgB ar
  nd : xs.Nodup
  cl : ∀ x ∈ xs, ∀ y ∈ xs, x ≠ y → ¬ x <+: y ∧ ¬ x <:+ y
theorem DrI.nil {n i : Nat} {ar : List Arw} : DrI n ar i [] := ⟨Nat.zero_le _, fun x h => (by cases h), List.nodup_nil, fun x h => (by cases h)⟩
theorem fit_not {xs : List T8} {t : T8} (h : fitB xs t = true) : t ≠ [] ∧ ∀ x ∈ xs, ¬ clX x t = true := by
  unfold fitB at h
  rw [Bool.and_eq_true, Bool.not_eq_true', Bool.not_eq_true', decide_eq_false_iff_not, List.any_map, List.any_eq_false] at h
  exact ⟨h.1, fun x hx => h.2 x hx⟩
theorem DrI.put {n i : Nat} {ar : List Arw} (pp : PartP n ar) {xs : List T8} {t : T8} (h : DrI n ar i xs) (ht : ∃ k : Nat, 1 ≤ k ∧ k ≤ 10 ∧ t ∈ stB n ar k) (nt : t ∉ xs) (f : fitB xs t = true) : DrI n ar (i + 1) (xs ++ [t]) := by
  obtain ⟨t0, hc⟩ := fit_not f
  obtain ⟨k, k1, k2, k3⟩ := ht
  obtain ⟨tl, tst⟩ := (mem_stB pp k t).mp k3
  refine ⟨by rw [List.length_append]; have := h.z; simp; omega, fun x hx => ?_, List.nodup_append.mpr ⟨h.nd, by simp, fun a ha b hb e => nt (by rw [List.mem_singleton] at hb; exact hb ▸ e ▸ ha)⟩, fun x hx y hy ne => ?_⟩
  · rcases List.mem_append.mp hx with hx | hx
    · exact h.st x hx
    · rw [List.mem_singleton] at hx
      subst hx
      exact ⟨by omega, by omega, tst, stB_low pp k _ k3⟩
  · rcases List.mem_append.mp hx with hx1 | hx1 <;> rcases List.mem_append.mp hy with hy1 | hy1
    · exact h.cl x hx1 y hy1 ne
    · rw [List.mem_singleton] at hy1
      subst hy1
      exact ⟨fun p => hc x hx1 (clX_iff.mpr (.inl (.inl p))), fun p => hc x hx1 (clX_iff.mpr (.inl (.inr p)))⟩
    · rw [List.mem_singleton] at hx1
      subst hx1
      exact ⟨fun p => hc y hy1 (clX_iff.mpr (.inr (.inl p))), fun p => hc y hy1 (clX_iff.mpr (.inr (.inr p)))⟩
    · rw [List.mem_singleton] at hx1 hy1
      exact absurd (hx1.trans hy1.symm) ne
theorem DrI.lot {n i : Nat} {ar : List Arw} {xs : List T8} (h : DrI n ar i xs) (hi : i ≤ 400) : LotP n ar (srtT xs) := by
  have pm := srtT_perm xs
  refine ⟨⟨fun e => ?_, fun x hx y hy => h.cl x (pm.mem_iff.mp hx) y (pm.mem_iff.mp hy)⟩, by rw [pm.length_eq]; have := h.z; omega, fun y hy => ?_, asc_strict (srtT_pw xs) (pm.nodup_iff.mpr h.nd)⟩
  · have := (h.st _ (pm.mem_iff.mp e)).1
    simp at this
  · obtain ⟨a, b, c, d⟩ := h.st _ (pm.mem_iff.mp hy)
    exact ⟨by omega, c, d⟩
theorem DrI.ws {n i : Nat} {ar : List Arw} (pp : PartP n ar) {xs : List T8} (h : DrI n ar i xs) (hi : i ≤ 400) : WsP n ar (srtT xs) := by
  have pm := srtT_perm xs
  refine ⟨by rw [pm.length_eq]; have := h.z; omega, fun x hx => ?_, asc_strict (srtT_pw xs) (pm.nodup_iff.mpr h.nd), fun x hx y hy => h.cl x (pm.mem_iff.mp hx) y (pm.mem_iff.mp hy)⟩
  obtain ⟨a, b, c, d⟩ := h.st _ (pm.mem_iff.mp hx)
  exact ⟨fun e he => sgB_low pp (d e he), a, by omega, c⟩
theorem ws_st {n : Nat} {ar : List Arw} (pp : PartP n ar) {k : Nat} (k1 : 1 ≤ k) (k3 : k ≤ 3) : WsP n ar (stB n ar k) := by
  have hl : ∀ x ∈ stB n ar k, x.length = k := fun x hx => ((mem_stB pp k x).mp hx).1
  refine ⟨?_, fun x hx => ?_, stB_asc pp k, fun x hx y hy ne => ⟨fun p => ne (p.eq_of_length (by rw [hl x hx, hl y hy])), fun p => ne (p.eq_of_length (by rw [hl x hx, hl y hy]))⟩⟩
  · have h1 := stB_len pp k
    have h2 : 3 ^ k ≤ 3 ^ 3 := Nat.pow_le_pow_right (by decide) k3
    have h3 : 3 ^ 3 = 27 := by decide
    omega
  · obtain ⟨a, b⟩ := (mem_stB pp k x).mp hx
    exact ⟨fun c hc => sgB_low pp (stB_low pp k x hx c hc), by omega, by omega, b⟩
theorem full_st {n : Nat} {ar : List Arw} (pp : PartP n ar) {k : Nat} (k1 : 1 ≤ k) (k3 : k ≤ 3) : FullP n ar (k : Int) (stB n ar k) := ⟨ws_st pp k1 k3, fun t ht => by
  rw [cnt_st pp k1 t ht]
  omega, k, fun t ht hl => by
  rw [cnt_st pp k1 t ht]
  omega⟩
theorem ws_sub {n : Nat} {ar : List Arw} {xs ys : List T8} (h : WsP n ar xs) (s : ys.Sublist xs) : WsP n ar ys := ⟨Nat.le_trans s.length_le h.z, fun x hx => h.w x (s.subset hx), h.asc.sublist s, fun x hx y hy => h.cl x (s.subset hx) y (s.subset hy)⟩
section
variable {P : Program} {w : World} {K : PySem.W.Frag} {mg : Str → Option Value} {base : Heap}
theorem ev_strsE {σ : L2.St} {Hm : Hp} {ta tb : TE} {n : Nat} {ar : List Arw} {Pk : Int → Prop} {E : XK} (pp : PartP n ar) (h1 : Ev ta σ Hm (rTold K) ((n : Int), ar)) (h2 : Ev tb σ Hm (rE rI Pk) ()) (hp : ∀ i, Pk i → 1 ≤ i ∧ i ≤ 10) : Ev (tCall (spStrs K) [] E (tCons ta (tCons tb tNil))) σ Hm (rE (rM rS) fun xs => ∃ k : Nat, Pk (k : Int) ∧ xs = stB n ar k) () := fun H1 hi Q q =>
  h1 H1 hi _ fun v1 K2 H2 x2 r1 => h2.mono x2.s H2 x2.i _ fun v2 K3 H3 x3 ⟨i, r2, pi⟩ => by
    obtain ⟨i0, i1⟩ := hp i pi
    obtain ⟨k, rfl⟩ : ∃ k : Nat, i = (k : Int) := ⟨i.toNat, by omega⟩
    exact ⟨((n, ar), k), K3, ⟨pp, by omega⟩, ⟨v1, _, rfl, (rTold K).mono x3.s r1, v2, _, rfl, r2, rfl⟩, x3.i, fun v K4 H4 x4 r => q v K4 H4 ((x2.trans x3).trans x4) ⟨_, r, k, pi, rfl⟩⟩
theorem ev_someLE {α : Type} {R : Rp α} {σ : L2.St} {Hm : Hp} {ta tb : TE} {cs : List Int} {Pl : List α → Prop} {E : XK} (h1 : Ev ta σ Hm rHand cs) (h2 : Ev tb σ Hm (rE (rM R) Pl) ()) (hp : ∀ xs, Pl xs → 0 < xs.length ∧ xs.length ≤ 1000) : Ev (tCall (spSome K) [] E (tCons ta (tCons tb tNil))) σ Hm (rE R (fun d => ∃ xs, Pl xs ∧ d ∈ xs)) () := fun H1 hi Q q =>
  h1 H1 hi _ fun v1 K2 H2 x2 r1 => h2.mono x2.s H2 x2.i _ fun v2 K3 H3 x3 ⟨xs, r2, px⟩ => by
    obtain ⟨vs, r3, pr⟩ := rl_V (K := K) (rm_l r2)
    have hl := paired_len pr
    obtain ⟨z0, z1⟩ := hp xs px
    exact ⟨(cs, Sum.inr (Sum.inl vs)), K3, ⟨by omega, by omega⟩, ⟨v1, _, rfl, rHand.mono x3.s r1, v2, _, rfl, r3, rfl⟩, x3.i, fun v K4 H4 x4 ⟨u, e, hu⟩ => by
      obtain ⟨d, hd, rd⟩ := paired_in pr u hu
      exact q v K4 H4 ((x2.trans x3).trans x4) ⟨d, by rw [show v = u from e]; exact R.mono x4.s rd, xs, px, hd⟩⟩
/-- a drawn stretch of a drawn length -/
theorem ev_someSt {σ : L2.St} {Hm : Hp} {ta tp tk : TE} {cs : List Int} {n : Nat} {ar : List Arw} {Pk : Int → Prop} {E E2 : XK} (pp : PartP n ar) (h1 : Ev ta σ Hm rHand cs) (hp : Ev tp σ Hm (rTold K) ((n : Int), ar)) (hk : Ev tk σ Hm (rE rI Pk) ()) (hb : ∀ i, Pk i → 1 ≤ i ∧ i ≤ 5) : Ev (tCall (spSome K) [] E (tCons ta (tCons (tCall (spStrs K) [] E2 (tCons tp (tCons tk tNil))) tNil))) σ Hm (rE rS (fun t => ∃ k : Nat, 1 ≤ k ∧ k ≤ 10 ∧ t ∈ stB n ar k)) () :=
  Ev.imp (ev_someLE h1 (ev_strsE pp hp hk fun i h => by have := hb i h; omega) fun xs ⟨k, pk, e⟩ => by
    have := hb _ pk
    have h1 := stB_len pp k
    have h2 : 3 ^ k ≤ 3 ^ 5 := Nat.pow_le_pow_right (by decide) (by omega)
    have h3 : 3 ^ 5 = 243 := by decide
    rw [e]
    exact ⟨stB_pos pp k, by omega⟩) fun t ⟨xs, ⟨k, pk, e⟩, ht⟩ => by
    have := hb _ pk
    exact ⟨k, by omega, by omega, e ▸ ht⟩
def spLot (K : PySem.W.Frag) : Sp := SpF (fun (x : List Int × (Nat × List Arw) × Int) => a1 rHand x.1 (a1 (rTold K) ((x.2.1.1 : Int), x.2.1.2) (a1 rI x.2.2 a0))) (fun x => PartP x.2.1.1 x.2.1.2) (fun x => rE (rT K rS) (LotP x.2.1.1 x.2.1.2)) (fun _ => ())
theorem ok_lot (T : Tx K mg) : Fk P w K mg base CX0 4 (He.ga K "_law_lot") ["_law_hand_here", "_law_parts", "_law_number"] (spLot K) := by
  refine k0_law_lot T (spf_len fun _ => a1_len (a1_len (a1_len a0_len))) (fun cdv A outer s H vs Q E hr h => ?_)
  refine ⟨_, (pss_cons (ps_set (i := 3) c_law_lot.nd rfl (by first | exact Or.inl rfl | exact Or.inr rfl) (pe_lst pa_nil))
  (pss_cons (ps_for PassesOwn.never rfl (pi_range1 (by rfl) T.n_range (pa_cons (pe_fk (ok_draw T) (hr.mono (by decide)) T.g_law_draw pass0 (pa_cons (pv 0) (pa_cons pe_int pa_nil))) pa_nil)) (pg_name (i := 4) c_law_lot.nd rfl (by first | exact Or.inl rfl | exact Or.inr rfl)) (pss_cons (ps_set (i := 5) c_law_lot.nd rfl (by first | exact Or.inl rfl | exact Or.inr rfl) (pe_fk (ok_some T) (hr.mono (by decide)) T.g_law_some pass0 (pa_cons (pv 0) (pa_cons (pe_fk (ok_strs T) (hr.mono (by decide)) T.g_law_stretches pass0 (pa_cons (pv 1) (pa_cons (pe_op op_add pe_int (pe_fk (ok_draw T) (hr.mono (by decide)) T.g_law_draw pass0 (pa_cons (pv 0) (pa_cons pe_int pa_nil)))) pa_nil))) pa_nil))))
  (pss_one (ps_if (PW.pt (pw_and (pt_cmpR op_notIn_seq (pv 5) (pv 3) (by rfl)) (pw_and1 (pt_val (pe_fk (ok_fits T) (hr.mono (by decide)) T.g_law_fits pass0 (pa_cons (pv 3) (pa_cons (pv 5) pa_nil))))))) (pss_one (ps_expr (pe_bm PySem.F.plainAttrs_list PySem.F.slot_list_append PySem.F.type_list_append mt_append (pv 3) (pa_cons (pv 5) pa_nil)))) pss_nil))))
  (pss_one (ps_ret (pe_callTy call_tuple_of (by rfl) T.n_tuple boot_tuple (pa_cons (pe_callB (cr_sortD (hu100 hr)) (by rfl) T.n_sorted boot_sorted (pa_cons (pv 3) pa_nil)) pa_nil)))))), ?_⟩
  obtain ⟨⟨cs, ⟨n, ar⟩, d⟩, Hm, pp, ⟨v1, ws, rfl, r1, v2, ws2, rfl, r2, v3, ws3, rfl, r3, rfl⟩, hi, q⟩ := h
  cases r3
  dsimp only at pp r1 r2 q
  have hand : ∀ {σ : L2.St} {K' : Hp}, Same Hm K' → σ[0]? = some (some v1) → Ev (tVar 0) σ K' rHand cs := fun s e => ev_v e (rHand.mono s r1)
  refine q_new fun f nf => ?_
  have c0 := Ci.new (S := rS) hi nf
  refine q_rngE (P := fun i => 0 ≤ i ∧ i < 4) (ev_draw (hand (Same.refl _) rfl) ev_i (by decide) (by decide)) c0.i fun m K1 H1 ⟨m0, m1⟩ x1 => ?_
  have c1 := c0.ext x1
  refine q_for (wk_rngC (n := m) (Hm := K1) (by omega) (by omega)) c1.i fun K2 H2 x2 => ?_
  have hm : (nums m.toNat).length ≤ 3 := by rw [nums_len]; omega
  refine ⟨fun i σ' H' => ∃ (o4 o5 : Option V) (xs : List T8) (Ki : Hp) (vs : List V), σ' = [some v1, some v2, some (.int d), some (.ref f), o4, o5] ∧ Ci Hm H f rS xs Ki vs H' ∧ Same K2 Ki ∧ DrI n ar i xs, ⟨_, _, [], K2, _, rfl, c1.ext x2, Same.refl _, DrI.nil⟩, fun i σ' H' ⟨_, _, _, _, _, _, c, s, _⟩ => s.trans c.i, ?step, ?done⟩
  case step =>
    rintro i d σ' H' v K4 H4 hd ⟨o4, o5, xs, Ki, vs, rfl, c, sK, di⟩ x4 rv
    have il : i < 8 := by
      have := (List.getElem?_eq_some_iff.mp hd).1
      omega
    have x5 : Xt Ki H' (uni Ki K4) H4 := Xt.lift sK c.i x4
    have c5 := c.ext x5
    have sK5 := sK.trans x5.s
    clear x4 rv hd x5
    generalize uni Ki K4 = K5 at c5 sK5
    unfold gName
    dsimp only
    refine q_set (ev_someSt pp (hand c5.s rfl) (ev_v rfl ((rTold K).mono c5.s r2)) (ev_opE (T := rI) (P2 := fun i : Int => 1 ≤ i ∧ i ≤ 3) ev_i (ev_draw (hand c5.s rfl) ev_i (by decide) (by decide)) fun e ⟨e0, e1⟩ => ⟨1 + e, by omega, rv_i0⟩) fun i h => by omega) c5.i fun u6 K6 H6 x6 ⟨t, r6, ht⟩ => ?_
    cases r6
    have c6 := c5.ext x6
    have tz : t.length ≤ 1000 := by
      obtain ⟨k, _, k2, k3⟩ := ht
      rw [((mem_stB pp k t).mp k3).1]
      omega
    have xz : okL xs := ⟨by have := di.z; omega, fun x hx => by have := (di.st x hx).2.1; omega⟩
    refine s_ifF (b := !decide (t ∈ xs) && fitB xs t) c6 nf (et_and (et_test (ev_op (ev_v (R := rS) (d := t) rfl rfl) (Ev.l (ev_seen c6 nf rfl)) rv_notInS)) fun _ => et_test (ev_call (x := (xs, t)) ⟨tz, xz⟩ (ea_cons (Ev.l (ev_seen c6 nf rfl)) (ea_cons (ev_v (R := rS) (d := t) rfl rfl) ea_nil)))) (fun hb K7 H7 c7 s7 => ?_) (fun hb K7 H7 c7 s7 => ?_)
    · rw [Bool.and_eq_true, Bool.not_eq_true', decide_eq_false_iff_not] at hb
      refine s_appC (d := t) rfl c7 nf (ev_v (R := rS) (d := t) rfl rfl) (by have := xz.1; omega) fun K8 vs8 H8 c8 s8 => ⟨_, _, xs ++ [t], K8, vs8, rfl, c8, ((sK5.trans x6.s).trans s7).trans s8, di.put pp ht hb.1 hb.2⟩
    · exact ⟨_, _, xs, K7, vs, rfl, c7, (sK5.trans x6.s).trans s7, ⟨by have := di.z; omega, di.st, di.nd, di.cl⟩⟩
  case done =>
    rintro σ' H' ⟨o4, o5, xs, Ki, vs, rfl, c, sK, di⟩
    obtain ⟨xd, rd⟩ := c.done nf
    have xz := di.z
    exact s_ret (ev_cb (ea_cons (ev_cb (ea_cons (ev_v rfl (rm_l rd)) ea_nil) (rc_sortS (by omega))) ea_nil) rc_tupOfL) xd.i fun v K5 H5 x5 r5 => q v K5 H5 (xd.trans x5) ⟨_, r5, di.lot (by omega)⟩
/-- (number, words) of a full book -/
def isFull (n : Nat) (ar : List Arw) (x : Int × List T8) : Prop := 1 ≤ x.1 ∧ x.1 ≤ 4 ∧ FullP n ar x.1 x.2
def spFull (K : PySem.W.Frag) : Sp := SpF (fun (x : List Int × (Nat × List Arw)) => a1 rHand x.1 (a1 (rTold K) ((x.2.1 : Int), x.2.2) a0)) (fun x => PartP x.2.1 x.2.2) (fun x => rE (rP K rI (rT K rS)) (isFull x.2.1 x.2.2)) (fun _ => ())
theorem ok_full (T : Tx K mg) : Fk P w K mg base CX0 5 (He.ga K "_law_full") ["_law_hand_here", "_law_parts"] (spFull K) := by
  refine k0_law_full T (spf_len fun _ => a1_len (a1_len a0_len)) (fun cdv A outer s H vs Q E hr h => ?_)
  refine ⟨_, (pss_cons (ps_set (i := 2) c_law_full.nd rfl (by first | exact Or.inl rfl | exact Or.inr rfl) (pe_ix ix_list (pe_lst (pa_cons pe_int (pa_cons pe_int (pa_cons pe_int (pa_cons pe_int (pa_cons pe_int (pa_cons pe_int pa_nil))))))) (pe_fk (ok_draw T) (hr.mono (by decide)) T.g_law_draw pass0 (pa_cons (pv 0) (pa_cons pe_int pa_nil))) (fun _ _ => rfl)))
  (pss_cons (ps_set (i := 3) c_law_full.nd rfl (by first | exact Or.inl rfl | exact Or.inr rfl) (pe_fk (ok_lot T) (hr.mono (by decide)) T.g_law_lot pass0 (pa_cons (pv 0) (pa_cons (pv 1) (pa_cons (pv 2) pa_nil)))))
  (pss_cons (ps_if (pt_val (pe_callB (cr_all rfl) (by rfl) T.n_all boot_all (pa_cons (pe_lc (own := [("_law_text", 5)]) rfl c_law_full.nd (pi_tup (pv 3)) (blkOk_by (N := ["_law_hand_here", "_law_parts", "_law_number", "_law_lot_here", "_law_found", "_law_text"]) (sc := defScope s_law_full) (by decide +kernel)) (fun _ _ _ _ _ => (pg_name (i := 5) c_law_full.nd rfl (by first | exact Or.inl rfl | exact Or.inr rfl))) (fun _ _ _ _ _ => pts_nil) (fun _ _ _ _ _ => (pe_cmpR op_lt (pe_fk (ok_count T) (hr.mono (by decide)) T.g_law_count pass0 (pa_cons (pv 3) (pa_cons (pv 5) pa_nil))) (pv 2) (nomark _)))) pa_nil))) (pss_cons (ps_set (i := 4) c_law_full.nd rfl (by first | exact Or.inl rfl | exact Or.inr rfl) (pe_fk (ok_made T) (hr.mono (by decide)) T.g_law_made pass0 (pa_cons (pv 1) (pa_cons (pv 3) (pa_cons (pv 2) pa_nil)))))
  (pss_one (ps_if (pt_cmpR op_notN (pv 4) pe_non (nomark _)) (pss_one (ps_ret (pe_tup (pa_cons (pv 2) (pa_cons (pv 4) pa_nil))))) pss_nil))) pss_nil)
  (pss_cons (ps_set (i := 2) c_law_full.nd rfl (by first | exact Or.inl rfl | exact Or.inr rfl) (pe_callB (call_min2 rfl) (by rfl) T.n_min boot_min (pa_cons (pv 2) (pa_cons pe_int pa_nil))))
  (pss_one (ps_ret (pe_tup (pa_cons (pv 2) (pa_cons (pe_callTy call_tuple_of (by rfl) T.n_tuple boot_tuple (pa_cons (pe_fk (ok_strs T) (hr.mono (by decide)) T.g_law_stretches pass0 (pa_cons (pv 1) (pa_cons (pv 2) pa_nil))) pa_nil)) pa_nil))))))))), ?_⟩
  obtain ⟨⟨cs, ⟨n, ar⟩⟩, Hm, pp, ⟨v1, ws, rfl, r1, v2, ws2, rfl, r2, rfl⟩, hi, q⟩ := h
  dsimp only at pp r1 r2 q
  have hand : ∀ {σ : L2.St} {K' : Hp}, Same Hm K' → σ[0]? = some (some v1) → Ev (tVar 0) σ K' rHand cs := fun s e => ev_v e (rHand.mono s r1)
  refine q_set (ev_opE (T := rI) (P2 := fun i : Int => 1 ≤ i ∧ i ≤ 4) (ev_lst (K := K) (R := rI) (ds := [1, 2, 2, 3, 3, 4]) (ea_cons ev_i (ea_cons ev_i (ea_cons ev_i (ea_cons ev_i (ea_cons ev_i (ea_cons ev_i ea_nil)))))) (by decide)) (ev_draw (hand (Same.refl _) rfl) ev_i (by decide) (by decide)) fun e ⟨e0, e1⟩ => ?_) hi fun u2 K1 H1 x1 ⟨d, e2, d1, d4⟩ => ?_
  · have hl : e.toNat < 6 := by omega
    have hm : ([1, 2, 2, 3, 3, 4] : List Int)[e.toNat]? = some (([1, 2, 2, 3, 3, 4] : List Int)[e.toNat]) := List.getElem?_eq_getElem (by simpa using hl)
    refine ⟨([1, 2, 2, 3, 3, 4] : List Int)[e.toNat], ?_, rv_ixL (by omega) hm⟩
    have hx := List.getElem_mem (l := ([1, 2, 2, 3, 3, 4] : List Int)) (n := e.toNat) (by simpa using hl)
    generalize ([1, 2, 2, 3, 3, 4] : List Int)[e.toNat] = y at hx
    simp at hx
    omega
  cases e2
  refine q_set (ev_call (x := (cs, (n, ar), d)) pp (ea_cons (hand x1.s rfl) (ea_cons (ev_v rfl ((rTold K).mono x1.s r2)) (ea_cons (ev_v (R := rI) (d := d) rfl rfl) ea_nil)))) x1.i fun u3 K2 H2 x2 ⟨Y, r3, ly⟩ => ?_
  have x12 := x1.trans x2
  have yz := ly.z
  refine q_whenJ (b := (Y.map fun t => decide (BX.cnt Y t < d)).all id) (fun σ' H' => ∃ (o4 : Option V) (K3 : Hp), σ' = [some v1, some v2, some (.int d), some u3, o4, none] ∧ Xt Hm H K3 H') (et_test (ev_cb (ea_cons (ev_lc0 (K := K) (S := rB) (R := rS) (fun t => decide (BX.cnt Y t < d)) (wk_tup (ev_v rfl r3)) (by omega) fun t ht v K3 s3 r3' => ⟨_, tk_name, rfl, ev_op (ev_count (by have := (ly.st t ht).1; omega) (ev_v rfl ((rT K rS).mono s3 r3)) (ev_v rfl r3')) (ev_v (R := rI) (d := d) rfl rfl) rv_b0⟩) ea_nil) rc_all)) x2.i ?tail (fun tail hb K3 H3 x3 => ?_) (fun hb K3 H3 x3 => ⟨none, K3, rfl, x12.trans x3⟩)
  case tail =>
    rintro σ' H' ⟨o4, K3, rfl, x3⟩
    refine q_set (ev_min2 (ev_v (R := rI) (d := d) rfl rfl) ev_i) x3.i fun u K4 H4 x4 r4 => ?_
    cases r4
    obtain ⟨k, hk⟩ : ∃ k : Nat, min d 3 = (k : Int) := ⟨(min d 3).toNat, by omega⟩
    rw [hk]
    have x34 := x3.trans x4
    exact s_ret (ev_pair (K := K) (R := rI) (S := rT K rS) (d := (k : Int)) (e := stB n ar k) (ea_cons (ev_v (R := rI) (d := (k : Int)) rfl rfl) (ea_cons (ev_cb (ea_cons (Ev.l (ev_strs pp (by omega) (ev_v rfl ((rTold K).mono x34.s r2)) (ev_v (R := rI) (d := (k : Int)) rfl rfl))) ea_nil) rc_tupOfL) ea_nil))) x4.i fun v K5 H5 x5 r5 => q v K5 H5 (x34.trans x5) ⟨_, r5, by dsimp only; omega, by dsimp only; omega, full_st pp (by omega) (by omega)⟩
  · have x13 := x12.trans x3
    refine q_set (ev_call (x := ((n, ar), Y, d)) ⟨pp, ly, d1, d4⟩ (ea_cons (ev_v rfl ((rTold K).mono x13.s r2)) (ea_cons (ev_v rfl ((rT K rS).mono x3.s r3)) (ea_cons (ev_v (R := rI) (d := d) rfl rfl) ea_nil)))) x3.i fun u4 K4 H4 x4 ⟨o, r4, mo⟩ => ?_
    have x14 := x13.trans x4
    cases o with
    | none =>
      refine s_if (b := false) (et_test (Ev.is (ev_op (ev_v (R := rV) (d := .non) rfl r4) ev_n rv_notN) rfl)) x4.i (fun hb => by cases hb) (fun _ K5 H5 x5 => tail _ _ ⟨_, K5, rfl, x14.trans x5⟩)
    | some ws =>
      have r4 : (rT K rS).rel K4 u4 ws := r4
      obtain ⟨a, vs, e, hS, hP⟩ := id r4
      refine s_if (b := true) (et_test (Ev.is (ev_op (ev_v (R := rV) (d := .ref a) rfl e) ev_n rv_notN) (by simp))) x4.i (fun hb K5 H5 x5 => ?_) (fun hb => by cases hb)
      exact s_ret (ev_pair (K := K) (R := rI) (S := rT K rS) (d := d) (e := ws) (ea_cons (ev_v (R := rI) (d := d) rfl rfl) (ea_cons (ev_v rfl ((rT K rS).mono x5.s r4)) ea_nil))) x5.i fun v K6 H6 x6 r6 => q v K6 H6 ((x14.trans x5).trans x6) ⟨_, r6, d1, d4, mo ws rfl⟩
def spWds (K : PySem.W.Frag) : Sp := SpF (fun (x : List Int × (Nat × List Arw)) => a1 rHand x.1 (a1 (rTold K) ((x.2.1 : Int), x.2.2) a0)) (fun x => PartP x.2.1 x.2.2) (fun x => rE (rT K rS) (WsP x.2.1 x.2.2)) (fun _ => ())
theorem ok_wds (T : Tx K mg) : Fk P w K mg base CX0 6 (He.ga K "_law_words") ["_law_hand_here", "_law_parts"] (spWds K) := by
  refine k0_law_words T (spf_len fun _ => a1_len (a1_len a0_len)) (fun cdv A outer s H vs Q E hr h => ?_)
  refine ⟨_, (pss_cons (ps_set (i := 2) c_law_words.nd rfl (by first | exact Or.inl rfl | exact Or.inr rfl) (pe_fk (ok_draw T) (hr.mono (by decide)) T.g_law_draw pass0 (pa_cons (pv 0) (pa_cons pe_int pa_nil))))
  (pss_cons (ps_set (i := 3) c_law_words.nd rfl (by first | exact Or.inl rfl | exact Or.inr rfl) (pe_ix ix_tup (pe_fk (ok_full T) (hr.mono (by decide)) T.g_law_full pass0 (pa_cons (pv 0) (pa_cons (pv 1) pa_nil))) pe_int (fun _ _ => rfl)))
  (pss_cons (ps_if (pt_cmpR op_eq (pv 2) pe_int (nomark _)) (pss_one (ps_ret (pv 3))) pss_nil)
  (pss_cons (ps_if (pt_cmpR op_lt (pv 2) pe_int (nomark _)) (pss_one (ps_ret (pe_callTy call_tuple_of (by rfl) T.n_tuple boot_tuple (pa_cons (pe_lc (tt := tTest (tOp (rI0 fun i j => .bl (decide (j < i))) (tCall (spDraw K) [] E0 (tCons (tVar 0) (tCons (tOp (rI0 fun i j => .int (i + j)) (tC (.int 2)) (tVar 2)) tNil))) (tC (.int 0)))) (own := [("_law_word", 7)]) rfl c_law_words.nd (pi_tup (pv 3)) (blkOk_by (N := ["_law_hand_here", "_law_parts", "_law_kind", "_law_words_here", "_law_found", "_law_turn", "_law_text", "_law_word"]) (sc := defScope s_law_words) (by decide +kernel)) (fun _ _ _ _ _ => (pg_name (i := 7) c_law_words.nd rfl (by first | exact Or.inl rfl | exact Or.inr rfl))) (fun _ _ _ _ _ => (pts_one (pt_cmpR op_gt (pe_fk (ok_draw T) (hr.mono (by decide)) T.g_law_draw pass0 (pa_cons (pv 0) (pa_cons (pe_op op_add pe_int (pv 2)) pa_nil))) pe_int (nomark _)))) (fun _ _ _ _ _ => (pv 7))) pa_nil)))) pss_nil)
  (pss_cons (ps_set (i := 4) c_law_words.nd rfl (by first | exact Or.inl rfl | exact Or.inr rfl) (pe_lst pa_nil))
  (pss_cons (ps_for PassesOwn.never rfl (pi_range1 (by rfl) T.n_range (pa_cons (pe_fk (ok_draw T) (hr.mono (by decide)) T.g_law_draw pass0 (pa_cons (pv 0) (pa_cons pe_int pa_nil))) pa_nil)) (pg_name (i := 5) c_law_words.nd rfl (by first | exact Or.inl rfl | exact Or.inr rfl)) (pss_cons (ps_set (i := 6) c_law_words.nd rfl (by first | exact Or.inl rfl | exact Or.inr rfl) (pe_fk (ok_some T) (hr.mono (by decide)) T.g_law_some pass0 (pa_cons (pv 0) (pa_cons (pe_fk (ok_strs T) (hr.mono (by decide)) T.g_law_stretches pass0 (pa_cons (pv 1) (pa_cons (pe_op op_add pe_int (pe_fk (ok_draw T) (hr.mono (by decide)) T.g_law_draw pass0 (pa_cons (pv 0) (pa_cons pe_int pa_nil)))) pa_nil))) pa_nil))))
  (pss_one (ps_if (PW.pt (pw_and (pt_cmpR op_notIn_seq (pv 6) (pv 4) (by rfl)) (pw_and1 (pt_val (pe_fk (ok_fits T) (hr.mono (by decide)) T.g_law_fits pass0 (pa_cons (pv 4) (pa_cons (pv 6) pa_nil))))))) (pss_one (ps_expr (pe_bm PySem.F.plainAttrs_list PySem.F.slot_list_append PySem.F.type_list_append mt_append (pv 4) (pa_cons (pv 6) pa_nil)))) pss_nil))))
  (pss_one (ps_ret (pe_callTy call_tuple_of (by rfl) T.n_tuple boot_tuple (pa_cons (pe_callB (cr_sortD (hu100 hr)) (by rfl) T.n_sorted boot_sorted (pa_cons (pv 4) pa_nil)) pa_nil)))))))))), ?_⟩
  obtain ⟨⟨cs, ⟨n, ar⟩⟩, Hm, pp, ⟨v1, ws, rfl, r1, v2, ws2, rfl, r2, rfl⟩, hi, q⟩ := h
  dsimp only at pp r1 r2 q
  have hand : ∀ {σ : L2.St} {K' : Hp}, Same Hm K' → σ[0]? = some (some v1) → Ev (tVar 0) σ K' rHand cs := fun s e => ev_v e (rHand.mono s r1)
  refine q_set (ev_draw (hand (Same.refl _) rfl) ev_i (by decide) (by decide)) hi fun u2 K1 H1 x1 ⟨k, e2, k0, k4⟩ => ?_
  cases e2
  refine q_set (ev_opE2 (T := rT K rS) (P2 := WsP n ar) (ev_call (x := (cs, (n, ar))) pp (ea_cons (hand x1.s rfl) (ea_cons (ev_v rfl ((rTold K).mono x1.s r2)) ea_nil))) ev_i fun x hx => ⟨x.2, hx.2.2.ws, rv_snd⟩) x1.i fun u3 K2 H2 x2 ⟨W, r3, wp⟩ => ?_
  have x12 := x1.trans x2
  have wz := wp.z
  refine q_when (et_test (ev_op (ev_v (R := rI) (d := k) rfl rfl) ev_i rv_eqI)) x2.i (fun hb K3 H3 x3 => ?_) (fun hb K3 H3 x3 => ?_)
  · exact s_ret (ev_v rfl ((rT K rS).mono x3.s r3)) x3.i fun v K4 H4 x4 r4 => q v K4 H4 ((x12.trans x3).trans x4) ⟨_, r4, wp⟩
  refine q_when (et_test (ev_op (ev_v (R := rI) (d := k) rfl rfl) ev_i rv_b0)) x3.i (fun hb K4 H4 x4 => ?_) (fun hb K4 H4 x4 => ?_)
  · have x14 := (x12.trans x3).trans x4
    refine s_ret (ev_cbE (T := rT K rS) (P2 := WsP n ar) (ev_lcS (R := rS) (wk_tup (ev_v rfl ((rT K rS).mono (x3.s.trans x4.s) r3))) (by omega) fun t ht v K5 s5 r5 => ⟨_, tk_name, rfl, etE_test (ev_opE2 (T := rB) (ev_draw (hand (x14.s.trans s5) rfl) (ev_op ev_i (ev_v (R := rI) (d := k) rfl rfl) rv_i0) (by omega) (by omega)) ev_i fun e _ => ⟨_, trivial, rv_b0⟩), ev_v rfl r5⟩) fun ys sl => ⟨ys, ws_sub wp sl, fun Hm H1 hi vs r Q q => rc_tupOfL (K := K) Hm H1 hi vs (let ⟨v, ws, e, r, k⟩ := r; ⟨v, ws, e, rm_l r, k⟩) Q q⟩) x4.i fun v K5 H5 x5 ⟨ys, r5, p5⟩ => q v K5 H5 (x14.trans x5) ⟨ys, r5, p5⟩
  have x14 := (x12.trans x3).trans x4
  refine q_new fun f nf0 => ?_
  have c0 : Ci Hm H f rS [] K4 [] (upd H4 f (.lst [])) := by
    have c := Ci.new (S := rS) x4.i nf0
    exact ⟨x14.s, c.i, x14.k.trans c.k, fun p h => x14.f p h, c.n, c.at_, c.r⟩
  have nf : H f = none := none_back x14.k nf0
  refine q_rngE (P := fun i => 0 ≤ i ∧ i < 8) (ev_draw (hand c0.s rfl) ev_i (by decide) (by decide)) c0.i fun m K1 H1 ⟨m0, m1⟩ x1 => ?_
  have c1 := c0.ext x1
  refine q_for (wk_rngC (n := m) (Hm := K1) (by omega) (by omega)) c1.i fun K2 H2 x2 => ?_
  have hm : (nums m.toNat).length ≤ 7 := by rw [nums_len]; omega
  refine ⟨fun i σ' H' => ∃ (o4 o5 : Option V) (xs : List T8) (Ki : Hp) (vs : List V), σ' = [some v1, some v2, some (.int k), some u3, some (.ref f), o4, o5, none] ∧ Ci Hm H f rS xs Ki vs H' ∧ Same K2 Ki ∧ DrI n ar i xs, ⟨_, _, [], K2, _, rfl, c1.ext x2, Same.refl _, DrI.nil⟩, fun i σ' H' ⟨_, _, _, _, _, _, c, s, _⟩ => s.trans c.i, ?step, ?done⟩
  case step =>
    rintro i d σ' H' v K4 H4 hd ⟨o4, o5, xs, Ki, vs, rfl, c, sK, di⟩ x4 rv
    have il : i < 8 := by
      have := (List.getElem?_eq_some_iff.mp hd).1
      omega
    have x5 : Xt Ki H' (uni Ki K4) H4 := Xt.lift sK c.i x4
    have c5 := c.ext x5
    have sK5 := sK.trans x5.s
    clear x4 rv hd x5
    generalize uni Ki K4 = K5 at c5 sK5
    unfold gName
    dsimp only
    refine q_set (ev_someSt pp (hand c5.s rfl) (ev_v rfl ((rTold K).mono c5.s r2)) (ev_opE (T := rI) (P2 := fun i : Int => 1 ≤ i ∧ i ≤ 5) ev_i (ev_draw (hand c5.s rfl) ev_i (by decide) (by decide)) fun e ⟨e0, e1⟩ => ⟨1 + e, by omega, rv_i0⟩) fun i h => by omega) c5.i fun u6 K6 H6 x6 ⟨t, r6, ht⟩ => ?_
    cases r6
    have c6 := c5.ext x6
    have tz : t.length ≤ 1000 := by
      obtain ⟨k, _, k2, k3⟩ := ht
      rw [((mem_stB pp k t).mp k3).1]
      omega
    have xz : okL xs := ⟨by have := di.z; omega, fun x hx => by have := (di.st x hx).2.1; omega⟩
    refine s_ifF (b := !decide (t ∈ xs) && fitB xs t) c6 nf (et_and (et_test (ev_op (ev_v (R := rS) (d := t) rfl rfl) (Ev.l (ev_seen c6 nf rfl)) rv_notInS)) fun _ => et_test (ev_call (x := (xs, t)) ⟨tz, xz⟩ (ea_cons (Ev.l (ev_seen c6 nf rfl)) (ea_cons (ev_v (R := rS) (d := t) rfl rfl) ea_nil)))) (fun hb K7 H7 c7 s7 => ?_) (fun hb K7 H7 c7 s7 => ?_)
    · rw [Bool.and_eq_true, Bool.not_eq_true', decide_eq_false_iff_not] at hb
      refine s_appC (d := t) rfl c7 nf (ev_v (R := rS) (d := t) rfl rfl) (by have := xz.1; omega) fun K8 vs8 H8 c8 s8 => ⟨_, _, xs ++ [t], K8, vs8, rfl, c8, ((sK5.trans x6.s).trans s7).trans s8, di.put pp ht hb.1 hb.2⟩
    · exact ⟨_, _, xs, K7, vs, rfl, c7, (sK5.trans x6.s).trans s7, ⟨by have := di.z; omega, di.st, di.nd, di.cl⟩⟩
  case done =>
    rintro σ' H' ⟨o4, o5, xs, Ki, vs, rfl, c, sK, di⟩
    obtain ⟨xd, rd⟩ := c.done nf
    have xz := di.z
    exact s_ret (ev_cb (ea_cons (ev_cb (ea_cons (ev_v rfl (rm_l rd)) ea_nil) (rc_sortS (by omega))) ea_nil) rc_tupOfL) xd.i fun v K5 H5 x5 r5 => q v K5 H5 (xd.trans x5) ⟨_, r5, di.ws pp (by omega)⟩
end
end NJ

set_option Elab.async false
set_option linter.all false
set_option maxRecDepth 100000
set_option maxHeartbeats 8000000
/-! Family B: drawn walks. -/
namespace NJ
open PySem PySem.Spec PyProof.Rows L2
/-- a stretch of a length -/
def wkB (n : Nat) (ar : List Arw) (m : Nat) (l : T8) : Prop := l.length = m ∧ (∀ c ∈ l, c ∈ sgB ar) ∧ strB n ar l = true
theorem wkB.low {n m : Nat} {ar : List Arw} (pp : PartP n ar) {l : T8} (h : wkB n ar m l) : lowT l := fun c hc => sgB_low pp (h.2.1 c hc)
section
variable {P : Program} {w : World} {K : PySem.W.Frag} {mg : Str → Option Value} {base : Heap}
def spWalk (K : PySem.W.Frag) : Sp := SpF (fun (x : List Int × (Nat × List Arw) × Nat) => a1 rHand x.1 (a1 (rTold K) ((x.2.1.1 : Int), x.2.1.2) (a1 rI (x.2.2 : Int) a0))) (fun x => PartP x.2.1.1 x.2.1.2 ∧ x.2.2 ≤ 1000) (fun x => rE rS (wkB x.2.1.1 x.2.1.2 x.2.2)) (fun _ => ())
theorem ok_walk (T : Tx K mg) : Fk P w K mg base CX0 3 (He.ga K "_law_walk") ["_law_hand_here", "_law_parts", "_law_length"] (spWalk K) := by
  refine k0_law_walk T (spf_len fun _ => a1_len (a1_len (a1_len a0_len))) (fun cdv A outer s H vs Q E hr h => ?_)
  refine ⟨_, (pss_cons (ps_set (i := 3) c_law_walk.nd rfl (by first | exact Or.inl rfl | exact Or.inr rfl) (pe_fk (ok_draw T) (hr.mono (by decide)) T.g_law_draw pass0 (pa_cons (pv 0) (pa_cons (pe_ix ix_tup (pv 1) pe_int (fun _ _ => rfl)) pa_nil))))
  (pss_cons (ps_set (i := 4) c_law_walk.nd rfl (by first | exact Or.inl rfl | exact Or.inr rfl) pe_str)
  (pss_cons (ps_for PassesOwn.never rfl (pi_range1 (by rfl) T.n_range (pa_cons (pv 2) pa_nil)) (pg_name (i := 5) c_law_walk.nd rfl (by first | exact Or.inl rfl | exact Or.inr rfl)) (pss_cons (ps_set (i := 6) c_law_walk.nd rfl (by first | exact Or.inl rfl | exact Or.inr rfl) (pe_fk (ok_some T) (hr.mono (by decide)) T.g_law_some pass0 (pa_cons (pv 0) (pa_cons (pe_lc (tt := tTest (tOp rEq (tOp (rIxT K) (tVar 7) (tC (.int 0))) (tVar 3))) (own := [("_law_one", 7)]) rfl c_law_walk.nd (pi_tup (pe_ix ix_tup (pv 1) pe_int (fun _ _ => rfl))) (blkOk_by (N := ["_law_hand_here", "_law_parts", "_law_length", "_law_point", "_law_text", "_law_turn", "_law_arrow", "_law_one"]) (sc := defScope s_law_walk) (by decide +kernel)) (fun _ _ _ _ _ => (pg_name (i := 7) c_law_walk.nd rfl (by first | exact Or.inl rfl | exact Or.inr rfl))) (fun _ _ _ _ _ => (pts_one (pt_cmpR op_eq (pe_ix ix_tup (pv 7) pe_int (fun _ _ => rfl)) (pv 3) (nomark _)))) (fun _ _ _ _ _ => (pv 7))) pa_nil))))
  (pss_cons (ps_set (i := 4) c_law_walk.nd rfl (by first | exact Or.inl rfl | exact Or.inr rfl) (pe_op op_add_str (pv 4) (pe_ix ix_tup (pv 6) pe_int (fun _ _ => rfl))))
  (pss_one (ps_set (i := 3) c_law_walk.nd rfl (by first | exact Or.inl rfl | exact Or.inr rfl) (pe_ix ix_tup (pv 6) pe_int (fun _ _ => rfl)))))))
  (pss_one (ps_ret (pv 4)))))), ?_⟩
  obtain ⟨⟨cs, ⟨n, ar⟩, m⟩, Hm, ⟨pp, hm⟩, ⟨v1, ws, rfl, r1, v2, ws2, rfl, r2, v3, ws3, rfl, r3, rfl⟩, hi, q⟩ := h
  cases r3
  dsimp only at pp hm r1 r2 q
  have n0 := pp.t.n0
  have n4 := pp.n4
  have az := pp.a
  have hand : ∀ {σ : L2.St} {K' : Hp}, Same Hm K' → σ[0]? = some (some v1) → Ev (tVar 0) σ K' rHand cs := fun s e => ev_v e (rHand.mono s r1)
  refine q_set (ev_draw (hand (Same.refl _) rfl) (ev_t0 (ev_v rfl r2)) (by omega) (by omega)) hi fun u3 K1 H1 x1 ⟨p0, e3, p00, p01⟩ => ?_
  cases e3
  refine q_set (Ev.is (ev_s) (show _ = ([] : T8) by rfl)) x1.i fun u4 K2 H2 x2 e4 => ?_
  cases e4
  refine q_for (wk_rng (n := (m : Int)) (ea_cons (ev_v (R := rI) (d := (m : Int)) (Hm := K2) rfl rfl) ea_nil) (by omega) (by omega)) x2.i fun K3 H3 x3 => ?_
  have hn : (nums (m : Int).toNat).length = m := by
    rw [nums_len]
    omega
  have s3 : Same Hm K3 := (x1.s.trans x2.s).trans x3.s
  refine ⟨fun i σ' H' => ∃ (o5 o6 : Option V) (pt : Int) (l : T8) (K' : Hp), σ' = [some v1, some v2, some (V.int (m : Int)), some (V.int pt), some (V.str (tx l)), o5, o6, none] ∧ Xt K3 H3 K' H' ∧ l.length = i ∧ (∀ c ∈ l, c ∈ sgB ar) ∧ pt ∈ endF ar (nums n) l, ⟨_, _, p0, [], K3, rfl, Xt.refl x3.i, rfl, fun c h => (by cases h), mem_nums ⟨p00, p01⟩⟩, fun i σ' H' ⟨_, _, _, _, K', _, x, _⟩ => x.s.trans x.i, ?_, ?_⟩
  · rintro i d σ' H' v K4 H4 hd ⟨o5, o6, pt, l, K', rfl, x', ll, low, he⟩ x4 rv
    have il : i < m := by
      rw [← hn]
      exact (List.getElem?_eq_some_iff.mp hd).1
    have x5 : Xt K' H' (uni K' K4) H4 := Xt.lift x'.s x'.i x4
    have x6 := x'.trans x5
    have s6 : Same Hm (uni K' K4) := s3.trans x6.s
    clear x4 rv hd
    generalize uni K' K4 = K5 at x5 x6 s6
    unfold gName
    dsimp only
    have pb := okS_end pp.w l (okS_nums n) pt he
    obtain ⟨a0, ha0, ea0⟩ := ring_out pp.t.ring pb
    have fne : 0 < (ar.filter fun t : Arw => decide (t.1 = pt)).length := List.length_pos_of_mem (List.mem_filter.mpr ⟨ha0, decide_eq_true ea0⟩)
    have fle : (ar.filter fun t : Arw => decide (t.1 = pt)).length ≤ ar.length := List.length_filter_le _ _
    refine q_set (ev_someL (K := K) (R := rA K) (xs := ar.filter fun t : Arw => decide (t.1 = pt)) (hand s6 rfl) (Ev.is (ev_lc (K := K) (S := rA K) (R := rA K) (fun t => decide (t.1 = pt)) id (wk_tup (ev_t1 (ev_v rfl ((rTold K).mono s6 r2)))) (by omega) fun t ht v K7 s7 r7 => ⟨_, tk_name, rfl, et_test (ev_op (ev_op (ev_v (R := rA K) (d := t) rfl r7) ev_i rv_A0) (ev_v (R := rI) (d := pt) rfl rfl) rv_eqI), fun _ => ev_v rfl r7⟩) (List.map_id _)) fne (by omega)) x5.i fun u6 K6 H6 x7 ⟨t, r6, tm⟩ => ?_
    obtain ⟨t1, t2⟩ := List.mem_filter.mp tm
    have t2 := of_decide_eq_true t2
    obtain ⟨_, _, c, ec, _⟩ := pp.t.ok t t1
    refine q_set (Ev.is (ev_op (ev_v (R := rS) (d := l) rfl rfl) (ev_op (ev_v (R := rA K) (d := t) rfl r6) ev_i rv_A1) (rv_addS (by rw [ec]; simp; omega))) (by rw [ec])) x7.i fun u7 K7 H7 x8 r7 => ?_
    cases r7
    refine s_set (ev_op (ev_v (R := rA K) (d := t) rfl ((rA K).mono x8.s r6)) ev_i rv_A2) x8.i fun u8 K8 H8 x9 r8 => ?_
    cases r8
    refine ⟨_, _, t.2.2, l ++ [c], K8, rfl, ((x6.trans x7).trans x8).trans x9, by rw [List.length_append, ll] <;> rfl, fun e he => ?_, ?_⟩
    · rcases List.mem_append.mp he with he | he
      · exact low e he
      · rw [List.mem_singleton] at he
        exact he ▸ (mem_sgB pp).mpr ⟨t, t1, ec⟩
    · rw [endF_snoc]
      exact mem_nxF.mpr ⟨pt, he, by rw [← ec, ← t2]; exact t1⟩
  · rintro σ' H' ⟨o5, o6, pt, l, K', rfl, x', ll, low, he⟩
    rw [hn] at ll
    exact s_ret (ev_v (R := rS) (d := l) rfl rfl) x'.i fun v K5 H5 x5 r5 => q v K5 H5 ((((x1.trans x2).trans x3).trans x').trans x5) ⟨l, r5, ll, low, by
      unfold strB
      rw [Bool.not_eq_true', List.isEmpty_eq_false_iff_exists_mem]
      exact ⟨pt, he⟩⟩
theorem ev_walkE {σ : L2.St} {Hm : Hp} {ta tp tk : TE} {cs : List Int} {n : Nat} {ar : List Arw} {Pk : Int → Prop} {E : XK} (pp : PartP n ar) (h1 : Ev ta σ Hm rHand cs) (hp : Ev tp σ Hm (rTold K) ((n : Int), ar)) (hk : Ev tk σ Hm (rE rI Pk) ()) (hb : ∀ i, Pk i → 0 ≤ i ∧ i ≤ 1000) : Ev (tCall (spWalk K) [] E (tCons ta (tCons tp (tCons tk tNil)))) σ Hm (rE rS (fun t => ∃ k : Nat, Pk (k : Int) ∧ wkB n ar k t)) () := fun H1 hi Q q =>
  h1 H1 hi _ fun v1 K2 H2 x2 r1 => hp.mono x2.s H2 x2.i _ fun v2 K3 H3 x3 r2 => hk.mono (x2.s.trans x3.s) H3 x3.i _ fun v3 K4 H4 x4 ⟨i, r3, pi⟩ => by
    obtain ⟨i0, i1⟩ := hb i pi
    obtain ⟨k, rfl⟩ : ∃ k : Nat, i = (k : Int) := ⟨i.toNat, by omega⟩
    exact ⟨(cs, (n, ar), k), K4, ⟨pp, by show k ≤ 1000; omega⟩, ⟨v1, _, rfl, rHand.mono (x3.s.trans x4.s) r1, v2, _, rfl, (rTold K).mono x4.s r2, v3, _, rfl, r3, rfl⟩, x4.i, fun v K5 H5 x5 ⟨t, rt, pt⟩ => q v K5 H5 (((x2.trans x3).trans x4).trans x5) ⟨t, rt, k, pi, pt⟩⟩
end
end NJ

set_option Elab.async false
set_option linter.all false
set_option maxRecDepth 100000
set_option maxHeartbeats 16000000
/-! The law's own _law_deep as data. -/
namespace NJ
open PySem PySem.Spec PyProof.Rows L2
section
variable {P : Program} {w : World} {K : PySem.W.Frag} {mg : Str → Option Value} {base : Heap}
/-! ### deep things -/
def dpI (k : Int) : Nat → PyData
  | 0 => .tuple []
  | i + 1 => if k = 0 then .tuple [.str "room", .tuple [dpI k i]] else if k = 1 then .tuple [.tuple [dpI k i]] else .list [.list [dpI k i]]
def spDeepQ (K : PySem.W.Frag) : Sp := SpF (fun (k : Int) => a1 rI k a0) (fun k => 0 ≤ k ∧ k < 3) (fun _ => rQ K) (fun k => dpI k 18)
theorem ok_deepQ (T : Tx K mg) : Fk P w K mg base CX0 1 (He.ga K "_law_deep") ["_law_kind"] (spDeepQ K) := by
  refine k0_law_deep T (spf_len fun _ => a1_len a0_len) (fun cdv A outer s H vs Q E hr h => ?_)
  refine ⟨_, (pss_cons (ps_set (i := 1) c_law_deep.nd rfl (by first | exact Or.inl rfl | exact Or.inr rfl) (pe_tup pa_nil))
  (pss_cons (ps_for PassesOwn.never rfl (pi_range1 (by rfl) T.n_range (pa_cons pe_int pa_nil)) (pg_name (i := 2) c_law_deep.nd rfl (by first | exact Or.inl rfl | exact Or.inr rfl)) (pss_one (ps_set (i := 1) c_law_deep.nd rfl (by first | exact Or.inl rfl | exact Or.inr rfl) (pe_ix ix_list (pe_lst (pa_cons (pe_tup (pa_cons pe_str (pa_cons (pe_tup (pa_cons (pv 1) pa_nil)) pa_nil))) (pa_cons (pe_tup (pa_cons (pe_tup (pa_cons (pv 1) pa_nil)) pa_nil)) (pa_cons (pe_lst (pa_cons (pe_lst (pa_cons (pv 1) pa_nil)) pa_nil)) pa_nil)))) (pv 0) (fun _ _ => rfl)))))
  (pss_one (ps_ret (pv 1))))), ?_⟩
  obtain ⟨k, Hm, ⟨k0, k1⟩, ⟨v, ws, rfl, r, rfl⟩, hi, q⟩ := h
  cases r
  refine q_set (i := 1) (R := rQ K) (d := dpI k 0) (eq_tup (ev_tup (K := K) (R := rQ K) (ds := []) ea_nil (by decide))) hi fun v1 K1 H1 x1 r1 => ?_
  refine q_for (wk_rngC (n := 18) (by decide) (by decide)) x1.i fun K2 H2 x2 => ⟨fun i σ' H' => ∃ u o2 Ki, σ' = [some (.int k), some u, o2] ∧ Xt K2 H2 Ki H' ∧ (rQ K).rel Ki u (dpI k i), ⟨v1, none, K2, rfl, Xt.refl x2.i, (rQ K).mono x2.s r1⟩, fun i σ' H' ⟨_, _, _, _, x, _⟩ => x.s.trans x.i, ?_, ?_⟩
  · rintro i d σ' H' u2 K4 H4 hd ⟨u, o2, Ki, rfl, x, ru⟩ x4 r4
    have x5 : Xt Ki H' (uni Ki K4) H4 := Xt.lift x.s x.i x4
    have ru := (rQ K).mono x5.s ru
    generalize uni Ki K4 = K5 at x5 ru
    unfold gName
    dsimp only
    have e0 : Ev (tVar 1) [some (.int k), some u, some u2] K5 (rQ K) (dpI k i) := ev_v rfl ru
    have t1 : Ev (tTup (tCons (tVar 1) tNil)) [some (.int k), some u, some u2] K5 (rQ K) (.tuple [dpI k i]) := eq_tup (ev_tup (K := K) (R := rQ K) (ds := [dpI k i]) (ea_cons e0 ea_nil) (by show 1 ≤ 16000000; decide))
    have t2 : Ev (tLst (tCons (tVar 1) tNil)) [some (.int k), some u, some u2] K5 (rQ K) (.list [dpI k i]) := eq_list (ev_lst (K := K) (R := rQ K) (ds := [dpI k i]) (ea_cons e0 ea_nil) (by show 1 ≤ 16000000; decide))
    refine s_set (i := 1) (ev_op (R := rL K (rQ K)) (d := [.tuple [.str "room", .tuple [dpI k i]], .tuple [.tuple [dpI k i]], .list [.list [dpI k i]]]) (ev_lst (K := K) (R := rQ K) (ds := [.tuple [.str "room", .tuple [dpI k i]], .tuple [.tuple [dpI k i]], .list [.list [dpI k i]]]) (ea_cons (eq_tup (ev_tup (K := K) (R := rQ K) (ds := [.str "room", .tuple [dpI k i]]) (ea_cons (ev_c fun _ => .str _) (ea_cons t1 ea_nil)) (by show 2 ≤ 16000000; decide))) (ea_cons (eq_tup (ev_tup (K := K) (R := rQ K) (ds := [.tuple [dpI k i]]) (ea_cons t1 ea_nil) (by show 1 ≤ 16000000; decide))) (ea_cons (eq_list (ev_lst (K := K) (R := rQ K) (ds := [.list [dpI k i]]) (ea_cons t2 ea_nil) (by show 1 ≤ 16000000; decide))) ea_nil))) (by show 3 ≤ 16000000; decide)) (ev_v (i := 0) (R := rI) (d := k) rfl rfl) (rv_ixL (j := k.toNat) (d := dpI k (i + 1)) (by omega) ?_)) x5.i fun v6 K6 H6 x6 r6 => ⟨v6, _, K6, rfl, (x.trans x5).trans x6, r6⟩
    have hc : k = 0 ∨ k = 1 ∨ k = 2 := by omega
    rcases hc with rfl | rfl | rfl <;> rfl
  · rintro σ' H' ⟨u, o2, Ki, rfl, x, h⟩
    exact s_ret (ev_v (R := rQ K) (d := dpI k 18) rfl h) x.i fun v6 K6 H6 x6 r6 => q v6 K6 H6 (((x1.trans x2).trans x).trans x6) r6
end
end NJ

set_option Elab.async false
set_option linter.all false
set_option maxRecDepth 100000
set_option maxHeartbeats 4000000
/-! A list of one item that grows; an item that looks at the list. -/
namespace NJ
open PySem PySem.Spec PyProof.Rows L2
section
variable {σ : L2.St} {Hm H : Hp} {K : PySem.W.Frag} {te : TE} {D : Ends} {tz : TS} {α β : Type} {R : Rp α} {S : Rp β}
end
end NJ

set_option Elab.async false
set_option linter.all false
set_option maxRecDepth 100000
set_option maxHeartbeats 4000000
/-! Tuples of ints as data: their order, sorted, in; a list that is made longer by what looks at it. -/
namespace NJ
open PySem PySem.Spec PyProof.Rows L2
open PySem.W (dataLt dataLt_tuple dataLt_cons dataLt_int toks_all_cons keyToksAll alike alikeAll)
section
variable {σ : L2.St} {Hm H : Hp} {K : PySem.W.Frag} {te : TE} {D : Ends} {tz : TS} {α β : Type} {R : Rp α} {S : Rp β}
end
end NJ

set_option Elab.async false
set_option linter.all false
set_option maxRecDepth 100000
set_option maxHeartbeats 4000000
/-! Callees that give a list of one's own at an address that is new. -/
namespace NJ
open PySem PySem.Spec PyProof.Rows L2
theorem Ci.base {β : Type} {S : Rp β} {Hm H K2 H2 : Hp} {D : Addr} {ys : List β} {Ki H' : Hp} {vs : List V} (x : Xt Hm H K2 H2) (c : Ci K2 H2 D S ys Ki vs H') : Ci Hm H D S ys Ki vs H' := ⟨x.s.trans c.s, c.i, x.k.trans c.k, fun p h => by
  rcases c.f p h with z | z
  · exact x.f p z
  · exact .inr (none_back x.k z), c.n, c.at_, c.r⟩
theorem Fk.imp {P : Program} {w : World} {K : PySem.W.Frag} {mg : Str → Option Value} {base : Heap} {CX : CXT} {k : Nat} {f : Addr} {ps : List Str} {sp sp' : Sp} (F : Fk P w K mg base CX k f ps sp) (h : ∀ vs H Q E, sp' vs H Q E → sp vs H Q E) : Fk P w K mg base CX k f ps sp' := by
  obtain ⟨⟨fd, G, b⟩, kp⟩ := F
  exact ⟨⟨fd, G.imp h, b⟩, kp⟩
section
variable {σ : L2.St} {Hm H : Hp} {ι α : Type} {A : ι → Ar} {pre : ι → Prop} {S : Rp α} {m : ι → List α} {ta : TA} {E : XK} {D : Ends} {tz : TS}
end
end NJ

set_option Elab.async false
set_option linter.all false
set_option maxRecDepth 100000
set_option maxHeartbeats 4000000
/-! Operations, displays and slices of what is known up to a property. -/
namespace NJ
open PySem PySem.Spec PyProof.Rows L2
section
variable {σ : L2.St} {Hm : Hp} {K : PySem.W.Frag} {α β γ : Type} {R : Rp α} {S : Rp β} {U : Rp γ} {Pa : α → Prop} {Pb : β → Prop} {Pc : γ → Prop} {te ta tb : TE}
theorem ev_op2E {r : R2} (ha : Ev ta σ Hm (rE R Pa) ()) (hb : Ev tb σ Hm (rE S Pb) ()) (hr : ∀ d e, Pa d → Pb e → ∃ z, Pc z ∧ Rv r R d S e U z) : Ev (tOp r ta tb) σ Hm (rE U Pc) () := fun H1 hi Q q =>
  ha H1 hi _ fun x K2 H2 x2 ⟨d, rx, pd⟩ => hb.mono x2.s H2 x2.i _ fun y K3 H3 x3 ⟨e, ry, pe⟩ => by
    obtain ⟨z, pz, hz⟩ := hr d e pd pe
    exact hz K3 H3 x3.i x y (R.mono x3.s rx) ry Q fun v K4 H4 x4 rv => q v K4 H4 ((x2.trans x3).trans x4) ⟨z, rv, pz⟩
theorem ev_tup1E (h : Ev te σ Hm (rE R Pa) ()) : Ev (tTup (tCons te tNil)) σ Hm (rE (rT K R) (fun l => ∃ d, Pa d ∧ l = [d])) () := fun H1 hi Q q => h H1 hi _ fun v K2 H2 x2 ⟨d, r, p⟩ => ⟨by show 1 ≤ sizeLine; rw [sizeLine_eq]; decide, fun a na => q (.ref a) _ _ (xt_ref x2 na) ⟨[d], ⟨a, [v], rfl, .inl (.inl upd_same), .cons (R.mono (Xt.new x2.i na).s r) .nil⟩, d, p, rfl⟩⟩
theorem ev_lst1M (h : Ev te σ Hm (rE R Pa) ()) : Ev (tLst (tCons te tNil)) σ Hm (rE (rM R) (fun l => ∃ d, Pa d ∧ l = [d])) () := fun H1 hi Q q => h H1 hi _ fun v K2 H2 x2 ⟨d, r, p⟩ => ⟨by show 1 ≤ sizeLine; rw [sizeLine_eq]; decide, fun a na => q (.ref a) _ _ (xt_ref x2 na) ⟨[d], ⟨a, [v], rfl, upd_same, .cons (R.mono (Xt.new x2.i na).s r) .nil⟩, d, p, rfl⟩⟩
/-- text[i:], i known up to a property -/
theorem ev_cutLo {l : T8} {P1 : Int → Prop} {P2 : T8 → Prop} (h : Ev ta σ Hm rS l) (h1 : Ev te σ Hm (rE rI P1) ()) (hz : l.length ≤ 16000000) (hp : ∀ i, P1 i → P2 (cut l (some i) none)) : Ev (tSl rSlS ta (tPart te) tNoPart) σ Hm (rE rS P2) () := fun H1 hx Q q =>
  h H1 hx _ fun v K2 H2 x2 r => h1.mono x2.s H2 x2.i _ fun u K3 H3 x3 ⟨i, ru, pi⟩ => ⟨i, ru, tx l, r, by rw [tx_len]; exact sz16 hz, by
    have e : cutS (tx l) (some i) none = tx (cut l (some i) none) := by
      unfold cutS cut tx
      simp [Str.length]
    rw [e]
    exact q _ K3 H3 (x2.trans x3) ⟨_, rfl, hp i pi⟩⟩
/-- list[:i], i known up to a property -/
theorem ev_slLE {xs : List α} {P1 : Int → Prop} (h : Ev ta σ Hm (rL K R) xs) (h1 : Ev te σ Hm (rE rI P1) ()) : Ev (tSl (rSlL K) ta tNoPart (tPart te)) σ Hm (rE (rM R) fun l => ∃ i, P1 i ∧ l = cut xs none (some i)) () := fun H1 hx Q q =>
  h H1 hx _ fun v K2 H2 x2 ⟨a, vs, ev, hS, hP⟩ => h1.mono x2.s H2 x2.i _ fun u K3 H3 x3 ⟨i, ru, pi⟩ => ⟨i, ru, a, vs, ev, (x3.s.trans x3.i).seq hS, fun p np =>
    q (.ref p) _ _ (xt_ref (x2.trans x3) np) ⟨_, ⟨p, cutV vs none (some i), rfl, upd_same, paired_mono R (x3.s.trans (Xt.new x3.i np).s) (paired_cut hP)⟩, i, pi, rfl⟩⟩
/-- list(a tuple), one's own -/
theorem rc_listTM {xs : List α} : Rc (fun vs H Q => ∃ p ys, vs = [.ref p] ∧ (SqL K H p ys ∨ SqT K H p ys) ∧ ∀ l, H l = none → Q (.ref l) (upd H l (.lst ys))) (a1 (rT K R) xs a0) (rM R) xs := fun Hm H1 hi vs ⟨v, ws, e1, ⟨a, us, e2, hS, hP⟩, e3⟩ Q q => ⟨a, us, by rw [e1, e2, show ws = [] from e3], .inr (seqT_mono hi hS), fun l nl => q (.ref l) _ _ (Xt.new hi nl) ⟨l, us, rfl, upd_same, paired_mono R (Xt.new hi nl).s hP⟩⟩
theorem ev_flat {P2 : Unit → Prop} (h : Ev te σ Hm (rE (rE R Pa) P2) ()) : Ev te σ Hm (rE R Pa) () := fun H1 hi Q q => h H1 hi Q fun v K2 H2 x2 ⟨_, r, _⟩ => q v K2 H2 x2 r
theorem paired_someT {H : Hp} : ∀ {vs : List V} {xs : List T8}, Paired (rS.rel H) vs xs → Paired ((rTh K).rel H) vs (xs.map some)
  | _, _, .nil => .nil
  | _, _, .cons r rs => .cons r (paired_someT rs)
theorem rt_someT {v : V} {xs : List T8} (h : (rT K rS).rel Hm v xs) : (rT K (rTh K)).rel Hm v (xs.map some) := by
  obtain ⟨a, vs, e, hS, hP⟩ := h
  exact ⟨a, vs, e, hS, paired_someT hP⟩
end
end NJ

set_option Elab.async false
set_option linter.all false
set_option maxRecDepth 100000
set_option maxHeartbeats 16000000
/-! k21: what is due, what is bent. -/
namespace NJ
open PySem PySem.Spec PyProof.Rows L2
theorem asc_idx (ws : List T8) : ((nums (ws.length - 1)).map fun k => decide (ws.getD k.toNat [] < ws.getD (k.toNat + 1) [])).all id = ascT ws := by
  rw [Bool.eq_iff_iff, List.all_map, List.all_eq_true]
  unfold ascT
  rw [List.all_map, List.all_eq_true]
  constructor
  · intro h p hp
    obtain ⟨i, hi⟩ := List.mem_iff_getElem?.mp hp
    rw [List.getElem?_zip_eq_some] at hi
    obtain ⟨h1, h2⟩ := hi
    rw [List.getElem?_drop] at h2
    have hl := (List.getElem?_eq_some_iff.mp h2).1
    have := h (i : Int) (mem_nums (by omega))
    have e1 : ws.getD i [] = p.1 := by rw [List.getD_eq_getElem?_getD, h1]; rfl
    have e2 : ws.getD (i + 1) [] = p.2 := by rw [List.getD_eq_getElem?_getD, Nat.add_comm, h2]; rfl
    have this : decide (ws.getD (i : Int).toNat [] < ws.getD ((i : Int).toNat + 1) []) = true := this
    rw [Int.toNat_natCast, e1, e2] at this
    exact this
  · intro h k hk
    have kb := nums_lt hk
    obtain ⟨i, rfl⟩ : ∃ i : Nat, k = (i : Int) := ⟨k.toNat, by omega⟩
    have hl : i + 1 < ws.length := by omega
    have := h (ws[i], ws[i + 1]) (List.mem_iff_getElem?.mpr ⟨i, by
      rw [List.getElem?_zip_eq_some]
      refine ⟨List.getElem?_eq_getElem (by omega), ?_⟩
      rw [List.getElem?_drop, Nat.add_comm]
      exact List.getElem?_eq_getElem hl⟩)
    show decide (ws.getD (i : Int).toNat [] < ws.getD ((i : Int).toNat + 1) []) = true
    rw [Int.toNat_natCast, List.getD_eq_getElem?_getD, List.getD_eq_getElem?_getD, List.getElem?_eq_getElem (by omega), List.getElem?_eq_getElem hl]
    exact this
section
variable {P : Program} {w : World} {K : PySem.W.Frag} {mg : Str → Option Value} {base : Heap}
def spDueB (K : PySem.W.Frag) : Sp := SpF (fun (x : (Nat × List Arw) × Option (List (Option T8))) => a1 (rTold K) ((x.1.1 : Int), x.1.2) (a1 (rRw K) x.2 a0)) (fun x => PartP x.1.1 x.1.2 ∧ okRw x.2) (fun _ => rO rS) (fun x => wpO x.1.1 x.1.2 x.2)
theorem ok_dueB (T : Tx K mg) : Fk P w K mg base CX0 4 (He.ga K "_law_due") ["_law_parts", "_law_thing"] (spDueB K) := by
  refine k0_law_due T (spf_len fun _ => a1_len (a1_len a0_len)) (fun cdv A outer s H vs Q E hr h => ?_)
  refine ⟨_, (pss_cons (ps_if (PW.pt (pw_or (pt_not (pt_val (pe_callB call_isi (by rfl) T.n_isinstance boot_isinstance (pa_cons (pv 1) (pa_cons (pe_bltn (v := .ty "tuple") (by rfl) T.n_tuple boot_tuple rfl) pa_nil))))) (pw_or (pt_cmpR op_gt (pe_callB call_len (by rfl) T.n_len boot_len (pa_cons (pv 1) pa_nil)) pe_int (nomark _)) (pw_or1 (pt_not (pt_val (pe_callB (cr_all rfl) (by rfl) T.n_all boot_all (pa_cons (pe_lc (te := tCall (spLitO K) [] E0 (tCons (tVar 2) (tCons (tC (.int 1)) (tCons (tC (.int 60)) tNil)))) (own := [("_law_word", 2)]) rfl c_law_due.nd (pi_tup (pv 1)) (blkOk_by (N := ["_law_parts", "_law_thing", "_law_word", "_law_k"]) (sc := defScope s_law_due) (by decide +kernel)) (fun _ _ _ _ _ => (pg_name (i := 2) c_law_due.nd rfl (by first | exact Or.inl rfl | exact Or.inr rfl))) (fun _ _ _ _ _ => pts_nil) (fun _ _ _ _ _ => (pe_fk (ok_litO T) (hr.mono (by decide)) T.g_law_is_text pass0 (pa_cons (pv 2) (pa_cons pe_int (pa_cons pe_int pa_nil)))))) pa_nil)))))))) (pss_one (ps_ret pe_str)) pss_nil)
  (pss_cons (ps_if (pt_not (pt_val (pe_callB (cr_all rfl) (by rfl) T.n_all boot_all (pa_cons (pe_lc (te := tOp rLtS (tOp (rIxT K) (tVar 1) (tVar 3)) (tOp (rIxT K) (tVar 1) (tOp (L2.rI0 fun i j => .int (i + j)) (tVar 3) (tC (.int 1))))) (own := [("_law_k", 3)]) rfl c_law_due.nd (pi_range1 (by rfl) T.n_range (pa_cons (pe_op op_sub (pe_callB (r := rLen K) call_len (by rfl) T.n_len boot_len (pa_cons (pv 1) pa_nil)) pe_int) pa_nil)) (blkOk_by (N := ["_law_parts", "_law_thing", "_law_word", "_law_k"]) (sc := defScope s_law_due) (by decide +kernel)) (fun _ _ _ _ _ => (pg_name (i := 3) c_law_due.nd rfl (by first | exact Or.inl rfl | exact Or.inr rfl))) (fun _ _ _ _ _ => pts_nil) (fun _ _ _ _ _ => (pe_cmpR op_lt_str (pe_ix ix_tup (pv 1) (pv 3) (fun _ _ => rfl)) (pe_ix ix_tup (pv 1) (pe_op op_add (pv 3) pe_int) (fun _ _ => rfl)) (nomark _)))) pa_nil)))) (pss_one (ps_ret pe_str)) pss_nil)
  (pss_cons (ps_if (pt_not (pt_val (pe_callB (cr_all rfl) (by rfl) T.n_all boot_all (pa_cons (pe_lc (te := tCall (spLisO K) [] E0 (tCons (tVar 0) (tCons (tVar 2) tNil))) (own := [("_law_word", 2)]) rfl c_law_due.nd (pi_tup (pv 1)) (blkOk_by (N := ["_law_parts", "_law_thing", "_law_word", "_law_k"]) (sc := defScope s_law_due) (by decide +kernel)) (fun _ _ _ _ _ => (pg_name (i := 2) c_law_due.nd rfl (by first | exact Or.inl rfl | exact Or.inr rfl))) (fun _ _ _ _ _ => pts_nil) (fun _ _ _ _ _ => (pe_fk (ok_lisO T) (hr.mono (by decide)) T.g_law_is_stretch pass0 (pa_cons (pv 0) (pa_cons (pv 2) pa_nil))))) pa_nil)))) (pss_one (ps_ret pe_str)) pss_nil)
  (pss_one (ps_ret (pe_ix ix_list (pe_lst (pa_cons pe_non (pa_cons pe_str pa_nil))) (pe_callTy call_int1 (by rfl) T.n_int boot_int (pa_cons (pe_cmpR op_notN (pe_fk (ok_leastT T) (hr.mono (by decide)) T.g_law_least_clash pass0 (pa_cons (pv 1) pa_nil)) pe_non (nomark _)) pa_nil)) (fun _ _ => rfl))))))), ?_⟩
  obtain ⟨⟨⟨n, ar⟩, o⟩, Hm, ⟨pp, ok⟩, ⟨v1, vs1, rfl, r1, v2, vs2, rfl, r2, rfl⟩, hi, q⟩ := h
  dsimp only at pp ok r1 r2 q
  obtain ⟨ty, rty, kt⟩ := rw_ty r2
  cases o with
  | none =>
    refine q_when (b := true) (et_or (a := true) (b := false) (Et.is (et_not (et_test (ev_isi (ev_v rfl rty) kt))) rfl) fun z => by cases z) hi (fun _ K1 H1 x1 => ?_) (fun hb => by cases hb)
    exact s_ret (ev_some (Ev.is ev_s (show _ = tWords by rfl))) x1.i fun v K2 H2 x2 r => q v K2 H2 (x1.trans x2) r
  | some os =>
    have r2 : (rT K (rTh K)).rel Hm v2 os := r2
    have oz := ok.1
    refine q_when (b := !(decide ((os.length : Int) ≤ 400) && (os.map wdO).all id)) (Et.is (et_or (a := false) (et_not (et_test (ev_isi (ev_v rfl rty) kt))) fun _ => et_or (et_test (ev_op (ev_cb (ea_cons (ev_v rfl r2) ea_nil) rc_lenT) ev_i rv_b0)) fun _ => et_not (et_test (ev_cb (ea_cons (ev_lc0 (K := K) (S := rB) (R := rTh K) wdO (wk_tup (ev_v rfl r2)) (by omega) fun d hd v K3 s3 r3 => ⟨_, tk_name, rfl, ev_call (x := (d, (1 : Int), (60 : Int))) (ok.th hd) (ea_cons (ev_v rfl r3) (ea_cons ev_i (ea_cons ev_i ea_nil)))⟩) ea_nil) rc_all))) (by
      rw [Bool.false_or, Bool.not_and]
      congr 1
      rw [Bool.eq_iff_iff]
      simp)) hi (fun hb K1 H1 x1 => ?_) (fun hb K1 H1 x1 => ?_)
    · have e : wpO n ar (some os) = some tWords := by
        refine if_pos ?_
        unfold wdsO
        rw [Bool.not_eq_true'] at hb
        rw [← Bool.and_assoc, hb, Bool.false_and]
      rw [e] at q
      exact s_ret (ev_some (Ev.is ev_s (show _ = tWords by rfl))) x1.i fun v K2 H2 x2 r => q v K2 H2 (x1.trans x2) r
    rw [Bool.not_eq_false', Bool.and_eq_true] at hb
    obtain ⟨b4, bw⟩ := hb
    have r2a := (rT K rS).mono x1.s (rt_txs r2 bw)
    have tl : (txs os).length = os.length := by unfold txs; rw [List.length_map]
    have wp : ∀ x ∈ txs os, x.length ≤ 60 ∧ some x ∈ os := fun x hx => ⟨(wdO_is (mem_txs bw hx).2).2.2, (mem_txs bw hx).1⟩
    have e0 : wdsO os = ascT (txs os) := by
      unfold wdsO
      rw [b4, bw, Bool.true_and, Bool.true_and]
    refine q_when (b := !(ascT (txs os))) (Et.is (et_not (et_test (ev_cb (ea_cons (ev_lc0 (K := K) (S := rB) (R := rI) (fun k => decide ((txs os).getD k.toNat [] < (txs os).getD (k.toNat + 1) [])) (wk_rng (n := ((txs os).length : Int) - 1) (ea_cons (ev_op (ev_cb (ea_cons (ev_v rfl r2a) ea_nil) rc_lenT) ev_i rv_i0) ea_nil) (by omega) (by omega)) (by rw [nums_len]; omega) fun d hd v K3 s3 r3 => ⟨_, tk_name, rfl, ?_⟩) ea_nil) rc_all))) (by rw [← asc_idx, show (((txs os).length : Int) - 1).toNat = (txs os).length - 1 by omega])) x1.i (fun hb K2 H2 x2 => ?_) (fun hb K2 H2 x2 => ?_)
    · have db := nums_lt hd
      cases r3
      obtain ⟨i, rfl⟩ : ∃ i : Nat, d = (i : Int) := ⟨d.toNat, by omega⟩
      have hl : i + 1 < (txs os).length := by omega
      have g1 : (txs os)[i]? = some ((txs os).getD (i : Int).toNat []) := by
        rw [Int.toNat_natCast, List.getD_eq_getElem?_getD, List.getElem?_eq_getElem (by omega)]
        rfl
      have g2 : (txs os)[i + 1]? = some ((txs os).getD ((i : Int).toNat + 1) []) := by
        rw [Int.toNat_natCast, List.getD_eq_getElem?_getD, List.getElem?_eq_getElem hl]
        rfl
      exact ev_op (ev_op (ev_v (i := 1) rfl ((rT K rS).mono s3 r2a)) (ev_v (i := 3) (R := rI) (d := (i : Int)) rfl rfl) (rv_ixT rfl g1)) (ev_op (ev_v (i := 1) rfl ((rT K rS).mono s3 r2a)) (ev_op (ev_v (i := 3) (R := rI) (d := (i : Int)) rfl rfl) ev_i rv_i0) (rv_ixT (j := i + 1) (by omega) g2)) rv_ltS
    · have e : wpO n ar (some os) = some tWords := if_pos (by rw [e0]; simpa using hb)
      rw [e] at q
      exact s_ret (ev_some (Ev.is ev_s (show _ = tWords by rfl))) x2.i fun v K3 H3 x3 r => q v K3 H3 ((x1.trans x2).trans x3) r
    have b1 : wdsO os = true := by
      rw [e0]
      simpa using hb
    have r2b := (rT K rS).mono x2.s r2a
    refine q_when (b := !(((txs os).map fun l => strO n ar (some l)).all id)) (et_not (et_test (ev_cb (ea_cons (ev_lc0 (K := K) (S := rB) (R := rS) (fun l => strO n ar (some l)) (wk_tup (ev_v rfl r2b)) (by omega) fun d hd v K3 s3 r3 => ⟨_, tk_name, rfl, ev_call (x := ((n, ar), some d)) ⟨pp, by show d.length ≤ 16000000; have := (wp d hd).1; omega, fun t e => by cases e; have := (wp d hd).1; omega⟩ (ea_cons (ev_v rfl ((rTold K).mono ((x1.s.trans x2.s).trans s3) r1)) (ea_cons (ev_v (R := rTh K) (d := some d) rfl r3) ea_nil))⟩) ea_nil) rc_all))) x2.i (fun hb K3 H3 x3 => ?_) (fun hb2 K3 H3 x3 => ?_)
    · have e : wpO n ar (some os) = some tStretch := by
        unfold wpO
        dsimp only
        rw [if_neg (by rw [b1]; exact Bool.noConfusion), if_pos (by simpa using hb)]
      rw [e] at q
      exact s_ret (ev_some (Ev.is ev_s (show _ = tStretch by rfl))) x3.i fun v K4 H4 x4 r => q v K4 H4 (((x1.trans x2).trans x3).trans x4) r
    have b2 : ((txs os).map fun l => strO n ar (some l)).all id = true := by
      rw [Bool.not_eq_false'] at hb2
      exact hb2
    have e : wpO n ar (some os) = if (lcF (txs os)).isSome then some tClash else none := by
      unfold wpO
      dsimp only
      rw [if_neg (by rw [b1]; exact Bool.noConfusion), if_neg (by rw [b2]; exact Bool.noConfusion)]
    rw [e] at q
    have pick : ∀ b : Bool, [(none : Option T8), some tClash][if b then (1 : Nat) else 0]? = some (if b then some tClash else none) := fun b => by cases b <;> rfl
    exact s_ret (ev_op (R := rL K (rO rS)) (d := [none, some tClash]) (ev_lst (K := K) (R := rO rS) (ds := [none, some tClash]) (ea_cons (ev_none ev_n) (ea_cons (ev_some (Ev.is ev_s (show _ = tClash by rfl))) ea_nil)) (by show 2 ≤ 16000000; decide)) (ev_cb (ea_cons (ev_op (ev_call (x := txs os) ⟨by omega, fun x hx => by have := (wp x hx).1; omega⟩ (ea_cons (ev_v rfl ((rT K rS).mono x3.s r2b)) ea_nil)) ev_n (rv_notNOb fun H v d ⟨a, _, _, e, _⟩ h => by rw [h] at e; cases e)) ea_nil) rc_intB) (rv_ixL (j := if (lcF (txs os)).isSome then 1 else 0) (by cases (lcF (txs os)).isSome <;> rfl) (pick _))) x3.i fun v K4 H4 x4 r => q v K4 H4 (((x1.trans x2).trans x3).trans x4) r
theorem mem_cutB {γ : Type} {l : List γ} {lo hi : Option Int} {x : γ} (h : x ∈ cut l lo hi) : x ∈ l := List.mem_of_mem_drop (List.mem_of_mem_take h)
/-! ### bent words -/
def rwD : PyData → Option (List (Option T8))
  | .tuple ds => some (ds.map fun d => tgS (.inl d))
  | _ => none
theorem q_rw {H : Hp} {v : V} {d : PyData} (h : (rQ K).rel H v d) : (rRw K).rel H v (rwD d) := by
  by_cases ht : isTupD d = true
  · cases d with
    | tuple ds =>
      obtain ⟨a, vs, e, hS, hP⟩ := q_tupO h
      refine ⟨a, vs, e, hS, ?_⟩
      clear hS h
      induction hP with
      | nil => exact .nil
      | @cons v d vs ds r rs ih =>
        refine .cons ?_ (ih rfl)
        have r : Dq K H v d := r
        by_cases hs : isStrD d = true
        · cases d with
          | str x =>
            cases r
            show V.str x = V.str (tx x.cps.toList)
            rw [str_tx]
          | _ => cases hs
        · have e : tgS (.inl d) = none := by cases d <;> first | rfl | exact absurd rfl hs
          show (rTh K).rel H v (tgS (.inl d))
          rw [e]
          refine ⟨.type (tyN d), dq_ty r, ?_⟩
          rw [kq_str]
          cases h : isStrD d with
          | true => exact absurd h hs
          | false => rfl
    | _ => cases ht
  · have e : rwD d = none := by cases d <;> first | rfl | exact absurd rfl ht
    rw [e]
    refine ⟨.type (tyN d), dq_ty h, ?_⟩
    rw [kq_tup]
    cases hh : isTupD d with
    | true => exact absurd hh ht
    | false => rfl
section
variable {σ : L2.St} {Hm : Hp} {te : TE}
theorem er_q {d : PyData} (h : Ev te σ Hm (rQ K) d) (p : okRw (rwD d)) : Ev te σ Hm (rE (rRw K) okRw) () := fun H1 hi Q q => h H1 hi Q fun v K2 H2 x2 r => q v K2 H2 x2 ⟨rwD d, q_rw r, p⟩
theorem er_none {ty : Value} (h : Ev te σ Hm (rTy K) ty) (k : PySem.W.kitOne K ty (.type "tuple") = some false) : Ev te σ Hm (rE (rRw K) okRw) () := fun H1 hi Q q => h H1 hi Q fun v K2 H2 x2 r => q v K2 H2 x2 ⟨none, ⟨ty, r, k⟩, trivial⟩
theorem er_txt {Pt : List T8 → Prop} (h : Ev te σ Hm (rE (rT K rS) Pt) ()) (p : ∀ xs, Pt xs → xs.length ≤ 1000 ∧ ∀ x ∈ xs, x.length ≤ 1000) : Ev te σ Hm (rE (rRw K) okRw) () := fun H1 hi Q q => h H1 hi Q fun v K2 H2 x2 ⟨xs, r, px⟩ => q v K2 H2 x2 ⟨some (xs.map some), rt_someT r, by rw [List.length_map]; exact (p xs px).1, fun o ho => by
  obtain ⟨x, hx, rfl⟩ := List.mem_map.mp ho
  exact (p xs px).2 x hx⟩
theorem er_th {Pt : List (Option T8) → Prop} (h : Ev te σ Hm (rE (rT K (rTh K)) Pt) ()) (p : ∀ xs, Pt xs → okRw (some xs)) : Ev te σ Hm (rE (rRw K) okRw) () := fun H1 hi Q q => h H1 hi Q fun v K2 H2 x2 ⟨xs, r, px⟩ => q v K2 H2 x2 ⟨some xs, r, p xs px⟩
end
def spBentB (K : PySem.W.Frag) : Sp := SpF (fun (x : (List Int × (Nat × List Arw)) × List T8) => a1 rHand x.1.1 (a1 (rTold K) ((x.1.2.1 : Int), x.1.2.2) (a1 (rT K rS) x.2 (a1 (GW.rWeb K) ((x.1.2.1 : Int), x.1.2.2) a0)))) (fun x => PartP x.1.2.1 x.1.2.2 ∧ WsP x.1.2.1 x.1.2.2 x.2) (fun _ => rE (rRw K) okRw) (fun _ => ())
theorem ok_bentB (T : Tx K mg) : Fk P w K mg base CX0 4 (He.ga K "_law_bent") ["_law_hand_here", "_law_parts", "_law_words_here", "_law_web_here"] (spBentB K) := by
  refine k0_law_bent T (spf_len fun _ => a1_len (a1_len (a1_len (a1_len a0_len)))) (fun cdv A outer s H vs Q E hr h => ?_)
  refine ⟨_, (pss_cons (ps_set (i := 4) c_law_bent.nd rfl (by first | exact Or.inl rfl | exact Or.inr rfl) (pe_fk (ok_draw T) (hr.mono (by decide)) T.g_law_draw pass0 (pa_cons (pv 0) (pa_cons pe_int pa_nil))))
  (pss_cons (ps_if (pt_cmpR op_eq (pv 4) pe_int (nomark _)) (pss_one (ps_ret (pe_fk (ok_some T) (hr.mono (by decide)) T.g_law_some pass0 (pa_cons (pv 0) (pa_cons (pe_lst (pa_cons pe_non (pa_cons (pe_callTy call_list_of (by rfl) T.n_list boot_list (pa_cons (pv 2) pa_nil)) (pa_cons pe_str (pa_cons pe_int (pa_cons pe_dnewK (pa_cons (pe_tup (pa_cons (pv 2) pa_nil)) (pa_cons pe_bl (pa_cons (pv 3) (pa_cons (pe_fk (ok_deepQ T) (hr.mono (by decide)) T.g_law_deep pass0 (pa_cons pe_int pa_nil)) (pa_cons (pe_lst (pa_cons (pe_tup (pa_cons pe_str pa_nil)) pa_nil)) pa_nil))))))))))) pa_nil))))) pss_nil)
  (pss_cons (ps_set (i := 5) c_law_bent.nd rfl (by first | exact Or.inl rfl | exact Or.inr rfl) (pe_lst (pa_cons pe_str (pa_cons pe_str (pa_cons pe_str (pa_cons pe_non (pa_cons pe_int (pa_cons (pe_tup (pa_cons pe_str pa_nil)) (pa_cons (pe_op op_mulS pe_str pe_int) (pa_cons (pe_op op_mulS pe_str pe_int) (pa_cons pe_str (pa_cons pe_bl (pa_cons (pe_fk (ok_deepQ T) (hr.mono (by decide)) T.g_law_deep pass0 (pa_cons pe_int pa_nil)) (pa_cons (pv 3) pa_nil))))))))))))))
  (pss_cons (ps_if (pt_cmpR op_eq (pv 4) pe_int (nomark _)) (pss_one (ps_ret (pe_op op_catA (pv 2) (pe_tup (pa_cons (pe_fk (ok_some T) (hr.mono (by decide)) T.g_law_some pass0 (pa_cons (pv 0) (pa_cons (pv 5) pa_nil))) pa_nil))))) pss_nil)
  (pss_cons (ps_set (i := 6) c_law_bent.nd rfl (by first | exact Or.inl rfl | exact Or.inr rfl) (pe_fk (ok_walk T) (hr.mono (by decide)) T.g_law_walk pass0 (pa_cons (pv 0) (pa_cons (pv 1) (pa_cons (pe_op op_add pe_int (pe_fk (ok_draw T) (hr.mono (by decide)) T.g_law_draw pass0 (pa_cons (pv 0) (pa_cons pe_int pa_nil)))) pa_nil)))))
  (pss_cons (ps_if (PW.pt (pw_or (pt_cmpR op_eq (pv 4) pe_int (nomark _)) (pw_or1 (pt_cmpR op_eq (pe_callB call_len (by rfl) T.n_len boot_len (pa_cons (pv 2) pa_nil)) pe_int (nomark _))))) (pss_one (ps_ret (pe_callTy call_tuple_of (by rfl) T.n_tuple boot_tuple (pa_cons (pe_callB (cr_sortD (hu100 hr)) (by rfl) T.n_sorted boot_sorted (pa_cons (pe_op op_cat (pe_callTy call_list_of (by rfl) T.n_list boot_list (pa_cons (pv 2) pa_nil)) (pe_lst (pa_cons (pv 6) pa_nil))) pa_nil)) pa_nil)))) pss_nil)
  (pss_cons (ps_set (i := 7) c_law_bent.nd rfl (by first | exact Or.inl rfl | exact Or.inr rfl) (pe_fk (ok_draw T) (hr.mono (by decide)) T.g_law_draw pass0 (pa_cons (pv 0) (pa_cons (pe_callB call_len (by rfl) T.n_len boot_len (pa_cons (pv 2) pa_nil)) pa_nil))))
  (pss_cons (ps_if (pt_cmpR op_eq (pv 4) pe_int (nomark _)) (pss_one (ps_ret (pe_op op_catA (pe_op op_catA (pe_slice sl_tupA (pv 2) po_none (po_some (pv 7))) (pe_tup (pa_cons (pe_ix ix_tup (pv 2) (pv 7) (fun _ _ => rfl)) pa_nil))) (pe_slice sl_tupA (pv 2) (po_some (pv 7)) po_none)))) pss_nil)
  (pss_cons (ps_if (pt_cmpR op_eq (pv 4) pe_int (nomark _)) (pss_one (ps_ret (pe_revT (pv 2)))) pss_nil)
  (pss_cons (ps_if (pt_cmpR op_eq (pv 4) pe_int (nomark _)) (pss_cons (ps_set (i := 8) c_law_bent.nd rfl (by first | exact Or.inl rfl | exact Or.inr rfl) (pe_op op_mulS (pe_fk (ok_some T) (hr.mono (by decide)) T.g_law_some pass0 (pa_cons (pv 0) (pa_cons pe_str pa_nil))) (pe_op op_add pe_int (pe_fk (ok_draw T) (hr.mono (by decide)) T.g_law_draw pass0 (pa_cons (pv 0) (pa_cons pe_int pa_nil))))))
  (pss_one (ps_ret (pe_callTy call_tuple_of (by rfl) T.n_tuple boot_tuple (pa_cons (pe_callB (cr_sortD (hu100 hr)) (by rfl) T.n_sorted boot_sorted (pa_cons (pe_op op_cat (pe_lc (tt := tTest (tOp rNe (tVar 9) (tOp (rIxT K) (tVar 2) (tVar 7)))) (own := [("_law_word", 9)]) rfl c_law_bent.nd (pi_tup (pv 2)) (blkOk_by (N := ["_law_hand_here", "_law_parts", "_law_words_here", "_law_web_here", "_law_kind", "_law_odd", "_law_text", "_law_at", "_law_other", "_law_word"]) (sc := defScope s_law_bent) (by decide +kernel)) (fun _ _ _ _ _ => (pg_name (i := 9) c_law_bent.nd rfl (by first | exact Or.inl rfl | exact Or.inr rfl))) (fun _ _ _ _ _ => (pts_one (pt_cmpR op_ne (pv 9) (pe_ix ix_tup (pv 2) (pv 7) (fun _ _ => rfl)) (nomark _)))) (fun _ _ _ _ _ => (pv 9))) (pe_lst (pa_cons (pv 8) pa_nil))) pa_nil)) pa_nil))))) pss_nil)
  (pss_one (ps_ret (pe_callTy call_tuple_of (by rfl) T.n_tuple boot_tuple (pa_cons (pe_callB (cr_sortD (hu100 hr)) (by rfl) T.n_sorted boot_sorted (pa_cons (pe_op op_cat (pe_callTy call_list_of (by rfl) T.n_list boot_list (pa_cons (pv 2) pa_nil)) (pe_lst (pa_cons (pe_op op_add_str (pe_slice sl_str (pe_ix ix_tup (pv 2) (pv 7) (fun _ _ => rfl)) (po_some (pe_fk (ok_draw T) (hr.mono (by decide)) T.g_law_draw pass0 (pa_cons (pv 0) (pa_cons (pe_callB call_len (by rfl) T.n_len boot_len (pa_cons (pe_ix ix_tup (pv 2) (pv 7) (fun _ _ => rfl)) pa_nil)) pa_nil)))) po_none) pe_str) pa_nil))) pa_nil)) pa_nil)))))))))))))), ?_⟩
  obtain ⟨⟨⟨cs, n, ar⟩, W⟩, Hm, ⟨pp, wp⟩, ⟨v1, vs1, rfl, r1, v2, vs2, rfl, r2, v3, vs3, rfl, r3, v4, vs4, rfl, r4, rfl⟩, hi, q⟩ := h
  dsimp only at pp wp r1 r2 r3 r4 q
  have wz := wp.z
  have wl : ∀ x ∈ W, 1 ≤ x.length ∧ x.length ≤ 60 := fun x hx => ⟨(wp.w x hx).2.1, (wp.w x hx).2.2.1⟩
  have hand : ∀ {σ : L2.St} {Kx : Hp}, Same Hm Kx → σ[0]? = some (some v1) → Ev (tVar 0) σ Kx rHand cs := fun s e => ev_v e (rHand.mono s r1)
  have told : ∀ {σ : L2.St} {Kx : Hp}, Same Hm Kx → σ[1]? = some (some v2) → Ev (tVar 1) σ Kx (rTold K) ((n : Int), ar) := fun s e => ev_v e ((rTold K).mono s r2)
  have wrds : ∀ {σ : L2.St} {Kx : Hp}, Same Hm Kx → σ[2]? = some (some v3) → Ev (tVar 2) σ Kx (rT K rS) W := fun s e => ev_v e ((rT K rS).mono s r3)
  have web : ∀ {σ : L2.St} {Kx : Hp}, Same Hm Kx → σ[3]? = some (some v4) → Ev (tVar 3) σ Kx (GW.rWeb K) ((n : Int), ar) := fun s e => ev_v e ((GW.rWeb K).mono s r4)
  refine q_set (i := 4) (ev_draw (hand (Same.refl _) rfl) ev_i (by decide) (by decide)) hi fun v5 K1 H1 x1 ⟨kd, e5, k0, k7⟩ => ?_
  cases e5
  have kE : ∀ {σ : L2.St} {Kx : Hp} {j : Int}, σ[4]? = some (some (.int kd)) → Et (tTest (tOp rEq (tVar 4) (tC (.int j)))) σ Kx (decide (kd = j)) := fun e => et_test (ev_op (ev_v (R := rI) (d := kd) e rfl) ev_i rv_eqI)
  have dp1 : okRw (rwD (dpI 1 18)) := by
    have e : rwD (dpI 1 18) = some [none] := rfl
    rw [e]
    exact ⟨by decide, fun o ho => by
      rw [List.mem_singleton] at ho
      subst ho
      decide⟩
  refine q_when (kE rfl) x1.i (fun hb K2 H2 x2 => ?_) (fun hb0 K2 H2 x2 => ?_)
  · have s := x1.s.trans x2.s
    exact s_ret (ev_flat (ev_someL (R := rE (rRw K) okRw) (hand s rfl) (ev_lst (K := K) (ds := [(), (), (), (), (), (), (), (), (), ()]) (ea_cons (er_q eq_non trivial) (ea_cons (er_none (ty := .type "list") ((ev_cb (ea_cons (wrds s rfl) ea_nil) rc_listTM).conv fun {H v} ⟨a, vs, e, hh, _⟩ => by
      rw [e]
      exact .base (.lst hh)) (kit_ty (by decide +kernel))) (ea_cons (er_q (eq_str (Ev.is ev_s (show _ = ([97, 98] : T8) by rfl))) trivial) (ea_cons (er_q (eq_int ev_i) trivial) (ea_cons (er_q eq_dct trivial) (ea_cons (er_th (Pt := fun xs => xs = [none]) ((ev_tup (K := K) (R := rTh K) (ds := [none]) (ea_cons (fun H1 hi Q q => wrds s rfl H1 hi Q fun v K3 H3 x3 r => q v K3 H3 x3 ⟨.type "tuple", GW.ty_rtA r, kit_ty (by decide +kernel)⟩) ea_nil) (by show 1 ≤ 16000000; decide)).some_ rfl) (fun xs e => by
      subst e
      exact ⟨by decide, fun o ho => by
        rw [List.mem_singleton] at ho
        subst ho
        decide⟩)) (ea_cons (er_q eq_bl trivial) (ea_cons (er_none (ty := .ref (CW K)) ((web s rfl).conv fun {H v} ⟨a, dx, fs, e, hh, _⟩ => by
      rw [e]
      exact T.in_Web.ty hh) T.kt_Web_tuple) (ea_cons (er_q (d := dpI 1 18) (ev_call (x := (1 : Int)) ⟨by decide, by decide⟩ (ea_cons ev_i ea_nil)) dp1) (ea_cons (er_q (d := .list [.tuple [.str (tx [97])]]) (eq_list (ev_lst (K := K) (R := rQ K) (ds := [.tuple [.str (tx [97])]]) (ea_cons (eq_tup (ev_tup (K := K) (R := rQ K) (ds := [.str (tx [97])]) (ea_cons (eq_str (Ev.is ev_s (show _ = ([97] : T8) by rfl))) ea_nil) (by show 1 ≤ 16000000; decide))) ea_nil) (by show 1 ≤ 16000000; decide))) trivial) ea_nil)))))))))) (by show 10 ≤ 16000000; decide)) (by show 0 < 10; decide) (by show 10 ≤ 1000; decide))) x2.i fun v K3 H3 x3 r => q v K3 H3 ((x1.trans x2).trans x3) r
  have s2 := x1.s.trans x2.s
  have thN : ∀ {σ : L2.St} {Kx : Hp} {te : TE} {d : PyData}, Ev te σ Kx (rQ K) d → tgS (.inl d) = none → Ev te σ Kx (rE (rTh K) fun o => (o.getD []).length ≤ 1000) () := fun {σ Kx te d} h e H1 hi Q q => h H1 hi Q fun v K3 H3 x3 r => q v K3 H3 x3 ⟨none, ⟨.type (tyN d), dq_ty r, by
    rw [kq_str]
    cases d <;> first | rfl | cases e⟩, by decide⟩
  have thS : ∀ {σ : L2.St} {Kx : Hp} {te : TE} {l : T8}, Ev te σ Kx rS l → l.length ≤ 1000 → Ev te σ Kx (rE (rTh K) fun o => (o.getD []).length ≤ 1000) () := fun {σ Kx te l} h e H1 hi Q q => h H1 hi Q fun v K3 H3 x3 r => q v K3 H3 x3 ⟨some l, r, e⟩
  have r61 : ∀ c : Nat, (rp [c] 61).length = 61 := fun c => by rw [rp_len]; rfl
  refine q_set (i := 5) (ev_lst (K := K) (R := rE (rTh K) fun o => (o.getD []).length ≤ 1000) (ds := [(), (), (), (), (), (), (), (), (), (), (), ()]) (ea_cons (thS (Ev.is ev_s (show _ = ([] : T8) by rfl)) (by decide)) (ea_cons (thS (Ev.is ev_s (show _ = ([65] : T8) by rfl)) (by decide)) (ea_cons (thS (Ev.is ev_s (show _ = ([97, 32, 98] : T8) by rfl)) (by decide)) (ea_cons (thN eq_non rfl) (ea_cons (thN (eq_int ev_i) rfl) (ea_cons (thN (d := .tuple [.str (tx [97])]) (eq_tup (ev_tup (K := K) (R := rQ K) (ds := [.str (tx [97])]) (ea_cons (eq_str (Ev.is ev_s (show _ = ([97] : T8) by rfl))) ea_nil) (by show 1 ≤ 16000000; decide))) rfl) (ea_cons (thS (ev_op (Ev.is ev_s (show _ = ([97] : T8) by rfl)) (Ev.is ev_i (show _ = ((61 : Nat) : Int) by rfl)) (rv_mulS (by decide) (by decide) (by decide))) (by rw [r61]; decide)) (ea_cons (thS (ev_op (Ev.is ev_s (show _ = ([98] : T8) by rfl)) (Ev.is ev_i (show _ = ((61 : Nat) : Int) by rfl)) (rv_mulS (by decide) (by decide) (by decide))) (by rw [r61]; decide)) (ea_cons (thS (Ev.is ev_s (show _ = ([49] : T8) by rfl)) (by decide)) (ea_cons (thN eq_bl rfl) (ea_cons (thN (d := dpI 0 18) (ev_call (x := (0 : Int)) ⟨by decide, by decide⟩ (ea_cons ev_i ea_nil)) rfl) (ea_cons (fun H1 hi Q q => web s2 rfl H1 hi Q fun v K3 H3 x3 ⟨a, dx, fs, e, hh, _⟩ => q v K3 H3 x3 ⟨none, ⟨.ref (CW K), by
    rw [e]
    exact T.in_Web.ty hh, T.kt_Web_str⟩, by decide⟩) ea_nil)))))))))))) (by show 12 ≤ 16000000; decide)) x2.i fun v6 K3 H3 x3 r6 => ?_
  have x13 := (x1.trans x2).trans x3
  refine q_when (kE rfl) x3.i (fun hb K4 H4 x4 => ?_) (fun hb1 K4 H4 x4 => ?_)
  · have s := x13.s.trans x4.s
    refine s_ret (er_th (Pt := fun xs => okRw (some xs)) (ev_opE (R := rT K (rTh K)) (S := rT K (rTh K)) (T := rT K (rTh K)) (d := W.map some) (Pb := fun l => ∃ o : Option T8, (o.getD []).length ≤ 1000 ∧ l = [o]) ((wrds s rfl).conv fun r => rt_someT r) (ev_tup1E (ev_flat (ev_someL (R := rE (rTh K) fun o => (o.getD []).length ≤ 1000) (hand s rfl) (ev_v rfl ((rL K (rE (rTh K) fun o => (o.getD []).length ≤ 1000)).mono x4.s r6)) (by show 0 < 12; decide) (by show 12 ≤ 1000; decide)))) fun e ⟨o, po, eo⟩ => ⟨W.map some ++ e, ?_, rv_catT (by rw [eo, List.length_map, List.length_singleton]; omega)⟩) fun xs h => h) x4.i fun v K5 H5 x5 r => q v K5 H5 ((x13.trans x4).trans x5) r
    subst eo
    refine ⟨by rw [List.length_append, List.length_map, List.length_singleton]; omega, fun o' ho => ?_⟩
    rcases List.mem_append.mp ho with h | h
    · obtain ⟨x, hx, rfl⟩ := List.mem_map.mp h
      have := (wl x hx).2
      show x.length ≤ 1000
      omega
    · rw [List.mem_singleton] at h
      rw [h]
      exact po
  have x14 := x13.trans x4
  refine q_set (i := 6) ((ev_walkE (Pk := fun i => 1 ≤ i ∧ i ≤ 6) pp (hand x14.s rfl) (told x14.s rfl) (ev_opE (T := rI) (P2 := fun i : Int => 1 ≤ i ∧ i ≤ 6) ev_i (ev_draw (hand x14.s rfl) ev_i (by decide) (by decide)) fun e ⟨e0, e1⟩ => ⟨1 + e, by omega, rv_i0⟩) fun i hi => by omega).imp (P' := fun t => t.length ≤ 6) fun t ⟨k, hk, hw⟩ => by have := hw.1; omega) x4.i fun v7 K5 H5 x5 ⟨t, e7, tz⟩ => ?_
  cases e7
  have x15 := x14.trans x5
  have oks : ∀ {xs : List T8}, xs.length ≤ 500 → (∀ x ∈ xs, x.length ≤ 1000) → (srtT xs).length ≤ 1000 ∧ ∀ x ∈ srtT xs, x.length ≤ 1000 := fun {xs} h1 h2 => ⟨by rw [(srtT_perm _).length_eq]; omega, fun x hx => h2 x ((srtT_perm _).mem_iff.mp hx)⟩
  have w60 : ∀ x ∈ W, x.length ≤ 1000 := fun x hx => by have := (wl x hx).2; omega
  have lstW : ∀ {σ : L2.St} {Kx : Hp}, Same Hm Kx → σ[2]? = some (some v3) → Ev (tCB (fun vs H Q => ∃ p ys, vs = [.ref p] ∧ (SqL K H p ys ∨ SqT K H p ys) ∧ ∀ l, H l = none → Q (.ref l) (upd H l (.lst ys))) (tCons (tVar 2) tNil)) σ Kx (rM rS) W := fun s e => ev_cb (ea_cons (wrds s e) ea_nil) rc_listTM
  have lenW : ∀ {σ : L2.St} {Kx : Hp}, Same Hm Kx → σ[2]? = some (some v3) → Ev (tCB (rLen K) (tCons (tVar 2) tNil)) σ Kx rI (W.length : Int) := fun s e => ev_cb (ea_cons (wrds s e) ea_nil) rc_lenT
  refine q_when (b := decide (kd = 2) || decide ((W.length : Int) = 0)) (et_or (kE rfl) fun _ => et_test (ev_op (lenW x15.s rfl) ev_i rv_eqI)) x5.i (fun hb K6 H6 x6 => ?_) (fun hb2 K6 H6 x6 => ?_)
  · have s := x15.s.trans x6.s
    exact s_ret (er_txt (Pt := fun xs => xs.length ≤ 1000 ∧ ∀ x ∈ xs, x.length ≤ 1000) ((ev_cb (ea_cons (ev_cb (ea_cons (Ev.l (ev_op (lstW s rfl) (ev_lstM (R := rS) (ds := [t]) (ea_cons (ev_v (i := 6) (R := rS) (d := t) rfl rfl) ea_nil) (by show 1 ≤ 16000000; decide)) (rv_cat (by show W.length + 1 ≤ 16000000; omega)))) ea_nil) (rc_sortS (by rw [List.length_append]; show W.length + 1 ≤ 16000000; omega))) ea_nil) rc_tupOfL).some_ (oks (by rw [List.length_append]; show W.length + 1 ≤ 500; omega) fun x hx => by
      rcases List.mem_append.mp hx with h | h
      · exact w60 x h
      · rw [List.mem_singleton] at h
        rw [h]
        omega)) fun xs h => h) x6.i fun v K7 H7 x7 r => q v K7 H7 ((x15.trans x6).trans x7) r
  have x16 := x15.trans x6
  rw [Bool.or_eq_false_iff] at hb2
  have hW := of_decide_eq_false hb2.2
  refine q_set (i := 7) (ev_draw (hand x16.s rfl) (lenW x16.s rfl) (by omega) (by omega)) x6.i fun v8 K7 H7 x7 ⟨at_, e8, a0, a1⟩ => ?_
  cases e8
  have x17 := x16.trans x7
  obtain ⟨j, rfl⟩ : ∃ j : Nat, at_ = (j : Int) := ⟨at_.toNat, by omega⟩
  obtain ⟨u, hu⟩ : ∃ u, W[j]? = some u := ⟨_, List.getElem?_eq_getElem (by omega)⟩
  have um := List.mem_of_getElem? hu
  have ul := wl u um
  have atE : ∀ {σ : L2.St} {Kx : Hp}, σ[7]? = some (some (.int (j : Int))) → Ev (tVar 7) σ Kx rI (j : Int) := fun e => ev_v e rfl
  have wat : ∀ {σ : L2.St} {Kx : Hp}, Same Hm Kx → σ[2]? = some (some v3) → σ[7]? = some (some (.int (j : Int))) → Ev (tOp (rIxT K) (tVar 2) (tVar 7)) σ Kx rS u := fun s e e7 => ev_op (wrds s e) (atE e7) (rv_ixT rfl hu)
  refine q_when (kE rfl) x7.i (fun hb K8 H8 x8 => ?_) (fun hb3 K8 H8 x8 => ?_)
  · have s := x17.s.trans x8.s
    have l1 := cut_len W none (some (j : Int))
    have l2 := cut_len W (some (j : Int)) none
    exact s_ret (er_txt (Pt := fun xs => xs.length ≤ 1000 ∧ ∀ x ∈ xs, x.length ≤ 1000) ((ev_op (ev_op (ev_slT (wrds s rfl) eo_none (eo_some (atE rfl))) (ev_tup (K := K) (R := rS) (ds := [u]) (ea_cons (wat s rfl rfl) ea_nil) (by show 1 ≤ 16000000; decide)) (rv_catT (by show _ + 1 ≤ 16000000; omega))) (ev_slT (wrds s rfl) (eo_some (atE rfl)) eo_none) (rv_catT (by rw [List.length_append]; show _ + 1 + _ ≤ 16000000; omega))).some_ ⟨by rw [List.length_append, List.length_append]; show _ + 1 + _ ≤ 1000; omega, fun x hx => by
      rcases List.mem_append.mp hx with h | h
      · rcases List.mem_append.mp h with h | h
        · exact w60 x (mem_cutB h)
        · rw [List.mem_singleton] at h
          rw [h]
          omega
      · exact w60 x (mem_cutB h)⟩) fun xs h => h) x8.i fun v K9 H9 x9 r => q v K9 H9 ((x17.trans x8).trans x9) r
  have x18 := x17.trans x8
  refine q_when (kE rfl) x8.i (fun hb K9 H9 x9 => ?_) (fun hb4 K9 H9 x9 => ?_)
  · exact s_ret (er_txt (Pt := fun xs => xs.length ≤ 1000 ∧ ∀ x ∈ xs, x.length ≤ 1000) ((ev_revT (wrds (x18.s.trans x9.s) rfl)).some_ ⟨by rw [List.length_reverse]; omega, fun x hx => w60 x (List.mem_reverse.mp hx)⟩) fun xs h => h) x9.i fun v Ka Ha xa r => q v Ka Ha ((x18.trans x9).trans xa) r
  have x19 := x18.trans x9
  refine q_when (kE rfl) x9.i (fun hb Ka Ha xa => ?_) (fun hb5 Ka Ha xa => ?_)
  · have xa' := x19.trans xa
    refine q_set (i := 8) (ev_op2E (R := rS) (S := rI) (U := rS) (Pa := fun l : T8 => l.length = 1) (Pb := fun i : Int => 1 ≤ i ∧ i ≤ 4) (Pc := fun l : T8 => l.length ≤ 4) (fun H1 hi Q q => ev_someS (hand xa'.s rfl) (Ev.is ev_s (show _ = ([97, 98, 99, 122] : T8) by rfl)) (by decide) (by decide) H1 hi Q fun v K2 H2 x2 ⟨c, rc, _⟩ => q v K2 H2 x2 ⟨[c], rc, rfl⟩) (ev_opE (T := rI) (P2 := fun i : Int => 1 ≤ i ∧ i ≤ 4) ev_i (ev_draw (hand xa'.s rfl) ev_i (by decide) (by decide)) fun e ⟨e0, e1⟩ => ⟨1 + e, by omega, rv_i0⟩) fun l i hl hi => ?_) xa.i fun v9 Kb Hb xb ⟨z, e9, zl⟩ => ?_
    · obtain ⟨m, rfl⟩ : ∃ m : Nat, i = (m : Int) := ⟨i.toNat, by omega⟩
      exact ⟨rp l m, by rw [rp_len, hl]; omega, rv_mulS (by omega) (by omega) (by omega)⟩
    cases e9
    have xb' := xa'.trans xb
    exact s_ret (er_txt (Pt := fun xs => xs.length ≤ 1000 ∧ ∀ x ∈ xs, x.length ≤ 1000) ((ev_cb (ea_cons (ev_cb (ea_cons (Ev.l (ev_op (ev_lcO (R := rS) (S := rS) (fun x => !decide (x = u)) id (wk_tup (wrds xb'.s rfl)) (by omega) fun d hd v K5 s5 r5 => ⟨_, tk_name, rfl, et_test (ev_op (ev_v rfl r5) (wat (xb'.s.trans s5) rfl rfl) rv_neS), fun _ => ev_v rfl r5⟩) (ev_lstM (R := rS) (ds := [z]) (ea_cons (ev_v (i := 8) (R := rS) (d := z) rfl rfl) ea_nil) (by show 1 ≤ 16000000; decide)) (rv_cat (by rw [List.length_map]; exact Nat.le_trans (Nat.add_le_add_right (List.length_filter_le _ _) 1) (by omega))))) ea_nil) (rc_sortS (by rw [List.length_append, List.length_map]; exact Nat.le_trans (Nat.add_le_add_right (List.length_filter_le _ _) 1) (by omega)))) ea_nil) rc_tupOfL).some_ (oks (by rw [List.length_append, List.length_map]; exact Nat.le_trans (Nat.add_le_add_right (List.length_filter_le _ _) 1) (by omega)) fun x hx => by
      rcases List.mem_append.mp hx with h | h
      · obtain ⟨y, hy, rfl⟩ := List.mem_map.mp h
        exact w60 y (List.mem_filter.mp hy).1
      · rw [List.mem_singleton] at h
        rw [h]
        omega)) fun xs h => h) xb.i fun v Kc Hc xc r => q v Kc Hc ((xb'.trans xc)) r
  have xa' := x19.trans xa
  refine s_ret (er_txt (Pt := fun xs => xs.length ≤ 1000 ∧ ∀ x ∈ xs, x.length ≤ 1000) (ev_cbE (P1 := fun xs => xs.length ≤ 500 ∧ ∀ x ∈ xs, x.length ≤ 1000) (R := rL K rS) (T := rT K rS) (ev_cbE (P1 := fun xs => xs.length ≤ 500 ∧ ∀ x ∈ xs, x.length ≤ 1000) (R := rM rS) (T := rL K rS) (ev_opE (R := rM rS) (S := rM rS) (T := rM rS) (d := W) (Pb := fun l => ∃ x : T8, x.length ≤ 61 ∧ l = [x]) (lstW xa'.s rfl) (ev_lst1M (ev_opE2 (R := rS) (T := rS) (P := fun l : T8 => l.length ≤ 60) (ev_cutLo (P1 := fun _ => True) (P2 := fun l : T8 => l.length ≤ 60) (wat xa'.s rfl rfl) ((ev_draw (hand xa'.s rfl) (ev_cb (ea_cons (wat xa'.s rfl rfl) ea_nil) (rc_lenS (by omega))) (by omega) (by omega)).imp fun _ _ => trivial) (by omega) fun i _ => by have := cut_len u (some i) none; omega) (Ev.is ev_s (show _ = ([98] : T8) by rfl)) fun l hl => ⟨l ++ [98], by rw [List.length_append]; show l.length + 1 ≤ 61; omega, rv_addS (by show l.length + 1 ≤ 16000000; omega)⟩)) fun e ⟨x, hx, ex⟩ => ⟨W ++ e, ⟨by rw [List.length_append, ex]; show W.length + 1 ≤ 500; omega, fun y hy => ?_⟩, rv_cat (by rw [ex]; show W.length + 1 ≤ 16000000; omega)⟩) fun xs h => ⟨srtT xs, ⟨by rw [(srtT_perm _).length_eq]; exact h.1, fun x hx => h.2 x ((srtT_perm _).mem_iff.mp hx)⟩, ?_⟩) fun xs h => ⟨xs, ⟨by omega, h.2⟩, rc_tupOfL⟩) fun xs h => h) xa.i fun v Kb Hb xb r => q v Kb Hb (xa'.trans xb) r
  · rcases List.mem_append.mp hy with h | h
    · exact w60 y h
    · rw [ex, List.mem_singleton] at h
      rw [h]
      omega
  · exact fun Hm H1 hi vs r Q q => rc_sortS (K := K) (by have := h.1; omega) Hm H1 hi vs (let ⟨v, ws, e, r, k⟩ := r; ⟨v, ws, e, rm_l r, k⟩) Q q
end
end NJ

set_option Elab.async false
set_option linter.all false
set_option maxRecDepth 100000
set_option maxHeartbeats 8000000
/-! The law's own letters and stretches over webs of up to eight letters. -/
namespace NJ.W8
open PySem PySem.Spec PyProof.Rows L2
structure TW (n : Nat) (ar : List Arw) : Prop where
  n0 : 1 ≤ n
  n1 : n ≤ 12
  ok : ∀ t ∈ ar, okAr n t
  ring : Ring n ar
  l0 : 1 ≤ ar.length
  l1 : ar.length ≤ 50
  asc : ar.Pairwise fun a b => ltA a b = true
structure PartW (n : Nat) (ar : List Arw) : Prop where
  t : TW n ar
  n4 : n ≤ 12
  a : ar.length ≤ 20
  lt : LtP [97, 98, 99, 100, 101, 102, 103, 104] ar
theorem PartW.wf {n : Nat} {ar : List Arw} (h : PartW n ar) : GW.wf n ar := wf_ok h.t.n0 h.t.n1 h.t.ok h.t.ring h.t.l0 (by have := h.t.l1; omega) h.t.asc
theorem PartW.w {n : Nat} {ar : List Arw} (h : PartW n ar) : okW n ar := ⟨by have := h.t.n1; omega, by have := h.t.l1; omega, fun t ht => ⟨(h.t.ok t ht).1, (h.t.ok t ht).2.1⟩⟩
theorem PartW.low {n : Nat} {ar : List Arw} (h : PartW n ar) : ∀ u ∈ ar, lowA u := fun u hu => (h.t.ok u hu).low
theorem mem_sgB {n : Nat} {ar : List Arw} (h : PartW n ar) {c : Nat} : c ∈ sgB ar ↔ ∃ t ∈ ar, t.2.1 = [c] := by
  unfold sgB
  rw [List.mem_filter, List.any_map, List.any_eq_true]
  constructor
  · rintro ⟨_, t, ht, e⟩
    exact ⟨t, ht, of_decide_eq_true e⟩
  · rintro ⟨t, ht, e⟩
    refine ⟨?_, t, ht, decide_eq_true e⟩
    obtain ⟨d, hd, e2⟩ := h.lt t ht
    rw [e] at e2
    cases e2
    unfold abc
    simp at hd
    rcases hd with rfl | rfl | rfl | rfl | rfl | rfl | rfl | rfl <;> decide
theorem sgB_low {n : Nat} {ar : List Arw} (h : PartW n ar) {c : Nat} (hc : c ∈ sgB ar) : lower c = true := by
  obtain ⟨t, ht, e⟩ := (mem_sgB h).mp hc
  exact h.low t ht c (by rw [e]; exact List.mem_singleton.mpr rfl)
theorem sgB_len {n : Nat} {ar : List Arw} (h : PartW n ar) : (sgB ar).length ≤ 8 := BX.nodup_sub (F := [97, 98, 99, 100, 101, 102, 103, 104]) (asc_nd (sgB_asc ar)) fun c hc => by
  obtain ⟨t, ht, e⟩ := (mem_sgB h).mp hc
  obtain ⟨d, hd, e2⟩ := h.lt t ht
  rw [e] at e2
  cases e2
  exact hd
theorem lgF_len {n : Nat} {ar : List Arw} (h : PartW n ar) (xs : List T8) : (lgF n ar xs).length ≤ 8 * xs.length := BX.flat_len _ 8 fun t _ => by
  rw [List.length_map]
  exact Nat.le_trans (List.length_filter_le _ _) (sgB_len h)
theorem stB_len {n : Nat} {ar : List Arw} (h : PartW n ar) : ∀ k, (stB n ar k).length ≤ 8 ^ k
  | 0 => Nat.le_refl _
  | k + 1 => by
    have := lgF_len h (stB n ar k)
    have := stB_len h k
    show (lgF n ar (stB n ar k)).length ≤ _
    rw [Nat.pow_succ]
    omega
theorem end_letter {n : Nat} {ar : List Arw} (h : PartW n ar) {l : T8} {c : Nat} (hs : strB n ar (l ++ [c]) = true) : c ∈ sgB ar := by
  unfold strB at hs
  rw [endF_snoc, Bool.not_eq_true', List.isEmpty_eq_false_iff_exists_mem] at hs
  obtain ⟨y, hy⟩ := hs
  obtain ⟨x, _, m⟩ := mem_nxF.mp hy
  exact (mem_sgB h).mpr ⟨_, m, rfl⟩
theorem str_nil {n : Nat} {ar : List Arw} (h : PartW n ar) : strB n ar [] = true := by
  have := h.t.n0
  unfold strB
  rw [Bool.not_eq_true', List.isEmpty_eq_false_iff_exists_mem]
  exact ⟨0, mem_nums (by omega)⟩
theorem mem_stB {n : Nat} {ar : List Arw} (h : PartW n ar) : ∀ (k : Nat) (x : T8), x ∈ stB n ar k ↔ x.length = k ∧ strB n ar x = true
  | 0, x => by
    show x ∈ [[]] ↔ _
    rw [List.mem_singleton]
    constructor
    · rintro rfl
      exact ⟨rfl, str_nil h⟩
    · rintro ⟨h1, _⟩
      exact List.length_eq_zero_iff.mp h1
  | k + 1, x => by
    show x ∈ lgF n ar (stB n ar k) ↔ _
    rw [mem_lgF]
    constructor
    · rintro ⟨t, ht, c, _, h2, rfl⟩
      exact ⟨by rw [List.length_append, ((mem_stB h k t).mp ht).1] <;> rfl, h2⟩
    · rintro ⟨h1, h2⟩
      have hx : x ≠ [] := fun e => by
        rw [e] at h1
        cases h1
      have e := (List.dropLast_concat_getLast hx).symm
      rw [e] at h2
      exact ⟨x.dropLast, (mem_stB h k _).mpr ⟨by rw [List.length_dropLast]; omega, str_pre h2⟩, x.getLast hx, end_letter h h2, h2, e⟩
theorem stB_low {n : Nat} {ar : List Arw} (h : PartW n ar) : ∀ (k : Nat), ∀ x ∈ stB n ar k, ∀ c ∈ x, c ∈ sgB ar
  | 0, x, hx, c, hc => by
    have : x = [] := List.mem_singleton.mp hx
    subst this
    cases hc
  | k + 1, x, hx, c, hc => by
    obtain ⟨t, ht, d, hd, _, rfl⟩ := mem_lgF.mp hx
    rcases List.mem_append.mp hc with hc | hc
    · exact stB_low h k t ht c hc
    · rw [List.mem_singleton] at hc
      exact hc ▸ hd
theorem stB_asc {n : Nat} {ar : List Arw} (h : PartW n ar) : ∀ k, (stB n ar k).Pairwise fun a b => a < b
  | 0 => List.pairwise_singleton _ _
  | k + 1 => by
    show (lgF n ar (stB n ar k)).Pairwise _
    unfold lgF
    have ih := stB_asc h k
    have hl : ∀ t ∈ stB n ar k, t.length = k := fun t ht => ((mem_stB h k t).mp ht).1
    generalize stB n ar k = xs at ih hl
    induction xs with
    | nil => exact .nil
    | cons t xs ih2 =>
      cases ih with
      | cons h1 h2 =>
        rw [List.flatMap_cons]
        refine List.pairwise_append.mpr ⟨?_, ih2 h2 (fun t ht => hl t (List.mem_cons_of_mem _ ht)), fun a ha b hb => ?_⟩
        · rw [List.pairwise_map]
          exact ((sgB_asc ar).filter _).imp fun h => lt_snoc t h
        · obtain ⟨c, _, rfl⟩ := List.mem_map.mp ha
          obtain ⟨u, hu, hb⟩ := List.mem_flatMap.mp hb
          obtain ⟨d, _, rfl⟩ := List.mem_map.mp hb
          exact lt_app (h1 u hu) (by rw [hl t List.mem_cons_self, hl u (List.mem_cons_of_mem _ hu)]) _ _
section
variable {P : Program} {w : World} {K : PySem.W.Frag} {mg : Str → Option Value} {base : Heap}
def spLwEnds (K : PySem.W.Frag) : Sp := SpF (fun (x : (Nat × List Arw) × T8) => a1 (rTold K) ((x.1.1 : Int), x.1.2) (a1 rS x.2 a0)) (fun x => PartW x.1.1 x.1.2 ∧ lowT x.2 ∧ x.2.length ≤ 16000000) (fun _ => rL K rI) (fun x => enB x.1.1 x.1.2 x.2)
theorem ok_law_ends (T : Tx K mg) : Fk P w K mg base CX0 1 (He.ga K "_law_ends") ["_law_parts", "_law_text"] (spLwEnds K) := by
  refine k0_law_ends T (spf_len fun _ => a1_len (a1_len a0_len)) (fun cdv A outer s H vs Q E hr h => ?_)
  refine ⟨_, (pss_cons (ps_set (i := 2) c_law_ends.nd rfl (by first | exact Or.inl rfl | exact Or.inr rfl) (pe_listRg rfl (by rfl) T.n_list (prg_1 (by rfl) T.n_range (pe_ix ix_tup (pv 0) pe_int (fun _ _ => rfl)))))
  (pss_cons (ps_for PassesOwn.never rfl (pi_str (pv 1)) (pg_name (i := 3) c_law_ends.nd rfl (by first | exact Or.inl rfl | exact Or.inr rfl)) (pss_one (ps_set (i := 2) c_law_ends.nd rfl (by first | exact Or.inl rfl | exact Or.inr rfl) (pe_lc (tt := tTest (tCB (rAny K) (tCons (tLc (iList K (tVar 2)) (gName 5) tYes (tOp (rInT K) (tTup (tCons (tVar 5) (tCons (tVar 3) (tCons (tVar 4) tNil)))) (tOp (rIxT K) (tVar 0) (tC (.int 1)))) [5]) tNil))) (own := [("_law_goal", 4)]) rfl c_law_ends.nd (pi_range1 (by rfl) T.n_range (pa_cons (pe_ix ix_tup (pv 0) pe_int (fun _ _ => rfl)) pa_nil)) (blkOk_by (N := ["_law_parts", "_law_text", "_law_points", "_law_sign", "_law_goal", "_law_one"]) (sc := defScope s_law_ends) (by decide +kernel)) (fun _ _ _ _ _ => (pg_name (i := 4) c_law_ends.nd rfl (by first | exact Or.inl rfl | exact Or.inr rfl))) (fun _ _ _ _ _ => (pts_one (pt_val (pe_callB (cr_any rfl) (by rfl) T.n_any boot_any (pa_cons (pe_lc (own := [("_law_one", 5)]) rfl c_law_ends.nd (pi_list (pv 2)) (blkOk_by (N := ["_law_parts", "_law_text", "_law_points", "_law_sign", "_law_goal", "_law_one"]) (sc := (⟨.function, [(".0", .local), ("_law_goal", .cell), ("any", .globalImplicit), ("_law_parts", .cell), ("_law_points", .cell), ("_law_sign", .cell)], false, false, []⟩ : Scope)) (by decide +kernel)) (fun _ _ _ _ _ => (pg_name (i := 5) c_law_ends.nd rfl (by first | exact Or.inl rfl | exact Or.inr rfl))) (fun _ _ _ _ _ => pts_nil) (fun _ _ _ _ _ => (pe_cmpR (op_inT (hu65 hr)) (pe_tup (pa_cons (pv 5) (pa_cons (pv 3) (pa_cons (pv 4) pa_nil)))) (pe_ix ix_tup (pv 0) pe_int (fun _ _ => rfl)) (by rfl)))) pa_nil))))) (fun _ _ _ _ _ => (pv 4))))))
  (pss_one (ps_ret (pv 2))))), ?_⟩
  obtain ⟨⟨⟨n, ar⟩, l⟩, Hm, ⟨pp, low, hl⟩, ⟨v1, ws, rfl, r1, v2, ws2, rfl, r2, rfl⟩, hi, q⟩ := h
  cases r2
  dsimp only at pp low hl r1 q
  have n4 := pp.n4
  refine q_set (ev_listRgN (K := K) (ev_t0 (ev_v rfl r1)) (by omega)) hi fun u2 K1 H1 x1 r2 => ?_
  refine q_for (wk_str (ev_v (R := rS) (d := l) rfl rfl)) x1.i fun K2 H2 x2 => ?_
  refine ⟨fun i σ' H' => ∃ (o3 : Option V) (u : V) (K' : Hp), σ' = [some v1, some (V.str (tx l)), some u, o3, none, none] ∧ Xt K2 H2 K' H' ∧ (rL K rI).rel K' u (enB n ar (l.take i)), ⟨_, u2, K2, rfl, Xt.refl x2.i, (rL K rI).mono x2.s r2⟩, fun i σ' H' ⟨_, _, K', _, x, _⟩ => x.s.trans x.i, ?_, ?_⟩
  · rintro i c σ' H' v K4 H4 hc ⟨o3, u, K', rfl, x', ru⟩ x4 rv
    have x5 : Xt K' H' (uni K' K4) H4 := Xt.lift x'.s x'.i x4
    have x6 := x'.trans x5
    cases rv
    unfold gName
    dsimp only
    have s6 : Same Hm (uni K' K4) := (x1.s.trans x2.s).trans x6.s
    have ru5 := (rL K rI).mono x5.s ru
    have lc : lower c = true := low c (List.mem_of_getElem? hc)
    have el := enB_len (n := n) (ar := ar) (l.take i)
    refine s_set (i := 2) (Ev.is (ev_lc (K := K) (S := rI) (R := rI) (fun g => ((enB n ar (l.take i)).map fun o => decide ((o, [c], g) ∈ ar)).any id) id (wk_rng (ea_cons (ev_t0 (ev_v rfl ((rTold K).mono s6 r1))) ea_nil) (by omega) (by omega)) (by rw [nums_len]; omega) fun g hg v K7 s7 r7 => ?_) (by rw [List.map_id, Int.toNat_natCast] <;> rfl)) x5.i fun w K8 H8 x8 r8 => ?_
    · cases r7
      refine ⟨_, tk_name, rfl, et_test (ev_cb (ea_cons (ev_lc0 (K := K) (S := rB) (R := rI) (fun o => decide ((o, [c], g) ∈ ar)) (wk_list (ev_v rfl ((rL K rI).mono s7 ru5))) (by omega) fun o ho v K9 s9 r9 => ⟨_, tk_name, rfl, ev_op (R := rA K) (ev_arw (ev_v (R := rI) (d := o) rfl r9) (ev_v (R := rS) (d := [c]) rfl rfl) (ev_v (R := rI) (d := g) rfl rfl)) (ev_t1 (ev_v rfl ((rTold K).mono (s6.trans (s7.trans s9)) r1))) (rv_inAT (fun d hd => ?_) pp.low)⟩) ea_nil) rc_any), fun _ => ev_v rfl rfl⟩
      rw [List.mem_singleton] at hd
      rw [hd]
      exact lc
    · refine ⟨_, w, K8, rfl, x6.trans x8, ?_⟩
      have et : l.take (i + 1) = l.take i ++ [c] := by rw [List.take_add_one, hc] <;> rfl
      rw [et, enB_snoc]
      exact r8
  · rintro σ' H' ⟨o3, u, K', rfl, x', ru⟩
    rw [List.take_length] at ru
    exact s_ret (ev_v rfl ru) x'.i fun w K8 H8 x8 r8 => q w K8 H8 (((x1.trans x2).trans x').trans x8) r8
/-- len(_law_ends(parts, text)) > 0 -/
theorem ev_there {σ : L2.St} {Hm : Hp} {ta tb : TE} {n : Nat} {ar : List Arw} {l : T8} {E : XK} (pp : PartW n ar) (low : lowT l) (hl : l.length ≤ 16000000) (h1 : Ev ta σ Hm (rTold K) ((n : Int), ar)) (h2 : Ev tb σ Hm rS l) : Ev (tOp (rI0 fun i j => .bl (decide (j < i))) (tCB (rLen K) (tCons (tCall (spLwEnds K) [] E (tCons ta (tCons tb tNil))) tNil)) (tC (.int 0))) σ Hm rB (strB n ar l) :=
  Ev.is (ev_op (ev_cb (ea_cons (ev_call (x := ((n, ar), l)) ⟨pp, low, hl⟩ (ea_cons h1 (ea_cons h2 ea_nil))) ea_nil) rc_lenL) ev_i rv_b0) (enB_str pp.w l)
def spSigns (K : PySem.W.Frag) : Sp := SpF (fun (x : Nat × List Arw) => a1 (rTold K) ((x.1 : Int), x.2) a0) (fun x => PartW x.1 x.2) (fun _ => rL K rS) (fun x => sgl (sgB x.2))
theorem ok_signs (T : Tx K mg) : Fk P w K mg base CX0 1 (He.ga K "_law_signs") ["_law_parts"] (spSigns K) := by
  refine k0_law_signs T (spf_len fun _ => a1_len a0_len) (fun cdv A outer s H vs Q E hr h => ?_)
  refine ⟨_, (pss_one (ps_ret (pe_lc (tt := tTest (tCB (rAny K) (tCons (tLc (iTup K (tOp (rIxT K) (tVar 0) (tC (.int 1)))) (gName 2) tYes (tOp rEq (tOp (rIxT K) (tVar 2) (tC (.int 1))) (tVar 1)) [2]) tNil))) (own := [("_law_sign", 1)]) rfl c_law_signs.nd (pi_str pe_str) (blkOk_by (N := ["_law_parts", "_law_sign", "_law_arrow"]) (sc := defScope s_law_signs) (by decide +kernel)) (fun _ _ _ _ _ => (pg_name (i := 1) c_law_signs.nd rfl (by first | exact Or.inl rfl | exact Or.inr rfl))) (fun _ _ _ _ _ => (pts_one (pt_val (pe_callB (cr_any rfl) (by rfl) T.n_any boot_any (pa_cons (pe_lc (own := [("_law_arrow", 2)]) rfl c_law_signs.nd (pi_tup (pe_ix ix_tup (pv 0) pe_int (fun _ _ => rfl))) (blkOk_by (N := ["_law_parts", "_law_sign", "_law_arrow"]) (sc := (⟨.function, [(".0", .local), ("_law_sign", .cell), ("any", .globalImplicit), ("_law_parts", .cell)], false, false, []⟩ : Scope)) (by decide +kernel)) (fun _ _ _ _ _ => (pg_name (i := 2) c_law_signs.nd rfl (by first | exact Or.inl rfl | exact Or.inr rfl))) (fun _ _ _ _ _ => pts_nil) (fun _ _ _ _ _ => (pe_cmpR op_eq (pe_ix ix_tup (pv 2) pe_int (fun _ _ => rfl)) (pv 1) (nomark _)))) pa_nil))))) (fun _ _ _ _ _ => (pv 1))))), ?_⟩
  obtain ⟨⟨n, ar⟩, Hm, pp, ⟨v1, ws, rfl, r1, rfl⟩, hi, q⟩ := h
  dsimp only at pp r1 q
  have az := pp.a
  refine s_ret (ev_lc (K := K) (S := rS) (R := rC) (fun c : Nat => (ar.map fun t : Arw => decide (t.2.1 = [c])).any id) (fun c : Nat => [c]) (wk_str (xs := abc) (ev_s)) (by decide) fun c hc v K3 s3 r3 => ?_) hi q
  cases r3
  exact ⟨_, tk_name, rfl, et_test (ev_cb (ea_cons (ev_lc0 (K := K) (S := rB) (R := rA K) (fun t : Arw => decide (t.2.1 = [c])) (wk_tup (ev_t1 (ev_v rfl ((rTold K).mono s3 r1)))) (by omega) fun t ht v K5 s5 r5 => ⟨_, tk_name, rfl, ev_op (ev_op (ev_v (R := rA K) (d := t) rfl r5) ev_i rv_A1) (ev_v (R := rS) (d := [c]) rfl rfl) rv_eqS⟩) ea_nil) rc_any), fun _ => ev_v rfl rfl⟩
theorem ev_signs {σ : L2.St} {Hm : Hp} {ta : TE} {n : Nat} {ar : List Arw} {E : XK} (pp : PartW n ar) (h1 : Ev ta σ Hm (rTold K) ((n : Int), ar)) : Ev (tCall (spSigns K) [] E (tCons ta tNil)) σ Hm (rL K rS) (sgl (sgB ar)) :=
  ev_call (x := (n, ar)) pp (ea_cons h1 ea_nil)
def spLonger (K : PySem.W.Frag) : Sp := SpF (fun (x : (Nat × List Arw) × List T8) => a1 (rTold K) ((x.1.1 : Int), x.1.2) (a1 (rL K rS) x.2 a0)) (fun x => PartW x.1.1 x.1.2 ∧ okTs x.1.2 x.2) (fun _ => rM rS) (fun x => lgF x.1.1 x.1.2 x.2)
theorem ok_longer (T : Tx K mg) : Fk P w K mg base CX0 2 (He.ga K "_law_longer") ["_law_parts", "_law_texts"] (spLonger K) := by
  refine k0_law_longer T (spf_len fun _ => a1_len (a1_len a0_len)) (fun cdv A outer s H vs Q E hr h => ?_)
  refine ⟨_, (pss_cons (ps_set (i := 2) c_law_longer.nd rfl (by first | exact Or.inl rfl | exact Or.inr rfl) (pe_lst pa_nil))
  (pss_cons (ps_for PassesOwn.never rfl (pi_list (pv 1)) (pg_name (i := 3) c_law_longer.nd rfl (by first | exact Or.inl rfl | exact Or.inr rfl)) (pss_one (ps_expr (pe_bm PySem.F.plainAttrs_list PySem.F.slot_list_extend PySem.F.type_list_extend mt_extend (pv 2) (pa_cons (pe_lc (own := [("_law_sign", 4)]) rfl c_law_longer.nd (pi_list (pe_fk (ok_signs T) (hr.mono (by decide)) T.g_law_signs pass0 (pa_cons (pv 0) pa_nil))) (blkOk_by (N := ["_law_parts", "_law_texts", "_law_found", "_law_text", "_law_sign"]) (sc := defScope s_law_longer) (by decide +kernel)) (fun _ _ _ _ _ => (pg_name (i := 4) c_law_longer.nd rfl (by first | exact Or.inl rfl | exact Or.inr rfl))) (fun _ _ _ _ _ => (pts_one (pt_cmpR op_gt (pe_callB (r := rLen K) call_len (by rfl) T.n_len boot_len (pa_cons (pe_fk (ok_law_ends T) (hr.mono (by decide)) T.g_law_ends pass0 (pa_cons (pv 0) (pa_cons (pe_op op_add_str (pv 3) (pv 4)) pa_nil))) pa_nil)) pe_int (nomark _)))) (fun _ _ _ _ _ => (pe_op op_add_str (pv 3) (pv 4)))) pa_nil)))))
  (pss_one (ps_ret (pv 2))))), ?_⟩
  obtain ⟨⟨⟨n, ar⟩, xs⟩, Hm, ⟨pp, xz, xo⟩, ⟨v1, ws, rfl, r1, v2, ws2, rfl, r2, rfl⟩, hi, q⟩ := h
  dsimp only at pp xz xo r1 r2 q
  refine q_new fun f nf => ?_
  have c0 := Ci.new (S := rS) hi nf
  refine q_forC (Y := fun i => lgF n ar (xs.take i)) (fun σ' => ∃ o3, σ' = [some v1, some v2, some (.ref f), o3, none]) (wk_list (ev_v rfl r2)) c0 ⟨none, rfl⟩ ?step ?done
  case step =>
    rintro i t σ' Ki us H' u ht ⟨o3, rfl⟩ c sa ru N hN
    have tm := List.mem_of_getElem? ht
    obtain ⟨tl, tc⟩ := xo t tm
    have y := lgF_len pp (xs.take i)
    have yt : (xs.take i).length ≤ xs.length := by rw [List.length_take]; exact Nat.min_le_right _ _
    cases ru
    unfold gName
    dsimp only
    have sl := sgB_len pp
    have e : lgF n ar (xs.take (i + 1)) = lgF n ar (xs.take i) ++ ((sgl (sgB ar)).filter fun s => strB n ar (t ++ s)).map fun s => t ++ s := by
      rw [List.take_add_one, ht]
      exact lgF_snoc n ar _ t
    refine s_extC (i := 2) rfl c nf (ev_lcO (R := rS) (S := rS) (fun s => strB n ar (t ++ s)) (fun s => t ++ s) (wk_list (ev_signs pp (ev_v rfl ((rTold K).mono sa r1)))) (by unfold sgl; rw [List.length_map]; omega) fun s hs v K5 s5 r5 => ?_) ?_ fun K6 us6 H6 c6 s6 => hN _ K6 us6 H6 ⟨_, rfl⟩ (by rw [e]; exact c6) s6
    · obtain ⟨d, hd, rfl⟩ := List.mem_map.mp hs
      have cat : ∀ {σ' : L2.St} {K' : Hp}, σ'[3]? = some (some (.str (tx t))) → σ'[4]? = some (some v) → Ev (tOp rAddS (tVar 3) (tVar 4)) σ' K' rS (t ++ [d]) := fun e3 e4 => ev_op (ev_v (R := rS) (d := t) e3 rfl) (ev_v (R := rS) (d := [d]) e4 r5) (rv_addS (by simp; omega))
      exact ⟨_, tk_name, rfl, et_test (ev_there pp (low_app (fun c hc => sgB_low pp (tc c hc)) (fun c hc => by rw [List.mem_singleton] at hc; rw [hc]; exact sgB_low pp hd)) (by simp; omega) (ev_v rfl ((rTold K).mono (sa.trans s5) r1)) (cat rfl rfl)), fun _ => cat rfl rfl⟩
    · rw [List.length_map]
      have h1 : ((sgl (sgB ar)).filter fun s => strB n ar (t ++ s)).length ≤ 8 := Nat.le_trans (List.length_filter_le _ _) (by unfold sgl; rw [List.length_map]; exact sl)
      exact Nat.le_trans (Nat.add_le_add y h1) (by omega)
  case done =>
    rintro σ' Ki us H' ⟨o3, rfl⟩ c sa
    rw [List.take_length] at c
    obtain ⟨xd, rd⟩ := c.done nf
    exact s_ret (ev_v rfl rd) xd.i fun v K5 H5 x5 r5 => q v K5 H5 (xd.trans x5) r5
theorem okTs_st {n : Nat} {ar : List Arw} (pp : PartW n ar) {k : Nat} (hk : k ≤ 5) : okTs ar (stB n ar k) := by
  refine ⟨?_, fun x hx => ⟨by rw [((mem_stB pp k x).mp hx).1]; omega, stB_low pp k x hx⟩⟩
  have h1 := stB_len pp k
  have h2 : 8 ^ k ≤ 8 ^ 5 := Nat.pow_le_pow_right (by decide) hk
  have h3 : 8 ^ 5 = 32768 := by decide
  omega
def spStrs (K : PySem.W.Frag) : Sp := SpF (fun (x : (Nat × List Arw) × Nat) => a1 (rTold K) ((x.1.1 : Int), x.1.2) (a1 rI (x.2 : Int) a0)) (fun x => PartW x.1.1 x.1.2 ∧ x.2 ≤ 5) (fun _ => rM rS) (fun x => stB x.1.1 x.1.2 x.2)
theorem ok_strs (T : Tx K mg) : Fk P w K mg base CX0 3 (He.ga K "_law_stretches") ["_law_parts", "_law_length"] (spStrs K) := by
  refine k0_law_stretches T (spf_len fun _ => a1_len (a1_len a0_len)) (fun cdv A outer s H vs Q E hr h => ?_)
  refine ⟨_, (pss_cons (ps_set (i := 2) c_law_stretches.nd rfl (by first | exact Or.inl rfl | exact Or.inr rfl) (pe_lst (pa_cons pe_str pa_nil)))
  (pss_cons (ps_for PassesOwn.never rfl (pi_range1 (by rfl) T.n_range (pa_cons (pv 1) pa_nil)) (pg_name (i := 3) c_law_stretches.nd rfl (by first | exact Or.inl rfl | exact Or.inr rfl)) (pss_one (ps_set (i := 2) c_law_stretches.nd rfl (by first | exact Or.inl rfl | exact Or.inr rfl) (pe_fk (ok_longer T) (hr.mono (by decide)) T.g_law_longer pass0 (pa_cons (pv 0) (pa_cons (pv 2) pa_nil))))))
  (pss_one (ps_ret (pv 2))))), ?_⟩
  obtain ⟨⟨⟨n, ar⟩, k⟩, Hm, ⟨pp, hk⟩, ⟨v1, ws, rfl, r1, v2, ws2, rfl, r2, rfl⟩, hi, q⟩ := h
  cases r2
  dsimp only at pp hk r1 q
  refine q_set (ev_lstM (R := rS) (ds := [[]]) (ea_cons (Ev.is ev_s (by rfl)) ea_nil) (by decide)) hi fun u2 K1 H1 x1 r2 => ?_
  refine q_for (wk_rng (n := (k : Int)) (Hm := K1) (ea_cons (ev_v (R := rI) (d := (k : Int)) rfl rfl) ea_nil) (by omega) (by omega)) x1.i fun K2 H2 x2 => ?_
  have hn : (nums (k : Int).toNat).length = k := by rw [nums_len]; omega
  refine ⟨fun i σ' H' => ∃ (o3 : Option V) (u : V) (K' : Hp), σ' = [some v1, some (V.int (k : Int)), some u, o3] ∧ Xt K2 H2 K' H' ∧ (rM rS).rel K' u (stB n ar i), ⟨_, u2, K2, rfl, Xt.refl x2.i, (rM rS).mono x2.s r2⟩, fun i σ' H' ⟨_, _, K', _, x, _⟩ => x.s.trans x.i, ?_, ?_⟩
  · rintro i d σ' H' v K4 H4 hd ⟨o3, u, K', rfl, x', ru⟩ x4 rv
    have il : i < k := by
      rw [← hn]
      exact (List.getElem?_eq_some_iff.mp hd).1
    have x5 : Xt K' H' (uni K' K4) H4 := Xt.lift x'.s x'.i x4
    have x6 := x'.trans x5
    unfold gName
    dsimp only
    refine s_set (i := 2) (ev_call (x := ((n, ar), stB n ar i)) ⟨pp, okTs_st pp (by omega)⟩ (ea_cons (ev_v rfl ((rTold K).mono ((x1.s.trans x2.s).trans x6.s) r1)) (ea_cons (ev_v rfl (rm_l ((rM rS).mono x5.s ru))) ea_nil))) x5.i fun w K8 H8 x8 r8 => ?_
    exact ⟨_, w, K8, rfl, x6.trans x8, r8⟩
  · rintro σ' H' ⟨o3, u, K', rfl, x', ru⟩
    rw [hn] at ru
    exact s_ret (ev_v rfl ru) x'.i fun w K8 H8 x8 r8 => q w K8 H8 (((x1.trans x2).trans x').trans x8) r8
theorem ev_strs {σ : L2.St} {Hm : Hp} {ta tb : TE} {n k : Nat} {ar : List Arw} {E : XK} (pp : PartW n ar) (hk : k ≤ 5) (h1 : Ev ta σ Hm (rTold K) ((n : Int), ar)) (h2 : Ev tb σ Hm rI (k : Int)) : Ev (tCall (spStrs K) [] E (tCons ta (tCons tb tNil))) σ Hm (rM rS) (stB n ar k) :=
  ev_call (x := ((n, ar), k)) ⟨pp, hk⟩ (ea_cons h1 (ea_cons h2 ea_nil))
end
end NJ.W8

set_option Elab.async false
set_option linter.all false
set_option maxRecDepth 100000
set_option maxHeartbeats 8000000
/-! The program: comings, readings, reading_at, words_of. -/
namespace NJ
open PySem PySem.Spec PyProof.Rows L2
/-! ### comings -/
/-- text of a book -/
structure TxP (n : Nat) (ar : List Arw) (W : List T8) (t : T8) : Prop where
  w : okW n ar
  ws : WsP n ar W
  s : strO n ar (some t) = true
  z : t.length ≤ 8000
section
variable {P : Program} {w : World} {K : PySem.W.Frag} {mg : Str → Option Value} {base : Heap}
end
end NJ

set_option Elab.async false
set_option linter.all false
set_option maxRecDepth 100000
set_option maxHeartbeats 8000000
/-! The program: cuts_from, readings, reading_at, words_of. -/
namespace NJ
open PySem PySem.Spec PyProof.Rows L2
section
variable {P : Program} {w : World} {K : PySem.W.Frag} {mg : Str → Option Value} {base : Heap}
end
end NJ

set_option Elab.async false
set_option linter.all false
set_option maxRecDepth 100000
set_option maxHeartbeats 4000000
/-! _law_is: what is told and what is due, where they are the same. -/
namespace NJ
open PySem PySem.Spec PyProof.Rows L2
section
variable {P : Program} {w : World} {K : PySem.W.Frag} {mg : Str → Option Value} {base : Heap}
section
variable {σ : L2.St} {Hm : Hp} {α β : Type} {R : Rp α} {S : Rp β} {te : TE}
theorem rv_eqD {d e : α} {x y : PyData} (h1 : ∀ {H v}, R.rel H v d → Dp K H v x) (h2 : ∀ {H v}, R.rel H v e → Dp K H v y) (s1 : PySem.SeqAt.shaped x = true) (s2 : PySem.SeqAt.shaped y = true) : Rv (rEqD K) R d R e rB (PyData.eqv x y) := rv_now fun Hm H1 hi a b ra rb => ⟨.bl _, rfl, fun Q q => ⟨x, y, h1 (R.mono hi ra), h2 (R.mono hi rb), s1, s2, q⟩⟩
theorem rv_eqB {a b : Bool} : Rv rEq rB a rB b rB (decide (a = b)) := rv_now fun Hm H1 _ x y rx ry => ⟨.bl (decide (a = b)), rfl, fun Q q => by
  rw [show x = V.bl a from rx, show y = V.bl b from ry]
  exact ⟨rfl, by rw [show decide (V.bl a = V.bl b) = decide (a = b) from by simp]; exact q⟩⟩
end
theorem typ_t {α : Type} {R : Rp α} {Hm : Hp} {v : V} {xs : List α} (r : (rT K R).rel Hm v xs) : (rTy K).rel Hm v (.type "tuple") := by
  obtain ⟨a, vs, e, hS, _⟩ := r
  rw [e]
  exact tyx_tup hS
theorem kit_tupT : PySem.W.kitAny K (.type "tuple") [.type "tuple", .type "list"] = some true := kitAny_cons (b := true) (kit_ty (by decide +kernel)) (fun h => by cases h) (fun _ => rfl)
theorem kit_tup1 : PySem.W.kitOne K (.type "tuple") (.type "tuple") = some true := kit_ty (by decide +kernel)
theorem kit_no {n : String} (h1 : L2.kitB n "tuple" = some false) (h2 : L2.kitB n "list" = some false) : PySem.W.kitAny K (.type n) [.type "tuple", .type "list"] = some false := kitAny_cons (b := false) (kit_ty h1) (fun _ => kitAny_cons (b := false) (kit_ty h2) (fun _ => rfl) (fun h => by cases h)) (fun h => by cases h)
/-- things that hold no others -/
structure Sc (K : PySem.W.Frag) {α : Type} (R : Rp α) (ok : α → Prop) where
  x : α → PyData
  t : α → Value
  b : α → Bool
  dp : ∀ {H : Hp} {v : V} {d : α}, R.rel H v d → Dp K H v (x d)
  ty : ∀ {H : Hp} {v : V} {d : α}, R.rel H v d → (rTy K).rel H v (t d)
  ka : ∀ d, PySem.W.kitAny K (t d) [.type "tuple", .type "list"] = some false
  kb : ∀ d, PySem.W.kitOne K (t d) (.type "bool") = some (b d)
  sh : ∀ d, ok d → PySem.SeqAt.shaped (x d) = true
  ev : ∀ d, PyData.eqv (x d) (x d) = true
def scS : Sc K rS lowT where
  x l := .str (tx l)
  t _ := .type "str"
  b _ := false
  dp := fun {H v d} h => by
    rw [show v = V.str (tx d) from h]
    exact .str _
  ty := fun {H v d} h => by
    rw [show v = V.str (tx d) from h]
    exact .base (.str _)
  ka _ := kit_no (by decide +kernel) (by decide +kernel)
  kb _ := kit_ty (by decide +kernel)
  sh d h := by
    unfold SeqAt.shaped
    rw [Bool.and_eq_true]
    exact ⟨strOk_low h, rfl⟩
  ev d := (eqv_str d d).trans (decide_eq_true rfl)
def scN : Sc K rN (fun _ => True) where
  x _ := .none
  t _ := .type "NoneType"
  b _ := false
  dp := fun {H v d} h => by
    rw [show v = V.non from h]
    exact .non
  ty := fun {H v d} h => by
    rw [show v = V.non from h]
    exact .base .non
  ka _ := kit_no (by decide +kernel) (by decide +kernel)
  kb _ := kit_ty (by decide +kernel)
  sh d _ := rfl
  ev d := rfl
def spE {α : Type} (R : Rp α) (ok : α → Prop) : Sp := SpF (fun d => a1 R d (a1 R d a0)) ok (fun _ => rB) (fun _ => true)
theorem ok_isS {α : Type} {R : Rp α} {okd : α → Prop} (T : Tx K mg) (s : Sc K R okd) : Fk P w K mg base CX0 1 (He.ga K "_law_is") ["_law_told_here", "_law_due_here"] (spE R okd) := by
  refine k0_law_is T (spf_len fun _ => a1_len (a1_len a0_len)) (fun cdv A outer s0 H vs Q E hr h => ?_)
  refine ⟨_, (pss_cons (ps_if (pt_val (pe_callB call_isiT (by rfl) T.n_isinstance boot_isinstance (pa_cons (pv 1) (pa_cons (pe_tup (pa_cons (pe_bltn (v := .ty "tuple") (by rfl) T.n_tuple boot_tuple rfl) (pa_cons (pe_bltn (v := .ty "list") (by rfl) T.n_list boot_list rfl) pa_nil))) pa_nil)))) pss_dead pss_nil)
  (pss_one (ps_ret (pe_and (pe_cmpR op_eq (pe_callB call_isi (by rfl) T.n_isinstance boot_isinstance (pa_cons (pv 0) (pa_cons (pe_bltn (v := .ty "bool") (by rfl) T.n_bool boot_bool rfl) pa_nil))) (pe_callB call_isi (by rfl) T.n_isinstance boot_isinstance (pa_cons (pv 1) (pa_cons (pe_bltn (v := .ty "bool") (by rfl) T.n_bool boot_bool rfl) pa_nil))) (nomark _)) (pe_one (pe_cmpR (op_eqD hr.units) (pv 0) (pv 1) (nomark _))))))), ?_⟩
  obtain ⟨d, Hm, ok, ⟨v1, ws, rfl, r1, v2, ws2, rfl, r2, rfl⟩, hi, q⟩ := h
  refine q_when (et_test (ev_cb (ea_cons (ev_v rfl (s.ty r2)) (ea_cons (ev_tupX (ds := ["tuple", "list"].map V.ty) (ea_cons ev_ty (ea_cons ev_ty ea_nil)) (by decide)) ea_nil)) (rc_isiT (ns := ["tuple", "list"]) (s.ka _)))) hi (fun hb => by cases hb) (fun _ K1 H1 x1 => ?_)
  have r1a := R.mono x1.s r1
  have r2a := R.mono x1.s r2
  exact s_ret (Ev.is (ev_and (ev_op (ev_isi (ev_v rfl (s.ty r1a)) (s.kb _)) (ev_isi (ev_v rfl (s.ty r2a)) (s.kb _)) rv_eqB) fun _ => ev_op (ev_v (R := R) rfl r1a) (ev_v (R := R) rfl r2a) (rv_eqD s.dp s.dp (s.sh _ ok) (s.sh _ ok))) (by rw [s.ev, decide_eq_true rfl]; rfl)) x1.i fun v K2 H2 x2 r => q v K2 H2 (x1.trans x2) r
theorem zip_same {α : Type} : ∀ {xs : List α} {d : α × α}, d ∈ xs.zip xs → d.1 ∈ xs ∧ d.1 = d.2
  | [], d, h => by cases h
  | x :: xs, d, h => by
    rw [List.zip_cons_cons] at h
    rcases List.mem_cons.mp h with h | h
    · subst h
      exact ⟨List.mem_cons_self, rfl⟩
    · obtain ⟨a, b⟩ := zip_same h
      exact ⟨List.mem_cons_of_mem _ a, b⟩
def allOk {α : Type} (ok : α → Prop) (ds : List α) : Prop := ds.length ≤ 16000000 ∧ ∀ d ∈ ds, ok d
/-- tuples, or None -/
theorem ok_isO {α : Type} {R : Rp α} {okd : α → Prop} {k : Nat} (T : Tx K mg) (F0 : Fk P w K mg base CX0 k (He.ga K "_law_is") ["_law_told_here", "_law_due_here"] (spE R okd)) : Fk P w K mg base CX0 (k + 1) (He.ga K "_law_is") ["_law_told_here", "_law_due_here"] (spE (rO (rT K R)) fun o => ∀ ds, o = some ds → allOk okd ds) := by
  refine k0_law_is T (spf_len fun _ => a1_len (a1_len a0_len)) (fun cdv A outer s0 H vs Q E hr h => ?_)
  obtain ⟨o, Hm, okO, ⟨v1, ws, rfl, r1, v2, ws2, rfl, r2, rfl⟩, hi, q⟩ := h
  cases o with
  | none =>
    refine ⟨_, (pss_cons (ps_if (pt_val (pe_callB call_isiT (by rfl) T.n_isinstance boot_isinstance (pa_cons (pv 1) (pa_cons (pe_tup (pa_cons (pe_bltn (v := .ty "tuple") (by rfl) T.n_tuple boot_tuple rfl) (pa_cons (pe_bltn (v := .ty "list") (by rfl) T.n_list boot_list rfl) pa_nil))) pa_nil)))) pss_dead pss_nil)
  (pss_one (ps_ret (pe_and (pe_cmpR op_eq (pe_callB call_isi (by rfl) T.n_isinstance boot_isinstance (pa_cons (pv 0) (pa_cons (pe_bltn (v := .ty "bool") (by rfl) T.n_bool boot_bool rfl) pa_nil))) (pe_callB call_isi (by rfl) T.n_isinstance boot_isinstance (pa_cons (pv 1) (pa_cons (pe_bltn (v := .ty "bool") (by rfl) T.n_bool boot_bool rfl) pa_nil))) (nomark _)) (pe_one (pe_cmpR (op_eqD hr.units) (pv 0) (pv 1) (nomark _))))))), ?_⟩
    have r1 : rN.rel Hm v1 () := r1
    have r2 : rN.rel Hm v2 () := r2
    have ok := True.intro
    refine q_when (et_test (ev_cb (ea_cons (ev_v rfl ((scN (K := K)).ty r2)) (ea_cons (ev_tupX (ds := ["tuple", "list"].map V.ty) (ea_cons ev_ty (ea_cons ev_ty ea_nil)) (by decide)) ea_nil)) (rc_isiT (ns := ["tuple", "list"]) ((scN (K := K)).ka _)))) hi (fun hb => by cases hb) (fun _ K1 H1 x1 => ?_)
    have r1a := rN.mono x1.s r1
    have r2a := rN.mono x1.s r2
    exact s_ret (Ev.is (ev_and (ev_op (ev_isi (ev_v rfl ((scN (K := K)).ty r1a)) ((scN (K := K)).kb _)) (ev_isi (ev_v rfl ((scN (K := K)).ty r2a)) ((scN (K := K)).kb _)) rv_eqB) fun _ => ev_op (ev_v (R := rN) rfl r1a) (ev_v (R := rN) rfl r2a) (rv_eqD (scN (K := K)).dp (scN (K := K)).dp ((scN (K := K)).sh _ ok) ((scN (K := K)).sh _ ok))) (by rw [(scN (K := K)).ev, decide_eq_true rfl]; rfl)) x1.i fun v K2 H2 x2 r => q v K2 H2 (x1.trans x2) r
  | some ds =>
    refine ⟨_, (pss_cons (ps_if (pt_val (pe_callB call_isiT (by rfl) T.n_isinstance boot_isinstance (pa_cons (pv 1) (pa_cons (pe_tup (pa_cons (pe_bltn (v := .ty "tuple") (by rfl) T.n_tuple boot_tuple rfl) (pa_cons (pe_bltn (v := .ty "list") (by rfl) T.n_list boot_list rfl) pa_nil))) pa_nil)))) (pss_cons (ps_if (PW.pt (pw_or (pt_cmpR op_ne (pe_callB call_isi (by rfl) T.n_isinstance boot_isinstance (pa_cons (pv 0) (pa_cons (pe_bltn (v := .ty "tuple") (by rfl) T.n_tuple boot_tuple rfl) pa_nil))) (pe_callB call_isi (by rfl) T.n_isinstance boot_isinstance (pa_cons (pv 1) (pa_cons (pe_bltn (v := .ty "tuple") (by rfl) T.n_tuple boot_tuple rfl) pa_nil))) (nomark _)) (pw_or1 (pt_not (pt_val (pe_callB call_isiT (by rfl) T.n_isinstance boot_isinstance (pa_cons (pv 0) (pa_cons (pe_tup (pa_cons (pe_bltn (v := .ty "tuple") (by rfl) T.n_tuple boot_tuple rfl) (pa_cons (pe_bltn (v := .ty "list") (by rfl) T.n_list boot_list rfl) pa_nil))) pa_nil)))))))) (pss_one (ps_ret pe_bl)) pss_nil)
  (pss_one (ps_ret (pe_and (pe_cmpR op_eq (pe_callB call_len (by rfl) T.n_len boot_len (pa_cons (pv 0) pa_nil)) (pe_callB call_len (by rfl) T.n_len boot_len (pa_cons (pv 1) pa_nil)) (nomark _)) (pe_one (pe_callB (cr_all rfl) (by rfl) T.n_all boot_all (pa_cons (pe_lc (g := gTup K 2 (gCons (gName 2) (gCons (gName 3) gNil))) (own := [("_law_one", 2), ("_law_two", 3)]) rfl c_law_is.nd (RZ.pi_zipA (by rfl) T.n_zip (pa_cons (pv 0) (pa_cons (pv 1) pa_nil))) (blkOk_by (N := ["_law_told_here", "_law_due_here", "_law_one", "_law_two"]) (sc := defScope s_law_is) (by decide +kernel)) (fun _ _ _ _ _ => (pg_tup rfl (pgs_cons (pg_name (i := 2) c_law_is.nd rfl (by first | exact Or.inl rfl | exact Or.inr rfl)) (pgs_cons (pg_name (i := 3) c_law_is.nd rfl (by first | exact Or.inl rfl | exact Or.inr rfl)) pgs_nil)))) (fun _ _ _ _ _ => pts_nil) (fun _ _ _ _ _ => (pe_fk F0 (hr.mono (Nat.le_refl _)) T.g_law_is pass0 (pa_cons (pv 2) (pa_cons (pv 3) pa_nil))))) pa_nil))))))) pss_nil)
  (pss_one (ps_ret (pe_and (pe_cmpR op_eq (pe_callB call_isi (by rfl) T.n_isinstance boot_isinstance (pa_cons (pv 0) (pa_cons (pe_bltn (v := .ty "bool") (by rfl) T.n_bool boot_bool rfl) pa_nil))) (pe_callB call_isi (by rfl) T.n_isinstance boot_isinstance (pa_cons (pv 1) (pa_cons (pe_bltn (v := .ty "bool") (by rfl) T.n_bool boot_bool rfl) pa_nil))) (nomark _)) (pe_one (pe_cmpR (op_eqD hr.units) (pv 0) (pv 1) (nomark _))))))), ?_⟩
    have t1 : (rT K R).rel Hm v1 ds := r1
    have t2 : (rT K R).rel Hm v2 ds := r2
    obtain ⟨dz, ok⟩ := okO ds rfl
    refine q_when (et_test (ev_cb (ea_cons (ev_v rfl (typ_t t2)) (ea_cons (ev_tupX (ds := ["tuple", "list"].map V.ty) (ea_cons ev_ty (ea_cons ev_ty ea_nil)) (by decide)) ea_nil)) (rc_isiT (ns := ["tuple", "list"]) kit_tupT))) hi (fun _ K1 H1 x1 => ?_) (fun hb => by cases hb)
    have t1a := (rT K R).mono x1.s t1
    have t2a := (rT K R).mono x1.s t2
    refine q_when (et_or (et_test (ev_op (ev_isi (ev_v rfl (typ_t t1a)) kit_tup1) (ev_isi (ev_v rfl (typ_t t2a)) kit_tup1) rv_neB)) fun _ => et_not (et_test (ev_cb (ea_cons (ev_v rfl (typ_t t1a)) (ea_cons (ev_tupX (ds := ["tuple", "list"].map V.ty) (ea_cons ev_ty (ea_cons ev_ty ea_nil)) (by decide)) ea_nil)) (rc_isiT (ns := ["tuple", "list"]) kit_tupT)))) x1.i (fun hb => by cases hb) (fun _ K2 H2 x2 => ?_)
    have t1b := (rT K R).mono x2.s t1a
    have t2b := (rT K R).mono x2.s t2a
    exact s_ret (Ev.is (ev_and (ev_op (ev_cb (ea_cons (ev_v rfl t1b) ea_nil) rc_lenT) (ev_cb (ea_cons (ev_v rfl t2b) ea_nil) rc_lenT) rv_eqI) fun _ => ev_cb (ea_cons (ev_lc0 (K := K) (S := rB) (fun _ => true) (wk_zipT (R := R) (S := R) (ea_cons (ev_v rfl t1b) (ea_cons (ev_v rfl t2b) ea_nil))) (by rw [List.length_zip]; omega) fun d hd v K3 s3 r3 => by
      obtain ⟨x, y, ra, rb, tk⟩ := tk_pair (σ := wipe _ _) (i := 2) (j := 3) r3
      refine ⟨_, tk, rfl, ?_⟩
      obtain ⟨hm, e⟩ := zip_same hd
      exact ev_call (x := d.1) (ok _ hm) (ea_cons (ev_v (R := R) rfl ra) (ea_cons (ev_v (R := R) rfl (show R.rel K3 y d.1 from e ▸ rb)) ea_nil))) ea_nil) rc_all) (by rw [decide_eq_true rfl]; simp)) x2.i fun v K3 H3 x3 r => q v K3 H3 ((x1.trans x2).trans x3) r
theorem ok_isT {α : Type} {R : Rp α} {okd : α → Prop} {k : Nat} (T : Tx K mg) (F0 : Fk P w K mg base CX0 k (He.ga K "_law_is") ["_law_told_here", "_law_due_here"] (spE R okd)) : Fk P w K mg base CX0 (k + 1) (He.ga K "_law_is") ["_law_told_here", "_law_due_here"] (spE (rT K R) (allOk okd)) :=
  (ok_isO T F0).imp fun vs H Q E ⟨x, Hm, ok, r, hi, q⟩ => ⟨some x, Hm, fun ds e => by cases e; exact ok, r, hi, q⟩
/-! ### texts, or None, as data -/
end
end NJ

set_option Elab.async false
set_option linter.all false
set_option maxRecDepth 100000
set_option maxHeartbeats 8000000
/-! Family B: texts that are asked for, cuts. -/
namespace NJ
open PySem PySem.Spec PyProof.Rows L2
theorem low_str {n : Nat} {ar : List Arw} (pp : PartP n ar) {t : T8} (h : strB n ar t = true) : lowT t := fun c hc => sgB_low pp (stB_low pp t.length t ((mem_stB pp _ _).mpr ⟨rfl, h⟩) c hc)
def spLaw (K : PySem.W.Frag) : Sp := fun vs H Q _ => ∃ (a : Addr) (ns : List Int), vs = [.ref a] ∧ SqL K H a (ns.map V.int) ∧ ns.length ≤ 63 ∧ ∀ H', Q (.bl true) H'
theorem nox_ex {X : Cx} {b : List Stmt} {D : Ends} {σ : L2.St} {H : Hp} : (∃ t, PSs X.nox b t ∧ t D σ H) → ∃ t, PSs X b t ∧ t D σ H := fun ⟨t, a, b⟩ => ⟨t, a.nox, b⟩
theorem q_noC {σ : L2.St} {Hm H : Hp} {tt : TT} {t1 tz : TS} {D : Ends} {b : Bool} (h : Et tt σ Hm b) (e : b = false) (hi : Same Hm H) (k : ∀ K1 H1, Xt Hm H K1 H1 → tz D σ H1) : tSeq (tIfS tt t1 tNext) tz D σ H := q_when h hi (fun hb => by rw [e] at hb; cases hb) fun _ => k
theorem s_noC {σ : L2.St} {Hm H : Hp} {tt : TT} {t1 t2 : TS} {D : Ends} {b : Bool} (h : Et tt σ Hm b) (e : b = false) (hi : Same Hm H) (k : ∀ K1 H1, Xt Hm H K1 H1 → t2 D σ H1) : tIfS tt t1 t2 D σ H := s_if h hi (fun hb => by rw [e] at hb; cases hb) fun _ => k
/-- texts that are asked for -/
def txB (n : Nat) (ar : List Arw) (t : T8) : Prop := strB n ar t = true ∧ t.length ≤ 1000
theorem txB.tx {n : Nat} {ar : List Arw} {W : List T8} (pp : PartP n ar) (wp : WsP n ar W) {t : T8} (h : txB n ar t) : TxP n ar W t := ⟨pp.w, wp, by
  unfold strO
  rw [Bool.and_eq_true]
  exact ⟨low_isTx (low_str pp h.1), h.1⟩, Nat.le_trans h.2 (by decide)⟩
theorem txB.tail {n : Nat} {ar : List Arw} (pp : PartP n ar) {t : T8} (h : txB n ar t) : txB n ar (cut t (some 1) none) := by
  rw [cutm_tail]
  cases t with
  | nil => exact h
  | cons c t =>
    have := h.2
    rw [List.length_cons] at this
    exact ⟨str_suf pp (a := [c]) h.1, by show t.length ≤ 1000; omega⟩
theorem txB.init {n : Nat} {ar : List Arw} {t : T8} (h : txB n ar t) : txB n ar (cut t none (some (-1))) := by
  rw [cutm_init]
  have hl := h.2
  rcases List.eq_nil_or_concat t with rfl | ⟨s, c, rfl⟩
  · exact h
  · have e : (s ++ [c]).dropLast = s := List.dropLast_concat
    have h1 := h.1
    rw [List.concat_eq_append] at h1 hl ⊢
    rw [e]
    rw [List.length_append] at hl
    exact ⟨str_pre h1, by omega⟩
end NJ

set_option Elab.async false
set_option linter.all false
set_option maxRecDepth 100000
set_option maxHeartbeats 16000000
/-! k21: books judged. -/
namespace NJ
open PySem PySem.Spec PyProof.Rows L2
theorem rv_neBB {a b : Bool} : Rv rNe rB a rB b rB (!decide (a = b)) := rv_now fun Hm H1 _ x y rx ry => ⟨.bl (!decide (a = b)), rfl, fun Q q => by
  rw [show x = V.bl a from rx, show y = V.bl b from ry]
  exact ⟨rfl, by rw [show decide (V.bl a = V.bl b) = decide (a = b) from by simp]; exact q⟩⟩
theorem rv_eqBB {a b : Bool} : Rv rEq rB a rB b rB (decide (a = b)) := rv_now fun Hm H1 _ x y rx ry => ⟨.bl (decide (a = b)), rfl, fun Q q => by
  rw [show x = V.bl a from rx, show y = V.bl b from ry]
  exact ⟨rfl, by rw [show decide (V.bl a = V.bl b) = decide (a = b) from by simp]; exact q⟩⟩
theorem rv_L {α β γ : Type} {r r' : R2} {R : Rp α} {S : Rp β} {U : Rp γ} {d : α} {e : β} {z : γ} (h : Rv r R d S e U z) : Rv (fun x y H Q => r x y H Q ∨ r' x y H Q) R d S e U z := fun Hm H1 hi x y rx ry Q q => .inl (h Hm H1 hi x y rx ry Q q)
theorem rv_R {α β γ : Type} {r r' : R2} {R : Rp α} {S : Rp β} {U : Rp γ} {d : α} {e : β} {z : γ} (h : Rv r' R d S e U z) : Rv (fun x y H Q => r x y H Q ∨ r' x y H Q) R d S e U z := fun Hm H1 hi x y rx ry Q q => .inr (h Hm H1 hi x y rx ry Q q)
theorem rv_isNOS {o : Option T8} : Rv rIsN (rO rS) o rN () rB o.isNone := rv_now fun Hm H1 _ x y rx ry => ⟨_, rfl, fun Q q => ⟨ry, by
  have e : decide (x = V.non) = o.isNone := by
    cases o with
    | none => rw [show x = V.non from rx]; rfl
    | some d => rw [show x = V.str (tx d) from rx]; rfl
  rw [e]
  exact q⟩⟩
theorem set_call1 {sp : Sp} {E : XK} {te : TE} {ts : TA} {D : Ends} {σ : L2.St} {H : Hp} {tz : TS} {i : Nat} (h : te σ H (fun v H1 => ts σ H1 (fun vs H2 => sp (v :: vs ++ []) H2 (fun u H3 => tz D (σ.set i (some u)) H3) E))) : tSeq (tAsg (tCall sp [] E (tCons te ts)) (gName i)) tz D σ H := h
/-! ### the web of eight letters -/
def fr8 : List Arw := [(0, [97], 0), (0, [98], 0), (0, [99], 0), (0, [100], 0), (0, [101], 0), (0, [102], 0), (0, [103], 0), (0, [104], 0)]
theorem fr8_in {t : Arw} (h : t ∈ fr8) : ∃ c ∈ [97, 98, 99, 100, 101, 102, 103, 104], t = (0, [c], 0) := by
  unfold fr8 at h
  simp only [List.mem_cons, List.not_mem_nil, or_false] at h
  rcases h with rfl | rfl | rfl | rfl | rfl | rfl | rfl | rfl
  all_goals exact ⟨_, by simp, rfl⟩
theorem pw8 : W8.PartW 1 fr8 := ⟨⟨by decide, by decide, fun t h => by
  obtain ⟨c, hc, rfl⟩ := fr8_in h
  refine ⟨⟨Int.le_refl 0, by show (0 : Int) < 1; decide⟩, ⟨Int.le_refl 0, by show (0 : Int) < 1; decide⟩, c, rfl, ?_⟩
  simp only [List.mem_cons, List.not_mem_nil, or_false] at hc
  rcases hc with rfl | rfl | rfl | rfl | rfl | rfl | rfl | rfl <;> decide, ⟨[0], by
  show [(0 : Int)].Perm (nums 1)
  exact List.Perm.refl _, fun k hk => by
  obtain rfl : k = 0 := by omega
  exact ⟨[97], by decide⟩⟩, by decide, by decide, by decide⟩, by decide, by decide, fun t h => by
  obtain ⟨c, hc, rfl⟩ := fr8_in h
  exact ⟨c, hc, rfl⟩⟩
theorem many_wp {i : Int} {xs : List T8} (e : xs = cut (stB 1 fr8 3) none (some i)) : (∀ x ∈ xs, x.length = 3) ∧ (xs.length ≤ 400 → wpO 1 fr8 (some (xs.map some)) = none) ∧ (400 < xs.length → wpO 1 fr8 (some (xs.map some)) = some tWords) := by
  have sub : ∀ x ∈ xs, x ∈ stB 1 fr8 3 := fun x hx => mem_cutB (e ▸ hx)
  have mem : ∀ x ∈ xs, x.length = 3 ∧ strB 1 fr8 x = true := fun x hx => (W8.mem_stB pw8 3 x).mp (sub x hx)
  have low : ∀ x ∈ xs, lowT x := fun x hx c hc => W8.sgB_low pw8 (W8.stB_low pw8 3 x (sub x hx) c hc)
  have asc : xs.Pairwise fun a b => a < b := by
    rw [e]
    unfold cut
    exact ((W8.stB_asc pw8 3).drop).sublist (List.take_sublist _ _) |> fun h => h
  have et : txs (xs.map some) = xs := by
    unfold txs
    rw [List.map_map]
    exact List.map_id _
  have hw : ((xs.map some).map wdO).all id = true := by
    rw [List.map_map, List.all_map, List.all_eq_true]
    intro x hx
    show wdO (some x) = true
    unfold wdO
    rw [show isTx (some x) = true from List.all_eq_true.mpr fun c hc => low x hx c hc, Bool.true_and, Bool.and_eq_true, decide_eq_true_iff, decide_eq_true_iff]
    have := (mem x hx).1
    show (1 : Int) ≤ (x.length : Int) ∧ (x.length : Int) ≤ 60
    omega
  refine ⟨fun x hx => (mem x hx).1, fun h4 => ?_, fun h4 => ?_⟩
  · unfold wpO
    dsimp only
    rw [if_neg, if_neg, if_neg]
    · rw [et, lcF_is_none fun p ⟨a, b, c, _⟩ => by
        have h1 := (mem _ a).1
        have h2 := (mem _ b).1
        omega]
      exact Bool.noConfusion
    · rw [et]
      intro hh
      have : (xs.map fun l => strO 1 fr8 (some l)).all id = true := by
        rw [List.all_map, List.all_eq_true]
        intro x hx
        show strO 1 fr8 (some x) = true
        unfold strO
        rw [show isTx (some x) = true from List.all_eq_true.mpr fun c hc => low x hx c hc, Bool.true_and]
        exact (mem x hx).2
      rw [this] at hh
      cases hh
    · unfold wdsO
      rw [hw, et, ascT_of asc, decide_eq_true (by rw [List.length_map]; omega)]
      exact Bool.noConfusion
  · unfold wpO
    dsimp only
    rw [if_pos]
    unfold wdsO
    rw [decide_eq_false (by rw [List.length_map]; omega), Bool.false_and]
section
variable {P : Program} {w : World} {K : PySem.W.Frag} {mg : Str → Option Value} {base : Heap}
theorem ok_law (T : Tx K mg) {fd : FuncData} (F : FunD K "law" "law" (defArgs s_law) (defBody s_law) (defScope s_law) [] [] (He.fAd K ("law", none)) fd) : FnOk P w K mg base CX0 13 (He.ga K "law") fd ["_law_script"] (spLaw K) := by
  refine F.ok c_law (fun vs H Q E ⟨a, ns, e, _⟩ => by rw [e] <;> rfl) (fun cdv A outer s H vs Q E hr h => nox_ex ?_)
  obtain ⟨fdW, FW, bW⟩ := (GW.ok_init (P := P) (w := w) (base := base) T).ex
  obtain ⟨fdB, FB, bB⟩ := (ok_binit (P := P) (w := w) (base := base) T).ex
  obtain ⟨fdE, FE, bE⟩ := (ok_eqBO (P := P) (w := w) (base := base) T).ex
  obtain ⟨fdQ, FQ, bQ⟩ := (ok_eqW (P := P) (w := w) (base := base) T).ex
  refine ⟨_, (pss_cons (ps_set (i := 1) c_law.nd rfl (by first | exact Or.inl rfl | exact Or.inr rfl) (pe_fk (ok_hand T) (hr.mono (by decide)) T.g_law_hand pass0 (pa_cons (pv 0) pa_nil)))
  (pss_cons (ps_set (i := 2) c_law.nd rfl (by first | exact Or.inl rfl | exact Or.inr rfl) (pe_fk (ok_law_web T) (hr.mono (by decide)) T.g_law_web pass0 (pa_cons (pv 1) (pa_cons pe_int pa_nil))))
  (pss_cons (ps_set (i := 3) c_law.nd rfl (by first | exact Or.inl rfl | exact Or.inr rfl) (pe_make T.mk_Web FW (hr.mono (by decide)) (by rfl) T.g_Web bW .nil pass0 (pa_cons (pe_ix ix_tup (pv 2) pe_int (fun _ _ => rfl)) (pa_cons (pe_ix ix_tup (pv 2) pe_int (fun _ _ => rfl)) pa_nil))))
  (pss_cons (ps_for PassesOwn.never rfl (pi_range1 (by rfl) T.n_range (pa_cons pe_int pa_nil)) (pg_name (i := 4) c_law.nd rfl (by first | exact Or.inl rfl | exact Or.inr rfl)) (pss_cons (ps_set (i := 5) c_law.nd rfl (by first | exact Or.inl rfl | exact Or.inr rfl) (pe_fk (ok_wds T) (hr.mono (by decide)) T.g_law_words pass0 (pa_cons (pv 1) (pa_cons (pv 2) pa_nil))))
  (pss_cons (ps_set (i := 6) c_law.nd rfl (by first | exact Or.inl rfl | exact Or.inr rfl) (pv 5))
  (pss_cons (ps_if (pt_cmpR op_gt (pv 4) pe_int (nomark _)) (pss_one (ps_set (i := 6) c_law.nd rfl (by first | exact Or.inl rfl | exact Or.inr rfl) (pe_fk (ok_bentB T) (hr.mono (by decide)) T.g_law_bent pass0 (pa_cons (pv 1) (pa_cons (pv 2) (pa_cons (pv 5) (pa_cons (pv 3) pa_nil))))))) pss_nil)
  (pss_cons (ps_set (i := 7) c_law.nd rfl (by first | exact Or.inl rfl | exact Or.inr rfl) (pe_fk (ok_dueB T) (hr.mono (by decide)) T.g_law_due pass0 (pa_cons (pv 2) (pa_cons (pv 6) pa_nil))))
  (pss_cons (ps_set (i := 8) c_law.nd rfl (by first | exact Or.inl rfl | exact Or.inr rfl) (pe_fk (ok_toldB T) (hr.mono (by decide)) T.g_law_told pass0 (pa_cons (pv 3) (pa_cons (pv 6) pa_nil))))
  (pss_cons (ps_if (PW.pt (pw_and (pt_cmpR op_notN (pv 7) pe_non (nomark _)) (pw_and1 (pt_cmpR (op_or (op_neOwn FE T.oe_Book T.on_Book T.in_Book.hm bE pass0 (hr.mono (by decide))) op_ne) (pv 8) (pv 7) (nomark _))))) (pss_one (ps_ret pe_bl)) pss_nil)
  (pss_one (ps_if (pt_cmpR op_isN (pv 7) pe_non (nomark _)) (pss_cons (ps_if (PW.pt (pw_or (pt_not (pt_val (pe_callB call_isi (by rfl) T.n_isinstance boot_isinstance (pa_cons (pv 8) (pa_cons (pe_glob (v := .ref (He.ga K "Book")) (by rfl) T.g_Book rfl) pa_nil))))) (pw_or (pt_not (pt_val (pe_fk (ok_isT T (ok_isS T scS)) (hr.mono (by decide)) T.g_law_is pass0 (pa_cons (pe_fld (pv 8) rfl) (pa_cons (pv 6) pa_nil))))) (pw_or1 (pt_not (pt_cmpR (op_eqOwn FQ T.oe_Web bQ pass0 (hr.mono (by decide))) (pe_fld (pv 8) rfl) (pv 3) (nomark _))))))) (pss_one (ps_ret pe_bl)) pss_nil)
  (pss_cons (ps_set (i := 9) c_law.nd rfl (by first | exact Or.inl rfl | exact Or.inr rfl) (pe_make T.mk_Book FB (hr.mono (by decide)) (by rfl) T.g_Book bB .nil pass0 (pa_cons (pv 3) (pa_cons (pv 5) pa_nil))))
  (pss_cons (ps_if (PW.pt (pw_or (pt_cmpR op_ne (pe_cmpR (op_or (op_eqOwn FE T.oe_Book bE pass0 (hr.mono (by decide))) op_eq) (pv 8) (pv 9) (nomark _)) (pe_cmpR (op_eqD hr.units) (pv 6) (pv 5) (nomark _)) (nomark _)) (pw_or1 (pt_cmpR op_ne (pe_cmpR (op_or (op_neOwn FE T.oe_Book T.on_Book T.in_Book.hm bE pass0 (hr.mono (by decide))) op_ne) (pv 8) (pv 9) (nomark _)) (pe_cmpR (op_neD hr.units) (pv 6) (pv 5) (nomark _)) (nomark _))))) (pss_one (ps_ret pe_bl)) pss_nil)
  (pss_cons (ps_if (pt_not (pt_cmpR (op_or (op_eqOwn FE T.oe_Book bE pass0 (hr.mono (by decide))) op_eq) (pv 8) (pe_make T.mk_Book FB (hr.mono (by decide)) (by rfl) T.g_Book bB .nil pass0 (pa_cons (pv 3) (pa_cons (pv 6) pa_nil))) (nomark _))) (pss_one (ps_ret pe_bl)) pss_nil)
  (pss_one (ps_if (PW.pt (pw_or (pt_cmpR (op_or (op_eqOwn FE T.oe_Book bE pass0 (hr.mono (by decide))) op_eq) (pv 8) (pv 6) (nomark _)) (pw_or (pt_cmpR (op_or (op_eqOwn FE T.oe_Book bE pass0 (hr.mono (by decide))) op_eq) (pv 8) (pv 3) (nomark _)) (pw_or (pt_cmpR (op_or (op_eqOwn FE T.oe_Book bE pass0 (hr.mono (by decide))) op_eq) (pv 8) pe_int (nomark _)) (pw_or1 (pt_not (pt_cmpR (op_or (op_neOwn FE T.oe_Book T.on_Book T.in_Book.hm bE pass0 (hr.mono (by decide))) op_ne) (pv 8) (pv 5) (nomark _)))))))) (pss_one (ps_ret pe_bl)) pss_nil)))))) pss_nil)))))))))
  (pss_cons (ps_set (i := 10) c_law.nd rfl (by first | exact Or.inl rfl | exact Or.inr rfl) (pe_tup (pa_cons pe_int (pa_cons (pe_callTy call_tuple_of (by rfl) T.n_tuple boot_tuple (pa_cons (pe_lc (own := [("_law_sign", 12)]) rfl c_law.nd (pi_str pe_str) (blkOk_by (N := ["_law_script", "_law_hand_here", "_law_parts", "_law_web_here", "_law_turn", "_law_words_here", "_law_thing", "_law_due_here", "_law_told_here", "_law_other", "_law_free", "_law_many", "_law_sign"]) (sc := defScope s_law) (by decide +kernel)) (fun _ _ _ _ _ => (pg_name (i := 12) c_law.nd rfl (by first | exact Or.inl rfl | exact Or.inr rfl))) (fun _ _ _ _ _ => pts_nil) (fun _ _ _ _ _ => (pe_tup (pa_cons pe_int (pa_cons (pv 12) (pa_cons pe_int pa_nil)))))) pa_nil)) pa_nil))))
  (pss_cons (ps_set (i := 11) c_law.nd rfl (by first | exact Or.inl rfl | exact Or.inr rfl) (pe_callTy call_tuple_of (by rfl) T.n_tuple boot_tuple (pa_cons (pe_slice sl_list (pe_fk (W8.ok_strs T) (hr.mono (by decide)) T.g_law_stretches pass0 (pa_cons (pv 10) (pa_cons pe_int pa_nil))) po_none (po_some (pe_op op_add pe_int (pe_fk (ok_draw T) (hr.mono (by decide)) T.g_law_draw pass0 (pa_cons (pv 1) (pa_cons pe_int pa_nil)))))) pa_nil)))
  (pss_cons (ps_set (i := 8) c_law.nd rfl (by first | exact Or.inl rfl | exact Or.inr rfl) (pe_fk (ok_toldB T) (hr.mono (by decide)) T.g_law_told pass0 (pa_cons (pe_make T.mk_Web FW (hr.mono (by decide)) (by rfl) T.g_Web bW .nil pass0 (pa_cons (pe_ix ix_tup (pv 10) pe_int (fun _ _ => rfl)) (pa_cons (pe_ix ix_tup (pv 10) pe_int (fun _ _ => rfl)) pa_nil))) (pa_cons (pv 11) pa_nil))))
  (pss_one (ps_ret (pe_cmpR op_eq (pe_cmpR (op_or (op_eqOwn FE T.oe_Book bE pass0 (hr.mono (by decide))) op_eq) (pv 8) pe_str (nomark _)) (pe_cmpR op_gt (pe_callB call_len (by rfl) T.n_len boot_len (pa_cons (pv 11) pa_nil)) pe_int (nomark _)) (nomark _))))))))))), ?_⟩
  obtain ⟨a, ns, rfl, hS, hz, q⟩ := h
  have r0 : (rL K rI).rel H (.ref a) ns := ⟨a, _, rfl, hS, pairedI ns⟩
  refine q_set (ev_call (x := ns) (by show ns.length ≤ 1000; omega) (ea_cons (ev_v rfl r0) ea_nil)) (Same.refl H) fun v1 K1 H1 x1 ⟨cs, r1, _⟩ => ?_
  refine q_set (i := 2) (ev_call (x := (cs, (4 : Int))) ⟨show (0 : Int) < 4 by decide, show (4 : Int) ≤ 10 by decide⟩ (ea_cons (ev_v rfl r1) (ea_cons ev_i ea_nil))) x1.i fun v2 K2 H2 x2 ⟨⟨nn, ar⟩, r2, n, en, pp⟩ => ?_
  dsimp only at en
  subst en
  have pp : PartP n ar := pp
  have e1 : Ev (tOp (rIxT K) (tVar 2) (tC (.int 1))) [some (.ref a), some v1, some v2, none, none, none, none, none, none, none, none, none, none] K2 (rT K (rA K)) ar := ev_t1 (ev_v rfl r2)
  refine q_set (i := 3) (GW.ev_web (told_wf pp.t) (ev_t0 (ev_v rfl r2)) (fun H1 h1 Q1 q1 => e1 H1 h1 Q1 fun v K2 H2 x2 r2 => q1 v K2 H2 x2 (rt_arrs r2))) x2.i fun v3 K3 H3 x3 r3 => ?_
  have s13 := x2.s.trans x3.s
  refine q_for (wk_rng (n := 8) (ea_cons ev_i ea_nil) (by decide) (by decide)) x3.i fun K5 H5 x5 => ?_
  refine ⟨fun i σ' H' => ∃ (o4 o5 o6 o7 o8 o9 : Option V) (K' : Hp), σ' = [some (.ref a), some v1, some v2, some v3, o4, o5, o6, o7, o8, o9, none, none, none] ∧ Xt K5 H5 K' H', ⟨_, _, _, _, _, _, K5, rfl, Xt.refl x5.i⟩, fun i σ' H' ⟨_, _, _, _, _, _, K', _, x⟩ => x.s.trans x.i, ?_, ?_⟩
  · rintro i d σ' H' v K6 H6 hd ⟨o4, o5, o6, o7, o8, o9, K', rfl, x'⟩ xj rv
    have xl : Xt K' H' (uni K' K6) H6 := Xt.lift x'.s x'.i xj
    have y0 := x'.trans xl
    have s36 : Same K3 (uni K' K6) := x5.s.trans y0.s
    cases rv
    clear hd xj xl
    generalize uni K' K6 = Ka at y0 s36
    unfold gName
    dsimp only
    have hand : ∀ {σ : L2.St} {Kx : Hp}, Same Ka Kx → σ[1]? = some (some v1) → Ev (tVar 1) σ Kx rHand cs := fun s e => ev_v e (rHand.mono ((s13.trans s36).trans s) r1)
    have told : ∀ {σ : L2.St} {Kx : Hp}, Same Ka Kx → σ[2]? = some (some v2) → Ev (tVar 2) σ Kx (rTold K) ((n : Int), ar) := fun s e => ev_v e ((rTold K).mono ((x3.s.trans s36).trans s) r2)
    have web : ∀ {σ : L2.St} {Kx : Hp}, Same Ka Kx → σ[3]? = some (some v3) → Ev (tVar 3) σ Kx (GW.rWeb K) ((n : Int), ar) := fun s e => ev_v e ((GW.rWeb K).mono (s36.trans s) r3)
    refine q_set (i := 5) (ev_call (x := (cs, (n, ar))) pp (ea_cons (hand (Same.refl _) rfl) (ea_cons (told (Same.refl _) rfl) ea_nil))) y0.i fun v5 Kb Hb yb ⟨W, r5, wp⟩ => ?_
    have wp : WsP n ar W := wp
    refine q_set (i := 6) (ev_v (i := 5) (R := rT K rS) (d := W) rfl r5) yb.i fun v6 Kc Hc yc r6 => ?_
    have wrds : ∀ {σ : L2.St} {Kx : Hp}, Same Kb Kx → σ[5]? = some (some v5) → Ev (tVar 5) σ Kx (rT K rS) W := fun s e => ev_v e ((rT K rS).mono s r5)
    have wsz : okRw (some (W.map some)) := ⟨by rw [List.length_map]; have := wp.z; omega, fun o ho => by
      obtain ⟨x, hx, rfl⟩ := List.mem_map.mp ho
      have := (wp.w x hx).2.2.1
      show x.length ≤ 1000
      omega⟩
    have ybc := yb.trans yc
    refine q_whenJ (b := decide ((1 : Int) < d)) (fun σ' H' => ∃ (u : V) (o : Option (List (Option T8))) (Kd : Hp), σ' = [some (.ref a), some v1, some v2, some v3, some (.int d), some v5, some u, o7, o8, o9, none, none, none] ∧ Xt Kc Hc Kd H' ∧ (rRw K).rel Kd u o ∧ okRw o) (et_test (ev_op (ev_v (i := 4) (R := rI) (d := d) rfl rfl) ev_i rv_b0)) yc.i ?tail (fun tail hb Kd Hd yd => ?bent) (fun hb Kd Hd yd => ⟨v6, some (W.map some), Kd, rfl, yd, rt_someT ((rT K rS).mono yd.s r6), wsz⟩)
    case bent =>
      exact s_set (i := 6) (ev_call (x := ((cs, n, ar), W)) ⟨pp, wp⟩ (ea_cons (hand (ybc.s.trans yd.s) rfl) (ea_cons (told (ybc.s.trans yd.s) rfl) (ea_cons (wrds (yc.s.trans yd.s) rfl) (ea_cons (web (ybc.s.trans yd.s) rfl) ea_nil))))) yd.i fun u Ke He_ ye ⟨o, ro, ok⟩ => tail _ _ ⟨u, o, Ke, rfl, yd.trans ye, ro, ok⟩
    case tail =>
      rintro σ' H' ⟨u, o, Kd, rfl, yd, ro, ok⟩
      have sd := ybc.s.trans yd.s
      refine q_set (i := 7) (ev_call (x := ((n, ar), o)) ⟨pp, ok⟩ (ea_cons (told sd rfl) (ea_cons (ev_v (i := 6) rfl ro) ea_nil))) yd.i fun v7 Ke He_ ye r7 => ?_
      have r7 : (rO rS).rel Ke v7 (wpO n ar o) := r7
      have se := sd.trans ye.s
      refine ⟨v3, rfl, u, rfl, v3, u, n, ar, o, Ke, rfl, pp.w, ok, (GW.rWeb K).mono (s36.trans se) r3, (rRw K).mono ye.s ro, ye.i, fun os eo hn wp2 y Kf Hf yf ry => ?_, fun l hl Kf Hf yf => ?_⟩
      · subst eo
        obtain ⟨os', eo', wds, _⟩ := wpO_none hn
        cases eo'
        rw [hn] at r7
        have e7 : v7 = V.non := r7
        subst e7
        dsimp only
        have sf := se.trans yf.s
        have rth : (rT K rS).rel Kf u (txs os) := rt_txs ((rT K (rTh K)).mono (ye.s.trans yf.s) ro) wds
        have la : ∀ t ∈ ar, lowA t := pp.low
        have lb1 : lowB (((n : Int), ar), txs os) := ⟨la, fun x hx => (wp2.w x hx).1⟩
        have lb2 : lowB (((n : Int), ar), W) := ⟨la, fun x hx => (wp.w x hx).1⟩
        have toldB : ∀ {σ : L2.St} {Kx : Hp}, Same Kf Kx → σ[8]? = some (some y) → Ev (tVar 8) σ Kx (rBk K) (((n : Int), ar), txs os) := fun s e => ev_v e ((rBk K).mono s ry)
        have thing : ∀ {σ : L2.St} {Kx : Hp}, Same Kf Kx → σ[6]? = some (some u) → Ev (tVar 6) σ Kx (rT K rS) (txs os) := fun s e => ev_v e ((rT K rS).mono s rth)
        have wrd2 : ∀ {σ : L2.St} {Kx : Hp}, Same Kf Kx → σ[5]? = some (some v5) → Ev (tVar 5) σ Kx (rT K rS) W := fun s e => wrds ((yc.s.trans yd.s).trans ((ye.s.trans yf.s).trans s)) e
        refine q_noC (b := false) (et_and (a := false) (b := false) (Et.is (et_test (ev_op (ev_v (i := 7) (R := rV) (d := .non) rfl rfl) ev_n rv_notN)) (by rfl)) fun h => by cases h) rfl yf.i fun Kg Hg yg => ?_
        refine s_if (b := true) (Et.is (et_test (ev_op (ev_v (i := 7) (R := rO rS) (d := none) rfl rfl) ev_n rv_isNOS)) (by rfl)) yg.i (fun _ Kh Hh yh => ?_) (fun hb => by cases hb)
        have sgh := yg.s.trans yh.s
        refine q_noC (b := false) (et_or (a := false) (Et.is (et_not (et_B (ev_isiC (toldB sgh rfl |> fun e => Ev.conv e fun r => ty_bk T r) kit_self))) rfl) fun _ => et_or (a := false) (Et.is (et_not (et_B (ev_call (x := txs os) ⟨by have := wp2.z; omega, fun x hx => (wp2.w x hx).1⟩ (ea_cons (ev_bwords T (toldB sgh rfl)) (ea_cons (thing sgh rfl) ea_nil))))) rfl) fun _ => Et.is (et_not (et_test (ev_op (ev_bweb T (toldB sgh rfl)) (Ev.conv (S := rOW K) (e := some ((n : Int), ar)) (web (sf.trans sgh) rfl) fun r => r) (rv_eqWeb T la (lowO_some la))))) (by show (!(decide (((n : Int), ar) = ((n : Int), ar)))) = false; simp)) rfl yh.i fun Kj Hj yj => ?_
        have sgj := sgh.trans yj.s
        refine q_set (i := 9) (ev_book pp.w wp (web (sf.trans sgj) rfl) (wrd2 sgj rfl)) yj.i fun v9 Kk Hk yk r9 => ?_
        have sgk := sgj.trans yk.s
        have other : ∀ {σ : L2.St} {Kx : Hp}, Same Kk Kx → σ[9]? = some (some v9) → Ev (tVar 9) σ Kx (rOB K) (some (((n : Int), ar), W)) := fun s e => ev_v e ((rBk K).mono s r9)
        have low1 : ∀ x ∈ txs os, lowT x := lb1.2
        have low2 : ∀ x ∈ W, lowT x := lb2.2
        have e9 : eqB (((n : Int), ar), txs os) (some (((n : Int), ar), W)) = decide (txs os = W) := by
          show decide ((((n : Int), ar), txs os) = (((n : Int), ar), W)) = _
          by_cases h : txs os = W
          · rw [h, decide_eq_true rfl, decide_eq_true rfl]
          · rw [decide_eq_false h, decide_eq_false fun e => h (Prod.mk.inj e).2]
        refine q_noC (b := false) (et_or (a := false) (Et.is (et_test (ev_op (ev_op (toldB sgk rfl) (other (Same.refl _) rfl) (rv_L (rv_eqBO T lb1 fun z e => by cases e; exact lb2))) (ev_op (thing sgk rfl) (wrd2 sgk rfl) (rv_eqTS low1 low2)) rv_neBB)) (by rw [e9]; simp)) fun _ => Et.is (et_test (ev_op (ev_op (toldB sgk rfl) (other (Same.refl _) rfl) (rv_L (rv_neBO T lb1 fun z e => by cases e; exact lb2))) (ev_op (thing sgk rfl) (wrd2 sgk rfl) (rv_neTS low1 low2)) rv_neBB)) (by rw [e9]; simp)) rfl yk.i fun Kl Hl yl => ?_
        have sgl_ := sgk.trans yl.s
        refine q_noC (b := false) (Et.is (et_not (et_test (ev_op (toldB sgl_ rfl) (Ev.conv (S := rOB K) (e := some (((n : Int), ar), txs os)) (ev_book pp.w wp2 (web (sf.trans sgl_) rfl) (thing sgl_ rfl)) fun r => r) (rv_L (rv_eqBO T lb1 fun z e => by cases e; exact lb1))))) (by show (!(decide ((((n : Int), ar), txs os) = (((n : Int), ar), txs os)))) = false; simp)) rfl yl.i fun Km Hm_ ym => ?_
        have sgm := sgl_.trans ym.s
        have noT : ∀ {σ : L2.St} {Kx : Hp} {te : TE} {xs : List T8}, Ev te σ Kx (rT K rS) xs → Ev te σ Kx (rOB K) none := fun h => Ev.conv h fun r => ⟨.type "tuple", GW.ty_rtA r, (T.ot_Book.h "tuple" (by decide)).1, (T.ot_Book.h "tuple" (by decide)).2.1⟩
        have noI : ∀ {σ : L2.St} {Kx : Hp}, Ev (tC (.int 0)) σ Kx (rOB K) none := ev_c fun _ => ⟨.type "int", .base (.int 0), (T.ot_Book.h "int" (by decide)).1, (T.ot_Book.h "int" (by decide)).2.1⟩
        have noW : ∀ {σ : L2.St} {Kx : Hp} {te : TE} {x : Int × List Arw}, Ev te σ Kx (GW.rWeb K) x → Ev te σ Kx (rOB K) none := fun h => Ev.conv h fun {H v} ⟨a, dx, fs, e, hh, _⟩ => ⟨.ref (CW K), by
          rw [e]
          exact T.in_Web.ty hh, T.oc_Web_Book.k, T.oc_Web_Book.n⟩
        have no : ∀ {z : BkT}, (none : Option BkT) = some z → lowB z := fun e => by cases e
        exact s_noC (b := false) (et_or (a := false) (et_test (ev_op (toldB sgm rfl) (noT (thing sgm rfl)) (rv_L (rv_eqBO T lb1 fun z => no)))) fun _ => et_or (a := false) (et_test (ev_op (toldB sgm rfl) (noW (web (sf.trans sgm) rfl)) (rv_L (rv_eqBO T lb1 fun z => no)))) fun _ => et_or (a := false) (et_test (ev_op (toldB sgm rfl) noI (rv_L (rv_eqBO T lb1 fun z => no)))) fun _ => Et.is (et_not (et_test (ev_op (toldB sgm rfl) (noT (wrd2 sgm rfl)) (rv_L (rv_neBO T lb1 fun z => no))))) rfl) rfl ym.i fun Kn Hn yn => ⟨_, _, _, _, _, _, Kn, rfl, ((((((((((((y0.trans ybc).trans yd).trans ye).trans yf).trans yg).trans yh).trans yj).trans yk).trans yl).trans ym).trans yn))⟩
      · rw [hl] at r7
        have e7 : v7 = V.str (tx l) := r7
        subst e7
        dsimp only
        refine q_noC (b := false) (et_and (a := true) (Et.is (et_test (ev_op (ev_v (i := 7) (R := rO rS) (d := some l) rfl rfl) ev_n (rv_notNOb fun H v d e h => by rw [h] at e; cases e))) rfl) fun _ => Et.is (et_test (ev_op (ev_v (i := 8) (R := rS) (d := l) rfl rfl) (ev_v (i := 7) (R := rS) (d := l) rfl rfl) (rv_R rv_neS))) (by simp)) rfl yf.i fun Kg Hg yg => ?_
        exact s_if (b := false) (Et.is (et_test (ev_op (ev_v (i := 7) (R := rO rS) (d := some l) rfl rfl) ev_n rv_isNOS)) (by rfl)) yg.i (fun hb => by cases hb) fun _ Kh Hh yh => ⟨_, _, _, _, _, _, Kh, rfl, ((((((y0.trans ybc).trans yd).trans ye).trans yf).trans yg).trans yh)⟩
  · rintro σ' H' ⟨o4, o5, o6, o7, o8, o9, K', rfl, x'⟩
    have s1 : Same K1 K' := (s13.trans x5.s).trans x'.s
    refine q_set (i := 10) (ev_pair (K := K) (R := rI) (S := rT K (rA K)) (d := ((1 : Nat) : Int)) (e := fr8) (ea_cons ev_i (ea_cons (ev_cb (ea_cons (Ev.is (ev_lc0 (K := K) (S := rA K) (R := rC) (fun c => ((0 : Int), [c], (0 : Int))) (wk_str (Ev.is ev_s (show _ = ([97, 98, 99, 100, 101, 102, 103, 104] : T8) by rfl))) (by decide) fun c hc u K3 s3 r3 => ⟨_, tk_name, rfl, ev_arw ev_i (ev_v (R := rS) (d := [c]) rfl r3) ev_i⟩) (show _ = fr8 by rfl)) ea_nil) rc_tupOfL) ea_nil))) x'.i fun v10 K6 H6 x6 r10 => ?_
    have r10 : (rTold K).rel K6 v10 (((1 : Nat) : Int), fr8) := r10
    refine q_set (i := 11) (ev_cbE (R := rM rS) (T := rT K rS) (P1 := fun xs => ∃ i, xs = cut (stB 1 fr8 3) none (some i) ∧ xs.length ≤ 401) (P2 := fun xs => ∃ i, xs = cut (stB 1 fr8 3) none (some i) ∧ xs.length ≤ 401) ((ev_slLE (K := K) (R := rS) (xs := stB 1 fr8 3) (P1 := fun i : Int => 399 ≤ i ∧ i ≤ 401) (Ev.l (W8.ev_strs (k := 3) pw8 (by decide) (ev_v rfl r10) (Ev.is ev_i (show _ = ((3 : Nat) : Int) by rfl)))) (ev_opE (T := rI) (P2 := fun i : Int => 399 ≤ i ∧ i ≤ 401) ev_i (ev_draw (ev_v rfl (rHand.mono (s1.trans x6.s) r1)) ev_i (by decide) (by decide)) fun e ⟨e0, e1⟩ => ⟨399 + e, by omega, rv_i0⟩)).imp fun xs ⟨i, ⟨i0, i1⟩, e⟩ => ⟨i, e, by
      rw [e]
      obtain ⟨m, rfl⟩ : ∃ m : Nat, i = (m : Int) := ⟨i.toNat, by omega⟩
      rw [cut_take, List.length_take]
      omega⟩) fun xs h => ⟨xs, h, fun Hm H1 hi vs r Q q => rc_tupOfL (K := K) Hm H1 hi vs (let ⟨v, ws, e, r, k⟩ := r; ⟨v, ws, e, rm_l r, k⟩) Q q⟩) x6.i fun v11 K7 H7 x7 ⟨xs, r11, ⟨i, exs, xz⟩⟩ => ?_
    obtain ⟨l3, w0, w1⟩ := many_wp exs
    have okm : okRw (some (xs.map some)) := ⟨by rw [List.length_map]; omega, fun o ho => by
      obtain ⟨x, hx, rfl⟩ := List.mem_map.mp ho
      show x.length ≤ 1000
      rw [l3 x hx]
      decide⟩
    have len : ∀ {σ : L2.St} {Kx : Hp}, Same K7 Kx → σ[11]? = some (some v11) → Ev (tCB (rLen K) (tCons (tVar 11) tNil)) σ Kx rI (xs.length : Int) := fun s e => ev_cb (ea_cons (ev_v e ((rT K rS).mono s r11)) ea_nil) rc_lenT
    have e11 : Ev (tOp (rIxT K) (tVar 10) (tC (.int 1))) [some (.ref a), some v1, some v2, some v3, o4, o5, o6, o7, o8, o9, some v10, some v11, none] K7 (rT K (rA K)) fr8 := ev_t1 (ev_v rfl ((rTold K).mono x7.s r10))
    refine set_call1 (GW.ev_web pw8.wf (ev_t0 (ev_v (i := 10) rfl ((rTold K).mono x7.s r10))) (fun H1 h1 Q1 q1 => e11 H1 h1 Q1 fun v K2 H2 x2 r2 => q1 v K2 H2 x2 (rt_arrs r2)) H7 x7.i _ fun vw K8 H8 x8 rw_ => ?_)
    refine ⟨v11, rfl, vw, v11, 1, fr8, some (xs.map some), K8, rfl, pw8.w, okm, rw_, rt_someT ((rT K rS).mono x8.s r11), x8.i, fun os eo hn wp2 y Kf Hf yf ry => ?_, fun l hl Kf Hf yf => ?_⟩
    · dsimp only
      have le : xs.length ≤ 400 := by
        rcases Nat.lt_or_ge 400 xs.length with h | h
        · rw [w1 h] at hn
          cases hn
        · exact h
      have noS : ∀ {σ : L2.St} {Kx : Hp}, Ev (tC (.str (Str.ofString "words"))) σ Kx (rOB K) none := ev_c fun _ => ⟨.type "str", .base (.str _), (T.ot_Book.h "str" (by decide)).1, (T.ot_Book.h "str" (by decide)).2.1⟩
      have lb : lowB ((((1 : Nat) : Int), fr8), txs os) := ⟨pw8.low, fun x hx => (wp2.w x hx).1⟩
      refine s_ret (Ev.is (ev_op (ev_op (ev_v (i := 8) (R := rBk K) rfl ry) noS (rv_L (rv_eqBO T lb fun z e => by cases e))) (ev_op (len (x8.s.trans yf.s) rfl) ev_i rv_b0) rv_eqBB) (show _ = true by
        have : decide ((400 : Int) < (xs.length : Int)) = false := decide_eq_false (by omega)
        rw [this]
        rfl)) yf.i fun v K9 H9 x9 r9 => by
        cases r9
        exact q H9
    · dsimp only
      have gt : 400 < xs.length := by
        rcases Nat.lt_or_ge 400 xs.length with h | h
        · exact h
        · rw [w0 h] at hl
          cases hl
      rw [w1 gt] at hl
      cases hl
      refine s_ret (Ev.is (ev_op (ev_op (ev_v (i := 8) (R := rS) (d := tWords) rfl rfl) (Ev.is ev_s (show _ = tWords by rfl)) (rv_R rv_eqS)) (ev_op (len (x8.s.trans yf.s) rfl) ev_i rv_b0) rv_eqBB) (show _ = true by
        have : decide ((400 : Int) < (xs.length : Int)) = true := decide_eq_true (by omega)
        rw [this]
        simp)) yf.i fun v K9 H9 x9 r9 => by
        cases r9
        exact q H9
end
end NJ

set_option Elab.async false
set_option linter.all false
set_option maxRecDepth 100000
set_option maxHeartbeats 0
open PySem PySem.W PySem.Calls PyProof.Rows
set_option maxRecDepth 100000 in
set_option maxHeartbeats 0 in
theorem PySem.Challenge.cw_neverjoin_k21_books_judged_holds : PySem.Challenge.rw_neverjoin_k21_books_judged.Holds := by
  w_on; o_law
  refine HandSHeadRun.head_any (r := OpenLaw.row PySem.Challenge.rw_neverjoin_k21_books_judged) (q := view (OpenLaw.row PySem.Challenge.rw_neverjoin_k21_books_judged).prog [67]) (H := NJ.hk) (ob := NJ.ob) (M := 8000) (loose := NJ.nms) (d := HandSHeadRun.topDef (OpenLaw.row PySem.Challenge.rw_neverjoin_k21_books_judged).prog 67) (kwd := []) NJ.ob_eq
    (by kernel_rfl) (fun s => by kernel_rfl) NJ.run (by kernel_rfl) (by kernel_rfl) (by kernel_rfl) (by rfl) (by first | assumption | decide +kernel) (by decide +kernel) ⟨rfl, rfl, rfl, rfl, rfl, by decide +kernel⟩ ?hw ?hc
  case hw => w_witness2
  case hc =>
    refine L2.walk_ofE (l := PySem.Challenge.rw_neverjoin_k21_books_judged) (n := 63) (k := 13) (x := "_law_script") (CX := L2.CX0) rfl (by decide) (by kernel_rfl) ⟨rfl, by decide, by decide⟩ ?F (fun _ _ _ _ z => z)
    intro w mg fa h Y G hmg0
    obtain ⟨K, KX, c⟩ := Y
    have hmg : mg ("law" : PySem.Str) = some (.ref fa) := by
      have e : (HandSHeadRun.topDef (OpenLaw.row PySem.Challenge.rw_neverjoin_k21_books_judged).prog 67).name = ("law" : PySem.Str) := by kernel_rfl
      rw [← e]
      exact hmg0
    have T := NJ.tx_of_says KX G c
    have e := hmg.symm.trans T.g_law
    cases e
    obtain ⟨fd0, F0⟩ := T.F_law
    refine ⟨K, fd0, NJ.spLaw K, KX, fun s v => ?_, fun H a ns hl _ hS => ⟨a, ns, rfl, hS, hl, fun _ => rfl⟩, fun base _ _ => ?_⟩
    · have b := L2.FunD.bindsA (ps := ["_law_script"]) F0 fun _ _ _ _ _ _ us hl => match us, hl with | [_], _ => rfl
      exact b s [v] rfl
    · exact NJ.ok_law T F0


