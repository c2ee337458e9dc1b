import PyProof.Rows.All
import Wide.All
import OpenK.AllK
import Wide.FinOn
import HandS.ForMost
import HandS.ForExc
import HandS.IsInst
import HandS.Evl
import HandS.SetKeys
import HandS.Conv
import HandS.Zip
import HandS.TupAny
import HandS.Style
import HandS.DictComp
import HandS.SortOrd
import HandS.Defaults
import HandS.ExcInit
import HandS.TryMany
import HandS.Flow
import HandS.Wide
import KE.KStateDown
import HandS.HeadHook2
import HandS.HeadEnd
import HandS.Strs
import HandS.SetFor
import HandS.TupSets
import KE.SortData
import KE.DataMinMax
import PySem.Challenge.RW_neverjoin_k22_whole_texts_that_clash
import Lean
import HandS.Head0
import HandS.Head1
import HandS.Head2
import HandS.HeadHook1
set_option Elab.async false
set_option linter.all false
set_option maxRecDepth 100000
/-! Readings that leave what was known: representations of data, what evaluates to what. -/
namespace NJ
open PySem L2

/-- how data lie on the heap; once they lie there they stay -/
structure Rp (α : Type) where
  rel : Hp → V → α → Prop
  mono : ∀ {H H' : Hp} {v : V} {d : α}, Same H H' → rel H v d → rel H' v d
def tx (l : List Nat) : Str := ⟨l.toArray⟩
theorem tx_cps (l : List Nat) : (tx l).cps.toList = l := by simp [tx]
theorem tx_len (l : List Nat) : (tx l).length = l.length := by
  show (tx l).cps.size = _
  simp [tx]
theorem tx_inj {a b : List Nat} (h : tx a = tx b) : a = b := by
  have e := congrArg (fun z : Str => z.cps.toList) h
  simpa [tx_cps] using e
theorem tx_of (z : Str) : z = tx z.cps.toList := by
  cases z
  simp [tx]
theorem tx_app (a b : List Nat) : tx a ++ tx b = tx (a ++ b) := by
  have e : tx a ++ tx b = (⟨(tx a).cps ++ (tx b).cps⟩ : Str) := rfl
  rw [e]
  simp [tx]
def rI : Rp Int := ⟨fun _ v i => v = .int i, fun _ h => h⟩
def rB : Rp Bool := ⟨fun _ v b => v = .bl b, fun _ h => h⟩
def rS : Rp (List Nat) := ⟨fun _ v l => v = .str (tx l), fun _ h => h⟩
def rV : Rp V := ⟨fun _ v x => v = x, fun _ h => h⟩
def rN : Rp Unit := ⟨fun _ v _ => v = .non, fun _ h => h⟩
theorem paired_mono {α : Type} (R : Rp α) {H H' : Hp} (s : Same H H') : ∀ {vs : List V} {xs : List α}, Paired (R.rel H) vs xs → Paired (R.rel H') vs xs
  | _, _, .nil => .nil
  | _, _, .cons a b => .cons (R.mono s a) (paired_mono R s b)
theorem seqT_mono {K : PySem.W.Frag} {H H' : Hp} {a : Addr} {xs : List V} (e : Same H H') (h : SqT K H a xs) : SqT K H' a xs := by
  rcases h with (h | ⟨o, h⟩) | h
  · exact .inl (.inl (e _ _ h))
  · exact .inl (.inr ⟨o, e _ _ h⟩)
  · exact .inr h
variable (K : PySem.W.Frag)
/-- a list | a tuple of such -/
def rL {α : Type} (R : Rp α) : Rp (List α) := ⟨fun H v xs => ∃ a vs, v = .ref a ∧ SqL K H a vs ∧ Paired (R.rel H) vs xs,
  fun s ⟨a, vs, e, h, p⟩ => ⟨a, vs, e, s.seq h, paired_mono R s p⟩⟩
def rT {α : Type} (R : Rp α) : Rp (List α) := ⟨fun H v xs => ∃ a vs, v = .ref a ∧ SqT K H a vs ∧ Paired (R.rel H) vs xs,
  fun s ⟨a, vs, e, h, p⟩ => ⟨a, vs, e, seqT_mono s h, paired_mono R s p⟩⟩
/-- a pair, a triple -/
def rP {α β : Type} (R : Rp α) (S : Rp β) : Rp (α × β) := ⟨fun H v p => ∃ a x y, v = .ref a ∧ SqT K H a [x, y] ∧ R.rel H x p.1 ∧ S.rel H y p.2,
  fun s ⟨a, x, y, e, h, p, q⟩ => ⟨a, x, y, e, seqT_mono s h, R.mono s p, S.mono s q⟩⟩
def rP3 {α β γ : Type} (R : Rp α) (S : Rp β) (T : Rp γ) : Rp (α × β × γ) := ⟨fun H v p => ∃ a x y z, v = .ref a ∧ SqT K H a [x, y, z] ∧ R.rel H x p.1 ∧ S.rel H y p.2.1 ∧ T.rel H z p.2.2,
  fun s ⟨a, x, y, z, e, h, p, q, r⟩ => ⟨a, x, y, z, e, seqT_mono s h, R.mono s p, S.mono s q, T.mono s r⟩⟩
/-- some or None -/
def rO {α : Type} (R : Rp α) : Rp (Option α) := ⟨fun H v o => (match o with | none => v = .non | some d => R.rel H v d), fun {H H' v d} s h => by
  cases d with
  | none => exact h
  | some d => exact R.mono s h⟩
variable {K : PySem.W.Frag}

/-! ### what evaluates to what, over a heap Hm that is known of the whole -/
/-- from what was known (Hm of H) to what is known now (Hm' of H'): what is newly known was known or is new -/
structure Xt (Hm H Hm' H' : Hp) : Prop where
  s : Same Hm Hm'
  i : Same Hm' H'
  k : Same H H'
  f : ∀ p, Hm' p ≠ none → Hm p ≠ none ∨ H p = none
theorem Xt.refl {Hm H : Hp} (h : Same Hm H) : Xt Hm H Hm H := ⟨Same.refl _, h, Same.refl _, fun _ h => .inl h⟩
theorem none_back {H H' : Hp} (k : Same H H') {p : Addr} (h : H' p = none) : H p = none := by
  cases e : H p with
  | none => rfl
  | some o =>
    rw [k p o e] at h
    cases h
theorem Xt.trans {Hm H Hm2 H2 Hm3 H3 : Hp} (a : Xt Hm H Hm2 H2) (b : Xt Hm2 H2 Hm3 H3) : Xt Hm H Hm3 H3 := ⟨a.s.trans b.s, b.i, a.k.trans b.k, fun p h => by
  rcases b.f p h with c | c
  · exact a.f p c
  · exact .inr (none_back a.k c)⟩
/-- a new object, known from now on -/
theorem Xt.new {Hm H : Hp} (h : Same Hm H) {p : Addr} {o : HO} (hp : H p = none) : Xt Hm H (upd Hm p o) (upd H p o) := ⟨fun b u e => by
  rw [upd_ne (ne_of_none (h b u e) hp)]
  exact e, fun b u e => by
  by_cases hb : b = p
  · subst hb
    rw [upd_same] at e ⊢
    exact e
  · rw [upd_ne hb] at e ⊢
    exact h b u e, fun b u e => by
  rw [upd_ne (ne_of_none e hp)]
  exact e, fun b e => by
  by_cases hb : b = p
  · subst hb
    exact .inr hp
  · rw [upd_ne hb] at e
    exact .inl e⟩
/-- both -/
def uni (A B : Hp) : Hp := fun p => match A p with
  | some o => some o
  | none => B p
theorem uni_l {A B : Hp} : Same A (uni A B) := fun p o e => by
  unfold uni
  rw [e]
theorem uni_r {A B H : Hp} (ha : Same A H) (hb : Same B H) : Same B (uni A B) := fun p o e => by
  unfold uni
  cases q : A p with
  | none => exact e
  | some u =>
    have e1 := ha p u q
    rw [hb p o e] at e1
    exact e1.symm ▸ rfl
theorem uni_in {A B H : Hp} (ha : Same A H) (hb : Same B H) : Same (uni A B) H := fun p o e => by
  unfold uni at e
  cases q : A p with
  | none =>
    rw [q] at e
    exact hb p o e
  | some u =>
    rw [q] at e
    exact ha p o (q.trans e)
theorem uni_or {A B : Hp} {p : Addr} (h : uni A B p ≠ none) : A p ≠ none ∨ B p ≠ none := by
  unfold uni at h
  cases q : A p with
  | none =>
    rw [q] at h
    exact .inr h
  | some u => exact .inl (by simp)
theorem Xt.lift {Hm H Hm2 Hm3 H3 : Hp} (a : Same Hm Hm2) (ha : Same Hm2 H) (b : Xt Hm H Hm3 H3) : Xt Hm2 H (uni Hm2 Hm3) H3 := ⟨uni_l, uni_in (ha.trans b.k) b.i, b.k, fun p h => by
  rcases uni_or h with c | c
  · exact .inl c
  · rcases b.f p c with d | d
    · refine .inl fun e => d ?_
      exact none_back a e
    · exact .inr d⟩
def Ev {α : Type} (te : TE) (σ : L2.St) (Hm : Hp) (R : Rp α) (d : α) : Prop := ∀ H1, Same Hm H1 → ∀ Q : VK, (∀ v Hm' H2, Xt Hm H1 Hm' H2 → R.rel Hm' v d → Q v H2) → te σ H1 Q
def Et (tt : TT) (σ : L2.St) (Hm : Hp) (b : Bool) : Prop := ∀ H1, Same Hm H1 → ∀ Q : Bool → Hp → Prop, (∀ Hm' H2, Xt Hm H1 Hm' H2 → Q b H2) → tt σ H1 Q
/-- arguments -/
structure Ar where
  rel : Hp → List V → Prop
  mono : ∀ {H H' : Hp} {vs : List V}, Same H H' → rel H vs → rel H' vs
def a0 : Ar := ⟨fun _ vs => vs = [], fun _ h => h⟩
def a1 {α : Type} (R : Rp α) (d : α) (A : Ar) : Ar := ⟨fun H vs => ∃ v ws, vs = v :: ws ∧ R.rel H v d ∧ A.rel H ws, fun s ⟨v, ws, e, h, k⟩ => ⟨v, ws, e, R.mono s h, A.mono s k⟩⟩
def Ea (ta : TA) (σ : L2.St) (Hm : Hp) (A : Ar) : Prop := ∀ H1, Same Hm H1 → ∀ Q : List V → Hp → Prop, (∀ vs Hm' H2, Xt Hm H1 Hm' H2 → A.rel Hm' vs → Q vs H2) → ta σ H1 Q
section
variable {σ : L2.St} {Hm Hm' : Hp} {α β γ : Type} {R : Rp α} {S : Rp β} {T : Rp γ} {ta tb te tc : TE} {t u : TT} {d : α} {e : β} {z : γ}
theorem Ev.mono {te : TE} (s : Same Hm Hm') (h : Ev te σ Hm R d) : Ev te σ Hm' R d := fun H1 hi Q q => h H1 (s.trans hi) Q fun v H3 H2 x r => q v _ H2 (Xt.lift s hi x) (R.mono (uni_r (hi.trans x.k) x.i) r)
theorem Et.mono {t : TT} {b : Bool} (s : Same Hm Hm') (h : Et t σ Hm b) : Et t σ Hm' b := fun H1 hi Q q => h H1 (s.trans hi) Q fun H3 H2 x => q _ H2 (Xt.lift s hi x)
theorem Ea.mono {ta : TA} {A : Ar} (s : Same Hm Hm') (h : Ea ta σ Hm A) : Ea ta σ Hm' A := fun H1 hi Q q => h H1 (s.trans hi) Q fun vs H3 H2 x r => q vs _ H2 (Xt.lift s hi x) (A.mono (uni_r (hi.trans x.k) x.i) r)
theorem Ev.is {d' : α} (h : Ev te σ Hm R d) (e : d = d') : Ev te σ Hm R d' := e ▸ h
theorem Et.is {b b' : Bool} (h : Et t σ Hm b) (e : b = b') : Et t σ Hm b' := e ▸ h
theorem ev_v {i : Nat} {v : V} (h : σ[i]? = some (some v)) (r : R.rel Hm v d) : Ev (tVar i) σ Hm R d := fun H1 hi _ q => ⟨v, h, q v Hm H1 (Xt.refl hi) r⟩
theorem ev_c {v : V} (r : ∀ H, R.rel H v d) : Ev (tC v) σ Hm R d := fun H1 hi _ q => q v Hm H1 (Xt.refl hi) (r Hm)
theorem ev_i {i : Int} : Ev (tC (.int i)) σ Hm rI i := ev_c fun _ => rfl
theorem ev_b {b : Bool} : Ev (tC (.bl b)) σ Hm rB b := ev_c fun _ => rfl
theorem ev_s {z : Str} : Ev (tC (.str z)) σ Hm rS z.cps.toList := ev_c fun _ => by
  show V.str z = V.str (tx z.cps.toList)
  rw [← tx_of]
theorem ev_n : Ev (tC .non) σ Hm rN () := ev_c fun _ => rfl
theorem ea_nil : Ea tNil σ Hm a0 := fun H1 hi _ q => q [] Hm H1 (Xt.refl hi) rfl
theorem ea_cons {tr : TA} {A : Ar} (h : Ev te σ Hm R d) (hr : Ea tr σ Hm A) : Ea (tCons te tr) σ Hm (a1 R d A) := fun H1 hi _ q =>
  h H1 hi _ fun v K2 H2 x2 r => hr.mono x2.s H2 x2.i _ fun ws K3 H3 x3 k => q (v :: ws) K3 H3 (x2.trans x3) ⟨v, ws, rfl, R.mono x3.s r, k⟩
/-- a two-place operation, a one-place one, a built-in by its values -/
def Rv (r : R2) (R : Rp α) (d : α) (S : Rp β) (e : β) (T : Rp γ) (z : γ) : Prop := ∀ Hm H1, Same Hm H1 → ∀ x y, R.rel Hm x d → S.rel Hm y e → ∀ Q : VK, (∀ v Hm' H2, Xt Hm H1 Hm' H2 → T.rel Hm' v z → Q v H2) → r x y H1 Q
def Rc (r : List V → Hp → VK → Prop) (A : Ar) (T : Rp γ) (z : γ) : Prop := ∀ Hm H1, Same Hm H1 → ∀ vs, A.rel Hm vs → ∀ Q : VK, (∀ v Hm' H2, Xt Hm H1 Hm' H2 → T.rel Hm' v z → Q v H2) → r vs H1 Q
theorem ev_op {r : R2} (ha : Ev ta σ Hm R d) (hb : Ev tb σ Hm S e) (hr : Rv r R d S e T z) : Ev (tOp r ta tb) σ Hm T z := fun H1 hi Q q =>
  ha H1 hi _ fun x K2 H2 x2 rx => hb.mono x2.s H2 x2.i _ fun y K3 H3 x3 ry => hr K3 H3 x3.i x y (R.mono x3.s rx) ry Q fun v K4 H4 x4 rv => q v K4 H4 ((x2.trans x3).trans x4) rv
/-- an operation without anything new -/
theorem rv_now {r : R2} (h : ∀ Hm H1, Same Hm H1 → ∀ x y, R.rel Hm x d → S.rel Hm y e → ∃ v, T.rel Hm v z ∧ ∀ Q : VK, Q v H1 → r x y H1 Q) : Rv r R d S e T z := fun Hm H1 hi x y rx ry Q q => by
  obtain ⟨v, rv, k⟩ := h Hm H1 hi x y rx ry
  exact k Q (q v Hm H1 (Xt.refl hi) rv)
theorem rc_now {r : List V → Hp → VK → Prop} {A : Ar} (h : ∀ Hm H1, Same Hm H1 → ∀ vs, A.rel Hm vs → ∃ v, T.rel Hm v z ∧ ∀ Q : VK, Q v H1 → r vs H1 Q) : Rc r A T z := fun Hm H1 hi vs rx Q q => by
  obtain ⟨v, rv, k⟩ := h Hm H1 hi vs rx
  exact k Q (q v Hm H1 (Xt.refl hi) rv)
theorem ev_cb {r : List V → Hp → VK → Prop} {ta : TA} {A : Ar} (h : Ea ta σ Hm A) (hr : Rc r A T z) : Ev (tCB r ta) σ Hm T z := fun H1 hi Q q =>
  h H1 hi _ fun vs K2 H2 x2 k => hr K2 H2 x2.i vs k Q fun v K3 H3 x3 rv => q v K3 H3 (x2.trans x3) rv
theorem rv_I0 {g : Int → Int → V} {i j : Int} (h : ∀ H, T.rel H (g i j) z) : Rv (L2.rI0 g) rI i rI j T z := rv_now fun Hm H1 _ x y rx ry => ⟨g i j, h Hm, fun Q q => ⟨i, j, rx, ry, q⟩⟩
theorem rv_I {C : Int → Int → Prop} {g : Int → Int → V} {i j : Int} (hc : C i j) (h : ∀ H, T.rel H (g i j) z) : Rv (L2.rI C g) rI i rI j T z := rv_now fun Hm H1 _ x y rx ry => ⟨g i j, h Hm, fun Q q => ⟨i, j, rx, ry, hc, q⟩⟩
theorem rv_i0 {g : Int → Int → Int} {i j : Int} : Rv (L2.rI0 fun i j => .int (g i j)) rI i rI j rI (g i j) := rv_I0 fun _ => rfl
theorem rv_b0 {g : Int → Int → Bool} {i j : Int} : Rv (L2.rI0 fun i j => .bl (g i j)) rI i rI j rB (g i j) := rv_I0 fun _ => rfl
theorem rv_ic {C : Int → Int → Prop} {g : Int → Int → Int} {i j : Int} (hc : C i j) : Rv (L2.rI C fun i j => .int (g i j)) rI i rI j rI (g i j) := rv_I hc fun _ => rfl
theorem rv_eqI {i j : Int} : Rv rEq rI i rI j rB (decide (i = j)) := rv_now fun Hm H1 _ x y rx ry => ⟨.bl (decide (i = j)), rfl, fun Q q => by
  rw [show x = V.int i from rx, show y = V.int j from ry]
  exact ⟨rfl, by rw [show decide (V.int i = V.int j) = decide (i = j) from by simp]; exact q⟩⟩
theorem rv_neI {i j : Int} : Rv rNe rI i rI j rB (!decide (i = j)) := rv_now fun Hm H1 _ x y rx ry => ⟨.bl (!decide (i = j)), rfl, fun Q q => by
  rw [show x = V.int i from rx, show y = V.int j from ry]
  exact ⟨rfl, by rw [show decide (V.int i = V.int j) = decide (i = j) from by simp]; exact q⟩⟩
theorem str_eq (a b : List Nat) : decide (V.str (tx a) = V.str (tx b)) = decide (a = b) := by
  by_cases h : a = b
  · subst h
    simp
  · have h2 : ¬ V.str (tx a) = V.str (tx b) := fun e => h (tx_inj (V.str.inj e))
    rw [decide_eq_false h, decide_eq_false h2]
theorem rv_eqS {a b : List Nat} : Rv rEq rS a rS b rB (decide (a = b)) := rv_now fun Hm H1 _ x y rx ry => ⟨.bl (decide (a = b)), rfl, fun Q q => by
  rw [show x = V.str (tx a) from rx, show y = V.str (tx b) from ry]
  exact ⟨rfl, by rw [str_eq]; exact q⟩⟩
theorem rv_neS {a b : List Nat} : Rv rNe rS a rS b rB (!decide (a = b)) := rv_now fun Hm H1 _ x y rx ry => ⟨.bl (!decide (a = b)), rfl, fun Q q => by
  rw [show x = V.str (tx a) from rx, show y = V.str (tx b) from ry]
  exact ⟨rfl, by rw [str_eq]; exact q⟩⟩
/-! ### calls -/
/-- a def that hands back data and leaves what was known -/
def SpF {ι : Type} (A : ι → Ar) (pre : ι → Prop) (R : ι → Rp β) (m : ι → β) : Sp := fun vs H Q _ => ∃ (x : ι) (Hm : Hp), pre x ∧ (A x).rel Hm vs ∧ Same Hm H ∧ ∀ v Hm' H2, Xt Hm H Hm' H2 → (R x).rel Hm' v (m x) → Q v H2
theorem ev_call {ι : Type} {A : ι → Ar} {pre : ι → Prop} {RR : ι → Rp β} {m : ι → β} {ta : TA} {E : XK} (x : ι) (hp : pre x) (h : Ea ta σ Hm (A x)) : Ev (tCall (SpF A pre RR m) [] E ta) σ Hm (RR x) (m x) := fun H1 hi Q q =>
  h H1 hi _ fun vs K2 H2 x2 k => ⟨x, K2, hp, by rw [List.append_nil]; exact k, x2.i, fun v K3 H3 x3 r => q v K3 H3 (x2.trans x3) r⟩
/-! ### tests -/
theorem et_test {b : Bool} (h : Ev te σ Hm rB b) : Et (tTest te) σ Hm b := fun H1 hi _ q => h H1 hi _ fun v K2 H2 x2 r => ⟨b, r, q K2 H2 x2⟩
theorem et_B {b : Bool} (h : Ev te σ Hm rB b) : Et (tB te) σ Hm b := fun H1 hi _ q => h H1 hi _ fun v K2 H2 x2 r => ⟨b, r, q K2 H2 x2⟩
theorem et_not {b : Bool} (h : Et t σ Hm b) : Et (tNot t) σ Hm (!b) := fun H1 hi _ q => h H1 hi _ fun K2 H2 x2 => q K2 H2 x2
theorem et_and {a b : Bool} (h1 : Et t σ Hm a) (h2 : a = true → Et u σ Hm b) : Et (tAnd t u) σ Hm (a && b) := fun H1 hi Q q => h1 H1 hi _ fun K2 H2 x2 => by
  cases a with
  | true => exact iteT ((h2 rfl).mono x2.s H2 x2.i Q fun K3 H3 x3 => q K3 H3 (x2.trans x3))
  | false => exact iteF (q K2 H2 x2)
theorem et_or {a b : Bool} (h1 : Et t σ Hm a) (h2 : a = false → Et u σ Hm b) : Et (tOr t u) σ Hm (a || b) := fun H1 hi Q q => h1 H1 hi _ fun K2 H2 x2 => by
  cases a with
  | true => exact iteT (q K2 H2 x2)
  | false => exact iteF ((h2 rfl).mono x2.s H2 x2.i Q fun K3 H3 x3 => q K3 H3 (x2.trans x3))
theorem ev_and {a b : Bool} (h1 : Ev ta σ Hm rB a) (h2 : a = true → Ev tb σ Hm rB b) : Ev (tAndV ta tb) σ Hm rB (a && b) := fun H1 hi Q q => h1 H1 hi _ fun v K2 H2 x2 r => ⟨a, r, by
  cases a with
  | true => exact iteT ((h2 rfl).mono x2.s H2 x2.i Q fun w K3 H3 x3 k => q w K3 H3 (x2.trans x3) k)
  | false => exact iteF (q _ K2 H2 x2 rfl)⟩
theorem ev_or {a b : Bool} (h1 : Ev ta σ Hm rB a) (h2 : a = false → Ev tb σ Hm rB b) : Ev (tOrV ta tb) σ Hm rB (a || b) := fun H1 hi Q q => h1 H1 hi _ fun v K2 H2 x2 r => ⟨a, r, by
  cases a with
  | true => exact iteT (q _ K2 H2 x2 rfl)
  | false => exact iteF ((h2 rfl).mono x2.s H2 x2.i Q fun w K3 H3 x3 k => q w K3 H3 (x2.trans x3) k)⟩
theorem ev_not {a : Bool} (h : Ev ta σ Hm rB a) : Ev (tNotV ta) σ Hm rB (!a) := fun H1 hi Q q => h H1 hi _ fun v K2 H2 x2 r => ⟨a, r, q _ K2 H2 x2 rfl⟩
theorem ev_if {b : Bool} (h : Et t σ Hm b) (h1 : b = true → Ev ta σ Hm R d) (h2 : b = false → Ev tb σ Hm R d) : Ev (tIf t ta tb) σ Hm R d := fun H1 hi Q q => h H1 hi _ fun K2 H2 x2 => by
  cases b with
  | true => exact iteT ((h1 rfl).mono x2.s H2 x2.i Q fun w K3 H3 x3 k => q w K3 H3 (x2.trans x3) k)
  | false => exact iteF ((h2 rfl).mono x2.s H2 x2.i Q fun w K3 H3 x3 k => q w K3 H3 (x2.trans x3) k)
/-! ### statements -/
variable {D : Ends} {t1 t2 tz : TS} {H : Hp}
theorem s_ret (h : Ev te σ Hm R d) (hi : Same Hm H) (k : ∀ v K1 H1, Xt Hm H K1 H1 → R.rel K1 v d → D.rt v H1) : tRet te D σ H := h H hi _ k
theorem s_set {i : Nat} (h : Ev te σ Hm R d) (hi : Same Hm H) (k : ∀ v K1 H1, Xt Hm H K1 H1 → R.rel K1 v d → D.nx (σ.set i (some v)) H1) : tAsg te (gName i) D σ H := h H hi _ k
theorem q_set {i : Nat} (h : Ev te σ Hm R d) (hi : Same Hm H) (k : ∀ v K1 H1, Xt Hm H K1 H1 → R.rel K1 v d → tz D (σ.set i (some v)) H1) : tSeq (tAsg te (gName i)) tz D σ H := s_set (D := { D with nx := tz D }) h hi k
theorem s_if {b : Bool} (h : Et t σ Hm b) (hi : Same Hm H) (h1 : b = true → ∀ K1 H1, Xt Hm H K1 H1 → t1 D σ H1) (h2 : b = false → ∀ K1 H1, Xt Hm H K1 H1 → t2 D σ H1) : tIfS t t1 t2 D σ H := h H hi _ fun K1 H1 x => by
  cases b with
  | true => exact iteT (h1 rfl K1 H1 x)
  | false => exact iteF (h2 rfl K1 H1 x)
theorem q_if {b : Bool} (h : Et t σ Hm b) (hi : Same Hm H) (h1 : b = true → ∀ K1 H1, Xt Hm H K1 H1 → t1 { D with nx := tz D } σ H1) (h2 : b = false → ∀ K1 H1, Xt Hm H K1 H1 → t2 { D with nx := tz D } σ H1) : tSeq (tIfS t t1 t2) tz D σ H := s_if (D := { D with nx := tz D }) h hi h1 h2
/-- if without else -/
theorem q_when {b : Bool} (h : Et t σ Hm b) (hi : Same Hm H) (h1 : b = true → ∀ K1 H1, Xt Hm H K1 H1 → t1 { D with nx := tz D } σ H1) (h2 : b = false → ∀ K1 H1, Xt Hm H K1 H1 → tz D σ H1) : tSeq (tIfS t t1 tNext) tz D σ H := s_if (D := { D with nx := tz D }) h hi h1 h2
end
end NJ

set_option Elab.async false
set_option linter.all false
set_option maxRecDepth 100000
set_option maxHeartbeats 2000000
/-! Further facts of the head; exceptions whose making asks nothing. -/
namespace NJ
open PySem PySem.Spec PyProof.Rows L2
/-! ### a Hook that reads further tests too -/
def obX (n : Nat) (fa : List He.Fa) (fn : List He.DefD) (xs : List (PySem.W.Frag → Bool)) (g : Addr → Option Obj) : Bool × He.AlD :=
  (xs.all fun f => f (He.frG g (He.asD g n)), He.obsDG n fa fn g)
structure SaysX (fa : List He.Fa) (fn : List He.DefD) (xs : List (PySem.W.Frag → Bool)) (K : PySem.W.Frag) : Prop where
  d : He.SaysD fa fn K
  x : (xs.all fun f => f K) = true
def hookX (n : Nat) (fa : List He.Fa) (fn : List He.DefD) (xs : List (PySem.W.Frag → Bool)) : PySem.W.Hook where
  α := Bool × He.AlD
  obs := fun s => obX n fa fn xs s.heap.get?
  val := fun _ => (true, He.valD fn)
  says := fun _ h => ∃ K : PySem.W.Frag, K.In h ∧ SaysX fa fn xs K
  of := fun _ s e => ⟨He.frG s.heap.get? (He.asD s.heap.get? n), He.frG_in, congrArg Prod.snd e, congrArg Prod.fst e⟩
  keeps := fun _ _ _ ⟨K, hK, c⟩ k => ⟨K, PySem.W.Frag.In.keeps hK k, c⟩
theorem obX_eq {n : Nat} {fa : List He.Fa} {fn : List He.DefD} {xs : List (PySem.W.Frag → Bool)} {g : Addr → Option Obj} {s : Shared} (h : ∀ a, g a = s.heap.get? a) : obX n fa fn xs g = (hookX n fa fn xs).obs s := by
  have e : g = s.heap.get? := funext h
  rw [e] <;> rfl
theorem SaysX.at {fa : List He.Fa} {fn : List He.DefD} {xs : List (PySem.W.Frag → Bool)} {K : PySem.W.Frag} (c : SaysX fa fn xs K) (i : Nat) {f : PySem.W.Frag → Bool} (h : xs[i]? = some f := by rfl) : f K = true :=
  List.all_eq_true.mp c.x f (List.mem_of_getElem? h)
/-! ### an own exception class over ValueError -/
def newB (sl : List (Option Value)) : Bool := match sl with
  | [_, _, _, _, some (.builtin n), _] => decide (n = "ValueError.__new__")
  | _ => false
def mroB (C : Addr) (l : List Value) : Bool := match l with
  | .ref D :: bm => decide (D = C) && PySem.HandSPX.refsVE bm
  | _ => false
def clsB (K : PySem.W.Frag) (C : Addr) : Bool := match K.lookup C with
  | some ⟨.type c, _, .cls cd, sl⟩ => decide (c = "type") && (mroB C cd.mro && (cd.hasDict && (!cd.hasDel && newB sl.toList)))
  | _ => false
def oexB (x : Str) (K : PySem.W.Frag) : Bool := clsB K (He.ga K x) && (He.eqO (PySem.W.findIn K (.ref (He.ga K x)) "__setattr__") (some (some (.builtin "object.__setattr__"))) && (decide (PySem.W.subIn K (.ref (He.ga K x)) (.type "BaseException") = some true) &&
  (decide (PySem.W.typeIn K (.ref (He.ga K x)) = some (.type "type")) && PySem.W.keepIn K (.ref (He.ga K x)))))
theorem newB_ok {sl : Array (Option Value)} (h : newB sl.toList = true) : ∃ k0 k1 k2 k3 k5, sl = #[k0, k1, k2, k3, some (.builtin "ValueError.__new__"), k5] := by
  obtain ⟨l⟩ := sl
  have h2 : newB l = true := h
  unfold newB at h2
  split at h2
  · rename_i k0 k1 k2 k3 n k5
    have e := of_decide_eq_true h2
    subst e
    exact ⟨k0, k1, k2, k3, k5, rfl⟩
  · cases h2
theorem clsB_ok {K : PySem.W.Frag} {C : Addr} (h : clsB K C = true) : ∃ nm q N bs bm sn sub ab col dd k0 k1 k2 k3 k5, K.lookup C = some (excClassObj nm q C N bs bm true sn sub ab col dd k0 k1 k2 k3 k5 "ValueError.__new__") ∧ PySem.HandSPX.refsVE bm = true := by
  unfold clsB at h
  split at h
  · rename_i c dd cd sl e
    obtain ⟨h1, h⟩ := He.ba h
    obtain ⟨h2, h⟩ := He.ba h
    obtain ⟨h3, h⟩ := He.ba h
    obtain ⟨h4, h5⟩ := He.ba h
    have ec := of_decide_eq_true h1
    subst ec
    obtain ⟨k0, k1, k2, k3, k5, es⟩ := newB_ok h5
    subst es
    unfold mroB at h2
    split at h2
    · rename_i D bm em
      obtain ⟨g1, g2⟩ := He.ba h2
      have eD := of_decide_eq_true g1
      subst eD
      obtain ⟨nm, bs, mro, ns, qn, hd, sn, sb, ab, col, del⟩ := cd
      dsimp only at em h3 h4
      subst em
      subst h3
      have hd2 : del = false := by
        cases del
        · rfl
        · cases h4
      subst hd2
      exact ⟨nm, qn, ns, bs, bm, sn, sb, ab, col, dd, k0, k1, k2, k3, k5, e, g2⟩
    · cases h2
  · cases h
theorem oexB_ok {x : Str} {K : PySem.W.Frag} (h : oexB x K = true) : OexC K (He.ga K x) := by
  obtain ⟨h1, h⟩ := He.ba h
  obtain ⟨h2, h⟩ := He.ba h
  obtain ⟨h3, h⟩ := He.ba h
  obtain ⟨h4, h5⟩ := He.ba h
  exact ⟨clsB_ok h1, He.eqO_ok h2, of_decide_eq_true h3, of_decide_eq_true h4, h5⟩
/-- its __init__ is the def at the class y's method -/
def inheritB (x y : Str) (K : PySem.W.Frag) : Bool := He.eqO (PySem.W.findIn K (.ref (He.ga K x)) "__init__") (some (some (.ref (He.ma K (He.ga K y) "__init__")))) && decide (PySem.W.typeIn K (.ref (He.ma K (He.ga K y) "__init__")) = some (.type "function"))
theorem inheritB_ok {x y : Str} {K : PySem.W.Frag} (h : inheritB x y K = true) : PySem.W.findIn K (.ref (He.ga K x)) "__init__" = some (some (.ref (He.ma K (He.ga K y) "__init__"))) ∧ PySem.W.typeIn K (.ref (He.ma K (He.ga K y) "__init__")) = some (.type "function") := by
  obtain ⟨h1, h2⟩ := He.ba h
  exact ⟨He.eqO_ok h1, of_decide_eq_true h2⟩
/-- instances of the class x are known by isinstance -/
def insB (x : Str) (K : PySem.W.Frag) : Bool := He.eqO (PySem.W.findIn K (.ref (He.ga K x)) "__class__") (some (some (.builtin "object.__class__"))) && (He.eqO (PySem.W.specialIn K (.builtin "object.__class__") "__get__") (some (some (.builtin "getset_descriptor.__get__"))) &&
  (decide (PySem.W.takesIn K (.builtin "object.__class__") = some true) && decide (PySem.W.mroIn K (He.ga K x) (.type "object") = some true)))
structure InsK (K : PySem.W.Frag) (C : Addr) : Prop where
  cl : Cls K C
  ha : PySem.W.findIn K (.ref C) "__class__" = some (some (.builtin "object.__class__"))
  hn : PySem.W.specialIn K (.builtin "object.__class__") "__get__" = some (some (.builtin "getset_descriptor.__get__"))
  ht : PySem.W.takesIn K (.builtin "object.__class__") = some true
  hm : PySem.W.mroIn K C (.type "object") = some true
theorem insB_ok {x : Str} {K : PySem.W.Frag} (h : insB x K = true) (c : Cls K (He.ga K x)) : InsK K (He.ga K x) := by
  obtain ⟨h1, h⟩ := He.ba h
  obtain ⟨h2, h⟩ := He.ba h
  obtain ⟨h3, h4⟩ := He.ba h
  exact ⟨c, He.eqO_ok h1, He.eqO_ok h2, of_decide_eq_true h3, of_decide_eq_true h4⟩
theorem InsK.ty {K : PySem.W.Frag} {C : Addr} (k : InsK K C) {H : Hp} {a dx : Addr} {fs : List (Str × V)} (e : H a = some (.ins C dx fs)) : TyX K H (.ref a) (.ref C) := .base (.ins e k.cl k.ha k.hn k.ht k.hm)
/-- what isinstance answers of an own class's instance and a class -/
def kitB2 (x : Str) (c : String) (b : Bool) (K : PySem.W.Frag) : Bool := decide (PySem.W.kitOne K (.ref (He.ga K x)) (.type c) = some b)
/-! ### an exception whose __init__ does nothing -/
/-- __init__(self): pass -/
def spPass : Sp := fun vs H Q _ => ∃ v, vs = [v] ∧ Q .non H
section
variable {X : Cx}
theorem un_gone {a : Addr} {o : HO} {H1 : Hp} {hp hp2 h2 G : Heap} {fr : List Addr} (hn : ∀ b ob, hp.get? b = some ob → b ≠ a) (kk : ∀ b o, hp.get? b = some o → hp2.get? b = some o) (un : Un fr [] (upd H1 a o) (upd H1 a o) hp2 h2) (gk : ∀ b, b ≠ a → G.get? b = h2.get? b) : Un fr [] H1 H1 hp G := by
  have up : ∀ {b : Addr}, b ≠ a → H1 b = none → upd H1 a o b = none := fun {b} hb n => by rw [upd_ne hb]; exact n
  refine ⟨fun b ob z n hf hx => ?_, fun b ob z n hf hx => ?_, fun b ob z n _ => n, fun b ob z hx => ?_, fun b xs z => z, fun b ob u z => z, fun b ps z => ⟨#[], by rw [z]; simp⟩⟩
  · rw [gk b (hn b ob z)]
    exact un.keep b ob (kk b ob z) (up (hn b ob z) n) hf hx
  · rw [gk b (hn b ob z)]
    exact un.slot b ob (kk b ob z) (up (hn b ob z) n) hf hx
  · rw [gk b (hn b ob z)]
    exact un.there b ob (kk b ob z) hx
theorem pmk_pass {CX : CXT} {x : Str} {C fI : Addr} {k : Nat} {fd : FuncData} {p pos : Pos} (T : OexC X.K C) (iC : PySem.W.findIn X.K (.ref C) "__init__" = some (some (.ref fI))) (tI : PySem.W.typeIn X.K (.ref fI) = some (.type "function"))
    (F1 : FnOk X.prog X.w X.K X.mg X.base CX k fI fd ["self"] spPass) (hr : Room (k + 1) X.A) (hb : Binds X.K fd ["self"] []) (hx : Passes CX X (fun _ _ _ => False)) (hg : Gl X x) (hm : X.mg x = some (.ref C))
    (hdb : (x == ("__debug__" : Str)) = false := by decide) : PMk X (.Call (.Name x p) [] [] pos) (fun _ H Q => Q (.ref C) none H) := by
  intro pins s σ H Q I h
  obtain ⟨nm, q, N, bs, bm, sn, sub, ab, col, dd, k0, k1, k2, k3, k5, hC, hbm⟩ := T.cls
  refine wpAny_Call_Name_kw (ld_glob I hg hm ?_ hdb)
  refine PySem.W.callWith_K0 I.kIn T.kC ?_
  obtain ⟨hp, g, dr, tk, os⟩ := s
  have old : ∀ b ob, hp.get? b = some ob → b ≠ hp.objs.size + 1 := fun b ob e => Nat.ne_of_lt (Nat.lt_succ_of_lt (Heap.lt_size e))
  have hn : H (hp.objs.size + 1) = none := I.hok.fresh (Nat.le_succ _)
  have kk : ∀ b o, hp.get? b = some o → ((hp.push (PySem.W.kdv_tup [])).push (PySem.HandSPX.excO C hp.objs.size)).get? b = some o := fun b o e => Heap.get?_push_of_some _ (Heap.get?_push_of_some _ e)
  have hget : ((hp.push (PySem.W.kdv_tup [])).push (PySem.HandSPX.excO C hp.objs.size)).get? (hp.objs.size + 1) = some (PySem.HandSPX.excO C hp.objs.size) := by heap_get
  have I2 : Inv X pins σ (upd H (hp.objs.size + 1) (exo (hp.objs.size + 1) C none)) ⟨(hp.push (PySem.W.kdv_tup [])).push (PySem.HandSPX.excO C hp.objs.size), g, dr, tk, os⟩ :=
    I.laid (t' := tk) (a := hp.objs.size + 1) (o := exo (hp.objs.size + 1) C none) (h' := (hp.push (PySem.W.kdv_tup [])).push (PySem.HandSPX.excO C hp.objs.size)) kk (Nat.le_succ _) (exo_ok hget)
  have hsp : spPass [V.ref (hp.objs.size + 1)] (upd H (hp.objs.size + 1) (exo (hp.objs.size + 1) C none)) (fun v H2 => v = .non ∧ H2 = upd H (hp.objs.size + 1) (exo (hp.objs.size + 1) C none)) (fun _ _ _ => False) := ⟨_, rfl, rfl, rfl⟩
  have hlim : ([] : List Value).length ≤ sizeLine := Nat.zero_le _
  refine wpAny_call (PySem.HandSPX.call_own F.excBase_ValueError (fun Y => PySem.HandSPX.refsVE_contains Y bm hbm) (I.kIn _ _ hC) (PySem.W.looks_findIn I.kIn iC) (fun self => PySem.W.bind_fn I.kIn self tI) hlim
    (codeAny_mono (F1.run _ X.stack _ _ ⟨[Value.ref (hp.objs.size + 1)], []⟩ [Value.ref (hp.objs.size + 1)] [V.ref (hp.objs.size + 1)] _ (fun _ _ _ => False) (hr.make C [] []) (I2.env0.make C [] []) (hb _ [Value.ref (hp.objs.size + 1)] I2.kIn rfl) (.cons rfl .nil) hsp) fun r s' hq' => ?_))
  cases r with
  | error er => exact hx pins σ _ _ er s' I2 hq'
  | ok fl =>
    cases fl with
    | ret u =>
      obtain ⟨v, H2, os2, bare2, un2, hok2, rv, ev, e2⟩ := hq'
      subst ev
      subst e2
      obtain ⟨h2, g2, d2, t2, os'⟩ := s'
      obtain ⟨t0, hoe⟩ := exo_at hok2 (upd_same (H := H) (a := hp.objs.size + 1) (o := exo (hp.objs.size + 1) C none))
      obtain ⟨G, g1', g2'⟩ := restrict h2 fun b => decide (b ≠ hp.objs.size + 1)
      have gk : ∀ b, b ≠ hp.objs.size + 1 → G.get? b = h2.get? b := fun b hb => g1' b (decide_eq_true hb)
      have ge : G.get? (hp.objs.size + 1) = none := g2' _ (by simp)
      have hok3 : HOk X.prog X.w H G := fun b o z => by
        have hba : b ≠ hp.objs.size + 1 := ne_of_none z hn
        have noa : ∀ {c : Addr}, (upd H (hp.objs.size + 1) (exo (hp.objs.size + 1) C none)) c = some (.own b) → c ≠ hp.objs.size + 1 := fun {c} hc e => by
          rw [e, upd_same] at hc
          exact exo_own (Option.some.inj hc)
        have z' : (upd H (hp.objs.size + 1) (exo (hp.objs.size + 1) C none)) b = some o := by rw [upd_ne hba]; exact z
        refine (hok2 b o z').stay (fun c v hc y => ?_) (fun c hc => ?_) (fun c xs hc => ?_)
        · have hca : c ≠ hp.objs.size + 1 := by
            rcases hc with hc | hc
            · rw [hc]
              exact hba
            · exact noa hc
          rw [gk c hca]
          exact y
        · rw [upd_ne (noa hc)] at hc
          exact hc
        · by_cases e : c = hp.objs.size + 1
          · rw [e, upd_same] at hc
            exact absurd (Option.some.inj hc) exo_tup
          · rw [upd_ne e] at hc
            exact hc
      have J : Inv X pins σ H ⟨G, g2, d2, t2, os'⟩ := I.call' (ch := []) os2 (un_gone old kk un2 gk) hok3 bare2 (fun b z => absurd z (by simp))
      exact ⟨rv, hp.objs.size + 1, _, _, ⟨G, g2, d2, t2, os'⟩, H, .ref C, none, rfl, J, fun b o z => by
        by_cases hb : b = hp.objs.size + 1
        · have z1 : G.get? b = some o := z
          rw [hb, ge] at z1
          cases z1
        · exact (gk b hb).symm.trans z, ge, hoe, ⟨rfl, rfl⟩, rfl, rfl, hn, rfl, bare2, raises_own T.exC T.tyC, h⟩
    | next => exact False.elim hq'
    | brk => exact False.elim hq'
    | cont => exact False.elim hq'
end
end NJ

set_option Elab.async false
set_option linter.all false
set_option maxRecDepth 100000
set_option maxHeartbeats 2000000
/-! Callable defs; walks, comprehensions and loops as evaluations. -/
namespace NJ
open PySem PySem.Spec PyProof.Rows L2
structure Fk (P : Program) (w : World) (K : PySem.W.Frag) (mg : Str → Option Value) (base : Heap) (CX : CXT) (k : Nat) (f : Addr) (ps : List Str) (sp : Sp) : Prop where
  ex : ∃ fd, FnOk P w K mg base CX k f fd ps sp ∧ L2.Binds K fd ps []
  kp : PySem.W.keepIn K (.ref f) = true
section
variable {X : Cx} {CX : CXT} {k : Nat} {f : Addr} {ps : List Str} {sp : Sp} {E : XK} {x : Str} {p pos : Pos} {e : Expr} {es : List Expr} {t : TA}
theorem pe_fk (F : Fk X.prog X.w X.K X.mg X.base CX k f ps sp) (hr : Room k X.A) (hm : X.mg x = some (.ref f)) (hx : Passes CX X E) (ha : PA X (e :: es) t) (hg : Gl X x := by rfl)
    (hdb : (x == ("__debug__" : Str)) = false := by decide) (he : starEach (e :: es) X.env = (false, eval e X.env) :: starEach es X.env := by rfl) (hpl : (backTo pos (starEach es X.env)).any (·.1) = false := by rfl) :
    PE X (.Call (.Name x p) (e :: es) [] pos) (tCall sp [] E t) := by
  obtain ⟨fd, G, b⟩ := F.ex
  exact pe_call G hr hg hm F.kp b .nil hx ha hdb he hpl
end
theorem none_of {Hm H Hm' H' : Hp} (x : Xt Hm H Hm' H') {p : Addr} (h : Hm p = none) {o : HO} (h2 : H p = some o) : Hm' p = none := by
  cases e : Hm' p with
  | none => rfl
  | some u =>
    rcases x.f p (by rw [e]; simp) with c | c
    · exact absurd h c
    · rw [h2] at c
      cases c
/-- an object that is not among the known ones may change -/
theorem same_mut {Hm H : Hp} (h : Same Hm H) {p : Addr} (hp : Hm p = none) {o : HO} : Same Hm (upd H p o) := fun b u e => by
  rw [upd_ne (ne_of_none e hp)]
  exact h b u e
section
variable {σ : L2.St} {Hm : Hp} {K : PySem.W.Frag} {α β : Type} {R : Rp α} {S : Rp β} {ta tb te tc tl : TE} {t u tt : TT} {d : α}
theorem paired_get {α β : Type} {F : α → β → Prop} : ∀ {l : List α} {m : List β}, Paired F l m → ∀ {i : Nat} {x : α}, l[i]? = some x → ∃ y, m[i]? = some y ∧ F x y
  | _, _, .nil, i, x, h => by simp at h
  | _, _, .cons (a := a) (b := b) r rs, 0, x, h => by
    have e : a = x := by simpa using h
    exact ⟨b, by simp, e ▸ r⟩
  | _, _, .cons r rs, i + 1, x, h => by
    obtain ⟨y, h1, h2⟩ := paired_get rs (i := i) (x := x) (by simpa using h)
    exact ⟨y, by simpa using h1, h2⟩
theorem paired_get' {α β : Type} {F : α → β → Prop} : ∀ {l : List α} {m : List β}, Paired F l m → ∀ {i : Nat} {y : β}, m[i]? = some y → ∃ x, l[i]? = some x ∧ F x y
  | _, _, .nil, i, x, h => by simp at h
  | _, _, .cons (a := a) (b := b) r rs, 0, x, h => by
    have e : b = x := by simpa using h
    exact ⟨a, by simp, e ▸ r⟩
  | _, _, .cons r rs, i + 1, x, h => by
    obtain ⟨y, h1, h2⟩ := paired_get' rs (i := i) (y := x) (by simpa using h)
    exact ⟨y, by simpa using h1, h2⟩
theorem paired_len {α β : Type} {F : α → β → Prop} : ∀ {l : List α} {m : List β}, Paired F l m → l.length = m.length
  | _, _, .nil => rfl
  | _, _, .cons _ rs => by simp [paired_len rs]
theorem paired_app {α β : Type} {F : α → β → Prop} : ∀ {l l' : List α} {m m' : List β}, Paired F l m → Paired F l' m' → Paired F (l ++ l') (m ++ m')
  | _, _, _, _, .nil, h => h
  | _, _, _, _, .cons a b, h => .cons a (paired_app b h)
/-! ### walks -/
/-- what a walk gives: the items xs, one by one -/
def Wi (J : It) (K2 : Hp) (R : Rp α) (xs : List α) : Prop := ∀ i H3, Same K2 H3 → (i < xs.length → J.go i H3) ∧ (xs.length ≤ i → J.stop i H3) ∧ (i < xs.length → ∀ v H4, J.yld i H3 v H4 → ∃ d K4, xs[i]? = some d ∧ Xt K2 H3 K4 H4 ∧ R.rel K4 v d)
def Wk (wi : TI) (σ : L2.St) (Hm : Hp) (R : Rp α) (xs : List α) : Prop := ∀ H1, Same Hm H1 → ∀ Rk : It → Hp → Prop, (∀ (J : It) K2 H2, Xt Hm H1 K2 H2 → Wi J K2 R xs → Rk J H2) → wi σ H1 Rk
theorem wk_list {xs : List α} (h : Ev tl σ Hm (rL K R) xs) : Wk (iList K tl) σ Hm R xs := fun H1 hi Rk q => h H1 hi _ fun v K2 H2 x2 ⟨a, vs, ev, hS, hP⟩ => ⟨a, ev, ⟨vs, x2.i.seq hS⟩, q _ K2 H2 x2 fun i H3 s3 => by
  have hS3 : SqL K H3 a vs := s3.seq hS
  have hl := paired_len hP
  refine ⟨fun hi => ?_, fun hi => ?_, fun hi v H4 hy => ?_⟩
  · obtain ⟨z, hz⟩ : ∃ z, vs[i]? = some z := ⟨_, List.getElem?_eq_getElem (by omega)⟩
    exact ⟨vs, z, hS3, hz⟩
  · exact ⟨vs, hS3, by omega⟩
  · obtain ⟨rfl, fv⟩ := hy
    obtain ⟨d, e1, e2⟩ := paired_get hP (fv vs hS3)
    exact ⟨d, K2, e1, Xt.refl s3, e2⟩⟩
theorem wk_tup {xs : List α} (h : Ev tl σ Hm (rT K R) xs) : Wk (iTup K tl) σ Hm R xs := fun H1 hi Rk q => h H1 hi _ fun v K2 H2 x2 ⟨a, vs, ev, hS, hP⟩ => ⟨a, ev, ⟨vs, seqT_mono x2.i hS⟩, q _ K2 H2 x2 fun i H3 s3 => by
  have hS3 : SqT K H3 a vs := seqT_mono s3 hS
  have hl := paired_len hP
  refine ⟨fun hi => ?_, fun hi => ?_, fun hi v H4 hy => ?_⟩
  · obtain ⟨z, hz⟩ : ∃ z, vs[i]? = some z := ⟨_, List.getElem?_eq_getElem (by omega)⟩
    exact ⟨vs, z, hS3, hz⟩
  · exact ⟨vs, hS3, by omega⟩
  · obtain ⟨rfl, fv⟩ := hy
    obtain ⟨d, e1, e2⟩ := paired_get hP (fv vs hS3)
    exact ⟨d, K2, e1, Xt.refl s3, e2⟩⟩
/-- the signs of a text -/
def rC : Rp Nat := ⟨fun _ v c => v = .str (tx [c]), fun _ h => h⟩
theorem wk_str {xs : List Nat} (h : Ev tl σ Hm rS xs) : Wk (iStr tl) σ Hm rC xs := fun H1 hi Rk q => h H1 hi _ fun v K2 H2 x2 ev => ⟨tx xs, ev, q _ K2 H2 x2 fun i H3 s3 => by
  have hz : (tx xs).cps.size = xs.length := by simp [tx]
  refine ⟨fun hi => ?_, fun hi => ?_, fun hi v H4 hy => ?_⟩
  · show i < (tx xs).cps.size
    omega
  · show (tx xs).cps.size ≤ i
    omega
  · obtain ⟨rfl, c, e1, e2⟩ := hy
    exact ⟨c, K2, by simpa [tx] using e1, Xt.refl s3, e2⟩⟩
def nums (n : Nat) : List Int := (List.range n).map fun (i : Nat) => (i : Int)
theorem nums_len (n : Nat) : (nums n).length = n := by simp [nums]
theorem nums_get {n i : Nat} (h : i < n) : (nums n)[i]? = some (i : Int) := by simp [nums, h]
theorem wk_rng {n : Int} {ta : TA} (h : Ea ta σ Hm (a1 rI n a0)) (h0 : n < 2 ^ 62) (h1 : -(2 ^ 62) ≤ n) : Wk (iRng1 ta) σ Hm rI (nums n.toNat) := fun H1 hi Rk q => h H1 hi _ fun vs K2 H2 x2 ⟨v, ws, e1, e2, e3⟩ => ⟨n, by rw [e1, show v = V.int n from e2, show ws = [] from e3], h1, h0, q _ K2 H2 x2 fun i H3 s3 => by
  have hl := nums_len n.toNat
  refine ⟨fun hi => ?_, fun hi => ?_, fun hi v H4 hy => ?_⟩
  · show i < n.toNat
    omega
  · show n.toNat ≤ i
    omega
  · obtain ⟨rfl, rfl⟩ := hy
    exact ⟨(i : Int), K2, nums_get (by omega), Xt.refl s3, by show V.int (0 + (i : Int)) = V.int (i : Int); rw [Int.zero_add]⟩⟩
/-! ### comprehensions -/
/-- the target takes the item v, leaving the slots σ2 -/
def Tk (g : TG) (σ : L2.St) (Hk : Hp) (v : V) (σ2 : L2.St) : Prop := ∀ H3, Same Hk H3 → ∀ Q : L2.St → Hp → Prop, Q σ2 H3 → g v σ H3 Q
theorem tk_name {j : Nat} {v : V} {Hk : Hp} : Tk (gName j) σ Hk v (σ.set j (some v)) := fun _ _ _ q => q
theorem filter_yes {xs : List α} {f : α → Bool} {i : Nat} {d : α} (h : xs[i]? = some d) (hf : f d = true) : (xs.take (i + 1)).filter f = (xs.take i).filter f ++ [d] := by
  rw [List.take_add_one, h, List.filter_append]
  simp [hf]
theorem filter_no {xs : List α} {f : α → Bool} {i : Nat} {d : α} (h : xs[i]? = some d) (hf : f d = false) : (xs.take (i + 1)).filter f = (xs.take i).filter f := by
  rw [List.take_add_one, h, List.filter_append]
  simp [hf]
structure Ci (K2 H2 : Hp) (D : Addr) (S : Rp β) (ys : List β) (Ki : Hp) (vs : List V) (H' : Hp) : Prop where
  s : Same K2 Ki
  i : Same Ki H'
  k : Same H2 H'
  f : ∀ p, Ki p ≠ none → K2 p ≠ none ∨ H2 p = none
  n : Ki D = none
  at_ : H' D = some (.lst vs)
  r : Paired (S.rel Ki) vs ys
theorem ev_lc {wi : TI} {g : TG} {vs : List Nat} {xs : List α} (f : α → Bool) (m : α → β) (hw : Wk wi σ Hm R xs) (hn : xs.length ≤ 16000000)
    (hb : ∀ d, d ∈ xs → ∀ v K3, Same Hm K3 → R.rel K3 v d → ∃ σ2, Tk g (wipe σ vs) K3 v σ2 ∧ wipe σ2 vs = wipe σ vs ∧ Et tt σ2 K3 (f d) ∧ (f d = true → Ev te σ2 K3 S (m d))) :
    Ev (tLc wi g tt te vs) σ Hm (rL K S) ((xs.filter f).map m) := fun H1 hi Q q => hw H1 hi _ fun J K2 H2 x2 hJ D hD => by
  have hKD : K2 D = none := none_back x2.i hD
  refine ⟨fun i mm H' => i + mm = xs.length ∧ ∃ Ki us, Ci K2 H2 D S (((xs.take i).filter f).map m) Ki us H', ⟨xs.length, by omega, K2, [], Same.refl _, same_mut x2.i hKD, same_mut (Same.refl _) hD, fun _ h => .inl h, hKD, upd_same, .nil⟩, ?_⟩
  rintro i mm H' ⟨em, Ki, us, c⟩
  obtain ⟨go, stop, yld⟩ := hJ i H' (c.s.trans c.i)
  have hul : us.length ≤ i := by
    rw [paired_len c.r, List.length_map]
    refine Nat.le_trans (List.length_filter_le _ _) ?_
    rw [List.length_take]
    exact Nat.min_le_left _ _
  by_cases hlt : i < xs.length
  · refine .inr ⟨go hlt, fun H'' => ∃ Ki us, Ci K2 H2 D S (((xs.take (i + 1)).filter f).map m) Ki us H'', fun H'' ⟨Ki2, us2, c2⟩ => ⟨mm - 1, by omega, by omega, Ki2, us2, c2⟩, fun v H4 hy => ?_⟩
    obtain ⟨d, K4, ed, x4, rv⟩ := yld hlt v H4 hy
    have x5 : Xt Ki H' (uni Ki K4) H4 := Xt.lift c.s c.i x4
    obtain ⟨σ2, htk, hwp, het, hev⟩ := hb d (List.mem_of_getElem? ed) v (uni Ki K4) ((x2.s.trans c.s).trans x5.s) (R.mono (uni_r (c.i.trans x4.k) x4.i) rv)
    refine htk H4 x5.i _ ⟨hwp, het H4 x5.i _ fun K6 H6 x6 => ?_⟩
    have y6 := x5.trans x6
    cases hf : f d with
    | true =>
      refine iteT ((hev hf).mono x6.s H6 x6.i _ fun y K7 H7 x7 ry => ?_)
      have y7 := y6.trans x7
      have hK7 : K7 D = none := none_of y7 c.n c.at_
      refine ⟨us, y7.k D _ c.at_, Nat.lt_of_le_of_lt hul (Nat.lt_of_lt_of_le hlt (Nat.le_trans hn (by rw [sizeLine_eq]; decide))), K7, us ++ [y], c.s.trans y7.s, same_mut y7.i hK7, fun b o e => ?_, fun p h => ?_, hK7, upd_same, ?_⟩
      · rw [upd_ne (ne_of_none e hD)]
        exact y7.k b o (c.k b o e)
      · rcases y7.f p h with z | z
        · exact c.f p z
        · exact .inr (none_back c.k z)
      · rw [filter_yes ed hf, List.map_append]
        exact paired_app (paired_mono S y7.s c.r) (.cons ry .nil)
    | false =>
      refine iteF ⟨K6, us, c.s.trans y6.s, y6.i, c.k.trans y6.k, fun p h => ?_, none_of y6 c.n c.at_, y6.k D _ c.at_, ?_⟩
      · rcases y6.f p h with z | z
        · exact c.f p z
        · exact .inr (none_back c.k z)
      · rw [filter_no ed hf]
        exact paired_mono S y6.s c.r
  · refine .inl ⟨stop (by omega), q (.ref D) (upd Ki D (.lst us)) H' (x2.trans ⟨fun b o e => ?_, fun b o e => ?_, c.k, fun p h => ?_⟩) ⟨D, us, rfl, .inl (.inl upd_same), ?_⟩⟩
    · rw [upd_ne (ne_of_none (c.s b o e) c.n)]
      exact c.s b o e
    · by_cases hb : b = D
      · subst hb
        rw [upd_same] at e
        rw [← e]
        exact c.at_
      · rw [upd_ne hb] at e
        exact c.i b o e
    · by_cases hb : p = D
      · subst hb
        exact .inr hD
      · rw [upd_ne hb] at h
        exact c.f p h
    · have hr := c.r
      rw [List.take_of_length_le (by omega)] at hr
      exact paired_mono S (fun b o e => by
        rw [upd_ne (ne_of_none e c.n)]
        exact e) hr
/-- without a test -/
theorem ev_lc0 {wi : TI} {g : TG} {vs : List Nat} {xs : List α} (m : α → β) (hw : Wk wi σ Hm R xs) (hn : xs.length ≤ 16000000)
    (hb : ∀ d, d ∈ xs → ∀ v K3, Same Hm K3 → R.rel K3 v d → ∃ σ2, Tk g (wipe σ vs) K3 v σ2 ∧ wipe σ2 vs = wipe σ vs ∧ Ev te σ2 K3 S (m d)) :
    Ev (tLc wi g tYes te vs) σ Hm (rL K S) (xs.map m) := by
  have h := ev_lc (K := K) (tt := tYes) (fun _ => true) m hw hn fun d hd v K3 s r => by
    obtain ⟨σ2, h1, h2, h3⟩ := hb d hd v K3 s r
    exact ⟨σ2, h1, h2, fun H1 hi Q q => q K3 H1 (Xt.refl hi), fun _ => h3⟩
  rw [List.filter_eq_self.mpr (fun _ _ => rfl)] at h
  exact h
/-! ### displays -/
theorem xt_ref {Hm H1 K2 H2 : Hp} (x : Xt Hm H1 K2 H2) {p : Addr} {o : HO} (hp : H2 p = none) : Xt Hm H1 (upd K2 p o) (upd H2 p o) := x.trans (Xt.new x.i hp)
/-- a list, a tuple of items alike -/
def aL (R : Rp α) : List α → Ar
  | [] => a0
  | d :: ds => a1 R d (aL R ds)
theorem aL_rel {R : Rp α} : ∀ {ds : List α} {H : Hp} {vs : List V}, (aL R ds).rel H vs → Paired (R.rel H) vs ds
  | [], H, vs, h => by
    have e : vs = [] := h
    rw [e]
    exact .nil
  | d :: ds, H, vs, h => by
    obtain ⟨v, ws, e, r, k⟩ := h
    rw [e]
    exact .cons r (aL_rel k)
theorem ev_lst {t : TA} {ds : List α} (h : Ea t σ Hm (aL R ds)) (hn : ds.length ≤ 16000000) : Ev (tLst t) σ Hm (rL K R) ds := fun H1 hi Q q => h H1 hi _ fun vs K2 H2 x2 r => by
  have hp := aL_rel r
  have hl := paired_len hp
  refine ⟨by rw [sizeLine_eq]; omega, fun p np => q (.ref p) _ _ (xt_ref x2 np) ⟨p, vs, rfl, .inl (.inl upd_same), paired_mono R (Xt.new x2.i np).s hp⟩⟩
theorem ev_tup {t : TA} {ds : List α} (h : Ea t σ Hm (aL R ds)) (hn : ds.length ≤ 16000000) : Ev (tTup t) σ Hm (rT K R) ds := fun H1 hi Q q => h H1 hi _ fun vs K2 H2 x2 r => by
  have hp := aL_rel r
  have hl := paired_len hp
  refine ⟨by rw [sizeLine_eq]; omega, fun p np => q (.ref p) _ _ (xt_ref x2 np) ⟨p, vs, rfl, .inl (.inl upd_same), paired_mono R (Xt.new x2.i np).s hp⟩⟩
theorem ev_pair {t : TA} {e : β} (h : Ea t σ Hm (a1 R d (a1 S e a0))) : Ev (tTup t) σ Hm (rP K R S) (d, e) := fun H1 hi Q q => h H1 hi _ fun vs K2 H2 x2 ⟨v, ws, e1, r1, v2, ws2, e2, r2, e3⟩ => by
  have e4 : vs = [v, v2] := by
    rw [e1, e2, show ws2 = [] from e3]
  subst e4
  exact ⟨by show 2 ≤ sizeLine; rw [sizeLine_eq]; decide, fun p np => q (.ref p) _ _ (xt_ref x2 np) ⟨p, v, v2, rfl, .inl (.inl upd_same), R.mono (Xt.new x2.i np).s r1, S.mono (Xt.new x2.i np).s r2⟩⟩
theorem ev_trip {γ : Type} {T : Rp γ} {t : TA} {e : β} {z : γ} (h : Ea t σ Hm (a1 R d (a1 S e (a1 T z a0)))) : Ev (tTup t) σ Hm (rP3 K R S T) (d, e, z) := fun H1 hi Q q => h H1 hi _ fun vs K2 H2 x2 ⟨v, ws, e1, r1, v2, ws2, e2, r2, v3, ws3, e3, r3, e4⟩ => by
  have e5 : vs = [v, v2, v3] := by
    rw [e1, e2, e3, show ws3 = [] from e4]
  subst e5
  exact ⟨by show 3 ≤ sizeLine; rw [sizeLine_eq]; decide, fun p np => q (.ref p) _ _ (xt_ref x2 np) ⟨p, v, v2, v3, rfl, .inl (.inl upd_same), R.mono (Xt.new x2.i np).s r1, S.mono (Xt.new x2.i np).s r2, T.mono (Xt.new x2.i np).s r3⟩⟩
/-! ### built-ins -/
theorem bls : ∀ {H : Hp} {vs : List V} {bs : List Bool}, Paired (rB.rel H) vs bs → vs = bs.map V.bl
  | _, _, _, .nil => rfl
  | H, _, _, .cons r rs => by
    rw [show _ = V.bl _ from r, bls rs] <;> rfl
theorem vints : ∀ {H : Hp} {vs : List V} {ns : List Int}, Paired (rI.rel H) vs ns → vs = ns.map V.int
  | _, _, _, .nil => rfl
  | H, _, _, .cons r rs => by
    rw [show _ = V.int _ from r, vints rs] <;> rfl
theorem vstrs : ∀ {H : Hp} {vs : List V} {ns : List (List Nat)}, Paired (rS.rel H) vs ns → vs = (ns.map tx).map V.str
  | _, _, _, .nil => rfl
  | H, _, _, .cons r rs => by
    rw [show _ = V.str _ from r, vstrs rs] <;> rfl
theorem rc_all {bs : List Bool} : Rc (rAll K) (a1 (rL K rB) bs a0) rB (bs.all id) := rc_now fun Hm H1 hi vs ⟨v, ws, e1, ⟨a, us, e2, hS, hP⟩, e3⟩ => ⟨.bl (bs.all id), rfl, fun Q q => ⟨a, bs, by rw [e1, e2, show ws = [] from e3], by rw [← bls hP]; exact hi.seq hS, q⟩⟩
theorem rc_any {bs : List Bool} : Rc (rAny K) (a1 (rL K rB) bs a0) rB (bs.any id) := rc_now fun Hm H1 hi vs ⟨v, ws, e1, ⟨a, us, e2, hS, hP⟩, e3⟩ => ⟨.bl (bs.any id), rfl, fun Q q => ⟨a, bs, by rw [e1, e2, show ws = [] from e3], by rw [← bls hP]; exact hi.seq hS, q⟩⟩
/-- len -/
abbrev rLen (K : PySem.W.Frag) : List V → Hp → VK → Prop := fun xs H Q => ∃ x n, xs = [x] ∧ LenV K x H n ∧ Q (.int n) H
theorem rc_lenS {l : List Nat} (h : l.length ≤ 16000000) : Rc (rLen K) (a1 rS l a0) rI (l.length : Int) := rc_now fun Hm H1 hi vs ⟨v, ws, e1, e2, e3⟩ => ⟨.int l.length, rfl, fun Q q => ⟨v, l.length, by rw [e1, show ws = [] from e3], by
  rw [show v = V.str (tx l) from e2]
  exact ⟨by rw [tx_len, sizeLine_eq]; omega, (tx_len l).symm⟩, q⟩⟩
theorem rc_lenL {xs : List α} : Rc (rLen K) (a1 (rL K R) xs a0) rI (xs.length : Int) := rc_now fun Hm H1 hi vs ⟨v, ws, e1, ⟨a, us, e2, hS, hP⟩, e3⟩ => ⟨.int xs.length, rfl, fun Q q => ⟨v, xs.length, by rw [e1, show ws = [] from e3], by
  rw [e2]
  exact .inl ⟨us, hi.seq hS, (paired_len hP).symm⟩, q⟩⟩
theorem rc_lenT {xs : List α} : Rc (rLen K) (a1 (rT K R) xs a0) rI (xs.length : Int) := rc_now fun Hm H1 hi vs ⟨v, ws, e1, ⟨a, us, e2, hS, hP⟩, e3⟩ => ⟨.int xs.length, rfl, fun Q q => ⟨v, xs.length, by rw [e1, show ws = [] from e3], by
  rw [e2]
  exact .inr ⟨us, seqT_mono hi hS, (paired_len hP).symm⟩, q⟩⟩
/-! ### isinstance -/
theorem tyx_mono {H H' : Hp} (s : Same H H') {v : V} {t : Value} (h : TyX K H v t) : TyX K H' v t := by
  cases h with
  | base b =>
    refine .base ?_
    cases b with
    | non => exact .non
    | bl x => exact .bl x
    | int i => exact .int i
    | str x => exact .str x
    | flt x => exact .flt x
    | lst e => exact .lst (s _ _ e)
    | frz e => exact .frz (s _ _ e)
    | tup e => exact .tup (s _ _ e)
    | dK e => exact .dK (s _ _ e)
    | dT e => exact .dT (s _ _ e)
    | ins e cl ha hn ht hm => exact .ins (s _ _ e) cl ha hn ht hm
  | byt b => exact .byt b
  | set e => exact .set (s _ _ e)
  | kList e c => exact .kList e c
  | kTuple e c => exact .kTuple e c
  | kDict e c => exact .kDict e c
  | fTuple e => exact .fTuple (s _ _ e)
  | fDict e => exact .fDict (s _ _ e)
/-- a thing of the type t -/
def rTy (K : PySem.W.Frag) : Rp Value := ⟨fun H v t => TyX K H v t, fun s h => tyx_mono s h⟩
theorem rc_isi {t : Value} {c : String} {b : Bool} (h : PySem.W.kitOne K t (.type c) = some b) : Rc (rIsi K) (a1 (rTy K) t (a1 rV (.ty c) a0)) rB b := rc_now fun Hm H1 hi vs ⟨v, ws, e1, e2, v2, ws2, e3, e4, e5⟩ => ⟨.bl b, rfl, fun Q q => ⟨v, .ty c, t, .type c, b, by rw [e1, e3, show ws2 = [] from e5, show v2 = V.ty c from e4], .ty c, tyx_mono hi e2, h, q⟩⟩
end
end NJ

set_option Elab.async false
set_option linter.all false
set_option maxRecDepth 100000
set_option maxHeartbeats 2000000
/-! Texts, lists, loops. -/
namespace NJ
open PySem PySem.Spec PyProof.Rows L2
section
variable {σ : L2.St} {Hm : Hp} {K : PySem.W.Frag} {α β : Type} {R : Rp α} {S : Rp β} {ta tb te tc tl : TE} {t u tt : TT} {d : α}
theorem sz16 {n : Nat} (h : n ≤ 16000000) : n ≤ sizeLine := Nat.le_trans h (by rw [sizeLine_eq]; decide)
theorem sz16' {n : Nat} (h : n < 16000000) : n < sizeLine := Nat.lt_of_lt_of_le h (by rw [sizeLine_eq]; decide)
/-! ### texts -/
abbrev rLeS : R2 := fun x y H Q => ∃ i j, x = .str i ∧ y = .str j ∧ Q (.bl (!decide (j.cps.toList < i.cps.toList))) H
abbrev rLtS : R2 := fun x y H Q => ∃ i j, x = .str i ∧ y = .str j ∧ Q (.bl (decide (i.cps.toList < j.cps.toList))) H
theorem rv_leS {a b : List Nat} : Rv rLeS rS a rS b rB (!decide (b < a)) := rv_now fun Hm H1 _ x y rx ry => ⟨.bl (!decide (b < a)), rfl, fun Q q => ⟨tx a, tx b, rx, ry, by rw [tx_cps, tx_cps]; exact q⟩⟩
theorem rv_ltS {a b : List Nat} : Rv rLtS rS a rS b rB (decide (a < b)) := rv_now fun Hm H1 _ x y rx ry => ⟨.bl (decide (a < b)), rfl, fun Q q => ⟨tx a, tx b, rx, ry, by rw [tx_cps, tx_cps]; exact q⟩⟩
abbrev rAddS : R2 := fun x y H Q => ∃ i j, x = .str i ∧ y = .str j ∧ i.length + j.length ≤ sizeLine ∧ Q (.str (i ++ j)) H
theorem rv_addS {a b : List Nat} (h : a.length + b.length ≤ 16000000) : Rv rAddS rS a rS b rS (a ++ b) := rv_now fun Hm H1 _ x y rx ry => ⟨.str (tx (a ++ b)), rfl, fun Q q => ⟨tx a, tx b, rx, ry, by rw [tx_len, tx_len]; exact sz16 h, by rw [tx_app]; exact q⟩⟩
/-- a sign as a text -/
theorem rs_of {H : Hp} {v : V} {c : Nat} (h : rC.rel H v c) : rS.rel H v [c] := h
theorem rv_ixS {l : List Nat} {i : Int} {j : Nat} {c : Nat} (hz : l.length ≤ 16000000) (hi : i = (j : Int)) (hc : l[j]? = some c) : Rv rIxS rS l rI i rS [c] := rv_now fun Hm H1 _ x y rx ry => ⟨.str (tx [c]), rfl, fun Q q => ⟨tx l, i, c, rx, ry, by rw [tx_len]; exact sz16 hz, by rw [tx_cps, hi]; exact atI_nat hc, q⟩⟩
/-- slices -/
def Eo (to : TO) (σ : L2.St) (Hm : Hp) (o : Option Int) : Prop := ∀ H1, Same Hm H1 → ∀ Q : Option Int → Hp → Prop, (∀ K2 H2, Xt Hm H1 K2 H2 → Q o H2) → to σ H1 Q
theorem eo_none : Eo tNoPart σ Hm none := fun H1 hi _ q => q Hm H1 (Xt.refl hi)
theorem eo_some {i : Int} (h : Ev te σ Hm rI i) : Eo (tPart te) σ Hm (some i) := fun H1 hi _ q => h H1 hi _ fun v K2 H2 x2 r => ⟨i, r, q K2 H2 x2⟩
theorem Eo.mono {to : TO} {o : Option Int} {Hm' : Hp} (s : Same Hm Hm') (h : Eo to σ Hm o) : Eo to σ Hm' o := fun H1 hi Q q => h H1 (s.trans hi) Q fun H3 H2 x => q _ H2 (Xt.lift s hi x)
def cut {γ : Type} (l : List γ) (lo hi : Option Int) : List γ := (l.drop (HT.sIx l.length 0 lo)).take (HT.sIx l.length l.length hi - HT.sIx l.length 0 lo)
theorem cut_len {γ : Type} (l : List γ) (lo hi : Option Int) : (cut l lo hi).length ≤ l.length := by
  unfold cut
  rw [List.length_take, List.length_drop]
  omega
theorem cut_take {γ : Type} (l : List γ) (k : Nat) : cut l none (some (k : Int)) = l.take k := by
  unfold cut
  rw [HT.sIx_none, HT.sIx_nat, List.drop_zero, Nat.sub_zero]
  rcases Nat.le_total k l.length with h | h
  · rw [Nat.min_eq_left h]
  · rw [Nat.min_eq_right h, List.take_of_length_le h, List.take_of_length_le (Nat.le_refl _)]
theorem cut_drop {γ : Type} (l : List γ) (k : Nat) : cut l (some (k : Int)) none = l.drop k := by
  unfold cut
  rw [HT.sIx_none, HT.sIx_nat]
  rcases Nat.le_total k l.length with h | h
  · rw [Nat.min_eq_left h, List.take_of_length_le (by rw [List.length_drop]; omega)]
  · rw [Nat.min_eq_right h, List.drop_of_length_le (Nat.le_refl _), List.drop_of_length_le h]
    simp
theorem ev_slS {to tp : TO} {l : List Nat} {lo hi : Option Int} (h : Ev te σ Hm rS l) (h1 : Eo to σ Hm lo) (h2 : Eo tp σ Hm hi) (hz : l.length ≤ 16000000) : Ev (tSl rSlS te to tp) σ Hm rS (cut l lo hi) := fun H1 hx Q q =>
  h H1 hx _ fun v K2 H2 x2 r => h1.mono x2.s H2 x2.i _ fun K3 H3 x3 => h2.mono (x2.trans x3).s H3 x3.i _ fun K4 H4 x4 => ⟨tx l, r, by rw [tx_len]; exact sz16 hz, by
    have e : cutS (tx l) lo hi = tx (cut l lo hi) := by
      unfold cutS cut tx
      simp [Str.length]
    rw [e]
    exact q _ K4 H4 ((x2.trans x3).trans x4) rfl⟩
theorem paired_drop {α β : Type} {F : α → β → Prop} : ∀ (n : Nat) {l : List α} {m : List β}, Paired F l m → Paired F (l.drop n) (m.drop n)
  | 0, _, _, h => h
  | _ + 1, _, _, .nil => .nil
  | n + 1, _, _, .cons _ h => paired_drop n h
theorem paired_take {α β : Type} {F : α → β → Prop} : ∀ (n : Nat) {l : List α} {m : List β}, Paired F l m → Paired F (l.take n) (m.take n)
  | 0, _, _, _ => .nil
  | _ + 1, _, _, .nil => .nil
  | n + 1, _, _, .cons a h => .cons a (paired_take n h)
theorem paired_cut {H : Hp} {vs : List V} {xs : List α} {lo hi : Option Int} (h : Paired (R.rel H) vs xs) : Paired (R.rel H) (cutV vs lo hi) (cut xs lo hi) := by
  unfold cutV cut
  rw [paired_len h]
  exact paired_take _ (paired_drop _ h)
theorem ev_slL {to tp : TO} {xs : List α} {lo hi : Option Int} (h : Ev te σ Hm (rL K R) xs) (h1 : Eo to σ Hm lo) (h2 : Eo tp σ Hm hi) : Ev (tSl (rSlL K) te to tp) σ Hm (rL K R) (cut xs lo hi) := fun H1 hx Q q =>
  h H1 hx _ fun v K2 H2 x2 ⟨a, vs, ev, hS, hP⟩ => h1.mono x2.s H2 x2.i _ fun K3 H3 x3 => h2.mono (x2.trans x3).s H3 x3.i _ fun K4 H4 x4 => ⟨a, vs, ev, ((x3.trans x4).s.trans x4.i).seq hS, fun p np =>
    q (.ref p) _ _ (xt_ref ((x2.trans x3).trans x4) np) ⟨p, cutV vs lo hi, rfl, .inl (.inl upd_same), paired_mono R ((x3.trans x4).s.trans (Xt.new x4.i np).s) (paired_cut hP)⟩⟩
theorem ev_slT {to tp : TO} {xs : List α} {lo hi : Option Int} (h : Ev te σ Hm (rT K R) xs) (h1 : Eo to σ Hm lo) (h2 : Eo tp σ Hm hi) : Ev (tSl (rSlA K) te to tp) σ Hm (rT K R) (cut xs lo hi) := fun H1 hx Q q =>
  h H1 hx _ fun v K2 H2 x2 ⟨a, vs, ev, hS, hP⟩ => h1.mono x2.s H2 x2.i _ fun K3 H3 x3 => h2.mono (x2.trans x3).s H3 x3.i _ fun K4 H4 x4 => ⟨a, vs, ev, seqT_mono ((x3.trans x4).s.trans x4.i) hS, fun ⟨e1, e2⟩ =>
    q (.ref a) K4 H4 ((x2.trans x3).trans x4) ⟨a, vs, rfl, seqT_mono (x3.trans x4).s hS, by
      have e : cut xs lo hi = xs := by
        have hl := paired_len hP
        unfold cut
        rw [← hl, e1, e2, List.drop_zero, Nat.sub_zero, hl, List.take_of_length_le (Nat.le_refl _)]
      rw [e]
      exact paired_mono R (x3.trans x4).s hP⟩, fun _ p np =>
    q (.ref p) _ _ (xt_ref ((x2.trans x3).trans x4) np) ⟨p, cutV vs lo hi, rfl, .inl (.inl upd_same), paired_mono R ((x3.trans x4).s.trans (Xt.new x4.i np).s) (paired_cut hP)⟩⟩
/-! ### items -/
theorem rv_ixL {xs : List α} {i : Int} {j : Nat} (hi : i = (j : Int)) (hd : xs[j]? = some d) : Rv (rIxL K) (rL K R) xs rI i R d := rv_now fun Hm H1 hx x y ⟨a, vs, ev, hS, hP⟩ ry => by
  obtain ⟨v, e1, e2⟩ := paired_get' hP hd
  exact ⟨v, e2, fun Q q => ⟨a, vs, i, v, ev, ry, hx.seq hS, by rw [hi]; exact atI_nat e1, q⟩⟩
theorem rv_ixT {xs : List α} {i : Int} {j : Nat} (hi : i = (j : Int)) (hd : xs[j]? = some d) : Rv (rIxT K) (rT K R) xs rI i R d := rv_now fun Hm H1 hx x y ⟨a, vs, ev, hS, hP⟩ ry => by
  obtain ⟨v, e1, e2⟩ := paired_get' hP hd
  exact ⟨v, e2, fun Q q => ⟨a, vs, i, v, ev, ry, seqT_mono hx hS, by rw [hi]; exact atI_nat e1, q⟩⟩
/-! ### zip -/
theorem wk_zip {ta : TA} {xs : List α} {ys : List β} (h : Ea ta σ Hm (a1 (rL K R) xs (a1 (rL K S) ys a0))) : Wk (iZip K ta) σ Hm (rP K R S) (xs.zip ys) := fun H1 hi Rk q => h H1 hi _ fun vs K2 H2 x2 ⟨v, ws, e1, ⟨a, us, ea, hS, hP⟩, v2, ws2, e2, ⟨b, us2, eb, hS2, hP2⟩, e3⟩ =>
  ⟨a, b, us, us2, by rw [e1, e2, ea, eb, show ws2 = [] from e3], x2.i.seq hS, x2.i.seq hS2, q _ K2 H2 x2 fun i H3 s3 => by
    have g1 : SqL K H3 a us := s3.seq hS
    have g2 : SqL K H3 b us2 := s3.seq hS2
    have l1 := paired_len hP
    have l2 := paired_len hP2
    have lz : (xs.zip ys).length = min us.length us2.length := by rw [List.length_zip, l1, l2]
    refine ⟨fun hi => ?_, fun hi => ?_, fun hi v H4 hy => ?_⟩
    · exact ⟨us, us2, _, _, g1, g2, List.getElem?_eq_getElem (by omega), List.getElem?_eq_getElem (by omega)⟩
    · exact ⟨us, us2, g1, g2, by omega⟩
    · obtain ⟨T, x, y, rfl, nT, rfl, f1, f2⟩ := hy
      obtain ⟨dx, e1, r1⟩ := paired_get hP (f1 us g1)
      obtain ⟨dy, e2, r2⟩ := paired_get hP2 (f2 us2 g2)
      exact ⟨(dx, dy), _, by rw [List.getElem?_zip_eq_some]; exact ⟨e1, e2⟩, Xt.new s3 nT, T, x, y, rfl, .inl (.inl upd_same), R.mono (Xt.new s3 nT).s r1, S.mono (Xt.new s3 nT).s r2⟩⟩
theorem wk_zipT {ta : TA} {xs : List α} {ys : List β} (h : Ea ta σ Hm (a1 (rT K R) xs (a1 (rT K S) ys a0))) : Wk (RZ.iZipA K ta) σ Hm (rP K R S) (xs.zip ys) := fun H1 hi Rk q => h H1 hi _ fun vs K2 H2 x2 ⟨v, ws, e1, ⟨a, us, ea, hS, hP⟩, v2, ws2, e2, ⟨b, us2, eb, hS2, hP2⟩, e3⟩ =>
  ⟨a, b, us, us2, by rw [e1, e2, ea, eb, show ws2 = [] from e3], .inr ⟨seqT_mono x2.i hS, seqT_mono x2.i hS2, q _ K2 H2 x2 fun i H3 s3 => by
    have g1 : SqT K H3 a us := seqT_mono s3 hS
    have g2 : SqT K H3 b us2 := seqT_mono s3 hS2
    have l1 := paired_len hP
    have l2 := paired_len hP2
    have lz : (xs.zip ys).length = min us.length us2.length := by rw [List.length_zip, l1, l2]
    refine ⟨fun hi => ?_, fun hi => ?_, fun hi v H4 hy => ?_⟩
    · exact ⟨us, us2, _, _, g1, g2, List.getElem?_eq_getElem (by omega), List.getElem?_eq_getElem (by omega)⟩
    · exact ⟨us, us2, g1, g2, by omega⟩
    · obtain ⟨T, x, y, rfl, nT, rfl, f1, f2⟩ := hy
      obtain ⟨dx, e1, r1⟩ := paired_get hP (f1 us g1)
      obtain ⟨dy, e2, r2⟩ := paired_get hP2 (f2 us2 g2)
      exact ⟨(dx, dy), _, by rw [List.getElem?_zip_eq_some]; exact ⟨e1, e2⟩, Xt.new s3 nT, T, x, y, rfl, .inl (.inl upd_same), R.mono (Xt.new s3 nT).s r1, S.mono (Xt.new s3 nT).s r2⟩⟩⟩
/-- a pair, a triple taken apart into names -/
theorem tk_pair {i j : Nat} {v : V} {Hk : Hp} {p : α × β} (h : (rP K R S).rel Hk v p) : ∃ x y, R.rel Hk x p.1 ∧ S.rel Hk y p.2 ∧ Tk (gTup K 2 (gCons (gName i) (gCons (gName j) gNil))) σ Hk v ((σ.set i (some x)).set j (some y)) := by
  obtain ⟨a, x, y, e, hS, r1, r2⟩ := h
  exact ⟨x, y, r1, r2, fun H3 s Q q => ⟨a, [x, y], e, seqT_mono s hS, rfl, x, [y], rfl, y, [], rfl, rfl, q⟩⟩
theorem tk_trip {γ : Type} {T : Rp γ} {i j k : Nat} {v : V} {Hk : Hp} {p : α × β × γ} (h : (rP3 K R S T).rel Hk v p) : ∃ x y z, R.rel Hk x p.1 ∧ S.rel Hk y p.2.1 ∧ T.rel Hk z p.2.2 ∧ Tk (gTup K 3 (gCons (gName i) (gCons (gName j) (gCons (gName k) gNil)))) σ Hk v (((σ.set i (some x)).set j (some y)).set k (some z)) := by
  obtain ⟨a, x, y, z, e, hS, r1, r2, r3⟩ := h
  exact ⟨x, y, z, r1, r2, r3, fun H3 s Q q => ⟨a, [x, y, z], e, seqT_mono s hS, rfl, x, [y, z], rfl, y, [z], rfl, z, [], rfl, rfl, q⟩⟩
/-! ### loops -/
variable {D : Ends} {t1 t2 tz : TS} {H : Hp} {g : TG} {wi : TI}
theorem s_for {xs : List α} (hw : Wk wi σ Hm R xs) (hi : Same Hm H)
    (h : ∀ K2 H2, Xt Hm H K2 H2 → ∃ Pv : Nat → L2.St → Hp → Prop, Pv 0 σ H2 ∧ (∀ i σ' H', Pv i σ' H' → Same K2 H') ∧
      (∀ i d σ' H' v K4 H4, xs[i]? = some d → Pv i σ' H' → Xt K2 H' K4 H4 → R.rel K4 v d → g v σ' H4 fun σ2 H5 => t1 { D with nx := Pv (i + 1), ct := Pv (i + 1), bk := D.nx } σ2 H5) ∧
      ∀ σ' H', Pv xs.length σ' H' → D.nx σ' H') : tFor wi g t1 D σ H := hw H hi _ fun J K2 H2 x2 hJ => by
  obtain ⟨Pv, p0, ps, pt, pe⟩ := h K2 H2 x2
  refine ⟨fun i m σ' H' => i + m = xs.length ∧ Pv i σ' H', ⟨xs.length, by omega, p0⟩, ?_⟩
  rintro i m σ' H' ⟨em, p⟩
  obtain ⟨go, stop, yld⟩ := hJ i H' (ps i σ' H' p)
  by_cases hlt : i < xs.length
  · refine .inr ⟨go hlt, Pv (i + 1), fun σ2 H3 p2 => ⟨m - 1, by omega, by omega, p2⟩, fun v H4 hy => ?_⟩
    obtain ⟨d, K4, ed, x4, rv⟩ := yld hlt v H4 hy
    exact pt i d σ' H' v K4 H4 ed p x4 rv
  · have e : i = xs.length := by omega
    subst e
    exact .inl ⟨stop (Nat.le_refl _), pe σ' H' p⟩
theorem q_for {xs : List α} (hw : Wk wi σ Hm R xs) (hi : Same Hm H)
    (h : ∀ K2 H2, Xt Hm H K2 H2 → ∃ Pv : Nat → L2.St → Hp → Prop, Pv 0 σ H2 ∧ (∀ i σ' H', Pv i σ' H' → Same K2 H') ∧
      (∀ i d σ' H' v K4 H4, xs[i]? = some d → Pv i σ' H' → Xt K2 H' K4 H4 → R.rel K4 v d → g v σ' H4 fun σ2 H5 => t1 { D with nx := Pv (i + 1), ct := Pv (i + 1), bk := tz D } σ2 H5) ∧
      ∀ σ' H', Pv xs.length σ' H' → tz D σ' H') : tSeq (tFor wi g t1) tz D σ H := s_for (D := { D with nx := tz D }) hw hi h
/-- xs.append(e), xs a list of one's own -/
theorem s_app {i : Nat} {l : Addr} {us : List V} (hv : σ[i]? = some (some (.ref l))) (ha : H l = some (.lst us)) (h : Ev te σ Hm R d) (hi : Same Hm H) (hz : us.length < 16000000)
    (k : ∀ v K1 H1, Xt Hm H K1 H1 → R.rel K1 v d → D.nx σ (upd H1 l (.lst (us ++ [v])))) : tDrop (tBM K "list" rAppend (tVar i) (tCons te tNil)) D σ H :=
  ⟨.ref l, hv, .inl ⟨rfl, us, .inl (.inl ha)⟩, h H hi _ fun v K1 H1 x r => ⟨l, us, v, rfl, rfl, x.k l _ ha, sz16' hz, k v K1 H1 x r⟩⟩
theorem q_app {i : Nat} {l : Addr} {us : List V} (hv : σ[i]? = some (some (.ref l))) (ha : H l = some (.lst us)) (h : Ev te σ Hm R d) (hi : Same Hm H) (hz : us.length < 16000000)
    (k : ∀ v K1 H1, Xt Hm H K1 H1 → R.rel K1 v d → tz D σ (upd H1 l (.lst (us ++ [v])))) : tSeq (tDrop (tBM K "list" rAppend (tVar i) (tCons te tNil))) tz D σ H := s_app (D := { D with nx := tz D }) hv ha h hi hz k
end
end NJ

set_option Elab.async false
set_option linter.all false
set_option maxRecDepth 100000
set_option maxHeartbeats 4000000
/-! Sets of ints and texts: made of a list, sorted. -/
namespace NJ
open PySem PySem.Spec PyProof.Rows L2
def kOf : Value → Key
  | .int i _ => .inl i
  | .str x _ => .inr x
  | _ => .inl 0
theorem kOf_is {k : Key} {v : Value} (h : keyIs k v = true) : kOf v = k := by
  rcases keyIs_shape h with ⟨i, t, rfl, rfl⟩ | ⟨x, t, rfl, rfl⟩ <;> rfl
theorem is_kOf {k j : Key} {v : Value} (h : keyIs k v = true) : keyIs j v = true ↔ k = j := by
  constructor
  · intro g
    rw [← kOf_is h, ← kOf_is g]
  · intro e
    rw [← e]
    exact h
theorem key_scans {k : Key} {v : Value} (h : keyIs k v = true) : v.scannable = true := by
  rcases keyIs_shape h with ⟨i, t, rfl, rfl⟩ | ⟨x, t, rfl, rfl⟩ <;> rfl
/-- what stands in such a set's table -/
structure TabK (w : World) (es : Array (Int × Value)) (t : SetTable) (l : List Key) : Prop where
  good : ∀ e ∈ es.toList, ∃ k, keyIs k e.2 = true ∧ e.1 = keyH w k
  nd : (es.toList.map fun e => kOf e.2).Nodup
  mem : ∀ k, k ∈ l ↔ k ∈ es.toList.map fun e => kOf e.2
  few : es.size < scanBound
  fits : t.fits es.size = true
  ris : L2.Ris t.place.toList
  led : w.params.followText "set-order" = true ∨ t.led = true
def SetKR (w : World) (h : Heap) (a : Addr) (l : List Key) (n : Nat) : Prop := ∃ o es ep t, h.get? a = some o ∧ o.ExactSet ∧ o.data = .set es ep t ∧ es.size = n ∧ TabK w es t l
section
variable {P : Program} {w : World} {h h' : Heap} {a : Addr} {l : List Key} {n : Nat} {es : Array (Int × Value)} {t : SetTable}
theorem TabK.elems (T : TabK w es t l) : ElemsOf (mixKind P w) es.toList := fun e he => by
  obtain ⟨k, h1, h2⟩ := T.good e he
  exact ⟨⟨k, h1, h2⟩, key_scans h1⟩
theorem TabK.has (T : TabK w es t l) (k : Key) : k ∈ l ↔ ∃ e ∈ es.toList, keyIs k e.2 = true := by
  rw [T.mem k, List.mem_map]
  constructor
  · rintro ⟨e, he, q⟩
    obtain ⟨j, h1, _⟩ := T.good e he
    exact ⟨e, he, by rw [← q, kOf_is h1]; exact h1⟩
  · rintro ⟨e, he, q⟩
    exact ⟨e, he, kOf_is q⟩
theorem SetKR.stay (R : SetKR w h a l n) (k : ∀ o, h.get? a = some o → h'.get? a = some o) : SetKR w h' a l n := by
  obtain ⟨o, es, ep, t, ho, r⟩ := R
  exact ⟨o, es, ep, t, k o ho, r⟩
theorem TabK.same {l' : List Key} (T : TabK w es t l) (e : ∀ k, k ∈ l' ↔ k ∈ l) : TabK w es t l' := ⟨T.good, T.nd, fun k => (e k).trans (T.mem k), T.few, T.fits, T.ris, T.led⟩
theorem tabK_nil : TabK w #[] (.fresh 0 0 (!w.params.followText "set-order")) [] := ⟨fun e he => by simp at he, by simp, fun k => by simp, by decide, by rfl, List.Pairwise.nil, by
  show _ ∨ (!w.params.followText "set-order") = true
  cases w.params.followText "set-order" with
  | true => exact .inl rfl
  | false => exact .inr rfl⟩
/-- the entries in another order, with another table -/
theorem TabK.turn {es2 : Array (Int × Value)} {t2 : SetTable} (T : TabK w es t l) (pm : es2.toList.Perm es.toList) (hf : t2.fits es2.size = true) (hr : L2.Ris t2.place.toList) (hl : t2.led = t.led) : TabK w es2 t2 l := by
  have hz : es2.size = es.size := by rw [← Array.length_toList, pm.length_eq, Array.length_toList]
  have pk := pm.map fun e : Int × Value => kOf e.2
  exact ⟨fun e he => T.good e (pm.mem_iff.mp he), pk.nodup_iff.mpr T.nd, fun k => (T.mem k).trans pk.mem_iff.symm, by rw [hz]; exact T.few, hf, hr, T.led.imp id fun z => by rw [hl]; exact z⟩
/-- one entry more -/
theorem TabK.more {es1 : Array (Int × Value)} {t1 : SetTable} {k : Key} {v : Value} (T : TabK w es t l) (hk : keyIs k v = true) (hn : k ∉ l) (pc : es1.toList.Perm ((keyH w k, v) :: es.toList)) (hz : es1.size < scanBound) (hf : t1.fits es1.size = true) (hr : L2.Ris t1.place.toList)
    (hl : t1.led = t.led) : TabK w es1 t1 (l ++ [k]) := by
  have pk : (es1.toList.map fun e => kOf e.2).Perm (k :: es.toList.map fun e => kOf e.2) := by
    have q := pc.map fun e : Int × Value => kOf e.2
    rw [List.map_cons] at q
    have e : kOf v = k := kOf_is hk
    rw [show kOf ((keyH w k, v) : Int × Value).2 = k from e] at q
    exact q
  refine ⟨fun e he => ?_, pk.nodup_iff.mpr (List.nodup_cons.mpr ⟨fun z => hn ((T.mem k).mpr z), T.nd⟩), fun j => ?_, hz, hf, hr, T.led.imp id fun z => by rw [hl]; exact z⟩
  · rcases List.mem_cons.mp (pc.mem_iff.mp he) with z | z
    · rw [z]
      exact ⟨k, hk, rfl⟩
    · exact T.good e z
  · rw [List.mem_append, List.mem_singleton, pk.mem_iff, List.mem_cons, T.mem j]
    exact Or.comm
end
section
variable {P : Program} {w : World} {A : Around} {E : Value → Shared → Prop} {s : Shared} {a : Addr} {l : List Key} {n : Nat}
/-- the table is laid, and laid anew where it is too full -/
theorem lay_tail {g : Bool → Sem Unit} (hg : ∀ (b : Bool) (s₁ : Shared) (Q' : Unit → Shared → Prop), Q' () s₁ → wpAny (model P w) A (g b) Q' E s₁) {o : Obj} {es es1 : Array (Int × Value)} {ep : Nat} {t t2 : SetTable} (ho : s.heap.get? a = some o) (hex : o.ExactSet) (hd : o.data = .set es ep t)
    (T : TabK w es1 t2 l) {wasDummy : Bool} {R : Option Bool → Shared → Prop} (hR : ∀ h', Heap.SameBut a s.heap h' → SetKR w h' a l es1.size → R (some true) { s with heap := h' }) :
    wpAny (model P w) A (do
        storeSet a es1 t2
        if (!wasDummy && t2.tooFull) = true then do
            g (relayAll t2 es1 (SetTable.grown es1.size)).2.2
            storeSet a (relayAll t2 es1 (SetTable.grown es1.size)).1 (relayAll t2 es1 (SetTable.grown es1.size)).2.1
            pure (some true)
          else pure (some true)) R E s := by
  refine wpAny_bind (wpAny_storeSet_of ho hd ?_ (fits_of_scanBound T.few))
  have h1 := store_at (es' := es1) (t' := t2) ho hd
  have b1 := Heap.SameBut.update s.heap a (Obj.putSet es1 t2)
  split
  · have pm := relayAll_perm t2 es1 (SetTable.grown es1.size)
    have f3 := relayAll_fits t2 es1 (SetTable.grown es1.size)
    have r3 := relayAll_ris t2 es1 (SetTable.grown es1.size)
    have l3 := relayAll_led t2 es1 (SetTable.grown es1.size)
    generalize relayAll t2 es1 (SetTable.grown es1.size) = Z at pm f3 r3 l3 ⊢
    obtain ⟨es2, t3, gave⟩ := Z
    have T3 := T.turn pm f3 r3 l3
    have hz : es2.size = es1.size := by rw [← Array.length_toList, pm.length_eq, Array.length_toList]
    refine wpAny_bind (hg _ _ _ (wpAny_bind (wpAny_storeSet_of h1 rfl ?_ (fits_of_scanBound T3.few))))
    exact wpAny_pure (hR _ (b1.trans (Heap.SameBut.update _ a _)) ⟨_, es2, _, t3, store_at (es' := es2) (t' := t3) h1 rfl, hex, rfl, hz, T3⟩)
  · exact wpAny_pure (hR _ b1 ⟨_, es1, _, t2, h1, hex, rfl, rfl, T⟩)
theorem keys_add {k : Key} {v : Value} (hk : keyIs k v = true) {Q : Bool → Shared → Prop} (R : SetKR w s.heap a l n) (room : n + 1 < scanBound)
    (hQ : ∀ (b : Bool) h' m, Heap.SameBut a s.heap h' → m ≤ n + 1 → SetKR w h' a (l ++ [k]) m → Q b { s with heap := h' }) :
    wpAny (model P w) A (setAddHashed a v ((mixKind P w).hash k)) Q E s := by
  obtain ⟨o, es, ep, t, ho, hex, hd, hn, T⟩ := R
  have hel : ElemsOf (mixKind P w) es.toList := T.elems
  have hsc := key_scans hk
  unfold setAddHashed setAddHashedIn
  refine wpAny_holding (wpAny_bind (wpAny_setState_of ho hd T.fits ?_))
  dsimp only
  rw [byScan_of hsc T.few hel]
  simp only [↓reduceIte]
  unfold setAddByScan
  refine wpAny_bind (wpAny_bind (wpAny_rule (wpAny_bind (wpAny_setScan_of (knd := mixKind P w) hk ho hd T.fits hel ?_))))
  cases hfi : List.findIdx? (fun e => (mixKind P w).is k e.2) es.toList with
  | some j =>
    dsimp only
    obtain ⟨hj, pj, _⟩ := List.findIdx?_eq_some_iff_getElem.mp hfi
    have hin : k ∈ l := (T.has k).mpr ⟨es.toList[j], List.getElem_mem hj, pj⟩
    exact wpAny_pure (wpAny_pure (hQ _ s.heap n (Heap.SameBut.refl a s.heap) (Nat.le_succ n) ⟨o, es, ep, t, ho, hex, hd, hn, T.same fun i => by
      rw [List.mem_append, List.mem_singleton]
      exact ⟨fun z => z.elim id fun e => e ▸ hin, .inl⟩⟩))
  | none =>
    dsimp only
    have hout : k ∉ l := fun z => by
      obtain ⟨e, he, q⟩ := (T.has k).mp z
      have c := List.findIdx?_eq_none_iff.mp hfi e he
      rw [show (mixKind P w).is k e.2 = true from q] at c
      cases c
    have way : ∀ (b : Bool) {s₁ : Shared} {Q' : Unit → Shared → Prop}, Q' () s₁ → wpAny (model P w) A (match b with | true => rule "set.scan.the-table-gave-way" | false => pure ()) Q' E s₁ := fun b s₁ Q' q => by
      cases b
      · exact wpAny_pure q
      · exact wpAny_rule q
    have pm := layNew_perm t es ((mixKind P w).hash k) v
    have f1 := layNew_fits t es ((mixKind P w).hash k) v
    have r1 := layNew_ris t es ((mixKind P w).hash k) v T.ris
    have l1 := layNew_led t es ((mixKind P w).hash k) v
    generalize layNew t es ((mixKind P w).hash k) v = Z at pm f1 r1 l1 ⊢
    obtain ⟨es1, t1, wasDummy, gave⟩ := Z
    dsimp only at pm f1 r1 l1 ⊢
    rw [Array.toList_push] at pm
    have pc : es1.toList.Perm ((keyH w k, v) :: es.toList) := pm.trans (List.perm_append_singleton _ _)
    have hz : es1.size = n + 1 := by rw [← Array.length_toList, pc.length_eq, List.length_cons, Array.length_toList, hn]
    have hb : es1.size < scanBound := by rw [hz]; exact room
    have fin : ∀ h', Heap.SameBut a s.heap h' → SetKR w h' a (l ++ [k]) es1.size → Q true { s with heap := h' } := fun h' sb r => hQ true h' _ sb (by rw [hz]; exact Nat.le_refl _) r
    have gv : ∀ (b : Bool) (s₁ : Shared) (Q' : Unit → Shared → Prop), Q' () s₁ → wpAny (model P w) A (match b with | true => rule "set.relay.the-table-gave-way" | false => pure ()) Q' E s₁ := fun b s₁ Q' q => by
      cases b
      · exact wpAny_pure q
      · exact wpAny_rule q
    refine wpAny_bind (way _ ?_)
    split
    · refine wpAny_bind ?_
      rw [hashByValue_scannable 8 hsc]
      refine wpAny_pure ?_
      refine lay_tail (l := l ++ [k]) ?_ ho hex hd (T.more hk hout pc hb ?_ ?_ ?_) ?_
      · intro b s₁ Q' q; cases b <;> first | exact wpAny_pure q | exact wpAny_rule q
      · first | (split <;> first | exact f1 | exact SetTable.fits_plain_off f1) | exact f1
      · first | (split <;> exact r1) | exact r1
      · first | (split <;> exact l1) | exact l1
      · intro h' sb r
        dsimp only
        exact wpAny_pure (fin h' sb r)
    · refine wpAny_bind (wpAny_pure ?_)
      simp only [↓reduceIte]
      refine lay_tail (l := l ++ [k]) ?_ ho hex hd (T.more hk hout pc hb f1 r1 l1) ?_
      · intro b s₁ Q' q; cases b <;> first | exact wpAny_pure q | exact wpAny_rule q
      · intro h' sb r
        dsimp only
        exact wpAny_pure (fin h' sb r)
end
end NJ

set_option Elab.async false
set_option linter.all false
set_option maxRecDepth 100000
set_option maxHeartbeats 4000000
/-! set(list), sorted(set), sorted(list), min(list), over data. -/
namespace NJ
open PySem PySem.Spec PyProof.Rows L2
section
variable {P : Program} {w : World} {A : Around} {E : Value → Shared → Prop} {s : Shared}
theorem keys_loop {I : Addr} {fp wr : List Addr} {G : Array GenState → Array GenState → Prop} {n : Nat} {Pv : Nat → Value → Prop} {St : Nat → Shared → Prop} {R : Result → Shared → Prop}
    (W : WalksS P w A.in1 I fp wr G n Pv St) (S : Addr) (hSf : S ∉ fp) (ks : List Key) (hn : n = ks.length) (hb : ks.length + 1 < scanBound) (hval : ∀ (i : Nat) (v : Value), Pv i v → ∃ k : Key, ks[i]? = some k ∧ keyIs k v = true) :
    ∀ (k i : Nat) (s : Shared), n - i = k → i ≤ n → St i s → (∃ c, c ≤ i ∧ SetKR w s.heap S (ks.take i) c) →
      (∀ s' c, Moved (S :: wr) G s s' → c ≤ n → SetKR w s'.heap S ks c → R (.ok (.ret .none)) s') → codeAny (model P w) A (.builtin "set.update.loop" ⟨[.ref S, .ref I], []⟩) R s := by
  have out : S ∉ wr := fun h => hSf (W.sub _ h)
  have sub : ∀ b ∈ wr, b ∈ S :: wr := fun b hb => List.mem_cons_of_mem _ hb
  intro k
  induction k with
  | zero =>
    intro i s hk hi hst ⟨c, hc, hS⟩ hR
    have ei : i = n := by omega
    subst ei
    rw [List.take_of_length_le (by omega)] at hS
    refine codeAny_builtin F.entry_set_update_loop ?_
    rw [Around.under_plainId F.plain_set_update_loop _]
    show wpAny _ A.in1 (pyNext (.ref I) >>= _) _ _ s
    refine wpAny_bind (W.done s _ _ hst fun s' hm => ?_)
    exact wpAny_pure (hR s' c (hm.mono sub) hc (hS.stay fun o e => hm.heap S o out e))
  | succ k ih =>
    intro i s hk hi hst ⟨c, hc, hS⟩ hR
    have lt : i < n := by omega
    refine codeAny_builtin F.entry_set_update_loop ?_
    rw [Around.under_plainId F.plain_set_update_loop _]
    show wpAny _ A.in1 (pyNext (.ref I) >>= _) _ _ s
    refine wpAny_bind (W.item i s _ _ lt hst fun v s' hP hst' hm => ?_)
    obtain ⟨z, hz, hv⟩ := hval i v hP
    have hS' : SetKR w s'.heap S (ks.take i) c := hS.stay fun o e => hm.heap S o out e
    show wpAny _ A.in1 (holding [v] (setAdd S v) >>= _) _ _ s'
    refine wpAny_bind (wpAny_holding ?_)
    unfold setAdd
    refine wpAny_holding (wpAny_bind ((mixKind P w).pyHash (k := z) hv ?_))
    refine keys_add (s := { s' with toks := s'.toks + 1 }) hv hS' (by omega) fun b h' m sb hm2 hS2 => ?_
    have e : ks.take i ++ [z] = ks.take (i + 1) := by rw [List.take_add_one, hz] <;> rfl
    rw [e] at hS2
    refine wpAny_pure ⟨plainId_quiet F.plain_set_update_loop _, ih (i + 1) _ (by omega) lt (W.frame _ s' _ _ hst' (Nat.le_succ _) fun b hb o q => ?_) ⟨m, by omega, hS2⟩ fun s2 c2 hm3 hc3 hS3 => ?_⟩
    · rw [sb.2 b (fun h : b = S => hSf (h ▸ hb))]
      exact q
    · refine hR s2 c2 (Moved.trans W.gtrans ((hm.mono sub).then_heap (Nat.le_succ _) fun b o hb q => ?_) hm3) hc3 hS3
      rw [sb.2 b (fun h : b = S => hb (by rw [h]; exact List.mem_cons_self))]
      exact q
theorem setKR_new {w : World} {h : Heap} {a : Addr} (ho : h.get? a = some { cls := .type "set", dict := none, data := .set #[] 0 (.fresh 0 0 (!w.params.followText "set-order")) }) : SetKR w h a [] 0 := ⟨_, #[], 0, _, ho, ⟨rfl, rfl, rfl⟩, rfl, rfl, tabK_nil⟩
set_option maxHeartbeats 8000000 in
theorem set_of_list {l : Addr} {items : Array Value} (ks : List Key) {Q : Value → Shared → Prop} (hh : A.handled = none) (hl : s.heap.IsList l items) (hz : items.size = ks.length) (hval : ∀ (i : Nat) (v : Value), items[i]? = some v → ∃ k : Key, ks[i]? = some k ∧ keyIs k v = true) (hb : ks.length + 1 < scanBound)
    (h : ∀ (h' : Heap) (tk c : Nat), SetKR w h' s.heap.objs.size ks c → c ≤ ks.length → (∀ b o, s.heap.get? b = some o → h'.get? b = some o) → Q (.ref s.heap.objs.size) { s with heap := h', toks := tk }) :
    wpAny (model P w) A (call (.type "set") [.ref l]) Q E s := by
  obtain ⟨c, tl, hmro⟩ := F.called_set.mro
  have hmade := F.called_set.made
  have hsub := F.called_set.sub
  refine wpAny_call (codeAny_of_tree ?_)
  show wpAny _ _ (callAny (.type "set") _) _ _ _
  refine wpAny_pure ⟨Code.quiet_builtin _ (by decide +kernel), codeAny_builtin F.entry_type_call ?_⟩
  rw [Around.under_plain (weight_type_call_type "set" [.ref l] []) rfl]
  have h1 := F.called_set.notType
  have h2 := F.called_set.canCreate
  have hct := F.typeCall_set_1 (.ref l)
  repeat (any_goals (first | assumption | wp_step))
  generalize ehp : s.heap.push { cls := .type "set", dict := none, data := .set #[] 0 (.fresh 0 0 (!w.params.followText "set-order")) } = hp
  refine codeAny_mono (code_set_led1 (.ref l) (E := E) (Q₁ := fun obj s₁ => obj = .ref s.heap.objs.size ∧ s₁ = { s with heap := hp }) ⟨rfl, by rw [ehp]⟩) fun r s₁ hr => ?_
  have size : hp.objs.size = s.heap.objs.size + 1 := by rw [← ehp, Heap.size_push]
  have old : ∀ b o, s.heap.get? b = some o → hp.get? b = some o := fun b o e => by rw [← ehp]; exact Heap.get?_push_of_some _ e
  cases r with
  | error e => exact hr
  | ok fl =>
    cases fl with
    | ret obj =>
      obtain ⟨rfl, rfl⟩ := hr
      have hS : hp.get? s.heap.objs.size = some { cls := .type "set", dict := none, data := .set #[] 0 (.fresh 0 0 (!w.params.followText "set-order")) } := by rw [← ehp]; exact Heap.get?_push_size _ rfl
      have hT : Shared.TypeIs { s with heap := hp } (.ref s.heap.objs.size) "set" := ⟨_, hS, rfl⟩
      have hli := F.called_set.init.lookup
      have hbi := F.called_set.init.bind (.ref s.heap.objs.size)
      repeat (any_goals (first | assumption | wp_step))
      refine codeAny_mono (codeAny_call_builtin (R := wants (fun r s₂ => r = .none ∧ ∃ h' tk c, s₂ = { s with heap := h', toks := tk } ∧ SetKR w h' s.heap.objs.size ks c ∧ c ≤ ks.length ∧ (∀ b o, s.heap.get? b = some o → h'.get? b = some o)) E)
        F.called_set.init.plain F.entry_set_init (check_set_init_1 hT ?_)) fun r₂ s₂ hr₂ => ?_
      · obtain ⟨ol, hol, hcl, nl, hdl⟩ := hl
        obtain ⟨ocls, odict, odata, oslots⟩ := ol
        simp only at hcl hdl
        subst hcl; subst hdl
        have hol' := old _ _ hol
        have hsls := F.sub_list_set
        have hslf := F.sub_list_frozenset
        have hne : (Value.type "list" == Value.type "dict") = false := by decide
        have hl1 : hp.IsList l items := ⟨_, hol', rfl, nl, rfl⟩
        unfold Builtin.«set.__init__» noKeywords Builtin.Frozenset.updateFrom
        generalize hPI : pyIter = PI
        wp_walk
        subst hPI
        refine wpAny_pyIter_list hl1 (wpAny_bind (wpAny_runValue ?_))
        have lS : l < s.heap.objs.size := Heap.lt_size hol
        have hh3 : A.in1.in1.in1.handled = none := by simp [hh]
        have neI : l ≠ hp.objs.size := by rw [size]; exact Nat.ne_of_lt (Nat.lt_succ_of_lt lS)
        have notF : s.heap.objs.size ∉ [hp.objs.size, l] := by
          rw [size]
          simp only [List.mem_cons, List.not_mem_nil, or_false, not_or]
          exact ⟨Nat.ne_of_lt (Nat.lt_succ_self _), Nat.ne_of_gt lS⟩
        refine keys_loop ((Walks.list hh3 _ l neI items).toS) s.heap.objs.size notF ks hz hb hval (items.size - 0) 0 _ (by omega) (Nat.zero_le _) ⟨⟨_, Heap.get?_push_size _ rfl, rfl, rfl⟩, (hl1.push _)⟩ ⟨0, Nat.le_refl 0, ?_⟩ ?_
        · exact setKR_new (Heap.get?_push_of_some _ hS)
        · intro s' c' hm hc' hS'
          obtain ⟨h', g2, d', tk', os'⟩ := s'
          have eg : g2 = s.gens := hm.gens
          have ed : d' = s.drawn := hm.drawn
          have eo : os' = s.os := hm.os
          subst eg; subst ed; subst eo
          rw [hz] at hc'
          show wpAny _ _ _ _ _ _
          refine wpAny_pure ?_
          show wpAny _ _ (ret Value.none) _ _ _
          refine wpAny_pure ⟨rfl, h', tk', c', rfl, hS', hc', fun b o e => ?_⟩
          have lb := Heap.lt_size e
          exact hm.heap b o (by simp only [List.mem_cons, List.not_mem_nil, or_false, not_or]; exact ⟨Nat.ne_of_lt lb, by rw [size]; exact Nat.ne_of_lt (Nat.lt_succ_of_lt lb)⟩) (Heap.get?_push_of_some _ (old b o e))
      · cases r₂ with
        | error e => exact hr₂
        | ok fl₂ =>
          cases fl₂ with
          | ret r =>
            obtain ⟨rfl, h', tk, c2, rfl, hS', hc', hk'⟩ := hr₂
            repeat (any_goals (first | assumption | wp_step))
            exact h _ _ _ hS' hc' hk'
          | _ => exact hr₂.elim
    | _ => exact hr.elim
end
end NJ

set_option Elab.async false
set_option linter.all false
set_option maxRecDepth 100000
set_option maxHeartbeats 4000000
/-! Rules for these built-ins. -/
namespace NJ
open PySem PySem.Spec PyProof.Rows L2
open PySem.W (EachIs AllAlike Sortable dataLe)
section
variable {X : Cx}
/-- the set of the keys l at a -/
def SetKO (w : World) (a : Addr) (l : List Key) : HO := .ext fun h => ∃ n, n ≤ l.length ∧ SetKR w h a l n
theorem setKO_new {w : World} {P : Program} {H : Hp} {h : Heap} {a : Addr} {l : List Key} {n : Nat} (hn : n ≤ l.length) (R : SetKR w h a l n) : ObjOk P w H h a (SetKO w a l) := by
  have ⟨o, _, _, _, ho, _⟩ := R
  exact ⟨⟨n, hn, R⟩, ⟨o, ho⟩, fun h1 h2 ⟨m, hm, p⟩ k => ⟨m, hm, p.stay k⟩⟩
theorem setKO_get {pins : List (Addr × Obj)} {σ : L2.St} {H : Hp} {s : Shared} {a : Addr} {l : List Key} (I : Inv X pins σ H s) (ha : H a = some (SetKO X.w a l)) : ∃ n, n ≤ l.length ∧ SetKR X.w s.heap a l n := (I.hok a _ ha).1
/-- set(xs), xs a list of ints and texts -/
def rSetL (K : PySem.W.Frag) (w : World) : List V → Hp → VK → Prop := fun xs H Q => ∃ (a : Addr) (ks : List Key), xs = [V.ref a] ∧ SqL K H a (ks.map kV) ∧ ks.length + 1 < scanBound ∧ ∀ p, H p = none → Q (.ref p) (upd H p (SetKO w p ks))
theorem kV_is' {k : Key} {u : Value} (h : RelV (kV k) u) : keyIs k u = true := by
  cases k with
  | inl i =>
    obtain ⟨t, rfl⟩ := h
    exact keyIs_int i t
  | inr x =>
    obtain ⟨t, rfl⟩ := h
    exact keyIs_str x t
theorem vals_key {ks : List Key} {us : List Value} (r : Vals (ks.map kV) us) {i : Nat} {v : Value} (h : us[i]? = some v) : ∃ k, ks[i]? = some k ∧ keyIs k v = true := by
  have hl : ks.length = us.length := by
    have q := r.length
    rw [List.length_map] at q
    exact q
  have hi : i < ks.length := by
    rw [hl]
    exact (List.getElem?_eq_some_iff.mp h).1
  have e : (ks.map kV)[i]? = some (kV ks[i]) := by rw [List.getElem?_map, List.getElem?_eq_getElem hi] <;> rfl
  obtain ⟨u, h1, h2⟩ := r.get e
  rw [h] at h1
  cases h1
  exact ⟨ks[i], List.getElem?_eq_getElem hi, kV_is' h2⟩
theorem cr_setL (hc : X.calm = true) : CallR X (.type "set") (rSetL X.K X.w) := by
  intro pins s σ H xs us Q I r h
  obtain ⟨a, ks, rfl, hS, hb, q⟩ := h
  obtain ⟨its, rv, hl, _⟩ := I.list hS
  rw [Vals.ref1 r]
  have hz : its.toArray.size = ks.length := by
    have e := rv.length
    rw [List.length_map] at e
    rw [List.size_toArray, e]
  refine set_of_list (P := X.prog) (w := X.w) ks (I.ok.hd hc) hl.isList hz (fun i v hv => vals_key rv (by simpa using hv)) hb fun h' tk c hR hc2 hk => ?_
  have hn : H s.heap.objs.size = none := I.hok.fresh (Nat.le_refl _)
  exact ⟨.ref _, upd H s.heap.objs.size (SetKO X.w s.heap.objs.size ks), I.laid (t' := tk) hk (Nat.le_refl _) (setKO_new hc2 hR), rfl, q _ hn⟩
/-! ### sorted -/
/-- a value with what it stands for -/
abbrev VD := V × PyData
theorem each_vd {H : Hp} {K : PySem.W.Frag} : ∀ {ps : List VD} {us : List Value}, Vals (ps.map (·.1)) us → (∀ p ∈ ps, Dp K H p.1 p.2) → EachIs (fun (u : Value) (p : VD) => RelV p.1 u ∧ Dp K H p.1 p.2) us ps
  | [], _, .nil, _ => .nil
  | p :: ps, _, .cons a b, h => .cons ⟨a, h p List.mem_cons_self⟩ (each_vd b fun q hq => h q (List.mem_cons_of_mem _ hq))
theorem vals_vd {H : Hp} {K : PySem.W.Frag} : ∀ {ps : List VD} {us : List Value}, EachIs (fun (u : Value) (p : VD) => RelV p.1 u ∧ Dp K H p.1 p.2) us ps → Vals (ps.map (·.1)) us
  | _, _, .nil => .nil
  | _, _, .cons a b => .cons a.1 (vals_vd b)
theorem each_imp {α β : Type} {R S : α → β → Prop} (f : ∀ a b, R a b → S a b) : ∀ {l : List α} {m : List β}, EachIs R l m → EachIs S l m
  | _, _, .nil => .nil
  | _, _, .cons a b => .cons (f _ _ a) (each_imp f b)
def srt (ps : List VD) : List VD := ps.mergeSort (dataLe false Prod.snd)
def okSort (ds : List PyData) : Prop := AllAlike ds ∧ Sortable ds ∧ ds.length ≤ 16000000 ∧ ∀ d ∈ ds, d.depth ≤ 64
/-- sorted(xs), xs a list -/
def rSortD (K : PySem.W.Frag) : List V → Hp → VK → Prop := fun vs H Q => ∃ (a : Addr) (ps : List VD), vs = [V.ref a] ∧ SqL K H a (ps.map (·.1)) ∧ (∀ p ∈ ps, Dp K H p.1 p.2) ∧ okSort (ps.map (·.2)) ∧ ∀ p, H p = none → Q (.ref p) (upd H p (.lst ((srt ps).map (·.1))))
theorem cr_sortD (hu : X.A.units + 100 < cLine) : CallR X (.builtin "sorted") (rSortD X.K) := by
  intro pins s σ H xs us Q I r h
  obtain ⟨a, ps, rfl, hS, hd, ⟨o1, o2, o3, o4⟩, q⟩ := h
  obtain ⟨its, rv, hl, hz⟩ := I.list hS
  rw [Vals.ref1 r]
  have e := each_vd rv hd
  refine PySem.W.sorted_data (enc := Prod.snd) hl.isList e (each_imp (fun u p z => Dp.reads I p.2 p.1 u z.2 z.1) e) o1 o2 (by rw [List.length_map] at o3; exact sz16 o3) (fun p hp => ?_) fun out ho eo => ?_
  · have := o4 p.2 (List.mem_map_of_mem hp)
    omega
  · obtain ⟨ep, he⟩ := sortedAll_at s.heap its out.toArray
    have hlen : ((srt ps).map (·.1)).length ≤ sizeLine := by
      unfold srt
      rw [List.length_map, List.length_mergeSort]
      rw [List.length_map] at o3
      exact sz16 o3
    exact ⟨.ref _, upd H (s.heap.objs.size + 1) (.lst ((srt ps).map (·.1))), I.laid (t' := s.toks) (fun _ _ => sortedAll_old) (Nat.le_succ _) ⟨hlen, out, ep, vals_vd eo, he⟩, rfl, q _ (I.hok.fresh (Nat.le_succ _))⟩
end
end NJ

set_option Elab.async false
set_option linter.all false
set_option maxRecDepth 100000
set_option maxHeartbeats 4000000
/-! sorted(set). -/
namespace NJ
open PySem PySem.Spec PyProof.Rows L2
open PySem.W (EachIs AllAlike Sortable dataLe)
def encK : Key → PyData
  | .inl i => .int i
  | .inr x => .str x
def sameKind (ks : List Key) : Prop := (∀ k ∈ ks, ∃ i, k = .inl i) ∨ ∀ k ∈ ks, ∃ x, k = .inr x
theorem alike_keys {ks : List Key} (h : sameKind ks) : AllAlike (ks.map encK) := by
  intro d hd e he
  obtain ⟨k, hk, rfl⟩ := List.mem_map.mp hd
  obtain ⟨j, hj, rfl⟩ := List.mem_map.mp he
  rcases h with h | h
  · obtain ⟨i, rfl⟩ := h k hk
    obtain ⟨i2, rfl⟩ := h j hj
    simp [encK, PySem.W.alike]
  · obtain ⟨i, rfl⟩ := h k hk
    obtain ⟨i2, rfl⟩ := h j hj
    simp [encK, PySem.W.alike]
theorem sortable_keys (ks : List Key) : Sortable (ks.map encK) := .others fun k => by
  cases k <;> exact ⟨fun z => (by cases z), fun xs z => (by cases z)⟩
theorem depth_key (k : Key) : (encK k).depth = 0 := by
  cases k <;> rfl
theorem each_keys : ∀ {vs : List Value}, (∀ v ∈ vs, ∃ k, keyIs k v = true) → EachIs (fun (v : Value) (k : Key) => keyIs k v = true) vs (vs.map kOf)
  | [], _ => .nil
  | v :: vs, h => by
    obtain ⟨k, hk⟩ := h v List.mem_cons_self
    refine .cons ?_ (each_keys fun u hu => h u (List.mem_cons_of_mem _ hu))
    rw [kOf_is hk]
    exact hk
theorem reads_key {h : Heap} {k : Key} {v : Value} (e : keyIs k v = true) : Reads h v (encK k) [] := by
  rcases keyIs_shape e with ⟨i, t, rfl, rfl⟩ | ⟨x, t, rfl, rfl⟩
  · exact Reads.int i t
  · exact Reads.str x t
theorem vals_keys : ∀ {ks : List Key} {us : List Value}, EachIs (fun (v : Value) (k : Key) => keyIs k v = true) us ks → Vals (ks.map kV) us
  | _, _, .nil => .nil
  | _, _, .cons (b := k) a r => .cons (by
    rcases keyIs_shape a with ⟨i, t, rfl, rfl⟩ | ⟨x, t, rfl, rfl⟩
    · exact ⟨t, rfl⟩
    · exact ⟨t, rfl⟩) (vals_keys r)
section
variable {X : Cx}
def srtK (ks : List Key) : List Key := ks.mergeSort (dataLe false encK)
/-- sorted(s), s a set of ints alone or of texts alone -/
def rSortSet (w : World) : List V → Hp → VK → Prop := fun vs H Q => ∃ (a : Addr) (ks : List Key), vs = [V.ref a] ∧ H a = some (SetKO w a ks) ∧ sameKind ks ∧ ks.length ≤ 16000000 ∧ ∀ (bs : List Key) p, bs.Nodup → (∀ k, k ∈ bs ↔ k ∈ ks) → H p = none → Q (.ref p) (upd H p (.lst ((srtK bs).map kV)))
theorem cr_sortSet (hc : X.calm = true) (hu : X.A.units + 100 < cLine) : CallR X (.builtin "sorted") (rSortSet X.w) := by
  intro pins s σ H xs us Q I r h
  obtain ⟨a, ks, rfl, ha, hk, hl, q⟩ := h
  obtain ⟨n, hn, o, es, ep, t, ho, hex, hd, hz, T⟩ := setKO_get I ha
  rw [Vals.ref1 r]
  refine Calls.call_function_entry kind_sorted plain_sorted entry_sorted (args_sorted1 _) ?_
  unfold Builtin.«sorted»
  refine wpAny_bind (m := checkCount "sorted" 1 1 _) (wpAny_pure ?_)
  refine wpAny_bind (collect_set (P := X.prog) (w := X.w) (A := X.A.in1) (I.ok.hd hc) ⟨o, ho, hex.1, hd⟩ T.fits T.few T.ris T.led fun s1 vs k1 hz1 g1 o1 pm => ?_)
  have keys : ∀ v ∈ vs, ∃ k, keyIs k v = true := fun v hv => by
    obtain ⟨e, he, q⟩ := List.mem_map.mp (pm.mem_iff.mp hv)
    obtain ⟨k, h1, _⟩ := T.good e he
    exact ⟨k, by rw [← q]; exact h1⟩
  have pk : (vs.map kOf).Perm (es.toList.map fun e => kOf e.2) := by
    have q := pm.map kOf
    rw [List.map_map] at q
    exact q
  have hv : vs.length ≤ 16000000 := by
    rw [pm.length_eq, List.length_map, Array.length_toList, hz]
    exact Nat.le_trans hn hl
  have nd : (vs.map kOf).Nodup := pk.nodup_iff.mpr T.nd
  have mem : ∀ k, k ∈ vs.map kOf ↔ k ∈ ks := fun k => by rw [pk.mem_iff, ← T.mem k]
  have sk : sameKind (vs.map kOf) := by
    rcases hk with hk | hk
    · exact .inl fun k h => hk k ((mem k).mp h)
    · exact .inr fun k h => hk k ((mem k).mp h)
  refine wpAny_bind (wpAny_newList ?_ (sz16 hv))
  have hoL : (s1.heap.push (seqObj "list" vs.toArray 0)).get? s1.heap.objs.size = some (seqObj "list" vs.toArray 0) := Heap.get?_push_size _ rfl
  have ek := each_keys keys
  refine wpAny_bind (wpAny_holding (PySem.W.list_sort_data (enc := encK) hoL ek (each_imp (fun v k z => ⟨[], reads_key z, by simp⟩) ek) (alike_keys sk) (sortable_keys _) (by rw [List.length_map]; exact sz16 hv) (fun k _ => by rw [depth_key]; show X.A.units + _ + 1 + 0 < cLine; omega) fun out ho2 eo => ?_))
  obtain ⟨c, hc2⟩ := sortedHeap_at (vs := vs) (out := out.toArray) hoL
  have hp : H s1.heap.objs.size = none := I.hok.fresh hz1
  have keep : ∀ b u, s.heap.get? b = some u → (sortedHeap (s1.heap.push (seqObj "list" vs.toArray 0)) s1.heap.objs.size vs out.toArray).get? b = some u := fun b u e => by
    have q := k1 b u e
    have hlt := Heap.lt_size q
    rw [sortedHeap_old (Nat.ne_of_lt hlt) (by rw [size_push']; exact Nat.lt_succ_of_lt hlt)]
    exact Heap.get?_push_of_some _ q
  have lz : ((srtK (vs.map kOf)).map kV).length ≤ sizeLine := by
    unfold srtK
    rw [List.length_map, List.length_mergeSort, List.length_map]
    exact sz16 hv
  have ob : ObjOk X.prog X.w (upd H s1.heap.objs.size (.lst ((srtK (vs.map kOf)).map kV))) (sortedHeap (s1.heap.push (seqObj "list" vs.toArray 0)) s1.heap.objs.size vs out.toArray) s1.heap.objs.size (.lst ((srtK (vs.map kOf)).map kV)) := ⟨lz, out, c, vals_keys eo, hc2⟩
  obtain ⟨hp1, gs1, d1, t1, os1⟩ := s1
  have J := I.call' (s' := ⟨sortedHeap (hp1.push (seqObj "list" vs.toArray 0)) hp1.objs.size vs out.toArray, gs1, d1, t1, os1⟩) (H' := upd H hp1.objs.size (.lst ((srtK (vs.map kOf)).map kV))) (ch := []) o1 (Un.laid keep hz1 hp) (I.hok.laid keep hz1 ob) (by rw [show gs1 = s.gens from g1]; exact I.bare) (fun _ z => nomatch z)
  exact wpAny_pure ⟨_, rfl, .ref hp1.objs.size, _, J, rfl, q _ _ nd mem hp⟩
end
end NJ

set_option Elab.async false
set_option linter.all false
set_option maxRecDepth 100000
set_option maxHeartbeats 4000000
/-! Texts read backward, beginnings and endings; dicts of texts. -/
namespace NJ
open PySem PySem.Spec PyProof.Rows L2
/-! ### text[::-1] -/
def tRevS (te : TE) : TE := fun σ H Q => te σ H fun x H1 => ∃ l : List Nat, x = .str (tx l) ∧ l.length ≤ 16000000 ∧ Q (.str (tx l.reverse)) H1
theorem picked_rev (l : List Nat) : ((Builtin.Str.strSliceIndices none none (-1) (tx l).length).filterMap ((tx l).cps[·]?)) = l.reverse := by
  have e : Builtin.Str.strSliceIndices none none (-1) (tx l).length = (List.range (tx l).length).reverse := by
    rw [tx_len]
    unfold Builtin.Str.strSliceIndices
    first
    | exact (PySem.W.krv_sliceRange _).trans (PySem.W.krv_range _)
    | simp [PySem.W.krv_sliceRange, PySem.W.krv_range]
  rw [e, List.filterMap_reverse]
  have h := PySem.W.krv_all (tx l).cps
  rw [tx_cps] at h
  exact congrArg List.reverse h
theorem pe_revS {X : Cx} {e : Expr} {te : TE} {k : Nat} {p1 p2 p3 pos : Pos} (he : PE X e te) : PE X (.Subscript e (.Slice none none (some (.UnaryOp .USub (.Constant (.int 1) k p1) p2)) p3) pos) (tRevS te) := by
  refine ⟨fun pins s σ H Q I h => ?_⟩
  refine Subscript_ (thn (he.run pins s σ H _ I h) fun v s1 ⟨x, H1, I1, r1, q1⟩ => ?_)
  obtain ⟨l, ex, hz, q⟩ := q1
  subst ex
  obtain ⟨t, rfl⟩ := r1
  have hst : PO X (some (.UnaryOp .USub (.Constant (.int 1) k p1) p2)) (tPart (tUn (rU fun i => .int (-i)) (tC (.int 1)))) := po_some (pe_un un_neg pe_int)
  refine wpAny_Slice (thn (po_none.run pins s1 σ H1 (fun o H2 => o = none ∧ H2 = H1) I1 ⟨rfl, rfl⟩) fun vl s2 ⟨l2, H2, I2, pl, el, e2⟩ => ?_)
  subst el e2
  refine thn (po_none.run pins s2 σ H2 (fun o H3 => o = none ∧ H3 = H2) I2 ⟨rfl, rfl⟩) fun vu s3 ⟨u, H3, I3, pu, eu, e3⟩ => ?_
  subst eu e3
  refine thn (hst.run pins s3 σ H3 (fun o H4 => o = some (-1) ∧ H4 = H3) I3 ⟨1, rfl, -1, rfl, rfl, rfl⟩) fun vs s4 ⟨o, H4, I4, ps, eo, e4⟩ => ?_
  subst eo e4
  have I5 : Inv X pins σ H4 { s4 with heap := s4.heap.push { cls := .type "slice", data := .fields #[vl, vu, vs] } } := I4.kept (t' := s4.toks) fun b ob q => Heap.get?_push_of_some _ q
  show wpAny (model X.prog X.w) X.A (subscriptTail e (.Slice none none (some (.UnaryOp .USub (.Constant (.int 1) k p1) p2)) p3) (.str (tx l) t) (.ref s4.heap.objs.size)) (EP X pins σ Q) X.xe { s4 with heap := s4.heap.push { cls := .type "slice", data := .fields #[vl, vu, vs] } }
  refine tail_any (T := "str") (ops := [.ref s4.heap.objs.size, .str (tx l) t]) (typeIs_str _ _ _) (F.slot_str_getitem.lookup) ?_ (by with_unfolding_all rfl)
  obtain ⟨l1, rfl, q1⟩ := IsPart.raw pl
  obtain ⟨l2, rfl, q2⟩ := IsPart.raw pu
  obtain ⟨l3, rfl, q3⟩ := IsPart.raw ps
  have e1 : l1 = none := by
    cases l1 with
    | none => rfl
    | some _ => cases q1
  have e2 : l2 = none := by
    cases l2 with
    | none => rfl
    | some _ => cases q2
  subst e1 e2
  cases l3 with
  | none => cases q3
  | some z =>
    have e3 : z.1 = -1 := by
      have := Option.some.inj q3
      first | exact this | exact this.symm
    refine wpAny_getItem_str_slice (l := none) (u := none) (st := some z) (Heap.IsSliceOf.new ..) (by show (z.1 == 0) = false; rw [e3]; rfl) ?_
    show Made.post (if (z.1 == 1 && (Builtin.Str.strSliceIndices none none z.1 (tx l).length).length == (tx l).length) = true then Made.val (.str (tx l) t)
      else Made.str ⟨((Builtin.Str.strSliceIndices none none z.1 (tx l).length).filterMap ((tx l).cps[·]?)).toArray⟩) (EP X pins σ Q) _
    rw [e3, if_neg (by simp), picked_rev]
    refine ⟨?_, .str (tx l.reverse), H4, I5.tok _, ⟨_, rfl⟩, q⟩
    show (tx l.reverse).length ≤ sizeLine
    rw [tx_len, List.length_reverse]
    exact sz16 hz
section
variable {σ : L2.St} {Hm : Hp} {K : PySem.W.Frag} {α β : Type} {R : Rp α} {S : Rp β} {ta tb te tc tl td : TE} {t u tt : TT} {d : α}
theorem ev_revS {l : List Nat} (h : Ev te σ Hm rS l) (hz : l.length ≤ 16000000) : Ev (tRevS te) σ Hm rS l.reverse := fun H1 hi Q q => h H1 hi _ fun v K2 H2 x2 r => ⟨l, r, hz, q _ K2 H2 x2 rfl⟩
/-! ### begins, ends -/
theorem subAt_take (a b : List Nat) (i : Nat) : PySem.Builtin.Str.subAt (tx a) (tx b) i = decide ((a.drop i).take b.length = b) := by
  unfold PySem.Builtin.Str.subAt
  rw [tx_len]
  have e : (tx a).cps.extract i (i + b.length) = ((a.drop i).take b.length).toArray := by
    simp [tx, List.extract_eq_drop_take]
  rw [e]
  show (((a.drop i).take b.length).toArray == b.toArray) = _
  rw [Bool.eq_iff_iff, beq_iff_eq, decide_eq_true_iff]
  constructor
  · intro h
    exact congrArg Array.toList h
  · intro h
    rw [h]
theorem starts_tx (a b : List Nat) : Txt.startswith (tx a) (tx b) = b.isPrefixOf a := by
  unfold Txt.startswith
  rw [subAt_take, tx_len, tx_len, List.drop_zero, Bool.eq_iff_iff, List.isPrefixOf_iff_prefix]
  simp only [Bool.and_eq_true, decide_eq_true_iff, Nat.zero_add]
  constructor
  · rintro ⟨_, h⟩
    refine ⟨a.drop b.length, ?_⟩
    have h3 := List.take_append_drop b.length a
    rw [h] at h3
    exact h3
  · rintro ⟨c, rfl⟩
    simp
theorem ends_tx (a b : List Nat) : Txt.endswith (tx a) (tx b) = b.isSuffixOf a := by
  unfold Txt.endswith
  rw [subAt_take, tx_len, tx_len, Bool.eq_iff_iff, List.isSuffixOf_iff_suffix]
  simp only [Bool.and_eq_true, decide_eq_true_iff, Nat.zero_add]
  constructor
  · rintro ⟨hl, h⟩
    refine ⟨a.take (a.length - b.length), ?_⟩
    have e : (a.drop (a.length - b.length)).take b.length = a.drop (a.length - b.length) := List.take_of_length_le (by rw [List.length_drop]; omega)
    rw [e] at h
    have h3 := List.take_append_drop (a.length - b.length) a
    rw [h] at h3
    exact h3
  · rintro ⟨c, rfl⟩
    simp
abbrev rStarts : V → List V → Hp → VK → Prop := fun x xs H Q => ∃ a b, x = .str a ∧ xs = [.str b] ∧ Q (.bl (Txt.startswith a b)) H
abbrev rEnds : V → List V → Hp → VK → Prop := fun x xs H Q => ∃ a b, x = .str a ∧ xs = [.str b] ∧ Q (.bl (Txt.endswith a b)) H
theorem ev_starts {a b : List Nat} (h1 : Ev ta σ Hm rS a) (h2 : Ev tb σ Hm rS b) : Ev (tM1 rStarts ta tb) σ Hm rB (b.isPrefixOf a) := fun H1 hi Q q => h1 H1 hi _ fun v K2 H2 x2 r => ⟨⟨_, r⟩, h2.mono x2.s H2 x2.i _ fun w K3 H3 x3 r3 => ⟨tx a, tx b, r, by rw [show w = V.str (tx b) from r3], by
  rw [starts_tx]
  exact q _ K3 H3 (x2.trans x3) rfl⟩⟩
theorem ev_ends {a b : List Nat} (h1 : Ev ta σ Hm rS a) (h2 : Ev tb σ Hm rS b) : Ev (tM1 rEnds ta tb) σ Hm rB (b.isSuffixOf a) := fun H1 hi Q q => h1 H1 hi _ fun v K2 H2 x2 r => ⟨⟨_, r⟩, h2.mono x2.s H2 x2.i _ fun w K3 H3 x3 r3 => ⟨tx a, tx b, r, by rw [show w = V.str (tx b) from r3], by
  rw [ends_tx]
  exact q _ K3 H3 (x2.trans x3) rfl⟩⟩
/-! ### the truth of a list -/
theorem et_truthL {xs : List α} (h : Ev te σ Hm (rL K R) xs) : Et (fun σ H Q => te σ H fun x H' => ∃ k, TruV K x H' k ∧ Q k H') σ Hm (!xs.isEmpty) := fun H1 hi Q q => h H1 hi _ fun v K2 H2 x2 ⟨a, vs, e, hS, hP⟩ => ⟨!xs.isEmpty, by
  subst e
  exact .inl ⟨vs, x2.i.seq hS, by
    have hl := paired_len hP
    cases vs <;> cases xs <;> simp at hl ⊢⟩, q K2 H2 x2⟩
/-! ### dicts whose keys are texts -/
def rD : Rp (List (List Nat)) := ⟨fun H v ks => ∃ a kvs, v = .ref a ∧ H a = some (.dK kvs) ∧ ∀ l : List Nat, (valV kvs (.inr (tx l))).isSome = decide (l ∈ ks), fun s ⟨a, kvs, e, h, p⟩ => ⟨a, kvs, e, s _ _ h, p⟩⟩
theorem ev_din {l : List Nat} {ks : List (List Nat)} (h1 : Ev te σ Hm rS l) (h2 : Ev td σ Hm rD ks) : Ev (tDIn te td) σ Hm rB (decide (l ∈ ks)) := fun H1 hi Q q => h1 H1 hi _ fun v K2 H2 x2 r => h2.mono x2.s H2 x2.i _ fun w K3 H3 x3 ⟨a, kvs, e, hd, hv⟩ => ⟨a, valV kvs (.inr (tx l)), e, by
  rw [show v = V.str (tx l) from r]
  exact DGet.k (k := .inr (tx l)) (x3.i _ _ hd), by
  rw [hv]
  exact q _ K3 H3 (x2.trans x3) rfl⟩
end
end NJ

set_option Elab.async false
set_option linter.all false
set_option maxRecDepth 100000
set_option maxHeartbeats 4000000
/-! set(tuple). -/
namespace NJ
open PySem PySem.Spec PyProof.Rows L2
section
variable {P : Program} {w : World} {A : Around} {E : Value → Shared → Prop} {s : Shared}
set_option maxHeartbeats 8000000 in
theorem set_of_tuple {l : Addr} {items : Array Value} (ks : List Key) {Q : Value → Shared → Prop} (hh : A.handled = none) (hl : s.heap.IsTuple l items) (hz : items.size = ks.length) (hval : ∀ (i : Nat) (v : Value), items[i]? = some v → ∃ k : Key, ks[i]? = some k ∧ keyIs k v = true) (hb : ks.length + 1 < scanBound)
    (h : ∀ (h' : Heap) (tk c : Nat), SetKR w h' s.heap.objs.size ks c → c ≤ ks.length → (∀ b o, s.heap.get? b = some o → h'.get? b = some o) → Q (.ref s.heap.objs.size) { s with heap := h', toks := tk }) :
    wpAny (model P w) A (call (.type "set") [.ref l]) Q E s := by
  obtain ⟨c, tl, hmro⟩ := F.called_set.mro
  have hmade := F.called_set.made
  have hsub := F.called_set.sub
  refine wpAny_call (codeAny_of_tree ?_)
  show wpAny _ _ (callAny (.type "set") _) _ _ _
  refine wpAny_pure ⟨Code.quiet_builtin _ (by decide +kernel), codeAny_builtin F.entry_type_call ?_⟩
  rw [Around.under_plain (weight_type_call_type "set" [.ref l] []) rfl]
  have h1 := F.called_set.notType
  have h2 := F.called_set.canCreate
  have hct := F.typeCall_set_1 (.ref l)
  repeat (any_goals (first | assumption | wp_step))
  generalize ehp : s.heap.push { cls := .type "set", dict := none, data := .set #[] 0 (.fresh 0 0 (!w.params.followText "set-order")) } = hp
  refine codeAny_mono (code_set_led1 (.ref l) (E := E) (Q₁ := fun obj s₁ => obj = .ref s.heap.objs.size ∧ s₁ = { s with heap := hp }) ⟨rfl, by rw [ehp]⟩) fun r s₁ hr => ?_
  have size : hp.objs.size = s.heap.objs.size + 1 := by rw [← ehp, Heap.size_push]
  have old : ∀ b o, s.heap.get? b = some o → hp.get? b = some o := fun b o e => by rw [← ehp]; exact Heap.get?_push_of_some _ e
  cases r with
  | error e => exact hr
  | ok fl =>
    cases fl with
    | ret obj =>
      obtain ⟨rfl, rfl⟩ := hr
      have hS : hp.get? s.heap.objs.size = some { cls := .type "set", dict := none, data := .set #[] 0 (.fresh 0 0 (!w.params.followText "set-order")) } := by rw [← ehp]; exact Heap.get?_push_size _ rfl
      have hT : Shared.TypeIs { s with heap := hp } (.ref s.heap.objs.size) "set" := ⟨_, hS, rfl⟩
      have hli := F.called_set.init.lookup
      have hbi := F.called_set.init.bind (.ref s.heap.objs.size)
      repeat (any_goals (first | assumption | wp_step))
      refine codeAny_mono (codeAny_call_builtin (R := wants (fun r s₂ => r = .none ∧ ∃ h' tk c, s₂ = { s with heap := h', toks := tk } ∧ SetKR w h' s.heap.objs.size ks c ∧ c ≤ ks.length ∧ (∀ b o, s.heap.get? b = some o → h'.get? b = some o)) E)
        F.called_set.init.plain F.entry_set_init (check_set_init_1 hT ?_)) fun r₂ s₂ hr₂ => ?_
      · obtain ⟨ol, hol, hcl, nl, hdl⟩ := hl
        obtain ⟨ocls, odict, odata, oslots⟩ := ol
        simp only at hcl hdl
        subst hcl; subst hdl
        have hol' := old _ _ hol
        have hsls := PySem.F.sub_tuple_set
        have hslf := PySem.F.sub_tuple_frozenset
        have hne : (Value.type "tuple" == Value.type "dict") = false := by decide
        have hl1 : hp.IsTuple l items := ⟨_, hol', rfl, nl, rfl⟩
        unfold Builtin.«set.__init__» noKeywords Builtin.Frozenset.updateFrom
        generalize hPI : pyIter = PI
        wp_walk
        subst hPI
        refine wpAny_pyIter_tuple hl1 (wpAny_bind (wpAny_runValue ?_))
        have lS : l < s.heap.objs.size := Heap.lt_size hol
        have hh3 : A.in1.in1.in1.handled = none := by simp [hh]
        have neI : l ≠ hp.objs.size := by rw [size]; exact Nat.ne_of_lt (Nat.lt_succ_of_lt lS)
        have notF : s.heap.objs.size ∉ [hp.objs.size, l] := by
          rw [size]
          simp only [List.mem_cons, List.not_mem_nil, or_false, not_or]
          exact ⟨Nat.ne_of_lt (Nat.lt_succ_self _), Nat.ne_of_gt lS⟩
        refine keys_loop ((Walks.tuple hh3 _ l neI items).toS) s.heap.objs.size notF ks hz hb hval (items.size - 0) 0 _ (by omega) (Nat.zero_le _) ⟨⟨_, Heap.get?_push_size _ rfl, rfl, rfl⟩, (IsTup.push hl1 _)⟩ ⟨0, Nat.le_refl 0, ?_⟩ ?_
        · exact setKR_new (Heap.get?_push_of_some _ hS)
        · intro s' c' hm hc' hS'
          obtain ⟨h', g2, d', tk', os'⟩ := s'
          have eg : g2 = s.gens := hm.gens
          have ed : d' = s.drawn := hm.drawn
          have eo : os' = s.os := hm.os
          subst eg; subst ed; subst eo
          rw [hz] at hc'
          show wpAny _ _ _ _ _ _
          refine wpAny_pure ?_
          show wpAny _ _ (ret Value.none) _ _ _
          refine wpAny_pure ⟨rfl, h', tk', c', rfl, hS', hc', fun b o e => ?_⟩
          have lb := Heap.lt_size e
          exact hm.heap b o (by simp only [List.mem_cons, List.not_mem_nil, or_false, not_or]; exact ⟨Nat.ne_of_lt lb, by rw [size]; exact Nat.ne_of_lt (Nat.lt_succ_of_lt lb)⟩) (Heap.get?_push_of_some _ (old b o e))
      · cases r₂ with
        | error e => exact hr₂
        | ok fl₂ =>
          cases fl₂ with
          | ret r =>
            obtain ⟨rfl, h', tk, c2, rfl, hS', hc', hk'⟩ := hr₂
            repeat (any_goals (first | assumption | wp_step))
            exact h _ _ _ hS' hc' hk'
          | _ => exact hr₂.elim
    | _ => exact hr.elim

end
section
variable {X : Cx}
/-- set(xs), xs a tuple of ints and texts -/
def rSetT (K : PySem.W.Frag) (w : World) : List V → Hp → VK → Prop := fun xs H Q => ∃ (a : Addr) (ks : List Key), xs = [V.ref a] ∧ SqT K H a (ks.map kV) ∧ ks.length + 1 < scanBound ∧ ∀ p, H p = none → Q (.ref p) (upd H p (SetKO w p ks))
theorem cr_setT (hc : X.calm = true) : CallR X (.type "set") (rSetT X.K X.w) := by
  intro pins s σ H xs us Q I r h
  obtain ⟨a, ks, rfl, hS, hb, q⟩ := h
  obtain ⟨its, rv, hl, _⟩ := I.tuple hS
  rw [Vals.ref1 r]
  have hz : its.toArray.size = ks.length := by
    have e := rv.length
    rw [List.length_map] at e
    rw [List.size_toArray, e]
  refine set_of_tuple (P := X.prog) (w := X.w) ks (I.ok.hd hc) hl hz (fun i v hv => vals_key rv (by simpa using hv)) hb fun h' tk c hR hc2 hk => ?_
  have hn : H s.heap.objs.size = none := I.hok.fresh (Nat.le_refl _)
  exact ⟨.ref _, upd H s.heap.objs.size (SetKO X.w s.heap.objs.size ks), I.laid (t' := tk) hk (Nat.le_refl _) (setKO_new hc2 hR), rfl, q _ hn⟩
end
end NJ

set_option Elab.async false
set_option linter.all false
set_option maxRecDepth 100000
set_option maxHeartbeats 4000000
/-! Texts in order; lists of one's own. -/
namespace NJ
open PySem PySem.Spec PyProof.Rows L2
open PySem.W (dataLe dataLt_str dataLe_eq not_lt_str AllAlike Sortable)
abbrev T8 := List Nat
/-! ### the order -/
def leT (a b : T8) : Bool := decide (a ≤ b)
theorem leT_refl (a : T8) : leT a a = true := decide_eq_true (List.le_refl a)
theorem leT_trans (a b c : T8) (h : leT a b = true) (g : leT b c = true) : leT a c = true := decide_eq_true (List.le_trans (of_decide_eq_true h) (of_decide_eq_true g))
theorem leT_total (a b : T8) : (leT a b || leT b a) = true := by
  rcases List.le_total a b with h | h
  · simp [leT, h]
  · simp [leT, h]
theorem leT_anti {a b : T8} (h : leT a b = true) (g : leT b a = true) : a = b := List.le_antisymm (of_decide_eq_true h) (of_decide_eq_true g)
def srtT (xs : List T8) : List T8 := xs.mergeSort leT
theorem srtT_perm (xs : List T8) : (srtT xs).Perm xs := List.mergeSort_perm xs leT
theorem srtT_pw (xs : List T8) : (srtT xs).Pairwise fun a b => leT a b = true := List.pairwise_mergeSort leT_trans leT_total xs
theorem srtT_of_perm {xs ys : List T8} (h : xs.Perm ys) : srtT xs = srtT ys := List.Perm.eq_of_pairwise (le := fun a b => leT a b = true) (fun _ _ _ _ => leT_anti) (srtT_pw xs) (srtT_pw ys) ((srtT_perm xs).trans (h.trans (srtT_perm ys).symm))
/-- each once -/
def dd : List T8 → List T8
  | [] => []
  | x :: xs => if x ∈ xs then dd xs else x :: dd xs
theorem mem_dd {x : T8} : ∀ {xs : List T8}, x ∈ dd xs ↔ x ∈ xs
  | [] => Iff.rfl
  | y :: ys => by
    unfold dd
    have ih := mem_dd (x := x) (xs := ys)
    split
    · rename_i h
      rw [ih, List.mem_cons]
      exact ⟨.inr, fun z => z.elim (fun e => e ▸ h) id⟩
    · rw [List.mem_cons, List.mem_cons, ih]
theorem nd_dd : ∀ {xs : List T8}, (dd xs).Nodup
  | [] => List.nodup_nil
  | y :: ys => by
    unfold dd
    split
    · exact nd_dd
    · rename_i h
      exact List.nodup_cons.mpr ⟨fun z => h (mem_dd.mp z), nd_dd⟩
theorem dd_len : ∀ {xs : List T8}, (dd xs).length ≤ xs.length
  | [] => Nat.le_refl _
  | y :: ys => by
    unfold dd
    have := dd_len (xs := ys)
    split
    · rw [List.length_cons]
      omega
    · rw [List.length_cons, List.length_cons]
      omega
def sd (xs : List T8) : List T8 := srtT (dd xs)
theorem mem_sd {x : T8} {xs : List T8} : x ∈ sd xs ↔ x ∈ xs := by
  unfold sd
  rw [(srtT_perm _).mem_iff, mem_dd]
theorem nd_sd {xs : List T8} : (sd xs).Nodup := (srtT_perm _).nodup_iff.mpr nd_dd
theorem sd_len {xs : List T8} : (sd xs).length ≤ xs.length := by
  unfold sd
  rw [(srtT_perm _).length_eq]
  exact dd_len
theorem sd_same {xs ys : List T8} (h : ∀ x, x ∈ xs ↔ x ∈ ys) : sd xs = sd ys := srtT_of_perm ((List.perm_ext_iff_of_nodup nd_dd nd_dd).mpr fun x => by rw [mem_dd, mem_dd, h x])
def kT (l : T8) : Key := .inr (tx l)
theorem kT_inj {a b : T8} (h : kT a = kT b) : a = b := tx_inj (Sum.inr.inj h)
theorem srtK_kT (ys : List T8) : srtK (ys.map kT) = (srtT ys).map kT := by
  unfold srtK srtT
  refine (List.map_mergeSort fun a _ b _ => ?_).symm
  rw [dataLe_eq]
  show leT a b = !PySem.W.dataLt (encK (kT b)) (encK (kT a))
  rw [show encK (kT b) = .str (tx b) from rfl, show encK (kT a) = .str (tx a) from rfl, dataLt_str, not_lt_str, tx_cps, tx_cps] <;> rfl
/-- a list of keys that are texts -/
theorem keys_texts {xs : List T8} : ∀ {bs : List Key}, (∀ k ∈ bs, k ∈ xs.map kT) → ∃ ys : List T8, bs = ys.map kT
  | [], _ => ⟨[], rfl⟩
  | k :: bs, h => by
    obtain ⟨ys, e⟩ := keys_texts (bs := bs) fun j hj => h j (List.mem_cons_of_mem _ hj)
    obtain ⟨y, _, e2⟩ := List.mem_map.mp (h k List.mem_cons_self)
    exact ⟨y :: ys, by rw [e, ← e2] <;> rfl⟩
theorem srtK_sd {xs : List T8} {bs : List Key} (nd : bs.Nodup) (m : ∀ k, k ∈ bs ↔ k ∈ xs.map kT) : srtK bs = (sd xs).map kT := by
  obtain ⟨ys, rfl⟩ := keys_texts (xs := xs) (bs := bs) fun k h => (m k).mp h
  rw [srtK_kT]
  have ndy : ys.Nodup := List.Pairwise.of_map kT (fun a b h e => h (by rw [e])) nd
  have e : srtT ys = sd xs := srtT_of_perm ((List.perm_ext_iff_of_nodup ndy nd_dd).mpr fun y => by
    rw [mem_dd]
    constructor
    · intro hy
      obtain ⟨z, h1, h2⟩ := List.mem_map.mp ((m (kT y)).mp (List.mem_map_of_mem hy))
      rw [← kT_inj h2]
      exact h1
    · intro hy
      obtain ⟨z, h1, h2⟩ := List.mem_map.mp ((m (kT y)).mpr (List.mem_map_of_mem hy))
      rw [← kT_inj h2]
      exact h1)
  rw [e]
section
variable {σ : L2.St} {Hm : Hp} {K : PySem.W.Frag} {α β : Type} {R : Rp α} {S : Rp β} {ta tb te tc tl td : TE} {t u tt : TT} {d : α} {w : World}
theorem paired_texts {H : Hp} : ∀ (xs : List T8), Paired (rS.rel H) ((xs.map kT).map kV) xs
  | [] => .nil
  | x :: xs => .cons rfl (paired_texts xs)
theorem keys_of_texts {H : Hp} {vs : List V} {xs : List T8} (h : Paired (rS.rel H) vs xs) : vs = (xs.map kT).map kV := by
  rw [vstrs h, List.map_map, List.map_map] <;> rfl
theorem scan16 {n : Nat} (h : n ≤ 1000) : n + 1 < scanBound := Nat.lt_of_le_of_lt (Nat.succ_le_succ h) (by decide)
/-- sorted(set(xs)) -/
theorem ev_ssetL {xs : List T8} (h : Ev te σ Hm (rL K rS) xs) (hz : xs.length ≤ 1000) : Ev (tCB (rSortSet w) (tCons (tCB (rSetL K w) (tCons te tNil)) tNil)) σ Hm (rL K rS) (sd xs) := fun H1 hi Q q => h H1 hi _ fun v K2 H2 x2 ⟨a, vs, ev, hS, hP⟩ => ⟨a, xs.map kT, by rw [ev], by rw [← keys_of_texts hP]; exact x2.i.seq hS, by rw [List.length_map]; exact scan16 hz, fun p np => ⟨p, xs.map kT, rfl, upd_same, .inr fun k hk => by
  obtain ⟨y, _, e⟩ := List.mem_map.mp hk
  exact ⟨tx y, e.symm⟩, by rw [List.length_map]; omega, fun bs p2 nd m np2 => by
  have x3 := xt_ref x2 (o := SetKO w p (xs.map kT)) np
  rw [srtK_sd nd m]
  exact q (.ref p2) _ _ (xt_ref x3 np2) ⟨p2, _, rfl, .inl (.inl upd_same), paired_texts _⟩⟩⟩
theorem ev_ssetT {xs : List T8} (h : Ev te σ Hm (rT K rS) xs) (hz : xs.length ≤ 1000) : Ev (tCB (rSortSet w) (tCons (tCB (rSetT K w) (tCons te tNil)) tNil)) σ Hm (rL K rS) (sd xs) := fun H1 hi Q q => h H1 hi _ fun v K2 H2 x2 ⟨a, vs, ev, hS, hP⟩ => ⟨a, xs.map kT, by rw [ev], by rw [← keys_of_texts hP]; exact seqT_mono x2.i hS, by rw [List.length_map]; exact scan16 hz, fun p np => ⟨p, xs.map kT, rfl, upd_same, .inr fun k hk => by
  obtain ⟨y, _, e⟩ := List.mem_map.mp hk
  exact ⟨tx y, e.symm⟩, by rw [List.length_map]; omega, fun bs p2 nd m np2 => by
  have x3 := xt_ref x2 (o := SetKO w p (xs.map kT)) np
  rw [srtK_sd nd m]
  exact q (.ref p2) _ _ (xt_ref x3 np2) ⟨p2, _, rfl, .inl (.inl upd_same), paired_texts _⟩⟩⟩
/-- sorted(xs), a list of texts -/
def vd (l : T8) : VD := (.str (tx l), .str (tx l))
theorem srt_vd (xs : List T8) : srt (xs.map vd) = (srtT xs).map vd := by
  unfold srt srtT
  refine (List.map_mergeSort fun a _ b _ => ?_).symm
  rw [dataLe_eq]
  show leT a b = !PySem.W.dataLt (.str (tx b)) (.str (tx a))
  rw [dataLt_str, not_lt_str, tx_cps, tx_cps] <;> rfl
theorem vd_fst {H : Hp} {vs : List V} {xs : List T8} (h : Paired (rS.rel H) vs xs) : vs = (xs.map vd).map (·.1) := by
  rw [vstrs h, List.map_map, List.map_map] <;> rfl
theorem okSort_vd {xs : List T8} (hz : xs.length ≤ 16000000) : okSort ((xs.map vd).map (·.2)) := by
  have e : ∀ d ∈ (xs.map vd).map (·.2), ∃ l : T8, d = .str (tx l) := fun d hd => by
    rw [List.map_map] at hd
    obtain ⟨l, _, e⟩ := List.mem_map.mp hd
    exact ⟨l, e.symm⟩
  refine ⟨fun d hd d' hd' => ?_, .inr fun d hd => ?_, by simpa using hz, fun d hd => ?_⟩
  · obtain ⟨l, rfl⟩ := e d hd
    obtain ⟨l', rfl⟩ := e d' hd'
    simp [PySem.W.alike]
  · obtain ⟨l, rfl⟩ := e d hd
    exact ⟨fun z => (by cases z), fun xs z => (by cases z)⟩
  · obtain ⟨l, rfl⟩ := e d hd
    exact Nat.zero_le _
theorem rc_sortS {xs : List T8} (hz : xs.length ≤ 16000000) : Rc (rSortD K) (a1 (rL K rS) xs a0) (rL K rS) (srtT xs) := fun Hm H1 hi vs ⟨v, ws, e1, ⟨a, us, e2, hS, hP⟩, e3⟩ Q q => ⟨a, xs.map vd, by rw [e1, e2, show ws = [] from e3], by rw [← vd_fst hP]; exact hi.seq hS, fun p hp => by
  obtain ⟨l, _, rfl⟩ := List.mem_map.mp hp
  exact .str _, okSort_vd hz, fun p np => by
  rw [srt_vd]
  refine q (.ref p) _ _ (Xt.new hi np) ⟨p, _, rfl, .inl (.inl upd_same), ?_⟩
  have e : ∀ ys : List T8, Paired (rS.rel (upd Hm p (.lst (((srtT xs).map vd).map (·.1))))) ((ys.map vd).map (·.1)) ys := fun ys => by
    induction ys with
    | nil => exact .nil
    | cons y ys ih => exact .cons rfl ih
  exact e _⟩
/-! ### a list of one's own -/
def rM (R : Rp α) : Rp (List α) := ⟨fun H v xs => ∃ a vs, v = .ref a ∧ H a = some (.lst vs) ∧ Paired (R.rel H) vs xs, fun s ⟨a, vs, e, h, p⟩ => ⟨a, vs, e, s _ _ h, paired_mono R s p⟩⟩
theorem Ev.l {xs : List α} (h : Ev te σ Hm (rM R) xs) : Ev te σ Hm (rL K R) xs := fun H1 hi Q q => h H1 hi Q fun v K2 H2 x2 ⟨a, vs, e, hS, hP⟩ => q v K2 H2 x2 ⟨a, vs, e, .inl (.inl hS), hP⟩
theorem rm_l {H : Hp} {v : V} {xs : List α} (h : (rM R).rel H v xs) : (rL K R).rel H v xs := by
  obtain ⟨a, vs, e, hS, hP⟩ := h
  exact ⟨a, vs, e, .inl (.inl hS), hP⟩
theorem ev_lstM {t : TA} {ds : List α} (h : Ea t σ Hm (aL R ds)) (hn : ds.length ≤ 16000000) : Ev (tLst t) σ Hm (rM R) ds := fun H1 hi Q q => h H1 hi _ fun vs K2 H2 x2 r => by
  have hp := aL_rel r
  have hl := paired_len hp
  refine ⟨by rw [sizeLine_eq]; omega, fun p np => q (.ref p) _ _ (xt_ref x2 np) ⟨p, vs, rfl, upd_same, paired_mono R (Xt.new x2.i np).s hp⟩⟩
theorem ev_slM {to tp : TO} {xs : List α} {lo hi : Option Int} (h : Ev te σ Hm (rL K R) xs) (h1 : Eo to σ Hm lo) (h2 : Eo tp σ Hm hi) : Ev (tSl (rSlL K) te to tp) σ Hm (rM R) (cut xs lo hi) := fun H1 hx Q q =>
  h H1 hx _ fun v K2 H2 x2 ⟨a, vs, ev, hS, hP⟩ => h1.mono x2.s H2 x2.i _ fun K3 H3 x3 => h2.mono (x2.trans x3).s H3 x3.i _ fun K4 H4 x4 => ⟨a, vs, ev, ((x3.trans x4).s.trans x4.i).seq hS, fun p np =>
    q (.ref p) _ _ (xt_ref ((x2.trans x3).trans x4) np) ⟨p, cutV vs lo hi, rfl, upd_same, paired_mono R ((x3.trans x4).s.trans (Xt.new x4.i np).s) (paired_cut hP)⟩⟩
theorem paired_rev {F : β → α → Prop} : ∀ {l : List β} {m : List α}, Paired F l m → Paired F l.reverse m.reverse
  | _, _, .nil => .nil
  | _, _, .cons a b => by
    rw [List.reverse_cons, List.reverse_cons]
    exact paired_app (paired_rev b) (.cons a .nil)
theorem ev_revM {xs : List α} (h : Ev te σ Hm (rL K R) xs) : Ev (tRevL K te) σ Hm (rM R) xs.reverse := fun H1 hi Q q => h H1 hi _ fun v K2 H2 x2 ⟨a, vs, e, hS, hP⟩ => ⟨a, vs, e, x2.i.seq hS, fun p np => q (.ref p) _ _ (xt_ref x2 np) ⟨p, vs.reverse, rfl, upd_same, paired_mono R (Xt.new x2.i np).s (paired_rev hP)⟩⟩
theorem rv_cat {xs ys : List α} (hz : xs.length + ys.length ≤ 16000000) : Rv rCat (rM R) xs (rM R) ys (rM R) (xs ++ ys) := fun Hm H1 hi x y ⟨a, vs, e1, h1, p1⟩ ⟨b, us, e2, h2, p2⟩ Q q => ⟨a, b, vs, us, e1, e2, hi _ _ h1, hi _ _ h2, by rw [paired_len p1, paired_len p2]; exact sz16 hz, fun p np => q (.ref p) _ _ (Xt.new hi np) ⟨p, _, rfl, upd_same, paired_mono R (Xt.new hi np).s (paired_app p1 p2)⟩⟩
/-- tuple(xs), list(xs) -/
abbrev rTupOf (K : PySem.W.Frag) : List V → Hp → VK → Prop := fun xs H Q => ∃ p ys, xs = [.ref p] ∧ ((SqL K H p ys ∧ ∀ l, H l = none → Q (.ref l) (upd H l (.tup ys))) ∨ (SqT K H p ys ∧ Q (.ref p) H))
abbrev rLstOf (K : PySem.W.Frag) : List V → Hp → VK → Prop := fun xs H Q => ∃ p ys, xs = [.ref p] ∧ (SqL K H p ys ∨ SqT K H p ys) ∧ ∀ l, H l = none → Q (.ref l) (upd H l (.lst ys))
theorem rc_tupOfL {xs : List α} : Rc (rTupOf K) (a1 (rL K R) xs a0) (rT K R) xs := fun Hm H1 hi vs ⟨v, ws, e1, ⟨a, us, e2, hS, hP⟩, e3⟩ Q q => ⟨a, us, by rw [e1, e2, show ws = [] from e3], .inl ⟨hi.seq hS, fun p np => q (.ref p) _ _ (Xt.new hi np) ⟨p, us, rfl, .inl (.inl upd_same), paired_mono R (Xt.new hi np).s hP⟩⟩⟩
theorem rc_lstOfL {xs : List α} : Rc (rLstOf K) (a1 (rL K R) xs a0) (rM R) xs := fun Hm H1 hi vs ⟨v, ws, e1, ⟨a, us, e2, hS, hP⟩, e3⟩ Q q => ⟨a, us, by rw [e1, e2, show ws = [] from e3], .inl (hi.seq hS), fun p np => q (.ref p) _ _ (Xt.new hi np) ⟨p, us, rfl, upd_same, paired_mono R (Xt.new hi np).s hP⟩⟩
end
end NJ

set_option Elab.async false
set_option linter.all false
set_option maxRecDepth 100000
set_option maxHeartbeats 4000000
/-! A dict of texts, made by a comprehension. -/
namespace NJ
open PySem PySem.Spec PyProof.Rows L2
theorem putK_len {kvs : List (Key × V)} {k : Key} {v : V} : (putK kvs k v).length ≤ kvs.length + 1 := by
  unfold putK
  split
  · rw [List.length_map]
    omega
  · simp
theorem put_has {kvs : List (Key × V)} {l : T8} {v : V} {ys : List T8} (h : ∀ z : T8, (valV kvs (.inr (tx z))).isSome = decide (z ∈ ys)) (z : T8) : (valV (putK kvs (.inr (tx l)) v) (.inr (tx z))).isSome = decide (z ∈ ys ++ [l]) := by
  rw [valV_put]
  by_cases e : z = l
  · subst e
    simp
  · have e2 : ¬ (Sum.inr (tx z) : Key) = .inr (tx l) := fun q => e (tx_inj (Sum.inr.inj q))
    rw [if_neg e2, h z]
    simp [e]
structure Cd (K2 H2 : Hp) (D : Addr) (ys : List T8) (n : Nat) (Ki : Hp) (kvs : List (Key × V)) (H' : Hp) : Prop where
  s : Same K2 Ki
  i : Same Ki H'
  k : Same H2 H'
  f : ∀ p, Ki p ≠ none → K2 p ≠ none ∨ H2 p = none
  nn : Ki D = none
  at_ : H' D = some (.dK kvs)
  r : ∀ z : T8, (valV kvs (.inr (tx z))).isSome = decide (z ∈ ys)
  len : kvs.length ≤ n
section
variable {σ : L2.St} {Hm : Hp} {K : PySem.W.Frag} {α β : Type} {R : Rp α} {S : Rp β} {ta tb te tc tl tk tv : TE} {t u tt : TT} {d : α} {e0 : β}
theorem ev_dcT {wi : TI} {g : TG} {vs : List Nat} {xs : List α} (f : α → Bool) (m : α → T8) (hw : Wk wi σ Hm R xs) (hn : xs.length ≤ 16000000)
    (hb : ∀ d, d ∈ xs → ∀ v K3, Same Hm K3 → R.rel K3 v d → ∃ σ2, Tk g (wipe σ vs) K3 v σ2 ∧ wipe σ2 vs = wipe σ vs ∧ Et tt σ2 K3 (f d) ∧ (f d = true → Ev tk σ2 K3 rS (m d) ∧ Ev tv σ2 K3 S e0)) :
    Ev (tDc wi g tt tk tv vs) σ Hm rD ((xs.filter f).map m) := fun H1 hi Q q => hw H1 hi _ fun J K2 H2 x2 hJ D hD => by
  have hKD : K2 D = none := none_back x2.i hD
  refine ⟨fun i mm H' => i + mm = xs.length ∧ ∃ Ki us, Cd K2 H2 D (((xs.take i).filter f).map m) i Ki us H', ⟨xs.length, by omega, K2, [], Same.refl _, same_mut x2.i hKD, same_mut (Same.refl _) hD, fun _ h => .inl h, hKD, upd_same, fun _ => rfl, Nat.le_refl _⟩, ?_⟩
  rintro i mm H' ⟨em, Ki, us, c⟩
  obtain ⟨go, stop, yld⟩ := hJ i H' (c.s.trans c.i)
  by_cases hlt : i < xs.length
  · refine .inr ⟨go hlt, fun H'' => ∃ Ki us, Cd K2 H2 D (((xs.take (i + 1)).filter f).map m) (i + 1) Ki us H'', fun H'' ⟨Ki2, us2, c2⟩ => ⟨mm - 1, by omega, by omega, Ki2, us2, c2⟩, fun v H4 hy => ?_⟩
    obtain ⟨d, K4, ed, x4, rv⟩ := yld hlt v H4 hy
    have x5 : Xt Ki H' (uni Ki K4) H4 := Xt.lift c.s c.i x4
    obtain ⟨σ2, htk, hwp, het, hev⟩ := hb d (List.mem_of_getElem? ed) v (uni Ki K4) ((x2.s.trans c.s).trans x5.s) (R.mono (uni_r (c.i.trans x4.k) x4.i) rv)
    refine htk H4 x5.i _ ⟨hwp, het H4 x5.i _ fun K6 H6 x6 => ?_⟩
    have y6 := x5.trans x6
    cases hf : f d with
    | true =>
      refine iteT (((hev hf).1.mono x6.s) H6 x6.i _ fun y K7 H7 x7 ry => ((hev hf).2.mono (x6.s.trans x7.s)) H7 x7.i _ fun y2 K8 H8 x8 ry2 => ?_)
      have y7 := (y6.trans x7).trans x8
      have hK7 : K8 D = none := none_of y7 c.nn c.at_
      refine ⟨us, .inr (tx (m d)), ry, y7.k D _ c.at_, Nat.lt_of_le_of_lt c.len (Nat.lt_of_lt_of_le hlt (sz16 hn)), K8, _, c.s.trans y7.s, same_mut y7.i hK7, fun b o e => ?_, fun p h => ?_, hK7, upd_same, ?_, Nat.le_trans putK_len (Nat.succ_le_succ c.len)⟩
      · rw [upd_ne (ne_of_none e hD)]
        exact y7.k b o (c.k b o e)
      · rcases y7.f p h with z | z
        · exact c.f p z
        · exact .inr (none_back c.k z)
      · rw [filter_yes ed hf, List.map_append]
        exact put_has c.r
    | false =>
      refine iteF ⟨K6, us, c.s.trans y6.s, y6.i, c.k.trans y6.k, fun p h => ?_, none_of y6 c.nn c.at_, y6.k D _ c.at_, ?_, Nat.le_succ_of_le c.len⟩
      · rcases y6.f p h with z | z
        · exact c.f p z
        · exact .inr (none_back c.k z)
      · rw [filter_no ed hf]
        exact c.r
  · refine .inl ⟨stop (by omega), q (.ref D) (upd Ki D (.dK us)) H' (x2.trans ⟨fun b o e => ?_, fun b o e => ?_, c.k, fun p h => ?_⟩) ⟨D, us, rfl, upd_same, ?_⟩⟩
    · rw [upd_ne (ne_of_none (c.s b o e) c.nn)]
      exact c.s b o e
    · by_cases hb : b = D
      · subst hb
        rw [upd_same] at e
        rw [← e]
        exact c.at_
      · rw [upd_ne hb] at e
        exact c.i b o e
    · by_cases hb : p = D
      · subst hb
        exact .inr hD
      · rw [upd_ne hb] at h
        exact c.f p h
    · have hr := c.r
      rw [List.take_of_length_le (by omega)] at hr
      exact hr
end
end NJ

set_option Elab.async false
set_option linter.all false
set_option maxHeartbeats 1000000
/-! What begins another text, in a list in order. -/
namespace NJ
theorem pre_mid : ∀ {p r q : T8}, p ≤ r → r ≤ q → p <+: q → p <+: r
  | [], _, _, _, _, _ => List.nil_prefix
  | a :: p, [], q, h, _, _ => by
    exfalso
    have : ([] : T8) < a :: p := List.nil_lt_cons a p
    exact h this
  | a :: p, b :: r, [], h, g, k => by simp at k
  | a :: p, b :: r, c :: q, h, g, k => by
    rw [List.cons_prefix_cons] at k
    obtain ⟨rfl, k⟩ := k
    rw [List.cons_le_cons_iff] at h g
    have e : a = b := by
      rcases h with h | h
      · rcases g with g | g
        · omega
        · omega
      · exact h.1
    subst e
    have h2 : p ≤ r := by
      rcases h with h | h
      · omega
      · exact h.2
    have g2 : r ≤ q := by
      rcases g with g | g
      · omega
      · exact g.2
    rw [List.cons_prefix_cons]
    exact ⟨rfl, pre_mid h2 g2 k⟩
theorem pre_le : ∀ {p q : T8}, p <+: q → p ≤ q
  | [], _, _ => List.nil_le _
  | a :: p, [], k => by simp at k
  | a :: p, c :: q, k => by
    rw [List.cons_prefix_cons] at k
    obtain ⟨rfl, k⟩ := k
    rw [List.cons_le_cons_iff]
    exact .inr ⟨rfl, pre_le k⟩
def begF (ls : List T8) : List T8 := ((ls.zip (ls.drop 1)).filter fun p => p.1.isPrefixOf p.2).map (·.1)
def Asc (ls : List T8) : Prop := ls.Pairwise (fun a b => leT a b = true) ∧ ls.Nodup
theorem begF_in {ls : List T8} {p : T8} (h : p ∈ begF ls) (nd : ls.Nodup) : p ∈ ls ∧ ∃ q ∈ ls, q ≠ p ∧ p <+: q := by
  obtain ⟨⟨a, b⟩, h1, rfl⟩ := List.mem_map.mp h
  obtain ⟨h2, h3⟩ := List.mem_filter.mp h1
  obtain ⟨i, hi⟩ := List.mem_iff_getElem?.mp h2
  rw [List.getElem?_zip_eq_some, List.getElem?_drop] at hi
  obtain ⟨ha, hb⟩ := hi
  refine ⟨List.mem_of_getElem? ha, b, List.mem_of_getElem? hb, fun e => ?_, List.isPrefixOf_iff_prefix.mp h3⟩
  dsimp only at e ha hb
  subst e
  have l1 := (List.getElem?_eq_some_iff.mp ha).1
  have := (List.getElem?_inj l1 nd).mp (ha.trans hb.symm)
  omega
theorem begF_of : ∀ {ls : List T8} {p q : T8}, Asc ls → p ∈ ls → q ∈ ls → q ≠ p → p <+: q → p ∈ begF ls
  | [], p, q, _, h, _, _, _ => by cases h
  | [x], p, q, _, h, g, n, _ => by
    rw [List.mem_singleton] at h g
    exact absurd (g.trans h.symm) n
  | x :: y :: ls, p, q, ⟨pw, nd⟩, h, g, n, k => by
    have e : begF (x :: y :: ls) = (if x.isPrefixOf y then [x] else []) ++ begF (y :: ls) := by
      unfold begF
      simp only [List.drop_succ_cons, List.drop_zero, List.zip_cons_cons, List.filter_cons]
      split <;> simp
    rw [e, List.mem_append]
    have pw2 := List.pairwise_cons.mp pw
    have nd2 := List.nodup_cons.mp nd
    by_cases hx : p = x
    · subst hx
      left
      have hq : q ∈ y :: ls := by
        rcases List.mem_cons.mp g with z | z
        · exact absurd z n
        · exact z
      have h1 : p ≤ y := of_decide_eq_true (pw2.1 y List.mem_cons_self)
      have h2 : y ≤ q := by
        rcases List.mem_cons.mp hq with z | z
        · subst z
          exact List.le_refl _
        · exact of_decide_eq_true ((List.pairwise_cons.mp pw2.2).1 q z)
      have := pre_mid h1 h2 k
      rw [List.isPrefixOf_iff_prefix.mpr this]
      simp
    · right
      have hp : p ∈ y :: ls := by
        rcases List.mem_cons.mp h with z | z
        · exact absurd z hx
        · exact z
      have hq : q ∈ y :: ls := by
        rcases List.mem_cons.mp g with z | z
        · subst z
          have := leT_anti (pw2.1 p hp) (decide_eq_true (pre_le k))
          exact absurd this n
        · exact z
      exact begF_of ⟨pw2.2, nd2.2⟩ hp hq n k
theorem mem_begF {ls : List T8} {p : T8} (h : Asc ls) : p ∈ begF ls ↔ p ∈ ls ∧ ∃ q ∈ ls, q ≠ p ∧ p <+: q := ⟨fun z => begF_in z h.2, fun ⟨a, q, b, c, d⟩ => begF_of h a b c d⟩
theorem asc_sd (xs : List T8) : Asc (sd xs) := ⟨srtT_pw _, nd_sd⟩
theorem rev_inj {a b : T8} (h : a.reverse = b.reverse) : a = b := List.reverse_inj.mp h
theorem asc_rev (xs : List T8) : Asc (srtT ((sd xs).map List.reverse)) := ⟨srtT_pw _, (srtT_perm _).nodup_iff.mpr (List.Pairwise.map _ (fun a b h e => h (rev_inj e)) nd_sd)⟩
/-- t begins or ends another one of ls -/
def Cl (ls : List T8) (t : T8) : Prop := ∃ q ∈ ls, q ≠ t ∧ (t <+: q ∨ t <:+ q)
def clashing (xs : List T8) : List T8 := (sd xs).filter fun t => decide (t ∈ begF (sd xs)) || decide (t.reverse ∈ begF (srtT ((sd xs).map List.reverse)))
def others (xs : List T8) (one : T8) : List T8 := (sd xs).filter fun t => (!decide (t = one)) && (one.isPrefixOf t || one.isSuffixOf t)
theorem mem_clashing {xs : List T8} {t : T8} : t ∈ clashing xs ↔ t ∈ sd xs ∧ Cl (sd xs) t := by
  unfold clashing
  rw [List.mem_filter, Bool.or_eq_true, decide_eq_true_iff, decide_eq_true_iff, mem_begF (asc_sd xs), mem_begF (asc_rev xs)]
  constructor
  · rintro ⟨h, ⟨_, q, a, b, c⟩ | ⟨_, q, a, b, c⟩⟩
    · exact ⟨h, q, a, b, .inl c⟩
    · rw [(srtT_perm _).mem_iff] at a
      obtain ⟨z, h1, rfl⟩ := List.mem_map.mp a
      exact ⟨h, z, h1, fun e => b (by rw [e]), .inr (List.reverse_prefix.mp c)⟩
  · rintro ⟨h, q, a, b, c | c⟩
    · exact ⟨h, .inl ⟨h, q, a, b, c⟩⟩
    · refine ⟨h, .inr ⟨?_, q.reverse, ?_, fun e => b (rev_inj e), List.reverse_prefix.mpr c⟩⟩
      · rw [(srtT_perm _).mem_iff]
        exact List.mem_map_of_mem h
      · rw [(srtT_perm _).mem_iff]
        exact List.mem_map_of_mem a
theorem mem_others {xs : List T8} {one t : T8} : t ∈ others xs one ↔ t ∈ sd xs ∧ t ≠ one ∧ (one <+: t ∨ one <:+ t) := by
  unfold others
  rw [List.mem_filter, Bool.and_eq_true, Bool.or_eq_true, List.isPrefixOf_iff_prefix, List.isSuffixOf_iff_suffix]
  simp
theorem others_some {xs : List T8} {one : T8} (h : one ∈ clashing xs) : others xs one ≠ [] := by
  obtain ⟨_, q, a, b, c⟩ := mem_clashing.mp h
  exact List.ne_nil_of_mem (mem_others.mpr ⟨a, b, c⟩)
/-- what least_clash tells -/
def lcF (xs : List T8) : Option (T8 × T8) := match clashing xs with
  | [] => none
  | one :: _ => some (one, (others xs one).headD [])
/-- the pairs that clash -/
def Pr (xs : List T8) (p : T8 × T8) : Prop := p.1 ∈ xs ∧ p.2 ∈ xs ∧ p.1.length < p.2.length ∧ (p.1 <+: p.2 ∨ p.1 <:+ p.2)
theorem cl_len {t q : T8} (n : q ≠ t) (h : t <+: q ∨ t <:+ q) : t.length < q.length := by
  rcases h with h | h
  · have := h.length_le
    rcases Nat.lt_or_ge t.length q.length with z | z
    · exact z
    · exact absurd (h.eq_of_length (by omega)).symm n
  · have := h.length_le
    rcases Nat.lt_or_ge t.length q.length with z | z
    · exact z
    · exact absurd (h.eq_of_length (by omega)).symm n
/-- the order of the pairs -/
def leP (p q : T8 × T8) : Prop := p.1 < q.1 ∨ (p.1 = q.1 ∧ p.2 ≤ q.2)
theorem head_le {l : List T8} {x : T8} {r : List T8} (pw : l.Pairwise fun a b => leT a b = true) (e : l = x :: r) {y : T8} (h : y ∈ l) : x ≤ y := by
  subst e
  rcases List.mem_cons.mp h with z | z
  · rw [z]
    exact List.le_refl _
  · exact of_decide_eq_true ((List.pairwise_cons.mp pw).1 y z)
theorem lcF_none {xs : List T8} (h : lcF xs = none) (p : T8 × T8) : ¬ Pr xs p := by
  rintro ⟨a, b, c, d⟩
  have : p.1 ∈ clashing xs := mem_clashing.mpr ⟨mem_sd.mpr a, p.2, mem_sd.mpr b, fun e => by rw [e] at c; omega, d⟩
  unfold lcF at h
  split at h
  · rename_i e
    rw [e] at this
    cases this
  · cases h
theorem lcF_some {xs : List T8} {m : T8 × T8} (h : lcF xs = some m) : Pr xs m ∧ ∀ p, Pr xs p → leP m p := by
  unfold lcF at h
  split at h
  · cases h
  · rename_i one r e
    have e1 : one ∈ clashing xs := by rw [e]; exact List.mem_cons_self
    have e2 := others_some e1
    cases eo : others xs one with
    | nil => exact absurd eo e2
    | cons o os =>
      rw [eo] at h
      have em : m = (one, o) := (Option.some.inj h).symm
      subst em
      have ho : o ∈ others xs one := by rw [eo]; exact List.mem_cons_self
      obtain ⟨h1, h2, h3⟩ := mem_others.mp ho
      refine ⟨⟨mem_sd.mp (mem_clashing.mp e1).1, mem_sd.mp h1, cl_len h2 h3, h3⟩, ?_⟩
      rintro ⟨a, b⟩ ⟨ha, hb, hl, hc⟩
      dsimp only at ha hb hl hc
      have nab : b ≠ a := fun z => by rw [z] at hl; omega
      have ca : a ∈ clashing xs := mem_clashing.mpr ⟨mem_sd.mpr ha, b, mem_sd.mpr hb, nab, hc⟩
      have le1 : one ≤ a := head_le (List.Pairwise.sublist List.filter_sublist (asc_sd xs).1) e ca
      by_cases z : one = a
      · subst z
        have cb : b ∈ others xs one := mem_others.mpr ⟨mem_sd.mpr hb, nab, hc⟩
        exact .inr ⟨rfl, head_le (List.Pairwise.sublist List.filter_sublist (asc_sd xs).1) eo cb⟩
      · refine .inl ?_
        rcases Decidable.em (one < a) with y | y
        · exact y
        · exact absurd (List.le_antisymm le1 (List.not_lt.mp y)) z
theorem leP_anti {p q : T8 × T8} (h : leP p q) (g : leP q p) : p = q := by
  obtain ⟨a, b⟩ := p
  obtain ⟨c, d⟩ := q
  unfold leP at h g
  dsimp only at h g
  rcases h with h | ⟨h1, h2⟩
  · rcases g with g | ⟨g1, g2⟩
    · exact absurd g (List.lt_asymm h)
    · rw [g1] at h
      exact absurd h (List.lt_irrefl _)
  · subst h1
    rcases g with g | ⟨g1, g2⟩
    · exact absurd g (List.lt_irrefl _)
    · rw [List.le_antisymm h2 g2]
/-- the least of the pairs is what least_clash tells -/
theorem lcF_is {xs : List T8} {m : T8 × T8} (h : Pr xs m) (g : ∀ p, Pr xs p → leP m p) : lcF xs = some m := by
  cases e : lcF xs with
  | none => exact absurd h (lcF_none e m)
  | some z =>
    obtain ⟨h1, h2⟩ := lcF_some e
    rw [leP_anti (h2 m h) (g z h1)]
theorem lcF_is_none {xs : List T8} (h : ∀ p, ¬ Pr xs p) : lcF xs = none := by
  cases e : lcF xs with
  | none => rfl
  | some z => exact absurd (lcF_some e).1 (h z)
theorem lcF_same {xs ys : List T8} (h : ∀ x, x ∈ xs ↔ x ∈ ys) : lcF xs = lcF ys := by
  unfold lcF clashing others
  rw [sd_same h]
end NJ

set_option Elab.async false
set_option linter.all false
set_option maxRecDepth 100000
set_option maxHeartbeats 4000000
/-! What is known of a result only up to a property; objects that a def changes behind a veil. -/
namespace NJ
open PySem PySem.Spec PyProof.Rows L2
/-- some d with P, so laid -/
def rE {α : Type} (R : Rp α) (P : α → Prop) : Rp Unit := ⟨fun H v _ => ∃ d, R.rel H v d ∧ P d, fun s ⟨d, h, p⟩ => ⟨d, R.mono s h, p⟩⟩
section
variable {σ : L2.St} {Hm : Hp} {K : PySem.W.Frag} {α β γ : Type} {R : Rp α} {S : Rp β} {T : Rp γ} {ta tb te tc tl td : TE} {d : α} {e : β} {z : γ} {P : α → Prop} {P2 : γ → Prop} {Pb : β → Prop}
theorem Ev.some_ (h : Ev te σ Hm R d) (p : P d) : Ev te σ Hm (rE R P) () := fun H1 hi Q q => h H1 hi Q fun v K2 H2 x2 r => q v K2 H2 x2 ⟨d, r, p⟩
/-- a part whose result is known up to P -/
theorem ev_opE {r : R2} (ha : Ev ta σ Hm R d) (hb : Ev tb σ Hm (rE S Pb) ()) (hr : ∀ e, Pb e → ∃ z, P2 z ∧ Rv r R d S e T z) : Ev (tOp r ta tb) σ Hm (rE T P2) () := fun H1 hi Q q =>
  ha H1 hi _ fun x K2 H2 x2 rx => hb.mono x2.s H2 x2.i _ fun y K3 H3 x3 ⟨e, ry, pe⟩ => by
    obtain ⟨z, pz, hz⟩ := hr e pe
    exact hz K3 H3 x3.i x y (R.mono x3.s rx) ry Q fun v K4 H4 x4 rv => q v K4 H4 ((x2.trans x3).trans x4) ⟨z, rv, pz⟩
theorem ev_opE2 {r : R2} (ha : Ev ta σ Hm (rE R P) ()) (hb : Ev tb σ Hm S e) (hr : ∀ d, P d → ∃ z, P2 z ∧ Rv r R d S e T z) : Ev (tOp r ta tb) σ Hm (rE T P2) () := fun H1 hi Q q =>
  ha H1 hi _ fun x K2 H2 x2 ⟨d, rx, pd⟩ => hb.mono x2.s H2 x2.i _ fun y K3 H3 x3 ry => by
    obtain ⟨z, pz, hz⟩ := hr d pd
    exact hz K3 H3 x3.i x y (R.mono x3.s rx) ry Q fun v K4 H4 x4 rv => q v K4 H4 ((x2.trans x3).trans x4) ⟨z, rv, pz⟩
theorem Ev.imp {P' : α → Prop} (h : Ev te σ Hm (rE R P) ()) (f : ∀ d, P d → P' d) : Ev te σ Hm (rE R P') () := fun H1 hi Q q => h H1 hi Q fun v K2 H2 x2 ⟨d, r, p⟩ => q v K2 H2 x2 ⟨d, r, f d p⟩
/-- what stands in a slot -/
theorem ev_ref_ {a : Addr} {v : V} (h : Ev te σ Hm rV v) (r : R.rel Hm v d) : Ev te σ Hm R d := fun H1 hi Q q => h H1 hi Q fun u K2 H2 x2 e => q u K2 H2 x2 (by rw [show u = v from e]; exact R.mono x2.s r)
theorem ev_rv {v : V} (h : Ev te σ Hm rV v) (r : R.rel Hm v d) : Ev te σ Hm R d := fun H1 hi Q q => h H1 hi Q fun u K2 H2 x2 e => q u K2 H2 x2 (by rw [show u = v from e]; exact R.mono x2.s r)
/-- a list of one's own, whatever its items -/
def rX : Rp (List V) := ⟨fun H v vs => ∃ a, v = .ref a ∧ H a = some (.lst vs), fun s ⟨a, e, h⟩ => ⟨a, e, s _ _ h⟩⟩
theorem rv_ixX {xs : List V} {i : Int} {j : Nat} {v : V} (hi : i = (j : Int)) (hd : xs[j]? = some v) : Rv (rIxL K) rX xs rI i rV v := rv_now fun Hm H1 hx x y ⟨a, ev, hS⟩ ry => ⟨v, rfl, fun Q q => ⟨a, xs, i, v, ev, ry, .inl (.inl (hx _ _ hS)), by rw [hi]; exact atI_nat hd, q⟩⟩
abbrev rInt1 : List V → Hp → VK → Prop := fun xs H Q => (∃ i, xs = [.int i] ∧ Q (.int i) H) ∨ ∃ k, xs = [.bl k] ∧ Q (.int (if k then 1 else 0)) H
theorem rc_int1 {i : Int} : Rc rInt1 (a1 rI i a0) rI i := rc_now fun Hm H1 hi vs ⟨v, ws, e1, e2, e3⟩ => ⟨.int i, rfl, fun Q q => .inl ⟨i, by rw [e1, show v = V.int i from e2, show ws = [] from e3], q⟩⟩
abbrev rAbs : List V → Hp → VK → Prop := fun xs H Q => ∃ i, xs = [.int i] ∧ Q (.int (if i < 0 then -i else i)) H
theorem rc_abs {i : Int} : Rc rAbs (a1 rI i a0) rI (if i < 0 then -i else i) := rc_now fun Hm H1 hi vs ⟨v, ws, e1, e2, e3⟩ => ⟨_, rfl, fun Q q => ⟨i, by rw [e1, show v = V.int i from e2, show ws = [] from e3], q⟩⟩
/-! ### statements -/
variable {D : Ends} {t : TT} {t1 t2 tz : TS} {H : Hp}
theorem q_whenJ {b : Bool} (M : L2.St → Hp → Prop) (h : Et t σ Hm b) (hi : Same Hm H) (tail : ∀ σ' H', M σ' H' → tz D σ' H') (h1 : (∀ σ' H', M σ' H' → tz D σ' H') → b = true → ∀ K1 H1, Xt Hm H K1 H1 → t1 { D with nx := tz D } σ H1) (h2 : b = false → ∀ K1 H1, Xt Hm H K1 H1 → M σ H1) : tSeq (tIfS t t1 tNext) tz D σ H :=
  q_when h hi (h1 tail) fun hb K1 H1 x => tail _ _ (h2 hb K1 H1 x)
/-- xs[i] = e, xs a list of one's own -/
theorem s_put {a : Addr} {i j : Nat} {k : Int} {us : List V} {ti : TE} (hv : σ[i]? = some (some (.ref a))) (ha : H a = some (.lst us)) (h : Ev te σ Hm R d) (hi : Same Hm H) (hk : Ev ti σ Hm rI k) (e : k = (j : Int)) (hj : j < us.length)
    (q : ∀ v K1 H1, Xt Hm H K1 H1 → R.rel K1 v d → D.nx σ (upd H1 a (.lst (us.set j v)))) : tAsg te (gSub (tVar i) ti L2.rSetL) D σ H := h H hi _ fun v K1 H1 x r => ⟨.ref a, hv, hk.mono x.s H1 x.i _ fun u K2 H2 x2 ru => ⟨a, us, k, j, rfl, ru, (x.trans x2).k a _ ha, by
  subst e
  unfold ixN
  rw [if_pos (by omega), if_pos (by omega)]
  simp, q v K2 H2 (x.trans x2) (R.mono x2.s r)⟩⟩
theorem q_put {a : Addr} {i j : Nat} {k : Int} {us : List V} {ti : TE} (hv : σ[i]? = some (some (.ref a))) (ha : H a = some (.lst us)) (h : Ev te σ Hm R d) (hi : Same Hm H) (hk : Ev ti σ Hm rI k) (e : k = (j : Int)) (hj : j < us.length)
    (q : ∀ v K1 H1, Xt Hm H K1 H1 → R.rel K1 v d → tz D σ (upd H1 a (.lst (us.set j v)))) : tSeq (tAsg te (gSub (tVar i) ti L2.rSetL)) tz D σ H := s_put (D := { D with nx := tz D }) hv ha h hi hk e hj q
end
/-! ### the hand -/
/-- a hand of cards: where it stands nobody need know -/
def HandP (a c : Addr) (h : Heap) : Prop := ∃ (p b sd n : Int) (its : List Value) (m : Nat), 0 ≤ p ∧ Vals [.ref c, .int p, .int b, .int sd, .int n] its ∧ h.get? a = some { cls := .type "list", data := .seq its.toArray m }
def HandO (a c : Addr) : HO := .ext (HandP a c)
theorem hand_ok {P : Program} {w : World} {H : Hp} {h : Heap} {a c : Addr} (p : HandP a c h) : ObjOk P w H h a (HandO a c) := by
  refine ⟨p, ?_, ?_⟩
  · obtain ⟨_, _, _, _, its, m, _, _, e⟩ := p
    exact ⟨_, e⟩
  · rintro h1 h2 ⟨p, b, sd, n, its, m, hp, hv, e⟩ k
    exact ⟨p, b, sd, n, its, m, hp, hv, k _ e⟩
def rHand : Rp (List Int) := ⟨fun H v cs => ∃ a c, v = .ref a ∧ H a = some (HandO a c) ∧ H c = some (.lst (cs.map V.int)), fun s ⟨a, c, e, h, g⟩ => ⟨a, c, e, s _ _ h, s _ _ g⟩⟩
section
variable {P : Program} {w : World} {K : PySem.W.Frag} {mg : Str → Option Value} {base : Heap} {k : Nat} {f : Addr} {fd : FuncData} {ps : List Str} {sp sp0 : Sp}
/-- one object's description changed -/
theorem hok_turn {H H' : Hp} {h : Heap} {a : Addr} {u o : HO} (k : HOk P w H h) (ha : H a = some u) (hu1 : ∀ y, u ≠ .own y) (hu2 : ∀ xs, u ≠ .tup xs) (he : ∀ b, b ≠ a → H' b = H b) (h' : H' a = some o) (ok : ObjOk P w H' h a o) : HOk P w H' h := fun b x e => by
  by_cases hb : b = a
  · subst hb
    rw [h'] at e
    cases e
    exact ok
  · rw [he b hb] at e
    refine (k b x e).stay (fun _ _ _ q => q) (fun y hy => ?_) (fun y xs hy => ?_)
    · by_cases hya : y = a
      · subst hya
        rw [ha] at hy
        exact absurd (Option.some.inj hy) (hu1 b)
      · rw [he y hya]
        exact hy
    · by_cases hya : y = a
      · subst hya
        rw [ha] at hy
        exact absurd (Option.some.inj hy) (hu2 xs)
      · rw [he y hya]
        exact hy
theorem un_turn {fr : List Addr} {H H0 H' H'' : Hp} {h h' : Heap} (un : Un fr [] H0 H' h h') (hn : ∀ b, H b = none → H0 b = none) (hf : ∀ b, H b = none → H' b = none → H'' b = none) (ht : ∀ b xs, H b = some (.tup xs) → H'' b = some (.tup xs)) (hz : ∀ b o u, H b = some (.frz o u) → H'' b = some (.frz o u))
    (hl : ∀ b ps, H b = some (.tbl ps) → ∃ more, H'' b = some (.tbl (ps ++ more))) : Un fr [] H H'' h h' :=
  ⟨fun b o e n => un.keep b o e (hn b n), fun b o e n => un.slot b o e (hn b n), fun b o e n x => hf b n (un.free b o e (hn b n) x), un.there, ht, hz, hl⟩
/-- a def's promise by way of another one -/
theorem FnOk.turn (F : FnOk P w K mg base CX0 k f fd ps sp0) (len : ∀ vs H Q E, sp vs H Q E → vs.length = ps.length)
    (h : ∀ (fr : List Addr) (vs : List V) (H : Hp) (Q : VK) (E : XK) (hp : Heap), sp vs H Q E → HOk P w H hp → ∃ (H0 : Hp) (Q0 : VK), sp0 vs H0 Q0 E ∧ HOk P w H0 hp ∧ (∀ b, H b = none → H0 b = none) ∧
      ∀ v H' hp', Un fr [] H0 H' hp hp' → HOk P w H' hp' → Q0 v H' → ∃ H'', Un fr [] H H'' hp hp' ∧ HOk P w H'' hp' ∧ Q v H'') : FnOk P w K mg base CX0 k f fd ps sp := by
  refine ⟨len, fun A outer s H args us vs Q E hr he hb hv hs => ?_⟩
  obtain ⟨H0, Q0, s0, ok0, hn, back⟩ := h (frs outer) vs H Q E s.heap hs he.hok
  refine codeAny_mono (F.run A outer s H0 args us vs Q0 E hr ⟨he.frames, he.mod, fun b o e => ⟨(he.bs b o e).1, hn b (he.bs b o e).2⟩, he.bsz, he.funs, fun b hb => hn b (he.frf b hb), ok0, he.bare⟩ hb hv s0) fun r s' hr' => ?_
  cases r with
  | error e => exact hr'
  | ok fl =>
    cases fl with
    | ret u =>
      obtain ⟨v, H', e1, e2, un, ok', rv, q0⟩ := hr'
      obtain ⟨H'', un2, ok2, q2⟩ := back v H' s'.heap un ok' q0
      exact ⟨v, H'', e1, e2, un2, ok2, rv, q2⟩
    | _ => exact hr'
theorem Fk.turn (F : Fk P w K mg base CX0 k f ps sp0) (len : ∀ vs H Q E, sp vs H Q E → vs.length = ps.length)
    (h : ∀ (fr : List Addr) (vs : List V) (H : Hp) (Q : VK) (E : XK) (hp : Heap), sp vs H Q E → HOk P w H hp → ∃ (H0 : Hp) (Q0 : VK), sp0 vs H0 Q0 E ∧ HOk P w H0 hp ∧ (∀ b, H b = none → H0 b = none) ∧
      ∀ v H' hp', Un fr [] H0 H' hp hp' → HOk P w H' hp' → Q0 v H' → ∃ H'', Un fr [] H H'' hp hp' ∧ HOk P w H'' hp' ∧ Q v H'') : Fk P w K mg base CX0 k f ps sp := by
  obtain ⟨⟨fd, G, b⟩, kp⟩ := F
  exact ⟨⟨fd, FnOk.turn G len h, b⟩, kp⟩
end
/-- a comprehension's list is one's own -/
theorem ev_lcM {σ : L2.St} {Hm : Hp} {α β : Type} {R : Rp α} {S : Rp β} {te : TE} {wi : TI} {g : TG} {vs : List Nat} {xs : List α} (m : α → β) (hw : Wk wi σ Hm R xs) (hn : xs.length ≤ 16000000)
    (hb : ∀ d, d ∈ xs → ∀ v K3, Same Hm K3 → R.rel K3 v d → ∃ σ2, Tk g (wipe σ vs) K3 v σ2 ∧ wipe σ2 vs = wipe σ vs ∧ Ev te σ2 K3 S (m d)) :
    Ev (tLc wi g tYes te vs) σ Hm (rM S) (xs.map m) := fun H1 hi Q q => hw H1 hi _ fun J K2 H2 x2 hJ D hD => by
  have hKD : K2 D = none := none_back x2.i hD
  refine ⟨fun i mm H' => i + mm = xs.length ∧ ∃ Ki us, Ci K2 H2 D S ((xs.take i).map m) Ki us H', ⟨xs.length, by omega, K2, [], Same.refl _, same_mut x2.i hKD, same_mut (Same.refl _) hD, fun _ h => .inl h, hKD, upd_same, .nil⟩, ?_⟩
  rintro i mm H' ⟨em, Ki, us, c⟩
  obtain ⟨go, stop, yld⟩ := hJ i H' (c.s.trans c.i)
  have hul : us.length ≤ i := by
    rw [paired_len c.r, List.length_map, List.length_take]
    exact Nat.min_le_left _ _
  by_cases hlt : i < xs.length
  · refine .inr ⟨go hlt, fun H'' => ∃ Ki us, Ci K2 H2 D S ((xs.take (i + 1)).map m) Ki us H'', fun H'' ⟨Ki2, us2, c2⟩ => ⟨mm - 1, by omega, by omega, Ki2, us2, c2⟩, fun v H4 hy => ?_⟩
    obtain ⟨d, K4, ed, x4, rv⟩ := yld hlt v H4 hy
    have x5 : Xt Ki H' (uni Ki K4) H4 := Xt.lift c.s c.i x4
    obtain ⟨σ2, htk, hwp, hev⟩ := hb d (List.mem_of_getElem? ed) v (uni Ki K4) ((x2.s.trans c.s).trans x5.s) (R.mono (uni_r (c.i.trans x4.k) x4.i) rv)
    refine htk H4 x5.i _ ⟨hwp, ?_⟩
    unfold tYes
    dsimp only
    rw [if_pos rfl]
    refine hev H4 x5.i _ fun y K7 H7 x7 ry => ?_
    have y7 := x5.trans x7
    have hK7 : K7 D = none := none_of y7 c.n c.at_
    refine ⟨us, y7.k D _ c.at_, Nat.lt_of_le_of_lt hul (Nat.lt_of_lt_of_le hlt (Nat.le_trans hn (by rw [sizeLine_eq]; decide))), K7, us ++ [y], c.s.trans y7.s, same_mut y7.i hK7, fun b o e => ?_, fun p h => ?_, hK7, upd_same, ?_⟩
    · rw [upd_ne (ne_of_none e hD)]
      exact y7.k b o (c.k b o e)
    · rcases y7.f p h with z | z
      · exact c.f p z
      · exact .inr (none_back c.k z)
    · rw [List.take_add_one, ed, List.map_append]
      exact paired_app (paired_mono S y7.s c.r) (.cons ry .nil)
  · refine .inl ⟨stop (by omega), q (.ref D) (upd Ki D (.lst us)) H' (x2.trans ⟨fun b o e => ?_, fun b o e => ?_, c.k, fun p h => ?_⟩) ⟨D, us, rfl, upd_same, ?_⟩⟩
    · rw [upd_ne (ne_of_none (c.s b o e) c.n)]
      exact c.s b o e
    · by_cases hb : b = D
      · subst hb
        rw [upd_same] at e
        rw [← e]
        exact c.at_
      · rw [upd_ne hb] at e
        exact c.i b o e
    · by_cases hb : p = D
      · subst hb
        exact .inr hD
      · rw [upd_ne hb] at h
        exact c.f p h
    · have hr := c.r
      rw [List.take_of_length_le (by omega)] at hr
      exact paired_mono S (fun b o e => by
        rw [upd_ne (ne_of_none e c.n)]
        exact e) hr
end NJ

set_option Elab.async false
set_option linter.all false
set_option maxRecDepth 100000
set_option maxHeartbeats 4000000
/-! min of a list of pairs of texts; loops that make a list. -/
namespace NJ
open PySem PySem.Spec PyProof.Rows L2
open PySem.W (alike dataLt dataLt_str dataLt_pair AlikeAll minD min_list_data)
section
variable {X : Cx}
/-- min(xs), xs a list of data alike -/
def rMinD (K : PySem.W.Frag) : List V → Hp → VK → Prop := fun vs H Q => ∃ (a : Addr) (xs : List V) (d0 : PyData) (ds : List PyData), vs = [V.ref a] ∧ SqL K H a xs ∧ DpAll K H xs (d0 :: ds) ∧ AlikeAll (d0 :: ds) ∧ PyData.depthAll (d0 :: ds) ≤ 64 ∧
  ∀ (i : Nat) x, xs[i]? = some x → (d0 :: ds)[i]? = some (minD d0 ds) → Q x H
theorem dpAll_at {K : PySem.W.Frag} {H : Hp} : ∀ {xs : List V} {ds : List PyData}, DpAll K H xs ds → ∀ {i : Nat} {x : V}, xs[i]? = some x → ∃ d, ds[i]? = some d ∧ Dp K H x d
  | _, _, .nil, i, x, h => by simp at h
  | _, _, .cons (v := v) (d := d) a r, 0, x, h => by
    have e : v = x := by simpa using h
    exact ⟨d, by simp, e ▸ a⟩
  | _, _, .cons a r, i + 1, x, h => by
    obtain ⟨y, h1, h2⟩ := dpAll_at r (i := i) (x := x) (by simpa using h)
    exact ⟨y, by simpa using h1, h2⟩
theorem foldl_in {α : Type} (f : α → α → Bool) : ∀ (xs : List α) (x : α), (xs.foldl (fun a y => if f y a = true then y else a) x) ∈ x :: xs
  | [], x => List.mem_cons_self
  | y :: ys, x => by
    rw [List.foldl_cons]
    have h := foldl_in f ys (if f y x = true then y else x)
    rcases List.mem_cons.mp h with z | z
    · rw [z]
      split
      · exact List.mem_cons_of_mem _ List.mem_cons_self
      · exact List.mem_cons_self
    · exact List.mem_cons_of_mem _ (List.mem_cons_of_mem _ z)
theorem cr_minP (hc : X.calm = true) (hu : X.A.units + 100 < cLine) : CallR X (.builtin "min") (rMinD X.K) := by
  intro pins s σ H vs us Q I r h
  obtain ⟨a, xs, d0, ds, rfl, hS, hd, ha, hz, q⟩ := h
  obtain ⟨its, rv, hl, _⟩ := I.list hS
  rw [Vals.ref1 r]
  obtain ⟨as, hr⟩ := Dp.readsAll I (d0 :: ds) xs its hd rv
  refine min_list_data (I.ok.hd hc) hl.isList (by simpa using hr) ha (by omega) fun i v h' tk bs hv hm hk => ?_
  have hv2 : its[i]? = some v := by simpa using hv
  have hi : i < xs.length := by
    rw [rv.length]
    exact (List.getElem?_eq_some_iff.mp hv2).1
  obtain ⟨u, h1, h2⟩ := rv.get (List.getElem?_eq_getElem hi)
  rw [hv2] at h1
  cases h1
  obtain ⟨d, e1, e2⟩ := dpAll_at hd (List.getElem?_eq_getElem hi)
  obtain ⟨as2, r2⟩ := Dp.reads I d _ v e2 h2
  have hmin : minD d0 ds ∈ d0 :: ds := by
    unfold minD
    exact foldl_in _ ds d0
  have e : d = minD d0 ds := PySem.W.alike_unique d _ v as2 bs (ha.1 d (List.mem_of_getElem? e1) _ hmin) (Reads.keeps hk r2) hm
  exact ⟨xs[i], H, I.kept (t' := tk) hk, h2, q i _ (List.getElem?_eq_getElem hi) (by rw [e1, e])⟩
end
/-! ### pairs of texts -/
def dP (p : T8 × T8) : PyData := .tuple [.str (tx p.1), .str (tx p.2)]
def ltP (p q : T8 × T8) : Bool := decide (p.1 < q.1) || (decide (p.1 = q.1) && decide (p.2 < q.2))
theorem eqv_str (a b : T8) : PyData.eqv (.str (tx a)) (.str (tx b)) = decide (a = b) := by
  by_cases h : a = b
  · subst h
    simp [PyData.eqv]
  · have : ¬ tx a = tx b := fun e => h (tx_inj e)
    simp [PyData.eqv, h, this]
theorem dataLt_dP (p q : T8 × T8) : dataLt (dP p) (dP q) = ltP p q := by
  obtain ⟨a, b⟩ := p
  obtain ⟨c, d⟩ := q
  unfold dP ltP
  rw [dataLt_pair (by simp [alike]) (by simp [alike]), dataLt_str, dataLt_str, eqv_str, eqv_str]
  simp only [tx_cps]
  by_cases h1 : a = c
  · subst h1
    by_cases h2 : b = d
    · subst h2
      simp [List.lt_irrefl]
    · simp [h2, List.lt_irrefl]
  · simp [h1]
def mnP (x : T8 × T8) (xs : List (T8 × T8)) : T8 × T8 := xs.foldl (fun a y => if ltP y a = true then y else a) x
theorem minD_dP (x : T8 × T8) : ∀ xs : List (T8 × T8), minD (dP x) (xs.map dP) = dP (mnP x xs) := fun xs => by
  unfold minD mnP
  induction xs generalizing x with
  | nil => rfl
  | cons y ys ih =>
    rw [List.map_cons, List.foldl_cons, List.foldl_cons, dataLt_dP]
    have e : (if ltP y x = true then dP y else dP x) = dP (if ltP y x = true then y else x) := by split <;> rfl
    rw [e]
    exact ih _
theorem ltP_leP {p q : T8 × T8} (h : ltP p q = true) : leP p q := by
  unfold ltP at h
  rw [Bool.or_eq_true, Bool.and_eq_true, decide_eq_true_iff, decide_eq_true_iff, decide_eq_true_iff] at h
  rcases h with h | ⟨h, g⟩
  · exact .inl h
  · exact .inr ⟨h, List.le_of_lt g⟩
theorem leP_not {p q : T8 × T8} (h : ltP p q = false) : leP q p := by
  unfold ltP at h
  rw [Bool.or_eq_false_iff, Bool.and_eq_false_iff] at h
  obtain ⟨h1, h2⟩ := h
  have h1' : q.1 ≤ p.1 := List.not_lt.mp (of_decide_eq_false h1)
  by_cases e : p.1 = q.1
  · rcases h2 with h2 | h2
    · exact absurd e (of_decide_eq_false h2)
    · exact .inr ⟨e.symm, List.not_lt.mp (of_decide_eq_false h2)⟩
  · refine .inl ?_
    rcases Decidable.em (q.1 < p.1) with y | y
    · exact y
    · exact absurd (List.le_antisymm (List.not_lt.mp y) h1') e
theorem leP_refl (p : T8 × T8) : leP p p := .inr ⟨rfl, List.le_refl _⟩
theorem leP_trans {p q r : T8 × T8} (h : leP p q) (g : leP q r) : leP p r := by
  rcases h with h | ⟨h1, h2⟩
  · rcases g with g | ⟨g1, g2⟩
    · exact .inl (List.lt_trans h g)
    · exact .inl (g1 ▸ h)
  · rcases g with g | ⟨g1, g2⟩
    · exact .inl (h1 ▸ g)
    · exact .inr ⟨h1.trans g1, List.le_trans h2 g2⟩
theorem mnP_le : ∀ (xs : List (T8 × T8)) (x : T8 × T8), ∀ y ∈ x :: xs, leP (mnP x xs) y
  | [], x, y, h => by
    rw [List.mem_singleton] at h
    subst h
    exact leP_refl _
  | z :: zs, x, y, h => by
    have e : mnP x (z :: zs) = mnP (if ltP z x = true then z else x) zs := rfl
    rw [e]
    have key := mnP_le zs (if ltP z x = true then z else x)
    have k0 := key _ List.mem_cons_self
    rcases List.mem_cons.mp h with h | h
    · subst h
      refine leP_trans k0 ?_
      split
      · rename_i q
        exact ltP_leP q
      · exact leP_refl _
    · rcases List.mem_cons.mp h with h | h
      · subst h
        refine leP_trans k0 ?_
        split
        · exact leP_refl _
        · rename_i q
          exact leP_not (by simpa using q)
      · exact key y (List.mem_cons_of_mem _ h)
theorem mnP_in (x : T8 × T8) (xs : List (T8 × T8)) : mnP x xs ∈ x :: xs := foldl_in _ xs x
theorem dP_inj {p q : T8 × T8} (h : dP p = dP q) : p = q := by
  unfold dP at h
  simp only [PyData.tuple.injEq, List.cons.injEq, PyData.str.injEq, and_true] at h
  exact Prod.ext (tx_inj h.1) (tx_inj h.2)
section
variable {σ : L2.St} {Hm : Hp} {K : PySem.W.Frag} {α β : Type} {R : Rp α} {S : Rp β} {te : TE}
theorem dpAll_pairs {H : Hp} : ∀ {vs : List V} {ps : List (T8 × T8)}, Paired ((rP K rS rS).rel H) vs ps → DpAll K H vs (ps.map dP)
  | _, _, .nil => .nil
  | _, _, .cons a r => by
    refine .cons ?_ (dpAll_pairs r)
    obtain ⟨b, x, y, rfl, hS, r1, r2⟩ := a
    rw [show x = _ from r1, show y = _ from r2] at hS
    exact .tup hS (.cons (.str _) (.cons (.str _) .nil))
theorem depth_dP : ∀ ps : List (T8 × T8), PyData.depthAll (ps.map dP) ≤ 64
  | [] => Nat.zero_le _
  | p :: ps => by
    have h := depth_dP ps
    rw [List.map_cons]
    show max (PyData.depth (dP p)) (PyData.depthAll (ps.map dP)) ≤ 64
    have e : PyData.depth (dP p) ≤ 64 := by
      show max 0 (max 0 0) + 1 ≤ 64
      decide
    omega
theorem ev_minP {p : T8 × T8} {ps : List (T8 × T8)} (h : Ev te σ Hm (rL K (rP K rS rS)) (p :: ps)) : Ev (tCB (rMinD K) (tCons te tNil)) σ Hm (rP K rS rS) (mnP p ps) := fun H1 hi Q q => h H1 hi _ fun v K2 H2 x2 ⟨a, vs, e, hS, hP⟩ =>
  ⟨a, vs, dP p, ps.map dP, by rw [e], x2.i.seq hS, dpAll_pairs (paired_mono _ x2.i hP), ⟨fun x hx y hy => by
    obtain ⟨x1, _, rfl⟩ := List.mem_map.mp (show x ∈ (p :: ps).map dP from hx)
    obtain ⟨y1, _, rfl⟩ := List.mem_map.mp (show y ∈ (p :: ps).map dP from hy)
    simp [alike, dP, PySem.W.alikeAll], fun x hx => by
    obtain ⟨x1, _, rfl⟩ := List.mem_map.mp (show x ∈ (p :: ps).map dP from hx)
    unfold dP
    simp⟩, depth_dP (p :: ps), fun i x hx hm => by
    rw [minD_dP] at hm
    obtain ⟨d, e1, e2⟩ := paired_get hP hx
    have e3 : ((p :: ps).map dP)[i]? = some (dP (mnP p ps)) := hm
    rw [List.getElem?_map, e1] at e3
    have e4 := dP_inj (Option.some.inj e3)
    exact q x K2 H2 x2 (e4 ▸ e2)⟩
end
end NJ

set_option Elab.async false
set_option linter.all false
set_option maxRecDepth 100000
set_option maxHeartbeats 4000000
/-! Loops that make a list; parallel stores. -/
namespace NJ
open PySem PySem.Spec PyProof.Rows L2
section
variable {Hm H H' H2 K2 Ki : Hp} {f : Addr} {α β : Type} {R : Rp α} {S : Rp β} {ys : List β} {vs : List V}
theorem Ci.new (hi : Same Hm H) (hf : H f = none) : Ci Hm H f S [] Hm [] (upd H f (.lst [])) := ⟨Same.refl _, same_mut hi (none_back hi hf), same_mut (Same.refl _) hf, fun _ h => .inl h, none_back hi hf, upd_same, .nil⟩
theorem Ci.ext {K6 H6 : Hp} (c : Ci Hm H f S ys Ki vs H') (x : Xt Ki H' K6 H6) : Ci Hm H f S ys K6 vs H6 := ⟨c.s.trans x.s, x.i, c.k.trans x.k, fun p h => by
  rcases x.f p h with z | z
  · exact c.f p z
  · exact .inr (none_back c.k z), none_of x c.n c.at_, x.k _ _ c.at_, paired_mono S x.s c.r⟩
theorem Ci.app {v : V} {d : β} (c : Ci Hm H f S ys Ki vs H') (hf : H f = none) (r : S.rel Ki v d) : Ci Hm H f S (ys ++ [d]) Ki (vs ++ [v]) (upd H' f (.lst (vs ++ [v]))) := ⟨c.s, same_mut c.i c.n, fun b o e => by
  rw [upd_ne (ne_of_none e hf)]
  exact c.k b o e, c.f, c.n, upd_same, paired_app c.r (.cons r .nil)⟩
theorem Ci.len (c : Ci Hm H f S ys Ki vs H') : vs.length = ys.length := paired_len c.r
/-- the list is known from now on -/
theorem Ci.done (c : Ci Hm H f S ys Ki vs H') (hf : H f = none) : Xt Hm H (upd Ki f (.lst vs)) H' ∧ (rM S).rel (upd Ki f (.lst vs)) (.ref f) ys := by
  refine ⟨⟨fun b o e => ?_, fun b o e => ?_, c.k, fun p h => ?_⟩, f, vs, rfl, upd_same, paired_mono S (fun b o e => ?_) c.r⟩
  · rw [upd_ne (ne_of_none (c.s b o e) c.n)]
    exact c.s b o e
  · by_cases hb : b = f
    · subst hb
      rw [upd_same] at e
      rw [← e]
      exact c.at_
    · rw [upd_ne hb] at e
      exact c.i b o e
  · by_cases hb : p = f
    · subst hb
      exact .inr hf
    · rw [upd_ne hb] at h
      exact c.f p h
  · rw [upd_ne (ne_of_none e c.n)]
    exact e
variable {σ : L2.St} {D : Ends} {t1 tz : TS} {g : TG} {wi : TI} {Ka Hx : Hp} {vs0 : List V}
/-- for .. in xs: the list at f grows -/
theorem s_forC {xs : List α} {Y : Nat → List β} (Sg : L2.St → Prop) (hw : Wk wi σ Ka R xs) (c0 : Ci Hm H f S (Y 0) Ka vs0 Hx) (hσ : Sg σ)
    (step : ∀ i d σ' Ki vs H' v, xs[i]? = some d → Sg σ' → Ci Hm H f S (Y i) Ki vs H' → Same Ka Ki → R.rel Ki v d → ∀ N : L2.St → Hp → Prop, (∀ σ2 Ki2 vs2 H2, Sg σ2 → Ci Hm H f S (Y (i + 1)) Ki2 vs2 H2 → Same Ki Ki2 → N σ2 H2) → g v σ' H' fun σ2 H5 => t1 { D with nx := N, ct := N, bk := D.nx } σ2 H5)
    (done : ∀ σ' Ki vs H', Sg σ' → Ci Hm H f S (Y xs.length) Ki vs H' → Same Ka Ki → D.nx σ' H') : tFor wi g t1 D σ Hx :=
  s_for hw c0.i fun K2 H2 x2 => ⟨fun i σ' H' => Sg σ' ∧ ∃ Ki vs, Ci Hm H f S (Y i) Ki vs H' ∧ Same K2 Ki, ⟨hσ, K2, vs0, c0.ext x2, Same.refl _⟩, fun i σ' H' ⟨_, Ki, vs, c, s⟩ => s.trans c.i,
    fun i d σ' H' v K4 H4 hd ⟨hs, Ki, vs, c, s⟩ x4 r => by
      have x5 : Xt Ki H' (uni Ki K4) H4 := Xt.lift s c.i x4
      exact step i d σ' (uni Ki K4) vs H4 v hd hs (c.ext x5) ((x2.s.trans s).trans x5.s) (R.mono (uni_r (c.i.trans x4.k) x4.i) r) _ fun σ2 Ki2 vs2 H2 h1 h2 h3 => ⟨h1, Ki2, vs2, h2, (s.trans x5.s).trans h3⟩,
    fun σ' H' ⟨hs, Ki, vs, c, s⟩ => done σ' Ki vs H' hs c (x2.s.trans s)⟩
theorem q_forC {xs : List α} {Y : Nat → List β} (Sg : L2.St → Prop) (hw : Wk wi σ Ka R xs) (c0 : Ci Hm H f S (Y 0) Ka vs0 Hx) (hσ : Sg σ)
    (step : ∀ i d σ' Ki vs H' v, xs[i]? = some d → Sg σ' → Ci Hm H f S (Y i) Ki vs H' → Same Ka Ki → R.rel Ki v d → ∀ N : L2.St → Hp → Prop, (∀ σ2 Ki2 vs2 H2, Sg σ2 → Ci Hm H f S (Y (i + 1)) Ki2 vs2 H2 → Same Ki Ki2 → N σ2 H2) → g v σ' H' fun σ2 H5 => t1 { D with nx := N, ct := N, bk := tz D } σ2 H5)
    (done : ∀ σ' Ki vs H', Sg σ' → Ci Hm H f S (Y xs.length) Ki vs H' → Same Ka Ki → tz D σ' H') : tSeq (tFor wi g t1) tz D σ Hx := s_forC (D := { D with nx := tz D }) Sg hw c0 hσ step done
/-- found.append(e) -/
theorem s_appC {i : Nat} {te : TE} {d : β} (hv : σ[i]? = some (some (.ref f))) (c : Ci Hm H f S ys Ki vs Hx) (hf : H f = none) (h : Ev te σ Ki S d) (hz : ys.length < 16000000) {K : PySem.W.Frag}
    (k : ∀ K1 vs1 H1, Ci Hm H f S (ys ++ [d]) K1 vs1 H1 → Same Ki K1 → D.nx σ H1) : tDrop (tBM K "list" rAppend (tVar i) (tCons te tNil)) D σ Hx :=
  s_app hv c.at_ h c.i (by rw [c.len]; exact hz) fun v K1 H1 x r => k K1 _ _ ((c.ext x).app hf r) x.s
/-- a, b = x, y -/
theorem s_par {i j : Nat} {ta : TA} {a : α} {b : β} (h : Ea ta σ Hm (a1 R a (a1 S b a0))) (hi : Same Hm H) (k : ∀ v u K1 H1, Xt Hm H K1 H1 → R.rel K1 v a → S.rel K1 u b → D.nx ((σ.set i (some v)).set j (some u)) H1) : tPar i j ta D σ H :=
  h H hi _ fun vs K1 H1 x ⟨v, ws, e1, r1, u, ws2, e2, r2, e3⟩ => ⟨v, u, by rw [e1, e2, show ws2 = [] from e3], k v u K1 H1 x r1 r2⟩
theorem q_par {i j : Nat} {ta : TA} {a : α} {b : β} (h : Ea ta σ Hm (a1 R a (a1 S b a0))) (hi : Same Hm H) (k : ∀ v u K1 H1, Xt Hm H K1 H1 → R.rel K1 v a → S.rel K1 u b → tz D ((σ.set i (some v)).set j (some u)) H1) : tSeq (tPar i j ta) tz D σ H := s_par (D := { D with nx := tz D }) h hi k
end
/-! ### code that is not reached -/
theorem pe_dead {X : Cx} {e : Expr} : PE X e (fun _ _ _ => False) := ⟨fun _ _ _ _ _ _ h => h.elim⟩
theorem pss_dead {X : Cx} {b : List Stmt} : PSs X b (fun _ _ _ => False) := ⟨fun _ _ _ _ _ _ h => h.elim⟩
theorem ps_dead {X : Cx} {b : Stmt} : PS X b (fun _ _ _ => False) := ⟨fun _ _ _ _ _ _ h => h.elim⟩
end NJ

set_option Elab.async false
set_option linter.all false
set_option maxRecDepth 100000
set_option maxHeartbeats 4000000
/-! Ranges of a number that is known up to a property; join. -/
namespace NJ
open PySem PySem.Spec PyProof.Rows L2
section
variable {Hm H H' H2 K2 Ki : Hp} {f : Addr} {α β γ : Type} {R : Rp α} {S : Rp β} {T : Rp γ} {ys : List β} {vs : List V} {σ : L2.St} {D : Ends} {t1 tz : TS} {g : TG} {te ta tb : TE} {P : Int → Prop} {d : α} {z : γ} {Pb : β → Prop} {K : PySem.W.Frag}
theorem Ci.keep {H6 : Hp} (c : Ci Hm H f S ys Ki vs H') (k : Same H' H6) : Ci Hm H f S ys Ki vs H6 := ⟨c.s, c.i.trans k, c.k.trans k, c.f, c.n, k _ _ c.at_, c.r⟩
theorem s_rngE (h : Ev te σ Hm (rE rI P) ()) (hi : Same Hm H) (k : ∀ n K1 H1, P n → Xt Hm H K1 H1 → tFor (iRng1 (tCons (tC (.int n)) tNil)) g t1 D σ H1) : tFor (iRng1 (tCons te tNil)) g t1 D σ H := h H hi _ fun v K1 H1 x ⟨n, r, p⟩ => by
  cases r
  exact k n K1 H1 p x
theorem q_rngE (h : Ev te σ Hm (rE rI P) ()) (hi : Same Hm H) (k : ∀ n K1 H1, P n → Xt Hm H K1 H1 → tSeq (tFor (iRng1 (tCons (tC (.int n)) tNil)) g t1) tz D σ H1) : tSeq (tFor (iRng1 (tCons te tNil)) g t1) tz D σ H := s_rngE (D := { D with nx := tz D }) h hi k
theorem ev_lc_rngE {tt : TT} {tx : TE} {us : List Nat} (h : Ev te σ Hm (rE rI P) ()) (k : ∀ n K1, P n → Same Hm K1 → Ev (tLc (iRng1 (tCons (tC (.int n)) tNil)) g tt tx us) σ K1 T z) : Ev (tLc (iRng1 (tCons te tNil)) g tt tx us) σ Hm T z := fun H1 hi Q q => h H1 hi _ fun v K1 H2 x ⟨n, r, p⟩ => by
  cases r
  exact k n K1 p x.s H2 x.i Q fun u K3 H3 x3 r3 => q u K3 H3 (x.trans x3) r3
theorem wk_rngC {n : Int} (h0 : n < 2 ^ 62) (h1 : -(2 ^ 62) ≤ n) : Wk (iRng1 (tCons (tC (.int n)) tNil)) σ Hm rI (nums n.toNat) := wk_rng (ea_cons ev_i ea_nil) h0 h1
theorem ev_opE0 {r : R2} (ha : Ev ta σ Hm R d) (hb : Ev tb σ Hm (rE S Pb) ()) (hr : ∀ e, Pb e → Rv r R d S e T z) : Ev (tOp r ta tb) σ Hm T z := fun H1 hi Q q =>
  ha H1 hi _ fun x K2 H2 x2 rx => hb.mono x2.s H2 x2.i _ fun y K3 H3 x3 ⟨e, ry, pe⟩ => hr e pe K3 H3 x3.i x y (R.mono x3.s rx) ry Q fun v K4 H4 x4 rv => q v K4 H4 ((x2.trans x3).trans x4) rv
theorem ev_slSE {l : T8} {P2 : T8 → Prop} (h : Ev ta σ Hm rS l) (h1 : Ev te σ Hm (rE rI P) ()) (hz : l.length ≤ 16000000) (hp : ∀ i, P i → P2 (cut l (some i) none)) : Ev (tSl rSlS ta (tPart te) tNoPart) σ Hm (rE rS P2) () := fun H1 hx Q q =>
  h H1 hx _ fun v K2 H2 x2 r => h1.mono x2.s H2 x2.i _ fun u K3 H3 x3 ⟨i, ru, pi⟩ => ⟨i, ru, tx l, r, by rw [tx_len]; exact sz16 hz, by
    have e : cutS (tx l) (some i) none = tx (cut l (some i) none) := by
      unfold cutS cut tx
      simp [Str.length]
    rw [e]
    exact q _ K3 H3 (x2.trans x3) ⟨_, rfl, hp i pi⟩⟩
end
/-! ### tests whose answer is known up to a property -/
def En (tt : TT) (σ : L2.St) (Hm : Hp) (P : Bool → Prop) : Prop := ∀ H1, Same Hm H1 → ∀ Q : Bool → Hp → Prop, (∀ b Hm' H2, Xt Hm H1 Hm' H2 → P b → Q b H2) → tt σ H1 Q
section
variable {σ : L2.St} {Hm H : Hp} {t u : TT} {te : TE} {a : Bool} {P P2 : Bool → Prop} {D : Ends} {t1 t2 tz : TS}
theorem en_of (h : Et t σ Hm a) : En t σ Hm (fun b => b = a) := fun H1 hi Q q => h H1 hi Q fun K2 H2 x2 => q a K2 H2 x2 rfl
theorem en_test (h : Ev te σ Hm (rE rB P) ()) : En (tTest te) σ Hm P := fun H1 hi _ q => h H1 hi _ fun v K2 H2 x2 ⟨b, r, p⟩ => ⟨b, r, q b K2 H2 x2 p⟩
theorem En.mono {Hm' : Hp} (s : Same Hm Hm') (h : En t σ Hm P) : En t σ Hm' P := fun H1 hi Q q => h H1 (s.trans hi) Q fun b H3 H2 x => q b _ H2 (Xt.lift s hi x)
theorem en_and (h1 : Et t σ Hm a) (h2 : a = true → En u σ Hm P2) : En (tAnd t u) σ Hm (fun b => b = true → a = true ∧ P2 true) := fun H1 hi Q q => h1 H1 hi _ fun K2 H2 x2 => by
  cases a with
  | true => exact iteT ((h2 rfl).mono x2.s H2 x2.i Q fun b K3 H3 x3 p => q b K3 H3 (x2.trans x3) fun e => ⟨rfl, e ▸ p⟩)
  | false => exact iteF (q false K2 H2 x2 fun e => by cases e)
theorem en_not (h : En t σ Hm P) : En (tNot t) σ Hm (fun b => P (!b)) := fun H1 hi _ q => h H1 hi _ fun b K2 H2 x2 p => q (!b) K2 H2 x2 (by show P (!!b); rw [Bool.not_not]; exact p)
theorem s_ifN (h : En t σ Hm P) (hi : Same Hm H) (h1 : P true → ∀ K1 H1, Xt Hm H K1 H1 → t1 D σ H1) (h2 : P false → ∀ K1 H1, Xt Hm H K1 H1 → t2 D σ H1) : tIfS t t1 t2 D σ H := h H hi _ fun b K1 H1 x p => by
  cases b with
  | true => exact iteT (h1 p K1 H1 x)
  | false => exact iteF (h2 p K1 H1 x)
theorem q_whenN (h : En t σ Hm P) (hi : Same Hm H) (h1 : P true → ∀ K1 H1, Xt Hm H K1 H1 → t1 { D with nx := tz D } σ H1) (h2 : P false → ∀ K1 H1, Xt Hm H K1 H1 → tz D σ H1) : tSeq (tIfS t t1 tNext) tz D σ H := s_ifN (D := { D with nx := tz D }) h hi h1 h2
theorem q_whenNJ (M : L2.St → Hp → Prop) (h : En t σ Hm P) (hi : Same Hm H) (tail : ∀ σ' H', M σ' H' → tz D σ' H') (h1 : (∀ σ' H', M σ' H' → tz D σ' H') → P true → ∀ K1 H1, Xt Hm H K1 H1 → t1 { D with nx := tz D } σ H1) (h2 : P false → ∀ K1 H1, Xt Hm H K1 H1 → M σ H1) : tSeq (tIfS t t1 tNext) tz D σ H :=
  q_whenN h hi (h1 tail) fun hb K1 H1 x => tail _ _ (h2 hb K1 H1 x)
end
/-! ### join -/
theorem joinL_nil : ∀ ys : List T8, TL.joinL [] ys = ys.flatten
  | [] => rfl
  | [p] => by simp [TL.joinL]
  | p :: q :: r => by
    show p ++ ([] ++ TL.joinL [] (q :: r)) = _
    rw [joinL_nil (q :: r)]
    simp
theorem tl_tx (l : T8) : TL.tl (tx l) = l := by
  first | rfl | simp [TL.tl, tx]
theorem join_tx (ys : List T8) : Txt.join (tx []) (ys.map tx) = tx ys.flatten := by
  have e := TL.tl_join (tx []) (ys.map tx)
  rw [tl_tx, List.map_map] at e
  have e2 : ys.map (TL.tl ∘ tx) = ys := by
    rw [show (TL.tl ∘ tx) = id from funext fun l => tl_tx l, List.map_id]
  rw [e2, joinL_nil] at e
  rw [TL.join_eq]
  refine TL.ext_tl ?_
  rw [e, tl_tx]
abbrev rJoin (K : PySem.W.Frag) : V → List V → Hp → VK → Prop := fun x xs H Q => ∃ a p, ∃ ys : List Str, x = .str a ∧ xs = [.ref p] ∧ (SqL K H p (ys.map V.str) ∨ SqT K H p (ys.map V.str)) ∧ (ys.map (·.length)).sum + ys.length * a.length ≤ 16777216 ∧ Q (.str (Txt.join a ys)) H
/-- a list of things that are signs of l: their texts -/
theorem signs_of {H : Hp} {l : T8} : ∀ {vs : List V} {us : List Unit}, Paired ((rE rC (fun c => c ∈ l)).rel H) vs us → ∃ cs : T8, cs.length = us.length ∧ (∀ c ∈ cs, c ∈ l) ∧ vs = ((cs.map fun c => [c]).map tx).map V.str
  | _, _, .nil => ⟨[], rfl, fun c h => (by cases h), rfl⟩
  | _, _, .cons ⟨c, e, hc⟩ r => by
    obtain ⟨cs, h1, h2, h3⟩ := signs_of r
    refine ⟨c :: cs, by rw [List.length_cons, List.length_cons, h1], fun x hx => ?_, ?_⟩
    · rcases List.mem_cons.mp hx with z | z
      · rw [z]
        exact hc
      · exact h2 x z
    · rw [h3, show _ = V.str (tx [c]) from e] <;> rfl
theorem flat_signs (cs : T8) : (cs.map fun c => [c]).flatten = cs := by
  induction cs with
  | nil => rfl
  | cons c cs ih => simp [ih]
section
variable {σ : L2.St} {Hm : Hp} {ta te : TE} {K : PySem.W.Frag} {l : T8} {us : List Unit}
theorem sum_ones : ∀ cs : T8, ((((cs.map fun c => [c]).map tx).map (·.length)).sum) = cs.length
  | [] => rfl
  | c :: cs => by
    have h := sum_ones cs
    simp only [List.map_cons, List.sum_cons, List.length_cons]
    rw [h, tx_len]
    simp
    omega
theorem ev_join {Pu : List Unit → Prop} {P2 : T8 → Prop} {z : Str} (h : Ev te σ Hm (rE (rL K (rE rC (fun c => c ∈ l))) Pu) ()) (hz : ∀ us, Pu us → us.length ≤ 1000) (hp : ∀ us (cs : T8), Pu us → cs.length = us.length → (∀ c ∈ cs, c ∈ l) → P2 cs) (hs : z = tx []) : Ev (tM1 (rJoin K) (tC (.str z)) te) σ Hm (rE rS P2) () := fun H1 hi Q q => ⟨⟨_, rfl⟩, h H1 hi _ fun v K2 H2 x2 ⟨us, ⟨a, vs, e, hS, hP⟩, hu⟩ => by
  obtain ⟨cs, h1, h2, h3⟩ := signs_of hP
  subst hs
  have hzz := hz us hu
  refine ⟨tx [], a, (cs.map fun c => [c]).map tx, rfl, by rw [e], .inl (by rw [← h3]; exact x2.i.seq hS), ?_, ?_⟩
  · rw [sum_ones, tx_len]
    simp
    omega
  · rw [join_tx, flat_signs]
    exact q _ K2 H2 x2 ⟨cs, rfl, hp us cs hu h1 h2⟩⟩
end
end NJ

set_option Elab.async false
set_option linter.all false
set_option maxRecDepth 100000
set_option maxHeartbeats 4000000
/-! Stores into lists and dicts, displays. -/
namespace NJ
open PySem PySem.Spec PyProof.Rows L2
section
variable {X : Cx}
/-- xs[i], to be written again -/
def gGet (K : PySem.W.Frag) : V → V → Hp → VK → Prop := fun o i H Q => ∃ (p : Addr) (xs : List V) (j : Nat) (v : V), o = .ref p ∧ i = .int (j : Int) ∧ SqL K H p xs ∧ xs[j]? = some v ∧ Q v H
theorem get_lst : PGet X (gGet X.K) := by
  intro pins s σ H o i ov iv Q I ro ri h
  obtain ⟨p, xs, j, v, rfl, rfl, hS, hv, q⟩ := h
  cases ro
  obtain ⟨t, rfl⟩ := ri
  obtain ⟨its, rv, hl, hz⟩ := I.list hS
  obtain ⟨u, h1, h2⟩ := rv.get hv
  have hj : j < xs.length := (List.getElem?_eq_some_iff.mp hv).1
  refine wpAny_getItem_list hl.isList (by omega) ?_ (x := u) (by simpa using h1) ⟨v, H, I, h2, q⟩
  rw [sizeLine_eq] at hz
  omega
theorem ip_or : PIp X .BitOr (rI0 fun i j => .int (Builtin.bitOr i j)) := iop_or
end
section
variable {σ : L2.St} {Hm H : Hp} {K : PySem.W.Frag} {α β : Type} {R : Rp α} {te : TE} {tz : TS} {D : Ends} {i : Nat}
/-- name = {} -/
theorem q_newD (q : ∀ f, H f = none → tz D (σ.set i (some (.ref f))) (upd H f (.dK []))) : tSeq (tAsg tDNewK (gName i)) tz D σ H := fun f hf => q f hf
/-- begin, letter, end = thing -/
theorem q_tup3 {x y z : V} {i j k : Nat} (h : Ev te σ Hm (rT K rV) [x, y, z]) (hi : Same Hm H) (q : ∀ K1 H1, Xt Hm H K1 H1 → tz D (((σ.set i (some x)).set j (some y)).set k (some z)) H1) : tSeq (tAsg te (gTup K 3 (gCons (gName i) (gCons (gName j) (gCons (gName k) gNil))))) tz D σ H :=
  h H hi _ fun v K1 H1 x1 ⟨a, vs, e, hS, hP⟩ => ⟨a, [x, y, z], e, by
    have e2 : vs = [x, y, z] := by
      cases hP with
      | cons a1 hP =>
        cases hP with
        | cons a2 hP =>
          cases hP with
          | cons a3 hP =>
            cases hP
            rw [show _ = x from a1, show _ = y from a2, show _ = z from a3]
    rw [← e2]
    exact seqT_mono x1.i hS, rfl, x, [y, z], rfl, y, [z], rfl, z, [], rfl, rfl, q K1 H1 x1⟩
theorem tk_3 {i j k : Nat} {v x y z : V} {Hk : Hp} (h : (rT K rV).rel Hk v [x, y, z]) : Tk (gTup K 3 (gCons (gName i) (gCons (gName j) (gCons (gName k) gNil)))) σ Hk v (((σ.set i (some x)).set j (some y)).set k (some z)) := by
  obtain ⟨a, vs, e, hS, hP⟩ := h
  have e2 : vs = [x, y, z] := by
    cases hP with
    | cons a1 hP =>
      cases hP with
      | cons a2 hP =>
        cases hP with
        | cons a3 hP =>
          cases hP
          rw [show _ = x from a1, show _ = y from a2, show _ = z from a3]
  subst e2
  exact fun H3 s Q q => ⟨a, _, e, seqT_mono s hS, rfl, x, [y, z], rfl, y, [z], rfl, z, [], rfl, rfl, q⟩
end
end NJ

set_option Elab.async false
set_option linter.all false
set_option maxRecDepth 100000
set_option maxHeartbeats 4000000
/-! name = {k: v for ..}, stored in the comprehension's own block. -/
namespace NJ
open PySem PySem.Spec PyProof.Rows L2
section
variable {X : Cx}
theorem ps_setDc {i : Nat} {y : Str} {py : Pos} {kx vx tg iter : Expr} {ifs : List Expr} {scope : Scope} {own : List (Str × Nat)} {pos spos : Pos} {wi : TI} {g : TG} {tt : TT} {tk tv : TE} (hc : X.calm = true) (hN : X.N.Nodup) (hy : X.N[i]? = some y) (hyl : X.env.scope.names.lookup y = some .local)
    (hsw : swapsWith (.DictComp kx vx [⟨tg, iter, ifs, 0⟩] scope pos) (some (.Name y py)) spos.line X.env = pure true) (hi : PI X tg iter wi) (ok : BlkOk X.N X.env.scope scope own)
    (hg : ∀ (s : Shared) (H : Hp) (C : Addr) (cl : List (Str × Addr)) (fp : List Addr), PG (X.blk s H scope (compEnvC scope cl C X.env) fp) tg g) (ht : ∀ (s : Shared) (H : Hp) (C : Addr) (cl : List (Str × Addr)) (fp : List Addr), PTs (X.blk s H scope (compEnvC scope cl C X.env) fp) ifs tt)
    (hk : ∀ (s : Shared) (H : Hp) (C : Addr) (cl : List (Str × Addr)) (fp : List Addr), PE (X.blk s H scope (compEnvC scope cl C X.env) fp) kx tk)
    (he : ∀ (s : Shared) (H : Hp) (C : Addr) (cl : List (Str × Addr)) (fp : List Addr), PE (X.blk s H scope (compEnvC scope cl C X.env) fp) vx tv) (hs : ∀ x, foldedSetIterable iter X.env x = pure x := by intro _; rfl) :
    PS X (.Assign [.Name y py] (.DictComp kx vx [⟨tg, iter, ifs, 0⟩] scope pos) spos) (tAsg (tDc wi g tt tk tv (own.map (·.2))) (gName i)) := by
  refine ⟨fun pins s σ H D I h => ?_⟩
  rw [exec_Assign_Name_used _ _ _ _ hsw]
  refine wpAny_bind (wpAny_standAt (wpAny_bind ?_))
  show wpAny _ X.A (do let _ ← comprehension (.DictComp kx vx [⟨tg, iter, ifs, 0⟩] scope pos) scope X.env (firstIterPos [⟨tg, iter, ifs, 0⟩] pos) newDict false (eval iter X.env) (some (assign (.Name y py) X.env))) _ _ s
  have h2 : tDc wi g tt tk tv (own.map (·.2)) σ H (fun x H1 => gName i x σ H1 D.nx) := h
  refine wpAny_bind (thn (dc_core (Qf := fun _ s' => SP X pins D .next s') hc hN I hi ok hg ht hk he hs h2 fun Dd C s' m H' I' q hn f => ?_) fun _ s' hq => wpAny_pure (wpAny_pure hq))
  show wpAny _ _ (assign (.Name y py) X.env (.ref Dd)) _ _ _
  refine wpAny_assign_Name (store_ok2 (v := V.ref Dd) I' hN hy (.inl hyl) rfl (fun s2 I2 ⟨a, sb, ha⟩ => ?_) (.inr hyl))
  obtain ⟨f0, f1, f2, f3, f4, f5⟩ := f
  have haC : C ≠ a := by
    rcases ha with z | z
    · rw [z]
      exact f1
    · exact fun e => f4 y a z e.symm
  refine ⟨m, hn.sameBut sb haC, fun h3 sb3 => ⟨_, H', I2.turned (t' := s2.toks) (fun b o hb e => (sb3.2 b hb).trans e) f0 f1 f3 f4 f5, q⟩⟩
theorem sw_dc {kx vx : Expr} {gs : List Comprehension} {scope : Scope} {pos py : Pos} {y : Str} {l : Nat} {env : Env} (hk : env.scope.kind = .function) (hy : env.scope.names.lookup y = some .local) (hl : (py.line == pos.line) = true)
    (ha : (scope.names.any fun (n, k) => n == y && (k == .local || k == .cell)) = false) : swapsWith (.DictComp kx vx gs scope pos) (some (.Name y py)) l env = pure true := by
  have ky : env.kindOf y = some .local := hy
  have hb : env.blockKind = .function := by
    unfold Env.blockKind
    rw [hk] <;> rfl
  unfold swapsWith
  simp only [hb, ky, ha, Expr.pos, hl]
  rfl
end
end NJ

set_option Elab.async false
set_option linter.all false
set_option maxRecDepth 100000
set_option maxHeartbeats 0
namespace NJ
open PySem PySem.Spec PyProof.Rows L2
def topS (i : Nat) : Stmt := PySem.Challenge.pw_neverjoin_k22_whole_texts_that_clash.main.body.getD i (.Pass ⟨0, 0, 0, 0⟩)
abbrev s_JoinError__init_ : Stmt := inClass (topS 1) 0
abbrev s_BadWeb__init_ : Stmt := inClass (topS 2) 0
abbrev s_is_integer : Stmt := topS 5
abbrev s_is_number : Stmt := topS 6
abbrev s_is_text : Stmt := topS 7
abbrev s_is_long_text : Stmt := topS 8
abbrev s_is_letter : Stmt := topS 9
abbrev s_is_row : Stmt := topS 10
abbrev s_are_ascending : Stmt := topS 11
abbrev s_links : Stmt := topS 13
abbrev s_led_back : Stmt := topS 14
abbrev s_reached : Stmt := topS 15
abbrev s_all_joined : Stmt := topS 16
abbrev s_Web__init_ : Stmt := inClass (topS 20) 0
abbrev s_Web_lay : Stmt := inClass (topS 20) 1
abbrev s_Web__eq_ : Stmt := inClass (topS 20) 2
abbrev s_letter_rows : Stmt := topS 21
abbrev s_wrong_part : Stmt := topS 22
abbrev s_are_arrows : Stmt := topS 23
abbrev s_is_arrow : Stmt := topS 24
abbrev s_clash : Stmt := topS 26
abbrev s_least_clash : Stmt := topS 27
abbrev s_beginning_texts : Stmt := topS 28
abbrev s_law_hand : Stmt := topS 30
abbrev s_law_draw : Stmt := topS 31
abbrev s_law_is : Stmt := topS 32
abbrev s_law_some : Stmt := topS 33
abbrev s_law_shuffled : Stmt := topS 34
abbrev s_law_clashing : Stmt := topS 35
abbrev s_law_deep : Stmt := topS 36
abbrev s_law_least_clash : Stmt := topS 37
abbrev s_law_told : Stmt := topS 38
abbrev s_law_texts : Stmt := topS 39
abbrev s_law : Stmt := topS 40
theorem c_JoinError__init_ : FnScope ["self"] ["self"] (defScope s_JoinError__init_) := ⟨rfl, rfl, rfl, by decide +kernel, rfl, by decide +kernel, by decide +kernel⟩
theorem c_BadWeb__init_ : FnScope ["self", "part"] ["self", "part"] (defScope s_BadWeb__init_) := ⟨rfl, rfl, rfl, by decide +kernel, rfl, by decide +kernel, by decide +kernel⟩
theorem c_is_integer : FnScope ["thing"] ["thing"] (defScope s_is_integer) := ⟨rfl, rfl, rfl, by decide +kernel, rfl, by decide +kernel, by decide +kernel⟩
theorem c_is_number : FnScope ["least", "most", "thing"] ["least", "most", "thing"] (defScope s_is_number) := ⟨rfl, rfl, rfl, by decide +kernel, rfl, by decide +kernel, by decide +kernel⟩
theorem c_is_text : FnScope ["thing", "sign"] ["thing"] (defScope s_is_text) := ⟨rfl, rfl, rfl, by decide +kernel, rfl, by decide +kernel, by decide +kernel⟩
theorem c_is_long_text : FnScope ["least", "most", "thing"] ["least", "most", "thing"] (defScope s_is_long_text) := ⟨rfl, rfl, rfl, by decide +kernel, rfl, by decide +kernel, by decide +kernel⟩
theorem c_is_letter : FnScope ["thing"] ["thing"] (defScope s_is_letter) := ⟨rfl, rfl, rfl, by decide +kernel, rfl, by decide +kernel, by decide +kernel⟩
theorem c_is_row : FnScope ["thing"] ["thing"] (defScope s_is_row) := ⟨rfl, rfl, rfl, by decide +kernel, rfl, by decide +kernel, by decide +kernel⟩
theorem c_are_ascending : FnScope ["row", "one", "other"] ["row"] (defScope s_are_ascending) := ⟨rfl, rfl, rfl, by decide +kernel, rfl, by decide +kernel, by decide +kernel⟩
theorem c_links : FnScope ["steps", "found", "begin", "_", "end"] ["steps"] (defScope s_links) := ⟨rfl, rfl, rfl, by decide +kernel, rfl, by decide +kernel, by decide +kernel⟩
theorem c_led_back : FnScope ["steps", "begin", "letter", "end"] ["steps"] (defScope s_led_back) := ⟨rfl, rfl, rfl, by decide +kernel, rfl, by decide +kernel, by decide +kernel⟩
theorem c_reached : FnScope ["leading", "start", "found", "waiting", "begin", "end"] ["leading", "start"] (defScope s_reached) := ⟨rfl, rfl, rfl, by decide +kernel, rfl, by decide +kernel, by decide +kernel⟩
theorem c_all_joined : FnScope ["states", "steps", "ahead", "behind", "state"] ["states", "steps"] (defScope s_all_joined) := ⟨rfl, rfl, rfl, by decide +kernel, rfl, by decide +kernel, by decide +kernel⟩
theorem c_Web__init_ : FnScope ["self", "points", "arrows", "part"] ["self", "points", "arrows"] (defScope s_Web__init_) := ⟨rfl, rfl, rfl, by decide +kernel, rfl, by decide +kernel, by decide +kernel⟩
theorem c_Web_lay : FnScope ["self", "points", "arrows"] ["self", "points", "arrows"] (defScope s_Web_lay) := ⟨rfl, rfl, rfl, by decide +kernel, rfl, by decide +kernel, by decide +kernel⟩
theorem c_Web__eq_ : FnScope ["self", "other"] ["self", "other"] (defScope s_Web__eq_) := ⟨rfl, rfl, rfl, by decide +kernel, rfl, by decide +kernel, by decide +kernel⟩
theorem c_letter_rows : FnScope ["points", "arrows", "rows", "begin", "letter", "end", "_"] ["points", "arrows"] (defScope s_letter_rows) := ⟨rfl, rfl, rfl, by decide +kernel, rfl, by decide +kernel, by decide +kernel⟩
theorem c_wrong_part : FnScope ["points", "arrows"] ["points", "arrows"] (defScope s_wrong_part) := ⟨rfl, rfl, rfl, by decide +kernel, rfl, by decide +kernel, by decide +kernel⟩
theorem c_are_arrows : FnScope ["points", "thing", "item"] ["points", "thing"] (defScope s_are_arrows) := ⟨rfl, rfl, rfl, by decide +kernel, rfl, by decide +kernel, by decide +kernel⟩
theorem c_is_arrow : FnScope ["points", "thing", "begin", "letter", "end"] ["points", "thing"] (defScope s_is_arrow) := ⟨rfl, rfl, rfl, by decide +kernel, rfl, by decide +kernel, by decide +kernel⟩
theorem c_clash : FnScope ["texts", "item"] ["texts"] (defScope s_clash) := ⟨rfl, rfl, rfl, by decide +kernel, rfl, by decide +kernel, by decide +kernel⟩
theorem c_least_clash : FnScope ["texts", "listed", "beginning", "ending", "clashing", "one", "others", "text"] ["texts"] (defScope s_least_clash) := ⟨rfl, rfl, rfl, by decide +kernel, rfl, by decide +kernel, by decide +kernel⟩
theorem c_beginning_texts : FnScope ["listed", "one", "other"] ["listed"] (defScope s_beginning_texts) := ⟨rfl, rfl, rfl, by decide +kernel, rfl, by decide +kernel, by decide +kernel⟩
theorem c_law_hand : FnScope ["_law_script", "_law_cells", "_law_cell"] ["_law_script"] (defScope s_law_hand) := ⟨rfl, rfl, rfl, by decide +kernel, rfl, by decide +kernel, by decide +kernel⟩
theorem c_law_draw : FnScope ["_law_hand_here", "_law_many", "_law_cell", "_law_digit", "_law_number"] ["_law_hand_here", "_law_many"] (defScope s_law_draw) := ⟨rfl, rfl, rfl, by decide +kernel, rfl, by decide +kernel, by decide +kernel⟩
theorem c_law_is : FnScope ["_law_told_here", "_law_due", "_law_one", "_law_two"] ["_law_told_here", "_law_due"] (defScope s_law_is) := ⟨rfl, rfl, rfl, by decide +kernel, rfl, by decide +kernel, by decide +kernel⟩
theorem c_law_some : FnScope ["_law_hand_here", "_law_things"] ["_law_hand_here", "_law_things"] (defScope s_law_some) := ⟨rfl, rfl, rfl, by decide +kernel, rfl, by decide +kernel, by decide +kernel⟩
theorem c_law_shuffled : FnScope ["_law_hand_here", "_law_things", "_law_pool", "_law_found"] ["_law_hand_here", "_law_things"] (defScope s_law_shuffled) := ⟨rfl, rfl, rfl, by decide +kernel, rfl, by decide +kernel, by decide +kernel⟩
theorem c_law_clashing : FnScope ["_law_one", "_law_other", "_law_short", "_law_long"] ["_law_one", "_law_other"] (defScope s_law_clashing) := ⟨rfl, rfl, rfl, by decide +kernel, rfl, by decide +kernel, by decide +kernel⟩
theorem c_law_deep : FnScope ["_law_kind", "_law_found", "_law_turn"] ["_law_kind"] (defScope s_law_deep) := ⟨rfl, rfl, rfl, by decide +kernel, rfl, by decide +kernel, by decide +kernel⟩
theorem c_law_least_clash : FnScope ["_law_texts_here", "_law_found", "_law_one", "_law_other"] ["_law_texts_here"] (defScope s_law_least_clash) := ⟨rfl, rfl, rfl, by decide +kernel, rfl, by decide +kernel, by decide +kernel⟩
theorem c_law_told : FnScope ["_law_thing", "_law_told_here"] ["_law_thing"] (defScope s_law_told) := ⟨rfl, rfl, rfl, by decide +kernel, rfl, by decide +kernel, by decide +kernel⟩
theorem c_law_texts : FnScope ["_law_hand_here", "_law_found", "_law_turn", "_law_text", "_law_old", "_law_k"] ["_law_hand_here"] (defScope s_law_texts) := ⟨rfl, rfl, rfl, by decide +kernel, rfl, by decide +kernel, by decide +kernel⟩
theorem c_law : FnScope ["_law_script", "_law_hand_here", "_law_turn", "_law_texts_here", "_law_due", "_law_odd", "_law_at", "_law_bad", "_law_things"] ["_law_script"] (defScope s_law) := ⟨rfl, rfl, rfl, by decide +kernel, rfl, by decide +kernel, by decide +kernel⟩
end NJ
namespace NJ
open PySem PySem.Spec PyProof.Rows L2
structure Tx (K : PySem.W.Frag) (mg : Str → Option Value) : Prop where
  F_JoinError__init_ : ∃ fd, FunD K "__init__" "JoinError.__init__" (defArgs s_JoinError__init_) (defBody s_JoinError__init_) (defScope s_JoinError__init_) [] [] (He.fAd K ("JoinError", some "__init__")) fd
  F_BadWeb__init_ : ∃ fd, FunD K "__init__" "BadWeb.__init__" (defArgs s_BadWeb__init_) (defBody s_BadWeb__init_) (defScope s_BadWeb__init_) [] [] (He.fAd K ("BadWeb", some "__init__")) fd
  F_is_integer : ∃ fd, FunD K "is_integer" "is_integer" (defArgs s_is_integer) (defBody s_is_integer) (defScope s_is_integer) [] [] (He.fAd K ("is_integer", none)) fd
  F_is_number : ∃ fd, FunD K "is_number" "is_number" (defArgs s_is_number) (defBody s_is_number) (defScope s_is_number) [] [] (He.fAd K ("is_number", none)) fd
  F_is_text : ∃ fd, FunD K "is_text" "is_text" (defArgs s_is_text) (defBody s_is_text) (defScope s_is_text) [] [] (He.fAd K ("is_text", none)) fd
  F_is_long_text : ∃ fd, FunD K "is_long_text" "is_long_text" (defArgs s_is_long_text) (defBody s_is_long_text) (defScope s_is_long_text) [] [] (He.fAd K ("is_long_text", none)) fd
  F_is_letter : ∃ fd, FunD K "is_letter" "is_letter" (defArgs s_is_letter) (defBody s_is_letter) (defScope s_is_letter) [] [] (He.fAd K ("is_letter", none)) fd
  F_is_row : ∃ fd, FunD K "is_row" "is_row" (defArgs s_is_row) (defBody s_is_row) (defScope s_is_row) [] [] (He.fAd K ("is_row", none)) fd
  F_are_ascending : ∃ fd, FunD K "are_ascending" "are_ascending" (defArgs s_are_ascending) (defBody s_are_ascending) (defScope s_are_ascending) [] [] (He.fAd K ("are_ascending", none)) fd
  F_links : ∃ fd, FunD K "links" "links" (defArgs s_links) (defBody s_links) (defScope s_links) [] [] (He.fAd K ("links", none)) fd
  F_led_back : ∃ fd, FunD K "led_back" "led_back" (defArgs s_led_back) (defBody s_led_back) (defScope s_led_back) [] [] (He.fAd K ("led_back", none)) fd
  F_reached : ∃ fd, FunD K "reached" "reached" (defArgs s_reached) (defBody s_reached) (defScope s_reached) [] [] (He.fAd K ("reached", none)) fd
  F_all_joined : ∃ fd, FunD K "all_joined" "all_joined" (defArgs s_all_joined) (defBody s_all_joined) (defScope s_all_joined) [] [] (He.fAd K ("all_joined", none)) fd
  F_Web__init_ : ∃ fd, FunD K "__init__" "Web.__init__" (defArgs s_Web__init_) (defBody s_Web__init_) (defScope s_Web__init_) [] [] (He.fAd K ("Web", some "__init__")) fd
  F_Web_lay : ∃ fd, FunD K "lay" "Web.lay" (defArgs s_Web_lay) (defBody s_Web_lay) (defScope s_Web_lay) [] [] (He.fAd K ("Web", some "lay")) fd
  F_Web__eq_ : ∃ fd, FunD K "__eq__" "Web.__eq__" (defArgs s_Web__eq_) (defBody s_Web__eq_) (defScope s_Web__eq_) [] [] (He.fAd K ("Web", some "__eq__")) fd
  F_letter_rows : ∃ fd, FunD K "letter_rows" "letter_rows" (defArgs s_letter_rows) (defBody s_letter_rows) (defScope s_letter_rows) [] [] (He.fAd K ("letter_rows", none)) fd
  F_wrong_part : ∃ fd, FunD K "wrong_part" "wrong_part" (defArgs s_wrong_part) (defBody s_wrong_part) (defScope s_wrong_part) [] [] (He.fAd K ("wrong_part", none)) fd
  F_are_arrows : ∃ fd, FunD K "are_arrows" "are_arrows" (defArgs s_are_arrows) (defBody s_are_arrows) (defScope s_are_arrows) [] [] (He.fAd K ("are_arrows", none)) fd
  F_is_arrow : ∃ fd, FunD K "is_arrow" "is_arrow" (defArgs s_is_arrow) (defBody s_is_arrow) (defScope s_is_arrow) [] [] (He.fAd K ("is_arrow", none)) fd
  F_clash : ∃ fd, FunD K "clash" "clash" (defArgs s_clash) (defBody s_clash) (defScope s_clash) [] [] (He.fAd K ("clash", none)) fd
  F_least_clash : ∃ fd, FunD K "least_clash" "least_clash" (defArgs s_least_clash) (defBody s_least_clash) (defScope s_least_clash) [] [] (He.fAd K ("least_clash", none)) fd
  F_beginning_texts : ∃ fd, FunD K "beginning_texts" "beginning_texts" (defArgs s_beginning_texts) (defBody s_beginning_texts) (defScope s_beginning_texts) [] [] (He.fAd K ("beginning_texts", none)) fd
  F_law_hand : ∃ fd, FunD K "_law_hand" "_law_hand" (defArgs s_law_hand) (defBody s_law_hand) (defScope s_law_hand) [] [] (He.fAd K ("_law_hand", none)) fd
  F_law_draw : ∃ fd, FunD K "_law_draw" "_law_draw" (defArgs s_law_draw) (defBody s_law_draw) (defScope s_law_draw) [] [] (He.fAd K ("_law_draw", none)) fd
  F_law_is : ∃ fd, FunD K "_law_is" "_law_is" (defArgs s_law_is) (defBody s_law_is) (defScope s_law_is) [] [] (He.fAd K ("_law_is", none)) fd
  F_law_some : ∃ fd, FunD K "_law_some" "_law_some" (defArgs s_law_some) (defBody s_law_some) (defScope s_law_some) [] [] (He.fAd K ("_law_some", none)) fd
  F_law_shuffled : ∃ fd, FunD K "_law_shuffled" "_law_shuffled" (defArgs s_law_shuffled) (defBody s_law_shuffled) (defScope s_law_shuffled) [] [] (He.fAd K ("_law_shuffled", none)) fd
  F_law_clashing : ∃ fd, FunD K "_law_clashing" "_law_clashing" (defArgs s_law_clashing) (defBody s_law_clashing) (defScope s_law_clashing) [] [] (He.fAd K ("_law_clashing", none)) fd
  F_law_deep : ∃ fd, FunD K "_law_deep" "_law_deep" (defArgs s_law_deep) (defBody s_law_deep) (defScope s_law_deep) [] [] (He.fAd K ("_law_deep", none)) fd
  F_law_least_clash : ∃ fd, FunD K "_law_least_clash" "_law_least_clash" (defArgs s_law_least_clash) (defBody s_law_least_clash) (defScope s_law_least_clash) [] [] (He.fAd K ("_law_least_clash", none)) fd
  F_law_told : ∃ fd, FunD K "_law_told" "_law_told" (defArgs s_law_told) (defBody s_law_told) (defScope s_law_told) [] [] (He.fAd K ("_law_told", none)) fd
  F_law_texts : ∃ fd, FunD K "_law_texts" "_law_texts" (defArgs s_law_texts) (defBody s_law_texts) (defScope s_law_texts) [] [] (He.fAd K ("_law_texts", none)) fd
  F_law : ∃ fd, FunD K "law" "law" (defArgs s_law) (defBody s_law) (defScope s_law) [] [] (He.fAd K ("law", none)) fd
  g_JoinError : mg "JoinError" = some (.ref (He.ga K "JoinError"))
  g_BadWeb : mg "BadWeb" = some (.ref (He.ga K "BadWeb"))
  g_NoTexts : mg "NoTexts" = some (.ref (He.ga K "NoTexts"))
  g_is_integer : mg "is_integer" = some (.ref (He.ga K "is_integer"))
  g_is_number : mg "is_number" = some (.ref (He.ga K "is_number"))
  g_is_text : mg "is_text" = some (.ref (He.ga K "is_text"))
  g_is_long_text : mg "is_long_text" = some (.ref (He.ga K "is_long_text"))
  g_is_letter : mg "is_letter" = some (.ref (He.ga K "is_letter"))
  g_is_row : mg "is_row" = some (.ref (He.ga K "is_row"))
  g_are_ascending : mg "are_ascending" = some (.ref (He.ga K "are_ascending"))
  g_links : mg "links" = some (.ref (He.ga K "links"))
  g_led_back : mg "led_back" = some (.ref (He.ga K "led_back"))
  g_reached : mg "reached" = some (.ref (He.ga K "reached"))
  g_all_joined : mg "all_joined" = some (.ref (He.ga K "all_joined"))
  i_MOST_POINTS : ∃ t, mg "MOST_POINTS" = some (.int 12 t)
  i_MOST_ARROWS : ∃ t, mg "MOST_ARROWS" = some (.int 60 t)
  g_Web : mg "Web" = some (.ref (He.ga K "Web"))
  g_letter_rows : mg "letter_rows" = some (.ref (He.ga K "letter_rows"))
  g_wrong_part : mg "wrong_part" = some (.ref (He.ga K "wrong_part"))
  g_are_arrows : mg "are_arrows" = some (.ref (He.ga K "are_arrows"))
  g_is_arrow : mg "is_arrow" = some (.ref (He.ga K "is_arrow"))
  g_clash : mg "clash" = some (.ref (He.ga K "clash"))
  g_least_clash : mg "least_clash" = some (.ref (He.ga K "least_clash"))
  g_beginning_texts : mg "beginning_texts" = some (.ref (He.ga K "beginning_texts"))
  g_law_hand : mg "_law_hand" = some (.ref (He.ga K "_law_hand"))
  g_law_draw : mg "_law_draw" = some (.ref (He.ga K "_law_draw"))
  g_law_is : mg "_law_is" = some (.ref (He.ga K "_law_is"))
  g_law_some : mg "_law_some" = some (.ref (He.ga K "_law_some"))
  g_law_shuffled : mg "_law_shuffled" = some (.ref (He.ga K "_law_shuffled"))
  g_law_clashing : mg "_law_clashing" = some (.ref (He.ga K "_law_clashing"))
  g_law_deep : mg "_law_deep" = some (.ref (He.ga K "_law_deep"))
  g_law_least_clash : mg "_law_least_clash" = some (.ref (He.ga K "_law_least_clash"))
  g_law_told : mg "_law_told" = some (.ref (He.ga K "_law_told"))
  g_law_texts : mg "_law_texts" = some (.ref (He.ga K "_law_texts"))
  g_law : mg "law" = some (.ref (He.ga K "law"))
  n_isinstance : mg "isinstance" = none
  n_int : mg "int" = none
  n_bool : mg "bool" = none
  n_str : mg "str" = none
  n_all : mg "all" = none
  n_len : mg "len" = none
  n_list : mg "list" = none
  n_tuple : mg "tuple" = none
  n_zip : mg "zip" = none
  n_sorted : mg "sorted" = none
  n_set : mg "set" = none
  n_range : mg "range" = none
  n_abs : mg "abs" = none
  n_min : mg "min" = none
  cl_Web : Cls K (He.ga K "Web")
  na_Web_points : NoAttr K (He.ga K "Web") "points"
  na_Web_arrows : NoAttr K (He.ga K "Web") "arrows"
  na_Web_onward : NoAttr K (He.ga K "Web") "onward"
  na_Web_backward : NoAttr K (He.ga K "Web") "backward"
  mk_Web : Mk K (He.ga K "Web") (He.ma K (He.ga K "Web") "__init__")
  mt_Web_lay : Meth K (He.ga K "Web") "lay" (He.ma K (He.ga K "Web") "lay")
  em_NoTexts_NoTexts : PySem.W.exmOne K (.ref (He.ga K "NoTexts")) (.ref (He.ga K "NoTexts")) = some true
  ox_NoTexts : OexC K (He.ga K "NoTexts")
  ih_NoTexts : PySem.W.findIn K (.ref (He.ga K "NoTexts")) "__init__" = some (some (.ref (He.ma K (He.ga K "JoinError") "__init__"))) ∧ PySem.W.typeIn K (.ref (He.ma K (He.ga K "JoinError") "__init__")) = some (.type "function")
  in_Web : InsK K (He.ga K "Web")
  kt_Web_str : PySem.W.kitOne K (.ref (He.ga K "Web")) (.type "str") = some false
  kt_Web_list : PySem.W.kitOne K (.ref (He.ga K "Web")) (.type "list") = some false
  kt_Web_tuple : PySem.W.kitOne K (.ref (He.ga K "Web")) (.type "tuple") = some false
section
variable {P : Program} {w : World} {K : PySem.W.Frag} {mg : Str → Option Value} {base : Heap} {CX : CXT} {k : Nat} {sp : Sp}
theorem k_JoinError__init_ (T : Tx K mg) (len : ∀ vs H Q E, sp vs H Q E → vs.length = 1)
    (hb : ∀ (cdv : Value) (A : Around) (outer : List Env) (s : Shared) (H : Hp) (vs : List V) (Q : VK) (E : XK), Room k (A.deeper (envOfC "JoinError.__init__" (defScope s_JoinError__init_) s.heap.objs.size (He.fAd K ("JoinError", some "__init__")) cdv)) → sp vs H Q E →
      ∃ t, PSs (cxOf CX P w K mg base ["self"] "JoinError.__init__" (defScope s_JoinError__init_) (He.fAd K ("JoinError", some "__init__")) cdv A outer s H E) (defBody s_JoinError__init_) t ∧ t { nx := fun _ H' => Q .non H', rt := Q } (start ["self"] vs) H) :
    Fk P w K mg base CX (k + 1) (He.fAd K ("JoinError", some "__init__")) ["self"] sp := by
  obtain ⟨fd, F⟩ := T.F_JoinError__init_
  exact ⟨⟨fd, F.ok c_JoinError__init_ len hb, F.bindsN fun _ _ _ _ _ _ us hl => match us, hl with | [_], _ => rfl⟩, F.kp⟩
theorem k0_JoinError__init_ (T : Tx K mg) (len : ∀ vs H Q E, sp vs H Q E → vs.length = 1)
    (hb : ∀ (cdv : Value) (A : Around) (outer : List Env) (s : Shared) (H : Hp) (vs : List V) (Q : VK) (E : XK), Room k (A.deeper (envOfC "JoinError.__init__" (defScope s_JoinError__init_) s.heap.objs.size (He.fAd K ("JoinError", some "__init__")) cdv)) → sp vs H Q E →
      ∃ t, PSs (cxOf CX0 P w K mg base ["self"] "JoinError.__init__" (defScope s_JoinError__init_) (He.fAd K ("JoinError", some "__init__")) cdv A outer s H E).nox (defBody s_JoinError__init_) t ∧ t { nx := fun _ H' => Q .non H', rt := Q } (start ["self"] vs) H) :
    Fk P w K mg base CX0 (k + 1) (He.fAd K ("JoinError", some "__init__")) ["self"] sp :=
  k_JoinError__init_ T len fun cdv A outer s H vs Q E hr h => let ⟨t, a, b⟩ := hb cdv A outer s H vs Q E hr h; ⟨t, a.nox, b⟩
theorem k_BadWeb__init_ (T : Tx K mg) (len : ∀ vs H Q E, sp vs H Q E → vs.length = 2)
    (hb : ∀ (cdv : Value) (A : Around) (outer : List Env) (s : Shared) (H : Hp) (vs : List V) (Q : VK) (E : XK), Room k (A.deeper (envOfC "BadWeb.__init__" (defScope s_BadWeb__init_) s.heap.objs.size (He.fAd K ("BadWeb", some "__init__")) cdv)) → sp vs H Q E →
      ∃ t, PSs (cxOf CX P w K mg base ["self", "part"] "BadWeb.__init__" (defScope s_BadWeb__init_) (He.fAd K ("BadWeb", some "__init__")) cdv A outer s H E) (defBody s_BadWeb__init_) t ∧ t { nx := fun _ H' => Q .non H', rt := Q } (start ["self", "part"] vs) H) :
    Fk P w K mg base CX (k + 1) (He.fAd K ("BadWeb", some "__init__")) ["self", "part"] sp := by
  obtain ⟨fd, F⟩ := T.F_BadWeb__init_
  exact ⟨⟨fd, F.ok c_BadWeb__init_ len hb, F.bindsN fun _ _ _ _ _ _ us hl => match us, hl with | [_, _], _ => rfl⟩, F.kp⟩
theorem k0_BadWeb__init_ (T : Tx K mg) (len : ∀ vs H Q E, sp vs H Q E → vs.length = 2)
    (hb : ∀ (cdv : Value) (A : Around) (outer : List Env) (s : Shared) (H : Hp) (vs : List V) (Q : VK) (E : XK), Room k (A.deeper (envOfC "BadWeb.__init__" (defScope s_BadWeb__init_) s.heap.objs.size (He.fAd K ("BadWeb", some "__init__")) cdv)) → sp vs H Q E →
      ∃ t, PSs (cxOf CX0 P w K mg base ["self", "part"] "BadWeb.__init__" (defScope s_BadWeb__init_) (He.fAd K ("BadWeb", some "__init__")) cdv A outer s H E).nox (defBody s_BadWeb__init_) t ∧ t { nx := fun _ H' => Q .non H', rt := Q } (start ["self", "part"] vs) H) :
    Fk P w K mg base CX0 (k + 1) (He.fAd K ("BadWeb", some "__init__")) ["self", "part"] sp :=
  k_BadWeb__init_ T len fun cdv A outer s H vs Q E hr h => let ⟨t, a, b⟩ := hb cdv A outer s H vs Q E hr h; ⟨t, a.nox, b⟩
theorem k_is_integer (T : Tx K mg) (len : ∀ vs H Q E, sp vs H Q E → vs.length = 1)
    (hb : ∀ (cdv : Value) (A : Around) (outer : List Env) (s : Shared) (H : Hp) (vs : List V) (Q : VK) (E : XK), Room k (A.deeper (envOfC "is_integer" (defScope s_is_integer) s.heap.objs.size (He.fAd K ("is_integer", none)) cdv)) → sp vs H Q E →
      ∃ t, PSs (cxOf CX P w K mg base ["thing"] "is_integer" (defScope s_is_integer) (He.fAd K ("is_integer", none)) cdv A outer s H E) (defBody s_is_integer) t ∧ t { nx := fun _ H' => Q .non H', rt := Q } (start ["thing"] vs) H) :
    Fk P w K mg base CX (k + 1) (He.fAd K ("is_integer", none)) ["thing"] sp := by
  obtain ⟨fd, F⟩ := T.F_is_integer
  exact ⟨⟨fd, F.ok c_is_integer len hb, F.bindsN fun _ _ _ _ _ _ us hl => match us, hl with | [_], _ => rfl⟩, F.kp⟩
theorem k0_is_integer (T : Tx K mg) (len : ∀ vs H Q E, sp vs H Q E → vs.length = 1)
    (hb : ∀ (cdv : Value) (A : Around) (outer : List Env) (s : Shared) (H : Hp) (vs : List V) (Q : VK) (E : XK), Room k (A.deeper (envOfC "is_integer" (defScope s_is_integer) s.heap.objs.size (He.fAd K ("is_integer", none)) cdv)) → sp vs H Q E →
      ∃ t, PSs (cxOf CX0 P w K mg base ["thing"] "is_integer" (defScope s_is_integer) (He.fAd K ("is_integer", none)) cdv A outer s H E).nox (defBody s_is_integer) t ∧ t { nx := fun _ H' => Q .non H', rt := Q } (start ["thing"] vs) H) :
    Fk P w K mg base CX0 (k + 1) (He.fAd K ("is_integer", none)) ["thing"] sp :=
  k_is_integer T len fun cdv A outer s H vs Q E hr h => let ⟨t, a, b⟩ := hb cdv A outer s H vs Q E hr h; ⟨t, a.nox, b⟩
theorem k_is_number (T : Tx K mg) (len : ∀ vs H Q E, sp vs H Q E → vs.length = 3)
    (hb : ∀ (cdv : Value) (A : Around) (outer : List Env) (s : Shared) (H : Hp) (vs : List V) (Q : VK) (E : XK), Room k (A.deeper (envOfC "is_number" (defScope s_is_number) s.heap.objs.size (He.fAd K ("is_number", none)) cdv)) → sp vs H Q E →
      ∃ t, PSs (cxOf CX P w K mg base ["least", "most", "thing"] "is_number" (defScope s_is_number) (He.fAd K ("is_number", none)) cdv A outer s H E) (defBody s_is_number) t ∧ t { nx := fun _ H' => Q .non H', rt := Q } (start ["least", "most", "thing"] vs) H) :
    Fk P w K mg base CX (k + 1) (He.fAd K ("is_number", none)) ["least", "most", "thing"] sp := by
  obtain ⟨fd, F⟩ := T.F_is_number
  exact ⟨⟨fd, F.ok c_is_number len hb, F.bindsN fun _ _ _ _ _ _ us hl => match us, hl with | [_, _, _], _ => rfl⟩, F.kp⟩
theorem k0_is_number (T : Tx K mg) (len : ∀ vs H Q E, sp vs H Q E → vs.length = 3)
    (hb : ∀ (cdv : Value) (A : Around) (outer : List Env) (s : Shared) (H : Hp) (vs : List V) (Q : VK) (E : XK), Room k (A.deeper (envOfC "is_number" (defScope s_is_number) s.heap.objs.size (He.fAd K ("is_number", none)) cdv)) → sp vs H Q E →
      ∃ t, PSs (cxOf CX0 P w K mg base ["least", "most", "thing"] "is_number" (defScope s_is_number) (He.fAd K ("is_number", none)) cdv A outer s H E).nox (defBody s_is_number) t ∧ t { nx := fun _ H' => Q .non H', rt := Q } (start ["least", "most", "thing"] vs) H) :
    Fk P w K mg base CX0 (k + 1) (He.fAd K ("is_number", none)) ["least", "most", "thing"] sp :=
  k_is_number T len fun cdv A outer s H vs Q E hr h => let ⟨t, a, b⟩ := hb cdv A outer s H vs Q E hr h; ⟨t, a.nox, b⟩
theorem k_is_text (T : Tx K mg) (len : ∀ vs H Q E, sp vs H Q E → vs.length = 1)
    (hb : ∀ (cdv : Value) (A : Around) (outer : List Env) (s : Shared) (H : Hp) (vs : List V) (Q : VK) (E : XK), Room k (A.deeper (envOfC "is_text" (defScope s_is_text) s.heap.objs.size (He.fAd K ("is_text", none)) cdv)) → sp vs H Q E →
      ∃ t, PSs (cxOf CX P w K mg base ["thing", "sign"] "is_text" (defScope s_is_text) (He.fAd K ("is_text", none)) cdv A outer s H E) (defBody s_is_text) t ∧ t { nx := fun _ H' => Q .non H', rt := Q } (start ["thing", "sign"] vs) H) :
    Fk P w K mg base CX (k + 1) (He.fAd K ("is_text", none)) ["thing"] sp := by
  obtain ⟨fd, F⟩ := T.F_is_text
  exact ⟨⟨fd, F.ok c_is_text len hb, F.bindsN fun _ _ _ _ _ _ us hl => match us, hl with | [_], _ => rfl⟩, F.kp⟩
theorem k0_is_text (T : Tx K mg) (len : ∀ vs H Q E, sp vs H Q E → vs.length = 1)
    (hb : ∀ (cdv : Value) (A : Around) (outer : List Env) (s : Shared) (H : Hp) (vs : List V) (Q : VK) (E : XK), Room k (A.deeper (envOfC "is_text" (defScope s_is_text) s.heap.objs.size (He.fAd K ("is_text", none)) cdv)) → sp vs H Q E →
      ∃ t, PSs (cxOf CX0 P w K mg base ["thing", "sign"] "is_text" (defScope s_is_text) (He.fAd K ("is_text", none)) cdv A outer s H E).nox (defBody s_is_text) t ∧ t { nx := fun _ H' => Q .non H', rt := Q } (start ["thing", "sign"] vs) H) :
    Fk P w K mg base CX0 (k + 1) (He.fAd K ("is_text", none)) ["thing"] sp :=
  k_is_text T len fun cdv A outer s H vs Q E hr h => let ⟨t, a, b⟩ := hb cdv A outer s H vs Q E hr h; ⟨t, a.nox, b⟩
theorem k_is_long_text (T : Tx K mg) (len : ∀ vs H Q E, sp vs H Q E → vs.length = 3)
    (hb : ∀ (cdv : Value) (A : Around) (outer : List Env) (s : Shared) (H : Hp) (vs : List V) (Q : VK) (E : XK), Room k (A.deeper (envOfC "is_long_text" (defScope s_is_long_text) s.heap.objs.size (He.fAd K ("is_long_text", none)) cdv)) → sp vs H Q E →
      ∃ t, PSs (cxOf CX P w K mg base ["least", "most", "thing"] "is_long_text" (defScope s_is_long_text) (He.fAd K ("is_long_text", none)) cdv A outer s H E) (defBody s_is_long_text) t ∧ t { nx := fun _ H' => Q .non H', rt := Q } (start ["least", "most", "thing"] vs) H) :
    Fk P w K mg base CX (k + 1) (He.fAd K ("is_long_text", none)) ["least", "most", "thing"] sp := by
  obtain ⟨fd, F⟩ := T.F_is_long_text
  exact ⟨⟨fd, F.ok c_is_long_text len hb, F.bindsN fun _ _ _ _ _ _ us hl => match us, hl with | [_, _, _], _ => rfl⟩, F.kp⟩
theorem k0_is_long_text (T : Tx K mg) (len : ∀ vs H Q E, sp vs H Q E → vs.length = 3)
    (hb : ∀ (cdv : Value) (A : Around) (outer : List Env) (s : Shared) (H : Hp) (vs : List V) (Q : VK) (E : XK), Room k (A.deeper (envOfC "is_long_text" (defScope s_is_long_text) s.heap.objs.size (He.fAd K ("is_long_text", none)) cdv)) → sp vs H Q E →
      ∃ t, PSs (cxOf CX0 P w K mg base ["least", "most", "thing"] "is_long_text" (defScope s_is_long_text) (He.fAd K ("is_long_text", none)) cdv A outer s H E).nox (defBody s_is_long_text) t ∧ t { nx := fun _ H' => Q .non H', rt := Q } (start ["least", "most", "thing"] vs) H) :
    Fk P w K mg base CX0 (k + 1) (He.fAd K ("is_long_text", none)) ["least", "most", "thing"] sp :=
  k_is_long_text T len fun cdv A outer s H vs Q E hr h => let ⟨t, a, b⟩ := hb cdv A outer s H vs Q E hr h; ⟨t, a.nox, b⟩
theorem k_is_letter (T : Tx K mg) (len : ∀ vs H Q E, sp vs H Q E → vs.length = 1)
    (hb : ∀ (cdv : Value) (A : Around) (outer : List Env) (s : Shared) (H : Hp) (vs : List V) (Q : VK) (E : XK), Room k (A.deeper (envOfC "is_letter" (defScope s_is_letter) s.heap.objs.size (He.fAd K ("is_letter", none)) cdv)) → sp vs H Q E →
      ∃ t, PSs (cxOf CX P w K mg base ["thing"] "is_letter" (defScope s_is_letter) (He.fAd K ("is_letter", none)) cdv A outer s H E) (defBody s_is_letter) t ∧ t { nx := fun _ H' => Q .non H', rt := Q } (start ["thing"] vs) H) :
    Fk P w K mg base CX (k + 1) (He.fAd K ("is_letter", none)) ["thing"] sp := by
  obtain ⟨fd, F⟩ := T.F_is_letter
  exact ⟨⟨fd, F.ok c_is_letter len hb, F.bindsN fun _ _ _ _ _ _ us hl => match us, hl with | [_], _ => rfl⟩, F.kp⟩
theorem k0_is_letter (T : Tx K mg) (len : ∀ vs H Q E, sp vs H Q E → vs.length = 1)
    (hb : ∀ (cdv : Value) (A : Around) (outer : List Env) (s : Shared) (H : Hp) (vs : List V) (Q : VK) (E : XK), Room k (A.deeper (envOfC "is_letter" (defScope s_is_letter) s.heap.objs.size (He.fAd K ("is_letter", none)) cdv)) → sp vs H Q E →
      ∃ t, PSs (cxOf CX0 P w K mg base ["thing"] "is_letter" (defScope s_is_letter) (He.fAd K ("is_letter", none)) cdv A outer s H E).nox (defBody s_is_letter) t ∧ t { nx := fun _ H' => Q .non H', rt := Q } (start ["thing"] vs) H) :
    Fk P w K mg base CX0 (k + 1) (He.fAd K ("is_letter", none)) ["thing"] sp :=
  k_is_letter T len fun cdv A outer s H vs Q E hr h => let ⟨t, a, b⟩ := hb cdv A outer s H vs Q E hr h; ⟨t, a.nox, b⟩
theorem k_is_row (T : Tx K mg) (len : ∀ vs H Q E, sp vs H Q E → vs.length = 1)
    (hb : ∀ (cdv : Value) (A : Around) (outer : List Env) (s : Shared) (H : Hp) (vs : List V) (Q : VK) (E : XK), Room k (A.deeper (envOfC "is_row" (defScope s_is_row) s.heap.objs.size (He.fAd K ("is_row", none)) cdv)) → sp vs H Q E →
      ∃ t, PSs (cxOf CX P w K mg base ["thing"] "is_row" (defScope s_is_row) (He.fAd K ("is_row", none)) cdv A outer s H E) (defBody s_is_row) t ∧ t { nx := fun _ H' => Q .non H', rt := Q } (start ["thing"] vs) H) :
    Fk P w K mg base CX (k + 1) (He.fAd K ("is_row", none)) ["thing"] sp := by
  obtain ⟨fd, F⟩ := T.F_is_row
  exact ⟨⟨fd, F.ok c_is_row len hb, F.bindsN fun _ _ _ _ _ _ us hl => match us, hl with | [_], _ => rfl⟩, F.kp⟩
theorem k0_is_row (T : Tx K mg) (len : ∀ vs H Q E, sp vs H Q E → vs.length = 1)
    (hb : ∀ (cdv : Value) (A : Around) (outer : List Env) (s : Shared) (H : Hp) (vs : List V) (Q : VK) (E : XK), Room k (A.deeper (envOfC "is_row" (defScope s_is_row) s.heap.objs.size (He.fAd K ("is_row", none)) cdv)) → sp vs H Q E →
      ∃ t, PSs (cxOf CX0 P w K mg base ["thing"] "is_row" (defScope s_is_row) (He.fAd K ("is_row", none)) cdv A outer s H E).nox (defBody s_is_row) t ∧ t { nx := fun _ H' => Q .non H', rt := Q } (start ["thing"] vs) H) :
    Fk P w K mg base CX0 (k + 1) (He.fAd K ("is_row", none)) ["thing"] sp :=
  k_is_row T len fun cdv A outer s H vs Q E hr h => let ⟨t, a, b⟩ := hb cdv A outer s H vs Q E hr h; ⟨t, a.nox, b⟩
theorem k_are_ascending (T : Tx K mg) (len : ∀ vs H Q E, sp vs H Q E → vs.length = 1)
    (hb : ∀ (cdv : Value) (A : Around) (outer : List Env) (s : Shared) (H : Hp) (vs : List V) (Q : VK) (E : XK), Room k (A.deeper (envOfC "are_ascending" (defScope s_are_ascending) s.heap.objs.size (He.fAd K ("are_ascending", none)) cdv)) → sp vs H Q E →
      ∃ t, PSs (cxOf CX P w K mg base ["row", "one", "other"] "are_ascending" (defScope s_are_ascending) (He.fAd K ("are_ascending", none)) cdv A outer s H E) (defBody s_are_ascending) t ∧ t { nx := fun _ H' => Q .non H', rt := Q } (start ["row", "one", "other"] vs) H) :
    Fk P w K mg base CX (k + 1) (He.fAd K ("are_ascending", none)) ["row"] sp := by
  obtain ⟨fd, F⟩ := T.F_are_ascending
  exact ⟨⟨fd, F.ok c_are_ascending len hb, F.bindsN fun _ _ _ _ _ _ us hl => match us, hl with | [_], _ => rfl⟩, F.kp⟩
theorem k0_are_ascending (T : Tx K mg) (len : ∀ vs H Q E, sp vs H Q E → vs.length = 1)
    (hb : ∀ (cdv : Value) (A : Around) (outer : List Env) (s : Shared) (H : Hp) (vs : List V) (Q : VK) (E : XK), Room k (A.deeper (envOfC "are_ascending" (defScope s_are_ascending) s.heap.objs.size (He.fAd K ("are_ascending", none)) cdv)) → sp vs H Q E →
      ∃ t, PSs (cxOf CX0 P w K mg base ["row", "one", "other"] "are_ascending" (defScope s_are_ascending) (He.fAd K ("are_ascending", none)) cdv A outer s H E).nox (defBody s_are_ascending) t ∧ t { nx := fun _ H' => Q .non H', rt := Q } (start ["row", "one", "other"] vs) H) :
    Fk P w K mg base CX0 (k + 1) (He.fAd K ("are_ascending", none)) ["row"] sp :=
  k_are_ascending T len fun cdv A outer s H vs Q E hr h => let ⟨t, a, b⟩ := hb cdv A outer s H vs Q E hr h; ⟨t, a.nox, b⟩
theorem k_links (T : Tx K mg) (len : ∀ vs H Q E, sp vs H Q E → vs.length = 1)
    (hb : ∀ (cdv : Value) (A : Around) (outer : List Env) (s : Shared) (H : Hp) (vs : List V) (Q : VK) (E : XK), Room k (A.deeper (envOfC "links" (defScope s_links) s.heap.objs.size (He.fAd K ("links", none)) cdv)) → sp vs H Q E →
      ∃ t, PSs (cxOf CX P w K mg base ["steps", "found", "begin", "_", "end"] "links" (defScope s_links) (He.fAd K ("links", none)) cdv A outer s H E) (defBody s_links) t ∧ t { nx := fun _ H' => Q .non H', rt := Q } (start ["steps", "found", "begin", "_", "end"] vs) H) :
    Fk P w K mg base CX (k + 1) (He.fAd K ("links", none)) ["steps"] sp := by
  obtain ⟨fd, F⟩ := T.F_links
  exact ⟨⟨fd, F.ok c_links len hb, F.bindsN fun _ _ _ _ _ _ us hl => match us, hl with | [_], _ => rfl⟩, F.kp⟩
theorem k0_links (T : Tx K mg) (len : ∀ vs H Q E, sp vs H Q E → vs.length = 1)
    (hb : ∀ (cdv : Value) (A : Around) (outer : List Env) (s : Shared) (H : Hp) (vs : List V) (Q : VK) (E : XK), Room k (A.deeper (envOfC "links" (defScope s_links) s.heap.objs.size (He.fAd K ("links", none)) cdv)) → sp vs H Q E →
      ∃ t, PSs (cxOf CX0 P w K mg base ["steps", "found", "begin", "_", "end"] "links" (defScope s_links) (He.fAd K ("links", none)) cdv A outer s H E).nox (defBody s_links) t ∧ t { nx := fun _ H' => Q .non H', rt := Q } (start ["steps", "found", "begin", "_", "end"] vs) H) :
    Fk P w K mg base CX0 (k + 1) (He.fAd K ("links", none)) ["steps"] sp :=
  k_links T len fun cdv A outer s H vs Q E hr h => let ⟨t, a, b⟩ := hb cdv A outer s H vs Q E hr h; ⟨t, a.nox, b⟩
theorem k_led_back (T : Tx K mg) (len : ∀ vs H Q E, sp vs H Q E → vs.length = 1)
    (hb : ∀ (cdv : Value) (A : Around) (outer : List Env) (s : Shared) (H : Hp) (vs : List V) (Q : VK) (E : XK), Room k (A.deeper (envOfC "led_back" (defScope s_led_back) s.heap.objs.size (He.fAd K ("led_back", none)) cdv)) → sp vs H Q E →
      ∃ t, PSs (cxOf CX P w K mg base ["steps", "begin", "letter", "end"] "led_back" (defScope s_led_back) (He.fAd K ("led_back", none)) cdv A outer s H E) (defBody s_led_back) t ∧ t { nx := fun _ H' => Q .non H', rt := Q } (start ["steps", "begin", "letter", "end"] vs) H) :
    Fk P w K mg base CX (k + 1) (He.fAd K ("led_back", none)) ["steps"] sp := by
  obtain ⟨fd, F⟩ := T.F_led_back
  exact ⟨⟨fd, F.ok c_led_back len hb, F.bindsN fun _ _ _ _ _ _ us hl => match us, hl with | [_], _ => rfl⟩, F.kp⟩
theorem k0_led_back (T : Tx K mg) (len : ∀ vs H Q E, sp vs H Q E → vs.length = 1)
    (hb : ∀ (cdv : Value) (A : Around) (outer : List Env) (s : Shared) (H : Hp) (vs : List V) (Q : VK) (E : XK), Room k (A.deeper (envOfC "led_back" (defScope s_led_back) s.heap.objs.size (He.fAd K ("led_back", none)) cdv)) → sp vs H Q E →
      ∃ t, PSs (cxOf CX0 P w K mg base ["steps", "begin", "letter", "end"] "led_back" (defScope s_led_back) (He.fAd K ("led_back", none)) cdv A outer s H E).nox (defBody s_led_back) t ∧ t { nx := fun _ H' => Q .non H', rt := Q } (start ["steps", "begin", "letter", "end"] vs) H) :
    Fk P w K mg base CX0 (k + 1) (He.fAd K ("led_back", none)) ["steps"] sp :=
  k_led_back T len fun cdv A outer s H vs Q E hr h => let ⟨t, a, b⟩ := hb cdv A outer s H vs Q E hr h; ⟨t, a.nox, b⟩
theorem k_reached (T : Tx K mg) (len : ∀ vs H Q E, sp vs H Q E → vs.length = 2)
    (hb : ∀ (cdv : Value) (A : Around) (outer : List Env) (s : Shared) (H : Hp) (vs : List V) (Q : VK) (E : XK), Room k (A.deeper (envOfC "reached" (defScope s_reached) s.heap.objs.size (He.fAd K ("reached", none)) cdv)) → sp vs H Q E →
      ∃ t, PSs (cxOf CX P w K mg base ["leading", "start", "found", "waiting", "begin", "end"] "reached" (defScope s_reached) (He.fAd K ("reached", none)) cdv A outer s H E) (defBody s_reached) t ∧ t { nx := fun _ H' => Q .non H', rt := Q } (start ["leading", "start", "found", "waiting", "begin", "end"] vs) H) :
    Fk P w K mg base CX (k + 1) (He.fAd K ("reached", none)) ["leading", "start"] sp := by
  obtain ⟨fd, F⟩ := T.F_reached
  exact ⟨⟨fd, F.ok c_reached len hb, F.bindsN fun _ _ _ _ _ _ us hl => match us, hl with | [_, _], _ => rfl⟩, F.kp⟩
theorem k0_reached (T : Tx K mg) (len : ∀ vs H Q E, sp vs H Q E → vs.length = 2)
    (hb : ∀ (cdv : Value) (A : Around) (outer : List Env) (s : Shared) (H : Hp) (vs : List V) (Q : VK) (E : XK), Room k (A.deeper (envOfC "reached" (defScope s_reached) s.heap.objs.size (He.fAd K ("reached", none)) cdv)) → sp vs H Q E →
      ∃ t, PSs (cxOf CX0 P w K mg base ["leading", "start", "found", "waiting", "begin", "end"] "reached" (defScope s_reached) (He.fAd K ("reached", none)) cdv A outer s H E).nox (defBody s_reached) t ∧ t { nx := fun _ H' => Q .non H', rt := Q } (start ["leading", "start", "found", "waiting", "begin", "end"] vs) H) :
    Fk P w K mg base CX0 (k + 1) (He.fAd K ("reached", none)) ["leading", "start"] sp :=
  k_reached T len fun cdv A outer s H vs Q E hr h => let ⟨t, a, b⟩ := hb cdv A outer s H vs Q E hr h; ⟨t, a.nox, b⟩
theorem k_all_joined (T : Tx K mg) (len : ∀ vs H Q E, sp vs H Q E → vs.length = 2)
    (hb : ∀ (cdv : Value) (A : Around) (outer : List Env) (s : Shared) (H : Hp) (vs : List V) (Q : VK) (E : XK), Room k (A.deeper (envOfC "all_joined" (defScope s_all_joined) s.heap.objs.size (He.fAd K ("all_joined", none)) cdv)) → sp vs H Q E →
      ∃ t, PSs (cxOf CX P w K mg base ["states", "steps", "ahead", "behind", "state"] "all_joined" (defScope s_all_joined) (He.fAd K ("all_joined", none)) cdv A outer s H E) (defBody s_all_joined) t ∧ t { nx := fun _ H' => Q .non H', rt := Q } (start ["states", "steps", "ahead", "behind", "state"] vs) H) :
    Fk P w K mg base CX (k + 1) (He.fAd K ("all_joined", none)) ["states", "steps"] sp := by
  obtain ⟨fd, F⟩ := T.F_all_joined
  exact ⟨⟨fd, F.ok c_all_joined len hb, F.bindsN fun _ _ _ _ _ _ us hl => match us, hl with | [_, _], _ => rfl⟩, F.kp⟩
theorem k0_all_joined (T : Tx K mg) (len : ∀ vs H Q E, sp vs H Q E → vs.length = 2)
    (hb : ∀ (cdv : Value) (A : Around) (outer : List Env) (s : Shared) (H : Hp) (vs : List V) (Q : VK) (E : XK), Room k (A.deeper (envOfC "all_joined" (defScope s_all_joined) s.heap.objs.size (He.fAd K ("all_joined", none)) cdv)) → sp vs H Q E →
      ∃ t, PSs (cxOf CX0 P w K mg base ["states", "steps", "ahead", "behind", "state"] "all_joined" (defScope s_all_joined) (He.fAd K ("all_joined", none)) cdv A outer s H E).nox (defBody s_all_joined) t ∧ t { nx := fun _ H' => Q .non H', rt := Q } (start ["states", "steps", "ahead", "behind", "state"] vs) H) :
    Fk P w K mg base CX0 (k + 1) (He.fAd K ("all_joined", none)) ["states", "steps"] sp :=
  k_all_joined T len fun cdv A outer s H vs Q E hr h => let ⟨t, a, b⟩ := hb cdv A outer s H vs Q E hr h; ⟨t, a.nox, b⟩
theorem k_Web__init_ (T : Tx K mg) (len : ∀ vs H Q E, sp vs H Q E → vs.length = 3)
    (hb : ∀ (cdv : Value) (A : Around) (outer : List Env) (s : Shared) (H : Hp) (vs : List V) (Q : VK) (E : XK), Room k (A.deeper (envOfC "Web.__init__" (defScope s_Web__init_) s.heap.objs.size (He.fAd K ("Web", some "__init__")) cdv)) → sp vs H Q E →
      ∃ t, PSs (cxOf CX P w K mg base ["self", "points", "arrows", "part"] "Web.__init__" (defScope s_Web__init_) (He.fAd K ("Web", some "__init__")) cdv A outer s H E) (defBody s_Web__init_) t ∧ t { nx := fun _ H' => Q .non H', rt := Q } (start ["self", "points", "arrows", "part"] vs) H) :
    Fk P w K mg base CX (k + 1) (He.fAd K ("Web", some "__init__")) ["self", "points", "arrows"] sp := by
  obtain ⟨fd, F⟩ := T.F_Web__init_
  exact ⟨⟨fd, F.ok c_Web__init_ len hb, F.bindsN fun _ _ _ _ _ _ us hl => match us, hl with | [_, _, _], _ => rfl⟩, F.kp⟩
theorem k0_Web__init_ (T : Tx K mg) (len : ∀ vs H Q E, sp vs H Q E → vs.length = 3)
    (hb : ∀ (cdv : Value) (A : Around) (outer : List Env) (s : Shared) (H : Hp) (vs : List V) (Q : VK) (E : XK), Room k (A.deeper (envOfC "Web.__init__" (defScope s_Web__init_) s.heap.objs.size (He.fAd K ("Web", some "__init__")) cdv)) → sp vs H Q E →
      ∃ t, PSs (cxOf CX0 P w K mg base ["self", "points", "arrows", "part"] "Web.__init__" (defScope s_Web__init_) (He.fAd K ("Web", some "__init__")) cdv A outer s H E).nox (defBody s_Web__init_) t ∧ t { nx := fun _ H' => Q .non H', rt := Q } (start ["self", "points", "arrows", "part"] vs) H) :
    Fk P w K mg base CX0 (k + 1) (He.fAd K ("Web", some "__init__")) ["self", "points", "arrows"] sp :=
  k_Web__init_ T len fun cdv A outer s H vs Q E hr h => let ⟨t, a, b⟩ := hb cdv A outer s H vs Q E hr h; ⟨t, a.nox, b⟩
theorem k_Web_lay (T : Tx K mg) (len : ∀ vs H Q E, sp vs H Q E → vs.length = 3)
    (hb : ∀ (cdv : Value) (A : Around) (outer : List Env) (s : Shared) (H : Hp) (vs : List V) (Q : VK) (E : XK), Room k (A.deeper (envOfC "Web.lay" (defScope s_Web_lay) s.heap.objs.size (He.fAd K ("Web", some "lay")) cdv)) → sp vs H Q E →
      ∃ t, PSs (cxOf CX P w K mg base ["self", "points", "arrows"] "Web.lay" (defScope s_Web_lay) (He.fAd K ("Web", some "lay")) cdv A outer s H E) (defBody s_Web_lay) t ∧ t { nx := fun _ H' => Q .non H', rt := Q } (start ["self", "points", "arrows"] vs) H) :
    Fk P w K mg base CX (k + 1) (He.fAd K ("Web", some "lay")) ["self", "points", "arrows"] sp := by
  obtain ⟨fd, F⟩ := T.F_Web_lay
  exact ⟨⟨fd, F.ok c_Web_lay len hb, F.bindsN fun _ _ _ _ _ _ us hl => match us, hl with | [_, _, _], _ => rfl⟩, F.kp⟩
theorem k0_Web_lay (T : Tx K mg) (len : ∀ vs H Q E, sp vs H Q E → vs.length = 3)
    (hb : ∀ (cdv : Value) (A : Around) (outer : List Env) (s : Shared) (H : Hp) (vs : List V) (Q : VK) (E : XK), Room k (A.deeper (envOfC "Web.lay" (defScope s_Web_lay) s.heap.objs.size (He.fAd K ("Web", some "lay")) cdv)) → sp vs H Q E →
      ∃ t, PSs (cxOf CX0 P w K mg base ["self", "points", "arrows"] "Web.lay" (defScope s_Web_lay) (He.fAd K ("Web", some "lay")) cdv A outer s H E).nox (defBody s_Web_lay) t ∧ t { nx := fun _ H' => Q .non H', rt := Q } (start ["self", "points", "arrows"] vs) H) :
    Fk P w K mg base CX0 (k + 1) (He.fAd K ("Web", some "lay")) ["self", "points", "arrows"] sp :=
  k_Web_lay T len fun cdv A outer s H vs Q E hr h => let ⟨t, a, b⟩ := hb cdv A outer s H vs Q E hr h; ⟨t, a.nox, b⟩
theorem k_Web__eq_ (T : Tx K mg) (len : ∀ vs H Q E, sp vs H Q E → vs.length = 2)
    (hb : ∀ (cdv : Value) (A : Around) (outer : List Env) (s : Shared) (H : Hp) (vs : List V) (Q : VK) (E : XK), Room k (A.deeper (envOfC "Web.__eq__" (defScope s_Web__eq_) s.heap.objs.size (He.fAd K ("Web", some "__eq__")) cdv)) → sp vs H Q E →
      ∃ t, PSs (cxOf CX P w K mg base ["self", "other"] "Web.__eq__" (defScope s_Web__eq_) (He.fAd K ("Web", some "__eq__")) cdv A outer s H E) (defBody s_Web__eq_) t ∧ t { nx := fun _ H' => Q .non H', rt := Q } (start ["self", "other"] vs) H) :
    Fk P w K mg base CX (k + 1) (He.fAd K ("Web", some "__eq__")) ["self", "other"] sp := by
  obtain ⟨fd, F⟩ := T.F_Web__eq_
  exact ⟨⟨fd, F.ok c_Web__eq_ len hb, F.bindsN fun _ _ _ _ _ _ us hl => match us, hl with | [_, _], _ => rfl⟩, F.kp⟩
theorem k0_Web__eq_ (T : Tx K mg) (len : ∀ vs H Q E, sp vs H Q E → vs.length = 2)
    (hb : ∀ (cdv : Value) (A : Around) (outer : List Env) (s : Shared) (H : Hp) (vs : List V) (Q : VK) (E : XK), Room k (A.deeper (envOfC "Web.__eq__" (defScope s_Web__eq_) s.heap.objs.size (He.fAd K ("Web", some "__eq__")) cdv)) → sp vs H Q E →
      ∃ t, PSs (cxOf CX0 P w K mg base ["self", "other"] "Web.__eq__" (defScope s_Web__eq_) (He.fAd K ("Web", some "__eq__")) cdv A outer s H E).nox (defBody s_Web__eq_) t ∧ t { nx := fun _ H' => Q .non H', rt := Q } (start ["self", "other"] vs) H) :
    Fk P w K mg base CX0 (k + 1) (He.fAd K ("Web", some "__eq__")) ["self", "other"] sp :=
  k_Web__eq_ T len fun cdv A outer s H vs Q E hr h => let ⟨t, a, b⟩ := hb cdv A outer s H vs Q E hr h; ⟨t, a.nox, b⟩
theorem k_letter_rows (T : Tx K mg) (len : ∀ vs H Q E, sp vs H Q E → vs.length = 2)
    (hb : ∀ (cdv : Value) (A : Around) (outer : List Env) (s : Shared) (H : Hp) (vs : List V) (Q : VK) (E : XK), Room k (A.deeper (envOfC "letter_rows" (defScope s_letter_rows) s.heap.objs.size (He.fAd K ("letter_rows", none)) cdv)) → sp vs H Q E →
      ∃ t, PSs (cxOf CX P w K mg base ["points", "arrows", "rows", "begin", "letter", "end", "_"] "letter_rows" (defScope s_letter_rows) (He.fAd K ("letter_rows", none)) cdv A outer s H E) (defBody s_letter_rows) t ∧ t { nx := fun _ H' => Q .non H', rt := Q } (start ["points", "arrows", "rows", "begin", "letter", "end", "_"] vs) H) :
    Fk P w K mg base CX (k + 1) (He.fAd K ("letter_rows", none)) ["points", "arrows"] sp := by
  obtain ⟨fd, F⟩ := T.F_letter_rows
  exact ⟨⟨fd, F.ok c_letter_rows len hb, F.bindsN fun _ _ _ _ _ _ us hl => match us, hl with | [_, _], _ => rfl⟩, F.kp⟩
theorem k0_letter_rows (T : Tx K mg) (len : ∀ vs H Q E, sp vs H Q E → vs.length = 2)
    (hb : ∀ (cdv : Value) (A : Around) (outer : List Env) (s : Shared) (H : Hp) (vs : List V) (Q : VK) (E : XK), Room k (A.deeper (envOfC "letter_rows" (defScope s_letter_rows) s.heap.objs.size (He.fAd K ("letter_rows", none)) cdv)) → sp vs H Q E →
      ∃ t, PSs (cxOf CX0 P w K mg base ["points", "arrows", "rows", "begin", "letter", "end", "_"] "letter_rows" (defScope s_letter_rows) (He.fAd K ("letter_rows", none)) cdv A outer s H E).nox (defBody s_letter_rows) t ∧ t { nx := fun _ H' => Q .non H', rt := Q } (start ["points", "arrows", "rows", "begin", "letter", "end", "_"] vs) H) :
    Fk P w K mg base CX0 (k + 1) (He.fAd K ("letter_rows", none)) ["points", "arrows"] sp :=
  k_letter_rows T len fun cdv A outer s H vs Q E hr h => let ⟨t, a, b⟩ := hb cdv A outer s H vs Q E hr h; ⟨t, a.nox, b⟩
theorem k_wrong_part (T : Tx K mg) (len : ∀ vs H Q E, sp vs H Q E → vs.length = 2)
    (hb : ∀ (cdv : Value) (A : Around) (outer : List Env) (s : Shared) (H : Hp) (vs : List V) (Q : VK) (E : XK), Room k (A.deeper (envOfC "wrong_part" (defScope s_wrong_part) s.heap.objs.size (He.fAd K ("wrong_part", none)) cdv)) → sp vs H Q E →
      ∃ t, PSs (cxOf CX P w K mg base ["points", "arrows"] "wrong_part" (defScope s_wrong_part) (He.fAd K ("wrong_part", none)) cdv A outer s H E) (defBody s_wrong_part) t ∧ t { nx := fun _ H' => Q .non H', rt := Q } (start ["points", "arrows"] vs) H) :
    Fk P w K mg base CX (k + 1) (He.fAd K ("wrong_part", none)) ["points", "arrows"] sp := by
  obtain ⟨fd, F⟩ := T.F_wrong_part
  exact ⟨⟨fd, F.ok c_wrong_part len hb, F.bindsN fun _ _ _ _ _ _ us hl => match us, hl with | [_, _], _ => rfl⟩, F.kp⟩
theorem k0_wrong_part (T : Tx K mg) (len : ∀ vs H Q E, sp vs H Q E → vs.length = 2)
    (hb : ∀ (cdv : Value) (A : Around) (outer : List Env) (s : Shared) (H : Hp) (vs : List V) (Q : VK) (E : XK), Room k (A.deeper (envOfC "wrong_part" (defScope s_wrong_part) s.heap.objs.size (He.fAd K ("wrong_part", none)) cdv)) → sp vs H Q E →
      ∃ t, PSs (cxOf CX0 P w K mg base ["points", "arrows"] "wrong_part" (defScope s_wrong_part) (He.fAd K ("wrong_part", none)) cdv A outer s H E).nox (defBody s_wrong_part) t ∧ t { nx := fun _ H' => Q .non H', rt := Q } (start ["points", "arrows"] vs) H) :
    Fk P w K mg base CX0 (k + 1) (He.fAd K ("wrong_part", none)) ["points", "arrows"] sp :=
  k_wrong_part T len fun cdv A outer s H vs Q E hr h => let ⟨t, a, b⟩ := hb cdv A outer s H vs Q E hr h; ⟨t, a.nox, b⟩
theorem k_are_arrows (T : Tx K mg) (len : ∀ vs H Q E, sp vs H Q E → vs.length = 2)
    (hb : ∀ (cdv : Value) (A : Around) (outer : List Env) (s : Shared) (H : Hp) (vs : List V) (Q : VK) (E : XK), Room k (A.deeper (envOfC "are_arrows" (defScope s_are_arrows) s.heap.objs.size (He.fAd K ("are_arrows", none)) cdv)) → sp vs H Q E →
      ∃ t, PSs (cxOf CX P w K mg base ["points", "thing", "item"] "are_arrows" (defScope s_are_arrows) (He.fAd K ("are_arrows", none)) cdv A outer s H E) (defBody s_are_arrows) t ∧ t { nx := fun _ H' => Q .non H', rt := Q } (start ["points", "thing", "item"] vs) H) :
    Fk P w K mg base CX (k + 1) (He.fAd K ("are_arrows", none)) ["points", "thing"] sp := by
  obtain ⟨fd, F⟩ := T.F_are_arrows
  exact ⟨⟨fd, F.ok c_are_arrows len hb, F.bindsN fun _ _ _ _ _ _ us hl => match us, hl with | [_, _], _ => rfl⟩, F.kp⟩
theorem k0_are_arrows (T : Tx K mg) (len : ∀ vs H Q E, sp vs H Q E → vs.length = 2)
    (hb : ∀ (cdv : Value) (A : Around) (outer : List Env) (s : Shared) (H : Hp) (vs : List V) (Q : VK) (E : XK), Room k (A.deeper (envOfC "are_arrows" (defScope s_are_arrows) s.heap.objs.size (He.fAd K ("are_arrows", none)) cdv)) → sp vs H Q E →
      ∃ t, PSs (cxOf CX0 P w K mg base ["points", "thing", "item"] "are_arrows" (defScope s_are_arrows) (He.fAd K ("are_arrows", none)) cdv A outer s H E).nox (defBody s_are_arrows) t ∧ t { nx := fun _ H' => Q .non H', rt := Q } (start ["points", "thing", "item"] vs) H) :
    Fk P w K mg base CX0 (k + 1) (He.fAd K ("are_arrows", none)) ["points", "thing"] sp :=
  k_are_arrows T len fun cdv A outer s H vs Q E hr h => let ⟨t, a, b⟩ := hb cdv A outer s H vs Q E hr h; ⟨t, a.nox, b⟩
theorem k_is_arrow (T : Tx K mg) (len : ∀ vs H Q E, sp vs H Q E → vs.length = 2)
    (hb : ∀ (cdv : Value) (A : Around) (outer : List Env) (s : Shared) (H : Hp) (vs : List V) (Q : VK) (E : XK), Room k (A.deeper (envOfC "is_arrow" (defScope s_is_arrow) s.heap.objs.size (He.fAd K ("is_arrow", none)) cdv)) → sp vs H Q E →
      ∃ t, PSs (cxOf CX P w K mg base ["points", "thing", "begin", "letter", "end"] "is_arrow" (defScope s_is_arrow) (He.fAd K ("is_arrow", none)) cdv A outer s H E) (defBody s_is_arrow) t ∧ t { nx := fun _ H' => Q .non H', rt := Q } (start ["points", "thing", "begin", "letter", "end"] vs) H) :
    Fk P w K mg base CX (k + 1) (He.fAd K ("is_arrow", none)) ["points", "thing"] sp := by
  obtain ⟨fd, F⟩ := T.F_is_arrow
  exact ⟨⟨fd, F.ok c_is_arrow len hb, F.bindsN fun _ _ _ _ _ _ us hl => match us, hl with | [_, _], _ => rfl⟩, F.kp⟩
theorem k0_is_arrow (T : Tx K mg) (len : ∀ vs H Q E, sp vs H Q E → vs.length = 2)
    (hb : ∀ (cdv : Value) (A : Around) (outer : List Env) (s : Shared) (H : Hp) (vs : List V) (Q : VK) (E : XK), Room k (A.deeper (envOfC "is_arrow" (defScope s_is_arrow) s.heap.objs.size (He.fAd K ("is_arrow", none)) cdv)) → sp vs H Q E →
      ∃ t, PSs (cxOf CX0 P w K mg base ["points", "thing", "begin", "letter", "end"] "is_arrow" (defScope s_is_arrow) (He.fAd K ("is_arrow", none)) cdv A outer s H E).nox (defBody s_is_arrow) t ∧ t { nx := fun _ H' => Q .non H', rt := Q } (start ["points", "thing", "begin", "letter", "end"] vs) H) :
    Fk P w K mg base CX0 (k + 1) (He.fAd K ("is_arrow", none)) ["points", "thing"] sp :=
  k_is_arrow T len fun cdv A outer s H vs Q E hr h => let ⟨t, a, b⟩ := hb cdv A outer s H vs Q E hr h; ⟨t, a.nox, b⟩
theorem k_clash (T : Tx K mg) (len : ∀ vs H Q E, sp vs H Q E → vs.length = 1)
    (hb : ∀ (cdv : Value) (A : Around) (outer : List Env) (s : Shared) (H : Hp) (vs : List V) (Q : VK) (E : XK), Room k (A.deeper (envOfC "clash" (defScope s_clash) s.heap.objs.size (He.fAd K ("clash", none)) cdv)) → sp vs H Q E →
      ∃ t, PSs (cxOf CX P w K mg base ["texts", "item"] "clash" (defScope s_clash) (He.fAd K ("clash", none)) cdv A outer s H E) (defBody s_clash) t ∧ t { nx := fun _ H' => Q .non H', rt := Q } (start ["texts", "item"] vs) H) :
    Fk P w K mg base CX (k + 1) (He.fAd K ("clash", none)) ["texts"] sp := by
  obtain ⟨fd, F⟩ := T.F_clash
  exact ⟨⟨fd, F.ok c_clash len hb, F.bindsN fun _ _ _ _ _ _ us hl => match us, hl with | [_], _ => rfl⟩, F.kp⟩
theorem k0_clash (T : Tx K mg) (len : ∀ vs H Q E, sp vs H Q E → vs.length = 1)
    (hb : ∀ (cdv : Value) (A : Around) (outer : List Env) (s : Shared) (H : Hp) (vs : List V) (Q : VK) (E : XK), Room k (A.deeper (envOfC "clash" (defScope s_clash) s.heap.objs.size (He.fAd K ("clash", none)) cdv)) → sp vs H Q E →
      ∃ t, PSs (cxOf CX0 P w K mg base ["texts", "item"] "clash" (defScope s_clash) (He.fAd K ("clash", none)) cdv A outer s H E).nox (defBody s_clash) t ∧ t { nx := fun _ H' => Q .non H', rt := Q } (start ["texts", "item"] vs) H) :
    Fk P w K mg base CX0 (k + 1) (He.fAd K ("clash", none)) ["texts"] sp :=
  k_clash T len fun cdv A outer s H vs Q E hr h => let ⟨t, a, b⟩ := hb cdv A outer s H vs Q E hr h; ⟨t, a.nox, b⟩
theorem k_least_clash (T : Tx K mg) (len : ∀ vs H Q E, sp vs H Q E → vs.length = 1)
    (hb : ∀ (cdv : Value) (A : Around) (outer : List Env) (s : Shared) (H : Hp) (vs : List V) (Q : VK) (E : XK), Room k (A.deeper (envOfC "least_clash" (defScope s_least_clash) s.heap.objs.size (He.fAd K ("least_clash", none)) cdv)) → sp vs H Q E →
      ∃ t, PSs (cxOf CX P w K mg base ["texts", "listed", "beginning", "ending", "clashing", "one", "others", "text"] "least_clash" (defScope s_least_clash) (He.fAd K ("least_clash", none)) cdv A outer s H E) (defBody s_least_clash) t ∧ t { nx := fun _ H' => Q .non H', rt := Q } (start ["texts", "listed", "beginning", "ending", "clashing", "one", "others", "text"] vs) H) :
    Fk P w K mg base CX (k + 1) (He.fAd K ("least_clash", none)) ["texts"] sp := by
  obtain ⟨fd, F⟩ := T.F_least_clash
  exact ⟨⟨fd, F.ok c_least_clash len hb, F.bindsN fun _ _ _ _ _ _ us hl => match us, hl with | [_], _ => rfl⟩, F.kp⟩
theorem k0_least_clash (T : Tx K mg) (len : ∀ vs H Q E, sp vs H Q E → vs.length = 1)
    (hb : ∀ (cdv : Value) (A : Around) (outer : List Env) (s : Shared) (H : Hp) (vs : List V) (Q : VK) (E : XK), Room k (A.deeper (envOfC "least_clash" (defScope s_least_clash) s.heap.objs.size (He.fAd K ("least_clash", none)) cdv)) → sp vs H Q E →
      ∃ t, PSs (cxOf CX0 P w K mg base ["texts", "listed", "beginning", "ending", "clashing", "one", "others", "text"] "least_clash" (defScope s_least_clash) (He.fAd K ("least_clash", none)) cdv A outer s H E).nox (defBody s_least_clash) t ∧ t { nx := fun _ H' => Q .non H', rt := Q } (start ["texts", "listed", "beginning", "ending", "clashing", "one", "others", "text"] vs) H) :
    Fk P w K mg base CX0 (k + 1) (He.fAd K ("least_clash", none)) ["texts"] sp :=
  k_least_clash T len fun cdv A outer s H vs Q E hr h => let ⟨t, a, b⟩ := hb cdv A outer s H vs Q E hr h; ⟨t, a.nox, b⟩
theorem k_beginning_texts (T : Tx K mg) (len : ∀ vs H Q E, sp vs H Q E → vs.length = 1)
    (hb : ∀ (cdv : Value) (A : Around) (outer : List Env) (s : Shared) (H : Hp) (vs : List V) (Q : VK) (E : XK), Room k (A.deeper (envOfC "beginning_texts" (defScope s_beginning_texts) s.heap.objs.size (He.fAd K ("beginning_texts", none)) cdv)) → sp vs H Q E →
      ∃ t, PSs (cxOf CX P w K mg base ["listed", "one", "other"] "beginning_texts" (defScope s_beginning_texts) (He.fAd K ("beginning_texts", none)) cdv A outer s H E) (defBody s_beginning_texts) t ∧ t { nx := fun _ H' => Q .non H', rt := Q } (start ["listed", "one", "other"] vs) H) :
    Fk P w K mg base CX (k + 1) (He.fAd K ("beginning_texts", none)) ["listed"] sp := by
  obtain ⟨fd, F⟩ := T.F_beginning_texts
  exact ⟨⟨fd, F.ok c_beginning_texts len hb, F.bindsN fun _ _ _ _ _ _ us hl => match us, hl with | [_], _ => rfl⟩, F.kp⟩
theorem k0_beginning_texts (T : Tx K mg) (len : ∀ vs H Q E, sp vs H Q E → vs.length = 1)
    (hb : ∀ (cdv : Value) (A : Around) (outer : List Env) (s : Shared) (H : Hp) (vs : List V) (Q : VK) (E : XK), Room k (A.deeper (envOfC "beginning_texts" (defScope s_beginning_texts) s.heap.objs.size (He.fAd K ("beginning_texts", none)) cdv)) → sp vs H Q E →
      ∃ t, PSs (cxOf CX0 P w K mg base ["listed", "one", "other"] "beginning_texts" (defScope s_beginning_texts) (He.fAd K ("beginning_texts", none)) cdv A outer s H E).nox (defBody s_beginning_texts) t ∧ t { nx := fun _ H' => Q .non H', rt := Q } (start ["listed", "one", "other"] vs) H) :
    Fk P w K mg base CX0 (k + 1) (He.fAd K ("beginning_texts", none)) ["listed"] sp :=
  k_beginning_texts T len fun cdv A outer s H vs Q E hr h => let ⟨t, a, b⟩ := hb cdv A outer s H vs Q E hr h; ⟨t, a.nox, b⟩
theorem k_law_hand (T : Tx K mg) (len : ∀ vs H Q E, sp vs H Q E → vs.length = 1)
    (hb : ∀ (cdv : Value) (A : Around) (outer : List Env) (s : Shared) (H : Hp) (vs : List V) (Q : VK) (E : XK), Room k (A.deeper (envOfC "_law_hand" (defScope s_law_hand) s.heap.objs.size (He.fAd K ("_law_hand", none)) cdv)) → sp vs H Q E →
      ∃ t, PSs (cxOf CX P w K mg base ["_law_script", "_law_cells", "_law_cell"] "_law_hand" (defScope s_law_hand) (He.fAd K ("_law_hand", none)) cdv A outer s H E) (defBody s_law_hand) t ∧ t { nx := fun _ H' => Q .non H', rt := Q } (start ["_law_script", "_law_cells", "_law_cell"] vs) H) :
    Fk P w K mg base CX (k + 1) (He.fAd K ("_law_hand", none)) ["_law_script"] sp := by
  obtain ⟨fd, F⟩ := T.F_law_hand
  exact ⟨⟨fd, F.ok c_law_hand len hb, F.bindsN fun _ _ _ _ _ _ us hl => match us, hl with | [_], _ => rfl⟩, F.kp⟩
theorem k0_law_hand (T : Tx K mg) (len : ∀ vs H Q E, sp vs H Q E → vs.length = 1)
    (hb : ∀ (cdv : Value) (A : Around) (outer : List Env) (s : Shared) (H : Hp) (vs : List V) (Q : VK) (E : XK), Room k (A.deeper (envOfC "_law_hand" (defScope s_law_hand) s.heap.objs.size (He.fAd K ("_law_hand", none)) cdv)) → sp vs H Q E →
      ∃ t, PSs (cxOf CX0 P w K mg base ["_law_script", "_law_cells", "_law_cell"] "_law_hand" (defScope s_law_hand) (He.fAd K ("_law_hand", none)) cdv A outer s H E).nox (defBody s_law_hand) t ∧ t { nx := fun _ H' => Q .non H', rt := Q } (start ["_law_script", "_law_cells", "_law_cell"] vs) H) :
    Fk P w K mg base CX0 (k + 1) (He.fAd K ("_law_hand", none)) ["_law_script"] sp :=
  k_law_hand T len fun cdv A outer s H vs Q E hr h => let ⟨t, a, b⟩ := hb cdv A outer s H vs Q E hr h; ⟨t, a.nox, b⟩
theorem k_law_draw (T : Tx K mg) (len : ∀ vs H Q E, sp vs H Q E → vs.length = 2)
    (hb : ∀ (cdv : Value) (A : Around) (outer : List Env) (s : Shared) (H : Hp) (vs : List V) (Q : VK) (E : XK), Room k (A.deeper (envOfC "_law_draw" (defScope s_law_draw) s.heap.objs.size (He.fAd K ("_law_draw", none)) cdv)) → sp vs H Q E →
      ∃ t, PSs (cxOf CX P w K mg base ["_law_hand_here", "_law_many", "_law_cell", "_law_digit", "_law_number"] "_law_draw" (defScope s_law_draw) (He.fAd K ("_law_draw", none)) cdv A outer s H E) (defBody s_law_draw) t ∧ t { nx := fun _ H' => Q .non H', rt := Q } (start ["_law_hand_here", "_law_many", "_law_cell", "_law_digit", "_law_number"] vs) H) :
    Fk P w K mg base CX (k + 1) (He.fAd K ("_law_draw", none)) ["_law_hand_here", "_law_many"] sp := by
  obtain ⟨fd, F⟩ := T.F_law_draw
  exact ⟨⟨fd, F.ok c_law_draw len hb, F.bindsN fun _ _ _ _ _ _ us hl => match us, hl with | [_, _], _ => rfl⟩, F.kp⟩
theorem k0_law_draw (T : Tx K mg) (len : ∀ vs H Q E, sp vs H Q E → vs.length = 2)
    (hb : ∀ (cdv : Value) (A : Around) (outer : List Env) (s : Shared) (H : Hp) (vs : List V) (Q : VK) (E : XK), Room k (A.deeper (envOfC "_law_draw" (defScope s_law_draw) s.heap.objs.size (He.fAd K ("_law_draw", none)) cdv)) → sp vs H Q E →
      ∃ t, PSs (cxOf CX0 P w K mg base ["_law_hand_here", "_law_many", "_law_cell", "_law_digit", "_law_number"] "_law_draw" (defScope s_law_draw) (He.fAd K ("_law_draw", none)) cdv A outer s H E).nox (defBody s_law_draw) t ∧ t { nx := fun _ H' => Q .non H', rt := Q } (start ["_law_hand_here", "_law_many", "_law_cell", "_law_digit", "_law_number"] vs) H) :
    Fk P w K mg base CX0 (k + 1) (He.fAd K ("_law_draw", none)) ["_law_hand_here", "_law_many"] sp :=
  k_law_draw T len fun cdv A outer s H vs Q E hr h => let ⟨t, a, b⟩ := hb cdv A outer s H vs Q E hr h; ⟨t, a.nox, b⟩
theorem k_law_is (T : Tx K mg) (len : ∀ vs H Q E, sp vs H Q E → vs.length = 2)
    (hb : ∀ (cdv : Value) (A : Around) (outer : List Env) (s : Shared) (H : Hp) (vs : List V) (Q : VK) (E : XK), Room k (A.deeper (envOfC "_law_is" (defScope s_law_is) s.heap.objs.size (He.fAd K ("_law_is", none)) cdv)) → sp vs H Q E →
      ∃ t, PSs (cxOf CX P w K mg base ["_law_told_here", "_law_due", "_law_one", "_law_two"] "_law_is" (defScope s_law_is) (He.fAd K ("_law_is", none)) cdv A outer s H E) (defBody s_law_is) t ∧ t { nx := fun _ H' => Q .non H', rt := Q } (start ["_law_told_here", "_law_due", "_law_one", "_law_two"] vs) H) :
    Fk P w K mg base CX (k + 1) (He.fAd K ("_law_is", none)) ["_law_told_here", "_law_due"] sp := by
  obtain ⟨fd, F⟩ := T.F_law_is
  exact ⟨⟨fd, F.ok c_law_is len hb, F.bindsN fun _ _ _ _ _ _ us hl => match us, hl with | [_, _], _ => rfl⟩, F.kp⟩
theorem k0_law_is (T : Tx K mg) (len : ∀ vs H Q E, sp vs H Q E → vs.length = 2)
    (hb : ∀ (cdv : Value) (A : Around) (outer : List Env) (s : Shared) (H : Hp) (vs : List V) (Q : VK) (E : XK), Room k (A.deeper (envOfC "_law_is" (defScope s_law_is) s.heap.objs.size (He.fAd K ("_law_is", none)) cdv)) → sp vs H Q E →
      ∃ t, PSs (cxOf CX0 P w K mg base ["_law_told_here", "_law_due", "_law_one", "_law_two"] "_law_is" (defScope s_law_is) (He.fAd K ("_law_is", none)) cdv A outer s H E).nox (defBody s_law_is) t ∧ t { nx := fun _ H' => Q .non H', rt := Q } (start ["_law_told_here", "_law_due", "_law_one", "_law_two"] vs) H) :
    Fk P w K mg base CX0 (k + 1) (He.fAd K ("_law_is", none)) ["_law_told_here", "_law_due"] sp :=
  k_law_is T len fun cdv A outer s H vs Q E hr h => let ⟨t, a, b⟩ := hb cdv A outer s H vs Q E hr h; ⟨t, a.nox, b⟩
theorem k_law_some (T : Tx K mg) (len : ∀ vs H Q E, sp vs H Q E → vs.length = 2)
    (hb : ∀ (cdv : Value) (A : Around) (outer : List Env) (s : Shared) (H : Hp) (vs : List V) (Q : VK) (E : XK), Room k (A.deeper (envOfC "_law_some" (defScope s_law_some) s.heap.objs.size (He.fAd K ("_law_some", none)) cdv)) → sp vs H Q E →
      ∃ t, PSs (cxOf CX P w K mg base ["_law_hand_here", "_law_things"] "_law_some" (defScope s_law_some) (He.fAd K ("_law_some", none)) cdv A outer s H E) (defBody s_law_some) t ∧ t { nx := fun _ H' => Q .non H', rt := Q } (start ["_law_hand_here", "_law_things"] vs) H) :
    Fk P w K mg base CX (k + 1) (He.fAd K ("_law_some", none)) ["_law_hand_here", "_law_things"] sp := by
  obtain ⟨fd, F⟩ := T.F_law_some
  exact ⟨⟨fd, F.ok c_law_some len hb, F.bindsN fun _ _ _ _ _ _ us hl => match us, hl with | [_, _], _ => rfl⟩, F.kp⟩
theorem k0_law_some (T : Tx K mg) (len : ∀ vs H Q E, sp vs H Q E → vs.length = 2)
    (hb : ∀ (cdv : Value) (A : Around) (outer : List Env) (s : Shared) (H : Hp) (vs : List V) (Q : VK) (E : XK), Room k (A.deeper (envOfC "_law_some" (defScope s_law_some) s.heap.objs.size (He.fAd K ("_law_some", none)) cdv)) → sp vs H Q E →
      ∃ t, PSs (cxOf CX0 P w K mg base ["_law_hand_here", "_law_things"] "_law_some" (defScope s_law_some) (He.fAd K ("_law_some", none)) cdv A outer s H E).nox (defBody s_law_some) t ∧ t { nx := fun _ H' => Q .non H', rt := Q } (start ["_law_hand_here", "_law_things"] vs) H) :
    Fk P w K mg base CX0 (k + 1) (He.fAd K ("_law_some", none)) ["_law_hand_here", "_law_things"] sp :=
  k_law_some T len fun cdv A outer s H vs Q E hr h => let ⟨t, a, b⟩ := hb cdv A outer s H vs Q E hr h; ⟨t, a.nox, b⟩
theorem k_law_shuffled (T : Tx K mg) (len : ∀ vs H Q E, sp vs H Q E → vs.length = 2)
    (hb : ∀ (cdv : Value) (A : Around) (outer : List Env) (s : Shared) (H : Hp) (vs : List V) (Q : VK) (E : XK), Room k (A.deeper (envOfC "_law_shuffled" (defScope s_law_shuffled) s.heap.objs.size (He.fAd K ("_law_shuffled", none)) cdv)) → sp vs H Q E →
      ∃ t, PSs (cxOf CX P w K mg base ["_law_hand_here", "_law_things", "_law_pool", "_law_found"] "_law_shuffled" (defScope s_law_shuffled) (He.fAd K ("_law_shuffled", none)) cdv A outer s H E) (defBody s_law_shuffled) t ∧ t { nx := fun _ H' => Q .non H', rt := Q } (start ["_law_hand_here", "_law_things", "_law_pool", "_law_found"] vs) H) :
    Fk P w K mg base CX (k + 1) (He.fAd K ("_law_shuffled", none)) ["_law_hand_here", "_law_things"] sp := by
  obtain ⟨fd, F⟩ := T.F_law_shuffled
  exact ⟨⟨fd, F.ok c_law_shuffled len hb, F.bindsN fun _ _ _ _ _ _ us hl => match us, hl with | [_, _], _ => rfl⟩, F.kp⟩
theorem k0_law_shuffled (T : Tx K mg) (len : ∀ vs H Q E, sp vs H Q E → vs.length = 2)
    (hb : ∀ (cdv : Value) (A : Around) (outer : List Env) (s : Shared) (H : Hp) (vs : List V) (Q : VK) (E : XK), Room k (A.deeper (envOfC "_law_shuffled" (defScope s_law_shuffled) s.heap.objs.size (He.fAd K ("_law_shuffled", none)) cdv)) → sp vs H Q E →
      ∃ t, PSs (cxOf CX0 P w K mg base ["_law_hand_here", "_law_things", "_law_pool", "_law_found"] "_law_shuffled" (defScope s_law_shuffled) (He.fAd K ("_law_shuffled", none)) cdv A outer s H E).nox (defBody s_law_shuffled) t ∧ t { nx := fun _ H' => Q .non H', rt := Q } (start ["_law_hand_here", "_law_things", "_law_pool", "_law_found"] vs) H) :
    Fk P w K mg base CX0 (k + 1) (He.fAd K ("_law_shuffled", none)) ["_law_hand_here", "_law_things"] sp :=
  k_law_shuffled T len fun cdv A outer s H vs Q E hr h => let ⟨t, a, b⟩ := hb cdv A outer s H vs Q E hr h; ⟨t, a.nox, b⟩
theorem k_law_clashing (T : Tx K mg) (len : ∀ vs H Q E, sp vs H Q E → vs.length = 2)
    (hb : ∀ (cdv : Value) (A : Around) (outer : List Env) (s : Shared) (H : Hp) (vs : List V) (Q : VK) (E : XK), Room k (A.deeper (envOfC "_law_clashing" (defScope s_law_clashing) s.heap.objs.size (He.fAd K ("_law_clashing", none)) cdv)) → sp vs H Q E →
      ∃ t, PSs (cxOf CX P w K mg base ["_law_one", "_law_other", "_law_short", "_law_long"] "_law_clashing" (defScope s_law_clashing) (He.fAd K ("_law_clashing", none)) cdv A outer s H E) (defBody s_law_clashing) t ∧ t { nx := fun _ H' => Q .non H', rt := Q } (start ["_law_one", "_law_other", "_law_short", "_law_long"] vs) H) :
    Fk P w K mg base CX (k + 1) (He.fAd K ("_law_clashing", none)) ["_law_one", "_law_other"] sp := by
  obtain ⟨fd, F⟩ := T.F_law_clashing
  exact ⟨⟨fd, F.ok c_law_clashing len hb, F.bindsN fun _ _ _ _ _ _ us hl => match us, hl with | [_, _], _ => rfl⟩, F.kp⟩
theorem k0_law_clashing (T : Tx K mg) (len : ∀ vs H Q E, sp vs H Q E → vs.length = 2)
    (hb : ∀ (cdv : Value) (A : Around) (outer : List Env) (s : Shared) (H : Hp) (vs : List V) (Q : VK) (E : XK), Room k (A.deeper (envOfC "_law_clashing" (defScope s_law_clashing) s.heap.objs.size (He.fAd K ("_law_clashing", none)) cdv)) → sp vs H Q E →
      ∃ t, PSs (cxOf CX0 P w K mg base ["_law_one", "_law_other", "_law_short", "_law_long"] "_law_clashing" (defScope s_law_clashing) (He.fAd K ("_law_clashing", none)) cdv A outer s H E).nox (defBody s_law_clashing) t ∧ t { nx := fun _ H' => Q .non H', rt := Q } (start ["_law_one", "_law_other", "_law_short", "_law_long"] vs) H) :
    Fk P w K mg base CX0 (k + 1) (He.fAd K ("_law_clashing", none)) ["_law_one", "_law_other"] sp :=
  k_law_clashing T len fun cdv A outer s H vs Q E hr h => let ⟨t, a, b⟩ := hb cdv A outer s H vs Q E hr h; ⟨t, a.nox, b⟩
theorem k_law_deep (T : Tx K mg) (len : ∀ vs H Q E, sp vs H Q E → vs.length = 1)
    (hb : ∀ (cdv : Value) (A : Around) (outer : List Env) (s : Shared) (H : Hp) (vs : List V) (Q : VK) (E : XK), Room k (A.deeper (envOfC "_law_deep" (defScope s_law_deep) s.heap.objs.size (He.fAd K ("_law_deep", none)) cdv)) → sp vs H Q E →
      ∃ t, PSs (cxOf CX P w K mg base ["_law_kind", "_law_found", "_law_turn"] "_law_deep" (defScope s_law_deep) (He.fAd K ("_law_deep", none)) cdv A outer s H E) (defBody s_law_deep) t ∧ t { nx := fun _ H' => Q .non H', rt := Q } (start ["_law_kind", "_law_found", "_law_turn"] vs) H) :
    Fk P w K mg base CX (k + 1) (He.fAd K ("_law_deep", none)) ["_law_kind"] sp := by
  obtain ⟨fd, F⟩ := T.F_law_deep
  exact ⟨⟨fd, F.ok c_law_deep len hb, F.bindsN fun _ _ _ _ _ _ us hl => match us, hl with | [_], _ => rfl⟩, F.kp⟩
theorem k0_law_deep (T : Tx K mg) (len : ∀ vs H Q E, sp vs H Q E → vs.length = 1)
    (hb : ∀ (cdv : Value) (A : Around) (outer : List Env) (s : Shared) (H : Hp) (vs : List V) (Q : VK) (E : XK), Room k (A.deeper (envOfC "_law_deep" (defScope s_law_deep) s.heap.objs.size (He.fAd K ("_law_deep", none)) cdv)) → sp vs H Q E →
      ∃ t, PSs (cxOf CX0 P w K mg base ["_law_kind", "_law_found", "_law_turn"] "_law_deep" (defScope s_law_deep) (He.fAd K ("_law_deep", none)) cdv A outer s H E).nox (defBody s_law_deep) t ∧ t { nx := fun _ H' => Q .non H', rt := Q } (start ["_law_kind", "_law_found", "_law_turn"] vs) H) :
    Fk P w K mg base CX0 (k + 1) (He.fAd K ("_law_deep", none)) ["_law_kind"] sp :=
  k_law_deep T len fun cdv A outer s H vs Q E hr h => let ⟨t, a, b⟩ := hb cdv A outer s H vs Q E hr h; ⟨t, a.nox, b⟩
theorem k_law_least_clash (T : Tx K mg) (len : ∀ vs H Q E, sp vs H Q E → vs.length = 1)
    (hb : ∀ (cdv : Value) (A : Around) (outer : List Env) (s : Shared) (H : Hp) (vs : List V) (Q : VK) (E : XK), Room k (A.deeper (envOfC "_law_least_clash" (defScope s_law_least_clash) s.heap.objs.size (He.fAd K ("_law_least_clash", none)) cdv)) → sp vs H Q E →
      ∃ t, PSs (cxOf CX P w K mg base ["_law_texts_here", "_law_found", "_law_one", "_law_other"] "_law_least_clash" (defScope s_law_least_clash) (He.fAd K ("_law_least_clash", none)) cdv A outer s H E) (defBody s_law_least_clash) t ∧ t { nx := fun _ H' => Q .non H', rt := Q } (start ["_law_texts_here", "_law_found", "_law_one", "_law_other"] vs) H) :
    Fk P w K mg base CX (k + 1) (He.fAd K ("_law_least_clash", none)) ["_law_texts_here"] sp := by
  obtain ⟨fd, F⟩ := T.F_law_least_clash
  exact ⟨⟨fd, F.ok c_law_least_clash len hb, F.bindsN fun _ _ _ _ _ _ us hl => match us, hl with | [_], _ => rfl⟩, F.kp⟩
theorem k0_law_least_clash (T : Tx K mg) (len : ∀ vs H Q E, sp vs H Q E → vs.length = 1)
    (hb : ∀ (cdv : Value) (A : Around) (outer : List Env) (s : Shared) (H : Hp) (vs : List V) (Q : VK) (E : XK), Room k (A.deeper (envOfC "_law_least_clash" (defScope s_law_least_clash) s.heap.objs.size (He.fAd K ("_law_least_clash", none)) cdv)) → sp vs H Q E →
      ∃ t, PSs (cxOf CX0 P w K mg base ["_law_texts_here", "_law_found", "_law_one", "_law_other"] "_law_least_clash" (defScope s_law_least_clash) (He.fAd K ("_law_least_clash", none)) cdv A outer s H E).nox (defBody s_law_least_clash) t ∧ t { nx := fun _ H' => Q .non H', rt := Q } (start ["_law_texts_here", "_law_found", "_law_one", "_law_other"] vs) H) :
    Fk P w K mg base CX0 (k + 1) (He.fAd K ("_law_least_clash", none)) ["_law_texts_here"] sp :=
  k_law_least_clash T len fun cdv A outer s H vs Q E hr h => let ⟨t, a, b⟩ := hb cdv A outer s H vs Q E hr h; ⟨t, a.nox, b⟩
theorem k_law_told (T : Tx K mg) (len : ∀ vs H Q E, sp vs H Q E → vs.length = 1)
    (hb : ∀ (cdv : Value) (A : Around) (outer : List Env) (s : Shared) (H : Hp) (vs : List V) (Q : VK) (E : XK), Room k (A.deeper (envOfC "_law_told" (defScope s_law_told) s.heap.objs.size (He.fAd K ("_law_told", none)) cdv)) → sp vs H Q E →
      ∃ t, PSs (cxOf CX P w K mg base ["_law_thing", "_law_told_here"] "_law_told" (defScope s_law_told) (He.fAd K ("_law_told", none)) cdv A outer s H E) (defBody s_law_told) t ∧ t { nx := fun _ H' => Q .non H', rt := Q } (start ["_law_thing", "_law_told_here"] vs) H) :
    Fk P w K mg base CX (k + 1) (He.fAd K ("_law_told", none)) ["_law_thing"] sp := by
  obtain ⟨fd, F⟩ := T.F_law_told
  exact ⟨⟨fd, F.ok c_law_told len hb, F.bindsN fun _ _ _ _ _ _ us hl => match us, hl with | [_], _ => rfl⟩, F.kp⟩
theorem k0_law_told (T : Tx K mg) (len : ∀ vs H Q E, sp vs H Q E → vs.length = 1)
    (hb : ∀ (cdv : Value) (A : Around) (outer : List Env) (s : Shared) (H : Hp) (vs : List V) (Q : VK) (E : XK), Room k (A.deeper (envOfC "_law_told" (defScope s_law_told) s.heap.objs.size (He.fAd K ("_law_told", none)) cdv)) → sp vs H Q E →
      ∃ t, PSs (cxOf CX0 P w K mg base ["_law_thing", "_law_told_here"] "_law_told" (defScope s_law_told) (He.fAd K ("_law_told", none)) cdv A outer s H E).nox (defBody s_law_told) t ∧ t { nx := fun _ H' => Q .non H', rt := Q } (start ["_law_thing", "_law_told_here"] vs) H) :
    Fk P w K mg base CX0 (k + 1) (He.fAd K ("_law_told", none)) ["_law_thing"] sp :=
  k_law_told T len fun cdv A outer s H vs Q E hr h => let ⟨t, a, b⟩ := hb cdv A outer s H vs Q E hr h; ⟨t, a.nox, b⟩
theorem k_law_texts (T : Tx K mg) (len : ∀ vs H Q E, sp vs H Q E → vs.length = 1)
    (hb : ∀ (cdv : Value) (A : Around) (outer : List Env) (s : Shared) (H : Hp) (vs : List V) (Q : VK) (E : XK), Room k (A.deeper (envOfC "_law_texts" (defScope s_law_texts) s.heap.objs.size (He.fAd K ("_law_texts", none)) cdv)) → sp vs H Q E →
      ∃ t, PSs (cxOf CX P w K mg base ["_law_hand_here", "_law_found", "_law_turn", "_law_text", "_law_old", "_law_k"] "_law_texts" (defScope s_law_texts) (He.fAd K ("_law_texts", none)) cdv A outer s H E) (defBody s_law_texts) t ∧ t { nx := fun _ H' => Q .non H', rt := Q } (start ["_law_hand_here", "_law_found", "_law_turn", "_law_text", "_law_old", "_law_k"] vs) H) :
    Fk P w K mg base CX (k + 1) (He.fAd K ("_law_texts", none)) ["_law_hand_here"] sp := by
  obtain ⟨fd, F⟩ := T.F_law_texts
  exact ⟨⟨fd, F.ok c_law_texts len hb, F.bindsN fun _ _ _ _ _ _ us hl => match us, hl with | [_], _ => rfl⟩, F.kp⟩
theorem k0_law_texts (T : Tx K mg) (len : ∀ vs H Q E, sp vs H Q E → vs.length = 1)
    (hb : ∀ (cdv : Value) (A : Around) (outer : List Env) (s : Shared) (H : Hp) (vs : List V) (Q : VK) (E : XK), Room k (A.deeper (envOfC "_law_texts" (defScope s_law_texts) s.heap.objs.size (He.fAd K ("_law_texts", none)) cdv)) → sp vs H Q E →
      ∃ t, PSs (cxOf CX0 P w K mg base ["_law_hand_here", "_law_found", "_law_turn", "_law_text", "_law_old", "_law_k"] "_law_texts" (defScope s_law_texts) (He.fAd K ("_law_texts", none)) cdv A outer s H E).nox (defBody s_law_texts) t ∧ t { nx := fun _ H' => Q .non H', rt := Q } (start ["_law_hand_here", "_law_found", "_law_turn", "_law_text", "_law_old", "_law_k"] vs) H) :
    Fk P w K mg base CX0 (k + 1) (He.fAd K ("_law_texts", none)) ["_law_hand_here"] sp :=
  k_law_texts T len fun cdv A outer s H vs Q E hr h => let ⟨t, a, b⟩ := hb cdv A outer s H vs Q E hr h; ⟨t, a.nox, b⟩
theorem k_law (T : Tx K mg) (len : ∀ vs H Q E, sp vs H Q E → vs.length = 1)
    (hb : ∀ (cdv : Value) (A : Around) (outer : List Env) (s : Shared) (H : Hp) (vs : List V) (Q : VK) (E : XK), Room k (A.deeper (envOfC "law" (defScope s_law) s.heap.objs.size (He.fAd K ("law", none)) cdv)) → sp vs H Q E →
      ∃ t, PSs (cxOf CX P w K mg base ["_law_script", "_law_hand_here", "_law_turn", "_law_texts_here", "_law_due", "_law_odd", "_law_at", "_law_bad", "_law_things"] "law" (defScope s_law) (He.fAd K ("law", none)) cdv A outer s H E) (defBody s_law) t ∧ t { nx := fun _ H' => Q .non H', rt := Q } (start ["_law_script", "_law_hand_here", "_law_turn", "_law_texts_here", "_law_due", "_law_odd", "_law_at", "_law_bad", "_law_things"] vs) H) :
    Fk P w K mg base CX (k + 1) (He.fAd K ("law", none)) ["_law_script"] sp := by
  obtain ⟨fd, F⟩ := T.F_law
  exact ⟨⟨fd, F.ok c_law len hb, F.bindsN fun _ _ _ _ _ _ us hl => match us, hl with | [_], _ => rfl⟩, F.kp⟩
theorem k0_law (T : Tx K mg) (len : ∀ vs H Q E, sp vs H Q E → vs.length = 1)
    (hb : ∀ (cdv : Value) (A : Around) (outer : List Env) (s : Shared) (H : Hp) (vs : List V) (Q : VK) (E : XK), Room k (A.deeper (envOfC "law" (defScope s_law) s.heap.objs.size (He.fAd K ("law", none)) cdv)) → sp vs H Q E →
      ∃ t, PSs (cxOf CX0 P w K mg base ["_law_script", "_law_hand_here", "_law_turn", "_law_texts_here", "_law_due", "_law_odd", "_law_at", "_law_bad", "_law_things"] "law" (defScope s_law) (He.fAd K ("law", none)) cdv A outer s H E).nox (defBody s_law) t ∧ t { nx := fun _ H' => Q .non H', rt := Q } (start ["_law_script", "_law_hand_here", "_law_turn", "_law_texts_here", "_law_due", "_law_odd", "_law_at", "_law_bad", "_law_things"] vs) H) :
    Fk P w K mg base CX0 (k + 1) (He.fAd K ("law", none)) ["_law_script"] sp :=
  k_law T len fun cdv A outer s H vs Q E hr h => let ⟨t, a, b⟩ := hb cdv A outer s H vs Q E hr h; ⟨t, a.nox, b⟩
end
end NJ

set_option Elab.async false
set_option linter.all false
set_option maxRecDepth 100000
set_option maxHeartbeats 2000000
namespace NJ
open PySem PySem.Spec PyProof.Rows L2
section
variable {P : Program} {w : World} {K : PySem.W.Frag} {mg : Str → Option Value} {base : Heap}
/-! ### kinds -/
theorem a1_len {α : Type} {R : Rp α} {d : α} {A : Ar} {n : Nat} (h : ∀ H vs, A.rel H vs → vs.length = n) : ∀ H vs, (a1 R d A).rel H vs → vs.length = n + 1 := fun H vs ⟨v, ws, e, _, k⟩ => by
  rw [e, List.length_cons, h H ws k]
theorem a0_len : ∀ H vs, a0.rel H vs → vs.length = 0 := fun H vs h => by
  rw [show vs = [] from h] <;> rfl
theorem spf_len {ι β : Type} {A : ι → Ar} {pre : ι → Prop} {R : ι → Rp β} {m : ι → β} {n : Nat} (h : ∀ x H vs, (A x).rel H vs → vs.length = n) : ∀ vs H Q E, SpF A pre R m vs H Q E → vs.length = n := fun vs H Q E ⟨x, Hm, _, k, _⟩ => h x Hm vs k
/-- a class by its name -/
theorem ev_ty {σ : L2.St} {Hm : Hp} {n : String} : Ev (tC (.ty n)) σ Hm rV (.ty n) := ev_c fun _ => rfl
/-- isinstance(x, T) -/
theorem ev_isi {σ : L2.St} {Hm : Hp} {te : TE} {t : Value} {c : String} {b : Bool} (h : Ev te σ Hm (rTy K) t) (k : PySem.W.kitOne K t (.type c) = some b) : Ev (tCB (rIsi K) (tCons te (tCons (tC (.ty c)) tNil))) σ Hm rB b := ev_cb (ea_cons h (ea_cons ev_ty ea_nil)) (rc_isi k)
/-- is_integer(thing) -/
def spIsInteger (K : PySem.W.Frag) : Sp := SpF (fun (x : Value × Bool × Bool) => a1 (rTy K) x.1 a0) (fun x => PySem.W.kitOne K x.1 (.type "int") = some x.2.1 ∧ PySem.W.kitOne K x.1 (.type "bool") = some x.2.2) (fun _ => rB) (fun x => x.2.1 && !x.2.2)
theorem ok_is_integer (T : Tx K mg) : Fk P w K mg base CX0 1 (He.ga K "is_integer") ["thing"] (spIsInteger K) := by
  refine k0_is_integer T (spf_len fun _ => a1_len a0_len) (fun cdv A outer s H vs Q E hr h => ?_)
  refine ⟨_, (pss_one (ps_ret (pe_and (pe_callB call_isi (by rfl) T.n_isinstance boot_isinstance (pa_cons (pv 0) (pa_cons (pe_bltn (v := .ty "int") (by rfl) T.n_int boot_int rfl) pa_nil))) (pe_one (pe_not (pe_callB call_isi (by rfl) T.n_isinstance boot_isinstance (pa_cons (pv 0) (pa_cons (pe_bltn (v := .ty "bool") (by rfl) T.n_bool boot_bool rfl) pa_nil)))))))), ?_⟩
  obtain ⟨x, Hm, ⟨h1, h2⟩, ⟨v, ws, rfl, r, rfl⟩, hi, q⟩ := h
  exact s_ret (ev_and (ev_isi (ev_v rfl r) h1) fun _ => ev_not (ev_isi (ev_v rfl r) h2)) hi q
/-- is_number(least, most, thing), an int -/
def spIsNumber (K : PySem.W.Frag) : Sp := SpF (fun (x : Int × Int × Int) => a1 rI x.1 (a1 rI x.2.1 (a1 rI x.2.2 a0))) (fun _ => True) (fun _ => rB) (fun x => decide (x.1 ≤ x.2.2) && decide (x.2.2 ≤ x.2.1))
theorem ty_int {Hm : Hp} {v : V} {i : Int} (h : rI.rel Hm v i) : (rTy K).rel Hm v (.type "int") := by
  rw [show v = V.int i from h]
  exact .base (.int i)
theorem kit_int_int : PySem.W.kitOne K (.type "int") (.type "int") = some true := kit_ty (by decide +kernel)
theorem kit_int_bool : PySem.W.kitOne K (.type "int") (.type "bool") = some false := kit_ty (by decide +kernel)
/-- a <= b <= c -/
theorem ev_chain {σ : L2.St} {Hm : Hp} {r r' : R2} {ta tb tc : TE} {α β γ : Type} {R : Rp α} {S : Rp β} {U : Rp γ} {x : α} {y : β} {z : γ} {a b : Bool} (ha : Ev ta σ Hm R x) (hb : Ev tb σ Hm S y) (hc : Ev tc σ Hm U z) (h1 : Rv r R x S y rB a) (h2 : Rv r' S y U z rB b) :
    Ev (tChain r r' ta tb tc) σ Hm rB (a && b) := fun H1 hi Q q =>
  ha H1 hi _ fun v K2 H2 x2 rv => hb.mono x2.s H2 x2.i _ fun u K3 H3 x3 ru => h1 K3 H3 x3.i v u (R.mono x3.s rv) ru _ fun c K4 H4 x4 rc => ⟨a, rc, by
    have x24 := (x2.trans x3).trans x4
    cases a with
    | true => exact iteT (hc.mono x24.s H4 x24.i _ fun t K5 H5 x5 rt => h2 K5 H5 x5.i u t (S.mono (x4.trans x5).s ru) rt Q fun o K6 H6 x6 ro => q o K6 H6 ((x24.trans x5).trans x6) ro)
    | false => exact iteF (q _ K4 H4 x24 rfl)⟩
theorem ok_is_number (T : Tx K mg) : Fk P w K mg base CX0 2 (He.ga K "is_number") ["least", "most", "thing"] (spIsNumber K) := by
  refine k0_is_number T (spf_len fun _ => a1_len (a1_len (a1_len a0_len))) (fun cdv A outer s H vs Q E hr h => ?_)
  refine ⟨_, (pss_one (ps_ret (pe_and (pe_fk (ok_is_integer T) (hr.mono (by decide)) T.g_is_integer pass0 (pa_cons (pv 2) pa_nil)) (pe_one (pe_chain op_le op_le (pv 0) (pv 2) (pv 1)))))), ?_⟩
  obtain ⟨x, Hm, _, ⟨v1, ws, rfl, r1, v2, ws2, rfl, r2, v3, ws3, rfl, r3, rfl⟩, hi, q⟩ := h
  refine s_ret (Ev.is (ev_and (ev_call (x := (.type "int", true, false)) ⟨kit_int_int, kit_int_bool⟩ (ea_cons (ev_v rfl (ty_int r3)) ea_nil)) fun _ => ev_chain (ev_v rfl r1) (ev_v rfl r3) (ev_v rfl r2) rv_b0 rv_b0) (Bool.true_and _)) hi q
end
end NJ

set_option Elab.async false
set_option linter.all false
set_option maxRecDepth 100000
set_option maxHeartbeats 2000000
namespace NJ
open PySem PySem.Spec PyProof.Rows L2
section
variable {P : Program} {w : World} {K : PySem.W.Frag} {mg : Str → Option Value} {base : Heap}
/-- a text, or something of another type -/
def rTh (K : PySem.W.Frag) : Rp (Option (List Nat)) := ⟨fun H v o => (match o with | some l => v = .str (tx l) | none => ∃ t, TyX K H v t ∧ PySem.W.kitOne K t (.type "str") = some false), fun {H H' v d} s h => by
  cases d with
  | none =>
    obtain ⟨t, a, b⟩ := h
    exact ⟨t, tyx_mono s a, b⟩
  | some l => exact h⟩
def lower (c : Nat) : Bool := decide (97 ≤ c) && decide (c ≤ 122)
def isTx (o : Option (List Nat)) : Bool := match o with
  | some l => l.all lower
  | none => false
def okTh (o : Option (List Nat)) : Prop := match o with
  | some l => l.length ≤ 16000000
  | none => True
theorem th_ty {H : Hp} {v : V} {o : Option (List Nat)} (h : (rTh K).rel H v o) : ∃ t, (rTy K).rel H v t ∧ PySem.W.kitOne K t (.type "str") = some o.isSome := by
  cases o with
  | none => exact h
  | some l => exact ⟨.type "str", by rw [show v = V.str (tx l) from h]; exact .base (.str _), (kit_ty (by decide +kernel) : PySem.W.kitOne K (.type "str") (.type "str") = some true)⟩
def spIsText (K : PySem.W.Frag) : Sp := SpF (fun (x : Option (List Nat)) => a1 (rTh K) x a0) okTh (fun _ => rB) isTx
theorem lower_eq (c : Nat) : (!decide ([c] < [97]) && !decide ([122] < [c])) = lower c := by
  unfold lower
  have h1 : decide ([c] < [97]) = decide (c < 97) := by
    rw [decide_eq_decide]
    constructor
    · intro h
      cases h with
      | rel h => exact h
      | cons h => cases h
    · exact fun h => .rel h
  have h2 : decide ([122] < [c]) = decide (122 < c) := by
    rw [decide_eq_decide]
    constructor
    · intro h
      cases h with
      | rel h => exact h
      | cons h => cases h
    · exact fun h => .rel h
  rw [h1, h2]
  by_cases a : c < 97 <;> by_cases b : 122 < c <;> simp [a, b] <;> omega
theorem ok_is_text (T : Tx K mg) : Fk P w K mg base CX0 1 (He.ga K "is_text") ["thing"] (spIsText K) := by
  refine k0_is_text T (spf_len fun _ => a1_len a0_len) (fun cdv A outer s H vs Q E hr h => ?_)
  refine ⟨_, (pss_one (ps_ret (pe_and (pe_callB call_isi (by rfl) T.n_isinstance boot_isinstance (pa_cons (pv 0) (pa_cons (pe_bltn (v := .ty "str") (by rfl) T.n_str boot_str rfl) pa_nil))) (pe_one (pe_callB (cr_all rfl) (by rfl) T.n_all boot_all (pa_cons (pe_lc (own := [("sign", 1)]) rfl c_is_text.nd (pi_str (pv 0)) (blkOk_by (N := ["thing", "sign"]) (sc := defScope s_is_text) (by decide +kernel)) (fun _ _ _ _ _ => (pg_name (i := 1) c_is_text.nd rfl (by first | exact Or.inl rfl | exact Or.inr rfl))) (fun _ _ _ _ _ => pts_nil) (fun _ _ _ _ _ => (pe_chain op_le_str op_le_str pe_str (pv 1) pe_str))) pa_nil)))))), ?_⟩
  obtain ⟨x, Hm, hx, ⟨v, ws, rfl, r, rfl⟩, hi, q⟩ := h
  obtain ⟨t, r2, k⟩ := th_ty r
  have e : isTx x = (x.isSome && ((x.getD []).map lower).all id) := by
    cases x with
    | none => rfl
    | some l => simp [isTx, List.all_map]
  rw [e] at q
  refine s_ret (ev_and (ev_isi (ev_v rfl r2) k) fun hs => ?_) hi q
  cases x with
  | none => cases hs
  | some l =>
    refine ev_cb (ea_cons (ev_lc0 lower (wk_str (ev_v rfl (show rS.rel Hm v l from r))) hx fun c _ u K3 s3 rc => ?_) ea_nil) rc_all
    exact ⟨_, tk_name, rfl, Ev.is (ev_chain ev_s (ev_v rfl (rs_of rc)) ev_s rv_leS rv_leS) (lower_eq c)⟩
/-- is_long_text(least, most, thing) -/
def spIsLong (K : PySem.W.Frag) : Sp := SpF (fun (x : Int × Int × Option (List Nat)) => a1 rI x.1 (a1 rI x.2.1 (a1 (rTh K) x.2.2 a0))) (fun x => okTh x.2.2) (fun _ => rB)
  (fun x => isTx x.2.2 && (decide (x.1 ≤ ((x.2.2.getD []).length : Int)) && decide (((x.2.2.getD []).length : Int) ≤ x.2.1)))
theorem ok_is_long_text (T : Tx K mg) : Fk P w K mg base CX0 2 (He.ga K "is_long_text") ["least", "most", "thing"] (spIsLong K) := by
  refine k0_is_long_text T (spf_len fun _ => a1_len (a1_len (a1_len a0_len))) (fun cdv A outer s H vs Q E hr h => ?_)
  refine ⟨_, (pss_one (ps_ret (pe_and (pe_fk (ok_is_text T) (hr.mono (by decide)) T.g_is_text pass0 (pa_cons (pv 2) pa_nil)) (pe_one (pe_chain op_le op_le (pv 0) (pe_callB call_len (by rfl) T.n_len boot_len (pa_cons (pv 2) pa_nil)) (pv 1)))))), ?_⟩
  obtain ⟨x, Hm, hx, ⟨v1, ws, rfl, r1, v2, ws2, rfl, r2, v3, ws3, rfl, r3, rfl⟩, hi, q⟩ := h
  refine s_ret (ev_and (ev_call (x := x.2.2) hx (ea_cons (ev_v rfl r3) ea_nil)) fun hs => ?_) hi q
  obtain ⟨a, b, o⟩ := x
  cases o with
  | none => cases hs
  | some l => exact ev_chain (ev_v rfl r1) (ev_cb (ea_cons (ev_v rfl (show rS.rel Hm v3 l from r3)) ea_nil) (rc_lenS hx)) (ev_v rfl r2) rv_b0 rv_b0
/-- is_letter(thing) -/
def spIsLetter (K : PySem.W.Frag) : Sp := SpF (fun (x : Option (List Nat)) => a1 (rTh K) x a0) okTh (fun _ => rB) (fun x => isTx x && (decide ((1 : Int) ≤ ((x.getD []).length : Int)) && decide (((x.getD []).length : Int) ≤ 1)))
theorem ok_is_letter (T : Tx K mg) : Fk P w K mg base CX0 3 (He.ga K "is_letter") ["thing"] (spIsLetter K) := by
  refine k0_is_letter T (spf_len fun _ => a1_len a0_len) (fun cdv A outer s H vs Q E hr h => ?_)
  refine ⟨_, (pss_one (ps_ret (pe_fk (ok_is_long_text T) (hr.mono (by decide)) T.g_is_long_text pass0 (pa_cons pe_int (pa_cons pe_int (pa_cons (pv 0) pa_nil)))))), ?_⟩
  obtain ⟨x, Hm, hx, ⟨v1, ws, rfl, r1, rfl⟩, hi, q⟩ := h
  exact s_ret (ev_call (x := ((1 : Int), (1 : Int), x)) hx (ea_cons ev_i (ea_cons ev_i (ea_cons (ev_v rfl r1) ea_nil)))) hi q
/-- isinstance(x, (c, ..)) -/
def rTX (R : Rp α) : Rp (List α) := ⟨fun H v xs => ∃ a vs, v = .ref a ∧ H a = some (.tup vs) ∧ Paired (R.rel H) vs xs, fun s ⟨a, vs, e, h, p⟩ => ⟨a, vs, e, s _ _ h, paired_mono R s p⟩⟩
theorem ev_tupX {σ : L2.St} {Hm : Hp} {R : Rp α} {t : TA} {ds : List α} (h : Ea t σ Hm (aL R ds)) (hn : ds.length ≤ 16000000) : Ev (tTup t) σ Hm (rTX R) ds := fun H1 hi Q q => h H1 hi _ fun vs K2 H2 x2 r => by
  have hp := aL_rel r
  have hl := paired_len hp
  refine ⟨by rw [sizeLine_eq]; omega, fun p np => q (.ref p) _ _ (xt_ref x2 np) ⟨p, vs, rfl, upd_same, paired_mono R (Xt.new x2.i np).s hp⟩⟩
theorem clsv_ty : ∀ {H : Hp} {vs : List V} {ns : List String}, Paired (rV.rel H) vs (ns.map V.ty) → Paired ClsV vs (ns.map Value.type)
  | _, _, [], h => by
    cases h
    exact .nil
  | H, _, n :: ns, h => by
    cases h with
    | cons a b =>
      rw [show _ = V.ty n from a]
      exact .cons (.ty n) (clsv_ty b)
theorem rc_isiT {t : Value} {ns : List String} {b : Bool} (h : PySem.W.kitAny K t (ns.map Value.type) = some b) : Rc (rIsiT K) (a1 (rTy K) t (a1 (rTX rV) (ns.map V.ty) a0)) rB b := rc_now fun Hm H1 hi vs ⟨v, ws, e1, e2, v2, ws2, e3, ⟨tp, us, e4, hT, hP⟩, e5⟩ => ⟨.bl b, rfl, fun Q q => ⟨v, tp, us, t, ns.map Value.type, b, by rw [e1, e3, show ws2 = [] from e5, e4], hi _ _ hT, clsv_ty hP, tyx_mono hi e2, h, q⟩⟩
/-- is_row(thing) -/
def spIsRow (K : PySem.W.Frag) : Sp := SpF (fun (x : Value × Bool) => a1 (rTy K) x.1 a0) (fun x => PySem.W.kitAny K x.1 [.type "list", .type "tuple"] = some x.2) (fun _ => rB) (fun x => x.2)
theorem ok_is_row (T : Tx K mg) : Fk P w K mg base CX0 1 (He.ga K "is_row") ["thing"] (spIsRow K) := by
  refine k0_is_row T (spf_len fun _ => a1_len a0_len) (fun cdv A outer s H vs Q E hr h => ?_)
  refine ⟨_, (pss_one (ps_ret (pe_callB call_isiT (by rfl) T.n_isinstance boot_isinstance (pa_cons (pv 0) (pa_cons (pe_tup (pa_cons (pe_bltn (v := .ty "list") (by rfl) T.n_list boot_list rfl) (pa_cons (pe_bltn (v := .ty "tuple") (by rfl) T.n_tuple boot_tuple rfl) pa_nil))) pa_nil))))), ?_⟩
  obtain ⟨x, Hm, hx, ⟨v, ws, rfl, r, rfl⟩, hi, q⟩ := h
  exact s_ret (ev_cb (ea_cons (ev_v rfl r) (ea_cons (ev_tupX (ds := ["list", "tuple"].map V.ty) (ea_cons ev_ty (ea_cons ev_ty ea_nil)) (by decide)) ea_nil)) (rc_isiT (ns := ["list", "tuple"]) hx)) hi q
end
end NJ

set_option Elab.async false
set_option linter.all false
set_option maxRecDepth 100000
set_option maxHeartbeats 4000000
namespace NJ
open PySem PySem.Spec PyProof.Rows L2
theorem hu100 {A : Around} {k : Nat} (hr : Room k A) : A.units + 100 < cLine := by
  have := hr.un
  omega
section
variable {P : Program} {w : World} {K : PySem.W.Frag} {mg : Str → Option Value} {base : Heap}
/-- small texts -/
def okL (xs : List T8) : Prop := xs.length ≤ 1000 ∧ ∀ x ∈ xs, x.length ≤ 1000
theorem okL.big {xs : List T8} (h : okL xs) : xs.length ≤ 16000000 := by
  have := h.1
  omega
theorem okL.at {xs : List T8} (h : okL xs) {x : T8} (hx : x ∈ xs) : x.length ≤ 16000000 := by
  have := h.2 x hx
  omega
theorem okL.sd {xs : List T8} (h : okL xs) : okL (sd xs) := ⟨Nat.le_trans sd_len h.1, fun x hx => h.2 x (mem_sd.mp hx)⟩
theorem okL.rev {xs : List T8} (h : okL xs) : okL (srtT (xs.map List.reverse)) := ⟨by rw [(srtT_perm _).length_eq, List.length_map]; exact h.1, fun x hx => by
  obtain ⟨z, hz, rfl⟩ := List.mem_map.mp ((srtT_perm _).mem_iff.mp hx)
  rw [List.length_reverse]
  exact h.2 z hz⟩
/-- beginning_texts(listed) -/
def spBegin (K : PySem.W.Frag) : Sp := SpF (fun (xs : List T8) => a1 (rL K rS) xs a0) okL (fun _ => rD) begF
theorem ok_beginning_texts (T : Tx K mg) : Fk P w K mg base CX0 1 (He.ga K "beginning_texts") ["listed"] (spBegin K) := by
  refine k0_beginning_texts T (spf_len fun _ => a1_len a0_len) (fun cdv A outer s H vs Q E hr h => ?_)
  refine ⟨_, (pss_one (ps_ret (pe_dc (g := gTup K 2 (gCons (gName 1) (gCons (gName 2) gNil))) (own := [("one", 1), ("other", 2)]) rfl c_beginning_texts.nd (pi_zip (by rfl) T.n_zip (pa_cons (pv 0) (pa_cons (pe_slice sl_list (pv 0) (po_some pe_int) po_none) pa_nil))) (blkOk_by (N := ["listed", "one", "other"]) (sc := defScope s_beginning_texts) (by decide +kernel)) (fun _ _ _ _ _ => (pg_tup rfl (pgs_cons (pg_name (i := 1) c_beginning_texts.nd rfl (by first | exact Or.inl rfl | exact Or.inr rfl)) (pgs_cons (pg_name (i := 2) c_beginning_texts.nd rfl (by first | exact Or.inl rfl | exact Or.inr rfl)) pgs_nil)))) (fun _ _ _ _ _ => (pts_one (pt_val (pe_m1 PySem.F.slot_str_startswith PySem.F.type_str_startswith mt_startswith (pv 2) (pv 1))))) (fun _ _ _ _ _ => (pv 1)) (fun _ _ _ _ _ => pe_bl)))), ?_⟩
  obtain ⟨xs, Hm, ok, ⟨v, ws, rfl, r, rfl⟩, hi, q⟩ := h
  refine s_ret (Ev.is (ev_dcT (xs := xs.zip (xs.drop 1)) (S := rB) (e0 := true) (fun p => p.1.isPrefixOf p.2) (·.1) (wk_zip (R := rS) (S := rS) (ea_cons (ev_v rfl r) (ea_cons (Ev.is (ev_slL (ev_v rfl r) (eo_some ev_i) eo_none) (cut_drop xs 1)) ea_nil))) (by rw [List.length_zip]; exact Nat.le_trans (Nat.min_le_left _ _) ok.big) fun p hp v K3 s3 r3 => ?_) rfl) hi q
  obtain ⟨x, y, r1, r2, tk⟩ := tk_pair (σ := wipe _ _) (i := 1) (j := 2) r3
  exact ⟨_, tk, rfl, et_test (ev_starts (ev_v rfl r2) (ev_v rfl r1)), fun _ => ⟨ev_v rfl r1, ev_b⟩⟩
end
end NJ

set_option Elab.async false
set_option linter.all false
set_option maxRecDepth 100000
set_option maxHeartbeats 4000000
namespace NJ
open PySem PySem.Spec PyProof.Rows L2
section
variable {P : Program} {w : World} {K : PySem.W.Frag} {mg : Str → Option Value} {base : Heap}
section
variable {σ : L2.St} {Hm : Hp} {α β : Type} {R : Rp α} {te : TE} {d : α}
theorem ev_some (h : Ev te σ Hm R d) : Ev te σ Hm (rO R) (some d) := h
theorem ev_none (h : Ev te σ Hm rN ()) : Ev te σ Hm (rO R) none := h
end
/-- a list | a tuple of texts -/
def aTs (K : PySem.W.Frag) (b : Bool) (xs : List T8) : Ar := match b with
  | true => a1 (rT K rS) xs a0
  | false => a1 (rL K rS) xs a0
def spLc (K : PySem.W.Frag) : Sp := SpF (fun (x : Bool × List T8) => aTs K x.1 x.2) (fun x => okL x.2) (fun _ => rO (rP K rS rS)) (fun x => lcF x.2)
theorem aTs_len (b : Bool) (xs : List T8) : ∀ H vs, (aTs K b xs).rel H vs → vs.length = 1 := by
  cases b
  · exact a1_len a0_len
  · exact a1_len a0_len
theorem ok_least_clash (T : Tx K mg) : Fk P w K mg base CX0 2 (He.ga K "least_clash") ["texts"] (spLc K) := by
  refine k0_least_clash T (spf_len fun _ => aTs_len _ _) (fun cdv A outer s H vs Q E hr h => ?_)
  obtain ⟨⟨b, xs⟩, Hm, ok, a, hi, q⟩ := h
  dsimp only at ok a q
  cases b with
  | false =>
    obtain ⟨v, ws, rfl, r, rfl⟩ := a
    refine ⟨_, (pss_cons (ps_set (i := 1) c_least_clash.nd rfl (by first | exact Or.inl rfl | exact Or.inr rfl) (pe_callB (cr_sortSet rfl (hu100 hr)) (by rfl) T.n_sorted boot_sorted (pa_cons (pe_callTy (cr_setL rfl) (by rfl) T.n_set boot_set (pa_cons (pv 0) pa_nil)) pa_nil)))
  (pss_cons (ps_set (i := 2) c_least_clash.nd rfl (by first | exact Or.inl rfl | exact Or.inr rfl) (pe_fk (ok_beginning_texts T) (hr.mono (by decide)) T.g_beginning_texts pass0 (pa_cons (pv 1) pa_nil)))
  (pss_cons (ps_set (i := 3) c_least_clash.nd rfl (by first | exact Or.inl rfl | exact Or.inr rfl) (pe_fk (ok_beginning_texts T) (hr.mono (by decide)) T.g_beginning_texts pass0 (pa_cons (pe_callB (cr_sortD (hu100 hr)) (by rfl) T.n_sorted boot_sorted (pa_cons (pe_lc (own := [("text", 7)]) rfl c_least_clash.nd (pi_list (pv 1)) (blkOk_by (N := ["texts", "listed", "beginning", "ending", "clashing", "one", "others", "text"]) (sc := defScope s_least_clash) (by decide +kernel)) (fun _ _ _ _ _ => (pg_name (i := 7) c_least_clash.nd rfl (by first | exact Or.inl rfl | exact Or.inr rfl))) (fun _ _ _ _ _ => pts_nil) (fun _ _ _ _ _ => (pe_revS (pv 7)))) pa_nil)) pa_nil)))
  (pss_cons (ps_setLc (i := 4) (own := [("text", 7)]) rfl c_least_clash.nd rfl (by rfl) (sw_true rfl rfl rfl (by decide +kernel)) (pi_list (pv 1)) (blkOk_by (N := ["texts", "listed", "beginning", "ending", "clashing", "one", "others", "text"]) (sc := defScope s_least_clash) (by decide +kernel)) (fun _ _ _ _ _ => (pg_name (i := 7) c_least_clash.nd rfl (by first | exact Or.inl rfl | exact Or.inr rfl))) (fun _ _ _ _ _ => (pts_one (PW.pt (pw_or (pt_cmp (pc_din (hu_of hr) (pv 7) (pv 2))) (pw_or1 (pt_cmp (pc_din (hu_of hr) (pe_revS (pv 7)) (pv 3)))))))) (fun _ _ _ _ _ => (pv 7)))
  (pss_cons (ps_if (pt_not (pt_truth (pv 4) (fun _ => rfl))) (pss_one (ps_ret pe_non)) pss_nil)
  (pss_cons (ps_set (i := 5) c_least_clash.nd rfl (by first | exact Or.inl rfl | exact Or.inr rfl) (pe_ix ix_list (pv 4) pe_int (fun _ _ => rfl)))
  (pss_cons (ps_setLc (i := 6) (own := [("text", 7)]) rfl c_least_clash.nd rfl (by rfl) (sw_true rfl rfl rfl (by decide +kernel)) (pi_list (pv 1)) (blkOk_by (N := ["texts", "listed", "beginning", "ending", "clashing", "one", "others", "text"]) (sc := defScope s_least_clash) (by decide +kernel)) (fun _ _ _ _ _ => (pg_name (i := 7) c_least_clash.nd rfl (by first | exact Or.inl rfl | exact Or.inr rfl))) (fun _ _ _ _ _ => (pts_one (PW.pt (pw_and (pt_cmpR op_ne (pv 7) (pv 5) (nomark _)) (pw_and1 (PW.pt (pw_or (pt_val (pe_m1 PySem.F.slot_str_startswith PySem.F.type_str_startswith mt_startswith (pv 7) (pv 5))) (pw_or1 (pt_val (pe_m1 PySem.F.slot_str_endswith PySem.F.type_str_endswith mt_endswith (pv 7) (pv 5))))))))))) (fun _ _ _ _ _ => (pv 7)))
  (pss_one (ps_ret (pe_tup (pa_cons (pv 5) (pa_cons (pe_ix ix_list (pv 6) pe_int (fun _ _ => rfl)) pa_nil)))))))))))), ?_⟩
    refine q_set (ev_ssetL (ev_v rfl r) ok.1) hi fun v1 K1 H1 x1 r1 => ?_
    refine q_set (ev_call (x := sd xs) ok.sd (ea_cons (ev_v rfl r1) ea_nil)) x1.i fun v2 K2 H2 x2 r2 => ?_
    have r1a := (rL K rS).mono x2.s r1
    refine q_set (ev_call (x := srtT ((sd xs).map List.reverse)) ok.sd.rev (ea_cons (ev_cb (ea_cons (ev_lc0 (S := rS) List.reverse (wk_list (ev_v rfl r1a)) ok.sd.big fun c hc u K3 s3 rc => ⟨_, tk_name, rfl, ev_revS (ev_v rfl rc) (ok.sd.at hc)⟩) ea_nil) (rc_sortS (by rw [List.length_map]; exact ok.sd.big))) ea_nil)) x2.i fun v3 K3 H3 x3 r3 => ?_
    have r1b := (rL K rS).mono x3.s r1a
    have r2b := rD.mono x3.s r2
    refine q_set (ev_lc (K := K) (S := rS) (fun t => decide (t ∈ begF (sd xs)) || decide (t.reverse ∈ begF (srtT ((sd xs).map List.reverse)))) id (wk_list (ev_v rfl r1b)) ok.sd.big fun c hc u K4 s4 rc => ⟨_, tk_name, rfl, et_or (et_B (ev_din (ev_v rfl rc) (ev_v rfl (rD.mono s4 r2b)))) fun _ => et_B (ev_din (ev_revS (ev_v rfl rc) (ok.sd.at hc)) (ev_v rfl (rD.mono s4 r3))), fun _ => ev_v rfl rc⟩) x3.i fun v4 K4 H4 x4 r4 => ?_
    rw [List.map_id] at r4
    have r4a : (rL K rS).rel K4 v4 (clashing xs) := r4
    have r1c := (rL K rS).mono x4.s r1b
    have xx := ((x1.trans x2).trans x3).trans x4
    refine q_when (et_not (et_truthL (ev_v rfl r4a))) x4.i (fun hb K5 H5 x5 => ?_) (fun hb K5 H5 x5 => ?_)
    · have e : clashing xs = [] := by
        cases z : clashing xs with
        | nil => rfl
        | cons a b =>
          rw [z] at hb
          cases hb
      have e2 : lcF xs = none := by
        unfold lcF
        rw [e]
      rw [e2] at q
      exact s_ret (ev_none ev_n) x5.i fun v K6 H6 x6 r6 => q v K6 H6 ((xx.trans x5).trans x6) r6
    · obtain ⟨one, rest, e⟩ : ∃ one rest, clashing xs = one :: rest := by
        cases z : clashing xs with
        | nil =>
          rw [z] at hb
          cases hb
        | cons a b => exact ⟨a, b, rfl⟩
      have e1 : one ∈ clashing xs := by rw [e]; exact List.mem_cons_self
      have e2 := others_some e1
      obtain ⟨o, os, eo⟩ : ∃ o os, others xs one = o :: os := by
        cases z : others xs one with
        | nil => exact absurd z e2
        | cons a b => exact ⟨a, b, rfl⟩
      have e3 : lcF xs = some (one, o) := by
        unfold lcF
        rw [e]
        dsimp only
        rw [eo] <;> rfl
      rw [e3] at q
      refine q_set (ev_op (ev_v rfl ((rL K rS).mono x5.s r4a)) ev_i (rv_ixL (j := 0) rfl (by rw [e] <;> rfl))) x5.i fun v6 K6 H6 x6 r6 => ?_
      have r1d := (rL K rS).mono (x5.trans x6).s r1c
      have r6a : rS.rel K6 v6 one := r6
      refine q_set (ev_lc (K := K) (S := rS) (fun t => (!decide (t = one)) && (one.isPrefixOf t || one.isSuffixOf t)) id (wk_list (ev_v rfl r1d)) ok.sd.big fun c hc u K7 s7 rc => ⟨_, tk_name, rfl, et_and (et_test (ev_op (ev_v rfl rc) (ev_v rfl (rS.mono s7 r6a)) rv_neS)) fun _ => et_or (et_test (ev_starts (ev_v rfl rc) (ev_v rfl (rS.mono s7 r6a)))) fun _ => et_test (ev_ends (ev_v rfl rc) (ev_v rfl (rS.mono s7 r6a))), fun _ => ev_v rfl rc⟩) x6.i fun v7 K7 H7 x7 r7 => ?_
      rw [List.map_id] at r7
      have r7a : (rL K rS).rel K7 v7 (others xs one) := r7
      exact s_ret (ev_some (ev_pair (ea_cons (ev_v rfl (rS.mono x7.s r6a)) (ea_cons (ev_op (ev_v rfl r7a) ev_i (rv_ixL (j := 0) rfl (by rw [eo] <;> rfl))) ea_nil)))) x7.i fun v K8 H8 x8 r8 => q v K8 H8 ((((xx.trans x5).trans x6).trans x7).trans x8) r8
  | true =>
    obtain ⟨v, ws, rfl, r, rfl⟩ := a
    refine ⟨_, (pss_cons (ps_set (i := 1) c_least_clash.nd rfl (by first | exact Or.inl rfl | exact Or.inr rfl) (pe_callB (cr_sortSet rfl (hu100 hr)) (by rfl) T.n_sorted boot_sorted (pa_cons (pe_callTy (cr_setT rfl) (by rfl) T.n_set boot_set (pa_cons (pv 0) pa_nil)) pa_nil)))
  (pss_cons (ps_set (i := 2) c_least_clash.nd rfl (by first | exact Or.inl rfl | exact Or.inr rfl) (pe_fk (ok_beginning_texts T) (hr.mono (by decide)) T.g_beginning_texts pass0 (pa_cons (pv 1) pa_nil)))
  (pss_cons (ps_set (i := 3) c_least_clash.nd rfl (by first | exact Or.inl rfl | exact Or.inr rfl) (pe_fk (ok_beginning_texts T) (hr.mono (by decide)) T.g_beginning_texts pass0 (pa_cons (pe_callB (cr_sortD (hu100 hr)) (by rfl) T.n_sorted boot_sorted (pa_cons (pe_lc (own := [("text", 7)]) rfl c_least_clash.nd (pi_list (pv 1)) (blkOk_by (N := ["texts", "listed", "beginning", "ending", "clashing", "one", "others", "text"]) (sc := defScope s_least_clash) (by decide +kernel)) (fun _ _ _ _ _ => (pg_name (i := 7) c_least_clash.nd rfl (by first | exact Or.inl rfl | exact Or.inr rfl))) (fun _ _ _ _ _ => pts_nil) (fun _ _ _ _ _ => (pe_revS (pv 7)))) pa_nil)) pa_nil)))
  (pss_cons (ps_setLc (i := 4) (own := [("text", 7)]) rfl c_least_clash.nd rfl (by rfl) (sw_true rfl rfl rfl (by decide +kernel)) (pi_list (pv 1)) (blkOk_by (N := ["texts", "listed", "beginning", "ending", "clashing", "one", "others", "text"]) (sc := defScope s_least_clash) (by decide +kernel)) (fun _ _ _ _ _ => (pg_name (i := 7) c_least_clash.nd rfl (by first | exact Or.inl rfl | exact Or.inr rfl))) (fun _ _ _ _ _ => (pts_one (PW.pt (pw_or (pt_cmp (pc_din (hu_of hr) (pv 7) (pv 2))) (pw_or1 (pt_cmp (pc_din (hu_of hr) (pe_revS (pv 7)) (pv 3)))))))) (fun _ _ _ _ _ => (pv 7)))
  (pss_cons (ps_if (pt_not (pt_truth (pv 4) (fun _ => rfl))) (pss_one (ps_ret pe_non)) pss_nil)
  (pss_cons (ps_set (i := 5) c_least_clash.nd rfl (by first | exact Or.inl rfl | exact Or.inr rfl) (pe_ix ix_list (pv 4) pe_int (fun _ _ => rfl)))
  (pss_cons (ps_setLc (i := 6) (own := [("text", 7)]) rfl c_least_clash.nd rfl (by rfl) (sw_true rfl rfl rfl (by decide +kernel)) (pi_list (pv 1)) (blkOk_by (N := ["texts", "listed", "beginning", "ending", "clashing", "one", "others", "text"]) (sc := defScope s_least_clash) (by decide +kernel)) (fun _ _ _ _ _ => (pg_name (i := 7) c_least_clash.nd rfl (by first | exact Or.inl rfl | exact Or.inr rfl))) (fun _ _ _ _ _ => (pts_one (PW.pt (pw_and (pt_cmpR op_ne (pv 7) (pv 5) (nomark _)) (pw_and1 (PW.pt (pw_or (pt_val (pe_m1 PySem.F.slot_str_startswith PySem.F.type_str_startswith mt_startswith (pv 7) (pv 5))) (pw_or1 (pt_val (pe_m1 PySem.F.slot_str_endswith PySem.F.type_str_endswith mt_endswith (pv 7) (pv 5))))))))))) (fun _ _ _ _ _ => (pv 7)))
  (pss_one (ps_ret (pe_tup (pa_cons (pv 5) (pa_cons (pe_ix ix_list (pv 6) pe_int (fun _ _ => rfl)) pa_nil)))))))))))), ?_⟩
    refine q_set (ev_ssetT (ev_v rfl r) ok.1) hi fun v1 K1 H1 x1 r1 => ?_
    refine q_set (ev_call (x := sd xs) ok.sd (ea_cons (ev_v rfl r1) ea_nil)) x1.i fun v2 K2 H2 x2 r2 => ?_
    have r1a := (rL K rS).mono x2.s r1
    refine q_set (ev_call (x := srtT ((sd xs).map List.reverse)) ok.sd.rev (ea_cons (ev_cb (ea_cons (ev_lc0 (S := rS) List.reverse (wk_list (ev_v rfl r1a)) ok.sd.big fun c hc u K3 s3 rc => ⟨_, tk_name, rfl, ev_revS (ev_v rfl rc) (ok.sd.at hc)⟩) ea_nil) (rc_sortS (by rw [List.length_map]; exact ok.sd.big))) ea_nil)) x2.i fun v3 K3 H3 x3 r3 => ?_
    have r1b := (rL K rS).mono x3.s r1a
    have r2b := rD.mono x3.s r2
    refine q_set (ev_lc (K := K) (S := rS) (fun t => decide (t ∈ begF (sd xs)) || decide (t.reverse ∈ begF (srtT ((sd xs).map List.reverse)))) id (wk_list (ev_v rfl r1b)) ok.sd.big fun c hc u K4 s4 rc => ⟨_, tk_name, rfl, et_or (et_B (ev_din (ev_v rfl rc) (ev_v rfl (rD.mono s4 r2b)))) fun _ => et_B (ev_din (ev_revS (ev_v rfl rc) (ok.sd.at hc)) (ev_v rfl (rD.mono s4 r3))), fun _ => ev_v rfl rc⟩) x3.i fun v4 K4 H4 x4 r4 => ?_
    rw [List.map_id] at r4
    have r4a : (rL K rS).rel K4 v4 (clashing xs) := r4
    have r1c := (rL K rS).mono x4.s r1b
    have xx := ((x1.trans x2).trans x3).trans x4
    refine q_when (et_not (et_truthL (ev_v rfl r4a))) x4.i (fun hb K5 H5 x5 => ?_) (fun hb K5 H5 x5 => ?_)
    · have e : clashing xs = [] := by
        cases z : clashing xs with
        | nil => rfl
        | cons a b =>
          rw [z] at hb
          cases hb
      have e2 : lcF xs = none := by
        unfold lcF
        rw [e]
      rw [e2] at q
      exact s_ret (ev_none ev_n) x5.i fun v K6 H6 x6 r6 => q v K6 H6 ((xx.trans x5).trans x6) r6
    · obtain ⟨one, rest, e⟩ : ∃ one rest, clashing xs = one :: rest := by
        cases z : clashing xs with
        | nil =>
          rw [z] at hb
          cases hb
        | cons a b => exact ⟨a, b, rfl⟩
      have e1 : one ∈ clashing xs := by rw [e]; exact List.mem_cons_self
      have e2 := others_some e1
      obtain ⟨o, os, eo⟩ : ∃ o os, others xs one = o :: os := by
        cases z : others xs one with
        | nil => exact absurd z e2
        | cons a b => exact ⟨a, b, rfl⟩
      have e3 : lcF xs = some (one, o) := by
        unfold lcF
        rw [e]
        dsimp only
        rw [eo] <;> rfl
      rw [e3] at q
      refine q_set (ev_op (ev_v rfl ((rL K rS).mono x5.s r4a)) ev_i (rv_ixL (j := 0) rfl (by rw [e] <;> rfl))) x5.i fun v6 K6 H6 x6 r6 => ?_
      have r1d := (rL K rS).mono (x5.trans x6).s r1c
      have r6a : rS.rel K6 v6 one := r6
      refine q_set (ev_lc (K := K) (S := rS) (fun t => (!decide (t = one)) && (one.isPrefixOf t || one.isSuffixOf t)) id (wk_list (ev_v rfl r1d)) ok.sd.big fun c hc u K7 s7 rc => ⟨_, tk_name, rfl, et_and (et_test (ev_op (ev_v rfl rc) (ev_v rfl (rS.mono s7 r6a)) rv_neS)) fun _ => et_or (et_test (ev_starts (ev_v rfl rc) (ev_v rfl (rS.mono s7 r6a)))) fun _ => et_test (ev_ends (ev_v rfl rc) (ev_v rfl (rS.mono s7 r6a))), fun _ => ev_v rfl rc⟩) x6.i fun v7 K7 H7 x7 r7 => ?_
      rw [List.map_id] at r7
      have r7a : (rL K rS).rel K7 v7 (others xs one) := r7
      exact s_ret (ev_some (ev_pair (ea_cons (ev_v rfl (rS.mono x7.s r6a)) (ea_cons (ev_op (ev_v rfl r7a) ev_i (rv_ixL (j := 0) rfl (by rw [eo] <;> rfl))) ea_nil)))) x7.i fun v K8 H8 x8 r8 => q v K8 H8 ((((xx.trans x5).trans x6).trans x7).trans x8) r8
end
end NJ

set_option Elab.async false
set_option linter.all false
set_option maxRecDepth 100000
set_option maxHeartbeats 4000000
namespace NJ
open PySem PySem.Spec PyProof.Rows L2
section
variable {P : Program} {w : World} {K : PySem.W.Frag} {mg : Str → Option Value} {base : Heap}
/-- JoinError.__init__ -/
theorem ok_join_init (T : Tx K mg) : Fk P w K mg base CX0 1 (He.ma K (He.ga K "JoinError") "__init__") ["self"] spPass := by
  refine k0_JoinError__init_ T (fun vs H Q E ⟨v, e, _⟩ => by rw [e] <;> rfl) (fun cdv A outer s H vs Q E hr h => ?_)
  refine ⟨_, (pss_one ps_pass), ?_⟩
  obtain ⟨v, rfl, q⟩ := h
  exact q
/-- what clash is asked -/
inductive Th | row (b : Bool) (xs : List (Option T8)) | oth (t : Value)
def aTh (K : PySem.W.Frag) : Th → Ar
  | .row true xs => a1 (rT K (rTh K)) xs a0
  | .row false xs => a1 (rL K (rTh K)) xs a0
  | .oth t => a1 (rTy K) t a0
def okW (K : PySem.W.Frag) : Th → Prop
  | .row _ xs => xs.length ≤ 1000 ∧ ∀ o ∈ xs, (o.getD []).length ≤ 1000
  | .oth t => PySem.W.kitAny K t [.type "list", .type "tuple"] = some false
def good (o : Option T8) : Bool := isTx o && !decide (o.getD [] = [])
def ansF : Th → Option (Option (T8 × T8))
  | .row _ xs => if (xs.map good).all id = true then some (lcF (xs.map (·.getD []))) else none
  | .oth _ => none
def spClash (K : PySem.W.Frag) : Sp := fun vs H Q E => ∃ (x : Th) (Hm : Hp), okW K x ∧ (aTh K x).rel Hm vs ∧ Same Hm H ∧
  match ansF x with
  | some r => ∀ v Hm' H2, Xt Hm H Hm' H2 → (rO (rP K rS rS)).rel Hm' v r → Q v H2
  | none => ∀ Hm' H2, Xt Hm H Hm' H2 → E (.ref (He.ga K "NoTexts")) none H2
theorem aTh_len : ∀ (x : Th) H vs, (aTh K x).rel H vs → vs.length = 1
  | .row true _ => a1_len a0_len
  | .row false _ => a1_len a0_len
  | .oth _ => a1_len a0_len
theorem ty_lst {H : Hp} {a : Addr} {xs : List V} (h : SqL K H a xs) : TyX K H (.ref a) (.type "list") := by
  rcases h with (h | ⟨o, h⟩) | h
  · exact .base (.lst h)
  · exact .base (.frz h)
  · obtain ⟨o, its, n, h1, h2, _⟩ := h
    exact .kList h1 h2
theorem good_some {xs : List (Option T8)} (h : (xs.map good).all id = true) : ∀ o ∈ xs, ∃ l, o = some l := fun o ho => by
  have := List.all_eq_true.mp h (good o) (List.mem_map_of_mem ho)
  cases o with
  | none => cases this
  | some l => exact ⟨l, rfl⟩
theorem paired_th {H : Hp} : ∀ {vs : List V} {xs : List (Option T8)}, Paired ((rTh K).rel H) vs xs → (∀ o ∈ xs, ∃ l, o = some l) → Paired (rS.rel H) vs (xs.map (·.getD []))
  | _, _, .nil, _ => .nil
  | _, _, .cons (b := o) a r, h => by
    obtain ⟨l, rfl⟩ := h o List.mem_cons_self
    exact .cons a (paired_th r fun p hp => h p (List.mem_cons_of_mem _ hp))
theorem th_text {σ : L2.St} {Hm : Hp} {te : TE} {o : Option T8} (h : Ev te σ Hm (rTh K) o) (hs : isTx o = true) : Ev te σ Hm rS (o.getD []) := by
  cases o with
  | none => cases hs
  | some l => exact h
theorem s_when {σ : L2.St} {Hm : Hp} {D : Ends} {t : TT} {t1 tz : TS} {H : Hp} {b : Bool} (h : Et t σ Hm b) (hi : Same Hm H) (h1 : b = true → ∀ K1 H1, Xt Hm H K1 H1 → t1 { D with nx := tz D } σ H1) (h2 : b = false → ∀ K1 H1, Xt Hm H K1 H1 → tz D σ H1) : tSeq (tIfS t t1 tNext) tz D σ H := q_when h hi h1 h2
theorem rl_conv {Hm : Hp} {v : V} {xs : List (Option T8)} (r : (rL K (rTh K)).rel Hm v xs) (h : ∀ o ∈ xs, ∃ l, o = some l) : (rL K rS).rel Hm v (xs.map (·.getD [])) := by
  obtain ⟨a, vs, e, hS, hP⟩ := r
  exact ⟨a, vs, e, hS, paired_th hP h⟩
theorem rt_conv {Hm : Hp} {v : V} {xs : List (Option T8)} (r : (rT K (rTh K)).rel Hm v xs) (h : ∀ o ∈ xs, ∃ l, o = some l) : (rT K rS).rel Hm v (xs.map (·.getD [])) := by
  obtain ⟨a, vs, e, hS, hP⟩ := r
  exact ⟨a, vs, e, hS, paired_th hP h⟩
theorem ty_rl {α : Type} {R : Rp α} {Hm : Hp} {v : V} {xs : List α} (r : (rL K R).rel Hm v xs) : (rTy K).rel Hm v (.type "list") := by
  obtain ⟨a, vs, e, hS, hP⟩ := r
  rw [e]
  exact ty_lst hS
theorem ty_tup {H : Hp} {a : Addr} {xs : List V} (h : SqT K H a xs) : TyX K H (.ref a) (.type "tuple") := by
  rcases h with (h | ⟨o, h⟩) | h
  · exact .base (.tup h)
  · exact .fTuple h
  · obtain ⟨o, its, n, h1, h2, _⟩ := h
    exact .kTuple h1 h2
theorem ty_rt {α : Type} {R : Rp α} {Hm : Hp} {v : V} {xs : List α} (r : (rT K R).rel Hm v xs) : (rTy K).rel Hm v (.type "tuple") := by
  obtain ⟨a, vs, e, hS, hP⟩ := r
  rw [e]
  exact ty_tup hS
theorem kit_lst : PySem.W.kitAny K (.type "list") [.type "list", .type "tuple"] = some true := kitAny_cons (b := true) (kit_ty (by decide +kernel)) (fun h => by cases h) (fun _ => rfl)
theorem kit_tup : PySem.W.kitAny K (.type "tuple") [.type "list", .type "tuple"] = some true := kitAny_cons (b := false) (kit_ty (by decide +kernel)) (fun _ => kitAny_cons (b := true) (kit_ty (by decide +kernel)) (fun h => by cases h) (fun _ => rfl)) (fun h => by cases h)
theorem ok_clash (T : Tx K mg) : Fk P w K mg base (L2.CX P w) 3 (He.ga K "clash") ["texts"] (spClash K) := by
  refine k_clash T (fun vs H Q E ⟨x, Hm, _, h, _⟩ => aTh_len x Hm vs h) (fun cdv A outer s H vs Q E hr h => ?_)
  obtain ⟨x, Hm, ok, a, hi, q⟩ := h
  obtain ⟨fdI, F_init, b_init⟩ := (ok_join_init (P := P) (w := w) (base := base) T).ex
  cases x with
  | oth t =>
    obtain ⟨v, ws, rfl, r, rfl⟩ := a
    refine ⟨_, (pss_cons (ps_if (PW.pt (pw_or (pt_not (pt_val (pe_fk (ok_is_row T) (hr.mono (by decide)) T.g_is_row pass0 (pa_cons (pv 0) pa_nil)))) (pw_or1 (pt_not (pt_val (pe_callB (cr_all rfl) (by rfl) T.n_all boot_all (pa_cons (pe_lc (own := [("item", 1)]) rfl c_clash.nd (pi_list (pv 0)) (blkOk_by (N := ["texts", "item"]) (sc := defScope s_clash) (by decide +kernel)) (fun _ _ _ _ _ => (pg_name (i := 1) c_clash.nd rfl (by first | exact Or.inl rfl | exact Or.inr rfl))) (fun _ _ _ _ _ => pts_nil) (fun _ _ _ _ _ => (pe_and (pe_fk (ok_is_text T) (hr.mono (by decide)) T.g_is_text pass0 (pa_cons (pv 1) pa_nil)) (pe_one (pe_cmpR op_ne (pv 1) pe_str (nomark _)))))) pa_nil))))))) (pss_one (ps_raise rfl (takes_of rfl rfl rfl rfl) (pmk_pass (p := _) (pos := _) T.ox_NoTexts T.ih_NoTexts.1 T.ih_NoTexts.2 F_init (hr.mono (by decide)) b_init pass0 (by rfl) T.g_NoTexts))) pss_nil)
  (pss_one (ps_ret (pe_fk (ok_least_clash T) (hr.mono (by decide)) T.g_least_clash pass0 (pa_cons (pv 0) pa_nil))))), ?_⟩
    refine s_when (Et.is (b := !false || true) (et_or (et_not (et_test (ev_call (x := (t, false)) ok (ea_cons (ev_v rfl r) ea_nil)))) fun z => by cases z) rfl) hi (fun hb K1 H1 x1 => q K1 H1 x1) (fun hb => by cases hb)
  | row bb xs =>
    cases bb with
    | false =>
      obtain ⟨v, ws, rfl, r, rfl⟩ := a
      refine ⟨_, (pss_cons (ps_if (PW.pt (pw_or (pt_not (pt_val (pe_fk (ok_is_row T) (hr.mono (by decide)) T.g_is_row pass0 (pa_cons (pv 0) pa_nil)))) (pw_or1 (pt_not (pt_val (pe_callB (cr_all rfl) (by rfl) T.n_all boot_all (pa_cons (pe_lc (own := [("item", 1)]) rfl c_clash.nd (pi_list (pv 0)) (blkOk_by (N := ["texts", "item"]) (sc := defScope s_clash) (by decide +kernel)) (fun _ _ _ _ _ => (pg_name (i := 1) c_clash.nd rfl (by first | exact Or.inl rfl | exact Or.inr rfl))) (fun _ _ _ _ _ => pts_nil) (fun _ _ _ _ _ => (pe_and (pe_fk (ok_is_text T) (hr.mono (by decide)) T.g_is_text pass0 (pa_cons (pv 1) pa_nil)) (pe_one (pe_cmpR op_ne (pv 1) pe_str (nomark _)))))) pa_nil))))))) (pss_one (ps_raise rfl (takes_of rfl rfl rfl rfl) (pmk_pass (p := _) (pos := _) T.ox_NoTexts T.ih_NoTexts.1 T.ih_NoTexts.2 F_init (hr.mono (by decide)) b_init pass0 (by rfl) T.g_NoTexts))) pss_nil)
  (pss_one (ps_ret (pe_fk (ok_least_clash T) (hr.mono (by decide)) T.g_least_clash pass0 (pa_cons (pv 0) pa_nil))))), ?_⟩
      refine s_when (et_or (et_not (et_test (ev_call (x := (Value.type "list", true)) kit_lst (ea_cons (ev_v rfl (ty_rl r)) ea_nil)))) fun _ => et_not (et_test (ev_cb (ea_cons (ev_lc0 (K := K) (S := rB) good (wk_list (ev_v rfl r)) (by have := ok.1; omega) fun o ho u K3 s3 rc => ⟨_, tk_name, rfl, ev_and (ev_call (x := o) (by have := ok.2 o ho; cases o with | none => trivial | some l => exact Nat.le_trans this (by decide)) (ea_cons (ev_v rfl rc) ea_nil)) fun hs => ev_op (th_text (ev_v rfl rc) hs) ev_s rv_neS⟩) ea_nil) rc_all))) hi (fun hb K1 H1 x1 => ?_) (fun hb K1 H1 x1 => ?_)
      · have hb2 : (xs.map good).all id = false := by simpa using hb
        have e : ansF (.row false xs) = none := if_neg (by rw [hb2]; exact Bool.false_ne_true)
        rw [e] at q
        exact q K1 H1 x1
      · have hb2 : (xs.map good).all id = true := by simpa using hb
        have e : ansF (.row false xs) = some (lcF (xs.map (·.getD []))) := if_pos hb2
        rw [e] at q
        refine s_ret (ev_call (x := (false, xs.map (fun (o : Option T8) => o.getD []))) ⟨by rw [List.length_map]; exact ok.1, fun x hx => by
          obtain ⟨o, ho, rfl⟩ := List.mem_map.mp hx
          exact ok.2 o ho⟩ (ea_cons (ev_v rfl (rl_conv ((rL K (rTh K)).mono x1.s r) (good_some hb2))) ea_nil)) x1.i fun v K2 H2 x2 r2 => q v K2 H2 (x1.trans x2) r2
    | true =>
      obtain ⟨v, ws, rfl, r, rfl⟩ := a
      refine ⟨_, (pss_cons (ps_if (PW.pt (pw_or (pt_not (pt_val (pe_fk (ok_is_row T) (hr.mono (by decide)) T.g_is_row pass0 (pa_cons (pv 0) pa_nil)))) (pw_or1 (pt_not (pt_val (pe_callB (cr_all rfl) (by rfl) T.n_all boot_all (pa_cons (pe_lc (own := [("item", 1)]) rfl c_clash.nd (pi_tup (pv 0)) (blkOk_by (N := ["texts", "item"]) (sc := defScope s_clash) (by decide +kernel)) (fun _ _ _ _ _ => (pg_name (i := 1) c_clash.nd rfl (by first | exact Or.inl rfl | exact Or.inr rfl))) (fun _ _ _ _ _ => pts_nil) (fun _ _ _ _ _ => (pe_and (pe_fk (ok_is_text T) (hr.mono (by decide)) T.g_is_text pass0 (pa_cons (pv 1) pa_nil)) (pe_one (pe_cmpR op_ne (pv 1) pe_str (nomark _)))))) pa_nil))))))) (pss_one (ps_raise rfl (takes_of rfl rfl rfl rfl) (pmk_pass (p := _) (pos := _) T.ox_NoTexts T.ih_NoTexts.1 T.ih_NoTexts.2 F_init (hr.mono (by decide)) b_init pass0 (by rfl) T.g_NoTexts))) pss_nil)
  (pss_one (ps_ret (pe_fk (ok_least_clash T) (hr.mono (by decide)) T.g_least_clash pass0 (pa_cons (pv 0) pa_nil))))), ?_⟩
      refine s_when (et_or (et_not (et_test (ev_call (x := (Value.type "tuple", true)) kit_tup (ea_cons (ev_v rfl (ty_rt r)) ea_nil)))) fun _ => et_not (et_test (ev_cb (ea_cons (ev_lc0 (K := K) (S := rB) good (wk_tup (ev_v rfl r)) (by have := ok.1; omega) fun o ho u K3 s3 rc => ⟨_, tk_name, rfl, ev_and (ev_call (x := o) (by have := ok.2 o ho; cases o with | none => trivial | some l => exact Nat.le_trans this (by decide)) (ea_cons (ev_v rfl rc) ea_nil)) fun hs => ev_op (th_text (ev_v rfl rc) hs) ev_s rv_neS⟩) ea_nil) rc_all))) hi (fun hb K1 H1 x1 => ?_) (fun hb K1 H1 x1 => ?_)
      · have hb2 : (xs.map good).all id = false := by simpa using hb
        have e : ansF (.row true xs) = none := if_neg (by rw [hb2]; exact Bool.false_ne_true)
        rw [e] at q
        exact q K1 H1 x1
      · have hb2 : (xs.map good).all id = true := by simpa using hb
        have e : ansF (.row true xs) = some (lcF (xs.map (·.getD []))) := if_pos hb2
        rw [e] at q
        refine s_ret (ev_call (x := (true, xs.map (fun (o : Option T8) => o.getD []))) ⟨by rw [List.length_map]; exact ok.1, fun x hx => by
          obtain ⟨o, ho, rfl⟩ := List.mem_map.mp hx
          exact ok.2 o ho⟩ (ea_cons (ev_v rfl (rt_conv ((rT K (rTh K)).mono x1.s r) (good_some hb2))) ea_nil)) x1.i fun v K2 H2 x2 r2 => q v K2 H2 (x1.trans x2) r2
end
end NJ

set_option Elab.async false
set_option linter.all false
set_option maxRecDepth 100000
set_option maxHeartbeats 4000000
namespace NJ
open PySem PySem.Spec PyProof.Rows L2
section
variable {P : Program} {w : World} {K : PySem.W.Frag} {mg : Str → Option Value} {base : Heap}
theorem s_retL {σ : L2.St} {Hm : Hp} {t : TA} {A : Ar} {D : Ends} {H : Hp} (h : Ea t σ Hm A) (hi : Same Hm H) (k : ∀ vs K1 H1, Xt Hm H K1 H1 → A.rel K1 vs → vs.length ≤ sizeLine ∧ ∀ p, H1 p = none → D.rt (.ref p) (upd H1 p (.lst vs))) : tRet (tLst t) D σ H := h H hi _ k
/-! ### _law_hand -/
def spHand0 (K : PySem.W.Frag) : Sp := fun vs H Q _ => ∃ (ns : List Int) (Hm : Hp), ns.length ≤ 1000 ∧ (a1 (rL K rI) ns a0).rel Hm vs ∧ Same Hm H ∧
  ∀ (cs : List Int) (c a : Addr) (sd : Int) Hm' H2, Xt Hm H Hm' H2 → Hm' c = some (.lst (cs.map V.int)) → H2 a = none → Q (.ref a) (upd H2 a (.lst [.ref c, .int 0, .int 0, .int sd, .int 0]))
def spHand (K : PySem.W.Frag) : Sp := SpF (fun (ns : List Int) => a1 (rL K rI) ns a0) (fun ns => ns.length ≤ 1000) (fun _ => rE rHand fun _ => True) (fun _ => ())
theorem ok_hand0 (T : Tx K mg) : Fk P w K mg base CX0 1 (He.ga K "_law_hand") ["_law_script"] (spHand0 K) := by
  refine k0_law_hand T (fun vs H Q E ⟨ns, Hm, _, h, _⟩ => a1_len a0_len Hm vs h) (fun cdv A outer s H vs Q E hr h => ?_)
  refine ⟨_, (pss_cons (ps_setLc (i := 1) (own := [("_law_cell", 2)]) rfl c_law_hand.nd rfl (by rfl) (sw_true rfl rfl rfl (by decide +kernel)) (pi_list (pe_slice sl_list (pv 0) po_none (po_some pe_int))) (blkOk_by (N := ["_law_script", "_law_cells", "_law_cell"]) (sc := defScope s_law_hand) (by decide +kernel)) (fun _ _ _ _ _ => (pg_name (i := 2) c_law_hand.nd rfl (by first | exact Or.inl rfl | exact Or.inr rfl))) (fun _ _ _ _ _ => pts_nil) (fun _ _ _ _ _ => (pe_callB call_abs (by rfl) T.n_abs boot_abs (pa_cons (pe_callTy call_int1 (by rfl) T.n_int boot_int (pa_cons (pv 2) pa_nil)) pa_nil))))
  (pss_one (ps_ret (pe_lst (pa_cons (pv 1) (pa_cons pe_int (pa_cons pe_int (pa_cons (pe_op op_add pe_int (pe_callB call_len (by rfl) T.n_len boot_len (pa_cons (pv 1) pa_nil))) (pa_cons pe_int pa_nil))))))))), ?_⟩
  obtain ⟨ns, Hm, hz, ⟨v, ws, rfl, r, rfl⟩, hi, q⟩ := h
  refine q_set (ev_lcM (S := rI) (fun i : Int => if i < 0 then -i else i) (wk_list (ev_slL (ev_v rfl r) eo_none (eo_some ev_i))) (by have := cut_len ns none (some 63); omega) fun i hx u K3 s3 rc => ⟨_, tk_name, rfl, ev_cb (ea_cons (ev_cb (ea_cons (ev_v rfl rc) ea_nil) rc_int1) ea_nil) rc_abs⟩) hi fun v1 K1 H1 x1 r1 => ?_
  obtain ⟨c, us, e1, hc, hp⟩ := r1
  subst e1
  have e2 := vints hp
  subst e2
  have rl : (rL K rI).rel K1 (.ref c) _ := rm_l ⟨c, _, rfl, hc, hp⟩
  refine s_retL (ea_cons (ev_v (R := rV) (d := .ref c) rfl rfl) (ea_cons (ev_i (i := 0)) (ea_cons (ev_i (i := 0)) (ea_cons (ev_op (ev_i (i := 1)) (ev_cb (ea_cons (ev_v rfl rl) ea_nil) rc_lenL) rv_i0) (ea_cons (ev_i (i := 0)) ea_nil))))) x1.i fun vs K2 H2 x2 r2 => ?_
  obtain ⟨_, _, rfl, e1, _, _, rfl, e2, _, _, rfl, e3, _, _, rfl, e4, _, _, rfl, e5, e6⟩ := r2
  cases e1
  cases e2
  cases e3
  cases e4
  cases e5
  cases e6
  exact ⟨by show 5 ≤ sizeLine; rw [sizeLine_eq]; decide, fun a na => q _ c a _ K2 H2 (x1.trans x2) (x2.s _ _ hc) na⟩
theorem ok_hand (T : Tx K mg) : Fk P w K mg base CX0 1 (He.ga K "_law_hand") ["_law_script"] (spHand K) := by
  refine Fk.turn (ok_hand0 T) (spf_len fun _ => a1_len a0_len) fun fr vs H Q E hp h ok => ?_
  obtain ⟨ns, Hm, hz, hr, hi, q⟩ := h
  refine ⟨H, fun v H' => ∃ (cs : List Int) (c a : Addr) (sd : Int) (Hm' H2 : Hp), Xt Hm H Hm' H2 ∧ Hm' c = some (.lst (cs.map V.int)) ∧ H2 a = none ∧ v = .ref a ∧ H' = upd H2 a (.lst [.ref c, .int 0, .int 0, .int sd, .int 0]), ⟨ns, Hm, hz, hr, hi, fun cs c a sd Hm' H2 x hc na => ⟨cs, c, a, sd, Hm', H2, x, hc, na, rfl, rfl⟩⟩, ok, fun _ h => h, ?_⟩
  rintro v H' hp' un ok' ⟨cs, c, a, sd, Hm', H2, x, hc, na, rfl, rfl⟩
  have nH : H a = none := none_back x.k na
  have nb : ∀ b, H b ≠ none → b ≠ a := fun b h e => h (by rw [e]; exact nH)
  refine ⟨upd H2 a (HandO a c), un_turn un (fun _ h => h) (fun b h1 h2 => ?_) (fun b xs h => ?_) (fun b o u h => ?_) (fun b ps h => ?_), hok_turn ok' (u := .lst _) upd_same (fun _ => by simp) (fun _ => by simp) (fun b hb => by rw [upd_ne hb, upd_ne hb]) upd_same ?_, q _ (upd Hm' a (HandO a c)) _ (xt_ref x na) ⟨cs, ⟨a, c, rfl, upd_same, ?_⟩, trivial⟩⟩
  · by_cases hb : b = a
    · subst hb
      rw [upd_same] at h2
      cases h2
    · rw [upd_ne hb] at h2 ⊢
      exact h2
  · have := un.tups b xs h
    have hb := nb b (by rw [h]; simp)
    rw [upd_ne hb] at this ⊢
    exact this
  · have := un.frzs b o u h
    have hb := nb b (by rw [h]; simp)
    rw [upd_ne hb] at this ⊢
    exact this
  · have := un.tbls b ps h
    have hb := nb b (by rw [h]; simp)
    rw [upd_ne hb] at this ⊢
    exact this
  · obtain ⟨_, its, m, hv, hg⟩ := ok' a _ upd_same
    exact hand_ok ⟨0, 0, sd, 0, its, m, Int.le_refl _, hv, hg⟩
  · rw [upd_ne fun e => ?_]
    · exact hc
    · subst e
      have := x.i _ _ hc
      rw [na] at this
      cases this
end
end NJ

set_option Elab.async false
set_option linter.all false
set_option maxRecDepth 100000
set_option maxHeartbeats 4000000
namespace NJ
open PySem PySem.Spec PyProof.Rows L2
section
variable {P : Program} {w : World} {K : PySem.W.Frag} {mg : Str → Option Value} {base : Heap}
/-! ### _law_draw -/
/-- the hand's list at a, all else of H as it was -/
def Hd (H : Hp) (a c : Addr) (H' : Hp) (p b sd n : Int) : Prop := 0 ≤ p ∧ H' a = some (.lst [.ref c, .int p, .int b, .int sd, .int n]) ∧ ∀ x o, x ≠ a → H x = some o → H' x = some o
theorem Hd.ext {H H' H2 : Hp} {a c : Addr} {p b sd n : Int} (h : Hd H a c H' p b sd n) (s : Same H' H2) : Hd H a c H2 p b sd n := ⟨h.1, s _ _ h.2.1, fun x o n e => s _ _ (h.2.2 x o n e)⟩
theorem Hd.put {H H' H2 : Hp} {a c : Addr} {p b sd n p' b' sd' n' : Int} (h : Hd H a c H' p b sd n) (s : Same H' H2) (hp : 0 ≤ p') {ls : List V} (e : ls = [.ref c, .int p', .int b', .int sd', .int n']) : Hd H a c (upd H2 a (.lst ls)) p' b' sd' n' := ⟨hp, by rw [upd_same, e], fun x o n q => by
  rw [upd_ne n]
  exact s _ _ (h.2.2 x o n q)⟩
def spDraw0 (K : PySem.W.Frag) : Sp := fun vs H Q _ => ∃ (a c : Addr) (cs : List Int) (p b sd n many : Int), vs = [.ref a, .int many] ∧ 0 < many ∧ many < 1073741824 ∧ Hd H a c H p b sd n ∧ a ≠ c ∧ H c = some (.lst (cs.map V.int)) ∧ ∀ r H' p' b' sd' n', 0 ≤ r → r < many → Hd H a c H' p' b' sd' n' → Q (.int r) H'
def inR (m : Int) (r : Int) : Prop := 0 ≤ r ∧ r < m
def spDraw (K : PySem.W.Frag) : Sp := SpF (fun (x : List Int × Int) => a1 rHand x.1 (a1 rI x.2 a0)) (fun x => 0 < x.2 ∧ x.2 < 1073741824) (fun x => rE rI (inR x.2)) (fun _ => ())
/-- hand[j] -/
theorem ev_hd {H H' : Hp} {a c : Addr} {p b sd n : Int} {σ : L2.St} (h : Hd H a c H' p b sd n) (s0 : σ[0]? = some (some (.ref a))) {i : Int} (j : Nat) (e : i = (j : Int)) {v : V} (hv : [V.ref c, .int p, .int b, .int sd, .int n][j]? = some v) : Ev (tOp (rIxL K) (tVar 0) (tC (.int i))) σ H' rV v :=
  ev_op (ev_v (R := rX) s0 ⟨a, rfl, h.2.1⟩) ev_i (rv_ixX e hv)
theorem ev_hp {H H' : Hp} {a c : Addr} {p b sd n : Int} {σ : L2.St} (h : Hd H a c H' p b sd n) (s0 : σ[0]? = some (some (.ref a))) : Ev (tOp (rIxL K) (tVar 0) (tC (.int 1))) σ H' rI p := ev_hd h s0 1 rfl rfl
theorem ev_hb {H H' : Hp} {a c : Addr} {p b sd n : Int} {σ : L2.St} (h : Hd H a c H' p b sd n) (s0 : σ[0]? = some (some (.ref a))) : Ev (tOp (rIxL K) (tVar 0) (tC (.int 2))) σ H' rI b := ev_hd h s0 2 rfl rfl
theorem ev_hs {H H' : Hp} {a c : Addr} {p b sd n : Int} {σ : L2.St} (h : Hd H a c H' p b sd n) (s0 : σ[0]? = some (some (.ref a))) : Ev (tOp (rIxL K) (tVar 0) (tC (.int 3))) σ H' rI sd := ev_hd h s0 3 rfl rfl
theorem ev_hn {H H' : Hp} {a c : Addr} {p b sd n : Int} {σ : L2.St} (h : Hd H a c H' p b sd n) (s0 : σ[0]? = some (some (.ref a))) : Ev (tOp (rIxL K) (tVar 0) (tC (.int 4))) σ H' rI n := ev_hd h s0 4 rfl rfl
theorem ev_hc {H H' : Hp} {a c : Addr} {p b sd n : Int} {σ : L2.St} {cs : List Int} (h : Hd H a c H' p b sd n) (s0 : σ[0]? = some (some (.ref a))) (hac : a ≠ c) (hc : H c = some (.lst (cs.map V.int))) : Ev (tOp (rIxL K) (tVar 0) (tC (.int 0))) σ H' (rL K rI) cs :=
  ev_rv (ev_hd h s0 0 rfl rfl) ⟨c, _, rfl, .inl (.inl (h.2.2 c _ (Ne.symm hac) hc)), pairedI cs⟩
where pairedI {H : Hp} : ∀ cs : List Int, Paired (rI.rel H) (cs.map V.int) cs
  | [] => .nil
  | x :: xs => .cons rfl (pairedI xs)
theorem cmul_r {i j : Int} (h : -(2 ^ 64) < j) (g : j < 2 ^ 64) : CMul i j := .inr ⟨h, g⟩
theorem cmul_l {i j : Int} (h : -(2 ^ 64) < i) (g : i < 2 ^ 64) : CMul i j := .inl ⟨h, g⟩
theorem ok_draw0 (T : Tx K mg) : Fk P w K mg base CX0 1 (He.ga K "_law_draw") ["_law_hand_here", "_law_many"] (spDraw0 K) := by
  refine k0_law_draw T (fun vs H Q E ⟨a, c, cs, p, b, sd, n, many, e, _⟩ => by rw [e] <;> rfl) (fun cdv A outer s H vs Q E hr h => ?_)
  refine ⟨_, (pss_cons (ps_if (PW.pt (pw_and (pt_cmpR op_eq (pe_ix ix_list (pv 0) pe_int (fun _ _ => rfl)) pe_int (nomark _)) (pw_and1 (pt_cmpR op_lt (pe_ix ix_list (pv 0) pe_int (fun _ _ => rfl)) (pe_callB call_len (by rfl) T.n_len boot_len (pa_cons (pe_ix ix_list (pv 0) pe_int (fun _ _ => rfl)) pa_nil)) (nomark _))))) (pss_cons (ps_set (i := 2) c_law_draw.nd rfl (by first | exact Or.inl rfl | exact Or.inr rfl) (pe_ix ix_list (pe_ix ix_list (pv 0) pe_int (fun _ _ => rfl)) (pe_ix ix_list (pv 0) pe_int (fun _ _ => rfl)) (fun _ _ => rfl)))
  (pss_cons (ps_asg (pe_op op_add (pe_ix ix_list (pv 0) pe_int (fun _ _ => rfl)) pe_int) (pg_sub (pv 0) pe_int set_list))
  (pss_cons (ps_asg (pe_op op_mod (pe_callTy call_int1 (by rfl) T.n_int boot_int (pa_cons (pe_op op_add (pe_op op_add (pe_op op_mul (pe_ix ix_list (pv 0) pe_int (fun _ _ => rfl)) pe_int) (pv 2)) pe_int) pa_nil)) pe_int) (pg_sub (pv 0) pe_int set_list))
  (pss_one (ps_if (pt_cmpR op_ge (pv 2) (pe_op op_pow pe_int pe_int) (nomark _)) (pss_one (ps_asg (pv 2) (pg_sub (pv 0) pe_int set_list))) pss_nil))))) pss_nil)
  (pss_cons (ps_if (pt_cmpR op_gt (pe_ix ix_list (pv 0) pe_int (fun _ _ => rfl)) pe_int (nomark _)) (pss_cons (ps_set (i := 3) c_law_draw.nd rfl (by first | exact Or.inl rfl | exact Or.inr rfl) (pe_op op_mod (pe_callTy call_int1 (by rfl) T.n_int boot_int (pa_cons (pe_ix ix_list (pv 0) pe_int (fun _ _ => rfl)) pa_nil)) (pv 1)))
  (pss_cons (ps_asg (pe_op op_fdiv (pe_ix ix_list (pv 0) pe_int (fun _ _ => rfl)) (pv 1)) (pg_sub (pv 0) pe_int set_list))
  (pss_one (ps_ret (pv 3))))) pss_nil)
  (pss_cons (ps_asg (pe_op op_add (pe_ix ix_list (pv 0) pe_int (fun _ _ => rfl)) pe_int) (pg_sub (pv 0) pe_int set_list))
  (pss_cons (ps_set (i := 4) c_law_draw.nd rfl (by first | exact Or.inl rfl | exact Or.inr rfl) (pe_op op_mod (pe_callTy call_int1 (by rfl) T.n_int boot_int (pa_cons (pe_op op_mul (pe_callTy call_int1 (by rfl) T.n_int boot_int (pa_cons (pe_op op_add (pe_ix ix_list (pv 0) pe_int (fun _ _ => rfl)) (pe_op op_mul pe_int (pe_ix ix_list (pv 0) pe_int (fun _ _ => rfl)))) pa_nil)) pe_int) pa_nil)) pe_int))
  (pss_cons (ps_set (i := 4) c_law_draw.nd rfl (by first | exact Or.inl rfl | exact Or.inr rfl) (pe_op op_mod (pe_callTy call_int1 (by rfl) T.n_int boot_int (pa_cons (pe_op op_mul (pv 4) (pe_op op_add (pe_op op_fdiv (pv 4) pe_int) pe_int)) pa_nil)) pe_int))
  (pss_cons (ps_set (i := 4) c_law_draw.nd rfl (by first | exact Or.inl rfl | exact Or.inr rfl) (pe_op op_mod (pe_callTy call_int1 (by rfl) T.n_int boot_int (pa_cons (pe_op op_mul (pv 4) (pe_op op_add (pe_op op_fdiv (pv 4) pe_int) pe_int)) pa_nil)) pe_int))
  (pss_one (ps_ret (pe_op op_mod (pe_callTy call_int1 (by rfl) T.n_int boot_int (pa_cons (pe_op op_fdiv (pv 4) pe_int) pa_nil)) (pv 1)))))))))), ?_⟩
  obtain ⟨a, c, cs, p, b, sd, n, many, rfl, m0, m1, hd, hac, hc, q⟩ := h
  refine q_whenJ (b := decide (b = 0) && decide (p < (cs.length : Int))) (fun σ' H' => ∃ o2 p b sd n, σ' = [some (.ref a), some (.int many), o2, none, none] ∧ Hd H a c H' p b sd n) (et_and (et_test (ev_op (ev_hb hd rfl) ev_i rv_eqI)) fun _ => et_test (ev_op (ev_hp hd rfl) (ev_cb (ea_cons (ev_hc hd rfl hac hc) ea_nil) rc_lenL) rv_b0)) (Same.refl H) ?tail (fun tail hb K1 H1 x1 => ?yes) (fun hb K1 H1 x1 => ⟨none, p, b, sd, n, rfl, hd.ext x1.k⟩)
  case tail =>
    clear p b sd n hd
    rintro σ' H' ⟨o2, p, b, sd, n, rfl, hd⟩
    refine q_when (et_test (ev_op (ev_hb hd rfl) ev_i rv_b0)) (Same.refl H') (fun hb K1 H1 x1 => ?_) (fun hb K1 H1 x1 => ?_)
    · have hd1 := hd.ext x1.k
      refine q_set (ev_op (ev_cb (ea_cons (ev_hb hd1 rfl) ea_nil) rc_int1) (ev_v (R := rI) rfl rfl) (rv_ic m0)) (Same.refl H1) fun v2 K2 H2 x2 r2 => ?_
      have hd2 := hd1.ext x2.k
      refine q_put (j := 2) rfl hd2.2.1 (ev_op (ev_hb hd2 rfl) (ev_v (R := rI) rfl rfl) (rv_ic ⟨m0, m1⟩)) (Same.refl H2) ev_i rfl (by simp) fun v3 K3 H3 x3 r3 => ?_
      have hd3 := hd2.put x3.k hd2.1 (ls := [V.ref c, .int p, .int b, .int sd, .int n].set 2 v3) (b' := b / many) (by rw [show v3 = _ from r3] <;> rfl)
      exact s_ret (ev_v (R := rI) (d := b % many) rfl (by exact r2)) (Same.refl _) fun v4 K4 H4 x4 r4 => by
        rw [show v4 = _ from r4]
        exact q _ _ _ _ _ _ (Int.emod_nonneg _ (by omega)) (Int.emod_lt_of_pos _ m0) (hd3.ext x4.k)
    · have hd1 := hd.ext x1.k
      refine q_put (j := 4) rfl hd1.2.1 (ev_op (ev_hn hd1 rfl) ev_i rv_i0) (Same.refl H1) ev_i rfl (by simp) fun v2 K2 H2 x2 r2 => ?_
      have hd2 := hd1.put x2.k hd1.1 (ls := [V.ref c, .int p, .int b, .int sd, .int n].set 4 v2) (n' := n + 1) (by rw [show v2 = _ from r2] <;> rfl)
      refine q_set (ev_op (ev_cb (ea_cons (ev_op (ev_cb (ea_cons (ev_op (ev_hs hd2 rfl) (ev_op ev_i (ev_hn hd2 rfl) (rv_ic (cmul_l (by decide) (by decide)))) rv_i0) ea_nil) rc_int1) ev_i (rv_ic (cmul_r (by decide) (by decide)))) ea_nil) rc_int1) ev_i (rv_ic (by decide))) (Same.refl _) fun v3 K3 H3 x3 r3 => ?_
      have hd3 := hd2.ext x3.k
      generalize ew : (sd + 7919 * (n + 1)) * 48271 % 2147483647 = w1 at r3
      have w1a : 0 ≤ w1 := by rw [← ew]; exact Int.emod_nonneg _ (by decide)
      have w1b : w1 < 2147483647 := by rw [← ew]; exact Int.emod_lt_of_pos _ (by decide)
      refine q_set (ev_op (ev_cb (ea_cons (ev_op (ev_v (R := rI) rfl r3) (ev_op (ev_op (ev_v (R := rI) rfl r3) ev_i (rv_ic ⟨by decide, by decide⟩)) ev_i rv_i0) (rv_ic (cmul_l (by omega) (by omega)))) ea_nil) rc_int1) ev_i (rv_ic (by decide))) x3.i fun v4 K4 H4 x4 r4 => ?_
      have hd4 := hd3.ext x4.k
      generalize ew2 : w1 * (w1 / 1009 + 69621) % 2147483647 = w2 at r4
      have w2a : 0 ≤ w2 := by rw [← ew2]; exact Int.emod_nonneg _ (by decide)
      have w2b : w2 < 2147483647 := by rw [← ew2]; exact Int.emod_lt_of_pos _ (by decide)
      refine q_set (ev_op (ev_cb (ea_cons (ev_op (ev_v (R := rI) rfl r4) (ev_op (ev_op (ev_v (R := rI) rfl r4) ev_i (rv_ic ⟨by decide, by decide⟩)) ev_i rv_i0) (rv_ic (cmul_l (by omega) (by omega)))) ea_nil) rc_int1) ev_i (rv_ic (by decide))) x4.i fun v5 K5 H5 x5 r5 => ?_
      have hd5 := hd4.ext x5.k
      exact s_ret (ev_op (ev_cb (ea_cons (ev_op (ev_v (R := rI) rfl r5) ev_i (rv_ic ⟨by decide, by decide⟩)) ea_nil) rc_int1) (ev_v (R := rI) rfl rfl) (rv_ic m0)) x5.i fun v6 K6 H6 x6 r6 => by
        rw [show v6 = _ from r6]
        exact q _ _ _ _ _ _ (Int.emod_nonneg _ (by omega)) (Int.emod_lt_of_pos _ m0) (hd5.ext x6.k)
  case yes =>
    have hd1 := hd.ext x1.k
    have hb2 := Bool.and_eq_true_iff.mp hb
    have hlt : p < (cs.length : Int) := of_decide_eq_true hb2.2
    have hp := hd.1
    obtain ⟨cell, hcell⟩ : ∃ cell, cs[p.toNat]? = some cell := ⟨_, List.getElem?_eq_getElem (by omega)⟩
    refine q_set (ev_op (ev_hc hd1 rfl hac hc) (ev_hp hd1 rfl) (rv_ixL (j := p.toNat) (by omega) hcell)) (Same.refl H1) fun v2 K2 H2 x2 r2 => ?_
    have hd2 := hd1.ext x2.k
    refine q_put (j := 1) rfl hd2.2.1 (ev_op (ev_hp hd2 rfl) ev_i rv_i0) (Same.refl H2) ev_i rfl (by simp) fun v3 K3 H3 x3 r3 => ?_
    have hd3 := hd2.put x3.k (p' := p + 1) (by omega) (ls := [V.ref c, .int p, .int b, .int sd, .int n].set 1 v3) (by rw [show v3 = _ from r3] <;> rfl)
    refine q_put (j := 3) rfl hd3.2.1 (ev_op (ev_cb (ea_cons (ev_op (ev_op (ev_op (ev_hs hd3 rfl) ev_i (rv_ic (cmul_r (by decide) (by decide)))) (ev_v (R := rI) (d := cell) rfl (by exact r2)) rv_i0) ev_i rv_i0) ea_nil) rc_int1) ev_i (rv_ic (by decide))) (Same.refl _) ev_i rfl (by simp) fun v4 K4 H4 x4 r4 => ?_
    have hd4 := hd3.put x4.k hd3.1 (ls := [V.ref c, .int (p + 1), .int b, .int sd, .int n].set 3 v4) (by rw [show v4 = _ from r4] <;> rfl)
    refine s_if (et_test (ev_op (ev_v (R := rI) (d := cell) rfl (by exact r2)) (ev_op ev_i ev_i (rv_ic ⟨by decide, by decide, by decide⟩)) rv_b0)) (Same.refl _) (fun hb5 K5 H5 x5 => ?_) (fun hb5 K5 H5 x5 => ?_)
    · have hd5 := hd4.ext x5.k
      refine s_put (j := 2) rfl hd5.2.1 (ev_v (R := rI) (d := cell) rfl (by exact r2)) (Same.refl _) ev_i rfl (by simp) fun v6 K6 H6 x6 r6 => by
        cases r6
        exact tail _ _ ⟨_, p + 1, cell, _, n, rfl, hd5.put x6.k hd5.1 rfl⟩
    · exact tail _ _ ⟨_, _, _, _, _, rfl, hd4.ext x5.k⟩
theorem ok_draw (T : Tx K mg) : Fk P w K mg base CX0 1 (He.ga K "_law_draw") ["_law_hand_here", "_law_many"] (spDraw K) := by
  refine Fk.turn (ok_draw0 T) (spf_len fun _ => a1_len (a1_len a0_len)) fun fr vs H Q E hp h ok => ?_
  obtain ⟨⟨cs, many⟩, Hm, ⟨m0, m1⟩, ⟨v1, ws, rfl, ⟨a, c, rfl, ha, hc⟩, v2, ws2, rfl, r2, rfl⟩, hi, q⟩ := h
  dsimp only at m0 m1 ha hc r2 q
  cases r2
  have ha1 := hi _ _ ha
  have hc1 := hi _ _ hc
  have hac : a ≠ c := fun e => by
    subst e
    rw [ha] at hc
    cases hc
  obtain ⟨⟨p, b, sd, n, its, m, hp0, hv, hg⟩, _, _⟩ := ok a _ ha1
  refine ⟨upd H a (.lst [.ref c, .int p, .int b, .int sd, .int n]), fun v H' => ∃ r p' b' sd' n', v = .int r ∧ 0 ≤ r ∧ r < many ∧ Hd (upd H a (.lst [.ref c, .int p, .int b, .int sd, .int n])) a c H' p' b' sd' n',
    ⟨a, c, cs, p, b, sd, n, many, rfl, m0, m1, ⟨hp0, upd_same, fun _ _ _ e => e⟩, hac, by rw [upd_ne (Ne.symm hac)]; exact hc1, fun r H' p' b' sd' n' h0 h1 hd => ⟨r, p', b', sd', n', rfl, h0, h1, hd⟩⟩,
    hok_turn ok ha1 (fun _ => by simp [HandO]) (fun _ => by simp [HandO]) (fun b hb => upd_ne hb) upd_same ⟨by show 5 ≤ sizeLine; rw [sizeLine_eq]; decide, its, m, hv, hg⟩, fun b hb => ?_, ?_⟩
  · rw [upd_ne fun e => ?_]
    · exact hb
    · subst e
      rw [ha1] at hb
      cases hb
  · rintro v H' hp' un ok' ⟨r, p', b', sd', n', rfl, h0, h1, hd⟩
    have kk : ∀ x o, x ≠ a → H x = some o → H' x = some o := fun x o nx e => hd.2.2 x o nx (by rw [upd_ne nx]; exact e)
    have hs : Same H (upd H' a (HandO a c)) := fun x o e => by
      by_cases hx : x = a
      · subst hx
        rw [ha1] at e
        rw [upd_same]
        exact e
      · rw [upd_ne hx]
        exact kk x o hx e
    refine ⟨upd H' a (HandO a c), un_turn un (fun b hb => ?_) (fun b h1 h2 => ?_) (fun b xs h => hs _ _ h) (fun b o u h => hs _ _ h) (fun b ps h => ⟨#[], by rw [hs _ _ h]; simp⟩), hok_turn ok' hd.2.1 (fun _ => by simp) (fun _ => by simp) (fun b hb => upd_ne hb) upd_same ?_, q (.int r) Hm _ ⟨Same.refl _, hi.trans hs, hs, fun _ h => .inl h⟩ ⟨r, rfl, h0, h1⟩⟩
    · rw [upd_ne fun e => ?_]
      · exact hb
      · subst e
        rw [ha1] at hb
        cases hb
    · rw [upd_ne fun e => ?_]
      · exact h2
      · subst e
        rw [ha1] at h1
        cases h1
    · obtain ⟨_, its2, m2, hv2, hg2⟩ := ok' a _ hd.2.1
      exact hand_ok ⟨p', b', sd', n', its2, m2, hd.1, hv2, hg2⟩
end
end NJ

set_option Elab.async false
set_option linter.all false
set_option maxRecDepth 100000
set_option maxHeartbeats 4000000
namespace NJ
open PySem PySem.Spec PyProof.Rows L2
section
variable {P : Program} {w : World} {K : PySem.W.Frag} {mg : Str → Option Value} {base : Heap}
/-- _law_draw(hand, many) -/
theorem ev_draw {σ : L2.St} {Hm : Hp} {ta tb : TE} {cs : List Int} {m : Int} {E : XK} (h1 : Ev ta σ Hm rHand cs) (h2 : Ev tb σ Hm rI m) (m0 : 0 < m) (m1 : m < 1073741824) : Ev (tCall (spDraw K) [] E (tCons ta (tCons tb tNil))) σ Hm (rE rI (inR m)) () :=
  ev_call (x := (cs, m)) ⟨m0, m1⟩ (ea_cons h1 (ea_cons h2 ea_nil))
def aSome (K : PySem.W.Frag) (x : List Int × (T8 ⊕ List V)) : Ar := match x.2 with
  | .inl l => a1 rHand x.1 (a1 rS l a0)
  | .inr vs => a1 rHand x.1 (a1 (rL K rV) vs a0)
def okSome : T8 ⊕ List V → Prop
  | .inl l => 0 < l.length ∧ l.length ≤ 1000
  | .inr vs => 0 < vs.length ∧ vs.length ≤ 1000
def inSome : T8 ⊕ List V → V → Prop
  | .inl l => fun x => ∃ c ∈ l, x = .str (tx [c])
  | .inr vs => fun x => x ∈ vs
def spSome (K : PySem.W.Frag) : Sp := SpF (fun x => aSome K x) (fun x => okSome x.2) (fun x => rE rV (inSome x.2)) (fun _ => ())
theorem aSome_len (x : List Int × (T8 ⊕ List V)) : ∀ H vs, (aSome K x).rel H vs → vs.length = 2 := by
  obtain ⟨cs, y⟩ := x
  cases y
  · exact a1_len (a1_len a0_len)
  · exact a1_len (a1_len a0_len)
theorem ok_some (T : Tx K mg) : Fk P w K mg base CX0 2 (He.ga K "_law_some") ["_law_hand_here", "_law_things"] (spSome K) := by
  refine k0_law_some T (spf_len fun _ => aSome_len _) (fun cdv A outer s H vs Q E hr h => ?_)
  obtain ⟨⟨cs, y⟩, Hm, ok, a, hi, q⟩ := h
  cases y with
  | inl l =>
    obtain ⟨v1, ws, rfl, r1, v2, ws2, rfl, r2, rfl⟩ := a
    refine ⟨_, (pss_one (ps_ret (pe_ix ix_str (pv 1) (pe_fk (ok_draw T) (hr.mono (by decide)) T.g_law_draw pass0 (pa_cons (pv 0) (pa_cons (pe_callB call_len (by rfl) T.n_len boot_len (pa_cons (pv 1) pa_nil)) pa_nil))) (fun _ _ => rfl)))), ?_⟩
    have hz : l.length ≤ 1000 := ok.2
    refine s_ret (ev_opE (T := rV) (ev_v (R := rS) rfl r2) (ev_draw (ev_v rfl r1) (ev_cb (ea_cons (ev_v (R := rS) rfl r2) ea_nil) (rc_lenS (by omega))) (by have := ok.1; omega) (by omega)) fun e he => ?_) hi q
    obtain ⟨c, hc⟩ : ∃ c, l[e.toNat]? = some c := ⟨_, List.getElem?_eq_getElem (by have := he.1; have := he.2; omega)⟩
    exact ⟨.str (tx [c]), ⟨c, List.mem_of_getElem? hc, rfl⟩, rv_ixS (by omega) (by have := he.1; omega) hc⟩
  | inr xs =>
    obtain ⟨v1, ws, rfl, r1, v2, ws2, rfl, r2, rfl⟩ := a
    refine ⟨_, (pss_one (ps_ret (pe_ix ix_list (pv 1) (pe_fk (ok_draw T) (hr.mono (by decide)) T.g_law_draw pass0 (pa_cons (pv 0) (pa_cons (pe_callB call_len (by rfl) T.n_len boot_len (pa_cons (pv 1) pa_nil)) pa_nil))) (fun _ _ => rfl)))), ?_⟩
    have hz : xs.length ≤ 1000 := ok.2
    refine s_ret (ev_opE (T := rV) (ev_v (R := rL K rV) rfl r2) (ev_draw (ev_v rfl r1) (ev_cb (ea_cons (ev_v (R := rL K rV) rfl r2) ea_nil) rc_lenL) (by have := ok.1; omega) (by omega)) fun e he => ?_) hi q
    obtain ⟨c, hc⟩ : ∃ c, xs[e.toNat]? = some c := ⟨_, List.getElem?_eq_getElem (by have := he.1; have := he.2; omega)⟩
    exact ⟨c, List.mem_of_getElem? hc, rv_ixL (by have := he.1; omega) hc⟩
/-- some sign of a text -/
theorem ev_someS {σ : L2.St} {Hm : Hp} {ta tb : TE} {cs : List Int} {l : T8} {E : XK} (h1 : Ev ta σ Hm rHand cs) (h2 : Ev tb σ Hm rS l) (m0 : 0 < l.length) (m1 : l.length ≤ 1000) : Ev (tCall (spSome K) [] E (tCons ta (tCons tb tNil))) σ Hm (rE rC (fun c => c ∈ l)) () := fun H1 hi Q q =>
  ev_call (x := (cs, Sum.inl l)) ⟨m0, m1⟩ (ea_cons h1 (ea_cons h2 ea_nil)) H1 hi Q fun v K2 H2 x2 ⟨u, e, c, hc, e2⟩ => q v K2 H2 x2 ⟨c, (show v = _ from e).trans e2, hc⟩
theorem rl_V {α : Type} {R : Rp α} {H : Hp} {v : V} {xs : List α} (h : (rL K R).rel H v xs) : ∃ vs, (rL K rV).rel H v vs ∧ Paired (R.rel H) vs xs := by
  obtain ⟨a, vs, e, hS, hP⟩ := h
  refine ⟨vs, ⟨a, vs, e, hS, ?_⟩, hP⟩
  have go : ∀ us : List V, Paired (rV.rel H) us us := fun us => by
    induction us with
    | nil => exact .nil
    | cons u us ih => exact .cons rfl ih
  exact go vs
theorem paired_in {α : Type} {F : V → α → Prop} : ∀ {vs : List V} {xs : List α}, Paired F vs xs → ∀ x ∈ vs, ∃ d ∈ xs, F x d
  | _, _, .nil, x, h => by cases h
  | _, _, .cons a r, x, h => by
    rcases List.mem_cons.mp h with z | z
    · subst z
      exact ⟨_, List.mem_cons_self, a⟩
    · obtain ⟨d, h1, h2⟩ := paired_in r x z
      exact ⟨d, List.mem_cons_of_mem _ h1, h2⟩
/-- some item of a list -/
theorem ev_someL {α : Type} {R : Rp α} {σ : L2.St} {Hm : Hp} {ta tb : TE} {cs : List Int} {xs : List α} {E : XK} (h1 : Ev ta σ Hm rHand cs) (h2 : Ev tb σ Hm (rL K R) xs) (m0 : 0 < xs.length) (m1 : xs.length ≤ 1000) : Ev (tCall (spSome K) [] E (tCons ta (tCons tb tNil))) σ Hm (rE R (fun d => d ∈ xs)) () := fun H1 hi Q q =>
  h1 H1 hi _ fun v1 K2 H2 x2 r1 => h2.mono x2.s H2 x2.i _ fun v2 K3 H3 x3 r2 => by
    obtain ⟨vs, r3, pr⟩ := rl_V r2
    have hl := paired_len pr
    exact ⟨(cs, Sum.inr vs), K3, ⟨by omega, by omega⟩, ⟨v1, _, rfl, rHand.mono x3.s r1, v2, _, rfl, r3, rfl⟩, x3.i, fun v K4 H4 x4 ⟨u, e, hu⟩ => by
      obtain ⟨d, hd, rd⟩ := paired_in pr u hu
      exact q v K4 H4 ((x2.trans x3).trans x4) ⟨d, by rw [show v = u from e]; exact R.mono x4.s rd, hd⟩⟩
end
end NJ

set_option Elab.async false
set_option linter.all false
set_option maxRecDepth 100000
set_option maxHeartbeats 4000000
namespace NJ
open PySem PySem.Spec PyProof.Rows L2
section
variable {P : Program} {w : World} {K : PySem.W.Frag} {mg : Str → Option Value} {base : Heap}
section
variable {σ : L2.St} {Hm H : Hp} {α : Type} {R : Rp α} {te : TE} {tz : TS} {D : Ends} {i : Nat}
/-- name = [] -/
theorem q_new (q : ∀ f, H f = none → tz D (σ.set i (some (.ref f))) (upd H f (.lst []))) : tSeq (tAsg (tLst tNil) (gName i)) tz D σ H := ⟨Nat.zero_le _, fun f hf => q f hf⟩
/-- name = list(xs) -/
theorem q_lstOf {xs : List α} (h : Ev te σ Hm (rL K R) xs) (hi : Same Hm H) (q : ∀ K1 H1 vs l, Xt Hm H K1 H1 → Paired (R.rel K1) vs xs → H1 l = none → tz D (σ.set i (some (.ref l))) (upd H1 l (.lst vs))) : tSeq (tAsg (tCB (rLstOf K) (tCons te tNil)) (gName i)) tz D σ H :=
  h H hi _ fun v K1 H1 x ⟨a, vs, e, hS, hP⟩ => ⟨a, vs, by rw [e], .inl (x.i.seq hS), fun l hl => q K1 H1 vs l x hP hl⟩
end
theorem perm_paired {α : Type} {F : V → α → Prop} {ys vs : List V} (p : ys.Perm vs) : ∀ {xs : List α}, Paired F vs xs → ∃ zs, zs.Perm xs ∧ Paired F ys zs := by
  induction p with
  | nil =>
    intro xs h
    cases h
    exact ⟨[], .refl _, .nil⟩
  | cons x p ih =>
    intro xs h
    cases h with
    | cons a r =>
      obtain ⟨zs, h1, h2⟩ := ih r
      exact ⟨_ :: zs, h1.cons _, .cons a h2⟩
  | swap x y l =>
    intro xs h
    cases h with
    | cons a r =>
      cases r with
      | cons b r => exact ⟨_ :: _ :: _, .swap _ _ _, .cons b (.cons a r)⟩
  | trans p1 p2 ih1 ih2 =>
    intro xs h
    obtain ⟨zs, h1, h2⟩ := ih2 h
    obtain ⟨us, h3, h4⟩ := ih1 h2
    exact ⟨us, h3.trans h1, h4⟩
theorem erase_perm {l : List V} {j : Nat} (h : j < l.length) : (l[j] :: l.eraseIdx j).Perm l := by
  rw [List.eraseIdx_eq_take_drop_succ]
  have e : l = l.take j ++ l[j] :: l.drop (j + 1) := by rw [List.getElem_cons_drop, List.take_append_drop]
  exact List.perm_middle.symm.trans (List.Perm.of_eq e.symm)
def spShuf (K : PySem.W.Frag) : Sp := SpF (fun (x : List Int × List T8) => a1 rHand x.1 (a1 (rL K rS) x.2 a0)) (fun x => x.2.length ≤ 1000) (fun x => rE (rM rS) (fun ys => ys.Perm x.2)) (fun _ => ())
theorem ok_shuf (T : Tx K mg) : Fk P w K mg base CX0 2 (He.ga K "_law_shuffled") ["_law_hand_here", "_law_things"] (spShuf K) := by
  refine k0_law_shuffled T (spf_len fun _ => a1_len (a1_len a0_len)) (fun cdv A outer s H vs Q E hr h => ?_)
  refine ⟨_, (pss_cons (ps_set (i := 2) c_law_shuffled.nd rfl (by first | exact Or.inl rfl | exact Or.inr rfl) (pe_callTy call_list_of (by rfl) T.n_list boot_list (pa_cons (pv 1) pa_nil)))
  (pss_cons (ps_set (i := 3) c_law_shuffled.nd rfl (by first | exact Or.inl rfl | exact Or.inr rfl) (pe_lst pa_nil))
  (pss_cons (ps_while PassesOwn.never (pt_cmpR op_gt (pe_callB call_len (by rfl) T.n_len boot_len (pa_cons (pv 2) pa_nil)) pe_int (nomark _)) (pss_one (ps_expr (pe_bm PySem.F.plainAttrs_list PySem.F.slot_list_append PySem.F.type_list_append mt_append (pv 3) (pa_cons (pe_bm PySem.F.plainAttrs_list PySem.F.slot_list_pop PySem.F.type_list_pop mt_popAt (pv 2) (pa_cons (pe_fk (ok_draw T) (hr.mono (by decide)) T.g_law_draw pass0 (pa_cons (pv 0) (pa_cons (pe_callB call_len (by rfl) T.n_len boot_len (pa_cons (pv 2) pa_nil)) pa_nil))) pa_nil)) pa_nil)))))
  (pss_one (ps_ret (pv 3)))))), ?_⟩
  obtain ⟨⟨cs, xs⟩, Hm, ok, ⟨v1, ws, rfl, r1, v2, ws2, rfl, r2, rfl⟩, hi, q⟩ := h
  dsimp only at ok r1 r2 q
  refine q_lstOf (ev_v (R := rL K rS) rfl r2) hi fun K1 H1 us l x1 pr nl => ?_
  refine q_new fun f nf => ?_
  have hlf : f ≠ l := fun e => by
    subst e
    rw [upd_same] at nf
    cases nf
  have nf1 : H1 f = none := by
    rw [upd_ne hlf] at nf
    exact nf
  have nl1 : K1 l = none := none_back x1.i nl
  have nf2 : K1 f = none := none_back x1.i nf1
  have hz := paired_len pr
  refine ⟨fun m σ' H' => σ' = [some v1, some v2, some (.ref l), some (.ref f)] ∧ ∃ ps fs : List V, m = ps.length ∧ H' l = some (.lst ps) ∧ H' f = some (.lst fs) ∧ Same K1 H' ∧ (∀ b o, H1 b = some o → H' b = some o) ∧ (fs ++ ps).Perm us, ⟨us.length, rfl, us, [], rfl, by rw [upd_ne (Ne.symm hlf), upd_same], upd_same, ?_, ?_, .refl _⟩, ?_⟩
  · exact same_mut (same_mut x1.i nl1) nf2
  · intro b o e
    rw [upd_ne (ne_of_none e nf1), upd_ne (ne_of_none e nl)]
    exact e
  · rintro m σ' H' ⟨rfl, ps, fs, rfl, hl, hf, hs, hk, pm⟩
    have pl : (fs ++ ps).length = us.length := pm.length_eq
    rw [List.length_append] at pl
    have ev_len : Ev (tCB (rLen K) (tCons (tVar 2) tNil)) [some v1, some v2, some (.ref l), some (.ref f)] H' rI (ps.length : Int) := ev_cb (ea_cons (ev_v (R := rL K rV) (d := ps) rfl ⟨l, ps, rfl, .inl (.inl hl), by
      have go : ∀ us : List V, Paired (rV.rel H') us us := fun us => by
        induction us with
        | nil => exact .nil
        | cons u us ih => exact .cons rfl ih
      exact go ps⟩) ea_nil) rc_lenL
    refine Et.is (b' := !ps.isEmpty) (et_test (ev_op ev_len ev_i rv_b0)) (by cases ps <;> simp) H' (Same.refl _) _ fun K2 H2 x2 => ?_
    cases hps : ps with
    | nil =>
      refine iteF ?_
      subst hps
      rw [List.append_nil] at pm
      obtain ⟨zs, h1, h2⟩ := perm_paired pm pr
      refine s_ret (ev_v (R := rM rS) (d := zs) (Hm := upd K1 f (.lst fs)) rfl ⟨f, fs, rfl, upd_same, paired_mono rS (fun b o e => by rw [upd_ne (ne_of_none e nf2)]; exact e) h2⟩) ?_ fun v K3 H3 x3 r3 => q v K3 H3 ?_ ⟨zs, r3, h1⟩
      · intro b o e
        by_cases hb : b = f
        · subst hb
          rw [upd_same] at e
          rw [← e]
          exact x2.k _ _ hf
        · rw [upd_ne hb] at e
          exact x2.k _ _ (hs b o e)
      · refine x1.trans ⟨Same.trans (H1 := upd K1 f (.lst fs)) (fun b o e => by rw [upd_ne (ne_of_none e nf2)]; exact e) x3.s, x3.i, fun b o e => x3.k _ _ (x2.k _ _ (hk b o e)), fun p hp => ?_⟩
        rcases x3.f p hp with z | z
        · by_cases hb : p = f
          · subst hb
            exact .inr nf1
          · rw [upd_ne hb] at z
            exact .inl z
        · have z2 := none_back x2.k z
          cases z3 : H1 p with
          | none => exact .inr rfl
          | some o =>
            rw [hk p o z3] at z2
            cases z2
    | cons p0 pr0 =>
      have pos : 0 < ps.length := by rw [hps]; exact Nat.succ_pos _
      refine iteT ?_
      rw [← hps]
      refine ⟨fun σ'' H'' => ∃ m', m' < ps.length ∧ (σ'' = [some v1, some v2, some (.ref l), some (.ref f)] ∧ ∃ ps fs : List V, m' = ps.length ∧ H'' l = some (.lst ps) ∧ H'' f = some (.lst fs) ∧ Same K1 H'' ∧ (∀ b o, H1 b = some o → H'' b = some o) ∧ (fs ++ ps).Perm us), fun σ'' H'' z => z, ?_⟩
      have hl2 := x2.k _ _ hl
      have hf2 := x2.k _ _ hf
      refine ⟨.ref f, rfl, .inl ⟨rfl, fs, .inl (.inl hf2)⟩, .ref l, rfl, .inl ⟨rfl, ps, .inl (.inl hl2)⟩, ?_⟩
      refine ev_draw (cs := cs) (m := ps.length) (Hm := H2) (ev_v rfl (rHand.mono ((x1.s.trans hs).trans x2.k) r1)) ((ev_len.mono x2.k)) (by omega) (by omega) H2 (Same.refl _) _ fun v K3 H3 x3 ⟨r, er, h0, h1⟩ => ?_
      cases er
      obtain ⟨j, hj⟩ : ∃ j : Nat, r = (j : Int) := ⟨r.toNat, by omega⟩
      subst hj
      have hjl : j < ps.length := by omega
      refine ⟨l, ps, (j : Int), j, ps[j], rfl, rfl, x3.k _ _ hl2, by omega, by omega, ?_, List.getElem?_eq_getElem hjl, ?_⟩
      · unfold seqIndex?
        simp
        omega
      · have hfl : upd H3 l (.lst (ps.eraseIdx j)) f = some (.lst fs) := by
          rw [upd_ne hlf]
          exact x3.k _ _ hf2
        refine ⟨f, fs, ps[j], rfl, rfl, hfl, ?_, ps.length - 1, by omega, rfl, ps.eraseIdx j, fs ++ [ps[j]], by rw [List.length_eraseIdx, if_pos hjl], ?_, upd_same, ?_, ?_, ?_⟩
        · exact sz16' (by omega)
        · rw [upd_ne (Ne.symm hlf), upd_same]
        · exact same_mut (same_mut ((hs.trans x2.k).trans x3.k) nl1) nf2
        · intro b o e
          rw [upd_ne (ne_of_none e nf1), upd_ne (ne_of_none e nl)]
          exact x3.k _ _ (x2.k _ _ (hk b o e))
        · rw [List.append_assoc]
          refine (List.Perm.append_left fs ?_).trans pm
          show (ps[j] :: ps.eraseIdx j).Perm ps
          exact erase_perm hjl
end
end NJ

set_option Elab.async false
set_option linter.all false
set_option maxRecDepth 100000
set_option maxHeartbeats 4000000
namespace NJ
open PySem PySem.Spec PyProof.Rows L2
section
variable {P : Program} {w : World} {K : PySem.W.Frag} {mg : Str → Option Value} {base : Heap}
/-! ### _law_clashing -/
def clB (a b : T8) : Bool := a.isPrefixOf b || a.isSuffixOf b
def spClB (K : PySem.W.Frag) : Sp := SpF (fun (x : T8 × T8) => a1 rS x.1 (a1 rS x.2 a0)) (fun x => x.1.length < x.2.length ∧ x.2.length ≤ 1000) (fun _ => rB) (fun x => clB x.1 x.2)
theorem clB_eq {a b : T8} (h : a.length < b.length) : (decide (cut b none (some (a.length : Int)) = a) || decide (cut b (some ((b.length : Int) - (a.length : Int))) none = a)) = clB a b := by
  have e : ((b.length : Int) - (a.length : Int)) = ((b.length - a.length : Nat) : Int) := by omega
  rw [e, cut_take, cut_drop]
  unfold clB
  rw [Bool.eq_iff_iff, Bool.or_eq_true, Bool.or_eq_true, decide_eq_true_iff, decide_eq_true_iff, List.isPrefixOf_iff_prefix, List.isSuffixOf_iff_suffix, List.prefix_iff_eq_take, List.suffix_iff_eq_drop]
  constructor
  · rintro (h | h)
    · exact .inl h.symm
    · exact .inr h.symm
  · rintro (h | h)
    · exact .inl h.symm
    · exact .inr h.symm
theorem ok_clB (T : Tx K mg) : Fk P w K mg base CX0 1 (He.ga K "_law_clashing") ["_law_one", "_law_other"] (spClB K) := by
  refine k0_law_clashing T (spf_len fun _ => a1_len (a1_len a0_len)) (fun cdv A outer s H vs Q E hr h => ?_)
  refine ⟨_, (pss_cons (ps_par (i := 2) (j := 3) rfl c_law_clashing.nd rfl rfl (by decide) rfl rfl (pa_cons (pv 0) (pa_cons (pv 1) pa_nil)) rfl)
  (pss_cons (ps_if (pt_cmpR op_gt (pe_callB call_len (by rfl) T.n_len boot_len (pa_cons (pv 0) pa_nil)) (pe_callB call_len (by rfl) T.n_len boot_len (pa_cons (pv 1) pa_nil)) (nomark _)) (pss_one (ps_par (i := 2) (j := 3) rfl c_law_clashing.nd rfl rfl (by decide) rfl rfl (pa_cons (pv 1) (pa_cons (pv 0) pa_nil)) rfl)) pss_nil)
  (pss_one (ps_ret (pe_or (pe_cmpR op_eq (pe_slice sl_str (pv 3) po_none (po_some (pe_callB call_len (by rfl) T.n_len boot_len (pa_cons (pv 2) pa_nil)))) (pv 2) (nomark _)) (pe_one (pe_cmpR op_eq (pe_slice sl_str (pv 3) (po_some (pe_op op_sub (pe_callB call_len (by rfl) T.n_len boot_len (pa_cons (pv 3) pa_nil)) (pe_callB call_len (by rfl) T.n_len boot_len (pa_cons (pv 2) pa_nil)))) po_none) (pv 2) (nomark _)))))))), ?_⟩
  obtain ⟨⟨a, b⟩, Hm, ⟨h1, h2⟩, ⟨v1, ws, rfl, r1, v2, ws2, rfl, r2, rfl⟩, hi, q⟩ := h
  dsimp only at h1 h2 r1 r2 q
  refine q_par (ea_cons (ev_v rfl r1) (ea_cons (ev_v rfl r2) ea_nil)) hi fun v u K1 H1 x1 ra rb => ?_
  have r1a := rS.mono x1.s r1
  have r2a := rS.mono x1.s r2
  refine q_when (et_test (ev_op (ev_cb (ea_cons (ev_v rfl r1a) ea_nil) (rc_lenS (by omega))) (ev_cb (ea_cons (ev_v rfl r2a) ea_nil) (rc_lenS (by omega))) rv_b0)) x1.i (fun hb => ?_) (fun hb K2 H2 x2 => ?_)
  · have := of_decide_eq_true hb
    omega
  · have rb2 := rS.mono x2.s rb
    have ra2 := rS.mono x2.s ra
    exact s_ret (Ev.is (ev_or (ev_op (ev_slS (ev_v rfl rb2) eo_none (eo_some (ev_cb (ea_cons (ev_v rfl ra2) ea_nil) (rc_lenS (by omega)))) (by omega)) (ev_v rfl ra2) rv_eqS) fun _ => ev_op (ev_slS (ev_v rfl rb2) (eo_some (ev_op (ev_cb (ea_cons (ev_v rfl rb2) ea_nil) (rc_lenS (by omega))) (ev_cb (ea_cons (ev_v rfl ra2) ea_nil) (rc_lenS (by omega))) rv_i0)) eo_none (by omega)) (ev_v rfl ra2) rv_eqS) (clB_eq h1)) x2.i fun v K3 H3 x3 r3 => q v K3 H3 ((x1.trans x2).trans x3) r3
/-! ### _law_least_clash -/
def pF (xs : List T8) (x : T8) : List (T8 × T8) := (xs.filter fun y => decide (x.length < y.length) && clB x y).map fun y => (x, y)
def pA (xs : List T8) (i : Nat) : List (T8 × T8) := ((xs.take i).map (pF xs)).flatten
theorem pA_succ {xs : List T8} {i : Nat} {x : T8} (h : xs[i]? = some x) : pA xs (i + 1) = pA xs i ++ pF xs x := by
  unfold pA
  rw [List.take_add_one, h]
  simp
theorem pF_yes {xs : List T8} {j : Nat} {x y : T8} (h : xs[j]? = some y) (c : (decide (x.length < y.length) && clB x y) = true) : pF (xs.take (j + 1)) x = pF (xs.take j) x ++ [(x, y)] := by
  unfold pF
  rw [filter_yes (f := fun y => decide (x.length < y.length) && clB x y) h c, List.map_append] <;> rfl
theorem pF_no {xs : List T8} {j : Nat} {x y : T8} (h : xs[j]? = some y) (c : (decide (x.length < y.length) && clB x y) = false) : pF (xs.take (j + 1)) x = pF (xs.take j) x := by
  unfold pF
  rw [filter_no (f := fun y => decide (x.length < y.length) && clB x y) h c]
theorem pF_len (xs : List T8) (x : T8) : (pF xs x).length ≤ xs.length := by
  unfold pF
  rw [List.length_map]
  exact List.length_filter_le _ _
theorem pA_len (xs : List T8) : ∀ i, (pA xs i).length ≤ i * xs.length
  | 0 => by simp [pA]
  | i + 1 => by
    have h := pA_len xs i
    have e : (i + 1) * xs.length = i * xs.length + xs.length := Nat.succ_mul i xs.length
    cases hx : xs[i]? with
    | none =>
      have e2 : pA xs (i + 1) = pA xs i := by
        unfold pA
        rw [List.take_add_one, hx]
        simp
      rw [e2]
      omega
    | some x =>
      rw [pA_succ hx, List.length_append]
      have := pF_len xs x
      omega
theorem mem_pA {xs : List T8} {p : T8 × T8} : p ∈ pA xs xs.length ↔ Pr xs p := by
  unfold pA Pr
  rw [List.take_length, List.mem_flatten]
  constructor
  · rintro ⟨l, hl, hp⟩
    obtain ⟨x, hx, rfl⟩ := List.mem_map.mp hl
    unfold pF at hp
    obtain ⟨y, hy, rfl⟩ := List.mem_map.mp hp
    obtain ⟨h1, h2⟩ := List.mem_filter.mp hy
    rw [Bool.and_eq_true, decide_eq_true_iff] at h2
    refine ⟨hx, h1, h2.1, ?_⟩
    have := h2.2
    unfold clB at this
    rw [Bool.or_eq_true, List.isPrefixOf_iff_prefix, List.isSuffixOf_iff_suffix] at this
    exact this
  · rintro ⟨h1, h2, h3, h4⟩
    refine ⟨pF xs p.1, List.mem_map_of_mem h1, ?_⟩
    unfold pF
    refine List.mem_map.mpr ⟨p.2, List.mem_filter.mpr ⟨h2, ?_⟩, rfl⟩
    rw [Bool.and_eq_true, decide_eq_true_iff]
    refine ⟨h3, ?_⟩
    unfold clB
    rw [Bool.or_eq_true, List.isPrefixOf_iff_prefix, List.isSuffixOf_iff_suffix]
    exact h4
def okS (xs : List T8) : Prop := xs.length ≤ 1000 ∧ ∀ x ∈ xs, x.length ≤ 1000
def spLeast (K : PySem.W.Frag) : Sp := SpF (fun (xs : List T8) => a1 (rL K rS) xs a0) okL (fun _ => rO (rP K rS rS)) lcF
theorem ok_least (T : Tx K mg) : Fk P w K mg base CX0 2 (He.ga K "_law_least_clash") ["_law_texts_here"] (spLeast K) := by
  refine k0_law_least_clash T (spf_len fun _ => a1_len a0_len) (fun cdv A outer s H vs Q E hr h => ?_)
  refine ⟨_, (pss_cons (ps_set (i := 1) c_law_least_clash.nd rfl (by first | exact Or.inl rfl | exact Or.inr rfl) (pe_lst pa_nil))
  (pss_cons (ps_for PassesOwn.never rfl (pi_list (pv 0)) (pg_name (i := 2) c_law_least_clash.nd rfl (by first | exact Or.inl rfl | exact Or.inr rfl)) (pss_one (ps_for PassesOwn.never rfl (pi_list (pv 0)) (pg_name (i := 3) c_law_least_clash.nd rfl (by first | exact Or.inl rfl | exact Or.inr rfl)) (pss_one (ps_if (PW.pt (pw_and (pt_cmpR op_lt (pe_callB call_len (by rfl) T.n_len boot_len (pa_cons (pv 2) pa_nil)) (pe_callB call_len (by rfl) T.n_len boot_len (pa_cons (pv 3) pa_nil)) (nomark _)) (pw_and1 (pt_val (pe_fk (ok_clB T) (hr.mono (by decide)) T.g_law_clashing pass0 (pa_cons (pv 2) (pa_cons (pv 3) pa_nil))))))) (pss_one (ps_expr (pe_bm PySem.F.plainAttrs_list PySem.F.slot_list_append PySem.F.type_list_append mt_append (pv 1) (pa_cons (pe_tup (pa_cons (pv 2) (pa_cons (pv 3) pa_nil))) pa_nil)))) pss_nil)))))
  (pss_cons (ps_if (pt_cmpR op_eq (pe_callB call_len (by rfl) T.n_len boot_len (pa_cons (pv 1) pa_nil)) pe_int (nomark _)) (pss_one (ps_ret pe_non)) pss_nil)
  (pss_one (ps_ret (pe_callB (cr_minP rfl (hu100 hr)) (by rfl) T.n_min boot_min (pa_cons (pv 1) pa_nil))))))), ?_⟩
  obtain ⟨xs, Hm, ok, ⟨v, ws, rfl, r, rfl⟩, hi, q⟩ := h
  refine q_new fun f nf => ?_
  have c0 := Ci.new (S := rP K rS rS) hi nf
  have e0 : pA xs 0 = [] := rfl
  have sq : xs.length * xs.length ≤ 1000000 := Nat.mul_le_mul ok.1 ok.1
  refine q_forC (Y := pA xs) (fun σ' => ∃ o2 o3, σ' = [some v, some (.ref f), o2, o3]) (wk_list (ev_v (R := rL K rS) rfl r)) (e0 ▸ c0) ⟨none, none, rfl⟩ ?step ?done
  case step =>
    rintro i x σ' Ki us H' u hx ⟨o2, o3, rfl⟩ c sa ru N hN
    refine s_forC (D := { nx := N, ct := N, bk := _, rt := _ }) (Y := fun j => pA xs i ++ pF (xs.take j) x) (Ka := Ki) (fun σ' => ∃ o3, σ' = [some v, some (.ref f), some u, o3]) (wk_list (ev_v (R := rL K rS) rfl ((rL K rS).mono sa r))) (by
      have e : pA xs i ++ pF (xs.take 0) x = pA xs i := by simp [pF]
      rw [e]
      exact c) ⟨o3, rfl⟩ ?step2 ?done2
    case step2 =>
      rintro j y σ2 Kj us2 H2 u2 hy ⟨o3, rfl⟩ c2 sb ru2 N2 hN2
      have hxl := ok.at (List.mem_of_getElem? hx)
      have hyl := ok.at (List.mem_of_getElem? hy)
      have hyk := ok.2 y (List.mem_of_getElem? hy)
      have rua := rS.mono sb ru
      refine s_if (b := decide (x.length < y.length) && clB x y) (et_and (Et.is (et_test (ev_op (ev_cb (ea_cons (ev_v rfl rua) ea_nil) (rc_lenS hxl)) (ev_cb (ea_cons (ev_v rfl ru2) ea_nil) (rc_lenS hyl)) rv_b0)) (by
        rw [decide_eq_decide]
        omega)) fun hlt => et_test (ev_call (x := (x, y)) ⟨of_decide_eq_true hlt, hyk⟩ (ea_cons (ev_v rfl rua) (ea_cons (ev_v rfl ru2) ea_nil)))) c2.i (fun hb K3 H3 x3 => ?_) (fun hb K3 H3 x3 => ?_)
      · have hl := pA_len xs i
        have hi' : i < xs.length := (List.getElem?_eq_some_iff.mp hx).1
        have hm : i * xs.length ≤ xs.length * xs.length := Nat.mul_le_mul_right _ (Nat.le_of_lt hi')
        have hp := pF_len (xs.take j) x
        have hp2 : (xs.take j).length ≤ xs.length := by
          rw [List.length_take]
          exact Nat.min_le_right _ _
        have hxs := ok.1
        refine s_appC (d := (x, y)) (K := K) rfl (c2.ext x3) nf (ev_pair (ea_cons (ev_v rfl (rS.mono x3.s rua)) (ea_cons (ev_v rfl (rS.mono x3.s ru2)) ea_nil))) (by rw [List.length_append]; omega) fun K4 vs4 H4 c4 s4 => hN2 _ K4 vs4 H4 ⟨_, rfl⟩ ?_ (x3.s.trans s4)
        rw [List.append_assoc, ← pF_yes hy hb] at c4
        exact c4
      · refine hN2 _ K3 us2 H3 ⟨_, rfl⟩ ?_ x3.s
        show Ci Hm H f (rP K rS rS) (pA xs i ++ pF (xs.take (j + 1)) x) K3 us2 H3
        rw [pF_no hy hb]
        exact c2.ext x3
    case done2 =>
      rintro σ2 Kj us2 H2 ⟨o3, rfl⟩ c2 sb
      refine hN _ Kj us2 H2 ⟨_, _, rfl⟩ ?_ sb
      rw [List.take_length, ← pA_succ hx] at c2
      exact c2
  case done =>
    rintro σ' Ki us H' ⟨o2, o3, rfl⟩ c sa
    obtain ⟨xd, rm⟩ := c.done nf
    have rl : (rL K (rP K rS rS)).rel _ (.ref f) _ := rm_l rm
    refine q_when (Et.is (b' := (pA xs xs.length).isEmpty) (et_test (ev_op (ev_cb (ea_cons (ev_v rfl rl) ea_nil) rc_lenL) ev_i rv_eqI)) (by
      cases pA xs xs.length with
      | nil => rfl
      | cons a b => exact decide_eq_false (by rw [List.length_cons]; omega))) xd.i (fun hb K1 H1 x1 => ?_) (fun hb K1 H1 x1 => ?_)
    · have e : pA xs xs.length = [] := List.isEmpty_iff.mp hb
      have e2 : lcF xs = none := lcF_is_none fun p hp => by
        have := mem_pA.mpr hp
        rw [e] at this
        cases this
      rw [e2] at q
      exact s_ret (ev_none ev_n) x1.i fun v K2 H2 x2 r2 => q v K2 H2 ((xd.trans x1).trans x2) r2
    · cases e : pA xs xs.length with
      | nil =>
        rw [e] at hb
        cases hb
      | cons p ps =>
        rw [e] at rl
        have e2 : lcF xs = some (mnP p ps) := lcF_is (mem_pA.mp (by rw [e]; exact mnP_in p ps)) fun y hy => mnP_le ps p y (by rw [← e]; exact mem_pA.mpr hy)
        rw [e2] at q
        exact s_ret (ev_some (ev_minP (ev_v rfl ((rL K (rP K rS rS)).mono x1.s rl)))) x1.i fun v K2 H2 x2 r2 => q v K2 H2 ((xd.trans x1).trans x2) r2
end
end NJ

set_option Elab.async false
set_option linter.all false
set_option maxRecDepth 100000
set_option maxHeartbeats 4000000
namespace NJ
open PySem PySem.Spec PyProof.Rows L2
section
variable {P : Program} {w : World} {K : PySem.W.Frag} {mg : Str → Option Value} {base : Heap}
section
variable {σ : L2.St} {Hm : Hp} {α β : Type} {R : Rp α} {S : Rp β} {te : TE}
/-- == of data -/
theorem rv_eqD {d e : α} {x y : PyData} (h1 : ∀ {H v}, R.rel H v d → Dp K H v x) (h2 : ∀ {H v}, R.rel H v e → Dp K H v y) (s1 : PySem.SeqAt.shaped x = true) (s2 : PySem.SeqAt.shaped y = true) : Rv (rEqD K) R d R e rB (PyData.eqv x y) := rv_now fun Hm H1 hi a b ra rb => ⟨.bl _, rfl, fun Q q => ⟨x, y, h1 (R.mono hi ra), h2 (R.mono hi rb), s1, s2, q⟩⟩
theorem rv_neD {d e : α} {x y : PyData} (h1 : ∀ {H v}, R.rel H v d → Dp K H v x) (h2 : ∀ {H v}, R.rel H v e → Dp K H v y) (s1 : PySem.SeqAt.shaped x = true) (s2 : PySem.SeqAt.shaped y = true) : Rv (rNeD K) R d R e rB (!PyData.eqv x y) := rv_now fun Hm H1 hi a b ra rb => ⟨.bl _, rfl, fun Q q => ⟨x, y, h1 (R.mono hi ra), h2 (R.mono hi rb), s1, s2, q⟩⟩
theorem dec_bl (a b : Bool) : decide (V.bl a = V.bl b) = decide (a = b) := by simp
theorem rv_eqB {a b : Bool} : Rv rEq rB a rB b rB (decide (a = b)) := rv_now fun Hm H1 _ x y rx ry => ⟨.bl (decide (a = b)), rfl, fun Q q => by
  rw [show x = V.bl a from rx, show y = V.bl b from ry]
  exact ⟨rfl, by rw [dec_bl]; exact q⟩⟩
theorem rv_neB {a b : Bool} : Rv rNe rB a rB b rB (!decide (a = b)) := rv_now fun Hm H1 _ x y rx ry => ⟨.bl (!decide (a = b)), rfl, fun Q q => by
  rw [show x = V.bl a from rx, show y = V.bl b from ry]
  exact ⟨rfl, by rw [dec_bl]; exact q⟩⟩
end
/-- a text or None as data -/
def dO : Option T8 → PyData
  | none => .none
  | some l => .str (tx l)
theorem dp_O {H : Hp} {v : V} {o : Option T8} (h : (rO rS).rel H v o) : Dp K H v (dO o) := by
  cases o with
  | none =>
    rw [show v = V.non from h]
    exact .non
  | some l =>
    rw [show v = V.str (tx l) from h]
    exact .str _
def shO (o : Option T8) : Prop := PySem.SeqAt.shaped (dO o) = true
theorem eqv_O (o : Option T8) : PyData.eqv (dO o) (dO o) = true := by
  cases o with
  | none => rfl
  | some l => exact (eqv_str l l).trans (decide_eq_true rfl)
/-- its type -/
def tO : Option T8 → Value
  | none => .type "NoneType"
  | some _ => .type "str"
theorem ty_O {H : Hp} {v : V} {o : Option T8} (h : (rO rS).rel H v o) : (rTy K).rel H v (tO o) := by
  cases o with
  | none =>
    rw [show v = V.non from h]
    exact .base .non
  | some l =>
    rw [show v = V.str (tx l) from h]
    exact .base (.str _)
theorem kit_O (o : Option T8) : PySem.W.kitAny K (tO o) [.type "tuple", .type "list"] = some false := by
  cases o
  · exact kitAny_cons (b := false) (kit_ty (by decide +kernel)) (fun _ => kitAny_cons (b := false) (kit_ty (by decide +kernel)) (fun _ => rfl) (fun h => by cases h)) (fun h => by cases h)
  · exact kitAny_cons (b := false) (kit_ty (by decide +kernel)) (fun _ => kitAny_cons (b := false) (kit_ty (by decide +kernel)) (fun _ => rfl) (fun h => by cases h)) (fun h => by cases h)
theorem kit_Ob (o : Option T8) : PySem.W.kitOne K (tO o) (.type "bool") = some false := by
  cases o
  · exact kit_ty (by decide +kernel)
  · exact kit_ty (by decide +kernel)
/-- _law_is of a text, or None, and itself -/
def spIs0 (K : PySem.W.Frag) : Sp := SpF (fun (o : Option T8) => a1 (rO rS) o (a1 (rO rS) o a0)) shO (fun _ => rB) (fun _ => true)
theorem ok_is0 (T : Tx K mg) : Fk P w K mg base CX0 1 (He.ga K "_law_is") ["_law_told_here", "_law_due"] (spIs0 K) := by
  refine k0_law_is T (spf_len fun _ => a1_len (a1_len a0_len)) (fun cdv A outer s H vs Q E hr h => ?_)
  refine ⟨_, (pss_cons (ps_if (pt_val (pe_callB call_isiT (by rfl) T.n_isinstance boot_isinstance (pa_cons (pv 1) (pa_cons (pe_tup (pa_cons (pe_bltn (v := .ty "tuple") (by rfl) T.n_tuple boot_tuple rfl) (pa_cons (pe_bltn (v := .ty "list") (by rfl) T.n_list boot_list rfl) pa_nil))) pa_nil)))) pss_dead pss_nil)
  (pss_one (ps_ret (pe_and (pe_cmpR op_eq (pe_callB call_isi (by rfl) T.n_isinstance boot_isinstance (pa_cons (pv 0) (pa_cons (pe_bltn (v := .ty "bool") (by rfl) T.n_bool boot_bool rfl) pa_nil))) (pe_callB call_isi (by rfl) T.n_isinstance boot_isinstance (pa_cons (pv 1) (pa_cons (pe_bltn (v := .ty "bool") (by rfl) T.n_bool boot_bool rfl) pa_nil))) (nomark _)) (pe_one (pe_cmpR (op_eqD hr.units) (pv 0) (pv 1) (nomark _))))))), ?_⟩
  obtain ⟨o, Hm, sh, ⟨v1, ws, rfl, r1, v2, ws2, rfl, r2, rfl⟩, hi, q⟩ := h
  refine q_when (et_test (ev_cb (ea_cons (ev_v rfl (ty_O r2)) (ea_cons (ev_tupX (ds := ["tuple", "list"].map V.ty) (ea_cons ev_ty (ea_cons ev_ty ea_nil)) (by decide)) ea_nil)) (rc_isiT (ns := ["tuple", "list"]) (kit_O o)))) hi (fun hb => by cases hb) (fun _ K1 H1 x1 => ?_)
  have r1a := (rO rS).mono x1.s r1
  have r2a := (rO rS).mono x1.s r2
  exact s_ret (Ev.is (ev_and (ev_op (ev_isi (ev_v rfl (ty_O r1a)) (kit_Ob o)) (ev_isi (ev_v rfl (ty_O r2a)) (kit_Ob o)) rv_eqB) fun _ => ev_op (ev_v (R := rO rS) rfl r1a) (ev_v (R := rO rS) rfl r2a) (rv_eqD (x := dO o) (y := dO o) dp_O dp_O sh sh)) (by rw [eqv_O]; rfl)) x1.i fun v K2 H2 x2 r => q v K2 H2 (x1.trans x2) r
/-- _law_is of what least_clash tells, and itself -/
def spIs (K : PySem.W.Frag) : Sp := SpF (fun (o : Option (T8 × T8)) => a1 (rO (rP K rS rS)) o (a1 (rO (rP K rS rS)) o a0)) (fun o => ∀ p, o = some p → shO (some p.1) ∧ shO (some p.2)) (fun _ => rB) (fun _ => true)
theorem rp_t {H : Hp} {v : V} {p : T8 × T8} (h : (rP K rS rS).rel H v p) : (rT K rS).rel H v [p.1, p.2] := by
  obtain ⟨a, x, y, e, hS, r1, r2⟩ := h
  exact ⟨a, [x, y], e, hS, .cons r1 (.cons r2 .nil)⟩
theorem kit_tupT : PySem.W.kitAny K (.type "tuple") [.type "tuple", .type "list"] = some true := kitAny_cons (b := true) (kit_ty (by decide +kernel)) (fun h => by cases h) (fun _ => rfl)
theorem kit_tup1 : PySem.W.kitOne K (.type "tuple") (.type "tuple") = some true := kit_ty (by decide +kernel)
theorem ok_is (T : Tx K mg) : Fk P w K mg base CX0 2 (He.ga K "_law_is") ["_law_told_here", "_law_due"] (spIs K) := by
  refine k0_law_is T (spf_len fun _ => a1_len (a1_len a0_len)) (fun cdv A outer s H vs Q E hr h => ?_)
  have F0 := ok_is0 (P := P) (w := w) (base := base) T
  obtain ⟨o, Hm, sh, ⟨v1, ws, rfl, r1, v2, ws2, rfl, r2, rfl⟩, hi, q⟩ := h
  cases o with
  | none =>
    refine ⟨_, (pss_cons (ps_if (pt_val (pe_callB call_isiT (by rfl) T.n_isinstance boot_isinstance (pa_cons (pv 1) (pa_cons (pe_tup (pa_cons (pe_bltn (v := .ty "tuple") (by rfl) T.n_tuple boot_tuple rfl) (pa_cons (pe_bltn (v := .ty "list") (by rfl) T.n_list boot_list rfl) pa_nil))) pa_nil)))) pss_dead pss_nil)
  (pss_one (ps_ret (pe_and (pe_cmpR op_eq (pe_callB call_isi (by rfl) T.n_isinstance boot_isinstance (pa_cons (pv 0) (pa_cons (pe_bltn (v := .ty "bool") (by rfl) T.n_bool boot_bool rfl) pa_nil))) (pe_callB call_isi (by rfl) T.n_isinstance boot_isinstance (pa_cons (pv 1) (pa_cons (pe_bltn (v := .ty "bool") (by rfl) T.n_bool boot_bool rfl) pa_nil))) (nomark _)) (pe_one (pe_cmpR (op_eqD hr.units) (pv 0) (pv 1) (nomark _))))))), ?_⟩
    have r1 : (rO rS).rel Hm v1 none := r1
    have r2 : (rO rS).rel Hm v2 none := r2
    refine q_when (et_test (ev_cb (ea_cons (ev_v rfl (ty_O r2)) (ea_cons (ev_tupX (ds := ["tuple", "list"].map V.ty) (ea_cons ev_ty (ea_cons ev_ty ea_nil)) (by decide)) ea_nil)) (rc_isiT (ns := ["tuple", "list"]) (kit_O none)))) hi (fun hb => by cases hb) (fun _ K1 H1 x1 => ?_)
    have r1a := (rO rS).mono x1.s r1
    have r2a := (rO rS).mono x1.s r2
    exact s_ret (Ev.is (ev_and (ev_op (ev_isi (ev_v rfl (ty_O r1a)) (kit_Ob none)) (ev_isi (ev_v rfl (ty_O r2a)) (kit_Ob none)) rv_eqB) fun _ => ev_op (ev_v (R := rO rS) rfl r1a) (ev_v (R := rO rS) rfl r2a) (rv_eqD (x := dO none) (y := dO none) dp_O dp_O rfl rfl)) (by rw [eqv_O]; rfl)) x1.i fun v K2 H2 x2 r => q v K2 H2 (x1.trans x2) r
  | some p =>
    refine ⟨_, (pss_cons (ps_if (pt_val (pe_callB call_isiT (by rfl) T.n_isinstance boot_isinstance (pa_cons (pv 1) (pa_cons (pe_tup (pa_cons (pe_bltn (v := .ty "tuple") (by rfl) T.n_tuple boot_tuple rfl) (pa_cons (pe_bltn (v := .ty "list") (by rfl) T.n_list boot_list rfl) pa_nil))) pa_nil)))) (pss_cons (ps_if (PW.pt (pw_or (pt_cmpR op_ne (pe_callB call_isi (by rfl) T.n_isinstance boot_isinstance (pa_cons (pv 0) (pa_cons (pe_bltn (v := .ty "tuple") (by rfl) T.n_tuple boot_tuple rfl) pa_nil))) (pe_callB call_isi (by rfl) T.n_isinstance boot_isinstance (pa_cons (pv 1) (pa_cons (pe_bltn (v := .ty "tuple") (by rfl) T.n_tuple boot_tuple rfl) pa_nil))) (nomark _)) (pw_or1 (pt_not (pt_val (pe_callB call_isiT (by rfl) T.n_isinstance boot_isinstance (pa_cons (pv 0) (pa_cons (pe_tup (pa_cons (pe_bltn (v := .ty "tuple") (by rfl) T.n_tuple boot_tuple rfl) (pa_cons (pe_bltn (v := .ty "list") (by rfl) T.n_list boot_list rfl) pa_nil))) pa_nil)))))))) (pss_one (ps_ret pe_bl)) pss_nil)
  (pss_one (ps_ret (pe_and (pe_cmpR op_eq (pe_callB call_len (by rfl) T.n_len boot_len (pa_cons (pv 0) pa_nil)) (pe_callB call_len (by rfl) T.n_len boot_len (pa_cons (pv 1) pa_nil)) (nomark _)) (pe_one (pe_callB (cr_all rfl) (by rfl) T.n_all boot_all (pa_cons (pe_lc (g := gTup K 2 (gCons (gName 2) (gCons (gName 3) gNil))) (own := [("_law_one", 2), ("_law_two", 3)]) rfl c_law_is.nd (RZ.pi_zipA (by rfl) T.n_zip (pa_cons (pv 0) (pa_cons (pv 1) pa_nil))) (blkOk_by (N := ["_law_told_here", "_law_due", "_law_one", "_law_two"]) (sc := defScope s_law_is) (by decide +kernel)) (fun _ _ _ _ _ => (pg_tup rfl (pgs_cons (pg_name (i := 2) c_law_is.nd rfl (by first | exact Or.inl rfl | exact Or.inr rfl)) (pgs_cons (pg_name (i := 3) c_law_is.nd rfl (by first | exact Or.inl rfl | exact Or.inr rfl)) pgs_nil)))) (fun _ _ _ _ _ => pts_nil) (fun _ _ _ _ _ => (pe_fk F0 (hr.mono (by decide)) T.g_law_is pass0 (pa_cons (pv 2) (pa_cons (pv 3) pa_nil))))) pa_nil))))))) pss_nil)
  (pss_one (ps_ret (pe_and (pe_cmpR op_eq (pe_callB call_isi (by rfl) T.n_isinstance boot_isinstance (pa_cons (pv 0) (pa_cons (pe_bltn (v := .ty "bool") (by rfl) T.n_bool boot_bool rfl) pa_nil))) (pe_callB call_isi (by rfl) T.n_isinstance boot_isinstance (pa_cons (pv 1) (pa_cons (pe_bltn (v := .ty "bool") (by rfl) T.n_bool boot_bool rfl) pa_nil))) (nomark _)) (pe_one (pe_cmpR (op_eqD hr.units) (pv 0) (pv 1) (nomark _))))))), ?_⟩
    have t1 : (rT K rS).rel Hm v1 [p.1, p.2] := rp_t r1
    have t2 : (rT K rS).rel Hm v2 [p.1, p.2] := rp_t r2
    refine q_when (et_test (ev_cb (ea_cons (ev_v rfl (ty_rt t2)) (ea_cons (ev_tupX (ds := ["tuple", "list"].map V.ty) (ea_cons ev_ty (ea_cons ev_ty ea_nil)) (by decide)) ea_nil)) (rc_isiT (ns := ["tuple", "list"]) kit_tupT))) hi (fun _ K1 H1 x1 => ?_) (fun hb => by cases hb)
    have t1a := (rT K rS).mono x1.s t1
    have t2a := (rT K rS).mono x1.s t2
    refine q_when (et_or (et_test (ev_op (ev_isi (ev_v rfl (ty_rt t1a)) kit_tup1) (ev_isi (ev_v rfl (ty_rt t2a)) kit_tup1) rv_neB)) fun _ => et_not (et_test (ev_cb (ea_cons (ev_v rfl (ty_rt t1a)) (ea_cons (ev_tupX (ds := ["tuple", "list"].map V.ty) (ea_cons ev_ty (ea_cons ev_ty ea_nil)) (by decide)) ea_nil)) (rc_isiT (ns := ["tuple", "list"]) kit_tupT)))) x1.i (fun hb => by cases hb) (fun _ K2 H2 x2 => ?_)
    have t1b := (rT K rS).mono x2.s t1a
    have t2b := (rT K rS).mono x2.s t2a
    exact s_ret (Ev.is (ev_and (ev_op (ev_cb (ea_cons (ev_v rfl t1b) ea_nil) rc_lenT) (ev_cb (ea_cons (ev_v rfl t2b) ea_nil) rc_lenT) rv_eqI) fun _ => ev_cb (ea_cons (ev_lc0 (K := K) (S := rB) (fun _ => true) (wk_zipT (R := rS) (S := rS) (ea_cons (ev_v rfl t1b) (ea_cons (ev_v rfl t2b) ea_nil))) (by simp) fun d hd v K3 s3 r3 => by
      obtain ⟨x, y, ra, rb, tk⟩ := tk_pair (σ := wipe _ _) (i := 2) (j := 3) r3
      refine ⟨_, tk, rfl, ?_⟩
      have e : d.1 = d.2 := by
        simp at hd
        rcases hd with rfl | rfl <;> rfl
      exact ev_call (x := some d.1) (by
        simp at hd
        rcases hd with rfl | rfl
        · exact (sh p rfl).1
        · exact (sh p rfl).2) (ea_cons (ev_v (R := rO rS) rfl ra) (ea_cons (ev_v (R := rO rS) rfl (show rS.rel K3 y d.1 from e ▸ rb)) ea_nil))) ea_nil) rc_all) (by simp)) x2.i fun v K3 H3 x3 r => q v K3 H3 ((x1.trans x2).trans x3) r
end
end NJ

set_option Elab.async false
set_option linter.all false
set_option maxRecDepth 100000
set_option maxHeartbeats 4000000
namespace NJ
open PySem PySem.Spec PyProof.Rows L2
section
variable {P : Program} {w : World} {K : PySem.W.Frag} {mg : Str → Option Value} {base : Heap}
/-! ### _law_told -/
def none4 : T8 := (Str.ofString "none").cps.toList
/-- a pair, None, or the text none -/
def rTold (K : PySem.W.Frag) : Rp (Option (Option (T8 × T8))) := ⟨fun H v r => (match r with | none => v = .str (tx none4) | some o => (rO (rP K rS rS)).rel H v o), fun {H H' v d} s h => by
  cases d with
  | none => exact h
  | some o => exact (rO (rP K rS rS)).mono s h⟩
def spTold (K : PySem.W.Frag) : Sp := SpF (fun (x : Th) => aTh K x) (okW K) (fun _ => rTold K) ansF
theorem ok_told (T : Tx K mg) : Fk P w K mg base CX0 4 (He.ga K "_law_told") ["_law_thing"] (spTold K) := by
  refine k0_law_told T (spf_len fun x => aTh_len x) (fun cdv A outer s H vs Q E hr h => ?_)
  obtain ⟨fdC, FC, bC⟩ := (ok_clash (P := P) (w := w) (base := base) T).ex
  have kC := (ok_clash (P := P) (w := w) (base := base) T).kp
  refine ⟨_, (pss_cons (ps_set (i := 1) c_law_told.nd rfl (by first | exact Or.inl rfl | exact Or.inr rfl) pe_str)
    (pss_cons (ps_try_only (tb := fun W => tAsg (tCallS (spClash K) (WE W) (tCons (tVar 0) tNil)) (gName 1)) (ts := fun _ _ _ => tAsg (tC (.str (Str.ofString "none"))) (gName 1)) (Wout := fun _ _ _ _ => False) rfl rfl ⟨rfl, by decide, Or.inl T.g_NoTexts⟩ takes0
      (fun W pn xe tk _ => pss_one (ps_set (i := 1) c_law_told.nd rfl (by first | exact Or.inl rfl | exact Or.inr rfl) (pe_callS FC hr rfl T.g_clash kC bC (fun σ => passAt tk σ) (by exact (pa_cons (pv 0) pa_nil)))))
      (fun _ _ _ _ _ _ _ => pss_one (ps_set (i := 1) c_law_told.nd rfl (by first | exact Or.inl rfl | exact Or.inr rfl) pe_str)))
    (pss_one (ps_ret (pv 1))))), ?_⟩
  obtain ⟨x, Hm, ok, a, hi, q⟩ := h
  have hl := aTh_len x Hm vs a
  obtain ⟨v, rfl⟩ : ∃ v, vs = [v] := by
    match vs, hl with
    | [v], _ => exact ⟨v, rfl⟩
  refine q_set ev_s hi fun v1 K1 H1 x1 r1 => ?_
  refine ⟨_, rfl, x, Hm, ok, a, hi.trans x1.k, ?_⟩
  cases e : ansF x with
  | some r =>
    rw [e] at q
    exact fun u K2 H2 x2 r2 => s_ret (ev_v (R := rO (rP K rS rS)) (d := r) rfl r2) x2.i fun u2 K3 H3 x3 r3 => q u2 K3 H3 ⟨x2.s.trans x3.s, x3.i, (x1.k.trans x2.k).trans x3.k, fun p hp => by
      rcases x3.f p hp with z | z
      · rcases x2.f p z with z | z
        · exact .inl z
        · exact .inr (none_back x1.k z)
      · exact .inr (none_back (x1.k.trans x2.k) z)⟩ r3
  | none =>
    rw [e] at q
    refine fun K2 H2 x2 => ⟨true, T.em_NoTexts_NoTexts, fun _ a2 na => ?_, fun h => by cases h⟩
    exact s_ret (ev_v (R := rS) (d := none4) rfl rfl) x2.i fun u2 K3 H3 x3 r3 => q u2 K3 H3 ⟨x2.s.trans x3.s, x3.i, (x1.k.trans x2.k).trans x3.k, fun p hp => by
      rcases x3.f p hp with z | z
      · rcases x2.f p z with z | z
        · exact .inl z
        · exact .inr (none_back x1.k z)
      · exact .inr (none_back (x1.k.trans x2.k) z)⟩ r3
end
end NJ

set_option Elab.async false
set_option linter.all false
set_option maxRecDepth 100000
set_option maxHeartbeats 4000000
namespace NJ
open PySem PySem.Spec PyProof.Rows L2
section
variable {P : Program} {w : World} {K : PySem.W.Frag} {mg : Str → Option Value} {base : Heap}
/-! ### _law_texts -/
def ltr (l : T8) : Prop := ∀ c ∈ l, 97 ≤ c ∧ c ≤ 122
def okB (n : Nat) (l : T8) : Prop := l ≠ [] ∧ l.length ≤ n ∧ ltr l
def abc : T8 := (Str.ofString "abc").cps.toList
theorem abc_ltr : ∀ c ∈ abc, 97 ≤ c ∧ c ≤ 122 := by decide +kernel
theorem ltr_app {a b : T8} (h : ltr a) (g : ltr b) : ltr (a ++ b) := fun c hc => by
  rcases List.mem_append.mp hc with z | z
  · exact h c z
  · exact g c z
theorem okB_app {a b : T8} {m n : Nat} (h : okB m a) (g : okB n b) : okB (m + n) (a ++ b) := ⟨fun e => h.1 (List.append_eq_nil_iff.mp e).1, by
  rw [List.length_append]
  have := h.2.1
  have := g.2.1
  omega, ltr_app h.2.2 g.2.2⟩
theorem okB.le {a : T8} {m n : Nat} (h : okB m a) (g : m ≤ n) : okB n a := ⟨h.1, Nat.le_trans h.2.1 g, h.2.2⟩
theorem okB_drop {a : T8} {n i : Nat} (h : okB n a) (g : i < a.length) : okB n (a.drop i) := ⟨fun e => by
  have := congrArg List.length e
  rw [List.length_drop, List.length_nil] at this
  omega, by
  rw [List.length_drop]
  have := h.2.1
  omega, fun c hc => h.2.2 c (List.mem_of_mem_drop hc)⟩
theorem okB_take {a : T8} {n k : Nat} (h : okB n a) (g : 0 < k) : okB k (a.take k) := ⟨fun e => by
  have e2 := congrArg List.length e
  rw [List.length_take, List.length_nil] at e2
  have h1 := h.1
  cases a with
  | nil => exact h1 rfl
  | cons x xs =>
    rw [List.length_cons] at e2
    omega, by
  rw [List.length_take]
  exact Nat.min_le_left _ _, fun c hc => h.2.2 c (List.mem_of_mem_take hc)⟩
def okTs (xs : List T8) : Prop := xs.length ≤ 9 ∧ ∀ x ∈ xs, okB 60 x
def spTexts (K : PySem.W.Frag) : Sp := SpF (fun (cs : List Int) => a1 rHand cs a0) (fun _ => True) (fun _ => rE (rM rS) okTs) (fun _ => ())
/-- a list of such: what it holds -/
theorem paired_choose {H : Hp} {P : T8 → Prop} : ∀ {vs : List V} {us : List Unit}, Paired ((rE rS P).rel H) vs us → ∃ xs : List T8, xs.length = us.length ∧ (∀ x ∈ xs, P x) ∧ Paired (rS.rel H) vs xs
  | _, _, .nil => ⟨[], rfl, fun c h => (by cases h), .nil⟩
  | _, _, .cons ⟨x, e, hx⟩ r => by
    obtain ⟨xs, h1, h2, h3⟩ := paired_choose r
    refine ⟨x :: xs, by rw [List.length_cons, List.length_cons, h1], fun y hy => ?_, .cons e h3⟩
    rcases List.mem_cons.mp hy with z | z
    · rw [z]
      exact hx
    · exact h2 y z
theorem ok_texts (T : Tx K mg) : Fk P w K mg base CX0 3 (He.ga K "_law_texts") ["_law_hand_here"] (spTexts K) := by
  refine k0_law_texts T (spf_len fun _ => a1_len a0_len) (fun cdv A outer s H vs Q E hr h => ?_)
  refine ⟨_, (pss_cons (ps_set (i := 1) c_law_texts.nd rfl (by first | exact Or.inl rfl | exact Or.inr rfl) (pe_lst pa_nil))
  (pss_cons (ps_for PassesOwn.never rfl (pi_range1 (by rfl) T.n_range (pa_cons (pe_fk (ok_draw T) (hr.mono (by decide)) T.g_law_draw pass0 (pa_cons (pv 0) (pa_cons pe_int pa_nil))) pa_nil)) (pg_name (i := 2) c_law_texts.nd rfl (by first | exact Or.inl rfl | exact Or.inr rfl)) (pss_cons (ps_set (i := 3) c_law_texts.nd rfl (by first | exact Or.inl rfl | exact Or.inr rfl) (pe_join pe_str (pe_lc (own := [("_law_k", 5)]) rfl c_law_texts.nd (pi_range1 (by rfl) T.n_range (pa_cons (pe_op op_add pe_int (pe_fk (ok_draw T) (hr.mono (by decide)) T.g_law_draw pass0 (pa_cons (pv 0) (pa_cons pe_int pa_nil)))) pa_nil)) (blkOk_by (N := ["_law_hand_here", "_law_found", "_law_turn", "_law_text", "_law_old", "_law_k"]) (sc := defScope s_law_texts) (by decide +kernel)) (fun _ _ _ _ _ => (pg_name (i := 5) c_law_texts.nd rfl (by first | exact Or.inl rfl | exact Or.inr rfl))) (fun _ _ _ _ _ => pts_nil) (fun _ _ _ _ _ => (pe_fk (ok_some T) (hr.mono (by decide)) T.g_law_some pass0 (pa_cons (pv 0) (pa_cons pe_str pa_nil)))))))
  (pss_cons (ps_if (PW.pt (pw_and (pt_cmpR op_gt (pe_callB call_len (by rfl) T.n_len boot_len (pa_cons (pv 1) pa_nil)) pe_int (nomark _)) (pw_and1 (pt_cmpR op_eq (pe_fk (ok_draw T) (hr.mono (by decide)) T.g_law_draw pass0 (pa_cons (pv 0) (pa_cons pe_int pa_nil))) pe_int (nomark _))))) (pss_cons (ps_set (i := 4) c_law_texts.nd rfl (by first | exact Or.inl rfl | exact Or.inr rfl) (pe_fk (ok_some T) (hr.mono (by decide)) T.g_law_some pass0 (pa_cons (pv 0) (pa_cons (pv 1) pa_nil))))
  (pss_one (ps_set (i := 3) c_law_texts.nd rfl (by first | exact Or.inl rfl | exact Or.inr rfl) (pe_ix ix_list (pe_lst (pa_cons (pe_op op_add_str (pv 4) (pv 3)) (pa_cons (pe_op op_add_str (pv 3) (pv 4)) (pa_cons (pv 4) (pa_cons (pe_slice sl_str (pv 4) (po_some (pe_fk (ok_draw T) (hr.mono (by decide)) T.g_law_draw pass0 (pa_cons (pv 0) (pa_cons (pe_callB call_len (by rfl) T.n_len boot_len (pa_cons (pv 4) pa_nil)) pa_nil)))) po_none) pa_nil))))) (pe_fk (ok_draw T) (hr.mono (by decide)) T.g_law_draw pass0 (pa_cons (pv 0) (pa_cons pe_int pa_nil))) (fun _ _ => rfl))))) pss_nil)
  (pss_one (ps_expr (pe_bm PySem.F.plainAttrs_list PySem.F.slot_list_append PySem.F.type_list_append mt_append (pv 1) (pa_cons (pe_slice sl_str (pv 3) po_none (po_some pe_int)) pa_nil)))))))
  (pss_one (ps_ret (pv 1))))), ?_⟩
  obtain ⟨cs, Hm, _, ⟨v, ws, rfl, r, rfl⟩, hi, q⟩ := h
  refine q_new fun f nf => ?_
  have c0 := Ci.new (S := rE rS (okB 60)) hi nf
  refine q_rngE (ev_draw (ev_v rfl r) ev_i (by decide) (by decide)) c0.i fun n K1 H1 hn x1 => ?_
  have c1 := c0.ext x1
  have r1 := rHand.mono x1.s r
  have n0 := hn.1
  have n1 := hn.2
  refine q_forC (Y := fun i => List.replicate i ()) (fun σ' => ∃ o2 o3 o4 o5, σ' = [some v, some (.ref f), o2, o3, o4, o5]) (wk_rngC (by omega) (by omega)) c1 ⟨_, _, _, _, rfl⟩ ?step ?done
  case done =>
    rintro σ' Ki us H' ⟨o2, o3, o4, o5, rfl⟩ c sa
    obtain ⟨xd, rm⟩ := c.done nf
    obtain ⟨a, vs, e, hS, hP⟩ := rm
    obtain ⟨xs, h1, h2, h3⟩ := paired_choose hP
    rw [List.length_replicate, nums_len] at h1
    have rx : (rM rS).rel (upd Ki f (.lst us)) (.ref f) xs := ⟨a, vs, e, hS, h3⟩
    exact s_ret (ev_v (R := rM rS) rfl rx) xd.i fun u K2 H2 x2 r2 => q u K2 H2 (xd.trans x2) ⟨xs, r2, by omega, h2⟩
  case step =>
    rintro i d σ' Ki us H' u hd ⟨o2, o3, o4, o5, rfl⟩ c sa ru N hN
    have hil : i < 10 := by
      have := (List.getElem?_eq_some_iff.mp hd).1
      rw [nums_len] at this
      omega
    have rh := rHand.mono sa r1
    -- the text
    refine q_set (ev_join (l := abc) (Pu := fun us => 0 < us.length ∧ us.length ≤ 5) (P2 := okB 5) (ev_lc_rngE (P := fun m => 0 < m ∧ m ≤ 5) (ev_opE (T := rI) ev_i (ev_draw (ev_v rfl rh) ev_i (by decide) (by decide)) fun e he => ⟨1 + e, by have := he.1; have := he.2; omega, rv_i0⟩) fun m K3 hm s3 => (ev_lc0 (K := K) (S := rE rC (fun c => c ∈ abc)) (fun _ => ()) (wk_rngC (by omega) (by omega)) (by rw [nums_len]; omega) fun d hd u K4 s4 ru => ⟨_, tk_name, rfl, ev_someS (ev_v rfl (rHand.mono (s3.trans s4) rh)) ev_s (by decide +kernel) (by decide +kernel)⟩).some_ (by rw [List.length_map, nums_len]; omega)) (fun us hu => by omega) (fun us cs hu h1 h2 => ⟨fun e => by rw [e, List.length_nil] at h1; omega, by omega, fun c hc => abc_ltr c (h2 c hc)⟩) (by decide +kernel)) c.i fun v3 K3 H3 x3 r3 => ?_
    obtain ⟨t3, e3, ok3⟩ := r3
    have c3 := c.ext x3
    have rh3 := rHand.mono x3.s rh
    obtain ⟨xd, rm⟩ := c3.done nf
    have rfd : (rL K (rE rS (okB 60))).rel (upd K3 f (.lst us)) (.ref f) (List.replicate i ()) := rm_l rm
    have rhd : rHand.rel (upd K3 f (.lst us)) v cs := rHand.mono (fun b o e => by rw [upd_ne (ne_of_none e c3.n)]; exact e) rh3
    refine q_whenNJ (P := fun b => b = true → decide (0 < (List.replicate i ()).length) = true ∧ True) (Hm := upd K3 f (.lst us)) (fun σ' H' => ∃ o4 o5 v3 t3, σ' = [some v, some (.ref f), some u, some v3, o4, o5] ∧ v3 = .str (tx t3) ∧ okB 200 t3 ∧ Same H3 H') (en_and (Et.is (et_test (ev_op (ev_cb (ea_cons (ev_v rfl rfd) ea_nil) rc_lenL) ev_i rv_b0)) (by rw [decide_eq_decide]; omega)) fun _ => en_test (P := fun _ => True) (ev_opE2 (T := rB) (ev_draw (ev_v rfl rhd) ev_i (by decide) (by decide)) ev_i fun e _ => ⟨_, trivial, rv_eqI⟩)) xd.i ?tail (fun tail hb K4 H4 x4 => ?yes) (fun hb K4 H4 x4 => ⟨_, _, v3, t3, rfl, e3, ok3.le (by decide), x4.k⟩)
    case tail =>
      rintro σ' H' ⟨o4, o5, v3, t3, rfl, rfl, ok, hk⟩
      have c5 := c3.keep hk
      refine s_appC (d := ()) (K := K) rfl c5 nf ((Ev.some_ (Ev.is (ev_slS (ev_v (R := rS) (d := t3) rfl rfl) eo_none (eo_some ev_i) (by have := ok.2.1; omega)) (cut_take t3 60)) (okB_take ok (by decide)))) (by rw [List.length_replicate]; omega) fun K1 vs1 H1 c6 s6 => hN _ K1 vs1 H1 ⟨_, _, _, _, rfl⟩ ?_ (x3.s.trans s6)
      rw [List.replicate_succ']
      exact c6
    case yes =>
      have hi0 : 0 < i := by
        have := (hb rfl).1
        rw [List.length_replicate] at this
        exact of_decide_eq_true this
      refine q_set (ev_someL (R := rE rS (okB 60)) (ev_v rfl (rHand.mono x4.s rhd)) (ev_v rfl ((rL K (rE rS (okB 60))).mono x4.s rfd)) (by rw [List.length_replicate]; omega) (by rw [List.length_replicate]; omega)) x4.i fun v4 K5 H5 x5 r5 => ?_
      obtain ⟨_, ⟨old, e4, ok4⟩, _⟩ := r5
      have e4 : v4 = .str (tx old) := e4
      have e3 : v3 = .str (tx t3) := e3
      have l4 := ok4.2.1
      have l3 := ok3.2.1
      have n4 : 0 < old.length := List.length_pos_iff.mpr ok4.1
      have hk5 := (rHand.mono (x4.s.trans x5.s) rhd)
      have ev4 : Ev (tVar 4) [some v, some (.ref f), some u, some v3, some v4, o5] K5 rS old := ev_v rfl e4
      have ev3 : Ev (tVar 3) [some v, some (.ref f), some u, some v3, some v4, o5] K5 rS t3 := ev_v rfl e3
      refine s_set (ev_opE0 (R := rL K (rE rS (okB 200))) (d := [(), (), (), ()]) (T := rE rS (okB 200)) (z := ()) (ev_lst (ea_cons ((ev_op ev4 ev3 (rv_addS (by omega))).some_ ((okB_app ok4 ok3).le (by decide))) (ea_cons ((ev_op ev3 ev4 (rv_addS (by omega))).some_ ((okB_app ok3 ok4).le (by decide))) (ea_cons (ev4.some_ (ok4.le (by decide))) (ea_cons (ev_slSE ev4 (ev_draw (ev_v rfl hk5) (ev_cb (ea_cons ev4 ea_nil) (rc_lenS (by omega))) (by omega) (by omega)) (by omega) fun e he => ?_) ea_nil)))) (by decide)) (ev_draw (ev_v rfl hk5) ev_i (by decide) (by decide)) fun e he => ?_) x5.i fun v6 K6 H6 x6 r6 => ?_
      · obtain ⟨j, rfl⟩ : ∃ j : Nat, e = (j : Int) := ⟨e.toNat, by have := he.1; omega⟩
        rw [cut_drop]
        exact (okB_drop ok4 (by have := he.2; omega)).le (by decide)
      · refine rv_ixL (j := e.toNat) (by have := he.1; omega) ?_
        have h4 : e.toNat < 4 := by have := he.1; have := he.2; omega
        have : ∀ j, j < 4 → [(), (), (), ()][j]? = some () := by decide
        exact this _ h4
      · obtain ⟨t6, e6, ok6⟩ := r6
        exact tail _ _ ⟨_, _, v6, t6, rfl, e6, ok6, (x4.k.trans x5.k).trans x6.k⟩
end
end NJ

set_option Elab.async false
set_option linter.all false
set_option maxRecDepth 100000
set_option maxHeartbeats 4000000
namespace NJ
open PySem PySem.Spec PyProof.Rows L2
section
variable {P : Program} {w : World} {K : PySem.W.Frag} {mg : Str → Option Value} {base : Heap}
section
variable {σ : L2.St} {Hm : Hp} {α β γ : Type} {R : Rp α} {S : Rp β} {T : Rp γ} {te tk : TE} {t : TA} {A : Ar} {d : α} {e : β} {z : γ}
theorem Ev.any_ (h : Ev te σ Hm R d) : Ev te σ Hm (rE rV fun _ => True) () := fun H1 hi Q q => h H1 hi Q fun v K2 H2 x2 r => q v K2 H2 x2 ⟨v, rfl, trivial⟩
/-- a display's type -/
theorem ev_tupT (h : Ea t σ Hm A) (hl : ∀ H vs, A.rel H vs → vs.length ≤ 100) : Ev (tTup t) σ Hm (rTy K) (.type "tuple") := fun H1 hi Q q => h H1 hi _ fun vs K2 H2 x2 r => ⟨Nat.le_trans (hl _ _ r) (by rw [sizeLine_eq]; decide), fun p np => q (.ref p) _ _ (xt_ref x2 np) (.base (.tup upd_same))⟩
theorem ev_lstT (h : Ea t σ Hm A) (hl : ∀ H vs, A.rel H vs → vs.length ≤ 100) : Ev (tLst t) σ Hm (rTy K) (.type "list") := fun H1 hi Q q => h H1 hi _ fun vs K2 H2 x2 r => ⟨Nat.le_trans (hl _ _ r) (by rw [sizeLine_eq]; decide), fun p np => q (.ref p) _ _ (xt_ref x2 np) (.base (.lst upd_same))⟩
theorem len_of {n : Nat} (h : ∀ H vs, A.rel H vs → vs.length = n) (g : n ≤ 100) : ∀ H vs, A.rel H vs → vs.length ≤ 100 := fun H vs k => by
  rw [h H vs k]
  exact g
/-- a thing of another type is no text -/
theorem Ev.noText {ty : Value} (h : Ev te σ Hm (rTy K) ty) (k : PySem.W.kitOne K ty (.type "str") = some false) : Ev te σ Hm (rTh K) none := fun H1 hi Q q => h H1 hi Q fun v K2 H2 x2 r => q v K2 H2 x2 ⟨ty, r, k⟩
/-- one of three -/
theorem ev_pick0 (h : Ea t σ Hm (a1 R d (a1 S e (a1 T z a0)))) (hk : Ev tk σ Hm rI 0) : Ev (tOp (rIxL K) (tLst t) tk) σ Hm R d := fun H1 hi Q q => h H1 hi _ fun vs K2 H2 x2 ⟨v, ws, e1, r1, v2, ws2, e2, r2, v3, ws3, e3, r3, e4⟩ => ⟨by rw [e1, e2, e3, show ws3 = [] from e4]; show 3 ≤ sizeLine; rw [sizeLine_eq]; decide, fun p np =>
  hk.mono (x2.s.trans (Xt.new x2.i np).s) _ (Xt.new x2.i np).i _ fun u K3 H3 x3 ru => ⟨p, vs, 0, v, rfl, ru, .inl (.inl (x3.k _ _ upd_same)), by rw [e1]; exact atI_nat (j := 0) rfl, q v K3 H3 ((xt_ref x2 np).trans x3) (R.mono ((Xt.new x2.i np).s.trans x3.s) r1)⟩⟩
theorem ev_pick2 (h : Ea t σ Hm (a1 R d (a1 S e (a1 T z a0)))) (hk : Ev tk σ Hm rI 2) : Ev (tOp (rIxL K) (tLst t) tk) σ Hm T z := fun H1 hi Q q => h H1 hi _ fun vs K2 H2 x2 ⟨v, ws, e1, r1, v2, ws2, e2, r2, v3, ws3, e3, r3, e4⟩ => ⟨by rw [e1, e2, e3, show ws3 = [] from e4]; show 3 ≤ sizeLine; rw [sizeLine_eq]; decide, fun p np =>
  hk.mono (x2.s.trans (Xt.new x2.i np).s) _ (Xt.new x2.i np).i _ fun u K3 H3 x3 ru => ⟨p, vs, 2, v3, rfl, ru, .inl (.inl (x3.k _ _ upd_same)), by rw [e1, e2, e3]; exact atI_nat (j := 2) rfl, q v3 K3 H3 ((xt_ref x2 np).trans x3) (T.mono ((Xt.new x2.i np).s.trans x3.s) r3)⟩⟩
end
def rDeep (K : PySem.W.Frag) : Bool → Rp Unit
  | false => rE (rTy K) (fun t => t = .type "tuple")
  | true => rE (rL K (rTh K)) (fun xs => xs = [none])
def kDeep : Bool → Int
  | false => 0
  | true => 2
def spDeep (K : PySem.W.Frag) : Sp := SpF (fun (b : Bool) => a1 rI (kDeep b) a0) (fun _ => True) (rDeep K) (fun _ => ())
theorem kit_lst_str : PySem.W.kitOne K (.type "list") (.type "str") = some false := kit_ty (by decide +kernel)
theorem kit_tup_str : PySem.W.kitOne K (.type "tuple") (.type "str") = some false := kit_ty (by decide +kernel)
theorem ok_deep (T : Tx K mg) : Fk P w K mg base CX0 1 (He.ga K "_law_deep") ["_law_kind"] (spDeep K) := by
  refine k0_law_deep T (spf_len fun _ => a1_len a0_len) (fun cdv A outer s H vs Q E hr h => ?_)
  refine ⟨_, (pss_cons (ps_set (i := 1) c_law_deep.nd rfl (by first | exact Or.inl rfl | exact Or.inr rfl) (pe_tup pa_nil))
  (pss_cons (ps_for PassesOwn.never rfl (pi_range1 (by rfl) T.n_range (pa_cons pe_int pa_nil)) (pg_name (i := 2) c_law_deep.nd rfl (by first | exact Or.inl rfl | exact Or.inr rfl)) (pss_one (ps_set (i := 1) c_law_deep.nd rfl (by first | exact Or.inl rfl | exact Or.inr rfl) (pe_ix ix_list (pe_lst (pa_cons (pe_tup (pa_cons pe_str (pa_cons (pe_tup (pa_cons (pv 1) pa_nil)) pa_nil))) (pa_cons (pe_tup (pa_cons (pe_tup (pa_cons (pv 1) pa_nil)) pa_nil)) (pa_cons (pe_lst (pa_cons (pe_lst (pa_cons (pv 1) pa_nil)) pa_nil)) pa_nil)))) (pv 0) (fun _ _ => rfl)))))
  (pss_one (ps_ret (pv 1))))), ?_⟩
  obtain ⟨b, Hm, _, ⟨v, ws, rfl, r, rfl⟩, hi, q⟩ := h
  refine q_set (ev_tup (K := K) (R := rV) (ds := []) ea_nil (by decide)).any_ hi fun v1 K1 H1 x1 r1 => ?_
  refine q_for (wk_rngC (n := 18) (by decide) (by decide)) x1.i fun K2 H2 x2 => ⟨fun i σ' H' => ∃ u o2 Ki, σ' = [some v, some u, o2] ∧ Xt K2 H2 Ki H' ∧ (0 < i → (rDeep K b).rel Ki u ()), ⟨v1, none, K2, rfl, Xt.refl x2.i, fun h => absurd h (Nat.lt_irrefl 0)⟩, fun i σ' H' ⟨_, _, _, _, x, _⟩ => x.s.trans x.i, ?_, ?_⟩
  · rintro i d σ' H' u2 K4 H4 hd ⟨u, o2, Ki, rfl, x, _⟩ x4 r4
    have x5 : Xt Ki H' (uni Ki K4) H4 := Xt.lift x.s x.i x4
    have ev1 : Ev (tVar 1) ([some v, some u, o2].set 2 (some u2)) (uni Ki K4) rV u := ev_v rfl rfl
    have ea : Ea (tCons (tTup (tCons (tC (.str (Str.ofString "room"))) (tCons (tTup (tCons (tVar 1) tNil)) tNil))) (tCons (tTup (tCons (tTup (tCons (tVar 1) tNil)) tNil)) (tCons (tLst (tCons (tLst (tCons (tVar 1) tNil)) tNil)) tNil))) ([some v, some u, o2].set 2 (some u2)) (uni Ki K4) (a1 (rTy K) (.type "tuple") (a1 (rTy K) (.type "tuple") (a1 (rL K (rTh K)) [none] a0))) :=
      ea_cons (ev_tupT (ea_cons ev_s (ea_cons (ev_tupT (K := K) (ea_cons ev1 ea_nil) (len_of (a1_len a0_len) (by decide))) ea_nil)) (len_of (a1_len (a1_len a0_len)) (by decide)))
        (ea_cons (ev_tupT (ea_cons (ev_tupT (K := K) (ea_cons ev1 ea_nil) (len_of (a1_len a0_len) (by decide))) ea_nil) (len_of (a1_len a0_len) (by decide)))
        (ea_cons (ev_lst (ds := [none]) (ea_cons ((ev_lstT (K := K) (ea_cons ev1 ea_nil) (len_of (a1_len a0_len) (by decide))).noText kit_lst_str) ea_nil) (by decide)) ea_nil))
    have evk : ∀ k, kDeep b = k → Ev (tVar 0) ([some v, some u, o2].set 2 (some u2)) (uni Ki K4) rI k := fun k e => ev_v rfl (by rw [← e]; exact r)
    cases b with
    | false => exact s_set ((ev_pick0 ea (evk 0 rfl)).some_ rfl : Ev _ _ _ (rDeep K false) ()) x5.i fun v6 K6 H6 x6 r6 => ⟨v6, _, K6, rfl, (x.trans x5).trans x6, fun _ => r6⟩
    | true => exact s_set ((ev_pick2 ea (evk 2 rfl)).some_ rfl : Ev _ _ _ (rDeep K true) ()) x5.i fun v6 K6 H6 x6 r6 => ⟨v6, _, K6, rfl, (x.trans x5).trans x6, fun _ => r6⟩
  · rintro σ' H' ⟨u, o2, Ki, rfl, x, h⟩
    have hb := h (by rw [nums_len]; decide)
    exact s_ret (ev_v (R := rDeep K b) rfl hb) x.i fun v6 K6 H6 x6 r6 => q v6 K6 H6 (((x1.trans x2).trans x).trans x6) r6
end
end NJ

set_option Elab.async false
set_option linter.all false
set_option maxRecDepth 100000
set_option maxHeartbeats 4000000
namespace NJ
open PySem PySem.Spec PyProof.Rows L2
section
variable {P : Program} {w : World} {K : PySem.W.Frag} {mg : Str → Option Value} {base : Heap}
/-! the web of one point with one arrow back -/
def aT : T8 := [97]
def aV : List V := [.int 0, .str (tx aT), .int 0]
theorem ty_tupA {H : Hp} {a : Addr} {xs : List V} (h : SqT K H a xs) : TyX K H (.ref a) (.type "tuple") := by
  rcases h with (h | ⟨o, h⟩) | h
  · exact .base (.tup h)
  · exact .fTuple h
  · obtain ⟨o, its, n, h1, h2, _⟩ := h
    exact .kTuple h1 h2
theorem ty_rtA {α : Type} {R : Rp α} {Hm : Hp} {v : V} {xs : List α} (r : (rT K R).rel Hm v xs) : (rTy K).rel Hm v (.type "tuple") := by
  obtain ⟨a, vs, e, hS, hP⟩ := r
  rw [e]
  exact ty_tupA hS
theorem kit_tt : PySem.W.kitOne K (.type "tuple") (.type "tuple") = some true := kit_ty (by decide +kernel)
def spArrow (K : PySem.W.Frag) : Sp := SpF (fun (_ : Unit) => a1 rI 1 (a1 (rT K rV) aV a0)) (fun _ => True) (fun _ => rB) (fun _ => true)
theorem ok_is_arrow (T : Tx K mg) : Fk P w K mg base CX0 4 (He.ga K "is_arrow") ["points", "thing"] (spArrow K) := by
  refine k0_is_arrow T (spf_len fun _ => a1_len (a1_len a0_len)) (fun cdv A outer s H vs Q E hr h => ?_)
  refine ⟨_, (pss_cons (ps_if (PW.pt (pw_or (pt_not (pt_val (pe_callB call_isi (by rfl) T.n_isinstance boot_isinstance (pa_cons (pv 1) (pa_cons (pe_bltn (v := .ty "tuple") (by rfl) T.n_tuple boot_tuple rfl) pa_nil))))) (pw_or1 (pt_cmpR op_ne (pe_callB call_len (by rfl) T.n_len boot_len (pa_cons (pv 1) pa_nil)) pe_int (nomark _))))) (pss_one (ps_ret pe_bl)) pss_nil)
  (pss_cons (ps_asg (pv 1) (pg_tup rfl (pgs_cons (pg_name (i := 2) c_is_arrow.nd rfl (by first | exact Or.inl rfl | exact Or.inr rfl)) (pgs_cons (pg_name (i := 3) c_is_arrow.nd rfl (by first | exact Or.inl rfl | exact Or.inr rfl)) (pgs_cons (pg_name (i := 4) c_is_arrow.nd rfl (by first | exact Or.inl rfl | exact Or.inr rfl)) pgs_nil)))))
  (pss_cons (ps_if (PW.pt (pw_or (pt_not (pt_val (pe_fk (ok_is_number T) (hr.mono (by decide)) T.g_is_number pass0 (pa_cons pe_int (pa_cons (pe_op op_sub (pv 0) pe_int) (pa_cons (pv 2) pa_nil)))))) (pw_or1 (pt_not (pt_val (pe_fk (ok_is_number T) (hr.mono (by decide)) T.g_is_number pass0 (pa_cons pe_int (pa_cons (pe_op op_sub (pv 0) pe_int) (pa_cons (pv 4) pa_nil))))))))) (pss_one (ps_ret pe_bl)) pss_nil)
  (pss_one (ps_ret (pe_fk (ok_is_letter T) (hr.mono (by decide)) T.g_is_letter pass0 (pa_cons (pv 3) pa_nil))))))), ?_⟩
  obtain ⟨_, Hm, _, ⟨v1, ws, rfl, r1, v2, ws2, rfl, r2, rfl⟩, hi, q⟩ := h
  refine q_when (b := !true || !decide ((aV.length : Int) = 3)) (et_or (et_not (et_test (ev_isi (ev_v rfl (ty_rtA r2)) kit_tt))) fun _ => et_test (ev_op (ev_cb (ea_cons (ev_v rfl r2) ea_nil) rc_lenT) ev_i rv_neI)) hi (fun hb => by cases hb) (fun _ K1 H1 x1 => ?_)
  have r2a := (rT K rV).mono x1.s r2
  refine q_tup3 (K := K) (ev_v rfl r2a) x1.i fun K2 H2 x2 => ?_
  cases r1
  refine q_when (b := !true || !true) (et_or (et_not (et_test (Ev.is (ev_call (x := ((0 : Int), (0 : Int), (0 : Int))) trivial (ea_cons ev_i (ea_cons (ev_op (ev_v (R := rI) (d := 1) rfl rfl) (ev_i (i := 1)) rv_i0) (ea_cons (ev_v (R := rI) (d := 0) rfl rfl) ea_nil)))) (by rfl)))) fun _ => et_not (et_test (Ev.is (ev_call (x := ((0 : Int), (0 : Int), (0 : Int))) trivial (ea_cons ev_i (ea_cons (ev_op (ev_v (R := rI) (d := 1) rfl rfl) (ev_i (i := 1)) rv_i0) (ea_cons (ev_v (R := rI) (d := 0) rfl rfl) ea_nil)))) (by rfl)))) x2.i (fun hb => by cases hb) (fun _ K3 H3 x3 => ?_)
  exact s_ret (Ev.is (ev_call (x := some aT) (by show aT.length ≤ 16000000; decide) (ea_cons (ev_v (R := rTh K) (d := some aT) rfl rfl) ea_nil)) (show (isTx (some aT) && (decide ((1 : Int) ≤ ((aT.length : Nat) : Int)) && decide (((aT.length : Nat) : Int) ≤ 1))) = true from by decide)) x3.i fun v K4 H4 x4 r => q v K4 H4 (((x1.trans x2).trans x3).trans x4) r
def spAsc (K : PySem.W.Frag) : Sp := SpF (fun (_ : Unit) => a1 (rT K (rT K rV)) [aV] a0) (fun _ => True) (fun _ => rB) (fun _ => true)
theorem ok_are_ascending (T : Tx K mg) : Fk P w K mg base CX0 1 (He.ga K "are_ascending") ["row"] (spAsc K) := by
  refine k0_are_ascending T (spf_len fun _ => a1_len a0_len) (fun cdv A outer s H vs Q E hr h => ?_)
  refine ⟨_, (pss_one (ps_ret (pe_callB (cr_all rfl) (by rfl) T.n_all boot_all (pa_cons (pe_lc (g := gTup K 2 (gCons (gName 1) (gCons (gName 2) gNil))) (own := [("one", 1), ("other", 2)]) rfl c_are_ascending.nd (RZ.pi_zipA (by rfl) T.n_zip (pa_cons (pv 0) (pa_cons (pe_slice sl_tupA (pv 0) (po_some pe_int) po_none) pa_nil))) (blkOk_by (N := ["row", "one", "other"]) (sc := defScope s_are_ascending) (by decide +kernel)) (fun _ _ _ _ _ => (pg_tup rfl (pgs_cons (pg_name (i := 1) c_are_ascending.nd rfl (by first | exact Or.inl rfl | exact Or.inr rfl)) (pgs_cons (pg_name (i := 2) c_are_ascending.nd rfl (by first | exact Or.inl rfl | exact Or.inr rfl)) pgs_nil)))) (fun _ _ _ _ _ => pts_nil) (fun _ _ _ _ _ => pe_dead)) pa_nil)))), ?_⟩
  obtain ⟨_, Hm, _, ⟨v1, ws, rfl, r1, rfl⟩, hi, q⟩ := h
  exact s_ret (Ev.is (ev_cb (ea_cons (ev_lc0 (K := K) (S := rB) (fun _ => true) (wk_zipT (R := rT K rV) (S := rT K rV) (ea_cons (ev_v rfl r1) (ea_cons (Ev.is (ev_slT (ev_v rfl r1) (eo_some ev_i) eo_none) (cut_drop [aV] 1)) ea_nil))) (by simp) fun d hd => by simp at hd) ea_nil) rc_all) rfl) hi q
def spArrows (K : PySem.W.Frag) : Sp := SpF (fun (_ : Unit) => a1 rI 1 (a1 (rT K (rT K rV)) [aV] a0)) (fun _ => True) (fun _ => rB) (fun _ => true)
theorem et_chain {σ : L2.St} {Hm : Hp} {r r' : R2} {ta tb tc : TE} {α β γ : Type} {R : Rp α} {S : Rp β} {U : Rp γ} {x : α} {y : β} {z : γ} {a b : Bool} (ha : Ev ta σ Hm R x) (hb : Ev tb σ Hm S y) (hc : Ev tc σ Hm U z) (h1 : Rv r R x S y rB a) (h2 : Rv r' S y U z rB b) : Et (tTest (tChain r r' ta tb tc)) σ Hm (a && b) := et_test (ev_chain ha hb hc h1 h2)
theorem ok_are_arrows (T : Tx K mg) : Fk P w K mg base CX0 5 (He.ga K "are_arrows") ["points", "thing"] (spArrows K) := by
  refine k0_are_arrows T (spf_len fun _ => a1_len (a1_len a0_len)) (fun cdv A outer s H vs Q E hr h => ?_)
  obtain ⟨tA, h_MOST_ARROWS⟩ := T.i_MOST_ARROWS
  refine ⟨_, (pss_cons (ps_if (PW.pt (pw_or (pt_not (pt_val (pe_callB call_isi (by rfl) T.n_isinstance boot_isinstance (pa_cons (pv 1) (pa_cons (pe_bltn (v := .ty "tuple") (by rfl) T.n_tuple boot_tuple rfl) pa_nil))))) (pw_or1 (pt_not (pt_chain op_le op_le pe_int (pe_callB call_len (by rfl) T.n_len boot_len (pa_cons (pv 1) pa_nil)) (pe_glob (v := .int 60) (by rfl) h_MOST_ARROWS ⟨_, rfl⟩)))))) (pss_one (ps_ret pe_bl)) pss_nil)
  (pss_one (ps_ret (pe_and (pe_callB (cr_all rfl) (by rfl) T.n_all boot_all (pa_cons (pe_lc (own := [("item", 2)]) rfl c_are_arrows.nd (pi_tup (pv 1)) (blkOk_by (N := ["points", "thing", "item"]) (sc := defScope s_are_arrows) (by decide +kernel)) (fun _ _ _ _ _ => (pg_name (i := 2) c_are_arrows.nd rfl (by first | exact Or.inl rfl | exact Or.inr rfl))) (fun _ _ _ _ _ => pts_nil) (fun _ _ _ _ _ => (pe_fk (ok_is_arrow T) (hr.mono (by decide)) T.g_is_arrow pass0 (pa_cons (pv 0) (pa_cons (pv 2) pa_nil))))) pa_nil)) (pe_one (pe_fk (ok_are_ascending T) (hr.mono (by decide)) T.g_are_ascending pass0 (pa_cons (pv 1) pa_nil))))))), ?_⟩
  obtain ⟨_, Hm, _, ⟨v1, ws, rfl, r1, v2, ws2, rfl, r2, rfl⟩, hi, q⟩ := h
  refine q_when (b := !true || !(decide ((1 : Int) ≤ (1 : Int)) && decide ((1 : Int) ≤ 60))) (et_or (et_not (et_test (ev_isi (ev_v rfl (ty_rtA r2)) kit_tt))) fun _ => et_not (et_chain ev_i (ev_cb (ea_cons (ev_v rfl r2) ea_nil) rc_lenT) ev_i rv_b0 rv_b0)) hi (fun hb => by cases hb) (fun _ K1 H1 x1 => ?_)
  have r1a := rI.mono x1.s r1
  have r2a := (rT K (rT K rV)).mono x1.s r2
  exact s_ret (Ev.is (ev_and (ev_cb (ea_cons (ev_lc0 (xs := [aV]) (K := K) (S := rB) (fun _ => true) (wk_tup (ev_v rfl r2a)) (by decide) fun d hd v K3 s3 r3 => by
    rw [List.mem_singleton] at hd
    subst hd
    exact ⟨_, tk_name, rfl, ev_call (x := ()) trivial (ea_cons (ev_v rfl (rI.mono s3 r1a)) (ea_cons (ev_v rfl r3) ea_nil))⟩) ea_nil) rc_all) fun _ => ev_call (x := ()) trivial (ea_cons (ev_v rfl r2a) ea_nil)) (by rfl)) x1.i fun v K2 H2 x2 r => q v K2 H2 (x1.trans x2) r
def spLed (K : PySem.W.Frag) : Sp := SpF (fun (_ : Unit) => a1 (rT K (rT K rV)) [aV] a0) (fun _ => True) (fun _ => rL K (rT K rV)) (fun _ => [aV])
theorem ok_led_back (T : Tx K mg) : Fk P w K mg base CX0 1 (He.ga K "led_back") ["steps"] (spLed K) := by
  refine k0_led_back T (spf_len fun _ => a1_len a0_len) (fun cdv A outer s H vs Q E hr h => ?_)
  refine ⟨_, (pss_one (ps_ret (pe_lc (g := gTup K 3 (gCons (gName 1) (gCons (gName 2) (gCons (gName 3) gNil)))) (own := [("begin", 1), ("letter", 2), ("end", 3)]) rfl c_led_back.nd (pi_tup (pv 0)) (blkOk_by (N := ["steps", "begin", "letter", "end"]) (sc := defScope s_led_back) (by decide +kernel)) (fun _ _ _ _ _ => (pg_tup rfl (pgs_cons (pg_name (i := 1) c_led_back.nd rfl (by first | exact Or.inl rfl | exact Or.inr rfl)) (pgs_cons (pg_name (i := 2) c_led_back.nd rfl (by first | exact Or.inl rfl | exact Or.inr rfl)) (pgs_cons (pg_name (i := 3) c_led_back.nd rfl (by first | exact Or.inl rfl | exact Or.inr rfl)) pgs_nil))))) (fun _ _ _ _ _ => pts_nil) (fun _ _ _ _ _ => (pe_tup (pa_cons (pv 3) (pa_cons (pv 2) (pa_cons (pv 1) pa_nil)))))))), ?_⟩
  obtain ⟨_, Hm, _, ⟨v1, ws, rfl, r1, rfl⟩, hi, q⟩ := h
  refine s_ret (ev_lc0 (xs := [aV]) (K := K) (S := rT K rV) (fun x => aV) (wk_tup (ev_v rfl r1)) (by decide) fun d hd v K3 s3 r3 => ?_) hi q
  rw [List.mem_singleton] at hd
  subst hd
  exact ⟨_, tk_3 r3, rfl, ev_tup (ds := aV) (ea_cons (ev_v (R := rV) rfl rfl) (ea_cons (ev_v (R := rV) rfl rfl) (ea_cons (ev_v (R := rV) rfl rfl) ea_nil))) (by decide)⟩
end
end NJ

set_option Elab.async false
set_option linter.all false
set_option maxRecDepth 100000
set_option maxHeartbeats 4000000
namespace NJ
open PySem PySem.Spec PyProof.Rows L2
/-- all that is new, known -/
def nw (Hm H H' : Hp) : Hp := fun p => match H p with
  | none => H' p
  | some _ => Hm p
theorem nw_new {Hm H H' : Hp} {p : Addr} (h : H p = none) : nw Hm H H' p = H' p := by
  unfold nw
  rw [h]
theorem xt_nw {Hm H H' : Hp} (hi : Same Hm H) (k : Same H H') : Xt Hm H (nw Hm H H') H' := ⟨fun b o e => by
  unfold nw
  rw [hi b o e]
  exact e, fun b o e => by
  unfold nw at e
  cases q : H b with
  | none =>
    rw [q] at e
    exact e
  | some u =>
    rw [q] at e
    exact k b o (hi b o e), k, fun p h => by
  unfold nw at h
  cases q : H p with
  | none => exact .inr rfl
  | some u =>
    rw [q] at h
    exact .inl h⟩
theorem put_new {H H' : Hp} {a : Addr} {o : HO} (k : Same H H') (h : H a = none) : Same H (upd H' a o) := fun b u e => by
  rw [upd_ne (ne_of_none e h)]
  exact k b u e
section
variable {P : Program} {w : World} {K : PySem.W.Frag} {mg : Str → Option Value} {base : Heap}
/-- the arrows: a tuple or a list -/
def aArr (K : PySem.W.Frag) : Bool → Ar
  | true => a1 (rT K (rT K rV)) [aV] a0
  | false => a1 (rL K (rT K rV)) [aV] a0
theorem aArr_len : ∀ b H vs, (aArr K b).rel H vs → vs.length = 1
  | true => a1_len a0_len
  | false => a1_len a0_len
def rLinks : Rp Unit := ⟨fun H v _ => ∃ a l, v = .ref a ∧ H a = some (.dK [(.inl 0, .ref l)]) ∧ H l = some (.lst [.int 0]), fun s ⟨a, l, e, h, g⟩ => ⟨a, l, e, s _ _ h, s _ _ g⟩⟩
def spLinks (K : PySem.W.Frag) : Sp := SpF (fun (b : Bool) => aArr K b) (fun _ => True) (fun _ => rLinks) (fun _ => ())
theorem ok_links (T : Tx K mg) : Fk P w K mg base CX0 1 (He.ga K "links") ["steps"] (spLinks K) := by
  refine k0_links T (spf_len fun b => aArr_len b) (fun cdv A outer s H vs Q E hr h => ?_)
  obtain ⟨b, Hm, _, a, hi, q⟩ := h
  cases b with
  | true =>
    obtain ⟨v, ws, rfl, r, rfl⟩ := a
    refine ⟨_, (pss_cons (ps_set (i := 1) c_links.nd rfl (by first | exact Or.inl rfl | exact Or.inr rfl) pe_dnewK)
  (pss_cons (ps_for PassesOwn.never rfl (pi_tup (pv 0)) (pg_tup rfl (pgs_cons (pg_name (i := 2) c_links.nd rfl (by first | exact Or.inl rfl | exact Or.inr rfl)) (pgs_cons (pg_name (i := 3) c_links.nd rfl (by first | exact Or.inl rfl | exact Or.inr rfl)) (pgs_cons (pg_name (i := 4) c_links.nd rfl (by first | exact Or.inl rfl | exact Or.inr rfl)) pgs_nil)))) (pss_one (ps_expr (pe_bm PySem.F.plainAttrs_list PySem.F.slot_list_append PySem.F.type_list_append mt_append (pe_dsetd (pv 1) (pv 2) (pe_lst pa_nil) ⟨rfl, rfl, rfl, rfl⟩) (pa_cons (pv 4) pa_nil)))))
  (pss_one (ps_ret (pv 1))))), ?_⟩
    refine q_newD fun d nd => ?_
    have ndm : Hm d = none := none_back hi nd
    refine q_for (xs := [aV]) (R := rT K rV) (wk_tup (ev_v rfl r)) (same_mut hi ndm) fun K2 H2 x2 => ?_
    have ndk : K2 d = none := none_of x2 ndm upd_same
    have kH2 : Same H H2 := fun b o e => x2.k b o (by rw [upd_ne (ne_of_none e nd)]; exact e)
    refine ⟨fun i σ' H' => Same K2 H' ∧ Same H H' ∧ (match i with | 0 => σ' = [some v, some (.ref d), none, none, none] ∧ H' d = some (.dK []) | _ => ∃ l o2 o3 o4, σ' = [some v, some (.ref d), o2, o3, o4] ∧ H l = none ∧ H' d = some (.dK [(.inl 0, .ref l)]) ∧ H' l = some (.lst [.int 0])), ⟨x2.i, kH2, rfl, x2.k _ _ upd_same⟩, fun i σ' H' h => h.1, ?_, ?_⟩
    · rintro i y σ' H' u K4 H4 hy ⟨s1, s2, h3⟩ x4 r4
      match i, hy, h3 with
      | 0, hy, h3 =>
        obtain ⟨rfl, hd⟩ := h3
        cases hy
        have hd4 := x4.k _ _ hd
        refine tk_3 (K := K) r4 H4 x4.i _ ?_
        refine ⟨.ref d, rfl, d, rfl, .inl ⟨[], .inl hd4⟩, .int 0, rfl, Nat.zero_le _, fun l nl => ?_⟩
        have nl2 : H l = none := none_back (s2.trans x4.k) nl
        have nl3 : K2 l = none := none_back (s1.trans x4.k) nl
        have nld : l ≠ d := fun e => by
          rw [e, hd4] at nl
          cases nl
        refine ⟨[], .inl 0, by rw [upd_ne (Ne.symm nld)]; exact hd4, rfl, by rw [sizeLine_eq]; decide, fun v h => (by cases h), fun _ => ?_⟩
        refine ⟨.inl ⟨rfl, [], .inl (.inl (by rw [upd_ne nld, upd_same]))⟩, .int 0, rfl, l, [], .int 0, rfl, rfl, by rw [upd_ne nld, upd_same], by rw [sizeLine_eq]; decide, ?_⟩
        refine ⟨same_mut (same_mut (same_mut (s1.trans x4.k) nl3) ndk) nl3, put_new (put_new (put_new (s2.trans x4.k) nl2) nd) nl2, l, _, _, _, rfl, nl2, ?_, upd_same⟩
        rw [upd_ne (Ne.symm nld), upd_same] <;> rfl
      | i + 1, hy, _ => simp at hy
    · rintro σ' H' ⟨s1, s2, l, o2, o3, o4, rfl, nl, hd, hl⟩
      refine s_ret (ev_v (R := rLinks) (d := ()) rfl ⟨d, l, rfl, (nw_new nd).trans hd, (nw_new nl).trans hl⟩) (xt_nw hi s2).i fun u K5 H5 x5 r5 => q u K5 H5 ((xt_nw hi s2).trans x5) r5
  | false =>
    obtain ⟨v, ws, rfl, r, rfl⟩ := a
    refine ⟨_, (pss_cons (ps_set (i := 1) c_links.nd rfl (by first | exact Or.inl rfl | exact Or.inr rfl) pe_dnewK)
  (pss_cons (ps_for PassesOwn.never rfl (pi_list (pv 0)) (pg_tup rfl (pgs_cons (pg_name (i := 2) c_links.nd rfl (by first | exact Or.inl rfl | exact Or.inr rfl)) (pgs_cons (pg_name (i := 3) c_links.nd rfl (by first | exact Or.inl rfl | exact Or.inr rfl)) (pgs_cons (pg_name (i := 4) c_links.nd rfl (by first | exact Or.inl rfl | exact Or.inr rfl)) pgs_nil)))) (pss_one (ps_expr (pe_bm PySem.F.plainAttrs_list PySem.F.slot_list_append PySem.F.type_list_append mt_append (pe_dsetd (pv 1) (pv 2) (pe_lst pa_nil) ⟨rfl, rfl, rfl, rfl⟩) (pa_cons (pv 4) pa_nil)))))
  (pss_one (ps_ret (pv 1))))), ?_⟩
    refine q_newD fun d nd => ?_
    have ndm : Hm d = none := none_back hi nd
    refine q_for (xs := [aV]) (R := rT K rV) (wk_list (ev_v rfl r)) (same_mut hi ndm) fun K2 H2 x2 => ?_
    have ndk : K2 d = none := none_of x2 ndm upd_same
    have kH2 : Same H H2 := fun b o e => x2.k b o (by rw [upd_ne (ne_of_none e nd)]; exact e)
    refine ⟨fun i σ' H' => Same K2 H' ∧ Same H H' ∧ (match i with | 0 => σ' = [some v, some (.ref d), none, none, none] ∧ H' d = some (.dK []) | _ => ∃ l o2 o3 o4, σ' = [some v, some (.ref d), o2, o3, o4] ∧ H l = none ∧ H' d = some (.dK [(.inl 0, .ref l)]) ∧ H' l = some (.lst [.int 0])), ⟨x2.i, kH2, rfl, x2.k _ _ upd_same⟩, fun i σ' H' h => h.1, ?_, ?_⟩
    · rintro i y σ' H' u K4 H4 hy ⟨s1, s2, h3⟩ x4 r4
      match i, hy, h3 with
      | 0, hy, h3 =>
        obtain ⟨rfl, hd⟩ := h3
        cases hy
        have hd4 := x4.k _ _ hd
        refine tk_3 (K := K) r4 H4 x4.i _ ?_
        refine ⟨.ref d, rfl, d, rfl, .inl ⟨[], .inl hd4⟩, .int 0, rfl, Nat.zero_le _, fun l nl => ?_⟩
        have nl2 : H l = none := none_back (s2.trans x4.k) nl
        have nl3 : K2 l = none := none_back (s1.trans x4.k) nl
        have nld : l ≠ d := fun e => by
          rw [e, hd4] at nl
          cases nl
        refine ⟨[], .inl 0, by rw [upd_ne (Ne.symm nld)]; exact hd4, rfl, by rw [sizeLine_eq]; decide, fun v h => (by cases h), fun _ => ?_⟩
        refine ⟨.inl ⟨rfl, [], .inl (.inl (by rw [upd_ne nld, upd_same]))⟩, .int 0, rfl, l, [], .int 0, rfl, rfl, by rw [upd_ne nld, upd_same], by rw [sizeLine_eq]; decide, ?_⟩
        refine ⟨same_mut (same_mut (same_mut (s1.trans x4.k) nl3) ndk) nl3, put_new (put_new (put_new (s2.trans x4.k) nl2) nd) nl2, l, _, _, _, rfl, nl2, ?_, upd_same⟩
        rw [upd_ne (Ne.symm nld), upd_same] <;> rfl
      | i + 1, hy, _ => simp at hy
    · rintro σ' H' ⟨s1, s2, l, o2, o3, o4, rfl, nl, hd, hl⟩
      refine s_ret (ev_v (R := rLinks) (d := ()) rfl ⟨d, l, rfl, (nw_new nd).trans hd, (nw_new nl).trans hl⟩) (xt_nw hi s2).i fun u K5 H5 x5 r5 => q u K5 H5 ((xt_nw hi s2).trans x5) r5
end
end NJ

set_option Elab.async false
set_option linter.all false
set_option maxRecDepth 100000
set_option maxHeartbeats 4000000
namespace NJ
open PySem PySem.Spec PyProof.Rows L2
section
variable {P : Program} {w : World} {K : PySem.W.Frag} {mg : Str → Option Value} {base : Heap}
def rFound : Rp Unit := ⟨fun H v _ => ∃ a, v = .ref a ∧ H a = some (.dK [(.inl 0, .bl true)]), fun s ⟨a, e, h⟩ => ⟨a, e, s _ _ h⟩⟩
def spReached (K : PySem.W.Frag) : Sp := SpF (fun (_ : Unit) => a1 rLinks () (a1 rI 0 a0)) (fun _ => True) (fun _ => rFound) (fun _ => ())
theorem ok_reached (T : Tx K mg) : Fk P w K mg base CX0 1 (He.ga K "reached") ["leading", "start"] (spReached K) := by
  refine k0_reached T (spf_len fun b => a1_len (a1_len a0_len)) (fun cdv A outer s H vs Q E hr h => ?_)
  refine ⟨_, (pss_cons (ps_set (i := 2) c_reached.nd rfl (by first | exact Or.inl rfl | exact Or.inr rfl) (pe_disp (pps_cons (pv 1) pe_bl pps_nil) rfl rfl (by simp) (by decide)))
  (pss_cons (ps_set (i := 3) c_reached.nd rfl (by first | exact Or.inl rfl | exact Or.inr rfl) (pe_lst (pa_cons (pv 1) pa_nil)))
  (pss_cons (ps_while PassesOwn.never (pt_truth (pv 3) (fun _ => rfl)) (pss_cons (ps_set (i := 4) c_reached.nd rfl (by first | exact Or.inl rfl | exact Or.inr rfl) (pe_bm0 PySem.F.plainAttrs_list PySem.F.slot_list_pop PySem.F.type_list_pop mt_pop (pv 3)))
  (pss_one (ps_for PassesOwn.never rfl (pi_list (pe_dget2 (hu_of hr) (pv 0) (pv 4) (pe_lst pa_nil) ⟨rfl, rfl, rfl, rfl⟩)) (pg_name (i := 5) c_reached.nd rfl (by first | exact Or.inl rfl | exact Or.inr rfl)) (pss_one (ps_if (pt_cmp (pc_dnotin (hu_of hr) (pv 5) (pv 2))) (pss_cons (ps_dput (hu_of hr) (pv 2) (pv 5) pe_bl rfl)
  (pss_one (ps_expr (pe_bm PySem.F.plainAttrs_list PySem.F.slot_list_append PySem.F.type_list_append mt_append (pv 3) (pa_cons (pv 5) pa_nil))))) pss_nil))))))
  (pss_one (ps_ret (pv 2)))))), ?_⟩
  obtain ⟨_, Hm, _, ⟨v1, ws, rfl, ⟨la, ll, rfl, hla, hll⟩, v2, ws2, rfl, r2, rfl⟩, hi, q⟩ := h
  cases r2
  have hla1 := hi _ _ hla
  have hll1 := hi _ _ hll
  -- found = {start: True}
  refine fun d nd => ⟨.int 0, rfl, ⟨upd_same, [(.inl 0, .bl true)], rfl, by decide, ?_⟩⟩
  -- waiting = [start]
  refine ⟨.int 0, rfl, ⟨by show 1 ≤ sizeLine; rw [sizeLine_eq]; decide, fun l nl => ?_⟩⟩
  have e1 : upd (upd H d (.dK [])) d (.dK (mergeK [] [(.inl 0, .bl true)])) d = some (.dK [(.inl 0, .bl true)]) := upd_same
  have nld : l ≠ d := fun e => by
    rw [e, e1] at nl
    cases nl
  have nlH : H l = none := by
    rw [upd_ne nld, upd_ne nld] at nl
    exact nl
  refine ⟨fun m σ' H' => m ≤ 1 ∧ (∃ o4 o5, σ' = [some (.ref la), some (.int 0), some (.ref d), some (.ref l), o4, o5]) ∧ Same H H' ∧ H' d = some (.dK [(.inl 0, .bl true)]) ∧ H' l = some (.lst (List.replicate m (.int 0))), ⟨1, Nat.le_refl 1, ⟨none, none, rfl⟩, put_new (put_new (put_new (Same.refl H) nd) nd) nlH, by rw [upd_ne (Ne.symm nld)]; exact e1, upd_same⟩, ?_⟩
  rintro m σ' H' ⟨hm, ⟨o4, o5, rfl⟩, hs, hd, hl⟩
  refine ⟨.ref l, rfl, decide (0 < m), .inl ⟨_, .inl (.inl hl), by cases m <;> simp [List.replicate_succ]⟩, ?_⟩
  match m, hm, hl with
  | 0, _, hl =>
    refine iteF ?_
    refine s_ret (ev_v (R := rFound) (d := ()) rfl ⟨d, rfl, (nw_new nd).trans hd⟩) (xt_nw hi hs).i fun u K5 H5 x5 r5 => q u K5 H5 ((xt_nw hi hs).trans x5) r5
  | 1, _, hl =>
    refine iteT ?_
    refine ⟨fun σ'' H'' => (∃ o4 o5, σ'' = [some (.ref la), some (.int 0), some (.ref d), some (.ref l), o4, o5]) ∧ Same H H'' ∧ H'' d = some (.dK [(.inl 0, .bl true)]) ∧ H'' l = some (.lst []), fun σ'' H'' ⟨a, b, c, e⟩ => ⟨0, by decide, by decide, a, b, c, e⟩, ?_⟩
    -- begin = waiting.pop()
    refine ⟨.ref l, rfl, .inl ⟨rfl, _, .inl (.inl hl)⟩, l, _, .int 0, rfl, rfl, hl, rfl, ?_⟩
    have hs2 : Same H (upd H' l (.lst [])) := put_new hs nlH
    have hd2 : upd H' l (.lst []) d = some (.dK [(.inl 0, .bl true)]) := by
      rw [upd_ne (Ne.symm nld)]
      exact hd
    have hl2 : upd H' l (.lst []) l = some (.lst []) := upd_same
    rw [show (List.replicate 1 (V.int 0)).dropLast = [] from rfl]
    generalize upd H' l (.lst []) = H2 at hs2 hd2 hl2
    unfold gName
    dsimp only
    refine s_for (xs := [0]) (R := rI) (Hm := H) (wk_list (K := K) fun H3 h3 Q3 q3 => ?_) hs2 fun K4 H4 x4 => ?_
    · refine ⟨.ref la, rfl, la, rfl, .inl ⟨_, .inl (h3 _ _ hla1)⟩, .int 0, rfl, Nat.zero_le _, fun e ne => ?_⟩
      have hla3 : upd H3 e (.lst []) la = some (.dK [(.inl 0, .ref ll)]) := by
        rw [upd_ne (ne_of_none (h3 _ _ hla1) ne)]
        exact h3 _ _ hla1
      refine ⟨some (.ref ll), DGet.k (k := .inl 0) hla3, q3 (.ref ll) _ _ (Xt.new h3 ne) ⟨ll, [.int 0], rfl, .inl (.inl ?_), .cons rfl .nil⟩⟩
      rw [upd_ne (ne_of_none hll1 (none_back h3 ne))]
      exact hll1
    · refine ⟨fun i σ' H' => (∃ o4 o5, σ' = [some (.ref la), some (.int 0), some (.ref d), some (.ref l), o4, o5]) ∧ Same K4 H' ∧ Same H2 H', ⟨⟨_, _, rfl⟩, x4.i, x4.k⟩, fun i σ' H' h => h.2.1, ?_, ?_⟩
      · rintro i y σ3 H3 u K5 H5 hy ⟨⟨o4, o5, rfl⟩, s3, s4⟩ x5 r5
        have ey : y = 0 := by
          match i, hy with
          | 0, hy => exact (Option.some.inj hy).symm
          | i + 1, hy => simp at hy
        subst ey
        cases r5
        have hd5 := x5.k _ _ (s4 _ _ hd2)
        refine ⟨.int 0, rfl, .ref d, rfl, d, some (.bl true), rfl, DGet.k (k := .inl 0) hd5, false, rfl, iteF ⟨⟨_, _, rfl⟩, s3.trans x5.k, s4.trans x5.k⟩⟩
      · rintro σ3 H3 ⟨⟨o4, o5, rfl⟩, s3, s4⟩
        exact ⟨⟨_, _, rfl⟩, hs2.trans s4, s4 _ _ hd2, s4 _ _ hl2⟩
def spJoined (K : PySem.W.Frag) : Sp := SpF (fun (_ : Unit) => a1 (rL K rI) [0] (a1 (rT K (rT K rV)) [aV] a0)) (fun _ => True) (fun _ => rB) (fun _ => true)
theorem ev_inF {σ : L2.St} {Hm : Hp} {te td : TE} (h1 : Ev te σ Hm rI 0) (h2 : Ev td σ Hm rFound ()) : Ev (tDIn te td) σ Hm rB true := fun H1 hi Q q => h1 H1 hi _ fun v K2 H2 x2 r => h2.mono x2.s H2 x2.i _ fun w K3 H3 x3 ⟨a, e, hd⟩ => ⟨a, some (.bl true), e, by
  cases r
  exact DGet.k (k := .inl 0) (x3.i _ _ hd), q _ K3 H3 (x2.trans x3) rfl⟩
theorem ok_all_joined (T : Tx K mg) : Fk P w K mg base CX0 2 (He.ga K "all_joined") ["states", "steps"] (spJoined K) := by
  refine k0_all_joined T (spf_len fun b => a1_len (a1_len a0_len)) (fun cdv A outer s H vs Q E hr h => ?_)
  refine ⟨_, (pss_cons (ps_set (i := 2) c_all_joined.nd rfl (by first | exact Or.inl rfl | exact Or.inr rfl) (pe_fk (ok_reached T) (hr.mono (by decide)) T.g_reached pass0 (pa_cons (pe_fk (ok_links T) (hr.mono (by decide)) T.g_links pass0 (pa_cons (pv 1) pa_nil)) (pa_cons (pe_ix ix_list (pv 0) pe_int (fun _ _ => rfl)) pa_nil))))
  (pss_cons (ps_set (i := 3) c_all_joined.nd rfl (by first | exact Or.inl rfl | exact Or.inr rfl) (pe_fk (ok_reached T) (hr.mono (by decide)) T.g_reached pass0 (pa_cons (pe_fk (ok_links T) (hr.mono (by decide)) T.g_links pass0 (pa_cons (pe_fk (ok_led_back T) (hr.mono (by decide)) T.g_led_back pass0 (pa_cons (pv 1) pa_nil)) pa_nil)) (pa_cons (pe_ix ix_list (pv 0) pe_int (fun _ _ => rfl)) pa_nil))))
  (pss_one (ps_ret (pe_callB (cr_all rfl) (by rfl) T.n_all boot_all (pa_cons (pe_lc (own := [("state", 4)]) rfl c_all_joined.nd (pi_list (pv 0)) (blkOk_by (N := ["states", "steps", "ahead", "behind", "state"]) (sc := defScope s_all_joined) (by decide +kernel)) (fun _ _ _ _ _ => (pg_name (i := 4) c_all_joined.nd rfl (by first | exact Or.inl rfl | exact Or.inr rfl))) (fun _ _ _ _ _ => pts_nil) (fun _ _ _ _ _ => (pe_and (pe_cmp (pc_din (hu_of hr) (pv 4) (pv 2))) (pe_one (pe_cmp (pc_din (hu_of hr) (pv 4) (pv 3))))))) pa_nil)))))), ?_⟩
  obtain ⟨_, Hm, _, ⟨v1, ws, rfl, r1, v2, ws2, rfl, r2, rfl⟩, hi, q⟩ := h
  refine q_set (ev_call (x := ()) trivial (ea_cons (ev_call (x := true) trivial (ea_cons (ev_v rfl r2) ea_nil)) (ea_cons (ev_op (ev_v rfl r1) ev_i (rv_ixL (j := 0) rfl rfl)) ea_nil))) hi fun v3 K1 H1 x1 r3 => ?_
  have r1a := (rL K rI).mono x1.s r1
  have r2a := (rT K (rT K rV)).mono x1.s r2
  refine q_set (ev_call (x := ()) trivial (ea_cons (ev_call (x := false) trivial (ea_cons (ev_call (x := ()) trivial (ea_cons (ev_v rfl r2a) ea_nil)) ea_nil)) (ea_cons (ev_op (ev_v rfl r1a) ev_i (rv_ixL (j := 0) rfl rfl)) ea_nil))) x1.i fun v4 K2 H2 x2 r4 => ?_
  have r1b := (rL K rI).mono x2.s r1a
  have r3b := rFound.mono x2.s r3
  exact s_ret (Ev.is (ev_cb (ea_cons (ev_lc0 (xs := [0]) (K := K) (S := rB) (fun _ => true) (wk_list (ev_v rfl r1b)) (by decide) fun d hd v K3 s3 r5 => by
    rw [List.mem_singleton] at hd
    subst hd
    exact ⟨_, tk_name, rfl, Ev.is (ev_and (ev_inF (ev_v rfl r5) (ev_v rfl (rFound.mono s3 r3b))) fun _ => ev_inF (ev_v rfl r5) (ev_v rfl (rFound.mono s3 r4))) (by rfl)⟩) ea_nil) rc_all) (by rfl)) x2.i fun v K3 H3 x3 r => q v K3 H3 ((x1.trans x2).trans x3) r
def spWrong (K : PySem.W.Frag) : Sp := SpF (fun (_ : Unit) => a1 rI 1 (a1 (rT K (rT K rV)) [aV] a0)) (fun _ => True) (fun _ => rN) (fun _ => ())
theorem ev_listRg1 {σ : L2.St} {Hm : Hp} {te : TE} (h : Ev te σ Hm rI 1) : Ev (tLstRg (tRg1 te)) σ Hm (rL K rI) [0] := fun H1 hi Q q => h H1 hi _ fun v K2 H2 x2 r => ⟨1, r, RgOk.of_le (by decide) (by decide) (by decide) (by decide), fun p np => q (.ref p) _ _ (xt_ref x2 np) ⟨p, rgV 0 1, rfl, .inl (.inl upd_same), .cons rfl .nil⟩⟩
theorem ok_wrong_part (T : Tx K mg) : Fk P w K mg base CX0 6 (He.ga K "wrong_part") ["points", "arrows"] (spWrong K) := by
  refine k0_wrong_part T (spf_len fun b => a1_len (a1_len a0_len)) (fun cdv A outer s H vs Q E hr h => ?_)
  obtain ⟨tP, h_MOST_POINTS⟩ := T.i_MOST_POINTS
  refine ⟨_, (pss_cons (ps_if (pt_not (pt_val (pe_fk (ok_is_number T) (hr.mono (by decide)) T.g_is_number pass0 (pa_cons pe_int (pa_cons (pe_glob (v := .int 12) (by rfl) h_MOST_POINTS ⟨_, rfl⟩) (pa_cons (pv 0) pa_nil)))))) (pss_one (ps_ret pe_str)) pss_nil)
  (pss_cons (ps_if (pt_not (pt_val (pe_fk (ok_are_arrows T) (hr.mono (by decide)) T.g_are_arrows pass0 (pa_cons (pv 0) (pa_cons (pv 1) pa_nil))))) (pss_one (ps_ret pe_str)) pss_nil)
  (pss_cons (ps_if (pt_not (pt_val (pe_fk (ok_all_joined T) (hr.mono (by decide)) T.g_all_joined pass0 (pa_cons (pe_listRg rfl (by rfl) T.n_list (prg_1 (by rfl) T.n_range (pv 0))) (pa_cons (pv 1) pa_nil))))) (pss_one (ps_ret pe_str)) pss_nil)
  (pss_one (ps_ret pe_non))))), ?_⟩
  obtain ⟨_, Hm, _, ⟨v1, ws, rfl, r1, v2, ws2, rfl, r2, rfl⟩, hi, q⟩ := h
  refine q_when (b := !true) (et_not (et_test (Ev.is (ev_call (x := ((1 : Int), (12 : Int), (1 : Int))) trivial (ea_cons ev_i (ea_cons ev_i (ea_cons (ev_v rfl r1) ea_nil)))) (by rfl)))) hi (fun hb => by cases hb) (fun _ K1 H1 x1 => ?_)
  have r1a := rI.mono x1.s r1
  have r2a := (rT K (rT K rV)).mono x1.s r2
  refine q_when (b := !true) (et_not (et_test (ev_call (x := ()) trivial (ea_cons (ev_v rfl r1a) (ea_cons (ev_v rfl r2a) ea_nil))))) x1.i (fun hb => by cases hb) (fun _ K2 H2 x2 => ?_)
  have r1b := rI.mono x2.s r1a
  have r2b := (rT K (rT K rV)).mono x2.s r2a
  refine q_when (b := !true) (et_not (et_test (ev_call (x := ()) trivial (ea_cons (ev_listRg1 (ev_v rfl r1b)) (ea_cons (ev_v rfl r2b) ea_nil))))) x2.i (fun hb => by cases hb) (fun _ K3 H3 x3 => ?_)
  exact s_ret ev_n x3.i fun v K4 H4 x4 r => q v K4 H4 (((x1.trans x2).trans x3).trans x4) r
end
end NJ

set_option Elab.async false
set_option linter.all false
set_option maxRecDepth 100000
set_option maxHeartbeats 4000000
namespace NJ
open PySem PySem.Spec PyProof.Rows L2
section
variable {P : Program} {w : World} {K : PySem.W.Frag} {mg : Str → Option Value} {base : Heap}
def spRows (K : PySem.W.Frag) : Sp := SpF (fun (b : Bool) => a1 rI 1 (aArr K b)) (fun _ => True) (fun _ => rE rV fun _ => True) (fun _ => ())
theorem sd_aT : sd [aT] = [aT] := by decide +kernel
theorem tk_w3 {σ : L2.St} {i j : Nat} {v x y z : V} {Hk : Hp} (h : (rT K rV).rel Hk v [x, y, z]) : Tk (gTup K 3 (gCons (gName i) (gCons (gName j) (gCons (gName i) gNil)))) σ Hk v (((σ.set i (some x)).set j (some y)).set i (some z)) := tk_3 h
def rowsTv : TE := tOp rRep (tLst (tCons (tC (.int 0)) tNil)) (tVar 0)
/-- rows = {letter: [0] * points for letter in ["a"]} -/
theorem q_rows {Hm H : Hp} {D : Ends} {wi : TI} {tz : TS} {v2 : V} (hw : Wk wi [some (V.int 1), some v2, none, none, none, none, none] Hm rS [aT]) (hi : Same Hm H)
    (fin : ∀ d l H', H d = none → H l = none → l ≠ d → H' d = some (.dK [(kT aT, .ref l)]) → H' l = some (.lst [.int 0]) → Same H H' → tz D [some (V.int 1), some v2, some (.ref d), none, none, none, none] H') :
    tSeq (tAsg (tDc wi (gName 4) tYes (tVar 4) rowsTv [4]) (gName 2)) tz D [some (V.int 1), some v2, none, none, none, none, none] H := by
  refine hw H hi _ fun J K2 H2 x2 hJ d nd => ?_
  have ndk : K2 d = none := none_back x2.i nd
  have ndH : H d = none := none_back x2.k nd
  refine ⟨fun j m H' => j + m = 1 ∧ Same K2 H' ∧ Same H H' ∧ (match j with | 0 => H' d = some (.dK []) | _ => ∃ l, H l = none ∧ l ≠ d ∧ H' d = some (.dK [(kT aT, .ref l)]) ∧ H' l = some (.lst [.int 0])), ⟨1, rfl, same_mut x2.i ndk, put_new x2.k ndH, upd_same⟩, ?_⟩
  rintro j m H' ⟨em, s1, s2, h3⟩
  obtain ⟨go, stop, yld⟩ := hJ j H' s1
  match j, em, h3, go, stop, yld with
  | 0, em, h3, go, stop, yld =>
    refine .inr ⟨go (by simp), fun H'' => Same K2 H'' ∧ Same H H'' ∧ ∃ l, H l = none ∧ l ≠ d ∧ H'' d = some (.dK [(kT aT, .ref l)]) ∧ H'' l = some (.lst [.int 0]), fun H'' h => ⟨0, by omega, rfl, h⟩, fun u H4 hy => ?_⟩
    obtain ⟨dd, K4, ed, x4, rv⟩ := yld (by simp) u H4 hy
    have edd : dd = aT := (Option.some.inj ed).symm
    subst edd
    have hd4 := x4.k _ _ h3
    refine ⟨rfl, ?_⟩
    unfold tYes
    dsimp only
    rw [if_pos rfl]
    refine ⟨u, rfl, ?_⟩
    refine ⟨by show 1 ≤ sizeLine; rw [sizeLine_eq]; decide, fun p np => ?_⟩
    refine ⟨.int 1, rfl, p, 1, [.int 0], rfl, rfl, upd_same, by decide, by decide, by show 1 * 1 ≤ sizeLine; rw [sizeLine_eq]; decide, fun l nl => ?_⟩
    have nld : l ≠ d := fun e => by
      rw [e] at nl
      by_cases hp : d = p
      · rw [hp, upd_same] at nl
        cases nl
      · rw [upd_ne hp, hd4] at nl
        cases nl
    have ndp : d ≠ p := fun e => by
      rw [← e, hd4] at np
      cases np
    have npH : H p = none := none_back (s2.trans x4.k) np
    have npK : K2 p = none := none_back (s1.trans x4.k) np
    have nlp : l ≠ p := fun e => by
      rw [e, upd_same] at nl
      cases nl
    have nl4 : H4 l = none := by
      rw [upd_ne nlp] at nl
      exact nl
    have nlH : H l = none := none_back (s2.trans x4.k) nl4
    have nlK : K2 l = none := none_back (s1.trans x4.k) nl4
    refine ⟨[], kT aT, rv, by rw [upd_ne (Ne.symm nld), upd_ne ndp]; exact hd4, by rw [sizeLine_eq]; decide, same_mut (same_mut (same_mut (s1.trans x4.k) npK) nlK) ndk, put_new (put_new (put_new (s2.trans x4.k) npH) nlH) ndH, l, nlH, nld, ?_, ?_⟩
    · rw [upd_same] <;> rfl
    · rw [upd_ne nld, upd_same] <;> rfl
  | 1, em, h3, go, stop, yld =>
    obtain ⟨l, nl, nld, hd, hl⟩ := h3
    exact .inl ⟨stop (by simp), fin d l H' ndH nl nld hd hl s2⟩
  | j + 2, em, _, _, _, _ => omega
theorem ok_letter_rows (T : Tx K mg) : Fk P w K mg base CX0 1 (He.ga K "letter_rows") ["points", "arrows"] (spRows K) := by
  refine k0_letter_rows T (spf_len fun b => a1_len (aArr_len b)) (fun cdv A outer s H vs Q E hr h => ?_)
  obtain ⟨b, Hm, _, ⟨v1, ws, rfl, r1, a⟩, hi, q⟩ := h
  cases r1
  cases b with
  | true =>
    obtain ⟨v2, ws2, rfl, r2, rfl⟩ := a
    refine ⟨_, (pss_cons (ps_setDc (i := 2) (own := [("letter", 4)]) rfl c_letter_rows.nd rfl (by rfl) (sw_dc rfl rfl rfl (by decide +kernel)) (pi_list (pe_callB (cr_sortSet rfl (hu100 hr)) (by rfl) T.n_sorted boot_sorted (pa_cons (pe_callTy (cr_setL rfl) (by rfl) T.n_set boot_set (pa_cons (pe_lc (g := gTup K 3 (gCons (gName 6) (gCons (gName 4) (gCons (gName 6) gNil)))) (own := [("_", 6), ("letter", 4)]) rfl c_letter_rows.nd (pi_tup (pv 1)) (blkOk_by (N := ["points", "arrows", "rows", "begin", "letter", "end", "_"]) (sc := defScope s_letter_rows) (by decide +kernel)) (fun _ _ _ _ _ => (pg_tup rfl (pgs_cons (pg_name (i := 6) c_letter_rows.nd rfl (by first | exact Or.inl rfl | exact Or.inr rfl)) (pgs_cons (pg_name (i := 4) c_letter_rows.nd rfl (by first | exact Or.inl rfl | exact Or.inr rfl)) (pgs_cons (pg_name (i := 6) c_letter_rows.nd rfl (by first | exact Or.inl rfl | exact Or.inr rfl)) pgs_nil))))) (fun _ _ _ _ _ => pts_nil) (fun _ _ _ _ _ => (pv 4))) pa_nil)) pa_nil))) (blkOk_by (N := ["points", "arrows", "rows", "begin", "letter", "end", "_"]) (sc := defScope s_letter_rows) (by decide +kernel)) (fun _ _ _ _ _ => (pg_name (i := 4) c_letter_rows.nd rfl (by first | exact Or.inl rfl | exact Or.inr rfl))) (fun _ _ _ _ _ => pts_nil) (fun _ _ _ _ _ => (pv 4)) (fun _ _ _ _ _ => (pe_op op_rep (pe_lst (pa_cons pe_int pa_nil)) (pv 0))))
  (pss_cons (ps_for PassesOwn.never rfl (pi_tup (pv 1)) (pg_tup rfl (pgs_cons (pg_name (i := 3) c_letter_rows.nd rfl (by first | exact Or.inl rfl | exact Or.inr rfl)) (pgs_cons (pg_name (i := 4) c_letter_rows.nd rfl (by first | exact Or.inl rfl | exact Or.inr rfl)) (pgs_cons (pg_name (i := 5) c_letter_rows.nd rfl (by first | exact Or.inl rfl | exact Or.inr rfl)) pgs_nil)))) (pss_one (ps_augS (pe_dget (hu_of hr) (pv 2) (pv 4) (fun _ _ => rfl)) (pv 3) get_lst (pe_op op_shl pe_int (pv 5)) ip_or set_list)))
  (pss_one (ps_ret (pv 2))))), ?_⟩
    refine q_rows (wk_list (K := K) (Ev.is (ev_ssetL (ev_lc0 (xs := [aV]) (K := K) (S := rS) (fun _ => aT) (wk_tup (ev_v rfl r2)) (by decide) fun d hd u K3 s3 r3 => ?_) (by decide)) sd_aT)) hi fun d l H' nd nl nld hd hl hs => ?_
    · rw [List.mem_singleton] at hd
      subst hd
      exact ⟨_, tk_w3 r3, rfl, ev_v (R := rS) (d := aT) rfl rfl⟩
    · refine q_for (xs := [aV]) (R := rT K rV) (Hm := Hm) (wk_tup (ev_v rfl r2)) (hi.trans hs) fun K2 H2 x2 => ?_
      have kH : Same H H2 := hs.trans x2.k
      have nlK : K2 l = none := none_of x2 (none_back hi nl) hl
      refine ⟨fun i σ' H' => ∃ o3 o4 o5, σ' = [some (.int 1), some v2, some (.ref d), o3, o4, o5, none] ∧ Same K2 H' ∧ Same H H' ∧ H' d = some (.dK [(kT aT, .ref l)]) ∧ ∃ z : Int, H' l = some (.lst [.int z]), ⟨none, none, none, rfl, x2.i, kH, x2.k _ _ hd, 0, x2.k _ _ hl⟩, fun i σ' H' ⟨_, _, _, _, h, _⟩ => h, ?_, ?_⟩
      · rintro i y σ' H' u K4 H4 hy ⟨o3, o4, o5, rfl, s1, s2, hd', z, hl'⟩ x4 r4
        have ey : y = aV := by
          match i, hy with
          | 0, hy => exact (Option.some.inj hy).symm
          | i + 1, hy => simp at hy
        subst ey
        have hd4 := x4.k _ _ hd'
        have hl4 := x4.k _ _ hl'
        refine tk_3 (K := K) r4 H4 x4.i _ ?_
        refine ⟨.ref d, rfl, .str (tx aT), rfl, d, .ref l, rfl, DGet.k (k := kT aT) hd4, ?_⟩
        refine ⟨.int 0, rfl, l, _, 0, .int z, rfl, rfl, .inl (.inl hl4), rfl, ?_⟩
        refine ⟨.int 0, rfl, 1, 0, rfl, rfl, ⟨by decide, by decide, by decide⟩, ?_⟩
        refine ⟨z, _, rfl, rfl, l, _, 0, 0, rfl, rfl, hl4, rfl, _, _, _, rfl, same_mut (s1.trans x4.k) nlK, put_new (s2.trans x4.k) nl, by rw [upd_ne (Ne.symm nld)]; exact hd4, _, upd_same⟩
      · rintro σ' H' ⟨o3, o4, o5, rfl, s1, s2, hd', z, hl'⟩
        exact s_ret (ev_v (R := rV) (d := .ref d) rfl rfl).any_ (xt_nw hi s2).i fun u K5 H5 x5 r5 => q u K5 H5 ((xt_nw hi s2).trans x5) r5
  | false =>
    obtain ⟨v2, ws2, rfl, r2, rfl⟩ := a
    refine ⟨_, (pss_cons (ps_setDc (i := 2) (own := [("letter", 4)]) rfl c_letter_rows.nd rfl (by rfl) (sw_dc rfl rfl rfl (by decide +kernel)) (pi_list (pe_callB (cr_sortSet rfl (hu100 hr)) (by rfl) T.n_sorted boot_sorted (pa_cons (pe_callTy (cr_setL rfl) (by rfl) T.n_set boot_set (pa_cons (pe_lc (g := gTup K 3 (gCons (gName 6) (gCons (gName 4) (gCons (gName 6) gNil)))) (own := [("_", 6), ("letter", 4)]) rfl c_letter_rows.nd (pi_list (pv 1)) (blkOk_by (N := ["points", "arrows", "rows", "begin", "letter", "end", "_"]) (sc := defScope s_letter_rows) (by decide +kernel)) (fun _ _ _ _ _ => (pg_tup rfl (pgs_cons (pg_name (i := 6) c_letter_rows.nd rfl (by first | exact Or.inl rfl | exact Or.inr rfl)) (pgs_cons (pg_name (i := 4) c_letter_rows.nd rfl (by first | exact Or.inl rfl | exact Or.inr rfl)) (pgs_cons (pg_name (i := 6) c_letter_rows.nd rfl (by first | exact Or.inl rfl | exact Or.inr rfl)) pgs_nil))))) (fun _ _ _ _ _ => pts_nil) (fun _ _ _ _ _ => (pv 4))) pa_nil)) pa_nil))) (blkOk_by (N := ["points", "arrows", "rows", "begin", "letter", "end", "_"]) (sc := defScope s_letter_rows) (by decide +kernel)) (fun _ _ _ _ _ => (pg_name (i := 4) c_letter_rows.nd rfl (by first | exact Or.inl rfl | exact Or.inr rfl))) (fun _ _ _ _ _ => pts_nil) (fun _ _ _ _ _ => (pv 4)) (fun _ _ _ _ _ => (pe_op op_rep (pe_lst (pa_cons pe_int pa_nil)) (pv 0))))
  (pss_cons (ps_for PassesOwn.never rfl (pi_list (pv 1)) (pg_tup rfl (pgs_cons (pg_name (i := 3) c_letter_rows.nd rfl (by first | exact Or.inl rfl | exact Or.inr rfl)) (pgs_cons (pg_name (i := 4) c_letter_rows.nd rfl (by first | exact Or.inl rfl | exact Or.inr rfl)) (pgs_cons (pg_name (i := 5) c_letter_rows.nd rfl (by first | exact Or.inl rfl | exact Or.inr rfl)) pgs_nil)))) (pss_one (ps_augS (pe_dget (hu_of hr) (pv 2) (pv 4) (fun _ _ => rfl)) (pv 3) get_lst (pe_op op_shl pe_int (pv 5)) ip_or set_list)))
  (pss_one (ps_ret (pv 2))))), ?_⟩
    refine q_rows (wk_list (K := K) (Ev.is (ev_ssetL (ev_lc0 (xs := [aV]) (K := K) (S := rS) (fun _ => aT) (wk_list (ev_v rfl r2)) (by decide) fun d hd u K3 s3 r3 => ?_) (by decide)) sd_aT)) hi fun d l H' nd nl nld hd hl hs => ?_
    · rw [List.mem_singleton] at hd
      subst hd
      exact ⟨_, tk_w3 r3, rfl, ev_v (R := rS) (d := aT) rfl rfl⟩
    · refine q_for (xs := [aV]) (R := rT K rV) (Hm := Hm) (wk_list (ev_v rfl r2)) (hi.trans hs) fun K2 H2 x2 => ?_
      have kH : Same H H2 := hs.trans x2.k
      have nlK : K2 l = none := none_of x2 (none_back hi nl) hl
      refine ⟨fun i σ' H' => ∃ o3 o4 o5, σ' = [some (.int 1), some v2, some (.ref d), o3, o4, o5, none] ∧ Same K2 H' ∧ Same H H' ∧ H' d = some (.dK [(kT aT, .ref l)]) ∧ ∃ z : Int, H' l = some (.lst [.int z]), ⟨none, none, none, rfl, x2.i, kH, x2.k _ _ hd, 0, x2.k _ _ hl⟩, fun i σ' H' ⟨_, _, _, _, h, _⟩ => h, ?_, ?_⟩
      · rintro i y σ' H' u K4 H4 hy ⟨o3, o4, o5, rfl, s1, s2, hd', z, hl'⟩ x4 r4
        have ey : y = aV := by
          match i, hy with
          | 0, hy => exact (Option.some.inj hy).symm
          | i + 1, hy => simp at hy
        subst ey
        have hd4 := x4.k _ _ hd'
        have hl4 := x4.k _ _ hl'
        refine tk_3 (K := K) r4 H4 x4.i _ ?_
        refine ⟨.ref d, rfl, .str (tx aT), rfl, d, .ref l, rfl, DGet.k (k := kT aT) hd4, ?_⟩
        refine ⟨.int 0, rfl, l, _, 0, .int z, rfl, rfl, .inl (.inl hl4), rfl, ?_⟩
        refine ⟨.int 0, rfl, 1, 0, rfl, rfl, ⟨by decide, by decide, by decide⟩, ?_⟩
        refine ⟨z, _, rfl, rfl, l, _, 0, 0, rfl, rfl, hl4, rfl, _, _, _, rfl, same_mut (s1.trans x4.k) nlK, put_new (s2.trans x4.k) nl, by rw [upd_ne (Ne.symm nld)]; exact hd4, _, upd_same⟩
      · rintro σ' H' ⟨o3, o4, o5, rfl, s1, s2, hd', z, hl'⟩
        exact s_ret (ev_v (R := rV) (d := .ref d) rfl rfl).any_ (xt_nw hi s2).i fun u K5 H5 x5 r5 => q u K5 H5 ((xt_nw hi s2).trans x5) r5
end
end NJ

set_option Elab.async false
set_option linter.all false
set_option maxRecDepth 100000
set_option maxHeartbeats 4000000
namespace NJ
open PySem PySem.Spec PyProof.Rows L2
theorem putF_len (f : Str) (v : V) (fs : List (Str × V)) : (putF f v fs).length ≤ fs.length + 1 := length_putF f v fs
abbrev rIsN : R2 := fun x y H Q => y = .non ∧ Q (.bl (decide (x = .non))) H
abbrev rNotN : R2 := fun x y H Q => y = .non ∧ Q (.bl (!decide (x = .non))) H
theorem rv_notN {v : V} : Rv rNotN rV v rN () rB (!decide (v = .non)) := rv_now fun Hm H1 _ x y rx ry => ⟨_, rfl, fun Q q => ⟨ry, by rw [show x = v from rx]; exact q⟩⟩
theorem rv_isN {v : V} : Rv rIsN rV v rN () rB (decide (v = .non)) := rv_now fun Hm H1 _ x y rx ry => ⟨_, rfl, fun Q q => ⟨ry, by rw [show x = v from rx]; exact q⟩⟩
section
variable {P : Program} {w : World} {K : PySem.W.Frag} {mg : Str → Option Value} {base : Heap}
abbrev CW (K : PySem.W.Frag) : Addr := He.ga K "Web"
/-- o.f = e, o in slot 0 -/
theorem s_fld {σ : L2.St} {Hm H : Hp} {α : Type} {R : Rp α} {d : α} {te : TE} {D : Ends} {x C dx : Addr} {fs : List (Str × V)} {f : Str} (h : Ev te σ Hm R d) (hi : Same Hm H) (hv : σ[0]? = some (some (.ref x))) (hx : H x = some (.ins C dx fs)) (c : Cls K C) (n : NoAttr K C f) (hl : fs.length < 1000)
    (k : ∀ y K1 H1, Xt Hm H K1 H1 → D.nx σ (upd H1 x (.ins C dx (putF f y fs)))) : sFld K (tVar 0) te f D σ H := h H hi _ fun y K1 H1 x1 r => ⟨.ref x, hv, x, C, dx, fs, rfl, x1.k _ _ hx, c, n, hl, k y K1 H1 x1⟩
theorem q_fld {σ : L2.St} {Hm H : Hp} {α : Type} {R : Rp α} {d : α} {te : TE} {D : Ends} {tz : TS} {x C dx : Addr} {fs : List (Str × V)} {f : Str} (h : Ev te σ Hm R d) (hi : Same Hm H) (hv : σ[0]? = some (some (.ref x))) (hx : H x = some (.ins C dx fs)) (c : Cls K C) (n : NoAttr K C f) (hl : fs.length < 1000)
    (k : ∀ y K1 H1, Xt Hm H K1 H1 → tz D σ (upd H1 x (.ins C dx (putF f y fs)))) : tSeq (sFld K (tVar 0) te f) tz D σ H := s_fld (D := { D with nx := tz D }) h hi hv hx c n hl k
/-- all but x as it was -/
def Bt (x : Addr) (H H' : Hp) : Prop := ∀ b o, b ≠ x → H b = some o → H' b = some o
theorem Bt.put {x : Addr} {H H' H2 : Hp} {o : HO} (h : Bt x H H') (s : Same H' H2) : Bt x H (upd H2 x o) := fun b u n e => by
  rw [upd_ne n]
  exact s _ _ (h b u n e)
theorem Bt.same {x : Addr} {Hm H H' : Hp} (h : Bt x H H') (hi : Same Hm H) (n : Hm x = none) : Same Hm H' := fun b o e => h b o (ne_of_none e n) (hi b o e)
def spLay (K : PySem.W.Frag) : Sp := fun vs H Q _ => ∃ (x dx : Addr) (u : V) (fs : List (Str × V)) (Hm : Hp), vs = [.ref x, .int 1, u] ∧ (rT K (rT K rV)).rel Hm u [aV] ∧ Same Hm H ∧ Hm x = none ∧ H x = some (.ins (CW K) dx fs) ∧ fs.length ≤ 10 ∧ ∀ H' fs', Bt x H H' → H' x = some (.ins (CW K) dx fs') → Q .non H'
theorem ok_lay (T : Tx K mg) : Fk P w K mg base CX0 2 (He.ma K (CW K) "lay") ["self", "points", "arrows"] (spLay K) := by
  refine k0_Web_lay T (fun vs H Q E ⟨x, dx, u, fs, Hm, e, _⟩ => by rw [e] <;> rfl) (fun cdv A outer s H vs Q E hr h => ?_)
  refine ⟨_, (pss_cons (ps_fld (pv 0) (pv 1) rfl)
  (pss_cons (ps_fld (pv 0) (pv 2) rfl)
  (pss_cons (ps_fld (pv 0) (pe_fk (ok_letter_rows T) (hr.mono (by decide)) T.g_letter_rows pass0 (pa_cons (pv 1) (pa_cons (pv 2) pa_nil))) rfl)
  (pss_one (ps_fld (pv 0) (pe_fk (ok_letter_rows T) (hr.mono (by decide)) T.g_letter_rows pass0 (pa_cons (pv 1) (pa_cons (pe_fk (ok_led_back T) (hr.mono (by decide)) T.g_led_back pass0 (pa_cons (pv 2) pa_nil)) pa_nil))) rfl))))), ?_⟩
  obtain ⟨x, dx, u, fs, Hm, rfl, r, hi, nx, hx, hl, q⟩ := h
  have b0 : Bt x H H := fun _ _ _ e => e
  refine q_fld (ev_v (R := rI) (d := 1) rfl rfl) hi rfl hx T.cl_Web T.na_Web_points (by omega) fun y1 K1 H1 x1 => ?_
  have b1 := b0.put x1.k (o := .ins (CW K) dx (putF "points" y1 fs))
  have l1 := putF_len "points" y1 fs
  refine q_fld (ev_v (R := rT K (rT K rV)) rfl r) (b1.same hi nx) rfl upd_same T.cl_Web T.na_Web_arrows (by omega) fun y2 K2 H2 x2 => ?_
  have b2 := b1.put x2.k (o := .ins (CW K) dx (putF "arrows" y2 (putF "points" y1 fs)))
  have l2 := putF_len "arrows" y2 (putF "points" y1 fs)
  refine q_fld (ev_call (x := true) trivial (ea_cons (ev_v (R := rI) (d := 1) rfl rfl) (ea_cons (ev_v rfl r) ea_nil))) (b2.same hi nx) rfl upd_same T.cl_Web T.na_Web_onward (by omega) fun y3 K3 H3 x3 => ?_
  have b3 := b2.put x3.k (o := .ins (CW K) dx (putF "onward" y3 (putF "arrows" y2 (putF "points" y1 fs))))
  have l3 := putF_len "onward" y3 (putF "arrows" y2 (putF "points" y1 fs))
  refine s_fld (ev_call (x := false) trivial (ea_cons (ev_v (R := rI) (d := 1) rfl rfl) (ea_cons (ev_call (x := ()) trivial (ea_cons (ev_v rfl r) ea_nil)) ea_nil))) (b3.same hi nx) rfl upd_same T.cl_Web T.na_Web_backward (by omega) fun y4 K4 H4 x4 => ?_
  exact q _ _ (b3.put x4.k) upd_same
def spInit (K : PySem.W.Frag) : Sp := fun vs H Q _ => ∃ (x dx : Addr) (u : V) (Hm : Hp), vs = [.ref x, .int 1, u] ∧ (rT K (rT K rV)).rel Hm u [aV] ∧ Same Hm H ∧ Hm x = none ∧ H x = some (.ins (CW K) dx []) ∧ ∀ H' fs', Bt x H H' → H' x = some (.ins (CW K) dx fs') → Q .non H'
theorem ok_init (T : Tx K mg) : Fk P w K mg base CX0 7 (He.ma K (CW K) "__init__") ["self", "points", "arrows"] (spInit K) := by
  refine k0_Web__init_ T (fun vs H Q E ⟨x, dx, u, Hm, e, _⟩ => by rw [e] <;> rfl) (fun cdv A outer s H vs Q E hr h => ?_)
  obtain ⟨fdL, FL, bL⟩ := (ok_lay (P := P) (w := w) (base := base) T).ex
  refine ⟨_, (pss_cons (ps_set (i := 3) c_Web__init_.nd rfl (by first | exact Or.inl rfl | exact Or.inr rfl) (pe_fk (ok_wrong_part T) (hr.mono (by decide)) T.g_wrong_part pass0 (pa_cons (pv 1) (pa_cons (pv 2) pa_nil))))
  (pss_cons (ps_if (pt_cmpR op_notN (pv 3) pe_non (nomark _)) pss_dead pss_nil)
  (pss_one (ps_expr (pe_meth (pv 0) T.cl_Web T.mt_Web_lay FL (hr.mono (by decide)) bL .nil pass0 (pa_cons (pv 1) (pa_cons (pv 2) pa_nil))))))), ?_⟩
  obtain ⟨x, dx, u, Hm, rfl, r, hi, nx, hx, q⟩ := h
  refine q_set (ev_call (x := ()) trivial (ea_cons (ev_v (R := rI) (d := 1) rfl rfl) (ea_cons (ev_v rfl r) ea_nil))) hi fun v3 K1 H1 x1 r3 => ?_
  cases r3
  refine q_when (b := false) (t1 := fun _ _ _ => False) (et_test (Ev.is (ev_op (ev_v (R := rV) (d := .non) rfl rfl) ev_n rv_notN) (by rfl))) (hi.trans x1.k) (fun hb => by cases hb) (fun _ K2 H2 x2 => ?_)
  have hx2 := x2.k _ _ (x1.k _ _ hx)
  refine ⟨.ref x, rfl, x, dx, [], rfl, hx2, rfl, .int 1, rfl, u, rfl, x, dx, u, [], Hm, rfl, r, (hi.trans x1.k).trans x2.k, nx, hx2, Nat.zero_le _, fun H' fs' hb hx' => q H' fs' (fun b o n e => hb b o n (x2.k _ _ (x1.k _ _ e))) hx'⟩
def rIns (K : PySem.W.Frag) : Rp Unit := ⟨fun H v _ => ∃ a dx fs, v = .ref a ∧ H a = some (.ins (CW K) dx fs), fun s ⟨a, dx, fs, e, h⟩ => ⟨a, dx, fs, e, s _ _ h⟩⟩
/-- Web(1, ((0, 'a', 0),)) -/
theorem ev_web {σ : L2.St} {Hm : Hp} {te : TE} (h : Ev te σ Hm (rT K (rT K rV)) [aV]) : Ev (tMake (CW K) (spInit K) [] E0 (tCons (tC (.int 1)) (tCons te tNil))) σ Hm (rIns K) () := fun H1 hi Q q => h H1 hi _ fun u K2 H2 x2 r x dx nx ndx hne => by
  have kx : Same H2 (upd (upd H2 dx (.own x)) x (.ins (CW K) dx [])) := put_new (put_new (Same.refl _) ndx) nx
  refine ⟨x, dx, u, K2, rfl, r, x2.i.trans kx, none_back x2.i nx, upd_same, fun H' fs' hb hx' => ⟨rfl, ?_⟩⟩
  have kH : Same H2 H' := fun b o e => hb b o (ne_of_none e nx) (kx b o e)
  exact q (.ref x) (nw K2 H2 H') H' (x2.trans (xt_nw x2.i kH)) ⟨x, dx, fs', rfl, (nw_new nx).trans hx'⟩
end
end NJ

set_option Elab.async false
set_option linter.all false
set_option maxRecDepth 100000
set_option maxHeartbeats 4000000
namespace NJ
open PySem PySem.Spec PyProof.Rows L2
section
variable {P : Program} {w : World} {K : PySem.W.Frag} {mg : Str → Option Value} {base : Heap}
/-! ### what the law asks of clash -/
def somes (xs : List T8) : List (Option T8) := xs.map some
theorem somes_get (xs : List T8) : (somes xs).map (·.getD []) = xs := by
  unfold somes
  rw [List.map_map]
  have e : ((fun o : Option T8 => o.getD []) ∘ some) = id := rfl
  exact (congrArg (fun f => List.map f xs) e).trans (List.map_id xs)
theorem good_of {l : T8} (h1 : l ≠ []) (h2 : ltr l) : good (some l) = true := by
  unfold good isTx
  rw [Bool.and_eq_true]
  refine ⟨List.all_eq_true.mpr fun c hc => ?_, ?_⟩
  · have := h2 c hc
    unfold lower
    rw [Bool.and_eq_true, decide_eq_true_iff, decide_eq_true_iff]
    exact this
  · simp [h1]
theorem ans_texts (b : Bool) {xs : List T8} (h : ∀ x ∈ xs, x ≠ [] ∧ ltr x) : ansF (.row b (somes xs)) = some (lcF xs) := by
  have e : ((somes xs).map good).all id = true := by
    rw [List.all_eq_true]
    intro g hg
    obtain ⟨o, ho, rfl⟩ := List.mem_map.mp hg
    obtain ⟨x, hx, rfl⟩ := List.mem_map.mp ho
    exact good_of (h x hx).1 (h x hx).2
  show (if ((somes xs).map good).all id = true then some (lcF ((somes xs).map (·.getD []))) else none) = _
  rw [if_pos e, somes_get]
theorem okW_texts (b : Bool) {xs : List T8} (h : xs.length ≤ 1000) (g : ∀ x ∈ xs, x.length ≤ 1000) : okW K (.row b (somes xs)) := ⟨by unfold somes; rw [List.length_map]; exact h, fun o ho => by
  obtain ⟨x, hx, rfl⟩ := List.mem_map.mp ho
  exact g x hx⟩
theorem paired_some {H : Hp} : ∀ {vs : List V} {xs : List T8}, Paired (rS.rel H) vs xs → Paired ((rTh K).rel H) vs (somes xs)
  | _, _, .nil => .nil
  | _, _, .cons a r => .cons a (paired_some r)
section
variable {σ : L2.St} {Hm : Hp} {te ta tb : TE} {xs ys : List T8} {E : XK}
theorem rl_some {v : V} (h : (rL K rS).rel Hm v xs) : (rL K (rTh K)).rel Hm v (somes xs) := by
  obtain ⟨a, vs, e, hS, hP⟩ := h
  exact ⟨a, vs, e, hS, paired_some hP⟩
theorem rt_some {v : V} (h : (rT K rS).rel Hm v xs) : (rT K (rTh K)).rel Hm v (somes xs) := by
  obtain ⟨a, vs, e, hS, hP⟩ := h
  exact ⟨a, vs, e, hS, paired_some hP⟩
theorem rm_some {v : V} (h : (rM rS).rel Hm v xs) : (rM (rTh K)).rel Hm v (somes xs) := by
  obtain ⟨a, vs, e, hS, hP⟩ := h
  exact ⟨a, vs, e, hS, paired_some hP⟩
theorem Ev.conv {α β : Type} {R : Rp α} {S : Rp β} {d : α} {e : β} (h : Ev te σ Hm R d) (f : ∀ {H v}, R.rel H v d → S.rel H v e) : Ev te σ Hm S e := fun H1 hi Q q => h H1 hi Q fun v K2 H2 x2 r => q v K2 H2 x2 (f r)
/-- _law_told of a thing -/
theorem ev_told {x : Th} (h : Ea (tCons te tNil) σ Hm (aTh K x)) (ok : okW K x) : Ev (tCall (spTold K) [] E (tCons te tNil)) σ Hm (rTold K) (ansF x) := ev_call (x := x) ok h
def okX (xs : List T8) : Prop := xs.length ≤ 1000 ∧ ∀ x ∈ xs, x ≠ [] ∧ x.length ≤ 1000 ∧ ltr x
theorem ev_toldL (h : Ev te σ Hm (rL K rS) xs) (ok : okX xs) : Ev (tCall (spTold K) [] E (tCons te tNil)) σ Hm (rO (rP K rS rS)) (lcF xs) := by
  have h1 : Ev _ σ Hm (rTold K) (ansF (.row false (somes xs))) := ev_told (E := E) (ea_cons (h.conv rl_some) ea_nil) (okW_texts false ok.1 fun x hx => (ok.2 x hx).2.1)
  rw [ans_texts false fun x hx => ⟨(ok.2 x hx).1, (ok.2 x hx).2.2⟩] at h1
  exact h1
theorem ev_toldT (h : Ev te σ Hm (rT K rS) xs) (ok : okX xs) : Ev (tCall (spTold K) [] E (tCons te tNil)) σ Hm (rO (rP K rS rS)) (lcF xs) := by
  have h1 : Ev _ σ Hm (rTold K) (ansF (.row true (somes xs))) := ev_told (E := E) (ea_cons (h.conv rt_some) ea_nil) (okW_texts true ok.1 fun x hx => (ok.2 x hx).2.1)
  rw [ans_texts true fun x hx => ⟨(ok.2 x hx).1, (ok.2 x hx).2.2⟩] at h1
  exact h1
/-- an argument that is known up to a property -/
theorem ev_bindE {α β : Type} {R : Rp α} {Pa : α → Prop} {S : Rp β} {z : β} {f : V → L2.St → Hp → VK → Prop} {tx : TE} (ht : ∀ σ H Q, tx σ H Q = te σ H fun v H1 => f v σ H1 Q) (h : Ev te σ Hm (rE R Pa) ()) (k : ∀ d v K1, Pa d → Same Hm K1 → R.rel K1 v d → ∀ H1, Same K1 H1 → ∀ Q : VK, (∀ u Hm' H2, Xt K1 H1 Hm' H2 → S.rel Hm' u z → Q u H2) → f v σ H1 Q) : Ev tx σ Hm S z := fun H1 hi Q q => by
  rw [ht]
  exact h H1 hi _ fun v K2 H2 x2 ⟨d, r, p⟩ => k d v K2 p x2.s r H2 x2.i Q fun u K3 H3 x3 r3 => q u K3 H3 (x2.trans x3) r3
theorem ev_toldE {Pa : List T8 → Prop} {z : Option (T8 × T8)} (h : Ev te σ Hm (rE (rM rS) Pa) ()) (ok : ∀ ys, Pa ys → okX ys ∧ lcF ys = z) : Ev (tCall (spTold K) [] E (tCons te tNil)) σ Hm (rO (rP K rS rS)) z :=
  ev_bindE (f := fun v σ H1 Q => spTold K ([v] ++ []) H1 Q E) (fun _ _ _ => rfl) h fun ys v K1 py s r H1 hi Q q => by
    obtain ⟨ok1, e⟩ := ok ys py
    have a := ans_texts false fun x hx => ⟨(ok1.2 x hx).1, (ok1.2 x hx).2.2⟩
    refine ⟨.row false (somes ys), K1, okW_texts false ok1.1 fun x hx => (ok1.2 x hx).2.1, ⟨v, [], rfl, rl_some (rm_l r), rfl⟩, hi, fun u K2 H2 x2 r2 => q u K2 H2 x2 ?_⟩
    rw [a, e] at r2
    exact r2
def rThing (K : PySem.W.Frag) : Rp Th := ⟨fun H v x => (aTh K x).rel H [v], fun s h => (aTh K _).mono s h⟩
theorem ev_toldN {Pa : Th → Prop} (h : Ev te σ Hm (rE (rThing K) Pa) ()) (ok : ∀ x, Pa x → okW K x ∧ ansF x = none) : Ev (tCall (spTold K) [] E (tCons te tNil)) σ Hm rS none4 :=
  ev_bindE (f := fun v σ H1 Q => spTold K ([v] ++ []) H1 Q E) (fun _ _ _ => rfl) h fun x v K1 py s r H1 hi Q q => by
    obtain ⟨ok1, e⟩ := ok x py
    refine ⟨x, K1, ok1, r, hi, fun u K2 H2 x2 r2 => q u K2 H2 x2 ?_⟩
    rw [e] at r2
    exact r2
/-- clash itself, where it answers -/
theorem ev_clash {x : Th} {z : Option (T8 × T8)} (h : Ea (tCons te tNil) σ Hm (aTh K x)) (ok : okW K x) (e : ansF x = some z) : Ev (tCall (spClash K) [] E (tCons te tNil)) σ Hm (rO (rP K rS rS)) z := fun H1 hi Q q => h H1 hi _ fun vs K2 H2 x2 r => ⟨x, K2, ok, by rw [List.append_nil]; exact r, x2.i, by
  rw [e]
  exact fun u K3 H3 x3 r3 => q u K3 H3 (x2.trans x3) r3⟩
/-! ### pairs as data -/
def dOP : Option (T8 × T8) → PyData
  | none => .none
  | some p => dP p
theorem dp_OP {H : Hp} {v : V} {o : Option (T8 × T8)} (h : (rO (rP K rS rS)).rel H v o) : Dp K H v (dOP o) := by
  cases o with
  | none =>
    rw [show v = V.non from h]
    exact .non
  | some p =>
    obtain ⟨b, x, y, rfl, hS, r1, r2⟩ := h
    rw [show x = _ from r1, show y = _ from r2] at hS
    exact .tup hS (.cons (.str _) (.cons (.str _) .nil))
theorem strOk_ltr {l : T8} (h : ltr l) : PyData.strOk (tx l) = true := by
  unfold PyData.strOk
  rw [← Array.all_toList, tx_cps, List.all_eq_true]
  intro c hc
  have := h c hc
  exact decide_eq_true (by omega)
theorem sh_ltr {l : T8} (h : ltr l) : shO (some l) := by
  unfold shO PySem.SeqAt.shaped
  rw [Bool.and_eq_true]
  exact ⟨strOk_ltr h, rfl⟩
def ltrO (o : Option (T8 × T8)) : Prop := ∀ p, o = some p → ltr p.1 ∧ ltr p.2
theorem sh_OP {o : Option (T8 × T8)} (h : ltrO o) : PySem.SeqAt.shaped (dOP o) = true := by
  cases o with
  | none => rfl
  | some p =>
    obtain ⟨h1, h2⟩ := h p rfl
    unfold PySem.SeqAt.shaped
    rw [Bool.and_eq_true]
    refine ⟨?_, rfl⟩
    show (PyData.strOk (tx p.1) && (PyData.strOk (tx p.2) && true)) = true
    rw [strOk_ltr h1, strOk_ltr h2] <;> rfl
theorem eqv_OP (o : Option (T8 × T8)) : PyData.eqv (dOP o) (dOP o) = true := by
  cases o with
  | none => rfl
  | some p =>
    unfold dOP dP
    simp [PyData.eqv, PyData.eqvAll]
theorem lc_ltr {xs : List T8} (h : ∀ x ∈ xs, ltr x) : ltrO (lcF xs) := fun p e => by
  obtain ⟨⟨h1, h2, _, _⟩, _⟩ := lcF_some e
  exact ⟨h _ h1, h _ h2⟩
theorem rv_neOP {o : Option (T8 × T8)} (h : ltrO o) : Rv (rNeD K) (rO (rP K rS rS)) o (rO (rP K rS rS)) o rB false := by
  have r := rv_neD (K := K) (R := rO (rP K rS rS)) (d := o) (e := o) dp_OP dp_OP (sh_OP h) (sh_OP h)
  rw [eqv_OP] at r
  exact r
theorem rv_eqOP {o : Option (T8 × T8)} (h : ltrO o) : Rv (rEqD K) (rO (rP K rS rS)) o (rO (rP K rS rS)) o rB true := by
  have r := rv_eqD (K := K) (R := rO (rP K rS rS)) (d := o) (e := o) dp_OP dp_OP (sh_OP h) (sh_OP h)
  rw [eqv_OP] at r
  exact r
theorem rv_neSD {l : T8} (h : ltr l) : Rv (rNeD K) rS l rS l rB false := by
  have r := rv_neD (K := K) (R := rS) (d := l) (e := l) (x := dO (some l)) (y := dO (some l)) (fun {H v} r => by rw [show v = _ from r]; exact .str _) (fun {H v} r => by rw [show v = _ from r]; exact .str _) (sh_ltr h) (sh_ltr h)
  rw [eqv_O] at r
  exact r
theorem ev_is {o : Option (T8 × T8)} (h1 : Ev ta σ Hm (rO (rP K rS rS)) o) (h2 : Ev tb σ Hm (rO (rP K rS rS)) o) (h : ltrO o) : Ev (tCall (spIs K) [] E (tCons ta (tCons tb tNil))) σ Hm rB true :=
  ev_call (x := o) (fun p e => ⟨sh_ltr (h p e).1, sh_ltr (h p e).2⟩) (ea_cons h1 (ea_cons h2 ea_nil))
end
end
end NJ

set_option Elab.async false
set_option linter.all false
set_option maxRecDepth 100000
set_option maxHeartbeats 8000000
namespace NJ
open PySem PySem.Spec PyProof.Rows L2
section
variable {P : Program} {w : World} {K : PySem.W.Frag} {mg : Str → Option Value} {base : Heap}
section
variable {σ : L2.St} {Hm : Hp} {te ta tb : TE} {E : XK}
theorem ev_thS {l : T8} (h : Ev te σ Hm rS l) : Ev te σ Hm (rTh K) (some l) := h
theorem ty_non : Ev (tC .non) σ Hm (rTy K) (.type "NoneType") := ev_c fun _ => .base .non
theorem ty_i {i : Int} : Ev (tC (.int i)) σ Hm (rTy K) (.type "int") := ev_c fun _ => .base (.int i)
theorem ty_b {b : Bool} : Ev (tC (.bl b)) σ Hm (rTy K) (.type "bool") := ev_c fun _ => .base (.bl b)
theorem ty_s {z : Str} : Ev (tC (.str z)) σ Hm (rTy K) (.type "str") := ev_c fun _ => .base (.str z)
theorem ty_d {z : Str} {i : Int} : Ev (tDisp [(tC (.str z), tC (.int i))]) σ Hm (rTy K) (.type "dict") := fun H1 hi Q q p np => ⟨upd_same, [(.inr z, .int i)], rfl, by simp, by
  have x := Xt.new hi np (o := .dK [])
  have e : mergeK [] [(Sum.inr z, V.int i)] = [(Sum.inr z, V.int i)] := rfl
  rw [e]
  refine q (.ref p) (upd Hm p (.dK [(.inr z, .int i)])) _ ⟨put_new (Same.refl _) (none_back hi np), fun b o h => ?_, put_new (put_new (Same.refl _) np) np, fun b h => ?_⟩ (.base (.dK upd_same))
  · by_cases hb : b = p
    · subst hb
      rw [upd_same] at h ⊢
      exact h
    · rw [upd_ne hb] at h
      rw [upd_ne hb, upd_ne hb]
      exact hi b o h
  · by_cases hb : b = p
    · subst hb
      exact .inr np
    · rw [upd_ne hb] at h
      exact .inl h⟩
theorem ty_deep (h : Ev te σ Hm (rDeep K false) ()) : Ev te σ Hm (rTy K) (.type "tuple") := h.conv fun {H v} ⟨t, r, e⟩ => e ▸ r
theorem ty_web (T : InsK K (CW K)) (h : Ev te σ Hm (rIns K) ()) : Ev te σ Hm (rTy K) (.ref (CW K)) := h.conv fun {H v} ⟨a, dx, fs, e, hh⟩ => by
  rw [e]
  exact T.ty hh
theorem kit_n {n : String} (h : L2.kitB n "str" = some false) : PySem.W.kitOne K (.type n) (.type "str") = some false := kit_ty h
/-- a list of one item that is known up to a property -/
theorem ev_lst1E {α : Type} {R : Rp α} {P2 : α → Prop} (h : Ev te σ Hm (rE R P2) ()) : Ev (tLst (tCons te tNil)) σ Hm (rE (rM R) (fun l => ∃ d, P2 d ∧ l = [d])) () := fun H1 hi Q q => h H1 hi _ fun v K2 H2 x2 ⟨d, r, p⟩ => ⟨by show 1 ≤ sizeLine; rw [sizeLine_eq]; decide, fun a na => q (.ref a) _ _ (xt_ref x2 na) ⟨[d], ⟨a, [v], rfl, upd_same, .cons (R.mono (Xt.new x2.i na).s r) .nil⟩, d, p, rfl⟩⟩
/-- what clash is asked: as things -/
theorem th_row {xs : List (Option T8)} (h : Ev te σ Hm (rL K (rTh K)) xs) : Ev te σ Hm (rThing K) (.row false xs) := h.conv fun {H v} r => ⟨v, [], rfl, r, rfl⟩
theorem th_rowT {xs : List (Option T8)} (h : Ev te σ Hm (rT K (rTh K)) xs) : Ev te σ Hm (rThing K) (.row true xs) := h.conv fun {H v} r => ⟨v, [], rfl, r, rfl⟩
theorem th_oth {t : Value} (h : Ev te σ Hm (rTy K) t) : Ev te σ Hm (rThing K) (.oth t) := h.conv fun {H v} r => ⟨v, [], rfl, r, rfl⟩
theorem th_deep (h : Ev te σ Hm (rDeep K true) ()) : Ev te σ Hm (rThing K) (.row false [none]) := h.conv fun {H v} ⟨xs, r, e⟩ => ⟨v, [], rfl, e ▸ r, rfl⟩
theorem rv_isNO {o : Option (T8 × T8)} {b : Bool} (h : o = none) (hb : b = true) : Rv rIsN (rO (rP K rS rS)) o rN () rB b := rv_now fun Hm H1 _ x y rx ry => ⟨.bl true, by rw [hb]; exact rfl, fun Q q => ⟨ry, by
  subst h
  rw [show x = V.non from rx]
  exact q⟩⟩
end
def odds : List (Option T8) := [some (Str.ofString "").cps.toList, some (Str.ofString "A").cps.toList, none, none, none, some (Str.ofString "a b").cps.toList, none, none, none, none]
theorem odds_bad : ∀ o ∈ odds, good o = false := by decide +kernel
theorem odds_len : ∀ o ∈ odds, (o.getD []).length ≤ 1000 := by decide +kernel
theorem ans_bad {b : Bool} {os : List (Option T8)} {o : Option T8} (h : o ∈ os) (g : good o = false) : ansF (.row b os) = none := by
  show (if (os.map good).all id = true then some (lcF (os.map (·.getD []))) else none) = none
  rw [if_neg]
  intro z
  have := List.all_eq_true.mp z (good o) (List.mem_map_of_mem h)
  rw [g] at this
  cases this
theorem kitA {n : String} (h1 : L2.kitB n "list" = some false) (h2 : L2.kitB n "tuple" = some false) : PySem.W.kitAny K (.type n) [.type "list", .type "tuple"] = some false := kitAny_cons (b := false) (kit_ty h1) (fun _ => kitAny_cons (b := false) (kit_ty h2) (fun _ => rfl) (fun h => by cases h)) (fun h => by cases h)
def ths (K : PySem.W.Frag) (os : List (Option T8)) : List Th := [.row false os, .row true os, .oth (.type "NoneType"), .oth (.type "str"), .oth (.type "dict"), .oth (.type "int"), .oth (.type "bool"), .row false [none], .oth (.ref (CW K))]
theorem ths_ok (T : Tx K mg) {os : List (Option T8)} (h1 : os.length ≤ 1000) (h2 : ∀ o ∈ os, (o.getD []).length ≤ 1000) (h3 : ∃ o ∈ os, good o = false) : ∀ x ∈ ths K os, okW K x ∧ ansF x = none := by
  obtain ⟨o, ho, hg⟩ := h3
  intro x hx
  unfold ths at hx
  simp only [List.mem_cons, List.not_mem_nil, or_false] at hx
  rcases hx with rfl | rfl | rfl | rfl | rfl | rfl | rfl | rfl | rfl
  · exact ⟨⟨h1, h2⟩, ans_bad ho hg⟩
  · exact ⟨⟨h1, h2⟩, ans_bad ho hg⟩
  · exact ⟨kitA (by decide +kernel) (by decide +kernel), rfl⟩
  · exact ⟨kitA (by decide +kernel) (by decide +kernel), rfl⟩
  · exact ⟨kitA (by decide +kernel) (by decide +kernel), rfl⟩
  · exact ⟨kitA (by decide +kernel) (by decide +kernel), rfl⟩
  · exact ⟨kitA (by decide +kernel) (by decide +kernel), rfl⟩
  · exact ⟨⟨by decide, fun o ho => by
      rw [List.mem_singleton] at ho
      subst ho
      exact Nat.zero_le _⟩, ans_bad (o := none) List.mem_cons_self rfl⟩
  · exact ⟨kitAny_cons (b := false) T.kt_Web_list (fun _ => kitAny_cons (b := false) T.kt_Web_tuple (fun _ => rfl) (fun h => by cases h)) (fun h => by cases h), rfl⟩
/-! ### at the end of the law -/
theorem lc_nil : lcF [] = none := lcF_is_none fun p h => by cases h.1
theorem lc_aa : lcF [[97], [97]] = none := lcF_is_none fun p ⟨h1, h2, h3, _⟩ => by
  simp at h1 h2
  rw [h1, h2] at h3
  simp at h3
def abA : List T8 := [[97, 98], [98], [97]]
theorem lc_ab : lcF abA = some ([97], [97, 98]) := by
  refine lcF_is ⟨by decide, by decide, by decide, .inl ⟨[98], rfl⟩⟩ ?_
  rintro ⟨a, b⟩ ⟨h1, h2, h3, _⟩
  dsimp only at h1 h2 h3
  unfold abA at h1 h2
  simp only [List.mem_cons, List.not_mem_nil, or_false] at h1 h2
  rcases h1 with rfl | rfl | rfl <;> rcases h2 with rfl | rfl | rfl <;> first | (simp at h3; done) | (unfold leP; decide)
def spLaw (K : PySem.W.Frag) : Sp := fun vs H Q _ => ∃ (a : Addr) (ns : List Int), vs = [.ref a] ∧ SqL K H a (ns.map V.int) ∧ ns.length ≤ 63 ∧ ∀ H', Q (.bl true) H'
theorem okX_of {xs : List T8} (h : okTs xs) : okX xs := ⟨by have := h.1; omega, fun x hx => ⟨(h.2 x hx).1, by have := (h.2 x hx).2.1; omega, (h.2 x hx).2.2⟩⟩
theorem okX_same {xs ys : List T8} (h : okX xs) (hl : ys.length ≤ 1000) (m : ∀ y ∈ ys, y ∈ xs) : okX ys := ⟨hl, fun y hy => h.2 y (m y hy)⟩
end
end NJ

set_option Elab.async false
set_option linter.all false
set_option maxRecDepth 100000
set_option maxHeartbeats 8000000
namespace NJ
open PySem PySem.Spec PyProof.Rows L2
section
variable {P : Program} {w : World} {K : PySem.W.Frag} {mg : Str → Option Value} {base : Heap}
theorem nox_ex {X : Cx} {b : List Stmt} {D : Ends} {σ : L2.St} {H : Hp} : (∃ t, PSs X.nox b t ∧ t D σ H) → ∃ t, PSs X b t ∧ t D σ H := fun ⟨t, a, b⟩ => ⟨t, a.nox, b⟩
theorem ok_law (T : Tx K mg) {fd : FuncData} (F : FunD K "law" "law" (defArgs s_law) (defBody s_law) (defScope s_law) [] [] (He.fAd K ("law", none)) fd) : FnOk P w K mg base CX0 9 (He.ga K "law") fd ["_law_script"] (spLaw K) := by
  refine F.ok c_law (fun vs H Q E ⟨a, ns, e, _⟩ => by rw [e] <;> rfl) (fun cdv A outer s H vs Q E hr h => nox_ex ?_)
  obtain ⟨fdW, FW, bW⟩ := (ok_init (P := P) (w := w) (base := base) T).ex
  refine ⟨_, (pss_cons (ps_set (i := 1) c_law.nd rfl (by first | exact Or.inl rfl | exact Or.inr rfl) (pe_fk (ok_hand T) (hr.mono (by decide)) T.g_law_hand pass0 (pa_cons (pv 0) pa_nil)))
  (pss_cons (ps_for PassesOwn.never rfl (pi_range1 (by rfl) T.n_range (pa_cons pe_int pa_nil)) (pg_name (i := 2) c_law.nd rfl (by first | exact Or.inl rfl | exact Or.inr rfl)) (pss_cons (ps_set (i := 3) c_law.nd rfl (by first | exact Or.inl rfl | exact Or.inr rfl) (pe_fk (ok_texts T) (hr.mono (by decide)) T.g_law_texts pass0 (pa_cons (pv 1) pa_nil)))
  (pss_cons (ps_set (i := 4) c_law.nd rfl (by first | exact Or.inl rfl | exact Or.inr rfl) (pe_fk (ok_least T) (hr.mono (by decide)) T.g_law_least_clash pass0 (pa_cons (pv 3) pa_nil)))
  (pss_cons (ps_if (PW.pt (pw_or (pt_not (pt_val (pe_fk (ok_is T) (hr.mono (by decide)) T.g_law_is pass0 (pa_cons (pe_fk (ok_told T) (hr.mono (by decide)) T.g_law_told pass0 (pa_cons (pv 3) pa_nil)) (pa_cons (pv 4) pa_nil))))) (pw_or1 (pt_not (pt_val (pe_fk (ok_is T) (hr.mono (by decide)) T.g_law_is pass0 (pa_cons (pe_fk (ok_told T) (hr.mono (by decide)) T.g_law_told pass0 (pa_cons (pe_callTy call_tuple_of (by rfl) T.n_tuple boot_tuple (pa_cons (pe_op op_cat (pe_revL (pv 3)) (pe_slice sl_list (pv 3) po_none (po_some pe_int))) pa_nil)) pa_nil)) (pa_cons (pv 4) pa_nil)))))))) (pss_one (ps_ret pe_bl)) pss_nil)
  (pss_cons (ps_if (pt_cmpR (op_neD hr.units) (pe_fk (ok_told T) (hr.mono (by decide)) T.g_law_told pass0 (pa_cons (pe_fk (ok_shuf T) (hr.mono (by decide)) T.g_law_shuffled pass0 (pa_cons (pv 1) (pa_cons (pv 3) pa_nil))) pa_nil)) (pv 4) (nomark _)) (pss_one (ps_ret pe_bl)) pss_nil)
  (pss_cons (ps_set (i := 5) c_law.nd rfl (by first | exact Or.inl rfl | exact Or.inr rfl) (pe_lst (pa_cons pe_str (pa_cons pe_str (pa_cons pe_non (pa_cons pe_int (pa_cons (pe_lst (pa_cons pe_str pa_nil)) (pa_cons pe_str (pa_cons pe_bl (pa_cons (pe_fk (ok_deep T) (hr.mono (by decide)) T.g_law_deep pass0 (pa_cons pe_int pa_nil)) (pa_cons (pe_tup (pa_cons pe_str pa_nil)) (pa_cons (pe_make T.mk_Web FW (hr.mono (by decide)) (by rfl) T.g_Web bW .nil pass0 (pa_cons pe_int (pa_cons (pe_tup (pa_cons (pe_tup (pa_cons pe_int (pa_cons pe_str (pa_cons pe_int pa_nil)))) pa_nil)) pa_nil))) pa_nil))))))))))))
  (pss_cons (ps_set (i := 6) c_law.nd rfl (by first | exact Or.inl rfl | exact Or.inr rfl) (pe_fk (ok_draw T) (hr.mono (by decide)) T.g_law_draw pass0 (pa_cons (pv 1) (pa_cons (pe_op op_add (pe_callB call_len (by rfl) T.n_len boot_len (pa_cons (pv 3) pa_nil)) pe_int) pa_nil))))
  (pss_cons (ps_set (i := 7) c_law.nd rfl (by first | exact Or.inl rfl | exact Or.inr rfl) (pe_op op_cat (pe_op op_cat (pe_slice sl_list (pv 3) po_none (po_some (pv 6))) (pe_lst (pa_cons (pe_fk (ok_some T) (hr.mono (by decide)) T.g_law_some pass0 (pa_cons (pv 1) (pa_cons (pv 5) pa_nil))) pa_nil))) (pe_slice sl_list (pv 3) (po_some (pv 6)) po_none)))
  (pss_cons (ps_set (i := 8) c_law.nd rfl (by first | exact Or.inl rfl | exact Or.inr rfl) (pe_lst (pa_cons (pv 7) (pa_cons (pe_callTy call_tuple_of (by rfl) T.n_tuple boot_tuple (pa_cons (pv 7) pa_nil)) (pa_cons pe_non (pa_cons pe_str (pa_cons (pe_disp (pps_cons pe_str pe_int pps_nil) rfl rfl (by simp) (by decide)) (pa_cons pe_int (pa_cons pe_bl (pa_cons (pe_fk (ok_deep T) (hr.mono (by decide)) T.g_law_deep pass0 (pa_cons pe_int pa_nil)) (pa_cons (pe_make T.mk_Web FW (hr.mono (by decide)) (by rfl) T.g_Web bW .nil pass0 (pa_cons pe_int (pa_cons (pe_tup (pa_cons (pe_tup (pa_cons pe_int (pa_cons pe_str (pa_cons pe_int pa_nil)))) pa_nil)) pa_nil))) pa_nil)))))))))))
  (pss_one (ps_if (pt_cmpR (op_neD hr.units) (pe_fk (ok_told T) (hr.mono (by decide)) T.g_law_told pass0 (pa_cons (pe_fk (ok_some T) (hr.mono (by decide)) T.g_law_some pass0 (pa_cons (pv 1) (pa_cons (pv 8) pa_nil))) pa_nil)) pe_str (nomark _)) (pss_one (ps_ret pe_bl)) pss_nil)))))))))))
  (pss_cons (ps_if (pt_not (pt_cmpR op_isN (pe_fk (ok_clash T) (hr.mono (by decide)) T.g_clash passL (pa_cons (pe_lst pa_nil) pa_nil)) pe_non (nomark _))) (pss_one (ps_ret pe_bl)) pss_nil)
  (pss_one (ps_ret (pe_and (pe_cmpR op_isN (pe_fk (ok_clash T) (hr.mono (by decide)) T.g_clash passL (pa_cons (pe_tup pa_nil) pa_nil)) pe_non (nomark _)) (pe_and (pe_cmpR op_isN (pe_fk (ok_clash T) (hr.mono (by decide)) T.g_clash passL (pa_cons (pe_lst (pa_cons pe_str (pa_cons pe_str pa_nil))) pa_nil)) pe_non (nomark _)) (pe_one (pe_cmpR (op_eqD hr.units) (pe_fk (ok_clash T) (hr.mono (by decide)) T.g_clash passL (pa_cons (pe_tup (pa_cons pe_str (pa_cons pe_str (pa_cons pe_str pa_nil)))) pa_nil)) (pe_tup (pa_cons pe_str (pa_cons pe_str pa_nil))) (nomark _)))))))))), ?_⟩
  obtain ⟨a, ns, rfl, hS, hz, q⟩ := h
  have r0 : (rL K rI).rel H (.ref a) ns := ⟨a, _, rfl, hS, ev_hc.pairedI ns⟩
  refine q_set (ev_call (x := ns) (by show ns.length ≤ 1000; omega) (ea_cons (ev_v rfl r0) ea_nil)) (Same.refl H) fun v1 K1 H1 x1 r1 => ?_
  obtain ⟨cs, rh, _⟩ := r1
  refine q_for (wk_rngC (n := 6) (by decide) (by decide)) x1.i fun K2 H2 x2 => ⟨fun i σ' H' => (∃ o2 o3 o4 o5 o6 o7 o8, σ' = [some (.ref a), some v1, o2, o3, o4, o5, o6, o7, o8]) ∧ Same K2 H', ⟨⟨_, _, _, _, _, _, _, rfl⟩, x2.i⟩, fun i σ' H' h => h.2, ?step, ?fin⟩
  case step =>
    rintro i d σ' H' u K4 H4 hd ⟨⟨o2, o3, o4, o5, o6, o7, o8, rfl⟩, s2⟩ x4 r4
    have rh4 := rHand.mono (x2.s.trans x4.s) rh
    refine q_set (ev_call (x := cs) trivial (ea_cons (ev_v rfl rh4) ea_nil)) x4.i fun v3 K5 H5 x5 r5 => ?_
    obtain ⟨xs, rx, okx⟩ := r5
    have rx : (rM rS).rel K5 v3 xs := rx
    have okX1 := okX_of okx
    have hlen := okx.1
    have hlt : ltrO (lcF xs) := lc_ltr fun x hx => (okx.2 x hx).2.2
    have rl : (rL K rS).rel K5 v3 xs := rm_l rx
    refine q_set (ev_call (x := xs) ⟨okX1.1, fun x hx => (okX1.2 x hx).2.1⟩ (ea_cons (ev_v rfl rl) ea_nil)) x5.i fun v4 K6 H6 x6 r6 => ?_
    have rl6 := (rL K rS).mono x6.s rl
    have ok2 : okX (xs.reverse ++ cut xs none (some 1)) := okX_same okX1 (by rw [List.length_append, List.length_reverse]; have := cut_len xs none (some 1); omega) fun y hy => by
      rcases List.mem_append.mp hy with z | z
      · exact List.mem_reverse.mp z
      · exact List.mem_of_mem_take (by rw [show cut xs none (some 1) = xs.take 1 from cut_take xs 1] at z; exact z)
    have lc2 : lcF (xs.reverse ++ cut xs none (some 1)) = lcF xs := lcF_same fun y => by
      rw [List.mem_append, List.mem_reverse]
      constructor
      · rintro (z | z)
        · exact z
        · exact List.mem_of_mem_take (by rw [show cut xs none (some 1) = xs.take 1 from cut_take xs 1] at z; exact z)
      · exact .inl
    refine q_when (b := !true || !true) (et_or (et_not (et_test (ev_is (ev_toldL (ev_v rfl rl6) okX1) (ev_v rfl r6) hlt))) fun _ => et_not (et_test (ev_is (Ev.is (ev_toldT (ev_cb (ea_cons (Ev.l (ev_op (ev_revM (ev_v rfl rl6)) (ev_slM (ev_v rfl rl6) eo_none (eo_some ev_i)) (rv_cat (by rw [List.length_reverse]; have := cut_len xs none (some 1); omega)))) ea_nil) rc_tupOfL) ok2) lc2) (ev_v rfl r6) hlt))) x6.i (fun hb => by cases hb) (fun _ K7 H7 x7 => ?_)
    have rl7 := (rL K rS).mono x7.s rl6
    have r67 := (rO (rP K rS rS)).mono x7.s r6
    have rh7 := rHand.mono ((x5.s.trans x6.s).trans x7.s) rh4
    refine q_when (b := false) (et_test (ev_op (ev_toldE (z := lcF xs) (ev_call (x := (cs, xs)) okX1.1 (ea_cons (ev_v rfl rh7) (ea_cons (ev_v rfl rl7) ea_nil))) fun ys py => ⟨okX_same okX1 (by rw [py.length_eq]; exact okX1.1) fun y hy => py.mem_iff.mp hy, lcF_same fun y => py.mem_iff⟩) (ev_v rfl r67) (rv_neOP hlt))) x7.i (fun hb => by cases hb) (fun _ K8 H8 x8 => ?_)
    have rh8 := rHand.mono x8.s rh7
    have rl8 := (rL K rS).mono x8.s rl7
    -- the odd things
    refine q_set (ev_lst (K := K) (R := rTh K) (ds := odds) (ea_cons (ev_thS ev_s) (ea_cons (ev_thS ev_s) (ea_cons (ty_non.noText (kit_n (by decide +kernel))) (ea_cons (ty_i.noText (kit_n (by decide +kernel))) (ea_cons ((ev_lstT (K := K) (ea_cons ev_s ea_nil) (len_of (a1_len a0_len) (by decide))).noText kit_lst_str) (ea_cons (ev_thS ev_s) (ea_cons (ty_b.noText (kit_n (by decide +kernel))) (ea_cons ((ty_deep (ev_call (x := false) trivial (ea_cons ev_i ea_nil))).noText kit_tup_str) (ea_cons ((ev_tupT (K := K) (ea_cons ev_s ea_nil) (len_of (a1_len a0_len) (by decide))).noText kit_tup_str) (ea_cons ((ty_web T.in_Web (ev_web (ev_tup (R := rT K rV) (ds := [aV]) (ea_cons (ev_tup (R := rV) (ds := aV) (ea_cons (ev_c fun _ => rfl) (ea_cons (ev_c fun _ => rfl) (ea_cons (ev_c fun _ => rfl) ea_nil))) (by decide)) ea_nil) (by decide)))).noText T.kt_Web_str) ea_nil)))))))))) (by decide)) x8.i fun v5 K9 H9 x9 r9 => ?_
    have rl9 := (rL K rS).mono x9.s rl8
    have rh9 := rHand.mono x9.s rh8
    refine q_set (ev_draw (cs := cs) (m := (xs.length : Int) + 1) (ev_v rfl rh9) (ev_op (ev_cb (ea_cons (ev_v rfl rl9) ea_nil) rc_lenL) ev_i rv_i0) (by omega) (by omega)) x9.i fun v6 K10 H10 x10 r10 => ?_
    obtain ⟨at_, ra, ha0, ha1⟩ := r10
    have ra : rI.rel K10 v6 at_ := ra
    have rl10 := (rL K rS).mono x10.s rl9
    have rh10 := rHand.mono x10.s rh9
    have ro10 := (rL K (rTh K)).mono x10.s r9
    have la := cut_len xs none (some at_)
    have lb := cut_len xs (some at_) none
    refine q_set (ev_opE2 (T := rM (rTh K)) (P := fun l => ∃ o, o ∈ odds ∧ l = somes (cut xs none (some at_)) ++ [o]) (P2 := fun l => ∃ o, o ∈ odds ∧ l = (somes (cut xs none (some at_)) ++ [o]) ++ somes (cut xs (some at_) none)) (ev_opE (T := rM (rTh K)) ((ev_slM (ev_v rfl rl10) eo_none (eo_some (ev_v rfl ra))).conv rm_some) (ev_lst1E (P2 := fun o => o ∈ odds) (ev_someL (R := rTh K) (ev_v rfl rh10) (ev_v rfl ro10) (by decide) (by decide))) fun e he => by
        obtain ⟨o, ho, rfl⟩ := he
        exact ⟨_, ⟨o, ho, rfl⟩, rv_cat (by unfold somes; rw [List.length_map, List.length_singleton]; omega)⟩) ((ev_slM (ev_v rfl rl10) (eo_some (ev_v rfl ra)) eo_none).conv rm_some) fun e he => by
        obtain ⟨o, ho, rfl⟩ := he
        exact ⟨_, ⟨o, ho, rfl⟩, rv_cat (by unfold somes; rw [List.length_append, List.length_map, List.length_singleton, List.length_map]; omega)⟩) x10.i fun v7 K11 H11 x11 r11 => ?_
    obtain ⟨os, ro, o, ho, eos⟩ := r11
    have ro : (rM (rTh K)).rel K11 v7 os := ro
    have rh11 := rHand.mono x11.s rh10
    have l1 : os.length ≤ 1000 := by
      rw [eos, List.length_append, List.length_append, List.length_singleton]
      unfold somes
      rw [List.length_map, List.length_map]
      omega
    have l2 : ∀ p ∈ os, (p.getD []).length ≤ 1000 := by
      intro p hp
      rw [eos, List.mem_append, List.mem_append, List.mem_singleton] at hp
      rcases hp with (hp | rfl) | hp
      · obtain ⟨x, hx, rfl⟩ := List.mem_map.mp hp
        exact (okX1.2 x (List.mem_of_mem_drop (List.mem_of_mem_take hx))).2.1
      · exact odds_len _ ho
      · obtain ⟨x, hx, rfl⟩ := List.mem_map.mp hp
        exact (okX1.2 x (List.mem_of_mem_drop (List.mem_of_mem_take hx))).2.1
    have l3 : ∃ o ∈ os, good o = false := ⟨o, by rw [eos, List.mem_append, List.mem_append, List.mem_singleton]; exact .inl (.inr rfl), odds_bad o ho⟩
    -- the things
    have evw : ∀ {σ : L2.St}, Ev (tMake (CW K) (spInit K) [] E0 (tCons (tC (.int 1)) (tCons (tTup (tCons (tTup (tCons (tC (.int 0)) (tCons (tC (.str (Str.ofString "a"))) (tCons (tC (.int 0)) tNil)))) tNil)) tNil))) σ K11 (rIns K) () := fun {σ} => ev_web (ev_tup (R := rT K rV) (ds := [aV]) (ea_cons (ev_tup (R := rV) (ds := aV) (ea_cons (ev_c fun _ => rfl) (ea_cons (ev_c fun _ => rfl) (ea_cons (ev_c fun _ => rfl) ea_nil))) (by decide)) ea_nil) (by decide))
    refine q_set (ev_lst (K := K) (R := rThing K) (ds := ths K os) (ea_cons (th_row (ev_v rfl (rm_l ro))) (ea_cons (th_rowT (ev_cb (ea_cons (ev_v rfl (rm_l ro)) ea_nil) rc_tupOfL)) (ea_cons (th_oth ty_non) (ea_cons (th_oth ty_s) (ea_cons (th_oth ty_d) (ea_cons (th_oth ty_i) (ea_cons (th_oth ty_b) (ea_cons (th_deep (ev_call (x := true) trivial (ea_cons ev_i ea_nil))) (ea_cons (th_oth (ty_web T.in_Web evw)) ea_nil))))))))) (by show 9 ≤ 16000000; decide)) x11.i fun v8 K12 H12 x12 r12 => ?_
    have rh12 := rHand.mono x12.s rh11
    refine s_if (b := false) (et_test (ev_op (ev_toldN (Pa := fun x => x ∈ ths K os) (ev_someL (R := rThing K) (ev_v rfl rh12) (ev_v rfl r12) (by show 0 < 9; decide) (by show 9 ≤ 1000; decide)) (ths_ok T l1 l2 l3)) ev_s (rv_neSD (by unfold ltr; decide +kernel)))) x12.i (fun hb => by cases hb) (fun _ K13 H13 x13 => ⟨⟨_, _, _, _, _, _, _, rfl⟩, ?_⟩)
    exact ((((((((((s2.trans x4.k).trans x5.k).trans x6.k).trans x7.k).trans x8.k).trans x9.k).trans x10.k).trans x11.k).trans x12.k).trans x13.k)
  case fin =>
    rintro σ' H' ⟨⟨o2, o3, o4, o5, o6, o7, o8, rfl⟩, s2⟩
    have a0 : ansF (.row false (somes [])) = some (lcF []) := ans_texts false fun x hx => by cases hx
    have a1' : ansF (.row true (somes [])) = some (lcF []) := ans_texts true fun x hx => by cases hx
    have a2 : ansF (.row false (somes [[97], [97]])) = some (lcF [[97], [97]]) := ans_texts false (by unfold ltr; decide)
    have a3 : ansF (.row true (somes abA)) = some (lcF abA) := ans_texts true (by unfold ltr abA; decide)
    refine q_when (b := !true) (et_not (et_test (ev_op (ev_clash (ea_cons (ev_lst (K := K) (R := rTh K) (ds := []) ea_nil (by decide)) ea_nil) (okW_texts (K := K) false (xs := []) (by decide) (fun x hx => by cases hx)) a0) ev_n (rv_isNO lc_nil rfl)))) s2 (fun hb => by cases hb) (fun _ K3 H3 x3 => ?_)
    refine s_ret (Ev.is (d' := true) (ev_and (ev_op (ev_clash (ea_cons (ev_tup (K := K) (R := rTh K) (ds := []) ea_nil (by decide)) ea_nil) (okW_texts (K := K) true (xs := []) (by decide) (fun x hx => by cases hx)) a1') ev_n (rv_isNO lc_nil rfl)) fun _ => ev_and (ev_op (ev_clash (ea_cons (ev_lst (K := K) (R := rTh K) (ds := somes [[97], [97]]) (ea_cons (ev_thS (Ev.is ev_s (by decide +kernel))) (ea_cons (ev_thS (Ev.is ev_s (by decide +kernel))) ea_nil)) (by decide)) ea_nil) (okW_texts (K := K) false (xs := [[97], [97]]) (by decide) (by decide)) a2) ev_n (rv_isNO lc_aa rfl)) fun _ => ev_op (Ev.is (ev_clash (ea_cons (ev_tup (K := K) (R := rTh K) (ds := somes abA) (ea_cons (ev_thS (Ev.is ev_s (by decide +kernel))) (ea_cons (ev_thS (Ev.is ev_s (by decide +kernel))) (ea_cons (ev_thS (Ev.is ev_s (by decide +kernel))) ea_nil))) (by decide)) ea_nil) (okW_texts (K := K) true (xs := abA) (by decide) (by unfold abA; decide)) a3) lc_ab) (ev_some (ev_pair (d := [97]) (e := [97, 98]) (ea_cons (Ev.is ev_s (by decide +kernel)) (ea_cons (Ev.is ev_s (by decide +kernel)) ea_nil)))) (rv_eqOP fun p e => by cases e; unfold ltr; decide)) rfl) x3.i fun v K5 H5 x5 r5 => by
      cases r5
      exact q H5
end
end NJ

set_option Elab.async false
set_option linter.all false
set_option maxRecDepth 100000
set_option maxHeartbeats 0
namespace NJ
open PySem PySem.Spec PyProof.Rows L2
def d_JoinError__init_ : He.DefD := ⟨("JoinError", some "__init__"), "__init__", "JoinError.__init__", defArgs s_JoinError__init_, defBody s_JoinError__init_, defScope s_JoinError__init_, [], []⟩
def d_BadWeb__init_ : He.DefD := ⟨("BadWeb", some "__init__"), "__init__", "BadWeb.__init__", defArgs s_BadWeb__init_, defBody s_BadWeb__init_, defScope s_BadWeb__init_, [], []⟩
def d_is_integer : He.DefD := ⟨("is_integer", none), "is_integer", "is_integer", defArgs s_is_integer, defBody s_is_integer, defScope s_is_integer, [], []⟩
def d_is_number : He.DefD := ⟨("is_number", none), "is_number", "is_number", defArgs s_is_number, defBody s_is_number, defScope s_is_number, [], []⟩
def d_is_text : He.DefD := ⟨("is_text", none), "is_text", "is_text", defArgs s_is_text, defBody s_is_text, defScope s_is_text, [], []⟩
def d_is_long_text : He.DefD := ⟨("is_long_text", none), "is_long_text", "is_long_text", defArgs s_is_long_text, defBody s_is_long_text, defScope s_is_long_text, [], []⟩
def d_is_letter : He.DefD := ⟨("is_letter", none), "is_letter", "is_letter", defArgs s_is_letter, defBody s_is_letter, defScope s_is_letter, [], []⟩
def d_is_row : He.DefD := ⟨("is_row", none), "is_row", "is_row", defArgs s_is_row, defBody s_is_row, defScope s_is_row, [], []⟩
def d_are_ascending : He.DefD := ⟨("are_ascending", none), "are_ascending", "are_ascending", defArgs s_are_ascending, defBody s_are_ascending, defScope s_are_ascending, [], []⟩
def d_links : He.DefD := ⟨("links", none), "links", "links", defArgs s_links, defBody s_links, defScope s_links, [], []⟩
def d_led_back : He.DefD := ⟨("led_back", none), "led_back", "led_back", defArgs s_led_back, defBody s_led_back, defScope s_led_back, [], []⟩
def d_reached : He.DefD := ⟨("reached", none), "reached", "reached", defArgs s_reached, defBody s_reached, defScope s_reached, [], []⟩
def d_all_joined : He.DefD := ⟨("all_joined", none), "all_joined", "all_joined", defArgs s_all_joined, defBody s_all_joined, defScope s_all_joined, [], []⟩
def d_Web__init_ : He.DefD := ⟨("Web", some "__init__"), "__init__", "Web.__init__", defArgs s_Web__init_, defBody s_Web__init_, defScope s_Web__init_, [], []⟩
def d_Web_lay : He.DefD := ⟨("Web", some "lay"), "lay", "Web.lay", defArgs s_Web_lay, defBody s_Web_lay, defScope s_Web_lay, [], []⟩
def d_Web__eq_ : He.DefD := ⟨("Web", some "__eq__"), "__eq__", "Web.__eq__", defArgs s_Web__eq_, defBody s_Web__eq_, defScope s_Web__eq_, [], []⟩
def d_letter_rows : He.DefD := ⟨("letter_rows", none), "letter_rows", "letter_rows", defArgs s_letter_rows, defBody s_letter_rows, defScope s_letter_rows, [], []⟩
def d_wrong_part : He.DefD := ⟨("wrong_part", none), "wrong_part", "wrong_part", defArgs s_wrong_part, defBody s_wrong_part, defScope s_wrong_part, [], []⟩
def d_are_arrows : He.DefD := ⟨("are_arrows", none), "are_arrows", "are_arrows", defArgs s_are_arrows, defBody s_are_arrows, defScope s_are_arrows, [], []⟩
def d_is_arrow : He.DefD := ⟨("is_arrow", none), "is_arrow", "is_arrow", defArgs s_is_arrow, defBody s_is_arrow, defScope s_is_arrow, [], []⟩
def d_clash : He.DefD := ⟨("clash", none), "clash", "clash", defArgs s_clash, defBody s_clash, defScope s_clash, [], []⟩
def d_least_clash : He.DefD := ⟨("least_clash", none), "least_clash", "least_clash", defArgs s_least_clash, defBody s_least_clash, defScope s_least_clash, [], []⟩
def d_beginning_texts : He.DefD := ⟨("beginning_texts", none), "beginning_texts", "beginning_texts", defArgs s_beginning_texts, defBody s_beginning_texts, defScope s_beginning_texts, [], []⟩
def d_law_hand : He.DefD := ⟨("_law_hand", none), "_law_hand", "_law_hand", defArgs s_law_hand, defBody s_law_hand, defScope s_law_hand, [], []⟩
def d_law_draw : He.DefD := ⟨("_law_draw", none), "_law_draw", "_law_draw", defArgs s_law_draw, defBody s_law_draw, defScope s_law_draw, [], []⟩
def d_law_is : He.DefD := ⟨("_law_is", none), "_law_is", "_law_is", defArgs s_law_is, defBody s_law_is, defScope s_law_is, [], []⟩
def d_law_some : He.DefD := ⟨("_law_some", none), "_law_some", "_law_some", defArgs s_law_some, defBody s_law_some, defScope s_law_some, [], []⟩
def d_law_shuffled : He.DefD := ⟨("_law_shuffled", none), "_law_shuffled", "_law_shuffled", defArgs s_law_shuffled, defBody s_law_shuffled, defScope s_law_shuffled, [], []⟩
def d_law_clashing : He.DefD := ⟨("_law_clashing", none), "_law_clashing", "_law_clashing", defArgs s_law_clashing, defBody s_law_clashing, defScope s_law_clashing, [], []⟩
def d_law_deep : He.DefD := ⟨("_law_deep", none), "_law_deep", "_law_deep", defArgs s_law_deep, defBody s_law_deep, defScope s_law_deep, [], []⟩
def d_law_least_clash : He.DefD := ⟨("_law_least_clash", none), "_law_least_clash", "_law_least_clash", defArgs s_law_least_clash, defBody s_law_least_clash, defScope s_law_least_clash, [], []⟩
def d_law_told : He.DefD := ⟨("_law_told", none), "_law_told", "_law_told", defArgs s_law_told, defBody s_law_told, defScope s_law_told, [], []⟩
def d_law_texts : He.DefD := ⟨("_law_texts", none), "_law_texts", "_law_texts", defArgs s_law_texts, defBody s_law_texts, defScope s_law_texts, [], []⟩
def d_law : He.DefD := ⟨("law", none), "law", "law", defArgs s_law, defBody s_law, defScope s_law, [], []⟩
def fns : List He.DefD := [d_JoinError__init_, d_BadWeb__init_, d_is_integer, d_is_number, d_is_text, d_is_long_text, d_is_letter, d_is_row, d_are_ascending, d_links, d_led_back, d_reached, d_all_joined, d_Web__init_, d_Web_lay, d_Web__eq_, d_letter_rows, d_wrong_part, d_are_arrows, d_is_arrow, d_clash, d_least_clash, d_beginning_texts, d_law_hand, d_law_draw, d_law_is, d_law_some, d_law_shuffled, d_law_clashing, d_law_deep, d_law_least_clash, d_law_told, d_law_texts, d_law]
def fas : List He.Fa := [.glo "JoinError", .glo "BadWeb", .glo "NoTexts", .glo "is_integer", .glo "is_number", .glo "is_text", .glo "is_long_text", .glo "is_letter", .glo "is_row", .glo "are_ascending", .glo "links", .glo "led_back", .glo "reached", .glo "all_joined", .int "MOST_POINTS" 12, .int "MOST_ARROWS" 60, .glo "Web", .glo "letter_rows", .glo "wrong_part", .glo "are_arrows", .glo "is_arrow", .glo "clash", .glo "least_clash", .glo "beginning_texts", .glo "_law_hand", .glo "_law_draw", .glo "_law_is", .glo "_law_some", .glo "_law_shuffled", .glo "_law_clashing", .glo "_law_deep", .glo "_law_least_clash", .glo "_law_told", .glo "_law_texts", .glo "law", .free "isinstance", .free "int", .free "bool", .free "str", .free "all", .free "len", .free "list", .free "tuple", .free "zip", .free "sorted", .free "set", .free "range", .free "abs", .free "min", .cls "Web", .noat "Web" "points", .noat "Web" "arrows", .noat "Web" "onward", .noat "Web" "backward", .mkr "Web", .meth "Web" "lay", .exm "NoTexts" "NoTexts" true]
def xfs : List (PySem.W.Frag → Bool) := [oexB "NoTexts", inheritB "NoTexts" "JoinError", insB "Web", kitB2 "Web" "str" false, kitB2 "Web" "list" false, kitB2 "Web" "tuple" false]
abbrev RR : PySem.W.OpenRow := PySem.W.OpenLaw.row PySem.Challenge.rw_neverjoin_k22_whole_texts_that_clash
abbrev hk : PySem.W.Hook := hookX 5 fas fns xfs
def ob (s : PySem.W.SharedT) : Bool × He.AlD := obX 5 fas fns xfs (HandSHeadRun.getT s)
theorem ob_eq (s : PySem.W.SharedT) : ob s = hk.obs s.abs := obX_eq (HandSHeadRun.getT_eq s)
def nms0 : List PySem.Str := ["JoinError", "BadWeb", "NoTexts", "is_integer", "is_number", "is_text", "is_long_text", "is_letter", "is_row", "are_ascending", "links", "led_back"]
def nms1 : List PySem.Str := ["reached", "all_joined", "MOST_POINTS", "MOST_ARROWS", "Web", "letter_rows", "wrong_part", "are_arrows", "is_arrow", "clash", "least_clash", "beginning_texts"]
def nms2 : List PySem.Str := ["_law_hand", "_law_draw", "_law_is", "_law_some", "_law_shuffled", "_law_clashing", "_law_deep", "_law_least_clash", "_law_told", "_law_texts"]
abbrev nms : List PySem.Str := nms0 ++ nms1 ++ nms2
theorem run (w : World) : HandSHeadRun.RunEq RR (PySem.W.view RR.prog [40]) hk ob 8000 nms w := by
  intro os
  kernel_rfl
theorem tx_of_says {K : PySem.W.Frag} {h : Heap} {mg : Str → Option Value} (X : K.In h) (G : h.Ns mainGlobals mg) (c : SaysX fas fns xfs K) : Tx K mg := by
  have g_JoinError := He.glo_ok X G (c.d.fact 0 (f := .glo "JoinError") rfl)
  have g_BadWeb := He.glo_ok X G (c.d.fact 1 (f := .glo "BadWeb") rfl)
  have g_NoTexts := He.glo_ok X G (c.d.fact 2 (f := .glo "NoTexts") rfl)
  have g_is_integer := He.glo_ok X G (c.d.fact 3 (f := .glo "is_integer") rfl)
  have g_is_number := He.glo_ok X G (c.d.fact 4 (f := .glo "is_number") rfl)
  have g_is_text := He.glo_ok X G (c.d.fact 5 (f := .glo "is_text") rfl)
  have g_is_long_text := He.glo_ok X G (c.d.fact 6 (f := .glo "is_long_text") rfl)
  have g_is_letter := He.glo_ok X G (c.d.fact 7 (f := .glo "is_letter") rfl)
  have g_is_row := He.glo_ok X G (c.d.fact 8 (f := .glo "is_row") rfl)
  have g_are_ascending := He.glo_ok X G (c.d.fact 9 (f := .glo "are_ascending") rfl)
  have g_links := He.glo_ok X G (c.d.fact 10 (f := .glo "links") rfl)
  have g_led_back := He.glo_ok X G (c.d.fact 11 (f := .glo "led_back") rfl)
  have g_reached := He.glo_ok X G (c.d.fact 12 (f := .glo "reached") rfl)
  have g_all_joined := He.glo_ok X G (c.d.fact 13 (f := .glo "all_joined") rfl)
  have i_MOST_POINTS := He.int_ok X G (c.d.fact 14 (f := .int "MOST_POINTS" 12) rfl)
  have i_MOST_ARROWS := He.int_ok X G (c.d.fact 15 (f := .int "MOST_ARROWS" 60) rfl)
  have g_Web := He.glo_ok X G (c.d.fact 16 (f := .glo "Web") rfl)
  have g_letter_rows := He.glo_ok X G (c.d.fact 17 (f := .glo "letter_rows") rfl)
  have g_wrong_part := He.glo_ok X G (c.d.fact 18 (f := .glo "wrong_part") rfl)
  have g_are_arrows := He.glo_ok X G (c.d.fact 19 (f := .glo "are_arrows") rfl)
  have g_is_arrow := He.glo_ok X G (c.d.fact 20 (f := .glo "is_arrow") rfl)
  have g_clash := He.glo_ok X G (c.d.fact 21 (f := .glo "clash") rfl)
  have g_least_clash := He.glo_ok X G (c.d.fact 22 (f := .glo "least_clash") rfl)
  have g_beginning_texts := He.glo_ok X G (c.d.fact 23 (f := .glo "beginning_texts") rfl)
  have g_law_hand := He.glo_ok X G (c.d.fact 24 (f := .glo "_law_hand") rfl)
  have g_law_draw := He.glo_ok X G (c.d.fact 25 (f := .glo "_law_draw") rfl)
  have g_law_is := He.glo_ok X G (c.d.fact 26 (f := .glo "_law_is") rfl)
  have g_law_some := He.glo_ok X G (c.d.fact 27 (f := .glo "_law_some") rfl)
  have g_law_shuffled := He.glo_ok X G (c.d.fact 28 (f := .glo "_law_shuffled") rfl)
  have g_law_clashing := He.glo_ok X G (c.d.fact 29 (f := .glo "_law_clashing") rfl)
  have g_law_deep := He.glo_ok X G (c.d.fact 30 (f := .glo "_law_deep") rfl)
  have g_law_least_clash := He.glo_ok X G (c.d.fact 31 (f := .glo "_law_least_clash") rfl)
  have g_law_told := He.glo_ok X G (c.d.fact 32 (f := .glo "_law_told") rfl)
  have g_law_texts := He.glo_ok X G (c.d.fact 33 (f := .glo "_law_texts") rfl)
  have g_law := He.glo_ok X G (c.d.fact 34 (f := .glo "law") rfl)
  have n_isinstance := He.free_ok X G (c.d.fact 35 (f := .free "isinstance") rfl)
  have n_int := He.free_ok X G (c.d.fact 36 (f := .free "int") rfl)
  have n_bool := He.free_ok X G (c.d.fact 37 (f := .free "bool") rfl)
  have n_str := He.free_ok X G (c.d.fact 38 (f := .free "str") rfl)
  have n_all := He.free_ok X G (c.d.fact 39 (f := .free "all") rfl)
  have n_len := He.free_ok X G (c.d.fact 40 (f := .free "len") rfl)
  have n_list := He.free_ok X G (c.d.fact 41 (f := .free "list") rfl)
  have n_tuple := He.free_ok X G (c.d.fact 42 (f := .free "tuple") rfl)
  have n_zip := He.free_ok X G (c.d.fact 43 (f := .free "zip") rfl)
  have n_sorted := He.free_ok X G (c.d.fact 44 (f := .free "sorted") rfl)
  have n_set := He.free_ok X G (c.d.fact 45 (f := .free "set") rfl)
  have n_range := He.free_ok X G (c.d.fact 46 (f := .free "range") rfl)
  have n_abs := He.free_ok X G (c.d.fact 47 (f := .free "abs") rfl)
  have n_min := He.free_ok X G (c.d.fact 48 (f := .free "min") rfl)
  have cl_Web := He.cls_ok (c.d.fact 49 (f := .cls "Web") rfl)
  have na_Web_points := He.noat_ok (c.d.fact 50 (f := .noat "Web" "points") rfl)
  have na_Web_arrows := He.noat_ok (c.d.fact 51 (f := .noat "Web" "arrows") rfl)
  have na_Web_onward := He.noat_ok (c.d.fact 52 (f := .noat "Web" "onward") rfl)
  have na_Web_backward := He.noat_ok (c.d.fact 53 (f := .noat "Web" "backward") rfl)
  have mk_Web := He.mkr_ok (c.d.fact 54 (f := .mkr "Web") rfl)
  have mt_Web_lay := He.meth_ok (c.d.fact 55 (f := .meth "Web" "lay") rfl)
  have em_NoTexts_NoTexts := He.exm_ok (c.d.fact 56 (f := .exm "NoTexts" "NoTexts" true) rfl)
  have ox_NoTexts := oexB_ok (c.at 0 (f := oexB "NoTexts") rfl)
  have ih_NoTexts := inheritB_ok (c.at 1 (f := inheritB "NoTexts" "JoinError") rfl)
  have in_Web := (fun h => insB_ok h cl_Web) (c.at 2 (f := insB "Web") rfl)
  have kt_Web_str := of_decide_eq_true (c.at 3 (f := kitB2 "Web" "str" false) rfl)
  have kt_Web_list := of_decide_eq_true (c.at 4 (f := kitB2 "Web" "list" false) rfl)
  have kt_Web_tuple := of_decide_eq_true (c.at 5 (f := kitB2 "Web" "tuple" false) rfl)
  exact ⟨c.d.def_ 0 (d := d_JoinError__init_) rfl, c.d.def_ 1 (d := d_BadWeb__init_) rfl, c.d.def_ 2 (d := d_is_integer) rfl, c.d.def_ 3 (d := d_is_number) rfl, c.d.def_ 4 (d := d_is_text) rfl, c.d.def_ 5 (d := d_is_long_text) rfl, c.d.def_ 6 (d := d_is_letter) rfl, c.d.def_ 7 (d := d_is_row) rfl, c.d.def_ 8 (d := d_are_ascending) rfl, c.d.def_ 9 (d := d_links) rfl, c.d.def_ 10 (d := d_led_back) rfl, c.d.def_ 11 (d := d_reached) rfl, c.d.def_ 12 (d := d_all_joined) rfl, c.d.def_ 13 (d := d_Web__init_) rfl, c.d.def_ 14 (d := d_Web_lay) rfl, c.d.def_ 15 (d := d_Web__eq_) rfl, c.d.def_ 16 (d := d_letter_rows) rfl, c.d.def_ 17 (d := d_wrong_part) rfl, c.d.def_ 18 (d := d_are_arrows) rfl, c.d.def_ 19 (d := d_is_arrow) rfl, c.d.def_ 20 (d := d_clash) rfl, c.d.def_ 21 (d := d_least_clash) rfl, c.d.def_ 22 (d := d_beginning_texts) rfl, c.d.def_ 23 (d := d_law_hand) rfl, c.d.def_ 24 (d := d_law_draw) rfl, c.d.def_ 25 (d := d_law_is) rfl, c.d.def_ 26 (d := d_law_some) rfl, c.d.def_ 27 (d := d_law_shuffled) rfl, c.d.def_ 28 (d := d_law_clashing) rfl, c.d.def_ 29 (d := d_law_deep) rfl, c.d.def_ 30 (d := d_law_least_clash) rfl, c.d.def_ 31 (d := d_law_told) rfl, c.d.def_ 32 (d := d_law_texts) rfl, c.d.def_ 33 (d := d_law) rfl, g_JoinError, g_BadWeb, g_NoTexts, g_is_integer, g_is_number, g_is_text, g_is_long_text, g_is_letter, g_is_row, g_are_ascending, g_links, g_led_back, g_reached, g_all_joined, i_MOST_POINTS, i_MOST_ARROWS, g_Web, g_letter_rows, g_wrong_part, g_are_arrows, g_is_arrow, g_clash, g_least_clash, g_beginning_texts, g_law_hand, g_law_draw, g_law_is, g_law_some, g_law_shuffled, g_law_clashing, g_law_deep, g_law_least_clash, g_law_told, g_law_texts, g_law, n_isinstance, n_int, n_bool, n_str, n_all, n_len, n_list, n_tuple, n_zip, n_sorted, n_set, n_range, n_abs, n_min, cl_Web, na_Web_points, na_Web_arrows, na_Web_onward, na_Web_backward, mk_Web, mt_Web_lay, em_NoTexts_NoTexts, ox_NoTexts, ih_NoTexts, in_Web, kt_Web_str, kt_Web_list, kt_Web_tuple⟩
end NJ

set_option Elab.async false
set_option linter.all false
set_option maxRecDepth 100000
set_option maxHeartbeats 0
open PySem PySem.W PySem.Calls PyProof.Rows
set_option maxRecDepth 100000 in
set_option maxHeartbeats 0 in
theorem PySem.Challenge.cw_neverjoin_k22_whole_texts_that_clash_holds : PySem.Challenge.rw_neverjoin_k22_whole_texts_that_clash.Holds := by
  w_on; o_law
  refine HandSHeadRun.head_any (r := OpenLaw.row PySem.Challenge.rw_neverjoin_k22_whole_texts_that_clash) (q := view (OpenLaw.row PySem.Challenge.rw_neverjoin_k22_whole_texts_that_clash).prog [40]) (H := NJ.hk) (ob := NJ.ob) (M := 8000) (loose := NJ.nms) (d := HandSHeadRun.topDef (OpenLaw.row PySem.Challenge.rw_neverjoin_k22_whole_texts_that_clash).prog 40) (kwd := []) NJ.ob_eq
    (by kernel_rfl) (fun s => by kernel_rfl) NJ.run (by kernel_rfl) (by kernel_rfl) (by kernel_rfl) (by rfl) (by first | assumption | decide +kernel) (by decide +kernel) ⟨rfl, rfl, rfl, rfl, rfl, by decide +kernel⟩ ?hw ?hc
  case hw => w_witness2
  case hc =>
    refine L2.walk_ofE (l := PySem.Challenge.rw_neverjoin_k22_whole_texts_that_clash) (n := 63) (k := 9) (x := "_law_script") (CX := L2.CX0) rfl (by decide) (by kernel_rfl) ⟨rfl, by decide, by decide⟩ ?F (fun _ _ _ _ z => z)
    intro w mg fa h Y G hmg0
    obtain ⟨K, KX, c⟩ := Y
    have hmg : mg ("law" : PySem.Str) = some (.ref fa) := by
      have e : (HandSHeadRun.topDef (OpenLaw.row PySem.Challenge.rw_neverjoin_k22_whole_texts_that_clash).prog 40).name = ("law" : PySem.Str) := by kernel_rfl
      rw [← e]
      exact hmg0
    have T := NJ.tx_of_says KX G c
    have e := hmg.symm.trans T.g_law
    cases e
    obtain ⟨fd0, F0⟩ := T.F_law
    refine ⟨K, fd0, NJ.spLaw K, KX, fun s v => ?_, fun H a ns hl _ hS => ⟨a, ns, rfl, hS, hl, fun _ => rfl⟩, fun base _ _ => ?_⟩
    · have b := L2.FunD.bindsA (ps := ["_law_script"]) F0 fun _ _ _ _ _ _ us hl => match us, hl with | [_], _ => rfl
      exact b s [v] rfl
    · exact NJ.ok_law T F0

