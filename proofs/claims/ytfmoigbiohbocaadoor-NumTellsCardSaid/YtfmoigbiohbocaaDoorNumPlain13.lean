/-
  Plain words: which of two numbers is greater, figure by figure. No program stands here.
-/
import Derived.Test.YtfmoigbiohbocaaDoorNumPlain12
namespace Go.Proofs.YtfmoigbiohbocaaDoor
namespace Np
open Go.RowKit

/-- The figure that stands at a power. -/
def digAt (l : List UInt8) (x p : Int) : Nat := if (l.length : Int) - 1 - (p - x) < 0 then 0 else (l.getD ((l.length : Int) - 1 - (p - x)).toNat 48).toNat - 48
theorem getD_fig {l : List UInt8} (h : figs l = true) (j : Nat) : 48 ≤ (l.getD j 48).toNat ∧ (l.getD j 48).toNat ≤ 57 := by
  rw [List.getD_eq_getElem?_getD]
  by_cases hj : j < l.length
  · rw [List.getElem?_eq_getElem hj]
    exact (fig_iff _).1 (figs_at h hj)
  · rw [List.getElem?_eq_none (by omega)]
    decide
theorem lexD : ∀ (a b : List UInt8) (i : Nat), figs a = true → figs b = true → (∀ j, j < i → (a.getD j 48).toNat = (b.getD j 48).toNat) → (a.getD i 48).toNat < (b.getD i 48).toNat → a < b
  | [], [], i, _, _, _, h => by simp at h
  | [], y :: v, i, _, _, _, _ => List.nil_lt_cons _ _
  | x :: u, [], i, ha, _, _, h => by
    have := (getD_fig ha i).1
    simp at h
    simp at this
    omega
  | x :: u, y :: v, i, ha, hb, hj, h => by
    have hu : figs u = true := by simp [figs] at ha ⊢; exact ha.2
    have hv : figs v = true := by simp [figs] at hb ⊢; exact hb.2
    rw [List.cons_lt_cons_iff]
    cases i with
    | zero =>
      left
      rw [UInt8.lt_iff_toNat_lt]
      simpa using h
    | succ i =>
      right
      refine ⟨UInt8.toNat_inj.1 (by have := hj 0 (by omega); simpa using this), ?_⟩
      exact lexD u v i hu hv (fun j h' => by have := hj (j + 1) (by omega); simpa using this) (by simpa using h)
theorem wide_getD : ∀ (n : Nat) (a b : List UInt8), a.length ≤ n → b.length ≤ n → (∀ j, j < n → (a.getD j 48).toNat = (b.getD j 48).toNat) → wide a n = wide b n
  | 0, a, b, h1, h2, _ => by rw [List.length_eq_zero_iff.1 (by omega : a.length = 0), List.length_eq_zero_iff.1 (by omega : b.length = 0)]
  | n + 1, [], [], _, _, _ => rfl
  | n + 1, [], y :: v, h1, h2, hj => by
    have h0 := hj 0 (by omega)
    have ih := wide_getD n [] v (by simp) (by simpa using h2) (fun j h => by have := hj (j + 1) (by omega); simpa using this)
    simp at h0
    simp only [wide] at ih ⊢
    rw [Nat.add_sub_cancel, ← ih, ← h0]
    simp
  | n + 1, x :: u, [], h1, h2, hj => by
    have h0 := hj 0 (by omega)
    have ih := wide_getD n u [] (by simpa using h1) (by simp) (fun j h => by have := hj (j + 1) (by omega); simpa using this)
    simp at h0
    simp only [wide] at ih ⊢
    rw [Nat.add_sub_cancel, ih, h0]
    simp
  | n + 1, x :: u, y :: v, h1, h2, hj => by
    have h0 := hj 0 (by omega)
    have ih := wide_getD n u v (by simpa using h1) (by simpa using h2) (fun j h => by have := hj (j + 1) (by omega); simpa using this)
    simp at h0
    simp only [wide]
    rw [Nat.add_sub_cancel, ih, h0]
theorem digAt_in {l : List UInt8} {x : Int} (j : Nat) : digAt l x (l.length + x - 1 - j) = (l.getD j 48).toNat - 48 := by
  unfold digAt
  rw [if_neg (by omega), show ((l.length : Int) - 1 - ((l.length : Int) + x - 1 - j - x)).toNat = j by omega]
theorem digAt_top (l : List UInt8) (x p : Int) (h : l.length + x ≤ p) : digAt l x p = 0 := by
  unfold digAt; rw [if_pos (by omega)]
theorem digAt_nil (x p : Int) : digAt [] x p = 0 := by
  unfold digAt; split
  · rfl
  · simp
theorem dig_first {c : UInt8} {t : List UInt8} {x : Int} (h : figs (c :: t) = true) (hc : c ≠ 48) : 0 < digAt (c :: t) x ((c :: t).length + x - 1) := by
  have := digAt_in (l := c :: t) (x := x) 0
  simp only [Int.natCast_zero, Int.sub_zero] at this
  rw [this]
  have h2 := (fig_iff c).1 (fig_head h rfl)
  have : c.toNat ≠ 48 := fun e => hc (UInt8.toNat_inj.1 (by simp; omega))
  simp
  omega
/-- Sizes of two numbers of which neither is nought, figure by figure. -/
theorem size_dig {a b : List UInt8} {x y : Int} (fa : figs a = true) (fb : figs b = true) (ha : ∃ c t, a = c :: t ∧ c ≠ 48) (hb : ∃ c t, b = c :: t ∧ c ≠ 48) (la : a.getLastD 0 ≠ 48) (lb : b.getLastD 0 ≠ 48) (p : Int) (hp : p ≤ max (a.length + x) (b.length + y)) :
    ((∀ q, p < q → q ≤ max (a.length + x) (b.length + y) → digAt a x q = digAt b y q) → (digAt a x p < digAt b y p → cmpSz a x b y = -1) ∧ (digAt b y p < digAt a x p → cmpSz a x b y = 1) ∧ (digAt a x p = digAt b y p → p ≤ x → p ≤ y → cmpSz a x b y = 0)) := by
  intro heq
  have i1 := cmpI_lt (a.length + x) (b.length + y)
  have i2 := cmpI_eq (a.length + x) (b.length + y)
  have i3 := cmpI_gt (a.length + x) (b.length + y)
  have pa : 0 < a.length := by obtain ⟨c, t, e, _⟩ := ha; rw [e]; simp
  have pb : 0 < b.length := by obtain ⟨c, t, e, _⟩ := hb; rw [e]; simp
  rcases Int.lt_trichotomy (a.length + x) (b.length + y) with h | h | h
  · have hc : cmpSz a x b y = -1 := by unfold cmpSz; rw [if_neg (fun e => by have := i2.1 e; omega)]; exact i1.2 h
    have dz : ∀ q, b.length + y - 1 ≤ q → digAt a x q = 0 := fun q hq => digAt_top a x q (by omega)
    have df : 0 < digAt b y (b.length + y - 1) := by obtain ⟨c, t, e, h48⟩ := hb; rw [e] at fb ⊢; exact dig_first fb h48
    refine ⟨fun _ => hc, fun h2 => ?_, fun h2 h3 h4 => ?_⟩
    · exfalso
      rcases Int.lt_trichotomy p (b.length + y - 1) with h' | h' | h'
      · have := heq (b.length + y - 1) h' (by omega)
        rw [dz _ (Int.le_refl _)] at this; omega
      · rw [h', dz _ (Int.le_refl _)] at h2; omega
      · rw [dz p (by omega)] at h2; omega
    · exfalso
      by_cases h' : p < b.length + y - 1
      · have := heq (b.length + y - 1) h' (by omega)
        rw [dz _ (Int.le_refl _)] at this; omega
      · have : p = b.length + y - 1 := by omega
        rw [this, dz _ (Int.le_refl _)] at h2; omega
  · have hm : max ((a.length : Int) + x) (b.length + y) = a.length + x := by omega
    rw [hm] at heq hp
    have hcB : cmpSz a x b y = cmpB a b := by unfold cmpSz; rw [if_pos (i2.2 h)]
    have dA : ∀ j : Nat, digAt a x (a.length + x - 1 - j) = (a.getD j 48).toNat - 48 := fun j => digAt_in j
    have dB : ∀ j : Nat, digAt b y (a.length + x - 1 - j) = (b.getD j 48).toNat - 48 := fun j => by rw [h]; exact digAt_in j
    have hg : ∀ j : Nat, p < a.length + x - 1 - j → (a.getD j 48).toNat = (b.getD j 48).toNat := fun j hj => by
      have := heq _ hj (by omega)
      rw [dA, dB] at this
      have := getD_fig fa j
      have := getD_fig fb j
      omega
    by_cases hpt : p = a.length + x
    · have z1 : digAt a x p = 0 := digAt_top a x p (by omega)
      have z2 : digAt b y p = 0 := digAt_top b y p (by omega)
      refine ⟨fun h' => by omega, fun h' => by omega, fun _ h' _ => by omega⟩
    · obtain ⟨i, hi⟩ : ∃ i : Nat, p = a.length + x - 1 - i := ⟨((a.length : Int) + x - 1 - p).toNat, by omega⟩
      have g1 := getD_fig fa i
      have g2 := getD_fig fb i
      refine ⟨fun h' => ?_, fun h' => ?_, fun h' h3 h4 => ?_⟩
      · rw [hcB, cmpB_lt]
        rw [hi, dA, dB] at h'
        exact lexD a b i fa fb (fun j hj => hg j (by omega)) (by omega)
      · rw [hcB, cmpB_gt]
        rw [hi, dA, dB] at h'
        exact lexD b a i fb fa (fun j hj => (hg j (by omega)).symm) (by omega)
      · rw [hcB, cmpB_eq]
        rw [hi, dA, dB] at h'
        have hw : wide a (i + 1) = wide b (i + 1) := wide_getD (i + 1) a b (by omega) (by omega) (fun j hj => by
          by_cases hji : j = i
          · subst hji; omega
          · exact hg j (by omega))
        have w1 := wide_lex a b (i + 1) fa fb (.inr la) (.inr lb) (by omega) (by omega)
        have w2 := wide_lex b a (i + 1) fb fa (.inr lb) (.inr la) (by omega) (by omega)
        rcases Std.lt_trichotomy a b with h5 | h5 | h5
        · have := w1.1 h5; omega
        · exact h5
        · have := w2.1 h5; omega
  · have hc : cmpSz a x b y = 1 := by unfold cmpSz; rw [if_neg (fun e => by have := i2.1 e; omega)]; exact i3.2 h
    have dz : ∀ q, a.length + x - 1 ≤ q → digAt b y q = 0 := fun q hq => digAt_top b y q (by omega)
    have df : 0 < digAt a x (a.length + x - 1) := by obtain ⟨c, t, e, h48⟩ := ha; rw [e] at fa ⊢; exact dig_first fa h48
    refine ⟨fun h2 => ?_, fun _ => hc, fun h2 h3 h4 => ?_⟩
    · exfalso
      rcases Int.lt_trichotomy p (a.length + x - 1) with h' | h' | h'
      · have := heq (a.length + x - 1) h' (by omega)
        rw [dz _ (Int.le_refl _)] at this; omega
      · rw [h', dz _ (Int.le_refl _)] at h2; omega
      · rw [dz p (by omega)] at h2; omega
    · exfalso
      by_cases h' : p < a.length + x - 1
      · have := heq (a.length + x - 1) h' (by omega)
        rw [dz _ (Int.le_refl _)] at this; omega
      · have : p = a.length + x - 1 := by omega
        rw [this, dz _ (Int.le_refl _)] at h2; omega

/-- What a right number that is not nought has. -/
theorem right_parts {n : Nd} (h : right n = true) (hs : n.s ≠ []) : figs n.s = true ∧ (∃ c t, n.s = c :: t ∧ c ≠ 48) ∧ n.s.getLastD 0 ≠ 48 := by
  obtain ⟨_, _, _, ⟨h4, _⟩ | ⟨_, hf, _, _⟩⟩ := (right_iff n).1 h
  · exact absurd h4 hs
  · unfold rfigs at hf
    simp only [Bool.and_eq_true, decide_eq_true_eq, bne_iff_ne] at hf
    obtain ⟨⟨⟨_, hfi⟩, hh⟩, hla⟩ := hf
    refine ⟨hfi, ?_, hla⟩
    cases hn : n.s with
    | nil => exact absurd hn hs
    | cons c t => rw [hn] at hh; exact ⟨c, t, rfl, hh⟩
/-- Which of two numbers of one side is greater, figure by figure. -/
theorem cmp_dig {k m : Int} {nm a : List UInt8} {g : Bool} {x : Int} {k2 m2 : Int} {nm2 b : List UInt8} {y : Int} (h1 : right ⟨k, m, nm, a, g, x⟩ = true) (h2 : right ⟨k2, m2, nm2, b, g, y⟩ = true) (p : Int) (hp : p ≤ max (a.length + x) (b.length + y)) (heq : ∀ q, p < q → q ≤ max (a.length + x) (b.length + y) → digAt a x q = digAt b y q) :
    (digAt a x p < digAt b y p → cmpN a g x b g y = -(if g = true then -1 else 1)) ∧ (digAt b y p < digAt a x p → cmpN a g x b g y = if g = true then -1 else 1) ∧ (digAt a x p = digAt b y p → p ≤ x → p ≤ y → cmpN a g x b g y = 0) := by
  by_cases ha : a = []
  · subst ha
    have hg : g = false ∧ x = 0 := by
      obtain ⟨_, _, _, ⟨_, h, h'⟩ | ⟨h, _⟩⟩ := (right_iff _).1 h1
      · exact ⟨h, h'⟩
      · exact absurd rfl h
    obtain ⟨rfl, rfl⟩ := hg
    by_cases hb : b = []
    · subst hb
      have hy : y = 0 := by
        obtain ⟨_, _, _, ⟨_, _, h'⟩ | ⟨h, _⟩⟩ := (right_iff _).1 h2
        · exact h'
        · exact absurd rfl h
      subst hy
      rw [digAt_nil]
      exact ⟨fun h => by omega, fun h => by omega, fun _ _ _ => by decide⟩
    · obtain ⟨fb, hc, lb⟩ := right_parts h2 hb
      simp only at fb hc lb
      have hcm : cmpN [] false 0 b false y = -1 := by
        have s2 : sgn b false = 1 := by unfold sgn; rw [if_neg (by simpa using hb)]; rfl
        have s1 : sgn [] false = 0 := rfl
        unfold cmpN
        rw [s1, s2, if_neg (by decide)]
        decide
      have df : 0 < digAt b y (b.length + y - 1) := by obtain ⟨c, t, e, h48⟩ := hc; rw [e] at fb ⊢; exact dig_first fb h48
      have pb : 0 < b.length := by obtain ⟨c, t, e, _⟩ := hc; rw [e]; simp
      rw [digAt_nil]
      refine ⟨fun _ => by rw [hcm]; rfl, fun h => by omega, fun h' h3 h4 => ?_⟩
      exfalso
      by_cases hlt : p < b.length + y - 1
      · have := heq _ hlt (by omega)
        rw [digAt_nil] at this; omega
      · have : p = b.length + y - 1 := by omega
        rw [this] at h'; omega
  · obtain ⟨fa, hca, la⟩ := right_parts h1 ha
    simp only at fa hca la
    by_cases hb : b = []
    · subst hb
      have hg : g = false ∧ y = 0 := by
        obtain ⟨_, _, _, ⟨_, h, h'⟩ | ⟨h, _⟩⟩ := (right_iff _).1 h2
        · exact ⟨h, h'⟩
        · exact absurd rfl h
      obtain ⟨rfl, rfl⟩ := hg
      have hcm : cmpN a false x [] false 0 = 1 := by
        have s1 : sgn a false = 1 := by unfold sgn; rw [if_neg (by simpa using ha)]; rfl
        have s2 : sgn [] false = 0 := rfl
        unfold cmpN
        rw [s1, s2, if_neg (by decide)]
        decide
      have df : 0 < digAt a x (a.length + x - 1) := by obtain ⟨c, t, e, h48⟩ := hca; rw [e] at fa ⊢; exact dig_first fa h48
      have pa : 0 < a.length := by obtain ⟨c, t, e, _⟩ := hca; rw [e]; simp
      rw [digAt_nil]
      refine ⟨fun h => by omega, fun _ => by rw [hcm]; rfl, fun h' h3 h4 => ?_⟩
      exfalso
      by_cases hlt : p < a.length + x - 1
      · have := heq _ hlt (by omega)
        rw [digAt_nil] at this; omega
      · have : p = a.length + x - 1 := by omega
        rw [this] at h'; omega
    · obtain ⟨fb, hcb, lb⟩ := right_parts h2 hb
      simp only at fb hcb lb
      obtain ⟨z1, z2, z3⟩ := size_dig fa fb hca hcb la lb p hp heq
      have hcm : cmpN a g x b g y = (if g = true then -1 else 1) * cmpSz a x b y := by
        unfold cmpN
        have s1 : sgn a g = if g = true then -1 else 1 := by unfold sgn; rw [if_neg (by simpa using ha)]
        have s2 : sgn b g = if g = true then -1 else 1 := by unfold sgn; rw [if_neg (by simpa using hb)]
        rw [s1, s2, if_pos ((cmpI_eq _ _).2 rfl)]
      rw [hcm]
      refine ⟨fun h => ?_, fun h => ?_, fun h h3 h4 => ?_⟩
      · rw [z1 h]; cases g <;> decide
      · rw [z2 h]; cases g <;> decide
      · rw [z3 h h3 h4]; cases g <;> decide
theorem cmp_sides {k m : Int} {nm a : List UInt8} {g : Bool} {x : Int} {k2 m2 : Int} {nm2 b : List UInt8} {g2 : Bool} {y : Int} (h1 : right ⟨k, m, nm, a, g, x⟩ = true) (h2 : right ⟨k2, m2, nm2, b, g2, y⟩ = true) (h : g ≠ g2) : cmpN a g x b g2 y = if g = true then -1 else 1 := by
  have e1 : g = true → a ≠ [] := by
    intro hg ha
    obtain ⟨_, _, _, ⟨_, h, _⟩ | ⟨h, _⟩⟩ := (right_iff _).1 h1
    · simp only at h; rw [hg] at h; cases h
    · exact absurd ha h
  have e2 : g2 = true → b ≠ [] := by
    intro hg ha
    obtain ⟨_, _, _, ⟨_, h, _⟩ | ⟨h, _⟩⟩ := (right_iff _).1 h2
    · simp only at h; rw [hg] at h; cases h
    · exact absurd ha h
  cases g <;> cases g2
  · exact absurd rfl h
  · have hb := e2 rfl
    have s2 : sgn b true = -1 := by unfold sgn; rw [if_neg (by simpa using hb)]; rfl
    have s1 := sgn_cases a false
    have s1' : sgn a false ≠ -1 := by unfold sgn; split <;> simp
    unfold cmpN
    rw [s2, if_neg (fun e => by have := (cmpI_eq _ _).1 e; omega)]
    exact (cmpI_gt _ _).2 (by omega)
  · have ha := e1 rfl
    have s1 : sgn a true = -1 := by unfold sgn; rw [if_neg (by simpa using ha)]; rfl
    have s2 := sgn_cases b false
    have s2' : sgn b false ≠ -1 := by unfold sgn; split <;> simp
    unfold cmpN
    rw [s1, if_neg (fun e => by have := (cmpI_eq _ _).1 e; omega)]
    exact (cmpI_lt _ _).2 (by omega)
  · exact absurd rfl h

end Np
end Go.Proofs.YtfmoigbiohbocaaDoor
