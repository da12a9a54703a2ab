/-
  Plain words: which of two numbers is greater is an order. No program stands here.
-/
import Derived.Test.YtoomgpbfcpnefaaDoorNumPlain5
import Derived.Sort.Walk0
namespace Go.Proofs.YtoomgpbfcpnefaaDoor
namespace Np
open Go.RowKit

theorem cmpB_lt (a b : List UInt8) : cmpB a b = -1 ↔ a < b := by
  unfold cmpB
  simp only [bytesLess_eq, decide_eq_true_eq]
  split
  · simp [*]
  · split <;> simp [*]
theorem cmpB_eq (a b : List UInt8) : cmpB a b = 0 ↔ a = b := by
  unfold cmpB
  simp only [bytesLess_eq, decide_eq_true_eq]
  split
  · rename_i h
    constructor
    · intro h; cases h
    · intro e; subst e; exact absurd h (List.lt_irrefl _)
  · split <;> simp [*]
theorem cmpB_gt (a b : List UInt8) : cmpB a b = 1 ↔ b < a := by
  have h0 := cmpB_cases a b
  have h1 := cmpB_lt a b
  have h2 := cmpB_eq a b
  constructor
  · intro h
    rcases Std.lt_trichotomy a b with h3 | h3 | h3
    · rw [h1.2 h3] at h; cases h
    · rw [h2.2 h3] at h; cases h
    · exact h3
  · intro h
    rcases h0 with h3 | h3 | h3
    · exact absurd (h1.1 h3) (List.lt_asymm h)
    · exact absurd h (by rw [h2.1 h3]; exact List.lt_irrefl _)
    · exact h3
theorem cmpI_lt (x y : Int) : Lib.compareInt x y = -1 ↔ x < y := by unfold Lib.compareInt; (repeat' split) <;> omega
theorem cmpI_eq (x y : Int) : Lib.compareInt x y = 0 ↔ x = y := by unfold Lib.compareInt; (repeat' split) <;> omega
theorem cmpI_gt (x y : Int) : Lib.compareInt x y = 1 ↔ y < x := by unfold Lib.compareInt; (repeat' split) <;> omega

/-- What lies at nought, below and above. -/
theorem sgn_zero {a : List UInt8} {g : Bool} : sgn a g = 0 ↔ a = [] := by
  unfold sgn; cases a <;> cases g <;> simp
theorem cmpSz_le (a : List UInt8) (x : Int) (b : List UInt8) (y : Int) : cmpSz a x b y ≤ 0 ↔ a.length + x < b.length + y ∨ a.length + x = b.length + y ∧ ¬ b < a := by
  have h1 := cmpI_lt (a.length + x) (b.length + y)
  have h2 := cmpI_eq (a.length + x) (b.length + y)
  have h3 := compareInt_cases (a.length + x) (b.length + y)
  have h4 := cmpB_cases a b
  have h5 := cmpB_gt a b
  unfold cmpSz
  split
  · rename_i h
    have := h2.1 h
    constructor
    · intro h6; exact .inr ⟨this, fun h7 => by have := h5.2 h7; omega⟩
    · rintro (h6 | ⟨_, h6⟩)
      · omega
      · rcases h4 with h7 | h7 | h7
        · omega
        · omega
        · exact absurd (h5.1 h7) h6
  · rename_i h
    constructor
    · intro h6; exact .inl (h1.1 (by omega))
    · rintro (h6 | ⟨h6, _⟩)
      · have := h1.2 h6; omega
      · exact absurd (h2.2 h6) h
theorem cmpSz_neg (a : List UInt8) (x : Int) (b : List UInt8) (y : Int) : cmpSz b y a x = -cmpSz a x b y := by
  have h1 := cmpI_lt (a.length + x) (b.length + y)
  have h2 := cmpI_eq (a.length + x) (b.length + y)
  have h2' := cmpI_gt (a.length + x) (b.length + y)
  have h1' := cmpI_lt (b.length + y) (a.length + x)
  have h3' := cmpI_eq (b.length + y) (a.length + x)
  have h4' := cmpI_gt (b.length + y) (a.length + x)
  have h3 := compareInt_cases (a.length + x) (b.length + y)
  have c1 := cmpB_lt a b
  have c2 := cmpB_eq a b
  have c3 := cmpB_gt a b
  have d1 := cmpB_lt b a
  have d2 := cmpB_eq b a
  have d3 := cmpB_gt b a
  have c4 := cmpB_cases a b
  unfold cmpSz
  by_cases h : a.length + x = b.length + y
  · rw [if_pos (h3'.2 h.symm), if_pos (h2.2 h)]
    rcases c4 with e | e | e
    · rw [e, d3.2 (c1.1 e)]; rfl
    · rw [e, d2.2 (c2.1 e).symm]; rfl
    · rw [e, d1.2 (c3.1 e)]
  · rw [if_neg (fun e => h (h3'.1 e).symm), if_neg (fun e => h (h2.1 e))]
    rcases h3 with e | e | e
    · rw [e, h4'.2 (h1.1 e)]; rfl
    · exact absurd (h2.1 e) h
    · rw [e, h1'.2 (h2'.1 e)]
theorem cmpSz_zero {a : List UInt8} {x : Int} {b : List UInt8} {y : Int} : cmpSz a x b y = 0 ↔ a = b ∧ x = y := by
  have h2 := cmpI_eq (a.length + x) (b.length + y)
  have c2 := cmpB_eq a b
  unfold cmpSz
  constructor
  · intro h
    by_cases e : a.length + x = b.length + y
    · rw [if_pos (h2.2 e)] at h
      have := c2.1 h
      subst this
      exact ⟨rfl, by omega⟩
    · rw [if_neg (fun h => e (h2.1 h))] at h
      exact absurd (h2.1 h) e
  · rintro ⟨rfl, rfl⟩
    rw [if_pos (h2.2 rfl)]; exact c2.2 rfl
theorem cmpSz_trans {a : List UInt8} {x : Int} {b : List UInt8} {y : Int} {c : List UInt8} {z : Int} (h1 : cmpSz a x b y ≤ 0) (h2 : cmpSz b y c z ≤ 0) : cmpSz a x c z ≤ 0 := by
  rw [cmpSz_le] at *
  rcases h1 with h1 | ⟨h1, h3⟩ <;> rcases h2 with h2 | ⟨h2, h4⟩
  · exact .inl (by omega)
  · exact .inl (by omega)
  · exact .inl (by omega)
  · refine .inr ⟨by omega, fun h => ?_⟩
    rcases Std.lt_trichotomy b c with h5 | h5 | h5
    · exact h3 (List.lt_trans h5 h)
    · subst h5; exact h3 h
    · exact h4 h5
theorem cmpN_range (a : List UInt8) (g : Bool) (x : Int) (b : List UInt8) (g2 : Bool) (y : Int) : cmpN a g x b g2 y = -1 ∨ cmpN a g x b g2 y = 0 ∨ cmpN a g x b g2 y = 1 := by
  unfold cmpN
  split
  · rcases sgn_cases a g with e | e | e <;> rcases cmpSz_cases a x b y with f | f | f <;> rw [e, f] <;> decide
  · exact compareInt_cases _ _
theorem cmpN_neg (a : List UInt8) (g : Bool) (x : Int) (b : List UInt8) (g2 : Bool) (y : Int) : cmpN b g2 y a g x = -cmpN a g x b g2 y := by
  unfold cmpN
  have h1 := cmpI_lt (sgn a g) (sgn b g2)
  have h2 := cmpI_eq (sgn a g) (sgn b g2)
  have h2' := cmpI_gt (sgn a g) (sgn b g2)
  have h1' := cmpI_lt (sgn b g2) (sgn a g)
  have h3' := cmpI_eq (sgn b g2) (sgn a g)
  have h4' := cmpI_gt (sgn b g2) (sgn a g)
  have h3 := compareInt_cases (sgn a g) (sgn b g2)
  by_cases h : sgn a g = sgn b g2
  · rw [if_pos (h3'.2 h.symm), if_pos (h2.2 h), cmpSz_neg, h, Int.mul_neg]
  · rw [if_neg (fun e => h (h3'.1 e).symm), if_neg (fun e => h (h2.1 e))]
    rcases h3 with e | e | e
    · rw [e, h4'.2 (h1.1 e)]; rfl
    · exact absurd (h2.1 e) h
    · rw [e, h1'.2 (h2'.1 e)]
theorem cmpN_le (a : List UInt8) (g : Bool) (x : Int) (b : List UInt8) (g2 : Bool) (y : Int) : cmpN a g x b g2 y ≤ 0 ↔ sgn a g < sgn b g2 ∨ sgn a g = sgn b g2 ∧ (sgn a g = 0 ∨ sgn a g = 1 ∧ cmpSz a x b y ≤ 0 ∨ sgn a g = -1 ∧ cmpSz b y a x ≤ 0) := by
  have h1 := cmpI_lt (sgn a g) (sgn b g2)
  have h2 := cmpI_eq (sgn a g) (sgn b g2)
  have h3 := compareInt_cases (sgn a g) (sgn b g2)
  rw [cmpSz_neg a x b y]
  unfold cmpN
  split
  · rename_i h
    have hh := h2.1 h
    clear h1 h2 h3 h
    rcases sgn_cases a g with e | e | e <;> rw [e] at hh ⊢ <;> omega
  · rename_i h
    omega
theorem cmpN_trans {a : List UInt8} {g : Bool} {x : Int} {b : List UInt8} {g2 : Bool} {y : Int} {c : List UInt8} {g3 : Bool} {z : Int} (h1 : cmpN a g x b g2 y ≤ 0) (h2 : cmpN b g2 y c g3 z ≤ 0) : cmpN a g x c g3 z ≤ 0 := by
  rw [cmpN_le] at *
  have t1 := @cmpSz_trans a x b y c z
  have t2 := @cmpSz_trans c z b y a x
  grind
theorem cmpN_flip (a : List UInt8) (g : Bool) (x : Int) (b : List UInt8) (g2 : Bool) (y : Int) : cmpN a (!g && !a.isEmpty) x b (!g2 && !b.isEmpty) y = -cmpN a g x b g2 y := by
  have e1 : sgn a (!g && !a.isEmpty) = -sgn a g := by unfold sgn; cases a <;> cases g <;> simp
  have e2 : sgn b (!g2 && !b.isEmpty) = -sgn b g2 := by unfold sgn; cases b <;> cases g2 <;> simp
  have h1 := cmpI_lt (sgn a g) (sgn b g2)
  have h2 := cmpI_eq (sgn a g) (sgn b g2)
  have h2' := cmpI_gt (sgn a g) (sgn b g2)
  have h1' := cmpI_lt (-sgn a g) (-sgn b g2)
  have h3' := cmpI_eq (-sgn a g) (-sgn b g2)
  have h4' := cmpI_gt (-sgn a g) (-sgn b g2)
  have h3 := compareInt_cases (sgn a g) (sgn b g2)
  unfold cmpN
  rw [e1, e2]
  by_cases h : sgn a g = sgn b g2
  · rw [if_pos (h3'.2 (by omega)), if_pos (h2.2 h), Int.neg_mul]
  · rw [if_neg (fun e => h (by have := h3'.1 e; omega)), if_neg (fun e => h (h2.1 e))]
    rcases h3 with e | e | e
    · rw [e, h4'.2 (by have := h1.1 e; omega)]; rfl
    · exact absurd (h2.1 e) h
    · rw [e, h1'.2 (by have := h2'.1 e; omega)]
theorem cmpN_zero {k m : Int} {nm a : List UInt8} {g : Bool} {x : Int} {k2 m2 : Int} {nm2 b : List UInt8} {g2 : Bool} {y : Int} (h1 : right ⟨k, m, nm, a, g, x⟩ = true) (h2 : right ⟨k2, m2, nm2, b, g2, y⟩ = true) :
    cmpN a g x b g2 y = 0 ↔ k = k2 ∧ m = m2 ∧ nm = nm2 ∧ a = b ∧ g = g2 ∧ x = y := by
  rw [right_iff] at h1 h2
  simp only at h1 h2
  obtain ⟨rfl, rfl, rfl, h1⟩ := h1
  obtain ⟨rfl, rfl, rfl, h2⟩ := h2
  have e0 := cmpI_eq (sgn a g) (sgn b g2)
  have z1 := @sgn_zero a g
  have z2 := @sgn_zero b g2
  have s1 : a ≠ [] → (sgn a g = -1 ↔ g = true) := by intro h; unfold sgn; cases a <;> cases g <;> simp at *
  have s2 : b ≠ [] → (sgn b g2 = -1 ↔ g2 = true) := by intro h; unfold sgn; cases b <;> cases g2 <;> simp at *
  have q := @cmpSz_zero a x b y
  have c1 := sgn_cases a g
  unfold cmpN
  constructor
  · intro h
    refine ⟨rfl, rfl, rfl, ?_⟩
    by_cases he : sgn a g = sgn b g2
    · rw [if_pos (e0.2 he)] at h
      rcases h1 with ⟨rfl, rfl, rfl⟩ | ⟨h1, _⟩
      · have : b = [] := z2.1 (by rw [← he]; exact z1.2 rfl)
        subst this
        rcases h2 with ⟨_, rfl, rfl⟩ | ⟨h2, _⟩
        · exact ⟨rfl, rfl, rfl⟩
        · exact absurd rfl h2
      · have hz : sgn a g ≠ 0 := fun e => h1 (z1.1 e)
        have hb : b ≠ [] := fun e => hz (by rw [he]; exact z2.2 e)
        have hc : cmpSz a x b y = 0 := by
          rcases Int.mul_eq_zero.1 h with h | h
          · exact absurd h hz
          · exact h
        obtain ⟨rfl, rfl⟩ := q.1 hc
        refine ⟨rfl, ?_, rfl⟩
        have := s1 h1
        have := s2 hb
        rw [he] at *
        cases g <;> cases g2 <;> simp_all
    · rw [if_neg (fun e => he (e0.1 e))] at h
      exact absurd (e0.1 h) he
  · rintro ⟨_, _, _, rfl, rfl, rfl⟩
    rw [if_pos (e0.2 rfl), q.2 ⟨rfl, rfl⟩, Int.mul_zero]

end Np
end Go.Proofs.YtoomgpbfcpnefaaDoor
