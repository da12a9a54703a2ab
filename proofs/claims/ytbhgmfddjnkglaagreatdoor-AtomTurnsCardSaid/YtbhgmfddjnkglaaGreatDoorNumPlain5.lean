/-
  Plain words: which nodes are no right numbers. No program stands here.
-/
import Derived.Test.YtbhgmfddjnkglaaGreatDoorNumPlain
namespace Go.Proofs.YtbhgmfddjnkglaaGreatDoor
namespace Np
open Go.RowKit

theorem right_iff (n : Nd) : right n = true ↔ n.kind = 3 ∧ n.many = 0 ∧ n.name = [] ∧ (n.s = [] ∧ n.neg = false ∧ n.e = 0 ∨ n.s ≠ [] ∧ rfigs n.s = true ∧ -1000 ≤ n.e ∧ n.e ≤ 1000 - n.s.length) := by
  unfold right rpow
  by_cases hs : n.s = []
  · simp [hs, and_assoc]
  · simp [hs, and_assoc]
theorem right_not {n : Nd} (h : ¬ (n.kind = 3 ∧ n.many = 0 ∧ n.name = [] ∧ (n.s = [] ∧ n.neg = false ∧ n.e = 0 ∨ n.s ≠ [] ∧ rfigs n.s = true ∧ -1000 ≤ n.e ∧ n.e ≤ 1000 - n.s.length))) : right n = false := by
  rw [← Bool.not_eq_true, right_iff]; exact h
theorem right_figs {n : Nd} (h : figs n.s = false) : right n = false := right_not (by
  rintro ⟨_, _, _, ⟨h1, _⟩ | ⟨_, h1, _⟩⟩
  · rw [h1] at h; cases h
  · simp [rfigs, h] at h1)
theorem right_long {n : Nd} (h : 100 < n.s.length) : right n = false := right_not (by
  rintro ⟨_, _, _, ⟨h1, _⟩ | ⟨_, h1, _⟩⟩
  · rw [h1] at h; simp at h
  · simp [rfigs] at h1; omega)
theorem right_low {n : Nd} (h : n.e < -1000) : right n = false := right_not (by
  rintro ⟨_, _, _, ⟨_, _, h1⟩ | ⟨_, _, h1, _⟩⟩ <;> omega)
theorem right_high {n : Nd} (h : 1000 < n.s.length + n.e) : right n = false := right_not (by
  rintro ⟨_, _, _, ⟨h1, _, h2⟩ | ⟨_, _, _, h1⟩⟩
  · rw [h1, h2] at h; simp at h
  · omega)
theorem right_all {n : Nd} (h1 : n.kind = 3) (h2 : n.many = 0) (h3 : n.name.isEmpty = true) (h4 : figs n.s = true) (h5 : n.s.length ≤ 100) (h6 : -1000 ≤ n.e) (h7 : n.s.length + n.e ≤ 1000) (h8 : n.s.isEmpty = false) :
    right n = (n.s.headD 0 != 48 && n.s.getLastD 0 != 48) := by
  rw [right_some h1 h2 h3 h8, rfigs, rpow]
  simp [h4, h5, h6, show n.e ≤ 1000 - n.s.length by omega]

theorem right_empty' {k m : Int} {nm s : List UInt8} {g : Bool} {x : Int} (h : s = []) : right ⟨k, m, nm, s, g, x⟩ = (decide (k = 3) && decide (m = 0) && decide (nm = []) && (!g && decide (x = 0))) := by
  subst h; cases nm <;> simp [right]
theorem right_some' {k m : Int} {nm s : List UInt8} {g : Bool} {x : Int} (h : s ≠ []) (hf : figs s = true) : right ⟨k, m, nm, s, g, x⟩ = (decide (k = 3) && decide (m = 0) && decide (nm = []) && (decide (s.length ≤ 100) && (s.headD 0 != 48) && (s.getLastD 0 != 48) && decide (-1000 ≤ x) && decide (x ≤ 1000 - s.length))) := by
  cases nm <;> simp [right, h, rfigs, rpow, hf, Bool.and_assoc]

theorem right_bounds {n : Nd} (h : right n = true) : n.s.length ≤ 100 ∧ -1000 ≤ n.e ∧ n.e ≤ 1000 := by
  obtain ⟨_, _, _, ⟨h1, _, h2⟩ | ⟨_, h1, h2, h3⟩⟩ := (right_iff n).1 h
  · rw [h1, h2]; simp
  · simp [rfigs] at h1; omega

end Np
end Go.Proofs.YtbhgmfddjnkglaaGreatDoor
