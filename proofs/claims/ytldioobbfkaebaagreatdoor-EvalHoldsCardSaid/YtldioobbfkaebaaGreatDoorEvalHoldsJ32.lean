/-
  Joined: NumPlain6, NumPlain7, NumPlain8, NumPlain9, NumPlain10, NumPlain11, NumPlain12.
-/
import Derived.Test.YtldioobbfkaebaaGreatDoorEvalHoldsJ1
import Derived.Lib.Strings
import Derived.Test.YtldioobbfkaebaaGreatDoorEvalHoldsJ6
namespace Go.Proofs.YtldioobbfkaebaaGreatDoor
section
namespace Np
open Go.RowKit
end Np
end
section
namespace Np
open Go.RowKit
end Np
end
section
namespace Np
open Go.RowKit
end Np
end
section
namespace Np
open Go.RowKit
end Np
end
section
namespace Np
open Go.RowKit
theorem fig_head {l : List UInt8} {c : UInt8} (h : figs l = true) (hc : l.head? = some c) : fig c = true := by
 cases l with
 | nil => cases hc
 | cons a r => simp at hc; subst hc; simp [figs] at h; exact h.1
end Np
end
section
namespace Np
open Go.RowKit
theorem dig_nat (d : Nat) (h : d < 10) : (UInt8.ofNat (48 + d)).toNat = 48 + d := by
 rw [UInt8.toNat_ofNat']; omega
theorem dec_len (u : Nat) (h : u ≤ 1000) : (Lib.decDigits u).length ≤ 4 := by
 rw [Lib.decDigits]
 split
 ·simp
 ·rw [Lib.decDigits]
  split
  ·simp
  ·rw [Lib.decDigits]
   split
   ·simp
   ·rw [Lib.decDigits]
    split
    ·simp
    ·omega
end Np
end
section
namespace Np
open Go.RowKit
def wide : List UInt8 → Nat → Nat
 | [], _ => 0
 | c :: t, n => (c.toNat - 48) * 10 ^ (n - 1) + wide t (n - 1)
theorem wide_lt : ∀ (l : List UInt8) (n : Nat), figs l = true → l.length ≤ n → wide l n < 10 ^ n
 | [], n, _, _ => by simp [wide]; exact Nat.pow_pos (by decide)
 | c :: t, n, h, hl => by
  obtain ⟨m, rfl⟩ : ∃ m, n = m + 1 := ⟨n - 1, by simp at hl; omega⟩
  have hc := (fig_iff c).1 (fig_head h rfl)
  have ht : figs t = true := by simp [figs] at h ⊢; exact h.2
  have := wide_lt t m ht (by simpa using hl)
  unfold wide
  rw [Nat.add_sub_cancel, Nat.pow_succ]
  have hle : (c.toNat - 48) * 10 ^ m ≤ 9 * 10 ^ m := Nat.mul_le_mul_right _ (by omega)
  omega
theorem wide_pos : ∀ (l : List UInt8) (n : Nat), l ≠ [] → l.getLastD 0 ≠ 48 → figs l = true → l.length ≤ n → 0 < wide l n
 | [], _, h, _, _, _ => absurd rfl h
 | c :: t, n, _, hla, h, hl => by
  obtain ⟨m, rfl⟩ : ∃ m, n = m + 1 := ⟨n - 1, by simp at hl; omega⟩
  have hc := (fig_iff c).1 (fig_head h rfl)
  have ht : figs t = true := by simp [figs] at h ⊢; exact h.2
  unfold wide
  rw [Nat.add_sub_cancel]
  cases t with
  | nil =>
   have h48 : c ≠ 48 := by simpa using hla
   have : 48 < c.toNat := by
    rcases Nat.lt_or_ge 48 c.toNat with h | h
    ·exact h
    ·exact absurd (UInt8.toNat_inj.1 (by show c.toNat = (48 : UInt8).toNat; simp; omega)) h48
   have := Nat.mul_pos (show 0 < c.toNat - 48 by omega) (Nat.pow_pos (n := m) (show 0 < 10 by decide))
   omega
  | cons a r =>
   have := wide_pos (a :: r) m (by simp) (by simpa using hla) ht (by simpa using hl)
   omega
theorem wide_lex : ∀ (a b : List UInt8) (n : Nat), figs a = true → figs b = true → (a = [] ∨ a.getLastD 0 ≠ 48) → (b = [] ∨ b.getLastD 0 ≠ 48) → a.length ≤ n → b.length ≤ n → (a < b ↔ wide a n < wide b n)
 | [], [], n, _, _, _, _, _, _ => by simp [wide]
 | [], b :: u, n, _, hb, _, hlb, _, hl => by
  have := wide_pos (b :: u) n (by simp) (by rcases hlb with h | h; (cases h); exact h) hb hl
  simp only [wide] at this ⊢
  constructor
  ·intro _; exact this
  ·intro _; exact List.nil_lt_cons _ _
 | a :: t, [], n, ha, _, hla, _, hl, _ => by
  simp [wide]
 | a :: t, b :: u, n, ha, hb, hla, hlb, hl1, hl2 => by
  obtain ⟨m, rfl⟩ : ∃ m, n = m + 1 := ⟨n - 1, by simp at hl1; omega⟩
  have hca := (fig_iff a).1 (fig_head ha rfl)
  have hcb := (fig_iff b).1 (fig_head hb rfl)
  have hta : figs t = true := by simp [figs] at ha ⊢; exact ha.2
  have htb : figs u = true := by simp [figs] at hb ⊢; exact hb.2
  have l1 := wide_lt t m hta (by simpa using hl1)
  have l2 := wide_lt u m htb (by simpa using hl2)
  have hla' : t = [] ∨ t.getLastD 0 ≠ 48 := by
   cases t with
   | nil => exact .inl rfl
   | cons x y => right; rcases hla with h | h; (cases h); simpa using h
  have hlb' : u = [] ∨ u.getLastD 0 ≠ 48 := by
   cases u with
   | nil => exact .inl rfl
   | cons x y => right; rcases hlb with h | h; (cases h); simpa using h
  have ih := wide_lex t u m hta htb hla' hlb' (by simpa using hl1) (by simpa using hl2)
  rw [List.cons_lt_cons_iff]
  unfold wide
  rw [Nat.add_sub_cancel]
  have e : a = b ↔ a.toNat = b.toNat := UInt8.toNat_inj.symm
  have e2 : a < b ↔ a.toNat < b.toNat := UInt8.lt_iff_toNat_lt
  rw [e, e2, ih]
  rcases Nat.lt_trichotomy a.toNat b.toNat with h | h | h
  ·have : (a.toNat - 48) * 10 ^ m + 10 ^ m ≤ (b.toNat - 48) * 10 ^ m := by
    rw [← Nat.succ_mul]; exact Nat.mul_le_mul_right _ (by omega)
   constructor
   ·intro _; omega
   ·intro _; exact .inl h
  ·rw [h]; omega
  ·have : (b.toNat - 48) * 10 ^ m + 10 ^ m ≤ (a.toNat - 48) * 10 ^ m := by
    rw [← Nat.succ_mul]; exact Nat.mul_le_mul_right _ (by omega)
   constructor
   ·rintro (h' | ⟨h', _⟩) <;> omega
   ·intro h'; omega
theorem dec_head {u : Nat} (h : 0 < u) : ∃ c t, Lib.decDigits u = c :: t ∧ c ≠ 48 := by
 induction u using Nat.strongRecOn with
 | _ u ih =>
  rw [Lib.decDigits]
  split
  ·rename_i h10
   refine ⟨_, [], rfl, fun e => ?_⟩
   have := congrArg UInt8.toNat e
   rw [dig_nat u h10] at this
   simp at this
   omega
  ·obtain ⟨c, t, e, hc⟩ := ih (u / 10) (by omega) (by omega)
   rw [e]
   exact ⟨c, t ++ _, rfl, hc⟩
end Np
end
end Go.Proofs.YtldioobbfkaebaaGreatDoor
