/-
  Plain words on UTF-8: how many bytes the rune has that some bytes begin with, by the bytes themselves; it is what the decoder says. No program stands here.
-/
import Derived.Test.YtbhgmfddjnkglaaGreatDoorNumPlain
import Derived.Lib.ValidLaws
namespace Go.Proofs.YtbhgmfddjnkglaaGreatDoor
namespace Up
open Go.RowKit

def bt (l : List UInt8) (k : Nat) : Nat := (l.getD k 0).toNat
def ct (l : List UInt8) (k : Nat) : Bool := decide (k < l.length) && decide (128 ≤ bt l k) && decide (bt l k < 192)
/-- How many bytes the rune has; 0: there is none that is valid. -/
def runeN (l : List UInt8) : Nat :=
  if bt l 0 < 128 then 1
  else if 194 ≤ bt l 0 ∧ bt l 0 < 224 ∧ ct l 1 = true then 2
  else if 224 ≤ bt l 0 ∧ bt l 0 < 240 ∧ ct l 1 = true ∧ ct l 2 = true then (if bt l 0 = 224 ∧ bt l 1 < 160 ∨ bt l 0 = 237 ∧ 160 ≤ bt l 1 then 0 else 3)
  else if 240 ≤ bt l 0 ∧ bt l 0 < 245 ∧ ct l 1 = true ∧ ct l 2 = true ∧ ct l 3 = true then (if bt l 0 = 240 ∧ bt l 1 < 144 ∨ bt l 0 = 244 ∧ 144 ≤ bt l 1 then 0 else 4)
  else 0

theorem get_bt (l : List UInt8) (k : Nat) : ((ByteArray.mk l.toArray).get! (0 + k)).toNat = bt l k := by
  rw [Nat.zero_add]
  unfold bt
  congr 1
  by_cases h : k < l.length
  · simp [ByteArray.get!, h]
  · simp [ByteArray.get!, h]
    rfl
theorem bt_lt (l : List UInt8) (k : Nat) : bt l k < 256 := UInt8.toNat_lt _
theorem ct_iff (l : List UInt8) (k : Nat) : ct l k = true ↔ k < l.length ∧ bt l k / 64 = 2 := by
  simp [ct]; omega
theorem ct_eq (l : List UInt8) (k : Nat) : (decide (k < l.length) && bt l k / 64 == 2) = ct l k := by
  rw [Bool.eq_iff_iff, ct_iff]; simp

theorem decode_eq (l : List UInt8) : Lib.decodeL l =
    (if bt l 0 < 128 then (bt l 0, 1)
    else if (bt l 0 / 32 == 6 && ct l 1) = true then (if (bt l 0 % 32) * 64 + bt l 1 % 64 ≥ 128 then ((bt l 0 % 32) * 64 + bt l 1 % 64, 2) else (65533, 1))
    else if (bt l 0 / 16 == 14 && ct l 1 && ct l 2) = true then (if (decide ((bt l 0 % 16) * 4096 + (bt l 1 % 64) * 64 + bt l 2 % 64 ≥ 2048) && Utf8.valid (((bt l 0 % 16) * 4096 + (bt l 1 % 64) * 64 + bt l 2 % 64 : Nat) : Int)) = true then ((bt l 0 % 16) * 4096 + (bt l 1 % 64) * 64 + bt l 2 % 64, 3) else (65533, 1))
    else if (bt l 0 / 8 == 30 && ct l 1 && ct l 2 && ct l 3) = true then (if (decide ((bt l 0 % 8) * 262144 + (bt l 1 % 64) * 4096 + (bt l 2 % 64) * 64 + bt l 3 % 64 ≥ 65536) && Utf8.valid (((bt l 0 % 8) * 262144 + (bt l 1 % 64) * 4096 + (bt l 2 % 64) * 64 + bt l 3 % 64 : Nat) : Int)) = true then ((bt l 0 % 8) * 262144 + (bt l 1 % 64) * 4096 + (bt l 2 % 64) * 64 + bt l 3 % 64, 4) else (65533, 1))
    else (65533, 1)) := by
  unfold Lib.decodeL Utf8.decode
  simp only [get_bt]
  have hz : (ByteArray.mk l.toArray).size = l.length := by simp [ByteArray.size]
  simp only [hz, Nat.zero_add, ct_eq]
  rfl

theorem valid_iff (n : Nat) : Utf8.valid (n : Int) = true ↔ n < 55296 ∨ 57344 ≤ n ∧ n ≤ 1114111 := by
  simp [Utf8.valid]; omega

theorem rune_num (b0 b1 b2 b3 : Nat) (c1 c2 c3 : Bool) (h0 : b0 < 256) (h1 : c1 = true → b1 / 64 = 2) (D : Nat × Nat) (R : Nat)
    (hD : D = (if b0 < 128 then (b0, 1)
    else if (b0 / 32 == 6 && c1) = true then (if (b0 % 32) * 64 + b1 % 64 ≥ 128 then ((b0 % 32) * 64 + b1 % 64, 2) else (65533, 1))
    else if (b0 / 16 == 14 && c1 && c2) = true then (if (decide ((b0 % 16) * 4096 + (b1 % 64) * 64 + b2 % 64 ≥ 2048) && Utf8.valid (((b0 % 16) * 4096 + (b1 % 64) * 64 + b2 % 64 : Nat) : Int)) = true then ((b0 % 16) * 4096 + (b1 % 64) * 64 + b2 % 64, 3) else (65533, 1))
    else if (b0 / 8 == 30 && c1 && c2 && c3) = true then (if (decide ((b0 % 8) * 262144 + (b1 % 64) * 4096 + (b2 % 64) * 64 + b3 % 64 ≥ 65536) && Utf8.valid (((b0 % 8) * 262144 + (b1 % 64) * 4096 + (b2 % 64) * 64 + b3 % 64 : Nat) : Int)) = true then ((b0 % 8) * 262144 + (b1 % 64) * 4096 + (b2 % 64) * 64 + b3 % 64, 4) else (65533, 1))
    else (65533, 1)))
    (hR : R = if b0 < 128 then 1
      else if 194 ≤ b0 ∧ b0 < 224 ∧ c1 = true then 2
      else if 224 ≤ b0 ∧ b0 < 240 ∧ c1 = true ∧ c2 = true then (if b0 = 224 ∧ b1 < 160 ∨ b0 = 237 ∧ 160 ≤ b1 then 0 else 3)
      else if 240 ≤ b0 ∧ b0 < 245 ∧ c1 = true ∧ c2 = true ∧ c3 = true then (if b0 = 240 ∧ b1 < 144 ∨ b0 = 244 ∧ 144 ≤ b1 then 0 else 4)
      else 0) :
    R = 0 ∧ D = (65533, 1) ∨ R ≠ 0 ∧ D.2 = R ∧ ¬ (D.1 = 65533 ∧ D.2 = 1) := by
  by_cases a : b0 < 128
  · rw [if_pos a] at hD hR
    subst hD hR
    exact .inr ⟨by decide, rfl, by simp; omega⟩
  rw [if_neg a] at hD hR
  cases c1
  · simp at hD hR
    exact .inl ⟨hR, hD⟩
  have h1' := h1 rfl
  simp only [and_true, Bool.and_true, true_and] at hD hR
  by_cases b : 194 ≤ b0 ∧ b0 < 224
  · rw [if_pos b] at hR
    rw [if_pos (by simp; omega), if_pos (by omega)] at hD
    subst hD hR
    exact .inr ⟨by decide, rfl, by simp⟩
  rw [if_neg b] at hR
  by_cases b2 : b0 / 32 = 6
  · rw [if_pos (by simp [b2]), if_neg (by omega)] at hD
    rw [if_neg (by omega), if_neg (by omega)] at hR
    exact .inl ⟨hR, hD⟩
  rw [if_neg (by simp [b2])] at hD
  cases c2
  · simp at hD hR
    exact .inl ⟨hR, hD⟩
  simp only [and_true, Bool.and_true, true_and] at hD hR
  by_cases b3 : 224 ≤ b0 ∧ b0 < 240
  · rw [if_pos b3] at hR
    rw [if_pos (by simp; omega)] at hD
    by_cases q : b0 = 224 ∧ b1 < 160 ∨ b0 = 237 ∧ 160 ≤ b1
    · rw [if_pos q] at hR
      rw [if_neg (by rw [Bool.and_eq_true, decide_eq_true_eq, valid_iff]; omega)] at hD
      exact .inl ⟨hR, hD⟩
    · rw [if_neg q] at hR
      rw [if_pos (by rw [Bool.and_eq_true, decide_eq_true_eq, valid_iff]; omega)] at hD
      subst hD hR
      exact .inr ⟨by decide, rfl, by simp⟩
  rw [if_neg b3] at hR
  rw [if_neg (by simp; omega)] at hD
  cases c3
  · simp at hD hR
    exact .inl ⟨hR, hD⟩
  simp only [and_true, Bool.and_true] at hD hR
  by_cases b4 : 240 ≤ b0 ∧ b0 < 245
  · rw [if_pos b4] at hR
    rw [if_pos (by simp; omega)] at hD
    by_cases q : b0 = 240 ∧ b1 < 144 ∨ b0 = 244 ∧ 144 ≤ b1
    · rw [if_pos q] at hR
      rw [if_neg (by rw [Bool.and_eq_true, decide_eq_true_eq, valid_iff]; omega)] at hD
      exact .inl ⟨hR, hD⟩
    · rw [if_neg q] at hR
      rw [if_pos (by rw [Bool.and_eq_true, decide_eq_true_eq, valid_iff]; omega)] at hD
      subst hD hR
      exact .inr ⟨by decide, rfl, by simp⟩
  rw [if_neg b4] at hR
  by_cases b5 : b0 / 8 = 30
  · rw [if_pos (by simp [b5]), if_neg (by rw [Bool.and_eq_true, decide_eq_true_eq, valid_iff]; omega)] at hD
    exact .inl ⟨hR, hD⟩
  · rw [if_neg (by simp [b5])] at hD
    exact .inl ⟨hR, hD⟩
theorem decode_rune (l : List UInt8) : runeN l = 0 ∧ Lib.decodeL l = (65533, 1) ∨ runeN l ≠ 0 ∧ (Lib.decodeL l).2 = runeN l ∧ ¬ ((Lib.decodeL l).1 = 65533 ∧ (Lib.decodeL l).2 = 1) :=
  rune_num (bt l 0) (bt l 1) (bt l 2) (bt l 3) (ct l 1) (ct l 2) (ct l 3) (bt_lt l 0) (fun h => ((ct_iff l 1).1 h).2) _ _ (decode_eq l) rfl
theorem runeN_le (l : List UInt8) (h : l ≠ []) : runeN l ≤ l.length := by
  have hl : 0 < l.length := List.length_pos_iff.2 h
  unfold runeN
  split
  · omega
  · split
    · rename_i h; have := ((ct_iff l 1).1 h.2.2).1; omega
    · split
      · rename_i h; have := ((ct_iff l 2).1 h.2.2.2).1; split <;> omega
      · split
        · rename_i h; have := ((ct_iff l 3).1 h.2.2.2.2).1; split <;> omega
        · omega
theorem valid_step (l : List UInt8) (h : l ≠ []) : Lib.validD l = if runeN l = 0 then false else Lib.validD (l.drop (runeN l)) := by
  rw [Lib.validD_step l h]
  rcases decode_rune l with ⟨h0, h1⟩ | ⟨h0, h1, h2⟩
  · rw [if_pos h0, h1]; simp
  · rw [if_neg h0, if_neg h2, h1]
end Up
end Go.Proofs.YtbhgmfddjnkglaaGreatDoor
