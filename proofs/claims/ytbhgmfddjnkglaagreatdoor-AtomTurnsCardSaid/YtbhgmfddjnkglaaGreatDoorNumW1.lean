/-
  What num's small functions answer: isFigure, onlyFigures, rightPower, rightFigures, Right.
-/
import Derived.Test.YtbhgmfddjnkglaaGreatDoorRows
import Derived.Test.YtbhgmfddjnkglaaGreatDoorNumPlain
import Derived.Test.YtbhgmfddjnkglaaGreatDoorBase
import Derived.WalkKit
import Derived.WalkSpells
import Derived.WalkLawsBesides
import Derived.Lib.Hide
import Derived.Deep.QuietTactic
import Derived.BigQuiet
namespace Go.Proofs.YtbhgmfddjnkglaaGreatDoor
open Go.RowKit Np

set_option maxHeartbeats 400000 in
theorem isFigure_any (c : UInt8) (w : World) :
    Calls Tryz.prog 79 #[.int .u8 c.toNat] w fun e w' => e = .returned (.bool (fig c)) ∧ w = w' := by
  go_enter Tryz.func79, Tryz.ntmps79
  go_wp2
  all_goals go_ret
  all_goals exact ⟨ret_bool (by rw [Bool.eq_iff_iff, fig_iff]; simp; omega), rfl⟩

theorem isFigure_yes (c : UInt8) (w : World) (h : fig c = true) :
    Calls Tryz.prog 79 #[.int .u8 c.toNat] w fun e w' => e = .returned (.bool true) ∧ w = w' :=
  (isFigure_any c w).mono fun _ _ ⟨he, hw⟩ => ⟨by rw [he, h], hw⟩
theorem isFigure_no (c : UInt8) (w : World) (h : fig c = false) :
    Calls Tryz.prog 79 #[.int .u8 c.toNat] w fun e w' => e = .returned (.bool false) ∧ w = w' :=
  (isFigure_any c w).mono fun _ _ ⟨he, hw⟩ => ⟨by rw [he, h], hw⟩

set_option maxHeartbeats 400000 in
theorem onlyFigures_any (s : ByteArray) (w : World) (hs : s.size ≤ maxLen) :
    Calls Tryz.prog 61 #[.string s] w fun e w' => e = .returned (.bool (figs s.data.toList)) ∧ w = w' := by
  unfold maxLen at hs
  go_enter Tryz.func61, Tryz.ntmps61
  go_wp2
  go_loop [3] (fun i => ∃ k : Nat, k ≤ s.size ∧ i = .int .i64 k ∧ figs (s.data.toList.take k) = true) (fun i => s.size - (intOf i).toNat)
  case atStart => exact ⟨0, Nat.zero_le _, rfl, rfl⟩
  case round =>
    obtain ⟨k, hk, rfl, hf⟩ := hrel
    have HF := Lib.hid hf; clear hf
    by_cases hlt : k < s.size
    · have hget := get_toList s k hlt
      cases hfc : fig s[k]
      · have HC : Hid (figs s.data.toList = false) := Lib.hid (figs_of_not (k := k) (by simpa using hlt) (by rw [hget]; exact hfc))
        have HD := Lib.hid hfc; clear hfc hget
        go_wp2_with (go_at_call 79; refine (isFigure_no _ _ HD.out).mono ?_; rintro e w' ⟨rfl, rfl⟩)
        go_ret
        exact ⟨ret_bool HC.out.symm, rfl⟩
      · have HC : Hid (figs (s.data.toList.take (k + 1)) = true) := Lib.hid (by rw [take_snoc _ k (by simpa using hlt), figs_snoc, HF.out, hget, hfc]; rfl)
        have HD := Lib.hid hfc; clear hfc hget
        go_wp2_with (go_at_call 79; refine (isFigure_yes _ _ HD.out).mono ?_; rintro e w' ⟨rfl, rfl⟩)
        go_round
        case rel => exact ⟨k + 1, by omega, by go_num, HC.out⟩
        case measure => simp [intOf]; omega
    · have HC : Hid (figs s.data.toList = true) := Lib.hid (by have h := HF.out; rwa [List.take_of_length_le (by simp; omega)] at h)
      go_wp2
      go_ret
      exact ⟨ret_bool HC.out.symm, rfl⟩

set_option maxHeartbeats 400000 in
theorem rightPower_any (n e : Int) (w : World) (h0 : 0 ≤ n) (h1 : n ≤ 9223372036854775807) :
    Calls Tryz.prog 41 #[.int .i64 n, .int .i64 e] w fun x w' => x = .returned (.bool (rpow n e)) ∧ w = w' := by
  go_enter Tryz.func41, Tryz.ntmps41
  go_wp2
  all_goals go_ret
  all_goals exact ⟨ret_bool (by unfold rpow; rw [Bool.eq_iff_iff]; simp; omega), rfl⟩

set_option maxHeartbeats 400000 in
theorem rightFigures_any (s : ByteArray) (w : World) (hs : s.size ≤ maxLen) (h0 : 0 < s.size) :
    Calls Tryz.prog 40 #[.string s] w fun x w' => x = .returned (.bool (rfigs s.data.toList)) ∧ w = w' := by
  have HV := Lib.hid (rfigs_eq s h0)
  have hs' := hs
  unfold maxLen at hs
  by_cases h100 : s.size ≤ 100
  · cases hf : figs s.data.toList
    · have HF := Lib.hid hf; clear hf
      go_enter Tryz.func40, Tryz.ntmps40
      go_wp2_with (go_at_call 61; refine (onlyFigures_any _ _ hs').mono ?_; rintro e w' ⟨rfl, rfl⟩; rw [HF.out])
      go_ret
      exact ⟨ret_bool (by rw [HV.out, HF.out]; simp), rfl⟩
    · have HF := Lib.hid hf; clear hf
      go_enter Tryz.func40, Tryz.ntmps40
      go_wp2_with (go_at_call 61; refine (onlyFigures_any _ _ hs').mono ?_; rintro e w' ⟨rfl, rfl⟩; rw [HF.out])
      · go_ret
        exact ⟨ret_bool (by rw [HV.out, toNat_beq]; simp [*]), rfl⟩
      · go_ret
        exact ⟨ret_bool (by rw [HV.out, HF.out, toNat_beq, toNat_beq]; simp [*]), rfl⟩
  · go_enter Tryz.func40, Tryz.ntmps40
    go_wp2_with fail
    go_ret
    exact ⟨ret_bool (by rw [HV.out]; simp [h100]), rfl⟩

def ndv (n : Nd) : Value := .agg #[.int .i64 n.kind, .int .i64 n.many, .string ⟨n.name.toArray⟩, .string ⟨n.s.toArray⟩, .bool n.neg, .int .i64 n.e]

theorem pos_of_notEmpty {s : ByteArray} (h : s.toList.isEmpty = false) : 0 < s.size := by
  rw [ByteArray.toList_eq] at h
  have := size_toList s
  cases hl : s.data.toList with
  | nil => rw [hl] at h; cases h
  | cons a t => rw [hl] at this; simp at this; omega

set_option maxHeartbeats 400000 in
theorem right_any (k m : Int) (nm s : ByteArray) (g : Bool) (x : Int) (w : World) (hs : s.size ≤ maxLen) :
    Calls Tryz.prog 26 #[.agg #[.int .i64 k, .int .i64 m, .string nm, .string s, .bool g, .int .i64 x]] w fun e w' => e = .returned (.bool (right ⟨k, m, nm.data.toList, s.data.toList, g, x⟩)) ∧ Below w.heap.size w w' := by
  have hB : Below w.heap.size w w := Below.refl _ _
  have hs2 := hs
  unfold maxLen at hs2
  go_enter Tryz.func26, Tryz.ntmps26
  go_wp2_with fail
  · have h3 : (!nm.toList.isEmpty) = true := by assumption
    rw [ByteArray.toList_eq, Bool.not_eq_true'] at h3
    go_ret
    exact ⟨ret_bool (right_name h3).symm, hB.alloc (Nat.le_refl _) _⟩
  · have h1 : k = 3 := by assumption
    have h2 : m = 0 := by assumption
    have h3 : (!nm.toList.isEmpty) = false := by assumption
    have h4 : s.toList.isEmpty = true := by assumption
    have h5 : g = true := by assumption
    rw [ByteArray.toList_eq, Bool.not_eq_false'] at h3
    rw [ByteArray.toList_eq] at h4
    go_ret
    exact ⟨ret_bool (by rw [right_nought h1 h2 h3 h4, h5]; rfl), hB.alloc (Nat.le_refl _) _⟩
  · have h1 : k = 3 := by assumption
    have h2 : m = 0 := by assumption
    have h3 : (!nm.toList.isEmpty) = false := by assumption
    have h4 : s.toList.isEmpty = true := by assumption
    have h5 : ¬ g = true := by assumption
    rw [ByteArray.toList_eq, Bool.not_eq_false'] at h3
    rw [ByteArray.toList_eq] at h4
    go_ret
    refine ⟨ret_bool ?_, hB.alloc (Nat.le_refl _) _⟩
    rw [right_nought h1 h2 h3 h4, Bool.eq_iff_iff]; simp [h5]
  rotate_left
  · have h1 : ¬ m = 0 := by assumption
    go_ret
    exact ⟨ret_bool (by simp [right, h1]), hB.alloc (Nat.le_refl _) _⟩
  · have h1 : ¬ k = 3 := by assumption
    go_ret
    exact ⟨ret_bool (by simp [right, h1]), hB.alloc (Nat.le_refl _) _⟩
  have hne : s.toList.isEmpty = false := by assumption
  have h1 : k = 3 := by assumption
  have h2 : m = 0 := by assumption
  have h3 : (!nm.toList.isEmpty) = false := by assumption
  rw [ByteArray.toList_eq, Bool.not_eq_false'] at h3
  have HV : Hid (right ⟨k, m, nm.data.toList, s.data.toList, g, x⟩ = (rfigs s.data.toList && rpow s.size x)) := Lib.hid (by
    rw [right_some h1 h2 h3 (ByteArray.toList_eq s ▸ hne), ← size_toList s])
  refine (rightFigures_any _ _ hs (pos_of_notEmpty hne)).mono ?_
  rintro e w' ⟨rfl, rfl⟩
  clear h1 h2 h3
  cases hr : rfigs s.data.toList
  · have HR := Lib.hid hr; clear hr
    go_wp2_with fail
    go_ret
    exact ⟨ret_bool (by rw [HV.out, HR.out]; rfl), hB.alloc (Nat.le_refl _) _⟩
  · have HR := Lib.hid hr; clear hr
    go_wp2_with (go_at_call 41; refine (rightPower_any _ _ _ (by omega) (by omega)).mono ?_; rintro e w' ⟨rfl, rfl⟩)
    go_ret
    exact ⟨ret_bool (by rw [HV.out, HR.out]; rfl), hB.alloc (Nat.le_refl _) _⟩

end Go.Proofs.YtbhgmfddjnkglaaGreatDoor
