/-
  What the document's own answers are: figures, Right.
-/
import Derived.Test.YtbhgmfddjnkglaaGreatDoorNumW1
import Derived.Test.YtbhgmfddjnkglaaGreatDoorNumPlain5
import Derived.Deep.Light
namespace Go.Proofs.YtbhgmfddjnkglaaGreatDoor
open Go.RowKit Np

theorem fig_out {c : UInt8} (h : c.toNat < 48 ∨ 57 < c.toNat) : fig c = false := by
  rw [← Bool.not_eq_true, fig_iff]; omega
theorem fig_in {c : UInt8} (h : 48 ≤ c.toNat) (h2 : c.toNat ≤ 57) : fig c = true := (fig_iff c).2 ⟨h, h2⟩

set_option maxHeartbeats 400000 in
theorem refFigures_any (s : ByteArray) (w : World) (hs : s.size ≤ maxLen) :
    Calls Tryz.prog 104 #[.string s] w fun e w' => e = .returned (.bool (figs s.data.toList)) ∧ w = w' := by
  unfold maxLen at hs
  go_enter Tryz.func104, Tryz.ntmps104
  go_wp2
  go_loop [3] (fun i => ∃ k : Nat, k ≤ s.size ∧ i = .int .i64 k ∧ figs (s.data.toList.take k) = true) (fun i => s.size - (intOf i).toNat)
  case atStart => exact ⟨0, Nat.zero_le _, rfl, rfl⟩
  case round =>
    obtain ⟨k, hk, rfl, hf⟩ := hrel
    have HF := Lib.hid hf; clear hf
    by_cases hlt : k < s.size
    · have HN : Hid (fig s[k] = false → figs s.data.toList = false) := Lib.hid (fun h => figs_of_not (k := k) (by simpa using hlt) (by rw [get_toList s k hlt]; exact h))
      have HY : Hid (fig s[k] = true → figs (s.data.toList.take (k + 1)) = true) := Lib.hid (fun h => by rw [take_snoc _ k (by simpa using hlt), figs_snoc, HF.out, get_toList s k hlt, h]; rfl)
      go_wp2
      · go_ret
        exact ⟨ret_bool (HN.out (fig_out (by omega))).symm, rfl⟩
      · go_round
        case rel => exact ⟨k + 1, by omega, by go_num, HY.out (fig_in (by omega) (by omega))⟩
        case measure => simp [intOf]; omega
      · go_ret
        exact ⟨ret_bool (HN.out (fig_out (by omega))).symm, rfl⟩
    · have HC : Hid (figs s.data.toList = true) := Lib.hid (by have h := HF.out; rwa [List.take_of_length_le (by simp; omega)] at h)
      go_wp2
      go_ret
      exact ⟨ret_bool HC.out.symm, rfl⟩

set_option maxHeartbeats 1000000 in
theorem refRight_any (k m : Int) (nm s : ByteArray) (g : Bool) (x : Int) (w : World) (hs : s.size ≤ maxLen) :
    Calls Tryz.prog 70 #[.agg #[.int .i64 k, .int .i64 m, .string nm, .string s, .bool g, .int .i64 x]] w fun e w' => e = .returned (.bool (right ⟨k, m, nm.data.toList, s.data.toList, g, x⟩)) ∧ Below w.heap.size w w' := by
  have hB : Below w.heap.size w w := Below.refl _ _
  have hs2 := hs
  unfold maxLen at hs2
  cases hf : figs s.data.toList
  · have HV := Lib.hid (right_figs (n := ⟨k, m, nm.data.toList, s.data.toList, g, x⟩) hf)
    have HF := Lib.hid hf; clear hf
    go_enter Tryz.func70, Tryz.ntmps70
    go_wp2_with (go_at_call 104; refine (refFigures_any _ _ hs).mono ?_; rintro e w' ⟨rfl, rfl⟩; rw [HF.out])
    all_goals go_ret
    all_goals exact ⟨ret_bool HV.out.symm, hB.alloc (Nat.le_refl _) _⟩
  · cases hne : s.toList.isEmpty
    · have hpos := pos_of_notEmpty hne
      have HV : Hid (∀ k m : Int, right ⟨k, m, nm.data.toList, s.data.toList, g, x⟩ = (decide (k = 3) && decide (m = 0) && decide (nm.toList = []) && (decide (s.size ≤ 100) && ((s[0].toNat : Int) != 48) && ((s[s.size - 1].toNat : Int) != 48) && decide (-1000 ≤ x) && decide (x ≤ 1000 - s.size)))) := Lib.hid (fun k m => by
        rw [right_some' (by intro h; rw [ByteArray.toList_eq, h] at hne; cases hne) hf, headD_eq s hpos, getLastD_eq s hpos, size_toList, toNat_beq, toNat_beq, ByteArray.toList_eq])
      have HF := Lib.hid hf; clear hf
      go_enter Tryz.func70, Tryz.ntmps70
      go_wp2_with (go_at_call 104; refine (refFigures_any _ _ hs).mono ?_; rintro e w' ⟨rfl, rfl⟩; rw [HF.out])
      all_goals (go_ret; refine ⟨ret_bool ?_, hB.alloc (Nat.le_refl _) _⟩)
      all_goals (rw [HV.out]; go_light; clear HV HF hB; grind)
    · have HV : Hid (∀ k m : Int, right ⟨k, m, nm.data.toList, s.data.toList, g, x⟩ = (decide (k = 3) && decide (m = 0) && decide (nm.toList = []) && (!g && decide (x = 0)))) := Lib.hid (fun k m => by
        rw [right_empty' (by rw [← ByteArray.toList_eq]; exact List.isEmpty_iff.1 hne), ByteArray.toList_eq])
      have hz : s.size = 0 := by rw [← size_toList, ← ByteArray.toList_eq, List.isEmpty_iff.1 hne]; rfl
      have HF := Lib.hid hf; clear hf
      go_enter Tryz.func70, Tryz.ntmps70
      go_wp2_with (go_at_call 104; refine (refFigures_any _ _ hs).mono ?_; rintro e w' ⟨rfl, rfl⟩; rw [HF.out])
      all_goals (go_ret; refine ⟨ret_bool ?_, hB.alloc (Nat.le_refl _) _⟩)
      all_goals (rw [HV.out]; go_light; clear HV HF hB; grind)

end Go.Proofs.YtbhgmfddjnkglaaGreatDoor
