/-
  What num's comparing functions answer: sign, cmpSize, Cmp; and the library's Compare of two strings.
-/
import Derived.Test.YtafbojiojeemoaaGreatDoorNumW1
import Derived.Test.YtafbojiojeemoaaGreatDoorShelf
namespace Go.Proofs.YtafbojiojeemoaaGreatDoor
open Go.RowKit Np



set_option maxHeartbeats 400000 in
theorem isNaNStr_any (s : ByteArray) (w : World) :
    Calls Tryz.prog 187 #[.string s] w fun e w' => e = .returned (.bool false) ∧ w = w' := by
  go_enter Tryz.func187, Tryz.ntmps187
  go_wp2
  go_ret
  exact ⟨ret_bool (by simp), rfl⟩

set_option maxHeartbeats 400000 in
theorem cmpStr_any (s t : ByteArray) (w : World) :
    Calls Tryz.prog 158 #[.string s, .string t] w fun e w' => e = .returned (.int .i64 (cmpB s.data.toList t.data.toList)) ∧ w = w' := by
  go_enter Tryz.func158, Tryz.ntmps158
  go_wp2_with (go_at_call 187; refine (isNaNStr_any _ _).mono ?_; rintro e w' ⟨rfl, rfl⟩)
  · have h : Op.bytesLess s.toList t.toList = true := by assumption
    rw [ByteArray.toList_eq, ByteArray.toList_eq] at h
    go_ret
    exact ⟨ret_i64 (by rw [cmpB, if_pos h]), rfl⟩
  · have h : Op.bytesLess s.toList t.toList = false := by assumption
    have h2 : (!s.toList == t.toList) = true := by assumption
    rw [ByteArray.toList_eq, ByteArray.toList_eq] at h h2
    go_ret
    exact ⟨ret_i64 (by rw [cmpB, if_neg (by rw [h]; decide), if_neg (by simpa using h2)]), rfl⟩
  · have h : Op.bytesLess s.toList t.toList = false := by assumption
    have h2 : (!s.toList == t.toList) = false := by assumption
    rw [ByteArray.toList_eq, ByteArray.toList_eq] at h h2
    go_ret
    exact ⟨ret_i64 (by rw [cmpB, if_neg (by rw [h]; decide), if_pos (by simpa using h2)]), rfl⟩




end Go.Proofs.YtafbojiojeemoaaGreatDoor
