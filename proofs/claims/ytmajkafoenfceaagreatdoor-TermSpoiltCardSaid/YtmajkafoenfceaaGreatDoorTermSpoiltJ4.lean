/-
  Joined: TermSpoiltCardH.
-/
import Derived.Test.YtmajkafoenfceaaGreatDoorTermSpoiltJ1
import Derived.Test.YtmajkafoenfceaaGreatDoorTermSpoiltJ3

/-
  TermSpoilt's row holds.
-/
namespace Go.Proofs.YtmajkafoenfceaaGreatDoor
open Go.ChangeShapes Go.WideShapes Go.ChangeAt Go.RowKit Go.ChangeMaps Pw

theorem termSpoilt_holds : Rows.TermSpoiltSaid :=
  OpenClaim.holds_of_wide 7 Tryz.f7 rfl rfl rfl rfl rfl rfl rfl ⟨rfl, rfl, rfl, rfl, rfl⟩ rfl rfl rfl rfl rfl (by kernel_rfl) Tryz.func7 termSpoilt_joined
    (of_decide_eq_true (by kernel_rfl)) (by unfold Func.isWrapper; first | (rw [if_pos (by decide +kernel)]; kernel_rfl) | (rw [if_neg (by decide +kernel)]; exact ⟨rfl, rfl⟩))
    (fun os started H enc _ => termSpoilt_lifted os started H enc)

end Go.Proofs.YtmajkafoenfceaaGreatDoor
