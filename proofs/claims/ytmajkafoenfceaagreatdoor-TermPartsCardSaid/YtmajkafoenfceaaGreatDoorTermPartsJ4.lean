/-
  Joined: TermPartsCardH.
-/
import Derived.Test.YtmajkafoenfceaaGreatDoorTermPartsJ1
import Derived.Test.YtmajkafoenfceaaGreatDoorTermPartsJ3

/-
  TermParts's row holds.
-/
namespace Go.Proofs.YtmajkafoenfceaaGreatDoor
open Go.ChangeShapes Go.WideShapes Go.ChangeAt Go.RowKit Go.ChangeMaps Pw

theorem termParts_holds : Rows.TermPartsSaid :=
  OpenClaim.holds_of_wide 6 Tryz.f6 rfl rfl rfl rfl rfl rfl rfl ⟨rfl, rfl, rfl, rfl, rfl⟩ rfl rfl rfl rfl rfl (by kernel_rfl) Tryz.func6 termParts_joined
    (of_decide_eq_true (by kernel_rfl)) (by unfold Func.isWrapper; first | (rw [if_pos (by decide +kernel)]; kernel_rfl) | (rw [if_neg (by decide +kernel)]; exact ⟨rfl, rfl⟩))
    (fun os started H enc _ => termParts_lifted os started H enc)

end Go.Proofs.YtmajkafoenfceaaGreatDoor
