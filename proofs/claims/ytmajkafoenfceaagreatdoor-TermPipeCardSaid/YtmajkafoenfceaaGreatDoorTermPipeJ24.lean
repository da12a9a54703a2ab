/-
  Joined: TermPipeCardH.
-/
import Derived.Test.YtmajkafoenfceaaGreatDoorTermPipeJ22
import Derived.Test.YtmajkafoenfceaaGreatDoorTermPipeJ23

/-
  TermPipe's row holds.
-/
namespace Go.Proofs.YtmajkafoenfceaaGreatDoor
open Go.ChangeShapes Go.WideShapes Go.ChangeAt Go.RowKit Go.ChangeMaps Pw

theorem termPipe_holds : Rows.TermPipeSaid :=
  OpenClaim.holds_of_wide 5 Tryz.f5 rfl rfl rfl rfl rfl rfl rfl ⟨rfl, rfl, rfl, rfl, rfl⟩ rfl rfl rfl rfl rfl (by kernel_rfl) Tryz.func5 termPipe_joined
    (of_decide_eq_true (by kernel_rfl)) (by unfold Func.isWrapper; first | (rw [if_pos (by decide +kernel)]; kernel_rfl) | (rw [if_neg (by decide +kernel)]; exact ⟨rfl, rfl⟩))
    (fun os started H enc _ => termPipe_lifted os started H enc)

end Go.Proofs.YtmajkafoenfceaaGreatDoor
