/-
  Joined: TermPipesCardH.
-/
import Derived.Test.YtmajkafoenfceaaGreatDoorTermPipesJ1
import Derived.Test.YtmajkafoenfceaaGreatDoorTermPipesJ3

/-
  TermPipes's row holds.
-/
namespace Go.Proofs.YtmajkafoenfceaaGreatDoor
open Go.ChangeShapes Go.WideShapes Go.ChangeAt Go.RowKit Go.ChangeMaps Pw

theorem termPipes_holds : Rows.TermPipesSaid :=
  OpenClaim.holds_of_wide 4 Tryz.f4 rfl rfl rfl rfl rfl rfl rfl ⟨rfl, rfl, rfl, rfl, rfl⟩ rfl rfl rfl rfl rfl (by kernel_rfl) Tryz.func4 termPipes_joined
    (of_decide_eq_true (by kernel_rfl)) (by unfold Func.isWrapper; first | (rw [if_pos (by decide +kernel)]; kernel_rfl) | (rw [if_neg (by decide +kernel)]; exact ⟨rfl, rfl⟩))
    (fun os started H enc _ => termPipes_lifted os started H enc)

end Go.Proofs.YtmajkafoenfceaaGreatDoor
