/-
  Joined: TermPipesCardJ.
-/
import Derived.Test.YtmajkafoenfceaaGreatDoorTermPipeJ12

/-
  The facts that Lean's kernel reckons of TermPipes's row.
-/
namespace Go.Proofs.YtmajkafoenfceaaGreatDoor
open Go.ChangeShapes Go.WideShapes Go.ChangeAt Go.RowKit Go.ChangeMaps Pw

set_option maxHeartbeats 8000000 in
theorem termPipes_joined : joinedFacts Tryz.prog 4 Tryz.f4 Rows.termPipesSpec Rows.termPipesRow = true := by
  simp only [joinedFacts, Bool.and_eq_true]
  repeat' apply And.intro
  all_goals as_aux_lemma => kernel_rfl
end Go.Proofs.YtmajkafoenfceaaGreatDoor
