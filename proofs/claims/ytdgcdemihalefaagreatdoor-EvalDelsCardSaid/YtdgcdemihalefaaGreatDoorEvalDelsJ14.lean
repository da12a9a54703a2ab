/-
  Joined: Pa3.
-/
import Derived.Test.YtdgcdemihalefaaGreatDoorEvalDelsJ3
import Derived.Test.YtdgcdemihalefaaGreatDoorEvalDelsJ8

/-
  What path's Get answers.
-/
namespace Go.Proofs.YtdgcdemihalefaaGreatDoor
open Go.RowKit Np Rw Vp Pw

end Go.Proofs.YtdgcdemihalefaaGreatDoor
