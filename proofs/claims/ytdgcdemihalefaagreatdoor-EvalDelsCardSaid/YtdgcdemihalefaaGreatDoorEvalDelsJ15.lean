/-
  Joined: ConcP, Pa5.
-/
import Derived.Test.YtdgcdemihalefaaGreatDoorEvalDelsJ8
import Derived.Test.YtdgcdemihalefaaGreatDoorRefW6
import Derived.Test.YtdgcdemihalefaaGreatDoorEvalDelsJ1
import Derived.Test.YtdgcdemihalefaaGreatDoorEvalDelsJ14

/-
  What the library's Grow (of nothing) and Concat answer for rows of nodes (XConcW, for a seat without package val).
-/
namespace Go.Proofs.YtdgcdemihalefaaGreatDoor
open Go.RowKit Go.Shelf Np Rw Vp


end Go.Proofs.YtdgcdemihalefaaGreatDoor

/-
  What path's Set answers.
-/
namespace Go.Proofs.YtdgcdemihalefaaGreatDoor
open Go.RowKit Np Rw Vp Pw

end Go.Proofs.YtdgcdemihalefaaGreatDoor
