/-
  How long a slice is. Of no function.
-/
import Derived.Test.YtdgcdemihalefaaGreatDoorBase
namespace Go.Proofs.YtdgcdemihalefaaGreatDoor
open Go.RowKit
/-- How long a slice is. -/
def lenOf : Value → Nat
  | .slice _ n _ => n
  | _ => 0
end Go.Proofs.YtdgcdemihalefaaGreatDoor
