/-
  What num.scan answers.
-/
import Derived.Test.YtdgcdemihalefaaGreatDoorNumW4
import Derived.RegionTactic
import Derived.ChangeAlike
import Derived.Deep.DeepCutAuto
namespace Go.Proofs.YtdgcdemihalefaaGreatDoor
open Go.RowKit Np



def wrv (r : Wr) : Value := .agg #[.bool r.neg, .string ⟨r.whole.toArray⟩, .string ⟨r.part.toArray⟩, .bool r.down, .string ⟨r.power.toArray⟩]

/-- How scan ends. -/
def ScanEnd (w : World) (s : ByteArray) (e : Ending) (w' : World) : Prop :=
  e = .returned (.tuple #[wrv (scanF s.data.toList).1, .int .i64 (scanF s.data.toList).2.1, .bool (scanF s.data.toList).2.2]) ∧ Below w.heap.size w w'
theorem scanEnd_bad {w w' : World} {s : ByteArray} {i : Nat} (h : scanF s.data.toList = (wr0, i, false)) (hb : Below w.heap.size w w') : ScanEnd w s (.returned (.tuple #[wrv wr0, .int .i64 i, .bool false])) w' := by
  unfold ScanEnd; rw [h]; exact ⟨rfl, hb⟩


end Go.Proofs.YtdgcdemihalefaaGreatDoor
