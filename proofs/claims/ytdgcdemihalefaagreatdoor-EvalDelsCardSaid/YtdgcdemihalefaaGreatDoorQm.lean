/-
  Words for memory: what lay below stays, what a call answers. Of no function.
-/
import Derived.Test.YtdgcdemihalefaaGreatDoorRows
import Derived.Test.YtdgcdemihalefaaGreatDoorBase
import Derived.Test.YtdgcdemihalefaaGreatDoorNumPlain
import Derived.WalkKit
import Derived.WalkSpells
import Derived.WalkLawsBesides
import Derived.Lib.Hide
import Derived.Deep.QuietTactic
import Derived.BigQuiet
import Derived.BigCall
import Derived.BigGuard
import Derived.Below
import Derived.RegionTactic
import Derived.OwnWalk
import Derived.Deep.Light
import Derived.Lib.OthersKept
import Derived.Maps.OwnSet
import Derived.Outline
namespace Go.Proofs.YtdgcdemihalefaaGreatDoor
open Go.RowKit Np

/-- The library's ErrSyntax holds an error, or nothing. -/
def Er (w : World) : Prop := ∃ ev, w.cell? ⟨8, 0, none⟩ = some ev ∧ (ev = .nilIface ∨ ∃ te pe, ev = .iface te pe)
theorem Er.below {w w' : World} (h : Er w) (hb : Below w.heap.size w w') : Er w' := by
  obtain ⟨ev, h1, h2⟩ := h
  have hlt := World.block_lt_of_cell? _ _ h1
  exact ⟨ev, (hb.cell (p := ⟨8, 0, none⟩) hlt).trans h1, h2⟩
end Go.Proofs.YtdgcdemihalefaaGreatDoor
