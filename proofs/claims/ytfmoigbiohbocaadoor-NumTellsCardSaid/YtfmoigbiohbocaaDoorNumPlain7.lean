/-
  Plain words: where a number's figures end, in the document's words. No program stands here.
-/
import Derived.Test.YtfmoigbiohbocaaDoorNumPlain6
import Derived.Test.YtfmoigbiohbocaaDoorNumPlain3
namespace Go.Proofs.YtfmoigbiohbocaaDoor
namespace Np
open Go.RowKit

theorem run_at {l : List UInt8} {i : Nat} (h : stands l i 48 = true) : (run l i).isEmpty = false := by
  have hlt := stands_lt h
  unfold stands at h
  rw [List.getElem?_eq_getElem hlt] at h
  have h48 : l[i] = 48 := by simpa using h
  unfold run
  rw [List.drop_eq_getElem_cons hlt, List.takeWhile_cons, if_pos (by rw [h48]; decide)]
  rfl
theorem bad1_run (l : List UInt8) : bad1 l = (run l (i0F l)).isEmpty := by
  unfold bad1
  cases h : stands l (i0F l) 48
  · simp
  · simp [run_at h]

end Np
end Go.Proofs.YtfmoigbiohbocaaDoor
