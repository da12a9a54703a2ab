/-
  Plain words: a nought ahead makes no other number. No program stands here.
-/
import Derived.Test.YtfmoigbiohbocaaDoorNumPlain7
namespace Go.Proofs.YtfmoigbiohbocaaDoor
namespace Np
open Go.RowKit

theorem mk_nought_ahead (g : Bool) (f : List UInt8) (e : Int) : mk g (48 :: f) e = mk g f e := by
  have h1 : figs (48 :: f) = figs f := by simp [figs, show fig 48 = true by decide]
  have h2 : Lib.trimLeftB (48 :: f) 48 = Lib.trimLeftB f 48 := by simp [Lib.trimLeftB]
  unfold mk mkN
  rw [h1, h2]
/-- The figures ahead of the point, with a nought that leads. -/
def aheadF (l : List UInt8) : List UInt8 := (l.drop (i0F l)).take (i1F l - i0F l)
theorem aheadF_eq (l : List UInt8) : aheadF l = wholeF l ∨ aheadF l = 48 :: wholeF l := by
  unfold aheadF
  cases h : stands l (i0F l) 48
  · obtain ⟨_, e2, e3⟩ := at1_no h
    left
    rw [e2, e3, Nat.add_sub_cancel_left]
    exact (List.prefix_iff_eq_take.1 (List.takeWhile_prefix fig)).symm
  · obtain ⟨_, e2, e3⟩ := at1_yes h
    right
    have hlt := stands_lt h
    unfold stands at h
    rw [List.getElem?_eq_getElem hlt] at h
    have h48 : l[i0F l] = 48 := by simpa using h
    rw [e2, e3, Nat.add_sub_cancel_left, List.drop_eq_getElem_cons hlt, h48]
    rfl
theorem mk_ahead (g : Bool) (l p : List UInt8) (e : Int) : mk g (aheadF l ++ p) e = mk g (wholeF l ++ p) e := by
  rcases aheadF_eq l with h | h
  · rw [h]
  · rw [h, List.cons_append, mk_nought_ahead]

theorem read_short {l : List UInt8} (h1 : bad1 l = false) (h2 : bad2 l = false) (h : i6F l < l.length) : readF l = (nd0, (i6F l : Int), 1) := by
  cases h3 : bad3 l
  · have e := scanF_4 h1 h2 h3
    rw [show (i6F l == l.length) = false by rw [beq_eq_false_iff_ne]; omega] at e
    exact readF_form e
  · have e := readF_form (scanF_3 h1 h2 h3)
    have hp : powF l = [] := by
      unfold bad3 at h3
      rw [Bool.and_eq_true] at h3
      exact List.isEmpty_iff.1 h3.2
    rw [e]; unfold i6F; rw [hp]; simp
theorem read_bad3 {l : List UInt8} (h1 : bad1 l = false) (h2 : bad2 l = false) (h3 : bad3 l = true) : readF l = (nd0, (i6F l : Int), 1) := by
  have e := readF_form (scanF_3 h1 h2 h3)
  have hp : powF l = [] := by
    unfold bad3 at h3
    rw [Bool.and_eq_true] at h3
    exact List.isEmpty_iff.1 h3.2
  rw [e]; unfold i6F; rw [hp]; simp
theorem scan_all {l : List UInt8} (h1 : bad1 l = false) (h2 : bad2 l = false) (h3 : bad3 l = false) (h : i6F l = l.length) : scanF l = (⟨stands l 0 45, wholeF l, partF l, downF l, powF l⟩, i6F l, true) := by
  have e := scanF_4 h1 h2 h3
  rw [show (i6F l == l.length) = true by rw [beq_iff_eq]; exact h] at e
  exact e

end Np
end Go.Proofs.YtfmoigbiohbocaaDoor
