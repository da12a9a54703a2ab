/-
  Joined: Ow8, Ow9, OwA, ORef1.
-/
import Derived.Test.YtbhgmfddjnkglaaGreatDoorAtomTellsJ13
import Derived.Test.YtbhgmfddjnkglaaGreatDoorAtomTellsJ7
import Derived.Test.YtbhgmfddjnkglaaGreatDoorAtomTellsJ3

/-
  What order's sorted and Sort answer.
-/
namespace Go.Proofs.YtbhgmfddjnkglaaGreatDoor
open Go.RowKit Np Rw Vp Ov



end Go.Proofs.YtbhgmfddjnkglaaGreatDoor

/-
  What order's Sort, Rises and Groups answer.
-/
namespace Go.Proofs.YtbhgmfddjnkglaaGreatDoor
open Go.RowKit Np Rw Vp Ov

end Go.Proofs.YtbhgmfddjnkglaaGreatDoor

/-
  What order's Rises answers.
-/
namespace Go.Proofs.YtbhgmfddjnkglaaGreatDoor
open Go.RowKit Np Rw Vp Ov

end Go.Proofs.YtbhgmfddjnkglaaGreatDoor

/-
  What the document's own Ints and sign are.
-/
namespace Go.Proofs.YtbhgmfddjnkglaaGreatDoor
open Go.RowKit Np Rw Vp Ov


/-- The sign of two, by what is less and what is the same. -/
def sgB (less same : Bool) : Int := if same then 0 else if less then -1 else 1
theorem sgB_int (x y : Int) : sgB (decide (x < y)) (decide (x = y)) = Lib.compareInt x y := by
  unfold sgB Lib.compareInt
  simp only [decide_eq_true_eq]
  (repeat' split) <;> omega
theorem sgB_bytes (a b : List UInt8) : sgB (decide (a < b)) (decide (a = b)) = cmpB a b := by
  have h1 := cmpB_lt a b
  have h2 := cmpB_eq a b
  rcases cmpB_cases a b with h | h | h
  · have h3 := h1.1 h
    have h4 : ¬ a = b := fun e => by rw [h2.2 e] at h; cases h
    simp [sgB, h3, h4, h]
  · rw [h]
    have h3 := h2.1 h
    simp [sgB, h3]
  · have h3 : ¬ a < b := fun e => by rw [h1.2 e] at h; cases h
    have h4 : ¬ a = b := fun e => by rw [h2.2 e] at h; cases h
    simp [sgB, h3, h4, h]
set_option maxHeartbeats 1000000 in
theorem refSign_any (l s : Bool) (w : World) : Calls Tryz.prog 34 #[.bool l, .bool s] w fun e w' => e = .returned (.int .i64 (sgB l s)) ∧ w' = w := by
  cases l <;> cases s
  all_goals
    go_enter Tryz.func34, Tryz.ntmps34
    go_wp2_with fail
    go_ret
    exact ⟨rfl, rfl⟩
end Go.Proofs.YtbhgmfddjnkglaaGreatDoor
