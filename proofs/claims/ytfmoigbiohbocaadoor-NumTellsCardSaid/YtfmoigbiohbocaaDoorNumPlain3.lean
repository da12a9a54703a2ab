/-
  Plain words on numbers that are written: the number that a text is written as. No program stands here.
-/
import Derived.Test.YtfmoigbiohbocaaDoorNumPlain2
namespace Go.Proofs.YtfmoigbiohbocaaDoor
namespace Np
open Go.RowKit

/-- The number that a text is written as, where it can't go on, and how that ends. -/
def powOf (r : Wr) : Int := if r.down = true then -(worth (Lib.trimLeftB r.power 48) : Int) else (worth (Lib.trimLeftB r.power 48) : Int)
def mkW (r : Wr) : Nd × Int := mk r.neg (r.whole ++ r.part) (powOf r - r.part.length)
def readF (l : List UInt8) : Nd × Int × Int :=
  if (scanF l).2.2 = false then (nd0, (scanF l).2.1, 1) else if 6 < (Lib.trimLeftB (scanF l).1.power 48).length then (nd0, 0, 2) else ((mkW (scanF l).1).1, 0, (mkW (scanF l).1).2)
theorem scanF_figs (l : List UInt8) : figs (scanF l).1.whole = true ∧ figs (scanF l).1.part = true ∧ figs (scanF l).1.power = true := by
  unfold scanF
  split
  · exact ⟨rfl, rfl, rfl⟩
  split
  · exact ⟨rfl, rfl, rfl⟩
  split
  · exact ⟨rfl, rfl, rfl⟩
  refine ⟨?_, ?_, ?_⟩
  · show figs (wholeF l) = true
    unfold wholeF; split
    · rfl
    · exact run_figs _ _
  · show figs (partF l) = true
    unfold partF; split
    · exact run_figs _ _
    · rfl
  · show figs (powF l) = true
    unfold powF; split
    · exact run_figs _ _
    · rfl
theorem run_len (l : List UInt8) (i : Nat) : (run l i).length ≤ l.length := by
  have := (List.takeWhile_sublist fig (l := l.drop i)).length_le
  simp only [List.length_drop] at this
  unfold run; omega
theorem scanF_len (l : List UInt8) : (scanF l).1.whole.length ≤ l.length ∧ (scanF l).1.part.length ≤ l.length ∧ (scanF l).1.power.length ≤ l.length := by
  unfold scanF
  split
  · exact ⟨Nat.zero_le _, Nat.zero_le _, Nat.zero_le _⟩
  split
  · exact ⟨Nat.zero_le _, Nat.zero_le _, Nat.zero_le _⟩
  split
  · exact ⟨Nat.zero_le _, Nat.zero_le _, Nat.zero_le _⟩
  refine ⟨?_, ?_, ?_⟩
  · show (wholeF l).length ≤ _
    unfold wholeF; split
    · exact Nat.zero_le _
    · exact run_len _ _
  · show (partF l).length ≤ _
    unfold partF; split
    · exact run_len _ _
    · exact Nat.zero_le _
  · show (powF l).length ≤ _
    unfold powF; split
    · exact run_len _ _
    · exact Nat.zero_le _
theorem figs_trimLeft {l : List UInt8} (h : figs l = true) : figs (Lib.trimLeftB l 48) = true := by
  rw [figs, List.all_eq_true] at h ⊢
  exact fun x hx => h x ((List.dropWhile_suffix _).subset hx)

theorem readF_form {l : List UInt8} {r : Wr} {i : Nat} (h : scanF l = (r, i, false)) : readF l = (nd0, (i : Int), 1) := by rw [readF, h]; rfl
theorem readF_large {l : List UInt8} {r : Wr} {i : Nat} (h : scanF l = (r, i, true)) (h6 : 6 < (Lib.trimLeftB r.power 48).length) : readF l = (nd0, 0, 2) := by
  rw [readF, h, if_neg (by simp), if_pos h6]
theorem readF_ok {l : List UInt8} {r : Wr} {i : Nat} (h : scanF l = (r, i, true)) (h6 : ¬ 6 < (Lib.trimLeftB r.power 48).length) : readF l = ((mkW r).1, 0, (mkW r).2) := by
  rw [readF, h, if_neg (by simp), if_neg h6]

end Np
end Go.Proofs.YtfmoigbiohbocaaDoor
