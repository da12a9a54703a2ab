/-
  Plain words on numbers that are written: the worth of figures, how a text is taken apart. No program stands here.
-/
import Derived.Test.YtdgcdemihalefaaGreatDoorNumPlain
namespace Go.Proofs.YtdgcdemihalefaaGreatDoor
namespace Np
open Go.RowKit

/-- The number of some figures. -/
def worth (l : List UInt8) : Nat := l.foldl (fun n c => 10 * n + (c.toNat - 48)) 0
theorem worth_snoc (l : List UInt8) (c : UInt8) : worth (l ++ [c]) = 10 * worth l + (c.toNat - 48) := by simp [worth]
theorem figs_at {l : List UInt8} {k : Nat} (h : figs l = true) (hk : k < l.length) : fig l[k] = true := by
  rw [figs, List.all_eq_true] at h
  exact h _ (List.getElem_mem hk)
theorem figs_take {l : List UInt8} (h : figs l = true) (k : Nat) : figs (l.take k) = true := by
  rw [figs, List.all_eq_true] at h ⊢
  exact fun x hx => h x (List.mem_of_mem_take hx)
theorem worth_lt : ∀ (l : List UInt8), figs l = true → worth l < 10 ^ l.length := by
  intro l
  induction hn : l.length generalizing l with
  | zero => intro _; rw [List.length_eq_zero_iff.1 hn]; decide
  | succ n ih =>
    intro hf
    have hl := List.take_append_getElem (i := n) (l := l) (by omega)
    rw [show n + 1 = l.length by omega, List.take_length] at hl
    have h1 := ih (l.take n) (by simp; omega) (figs_take hf n)
    have h2 := (fig_iff _).1 (figs_at hf (k := n) (by omega))
    rw [← hl, worth_snoc, Nat.pow_succ]
    omega
theorem worth_small (l : List UInt8) (h : l.length ≤ 6) (hf : figs l = true) : worth l < 1000000 :=
  Nat.lt_of_lt_of_le (worth_lt l hf) (Nat.pow_le_pow_right (n := 10) (i := l.length) (j := 6) (by decide) h)

/-- Where figures end. -/
theorem takeWhile_stop : ∀ (l : List UInt8) (j : Nat), j ≤ l.length → figs (l.take j) = true → (∀ h : j < l.length, fig l[j] = false) → l.takeWhile fig = l.take j := by
  intro l
  induction l with
  | nil => intro j hj _ _; simp
  | cons a t ih =>
    intro j hj hf hs
    cases j with
    | zero =>
      have := hs (by simp)
      simp only [List.getElem_cons_zero] at this
      simp [List.takeWhile, this]
    | succ j =>
      simp only [List.take_succ_cons, figs, List.all_cons, Bool.and_eq_true] at hf
      simp only [List.length_cons, Nat.add_le_add_iff_right] at hj
      rw [List.takeWhile_cons, if_pos hf.1, List.take_succ_cons, ih j hj hf.2]
      intro h
      have := hs (by simpa using h)
      simpa using this

/-- Does this byte stand there? -/
def stands (l : List UInt8) (i : Nat) (c : UInt8) : Bool := l[i]? == some c
def run (l : List UInt8) (i : Nat) : List UInt8 := (l.drop i).takeWhile fig
theorem run_le (l : List UInt8) (i : Nat) (h : i ≤ l.length) : i + (run l i).length ≤ l.length := by
  have := (List.takeWhile_sublist fig (l := l.drop i)).length_le
  simp only [List.length_drop] at this
  unfold run; omega
theorem run_figs (l : List UInt8) (i : Nat) : figs (run l i) = true := by
  unfold figs run; exact List.all_takeWhile
theorem stands_lt {l : List UInt8} {i : Nat} {c : UInt8} (h : stands l i c = true) : i < l.length := by
  unfold stands at h
  rw [beq_iff_eq] at h
  exact (List.getElem?_eq_some_iff.1 h).1

/-- A number as it is written, taken apart: places, figures, and whether it can't go on. -/
def i0F (l : List UInt8) : Nat := if stands l 0 45 = true then 1 else 0
def wholeF (l : List UInt8) : List UInt8 := if stands l (i0F l) 48 = true then [] else run l (i0F l)
def i1F (l : List UInt8) : Nat := if stands l (i0F l) 48 = true then i0F l + 1 else i0F l + (run l (i0F l)).length
def bad1 (l : List UInt8) : Bool := !stands l (i0F l) 48 && (run l (i0F l)).isEmpty
def partF (l : List UInt8) : List UInt8 := if stands l (i1F l) 46 = true then run l (i1F l + 1) else []
def i3F (l : List UInt8) : Nat := if stands l (i1F l) 46 = true then i1F l + 1 + (run l (i1F l + 1)).length else i1F l
def bad2 (l : List UInt8) : Bool := stands l (i1F l) 46 && (run l (i1F l + 1)).isEmpty
def exF (l : List UInt8) : Bool := stands l (i3F l) 101 || stands l (i3F l) 69
def plusF (l : List UInt8) : Bool := stands l (i3F l + 1) 43
def lessF (l : List UInt8) : Bool := stands l (i3F l + 1) 45
def downF (l : List UInt8) : Bool := exF l && !plusF l && lessF l
def i5F (l : List UInt8) : Nat := if exF l = true then (if (plusF l || lessF l) = true then i3F l + 2 else i3F l + 1) else i3F l
def powF (l : List UInt8) : List UInt8 := if exF l = true then run l (i5F l) else []
def i6F (l : List UInt8) : Nat := i5F l + (powF l).length
def bad3 (l : List UInt8) : Bool := exF l && (powF l).isEmpty
structure Wr where
  neg : Bool
  whole : List UInt8
  part : List UInt8
  down : Bool
  power : List UInt8
def wr0 : Wr := ⟨false, [], [], false, []⟩
def scanF (l : List UInt8) : Wr × Nat × Bool :=
  if bad1 l = true then (wr0, i0F l, false) else if bad2 l = true then (wr0, i1F l + 1, false) else if bad3 l = true then (wr0, i5F l, false)
  else (⟨stands l 0 45, wholeF l, partF l, downF l, powF l⟩, i6F l, i6F l == l.length)
theorem at1_no {l : List UInt8} (h : stands l (i0F l) 48 = false) : bad1 l = (run l (i0F l)).isEmpty ∧ wholeF l = run l (i0F l) ∧ i1F l = i0F l + (run l (i0F l)).length := by
  refine ⟨by simp [bad1, h], by simp [wholeF, h], by simp [i1F, h]⟩
theorem at1_yes {l : List UInt8} (h : stands l (i0F l) 48 = true) : bad1 l = false ∧ wholeF l = [] ∧ i1F l = i0F l + 1 := by
  refine ⟨by simp [bad1, h], by simp [wholeF, h], by simp [i1F, h]⟩
theorem at2_no {l : List UInt8} (h : stands l (i1F l) 46 = false) : bad2 l = false ∧ partF l = [] ∧ i3F l = i1F l := by
  refine ⟨by simp [bad2, h], by simp [partF, h], by simp [i3F, h]⟩
theorem at2_yes {l : List UInt8} (h : stands l (i1F l) 46 = true) : bad2 l = (run l (i1F l + 1)).isEmpty ∧ partF l = run l (i1F l + 1) ∧ i3F l = i1F l + 1 + (run l (i1F l + 1)).length := by
  refine ⟨by simp [bad2, h], by simp [partF, h], by simp [i3F, h]⟩
theorem at3_no {l : List UInt8} (h : exF l = false) : bad3 l = false ∧ downF l = false ∧ powF l = [] ∧ i6F l = i3F l := by
  refine ⟨by simp [bad3, h], by simp [downF, h], by simp [powF, h], by simp [i6F, powF, i5F, h]⟩
theorem at3_yes {l : List UInt8} (h : exF l = true) : bad3 l = (run l (i5F l)).isEmpty ∧ powF l = run l (i5F l) ∧ i6F l = i5F l + (run l (i5F l)).length := by
  refine ⟨by simp [bad3, powF, h], by simp [powF, h], by simp [i6F, powF, h]⟩
theorem at5_plus {l : List UInt8} (h : exF l = true) (h2 : stands l (i3F l + 1) 43 = true) : downF l = false ∧ i5F l = i3F l + 1 + 1 := by
  refine ⟨by simp [downF, plusF, h2], by simp [i5F, plusF, h, h2]⟩
theorem at5_rest {l : List UInt8} (h : exF l = true) (h2 : stands l (i3F l + 1) 43 = false) : downF l = stands l (i3F l + 1) 45 ∧ i5F l = (if stands l (i3F l + 1) 45 then i3F l + 1 + 1 else i3F l + 1) := by
  refine ⟨by simp [downF, plusF, lessF, h, h2], by simp [i5F, plusF, lessF, h, h2]⟩
theorem scanF_1 {l : List UInt8} (h : bad1 l = true) : scanF l = (wr0, i0F l, false) := by rw [scanF, if_pos h]
theorem scanF_2 {l : List UInt8} (h : bad1 l = false) (h2 : bad2 l = true) : scanF l = (wr0, i1F l + 1, false) := by rw [scanF, if_neg (by rw [h]; decide), if_pos h2]
theorem scanF_3 {l : List UInt8} (h : bad1 l = false) (h2 : bad2 l = false) (h3 : bad3 l = true) : scanF l = (wr0, i5F l, false) := by
  rw [scanF, if_neg (by rw [h]; decide), if_neg (by rw [h2]; decide), if_pos h3]
theorem scanF_4 {l : List UInt8} (h : bad1 l = false) (h2 : bad2 l = false) (h3 : bad3 l = false) : scanF l = (⟨stands l 0 45, wholeF l, partF l, downF l, powF l⟩, i6F l, i6F l == l.length) := by
  rw [scanF, if_neg (by rw [h]; decide), if_neg (by rw [h2]; decide), if_neg (by rw [h3]; decide)]
theorem i0F_le (l : List UInt8) : i0F l ≤ l.length := by
  unfold i0F; split
  · rename_i h; exact stands_lt h
  · omega
theorem i1F_le (l : List UInt8) : i1F l ≤ l.length := by
  unfold i1F; split
  · rename_i h; exact stands_lt h
  · exact run_le _ _ (i0F_le l)
theorem i3F_le (l : List UInt8) : i3F l ≤ l.length := by
  unfold i3F; split
  · rename_i h; exact run_le _ _ (stands_lt h)
  · exact i1F_le l
theorem i5F_le (l : List UInt8) : i5F l ≤ l.length := by
  unfold i5F; split
  · rename_i h
    have hlt : i3F l < l.length := by
      unfold exF at h
      rw [Bool.or_eq_true] at h
      rcases h with h | h <;> exact stands_lt h
    split
    · rename_i h2
      rw [Bool.or_eq_true] at h2
      rcases h2 with h2 | h2 <;> exact stands_lt h2
    · exact hlt
  · exact i3F_le l
theorem i6F_le (l : List UInt8) : i6F l ≤ l.length := by
  unfold i6F powF; split
  · exact run_le _ _ (i5F_le l)
  · simp; exact i5F_le l

end Np
end Go.Proofs.YtdgcdemihalefaaGreatDoor
