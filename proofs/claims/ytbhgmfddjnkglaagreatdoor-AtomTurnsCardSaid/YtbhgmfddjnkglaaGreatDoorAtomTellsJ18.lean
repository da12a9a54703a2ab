/-
  Joined: NumPlain2, NumPlain3, NumPlain7, NumPlain8, NumPlain9, NumPlain4, NumPlain10, NumPlain11, NumPlain12, NumPlain13.
-/
import Derived.Test.YtbhgmfddjnkglaaGreatDoorNumPlain
import Derived.Test.YtbhgmfddjnkglaaGreatDoorAtomTellsJ3
import Derived.Lib.Repeat
import Derived.Lib.ItoaNum
import Derived.Lib.ItoaLen
import Derived.Test.YtbhgmfddjnkglaaGreatDoorAtomTellsJ1

/-
  Plain words on numbers that are written: the worth of figures, how a text is taken apart. No program stands here.
-/
namespace Go.Proofs.YtbhgmfddjnkglaaGreatDoor
namespace Np
open Go.RowKit

/-- The number of some figures. -/
def worth (l : List UInt8) : Nat := l.foldl (fun n c => 10 * n + (c.toNat - 48)) 0
theorem worth_snoc (l : List UInt8) (c : UInt8) : worth (l ++ [c]) = 10 * worth l + (c.toNat - 48) := by simp [worth]
theorem figs_at {l : List UInt8} {k : Nat} (h : figs l = true) (hk : k < l.length) : fig l[k] = true := by
  rw [figs, List.all_eq_true] at h
  exact h _ (List.getElem_mem hk)
theorem figs_take {l : List UInt8} (h : figs l = true) (k : Nat) : figs (l.take k) = true := by
  rw [figs, List.all_eq_true] at h ⊢
  exact fun x hx => h x (List.mem_of_mem_take hx)
theorem worth_lt : ∀ (l : List UInt8), figs l = true → worth l < 10 ^ l.length := by
  intro l
  induction hn : l.length generalizing l with
  | zero => intro _; rw [List.length_eq_zero_iff.1 hn]; decide
  | succ n ih =>
    intro hf
    have hl := List.take_append_getElem (i := n) (l := l) (by omega)
    rw [show n + 1 = l.length by omega, List.take_length] at hl
    have h1 := ih (l.take n) (by simp; omega) (figs_take hf n)
    have h2 := (fig_iff _).1 (figs_at hf (k := n) (by omega))
    rw [← hl, worth_snoc, Nat.pow_succ]
    omega
theorem worth_small (l : List UInt8) (h : l.length ≤ 6) (hf : figs l = true) : worth l < 1000000 :=
  Nat.lt_of_lt_of_le (worth_lt l hf) (Nat.pow_le_pow_right (n := 10) (i := l.length) (j := 6) (by decide) h)

/-- Where figures end. -/
theorem takeWhile_stop : ∀ (l : List UInt8) (j : Nat), j ≤ l.length → figs (l.take j) = true → (∀ h : j < l.length, fig l[j] = false) → l.takeWhile fig = l.take j := by
  intro l
  induction l with
  | nil => intro j hj _ _; simp
  | cons a t ih =>
    intro j hj hf hs
    cases j with
    | zero =>
      have := hs (by simp)
      simp only [List.getElem_cons_zero] at this
      simp [List.takeWhile, this]
    | succ j =>
      simp only [List.take_succ_cons, figs, List.all_cons, Bool.and_eq_true] at hf
      simp only [List.length_cons, Nat.add_le_add_iff_right] at hj
      rw [List.takeWhile_cons, if_pos hf.1, List.take_succ_cons, ih j hj hf.2]
      intro h
      have := hs (by simpa using h)
      simpa using this

/-- Does this byte stand there? -/
def stands (l : List UInt8) (i : Nat) (c : UInt8) : Bool := l[i]? == some c
def run (l : List UInt8) (i : Nat) : List UInt8 := (l.drop i).takeWhile fig
theorem run_le (l : List UInt8) (i : Nat) (h : i ≤ l.length) : i + (run l i).length ≤ l.length := by
  have := (List.takeWhile_sublist fig (l := l.drop i)).length_le
  simp only [List.length_drop] at this
  unfold run; omega
theorem run_figs (l : List UInt8) (i : Nat) : figs (run l i) = true := by
  unfold figs run; exact List.all_takeWhile
theorem stands_lt {l : List UInt8} {i : Nat} {c : UInt8} (h : stands l i c = true) : i < l.length := by
  unfold stands at h
  rw [beq_iff_eq] at h
  exact (List.getElem?_eq_some_iff.1 h).1

/-- A number as it is written, taken apart: places, figures, and whether it can't go on. -/
def i0F (l : List UInt8) : Nat := if stands l 0 45 = true then 1 else 0
def wholeF (l : List UInt8) : List UInt8 := if stands l (i0F l) 48 = true then [] else run l (i0F l)
def i1F (l : List UInt8) : Nat := if stands l (i0F l) 48 = true then i0F l + 1 else i0F l + (run l (i0F l)).length
def bad1 (l : List UInt8) : Bool := !stands l (i0F l) 48 && (run l (i0F l)).isEmpty
def partF (l : List UInt8) : List UInt8 := if stands l (i1F l) 46 = true then run l (i1F l + 1) else []
def i3F (l : List UInt8) : Nat := if stands l (i1F l) 46 = true then i1F l + 1 + (run l (i1F l + 1)).length else i1F l
def bad2 (l : List UInt8) : Bool := stands l (i1F l) 46 && (run l (i1F l + 1)).isEmpty
def exF (l : List UInt8) : Bool := stands l (i3F l) 101 || stands l (i3F l) 69
def plusF (l : List UInt8) : Bool := stands l (i3F l + 1) 43
def lessF (l : List UInt8) : Bool := stands l (i3F l + 1) 45
def downF (l : List UInt8) : Bool := exF l && !plusF l && lessF l
def i5F (l : List UInt8) : Nat := if exF l = true then (if (plusF l || lessF l) = true then i3F l + 2 else i3F l + 1) else i3F l
def powF (l : List UInt8) : List UInt8 := if exF l = true then run l (i5F l) else []
def i6F (l : List UInt8) : Nat := i5F l + (powF l).length
def bad3 (l : List UInt8) : Bool := exF l && (powF l).isEmpty
structure Wr where
  neg : Bool
  whole : List UInt8
  part : List UInt8
  down : Bool
  power : List UInt8
def wr0 : Wr := ⟨false, [], [], false, []⟩
def scanF (l : List UInt8) : Wr × Nat × Bool :=
  if bad1 l = true then (wr0, i0F l, false) else if bad2 l = true then (wr0, i1F l + 1, false) else if bad3 l = true then (wr0, i5F l, false)
  else (⟨stands l 0 45, wholeF l, partF l, downF l, powF l⟩, i6F l, i6F l == l.length)
theorem at1_no {l : List UInt8} (h : stands l (i0F l) 48 = false) : bad1 l = (run l (i0F l)).isEmpty ∧ wholeF l = run l (i0F l) ∧ i1F l = i0F l + (run l (i0F l)).length := by
  refine ⟨by simp [bad1, h], by simp [wholeF, h], by simp [i1F, h]⟩
theorem at1_yes {l : List UInt8} (h : stands l (i0F l) 48 = true) : bad1 l = false ∧ wholeF l = [] ∧ i1F l = i0F l + 1 := by
  refine ⟨by simp [bad1, h], by simp [wholeF, h], by simp [i1F, h]⟩
theorem at2_no {l : List UInt8} (h : stands l (i1F l) 46 = false) : bad2 l = false ∧ partF l = [] ∧ i3F l = i1F l := by
  refine ⟨by simp [bad2, h], by simp [partF, h], by simp [i3F, h]⟩
theorem at2_yes {l : List UInt8} (h : stands l (i1F l) 46 = true) : bad2 l = (run l (i1F l + 1)).isEmpty ∧ partF l = run l (i1F l + 1) ∧ i3F l = i1F l + 1 + (run l (i1F l + 1)).length := by
  refine ⟨by simp [bad2, h], by simp [partF, h], by simp [i3F, h]⟩
theorem at3_no {l : List UInt8} (h : exF l = false) : bad3 l = false ∧ downF l = false ∧ powF l = [] ∧ i6F l = i3F l := by
  refine ⟨by simp [bad3, h], by simp [downF, h], by simp [powF, h], by simp [i6F, powF, i5F, h]⟩
theorem at3_yes {l : List UInt8} (h : exF l = true) : bad3 l = (run l (i5F l)).isEmpty ∧ powF l = run l (i5F l) ∧ i6F l = i5F l + (run l (i5F l)).length := by
  refine ⟨by simp [bad3, powF, h], by simp [powF, h], by simp [i6F, powF, h]⟩
theorem at5_plus {l : List UInt8} (h : exF l = true) (h2 : stands l (i3F l + 1) 43 = true) : downF l = false ∧ i5F l = i3F l + 1 + 1 := by
  refine ⟨by simp [downF, plusF, h2], by simp [i5F, plusF, h, h2]⟩
theorem at5_rest {l : List UInt8} (h : exF l = true) (h2 : stands l (i3F l + 1) 43 = false) : downF l = stands l (i3F l + 1) 45 ∧ i5F l = (if stands l (i3F l + 1) 45 then i3F l + 1 + 1 else i3F l + 1) := by
  refine ⟨by simp [downF, plusF, lessF, h, h2], by simp [i5F, plusF, lessF, h, h2]⟩
theorem scanF_1 {l : List UInt8} (h : bad1 l = true) : scanF l = (wr0, i0F l, false) := by rw [scanF, if_pos h]
theorem scanF_2 {l : List UInt8} (h : bad1 l = false) (h2 : bad2 l = true) : scanF l = (wr0, i1F l + 1, false) := by rw [scanF, if_neg (by rw [h]; decide), if_pos h2]
theorem scanF_3 {l : List UInt8} (h : bad1 l = false) (h2 : bad2 l = false) (h3 : bad3 l = true) : scanF l = (wr0, i5F l, false) := by
  rw [scanF, if_neg (by rw [h]; decide), if_neg (by rw [h2]; decide), if_pos h3]
theorem scanF_4 {l : List UInt8} (h : bad1 l = false) (h2 : bad2 l = false) (h3 : bad3 l = false) : scanF l = (⟨stands l 0 45, wholeF l, partF l, downF l, powF l⟩, i6F l, i6F l == l.length) := by
  rw [scanF, if_neg (by rw [h]; decide), if_neg (by rw [h2]; decide), if_neg (by rw [h3]; decide)]
theorem i0F_le (l : List UInt8) : i0F l ≤ l.length := by
  unfold i0F; split
  · rename_i h; exact stands_lt h
  · omega
theorem i1F_le (l : List UInt8) : i1F l ≤ l.length := by
  unfold i1F; split
  · rename_i h; exact stands_lt h
  · exact run_le _ _ (i0F_le l)
theorem i3F_le (l : List UInt8) : i3F l ≤ l.length := by
  unfold i3F; split
  · rename_i h; exact run_le _ _ (stands_lt h)
  · exact i1F_le l
theorem i5F_le (l : List UInt8) : i5F l ≤ l.length := by
  unfold i5F; split
  · rename_i h
    have hlt : i3F l < l.length := by
      unfold exF at h
      rw [Bool.or_eq_true] at h
      rcases h with h | h <;> exact stands_lt h
    split
    · rename_i h2
      rw [Bool.or_eq_true] at h2
      rcases h2 with h2 | h2 <;> exact stands_lt h2
    · exact hlt
  · exact i3F_le l
theorem i6F_le (l : List UInt8) : i6F l ≤ l.length := by
  unfold i6F powF; split
  · exact run_le _ _ (i5F_le l)
  · simp; exact i5F_le l

end Np
end Go.Proofs.YtbhgmfddjnkglaaGreatDoor

/-
  Plain words on numbers that are written: the number that a text is written as. No program stands here.
-/
namespace Go.Proofs.YtbhgmfddjnkglaaGreatDoor
namespace Np
open Go.RowKit

/-- The number that a text is written as, where it can't go on, and how that ends. -/
def powOf (r : Wr) : Int := if r.down = true then -(worth (Lib.trimLeftB r.power 48) : Int) else (worth (Lib.trimLeftB r.power 48) : Int)
def mkW (r : Wr) : Nd × Int := mk r.neg (r.whole ++ r.part) (powOf r - r.part.length)
def readF (l : List UInt8) : Nd × Int × Int :=
  if (scanF l).2.2 = false then (nd0, (scanF l).2.1, 1) else if 6 < (Lib.trimLeftB (scanF l).1.power 48).length then (nd0, 0, 2) else ((mkW (scanF l).1).1, 0, (mkW (scanF l).1).2)
theorem scanF_figs (l : List UInt8) : figs (scanF l).1.whole = true ∧ figs (scanF l).1.part = true ∧ figs (scanF l).1.power = true := by
  unfold scanF
  split
  · exact ⟨rfl, rfl, rfl⟩
  split
  · exact ⟨rfl, rfl, rfl⟩
  split
  · exact ⟨rfl, rfl, rfl⟩
  refine ⟨?_, ?_, ?_⟩
  · show figs (wholeF l) = true
    unfold wholeF; split
    · rfl
    · exact run_figs _ _
  · show figs (partF l) = true
    unfold partF; split
    · exact run_figs _ _
    · rfl
  · show figs (powF l) = true
    unfold powF; split
    · exact run_figs _ _
    · rfl
theorem run_len (l : List UInt8) (i : Nat) : (run l i).length ≤ l.length := by
  have := (List.takeWhile_sublist fig (l := l.drop i)).length_le
  simp only [List.length_drop] at this
  unfold run; omega
theorem scanF_len (l : List UInt8) : (scanF l).1.whole.length ≤ l.length ∧ (scanF l).1.part.length ≤ l.length ∧ (scanF l).1.power.length ≤ l.length := by
  unfold scanF
  split
  · exact ⟨Nat.zero_le _, Nat.zero_le _, Nat.zero_le _⟩
  split
  · exact ⟨Nat.zero_le _, Nat.zero_le _, Nat.zero_le _⟩
  split
  · exact ⟨Nat.zero_le _, Nat.zero_le _, Nat.zero_le _⟩
  refine ⟨?_, ?_, ?_⟩
  · show (wholeF l).length ≤ _
    unfold wholeF; split
    · exact Nat.zero_le _
    · exact run_len _ _
  · show (partF l).length ≤ _
    unfold partF; split
    · exact run_len _ _
    · exact Nat.zero_le _
  · show (powF l).length ≤ _
    unfold powF; split
    · exact run_len _ _
    · exact Nat.zero_le _
theorem figs_trimLeft {l : List UInt8} (h : figs l = true) : figs (Lib.trimLeftB l 48) = true := by
  rw [figs, List.all_eq_true] at h ⊢
  exact fun x hx => h x ((List.dropWhile_suffix _).subset hx)

theorem readF_form {l : List UInt8} {r : Wr} {i : Nat} (h : scanF l = (r, i, false)) : readF l = (nd0, (i : Int), 1) := by rw [readF, h]; rfl
theorem readF_large {l : List UInt8} {r : Wr} {i : Nat} (h : scanF l = (r, i, true)) (h6 : 6 < (Lib.trimLeftB r.power 48).length) : readF l = (nd0, 0, 2) := by
  rw [readF, h, if_neg (by simp), if_pos h6]
theorem readF_ok {l : List UInt8} {r : Wr} {i : Nat} (h : scanF l = (r, i, true)) (h6 : ¬ 6 < (Lib.trimLeftB r.power 48).length) : readF l = ((mkW r).1, 0, (mkW r).2) := by
  rw [readF, h, if_neg (by simp), if_neg h6]

end Np
end Go.Proofs.YtbhgmfddjnkglaaGreatDoor

/-
  Plain words: where a number's figures end, in the document's words. No program stands here.
-/
namespace Go.Proofs.YtbhgmfddjnkglaaGreatDoor
namespace Np
open Go.RowKit

theorem run_at {l : List UInt8} {i : Nat} (h : stands l i 48 = true) : (run l i).isEmpty = false := by
  have hlt := stands_lt h
  unfold stands at h
  rw [List.getElem?_eq_getElem hlt] at h
  have h48 : l[i] = 48 := by simpa using h
  unfold run
  rw [List.drop_eq_getElem_cons hlt, List.takeWhile_cons, if_pos (by rw [h48]; decide)]
  rfl
theorem bad1_run (l : List UInt8) : bad1 l = (run l (i0F l)).isEmpty := by
  unfold bad1
  cases h : stands l (i0F l) 48
  · simp
  · simp [run_at h]

end Np
end Go.Proofs.YtbhgmfddjnkglaaGreatDoor

/-
  Plain words: a nought ahead makes no other number. No program stands here.
-/
namespace Go.Proofs.YtbhgmfddjnkglaaGreatDoor
namespace Np
open Go.RowKit

theorem mk_nought_ahead (g : Bool) (f : List UInt8) (e : Int) : mk g (48 :: f) e = mk g f e := by
  have h1 : figs (48 :: f) = figs f := by simp [figs, show fig 48 = true by decide]
  have h2 : Lib.trimLeftB (48 :: f) 48 = Lib.trimLeftB f 48 := by simp [Lib.trimLeftB]
  unfold mk mkN
  rw [h1, h2]
/-- The figures ahead of the point, with a nought that leads. -/
def aheadF (l : List UInt8) : List UInt8 := (l.drop (i0F l)).take (i1F l - i0F l)
theorem aheadF_eq (l : List UInt8) : aheadF l = wholeF l ∨ aheadF l = 48 :: wholeF l := by
  unfold aheadF
  cases h : stands l (i0F l) 48
  · obtain ⟨_, e2, e3⟩ := at1_no h
    left
    rw [e2, e3, Nat.add_sub_cancel_left]
    exact (List.prefix_iff_eq_take.1 (List.takeWhile_prefix fig)).symm
  · obtain ⟨_, e2, e3⟩ := at1_yes h
    right
    have hlt := stands_lt h
    unfold stands at h
    rw [List.getElem?_eq_getElem hlt] at h
    have h48 : l[i0F l] = 48 := by simpa using h
    rw [e2, e3, Nat.add_sub_cancel_left, List.drop_eq_getElem_cons hlt, h48]
    rfl
theorem mk_ahead (g : Bool) (l p : List UInt8) (e : Int) : mk g (aheadF l ++ p) e = mk g (wholeF l ++ p) e := by
  rcases aheadF_eq l with h | h
  · rw [h]
  · rw [h, List.cons_append, mk_nought_ahead]

theorem read_short {l : List UInt8} (h1 : bad1 l = false) (h2 : bad2 l = false) (h : i6F l < l.length) : readF l = (nd0, (i6F l : Int), 1) := by
  cases h3 : bad3 l
  · have e := scanF_4 h1 h2 h3
    rw [show (i6F l == l.length) = false by rw [beq_eq_false_iff_ne]; omega] at e
    exact readF_form e
  · have e := readF_form (scanF_3 h1 h2 h3)
    have hp : powF l = [] := by
      unfold bad3 at h3
      rw [Bool.and_eq_true] at h3
      exact List.isEmpty_iff.1 h3.2
    rw [e]; unfold i6F; rw [hp]; simp
theorem read_bad3 {l : List UInt8} (h1 : bad1 l = false) (h2 : bad2 l = false) (h3 : bad3 l = true) : readF l = (nd0, (i6F l : Int), 1) := by
  have e := readF_form (scanF_3 h1 h2 h3)
  have hp : powF l = [] := by
    unfold bad3 at h3
    rw [Bool.and_eq_true] at h3
    exact List.isEmpty_iff.1 h3.2
  rw [e]; unfold i6F; rw [hp]; simp
theorem scan_all {l : List UInt8} (h1 : bad1 l = false) (h2 : bad2 l = false) (h3 : bad3 l = false) (h : i6F l = l.length) : scanF l = (⟨stands l 0 45, wholeF l, partF l, downF l, powF l⟩, i6F l, true) := by
  have e := scanF_4 h1 h2 h3
  rw [show (i6F l == l.length) = true by rw [beq_iff_eq]; exact h] at e
  exact e

end Np
end Go.Proofs.YtbhgmfddjnkglaaGreatDoor

/-
  Plain words: one number, many writings. No program stands here.
-/
namespace Go.Proofs.YtbhgmfddjnkglaaGreatDoor
namespace Np
open Go.RowKit

def noughts (n : Nat) : List UInt8 := List.replicate n 48
theorem mk_noughts_ahead (g : Bool) (f : List UInt8) (e : Int) : ∀ n, mk g (noughts n ++ f) e = mk g f e
  | 0 => rfl
  | n + 1 => by
    rw [show noughts (n + 1) ++ f = 48 :: (noughts n ++ f) by simp [noughts, List.replicate_succ], mk_nought_ahead, mk_noughts_ahead g f e n]
theorem trimLeft_behind (f : List UInt8) (b : Nat) : Lib.trimLeftB (f ++ noughts b) 48 = if Lib.trimLeftB f 48 = [] then [] else Lib.trimLeftB f 48 ++ noughts b := by
  induction f with
  | nil =>
    simp only [Lib.trimLeftB, List.nil_append, List.dropWhile_nil, if_true]
    unfold noughts
    induction b with
    | zero => rfl
    | succ b ih => rw [List.replicate_succ, List.dropWhile_cons_of_pos (by simp)]; exact ih
  | cons c t ih =>
    by_cases hc : c = 48
    · subst hc
      have e1 : Lib.trimLeftB (48 :: t ++ noughts b) 48 = Lib.trimLeftB (t ++ noughts b) 48 := by simp [Lib.trimLeftB]
      have e2 : Lib.trimLeftB (48 :: t) 48 = Lib.trimLeftB t 48 := by simp [Lib.trimLeftB]
      rw [e1, e2, ih]
    · have e1 : Lib.trimLeftB (c :: t ++ noughts b) 48 = c :: t ++ noughts b := by simp [Lib.trimLeftB, hc]
      have e2 : Lib.trimLeftB (c :: t) 48 = c :: t := by simp [Lib.trimLeftB, hc]
      rw [e1, e2, if_neg (by simp)]
theorem trimRight_behind (f : List UInt8) : ∀ b, Lib.trimRightB (f ++ noughts b) 48 = Lib.trimRightB f 48
  | 0 => by simp [noughts]
  | b + 1 => by
    rw [show f ++ noughts (b + 1) = (f ++ noughts b) ++ [48] by simp [noughts, List.replicate_succ']]
    rw [← trimRight_behind f b]
    simp [Lib.trimRightB]
theorem mk_noughts_behind (g : Bool) (f : List UInt8) (e : Int) (b : Nat) : mk g (f ++ noughts b) (e - b) = mk g f e := by
  have hfi : figs (f ++ noughts b) = figs f := by simp [figs, noughts, show fig 48 = true by decide]
  have hl := trimLeft_behind f b
  by_cases h : Lib.trimLeftB f 48 = []
  · rw [if_pos h] at hl
    unfold mk
    rw [hfi, hl, h]
    rfl
  · rw [if_neg h] at hl
    have hr : Lib.trimRightB (Lib.trimLeftB (f ++ noughts b) 48) 48 = Lib.trimRightB (Lib.trimLeftB f 48) 48 := by rw [hl, trimRight_behind]
    have hN : mkN g (f ++ noughts b) (e - b) = mkN g f e := by
      obtain ⟨t1, t2⟩ := trim_len f
      unfold mkN
      rw [hr, hl]
      congr 1
      rw [List.length_append]
      simp only [noughts, List.length_replicate]
      unfold wrap64
      omega
    unfold mk
    rw [hfi, hN, hl]
    have e1 : (Lib.trimLeftB f 48 ++ noughts b).isEmpty = (Lib.trimLeftB f 48).isEmpty := by
      cases hc : Lib.trimLeftB f 48 with
      | nil => exact absurd hc h
      | cons a t => rfl
    rw [e1]
theorem mk_many (f : List UInt8) (e : Int) (a b : Nat) : mk false (noughts a ++ f ++ noughts b) (e - b) = mk false f e := by
  rw [List.append_assoc, mk_noughts_ahead, mk_noughts_behind false f e b]
theorem run_whole {l : List UInt8} (h : figs l = true) : run l 0 = l := by
  unfold run
  rw [List.drop_zero, takeWhile_stop l l.length (Nat.le_refl _) (by rw [List.take_length]; exact h) (fun hh => absurd hh (by omega)), List.take_length]
theorem stands_fig {l : List UInt8} {i : Nat} {c : UInt8} (h : figs l = true) (hc : fig c = false) : stands l i c = false := by
  cases hs : stands l i c
  · rfl
  · have hlt := stands_lt hs
    unfold stands at hs
    rw [List.getElem?_eq_getElem hlt] at hs
    have e : l[i] = c := by simpa using hs
    have := figs_at h hlt
    rw [e, hc] at this; cases this
theorem stands_end (l : List UInt8) (c : UInt8) : stands l l.length c = false := by
  cases hs : stands l l.length c
  · rfl
  · exact absurd (stands_lt hs) (by omega)
/-- Figures alone, read, are that number; or they are none, as a nought leads them. -/
theorem read_plain {l : List UInt8} (h : figs l = true) (hne : l ≠ []) : (readF l = ((mk false l 0).1, 0, (mk false l 0).2)) ∨ (readF l).2.2 = 1 := by
  have h45 : stands l 0 45 = false := stands_fig h (by decide)
  have hi0 : i0F l = 0 := by simp [i0F, h45]
  have h46 : ∀ i, stands l i 46 = false := fun i => stands_fig h (by decide)
  have h101 : ∀ i, stands l i 101 = false := fun i => stands_fig h (by decide)
  have h69 : ∀ i, stands l i 69 = false := fun i => stands_fig h (by decide)
  obtain ⟨q1, q2, q3⟩ := at2_no (h46 (i1F l))
  have hx : exF l = false := by simp [exF, h101, h69]
  obtain ⟨r1, r2, r3, r4⟩ := at3_no hx
  cases h48 : stands l (i0F l) 48
  · obtain ⟨p1, p2, p3⟩ := at1_no h48
    rw [hi0, run_whole h] at p1 p2 p3
    have b1 : bad1 l = false := by rw [p1]; cases l with | nil => exact absurd rfl hne | cons a t => rfl
    have e := scan_all b1 q1 r1 (by rw [r4, q3, p3]; omega)
    left
    rw [readF_ok e (by rw [r3]; simp [Lib.trimLeftB])]
    have : mkW ⟨stands l 0 45, wholeF l, partF l, downF l, powF l⟩ = mk false l 0 := by
      show mk _ _ (powOf _ - _) = _
      rw [h45, p2, q2, List.append_nil]
      unfold powOf
      rw [r2, r3]
      rfl
    rw [this]
  · obtain ⟨p1, p2, p3⟩ := at1_yes h48
    rw [hi0] at p3 h48
    by_cases hl : l.length = 1
    · have e := scan_all p1 q1 r1 (by rw [r4, q3, p3, hl])
      left
      rw [readF_ok e (by rw [r3]; simp [Lib.trimLeftB])]
      have hl48 : l = [48] := by
        match l, hl, h48 with
        | [a], _, h48 =>
          unfold stands at h48
          simp at h48
          rw [h48]
      have : mkW ⟨stands l 0 45, wholeF l, partF l, downF l, powF l⟩ = mk false l 0 := by
        show mk _ _ (powOf _ - _) = _
        rw [h45, p2, q2, List.append_nil]
        unfold powOf
        rw [r2, r3, hl48]
        decide
      rw [this]
    · right
      have hlt := stands_lt h48
      rw [read_short p1 q1 (by rw [r4, q3, p3]; omega)]

end Np
end Go.Proofs.YtbhgmfddjnkglaaGreatDoor

/-
  Plain words on numbers: a number's text. No program stands here.
-/
namespace Go.Proofs.YtbhgmfddjnkglaaGreatDoor
namespace Np
open Go.RowKit

/-- Figures with so many behind the point. -/
def padF (f : List UInt8) (b : Nat) : List UInt8 := Lib.repeatL [48] (b + 1 - f.length) ++ f
def pointF (f : List UInt8) (b : Nat) : List UInt8 := (padF f b).take ((padF f b).length - b) ++ 46 :: (padF f b).drop ((padF f b).length - b)
def printS (f : List UInt8) (e : Int) : List UInt8 :=
  if f.isEmpty = true then [48] else if 0 ≤ e ∧ e ≤ 20 - f.length then f ++ Lib.repeatL [48] e.toNat
  else if -20 ≤ e ∧ e ≤ -1 then pointF f (-e).toNat else f ++ 101 :: Lib.itoa e
def printN (f : List UInt8) (g : Bool) (e : Int) : List UInt8 := if g = true then 45 :: printS f e else printS f e
theorem padF_long {f : List UInt8} {b : Nat} (h : b < f.length) : padF f b = f := by
  unfold padF; rw [show b + 1 - f.length = 0 by omega]; rfl
theorem padF_len (f : List UInt8) (b : Nat) : b < (padF f b).length := by
  unfold padF; rw [List.length_append, Lib.repeatL_length]; simp; omega
theorem padF_le (f : List UInt8) (b : Nat) : (padF f b).length ≤ f.length + b + 1 := by
  unfold padF; rw [List.length_append, Lib.repeatL_length]; simp; omega

theorem printS_len (f : List UInt8) (e : Int) (hf : f.length ≤ 1000000) (he : -1000000 ≤ e) (he2 : e ≤ 1000000) : (printS f e).length ≤ 1000100 := by
  unfold printS
  split
  · simp
  split
  · rw [List.length_append, Lib.repeatL_length]; simp; omega
  split
  · have h := padF_le f (-e).toNat
    have h2 := padF_len f (-e).toNat
    unfold pointF
    simp only [List.length_append, List.length_take, List.length_cons, List.length_drop]
    omega
  · have := Lib.itoa_length_le e (by omega) (by omega)
    simp only [List.length_append, List.length_cons]
    omega

end Np
end Go.Proofs.YtbhgmfddjnkglaaGreatDoor

/-
  Plain words: a number's text is read as it was printed. No program stands here.
-/
namespace Go.Proofs.YtbhgmfddjnkglaaGreatDoor
namespace Np
open Go.RowKit

theorem stands_drop {l R : List UInt8} {i : Nat} (h : l.drop i = R) (c : UInt8) : stands l i c = (R.head? == some c) := by
  unfold stands; rw [← h, List.head?_drop]
theorem run_drop {l R : List UInt8} {i : Nat} (h : l.drop i = R) : run l i = R.takeWhile fig := by unfold run; rw [h]
theorem drop_more {l A B : List UInt8} {i : Nat} (h : l.drop i = A ++ B) : l.drop (i + A.length) = B := by
  rw [← List.drop_drop, h, List.drop_left]
theorem takeWhile_figs {A B : List UInt8} (h : figs A = true) (hB : ∀ c, B.head? = some c → fig c = false) : (A ++ B).takeWhile fig = A := by
  have e : B.takeWhile fig = [] := by
    cases B with
    | nil => rfl
    | cons c t => simp [hB c rfl]
  rw [List.takeWhile_append_of_pos (by unfold figs at h; rw [List.all_eq_true] at h; exact h), e, List.append_nil]
/-- How a number is written. -/
structure Txt where
  g : Bool
  W : List UInt8
  dot : Bool
  P : List UInt8
  ex : Bool
  neg : Bool
  D : List UInt8
def Txt.exp (t : Txt) : List UInt8 := if t.ex = true then 101 :: ((if t.neg = true then [45] else []) ++ t.D) else []
def Txt.point (t : Txt) : List UInt8 := if t.dot = true then 46 :: t.P else []
def Txt.sign (t : Txt) : List UInt8 := if t.g = true then [45] else []
def Txt.text (t : Txt) : List UInt8 := t.sign ++ (t.W ++ (t.point ++ t.exp))
structure Txt.Fine (t : Txt) : Prop where
  w : t.W = [48] ∨ (∃ c r, t.W = c :: r ∧ c ≠ 48)
  wf : figs t.W = true
  p : t.dot = true → t.P ≠ []
  p0 : t.dot = false → t.P = []
  pf : figs t.P = true
  d : t.ex = true → t.D ≠ []
  df : figs t.D = true
  d0 : t.ex = false → t.D = [] ∧ t.neg = false
theorem fig_head {l : List UInt8} {c : UInt8} (h : figs l = true) (hc : l.head? = some c) : fig c = true := by
  cases l with
  | nil => cases hc
  | cons a r => simp at hc; subst hc; simp [figs] at h; exact h.1
theorem scan_text {t : Txt} (h : t.Fine) : ∃ wh, (wh = t.W ∨ t.W = 48 :: wh) ∧ scanF t.text = (⟨t.g, wh, t.P, t.neg, t.D⟩, t.text.length, true) := by
  have hWne : t.W ≠ [] := by rcases h.w with e | ⟨c, r, e, _⟩ <;> rw [e] <;> simp
  have hexp : ∀ c, t.exp.head? = some c → c = 101 := by
    intro c hc; unfold Txt.exp at hc; split at hc
    · simpa using hc.symm
    · cases hc
  have hrest : ∀ c, (t.point ++ t.exp).head? = some c → c = 46 ∨ c = 101 := by
    intro c hc
    unfold Txt.point at hc
    split at hc
    · left; simpa using hc.symm
    · right; exact hexp c (by simpa using hc)
  obtain ⟨a, r, hW⟩ : ∃ a r, t.W = a :: r := by cases hw : t.W with | nil => exact absurd hw hWne | cons a r => exact ⟨a, r, rfl⟩
  have ha : fig a = true := fig_head h.wf (by rw [hW]; rfl)
  have d0 : t.text.drop 0 = t.sign ++ (t.W ++ (t.point ++ t.exp)) := rfl
  have s45 : stands t.text 0 45 = t.g := by
    rw [stands_drop d0]
    unfold Txt.sign
    cases t.g
    · rw [hW]; simp; intro e; subst e; cases ha
    · simp
  have i0 : i0F t.text = t.sign.length := by
    unfold i0F; rw [s45]; unfold Txt.sign; cases t.g <;> simp
  have d1 : t.text.drop (i0F t.text) = t.W ++ (t.point ++ t.exp) := by
    rw [i0]; have := drop_more (i := 0) d0; rwa [Nat.zero_add] at this
  have r1 : run t.text (i0F t.text) = t.W := by
    rw [run_drop d1]
    refine takeWhile_figs h.wf (fun c hc => ?_)
    rcases hrest c hc with e | e <;> rw [e] <;> decide
  have b1 : bad1 t.text = false := by rw [bad1_run, r1, hW]; rfl
  have hw1 : (wholeF t.text = t.W ∨ t.W = 48 :: wholeF t.text) ∧ i1F t.text = i0F t.text + t.W.length := by
    cases h48 : stands t.text (i0F t.text) 48
    · obtain ⟨_, e2, e3⟩ := at1_no h48
      rw [r1] at e2 e3
      exact ⟨.inl e2, e3⟩
    · obtain ⟨_, e2, e3⟩ := at1_yes h48
      rw [stands_drop d1, hW] at h48
      have ha48 : a = 48 := by simpa using h48
      rcases h.w with e | ⟨c, r', e, hc⟩
      · rw [e]
        exact ⟨.inr (by rw [e2]), e3⟩
      · rw [hW] at e; cases e; exact absurd ha48 hc
  have d2 : t.text.drop (i1F t.text) = t.point ++ t.exp := by rw [hw1.2]; exact drop_more d1
  have s46 : stands t.text (i1F t.text) 46 = t.dot := by
    rw [stands_drop d2]
    unfold Txt.point
    cases hd : t.dot
    · simp
      intro e
      have := hexp _ e
      cases this
    · simp
  have hp : partF t.text = t.P ∧ i3F t.text = i1F t.text + t.point.length ∧ bad2 t.text = false := by
    cases hd : t.dot
    · obtain ⟨e1, e2, e3⟩ := at2_no (s46.trans hd)
      exact ⟨by rw [e2, h.p0 hd], by rw [e3]; unfold Txt.point; rw [hd]; simp, e1⟩
    · obtain ⟨e1, e2, e3⟩ := at2_yes (s46.trans hd)
      have d2' : t.text.drop (i1F t.text + 1) = t.P ++ t.exp := by
        have : t.text.drop (i1F t.text) = [46] ++ (t.P ++ t.exp) := by rw [d2]; unfold Txt.point; rw [hd]; rfl
        exact drop_more this
      have r2 : run t.text (i1F t.text + 1) = t.P := by
        rw [run_drop d2']
        exact takeWhile_figs h.pf (fun c hc => by rw [hexp c hc]; decide)
      rw [r2] at e1 e2 e3
      refine ⟨e2, by rw [e3]; unfold Txt.point; rw [hd]; simp; omega, ?_⟩
      rw [e1]
      cases hP : t.P with
      | nil => exact absurd hP (h.p hd)
      | cons a r => rfl
  obtain ⟨p1, p2, p3⟩ := hp
  have d3 : t.text.drop (i3F t.text) = t.exp := by rw [p2]; exact drop_more d2
  have hlen : t.text.length = i3F t.text + t.exp.length := by
    have := congrArg List.length d3
    rw [List.length_drop] at this
    have hle := i3F_le t.text
    omega
  have s69 : stands t.text (i3F t.text) 69 = false := by
    rw [stands_drop d3]
    simp
    intro e
    have := hexp _ e
    cases this
  have s101 : stands t.text (i3F t.text) 101 = t.ex := by
    rw [stands_drop d3]
    unfold Txt.exp
    cases t.ex <;> simp
  have hx : exF t.text = t.ex := by unfold exF; rw [s69, s101, Bool.or_false]
  refine ⟨wholeF t.text, hw1.1, ?_⟩
  cases he : t.ex
  · obtain ⟨q1, q2, q3, q4⟩ := at3_no (hx.trans he)
    obtain ⟨hD, hN⟩ := h.d0 he
    rw [scan_all b1 p3 q1 (by rw [q4, hlen]; unfold Txt.exp; rw [he]; simp), s45, p1, q2, q3, hD, hN, q4, hlen]
    unfold Txt.exp
    rw [he]; simp
  · have hxt := hx.trans he
    have d4 : t.text.drop (i3F t.text + 1) = (if t.neg = true then [45] else []) ++ t.D := by
      have : t.text.drop (i3F t.text) = [101] ++ ((if t.neg = true then [45] else []) ++ t.D) := by rw [d3]; unfold Txt.exp; rw [he]; rfl
      exact drop_more this
    obtain ⟨b, rb, hD⟩ : ∃ b rb, t.D = b :: rb := by cases hd : t.D with | nil => exact absurd hd (h.d he) | cons b rb => exact ⟨b, rb, rfl⟩
    have hb : fig b = true := fig_head h.df (by rw [hD]; rfl)
    have s43 : stands t.text (i3F t.text + 1) 43 = false := by
      rw [stands_drop d4]
      cases t.neg
      · rw [hD]; simp; intro e; subst e; cases hb
      · simp
    have s45' : stands t.text (i3F t.text + 1) 45 = t.neg := by
      rw [stands_drop d4]
      cases t.neg
      · rw [hD]; simp; intro e; subst e; cases hb
      · simp
    obtain ⟨e1, e2⟩ := at5_rest hxt s43
    rw [s45'] at e1 e2
    have d5 : t.text.drop (i5F t.text) = t.D ++ [] := by
      rw [e2, List.append_nil]
      have := drop_more d4
      cases hn : t.neg
      · rw [hn] at this; simpa using this
      · rw [hn] at this; simpa using this
    have r5 : run t.text (i5F t.text) = t.D := by
      rw [run_drop d5]; exact takeWhile_figs h.df (fun c hc => by cases hc)
    obtain ⟨q1, q2, q3⟩ := at3_yes hxt
    rw [r5] at q1 q2 q3
    have q1' : bad3 t.text = false := by rw [q1, hD]; rfl
    have hl6 : i6F t.text = t.text.length := by
      have := congrArg List.length d5
      rw [List.length_drop, List.append_nil] at this
      have hle := i5F_le t.text
      rw [q3]; omega
    rw [scan_all b1 p3 q1' hl6, s45, p1, e1, q2, hl6]

end Np
end Go.Proofs.YtbhgmfddjnkglaaGreatDoor

/-
  Plain words: what is printed is read as it was; what is read is right. No program stands here.
-/
namespace Go.Proofs.YtbhgmfddjnkglaaGreatDoor
namespace Np
open Go.RowKit

theorem read_text {t : Txt} (h : t.Fine) (h6 : ¬ 6 < (Lib.trimLeftB t.D 48).length) :
    readF t.text = ((mk t.g (t.W ++ t.P) ((if t.neg = true then -(worth (Lib.trimLeftB t.D 48) : Int) else (worth (Lib.trimLeftB t.D 48) : Int)) - t.P.length)).1, 0,
      (mk t.g (t.W ++ t.P) ((if t.neg = true then -(worth (Lib.trimLeftB t.D 48) : Int) else (worth (Lib.trimLeftB t.D 48) : Int)) - t.P.length)).2) := by
  obtain ⟨wh, hw, e⟩ := scan_text h
  rw [readF_ok e h6]
  have : mkW ⟨t.g, wh, t.P, t.neg, t.D⟩ = mk t.g (t.W ++ t.P) ((if t.neg = true then -(worth (Lib.trimLeftB t.D 48) : Int) else (worth (Lib.trimLeftB t.D 48) : Int)) - t.P.length) := by
    show mk t.g (wh ++ t.P) (powOf _ - _) = _
    unfold powOf
    rcases hw with e | e
    · rw [e]
    · rw [e, List.cons_append, mk_nought_ahead]
  rw [this]
theorem repeat_noughts : ∀ n, Lib.repeatL [48] n = noughts n
  | 0 => rfl
  | n + 1 => by
    show [48] ++ Lib.repeatL [48] n = _
    rw [repeat_noughts n]; simp [noughts, List.replicate_succ]
theorem mk_right {n : Nd} (hr : right n = true) (hs : n.s ≠ []) : mk n.neg n.s n.e = (n, 0) := by
  obtain ⟨h1, h2, h3, ⟨h4, _⟩ | ⟨_, hf, he1, he2⟩⟩ := (right_iff n).1 hr
  · exact absurd h4 hs
  obtain ⟨k, m, nm, s, g, e⟩ := n
  simp only at h1 h2 h3 hs hf he1 he2 ⊢
  subst h1 h2 h3
  obtain ⟨c, t, hct⟩ : ∃ c t, s = c :: t := by cases s with | nil => exact absurd rfl hs | cons c t => exact ⟨c, t, rfl⟩
  have hf' := hf
  unfold rfigs at hf
  simp only [Bool.and_eq_true, decide_eq_true_eq, bne_iff_ne] at hf
  obtain ⟨⟨⟨hl, hfi⟩, hh⟩, hla⟩ := hf
  have hc : c ≠ 48 := by rw [hct] at hh; exact hh
  have tl : Lib.trimLeftB s 48 = s := by rw [hct]; simp [Lib.trimLeftB, hc]
  have tr : Lib.trimRightB s 48 = s := by
    rcases List.eq_nil_or_concat s with h | ⟨q, b, h⟩
    · exact absurd h hs
    · rw [h, List.concat_eq_append] at hla ⊢
      exact trimRight_snoc q b (by simpa using hla)
  have hN : mkN g s e = ⟨3, 0, [], s, g, e⟩ := by
    unfold mkN
    rw [tl, tr]
    congr 1
    unfold wrap64
    omega
  have h := mk_ok g s e hfi (by rw [tl, hct]; rfl) (by rw [hN]; exact hr)
  rw [h, hN]
theorem worth_from (l : List UInt8) : worth (48 :: l) = worth l := by simp [worth]
theorem worth_trim : ∀ l : List UInt8, worth (Lib.trimLeftB l 48) = worth l
  | [] => rfl
  | c :: t => by
    by_cases hc : c = 48
    · subst hc
      rw [show Lib.trimLeftB (48 :: t) 48 = Lib.trimLeftB t 48 by simp [Lib.trimLeftB], worth_trim t, worth_from]
    · rw [show Lib.trimLeftB (c :: t) 48 = c :: t by simp [Lib.trimLeftB, hc]]
theorem dig_nat (d : Nat) (h : d < 10) : (UInt8.ofNat (48 + d)).toNat = 48 + d := by
  rw [UInt8.toNat_ofNat']; omega
theorem dec_worth (u : Nat) : worth (Lib.decDigits u) = u ∧ figs (Lib.decDigits u) = true ∧ Lib.decDigits u ≠ [] := by
  induction u using Nat.strongRecOn with
  | _ u ih =>
    rw [Lib.decDigits]
    split
    · rename_i h
      refine ⟨?_, ?_, by simp⟩
      · simp [worth]; omega
      · simp [figs, fig]; omega
    · rename_i h
      obtain ⟨i1, i2, i3⟩ := ih (u / 10) (by omega)
      have := dig_nat (u % 10) (by omega)
      refine ⟨?_, ?_, by simp⟩
      · rw [worth_snoc, i1, this]; omega
      · rw [figs_snoc, i2]; simp [fig]; omega
theorem dec_len (u : Nat) (h : u ≤ 1000) : (Lib.decDigits u).length ≤ 4 := by
  rw [Lib.decDigits]
  split
  · simp
  · rw [Lib.decDigits]
    split
    · simp
    · rw [Lib.decDigits]
      split
      · simp
      · rw [Lib.decDigits]
        split
        · simp
        · omega
theorem figs_append {a b : List UInt8} : figs (a ++ b) = (figs a && figs b) := by simp [figs]
theorem figs_noughts (n : Nat) : figs (noughts n) = true := by
  simp [figs, noughts, show fig 48 = true by decide]
/-- What is printed is read as it was. -/
theorem print_back {n : Nd} (hr : right n = true) : readF (printN n.s n.neg n.e) = (n, 0, 0) := by
  by_cases hs : n.s = []
  · obtain ⟨h1, h2, h3, ⟨_, h5, h6⟩ | ⟨h4, _⟩⟩ := (right_iff n).1 hr
    · obtain ⟨k, m, nm, s, g, e⟩ := n
      simp only at h1 h2 h3 hs h5 h6 ⊢
      subst h1 h2 h3 hs h5 h6
      decide +kernel
    · exact absurd hs h4
  have hmk := mk_right hr hs
  obtain ⟨_, _, _, ⟨h4, _⟩ | ⟨_, hf, he1, he2⟩⟩ := (right_iff n).1 hr
  · exact absurd h4 hs
  obtain ⟨k, m, nm, f, g, e⟩ := n
  simp only at hs hmk hf he1 he2 ⊢
  obtain ⟨c, t, hct⟩ : ∃ c t, f = c :: t := by cases f with | nil => exact absurd rfl hs | cons c t => exact ⟨c, t, rfl⟩
  unfold rfigs at hf
  simp only [Bool.and_eq_true, decide_eq_true_eq, bne_iff_ne] at hf
  obtain ⟨⟨⟨hl, hfi⟩, hh⟩, hla⟩ := hf
  have hc : c ≠ 48 := by rw [hct] at hh; exact hh
  have hpos : 0 < f.length := by rw [hct]; simp
  have key : ∀ x : Txt, x.Fine → printN f g e = x.text → ¬ 6 < (Lib.trimLeftB x.D 48).length → mk x.g (x.W ++ x.P) ((if x.neg = true then -(worth (Lib.trimLeftB x.D 48) : Int) else (worth (Lib.trimLeftB x.D 48) : Int)) - x.P.length) = (⟨k, m, nm, f, g, e⟩, 0) → readF (printN f g e) = (⟨k, m, nm, f, g, e⟩, 0, 0) := by
    intro x hx h1 h2 h3
    rw [h1, read_text hx h2, h3]
  have hpr : printN f g e = (if g = true then [45] else []) ++ printS f e := by unfold printN; cases g <;> simp
  have hps : printS f e = if 0 ≤ e ∧ e ≤ 20 - f.length then f ++ Lib.repeatL [48] e.toNat else if -20 ≤ e ∧ e ≤ -1 then pointF f (-e).toNat else f ++ 101 :: Lib.itoa e := by
    unfold printS; rw [if_neg (by rw [hct]; simp)]
  by_cases c1 : 0 ≤ e ∧ e ≤ 20 - f.length
  · rw [if_pos c1, repeat_noughts] at hps
    refine key ⟨g, f ++ noughts e.toNat, false, [], false, false, []⟩ ⟨.inr ⟨c, t ++ noughts e.toNat, by rw [hct]; rfl, hc⟩, by rw [figs_append, hfi, figs_noughts]; rfl, (fun h => by cases h), fun _ => rfl, rfl, (fun h => by cases h), rfl, fun _ => ⟨rfl, rfl⟩⟩ ?_ (by simp [Lib.trimLeftB]) ?_
    · rw [hpr, hps]; simp [Txt.text, Txt.sign, Txt.point, Txt.exp]
    · have := mk_noughts_behind g f e e.toNat
      rw [show e - (e.toNat : Int) = 0 by omega] at this
      show mk g (f ++ noughts e.toNat ++ []) _ = _
      rw [List.append_nil]
      exact this.trans hmk
  rw [if_neg c1] at hps
  by_cases c2 : -20 ≤ e ∧ e ≤ -1
  · rw [if_pos c2] at hps
    obtain ⟨b, hb⟩ : ∃ b : Nat, e = -(b : Int) := ⟨(-e).toNat, by omega⟩
    have hbn : (-e).toNat = b := by omega
    rw [hbn] at hps
    have hplen := padF_len f b
    have hpad : padF f b = noughts (b + 1 - f.length) ++ f := by unfold padF; rw [repeat_noughts]
    have hpf : figs (padF f b) = true := by rw [hpad, figs_append, figs_noughts, hfi]; rfl
    have hW : (padF f b).take ((padF f b).length - b) = [48] ∨ ∃ a r, (padF f b).take ((padF f b).length - b) = a :: r ∧ a ≠ 48 := by
      by_cases hk : f.length ≤ b
      · left
        have hlp : (padF f b).length = b + 1 := by rw [hpad, List.length_append]; simp [noughts]; omega
        rw [hlp, show b + 1 - b = 1 by omega, hpad]
        obtain ⟨j, hj⟩ : ∃ j, b + 1 - f.length = j + 1 := ⟨b - f.length, by omega⟩
        rw [hj]; simp [noughts, List.replicate_succ]
      · right
        have : padF f b = f := padF_long (by omega)
        rw [this, hct]
        obtain ⟨j, hj⟩ : ∃ j, (c :: t).length - b = j + 1 := ⟨(c :: t).length - b - 1, by rw [← hct]; omega⟩
        rw [hj]
        exact ⟨c, t.take j, by simp, hc⟩
    have hdl : ((padF f b).drop ((padF f b).length - b)).length = b := by rw [List.length_drop]; omega
    refine key ⟨g, (padF f b).take ((padF f b).length - b), true, (padF f b).drop ((padF f b).length - b), false, false, []⟩ ⟨hW, figs_take hpf _, fun _ h => ?_, (fun h => by cases h), ?_, (fun h => by cases h), rfl, fun _ => ⟨rfl, rfl⟩⟩ ?_ (by simp [Lib.trimLeftB]) ?_
    · simp only at h
      rw [h] at hdl
      simp at hdl
      omega
    · have := hpf
      rw [← List.take_append_drop ((padF f b).length - b) (padF f b), figs_append, Bool.and_eq_true] at this
      exact this.2
    · rw [hpr, hps]
      unfold pointF
      simp [Txt.text, Txt.sign, Txt.point, Txt.exp]
    · show mk g ((padF f b).take _ ++ (padF f b).drop _) (_ - ((padF f b).drop ((padF f b).length - b)).length) = _
      rw [List.take_append_drop, hdl, hpad, mk_noughts_ahead]
      rw [hb] at hmk
      rw [hb]
      simp only [Lib.trimLeftB, List.dropWhile_nil]
      rw [show (if (false : Bool) = true then -(worth ([] : List UInt8) : Int) else (worth ([] : List UInt8) : Int)) - (b : Int) = -(b : Int) by simp [worth]]
      exact hmk
  rw [if_neg c2] at hps
  by_cases c3 : e < 0
  · obtain ⟨w1, w2, w3⟩ := dec_worth e.natAbs
    have hit : Lib.itoa e = 45 :: Lib.decDigits e.natAbs := by unfold Lib.itoa; rw [if_pos c3]
    refine key ⟨g, f, false, [], true, true, Lib.decDigits e.natAbs⟩ ⟨.inr ⟨c, t, hct, hc⟩, hfi, (fun h => by cases h), fun _ => rfl, rfl, fun _ => w3, w2, (fun h => by cases h)⟩ ?_ ?_ ?_
    · rw [hpr, hps, hit]; simp [Txt.text, Txt.sign, Txt.point, Txt.exp]
    · have h1 := (List.dropWhile_suffix (l := Lib.decDigits e.natAbs) (· == (48 : UInt8))).length_le
      have h2 := dec_len e.natAbs (by omega)
      show ¬ 6 < (Lib.trimLeftB (Lib.decDigits e.natAbs) 48).length
      unfold Lib.trimLeftB
      omega
    · show mk g (f ++ []) _ = _
      rw [List.append_nil, worth_trim, w1]
      simp only [if_true, List.length_nil]
      rw [show -(e.natAbs : Int) - ((0 : Nat) : Int) = e by omega]
      exact hmk
  · obtain ⟨w1, w2, w3⟩ := dec_worth e.toNat
    have hit : Lib.itoa e = Lib.decDigits e.toNat := by unfold Lib.itoa; rw [if_neg c3]
    refine key ⟨g, f, false, [], true, false, Lib.decDigits e.toNat⟩ ⟨.inr ⟨c, t, hct, hc⟩, hfi, (fun h => by cases h), fun _ => rfl, rfl, fun _ => w3, w2, (fun h => by cases h)⟩ ?_ ?_ ?_
    · rw [hpr, hps, hit]; simp [Txt.text, Txt.sign, Txt.point, Txt.exp]
    · have h1 := (List.dropWhile_suffix (l := Lib.decDigits e.toNat) (· == (48 : UInt8))).length_le
      have h2 := dec_len e.toNat (by omega)
      show ¬ 6 < (Lib.trimLeftB (Lib.decDigits e.toNat) 48).length
      unfold Lib.trimLeftB
      omega
    · show mk g (f ++ []) _ = _
      rw [List.append_nil, worth_trim, w1]
      simp only [Bool.false_eq_true, if_false, List.length_nil]
      rw [show ((e.toNat : Nat) : Int) - ((0 : Nat) : Int) = e by omega]
      exact hmk
/-- What is read is right, or there is none. -/
theorem mk_cases (g : Bool) (f : List UInt8) (e : Int) (hf : figs f = true) : ((mk g f e).2 = 0 ∧ right (mk g f e).1 = true) ∨ mk g f e = (nd0, 2) := by
  cases h : (Lib.trimLeftB f 48).isEmpty
  · cases h2 : right (mkN g f e)
    · right; exact mk_large g f e hf h h2
    · left; rw [mk_ok g f e hf h h2]; exact ⟨rfl, h2⟩
  · left; rw [mk_nought g f e hf h]; exact ⟨rfl, by decide⟩
theorem read_cases (l : List UInt8) : ((readF l).2.2 = 0 ∧ right (readF l).1 = true) ∨ ((readF l).1 = nd0 ∧ ((readF l).2.2 = 1 ∨ (readF l).2.2 = 2)) := by
  unfold readF
  split
  · exact .inr ⟨rfl, .inl rfl⟩
  split
  · exact .inr ⟨rfl, .inr rfl⟩
  obtain ⟨h1, h2, _⟩ := scanF_figs l
  rcases mk_cases (scanF l).1.neg ((scanF l).1.whole ++ (scanF l).1.part) (powOf (scanF l).1 - (scanF l).1.part.length) (by rw [figs_append, h1, h2]; rfl) with h | h
  · exact .inl h
  · right
    show (mkW (scanF l).1).1 = nd0 ∧ ((mkW (scanF l).1).2 = 1 ∨ (mkW (scanF l).1).2 = 2)
    unfold mkW
    rw [h]
    exact ⟨rfl, .inr rfl⟩

end Np
end Go.Proofs.YtbhgmfddjnkglaaGreatDoor

/-
  Plain words: whole numbers' figures. No program stands here.
-/
namespace Go.Proofs.YtbhgmfddjnkglaaGreatDoor
namespace Np
open Go.RowKit

/-- The worth of some figures, with so many places. -/
def wide : List UInt8 → Nat → Nat
  | [], _ => 0
  | c :: t, n => (c.toNat - 48) * 10 ^ (n - 1) + wide t (n - 1)
theorem wide_lt : ∀ (l : List UInt8) (n : Nat), figs l = true → l.length ≤ n → wide l n < 10 ^ n
  | [], n, _, _ => by simp [wide]; exact Nat.pow_pos (by decide)
  | c :: t, n, h, hl => by
    obtain ⟨m, rfl⟩ : ∃ m, n = m + 1 := ⟨n - 1, by simp at hl; omega⟩
    have hc := (fig_iff c).1 (fig_head h rfl)
    have ht : figs t = true := by simp [figs] at h ⊢; exact h.2
    have := wide_lt t m ht (by simpa using hl)
    unfold wide
    rw [Nat.add_sub_cancel, Nat.pow_succ]
    have hle : (c.toNat - 48) * 10 ^ m ≤ 9 * 10 ^ m := Nat.mul_le_mul_right _ (by omega)
    omega
theorem wide_pos : ∀ (l : List UInt8) (n : Nat), l ≠ [] → l.getLastD 0 ≠ 48 → figs l = true → l.length ≤ n → 0 < wide l n
  | [], _, h, _, _, _ => absurd rfl h
  | c :: t, n, _, hla, h, hl => by
    obtain ⟨m, rfl⟩ : ∃ m, n = m + 1 := ⟨n - 1, by simp at hl; omega⟩
    have hc := (fig_iff c).1 (fig_head h rfl)
    have ht : figs t = true := by simp [figs] at h ⊢; exact h.2
    unfold wide
    rw [Nat.add_sub_cancel]
    cases t with
    | nil =>
      have h48 : c ≠ 48 := by simpa using hla
      have : 48 < c.toNat := by
        rcases Nat.lt_or_ge 48 c.toNat with h | h
        · exact h
        · exact absurd (UInt8.toNat_inj.1 (by show c.toNat = (48 : UInt8).toNat; simp; omega)) h48
      have := Nat.mul_pos (show 0 < c.toNat - 48 by omega) (Nat.pow_pos (n := m) (show 0 < 10 by decide))
      omega
    | cons a r =>
      have := wide_pos (a :: r) m (by simp) (by simpa using hla) ht (by simpa using hl)
      omega
/-- Of figures without noughts behind, which are greater, byte by byte, is as they are worth with so many places. -/
theorem wide_lex : ∀ (a b : List UInt8) (n : Nat), figs a = true → figs b = true → (a = [] ∨ a.getLastD 0 ≠ 48) → (b = [] ∨ b.getLastD 0 ≠ 48) → a.length ≤ n → b.length ≤ n → (a < b ↔ wide a n < wide b n)
  | [], [], n, _, _, _, _, _, _ => by simp [wide]
  | [], b :: u, n, _, hb, _, hlb, _, hl => by
    have := wide_pos (b :: u) n (by simp) (by rcases hlb with h | h; (cases h); exact h) hb hl
    simp only [wide] at this ⊢
    constructor
    · intro _; exact this
    · intro _; exact List.nil_lt_cons _ _
  | a :: t, [], n, ha, _, hla, _, hl, _ => by
    simp [wide]
  | a :: t, b :: u, n, ha, hb, hla, hlb, hl1, hl2 => by
    obtain ⟨m, rfl⟩ : ∃ m, n = m + 1 := ⟨n - 1, by simp at hl1; omega⟩
    have hca := (fig_iff a).1 (fig_head ha rfl)
    have hcb := (fig_iff b).1 (fig_head hb rfl)
    have hta : figs t = true := by simp [figs] at ha ⊢; exact ha.2
    have htb : figs u = true := by simp [figs] at hb ⊢; exact hb.2
    have l1 := wide_lt t m hta (by simpa using hl1)
    have l2 := wide_lt u m htb (by simpa using hl2)
    have hla' : t = [] ∨ t.getLastD 0 ≠ 48 := by
      cases t with
      | nil => exact .inl rfl
      | cons x y => right; rcases hla with h | h; (cases h); simpa using h
    have hlb' : u = [] ∨ u.getLastD 0 ≠ 48 := by
      cases u with
      | nil => exact .inl rfl
      | cons x y => right; rcases hlb with h | h; (cases h); simpa using h
    have ih := wide_lex t u m hta htb hla' hlb' (by simpa using hl1) (by simpa using hl2)
    rw [List.cons_lt_cons_iff]
    unfold wide
    rw [Nat.add_sub_cancel]
    have e : a = b ↔ a.toNat = b.toNat := UInt8.toNat_inj.symm
    have e2 : a < b ↔ a.toNat < b.toNat := UInt8.lt_iff_toNat_lt
    rw [e, e2, ih]
    rcases Nat.lt_trichotomy a.toNat b.toNat with h | h | h
    · have : (a.toNat - 48) * 10 ^ m + 10 ^ m ≤ (b.toNat - 48) * 10 ^ m := by
        rw [← Nat.succ_mul]; exact Nat.mul_le_mul_right _ (by omega)
      constructor
      · intro _; omega
      · intro _; exact .inl h
    · rw [h]; omega
    · have : (b.toNat - 48) * 10 ^ m + 10 ^ m ≤ (a.toNat - 48) * 10 ^ m := by
        rw [← Nat.succ_mul]; exact Nat.mul_le_mul_right _ (by omega)
      constructor
      · rintro (h' | ⟨h', _⟩) <;> omega
      · intro h'; omega
theorem wide_snoc : ∀ (l : List UInt8) (c : UInt8), wide (l ++ [c]) (l.length + 1) = 10 * wide l l.length + (c.toNat - 48)
  | [], c => by simp [wide]
  | a :: t, c => by
    have ih := wide_snoc t c
    show (a.toNat - 48) * 10 ^ (t.length + 1 + 1 - 1) + wide (t ++ [c]) (t.length + 1 + 1 - 1) = 10 * ((a.toNat - 48) * 10 ^ (t.length + 1 - 1) + wide t (t.length + 1 - 1)) + (c.toNat - 48)
    rw [Nat.add_sub_cancel, Nat.add_sub_cancel, ih, Nat.pow_succ, ← Nat.mul_assoc]
    generalize (a.toNat - 48) * 10 ^ t.length = z
    omega
theorem wide_worth (l : List UInt8) : wide l l.length = worth l := by
  induction hn : l.length generalizing l with
  | zero => rw [List.length_eq_zero_iff.1 hn]; rfl
  | succ n ih =>
    rcases List.eq_nil_or_concat l with h | ⟨q, b, h⟩
    · rw [h] at hn; cases hn
    · rw [List.concat_eq_append] at h
      subst h
      have hq : q.length = n := by simpa using hn
      rw [← hq, wide_snoc, worth_snoc]
      rw [hq, ih q hq]
theorem wide_behind : ∀ (l : List UInt8) (b : Nat), wide (l ++ noughts b) (l.length + b) = wide l (l.length + b)
  | [], b => by
    simp only [List.nil_append, List.length_nil, Nat.zero_add]
    induction b with
    | zero => rfl
    | succ b ih =>
      rw [show noughts (b + 1) = 48 :: noughts b by simp [noughts, List.replicate_succ]]
      unfold wide at ih ⊢
      rw [Nat.add_sub_cancel]
      simp
      cases b with
      | zero => rfl
      | succ b => exact ih
  | a :: t, b => by
    have ih := wide_behind t b
    show (a.toNat - 48) * 10 ^ (t.length + 1 + b - 1) + wide (t ++ noughts b) (t.length + 1 + b - 1) = (a.toNat - 48) * 10 ^ (t.length + 1 + b - 1) + wide t (t.length + 1 + b - 1)
    rw [show t.length + 1 + b - 1 = t.length + b by omega, ih]

/-- A whole number's node. -/
def intN (neg : Bool) (u : Nat) : Nd := if u = 0 then nought else mkN neg (Lib.decDigits u) 0
theorem dec_len_lt (u : Nat) : u < 10 ^ (Lib.decDigits u).length ∧ (0 < u → 10 ^ ((Lib.decDigits u).length - 1) ≤ u) := by
  induction u using Nat.strongRecOn with
  | _ u ih =>
    rw [Lib.decDigits]
    split
    · rename_i h
      simp
      exact ⟨h, fun h => h⟩
    · rename_i h
      obtain ⟨i1, i2⟩ := ih (u / 10) (by omega)
      have i2 := i2 (by omega)
      rw [List.length_append]
      simp only [List.length_cons, List.length_nil, Nat.zero_add, Nat.add_sub_cancel]
      have hp : 0 < (Lib.decDigits (u / 10)).length := List.length_pos_iff.2 (dec_worth (u / 10)).2.2
      obtain ⟨m, hm⟩ : ∃ m, (Lib.decDigits (u / 10)).length = m + 1 := ⟨(Lib.decDigits (u / 10)).length - 1, by omega⟩
      rw [hm] at i1 i2 ⊢
      rw [Nat.add_sub_cancel] at i2
      rw [Nat.pow_succ (m := m + 1), Nat.pow_succ (m := m)]
      rw [Nat.pow_succ] at i1
      generalize 10 ^ m = z at *
      omega
theorem dec_head {u : Nat} (h : 0 < u) : ∃ c t, Lib.decDigits u = c :: t ∧ c ≠ 48 := by
  induction u using Nat.strongRecOn with
  | _ u ih =>
    rw [Lib.decDigits]
    split
    · rename_i h10
      refine ⟨_, [], rfl, fun e => ?_⟩
      have := congrArg UInt8.toNat e
      rw [dig_nat u h10] at this
      simp at this
      omega
    · obtain ⟨c, t, e, hc⟩ := ih (u / 10) (by omega) (by omega)
      rw [e]
      exact ⟨c, t ++ _, rfl, hc⟩
theorem dec_ten (u : Nat) (h : u ≤ 2147483648) : (Lib.decDigits u).length ≤ 10 := by
  rcases Nat.lt_or_ge 10 (Lib.decDigits u).length with h1 | h1
  · by_cases h0 : 0 < u
    · have h2 := (dec_len_lt u).2 h0
      have h3 : 10 ^ 10 ≤ 10 ^ ((Lib.decDigits u).length - 1) := Nat.pow_le_pow_right (by decide) (by omega)
      omega
    · rw [show u = 0 by omega] at h1
      rw [Lib.decDigits] at h1
      simp at h1
  · exact h1

theorem trimRight_split (l : List UInt8) : l = Lib.trimRightB l 48 ++ noughts (l.length - (Lib.trimRightB l 48).length) := by
  induction hn : l.length generalizing l with
  | zero => rw [List.length_eq_zero_iff.1 hn]; rfl
  | succ n ih =>
    rcases List.eq_nil_or_concat l with h | ⟨q, b, h⟩
    · rw [h] at hn; cases hn
    · rw [List.concat_eq_append] at h
      subst h
      have hq : q.length = n := by simpa using hn
      by_cases hb : b = 48
      · subst hb
        have e : Lib.trimRightB (q ++ [48]) 48 = Lib.trimRightB q 48 := by simp [Lib.trimRightB]
        have hle : (Lib.trimRightB q 48).length ≤ n := by
          rw [← hq, Lib.trimRightB, List.length_reverse]
          exact Nat.le_trans (List.dropWhile_suffix _).length_le (by simp)
        rw [e, show n + 1 - (Lib.trimRightB q 48).length = (n - (Lib.trimRightB q 48).length) + 1 by omega]
        have := ih q hq
        rw [show noughts (n - (Lib.trimRightB q 48).length + 1) = noughts (n - (Lib.trimRightB q 48).length) ++ [48] by simp [noughts, List.replicate_succ'], ← List.append_assoc, ← this]
      · rw [trimRight_snoc q b hb, hn]
        simp [noughts]
/-- What a whole number is made of. -/
theorem int_parts (neg : Bool) {u : Nat} (hu : 0 < u) (hm : u ≤ 2147483648) : ∃ (f : List UInt8) (b : Nat), intN neg u = ⟨3, 0, [], f, neg, b⟩ ∧ Lib.decDigits u = f ++ noughts b ∧ f.length + b ≤ 10 ∧ f ≠ [] ∧ f.getLastD 0 ≠ 48 ∧ figs f = true ∧ right (intN neg u) = true ∧ mk neg (Lib.decDigits u) 0 = (intN neg u, 0) := by
  obtain ⟨c, t, hct, hc⟩ := dec_head hu
  obtain ⟨w1, w2, w3⟩ := dec_worth u
  have h10 := dec_ten u hm
  have tl : Lib.trimLeftB (Lib.decDigits u) 48 = Lib.decDigits u := by rw [hct]; simp [Lib.trimLeftB, hc]
  have hne : Lib.trimRightB (Lib.decDigits u) 48 ≠ [] := by rw [hct]; exact trimRight_ne hc
  have hs := trimRight_split (Lib.decDigits u)
  have hle : (Lib.trimRightB (Lib.decDigits u) 48).length ≤ (Lib.decDigits u).length := by
    have := (trim_len (Lib.decDigits u)).1
    rwa [tl] at this
  have he := mkN_e neg (Lib.decDigits u) 0 (by omega) (by omega) (by omega)
  rw [tl] at he
  have hN : intN neg u = ⟨3, 0, [], Lib.trimRightB (Lib.decDigits u) 48, neg, ((Lib.decDigits u).length - (Lib.trimRightB (Lib.decDigits u) 48).length : Nat)⟩ := by
    unfold intN
    rw [if_neg (by omega)]
    have : mkN neg (Lib.decDigits u) 0 = ⟨3, 0, [], Lib.trimRightB (Lib.trimLeftB (Lib.decDigits u) 48) 48, neg, (mkN neg (Lib.decDigits u) 0).e⟩ := rfl
    rw [this, he, tl]
    simp
  have hR : right (mkN neg (Lib.decDigits u) 0) = true := by
    rw [mkN_right neg _ 0 w2 (by rw [tl]; exact w3), tl, he]
    simp only [Bool.and_eq_true, decide_eq_true_eq]
    omega
  have hI : intN neg u = mkN neg (Lib.decDigits u) 0 := by unfold intN; rw [if_neg (by omega)]
  refine ⟨_, _, hN, hs, by omega, hne, trimRight_last _ hne, figs_trimRight w2, by rw [hI]; exact hR, ?_⟩
  rw [mk_ok neg _ 0 w2 (by rw [tl, hct]; rfl) hR, hI]
theorem int_zero : mk false (Lib.decDigits 0) 0 = (intN false 0, 0) ∧ right (intN false 0) = true ∧ printN (intN false 0).s (intN false 0).neg (intN false 0).e = Lib.decDigits 0 ∧ readF (Lib.decDigits 0) = (intN false 0, 0, 0) := by
  have : Lib.decDigits 0 = [48] := by rw [Lib.decDigits]; rfl
  rw [this]
  decide +kernel
theorem int_all (neg : Bool) (u : Nat) (hn : neg = true → 0 < u) (hm : u ≤ 2147483648) : mk neg (Lib.decDigits u) 0 = (intN neg u, 0) ∧ right (intN neg u) = true ∧ printN (intN neg u).s (intN neg u).neg (intN neg u).e = (if neg = true then [45] else []) ++ Lib.decDigits u ∧ readF ((if neg = true then [45] else []) ++ Lib.decDigits u) = (intN neg u, 0, 0) := by
  by_cases hu : 0 < u
  · obtain ⟨f, b, h1, h2, h3, h4, h5, h6, h7, h8⟩ := int_parts neg hu hm
    obtain ⟨c, t, hct, hc⟩ := dec_head hu
    obtain ⟨w1, w2, w3⟩ := dec_worth u
    have hp : printN (intN neg u).s (intN neg u).neg (intN neg u).e = (if neg = true then [45] else []) ++ Lib.decDigits u := by
      have hS : printS f (b : Int) = f ++ noughts b := by
        unfold printS
        rw [if_neg (by simpa using h4), if_pos (by omega), repeat_noughts, show ((b : Nat) : Int).toNat = b by omega]
      rw [h1, h2]
      show printN f neg b = _
      unfold printN
      rw [hS]
      cases neg <;> simp
    refine ⟨h8, h7, hp, ?_⟩
    rw [← hp]
    exact print_back h7
  · obtain rfl : u = 0 := by omega
    cases neg
    · exact int_zero
    · exact absurd (hn rfl) hu
/-- Which of two whole numbers is greater. -/
theorem int_size {u v : Nat} {f g : List UInt8} {b d : Nat} (hu : 0 < u) (hv : 0 < v) (e1 : Lib.decDigits u = f ++ noughts b) (e2 : Lib.decDigits v = g ++ noughts d) (f1 : figs f = true) (g1 : figs g = true) (f2 : f.getLastD 0 ≠ 48) (g2 : g.getLastD 0 ≠ 48) :
    cmpSz f b g d = -1 ↔ u < v := by
  have lu : (Lib.decDigits u).length = f.length + b := by rw [e1, List.length_append]; simp [noughts]
  have lv : (Lib.decDigits v).length = g.length + d := by rw [e2, List.length_append]; simp [noughts]
  have du := dec_len_lt u
  have dv := dec_len_lt v
  have du2 := du.2 hu
  have dv2 := dv.2 hv
  have i1 := cmpI_lt (f.length + b) (g.length + d)
  have i2 := cmpI_eq (f.length + b) (g.length + d)
  have i3 := cmpI_gt (f.length + b) (g.length + d)
  unfold cmpSz
  rcases Nat.lt_trichotomy (f.length + b) (g.length + d) with h | h | h
  · rw [if_neg (fun e => by have := i2.1 e; omega), i1]
    constructor
    · intro _
      have : 10 ^ (Lib.decDigits u).length ≤ 10 ^ ((Lib.decDigits v).length - 1) := Nat.pow_le_pow_right (by decide) (by omega)
      omega
    · intro _; omega
  · rw [if_pos (i2.2 (by omega)), cmpB_lt]
    have k1 : wide f (f.length + b) = u := by
      rw [← wide_behind, ← e1, ← lu, wide_worth, (dec_worth u).1]
    have k2 : wide g (f.length + b) = v := by
      rw [h, ← wide_behind, ← e2, ← lv, wide_worth, (dec_worth v).1]
    rw [wide_lex f g (f.length + b) f1 g1 (.inr f2) (.inr g2) (by omega) (by omega), k1, k2]
  · rw [if_neg (fun e => by have := i2.1 e; omega)]
    constructor
    · intro e; have := i1.1 e; omega
    · intro _
      have : 10 ^ (Lib.decDigits v).length ≤ 10 ^ ((Lib.decDigits u).length - 1) := Nat.pow_le_pow_right (by decide) (by omega)
      omega
theorem int_cmp (n1 n2 : Bool) (u v : Nat) (h1 : n1 = true → 0 < u) (h2 : n2 = true → 0 < v) (m1 : u ≤ 2147483648) (m2 : v ≤ 2147483648) :
    cmpN (intN n1 u).s (intN n1 u).neg (intN n1 u).e (intN n2 v).s (intN n2 v).neg (intN n2 v).e < 0 ↔ (if n1 = true then -(u : Int) else u) < (if n2 = true then -(v : Int) else v) := by
  have sg : ∀ (n : Bool) (w : Nat), (n = true → 0 < w) → w ≤ 2147483648 → sgn (intN n w).s (intN n w).neg = if w = 0 then 0 else if n = true then -1 else 1 := by
    intro n w hn hw
    by_cases h0 : w = 0
    · subst h0
      have : n = false := by cases n with | false => rfl | true => exact absurd (hn rfl) (by omega)
      subst this
      rw [if_pos rfl]; decide
    · obtain ⟨f, b, e1, _, _, e4, _⟩ := int_parts n (u := w) (by omega) hw
      rw [e1, if_neg h0]
      unfold sgn
      rw [if_neg (by simpa using e4)]
  have s1 := sg n1 u h1 m1
  have s2 := sg n2 v h2 m2
  have hr := cmpN_range (intN n1 u).s (intN n1 u).neg (intN n1 u).e (intN n2 v).s (intN n2 v).neg (intN n2 v).e
  have i1 := cmpI_lt (sgn (intN n1 u).s (intN n1 u).neg) (sgn (intN n2 v).s (intN n2 v).neg)
  have i2 := cmpI_eq (sgn (intN n1 u).s (intN n1 u).neg) (sgn (intN n2 v).s (intN n2 v).neg)
  have i3 := compareInt_cases (sgn (intN n1 u).s (intN n1 u).neg) (sgn (intN n2 v).s (intN n2 v).neg)
  unfold cmpN
  by_cases hs : sgn (intN n1 u).s (intN n1 u).neg = sgn (intN n2 v).s (intN n2 v).neg
  · rw [if_pos (i2.2 hs), s1]
    rw [s1, s2] at hs
    by_cases hu : u = 0
    · have hv : v = 0 := by
        rw [if_pos hu] at hs
        by_cases hv : v = 0
        · exact hv
        · rw [if_neg hv] at hs; split at hs <;> omega
      rw [if_pos hu, hu, hv]
      simp
    · have hv : v ≠ 0 := by
        intro hv
        rw [if_neg hu, if_pos hv] at hs; split at hs <;> omega
      rw [if_neg hu] at hs ⊢
      rw [if_neg hv] at hs
      obtain ⟨f, b, a1, a2, _, a4, a5, a6, _⟩ := int_parts n1 (u := u) (by omega) m1
      obtain ⟨g, d, c1, c2, _, c4, c5, c6, _⟩ := int_parts n2 (u := v) (by omega) m2
      rw [a1, c1]
      simp only
      have z1 := int_size (show 0 < u by omega) (show 0 < v by omega) a2 c2 a6 c6 a5 c5
      have z2 := int_size (show 0 < v by omega) (show 0 < u by omega) c2 a2 c6 a6 c5 a5
      have z3 := cmpSz_neg f b g d
      have z4 := cmpSz_cases f b g d
      cases n1 <;> cases n2 <;> simp only [Bool.false_eq_true, if_false, if_true] at hs ⊢
      · omega
      · omega
      · omega
      · omega
  · rw [if_neg (fun e => hs (i2.1 e))]
    rw [s1, s2] at i1 i3 hs ⊢
    by_cases hu : u = 0 <;> by_cases hv : v = 0 <;> cases n1 <;> cases n2 <;> simp only [hu, hv, Bool.false_eq_true, if_false, if_true, not_true_eq_false] at i1 i3 hs h1 h2 ⊢ <;> omega

end Np
end Go.Proofs.YtbhgmfddjnkglaaGreatDoor

/-
  Plain words: which of two numbers is greater, figure by figure. No program stands here.
-/
namespace Go.Proofs.YtbhgmfddjnkglaaGreatDoor
namespace Np
open Go.RowKit

/-- The figure that stands at a power. -/
def digAt (l : List UInt8) (x p : Int) : Nat := if (l.length : Int) - 1 - (p - x) < 0 then 0 else (l.getD ((l.length : Int) - 1 - (p - x)).toNat 48).toNat - 48
theorem getD_fig {l : List UInt8} (h : figs l = true) (j : Nat) : 48 ≤ (l.getD j 48).toNat ∧ (l.getD j 48).toNat ≤ 57 := by
  rw [List.getD_eq_getElem?_getD]
  by_cases hj : j < l.length
  · rw [List.getElem?_eq_getElem hj]
    exact (fig_iff _).1 (figs_at h hj)
  · rw [List.getElem?_eq_none (by omega)]
    decide
theorem lexD : ∀ (a b : List UInt8) (i : Nat), figs a = true → figs b = true → (∀ j, j < i → (a.getD j 48).toNat = (b.getD j 48).toNat) → (a.getD i 48).toNat < (b.getD i 48).toNat → a < b
  | [], [], i, _, _, _, h => by simp at h
  | [], y :: v, i, _, _, _, _ => List.nil_lt_cons _ _
  | x :: u, [], i, ha, _, _, h => by
    have := (getD_fig ha i).1
    simp at h
    simp at this
    omega
  | x :: u, y :: v, i, ha, hb, hj, h => by
    have hu : figs u = true := by simp [figs] at ha ⊢; exact ha.2
    have hv : figs v = true := by simp [figs] at hb ⊢; exact hb.2
    rw [List.cons_lt_cons_iff]
    cases i with
    | zero =>
      left
      rw [UInt8.lt_iff_toNat_lt]
      simpa using h
    | succ i =>
      right
      refine ⟨UInt8.toNat_inj.1 (by have := hj 0 (by omega); simpa using this), ?_⟩
      exact lexD u v i hu hv (fun j h' => by have := hj (j + 1) (by omega); simpa using this) (by simpa using h)
theorem wide_getD : ∀ (n : Nat) (a b : List UInt8), a.length ≤ n → b.length ≤ n → (∀ j, j < n → (a.getD j 48).toNat = (b.getD j 48).toNat) → wide a n = wide b n
  | 0, a, b, h1, h2, _ => by rw [List.length_eq_zero_iff.1 (by omega : a.length = 0), List.length_eq_zero_iff.1 (by omega : b.length = 0)]
  | n + 1, [], [], _, _, _ => rfl
  | n + 1, [], y :: v, h1, h2, hj => by
    have h0 := hj 0 (by omega)
    have ih := wide_getD n [] v (by simp) (by simpa using h2) (fun j h => by have := hj (j + 1) (by omega); simpa using this)
    simp at h0
    simp only [wide] at ih ⊢
    rw [Nat.add_sub_cancel, ← ih, ← h0]
    simp
  | n + 1, x :: u, [], h1, h2, hj => by
    have h0 := hj 0 (by omega)
    have ih := wide_getD n u [] (by simpa using h1) (by simp) (fun j h => by have := hj (j + 1) (by omega); simpa using this)
    simp at h0
    simp only [wide] at ih ⊢
    rw [Nat.add_sub_cancel, ih, h0]
    simp
  | n + 1, x :: u, y :: v, h1, h2, hj => by
    have h0 := hj 0 (by omega)
    have ih := wide_getD n u v (by simpa using h1) (by simpa using h2) (fun j h => by have := hj (j + 1) (by omega); simpa using this)
    simp at h0
    simp only [wide]
    rw [Nat.add_sub_cancel, ih, h0]
theorem digAt_in {l : List UInt8} {x : Int} (j : Nat) : digAt l x (l.length + x - 1 - j) = (l.getD j 48).toNat - 48 := by
  unfold digAt
  rw [if_neg (by omega), show ((l.length : Int) - 1 - ((l.length : Int) + x - 1 - j - x)).toNat = j by omega]
theorem digAt_top (l : List UInt8) (x p : Int) (h : l.length + x ≤ p) : digAt l x p = 0 := by
  unfold digAt; rw [if_pos (by omega)]
theorem digAt_nil (x p : Int) : digAt [] x p = 0 := by
  unfold digAt; split
  · rfl
  · simp
theorem dig_first {c : UInt8} {t : List UInt8} {x : Int} (h : figs (c :: t) = true) (hc : c ≠ 48) : 0 < digAt (c :: t) x ((c :: t).length + x - 1) := by
  have := digAt_in (l := c :: t) (x := x) 0
  simp only [Int.natCast_zero, Int.sub_zero] at this
  rw [this]
  have h2 := (fig_iff c).1 (fig_head h rfl)
  have : c.toNat ≠ 48 := fun e => hc (UInt8.toNat_inj.1 (by simp; omega))
  simp
  omega
/-- Sizes of two numbers of which neither is nought, figure by figure. -/
theorem size_dig {a b : List UInt8} {x y : Int} (fa : figs a = true) (fb : figs b = true) (ha : ∃ c t, a = c :: t ∧ c ≠ 48) (hb : ∃ c t, b = c :: t ∧ c ≠ 48) (la : a.getLastD 0 ≠ 48) (lb : b.getLastD 0 ≠ 48) (p : Int) (hp : p ≤ max (a.length + x) (b.length + y)) :
    ((∀ q, p < q → q ≤ max (a.length + x) (b.length + y) → digAt a x q = digAt b y q) → (digAt a x p < digAt b y p → cmpSz a x b y = -1) ∧ (digAt b y p < digAt a x p → cmpSz a x b y = 1) ∧ (digAt a x p = digAt b y p → p ≤ x → p ≤ y → cmpSz a x b y = 0)) := by
  intro heq
  have i1 := cmpI_lt (a.length + x) (b.length + y)
  have i2 := cmpI_eq (a.length + x) (b.length + y)
  have i3 := cmpI_gt (a.length + x) (b.length + y)
  have pa : 0 < a.length := by obtain ⟨c, t, e, _⟩ := ha; rw [e]; simp
  have pb : 0 < b.length := by obtain ⟨c, t, e, _⟩ := hb; rw [e]; simp
  rcases Int.lt_trichotomy (a.length + x) (b.length + y) with h | h | h
  · have hc : cmpSz a x b y = -1 := by unfold cmpSz; rw [if_neg (fun e => by have := i2.1 e; omega)]; exact i1.2 h
    have dz : ∀ q, b.length + y - 1 ≤ q → digAt a x q = 0 := fun q hq => digAt_top a x q (by omega)
    have df : 0 < digAt b y (b.length + y - 1) := by obtain ⟨c, t, e, h48⟩ := hb; rw [e] at fb ⊢; exact dig_first fb h48
    refine ⟨fun _ => hc, fun h2 => ?_, fun h2 h3 h4 => ?_⟩
    · exfalso
      rcases Int.lt_trichotomy p (b.length + y - 1) with h' | h' | h'
      · have := heq (b.length + y - 1) h' (by omega)
        rw [dz _ (Int.le_refl _)] at this; omega
      · rw [h', dz _ (Int.le_refl _)] at h2; omega
      · rw [dz p (by omega)] at h2; omega
    · exfalso
      by_cases h' : p < b.length + y - 1
      · have := heq (b.length + y - 1) h' (by omega)
        rw [dz _ (Int.le_refl _)] at this; omega
      · have : p = b.length + y - 1 := by omega
        rw [this, dz _ (Int.le_refl _)] at h2; omega
  · have hm : max ((a.length : Int) + x) (b.length + y) = a.length + x := by omega
    rw [hm] at heq hp
    have hcB : cmpSz a x b y = cmpB a b := by unfold cmpSz; rw [if_pos (i2.2 h)]
    have dA : ∀ j : Nat, digAt a x (a.length + x - 1 - j) = (a.getD j 48).toNat - 48 := fun j => digAt_in j
    have dB : ∀ j : Nat, digAt b y (a.length + x - 1 - j) = (b.getD j 48).toNat - 48 := fun j => by rw [h]; exact digAt_in j
    have hg : ∀ j : Nat, p < a.length + x - 1 - j → (a.getD j 48).toNat = (b.getD j 48).toNat := fun j hj => by
      have := heq _ hj (by omega)
      rw [dA, dB] at this
      have := getD_fig fa j
      have := getD_fig fb j
      omega
    by_cases hpt : p = a.length + x
    · have z1 : digAt a x p = 0 := digAt_top a x p (by omega)
      have z2 : digAt b y p = 0 := digAt_top b y p (by omega)
      refine ⟨fun h' => by omega, fun h' => by omega, fun _ h' _ => by omega⟩
    · obtain ⟨i, hi⟩ : ∃ i : Nat, p = a.length + x - 1 - i := ⟨((a.length : Int) + x - 1 - p).toNat, by omega⟩
      have g1 := getD_fig fa i
      have g2 := getD_fig fb i
      refine ⟨fun h' => ?_, fun h' => ?_, fun h' h3 h4 => ?_⟩
      · rw [hcB, cmpB_lt]
        rw [hi, dA, dB] at h'
        exact lexD a b i fa fb (fun j hj => hg j (by omega)) (by omega)
      · rw [hcB, cmpB_gt]
        rw [hi, dA, dB] at h'
        exact lexD b a i fb fa (fun j hj => (hg j (by omega)).symm) (by omega)
      · rw [hcB, cmpB_eq]
        rw [hi, dA, dB] at h'
        have hw : wide a (i + 1) = wide b (i + 1) := wide_getD (i + 1) a b (by omega) (by omega) (fun j hj => by
          by_cases hji : j = i
          · subst hji; omega
          · exact hg j (by omega))
        have w1 := wide_lex a b (i + 1) fa fb (.inr la) (.inr lb) (by omega) (by omega)
        have w2 := wide_lex b a (i + 1) fb fa (.inr lb) (.inr la) (by omega) (by omega)
        rcases Std.lt_trichotomy a b with h5 | h5 | h5
        · have := w1.1 h5; omega
        · exact h5
        · have := w2.1 h5; omega
  · have hc : cmpSz a x b y = 1 := by unfold cmpSz; rw [if_neg (fun e => by have := i2.1 e; omega)]; exact i3.2 h
    have dz : ∀ q, a.length + x - 1 ≤ q → digAt b y q = 0 := fun q hq => digAt_top b y q (by omega)
    have df : 0 < digAt a x (a.length + x - 1) := by obtain ⟨c, t, e, h48⟩ := ha; rw [e] at fa ⊢; exact dig_first fa h48
    refine ⟨fun h2 => ?_, fun _ => hc, fun h2 h3 h4 => ?_⟩
    · exfalso
      rcases Int.lt_trichotomy p (a.length + x - 1) with h' | h' | h'
      · have := heq (a.length + x - 1) h' (by omega)
        rw [dz _ (Int.le_refl _)] at this; omega
      · rw [h', dz _ (Int.le_refl _)] at h2; omega
      · rw [dz p (by omega)] at h2; omega
    · exfalso
      by_cases h' : p < a.length + x - 1
      · have := heq (a.length + x - 1) h' (by omega)
        rw [dz _ (Int.le_refl _)] at this; omega
      · have : p = a.length + x - 1 := by omega
        rw [this, dz _ (Int.le_refl _)] at h2; omega

/-- What a right number that is not nought has. -/
theorem right_parts {n : Nd} (h : right n = true) (hs : n.s ≠ []) : figs n.s = true ∧ (∃ c t, n.s = c :: t ∧ c ≠ 48) ∧ n.s.getLastD 0 ≠ 48 := by
  obtain ⟨_, _, _, ⟨h4, _⟩ | ⟨_, hf, _, _⟩⟩ := (right_iff n).1 h
  · exact absurd h4 hs
  · unfold rfigs at hf
    simp only [Bool.and_eq_true, decide_eq_true_eq, bne_iff_ne] at hf
    obtain ⟨⟨⟨_, hfi⟩, hh⟩, hla⟩ := hf
    refine ⟨hfi, ?_, hla⟩
    cases hn : n.s with
    | nil => exact absurd hn hs
    | cons c t => rw [hn] at hh; exact ⟨c, t, rfl, hh⟩
/-- Which of two numbers of one side is greater, figure by figure. -/
theorem cmp_dig {k m : Int} {nm a : List UInt8} {g : Bool} {x : Int} {k2 m2 : Int} {nm2 b : List UInt8} {y : Int} (h1 : right ⟨k, m, nm, a, g, x⟩ = true) (h2 : right ⟨k2, m2, nm2, b, g, y⟩ = true) (p : Int) (hp : p ≤ max (a.length + x) (b.length + y)) (heq : ∀ q, p < q → q ≤ max (a.length + x) (b.length + y) → digAt a x q = digAt b y q) :
    (digAt a x p < digAt b y p → cmpN a g x b g y = -(if g = true then -1 else 1)) ∧ (digAt b y p < digAt a x p → cmpN a g x b g y = if g = true then -1 else 1) ∧ (digAt a x p = digAt b y p → p ≤ x → p ≤ y → cmpN a g x b g y = 0) := by
  by_cases ha : a = []
  · subst ha
    have hg : g = false ∧ x = 0 := by
      obtain ⟨_, _, _, ⟨_, h, h'⟩ | ⟨h, _⟩⟩ := (right_iff _).1 h1
      · exact ⟨h, h'⟩
      · exact absurd rfl h
    obtain ⟨rfl, rfl⟩ := hg
    by_cases hb : b = []
    · subst hb
      have hy : y = 0 := by
        obtain ⟨_, _, _, ⟨_, _, h'⟩ | ⟨h, _⟩⟩ := (right_iff _).1 h2
        · exact h'
        · exact absurd rfl h
      subst hy
      rw [digAt_nil]
      exact ⟨fun h => by omega, fun h => by omega, fun _ _ _ => by decide⟩
    · obtain ⟨fb, hc, lb⟩ := right_parts h2 hb
      simp only at fb hc lb
      have hcm : cmpN [] false 0 b false y = -1 := by
        have s2 : sgn b false = 1 := by unfold sgn; rw [if_neg (by simpa using hb)]; rfl
        have s1 : sgn [] false = 0 := rfl
        unfold cmpN
        rw [s1, s2, if_neg (by decide)]
        decide
      have df : 0 < digAt b y (b.length + y - 1) := by obtain ⟨c, t, e, h48⟩ := hc; rw [e] at fb ⊢; exact dig_first fb h48
      have pb : 0 < b.length := by obtain ⟨c, t, e, _⟩ := hc; rw [e]; simp
      rw [digAt_nil]
      refine ⟨fun _ => by rw [hcm]; rfl, fun h => by omega, fun h' h3 h4 => ?_⟩
      exfalso
      by_cases hlt : p < b.length + y - 1
      · have := heq _ hlt (by omega)
        rw [digAt_nil] at this; omega
      · have : p = b.length + y - 1 := by omega
        rw [this] at h'; omega
  · obtain ⟨fa, hca, la⟩ := right_parts h1 ha
    simp only at fa hca la
    by_cases hb : b = []
    · subst hb
      have hg : g = false ∧ y = 0 := by
        obtain ⟨_, _, _, ⟨_, h, h'⟩ | ⟨h, _⟩⟩ := (right_iff _).1 h2
        · exact ⟨h, h'⟩
        · exact absurd rfl h
      obtain ⟨rfl, rfl⟩ := hg
      have hcm : cmpN a false x [] false 0 = 1 := by
        have s1 : sgn a false = 1 := by unfold sgn; rw [if_neg (by simpa using ha)]; rfl
        have s2 : sgn [] false = 0 := rfl
        unfold cmpN
        rw [s1, s2, if_neg (by decide)]
        decide
      have df : 0 < digAt a x (a.length + x - 1) := by obtain ⟨c, t, e, h48⟩ := hca; rw [e] at fa ⊢; exact dig_first fa h48
      have pa : 0 < a.length := by obtain ⟨c, t, e, _⟩ := hca; rw [e]; simp
      rw [digAt_nil]
      refine ⟨fun h => by omega, fun _ => by rw [hcm]; rfl, fun h' h3 h4 => ?_⟩
      exfalso
      by_cases hlt : p < a.length + x - 1
      · have := heq _ hlt (by omega)
        rw [digAt_nil] at this; omega
      · have : p = a.length + x - 1 := by omega
        rw [this] at h'; omega
    · obtain ⟨fb, hcb, lb⟩ := right_parts h2 hb
      simp only at fb hcb lb
      obtain ⟨z1, z2, z3⟩ := size_dig fa fb hca hcb la lb p hp heq
      have hcm : cmpN a g x b g y = (if g = true then -1 else 1) * cmpSz a x b y := by
        unfold cmpN
        have s1 : sgn a g = if g = true then -1 else 1 := by unfold sgn; rw [if_neg (by simpa using ha)]
        have s2 : sgn b g = if g = true then -1 else 1 := by unfold sgn; rw [if_neg (by simpa using hb)]
        rw [s1, s2, if_pos ((cmpI_eq _ _).2 rfl)]
      rw [hcm]
      refine ⟨fun h => ?_, fun h => ?_, fun h h3 h4 => ?_⟩
      · rw [z1 h]; cases g <;> decide
      · rw [z2 h]; cases g <;> decide
      · rw [z3 h h3 h4]; cases g <;> decide
theorem cmp_sides {k m : Int} {nm a : List UInt8} {g : Bool} {x : Int} {k2 m2 : Int} {nm2 b : List UInt8} {g2 : Bool} {y : Int} (h1 : right ⟨k, m, nm, a, g, x⟩ = true) (h2 : right ⟨k2, m2, nm2, b, g2, y⟩ = true) (h : g ≠ g2) : cmpN a g x b g2 y = if g = true then -1 else 1 := by
  have e1 : g = true → a ≠ [] := by
    intro hg ha
    obtain ⟨_, _, _, ⟨_, h, _⟩ | ⟨h, _⟩⟩ := (right_iff _).1 h1
    · simp only at h; rw [hg] at h; cases h
    · exact absurd ha h
  have e2 : g2 = true → b ≠ [] := by
    intro hg ha
    obtain ⟨_, _, _, ⟨_, h, _⟩ | ⟨h, _⟩⟩ := (right_iff _).1 h2
    · simp only at h; rw [hg] at h; cases h
    · exact absurd ha h
  cases g <;> cases g2
  · exact absurd rfl h
  · have hb := e2 rfl
    have s2 : sgn b true = -1 := by unfold sgn; rw [if_neg (by simpa using hb)]; rfl
    have s1 := sgn_cases a false
    have s1' : sgn a false ≠ -1 := by unfold sgn; split <;> simp
    unfold cmpN
    rw [s2, if_neg (fun e => by have := (cmpI_eq _ _).1 e; omega)]
    exact (cmpI_gt _ _).2 (by omega)
  · have ha := e1 rfl
    have s1 : sgn a true = -1 := by unfold sgn; rw [if_neg (by simpa using ha)]; rfl
    have s2 := sgn_cases b false
    have s2' : sgn b false ≠ -1 := by unfold sgn; split <;> simp
    unfold cmpN
    rw [s1, if_neg (fun e => by have := (cmpI_eq _ _).1 e; omega)]
    exact (cmpI_lt _ _).2 (by omega)
  · exact absurd rfl h

end Np
end Go.Proofs.YtbhgmfddjnkglaaGreatDoor
