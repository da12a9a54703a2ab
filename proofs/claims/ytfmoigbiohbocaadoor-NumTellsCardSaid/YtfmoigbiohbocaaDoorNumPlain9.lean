/-
  Plain words: one number, many writings. No program stands here.
-/
import Derived.Test.YtfmoigbiohbocaaDoorNumPlain8
namespace Go.Proofs.YtfmoigbiohbocaaDoor
namespace Np
open Go.RowKit

def noughts (n : Nat) : List UInt8 := List.replicate n 48
theorem mk_noughts_ahead (g : Bool) (f : List UInt8) (e : Int) : ∀ n, mk g (noughts n ++ f) e = mk g f e
  | 0 => rfl
  | n + 1 => by
    rw [show noughts (n + 1) ++ f = 48 :: (noughts n ++ f) by simp [noughts, List.replicate_succ], mk_nought_ahead, mk_noughts_ahead g f e n]
theorem trimLeft_behind (f : List UInt8) (b : Nat) : Lib.trimLeftB (f ++ noughts b) 48 = if Lib.trimLeftB f 48 = [] then [] else Lib.trimLeftB f 48 ++ noughts b := by
  induction f with
  | nil =>
    simp only [Lib.trimLeftB, List.nil_append, List.dropWhile_nil, if_true]
    unfold noughts
    induction b with
    | zero => rfl
    | succ b ih => rw [List.replicate_succ, List.dropWhile_cons_of_pos (by simp)]; exact ih
  | cons c t ih =>
    by_cases hc : c = 48
    · subst hc
      have e1 : Lib.trimLeftB (48 :: t ++ noughts b) 48 = Lib.trimLeftB (t ++ noughts b) 48 := by simp [Lib.trimLeftB]
      have e2 : Lib.trimLeftB (48 :: t) 48 = Lib.trimLeftB t 48 := by simp [Lib.trimLeftB]
      rw [e1, e2, ih]
    · have e1 : Lib.trimLeftB (c :: t ++ noughts b) 48 = c :: t ++ noughts b := by simp [Lib.trimLeftB, hc]
      have e2 : Lib.trimLeftB (c :: t) 48 = c :: t := by simp [Lib.trimLeftB, hc]
      rw [e1, e2, if_neg (by simp)]
theorem trimRight_behind (f : List UInt8) : ∀ b, Lib.trimRightB (f ++ noughts b) 48 = Lib.trimRightB f 48
  | 0 => by simp [noughts]
  | b + 1 => by
    rw [show f ++ noughts (b + 1) = (f ++ noughts b) ++ [48] by simp [noughts, List.replicate_succ']]
    rw [← trimRight_behind f b]
    simp [Lib.trimRightB]
theorem mk_noughts_behind (g : Bool) (f : List UInt8) (e : Int) (b : Nat) : mk g (f ++ noughts b) (e - b) = mk g f e := by
  have hfi : figs (f ++ noughts b) = figs f := by simp [figs, noughts, show fig 48 = true by decide]
  have hl := trimLeft_behind f b
  by_cases h : Lib.trimLeftB f 48 = []
  · rw [if_pos h] at hl
    unfold mk
    rw [hfi, hl, h]
    rfl
  · rw [if_neg h] at hl
    have hr : Lib.trimRightB (Lib.trimLeftB (f ++ noughts b) 48) 48 = Lib.trimRightB (Lib.trimLeftB f 48) 48 := by rw [hl, trimRight_behind]
    have hN : mkN g (f ++ noughts b) (e - b) = mkN g f e := by
      obtain ⟨t1, t2⟩ := trim_len f
      unfold mkN
      rw [hr, hl]
      congr 1
      rw [List.length_append]
      simp only [noughts, List.length_replicate]
      unfold wrap64
      omega
    unfold mk
    rw [hfi, hN, hl]
    have e1 : (Lib.trimLeftB f 48 ++ noughts b).isEmpty = (Lib.trimLeftB f 48).isEmpty := by
      cases hc : Lib.trimLeftB f 48 with
      | nil => exact absurd hc h
      | cons a t => rfl
    rw [e1]
theorem mk_many (f : List UInt8) (e : Int) (a b : Nat) : mk false (noughts a ++ f ++ noughts b) (e - b) = mk false f e := by
  rw [List.append_assoc, mk_noughts_ahead, mk_noughts_behind false f e b]
theorem run_whole {l : List UInt8} (h : figs l = true) : run l 0 = l := by
  unfold run
  rw [List.drop_zero, takeWhile_stop l l.length (Nat.le_refl _) (by rw [List.take_length]; exact h) (fun hh => absurd hh (by omega)), List.take_length]
theorem stands_fig {l : List UInt8} {i : Nat} {c : UInt8} (h : figs l = true) (hc : fig c = false) : stands l i c = false := by
  cases hs : stands l i c
  · rfl
  · have hlt := stands_lt hs
    unfold stands at hs
    rw [List.getElem?_eq_getElem hlt] at hs
    have e : l[i] = c := by simpa using hs
    have := figs_at h hlt
    rw [e, hc] at this; cases this
theorem stands_end (l : List UInt8) (c : UInt8) : stands l l.length c = false := by
  cases hs : stands l l.length c
  · rfl
  · exact absurd (stands_lt hs) (by omega)
/-- Figures alone, read, are that number; or they are none, as a nought leads them. -/
theorem read_plain {l : List UInt8} (h : figs l = true) (hne : l ≠ []) : (readF l = ((mk false l 0).1, 0, (mk false l 0).2)) ∨ (readF l).2.2 = 1 := by
  have h45 : stands l 0 45 = false := stands_fig h (by decide)
  have hi0 : i0F l = 0 := by simp [i0F, h45]
  have h46 : ∀ i, stands l i 46 = false := fun i => stands_fig h (by decide)
  have h101 : ∀ i, stands l i 101 = false := fun i => stands_fig h (by decide)
  have h69 : ∀ i, stands l i 69 = false := fun i => stands_fig h (by decide)
  obtain ⟨q1, q2, q3⟩ := at2_no (h46 (i1F l))
  have hx : exF l = false := by simp [exF, h101, h69]
  obtain ⟨r1, r2, r3, r4⟩ := at3_no hx
  cases h48 : stands l (i0F l) 48
  · obtain ⟨p1, p2, p3⟩ := at1_no h48
    rw [hi0, run_whole h] at p1 p2 p3
    have b1 : bad1 l = false := by rw [p1]; cases l with | nil => exact absurd rfl hne | cons a t => rfl
    have e := scan_all b1 q1 r1 (by rw [r4, q3, p3]; omega)
    left
    rw [readF_ok e (by rw [r3]; simp [Lib.trimLeftB])]
    have : mkW ⟨stands l 0 45, wholeF l, partF l, downF l, powF l⟩ = mk false l 0 := by
      show mk _ _ (powOf _ - _) = _
      rw [h45, p2, q2, List.append_nil]
      unfold powOf
      rw [r2, r3]
      rfl
    rw [this]
  · obtain ⟨p1, p2, p3⟩ := at1_yes h48
    rw [hi0] at p3 h48
    by_cases hl : l.length = 1
    · have e := scan_all p1 q1 r1 (by rw [r4, q3, p3, hl])
      left
      rw [readF_ok e (by rw [r3]; simp [Lib.trimLeftB])]
      have hl48 : l = [48] := by
        match l, hl, h48 with
        | [a], _, h48 =>
          unfold stands at h48
          simp at h48
          rw [h48]
      have : mkW ⟨stands l 0 45, wholeF l, partF l, downF l, powF l⟩ = mk false l 0 := by
        show mk _ _ (powOf _ - _) = _
        rw [h45, p2, q2, List.append_nil]
        unfold powOf
        rw [r2, r3, hl48]
        decide
      rw [this]
    · right
      have hlt := stands_lt h48
      rw [read_short p1 q1 (by rw [r4, q3, p3]; omega)]

end Np
end Go.Proofs.YtfmoigbiohbocaaDoor
