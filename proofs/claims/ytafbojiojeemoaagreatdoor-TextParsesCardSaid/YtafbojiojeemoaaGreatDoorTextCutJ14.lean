/-
  Joined: NumPlain6, NumPlain7, NumPlain8, NumPlain9, NumPlain10, NumPlain11, TxR, TxS, PrS.
-/
import Derived.Test.YtafbojiojeemoaaGreatDoorNumPlain5
import Derived.Lib.Strings
import Derived.Test.YtafbojiojeemoaaGreatDoorTextCutJ1
import Derived.Test.YtafbojiojeemoaaGreatDoorTextCutJ4

/-
  Plain words: noughts are taken off figures one by one; what a power comes to. No program stands here.
-/
namespace Go.Proofs.YtafbojiojeemoaaGreatDoor
namespace Np
open Go.RowKit

theorem extract_len (s : ByteArray) (a b : Nat) (h : a ≤ b) (h2 : b ≤ s.size) : (s.extract a b).size = b - a := by
  rw [← size_toList, Lib.extract_data]; simp; omega
theorem first_split (s : ByteArray) (h : 0 < s.size) : s.data.toList = s[0] :: s.data.toList.drop 1 := by
  have h2 : 0 < s.data.toList.length := by rw [size_toList]; exact h
  have e := List.drop_eq_getElem_cons h2
  rw [List.drop_zero, get_toList s 0 h] at e
  exact e
theorem trimLeft_step (s : ByteArray) (h : 0 < s.size) (h48 : s[0] = 48) : Lib.trimLeftB (s.extract 1 s.size).data.toList 48 = Lib.trimLeftB s.data.toList 48 := by
  rw [Lib.extract_data]
  have e := first_split s h
  rw [List.take_of_length_le (by simp)]
  conv => rhs; rw [e]
  simp [Lib.trimLeftB, h48]
theorem trimLeft_stop (s : ByteArray) (h : ∀ h : 0 < s.size, s[0] ≠ 48) : Lib.trimLeftB s.data.toList 48 = s.data.toList := by
  unfold Lib.trimLeftB
  by_cases h0 : 0 < s.size
  · have e := first_split s h0
    rw [e, List.dropWhile_cons_of_neg (by simpa using h h0)]
  · have : s.data.toList = [] := by rw [← List.length_eq_zero_iff, size_toList]; omega
    rw [this]; rfl
theorem last_split (s : ByteArray) (h : 0 < s.size) : s.data.toList = (s.extract 0 (s.size - 1)).data.toList ++ [s[s.size - 1]] := by
  have h2 : s.size - 1 < s.data.toList.length := by rw [size_toList]; omega
  have e := List.take_append_getElem h2
  rw [show s.size - 1 + 1 = s.data.toList.length by rw [size_toList]; omega, List.take_length] at e
  rw [Lib.extract_data, List.drop_zero, Nat.sub_zero, ← get_toList s (s.size - 1) (by omega)]
  exact e.symm
theorem trimRight_step (s : ByteArray) (h : 0 < s.size) (h48 : s[s.size - 1] = 48) : Lib.trimRightB (s.extract 0 (s.size - 1)).data.toList 48 = Lib.trimRightB s.data.toList 48 := by
  conv => rhs; rw [last_split s h]
  simp [Lib.trimRightB, h48]
theorem trimRight_snoc (l : List UInt8) (c : UInt8) (h : c ≠ 48) : Lib.trimRightB (l ++ [c]) 48 = l ++ [c] := by simp [Lib.trimRightB, h]
theorem trimRight_stop (s : ByteArray) (h : 0 < s.size) (h48 : s[s.size - 1] ≠ 48) : Lib.trimRightB s.data.toList 48 = s.data.toList := by
  have e := last_split s h
  have e2 := trimRight_snoc (s.extract 0 (s.size - 1)).data.toList s[s.size - 1] h48
  rw [← e] at e2
  exact e2
theorem dropWhile_nil (p : UInt8 → Bool) : ∀ l : List UInt8, l.dropWhile p = [] → ∀ x ∈ l, p x = true
  | [], _, _, hx => by cases hx
  | a :: t, h, x, hx => by
    rw [List.dropWhile_cons] at h
    cases ha : p a
    · rw [ha] at h; simp at h
    · rw [ha] at h
      simp only [if_true] at h
      rcases List.mem_cons.1 hx with e | e
      · rw [e]; exact ha
      · exact dropWhile_nil p t h x e
theorem trimRight_ne {c : UInt8} {t : List UInt8} (h : c ≠ 48) : Lib.trimRightB (c :: t) 48 ≠ [] := by
  intro e
  unfold Lib.trimRightB at e
  rw [List.reverse_eq_nil_iff] at e
  have := dropWhile_nil _ _ e c (by simp)
  simp at this
  exact h this
theorem trimRight_head {c : UInt8} {t : List UInt8} (h : c ≠ 48) : (Lib.trimRightB (c :: t) 48).headD 0 = c := by
  have hp : Lib.trimRightB (c :: t) 48 <+: c :: t := by
    unfold Lib.trimRightB
    have := List.dropWhile_suffix (· == (48 : UInt8)) (l := (c :: t).reverse)
    rw [← List.reverse_prefix] at this
    simpa using this
  cases hl : Lib.trimRightB (c :: t) 48 with
  | nil => exact absurd hl (trimRight_ne h)
  | cons a b =>
    rw [hl] at hp
    rw [List.cons_prefix_cons] at hp
    exact hp.1
theorem trimRight_last (l : List UInt8) (h : Lib.trimRightB l 48 ≠ []) : (Lib.trimRightB l 48).getLastD 0 ≠ 48 := by
  unfold Lib.trimRightB at h ⊢
  rw [ne_eq, List.reverse_eq_nil_iff] at h
  cases hd : l.reverse.dropWhile (· == 48) with
  | nil => exact absurd hd h
  | cons a b =>
    have := List.head?_dropWhile_not (· == (48 : UInt8)) l.reverse
    rw [hd] at this
    simp at this
    simp
    exact this
theorem trimLeft_head (l : List UInt8) (h : Lib.trimLeftB l 48 ≠ []) : ∃ c t, Lib.trimLeftB l 48 = c :: t ∧ c ≠ 48 := by
  cases hd : Lib.trimLeftB l 48 with
  | nil => exact absurd hd h
  | cons a b =>
    refine ⟨a, b, rfl, ?_⟩
    have := List.head?_dropWhile_not (· == (48 : UInt8)) l
    unfold Lib.trimLeftB at hd
    rw [hd] at this
    simpa using this
theorem figs_trimRight {l : List UInt8} (h : figs l = true) : figs (Lib.trimRightB l 48) = true := by
  rw [figs, List.all_eq_true] at h ⊢
  intro x hx
  unfold Lib.trimRightB at hx
  rw [List.mem_reverse] at hx
  have := (List.dropWhile_suffix _).subset hx
  rw [List.mem_reverse] at this
  exact h x this
theorem figs_trimLeft' {l : List UInt8} (h : figs l = true) : figs (Lib.trimLeftB l 48) = true := by
  rw [figs, List.all_eq_true] at h ⊢
  exact fun x hx => h x ((List.dropWhile_suffix _).subset hx)
/-- What the number of figures is, once noughts ahead and behind are off. -/
theorem mkN_right (g : Bool) (f : List UInt8) (e : Int) (hf : figs f = true) (h : Lib.trimLeftB f 48 ≠ []) :
    right (mkN g f e) = (decide ((Lib.trimRightB (Lib.trimLeftB f 48) 48).length ≤ 100) && decide (-1000 ≤ (mkN g f e).e) && decide ((mkN g f e).e ≤ 1000 - (Lib.trimRightB (Lib.trimLeftB f 48) 48).length)) := by
  obtain ⟨c, t, e1, hc⟩ := trimLeft_head f h
  have h1 : Lib.trimRightB (Lib.trimLeftB f 48) 48 ≠ [] := by rw [e1]; exact trimRight_ne hc
  have h2 := trimRight_last _ h1
  have h3 : (Lib.trimRightB (Lib.trimLeftB f 48) 48).headD 0 ≠ 48 := by rw [e1, trimRight_head hc]; exact hc
  have h4 := figs_trimRight (figs_trimLeft' hf)
  rw [right_some rfl rfl rfl (by show List.isEmpty (Lib.trimRightB (Lib.trimLeftB f 48) 48) = false; simpa using h1)]
  show (rfigs (Lib.trimRightB (Lib.trimLeftB f 48) 48) && rpow (Lib.trimRightB (Lib.trimLeftB f 48) 48).length (mkN g f e).e) = _
  unfold rfigs rpow
  rw [bne_iff_ne.2 h2, bne_iff_ne.2 h3, h4]
  simp [Bool.and_assoc]
theorem trim_len (f : List UInt8) : (Lib.trimRightB (Lib.trimLeftB f 48) 48).length ≤ (Lib.trimLeftB f 48).length ∧ (Lib.trimLeftB f 48).length ≤ f.length := by
  refine ⟨?_, (List.dropWhile_suffix _).length_le⟩
  rw [Lib.trimRightB, List.length_reverse]
  exact Nat.le_trans (List.dropWhile_suffix _).length_le (by simp)
theorem mkN_e (g : Bool) (f : List UInt8) (e : Int) (hl : f.length ≤ 1000000) (h1 : -100000000 ≤ e) (h2 : e ≤ 100000000) :
    (mkN g f e).e = e + ((Lib.trimLeftB f 48).length - (Lib.trimRightB (Lib.trimLeftB f 48) 48).length : Nat) := by
  obtain ⟨a, b⟩ := trim_len f
  unfold mkN
  simp only
  unfold wrap64
  omega
theorem mkN_far (g : Bool) (f : List UInt8) (e : Int) (hf : figs f = true) (h : Lib.trimLeftB f 48 ≠ []) (hl : f.length ≤ 1000000) (h0 : -9223372036854775808 ≤ e) (h1 : e ≤ 9223372036854775807) (h2 : e < -100000000 ∨ 100000000 < e) : right (mkN g f e) = false := by
  obtain ⟨a, b⟩ := trim_len f
  rw [mkN_right g f e hf h]
  have h3 : ¬ (-1000 ≤ (mkN g f e).e ∧ (mkN g f e).e ≤ 1000) := by
    unfold mkN
    simp only
    unfold wrap64
    omega
  rw [← Bool.not_eq_true]
  simp only [Bool.and_eq_true, decide_eq_true_eq]
  omega

end Np
end Go.Proofs.YtafbojiojeemoaaGreatDoor

/-
  Plain words: where a number's figures end, in the document's words. No program stands here.
-/
namespace Go.Proofs.YtafbojiojeemoaaGreatDoor
namespace Np
open Go.RowKit

theorem run_at {l : List UInt8} {i : Nat} (h : stands l i 48 = true) : (run l i).isEmpty = false := by
  have hlt := stands_lt h
  unfold stands at h
  rw [List.getElem?_eq_getElem hlt] at h
  have h48 : l[i] = 48 := by simpa using h
  unfold run
  rw [List.drop_eq_getElem_cons hlt, List.takeWhile_cons, if_pos (by rw [h48]; decide)]
  rfl
theorem bad1_run (l : List UInt8) : bad1 l = (run l (i0F l)).isEmpty := by
  unfold bad1
  cases h : stands l (i0F l) 48
  · simp
  · simp [run_at h]

end Np
end Go.Proofs.YtafbojiojeemoaaGreatDoor

/-
  Plain words: a nought ahead makes no other number. No program stands here.
-/
namespace Go.Proofs.YtafbojiojeemoaaGreatDoor
namespace Np
open Go.RowKit

theorem mk_nought_ahead (g : Bool) (f : List UInt8) (e : Int) : mk g (48 :: f) e = mk g f e := by
  have h1 : figs (48 :: f) = figs f := by simp [figs, show fig 48 = true by decide]
  have h2 : Lib.trimLeftB (48 :: f) 48 = Lib.trimLeftB f 48 := by simp [Lib.trimLeftB]
  unfold mk mkN
  rw [h1, h2]
/-- The figures ahead of the point, with a nought that leads. -/
def aheadF (l : List UInt8) : List UInt8 := (l.drop (i0F l)).take (i1F l - i0F l)
theorem aheadF_eq (l : List UInt8) : aheadF l = wholeF l ∨ aheadF l = 48 :: wholeF l := by
  unfold aheadF
  cases h : stands l (i0F l) 48
  · obtain ⟨_, e2, e3⟩ := at1_no h
    left
    rw [e2, e3, Nat.add_sub_cancel_left]
    exact (List.prefix_iff_eq_take.1 (List.takeWhile_prefix fig)).symm
  · obtain ⟨_, e2, e3⟩ := at1_yes h
    right
    have hlt := stands_lt h
    unfold stands at h
    rw [List.getElem?_eq_getElem hlt] at h
    have h48 : l[i0F l] = 48 := by simpa using h
    rw [e2, e3, Nat.add_sub_cancel_left, List.drop_eq_getElem_cons hlt, h48]
    rfl
theorem mk_ahead (g : Bool) (l p : List UInt8) (e : Int) : mk g (aheadF l ++ p) e = mk g (wholeF l ++ p) e := by
  rcases aheadF_eq l with h | h
  · rw [h]
  · rw [h, List.cons_append, mk_nought_ahead]

theorem read_short {l : List UInt8} (h1 : bad1 l = false) (h2 : bad2 l = false) (h : i6F l < l.length) : readF l = (nd0, (i6F l : Int), 1) := by
  cases h3 : bad3 l
  · have e := scanF_4 h1 h2 h3
    rw [show (i6F l == l.length) = false by rw [beq_eq_false_iff_ne]; omega] at e
    exact readF_form e
  · have e := readF_form (scanF_3 h1 h2 h3)
    have hp : powF l = [] := by
      unfold bad3 at h3
      rw [Bool.and_eq_true] at h3
      exact List.isEmpty_iff.1 h3.2
    rw [e]; unfold i6F; rw [hp]; simp
theorem read_bad3 {l : List UInt8} (h1 : bad1 l = false) (h2 : bad2 l = false) (h3 : bad3 l = true) : readF l = (nd0, (i6F l : Int), 1) := by
  have e := readF_form (scanF_3 h1 h2 h3)
  have hp : powF l = [] := by
    unfold bad3 at h3
    rw [Bool.and_eq_true] at h3
    exact List.isEmpty_iff.1 h3.2
  rw [e]; unfold i6F; rw [hp]; simp
theorem scan_all {l : List UInt8} (h1 : bad1 l = false) (h2 : bad2 l = false) (h3 : bad3 l = false) (h : i6F l = l.length) : scanF l = (⟨stands l 0 45, wholeF l, partF l, downF l, powF l⟩, i6F l, true) := by
  have e := scanF_4 h1 h2 h3
  rw [show (i6F l == l.length) = true by rw [beq_iff_eq]; exact h] at e
  exact e

end Np
end Go.Proofs.YtafbojiojeemoaaGreatDoor

/-
  Plain words: one number, many writings. No program stands here.
-/
namespace Go.Proofs.YtafbojiojeemoaaGreatDoor
namespace Np
open Go.RowKit

def noughts (n : Nat) : List UInt8 := List.replicate n 48
theorem mk_noughts_ahead (g : Bool) (f : List UInt8) (e : Int) : ∀ n, mk g (noughts n ++ f) e = mk g f e
  | 0 => rfl
  | n + 1 => by
    rw [show noughts (n + 1) ++ f = 48 :: (noughts n ++ f) by simp [noughts, List.replicate_succ], mk_nought_ahead, mk_noughts_ahead g f e n]
theorem trimLeft_behind (f : List UInt8) (b : Nat) : Lib.trimLeftB (f ++ noughts b) 48 = if Lib.trimLeftB f 48 = [] then [] else Lib.trimLeftB f 48 ++ noughts b := by
  induction f with
  | nil =>
    simp only [Lib.trimLeftB, List.nil_append, List.dropWhile_nil, if_true]
    unfold noughts
    induction b with
    | zero => rfl
    | succ b ih => rw [List.replicate_succ, List.dropWhile_cons_of_pos (by simp)]; exact ih
  | cons c t ih =>
    by_cases hc : c = 48
    · subst hc
      have e1 : Lib.trimLeftB (48 :: t ++ noughts b) 48 = Lib.trimLeftB (t ++ noughts b) 48 := by simp [Lib.trimLeftB]
      have e2 : Lib.trimLeftB (48 :: t) 48 = Lib.trimLeftB t 48 := by simp [Lib.trimLeftB]
      rw [e1, e2, ih]
    · have e1 : Lib.trimLeftB (c :: t ++ noughts b) 48 = c :: t ++ noughts b := by simp [Lib.trimLeftB, hc]
      have e2 : Lib.trimLeftB (c :: t) 48 = c :: t := by simp [Lib.trimLeftB, hc]
      rw [e1, e2, if_neg (by simp)]
theorem trimRight_behind (f : List UInt8) : ∀ b, Lib.trimRightB (f ++ noughts b) 48 = Lib.trimRightB f 48
  | 0 => by simp [noughts]
  | b + 1 => by
    rw [show f ++ noughts (b + 1) = (f ++ noughts b) ++ [48] by simp [noughts, List.replicate_succ']]
    rw [← trimRight_behind f b]
    simp [Lib.trimRightB]
theorem mk_noughts_behind (g : Bool) (f : List UInt8) (e : Int) (b : Nat) : mk g (f ++ noughts b) (e - b) = mk g f e := by
  have hfi : figs (f ++ noughts b) = figs f := by simp [figs, noughts, show fig 48 = true by decide]
  have hl := trimLeft_behind f b
  by_cases h : Lib.trimLeftB f 48 = []
  · rw [if_pos h] at hl
    unfold mk
    rw [hfi, hl, h]
    rfl
  · rw [if_neg h] at hl
    have hr : Lib.trimRightB (Lib.trimLeftB (f ++ noughts b) 48) 48 = Lib.trimRightB (Lib.trimLeftB f 48) 48 := by rw [hl, trimRight_behind]
    have hN : mkN g (f ++ noughts b) (e - b) = mkN g f e := by
      obtain ⟨t1, t2⟩ := trim_len f
      unfold mkN
      rw [hr, hl]
      congr 1
      rw [List.length_append]
      simp only [noughts, List.length_replicate]
      unfold wrap64
      omega
    unfold mk
    rw [hfi, hN, hl]
    have e1 : (Lib.trimLeftB f 48 ++ noughts b).isEmpty = (Lib.trimLeftB f 48).isEmpty := by
      cases hc : Lib.trimLeftB f 48 with
      | nil => exact absurd hc h
      | cons a t => rfl
    rw [e1]
theorem mk_many (f : List UInt8) (e : Int) (a b : Nat) : mk false (noughts a ++ f ++ noughts b) (e - b) = mk false f e := by
  rw [List.append_assoc, mk_noughts_ahead, mk_noughts_behind false f e b]
theorem run_whole {l : List UInt8} (h : figs l = true) : run l 0 = l := by
  unfold run
  rw [List.drop_zero, takeWhile_stop l l.length (Nat.le_refl _) (by rw [List.take_length]; exact h) (fun hh => absurd hh (by omega)), List.take_length]
theorem stands_fig {l : List UInt8} {i : Nat} {c : UInt8} (h : figs l = true) (hc : fig c = false) : stands l i c = false := by
  cases hs : stands l i c
  · rfl
  · have hlt := stands_lt hs
    unfold stands at hs
    rw [List.getElem?_eq_getElem hlt] at hs
    have e : l[i] = c := by simpa using hs
    have := figs_at h hlt
    rw [e, hc] at this; cases this
theorem stands_end (l : List UInt8) (c : UInt8) : stands l l.length c = false := by
  cases hs : stands l l.length c
  · rfl
  · exact absurd (stands_lt hs) (by omega)
/-- Figures alone, read, are that number; or they are none, as a nought leads them. -/
theorem read_plain {l : List UInt8} (h : figs l = true) (hne : l ≠ []) : (readF l = ((mk false l 0).1, 0, (mk false l 0).2)) ∨ (readF l).2.2 = 1 := by
  have h45 : stands l 0 45 = false := stands_fig h (by decide)
  have hi0 : i0F l = 0 := by simp [i0F, h45]
  have h46 : ∀ i, stands l i 46 = false := fun i => stands_fig h (by decide)
  have h101 : ∀ i, stands l i 101 = false := fun i => stands_fig h (by decide)
  have h69 : ∀ i, stands l i 69 = false := fun i => stands_fig h (by decide)
  obtain ⟨q1, q2, q3⟩ := at2_no (h46 (i1F l))
  have hx : exF l = false := by simp [exF, h101, h69]
  obtain ⟨r1, r2, r3, r4⟩ := at3_no hx
  cases h48 : stands l (i0F l) 48
  · obtain ⟨p1, p2, p3⟩ := at1_no h48
    rw [hi0, run_whole h] at p1 p2 p3
    have b1 : bad1 l = false := by rw [p1]; cases l with | nil => exact absurd rfl hne | cons a t => rfl
    have e := scan_all b1 q1 r1 (by rw [r4, q3, p3]; omega)
    left
    rw [readF_ok e (by rw [r3]; simp [Lib.trimLeftB])]
    have : mkW ⟨stands l 0 45, wholeF l, partF l, downF l, powF l⟩ = mk false l 0 := by
      show mk _ _ (powOf _ - _) = _
      rw [h45, p2, q2, List.append_nil]
      unfold powOf
      rw [r2, r3]
      rfl
    rw [this]
  · obtain ⟨p1, p2, p3⟩ := at1_yes h48
    rw [hi0] at p3 h48
    by_cases hl : l.length = 1
    · have e := scan_all p1 q1 r1 (by rw [r4, q3, p3, hl])
      left
      rw [readF_ok e (by rw [r3]; simp [Lib.trimLeftB])]
      have hl48 : l = [48] := by
        match l, hl, h48 with
        | [a], _, h48 =>
          unfold stands at h48
          simp at h48
          rw [h48]
      have : mkW ⟨stands l 0 45, wholeF l, partF l, downF l, powF l⟩ = mk false l 0 := by
        show mk _ _ (powOf _ - _) = _
        rw [h45, p2, q2, List.append_nil]
        unfold powOf
        rw [r2, r3, hl48]
        decide
      rw [this]
    · right
      have hlt := stands_lt h48
      rw [read_short p1 q1 (by rw [r4, q3, p3]; omega)]

end Np
end Go.Proofs.YtafbojiojeemoaaGreatDoor

/-
  Plain words: a number's text is read as it was printed. No program stands here.
-/
namespace Go.Proofs.YtafbojiojeemoaaGreatDoor
namespace Np
open Go.RowKit

theorem stands_drop {l R : List UInt8} {i : Nat} (h : l.drop i = R) (c : UInt8) : stands l i c = (R.head? == some c) := by
  unfold stands; rw [← h, List.head?_drop]
theorem run_drop {l R : List UInt8} {i : Nat} (h : l.drop i = R) : run l i = R.takeWhile fig := by unfold run; rw [h]
theorem drop_more {l A B : List UInt8} {i : Nat} (h : l.drop i = A ++ B) : l.drop (i + A.length) = B := by
  rw [← List.drop_drop, h, List.drop_left]
theorem takeWhile_figs {A B : List UInt8} (h : figs A = true) (hB : ∀ c, B.head? = some c → fig c = false) : (A ++ B).takeWhile fig = A := by
  have e : B.takeWhile fig = [] := by
    cases B with
    | nil => rfl
    | cons c t => simp [hB c rfl]
  rw [List.takeWhile_append_of_pos (by unfold figs at h; rw [List.all_eq_true] at h; exact h), e, List.append_nil]
/-- How a number is written. -/
structure Txt where
  g : Bool
  W : List UInt8
  dot : Bool
  P : List UInt8
  ex : Bool
  neg : Bool
  D : List UInt8
def Txt.exp (t : Txt) : List UInt8 := if t.ex = true then 101 :: ((if t.neg = true then [45] else []) ++ t.D) else []
def Txt.point (t : Txt) : List UInt8 := if t.dot = true then 46 :: t.P else []
def Txt.sign (t : Txt) : List UInt8 := if t.g = true then [45] else []
def Txt.text (t : Txt) : List UInt8 := t.sign ++ (t.W ++ (t.point ++ t.exp))
structure Txt.Fine (t : Txt) : Prop where
  w : t.W = [48] ∨ (∃ c r, t.W = c :: r ∧ c ≠ 48)
  wf : figs t.W = true
  p : t.dot = true → t.P ≠ []
  p0 : t.dot = false → t.P = []
  pf : figs t.P = true
  d : t.ex = true → t.D ≠ []
  df : figs t.D = true
  d0 : t.ex = false → t.D = [] ∧ t.neg = false
theorem fig_head {l : List UInt8} {c : UInt8} (h : figs l = true) (hc : l.head? = some c) : fig c = true := by
  cases l with
  | nil => cases hc
  | cons a r => simp at hc; subst hc; simp [figs] at h; exact h.1
theorem scan_text {t : Txt} (h : t.Fine) : ∃ wh, (wh = t.W ∨ t.W = 48 :: wh) ∧ scanF t.text = (⟨t.g, wh, t.P, t.neg, t.D⟩, t.text.length, true) := by
  have hWne : t.W ≠ [] := by rcases h.w with e | ⟨c, r, e, _⟩ <;> rw [e] <;> simp
  have hexp : ∀ c, t.exp.head? = some c → c = 101 := by
    intro c hc; unfold Txt.exp at hc; split at hc
    · simpa using hc.symm
    · cases hc
  have hrest : ∀ c, (t.point ++ t.exp).head? = some c → c = 46 ∨ c = 101 := by
    intro c hc
    unfold Txt.point at hc
    split at hc
    · left; simpa using hc.symm
    · right; exact hexp c (by simpa using hc)
  obtain ⟨a, r, hW⟩ : ∃ a r, t.W = a :: r := by cases hw : t.W with | nil => exact absurd hw hWne | cons a r => exact ⟨a, r, rfl⟩
  have ha : fig a = true := fig_head h.wf (by rw [hW]; rfl)
  have d0 : t.text.drop 0 = t.sign ++ (t.W ++ (t.point ++ t.exp)) := rfl
  have s45 : stands t.text 0 45 = t.g := by
    rw [stands_drop d0]
    unfold Txt.sign
    cases t.g
    · rw [hW]; simp; intro e; subst e; cases ha
    · simp
  have i0 : i0F t.text = t.sign.length := by
    unfold i0F; rw [s45]; unfold Txt.sign; cases t.g <;> simp
  have d1 : t.text.drop (i0F t.text) = t.W ++ (t.point ++ t.exp) := by
    rw [i0]; have := drop_more (i := 0) d0; rwa [Nat.zero_add] at this
  have r1 : run t.text (i0F t.text) = t.W := by
    rw [run_drop d1]
    refine takeWhile_figs h.wf (fun c hc => ?_)
    rcases hrest c hc with e | e <;> rw [e] <;> decide
  have b1 : bad1 t.text = false := by rw [bad1_run, r1, hW]; rfl
  have hw1 : (wholeF t.text = t.W ∨ t.W = 48 :: wholeF t.text) ∧ i1F t.text = i0F t.text + t.W.length := by
    cases h48 : stands t.text (i0F t.text) 48
    · obtain ⟨_, e2, e3⟩ := at1_no h48
      rw [r1] at e2 e3
      exact ⟨.inl e2, e3⟩
    · obtain ⟨_, e2, e3⟩ := at1_yes h48
      rw [stands_drop d1, hW] at h48
      have ha48 : a = 48 := by simpa using h48
      rcases h.w with e | ⟨c, r', e, hc⟩
      · rw [e]
        exact ⟨.inr (by rw [e2]), e3⟩
      · rw [hW] at e; cases e; exact absurd ha48 hc
  have d2 : t.text.drop (i1F t.text) = t.point ++ t.exp := by rw [hw1.2]; exact drop_more d1
  have s46 : stands t.text (i1F t.text) 46 = t.dot := by
    rw [stands_drop d2]
    unfold Txt.point
    cases hd : t.dot
    · simp
      intro e
      have := hexp _ e
      cases this
    · simp
  have hp : partF t.text = t.P ∧ i3F t.text = i1F t.text + t.point.length ∧ bad2 t.text = false := by
    cases hd : t.dot
    · obtain ⟨e1, e2, e3⟩ := at2_no (s46.trans hd)
      exact ⟨by rw [e2, h.p0 hd], by rw [e3]; unfold Txt.point; rw [hd]; simp, e1⟩
    · obtain ⟨e1, e2, e3⟩ := at2_yes (s46.trans hd)
      have d2' : t.text.drop (i1F t.text + 1) = t.P ++ t.exp := by
        have : t.text.drop (i1F t.text) = [46] ++ (t.P ++ t.exp) := by rw [d2]; unfold Txt.point; rw [hd]; rfl
        exact drop_more this
      have r2 : run t.text (i1F t.text + 1) = t.P := by
        rw [run_drop d2']
        exact takeWhile_figs h.pf (fun c hc => by rw [hexp c hc]; decide)
      rw [r2] at e1 e2 e3
      refine ⟨e2, by rw [e3]; unfold Txt.point; rw [hd]; simp; omega, ?_⟩
      rw [e1]
      cases hP : t.P with
      | nil => exact absurd hP (h.p hd)
      | cons a r => rfl
  obtain ⟨p1, p2, p3⟩ := hp
  have d3 : t.text.drop (i3F t.text) = t.exp := by rw [p2]; exact drop_more d2
  have hlen : t.text.length = i3F t.text + t.exp.length := by
    have := congrArg List.length d3
    rw [List.length_drop] at this
    have hle := i3F_le t.text
    omega
  have s69 : stands t.text (i3F t.text) 69 = false := by
    rw [stands_drop d3]
    simp
    intro e
    have := hexp _ e
    cases this
  have s101 : stands t.text (i3F t.text) 101 = t.ex := by
    rw [stands_drop d3]
    unfold Txt.exp
    cases t.ex <;> simp
  have hx : exF t.text = t.ex := by unfold exF; rw [s69, s101, Bool.or_false]
  refine ⟨wholeF t.text, hw1.1, ?_⟩
  cases he : t.ex
  · obtain ⟨q1, q2, q3, q4⟩ := at3_no (hx.trans he)
    obtain ⟨hD, hN⟩ := h.d0 he
    rw [scan_all b1 p3 q1 (by rw [q4, hlen]; unfold Txt.exp; rw [he]; simp), s45, p1, q2, q3, hD, hN, q4, hlen]
    unfold Txt.exp
    rw [he]; simp
  · have hxt := hx.trans he
    have d4 : t.text.drop (i3F t.text + 1) = (if t.neg = true then [45] else []) ++ t.D := by
      have : t.text.drop (i3F t.text) = [101] ++ ((if t.neg = true then [45] else []) ++ t.D) := by rw [d3]; unfold Txt.exp; rw [he]; rfl
      exact drop_more this
    obtain ⟨b, rb, hD⟩ : ∃ b rb, t.D = b :: rb := by cases hd : t.D with | nil => exact absurd hd (h.d he) | cons b rb => exact ⟨b, rb, rfl⟩
    have hb : fig b = true := fig_head h.df (by rw [hD]; rfl)
    have s43 : stands t.text (i3F t.text + 1) 43 = false := by
      rw [stands_drop d4]
      cases t.neg
      · rw [hD]; simp; intro e; subst e; cases hb
      · simp
    have s45' : stands t.text (i3F t.text + 1) 45 = t.neg := by
      rw [stands_drop d4]
      cases t.neg
      · rw [hD]; simp; intro e; subst e; cases hb
      · simp
    obtain ⟨e1, e2⟩ := at5_rest hxt s43
    rw [s45'] at e1 e2
    have d5 : t.text.drop (i5F t.text) = t.D ++ [] := by
      rw [e2, List.append_nil]
      have := drop_more d4
      cases hn : t.neg
      · rw [hn] at this; simpa using this
      · rw [hn] at this; simpa using this
    have r5 : run t.text (i5F t.text) = t.D := by
      rw [run_drop d5]; exact takeWhile_figs h.df (fun c hc => by cases hc)
    obtain ⟨q1, q2, q3⟩ := at3_yes hxt
    rw [r5] at q1 q2 q3
    have q1' : bad3 t.text = false := by rw [q1, hD]; rfl
    have hl6 : i6F t.text = t.text.length := by
      have := congrArg List.length d5
      rw [List.length_drop, List.append_nil] at this
      have hle := i5F_le t.text
      rw [q3]; omega
    rw [scan_all b1 p3 q1' hl6, s45, p1, e1, q2, hl6]

end Np
end Go.Proofs.YtafbojiojeemoaaGreatDoor

/-
  Plain words: what is printed is read as it was; what is read is right. No program stands here.
-/
namespace Go.Proofs.YtafbojiojeemoaaGreatDoor
namespace Np
open Go.RowKit

theorem read_text {t : Txt} (h : t.Fine) (h6 : ¬ 6 < (Lib.trimLeftB t.D 48).length) :
    readF t.text = ((mk t.g (t.W ++ t.P) ((if t.neg = true then -(worth (Lib.trimLeftB t.D 48) : Int) else (worth (Lib.trimLeftB t.D 48) : Int)) - t.P.length)).1, 0,
      (mk t.g (t.W ++ t.P) ((if t.neg = true then -(worth (Lib.trimLeftB t.D 48) : Int) else (worth (Lib.trimLeftB t.D 48) : Int)) - t.P.length)).2) := by
  obtain ⟨wh, hw, e⟩ := scan_text h
  rw [readF_ok e h6]
  have : mkW ⟨t.g, wh, t.P, t.neg, t.D⟩ = mk t.g (t.W ++ t.P) ((if t.neg = true then -(worth (Lib.trimLeftB t.D 48) : Int) else (worth (Lib.trimLeftB t.D 48) : Int)) - t.P.length) := by
    show mk t.g (wh ++ t.P) (powOf _ - _) = _
    unfold powOf
    rcases hw with e | e
    · rw [e]
    · rw [e, List.cons_append, mk_nought_ahead]
  rw [this]
theorem repeat_noughts : ∀ n, Lib.repeatL [48] n = noughts n
  | 0 => rfl
  | n + 1 => by
    show [48] ++ Lib.repeatL [48] n = _
    rw [repeat_noughts n]; simp [noughts, List.replicate_succ]
theorem mk_right {n : Nd} (hr : right n = true) (hs : n.s ≠ []) : mk n.neg n.s n.e = (n, 0) := by
  obtain ⟨h1, h2, h3, ⟨h4, _⟩ | ⟨_, hf, he1, he2⟩⟩ := (right_iff n).1 hr
  · exact absurd h4 hs
  obtain ⟨k, m, nm, s, g, e⟩ := n
  simp only at h1 h2 h3 hs hf he1 he2 ⊢
  subst h1 h2 h3
  obtain ⟨c, t, hct⟩ : ∃ c t, s = c :: t := by cases s with | nil => exact absurd rfl hs | cons c t => exact ⟨c, t, rfl⟩
  have hf' := hf
  unfold rfigs at hf
  simp only [Bool.and_eq_true, decide_eq_true_eq, bne_iff_ne] at hf
  obtain ⟨⟨⟨hl, hfi⟩, hh⟩, hla⟩ := hf
  have hc : c ≠ 48 := by rw [hct] at hh; exact hh
  have tl : Lib.trimLeftB s 48 = s := by rw [hct]; simp [Lib.trimLeftB, hc]
  have tr : Lib.trimRightB s 48 = s := by
    rcases List.eq_nil_or_concat s with h | ⟨q, b, h⟩
    · exact absurd h hs
    · rw [h, List.concat_eq_append] at hla ⊢
      exact trimRight_snoc q b (by simpa using hla)
  have hN : mkN g s e = ⟨3, 0, [], s, g, e⟩ := by
    unfold mkN
    rw [tl, tr]
    congr 1
    unfold wrap64
    omega
  have h := mk_ok g s e hfi (by rw [tl, hct]; rfl) (by rw [hN]; exact hr)
  rw [h, hN]
theorem worth_from (l : List UInt8) : worth (48 :: l) = worth l := by simp [worth]
theorem worth_trim : ∀ l : List UInt8, worth (Lib.trimLeftB l 48) = worth l
  | [] => rfl
  | c :: t => by
    by_cases hc : c = 48
    · subst hc
      rw [show Lib.trimLeftB (48 :: t) 48 = Lib.trimLeftB t 48 by simp [Lib.trimLeftB], worth_trim t, worth_from]
    · rw [show Lib.trimLeftB (c :: t) 48 = c :: t by simp [Lib.trimLeftB, hc]]
theorem dig_nat (d : Nat) (h : d < 10) : (UInt8.ofNat (48 + d)).toNat = 48 + d := by
  rw [UInt8.toNat_ofNat']; omega
theorem dec_worth (u : Nat) : worth (Lib.decDigits u) = u ∧ figs (Lib.decDigits u) = true ∧ Lib.decDigits u ≠ [] := by
  induction u using Nat.strongRecOn with
  | _ u ih =>
    rw [Lib.decDigits]
    split
    · rename_i h
      refine ⟨?_, ?_, by simp⟩
      · simp [worth]; omega
      · simp [figs, fig]; omega
    · rename_i h
      obtain ⟨i1, i2, i3⟩ := ih (u / 10) (by omega)
      have := dig_nat (u % 10) (by omega)
      refine ⟨?_, ?_, by simp⟩
      · rw [worth_snoc, i1, this]; omega
      · rw [figs_snoc, i2]; simp [fig]; omega
theorem dec_len (u : Nat) (h : u ≤ 1000) : (Lib.decDigits u).length ≤ 4 := by
  rw [Lib.decDigits]
  split
  · simp
  · rw [Lib.decDigits]
    split
    · simp
    · rw [Lib.decDigits]
      split
      · simp
      · rw [Lib.decDigits]
        split
        · simp
        · omega
theorem figs_append {a b : List UInt8} : figs (a ++ b) = (figs a && figs b) := by simp [figs]
theorem figs_noughts (n : Nat) : figs (noughts n) = true := by
  simp [figs, noughts, show fig 48 = true by decide]
/-- What is printed is read as it was. -/
theorem print_back {n : Nd} (hr : right n = true) : readF (printN n.s n.neg n.e) = (n, 0, 0) := by
  by_cases hs : n.s = []
  · obtain ⟨h1, h2, h3, ⟨_, h5, h6⟩ | ⟨h4, _⟩⟩ := (right_iff n).1 hr
    · obtain ⟨k, m, nm, s, g, e⟩ := n
      simp only at h1 h2 h3 hs h5 h6 ⊢
      subst h1 h2 h3 hs h5 h6
      decide +kernel
    · exact absurd hs h4
  have hmk := mk_right hr hs
  obtain ⟨_, _, _, ⟨h4, _⟩ | ⟨_, hf, he1, he2⟩⟩ := (right_iff n).1 hr
  · exact absurd h4 hs
  obtain ⟨k, m, nm, f, g, e⟩ := n
  simp only at hs hmk hf he1 he2 ⊢
  obtain ⟨c, t, hct⟩ : ∃ c t, f = c :: t := by cases f with | nil => exact absurd rfl hs | cons c t => exact ⟨c, t, rfl⟩
  unfold rfigs at hf
  simp only [Bool.and_eq_true, decide_eq_true_eq, bne_iff_ne] at hf
  obtain ⟨⟨⟨hl, hfi⟩, hh⟩, hla⟩ := hf
  have hc : c ≠ 48 := by rw [hct] at hh; exact hh
  have hpos : 0 < f.length := by rw [hct]; simp
  have key : ∀ x : Txt, x.Fine → printN f g e = x.text → ¬ 6 < (Lib.trimLeftB x.D 48).length → mk x.g (x.W ++ x.P) ((if x.neg = true then -(worth (Lib.trimLeftB x.D 48) : Int) else (worth (Lib.trimLeftB x.D 48) : Int)) - x.P.length) = (⟨k, m, nm, f, g, e⟩, 0) → readF (printN f g e) = (⟨k, m, nm, f, g, e⟩, 0, 0) := by
    intro x hx h1 h2 h3
    rw [h1, read_text hx h2, h3]
  have hpr : printN f g e = (if g = true then [45] else []) ++ printS f e := by unfold printN; cases g <;> simp
  have hps : printS f e = if 0 ≤ e ∧ e ≤ 20 - f.length then f ++ Lib.repeatL [48] e.toNat else if -20 ≤ e ∧ e ≤ -1 then pointF f (-e).toNat else f ++ 101 :: Lib.itoa e := by
    unfold printS; rw [if_neg (by rw [hct]; simp)]
  by_cases c1 : 0 ≤ e ∧ e ≤ 20 - f.length
  · rw [if_pos c1, repeat_noughts] at hps
    refine key ⟨g, f ++ noughts e.toNat, false, [], false, false, []⟩ ⟨.inr ⟨c, t ++ noughts e.toNat, by rw [hct]; rfl, hc⟩, by rw [figs_append, hfi, figs_noughts]; rfl, (fun h => by cases h), fun _ => rfl, rfl, (fun h => by cases h), rfl, fun _ => ⟨rfl, rfl⟩⟩ ?_ (by simp [Lib.trimLeftB]) ?_
    · rw [hpr, hps]; simp [Txt.text, Txt.sign, Txt.point, Txt.exp]
    · have := mk_noughts_behind g f e e.toNat
      rw [show e - (e.toNat : Int) = 0 by omega] at this
      show mk g (f ++ noughts e.toNat ++ []) _ = _
      rw [List.append_nil]
      exact this.trans hmk
  rw [if_neg c1] at hps
  by_cases c2 : -20 ≤ e ∧ e ≤ -1
  · rw [if_pos c2] at hps
    obtain ⟨b, hb⟩ : ∃ b : Nat, e = -(b : Int) := ⟨(-e).toNat, by omega⟩
    have hbn : (-e).toNat = b := by omega
    rw [hbn] at hps
    have hplen := padF_len f b
    have hpad : padF f b = noughts (b + 1 - f.length) ++ f := by unfold padF; rw [repeat_noughts]
    have hpf : figs (padF f b) = true := by rw [hpad, figs_append, figs_noughts, hfi]; rfl
    have hW : (padF f b).take ((padF f b).length - b) = [48] ∨ ∃ a r, (padF f b).take ((padF f b).length - b) = a :: r ∧ a ≠ 48 := by
      by_cases hk : f.length ≤ b
      · left
        have hlp : (padF f b).length = b + 1 := by rw [hpad, List.length_append]; simp [noughts]; omega
        rw [hlp, show b + 1 - b = 1 by omega, hpad]
        obtain ⟨j, hj⟩ : ∃ j, b + 1 - f.length = j + 1 := ⟨b - f.length, by omega⟩
        rw [hj]; simp [noughts, List.replicate_succ]
      · right
        have : padF f b = f := padF_long (by omega)
        rw [this, hct]
        obtain ⟨j, hj⟩ : ∃ j, (c :: t).length - b = j + 1 := ⟨(c :: t).length - b - 1, by rw [← hct]; omega⟩
        rw [hj]
        exact ⟨c, t.take j, by simp, hc⟩
    have hdl : ((padF f b).drop ((padF f b).length - b)).length = b := by rw [List.length_drop]; omega
    refine key ⟨g, (padF f b).take ((padF f b).length - b), true, (padF f b).drop ((padF f b).length - b), false, false, []⟩ ⟨hW, figs_take hpf _, fun _ h => ?_, (fun h => by cases h), ?_, (fun h => by cases h), rfl, fun _ => ⟨rfl, rfl⟩⟩ ?_ (by simp [Lib.trimLeftB]) ?_
    · simp only at h
      rw [h] at hdl
      simp at hdl
      omega
    · have := hpf
      rw [← List.take_append_drop ((padF f b).length - b) (padF f b), figs_append, Bool.and_eq_true] at this
      exact this.2
    · rw [hpr, hps]
      unfold pointF
      simp [Txt.text, Txt.sign, Txt.point, Txt.exp]
    · show mk g ((padF f b).take _ ++ (padF f b).drop _) (_ - ((padF f b).drop ((padF f b).length - b)).length) = _
      rw [List.take_append_drop, hdl, hpad, mk_noughts_ahead]
      rw [hb] at hmk
      rw [hb]
      simp only [Lib.trimLeftB, List.dropWhile_nil]
      rw [show (if (false : Bool) = true then -(worth ([] : List UInt8) : Int) else (worth ([] : List UInt8) : Int)) - (b : Int) = -(b : Int) by simp [worth]]
      exact hmk
  rw [if_neg c2] at hps
  by_cases c3 : e < 0
  · obtain ⟨w1, w2, w3⟩ := dec_worth e.natAbs
    have hit : Lib.itoa e = 45 :: Lib.decDigits e.natAbs := by unfold Lib.itoa; rw [if_pos c3]
    refine key ⟨g, f, false, [], true, true, Lib.decDigits e.natAbs⟩ ⟨.inr ⟨c, t, hct, hc⟩, hfi, (fun h => by cases h), fun _ => rfl, rfl, fun _ => w3, w2, (fun h => by cases h)⟩ ?_ ?_ ?_
    · rw [hpr, hps, hit]; simp [Txt.text, Txt.sign, Txt.point, Txt.exp]
    · have h1 := (List.dropWhile_suffix (l := Lib.decDigits e.natAbs) (· == (48 : UInt8))).length_le
      have h2 := dec_len e.natAbs (by omega)
      show ¬ 6 < (Lib.trimLeftB (Lib.decDigits e.natAbs) 48).length
      unfold Lib.trimLeftB
      omega
    · show mk g (f ++ []) _ = _
      rw [List.append_nil, worth_trim, w1]
      simp only [if_true, List.length_nil]
      rw [show -(e.natAbs : Int) - ((0 : Nat) : Int) = e by omega]
      exact hmk
  · obtain ⟨w1, w2, w3⟩ := dec_worth e.toNat
    have hit : Lib.itoa e = Lib.decDigits e.toNat := by unfold Lib.itoa; rw [if_neg c3]
    refine key ⟨g, f, false, [], true, false, Lib.decDigits e.toNat⟩ ⟨.inr ⟨c, t, hct, hc⟩, hfi, (fun h => by cases h), fun _ => rfl, rfl, fun _ => w3, w2, (fun h => by cases h)⟩ ?_ ?_ ?_
    · rw [hpr, hps, hit]; simp [Txt.text, Txt.sign, Txt.point, Txt.exp]
    · have h1 := (List.dropWhile_suffix (l := Lib.decDigits e.toNat) (· == (48 : UInt8))).length_le
      have h2 := dec_len e.toNat (by omega)
      show ¬ 6 < (Lib.trimLeftB (Lib.decDigits e.toNat) 48).length
      unfold Lib.trimLeftB
      omega
    · show mk g (f ++ []) _ = _
      rw [List.append_nil, worth_trim, w1]
      simp only [Bool.false_eq_true, if_false, List.length_nil]
      rw [show ((e.toNat : Nat) : Int) - ((0 : Nat) : Int) = e by omega]
      exact hmk
/-- What is read is right, or there is none. -/
theorem mk_cases (g : Bool) (f : List UInt8) (e : Int) (hf : figs f = true) : ((mk g f e).2 = 0 ∧ right (mk g f e).1 = true) ∨ mk g f e = (nd0, 2) := by
  cases h : (Lib.trimLeftB f 48).isEmpty
  · cases h2 : right (mkN g f e)
    · right; exact mk_large g f e hf h h2
    · left; rw [mk_ok g f e hf h h2]; exact ⟨rfl, h2⟩
  · left; rw [mk_nought g f e hf h]; exact ⟨rfl, by decide⟩
theorem read_cases (l : List UInt8) : ((readF l).2.2 = 0 ∧ right (readF l).1 = true) ∨ ((readF l).1 = nd0 ∧ ((readF l).2.2 = 1 ∨ (readF l).2.2 = 2)) := by
  unfold readF
  split
  · exact .inr ⟨rfl, .inl rfl⟩
  split
  · exact .inr ⟨rfl, .inr rfl⟩
  obtain ⟨h1, h2, _⟩ := scanF_figs l
  rcases mk_cases (scanF l).1.neg ((scanF l).1.whole ++ (scanF l).1.part) (powOf (scanF l).1 - (scanF l).1.part.length) (by rw [figs_append, h1, h2]; rfl) with h | h
  · exact .inl h
  · right
    show (mkW (scanF l).1).1 = nd0 ∧ ((mkW (scanF l).1).2 = 1 ∨ (mkW (scanF l).1).2 = 2)
    unfold mkW
    rw [h]
    exact ⟨rfl, .inr rfl⟩

end Np
end Go.Proofs.YtafbojiojeemoaaGreatDoor

/-
  Plain words: a value's text is read as it. No program stands here.
-/
namespace Go.Proofs.YtafbojiojeemoaaGreatDoor
namespace Tp
open Go.RowKit Np Rw Vp Up Qp

/-! ### numbers -/
set_option maxRecDepth 10000 in
theorem fig_num {c : UInt8} (h : fig c = true) : numB.contains c = true := by
  have key : ∀ n, n < 58 → 48 ≤ n → numB.contains (UInt8.ofNat n) = true := by decide
  rw [fig_iff] at h
  have := key c.toNat (by omega) h.1
  rwa [UInt8.ofNat_toNat] at this
theorem figs_num {l : List UInt8} (h : figs l = true) : ∀ c ∈ l, numB.contains c = true := fun c hc => fig_num (List.all_eq_true.1 h c hc)
theorem itoa_num (e : Int) : ∀ c ∈ Lib.itoa e, numB.contains c = true := by
  intro c hc
  unfold Lib.itoa at hc
  split at hc
  · rcases List.mem_cons.1 hc with rfl | hc
    · decide
    · exact figs_num (dec_worth _).2.1 c hc
  · exact figs_num (dec_worth _).2.1 c hc
theorem rep_figs : ∀ n, figs (Lib.repeatL [48] n) = true
  | 0 => rfl
  | n + 1 => by rw [Lib.repeatL]; simpa [figs] using (show fig 48 = true ∧ _ from ⟨by decide, by have := rep_figs n; simpa [figs] using this⟩)
theorem padF_figs {f : List UInt8} (hf : figs f = true) (b : Nat) : figs (padF f b) = true := by
  unfold padF
  rw [figs_append, hf, Bool.and_true]
  exact rep_figs _
theorem printS_num {f : List UInt8} (hf : figs f = true) (e : Int) : ∀ c ∈ printS f e, numB.contains c = true := by
  intro c hc
  unfold printS at hc
  split at hc
  · simp at hc; subst hc; decide
  · split at hc
    · rcases List.mem_append.1 hc with hc | hc
      · exact figs_num hf c hc
      · exact figs_num (rep_figs _) c hc
    · split at hc
      · unfold pointF at hc
        rcases List.mem_append.1 hc with hc | hc
        · exact figs_num (padF_figs hf _) c (List.mem_of_mem_take hc)
        · rcases List.mem_cons.1 hc with rfl | hc
          · decide
          · exact figs_num (padF_figs hf _) c (List.mem_of_mem_drop hc)
      · rcases List.mem_append.1 hc with hc | hc
        · exact figs_num hf c hc
        · rcases List.mem_cons.1 hc with rfl | hc
          · decide
          · exact itoa_num e c hc
theorem printN_num {f : List UInt8} (hf : figs f = true) (g : Bool) (e : Int) : ∀ c ∈ printN f g e, numB.contains c = true := by
  intro c hc
  unfold printN at hc
  split at hc
  · rcases List.mem_cons.1 hc with rfl | hc
    · decide
    · exact printS_num hf e c hc
  · exact printS_num hf e c hc
theorem readF_first {l : List UInt8} (h : (readF l).2.2 = 0) : bt l 0 = 45 ∨ 48 ≤ bt l 0 ∧ bt l 0 ≤ 57 := by
  rcases Classical.em (bt l 0 = 45 ∨ 48 ≤ bt l 0 ∧ bt l 0 ≤ 57) with h1 | h1
  · exact h1
  · exfalso
    have hb : bad1 l = true := by
      have h0 : i0F l = 0 := by
        unfold i0F
        rw [if_neg]
        intro hs
        apply h1
        left
        cases l with
        | nil => simp [stands] at hs
        | cons c l => simp [stands] at hs; subst hs; rfl
      unfold bad1
      rw [h0]
      cases l with
      | nil => simp [stands, Np.run]
      | cons c l =>
        have hc : ¬ (48 ≤ c.toNat ∧ c.toNat ≤ 57) := fun h => h1 (.inr h)
        have hf : fig c = false := by
          cases hfc : fig c with
          | false => rfl
          | true => exact absurd ((fig_iff c).1 hfc) hc
        have h48 : c ≠ 48 := by rintro rfl; exact hc ⟨by decide, by decide⟩
        simp [stands, Np.run, hf, h48]
    unfold readF at h
    rw [scanF_1 hb] at h
    simp at h
theorem takeWhile_all {p : UInt8 → Bool} : ∀ {l : List UInt8} (Q : List UInt8), (∀ c ∈ l, p c = true) → (∀ c, Q.head? = some c → p c = false) → (l ++ Q).takeWhile p = l
  | [], [], _, _ => rfl
  | [], c :: Q, _, h => by rw [List.nil_append, List.takeWhile_cons, h c rfl]; rfl
  | a :: l, Q, h1, h2 => by
    rw [List.cons_append, List.takeWhile_cons, h1 a (by simp), if_pos rfl, takeWhile_all Q (fun c hc => h1 c (by simp [hc])) h2]
/-- What may stand behind a number. -/
def Stop (Q : List UInt8) : Prop := ∀ c, Q.head? = some c → numB.contains c = false
theorem Stop.nil : Stop [] := fun c h => by cases h
theorem Stop.cons {c : UInt8} {Q : List UInt8} (h : numB.contains c = false) : Stop (c :: Q) := fun x hx => by injection hx with hx; subst hx; exact h
theorem nu_back {S Q : List UInt8} {i : Nat} {n : Nd} (hr : right n = true) (h : S.drop i = printN n.s n.neg n.e ++ Q) (hQ : Stop Q) : nuR S i = .ok [n] (i + (printN n.s n.neg n.e).length) ∧ (bt S i = 45 ∨ 48 ≤ bt S i ∧ bt S i ≤ 57) := by
  have hf : figs n.s = true := by
    rcases Classical.em (n.s = []) with e | e
    · rw [e]; rfl
    · obtain ⟨_, _, _, ⟨h4, _⟩ | ⟨_, hg, _, _⟩⟩ := (right_iff n).1 hr
      · exact absurd h4 e
      · unfold rfigs at hg
        simp only [Bool.and_eq_true] at hg
        exact hg.1.1.2
  have hT : nuT S i = printN n.s n.neg n.e := by
    unfold nuT
    rw [h]
    exact takeWhile_all Q (printN_num hf _ _) hQ
  have hb := print_back hr
  refine ⟨?_, ?_⟩
  · unfold nuR
    rw [hT, hb]
    rfl
  · have h1 := readF_first (l := printN n.s n.neg n.e) (by rw [hb])
    have h2 : bt (printN n.s n.neg n.e) 0 = bt S i := by
      have : bt (S.drop i) 0 = bt S i := by rw [bt_drop, Nat.add_zero]
      rw [← this, h]
      cases hp : printN n.s n.neg n.e with
      | nil => rw [hp] at h1; simp [bt] at h1
      | cons c l => rfl
    rwa [← h2]
end Tp
end Go.Proofs.YtafbojiojeemoaaGreatDoor

/-
  Plain words: a value's text is read as it: lists, objects, all. No program stands here.
-/
namespace Go.Proofs.YtafbojiojeemoaaGreatDoor
namespace Tp
open Go.RowKit Np Rw Vp Up Qp

def Blk (B : List UInt8) : Prop := ∀ c ∈ B, blk c.toNat = true
theorem Blk.nil : Blk [] := fun c h => by cases h
theorem drop_of {S a b : List UInt8} {i : Nat} (h : S.drop i = a ++ b) : S.drop (i + a.length) = b := by
  rw [← List.drop_drop, h, List.drop_left]
theorem bt_of {S R : List UInt8} {i : Nat} {c : UInt8} (h : S.drop i = c :: R) : bt S i = c.toNat := by
  have : bt (S.drop i) 0 = bt S i := by rw [bt_drop, Nat.add_zero]
  rw [← this, h]; rfl
theorem skF_blanks : ∀ (B R : List UInt8) (i : Nat), Blk B → (∀ c, R.head? = some c → blk c.toNat = false) → skF (B ++ R) i = i + B.length
  | [], [], i, _, _ => rfl
  | [], c :: R, i, _, h => by rw [List.nil_append, skF, if_neg (by rw [h c rfl]; decide)]; rfl
  | b :: B, R, i, hB, h => by
    rw [List.cons_append, skF, if_pos (hB b (by simp)), skF_blanks B R (i + 1) (fun c hc => hB c (by simp [hc])) h, List.length_cons]; omega
theorem sk_blanks {S B R : List UInt8} {i : Nat} (h : S.drop i = B ++ R) (hB : Blk B) (hR : ∀ c, R.head? = some c → blk c.toNat = false) : sk S i = i + B.length := by
  unfold sk; rw [h]; exact skF_blanks B R i hB hR
theorem sk_here {S R : List UInt8} {i : Nat} {c : UInt8} (h : S.drop i = c :: R) (hc : blk c.toNat = false) : sk S i = i := by
  have := sk_blanks (B := []) (R := c :: R) h Blk.nil (fun x hx => by injection hx with hx; subst hx; exact hc)
  simpa using this
theorem vlR_sk (S : List UInt8) (n i : Nat) : vlR S n i = vlR S n (sk S i) := by
  cases n with
  | zero => rw [vlR_zero, vlR_zero, sk_sk]
  | succ n => rw [vlR_succ, vlR_succ, sk_sk]
theorem blk_prL (ln : Bool) (d : Nat) : Blk (prL ln d) := by
  intro c hc
  unfold prL at hc
  split at hc
  · rcases List.mem_cons.1 hc with rfl | hc
    · decide
    · rw [List.mem_replicate] at hc; rw [hc.2]; decide
  · cases hc
theorem blk_num {c : UInt8} (h : blk c.toNat = true) : numB.contains c = false := by
  have e : c = UInt8.ofNat c.toNat := by simp
  simp [blk] at h
  rw [e]
  rcases h with ((h | h) | h) | h <;> rw [h] <;> decide

section
variable {α β : Type} {rd : Nat → Rs α} {put : β → α → β} {S : List UInt8}
/-- One reads what one is. -/
def Reads (rd : Nat → Rs α) (S : List UInt8) (x : α × List UInt8) : Prop := ∀ i B Q, Blk B → S.drop i = B ++ (x.2 ++ Q) → Stop Q → rd i = .ok x.1 (i + B.length + x.2.length)
def tl (P : List UInt8) : List (α × List UInt8) → List UInt8
  | [] => []
  | x :: its => 44 :: (P ++ (x.2 ++ tl P its))
theorem loop_back {c : UInt8} {P E : List UInt8} (hP : Blk P) (hE : Blk E) (hc : blk c.toNat = false) (hcn : numB.contains c = false) (hc44 : c.toNat ≠ 44) :
    ∀ (its : List (α × List UInt8)) (x : α × List UInt8) (m i : Nat) (B : List UInt8) (acc : β) (Q : List UInt8), its.length < m → Blk B → (∀ y ∈ x :: its, Reads rd S y) → S.drop i = B ++ (x.2 ++ (tl P its ++ (E ++ c :: Q))) →
      lpR rd put S c.toNat m i acc = .ok ((x :: its).foldl (fun a y => put a y.1) acc) (i + B.length + x.2.length + (tl P its).length + E.length + 1)
  | its, x, 0, i, B, acc, Q, hm, _, _, _ => by omega
  | [], x, m + 1, i, B, acc, Q, hm, hB, hR, h => by
    have hst : Stop (tl (α := α) P [] ++ (E ++ c :: Q)) := by
      show Stop (E ++ c :: Q)
      cases E with
      | nil => exact Stop.cons hcn
      | cons e E => exact Stop.cons (blk_num (hE e (by simp)))
    rw [lpR_ok (hR x (by simp) i B _ hB h hst), lpA]
    have h1 := drop_of h
    have h2 := drop_of h1
    have h3 : S.drop (i + B.length + x.2.length) = E ++ (c :: Q) := h2
    have h4 := sk_blanks h3 hE (fun y hy => by injection hy with hy; subst hy; exact hc)
    have h5 := bt_of (drop_of h3)
    rw [h4, if_pos h5]
    rfl
  | u :: us, x, m + 1, i, B, acc, Q, hm, hB, hR, h => by
    have hst : Stop (tl P (u :: us) ++ (E ++ c :: Q)) := Stop.cons (by decide)
    rw [lpR_ok (hR x (by simp) i B _ hB h hst), lpA]
    have h1 := drop_of h
    have h2 := drop_of h1
    have h3 : S.drop (i + B.length + x.2.length) = 44 :: (P ++ (u.2 ++ tl P us) ++ (E ++ c :: Q)) := h2
    have h4 := sk_here h3 (by decide)
    have h5 := bt_of h3
    rw [h4, if_neg (by rw [h5]; exact fun e => hc44 e.symm), if_pos (by rw [h5]; rfl)]
    have h6 : S.drop (i + B.length + x.2.length + 1) = P ++ (u.2 ++ (tl P us ++ (E ++ c :: Q))) := by
      have := drop_of (a := [44]) (b := P ++ (u.2 ++ tl P us) ++ (E ++ c :: Q)) h3
      rw [List.length_singleton] at this
      rw [this]; simp
    rw [loop_back hP hE hc hcn hc44 us u m _ P (put acc x.1) Q (by simp at hm; omega) hP (fun y hy => hR y (by simp [hy])) h6]
    refine congrArg (Rs.ok _) ?_
    simp only [tl, List.length_cons, List.length_append]
    omega
/-- What stands between the marks. -/
theorem part_back {c : UInt8} {P E : List UInt8} (hP : Blk P) (hE : Blk E) (hc : blk c.toNat = false) (hcn : numB.contains c = false) (hc44 : c.toNat ≠ 44) (zero : β) (x : α × List UInt8) (its : List (α × List UInt8)) (o : UInt8) (j : Nat) (Q : List UInt8)
    (hR : ∀ y ∈ x :: its, Reads rd S y) (hx : ∃ a T, x.2 = a :: T ∧ blk a.toNat = false ∧ a.toNat ≠ c.toNat) (h : S.drop j = o :: (P ++ (x.2 ++ (tl P its ++ (E ++ c :: Q))))) :
    ptR rd put zero S c.toNat j = .ok ((x :: its).foldl (fun a y => put a y.1) zero) (j + 1 + P.length + x.2.length + (tl P its).length + E.length + 1) := by
  obtain ⟨a, T, hxe, ha, hac⟩ := hx
  have h1 : S.drop (j + 1) = P ++ (x.2 ++ (tl P its ++ (E ++ c :: Q))) := drop_of (a := [o]) h
  have h2 : sk S (j + 1) = j + 1 + P.length := sk_blanks h1 hP (fun y hy => by rw [hxe] at hy; injection hy with hy; subst hy; exact ha)
  have h3 := drop_of h1
  have h4 : bt S (j + 1 + P.length) = a.toNat := by rw [hxe] at h3; exact bt_of h3
  unfold ptR
  rw [h2, if_neg (by rw [h4]; exact hac)]
  have hm : its.length < S.length + 1 := by
    have e := congrArg List.length h3
    rw [List.length_drop] at e
    have : ∀ l : List (α × List UInt8), l.length ≤ (tl P l).length := by
      intro l
      induction l with
      | nil => simp
      | cons y l ih => simp only [tl, List.length_cons, List.length_append]; omega
    have := this its
    simp only [List.length_append] at e
    omega
  rw [loop_back hP hE hc hcn hc44 its x _ _ [] zero Q hm Blk.nil hR (by rw [List.nil_append]; exact h3)]
  simp
theorem part_none {c : UInt8} (hc : blk c.toNat = false) (zero : β) (o : UInt8) (j : Nat) (Q : List UInt8) (h : S.drop j = o :: c :: Q) : ptR rd put zero S c.toNat j = .ok zero (j + 2) := by
  have h1 : S.drop (j + 1) = c :: Q := drop_of (a := [o]) h
  have h2 := sk_here h1 hc
  unfold ptR
  rw [h2, if_pos (bt_of h1)]
end
end Tp
end Go.Proofs.YtafbojiojeemoaaGreatDoor

/-
  Plain words: how long a number is written. No program stands here.
-/
namespace Go.Proofs.YtafbojiojeemoaaGreatDoor
open Go.RowKit Np

theorem print_short (f : List UInt8) (g : Bool) (e : Int) (h1 : -9223372036854775808 ≤ e) (h2 : e ≤ 9223372036854775807) : (printN f g e).length ≤ f.length + 60 := by
  have hS : (printS f e).length ≤ f.length + 50 := by
    unfold printS
    split
    · simp
    split
    · rw [List.length_append, Lib.repeatL_length]; simp; omega
    split
    · have h := padF_le f (-e).toNat
      have h2 := padF_len f (-e).toNat
      unfold pointF
      simp only [List.length_append, List.length_take, List.length_cons, List.length_drop]
      omega
    · have := Lib.itoa_length_le e h1 h2
      simp only [List.length_append, List.length_cons]
      omega
  unfold printN
  split
  · simp only [List.length_cons]; omega
  · omega
end Go.Proofs.YtafbojiojeemoaaGreatDoor
