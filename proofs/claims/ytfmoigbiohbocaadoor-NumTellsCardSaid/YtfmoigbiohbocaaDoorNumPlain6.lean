/-
  Plain words: noughts are taken off figures one by one; what a power comes to. No program stands here.
-/
import Derived.Test.YtfmoigbiohbocaaDoorNumPlain5
import Derived.Lib.Strings
namespace Go.Proofs.YtfmoigbiohbocaaDoor
namespace Np
open Go.RowKit

theorem extract_len (s : ByteArray) (a b : Nat) (h : a ≤ b) (h2 : b ≤ s.size) : (s.extract a b).size = b - a := by
  rw [← size_toList, Lib.extract_data]; simp; omega
theorem first_split (s : ByteArray) (h : 0 < s.size) : s.data.toList = s[0] :: s.data.toList.drop 1 := by
  have h2 : 0 < s.data.toList.length := by rw [size_toList]; exact h
  have e := List.drop_eq_getElem_cons h2
  rw [List.drop_zero, get_toList s 0 h] at e
  exact e
theorem trimLeft_step (s : ByteArray) (h : 0 < s.size) (h48 : s[0] = 48) : Lib.trimLeftB (s.extract 1 s.size).data.toList 48 = Lib.trimLeftB s.data.toList 48 := by
  rw [Lib.extract_data]
  have e := first_split s h
  rw [List.take_of_length_le (by simp)]
  conv => rhs; rw [e]
  simp [Lib.trimLeftB, h48]
theorem trimLeft_stop (s : ByteArray) (h : ∀ h : 0 < s.size, s[0] ≠ 48) : Lib.trimLeftB s.data.toList 48 = s.data.toList := by
  unfold Lib.trimLeftB
  by_cases h0 : 0 < s.size
  · have e := first_split s h0
    rw [e, List.dropWhile_cons_of_neg (by simpa using h h0)]
  · have : s.data.toList = [] := by rw [← List.length_eq_zero_iff, size_toList]; omega
    rw [this]; rfl
theorem last_split (s : ByteArray) (h : 0 < s.size) : s.data.toList = (s.extract 0 (s.size - 1)).data.toList ++ [s[s.size - 1]] := by
  have h2 : s.size - 1 < s.data.toList.length := by rw [size_toList]; omega
  have e := List.take_append_getElem h2
  rw [show s.size - 1 + 1 = s.data.toList.length by rw [size_toList]; omega, List.take_length] at e
  rw [Lib.extract_data, List.drop_zero, Nat.sub_zero, ← get_toList s (s.size - 1) (by omega)]
  exact e.symm
theorem trimRight_step (s : ByteArray) (h : 0 < s.size) (h48 : s[s.size - 1] = 48) : Lib.trimRightB (s.extract 0 (s.size - 1)).data.toList 48 = Lib.trimRightB s.data.toList 48 := by
  conv => rhs; rw [last_split s h]
  simp [Lib.trimRightB, h48]
theorem trimRight_snoc (l : List UInt8) (c : UInt8) (h : c ≠ 48) : Lib.trimRightB (l ++ [c]) 48 = l ++ [c] := by simp [Lib.trimRightB, h]
theorem trimRight_stop (s : ByteArray) (h : 0 < s.size) (h48 : s[s.size - 1] ≠ 48) : Lib.trimRightB s.data.toList 48 = s.data.toList := by
  have e := last_split s h
  have e2 := trimRight_snoc (s.extract 0 (s.size - 1)).data.toList s[s.size - 1] h48
  rw [← e] at e2
  exact e2
theorem dropWhile_nil (p : UInt8 → Bool) : ∀ l : List UInt8, l.dropWhile p = [] → ∀ x ∈ l, p x = true
  | [], _, _, hx => by cases hx
  | a :: t, h, x, hx => by
    rw [List.dropWhile_cons] at h
    cases ha : p a
    · rw [ha] at h; simp at h
    · rw [ha] at h
      simp only [if_true] at h
      rcases List.mem_cons.1 hx with e | e
      · rw [e]; exact ha
      · exact dropWhile_nil p t h x e
theorem trimRight_ne {c : UInt8} {t : List UInt8} (h : c ≠ 48) : Lib.trimRightB (c :: t) 48 ≠ [] := by
  intro e
  unfold Lib.trimRightB at e
  rw [List.reverse_eq_nil_iff] at e
  have := dropWhile_nil _ _ e c (by simp)
  simp at this
  exact h this
theorem trimRight_head {c : UInt8} {t : List UInt8} (h : c ≠ 48) : (Lib.trimRightB (c :: t) 48).headD 0 = c := by
  have hp : Lib.trimRightB (c :: t) 48 <+: c :: t := by
    unfold Lib.trimRightB
    have := List.dropWhile_suffix (· == (48 : UInt8)) (l := (c :: t).reverse)
    rw [← List.reverse_prefix] at this
    simpa using this
  cases hl : Lib.trimRightB (c :: t) 48 with
  | nil => exact absurd hl (trimRight_ne h)
  | cons a b =>
    rw [hl] at hp
    rw [List.cons_prefix_cons] at hp
    exact hp.1
theorem trimRight_last (l : List UInt8) (h : Lib.trimRightB l 48 ≠ []) : (Lib.trimRightB l 48).getLastD 0 ≠ 48 := by
  unfold Lib.trimRightB at h ⊢
  rw [ne_eq, List.reverse_eq_nil_iff] at h
  cases hd : l.reverse.dropWhile (· == 48) with
  | nil => exact absurd hd h
  | cons a b =>
    have := List.head?_dropWhile_not (· == (48 : UInt8)) l.reverse
    rw [hd] at this
    simp at this
    simp
    exact this
theorem trimLeft_head (l : List UInt8) (h : Lib.trimLeftB l 48 ≠ []) : ∃ c t, Lib.trimLeftB l 48 = c :: t ∧ c ≠ 48 := by
  cases hd : Lib.trimLeftB l 48 with
  | nil => exact absurd hd h
  | cons a b =>
    refine ⟨a, b, rfl, ?_⟩
    have := List.head?_dropWhile_not (· == (48 : UInt8)) l
    unfold Lib.trimLeftB at hd
    rw [hd] at this
    simpa using this
theorem figs_trimRight {l : List UInt8} (h : figs l = true) : figs (Lib.trimRightB l 48) = true := by
  rw [figs, List.all_eq_true] at h ⊢
  intro x hx
  unfold Lib.trimRightB at hx
  rw [List.mem_reverse] at hx
  have := (List.dropWhile_suffix _).subset hx
  rw [List.mem_reverse] at this
  exact h x this
theorem figs_trimLeft' {l : List UInt8} (h : figs l = true) : figs (Lib.trimLeftB l 48) = true := by
  rw [figs, List.all_eq_true] at h ⊢
  exact fun x hx => h x ((List.dropWhile_suffix _).subset hx)
/-- What the number of figures is, once noughts ahead and behind are off. -/
theorem mkN_right (g : Bool) (f : List UInt8) (e : Int) (hf : figs f = true) (h : Lib.trimLeftB f 48 ≠ []) :
    right (mkN g f e) = (decide ((Lib.trimRightB (Lib.trimLeftB f 48) 48).length ≤ 100) && decide (-1000 ≤ (mkN g f e).e) && decide ((mkN g f e).e ≤ 1000 - (Lib.trimRightB (Lib.trimLeftB f 48) 48).length)) := by
  obtain ⟨c, t, e1, hc⟩ := trimLeft_head f h
  have h1 : Lib.trimRightB (Lib.trimLeftB f 48) 48 ≠ [] := by rw [e1]; exact trimRight_ne hc
  have h2 := trimRight_last _ h1
  have h3 : (Lib.trimRightB (Lib.trimLeftB f 48) 48).headD 0 ≠ 48 := by rw [e1, trimRight_head hc]; exact hc
  have h4 := figs_trimRight (figs_trimLeft' hf)
  rw [right_some rfl rfl rfl (by show List.isEmpty (Lib.trimRightB (Lib.trimLeftB f 48) 48) = false; simpa using h1)]
  show (rfigs (Lib.trimRightB (Lib.trimLeftB f 48) 48) && rpow (Lib.trimRightB (Lib.trimLeftB f 48) 48).length (mkN g f e).e) = _
  unfold rfigs rpow
  rw [bne_iff_ne.2 h2, bne_iff_ne.2 h3, h4]
  simp [Bool.and_assoc]
theorem trim_len (f : List UInt8) : (Lib.trimRightB (Lib.trimLeftB f 48) 48).length ≤ (Lib.trimLeftB f 48).length ∧ (Lib.trimLeftB f 48).length ≤ f.length := by
  refine ⟨?_, (List.dropWhile_suffix _).length_le⟩
  rw [Lib.trimRightB, List.length_reverse]
  exact Nat.le_trans (List.dropWhile_suffix _).length_le (by simp)
theorem mkN_e (g : Bool) (f : List UInt8) (e : Int) (hl : f.length ≤ 1000000) (h1 : -100000000 ≤ e) (h2 : e ≤ 100000000) :
    (mkN g f e).e = e + ((Lib.trimLeftB f 48).length - (Lib.trimRightB (Lib.trimLeftB f 48) 48).length : Nat) := by
  obtain ⟨a, b⟩ := trim_len f
  unfold mkN
  simp only
  unfold wrap64
  omega
theorem mkN_far (g : Bool) (f : List UInt8) (e : Int) (hf : figs f = true) (h : Lib.trimLeftB f 48 ≠ []) (hl : f.length ≤ 1000000) (h0 : -9223372036854775808 ≤ e) (h1 : e ≤ 9223372036854775807) (h2 : e < -100000000 ∨ 100000000 < e) : right (mkN g f e) = false := by
  obtain ⟨a, b⟩ := trim_len f
  rw [mkN_right g f e hf h]
  have h3 : ¬ (-1000 ≤ (mkN g f e).e ∧ (mkN g f e).e ≤ 1000) := by
    unfold mkN
    simp only
    unfold wrap64
    omega
  rw [← Bool.not_eq_true]
  simp only [Bool.and_eq_true, decide_eq_true_eq]
  omega

end Np
end Go.Proofs.YtfmoigbiohbocaaDoor
