/-
  What the document's own answers are: cont, Rune, Utf.
-/
import Derived.Test.YtbhgmfddjnkglaaGreatDoorBase
import Derived.Test.YtbhgmfddjnkglaaGreatDoorUtfP
import Derived.Outline
namespace Go.Proofs.YtbhgmfddjnkglaaGreatDoor
open Go.RowKit Np Up

theorem bt_get (s : ByteArray) (i k : Nat) (h : i + k < s.size) : (s[i + k]).toNat = bt (s.data.toList.drop i) k := by
  unfold bt
  rw [List.getD_eq_getElem?_getD, List.getElem?_drop, List.getElem?_eq_getElem (by simpa using h)]
  rfl

set_option maxHeartbeats 400000 in
theorem refCont_any (s : ByteArray) (i : Int) (w : World) (h0 : 0 ≤ i) :
    Calls Tryz.prog 128 #[.string s, .int .i64 i] w fun e w' => e = .returned (.bool (ct (s.data.toList.drop i.toNat) 0)) ∧ w = w' := by
  obtain ⟨k, rfl⟩ := Int.eq_ofNat_of_zero_le h0
  rw [Int.toNat_natCast]
  by_cases hk : k < s.size
  · have hb := bt_get s k 0 (by omega)
    have HB : Hid (ct (s.data.toList.drop k) 0 = (decide (128 ≤ s[k].toNat) && decide (s[k].toNat < 192))) := Lib.hid (by
      have hl : decide (0 < (s.data.toList.drop k).length) = true := by simp; omega
      unfold ct; rw [← hb, hl, Bool.true_and]; rfl)
    clear hb
    go_enter Tryz.func128, Tryz.ntmps128
    go_wp2
    all_goals go_ret
    all_goals exact ⟨ret_bool (by rw [HB.out, Bool.eq_iff_iff]; simp; omega), rfl⟩
  · have HB : Hid (ct (s.data.toList.drop k) 0 = false) := Lib.hid (by
      unfold ct; simp; omega)
    go_enter Tryz.func128, Tryz.ntmps128
    go_wp2
    all_goals go_ret
    all_goals exact ⟨ret_bool HB.out.symm, rfl⟩

theorem refCont_from (s : ByteArray) (i : Nat) (j : Int) (w : World) (hj : (i : Int) ≤ j) :
    Calls Tryz.prog 128 #[.string s, .int .i64 j] w fun e w' => e = .returned (.bool (ct (s.data.toList.drop i) (j - i).toNat)) ∧ w = w' :=
  (refCont_any s j w (by omega)).mono fun _ _ ⟨he, hw⟩ => ⟨by
    rw [he]
    congr 2
    obtain ⟨k, rfl⟩ : ∃ k : Nat, j = i + k := ⟨(j - i).toNat, by omega⟩
    rw [show ((i : Int) + k).toNat = i + k by omega, show ((i : Int) + k - i).toNat = k by omega]
    unfold ct bt
    have e1 : (List.drop (i + k) s.data.toList).getD 0 0 = (List.drop i s.data.toList).getD k 0 := by
      simp [List.getD_eq_getElem?_getD, List.getElem?_drop]
    rw [e1]
    congr 2
    rw [decide_eq_decide, List.length_drop, List.length_drop]; omega, hw⟩

theorem runeN_a {l : List UInt8} (h1 : ct l 1 = false) : runeN l = if bt l 0 < 128 then 1 else 0 := by simp [runeN, h1]
theorem runeN_b {l : List UInt8} (h1 : ct l 1 = true) (h2 : ct l 2 = false) : runeN l = if bt l 0 < 128 then 1 else if 194 ≤ bt l 0 ∧ bt l 0 < 224 then 2 else 0 := by simp [runeN, h1, h2]
theorem runeN_c {l : List UInt8} (h1 : ct l 1 = true) (h2 : ct l 2 = true) (h3 : ct l 3 = false) : runeN l = if bt l 0 < 128 then 1 else if 194 ≤ bt l 0 ∧ bt l 0 < 224 then 2
    else if 224 ≤ bt l 0 ∧ bt l 0 < 240 then (if bt l 0 = 224 ∧ bt l 1 < 160 ∨ bt l 0 = 237 ∧ 160 ≤ bt l 1 then 0 else 3) else 0 := by simp [runeN, h1, h2, h3]
theorem runeN_d {l : List UInt8} (h1 : ct l 1 = true) (h2 : ct l 2 = true) (h3 : ct l 3 = true) : runeN l = if bt l 0 < 128 then 1 else if 194 ≤ bt l 0 ∧ bt l 0 < 224 then 2
    else if 224 ≤ bt l 0 ∧ bt l 0 < 240 then (if bt l 0 = 224 ∧ bt l 1 < 160 ∨ bt l 0 = 237 ∧ 160 ≤ bt l 1 then 0 else 3)
    else if 240 ≤ bt l 0 ∧ bt l 0 < 245 then (if bt l 0 = 240 ∧ bt l 1 < 144 ∨ bt l 0 = 244 ∧ 144 ≤ bt l 1 then 0 else 4) else 0 := by simp [runeN, h1, h2, h3]
theorem off1 (i : Nat) : ((i : Int) + 1 - i).toNat = 1 := by omega
theorem off2 (i : Nat) : ((i : Int) + 2 - i).toNat = 2 := by omega
theorem off3 (i : Nat) : ((i : Int) + 3 - i).toNat = 3 := by omega

set_option maxRecDepth 100000 in
set_option maxHeartbeats 4000000 in
theorem refRune_any (s : ByteArray) (i : Nat) (w : World) (hs : s.size ≤ maxLen) (hi : i < s.size) :
    Calls Tryz.prog 105 #[.string s, .int .i64 i] w fun e w' => e = .returned (.int .i64 (runeN (s.data.toList.drop i) : Nat)) ∧ w = w' := by
  unfold maxLen at hs
  have hb0 : bt (s.data.toList.drop i) 0 = s[i].toNat := (bt_get s i 0 (by omega)).symm
  have hb1 : ∀ h : i + 1 < s.size, bt (s.data.toList.drop i) 1 = s[i + 1].toNat := fun h => (bt_get s i 1 h).symm
  have hsz : ∀ k, ct (s.data.toList.drop i) k = true → i + k < s.size := fun k h => by
    have := ((ct_iff _ _).1 h).1
    simp at this; omega
  have H0 := Lib.hid hb0
  clear hb0
  cases h1 : ct (s.data.toList.drop i) 1
  · have H1 := Lib.hid h1
    have HR := Lib.hid (runeN_a h1)
    clear h1 hb1 hsz
    go_enter Tryz.func105, Tryz.ntmps105
    go_wp2_with (go_at_call 128; refine (refCont_from s i _ _ (by omega)).mono ?_; rintro e w' ⟨rfl, rfl⟩; rw [off1, H1.out])
    all_goals go_ret
    all_goals exact ⟨ret_i64 (by rw [HR.out, H0.out]; (repeat' split) <;> omega), rfl⟩
  · have hl1 := hsz 1 h1
    have HB1 := Lib.hid (hb1 hl1)
    have H1 := Lib.hid h1
    cases h2 : ct (s.data.toList.drop i) 2
    · have H2 := Lib.hid h2
      have HR := Lib.hid (runeN_b h1 h2)
      clear h1 h2 hb1 hsz
      go_enter Tryz.func105, Tryz.ntmps105
      go_wp2_with (go_at_call 128; refine (refCont_from s i _ _ (by omega)).mono ?_; rintro e w' ⟨rfl, rfl⟩; (first | rw [off1, H1.out] | rw [off2, H2.out]))
      all_goals go_ret
      all_goals exact ⟨ret_i64 (by rw [HR.out, H0.out]; (repeat' split) <;> omega), rfl⟩
    · have H2 := Lib.hid h2
      have hl2 := hsz 2 h2
      cases h3 : ct (s.data.toList.drop i) 3
      · have H3 := Lib.hid h3
        have HR := Lib.hid (runeN_c h1 h2 h3)
        clear h1 h2 h3 hb1 hsz
        go_enter Tryz.func105, Tryz.ntmps105
        go_wp2_with (go_at_call 128; refine (refCont_from s i _ _ (by omega)).mono ?_; rintro e w' ⟨rfl, rfl⟩; (first | rw [off1, H1.out] | rw [off2, H2.out] | rw [off3, H3.out]))
        all_goals go_ret
        all_goals exact ⟨ret_i64 (by rw [HR.out, H0.out, HB1.out]; (repeat' split) <;> omega), rfl⟩
      · have H3 := Lib.hid h3
        have HR := Lib.hid (runeN_d h1 h2 h3)
        clear h1 h2 h3 hb1 hsz
        go_enter Tryz.func105, Tryz.ntmps105
        go_wp2_with (go_at_call 128; refine (refCont_from s i _ _ (by omega)).mono ?_; rintro e w' ⟨rfl, rfl⟩; (first | rw [off1, H1.out] | rw [off2, H2.out] | rw [off3, H3.out]))
        all_goals go_ret
        all_goals exact ⟨ret_i64 (by rw [HR.out, H0.out, HB1.out]; (repeat' split) <;> omega), rfl⟩

set_option maxHeartbeats 400000 in
theorem refUtf_any (s : ByteArray) (w : World) (hs : s.size ≤ maxLen) :
    Calls Tryz.prog 71 #[.string s] w fun e w' => e = .returned (.bool (Lib.validD s.data.toList)) ∧ w = w' := by
  have hs' := hs
  unfold maxLen at hs
  go_enter Tryz.func71, Tryz.ntmps71
  go_wp2
  go_loop [3] (fun i => ∃ k : Nat, k ≤ s.size ∧ i = .int .i64 k ∧ Lib.validD (s.data.toList.drop k) = Lib.validD s.data.toList) (fun i => s.size - (intOf i).toNat)
  case atStart => exact ⟨0, Nat.zero_le _, rfl, rfl⟩
  case round =>
    obtain ⟨k, hk, rfl, hf⟩ := hrel
    have HF := Lib.hid hf; clear hf
    by_cases hlt : k < s.size
    · have hne : s.data.toList.drop k ≠ [] := by intro h; have := congrArg List.length h; simp at this; omega
      have hst := valid_step _ hne
      have hle := runeN_le _ hne
      rw [List.length_drop, size_toList] at hle
      rw [List.drop_drop] at hst
      generalize hr : runeN (s.data.toList.drop k) = r at hst hle
      have HRN := Lib.hid hr; clear hr
      by_cases h0 : r = 0
      · subst h0
        have HN : Hid (Lib.validD s.data.toList = false) := Lib.hid (by rw [← HF.out, hst]; rfl)
        clear hst hne
        go_wp2_with (go_at_call 105; refine (refRune_any _ _ _ hs' hlt).mono ?_; rintro e w' ⟨rfl, rfl⟩; rw [HRN.out])
        go_ret
        exact ⟨ret_bool HN.out.symm, rfl⟩
      · have HN : Hid (Lib.validD (s.data.toList.drop (k + r)) = Lib.validD s.data.toList) := Lib.hid (by rw [← HF.out, hst, if_neg h0])
        have hz : ((r : Int) == 0) = false := by simp [h0]
        clear hst hne
        go_wp2_with (go_at_call 105; refine (refRune_any _ _ _ hs' hlt).mono ?_; rintro e w' ⟨rfl, rfl⟩; rw [HRN.out])
        go_round
        case rel => exact ⟨k + r, by omega, by go_num, HN.out⟩
        case measure => simp [intOf]; omega
    · have HC : Hid (Lib.validD s.data.toList = true) := Lib.hid (by rw [← HF.out, List.drop_of_length_le (by simp; omega)]; rfl)
      go_wp2
      go_ret
      exact ⟨ret_bool HC.out.symm, rfl⟩
end Go.Proofs.YtbhgmfddjnkglaaGreatDoor
