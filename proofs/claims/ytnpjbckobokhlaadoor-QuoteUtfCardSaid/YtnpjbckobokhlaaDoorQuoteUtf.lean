/-
  The walk of the statement QuoteUtf: it returns true.
-/
import Derived.Test.YtnpjbckobokhlaaDoorQAlive
import Derived.Test.YtnpjbckobokhlaaDoorQuoP2
namespace Go.Proofs.YtnpjbckobokhlaaDoor
open Go.RowKit Np Up Qp

theorem unqs_cases (l : List UInt8) : (∃ x n, unqs l = (x, n, 0) ∧ Lib.validD x = true ∧ x.length + 2 ≤ n ∧ (quo x).length ≤ n ∧ n ≤ l.length) ∨ (∃ n, unqs l = ([], n, 1) ∧ n ≤ l.length) := by
  by_cases hb : bt l 0 = 34
  · have hp := ne_of_bt (l := l) (k := 0) (by omega)
    rw [unqs, if_pos hb]
    rcases unq_shape _ [] (l.drop 1) 1 (Nat.le_refl _) with h1 | ⟨h1, h2, h3, h4⟩
    · left
      generalize hr : unq [] (l.drop 1) 1 = r at h1
      obtain ⟨x, n, e⟩ := r
      simp only at h1
      subst h1
      obtain ⟨y, g1, g2, g3, g4, g5⟩ := unq_good _ _ _ _ _ _ (Nat.le_refl _) hr
      rw [List.nil_append] at g1
      subst g1
      rw [List.length_drop] at g5
      exact ⟨x, n, rfl, g2, by omega, by rw [quo_len]; omega, by omega⟩
    · right
      generalize hr : unq [] (l.drop 1) 1 = r at h1 h2 h3 h4
      obtain ⟨x, n, e⟩ := r
      simp only at h1 h2 h3 h4
      subst h1 h2
      rw [List.length_drop] at h4
      exact ⟨n, rfl, by omega⟩
  · right
    exact ⟨0, by rw [unqs, if_neg hb], Nat.zero_le _⟩

set_option maxRecDepth 100000 in
set_option maxHeartbeats 8000000 in
theorem quoteUtf_any (s : ByteArray) (w : World) (hE : Er w) (hs : s.size ≤ maxLen) :
    Calls Tryd.prog 5 #[.string s] w fun e w' => e = .returned (.bool true) ∧ Below w.heap.size w w' := by
  unfold maxLen at hs
  by_cases h3 : s.size ≤ 300
  · have hs4 : s.size ≤ 4096 := by omega
    rcases unqs_cases s.data.toList with ⟨x, n, hu, hv, h1, h2, hn⟩ | ⟨n, hu, hn⟩
    · rw [size_toList] at hn
      have HU := Lib.hid hu
      have HV := Lib.hid hv
      have hb := quo_back x [] hv
      rw [List.append_nil] at hb
      have HB := Lib.hid hb
      clear hu hv hb
      have hx4 : (ByteArray.mk x.toArray).size ≤ 4096 := by rw [mk_size]; omega
      have hxm : (ByteArray.mk x.toArray).size ≤ maxLen := by unfold maxLen; omega
      have hq4 : (ByteArray.mk (quo x).toArray).size ≤ 4096 := by rw [mk_size]; omega
      go_enter Tryd.func5, Tryd.ntmps5
      go_wp2_with fail
      refine (unquote_any s _ hs4 hE).mono ?_
      rintro e1 w1 ⟨rfl, b1⟩
      rw [HU.out]
      go_wp2_with fail
      refine (quote_any _ _ hx4).mono ?_
      rintro e1 w2 ⟨rfl, b2⟩
      rw [mk_data]
      have hB2 := b1.trans (b2.mono b1.size)
      clear b1 b2
      go_wp2_with fail
      refine (unquote_any _ _ hq4 (hE.below hB2)).mono ?_
      rintro e1 w3 ⟨rfl, b3⟩
      rw [mk_data, HB.out]
      have hB3 := hB2.trans (b3.mono hB2.size)
      clear b3 hB2
      go_wp2_with fail
      refine (alive_any _ (hE.below hB3)).mono ?_
      rintro e1 w4 ⟨rfl, b4⟩
      have hB4 := hB3.trans (b4.mono hB3.size)
      clear b4 hB3
      go_wp2_with fail
      refine (refUtf_any _ _ hxm).mono ?_
      rintro e1 w5 ⟨rfl, rfl⟩
      rw [mk_data, HV.out]
      go_wp2_with fail
      all_goals go_ret
      all_goals exact ⟨ret_bool (by simp <;> omega), hB4⟩
    · rw [size_toList] at hn
      have HU := Lib.hid hu
      clear hu
      go_enter Tryd.func5, Tryd.ntmps5
      go_wp2_with fail
      refine (unquote_any s _ hs4 hE).mono ?_
      rintro e1 w1 ⟨rfl, b1⟩
      rw [HU.out]
      go_wp2_with fail
      refine (alive_any _ (hE.below b1)).mono ?_
      rintro e1 w2 ⟨rfl, b2⟩
      go_wp2_with fail
      all_goals go_ret
      all_goals exact ⟨ret_bool (by simp <;> omega), b1.trans (b2.mono b1.size)⟩
  · go_enter Tryd.func5, Tryd.ntmps5
    go_wp2_with (go_at_call 8; refine (alive_any _ hE).mono ?_; rintro e1 w1 ⟨rfl, b1⟩)
    all_goals go_ret
    all_goals exact ⟨rfl, b1⟩
end Go.Proofs.YtnpjbckobokhlaaDoor
