/-
  The walk of the statement QuoteBack: it returns true.
-/
import Derived.Test.YtnpjbckobokhlaaDoorQAlive
import Derived.Test.YtnpjbckobokhlaaDoorQuoP2
namespace Go.Proofs.YtnpjbckobokhlaaDoor
open Go.RowKit Np Up Qp

theorem app_data (a : List UInt8) (t : ByteArray) : (ByteArray.mk a.toArray ++ t).data.toList = a ++ t.data.toList := by simp

set_option maxRecDepth 100000 in
set_option maxHeartbeats 8000000 in
theorem quoteBack_any (s t : ByteArray) (c : Int) (w : World) (hE : Er w) (hs : s.size ≤ maxLen) (ht : t.size ≤ maxLen) (c0 : 0 ≤ c) (c1 : c ≤ 255) :
    Calls Tryd.prog 4 #[.string s, .string t, .int .u8 c] w fun e w' => e = .returned (.bool true) ∧ Below w.heap.size w w' := by
  have hs' := hs
  unfold maxLen at hs ht
  by_cases h3 : s.size ≤ 300
  · by_cases h4 : t.size ≤ 300
    · have hs4 : s.size ≤ 4096 := by omega
      cases hv : Lib.validD s.data.toList
      · have HV := Lib.hid hv
        clear hv
        go_enter Tryd.func4, Tryd.ntmps4
        go_wp2_with fail
        refine (refUtf_any s _ hs').mono ?_
        rintro e1 w1 ⟨rfl, rfl⟩
        rw [HV.out]
        go_wp2_with fail
        refine (alive_any _ hE).mono ?_
        rintro e1 w2 ⟨rfl, b2⟩
        go_wp2_with fail
        all_goals go_ret
        all_goals exact ⟨rfl, b2⟩
      · have HV := Lib.hid hv
        have hql := (wrs_len s.data.toList).2
        rw [size_toList] at hql
        have hl2 : 2 ≤ (quo s.data.toList).length := by rw [quo_len]; omega
        have hl3 : (quo s.data.toList).length ≤ 1802 := by rw [quo_len]; omega
        have HB := Lib.hid (quo_back s.data.toList t.data.toList hv)
        have hqt : (ByteArray.mk (quo s.data.toList).toArray ++ t).size ≤ 4096 := by rw [ByteArray.size_append, mk_size]; omega
        have HC := Lib.hid (fun k hk => quo_cut s.data.toList k hk hv)
        obtain ⟨k, hk, hkl⟩ : ∃ k : Nat, c % ((quo s.data.toList).length : Int) = (k : Int) ∧ k < (quo s.data.toList).length := by
          refine ⟨(c % ((quo s.data.toList).length : Int)).toNat, ?_, ?_⟩
          · have := Int.emod_nonneg c (b := ((quo s.data.toList).length : Int)) (by omega)
            omega
          · have := Int.emod_lt_of_pos c (b := ((quo s.data.toList).length : Int)) (by omega)
            have := Int.emod_nonneg c (b := ((quo s.data.toList).length : Int)) (by omega)
            omega
        have hle : ((ByteArray.mk (quo s.data.toList).toArray).extract 0 k).size ≤ 4096 := by rw [ByteArray.size_extract, mk_size]; omega
        have hes : ((ByteArray.mk (quo s.data.toList).toArray).extract 0 k).size = k := by rw [ByteArray.size_extract, mk_size]; omega
        have hed : Hid (((ByteArray.mk (quo s.data.toList).toArray).extract 0 k).data.toList = (quo s.data.toList).take k) := Lib.hid (by
          have h := Lib.extract_toList (ByteArray.mk (quo s.data.toList).toArray) 0 k
          rw [ByteArray.toList_eq] at h
          rw [h]; rfl)
        obtain ⟨q1, q2, q3⟩ := HC.out k hkl
        generalize hr : unqs ((quo s.data.toList).take k) = r at q1 q2 q3
        obtain ⟨rx, rn, re⟩ := r
        simp only at q1 q2 q3
        subst q1 q2
        have HR := Lib.hid hr
        clear hv hql HC hr
        go_enter Tryd.func4, Tryd.ntmps4
        go_wp2_with fail
        refine (refUtf_any s _ hs').mono ?_
        rintro e1 w1 ⟨rfl, rfl⟩
        rw [HV.out]
        go_wp2_with fail
        refine (quote_any s _ hs4).mono ?_
        rintro e1 w2 ⟨rfl, b2⟩
        go_wp2_with fail
        refine (unquote_any _ _ hqt (hE.below b2)).mono ?_
        rintro e1 w3 ⟨rfl, b3⟩
        rw [app_data, HB.out]
        have hB3 := b2.trans (b3.mono b2.size)
        clear b2 b3
        go_wp2_with fail
        refine (unquote_any _ _ hle (hE.below hB3)).mono ?_
        rintro e1 w4 ⟨rfl, b4⟩
        rw [hed.out, HR.out]
        have hB4 := hB3.trans (b4.mono hB3.size)
        clear b4 hB3
        go_wp2_with fail
        refine (alive_any _ (hE.below hB4)).mono ?_
        rintro e1 w5 ⟨rfl, b5⟩
        go_wp2_with fail
        all_goals go_ret
        all_goals exact ⟨ret_bool (by simp <;> omega), hB4.trans (b5.mono hB4.size)⟩
    · go_enter Tryd.func4, Tryd.ntmps4
      go_wp2_with (go_at_call 8; refine (alive_any _ hE).mono ?_; rintro e1 w1 ⟨rfl, b1⟩)
      all_goals go_ret
      all_goals exact ⟨rfl, b1⟩
  · go_enter Tryd.func4, Tryd.ntmps4
    go_wp2_with (go_at_call 8; refine (alive_any _ hE).mono ?_; rintro e1 w1 ⟨rfl, b1⟩)
    all_goals go_ret
    all_goals exact ⟨rfl, b1⟩
end Go.Proofs.YtnpjbckobokhlaaDoor
