/-
  The walk of the statement QuoteTells: it returns true.
-/
import Derived.Test.YtnpjbckobokhlaaDoorQAlive
import Derived.Test.YtnpjbckobokhlaaDoorQRef5
namespace Go.Proofs.YtnpjbckobokhlaaDoor
open Go.RowKit Np Up Qp

set_option maxRecDepth 100000 in
set_option maxHeartbeats 8000000 in
theorem quoteTells_any (s : ByteArray) (w : World) (hE : Er w) (hs : s.size ≤ maxLen) :
    Calls Tryd.prog 3 #[.string s] w fun e w' => e = .returned (.bool true) ∧ Below w.heap.size w w' := by
  have hs' := hs
  unfold maxLen at hs
  by_cases h3 : s.size ≤ 300
  · have hs4 : s.size ≤ 4096 := by omega
    generalize hU : unqs s.data.toList = U
    obtain ⟨x, n, e⟩ := U
    have HU := Lib.hid hU
    clear hU
    go_enter Tryd.func3, Tryd.ntmps3
    go_wp2_with fail
    refine (unquote_any s _ hs4 hE).mono ?_
    rintro e1 w1 ⟨rfl, b1⟩
    rw [HU.out]
    go_wp2_with fail
    refine (refUnquote_any s _ hs4).mono ?_
    rintro e1 w2 ⟨rfl, b2⟩
    rw [HU.out]
    go_wp2_with fail
    refine (utf_any s _ hs4).mono ?_
    rintro e1 w3 ⟨rfl, b3⟩
    go_wp2_with fail
    refine (refUtf3_any s _ hs').mono ?_
    rintro e1 w4 ⟨rfl, rfl⟩
    have hB2 := b1.trans (b2.mono b1.size)
    have hB3 := hB2.trans (b3.mono hB2.size)
    have hE3 := hE.below hB3
    clear b1 b2 b3
    go_wp2_with fail
    refine (alive_any _ hE3).mono ?_
    rintro e1 w5 ⟨rfl, b5⟩
    have hB5 := hB3.trans (b5.mono hB3.size)
    clear b5 hB3 hE3 hB2
    go_wp2_with fail
    refine (refUtf_any s _ hs').mono ?_
    rintro e1 w6 ⟨rfl, rfl⟩
    cases hv : Lib.validD s.data.toList
    · have HV := Lib.hid hv
      clear hv
      go_wp2_with fail
      all_goals go_ret
      all_goals exact ⟨ret_bool (by simp), hB5⟩
    · have HV := Lib.hid hv
      clear hv
      go_wp2_with fail
      refine (quote_any s _ hs4).mono ?_
      rintro e1 w7 ⟨rfl, b7⟩
      go_wp2_with fail
      refine (refQuote_any s _ hs4).mono ?_
      rintro e1 w8 ⟨rfl, b8⟩
      have hB7 := hB5.trans (b7.mono hB5.size)
      have hB8 := hB7.trans (b8.mono hB7.size)
      clear b7 b8 hB7 hB5
      go_wp2_with fail
      all_goals go_ret
      all_goals exact ⟨ret_bool (by simp), hB8⟩
  · go_enter Tryd.func3, Tryd.ntmps3
    go_wp2_with (go_at_call 8; refine (alive_any _ hE).mono ?_; rintro e1 w1 ⟨rfl, b1⟩)
    all_goals go_ret
    all_goals exact ⟨rfl, b1⟩
end Go.Proofs.YtnpjbckobokhlaaDoor
