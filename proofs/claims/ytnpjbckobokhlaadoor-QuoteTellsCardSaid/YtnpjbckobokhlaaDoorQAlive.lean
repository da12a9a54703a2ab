/-
  What the live question answers: true.
-/
import Derived.Test.YtnpjbckobokhlaaDoorQUnq
import Derived.Deep.RegionHeld3
namespace Go.Proofs.YtnpjbckobokhlaaDoor
open Go.RowKit Np Up Qp

def aliveA : List UInt8 := [34, 97, 92, 110, 92, 117, 48, 48, 101, 57, 92, 117, 100, 56, 51, 100, 92, 117, 100, 101, 48, 48, 34, 120]
theorem alive_a : unqs aliveA = ([97, 10, 195, 169, 240, 159, 152, 128], 23, 0) := by decide +kernel
theorem alive_b : unqs [34, 92, 117, 100, 56, 48, 48, 34] = ([], 1, 1) := by decide +kernel
theorem alive_c : quo [97, 34, 10, 1] = [34, 97, 92, 34, 92, 110, 92, 117, 48, 48, 48, 49, 34] := by decide +kernel
theorem alive_d : ufp [97, 255] 0 = 1 := by decide +kernel

set_option maxRecDepth 100000 in
set_option maxHeartbeats 8000000 in
theorem alive_any (w : World) (hE : Er w) :
    Calls Tryd.prog 8 #[] w fun e w' => e = .returned (.bool true) ∧ Below w.heap.size w w' := by
  go_enter Tryd.func8, Tryd.ntmps8
  go_wp2_with fail
  refine (unquote_any _ _ (by decide) hE).mono ?_
  rintro e w1 ⟨rfl, b1⟩
  rw [mk_data, show unqs [34, 97, 92, 110, 92, 117, 48, 48, 101, 57, 92, 117, 100, 56, 51, 100, 92, 117, 100, 101, 48, 48, 34, 120] = _ from alive_a]
  go_wp2_with fail
  refine (unquote_any _ _ (by decide) (hE.below b1)).mono ?_
  rintro e w2 ⟨rfl, b2⟩
  rw [mk_data, alive_b]
  go_wp2_with fail
  refine (quote_any _ _ (by decide)).mono ?_
  rintro e w3 ⟨rfl, b3⟩
  rw [mk_data, alive_c]
  go_wp2_with fail
  refine (utf_any _ _ (by decide)).mono ?_
  rintro e w4 ⟨rfl, b4⟩
  rw [mk_data, alive_d]
  go_wp2_with fail
  all_goals go_ret
  all_goals exact ⟨ret_bool (by simp <;> decide), ((b1.trans (b2.mono b1.size)).trans (b3.mono (Nat.le_trans b1.size b2.size))).trans (b4.mono (Nat.le_trans b1.size (Nat.le_trans b2.size b3.size)))⟩
end Go.Proofs.YtnpjbckobokhlaaDoor
