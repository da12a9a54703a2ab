/-
  What the library's Compare of two strings answers, and what val.byName compares by.
-/
import Derived.Test.YtoomgpbfcpnefaaDoorOwn2
import Derived.Deep.QuietTactic
import Derived.BigQuiet
namespace Go.Proofs.YtoomgpbfcpnefaaDoor
open Go.RowKit Np

set_option maxHeartbeats 400000 in
theorem isNaNS_any (s : ByteArray) (w : World) :
    Calls Tryd.prog 73 #[.string s] w fun e w' => e = .returned (.bool false) ∧ w = w' := by
  go_enter Tryd.func73, Tryd.ntmps73
  go_wp2
  go_ret
  exact ⟨ret_bool (by simp), rfl⟩

set_option maxHeartbeats 400000 in
theorem cmpS_any (s t : ByteArray) (w : World) :
    Calls Tryd.prog 64 #[.string s, .string t] w fun e w' => e = .returned (.int .i64 (cmpB s.data.toList t.data.toList)) ∧ w = w' := by
  go_enter Tryd.func64, Tryd.ntmps64
  go_wp2_with (go_at_call 73; refine (isNaNS_any _ _).mono ?_; rintro e w' ⟨rfl, rfl⟩)
  · have h : Op.bytesLess s.toList t.toList = true := by assumption
    rw [ByteArray.toList_eq, ByteArray.toList_eq] at h
    go_ret
    exact ⟨ret_i64 (by rw [cmpB, if_pos h]), rfl⟩
  · have h : Op.bytesLess s.toList t.toList = false := by assumption
    have h2 : (!s.toList == t.toList) = true := by assumption
    rw [ByteArray.toList_eq, ByteArray.toList_eq] at h h2
    go_ret
    exact ⟨ret_i64 (by rw [cmpB, if_neg (by rw [h]; decide), if_neg (by simpa using h2)]), rfl⟩
  · have h : Op.bytesLess s.toList t.toList = false := by assumption
    have h2 : (!s.toList == t.toList) = false := by assumption
    rw [ByteArray.toList_eq, ByteArray.toList_eq] at h h2
    go_ret
    exact ⟨ret_i64 (by rw [cmpB, if_neg (by rw [h]; decide), if_pos (by simpa using h2)]), rfl⟩

set_option maxRecDepth 100000 in
set_option maxHeartbeats 1000000 in
theorem byNameC_any (names : List (List UInt8)) (B : Nat) (v : Value) (i j : Nat) (a b : List UInt8) (W : World) (ha : names[i]? = some a) (hb : names[j]? = some b) (hbox : W.cell? ⟨B, 0, none⟩ = some v) (hv : Sts W v names) :
    Calls Tryd.prog 63 #[.int .i64 i, .int .i64 j, .pointer (some ⟨B, 0, none⟩)] W fun e w' => e = .returned (.int .i64 (cmpB a b)) ∧ ∃ q, w' = W.drewN q := by
  obtain ⟨hi, -⟩ := List.getElem?_eq_some_iff.1 ha
  obtain ⟨hj, -⟩ := List.getElem?_eq_some_iff.1 hb
  obtain ⟨g, o, c, rfl, hc, hcm, hg, hx⟩ := hv.opened (by omega)
  have a0 := (hx i a ha).st
  have b0 := (hx j b hb).st
  clear hx hv ha hb
  generalize names.length = n at *
  have hi' : (i : Int) < n := by omega
  have hj' : (j : Int) < n := by omega
  have HC : Hid (∀ m, Calls Tryd.prog 64 #[.string ⟨a.toArray⟩, .string ⟨b.toArray⟩] (W.drewN m) fun e w' => e = .returned (.int .i64 (cmpB a b)) ∧ w' = W.drewN m) := Lib.hid fun m => (cmpS_any ⟨a.toArray⟩ ⟨b.toArray⟩ _).mono fun _ _ ⟨h1, h2⟩ => ⟨h1, h2.symm⟩
  go_enter Tryd.func63, Tryd.ntmps63
  go_wp2_with fail
  go_quiet ((go_at_call 64; exact Calls.quiet_of_same (HC.out _)))
  go_wp2_with fail
  go_ret
  exact ⟨rfl, _, rfl⟩
end Go.Proofs.YtoomgpbfcpnefaaDoor
