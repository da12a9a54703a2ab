/-
  What the document's own answer plain is; what val's rightNode answers.
-/
import Derived.Test.YtbhgmfddjnkglaaGreatDoorRefW3
import Derived.Test.YtbhgmfddjnkglaaGreatDoorRefW1
import Derived.Test.YtbhgmfddjnkglaaGreatDoorNumR
namespace Go.Proofs.YtbhgmfddjnkglaaGreatDoor
open Go.RowKit Np Rw Vp

theorem plainN_low {n : Nd} (h : n.kind = 0 ∨ n.kind = 1 ∨ n.kind = 2) : plainN n = (decide (n.many = 0) && decide (n.s = []) && !n.neg && decide (n.e = 0)) := by rw [plainN, if_pos h]
theorem plainN_num {n : Nd} (h : n.kind = 3) : plainN n = right { n with name := [] } := by rw [plainN, if_neg (by omega), if_pos h]
theorem plainN_str {n : Nd} (h : n.kind = 4) : plainN n = (decide (n.many = 0) && vld n.s && !n.neg && decide (n.e = 0)) := by rw [plainN, if_neg (by omega), if_neg (by omega), if_pos h]
theorem plainN_cont {n : Nd} (h : n.kind = 5 ∨ n.kind = 6) : plainN n = (decide (0 ≤ n.many) && decide (n.s = []) && !n.neg && decide (n.e = 0)) := by rw [plainN, if_neg (by omega), if_neg (by omega), if_neg (by omega), if_pos h]
theorem plainN_none {n : Nd} (h : n.kind < 0 ∨ 6 < n.kind) : plainN n = false := by rw [plainN, if_neg (by omega), if_neg (by omega), if_neg (by omega), if_neg (by omega)]

theorem sameNode_self (k m : Int) (s : List UInt8) (g : Bool) (x : Int) (m2 : Int) (s2 : ByteArray) : sameNode k m ⟨#[]⟩ ⟨s.toArray⟩ g x k m2 ⟨#[]⟩ s2 false 0 = (decide (m = m2) && decide (s = s2.data.toList) && !g && decide (x = 0)) := by
  unfold sameNode
  have : (ByteArray.mk s.toArray = s2) = (s = s2.data.toList) := by
    apply propext
    constructor
    · rintro rfl; rfl
    · rintro rfl; rfl
  rw [Bool.eq_iff_iff]
  simp [this]
  cases g <;> simp [and_assoc]

set_option maxHeartbeats 2000000 in
theorem refPlain_any (n : Nd) (w : World) (hs : n.s.length ≤ maxLen) :
    Calls Tryz.prog 56 #[nda n] w fun e w' => e = .returned (.bool (plainN n)) ∧ Below w.heap.size w w' := by
  have hB : Below w.heap.size w w := Below.refl _ _
  have heql := eql_node
  obtain ⟨k, m, nm, s, g, x⟩ := n
  simp only at hs ⊢
  have hs' : (ByteArray.mk s.toArray).size ≤ maxLen := hs
  by_cases h3 : k = 3
  · have HP := Lib.hid (plainN_num (n := ⟨k, m, nm, s, g, x⟩) h3)
    subst h3
    go_enter Tryz.func56, Tryz.ntmps56
    go_wp2_with fail
    refine (refRight_any _ _ _ _ _ _ _ hs').mono ?_
    rintro e w1 ⟨rfl, hb1⟩
    go_wp2_with fail
    go_ret
    refine ⟨ret_bool (by rw [HP.out]), ?_⟩
    exact (hB.alloc (Nat.le_refl _) _).trans (hb1.mono (by simp))
  by_cases h4 : k = 4
  · have HP := Lib.hid (plainN_str (n := ⟨k, m, nm, s, g, x⟩) h4)
    subst h4
    cases hv : vld s
    · have HV := Lib.hid hv; clear hv
      go_enter Tryz.func56, Tryz.ntmps56
      go_wp2_with fail
      refine (refUtf_any _ _ hs').mono ?_
      rintro e w1 ⟨rfl, rfl⟩
      rw [show Lib.validD (ByteArray.mk s.toArray).data.toList = false from HV.out]
      go_wp2_with fail
      go_ret
      exact ⟨ret_bool (by rw [HP.out]; simp [HV.out]), hB.alloc (Nat.le_refl _) _⟩
    · have HV := Lib.hid hv; clear hv
      go_enter Tryz.func56, Tryz.ntmps56
      go_wp2_with fail
      refine (refUtf_any _ _ hs').mono ?_
      rintro e w1 ⟨rfl, rfl⟩
      rw [show Lib.validD (ByteArray.mk s.toArray).data.toList = true from HV.out]
      go_wp2_with fail
      go_ret
      refine ⟨ret_bool ?_, hB.alloc (Nat.le_refl _) _⟩
      rw [HP.out, sameNode_self]
      simp [HV.out]
  by_cases h0 : k = 0 ∨ k = 1 ∨ k = 2
  · have HP := Lib.hid (plainN_low (n := ⟨k, m, nm, s, g, x⟩) h0)
    rcases h0 with rfl | rfl | rfl
    all_goals
      go_enter Tryz.func56, Tryz.ntmps56
      go_wp2_with fail
      go_ret
      refine ⟨ret_bool ?_, hB.alloc (Nat.le_refl _) _⟩
      rw [HP.out, sameNode_self]
  by_cases h5 : k = 5 ∨ k = 6
  · have HP := Lib.hid (plainN_cont (n := ⟨k, m, nm, s, g, x⟩) h5)
    rcases h5 with rfl | rfl
    all_goals
      clear h0
      go_enter Tryz.func56, Tryz.ntmps56
      go_wp2_with fail
      · go_ret
        refine ⟨ret_bool ?_, hB.alloc (Nat.le_refl _) _⟩
        have h : 0 ≤ m := by assumption
        rw [HP.out, sameNode_self]
        simp [h]
      · go_ret
        refine ⟨ret_bool ?_, hB.alloc (Nat.le_refl _) _⟩
        have h : m < 0 := by assumption
        rw [HP.out, show decide (0 ≤ m) = false by simp; omega]
        rfl
  · have HP := Lib.hid (plainN_none (n := ⟨k, m, nm, s, g, x⟩) (by simp only; omega))
    have e0 : (k == 0) = false := by simp; omega
    have e1 : (k == 1) = false := by simp; omega
    have e2 : (k == 2) = false := by simp; omega
    have e3 : (k == 3) = false := by simp; omega
    have e4 : (k == 4) = false := by simp; omega
    have e5 : (k == 5) = false := by simp; omega
    have e6 : (k == 6) = false := by simp; omega
    clear h0 h3 h4 h5
    go_enter Tryz.func56, Tryz.ntmps56
    go_wp2_with fail
    go_ret
    exact ⟨ret_bool HP.out.symm, hB.alloc (Nat.le_refl _) _⟩
end Go.Proofs.YtbhgmfddjnkglaaGreatDoor
