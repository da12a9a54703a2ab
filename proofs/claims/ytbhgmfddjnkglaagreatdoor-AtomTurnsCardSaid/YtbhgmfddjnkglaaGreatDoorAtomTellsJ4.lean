/-
  Joined: ValW1.
-/
import Derived.Test.YtbhgmfddjnkglaaGreatDoorRefW6
import Derived.Test.YtbhgmfddjnkglaaGreatDoorAtomTellsJ3

/-
  What val's small functions answer: holdsParts, isObject, lets, rightNode, begin; the library's ValidString.
-/
namespace Go.Proofs.YtbhgmfddjnkglaaGreatDoor
open Go.RowKit Np Rw Vp

/-- The library's two tables on UTF-8, as they are laid. -/
def Tabs (w : World) : Prop := Lib.Utf8Tabs 1 2 w
theorem Tabs.below {w w' : World} (h : Tabs w) (hb : Below w.heap.size w w') : Tabs w' := Utf8Tabs_below h hb
theorem valid_any (s : ByteArray) (w : World) (hs : s.size ≤ maxLen) (hT : Tabs w) :
    Calls Tryz.prog 69 #[.string s] w fun e w' => e = .returned (.bool (vld s.data.toList)) ∧ Below w.heap.size w w' :=
  Any.utf8_ValidString Tryz.laysValid s w (by unfold maxLen at hs; omega) hT



/-- A holder's value. -/
abbrev hda (h : Hd) : Value := .agg #[.int .i64 h.kind, .int .i64 h.left, .bool h.begun, .string ⟨h.ahead.toArray⟩]
def hdc (h : Hd) : List Value := [.int .i64 h.kind, .int .i64 h.left, .bool h.begun, .string ⟨h.ahead.toArray⟩]

set_option maxHeartbeats 1000000 in
theorem lets_any (h : Hd) (nm : List UInt8) (w : World) (hs : nm.length ≤ maxLen) (hT : Tabs w) :
    Calls Tryz.prog 52 #[hda h, .string ⟨nm.toArray⟩] w fun e w' => e = .returned (.bool (lets h.kind h.begun h.ahead nm)) ∧ Below w.heap.size w w' := by
  have hB : Below w.heap.size w w := Below.refl _ _
  have hs' : (ByteArray.mk nm.toArray).size ≤ maxLen := hs
  obtain ⟨k, lf, b, a⟩ := h
  simp only
  by_cases h6 : k = 6
  · subst h6
    have HL : Hid (lets 6 b a nm = (vld nm && (!b || decide (a < nm)))) := Lib.hid (by simp [lets])
    have hT1 : Tabs (w.alloc (.cells #[.int .i64 6, .int .i64 lf, .bool b, .string ⟨a.toArray⟩] 79)) := hT.below (hB.alloc (Nat.le_refl _) _)
    have hbl := bytesLess_eq a nm
    cases hv : vld nm
    · have HV := Lib.hid hv; clear hv hbl
      go_enter Tryz.func52, Tryz.ntmps52
      go_wp2_with fail
      refine (valid_any _ _ hs' hT1).mono ?_
      rintro e w1 ⟨rfl, hb1⟩
      rw [show vld (ByteArray.mk nm.toArray).data.toList = false from HV.out]
      go_wp2_with fail
      go_ret
      exact ⟨ret_bool (by rw [HL.out, HV.out]; rfl), (hB.alloc (Nat.le_refl _) _).trans (hb1.mono (by simp))⟩
    · have HV := Lib.hid hv; clear hv
      have HBL := Lib.hid hbl; clear hbl
      cases b
      · go_enter Tryz.func52, Tryz.ntmps52
        go_wp2_with fail
        refine (valid_any _ _ hs' hT1).mono ?_
        rintro e w1 ⟨rfl, hb1⟩
        rw [show vld (ByteArray.mk nm.toArray).data.toList = true from HV.out]
        obtain ⟨hc1, -⟩ := kept_cells hb1
        go_wp2_with fail
        go_ret
        exact ⟨ret_bool (by rw [HL.out, HV.out]; rfl), (hB.alloc (Nat.le_refl _) _).trans (hb1.mono (by simp))⟩
      · go_enter Tryz.func52, Tryz.ntmps52
        go_wp2_with fail
        refine (valid_any _ _ hs' hT1).mono ?_
        rintro e w1 ⟨rfl, hb1⟩
        rw [show vld (ByteArray.mk nm.toArray).data.toList = true from HV.out]
        obtain ⟨hc1, -⟩ := kept_cells hb1
        go_wp2_with fail
        go_ret
        exact ⟨ret_bool (by rw [HL.out, HV.out]; simp [HBL.out]), (hB.alloc (Nat.le_refl _) _).trans (hb1.mono (by simp))⟩
  · have HL : Hid (lets k b a nm = decide (nm = [])) := Lib.hid (by simp [lets, h6])
    have e6 : (k == 6) = false := by simp [h6]
    have e6' : (k != 6) = true := by simp [h6]
    clear h6
    go_enter Tryz.func52, Tryz.ntmps52
    go_wp2_with fail
    go_ret
    refine ⟨ret_bool ?_, hB.alloc (Nat.le_refl _) _⟩
    rw [HL.out]
    cases nm <;> rfl

set_option maxHeartbeats 2000000 in
theorem rightNode_any (n : Nd) (w : World) (hs : n.s.length ≤ maxLen) (hT : Tabs w) :
    Calls Tryz.prog 53 #[nda n] w fun e w' => e = .returned (.bool (plainN n)) ∧ Below w.heap.size w w' := by
  have hB : Below w.heap.size w w := Below.refl _ _
  obtain ⟨k, m, nm, s, g, x⟩ := n
  simp only at hs ⊢
  have hs' : (ByteArray.mk s.toArray).size ≤ maxLen := hs
  by_cases h3 : k = 3
  · have HP := Lib.hid (plainN_num (n := ⟨k, m, nm, s, g, x⟩) h3)
    subst h3
    go_enter Tryz.func53, Tryz.ntmps53
    go_wp2_with fail
    refine (right_any _ _ _ _ _ _ _ hs').mono ?_
    rintro e w1 ⟨rfl, hb1⟩
    go_wp2_with fail
    go_ret
    refine ⟨ret_bool (by rw [HP.out]), ?_⟩
    exact (hB.alloc (Nat.le_refl _) _).trans (hb1.mono (by simp))
  by_cases h4 : k = 4
  · have HP := Lib.hid (plainN_str (n := ⟨k, m, nm, s, g, x⟩) h4)
    subst h4
    have hT1 : Tabs (w.alloc (.cells #[.int .i64 4, .int .i64 m, .string ⟨nm.toArray⟩, .string ⟨s.toArray⟩, .bool g, .int .i64 x] 24)) := hT.below (hB.alloc (Nat.le_refl _) _)
    by_cases hm : m = 0
    · subst hm
      cases hv : vld s
      · have HV := Lib.hid hv; clear hv
        go_enter Tryz.func53, Tryz.ntmps53
        go_wp2_with fail
        refine (valid_any _ _ hs' hT1).mono ?_
        rintro e w1 ⟨rfl, hb1⟩
        rw [show vld (ByteArray.mk s.toArray).data.toList = false from HV.out]
        go_wp2_with fail
        go_ret
        exact ⟨ret_bool (by rw [HP.out]; simp [HV.out]), (hB.alloc (Nat.le_refl _) _).trans (hb1.mono (by simp))⟩
      · have HV := Lib.hid hv; clear hv
        cases g
        · go_enter Tryz.func53, Tryz.ntmps53
          go_wp2_with fail
          refine (valid_any _ _ hs' hT1).mono ?_
          rintro e w1 ⟨rfl, hb1⟩
          rw [show vld (ByteArray.mk s.toArray).data.toList = true from HV.out]
          obtain ⟨hc1, -⟩ := kept_cells hb1
          go_wp2_with fail
          go_ret
          refine ⟨ret_bool ?_, (hB.alloc (Nat.le_refl _) _).trans (hb1.mono (by simp))⟩
          rw [HP.out]
          simp [HV.out]
          rfl
        · go_enter Tryz.func53, Tryz.ntmps53
          go_wp2_with fail
          refine (valid_any _ _ hs' hT1).mono ?_
          rintro e w1 ⟨rfl, hb1⟩
          rw [show vld (ByteArray.mk s.toArray).data.toList = true from HV.out]
          obtain ⟨hc1, -⟩ := kept_cells hb1
          go_wp2_with fail
          go_ret
          refine ⟨ret_bool ?_, (hB.alloc (Nat.le_refl _) _).trans (hb1.mono (by simp))⟩
          rw [HP.out]
          simp
    · have HE : Hid (plainN ⟨4, m, nm, s, g, x⟩ = false) := Lib.hid (by rw [HP.out]; simp [hm])
      have e0 : (m == 0) = false := by simp [hm]
      clear hm
      go_enter Tryz.func53, Tryz.ntmps53
      go_wp2_with fail
      go_ret
      exact ⟨ret_bool HE.out.symm, hB.alloc (Nat.le_refl _) _⟩
  by_cases h0 : k = 0 ∨ k = 1 ∨ k = 2
  · rcases h0 with rfl | rfl | rfl
    all_goals
      clear hs hs' hT h3 h4
      go_enter Tryz.func53, Tryz.ntmps53
      go_wp2_with fail
      all_goals (go_ret; refine ⟨ret_bool ?_, hB.alloc (Nat.le_refl _) _⟩; clear hB)
      all_goals (go_light; simp_all [plainN] <;> rfl)
  by_cases h5 : k = 5 ∨ k = 6
  · rcases h5 with rfl | rfl
    all_goals
      clear hs hs' hT h3 h4 h0
      go_enter Tryz.func53, Tryz.ntmps53
      go_wp2_with fail
      all_goals (go_ret; refine ⟨ret_bool ?_, hB.alloc (Nat.le_refl _) _⟩; clear hB)
      all_goals (go_light; simp_all [plainN] <;> first | rfl | omega)
  · have HP := Lib.hid (plainN_none (n := ⟨k, m, nm, s, g, x⟩) (by simp only; omega))
    have e0 : (k == 0) = false := by simp; omega
    have e1 : (k == 1) = false := by simp; omega
    have e2 : (k == 2) = false := by simp; omega
    have e3 : (k == 3) = false := by simp; omega
    have e4 : (k == 4) = false := by simp; omega
    have e5 : (k == 5) = false := by simp; omega
    have e6 : (k == 6) = false := by simp; omega
    clear h0 h3 h4 h5
    go_enter Tryz.func53, Tryz.ntmps53
    go_wp2_with fail
    go_ret
    exact ⟨ret_bool HP.out.symm, hB.alloc (Nat.le_refl _) _⟩
end Go.Proofs.YtbhgmfddjnkglaaGreatDoor
