/-
  What num's comparing functions answer: sign, cmpSize, Cmp; and the library's Compare of two strings.
-/
import Derived.Test.YtdgcdemihalefaaGreatDoorNumW1
import Derived.Test.YtdgcdemihalefaaGreatDoorShelf
namespace Go.Proofs.YtdgcdemihalefaaGreatDoor
open Go.RowKit Np



set_option maxHeartbeats 400000 in
theorem isNaNStr_any (s : ByteArray) (w : World) :
    Calls Tryz.prog 236 #[.string s] w fun e w' => e = .returned (.bool false) ∧ w = w' := by
  go_enter Tryz.func236, Tryz.ntmps236
  go_wp2
  go_ret
  exact ⟨ret_bool (by simp), rfl⟩

set_option maxHeartbeats 400000 in
theorem cmpStr_any (s t : ByteArray) (w : World) :
    Calls Tryz.prog 207 #[.string s, .string t] w fun e w' => e = .returned (.int .i64 (cmpB s.data.toList t.data.toList)) ∧ w = w' := by
  go_enter Tryz.func207, Tryz.ntmps207
  go_wp2_with (go_at_call 236; refine (isNaNStr_any _ _).mono ?_; rintro e w' ⟨rfl, rfl⟩)
  · have h : Op.bytesLess s.toList t.toList = true := by assumption
    rw [ByteArray.toList_eq, ByteArray.toList_eq] at h
    go_ret
    exact ⟨ret_i64 (by rw [cmpB, if_pos h]), rfl⟩
  · have h : Op.bytesLess s.toList t.toList = false := by assumption
    have h2 : (!s.toList == t.toList) = true := by assumption
    rw [ByteArray.toList_eq, ByteArray.toList_eq] at h h2
    go_ret
    exact ⟨ret_i64 (by rw [cmpB, if_neg (by rw [h]; decide), if_neg (by simpa using h2)]), rfl⟩
  · have h : Op.bytesLess s.toList t.toList = false := by assumption
    have h2 : (!s.toList == t.toList) = false := by assumption
    rw [ByteArray.toList_eq, ByteArray.toList_eq] at h h2
    go_ret
    exact ⟨ret_i64 (by rw [cmpB, if_neg (by rw [h]; decide), if_pos (by simpa using h2)]), rfl⟩

set_option maxHeartbeats 400000 in
theorem sign_any (k m : Int) (nm s : ByteArray) (g : Bool) (x : Int) (w : World) :
    Calls Tryz.prog 270 #[.agg #[.int .i64 k, .int .i64 m, .string nm, .string s, .bool g, .int .i64 x]] w fun e w' => e = .returned (.int .i64 (sgn s.data.toList g)) ∧ Below w.heap.size w w' := by
  have hB : Below w.heap.size w w := Below.refl _ _
  go_enter Tryz.func270, Tryz.ntmps270
  go_wp2_with fail
  · have h : s.toList.isEmpty = true := by assumption
    rw [ByteArray.toList_eq] at h
    go_ret
    exact ⟨ret_i64 (by rw [sgn, if_pos h]), hB.alloc (Nat.le_refl _) _⟩
  · have h : s.toList.isEmpty = false := by assumption
    have h2 : g = true := by assumption
    rw [ByteArray.toList_eq] at h
    go_ret
    exact ⟨ret_i64 (by rw [sgn, if_neg (by rw [h]; decide), if_pos h2]), hB.alloc (Nat.le_refl _) _⟩
  · have h : s.toList.isEmpty = false := by assumption
    have h2 : g = false := by assumption
    rw [ByteArray.toList_eq] at h
    go_ret
    exact ⟨ret_i64 (by rw [sgn, if_neg (by rw [h]; decide), if_neg (by rw [h2]; decide)]), hB.alloc (Nat.le_refl _) _⟩

set_option maxHeartbeats 400000 in
theorem cmpSize_any (k m : Int) (nm s : ByteArray) (g : Bool) (x : Int) (k2 m2 : Int) (nm2 s2 : ByteArray) (g2 : Bool) (x2 : Int) (w : World)
    (hs : s.size ≤ 1000000) (hs2 : s2.size ≤ 1000000) (hx : -1000000 ≤ x) (hx' : x ≤ 1000000) (hx2 : -1000000 ≤ x2) (hx2' : x2 ≤ 1000000) :
    Calls Tryz.prog 271 #[.agg #[.int .i64 k, .int .i64 m, .string nm, .string s, .bool g, .int .i64 x], .agg #[.int .i64 k2, .int .i64 m2, .string nm2, .string s2, .bool g2, .int .i64 x2]] w
      fun e w' => e = .returned (.int .i64 (cmpSz s.data.toList x s2.data.toList x2)) ∧ Below w.heap.size w w' := by
  have hB : Below w.heap.size w w := Below.refl _ _
  go_enter Tryz.func271, Tryz.ntmps271
  go_wp2_with fail
  refine (Tryz.cmp_Compare_int _ _ _).mono ?_
  rintro e w' ⟨rfl, rfl⟩
  have HV : Hid (cmpSz s.data.toList x s2.data.toList x2 = if Lib.compareInt (s.size + x) (s2.size + x2) = 0 then cmpB s.data.toList s2.data.toList else Lib.compareInt (s.size + x) (s2.size + x2)) :=
    Lib.hid (by rw [cmpSz, size_toList, size_toList])
  generalize Lib.compareInt (s.size + x) (s2.size + x2) = c at HV ⊢
  by_cases hc : c = 0
  · subst hc
    go_wp2_with (go_at_call 207; refine (cmpStr_any _ _ _).mono ?_; rintro e w' ⟨rfl, rfl⟩)
    go_ret
    exact ⟨ret_i64 (by rw [HV.out, if_pos trivial]), (hB.alloc (Nat.le_refl _) _).alloc (by simp) _⟩
  · go_wp2_with fail
    go_ret
    exact ⟨ret_i64 (by rw [HV.out, if_neg hc]), (hB.alloc (Nat.le_refl _) _).alloc (by simp) _⟩

set_option maxHeartbeats 400000 in
theorem cmp_any (k m : Int) (nm s : ByteArray) (g : Bool) (x : Int) (k2 m2 : Int) (nm2 s2 : ByteArray) (g2 : Bool) (x2 : Int) (w : World)
    (hs : s.size ≤ 1000000) (hs2 : s2.size ≤ 1000000) (hx : -1000000 ≤ x) (hx' : x ≤ 1000000) (hx2 : -1000000 ≤ x2) (hx2' : x2 ≤ 1000000) :
    Calls Tryz.prog 233 #[.agg #[.int .i64 k, .int .i64 m, .string nm, .string s, .bool g, .int .i64 x], .agg #[.int .i64 k2, .int .i64 m2, .string nm2, .string s2, .bool g2, .int .i64 x2]] w
      fun e w' => e = .returned (.int .i64 (cmpN s.data.toList g x s2.data.toList g2 x2)) ∧ Below w.heap.size w w' := by
  have hB : Below w.heap.size w w := Below.refl _ _
  go_enter Tryz.func233, Tryz.ntmps233
  go_wp2_with fail
  refine (sign_any _ _ _ _ _ _ _).mono ?_
  rintro e w1 ⟨rfl, hb1⟩
  obtain ⟨hc1, hf1⟩ := kept_cells hb1
  have hz1 : w.heap.size + 2 ≤ w1.heap.size := by have := hb1.size; simp at this; omega
  have hB1 : Below w.heap.size w w1 := ((hB.alloc (Nat.le_refl _) _).alloc (by simp) _).trans (hb1.mono (by simp; omega))
  clear hb1
  go_wp2_with fail
  refine (sign_any _ _ _ _ _ _ _).mono ?_
  rintro e w2 ⟨rfl, hb2⟩
  have hB2 : Below w.heap.size w w2 := hB1.trans (hb2.mono (by omega))
  have hz2 : w.heap.size + 2 ≤ w2.heap.size := by have := hb2.size; omega
  have hc2 : ∀ b o, b < w.heap.size + 2 → w2.cell? ⟨b, o, none⟩ = w1.cell? ⟨b, o, none⟩ := fun b o h => (kept_cells hb2).1 b o (by omega)
  clear hb2
  go_wp2_with fail
  refine (Tryz.cmp_Compare_int _ _ _).mono ?_
  rintro e w' ⟨rfl, rfl⟩
  have HV : Hid (cmpN s.data.toList g x s2.data.toList g2 x2 = if Lib.compareInt (sgn s.data.toList g) (sgn s2.data.toList g2) = 0 then sgn s.data.toList g * cmpSz s.data.toList x s2.data.toList x2 else Lib.compareInt (sgn s.data.toList g) (sgn s2.data.toList g2)) :=
    Lib.hid (by rw [cmpN])
  generalize Lib.compareInt (sgn s.data.toList g) (sgn s2.data.toList g2) = c at HV ⊢
  by_cases hc : c = 0
  · have hS := sgn_cases s.data.toList g
    generalize sgn s.data.toList g = d at HV hS ⊢
    subst hc
    go_wp2_with fail
    refine (cmpSize_any _ _ _ _ _ _ _ _ _ _ _ _ _ hs hs2 hx hx' hx2 hx2').mono ?_
    rintro e w3 ⟨rfl, hb3⟩
    have hB3 : Below w.heap.size w w3 := hB2.trans (hb3.mono (by omega))
    have hT := cmpSz_cases s.data.toList x s2.data.toList x2
    generalize cmpSz s.data.toList x s2.data.toList x2 = t at HV hT ⊢
    clear hb3 hc1 hf1 hc2
    rcases hS with rfl | rfl | rfl <;> rcases hT with rfl | rfl | rfl
    all_goals
      go_wp2_with fail
      go_ret
      exact ⟨ret_i64 (by rw [HV.out]; rfl), hB3⟩
  · go_wp2_with fail
    go_ret
    exact ⟨ret_i64 (by rw [HV.out, if_neg hc]), hB2⟩

end Go.Proofs.YtdgcdemihalefaaGreatDoor
