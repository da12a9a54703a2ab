/-
  Joined: FrB1.
-/
import Derived.Test.YtdgcdemihalefaaGreatDoorTermTellsJ11
namespace Go.Proofs.YtdgcdemihalefaaGreatDoor
open Go.RowKit Np Rw Vp Up Qp Pw Fw
set_option maxRecDepth 100000 in
set_option maxHeartbeats 4000000 in
theorem refPlain_A (op many n : Int) (name s : List UInt8) (c : Nd) (w : World) (hop : op = 0 ∨ op = 10 ∨ op = 11 ∨ op = 14) :
    Calls Tryz.prog 52 #[tma ⟨op, many, name, s, n, c⟩] w (PlE w ⟨op, many, name, s, n, c⟩) := by
  have HX0 : Hid ((⟨op, many, name, s, n, c⟩ : Tm) ≠ (⟨op, many, name, [], 0, zeroC⟩ : Tm) → plainT ⟨op, many, name, s, n, c⟩ = false) := Lib.hid (fun h => plainT_bareR (by
    rcases hop with rfl | rfl | rfl | rfl <;> simpa [bareR] using h))
  have HX1 : Hid (¬ (many = 0) → plainT ⟨op, many, name, s, n, c⟩ = false) := Lib.hid (fun h => by
    rcases hop with rfl | rfl | rfl | rfl <;> simp [plainT, manyOk, sOk, nOk, cOk, h])
  have HXT : Hid ((⟨op, many, name, s, n, c⟩ : Tm) = (⟨op, many, name, [], 0, zeroC⟩ : Tm) → many = 0 → plainT ⟨op, many, name, s, n, c⟩ = true) := Lib.hid (fun h h1 => by
    rw [h]; rcases hop with rfl | rfl | rfl | rfl <;> simp [plainT, manyOk, sOk, nOk, cOk, h1])
  have hq : ∀ W, (binOp .eql 47 (.agg #[.int .i64 op, .int .i64 many, .string ⟨name.toArray⟩, .string ⟨s.toArray⟩, .int .i64 n, .int .i64 c.kind, .int .i64 c.many, .string ⟨c.name.toArray⟩, .string ⟨c.s.toArray⟩, .bool c.neg, .int .i64 c.e]) (.agg #[.int .i64 op, .int .i64 many, .string ⟨name.toArray⟩, .string ⟨#[]⟩, .int .i64 0, .int .i64 0, .int .i64 0, .string ⟨#[]⟩, .string ⟨#[]⟩, .bool false, .int .i64 0])).run Tryz.prog W = .ok (.bool (decide ((⟨op, many, name, s, n, c⟩ : Tm) = (⟨op, many, name, [], 0, zeroC⟩ : Tm)))) W := fun W => eql_tm ⟨op, many, name, s, n, c⟩ ⟨op, many, name, [], 0, zeroC⟩ W
  unfold PlE
  generalize plainT ⟨op, many, name, s, n, c⟩ = R at *
  by_cases hd : (⟨op, many, name, s, n, c⟩ : Tm) = (⟨op, many, name, [], 0, zeroC⟩ : Tm)
  · rw [decide_eq_true hd] at hq
    by_cases h1 : many = 0
    · skip
      have HR := Lib.hid (HXT.out hd h1)
      clear hd HX0 HX1 HXT
      subst h1
      rcases hop with rfl | rfl | rfl | rfl
      all_goals go_enter Tryz.func52, Tryz.ntmps52
      all_goals go_wp2_with fail
      all_goals go_ret
      all_goals exact ⟨ret_bool HR.out.symm, by (first | exact HB5.out.trans (HB6.out.mono HB5.out.size) | exact HB5.out | exact (((Below.refl _ _).alloc (Nat.le_refl _) _).alloc (by simp) _) | exact ((((Below.refl _ _).alloc (Nat.le_refl _) _).alloc (by simp) _).setCell (by simp) _) | exact (((((Below.refl _ _).alloc (Nat.le_refl _) _).alloc (by simp) _).setCell (by simp) _).setCell (by simp) _))⟩
    · have HR := Lib.hid (HX1.out h1)
      have e1 : (many == 0) = false := by simpa using h1
      clear hd h1 HX0 HX1 HXT
      rcases hop with rfl | rfl | rfl | rfl
      all_goals go_enter Tryz.func52, Tryz.ntmps52
      all_goals go_wp2_with fail
      all_goals go_ret
      all_goals exact ⟨ret_bool HR.out.symm, by (first | exact HB5.out.trans (HB6.out.mono HB5.out.size) | exact HB5.out | exact (((Below.refl _ _).alloc (Nat.le_refl _) _).alloc (by simp) _) | exact ((((Below.refl _ _).alloc (Nat.le_refl _) _).alloc (by simp) _).setCell (by simp) _) | exact (((((Below.refl _ _).alloc (Nat.le_refl _) _).alloc (by simp) _).setCell (by simp) _).setCell (by simp) _))⟩
  · rw [decide_eq_false hd] at hq
    have HR := Lib.hid (HX0.out hd)
    clear hd HX0 HX1 HXT
    rcases hop with rfl | rfl | rfl | rfl
    all_goals go_enter Tryz.func52, Tryz.ntmps52
    all_goals go_wp2_with fail
    all_goals go_ret
    all_goals exact ⟨ret_bool HR.out.symm, by (first | exact HB5.out.trans (HB6.out.mono HB5.out.size) | exact HB5.out | exact (((Below.refl _ _).alloc (Nat.le_refl _) _).alloc (by simp) _) | exact ((((Below.refl _ _).alloc (Nat.le_refl _) _).alloc (by simp) _).setCell (by simp) _) | exact (((((Below.refl _ _).alloc (Nat.le_refl _) _).alloc (by simp) _).setCell (by simp) _).setCell (by simp) _))⟩
set_option maxRecDepth 100000 in
set_option maxHeartbeats 4000000 in
theorem refPlain_D (op many n : Int) (name s : List UInt8) (c : Nd) (w : World) (hop : op = 4 ∨ op = 17 ∨ op = 18) :
    Calls Tryz.prog 52 #[tma ⟨op, many, name, s, n, c⟩] w (PlE w ⟨op, many, name, s, n, c⟩) := by
  have HX0 : Hid ((⟨op, many, name, s, n, c⟩ : Tm) ≠ (⟨op, many, name, [], 0, zeroC⟩ : Tm) → plainT ⟨op, many, name, s, n, c⟩ = false) := Lib.hid (fun h => plainT_bareR (by
    rcases hop with rfl | rfl | rfl <;> simpa [bareR] using h))
  have HX1 : Hid (¬ (many = 2) → plainT ⟨op, many, name, s, n, c⟩ = false) := Lib.hid (fun h => by
    rcases hop with rfl | rfl | rfl <;> simp [plainT, manyOk, sOk, nOk, cOk, h])
  have HXT : Hid ((⟨op, many, name, s, n, c⟩ : Tm) = (⟨op, many, name, [], 0, zeroC⟩ : Tm) → many = 2 → plainT ⟨op, many, name, s, n, c⟩ = true) := Lib.hid (fun h h1 => by
    rw [h]; rcases hop with rfl | rfl | rfl <;> simp [plainT, manyOk, sOk, nOk, cOk, h1])
  have hq : ∀ W, (binOp .eql 47 (.agg #[.int .i64 op, .int .i64 many, .string ⟨name.toArray⟩, .string ⟨s.toArray⟩, .int .i64 n, .int .i64 c.kind, .int .i64 c.many, .string ⟨c.name.toArray⟩, .string ⟨c.s.toArray⟩, .bool c.neg, .int .i64 c.e]) (.agg #[.int .i64 op, .int .i64 many, .string ⟨name.toArray⟩, .string ⟨#[]⟩, .int .i64 0, .int .i64 0, .int .i64 0, .string ⟨#[]⟩, .string ⟨#[]⟩, .bool false, .int .i64 0])).run Tryz.prog W = .ok (.bool (decide ((⟨op, many, name, s, n, c⟩ : Tm) = (⟨op, many, name, [], 0, zeroC⟩ : Tm)))) W := fun W => eql_tm ⟨op, many, name, s, n, c⟩ ⟨op, many, name, [], 0, zeroC⟩ W
  unfold PlE
  generalize plainT ⟨op, many, name, s, n, c⟩ = R at *
  by_cases hd : (⟨op, many, name, s, n, c⟩ : Tm) = (⟨op, many, name, [], 0, zeroC⟩ : Tm)
  · rw [decide_eq_true hd] at hq
    by_cases h1 : many = 2
    · skip
      have HR := Lib.hid (HXT.out hd h1)
      clear hd HX0 HX1 HXT
      subst h1
      rcases hop with rfl | rfl | rfl
      all_goals go_enter Tryz.func52, Tryz.ntmps52
      all_goals go_wp2_with fail
      all_goals go_ret
      all_goals exact ⟨ret_bool HR.out.symm, by (first | exact HB5.out.trans (HB6.out.mono HB5.out.size) | exact HB5.out | exact (((Below.refl _ _).alloc (Nat.le_refl _) _).alloc (by simp) _) | exact ((((Below.refl _ _).alloc (Nat.le_refl _) _).alloc (by simp) _).setCell (by simp) _) | exact (((((Below.refl _ _).alloc (Nat.le_refl _) _).alloc (by simp) _).setCell (by simp) _).setCell (by simp) _))⟩
    · have HR := Lib.hid (HX1.out h1)
      have e1 : (many == 2) = false := by simpa using h1
      clear hd h1 HX0 HX1 HXT
      rcases hop with rfl | rfl | rfl
      all_goals go_enter Tryz.func52, Tryz.ntmps52
      all_goals go_wp2_with fail
      all_goals go_ret
      all_goals exact ⟨ret_bool HR.out.symm, by (first | exact HB5.out.trans (HB6.out.mono HB5.out.size) | exact HB5.out | exact (((Below.refl _ _).alloc (Nat.le_refl _) _).alloc (by simp) _) | exact ((((Below.refl _ _).alloc (Nat.le_refl _) _).alloc (by simp) _).setCell (by simp) _) | exact (((((Below.refl _ _).alloc (Nat.le_refl _) _).alloc (by simp) _).setCell (by simp) _).setCell (by simp) _))⟩
  · rw [decide_eq_false hd] at hq
    have HR := Lib.hid (HX0.out hd)
    clear hd HX0 HX1 HXT
    rcases hop with rfl | rfl | rfl
    all_goals go_enter Tryz.func52, Tryz.ntmps52
    all_goals go_wp2_with fail
    all_goals go_ret
    all_goals exact ⟨ret_bool HR.out.symm, by (first | exact HB5.out.trans (HB6.out.mono HB5.out.size) | exact HB5.out | exact (((Below.refl _ _).alloc (Nat.le_refl _) _).alloc (by simp) _) | exact ((((Below.refl _ _).alloc (Nat.le_refl _) _).alloc (by simp) _).setCell (by simp) _) | exact (((((Below.refl _ _).alloc (Nat.le_refl _) _).alloc (by simp) _).setCell (by simp) _).setCell (by simp) _))⟩
set_option maxRecDepth 100000 in
set_option maxHeartbeats 4000000 in
theorem refPlain_E (op many n : Int) (name s : List UInt8) (c : Nd) (w : World) (hop : op = 5 ∨ op = 6 ∨ op = 7 ∨ op = 19) :
    Calls Tryz.prog 52 #[tma ⟨op, many, name, s, n, c⟩] w (PlE w ⟨op, many, name, s, n, c⟩) := by
  have HX0 : Hid ((⟨op, many, name, s, n, c⟩ : Tm) ≠ (⟨op, many, name, [], 0, zeroC⟩ : Tm) → plainT ⟨op, many, name, s, n, c⟩ = false) := Lib.hid (fun h => plainT_bareR (by
    rcases hop with rfl | rfl | rfl | rfl <;> simpa [bareR] using h))
  have HX1 : Hid (¬ (many = 1) → plainT ⟨op, many, name, s, n, c⟩ = false) := Lib.hid (fun h => by
    rcases hop with rfl | rfl | rfl | rfl <;> simp [plainT, manyOk, sOk, nOk, cOk, h])
  have HXT : Hid ((⟨op, many, name, s, n, c⟩ : Tm) = (⟨op, many, name, [], 0, zeroC⟩ : Tm) → many = 1 → plainT ⟨op, many, name, s, n, c⟩ = true) := Lib.hid (fun h h1 => by
    rw [h]; rcases hop with rfl | rfl | rfl | rfl <;> simp [plainT, manyOk, sOk, nOk, cOk, h1])
  have hq : ∀ W, (binOp .eql 47 (.agg #[.int .i64 op, .int .i64 many, .string ⟨name.toArray⟩, .string ⟨s.toArray⟩, .int .i64 n, .int .i64 c.kind, .int .i64 c.many, .string ⟨c.name.toArray⟩, .string ⟨c.s.toArray⟩, .bool c.neg, .int .i64 c.e]) (.agg #[.int .i64 op, .int .i64 many, .string ⟨name.toArray⟩, .string ⟨#[]⟩, .int .i64 0, .int .i64 0, .int .i64 0, .string ⟨#[]⟩, .string ⟨#[]⟩, .bool false, .int .i64 0])).run Tryz.prog W = .ok (.bool (decide ((⟨op, many, name, s, n, c⟩ : Tm) = (⟨op, many, name, [], 0, zeroC⟩ : Tm)))) W := fun W => eql_tm ⟨op, many, name, s, n, c⟩ ⟨op, many, name, [], 0, zeroC⟩ W
  unfold PlE
  generalize plainT ⟨op, many, name, s, n, c⟩ = R at *
  by_cases hd : (⟨op, many, name, s, n, c⟩ : Tm) = (⟨op, many, name, [], 0, zeroC⟩ : Tm)
  · rw [decide_eq_true hd] at hq
    by_cases h1 : many = 1
    · skip
      have HR := Lib.hid (HXT.out hd h1)
      clear hd HX0 HX1 HXT
      subst h1
      rcases hop with rfl | rfl | rfl | rfl
      all_goals go_enter Tryz.func52, Tryz.ntmps52
      all_goals go_wp2_with fail
      all_goals go_ret
      all_goals exact ⟨ret_bool HR.out.symm, by (first | exact HB5.out.trans (HB6.out.mono HB5.out.size) | exact HB5.out | exact (((Below.refl _ _).alloc (Nat.le_refl _) _).alloc (by simp) _) | exact ((((Below.refl _ _).alloc (Nat.le_refl _) _).alloc (by simp) _).setCell (by simp) _) | exact (((((Below.refl _ _).alloc (Nat.le_refl _) _).alloc (by simp) _).setCell (by simp) _).setCell (by simp) _))⟩
    · have HR := Lib.hid (HX1.out h1)
      have e1 : (many == 1) = false := by simpa using h1
      clear hd h1 HX0 HX1 HXT
      rcases hop with rfl | rfl | rfl | rfl
      all_goals go_enter Tryz.func52, Tryz.ntmps52
      all_goals go_wp2_with fail
      all_goals go_ret
      all_goals exact ⟨ret_bool HR.out.symm, by (first | exact HB5.out.trans (HB6.out.mono HB5.out.size) | exact HB5.out | exact (((Below.refl _ _).alloc (Nat.le_refl _) _).alloc (by simp) _) | exact ((((Below.refl _ _).alloc (Nat.le_refl _) _).alloc (by simp) _).setCell (by simp) _) | exact (((((Below.refl _ _).alloc (Nat.le_refl _) _).alloc (by simp) _).setCell (by simp) _).setCell (by simp) _))⟩
  · rw [decide_eq_false hd] at hq
    have HR := Lib.hid (HX0.out hd)
    clear hd HX0 HX1 HXT
    rcases hop with rfl | rfl | rfl | rfl
    all_goals go_enter Tryz.func52, Tryz.ntmps52
    all_goals go_wp2_with fail
    all_goals go_ret
    all_goals exact ⟨ret_bool HR.out.symm, by (first | exact HB5.out.trans (HB6.out.mono HB5.out.size) | exact HB5.out | exact (((Below.refl _ _).alloc (Nat.le_refl _) _).alloc (by simp) _) | exact ((((Below.refl _ _).alloc (Nat.le_refl _) _).alloc (by simp) _).setCell (by simp) _) | exact (((((Below.refl _ _).alloc (Nat.le_refl _) _).alloc (by simp) _).setCell (by simp) _).setCell (by simp) _))⟩
set_option maxRecDepth 100000 in
set_option maxHeartbeats 4000000 in
theorem refPlain_F (op many n : Int) (name s : List UInt8) (c : Nd) (w : World) (hop : op = 8 ∨ op = 9) :
    Calls Tryz.prog 52 #[tma ⟨op, many, name, s, n, c⟩] w (PlE w ⟨op, many, name, s, n, c⟩) := by
  have HX0 : Hid ((⟨op, many, name, s, n, c⟩ : Tm) ≠ (⟨op, many, name, [], 0, zeroC⟩ : Tm) → plainT ⟨op, many, name, s, n, c⟩ = false) := Lib.hid (fun h => plainT_bareR (by
    rcases hop with rfl | rfl <;> simpa [bareR] using h))
  have HX1 : Hid (¬ (0 ≤ many) → plainT ⟨op, many, name, s, n, c⟩ = false) := Lib.hid (fun h => by
    rcases hop with rfl | rfl <;> simp [plainT, manyOk, sOk, nOk, cOk, h])
  have HXT : Hid ((⟨op, many, name, s, n, c⟩ : Tm) = (⟨op, many, name, [], 0, zeroC⟩ : Tm) → 0 ≤ many → plainT ⟨op, many, name, s, n, c⟩ = true) := Lib.hid (fun h h1 => by
    rw [h]; rcases hop with rfl | rfl <;> simp [plainT, manyOk, sOk, nOk, cOk, h1])
  have hq : ∀ W, (binOp .eql 47 (.agg #[.int .i64 op, .int .i64 many, .string ⟨name.toArray⟩, .string ⟨s.toArray⟩, .int .i64 n, .int .i64 c.kind, .int .i64 c.many, .string ⟨c.name.toArray⟩, .string ⟨c.s.toArray⟩, .bool c.neg, .int .i64 c.e]) (.agg #[.int .i64 op, .int .i64 many, .string ⟨name.toArray⟩, .string ⟨#[]⟩, .int .i64 0, .int .i64 0, .int .i64 0, .string ⟨#[]⟩, .string ⟨#[]⟩, .bool false, .int .i64 0])).run Tryz.prog W = .ok (.bool (decide ((⟨op, many, name, s, n, c⟩ : Tm) = (⟨op, many, name, [], 0, zeroC⟩ : Tm)))) W := fun W => eql_tm ⟨op, many, name, s, n, c⟩ ⟨op, many, name, [], 0, zeroC⟩ W
  unfold PlE
  generalize plainT ⟨op, many, name, s, n, c⟩ = R at *
  by_cases hd : (⟨op, many, name, s, n, c⟩ : Tm) = (⟨op, many, name, [], 0, zeroC⟩ : Tm)
  · rw [decide_eq_true hd] at hq
    by_cases h1 : 0 ≤ many
    · skip
      have HR := Lib.hid (HXT.out hd h1)
      clear hd HX0 HX1 HXT
      rcases hop with rfl | rfl
      all_goals go_enter Tryz.func52, Tryz.ntmps52
      all_goals go_wp2_with fail
      all_goals go_ret
      all_goals exact ⟨ret_bool HR.out.symm, by (first | exact HB5.out.trans (HB6.out.mono HB5.out.size) | exact HB5.out | exact (((Below.refl _ _).alloc (Nat.le_refl _) _).alloc (by simp) _) | exact ((((Below.refl _ _).alloc (Nat.le_refl _) _).alloc (by simp) _).setCell (by simp) _) | exact (((((Below.refl _ _).alloc (Nat.le_refl _) _).alloc (by simp) _).setCell (by simp) _).setCell (by simp) _))⟩
    · have HR := Lib.hid (HX1.out h1)
      clear hd HX0 HX1 HXT
      rcases hop with rfl | rfl
      all_goals go_enter Tryz.func52, Tryz.ntmps52
      all_goals go_wp2_with fail
      all_goals go_ret
      all_goals exact ⟨ret_bool HR.out.symm, by (first | exact HB5.out.trans (HB6.out.mono HB5.out.size) | exact HB5.out | exact (((Below.refl _ _).alloc (Nat.le_refl _) _).alloc (by simp) _) | exact ((((Below.refl _ _).alloc (Nat.le_refl _) _).alloc (by simp) _).setCell (by simp) _) | exact (((((Below.refl _ _).alloc (Nat.le_refl _) _).alloc (by simp) _).setCell (by simp) _).setCell (by simp) _))⟩
  · rw [decide_eq_false hd] at hq
    have HR := Lib.hid (HX0.out hd)
    clear hd HX0 HX1 HXT
    rcases hop with rfl | rfl
    all_goals go_enter Tryz.func52, Tryz.ntmps52
    all_goals go_wp2_with fail
    all_goals go_ret
    all_goals exact ⟨ret_bool HR.out.symm, by (first | exact HB5.out.trans (HB6.out.mono HB5.out.size) | exact HB5.out | exact (((Below.refl _ _).alloc (Nat.le_refl _) _).alloc (by simp) _) | exact ((((Below.refl _ _).alloc (Nat.le_refl _) _).alloc (by simp) _).setCell (by simp) _) | exact (((((Below.refl _ _).alloc (Nat.le_refl _) _).alloc (by simp) _).setCell (by simp) _).setCell (by simp) _))⟩
end Go.Proofs.YtdgcdemihalefaaGreatDoor
