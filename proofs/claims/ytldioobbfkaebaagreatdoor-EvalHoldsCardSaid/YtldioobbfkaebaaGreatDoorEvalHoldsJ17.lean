/-
  Joined: FrB1, FrB3, FrB4, FrB5, FrE, FrF.
-/
import Derived.Test.YtldioobbfkaebaaGreatDoorEvalHoldsJ16
import Derived.Test.YtldioobbfkaebaaGreatDoorEvalHoldsJ14
import Derived.Test.YtldioobbfkaebaaGreatDoorEvalHoldsJ18
import Derived.Test.YtldioobbfkaebaaGreatDoorEvalHoldsJ11
set_option maxHeartbeats 4000000
set_option maxRecDepth 100000
namespace Go.Proofs.YtldioobbfkaebaaGreatDoor
section
open Go.RowKit Np Rw Vp Up Qp Pw Fw
theorem refPlain_A (op many n : Int) (name s : List UInt8) (c : Nd) (w : World) (hop : op = 0 ∨ op = 10 ∨ op = 11 ∨ op = 14) :
  Calls Tryz.prog 105 #[tma ⟨op, many, name, s, n, c⟩] w (PlE w ⟨op, many, name, s, n, c⟩) := by
 have HX0 : Hid ((⟨op, many, name, s, n, c⟩ : Tm) ≠ (⟨op, many, name, [], 0, zeroC⟩ : Tm) → plainT ⟨op, many, name, s, n, c⟩ = false) := Lib.hid (fun h => plainT_bareR (by
  rcases hop with rfl | rfl | rfl | rfl <;> simpa [bareR] using h))
 have HX1 : Hid (¬ (many = 0) → plainT ⟨op, many, name, s, n, c⟩ = false) := Lib.hid (fun h => by
  rcases hop with rfl | rfl | rfl | rfl <;> simp [plainT, manyOk, sOk, nOk, cOk, h])
 have HXT : Hid ((⟨op, many, name, s, n, c⟩ : Tm) = (⟨op, many, name, [], 0, zeroC⟩ : Tm) → many = 0 → plainT ⟨op, many, name, s, n, c⟩ = true) := Lib.hid (fun h h1 => by
  rw [h]; rcases hop with rfl | rfl | rfl | rfl <;> simp [plainT, manyOk, sOk, nOk, cOk, h1])
 have hq : ∀ W, (binOp .eql 32 (.agg #[.int .i64 op, .int .i64 many, .string ⟨name.toArray⟩, .string ⟨s.toArray⟩, .int .i64 n, .int .i64 c.kind, .int .i64 c.many, .string ⟨c.name.toArray⟩, .string ⟨c.s.toArray⟩, .bool c.neg, .int .i64 c.e]) (.agg #[.int .i64 op, .int .i64 many, .string ⟨name.toArray⟩, .string ⟨#[]⟩, .int .i64 0, .int .i64 0, .int .i64 0, .string ⟨#[]⟩, .string ⟨#[]⟩, .bool false, .int .i64 0])).run Tryz.prog W = .ok (.bool (decide ((⟨op, many, name, s, n, c⟩ : Tm) = (⟨op, many, name, [], 0, zeroC⟩ : Tm)))) W := fun W => eql_tm ⟨op, many, name, s, n, c⟩ ⟨op, many, name, [], 0, zeroC⟩ W
 unfold PlE
 generalize plainT ⟨op, many, name, s, n, c⟩ = R at *
 by_cases hd : (⟨op, many, name, s, n, c⟩ : Tm) = (⟨op, many, name, [], 0, zeroC⟩ : Tm)
 ·rw [decide_eq_true hd] at hq
  by_cases h1 : many = 0
  ·skip
   have HR := Lib.hid (HXT.out hd h1)
   clear hd HX0 HX1 HXT
   subst h1
   rcases hop with rfl | rfl | rfl | rfl
   all_goals go_enter Tryz.func105, Tryz.ntmps105
   all_goals go_wp2_with fail
   all_goals go_ret
   all_goals exact ⟨ret_bool HR.out.symm, by (first | exact HB5.out.trans (HB6.out.mono HB5.out.size) | exact HB5.out | exact (((Below.refl _ _).alloc (Nat.le_refl _) _).alloc (by simp) _) | exact ((((Below.refl _ _).alloc (Nat.le_refl _) _).alloc (by simp) _).setCell (by simp) _) | exact (((((Below.refl _ _).alloc (Nat.le_refl _) _).alloc (by simp) _).setCell (by simp) _).setCell (by simp) _))⟩
  ·have HR := Lib.hid (HX1.out h1)
   have e1 : (many == 0) = false := by simpa using h1
   clear hd h1 HX0 HX1 HXT
   rcases hop with rfl | rfl | rfl | rfl
   all_goals go_enter Tryz.func105, Tryz.ntmps105
   all_goals go_wp2_with fail
   all_goals go_ret
   all_goals exact ⟨ret_bool HR.out.symm, by (first | exact HB5.out.trans (HB6.out.mono HB5.out.size) | exact HB5.out | exact (((Below.refl _ _).alloc (Nat.le_refl _) _).alloc (by simp) _) | exact ((((Below.refl _ _).alloc (Nat.le_refl _) _).alloc (by simp) _).setCell (by simp) _) | exact (((((Below.refl _ _).alloc (Nat.le_refl _) _).alloc (by simp) _).setCell (by simp) _).setCell (by simp) _))⟩
 ·rw [decide_eq_false hd] at hq
  have HR := Lib.hid (HX0.out hd)
  clear hd HX0 HX1 HXT
  rcases hop with rfl | rfl | rfl | rfl
  all_goals go_enter Tryz.func105, Tryz.ntmps105
  all_goals go_wp2_with fail
  all_goals go_ret
  all_goals exact ⟨ret_bool HR.out.symm, by (first | exact HB5.out.trans (HB6.out.mono HB5.out.size) | exact HB5.out | exact (((Below.refl _ _).alloc (Nat.le_refl _) _).alloc (by simp) _) | exact ((((Below.refl _ _).alloc (Nat.le_refl _) _).alloc (by simp) _).setCell (by simp) _) | exact (((((Below.refl _ _).alloc (Nat.le_refl _) _).alloc (by simp) _).setCell (by simp) _).setCell (by simp) _))⟩
theorem refPlain_D (op many n : Int) (name s : List UInt8) (c : Nd) (w : World) (hop : op = 4 ∨ op = 17 ∨ op = 18) :
  Calls Tryz.prog 105 #[tma ⟨op, many, name, s, n, c⟩] w (PlE w ⟨op, many, name, s, n, c⟩) := by
 have HX0 : Hid ((⟨op, many, name, s, n, c⟩ : Tm) ≠ (⟨op, many, name, [], 0, zeroC⟩ : Tm) → plainT ⟨op, many, name, s, n, c⟩ = false) := Lib.hid (fun h => plainT_bareR (by
  rcases hop with rfl | rfl | rfl <;> simpa [bareR] using h))
 have HX1 : Hid (¬ (many = 2) → plainT ⟨op, many, name, s, n, c⟩ = false) := Lib.hid (fun h => by
  rcases hop with rfl | rfl | rfl <;> simp [plainT, manyOk, sOk, nOk, cOk, h])
 have HXT : Hid ((⟨op, many, name, s, n, c⟩ : Tm) = (⟨op, many, name, [], 0, zeroC⟩ : Tm) → many = 2 → plainT ⟨op, many, name, s, n, c⟩ = true) := Lib.hid (fun h h1 => by
  rw [h]; rcases hop with rfl | rfl | rfl <;> simp [plainT, manyOk, sOk, nOk, cOk, h1])
 have hq : ∀ W, (binOp .eql 32 (.agg #[.int .i64 op, .int .i64 many, .string ⟨name.toArray⟩, .string ⟨s.toArray⟩, .int .i64 n, .int .i64 c.kind, .int .i64 c.many, .string ⟨c.name.toArray⟩, .string ⟨c.s.toArray⟩, .bool c.neg, .int .i64 c.e]) (.agg #[.int .i64 op, .int .i64 many, .string ⟨name.toArray⟩, .string ⟨#[]⟩, .int .i64 0, .int .i64 0, .int .i64 0, .string ⟨#[]⟩, .string ⟨#[]⟩, .bool false, .int .i64 0])).run Tryz.prog W = .ok (.bool (decide ((⟨op, many, name, s, n, c⟩ : Tm) = (⟨op, many, name, [], 0, zeroC⟩ : Tm)))) W := fun W => eql_tm ⟨op, many, name, s, n, c⟩ ⟨op, many, name, [], 0, zeroC⟩ W
 unfold PlE
 generalize plainT ⟨op, many, name, s, n, c⟩ = R at *
 by_cases hd : (⟨op, many, name, s, n, c⟩ : Tm) = (⟨op, many, name, [], 0, zeroC⟩ : Tm)
 ·rw [decide_eq_true hd] at hq
  by_cases h1 : many = 2
  ·skip
   have HR := Lib.hid (HXT.out hd h1)
   clear hd HX0 HX1 HXT
   subst h1
   rcases hop with rfl | rfl | rfl
   all_goals go_enter Tryz.func105, Tryz.ntmps105
   all_goals go_wp2_with fail
   all_goals go_ret
   all_goals exact ⟨ret_bool HR.out.symm, by (first | exact HB5.out.trans (HB6.out.mono HB5.out.size) | exact HB5.out | exact (((Below.refl _ _).alloc (Nat.le_refl _) _).alloc (by simp) _) | exact ((((Below.refl _ _).alloc (Nat.le_refl _) _).alloc (by simp) _).setCell (by simp) _) | exact (((((Below.refl _ _).alloc (Nat.le_refl _) _).alloc (by simp) _).setCell (by simp) _).setCell (by simp) _))⟩
  ·have HR := Lib.hid (HX1.out h1)
   have e1 : (many == 2) = false := by simpa using h1
   clear hd h1 HX0 HX1 HXT
   rcases hop with rfl | rfl | rfl
   all_goals go_enter Tryz.func105, Tryz.ntmps105
   all_goals go_wp2_with fail
   all_goals go_ret
   all_goals exact ⟨ret_bool HR.out.symm, by (first | exact HB5.out.trans (HB6.out.mono HB5.out.size) | exact HB5.out | exact (((Below.refl _ _).alloc (Nat.le_refl _) _).alloc (by simp) _) | exact ((((Below.refl _ _).alloc (Nat.le_refl _) _).alloc (by simp) _).setCell (by simp) _) | exact (((((Below.refl _ _).alloc (Nat.le_refl _) _).alloc (by simp) _).setCell (by simp) _).setCell (by simp) _))⟩
 ·rw [decide_eq_false hd] at hq
  have HR := Lib.hid (HX0.out hd)
  clear hd HX0 HX1 HXT
  rcases hop with rfl | rfl | rfl
  all_goals go_enter Tryz.func105, Tryz.ntmps105
  all_goals go_wp2_with fail
  all_goals go_ret
  all_goals exact ⟨ret_bool HR.out.symm, by (first | exact HB5.out.trans (HB6.out.mono HB5.out.size) | exact HB5.out | exact (((Below.refl _ _).alloc (Nat.le_refl _) _).alloc (by simp) _) | exact ((((Below.refl _ _).alloc (Nat.le_refl _) _).alloc (by simp) _).setCell (by simp) _) | exact (((((Below.refl _ _).alloc (Nat.le_refl _) _).alloc (by simp) _).setCell (by simp) _).setCell (by simp) _))⟩
theorem refPlain_E (op many n : Int) (name s : List UInt8) (c : Nd) (w : World) (hop : op = 5 ∨ op = 6 ∨ op = 7 ∨ op = 19) :
  Calls Tryz.prog 105 #[tma ⟨op, many, name, s, n, c⟩] w (PlE w ⟨op, many, name, s, n, c⟩) := by
 have HX0 : Hid ((⟨op, many, name, s, n, c⟩ : Tm) ≠ (⟨op, many, name, [], 0, zeroC⟩ : Tm) → plainT ⟨op, many, name, s, n, c⟩ = false) := Lib.hid (fun h => plainT_bareR (by
  rcases hop with rfl | rfl | rfl | rfl <;> simpa [bareR] using h))
 have HX1 : Hid (¬ (many = 1) → plainT ⟨op, many, name, s, n, c⟩ = false) := Lib.hid (fun h => by
  rcases hop with rfl | rfl | rfl | rfl <;> simp [plainT, manyOk, sOk, nOk, cOk, h])
 have HXT : Hid ((⟨op, many, name, s, n, c⟩ : Tm) = (⟨op, many, name, [], 0, zeroC⟩ : Tm) → many = 1 → plainT ⟨op, many, name, s, n, c⟩ = true) := Lib.hid (fun h h1 => by
  rw [h]; rcases hop with rfl | rfl | rfl | rfl <;> simp [plainT, manyOk, sOk, nOk, cOk, h1])
 have hq : ∀ W, (binOp .eql 32 (.agg #[.int .i64 op, .int .i64 many, .string ⟨name.toArray⟩, .string ⟨s.toArray⟩, .int .i64 n, .int .i64 c.kind, .int .i64 c.many, .string ⟨c.name.toArray⟩, .string ⟨c.s.toArray⟩, .bool c.neg, .int .i64 c.e]) (.agg #[.int .i64 op, .int .i64 many, .string ⟨name.toArray⟩, .string ⟨#[]⟩, .int .i64 0, .int .i64 0, .int .i64 0, .string ⟨#[]⟩, .string ⟨#[]⟩, .bool false, .int .i64 0])).run Tryz.prog W = .ok (.bool (decide ((⟨op, many, name, s, n, c⟩ : Tm) = (⟨op, many, name, [], 0, zeroC⟩ : Tm)))) W := fun W => eql_tm ⟨op, many, name, s, n, c⟩ ⟨op, many, name, [], 0, zeroC⟩ W
 unfold PlE
 generalize plainT ⟨op, many, name, s, n, c⟩ = R at *
 by_cases hd : (⟨op, many, name, s, n, c⟩ : Tm) = (⟨op, many, name, [], 0, zeroC⟩ : Tm)
 ·rw [decide_eq_true hd] at hq
  by_cases h1 : many = 1
  ·skip
   have HR := Lib.hid (HXT.out hd h1)
   clear hd HX0 HX1 HXT
   subst h1
   rcases hop with rfl | rfl | rfl | rfl
   all_goals go_enter Tryz.func105, Tryz.ntmps105
   all_goals go_wp2_with fail
   all_goals go_ret
   all_goals exact ⟨ret_bool HR.out.symm, by (first | exact HB5.out.trans (HB6.out.mono HB5.out.size) | exact HB5.out | exact (((Below.refl _ _).alloc (Nat.le_refl _) _).alloc (by simp) _) | exact ((((Below.refl _ _).alloc (Nat.le_refl _) _).alloc (by simp) _).setCell (by simp) _) | exact (((((Below.refl _ _).alloc (Nat.le_refl _) _).alloc (by simp) _).setCell (by simp) _).setCell (by simp) _))⟩
  ·have HR := Lib.hid (HX1.out h1)
   have e1 : (many == 1) = false := by simpa using h1
   clear hd h1 HX0 HX1 HXT
   rcases hop with rfl | rfl | rfl | rfl
   all_goals go_enter Tryz.func105, Tryz.ntmps105
   all_goals go_wp2_with fail
   all_goals go_ret
   all_goals exact ⟨ret_bool HR.out.symm, by (first | exact HB5.out.trans (HB6.out.mono HB5.out.size) | exact HB5.out | exact (((Below.refl _ _).alloc (Nat.le_refl _) _).alloc (by simp) _) | exact ((((Below.refl _ _).alloc (Nat.le_refl _) _).alloc (by simp) _).setCell (by simp) _) | exact (((((Below.refl _ _).alloc (Nat.le_refl _) _).alloc (by simp) _).setCell (by simp) _).setCell (by simp) _))⟩
 ·rw [decide_eq_false hd] at hq
  have HR := Lib.hid (HX0.out hd)
  clear hd HX0 HX1 HXT
  rcases hop with rfl | rfl | rfl | rfl
  all_goals go_enter Tryz.func105, Tryz.ntmps105
  all_goals go_wp2_with fail
  all_goals go_ret
  all_goals exact ⟨ret_bool HR.out.symm, by (first | exact HB5.out.trans (HB6.out.mono HB5.out.size) | exact HB5.out | exact (((Below.refl _ _).alloc (Nat.le_refl _) _).alloc (by simp) _) | exact ((((Below.refl _ _).alloc (Nat.le_refl _) _).alloc (by simp) _).setCell (by simp) _) | exact (((((Below.refl _ _).alloc (Nat.le_refl _) _).alloc (by simp) _).setCell (by simp) _).setCell (by simp) _))⟩
theorem refPlain_F (op many n : Int) (name s : List UInt8) (c : Nd) (w : World) (hop : op = 8 ∨ op = 9) :
  Calls Tryz.prog 105 #[tma ⟨op, many, name, s, n, c⟩] w (PlE w ⟨op, many, name, s, n, c⟩) := by
 have HX0 : Hid ((⟨op, many, name, s, n, c⟩ : Tm) ≠ (⟨op, many, name, [], 0, zeroC⟩ : Tm) → plainT ⟨op, many, name, s, n, c⟩ = false) := Lib.hid (fun h => plainT_bareR (by
  rcases hop with rfl | rfl <;> simpa [bareR] using h))
 have HX1 : Hid (¬ (0 ≤ many) → plainT ⟨op, many, name, s, n, c⟩ = false) := Lib.hid (fun h => by
  rcases hop with rfl | rfl <;> simp [plainT, manyOk, sOk, nOk, cOk, h])
 have HXT : Hid ((⟨op, many, name, s, n, c⟩ : Tm) = (⟨op, many, name, [], 0, zeroC⟩ : Tm) → 0 ≤ many → plainT ⟨op, many, name, s, n, c⟩ = true) := Lib.hid (fun h h1 => by
  rw [h]; rcases hop with rfl | rfl <;> simp [plainT, manyOk, sOk, nOk, cOk, h1])
 have hq : ∀ W, (binOp .eql 32 (.agg #[.int .i64 op, .int .i64 many, .string ⟨name.toArray⟩, .string ⟨s.toArray⟩, .int .i64 n, .int .i64 c.kind, .int .i64 c.many, .string ⟨c.name.toArray⟩, .string ⟨c.s.toArray⟩, .bool c.neg, .int .i64 c.e]) (.agg #[.int .i64 op, .int .i64 many, .string ⟨name.toArray⟩, .string ⟨#[]⟩, .int .i64 0, .int .i64 0, .int .i64 0, .string ⟨#[]⟩, .string ⟨#[]⟩, .bool false, .int .i64 0])).run Tryz.prog W = .ok (.bool (decide ((⟨op, many, name, s, n, c⟩ : Tm) = (⟨op, many, name, [], 0, zeroC⟩ : Tm)))) W := fun W => eql_tm ⟨op, many, name, s, n, c⟩ ⟨op, many, name, [], 0, zeroC⟩ W
 unfold PlE
 generalize plainT ⟨op, many, name, s, n, c⟩ = R at *
 by_cases hd : (⟨op, many, name, s, n, c⟩ : Tm) = (⟨op, many, name, [], 0, zeroC⟩ : Tm)
 ·rw [decide_eq_true hd] at hq
  by_cases h1 : 0 ≤ many
  ·skip
   have HR := Lib.hid (HXT.out hd h1)
   clear hd HX0 HX1 HXT
   rcases hop with rfl | rfl
   all_goals go_enter Tryz.func105, Tryz.ntmps105
   all_goals go_wp2_with fail
   all_goals go_ret
   all_goals exact ⟨ret_bool HR.out.symm, by (first | exact HB5.out.trans (HB6.out.mono HB5.out.size) | exact HB5.out | exact (((Below.refl _ _).alloc (Nat.le_refl _) _).alloc (by simp) _) | exact ((((Below.refl _ _).alloc (Nat.le_refl _) _).alloc (by simp) _).setCell (by simp) _) | exact (((((Below.refl _ _).alloc (Nat.le_refl _) _).alloc (by simp) _).setCell (by simp) _).setCell (by simp) _))⟩
  ·have HR := Lib.hid (HX1.out h1)
   clear hd HX0 HX1 HXT
   rcases hop with rfl | rfl
   all_goals go_enter Tryz.func105, Tryz.ntmps105
   all_goals go_wp2_with fail
   all_goals go_ret
   all_goals exact ⟨ret_bool HR.out.symm, by (first | exact HB5.out.trans (HB6.out.mono HB5.out.size) | exact HB5.out | exact (((Below.refl _ _).alloc (Nat.le_refl _) _).alloc (by simp) _) | exact ((((Below.refl _ _).alloc (Nat.le_refl _) _).alloc (by simp) _).setCell (by simp) _) | exact (((((Below.refl _ _).alloc (Nat.le_refl _) _).alloc (by simp) _).setCell (by simp) _).setCell (by simp) _))⟩
 ·rw [decide_eq_false hd] at hq
  have HR := Lib.hid (HX0.out hd)
  clear hd HX0 HX1 HXT
  rcases hop with rfl | rfl
  all_goals go_enter Tryz.func105, Tryz.ntmps105
  all_goals go_wp2_with fail
  all_goals go_ret
  all_goals exact ⟨ret_bool HR.out.symm, by (first | exact HB5.out.trans (HB6.out.mono HB5.out.size) | exact HB5.out | exact (((Below.refl _ _).alloc (Nat.le_refl _) _).alloc (by simp) _) | exact ((((Below.refl _ _).alloc (Nat.le_refl _) _).alloc (by simp) _).setCell (by simp) _) | exact (((((Below.refl _ _).alloc (Nat.le_refl _) _).alloc (by simp) _).setCell (by simp) _).setCell (by simp) _))⟩
end
section
open Go.RowKit Np Rw Vp Up Qp Pw Fw
theorem refPlain_I (op many n : Int) (name s : List UInt8) (c : Nd) (w : World) (hop : op = 16) (HPT : Hid (∀ W, Calls Tryz.prog 146 #[.string ⟨s.toArray⟩] W fun e w' => e = .returned (.bool (isPth s)) ∧ Below W.heap.size W w')) (HRV : Hid (∀ W m, W.heap.size = m → Calls Tryz.prog 43 #[.slice (some ⟨m, 0, none⟩) 1 1] (W.alloc (.cells #[.int .i64 c.kind, .int .i64 c.many, .string ⟨c.name.toArray⟩, .string ⟨c.s.toArray⟩, .bool c.neg, .int .i64 c.e] 30)) fun e w' => e = .returned (.bool (rightL [c])) ∧ Below W.heap.size W w')) :
  Calls Tryz.prog 105 #[tma ⟨op, many, name, s, n, c⟩] w (PlE w ⟨op, many, name, s, n, c⟩) := by
 have HX0 : Hid ((⟨op, many, name, s, n, c⟩ : Tm) ≠ (⟨op, many, name, s, n, c⟩ : Tm) → plainT ⟨op, many, name, s, n, c⟩ = false) := Lib.hid (fun h => plainT_bareR (by
  exact absurd rfl h))
 have HX1 : Hid (¬ (many = 0) → plainT ⟨op, many, name, s, n, c⟩ = false) := Lib.hid (fun h => by
  rcases hop with rfl <;> simp [plainT, manyOk, sOk, nOk, cOk, h])
 have HX2 : Hid (¬ (isPth s = true) → plainT ⟨op, many, name, s, n, c⟩ = false) := Lib.hid (fun h => by
  rcases hop with rfl <;> simp [plainT, manyOk, sOk, nOk, cOk, h])
 have HX3 : Hid (¬ (0 ≤ n) → plainT ⟨op, many, name, s, n, c⟩ = false) := Lib.hid (fun h => by
  rcases hop with rfl <;> simp [plainT, manyOk, sOk, nOk, cOk, h])
 have HX4 : Hid (¬ (n ≤ 5) → plainT ⟨op, many, name, s, n, c⟩ = false) := Lib.hid (fun h => by
  rcases hop with rfl <;> simp [plainT, manyOk, sOk, nOk, cOk, h])
 have HX5 : Hid (¬ (c.kind < 5) → plainT ⟨op, many, name, s, n, c⟩ = false) := Lib.hid (fun h => by
  rcases hop with rfl; exact Bool.eq_false_iff.2 (fun hp => h (plain16_kind (t := ⟨16, many, name, s, n, c⟩) rfl hp)))
 have HX6 : Hid (¬ (rightL [c] = true) → plainT ⟨op, many, name, s, n, c⟩ = false) := Lib.hid (fun h => by
  rcases hop with rfl <;> simp [plainT, manyOk, sOk, nOk, cOk, flatN, h])
 have HXT : Hid ((⟨op, many, name, s, n, c⟩ : Tm) = (⟨op, many, name, s, n, c⟩ : Tm) → many = 0 → isPth s = true → 0 ≤ n → n ≤ 5 → c.kind < 5 → rightL [c] = true → plainT ⟨op, many, name, s, n, c⟩ = true) := Lib.hid (fun h h1 h2 h3 h4 h5 h6 => by
  subst h1; rcases hop with rfl; simp [plainT, manyOk, sOk, nOk, cOk, flatN, h2, h3, h4, h6, cont_lt h5])
 have hq : ∀ W, (binOp .eql 32 (.agg #[.int .i64 op, .int .i64 many, .string ⟨name.toArray⟩, .string ⟨s.toArray⟩, .int .i64 n, .int .i64 c.kind, .int .i64 c.many, .string ⟨c.name.toArray⟩, .string ⟨c.s.toArray⟩, .bool c.neg, .int .i64 c.e]) (.agg #[.int .i64 op, .int .i64 many, .string ⟨name.toArray⟩, .string ⟨s.toArray⟩, .int .i64 n, .int .i64 c.kind, .int .i64 c.many, .string ⟨c.name.toArray⟩, .string ⟨c.s.toArray⟩, .bool c.neg, .int .i64 c.e])).run Tryz.prog W = .ok (.bool (decide ((⟨op, many, name, s, n, c⟩ : Tm) = (⟨op, many, name, s, n, c⟩ : Tm)))) W := fun W => eql_tm ⟨op, many, name, s, n, c⟩ ⟨op, many, name, s, n, c⟩ W
 have HT5 : Hid (∀ w5, Below ((w.alloc (.cells #[.int .i64 op, .int .i64 many, .string ⟨name.toArray⟩, .string ⟨s.toArray⟩, .int .i64 n, .int .i64 c.kind, .int .i64 c.many, .string ⟨c.name.toArray⟩, .string ⟨c.s.toArray⟩, .bool c.neg, .int .i64 c.e] 32)).alloc (.cells #[.int .i64 op, .int .i64 many, .string ⟨name.toArray⟩, .string ⟨s.toArray⟩, .int .i64 n, .int .i64 c.kind, .int .i64 c.many, .string ⟨c.name.toArray⟩, .string ⟨c.s.toArray⟩, .bool c.neg, .int .i64 c.e] 32)).heap.size ((w.alloc (.cells #[.int .i64 op, .int .i64 many, .string ⟨name.toArray⟩, .string ⟨s.toArray⟩, .int .i64 n, .int .i64 c.kind, .int .i64 c.many, .string ⟨c.name.toArray⟩, .string ⟨c.s.toArray⟩, .bool c.neg, .int .i64 c.e] 32)).alloc (.cells #[.int .i64 op, .int .i64 many, .string ⟨name.toArray⟩, .string ⟨s.toArray⟩, .int .i64 n, .int .i64 c.kind, .int .i64 c.many, .string ⟨c.name.toArray⟩, .string ⟨c.s.toArray⟩, .bool c.neg, .int .i64 c.e] 32)) w5 → Tm11 w5 w.heap.size 0 ⟨op, many, name, s, n, c⟩ ∧ Below w.heap.size w w5) := Lib.hid (fun w5 hb => ⟨((tmr_alloc w ⟨op, many, name, s, n, c⟩).below (by simp) ((Below.refl _ _).alloc (Nat.le_refl _) _)).below (by simp; omega) hb, (((Below.refl _ _).alloc (Nat.le_refl _) _).alloc (by simp) _).trans (hb.mono (by simp; omega))⟩)
 unfold PlE
 generalize plainT ⟨op, many, name, s, n, c⟩ = R at *
 by_cases hd : (⟨op, many, name, s, n, c⟩ : Tm) = (⟨op, many, name, s, n, c⟩ : Tm)
 ·rw [decide_eq_true hd] at hq
  by_cases h1 : many = 0
  ·skip
   by_cases h2 : isPth s = true
   ·skip
    have HU := Lib.hid h2
    by_cases h3 : 0 ≤ n
    ·skip
     by_cases h4 : n ≤ 5
     ·skip
      by_cases h5 : c.kind < 5
      ·skip
       by_cases h6 : rightL [c] = true
       ·skip
        have HV := Lib.hid h6
        have HR := Lib.hid (HXT.out hd h1 h2 h3 h4 h5 h6)
        clear hd h2 h6 HX0 HX1 HX2 HX3 HX4 HX5 HX6 HXT
        subst h1
        rcases hop with rfl
        all_goals go_enter Tryz.func105, Tryz.ntmps105
        all_goals go_wp2_with (first | (go_at_call 146; refine (HPT.out _).mono ?_; rintro e w5 ⟨rfl, hb5⟩; rw [HU.out]; obtain ⟨ht5, hb6⟩ := HT5.out _ hb5; have HB5 := Lib.hid hb6; obtain ⟨q0, q1, q2, q3, q4, q5, q6, q7, q8, q9, q10⟩ := ht5; simp only [Nat.zero_add] at q1 q2 q3 q4 q5 q6 q7 q8 q9 q10; clear hb5 hb6) | (go_at_call 43; refine (HRV.out _ _ (by simp)).mono ?_; rintro e w6 ⟨rfl, hb6⟩; rw [HV.out]; have HB6 := Lib.hid hb6; clear hb6))
        all_goals go_ret
        all_goals exact ⟨ret_bool HR.out.symm, by (first | exact HB5.out.trans (HB6.out.mono HB5.out.size) | exact HB5.out | exact (((Below.refl _ _).alloc (Nat.le_refl _) _).alloc (by simp) _) | exact ((((Below.refl _ _).alloc (Nat.le_refl _) _).alloc (by simp) _).setCell (by simp) _) | exact (((((Below.refl _ _).alloc (Nat.le_refl _) _).alloc (by simp) _).setCell (by simp) _).setCell (by simp) _))⟩
       ·have HR := Lib.hid (HX6.out h6)
        have HV := Lib.hid (eq_false_of_ne_true h6)
        clear hd h2 h6 HX0 HX1 HX2 HX3 HX4 HX5 HX6 HXT
        subst h1
        rcases hop with rfl
        all_goals go_enter Tryz.func105, Tryz.ntmps105
        all_goals go_wp2_with (first | (go_at_call 146; refine (HPT.out _).mono ?_; rintro e w5 ⟨rfl, hb5⟩; rw [HU.out]; obtain ⟨ht5, hb6⟩ := HT5.out _ hb5; have HB5 := Lib.hid hb6; obtain ⟨q0, q1, q2, q3, q4, q5, q6, q7, q8, q9, q10⟩ := ht5; simp only [Nat.zero_add] at q1 q2 q3 q4 q5 q6 q7 q8 q9 q10; clear hb5 hb6) | (go_at_call 43; refine (HRV.out _ _ (by simp)).mono ?_; rintro e w6 ⟨rfl, hb6⟩; rw [HV.out]; have HB6 := Lib.hid hb6; clear hb6))
        all_goals go_ret
        all_goals exact ⟨ret_bool HR.out.symm, by (first | exact HB5.out.trans (HB6.out.mono HB5.out.size) | exact HB5.out | exact (((Below.refl _ _).alloc (Nat.le_refl _) _).alloc (by simp) _) | exact ((((Below.refl _ _).alloc (Nat.le_refl _) _).alloc (by simp) _).setCell (by simp) _) | exact (((((Below.refl _ _).alloc (Nat.le_refl _) _).alloc (by simp) _).setCell (by simp) _).setCell (by simp) _))⟩
      ·have HR := Lib.hid (HX5.out h5)
       clear hd h2 HX0 HX1 HX2 HX3 HX4 HX5 HX6 HXT
       subst h1
       rcases hop with rfl
       all_goals go_enter Tryz.func105, Tryz.ntmps105
       all_goals go_wp2_with (first | (go_at_call 146; refine (HPT.out _).mono ?_; rintro e w5 ⟨rfl, hb5⟩; rw [HU.out]; obtain ⟨ht5, hb6⟩ := HT5.out _ hb5; have HB5 := Lib.hid hb6; obtain ⟨q0, q1, q2, q3, q4, q5, q6, q7, q8, q9, q10⟩ := ht5; simp only [Nat.zero_add] at q1 q2 q3 q4 q5 q6 q7 q8 q9 q10; clear hb5 hb6))
       all_goals go_ret
       all_goals exact ⟨ret_bool HR.out.symm, by (first | exact HB5.out.trans (HB6.out.mono HB5.out.size) | exact HB5.out | exact (((Below.refl _ _).alloc (Nat.le_refl _) _).alloc (by simp) _) | exact ((((Below.refl _ _).alloc (Nat.le_refl _) _).alloc (by simp) _).setCell (by simp) _) | exact (((((Below.refl _ _).alloc (Nat.le_refl _) _).alloc (by simp) _).setCell (by simp) _).setCell (by simp) _))⟩
     ·have HR := Lib.hid (HX4.out h4)
      clear hd h2 HX0 HX1 HX2 HX3 HX4 HX5 HX6 HXT
      subst h1
      rcases hop with rfl
      all_goals go_enter Tryz.func105, Tryz.ntmps105
      all_goals go_wp2_with (first | (go_at_call 146; refine (HPT.out _).mono ?_; rintro e w5 ⟨rfl, hb5⟩; rw [HU.out]; obtain ⟨ht5, hb6⟩ := HT5.out _ hb5; have HB5 := Lib.hid hb6; obtain ⟨q0, q1, q2, q3, q4, q5, q6, q7, q8, q9, q10⟩ := ht5; simp only [Nat.zero_add] at q1 q2 q3 q4 q5 q6 q7 q8 q9 q10; clear hb5 hb6))
      all_goals go_ret
      all_goals exact ⟨ret_bool HR.out.symm, by (first | exact HB5.out.trans (HB6.out.mono HB5.out.size) | exact HB5.out | exact (((Below.refl _ _).alloc (Nat.le_refl _) _).alloc (by simp) _) | exact ((((Below.refl _ _).alloc (Nat.le_refl _) _).alloc (by simp) _).setCell (by simp) _) | exact (((((Below.refl _ _).alloc (Nat.le_refl _) _).alloc (by simp) _).setCell (by simp) _).setCell (by simp) _))⟩
    ·have HR := Lib.hid (HX3.out h3)
     clear hd h2 HX0 HX1 HX2 HX3 HX4 HX5 HX6 HXT
     subst h1
     rcases hop with rfl
     all_goals go_enter Tryz.func105, Tryz.ntmps105
     all_goals go_wp2_with (first | (go_at_call 146; refine (HPT.out _).mono ?_; rintro e w5 ⟨rfl, hb5⟩; rw [HU.out]; obtain ⟨ht5, hb6⟩ := HT5.out _ hb5; have HB5 := Lib.hid hb6; obtain ⟨q0, q1, q2, q3, q4, q5, q6, q7, q8, q9, q10⟩ := ht5; simp only [Nat.zero_add] at q1 q2 q3 q4 q5 q6 q7 q8 q9 q10; clear hb5 hb6))
     all_goals go_ret
     all_goals exact ⟨ret_bool HR.out.symm, by (first | exact HB5.out.trans (HB6.out.mono HB5.out.size) | exact HB5.out | exact (((Below.refl _ _).alloc (Nat.le_refl _) _).alloc (by simp) _) | exact ((((Below.refl _ _).alloc (Nat.le_refl _) _).alloc (by simp) _).setCell (by simp) _) | exact (((((Below.refl _ _).alloc (Nat.le_refl _) _).alloc (by simp) _).setCell (by simp) _).setCell (by simp) _))⟩
   ·have HR := Lib.hid (HX2.out h2)
    have HU := Lib.hid (eq_false_of_ne_true h2)
    clear hd h2 HX0 HX1 HX2 HX3 HX4 HX5 HX6 HXT
    subst h1
    rcases hop with rfl
    all_goals go_enter Tryz.func105, Tryz.ntmps105
    all_goals go_wp2_with (first | (go_at_call 146; refine (HPT.out _).mono ?_; rintro e w5 ⟨rfl, hb5⟩; rw [HU.out]; obtain ⟨ht5, hb6⟩ := HT5.out _ hb5; have HB5 := Lib.hid hb6; obtain ⟨q0, q1, q2, q3, q4, q5, q6, q7, q8, q9, q10⟩ := ht5; simp only [Nat.zero_add] at q1 q2 q3 q4 q5 q6 q7 q8 q9 q10; clear hb5 hb6))
    all_goals go_ret
    all_goals exact ⟨ret_bool HR.out.symm, by (first | exact HB5.out.trans (HB6.out.mono HB5.out.size) | exact HB5.out | exact (((Below.refl _ _).alloc (Nat.le_refl _) _).alloc (by simp) _) | exact ((((Below.refl _ _).alloc (Nat.le_refl _) _).alloc (by simp) _).setCell (by simp) _) | exact (((((Below.refl _ _).alloc (Nat.le_refl _) _).alloc (by simp) _).setCell (by simp) _).setCell (by simp) _))⟩
  ·have HR := Lib.hid (HX1.out h1)
   have e1 : (many == 0) = false := by simpa using h1
   clear hd h1 HX0 HX1 HX2 HX3 HX4 HX5 HX6 HXT
   rcases hop with rfl
   all_goals go_enter Tryz.func105, Tryz.ntmps105
   all_goals go_wp2_with fail
   all_goals go_ret
   all_goals exact ⟨ret_bool HR.out.symm, by (first | exact HB5.out.trans (HB6.out.mono HB5.out.size) | exact HB5.out | exact (((Below.refl _ _).alloc (Nat.le_refl _) _).alloc (by simp) _) | exact ((((Below.refl _ _).alloc (Nat.le_refl _) _).alloc (by simp) _).setCell (by simp) _) | exact (((((Below.refl _ _).alloc (Nat.le_refl _) _).alloc (by simp) _).setCell (by simp) _).setCell (by simp) _))⟩
 ·rw [decide_eq_false hd] at hq
  have HR := Lib.hid (HX0.out hd)
  clear hd HX0 HX1 HX2 HX3 HX4 HX5 HX6 HXT
  rcases hop with rfl
  all_goals go_enter Tryz.func105, Tryz.ntmps105
  all_goals go_wp2_with fail
  all_goals go_ret
  all_goals exact ⟨ret_bool HR.out.symm, by (first | exact HB5.out.trans (HB6.out.mono HB5.out.size) | exact HB5.out | exact (((Below.refl _ _).alloc (Nat.le_refl _) _).alloc (by simp) _) | exact ((((Below.refl _ _).alloc (Nat.le_refl _) _).alloc (by simp) _).setCell (by simp) _) | exact (((((Below.refl _ _).alloc (Nat.le_refl _) _).alloc (by simp) _).setCell (by simp) _).setCell (by simp) _))⟩
end
section
open Go.RowKit Np Rw Vp Up Qp Pw Fw
theorem refPlain_H (op many n : Int) (name s : List UInt8) (c : Nd) (w : World) (hop : op = 12 ∨ op = 13 ∨ op = 15) (HPT : Hid (∀ W, Calls Tryz.prog 146 #[.string ⟨s.toArray⟩] W fun e w' => e = .returned (.bool (isPth s)) ∧ Below W.heap.size W w')) :
  Calls Tryz.prog 105 #[tma ⟨op, many, name, s, n, c⟩] w (PlE w ⟨op, many, name, s, n, c⟩) := by
 have HX0 : Hid ((⟨op, many, name, s, n, c⟩ : Tm) ≠ (⟨op, many, name, s, 0, zeroC⟩ : Tm) → plainT ⟨op, many, name, s, n, c⟩ = false) := Lib.hid (fun h => plainT_bareR (by
  rcases hop with rfl | rfl | rfl <;> simpa [bareR] using h))
 have HX1 : Hid (¬ (many = 0) → plainT ⟨op, many, name, s, n, c⟩ = false) := Lib.hid (fun h => by
  rcases hop with rfl | rfl | rfl <;> simp [plainT, manyOk, sOk, nOk, cOk, h])
 have HX2 : Hid (¬ (isPth s = true) → plainT ⟨op, many, name, s, n, c⟩ = false) := Lib.hid (fun h => by
  rcases hop with rfl | rfl | rfl <;> simp [plainT, manyOk, sOk, nOk, cOk, h])
 have HXT : Hid ((⟨op, many, name, s, n, c⟩ : Tm) = (⟨op, many, name, s, 0, zeroC⟩ : Tm) → many = 0 → isPth s = true → plainT ⟨op, many, name, s, n, c⟩ = true) := Lib.hid (fun h h1 h2 => by
  rw [h]; rcases hop with rfl | rfl | rfl <;> simp [plainT, manyOk, sOk, nOk, cOk, h1, h2])
 have hq : ∀ W, (binOp .eql 32 (.agg #[.int .i64 op, .int .i64 many, .string ⟨name.toArray⟩, .string ⟨s.toArray⟩, .int .i64 n, .int .i64 c.kind, .int .i64 c.many, .string ⟨c.name.toArray⟩, .string ⟨c.s.toArray⟩, .bool c.neg, .int .i64 c.e]) (.agg #[.int .i64 op, .int .i64 many, .string ⟨name.toArray⟩, .string ⟨s.toArray⟩, .int .i64 0, .int .i64 0, .int .i64 0, .string ⟨#[]⟩, .string ⟨#[]⟩, .bool false, .int .i64 0])).run Tryz.prog W = .ok (.bool (decide ((⟨op, many, name, s, n, c⟩ : Tm) = (⟨op, many, name, s, 0, zeroC⟩ : Tm)))) W := fun W => eql_tm ⟨op, many, name, s, n, c⟩ ⟨op, many, name, s, 0, zeroC⟩ W
 have HT5 : Hid (∀ w5, Below ((w.alloc (.cells #[.int .i64 op, .int .i64 many, .string ⟨name.toArray⟩, .string ⟨s.toArray⟩, .int .i64 n, .int .i64 c.kind, .int .i64 c.many, .string ⟨c.name.toArray⟩, .string ⟨c.s.toArray⟩, .bool c.neg, .int .i64 c.e] 32)).alloc (.cells #[.int .i64 op, .int .i64 many, .string ⟨name.toArray⟩, .string ⟨s.toArray⟩, .int .i64 0, .int .i64 0, .int .i64 0, .string ⟨#[]⟩, .string ⟨#[]⟩, .bool false, .int .i64 0] 32)).heap.size ((w.alloc (.cells #[.int .i64 op, .int .i64 many, .string ⟨name.toArray⟩, .string ⟨s.toArray⟩, .int .i64 n, .int .i64 c.kind, .int .i64 c.many, .string ⟨c.name.toArray⟩, .string ⟨c.s.toArray⟩, .bool c.neg, .int .i64 c.e] 32)).alloc (.cells #[.int .i64 op, .int .i64 many, .string ⟨name.toArray⟩, .string ⟨s.toArray⟩, .int .i64 0, .int .i64 0, .int .i64 0, .string ⟨#[]⟩, .string ⟨#[]⟩, .bool false, .int .i64 0] 32)) w5 → Tm11 w5 w.heap.size 0 ⟨op, many, name, s, n, c⟩ ∧ Below w.heap.size w w5) := Lib.hid (fun w5 hb => ⟨((tmr_alloc w ⟨op, many, name, s, n, c⟩).below (by simp) ((Below.refl _ _).alloc (Nat.le_refl _) _)).below (by simp; omega) hb, (((Below.refl _ _).alloc (Nat.le_refl _) _).alloc (by simp) _).trans (hb.mono (by simp; omega))⟩)
 unfold PlE
 generalize plainT ⟨op, many, name, s, n, c⟩ = R at *
 by_cases hd : (⟨op, many, name, s, n, c⟩ : Tm) = (⟨op, many, name, s, 0, zeroC⟩ : Tm)
 ·rw [decide_eq_true hd] at hq
  by_cases h1 : many = 0
  ·skip
   by_cases h2 : isPth s = true
   ·skip
    have HU := Lib.hid h2
    have HR := Lib.hid (HXT.out hd h1 h2)
    clear hd h2 HX0 HX1 HX2 HXT
    subst h1
    rcases hop with rfl | rfl | rfl
    all_goals go_enter Tryz.func105, Tryz.ntmps105
    all_goals go_wp2_with (first | (go_at_call 146; refine (HPT.out _).mono ?_; rintro e w5 ⟨rfl, hb5⟩; rw [HU.out]; obtain ⟨ht5, hb6⟩ := HT5.out _ hb5; have HB5 := Lib.hid hb6; obtain ⟨q0, q1, q2, q3, q4, q5, q6, q7, q8, q9, q10⟩ := ht5; simp only [Nat.zero_add] at q1 q2 q3 q4 q5 q6 q7 q8 q9 q10; clear hb5 hb6))
    all_goals go_ret
    all_goals exact ⟨ret_bool HR.out.symm, by (first | exact HB5.out.trans (HB6.out.mono HB5.out.size) | exact HB5.out | exact (((Below.refl _ _).alloc (Nat.le_refl _) _).alloc (by simp) _) | exact ((((Below.refl _ _).alloc (Nat.le_refl _) _).alloc (by simp) _).setCell (by simp) _) | exact (((((Below.refl _ _).alloc (Nat.le_refl _) _).alloc (by simp) _).setCell (by simp) _).setCell (by simp) _))⟩
   ·have HR := Lib.hid (HX2.out h2)
    have HU := Lib.hid (eq_false_of_ne_true h2)
    clear hd h2 HX0 HX1 HX2 HXT
    subst h1
    rcases hop with rfl | rfl | rfl
    all_goals go_enter Tryz.func105, Tryz.ntmps105
    all_goals go_wp2_with (first | (go_at_call 146; refine (HPT.out _).mono ?_; rintro e w5 ⟨rfl, hb5⟩; rw [HU.out]; obtain ⟨ht5, hb6⟩ := HT5.out _ hb5; have HB5 := Lib.hid hb6; obtain ⟨q0, q1, q2, q3, q4, q5, q6, q7, q8, q9, q10⟩ := ht5; simp only [Nat.zero_add] at q1 q2 q3 q4 q5 q6 q7 q8 q9 q10; clear hb5 hb6))
    all_goals go_ret
    all_goals exact ⟨ret_bool HR.out.symm, by (first | exact HB5.out.trans (HB6.out.mono HB5.out.size) | exact HB5.out | exact (((Below.refl _ _).alloc (Nat.le_refl _) _).alloc (by simp) _) | exact ((((Below.refl _ _).alloc (Nat.le_refl _) _).alloc (by simp) _).setCell (by simp) _) | exact (((((Below.refl _ _).alloc (Nat.le_refl _) _).alloc (by simp) _).setCell (by simp) _).setCell (by simp) _))⟩
  ·have HR := Lib.hid (HX1.out h1)
   have e1 : (many == 0) = false := by simpa using h1
   clear hd h1 HX0 HX1 HX2 HXT
   rcases hop with rfl | rfl | rfl
   all_goals go_enter Tryz.func105, Tryz.ntmps105
   all_goals go_wp2_with fail
   all_goals go_ret
   all_goals exact ⟨ret_bool HR.out.symm, by (first | exact HB5.out.trans (HB6.out.mono HB5.out.size) | exact HB5.out | exact (((Below.refl _ _).alloc (Nat.le_refl _) _).alloc (by simp) _) | exact ((((Below.refl _ _).alloc (Nat.le_refl _) _).alloc (by simp) _).setCell (by simp) _) | exact (((((Below.refl _ _).alloc (Nat.le_refl _) _).alloc (by simp) _).setCell (by simp) _).setCell (by simp) _))⟩
 ·rw [decide_eq_false hd] at hq
  have HR := Lib.hid (HX0.out hd)
  clear hd HX0 HX1 HX2 HXT
  rcases hop with rfl | rfl | rfl
  all_goals go_enter Tryz.func105, Tryz.ntmps105
  all_goals go_wp2_with fail
  all_goals go_ret
  all_goals exact ⟨ret_bool HR.out.symm, by (first | exact HB5.out.trans (HB6.out.mono HB5.out.size) | exact HB5.out | exact (((Below.refl _ _).alloc (Nat.le_refl _) _).alloc (by simp) _) | exact ((((Below.refl _ _).alloc (Nat.le_refl _) _).alloc (by simp) _).setCell (by simp) _) | exact (((((Below.refl _ _).alloc (Nat.le_refl _) _).alloc (by simp) _).setCell (by simp) _).setCell (by simp) _))⟩
end
section
open Go.RowKit Np Rw Vp Up Qp Pw Fw
theorem refPlain_Z (op many n : Int) (name s : List UInt8) (c : Nd) (w : World) (hop : ¬ (0 ≤ op ∧ op ≤ 19)) :
  Calls Tryz.prog 105 #[tma ⟨op, many, name, s, n, c⟩] w (PlE w ⟨op, many, name, s, n, c⟩) := by
 have HR : Hid (plainT ⟨op, many, name, s, n, c⟩ = false) := Lib.hid (by simp [plainT, hop])
 have HB : Hid (Below w.heap.size w ((w.alloc (.cells #[.int .i64 op, .int .i64 many, .string ⟨name.toArray⟩, .string ⟨s.toArray⟩, .int .i64 n, .int .i64 c.kind, .int .i64 c.many, .string ⟨c.name.toArray⟩, .string ⟨c.s.toArray⟩, .bool c.neg, .int .i64 c.e] 32)).alloc (.cells #[.int .i64 op, .int .i64 many, .string ⟨name.toArray⟩, .string ⟨#[]⟩, .int .i64 0, .int .i64 0, .int .i64 0, .string ⟨#[]⟩, .string ⟨#[]⟩, .bool false, .int .i64 0] 32))) := Lib.hid (((Below.refl _ _).alloc (Nat.le_refl _) _).alloc (by simp) _)
 unfold PlE
 generalize plainT ⟨op, many, name, s, n, c⟩ = R at *
 have e0 : (op == 0) = false := by simp; omega
 have e1 : (op == 1) = false := by simp; omega
 have e2 : (op == 2) = false := by simp; omega
 have e3 : (op == 3) = false := by simp; omega
 have e4 : (op == 4) = false := by simp; omega
 have e5 : (op == 5) = false := by simp; omega
 have e6 : (op == 6) = false := by simp; omega
 have e7 : (op == 7) = false := by simp; omega
 have e8 : (op == 8) = false := by simp; omega
 have e9 : (op == 9) = false := by simp; omega
 have e10 : (op == 10) = false := by simp; omega
 have e11 : (op == 11) = false := by simp; omega
 have e12 : (op == 12) = false := by simp; omega
 have e13 : (op == 13) = false := by simp; omega
 have e14 : (op == 14) = false := by simp; omega
 have e15 : (op == 15) = false := by simp; omega
 have e16 : (op == 16) = false := by simp; omega
 have e17 : (op == 17) = false := by simp; omega
 have e18 : (op == 18) = false := by simp; omega
 have e19 : (op == 19) = false := by simp; omega
 clear hop
 go_enter Tryz.func105, Tryz.ntmps105
 go_wp2_with fail
 go_ret
 exact ⟨ret_bool HR.out.symm, HB.out⟩
structure ShT (t : Tm) : Prop where
 nm : t.name.length ≤ maxLen
 s : t.s.length ≤ 1000000
 cn : t.c.name.length ≤ maxLen
 cs : t.c.s.length ≤ maxLen
theorem refPlainT_any (t : Tm) (w : World) (h : ShT t) :
  Calls Tryz.prog 105 #[tma t] w (PlE w t) := by
 obtain ⟨op, many, name, s, n, c⟩ := t
 obtain ⟨h1, h2, h3, h4⟩ := h
 have HPT : Hid (∀ W, Calls Tryz.prog 146 #[.string ⟨s.toArray⟩] W fun e w' => e = .returned (.bool (isPth s)) ∧ Below W.heap.size W w') := Lib.hid (fun W => refIsPathT_any s W h2)
 have HRV : Hid (∀ W m, W.heap.size = m → Calls Tryz.prog 43 #[.slice (some ⟨m, 0, none⟩) 1 1] (W.alloc (.cells #[.int .i64 c.kind, .int .i64 c.many, .string ⟨c.name.toArray⟩, .string ⟨c.s.toArray⟩, .bool c.neg, .int .i64 c.e] 30)) fun e w' => e = .returned (.bool (rightL [c])) ∧ Below W.heap.size W w') := Lib.hid (fun W m hm => by
  subst hm
  refine (refRightV_any _ [c] _ (Row.lit ndc_len W 30 _ [c] (by show 1 ≤ maxLen; decide) rfl) (by simp) (fun x hx => by simp at hx; subst hx; exact ⟨h3, h4⟩)).mono ?_
  rintro e w' ⟨he, hb⟩
  exact ⟨he, ((Below.refl _ W).alloc (Nat.le_refl _) _).trans (hb.mono (by simp))⟩)
 have hs : s.length ≤ maxLen := Nat.le_trans h2 (by decide)
 by_cases hr : 0 ≤ op ∧ op ≤ 19
 ·have hc : (op = 0 ∨ op = 10 ∨ op = 11 ∨ op = 14) ∨ (op = 1) ∨ (op = 2 ∨ op = 3) ∨ (op = 4 ∨ op = 17 ∨ op = 18) ∨ (op = 5 ∨ op = 6 ∨ op = 7 ∨ op = 19) ∨ (op = 8 ∨ op = 9) ∨ (op = 12 ∨ op = 13 ∨ op = 15) ∨ op = 16 := by omega
  rcases hc with h | h | h | h | h | h | h | h
  ·exact refPlain_A op many n name s c w h
  ·exact refPlain_B op many n name s c w h hs
  ·exact refPlain_C op many n name s c w h
  ·exact refPlain_D op many n name s c w h
  ·exact refPlain_E op many n name s c w h
  ·exact refPlain_F op many n name s c w h
  ·exact refPlain_H op many n name s c w h HPT
  ·exact refPlain_I op many n name s c w h HPT HRV
 ·exact refPlain_Z op many n name s c w hr
end
section
open Go.RowKit Np Rw Vp Up Qp Pw Fw
def IsW (l : List Tm) : Prop := ∃ t, okT tmany t ∧ l = flat t ∧ t.nd.name = [] ∧ rightTF t = true
def WhE (w : World) (l : List Tm) (e : Ending) (w' : World) : Prop := ∃ b, e = .returned (.bool b) ∧ Below w.heap.size w w' ∧ (b = true ↔ IsW l)
theorem not_IsW_nil : ¬ IsW [] := by
 rintro ⟨t, -, h, -, -⟩
 exact flat_ne t h.symm
theorem not_IsW_name {n : Tm} {l : List Tm} (h : n.name ≠ []) : ¬ IsW (n :: l) := by
 rintro ⟨t, -, he, hn, -⟩
 rw [flat_eq] at he
 injection he with e1 e2
 exact h (by rw [e1]; exact hn)
theorem nxtF_of_flat {t : Tr Tm} (h : okT tmany t) : nxtF (flat t).length (flat t) 1 0 = (flat t).length := by
 have := nxtF_flat t (flat t).length [] 0 0 h (Nat.le_refl _)
 simpa using this
theorem not_IsW_next {l : List Tm} (h : nxtF l.length l 1 0 ≠ l.length) : ¬ IsW l := by
 rintro ⟨t, ho, rfl, -, -⟩
 exact h (nxtF_of_flat ho)
theorem IsW_flat {t : Tr Tm} (ho : okT tmany t) (hn : t.nd.name = []) : IsW (flat t) ↔ (subs t).all termOk = true := by
 rw [← rightTF_subs]
 constructor
 ·rintro ⟨u, hu, he, -, hr⟩
  have : t = u := by
   have h1 : flat t ++ [] = flat u ++ [] := by simpa using he
   have h2 := flats_inj (many := tmany) [t] [u] [] [] (by simp [ho]) (by simp [hu]) rfl (by simpa using he)
   simpa using h2.1
  rw [this]; exact hr
 ·intro h
  exact ⟨t, ho, rfl, hn, h⟩
theorem ShortF.at {l : List Tm} (h : ShortF l) {t : Tm} (ht : t ∈ l) : ShT t := ⟨(h t ht).1, (h t ht).2.1, (h t ht).2.2.1, (h t ht).2.2.2⟩
theorem refWholeT_any (v : Value) (l : List Tm) (w : World) (hv : Tms w v l) (hl : l.length ≤ 65536) (hsh : ShortF l) :
  Calls Tryz.prog 71 #[v] w (WhE w l) := by
 have hB : Below w.heap.size w w := Below.refl _ _
 have HSH := Lib.hid hsh; clear hsh
 cases l with
 | nil =>
  obtain ⟨A, c, rfl, -⟩ := hv
  simp only [List.length_nil]
  go_enter Tryz.func71, Tryz.ntmps71
  go_wp2_with fail
  go_ret
  exact ⟨false, rfl, hB, by simp [not_IsW_nil]⟩
 | cons n l' =>
  have hvH := Lib.hid hv
  obtain ⟨g, o, c, rfl, hc, hcm, hg, hx⟩ := hv.opened (by simp)
  obtain ⟨-, -, a2, -, -, -, -, -, -, -, -⟩ := (hx 0 n rfl).tm
  simp only [Nat.zero_mul, Nat.add_zero] at a2
  have HX := Lib.hid hx; clear hx
  by_cases hnm : n.name = []
  ·rw [hnm] at a2
   by_cases hnx : nxtF (n :: l').length (n :: l') 1 0 = (n :: l').length
   ·obtain ⟨t, ht, hfl⟩ := skip_one (nxtF_whole.1 hnx)
    have hnd : t.nd = n := by rw [flat_eq] at hfl; exact ((List.cons.inj hfl).1).symm
    have HV : Hid (IsW (n :: l') ↔ (subs t).all termOk = true) := Lib.hid (by rw [hfl]; exact IsW_flat ht (by rw [hnd]; exact hnm))
    have HFL := Lib.hid hfl
    have HT := Lib.hid ht
    have HNX := Lib.hid hnx
    have hsl : (subs t).length = (n :: l').length := by rw [subs_length, ← hfl]
    have hpos : 0 < (n :: l').length := by simp
    clear ht hfl hnd hnx hnm
    generalize n :: l' = l at *
    generalize hn : l.length = N at *
    have HN := Lib.hid hn; clear hn
    have HSL := Lib.hid hsl; clear hsl
    have e0 : ((N : Int) == 0) = false := by simp; omega
    go_enter Tryz.func71, Tryz.ntmps71
    go_wp2_with (go_at_call 60; refine (refNextT_any _ l 0 _ hvH.out (by rw [HN.out]; exact hl) (Nat.zero_le _)).mono ?_; rintro e w' ⟨rfl, rfl⟩; rw [HN.out, List.drop_zero, HNX.out])
    go_loopw [3] (fun i wr => ∃ k : Nat, k ≤ N ∧ i = .int .i64 k ∧ Below w.heap.size w wr ∧ ((subs t).take k).all termOk = true) (fun i _ => N - (intOf i).toNat)
    case atStart => exact ⟨0, Nat.zero_le _, rfl, Below.refl _ _, rfl⟩
    case round =>
     obtain ⟨k, hk, rfl, hbw, hal⟩ := hrel
     have HAL := Lib.hid hal; clear hal
     have HBW := Lib.hid hbw
     by_cases hlt : k < N
     ·obtain ⟨s, hs⟩ : ∃ s, (subs t)[k]? = some s := ⟨_, List.getElem?_eq_getElem (by rw [HSL.out]; exact hlt)⟩
      obtain ⟨q, hq⟩ := subs_drop t [] k s hs
      rw [List.append_nil, ← HFL.out] at hq
      have hat := fhead_at hq
      have hok : okT tmany s := subs_ok t HT.out s (List.mem_of_getElem? hs)
      obtain ⟨a0, a1, a2, a3, a4, a5, a6, a7, a8, a9, a10⟩ := (HX.out k _ hat).tm.below hg hbw
      have HS := Lib.hid hs
      have HSN := Lib.hid (HSH.out.at (List.mem_of_getElem? hat))
      have HND : Hid (termOk s = (plainT s.nd && kidsF s.nd.op s.nd.many [] s.ks)) := Lib.hid rfl
      have HQ := Lib.hid hq
      have HO := Lib.hid hok
      clear hs hq hat hok hbw
      cases hp : plainT s.nd
      ·have HP := Lib.hid hp
       have HE : Hid ((subs t).all termOk = false) := Lib.hid (all_bad HS.out (by rw [HND.out, hp]; rfl))
       clear hp
       go_wp2_with fail
       refine (refPlainT_any s.nd _ HSN.out).mono ?_
       rintro e w1 ⟨rfl, hb1⟩
       rw [HP.out]
       go_wp2_with fail
       go_ret
       exact ⟨false, rfl, Below.after HBW.out hb1, by rw [HV.out, HE.out]⟩
      ·have HP := Lib.hid hp
       clear hp
       cases hr : kidsF s.nd.op s.nd.many [] s.ks
       ·have HR := Lib.hid hr
        have HE : Hid ((subs t).all termOk = false) := Lib.hid (all_bad HS.out (by rw [HND.out, HP.out, hr]; rfl))
        clear hr
        go_wp2_with fail
        refine (refPlainT_any s.nd _ HSN.out).mono ?_
        rintro e w1 ⟨rfl, hb1⟩
        rw [HP.out]
        go_wp2_with fail
        refine (refPartsT_any _ l k s q _ (hvH.out.below (Below.after HBW.out hb1)) (by rw [HN.out]; exact hl) HSH.out HQ.out HO.out HP.out).mono ?_
        rintro e w2 ⟨rfl, hq2⟩
        rw [HR.out]
        go_wp2_with fail
        go_ret
        exact ⟨false, rfl, Below.after (Below.after HBW.out hb1) hq2, by rw [HV.out, HE.out]⟩
       ·have HR := Lib.hid hr
        have HE : Hid (((subs t).take (k + 1)).all termOk = true) := Lib.hid (all_snoc HAL.out HS.out (by rw [HND.out, HP.out, hr]; rfl))
        clear hr
        go_wp2_with fail
        refine (refPlainT_any s.nd _ HSN.out).mono ?_
        rintro e w1 ⟨rfl, hb1⟩
        rw [HP.out]
        go_wp2_with fail
        refine (refPartsT_any _ l k s q _ (hvH.out.below (Below.after HBW.out hb1)) (by rw [HN.out]; exact hl) HSH.out HQ.out HO.out HP.out).mono ?_
        rintro e w2 ⟨rfl, hq2⟩
        rw [HR.out]
        go_wp2_with fail
        go_roundw
        case rel => exact ⟨k + 1, by omega, by go_num, Below.after (Below.after HBW.out hb1) hq2, HE.out⟩
        case measure => simp [intOf]; omega
     ·have HE : Hid ((subs t).all termOk = true) := Lib.hid (by have := HAL.out; rwa [List.take_of_length_le (by rw [HSL.out]; omega)] at this)
      go_wp2
      go_ret
      exact ⟨true, rfl, HBW.out, by rw [HV.out, HE.out]⟩
   ·have HV := Lib.hid (not_IsW_next hnx)
    have hpos : 0 < (n :: l').length := by simp
    generalize n :: l' = l at *
    generalize hn : l.length = N at *
    have HN := Lib.hid hn; clear hn
    have e0 : ((N : Int) == 0) = false := by simp; omega
    obtain ⟨x, hx⟩ : ∃ x, nxtF N l 1 0 = x := ⟨_, rfl⟩
    rw [hx] at hnx
    have HNX := Lib.hid hx
    have hne : (x == (N : Int)) = false := by simp [hnx]
    have hne' : (x != (N : Int)) = true := by simp [hnx]
    clear hx hnx hnm
    go_enter Tryz.func71, Tryz.ntmps71
    go_wp2_with (go_at_call 60; refine (refNextT_any _ l 0 _ hvH.out (by rw [HN.out]; exact hl) (Nat.zero_le _)).mono ?_; rintro e w' ⟨rfl, rfl⟩; rw [HN.out, List.drop_zero, HNX.out])
    go_ret
    exact ⟨false, rfl, hB, by simp [HV.out]⟩
  ·have HV := Lib.hid (not_IsW_name (l := l') hnm)
   have hpos : 0 < (n :: l').length := by simp
   have hne1 : (n.name == []) = false := by simpa using hnm
   have hne2 : (n.name != []) = true := by simp [hnm]
   have hne3 : n.name.isEmpty = false := by cases h : n.name <;> simp_all
   generalize hn : (n :: l').length = N at *
   have e0 : ((N : Int) == 0) = false := by simp; omega
   generalize n.name = nm at *
   go_enter Tryz.func71, Tryz.ntmps71
   go_wp2_with fail
   go_ret
   exact ⟨false, rfl, hB, by simp [HV.out]⟩
end
section
open Go.RowKit Np Rw Vp Up Qp Pw Fw
theorem IsW_right {l : List Tm} : rightF l = true ↔ IsW l ∧ (∀ x, l.head? = some x → isC x.op = false) := by
 constructor
 ·intro h
  obtain ⟨t, ht, rfl⟩ := flt_of_rightF h
  refine ⟨⟨t, ht.ok, rfl, ht.nm, ht.rt⟩, fun x hx => ?_⟩
  rw [flat_eq] at hx
  simp at hx
  rw [← hx]; exact ht.nc
 ·rintro ⟨⟨t, ho, rfl, hn, hr⟩, hc⟩
  rw [rightF_flat ho, hn, hr, hc t.nd (by rw [flat_eq]; rfl)]
  rfl
theorem refRightF_any (v : Value) (l : List Tm) (w : World) (hv : Tms w v l) (hl : l.length ≤ 65536) (hsh : ShortF l) :
  Calls Tryz.prog 42 #[v] w fun e w' => e = .returned (.bool (rightF l)) ∧ Below w.heap.size w w' := by
 have HW := Lib.hid (refWholeT_any v l w hv hl hsh)
 have hvH := Lib.hid hv
 have HR := Lib.hid (IsW_right (l := l))
 generalize rightF l = R at *
 cases l with
 | nil =>
  obtain ⟨A, c, rfl, -⟩ := hv
  have HF : Hid (R = false) := Lib.hid (Bool.eq_false_iff.2 (fun h => not_IsW_nil (HR.out.1 h).1))
  simp only [List.length_nil] at HW ⊢
  go_enter Tryz.func42, Tryz.ntmps42
  go_wp2_with fail
  refine HW.out.mono ?_
  rintro e w1 ⟨b, rfl, hb1, hi⟩
  have hbf : b = false := Bool.eq_false_iff.2 (fun h => not_IsW_nil (hi.1 h))
  clear hi
  subst hbf
  go_wp2_with fail
  go_ret
  exact ⟨ret_bool HF.out.symm, hb1⟩
 | cons x l' =>
  obtain ⟨g, o, c, rfl, hc, hcm, hg, hx⟩ := hv.opened (by simp)
  have HX := Lib.hid ((hx 0 x rfl).tm)
  have hpos : 0 < (x :: l').length := by simp
  clear hx
  generalize hL : x :: l' = L at *
  generalize hn : L.length = n at *
  have HL := Lib.hid hL
  clear hL hl hsh hv
  go_enter Tryz.func42, Tryz.ntmps42
  go_wp2_with fail
  refine HW.out.mono ?_
  rintro e w1 ⟨b, rfl, hb1, hi⟩
  cases b with
  | false =>
   have HF : Hid (R = false) := Lib.hid (Bool.eq_false_iff.2 (fun h => by have := hi.2 (HR.out.1 h).1; cases this))
   clear hi
   go_wp2_with fail
   go_ret
   exact ⟨ret_bool HF.out.symm, hb1⟩
  | true =>
   have HI := Lib.hid (hi.1 rfl)
   have HF : Hid (R = !isC x.op) := Lib.hid (by
    cases hx : isC x.op
    ·exact HR.out.2 ⟨HI.out, fun y hy => by rw [← HL.out] at hy; simp at hy; rw [← hy]; exact hx⟩
    ·exact Bool.eq_false_iff.2 (fun h => by have := (HR.out.1 h).2 x (by rw [← HL.out]; rfl); rw [hx] at this; cases this))
   clear hi
   obtain ⟨a0, a1, a2, a3, a4, a5, a6, a7, a8, a9, a10⟩ := HX.out.below hg hb1
   simp only [Nat.zero_mul, Nat.add_zero] at a0 a1 a2 a3 a4 a5 a6 a7 a8 a9 a10
   have HB1 := Lib.hid hb1
   go_wp2_with fail
   refine (refIs_any x _).mono ?_
   rintro e w2 ⟨rfl, hb2⟩
   have HB2 := Lib.hid (HB1.out.trans (hb2.mono HB1.out.size))
   clear hb2 hb1
   cases hxc : isC x.op
   ·have HG : Hid (R = true) := Lib.hid (by rw [HF.out, hxc]; rfl)
    go_wp2_with fail
    go_ret
    exact ⟨ret_bool HG.out.symm, HB2.out⟩
   ·have HG : Hid (R = false) := Lib.hid (by rw [HF.out, hxc]; rfl)
    go_wp2_with fail
    go_ret
    exact ⟨ret_bool HG.out.symm, HB2.out⟩
theorem short_held {l : List Tm} (h : l.all shortT = true) (hh : HeldF l) : ShortF l := by
 intro t ht
 have := List.all_eq_true.1 h t ht
 simp [shortT] at this
 refine ⟨?_, ?_, (hh t ht).cn, ?_⟩ <;> (try unfold maxLen) <;> omega
theorem refFewF_any (v : Value) (l : List Tm) (m : Nat) (w : World) (hv : Tms w v l) (hm : m ≤ 65536) (hh : HeldF l) :
  Calls Tryz.prog 16 #[v, .int .i64 m] w fun e w' => e = .returned (.bool (fewF m l)) ∧ Below w.heap.size w w' := by
 have hB : Below w.heap.size w w := Below.refl _ _
 have HSHO : Hid (l.all shortT = true → ShortF l) := Lib.hid (fun h => short_held h hh)
 have hlen := hv.len
 unfold maxLen at hlen
 clear hh
 by_cases hlm : l.length ≤ m
 ·rcases Nat.eq_zero_or_pos l.length with h0 | h0
  ·have e1 := List.eq_nil_of_length_eq_zero h0
   subst e1
   have hvH := Lib.hid hv
   obtain ⟨A, c, rfl, -⟩ := hv
   have HE : Hid (fewF m [] = rightF []) := Lib.hid (by simp [fewF])
   clear h0 hlm hlen
   simp only [List.length_nil] at hvH ⊢
   go_enter Tryz.func16, Tryz.ntmps16
   go_wp2
   go_loopw [5] (fun i wr => i = .int .i64 0 ∧ wr = w) (fun _ _ => 0)
   case atStart => exact ⟨rfl, rfl⟩
   case round =>
    obtain ⟨rfl, rfl⟩ := hrel
    go_wp2_with fail
    refine (refRightF_any _ [] _ hvH.out (by simp) (fun _ h => by cases h)).mono ?_
    rintro e w1 ⟨rfl, hb1⟩
    go_wp2_with fail
    go_ret
    exact ⟨ret_bool HE.out.symm, hb1⟩
  ·have hvH := Lib.hid hv
   obtain ⟨g, o, c, rfl, hc, hcm, hg, hx⟩ := hv.opened h0
   have HX := Lib.hid hx; clear hx
   have HF : Hid (fewF m l = (l.all shortT && rightF l)) := Lib.hid (by simp [fewF, hlm])
   generalize hn : l.length = n at *
   have HN := Lib.hid hn; clear hn
   have e0 : decide (m < n) = false := by simp; omega
   go_enter Tryz.func16, Tryz.ntmps16
   go_wp2
   go_loopw [5] (fun i wr => ∃ k : Nat, k ≤ n ∧ i = .int .i64 k ∧ wr = w ∧ (l.take k).all shortT = true) (fun i _ => n - (intOf i).toNat)
   case atStart => exact ⟨0, Nat.zero_le _, rfl, rfl, rfl⟩
   case round =>
    obtain ⟨k, hk, rfl, rfl, hal⟩ := hrel
    have HAL := Lib.hid hal; clear hal
    by_cases hlt : k < n
    ·obtain ⟨x, hx⟩ : ∃ s, l[k]? = some s := ⟨_, List.getElem?_eq_getElem (by rw [HN.out]; exact hlt)⟩
     obtain ⟨-, -, a2, a3, -, -, -, -, a8, -, -⟩ := (HX.out k _ hx).tm
     have HXX := Lib.hid hx; clear hx
     have HS : Hid (shortT x = (decide (x.s.length ≤ 100) && decide (x.name.length ≤ 100) && decide (x.c.s.length ≤ 100))) := Lib.hid rfl
     by_cases h1 : x.s.length ≤ 100
     ·by_cases h2 : x.name.length ≤ 100
      ·by_cases h3 : x.c.s.length ≤ 100
       ·have HE : Hid ((l.take (k + 1)).all shortT = true) := Lib.hid (all_snoc HAL.out HXX.out (by rw [HS.out]; simp [h1, h2, h3]))
        have e1 : decide (100 < x.s.length) = false := by simp; omega
        have e2 : decide (100 < x.name.length) = false := by simp; omega
        have e3 : decide (100 < x.c.s.length) = false := by simp; omega
        go_wp2
        go_roundw
        case rel => exact ⟨k + 1, by omega, by go_num, by simp, HE.out⟩
        case measure => simp [intOf]; omega
       ·have HE : Hid (l.all shortT = false) := Lib.hid (all_bad HXX.out (by rw [HS.out]; simp [h3]))
        have e1 : decide (100 < x.s.length) = false := by simp; omega
        have e2 : decide (100 < x.name.length) = false := by simp; omega
        have e3 : decide (100 < x.c.s.length) = true := by simp; omega
        go_wp2
        go_ret
        exact ⟨ret_bool (by rw [HF.out, HE.out]; rfl), hB⟩
      ·have HE : Hid (l.all shortT = false) := Lib.hid (all_bad HXX.out (by rw [HS.out]; simp [h2]))
       have e1 : decide (100 < x.s.length) = false := by simp; omega
       have e2 : decide (100 < x.name.length) = true := by simp; omega
       go_wp2
       go_ret
       exact ⟨ret_bool (by rw [HF.out, HE.out]; rfl), hB⟩
     ·have HE : Hid (l.all shortT = false) := Lib.hid (all_bad HXX.out (by rw [HS.out]; simp [h1]))
      have e1 : decide (100 < x.s.length) = true := by simp; omega
      go_wp2
      go_ret
      exact ⟨ret_bool (by rw [HF.out, HE.out]; rfl), hB⟩
    ·have HE : Hid (l.all shortT = true) := Lib.hid (by have := HAL.out; rwa [List.take_of_length_le (by rw [HN.out]; omega)] at this)
     go_wp2_with fail
     refine (refRightF_any _ l _ hvH.out (by rw [HN.out]; omega) (HSHO.out HE.out)).mono ?_
     rintro e w1 ⟨rfl, hb1⟩
     go_wp2_with fail
     go_ret
     exact ⟨ret_bool (by rw [HF.out, HE.out]; rfl), hb1⟩
 ·have HE : Hid (fewF m l = false) := Lib.hid (by simp [fewF, hlm])
  obtain ⟨A, c, rfl, -⟩ := hv
  go_enter Tryz.func16, Tryz.ntmps16
  go_wp2
  go_ret
  exact ⟨ret_bool HE.out.symm, hB⟩
end
end Go.Proofs.YtldioobbfkaebaaGreatDoor
