/-
  What the statements' live question answers: true.
-/
import Derived.Test.YtfmoigbiohbocaaDoorNumW7
namespace Go.Proofs.YtfmoigbiohbocaaDoor
open Go.RowKit Np

theorem alive_read1 : readF (ByteArray.mk #[49, 46, 53, 48, 101, 50]).data.toList = (⟨3, 0, [], [49, 53], false, 1⟩, 0, 0) := by decide +kernel
theorem alive_make : mk true (ByteArray.mk #[48, 48, 50, 53]).data.toList 0 = (⟨3, 0, [], [50, 53], true, 0⟩, 0) := by decide +kernel
theorem alive_read2 : readF (ByteArray.mk #[48, 49]).data.toList = (nd0, 1, 1) := by decide +kernel
theorem alive_print1 : printN (ByteArray.mk #[49, 53]).data.toList false 1 = [49, 53, 48] := by decide +kernel
theorem alive_print2 : printN (ByteArray.mk #[50, 53]).data.toList true 0 = [45, 50, 53] := by decide +kernel
theorem alive_cmp : cmpN (ByteArray.mk #[49, 53]).data.toList false 1 (ByteArray.mk #[50, 53]).data.toList true 0 = 1 := by decide +kernel
theorem alive_right1 : right ⟨3, 0, (ByteArray.mk #[]).data.toList, (ByteArray.mk #[49, 53]).data.toList, false, 1⟩ = true := by decide +kernel
theorem alive_right2 : right ⟨0, 0, (ByteArray.mk #[]).data.toList, (ByteArray.mk #[]).data.toList, false, 0⟩ = false := by decide +kernel

/-- A node's six cells. -/
structure At6 (w : World) (b : Nat) (v0 v1 v2 v3 v4 v5 : Value) : Prop where
  lt : b < w.heap.size
  c0 : w.cell? ⟨b, 0, none⟩ = some v0
  c1 : w.cell? ⟨b, 1, none⟩ = some v1
  c2 : w.cell? ⟨b, 2, none⟩ = some v2
  c3 : w.cell? ⟨b, 3, none⟩ = some v3
  c4 : w.cell? ⟨b, 4, none⟩ = some v4
  c5 : w.cell? ⟨b, 5, none⟩ = some v5
theorem At6.below {w w' : World} {b : Nat} {v0 v1 v2 v3 v4 v5 : Value} (h : At6 w b v0 v1 v2 v3 v4 v5) (hb : Below w.heap.size w w') : At6 w' b v0 v1 v2 v3 v4 v5 :=
  ⟨Nat.lt_of_lt_of_le h.lt hb.size, (hb.cell h.lt).trans h.c0, (hb.cell h.lt).trans h.c1, (hb.cell h.lt).trans h.c2, (hb.cell h.lt).trans h.c3, (hb.cell h.lt).trans h.c4, (hb.cell h.lt).trans h.c5⟩
theorem At6.alloc {w : World} {b : Nat} {v0 v1 v2 v3 v4 v5 : Value} (h : At6 w b v0 v1 v2 v3 v4 v5) (o : Obj) : At6 (w.alloc o) b v0 v1 v2 v3 v4 v5 :=
  h.below ((Below.refl _ _).alloc (Nat.le_refl _) _)
theorem At6.new (w : World) (v0 v1 v2 v3 v4 v5 : Value) (t : TypeId) : At6 (w.alloc (.cells #[v0, v1, v2, v3, v4, v5] t)) w.heap.size v0 v1 v2 v3 v4 v5 := by
  constructor <;> simp

theorem al_read1 (w : World) : Calls Tryd.prog 15 #[.string ⟨#[49, 46, 53, 48, 101, 50]⟩] w fun e w' => e = .returned (.tuple #[.agg #[.int .i64 3, .int .i64 0, .string ⟨#[]⟩, .string ⟨#[49, 53]⟩, .bool false, .int .i64 1], .int .i64 0, .int .i64 0]) ∧ Below w.heap.size w w' :=
  (read_any _ _ (by decide)).mono fun _ _ ⟨he, hb⟩ => ⟨by rw [he, alive_read1]; rfl, hb⟩
theorem al_make (w : World) : Calls Tryd.prog 11 #[.bool true, .string ⟨#[48, 48, 50, 53]⟩, .int .i64 0] w fun e w' => e = .returned (.tuple #[.agg #[.int .i64 3, .int .i64 0, .string ⟨#[]⟩, .string ⟨#[50, 53]⟩, .bool true, .int .i64 0], .int .i64 0]) ∧ Below w.heap.size w w' :=
  (make_any _ _ _ _ (by decide)).mono fun _ _ ⟨he, hb⟩ => ⟨by rw [he, alive_make]; rfl, hb⟩
theorem al_read2 (w : World) : Calls Tryd.prog 15 #[.string ⟨#[48, 49]⟩] w fun e w' => e = .returned (.tuple #[.agg #[.int .i64 0, .int .i64 0, .string ⟨#[]⟩, .string ⟨#[]⟩, .bool false, .int .i64 0], .int .i64 1, .int .i64 1]) ∧ Below w.heap.size w w' :=
  (read_any _ _ (by decide)).mono fun _ _ ⟨he, hb⟩ => ⟨by rw [he, alive_read2]; rfl, hb⟩
theorem al_print1 (w : World) (hT : PowTab w) : Calls Tryd.prog 17 #[.agg #[.int .i64 3, .int .i64 0, .string ⟨#[]⟩, .string ⟨#[49, 53]⟩, .bool false, .int .i64 1]] w fun e w' => e = .returned (.string ⟨#[49, 53, 48]⟩) ∧ Below w.heap.size w w' :=
  (print_any _ _ _ _ _ _ _ hT (by decide) (by decide) (by decide)).mono fun _ _ ⟨he, hb⟩ => ⟨by rw [he, alive_print1], hb⟩
theorem al_print2 (w : World) (hT : PowTab w) : Calls Tryd.prog 17 #[.agg #[.int .i64 3, .int .i64 0, .string ⟨#[]⟩, .string ⟨#[50, 53]⟩, .bool true, .int .i64 0]] w fun e w' => e = .returned (.string ⟨#[45, 50, 53]⟩) ∧ Below w.heap.size w w' :=
  (print_any _ _ _ _ _ _ _ hT (by decide) (by decide) (by decide)).mono fun _ _ ⟨he, hb⟩ => ⟨by rw [he, alive_print2], hb⟩
theorem al_cmp (w : World) : Calls Tryd.prog 19 #[.agg #[.int .i64 3, .int .i64 0, .string ⟨#[]⟩, .string ⟨#[49, 53]⟩, .bool false, .int .i64 1], .agg #[.int .i64 3, .int .i64 0, .string ⟨#[]⟩, .string ⟨#[50, 53]⟩, .bool true, .int .i64 0]] w fun e w' => e = .returned (.int .i64 1) ∧ Below w.heap.size w w' :=
  (cmp_any _ _ _ _ _ _ _ _ _ _ _ _ _ (by decide) (by decide) (by decide) (by decide) (by decide) (by decide)).mono fun _ _ ⟨he, hb⟩ => ⟨by rw [he, alive_cmp], hb⟩
theorem al_right1 (w : World) : Calls Tryd.prog 13 #[.agg #[.int .i64 3, .int .i64 0, .string ⟨#[]⟩, .string ⟨#[49, 53]⟩, .bool false, .int .i64 1]] w fun e w' => e = .returned (.bool true) ∧ Below w.heap.size w w' :=
  (right_any _ _ _ _ _ _ _ (by decide)).mono fun _ _ ⟨he, hb⟩ => ⟨by rw [he, alive_right1], hb⟩
theorem al_right2 (w : World) : Calls Tryd.prog 13 #[.agg #[.int .i64 0, .int .i64 0, .string ⟨#[]⟩, .string ⟨#[]⟩, .bool false, .int .i64 0]] w fun e w' => e = .returned (.bool false) ∧ Below w.heap.size w w' :=
  (right_any _ _ _ _ _ _ _ (by decide)).mono fun _ _ ⟨he, hb⟩ => ⟨by rw [he, alive_right2], hb⟩

set_option maxHeartbeats 1000000 in
theorem alive_any (w : World) (hT : PowTab w) :
    Calls Tryd.prog 10 #[] w fun e w' => e = .returned (.bool true) ∧ Below w.heap.size w w' := by
  have hB : Below w.heap.size w w := Below.refl _ _
  go_enter Tryd.func10, Tryd.ntmps10
  go_wp2_with fail
  refine (al_read1 _).mono ?_
  rintro e w1 ⟨rfl, hb1⟩
  have HA1 := Lib.hid (At6.new w1 (.int .i64 3) (.int .i64 0) (.string ⟨#[]⟩) (.string ⟨#[49, 53]⟩) (.bool false) (.int .i64 1) 23)
  have hB1 := hb1.alloc hb1.size (.cells #[.int .i64 3, .int .i64 0, .string ⟨#[]⟩, .string ⟨#[49, 53]⟩, .bool false, .int .i64 1] 23)
  have hT1 := hT.below hB1
  clear hb1
  go_wp2_with fail
  refine (al_make _).mono ?_
  rintro e w2 ⟨rfl, hb2⟩
  have HA2 := Lib.hid ((HA1.out.below hb2).alloc (.cells #[.int .i64 3, .int .i64 0, .string ⟨#[]⟩, .string ⟨#[50, 53]⟩, .bool true, .int .i64 0] 23))
  have HC2 := Lib.hid (At6.new w2 (.int .i64 3) (.int .i64 0) (.string ⟨#[]⟩) (.string ⟨#[50, 53]⟩) (.bool true) (.int .i64 0) 23)
  have hb2' := hb2.alloc hb2.size (.cells #[.int .i64 3, .int .i64 0, .string ⟨#[]⟩, .string ⟨#[50, 53]⟩, .bool true, .int .i64 0] 23)
  have hT2 := hT1.below hb2'
  have hB2 := hB1.trans (hb2'.mono hB1.size)
  clear hb2 hb2' hT1 hB1 HA1
  go_wp2_with fail
  refine (al_read2 _).mono ?_
  rintro e w3 ⟨rfl, hb3⟩
  have HA3 := Lib.hid ((HA2.out.below hb3).alloc (.cells #[.int .i64 0, .int .i64 0, .string ⟨#[]⟩, .string ⟨#[]⟩, .bool false, .int .i64 0] 23))
  have HC3 := Lib.hid ((HC2.out.below hb3).alloc (.cells #[.int .i64 0, .int .i64 0, .string ⟨#[]⟩, .string ⟨#[]⟩, .bool false, .int .i64 0] 23))
  have hb3' := hb3.alloc hb3.size (.cells #[.int .i64 0, .int .i64 0, .string ⟨#[]⟩, .string ⟨#[]⟩, .bool false, .int .i64 0] 23)
  have hT3 := hT2.below hb3'
  have hB3 := hB2.trans (hb3'.mono hB2.size)
  clear hb3 hb3' hT2 hB2 HA2 HC2
  obtain ⟨l1, a0, a1, a2, a3, a4, a5⟩ := HA3.out
  obtain ⟨l2, b0, b1, b2, b3, b4, b5⟩ := HC3.out
  go_wp2_with fail
  refine (al_print1 _ hT3).mono ?_
  rintro e w4 ⟨rfl, hb4⟩
  clear l1 a0 a1 a2 a3 a4 a5 l2 b0 b1 b2 b3 b4 b5
  have HA4 := Lib.hid (HA3.out.below hb4)
  have HC4 := Lib.hid (HC3.out.below hb4)
  have hT4 := hT3.below hb4
  have hB4 := hB3.trans (hb4.mono hB3.size)
  clear hb4 hT3 hB3 HA3 HC3
  obtain ⟨l1, a0, a1, a2, a3, a4, a5⟩ := HA4.out
  obtain ⟨l2, b0, b1, b2, b3, b4, b5⟩ := HC4.out
  go_wp2_with fail
  refine (al_print2 _ hT4).mono ?_
  rintro e w5 ⟨rfl, hb5⟩
  clear l1 a0 a1 a2 a3 a4 a5 l2 b0 b1 b2 b3 b4 b5
  have HA5 := Lib.hid (HA4.out.below hb5)
  have HC5 := Lib.hid (HC4.out.below hb5)
  have hT5 := hT4.below hb5
  have hB5 := hB4.trans (hb5.mono hB4.size)
  clear hb5 hT4 hB4 HA4 HC4
  obtain ⟨l1, a0, a1, a2, a3, a4, a5⟩ := HA5.out
  obtain ⟨l2, b0, b1, b2, b3, b4, b5⟩ := HC5.out
  go_wp2_with fail
  refine (al_cmp _).mono ?_
  rintro e w6 ⟨rfl, hb6⟩
  clear l1 a0 a1 a2 a3 a4 a5 l2 b0 b1 b2 b3 b4 b5
  have HA6 := Lib.hid (HA5.out.below hb6)
  have HC6 := Lib.hid (HC5.out.below hb6)
  have hT6 := hT5.below hb6
  have hB6 := hB5.trans (hb6.mono hB5.size)
  clear hb6 hT5 hB5 HA5 HC5
  obtain ⟨l1, a0, a1, a2, a3, a4, a5⟩ := HA6.out
  obtain ⟨l2, b0, b1, b2, b3, b4, b5⟩ := HC6.out
  go_wp2_with fail
  refine (al_right1 _).mono ?_
  rintro e w7 ⟨rfl, hb7⟩
  clear l1 a0 a1 a2 a3 a4 a5 l2 b0 b1 b2 b3 b4 b5
  have HA7 := Lib.hid (HA6.out.below hb7)
  have HC7 := Lib.hid (HC6.out.below hb7)
  have hT7 := hT6.below hb7
  have hB7 := hB6.trans (hb7.mono hB6.size)
  clear hb7 hT6 hB6 HA6 HC6
  obtain ⟨l1, a0, a1, a2, a3, a4, a5⟩ := HA7.out
  obtain ⟨l2, b0, b1, b2, b3, b4, b5⟩ := HC7.out
  go_wp2_with fail
  refine (al_right2 _).mono ?_
  rintro e w8 ⟨rfl, hb8⟩
  have hB8 := hB7.trans (hb8.mono hB7.size)
  clear l1 a0 a1 a2 a3 a4 a5 l2 b0 b1 b2 b3 b4 b5
  go_wp2_with fail
  go_ret
  exact ⟨rfl, hB8⟩

end Go.Proofs.YtfmoigbiohbocaaDoor
