/-
  The walk of the statement NumInts: it returns true.
-/
import Derived.Test.YtfmoigbiohbocaaDoorNumEq
import Derived.Test.YtfmoigbiohbocaaDoorNumW14
namespace Go.Proofs.YtfmoigbiohbocaaDoor
open Go.RowKit Np

theorem same_self2 (k m : Int) (nm s : ByteArray) (g : Bool) (x : Int) : sameNode k m nm s g x k m nm s g x = true := by simp [sameNode]
/-- A whole number's text. -/
def intText (a : Int) : List UInt8 := (if decide (a < 0) = true then [45] else []) ++ Lib.decDigits a.natAbs

set_option maxRecDepth 100000 in
set_option maxHeartbeats 4000000 in
theorem numInts_any (a b : Int) (w : World) (hT : PowTab w) (ha0 : -2147483648 ≤ a) (ha1 : a ≤ 2147483647) (hb0 : -2147483648 ≤ b) (hb1 : b ≤ 2147483647) :
    Calls Tryd.prog 9 #[.int .i32 a, .int .i32 b] w fun e w' => e = .returned (.bool true) ∧ Below w.heap.size w w' := by
  have hu : a.natAbs ≤ 2147483648 := by omega
  have hv : b.natAbs ≤ 2147483648 := by omega
  have hna : decide (a < 0) = true → 0 < a.natAbs := fun h => by have := of_decide_eq_true h; omega
  have hnb : decide (b < 0) = true → 0 < b.natAbs := fun h => by have := of_decide_eq_true h; omega
  have hlu := dec_ten a.natAbs hu
  have hlv := dec_ten b.natAbs hv
  obtain ⟨m1, r1, t1, d1⟩ := int_all (decide (a < 0)) a.natAbs hna hu
  obtain ⟨m2, r2, -, -⟩ := int_all (decide (b < 0)) b.natAbs hnb hv
  have hc := int_cmp (decide (a < 0)) (decide (b < 0)) a.natAbs b.natAbs hna hnb hu hv
  have e1 : (if decide (a < 0) = true then -(a.natAbs : Int) else a.natAbs) = a := by
    by_cases h : a < 0
    · simp [h]; omega
    · simp [h]; omega
  have e2 : (if decide (b < 0) = true then -(b.natAbs : Int) else b.natAbs) = b := by
    by_cases h : b < 0
    · simp [h]; omega
    · simp [h]; omega
  rw [e1, e2] at hc
  clear e1 e2 hna hnb
  generalize intN (decide (a < 0)) a.natAbs = X at *
  generalize intN (decide (b < 0)) b.natAbs = Y at *
  obtain ⟨x0, x1, x2, x3, x4, x5⟩ := X
  obtain ⟨y0, y1, y2, y3, y4, y5⟩ := Y
  obtain ⟨p1, p2, p3⟩ := right_bounds r1
  obtain ⟨q1, q2, q3⟩ := right_bounds r2
  simp only at p1 p2 p3 q1 q2 q3 hc t1
  have M1 := Lib.hid m1
  have R1 := Lib.hid r1
  have T1 : Hid (printN x3 x4 x5 = intText a) := Lib.hid t1
  have D1 : Hid (readF (intText a) = (⟨x0, x1, x2, x3, x4, x5⟩, 0, 0)) := Lib.hid d1
  have M2 := Lib.hid m2
  have HC := Lib.hid hc
  have HTx : Hid (intText a = (if decide (a < 0) = true then [45] else []) ++ Lib.decDigits a.natAbs) := Lib.hid rfl
  have htl : (intText a).length ≤ 11 := by unfold intText; rw [List.length_append]; split <;> simp <;> omega
  clear m1 r1 t1 d1 m2 r2 hc
  go_enter Tryd.func9, Tryd.ntmps9
  go_wp2_with fail
  refine (wholeInt_any a _ ha0 ha1).mono ?_
  rintro e w1 ⟨rfl, hb1'⟩
  have hB1 : Below w.heap.size w w1 := hb1'
  clear hb1'
  go_wp2_with fail
  refine (make_any _ _ _ _ (by show (Lib.decDigits a.natAbs).length ≤ maxLen; unfold maxLen; omega)).mono ?_
  rintro e w2 ⟨rfl, hb2⟩
  rw [show (ByteArray.mk (Lib.decDigits a.natAbs).toArray).data.toList = Lib.decDigits a.natAbs from rfl, M1.out]
  simp only [ndv]
  have hB2 := hB1.trans (hb2.mono hB1.size)
  have hB3 := hB2.alloc hB2.size (.cells #[.int .i64 x0, .int .i64 x1, .string ⟨x2.toArray⟩, .string ⟨x3.toArray⟩, .bool x4, .int .i64 x5] 23)
  have HX3 := Lib.hid (At6.new w2 (.int .i64 x0) (.int .i64 x1) (.string ⟨x2.toArray⟩) (.string ⟨x3.toArray⟩) (.bool x4) (.int .i64 x5) 23)
  clear hb2 hB1 hB2
  go_wp2_with fail
  refine (wholeInt_any b _ hb0 hb1).mono ?_
  rintro e w4 ⟨rfl, hb4⟩
  have HX4 := Lib.hid (HX3.out.below hb4)
  have hB4 := hB3.trans (hb4.mono hB3.size)
  clear hb4 HX3 hB3
  go_wp2_with fail
  refine (make_any _ _ _ _ (by show (Lib.decDigits b.natAbs).length ≤ maxLen; unfold maxLen; omega)).mono ?_
  rintro e w5 ⟨rfl, hb5⟩
  rw [show (ByteArray.mk (Lib.decDigits b.natAbs).toArray).data.toList = Lib.decDigits b.natAbs from rfl, M2.out]
  simp only [ndv]
  have HX5 := Lib.hid ((HX4.out.below hb5).alloc (.cells #[.int .i64 y0, .int .i64 y1, .string ⟨y2.toArray⟩, .string ⟨y3.toArray⟩, .bool y4, .int .i64 y5] 23))
  have HY5 := Lib.hid (At6.new w5 (.int .i64 y0) (.int .i64 y1) (.string ⟨y2.toArray⟩) (.string ⟨y3.toArray⟩) (.bool y4) (.int .i64 y5) 23)
  have hB5 := hB4.trans (hb5.mono hB4.size)
  have hB6 := hB5.alloc hB5.size (.cells #[.int .i64 y0, .int .i64 y1, .string ⟨y2.toArray⟩, .string ⟨y3.toArray⟩, .bool y4, .int .i64 y5] 23)
  clear hb5 HX4 hB4 hB5
  go_wp2_with fail
  refine (wholeInt_any a _ ha0 ha1).mono ?_
  rintro e w7 ⟨rfl, hb7⟩
  have HX7 := Lib.hid (HX5.out.below hb7)
  have HY7 := Lib.hid (HY5.out.below hb7)
  have hB7 := hB6.trans (hb7.mono hB6.size)
  clear hb7 HX5 HY5 hB6
  go_upto_if 33 with fail
  go_cut [9] (fun s9 wx => s9 = .string ⟨(intText a).toArray⟩ ∧ w7 = wx)
  case first =>
    by_cases hn : a < 0
    · have HE : Hid (intText a = 45 :: Lib.decDigits a.natAbs) := Lib.hid (by unfold intText; simp [hn])
      go_wp2_with fail
      go_meet
      refine ⟨congrArg Value.string ?_, rfl⟩
      rw [HE.out]
      exact ByteArray.ext (by simp)
    · have HE : Hid (intText a = Lib.decDigits a.natAbs) := Lib.hid (by unfold intText; simp [hn])
      go_wp2_with fail
      go_meet
      refine ⟨?_, rfl⟩
      rw [HE.out]
  case rest =>
    obtain ⟨rfl, rfl⟩ := hcut
    go_wp2_with fail
    refine (read_any _ _ (by show (intText a).length ≤ 1000000; omega)).mono ?_
    rintro e w8 ⟨rfl, hb8⟩
    rw [show (ByteArray.mk (intText a).toArray).data.toList = intText a from rfl, D1.out]
    simp only [ndv]
    have HX8 := Lib.hid ((HX7.out.below hb8).alloc (.cells #[.int .i64 x0, .int .i64 x1, .string ⟨x2.toArray⟩, .string ⟨x3.toArray⟩, .bool x4, .int .i64 x5] 23))
    have HY8 := Lib.hid ((HY7.out.below hb8).alloc (.cells #[.int .i64 x0, .int .i64 x1, .string ⟨x2.toArray⟩, .string ⟨x3.toArray⟩, .bool x4, .int .i64 x5] 23))
    have HZ8 := Lib.hid (At6.new w8 (.int .i64 x0) (.int .i64 x1) (.string ⟨x2.toArray⟩) (.string ⟨x3.toArray⟩) (.bool x4) (.int .i64 x5) 23)
    have hB8 := hB7.trans (hb8.mono hB7.size)
    have hB9 := hB8.alloc hB8.size (.cells #[.int .i64 x0, .int .i64 x1, .string ⟨x2.toArray⟩, .string ⟨x3.toArray⟩, .bool x4, .int .i64 x5] 23)
    clear hb8 HX7 HY7 hB7 hB8
    obtain ⟨l1, c0, c1, c2, c3, c4, c5⟩ := HX8.out
    obtain ⟨l2, g0, g1, g2, g3, g4, g5⟩ := HY8.out
    go_wp2_with fail
    refine (cmp_any _ _ _ _ _ _ _ _ _ _ _ _ _ (by show x3.length ≤ 1000000; omega) (by show y3.length ≤ 1000000; omega) (by omega) (by omega) (by omega) (by omega)).mono ?_
    rintro e w10 ⟨rfl, hb10⟩
    clear l1 c0 c1 c2 c3 c4 c5 l2 g0 g1 g2 g3 g4 g5
    rw [show cmpN (ByteArray.mk x3.toArray).data.toList x4 x5 (ByteArray.mk y3.toArray).data.toList y4 y5 = cmpN x3 x4 x5 y3 y4 y5 from rfl]
    have HX10 := Lib.hid (HX8.out.below hb10)
    have HZ10 := Lib.hid (HZ8.out.below hb10)
    have hB10 := hB9.trans (hb10.mono hB9.size)
    have hT10 := hT.below hB10
    clear hb10 HX8 HY8 HZ8 hB9
    generalize cmpN x3 x4 x5 y3 y4 y5 = cc at *
    have hE := fun w => eql_node x0 x1 ⟨x2.toArray⟩ ⟨x3.toArray⟩ x4 x5 x0 x1 ⟨x2.toArray⟩ ⟨x3.toArray⟩ x4 x5 w
    rw [same_self2] at hE
    by_cases hab : a < b
    · have hcl : cc < 0 := HC.out.2 hab
      go_wp2_with fail
      refine (alive_any _ hT10).mono ?_
      rintro e w11 ⟨rfl, hb11⟩
      obtain ⟨l1, c0, c1, c2, c3, c4, c5⟩ := HX10.out.below hb11
      have HX11 := Lib.hid (HX10.out.below hb11)
      have HZ11 := Lib.hid (HZ10.out.below hb11)
      have hB11 := hB10.trans (hb11.mono hB10.size)
      have hT11 := hT.below hB11
      clear hb11
      go_wp2_with fail
      refine (print_any _ _ _ _ _ _ _ hT11 (by show x3.length ≤ 1000000; omega) (by omega) (by omega)).mono ?_
      rintro e w12 ⟨rfl, hb12⟩
      rw [show printN (ByteArray.mk x3.toArray).data.toList x4 x5 = printN x3 x4 x5 from rfl, T1.out]
      clear l1 c0 c1 c2 c3 c4 c5
      have HX12 := Lib.hid (HX11.out.below hb12)
      have HZ12 := Lib.hid (HZ11.out.below hb12)
      have hB12 := hB11.trans (hb12.mono hB11.size)
      clear hb12
      obtain ⟨l1, c0, c1, c2, c3, c4, c5⟩ := HX12.out
      obtain ⟨l2, g0, g1, g2, g3, g4, g5⟩ := HZ12.out
      go_wp2_with fail
      refine (right_any _ _ _ _ _ _ _ (by show x3.length ≤ maxLen; unfold maxLen; omega)).mono ?_
      rintro e w13 ⟨rfl, hb13⟩
      rw [show right ⟨x0, x1, (ByteArray.mk x2.toArray).data.toList, (ByteArray.mk x3.toArray).data.toList, x4, x5⟩ = true from R1.out]
      clear l1 c0 c1 c2 c3 c4 c5 l2 g0 g1 g2 g3 g4 g5
      go_wp2_with fail
      go_ret
      exact ⟨ret_bool (by simp), hB12.trans (hb13.mono hB12.size)⟩
    · have hcl : ¬ cc < 0 := fun h => hab (HC.out.1 h)
      go_wp2_with fail
      refine (alive_any _ hT10).mono ?_
      rintro e w11 ⟨rfl, hb11⟩
      obtain ⟨l1, c0, c1, c2, c3, c4, c5⟩ := HX10.out.below hb11
      have HX11 := Lib.hid (HX10.out.below hb11)
      have HZ11 := Lib.hid (HZ10.out.below hb11)
      have hB11 := hB10.trans (hb11.mono hB10.size)
      have hT11 := hT.below hB11
      clear hb11
      go_wp2_with fail
      refine (print_any _ _ _ _ _ _ _ hT11 (by show x3.length ≤ 1000000; omega) (by omega) (by omega)).mono ?_
      rintro e w12 ⟨rfl, hb12⟩
      rw [show printN (ByteArray.mk x3.toArray).data.toList x4 x5 = printN x3 x4 x5 from rfl, T1.out]
      clear l1 c0 c1 c2 c3 c4 c5
      have HX12 := Lib.hid (HX11.out.below hb12)
      have HZ12 := Lib.hid (HZ11.out.below hb12)
      have hB12 := hB11.trans (hb12.mono hB11.size)
      clear hb12
      obtain ⟨l1, c0, c1, c2, c3, c4, c5⟩ := HX12.out
      obtain ⟨l2, g0, g1, g2, g3, g4, g5⟩ := HZ12.out
      go_wp2_with fail
      refine (right_any _ _ _ _ _ _ _ (by show x3.length ≤ maxLen; unfold maxLen; omega)).mono ?_
      rintro e w13 ⟨rfl, hb13⟩
      rw [show right ⟨x0, x1, (ByteArray.mk x2.toArray).data.toList, (ByteArray.mk x3.toArray).data.toList, x4, x5⟩ = true from R1.out]
      clear l1 c0 c1 c2 c3 c4 c5 l2 g0 g1 g2 g3 g4 g5
      go_wp2_with fail
      go_ret
      exact ⟨ret_bool (by simp), hB12.trans (hb13.mono hB12.size)⟩

end Go.Proofs.YtfmoigbiohbocaaDoor
