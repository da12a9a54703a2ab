/-
  The walk of the statement NumReads: it returns true.
-/
import Derived.Test.YtfmoigbiohbocaaDoorNumEq
import Derived.Test.YtfmoigbiohbocaaDoorNumW13
namespace Go.Proofs.YtfmoigbiohbocaaDoor
open Go.RowKit Np

theorem Nd_same (n : Nd) : sameNode n.kind n.many ⟨n.name.toArray⟩ ⟨n.s.toArray⟩ n.neg n.e n.kind n.many ⟨n.name.toArray⟩ ⟨n.s.toArray⟩ n.neg n.e = true := by simp [sameNode]

set_option maxRecDepth 100000 in
set_option maxHeartbeats 4000000 in
theorem numReads_any (s : ByteArray) (w : World) (hT : PowTab w) (hs : s.size ≤ maxLen) :
    Calls Tryd.prog 4 #[.string s] w fun e w' => e = .returned (.bool true) ∧ Below w.heap.size w w' := by
  have hB : Below w.heap.size w w := Below.refl _ _
  unfold maxLen at hs
  by_cases hl : s.size ≤ 300
  · go_enter Tryd.func4, Tryd.ntmps4
    go_wp2_with fail
    refine (read_any s _ (by omega)).mono ?_
    rintro e w1 ⟨rfl, hb1⟩
    have hT1 := hT.below hb1
    generalize hr : readF s.data.toList = r
    have HR := Lib.hid hr; clear hr
    obtain ⟨⟨a0, a1, a2, a3, a4, a5⟩, i, c⟩ := r
    simp only [ndv]
    go_wp2_with fail
    refine (refRead_any s _ (by omega)).mono ?_
    rintro e w2 ⟨rfl, hb2⟩
    rw [HR.out]
    simp only [ndv]
    have HX := Lib.hid ((At6.new w1 (.int .i64 a0) (.int .i64 a1) (.string ⟨a2.toArray⟩) (.string ⟨a3.toArray⟩) (.bool a4) (.int .i64 a5) 23).below hb2)
    have hB1 := hb1.alloc hb1.size (.cells #[.int .i64 a0, .int .i64 a1, .string ⟨a2.toArray⟩, .string ⟨a3.toArray⟩, .bool a4, .int .i64 a5] 23)
    have hB2 := hB1.trans (hb2.mono hB1.size)
    have hB3 := hB2.alloc hB2.size (.cells #[.int .i64 a0, .int .i64 a1, .string ⟨a2.toArray⟩, .string ⟨a3.toArray⟩, .bool a4, .int .i64 a5] 23)
    have hT3 := hT.below hB3
    have HX3 := Lib.hid (HX.out.alloc (.cells #[.int .i64 a0, .int .i64 a1, .string ⟨a2.toArray⟩, .string ⟨a3.toArray⟩, .bool a4, .int .i64 a5] 23))
    have HY3 := Lib.hid (At6.new w2 (.int .i64 a0) (.int .i64 a1) (.string ⟨a2.toArray⟩) (.string ⟨a3.toArray⟩) (.bool a4) (.int .i64 a5) 23)
    clear hb1 hb2 hT1 hB1 hB2 HX
    have hE := fun w => eql_node a0 a1 ⟨a2.toArray⟩ ⟨a3.toArray⟩ a4 a5 a0 a1 ⟨a2.toArray⟩ ⟨a3.toArray⟩ a4 a5 w
    rw [Nd_same ⟨a0, a1, a2, a3, a4, a5⟩] at hE
    go_wp2_with fail
    refine (alive_any _ hT3).mono ?_
    rintro e w4 ⟨rfl, hb4⟩
    obtain ⟨l1, x0, x1, x2, x3, x4, x5⟩ := HX3.out.below hb4
    obtain ⟨l2, y0, y1, y2, y3, y4, y5⟩ := HY3.out.below hb4
    have hB4 := hB3.trans (hb4.mono hB3.size)
    clear hb4 hB3 hT3 HX3 HY3
    go_wp2_with fail
    go_ret
    exact ⟨ret_bool (by simp), hB4⟩
  · go_enter Tryd.func4, Tryd.ntmps4
    go_wp2_with fail
    refine (alive_any _ hT).mono ?_
    rintro e w1 ⟨rfl, hb1⟩
    go_wp2_with fail
    go_ret
    exact ⟨rfl, hb1⟩

end Go.Proofs.YtfmoigbiohbocaaDoor
