/-
  The walk of the statement NumMakes: it returns true.
-/
import Derived.Test.YtfmoigbiohbocaaDoorNumEq
import Derived.Test.YtfmoigbiohbocaaDoorNumW10
import Derived.Deep.RegionHeld3
namespace Go.Proofs.YtfmoigbiohbocaaDoor
open Go.RowKit Np

theorem Nd_eq (n : Nd) : sameNode n.kind n.many ⟨n.name.toArray⟩ ⟨n.s.toArray⟩ n.neg n.e n.kind n.many ⟨n.name.toArray⟩ ⟨n.s.toArray⟩ n.neg n.e = true := by simp [sameNode]

/-- What the last line's operations rest on. -/
def Mk3 (k m : Int) (nm s : ByteArray) (g : Bool) (x : Int) (a0 a1 : Int) (a2 a3 : List UInt8) (a4 : Bool) (a5 : Int) (w : World) (q r : Nat) (w' : World) : Prop := w'.cell? ⟨w.heap.size, 0, none⟩ = some (.int .i64 k) ∧ w'.cell? ⟨w.heap.size, 1, none⟩ = some (.int .i64 m) ∧ w'.cell? ⟨w.heap.size, 2, none⟩ = some (.string nm) ∧ w'.cell? ⟨w.heap.size, 3, none⟩ = some (.string s) ∧ w'.cell? ⟨w.heap.size, 4, none⟩ = some (.bool g) ∧ w'.cell? ⟨w.heap.size, 5, none⟩ = some (.int .i64 x) ∧ w'.cell? ⟨q, 0, none⟩ = some (.int .i64 a0) ∧ w'.cell? ⟨q, 1, none⟩ = some (.int .i64 a1) ∧ w'.cell? ⟨q, 2, none⟩ = some (.string ⟨a2.toArray⟩) ∧ w'.cell? ⟨q, 3, none⟩ = some (.string ⟨a3.toArray⟩) ∧ w'.cell? ⟨q, 4, none⟩ = some (.bool a4) ∧ w'.cell? ⟨q, 5, none⟩ = some (.int .i64 a5) ∧ w'.cell? ⟨r, 0, none⟩ = some (.int .i64 a0) ∧ w'.cell? ⟨r, 1, none⟩ = some (.int .i64 a1) ∧ w'.cell? ⟨r, 2, none⟩ = some (.string ⟨a2.toArray⟩) ∧ w'.cell? ⟨r, 3, none⟩ = some (.string ⟨a3.toArray⟩) ∧ w'.cell? ⟨r, 4, none⟩ = some (.bool a4) ∧ w'.cell? ⟨r, 5, none⟩ = some (.int .i64 a5) ∧ PowTab w' ∧ Below w.heap.size w w' ∧ w.heap.size < w'.heap.size ∧ q < w'.heap.size ∧ r < w'.heap.size
theorem Mk3.step {k m : Int} {nm s : ByteArray} {g : Bool} {x : Int} {a0 a1 : Int} {a2 a3 : List UInt8} {a4 : Bool} {a5 : Int} {w : World} {q r : Nat} {W W' : World} (h : Mk3 k m nm s g x a0 a1 a2 a3 a4 a5 w q r W) (hb : Below W.heap.size W W') : Mk3 k m nm s g x a0 a1 a2 a3 a4 a5 w q r W' := by
  obtain ⟨h0, h1, h2, h3, h4, h5, h6, h7, h8, h9, h10, h11, h12, h13, h14, h15, h16, h17, ht, hl, u1, u2, u3⟩ := h
  exact ⟨(hb.cell (p := ⟨w.heap.size, 0, none⟩) u1).trans h0, (hb.cell (p := ⟨w.heap.size, 1, none⟩) u1).trans h1, (hb.cell (p := ⟨w.heap.size, 2, none⟩) u1).trans h2, (hb.cell (p := ⟨w.heap.size, 3, none⟩) u1).trans h3, (hb.cell (p := ⟨w.heap.size, 4, none⟩) u1).trans h4, (hb.cell (p := ⟨w.heap.size, 5, none⟩) u1).trans h5, (hb.cell (p := ⟨q, 0, none⟩) u2).trans h6, (hb.cell (p := ⟨q, 1, none⟩) u2).trans h7, (hb.cell (p := ⟨q, 2, none⟩) u2).trans h8, (hb.cell (p := ⟨q, 3, none⟩) u2).trans h9, (hb.cell (p := ⟨q, 4, none⟩) u2).trans h10, (hb.cell (p := ⟨q, 5, none⟩) u2).trans h11, (hb.cell (p := ⟨r, 0, none⟩) u3).trans h12, (hb.cell (p := ⟨r, 1, none⟩) u3).trans h13, (hb.cell (p := ⟨r, 2, none⟩) u3).trans h14, (hb.cell (p := ⟨r, 3, none⟩) u3).trans h15, (hb.cell (p := ⟨r, 4, none⟩) u3).trans h16, (hb.cell (p := ⟨r, 5, none⟩) u3).trans h17, ht.below hb, hl.trans (hb.mono hl.size), Nat.lt_of_lt_of_le u1 hb.size, Nat.lt_of_lt_of_le u2 hb.size, Nat.lt_of_lt_of_le u3 hb.size⟩

theorem Mk3.pow {k m : Int} {nm s : ByteArray} {g : Bool} {x : Int} {a0 a1 : Int} {a2 a3 : List UInt8} {a4 : Bool} {a5 : Int} {w : World} {q r : Nat} {W : World} (h : Mk3 k m nm s g x a0 a1 a2 a3 a4 a5 w q r W) : PowTab W := by
  obtain ⟨_, _, _, _, _, _, _, _, _, _, _, _, _, _, _, _, _, _, ht, _⟩ := h
  exact ht
theorem Mk3.low {k m : Int} {nm s : ByteArray} {g : Bool} {x : Int} {a0 a1 : Int} {a2 a3 : List UInt8} {a4 : Bool} {a5 : Int} {w : World} {q r : Nat} {W : World} (h : Mk3 k m nm s g x a0 a1 a2 a3 a4 a5 w q r W) : Below w.heap.size w W := by
  obtain ⟨_, _, _, _, _, _, _, _, _, _, _, _, _, _, _, _, _, _, _, hl, _⟩ := h
  exact hl

set_option maxRecDepth 100000 in
set_option maxHeartbeats 4000000 in
theorem numMakes_any (k m : Int) (nm s : ByteArray) (g : Bool) (x : Int) (f : ByteArray) (e : Int) (w : World) (hT : PowTab w) (hs : s.size ≤ maxLen) (hf : f.size ≤ maxLen) (h0 : -9223372036854775808 ≤ e) (h1 : e ≤ 9223372036854775807) :
    Calls Tryd.prog 3 #[.agg #[.int .i64 k, .int .i64 m, .string nm, .string s, .bool g, .int .i64 x], .string f, .int .i64 e] w
      fun e w' => e = .returned (.bool true) ∧ Below w.heap.size w w' := by
  have hB : Below w.heap.size w w := Below.refl _ _
  unfold maxLen at hs hf
  have HN0 := Lib.hid (At6.new w (.int .i64 k) (.int .i64 m) (.string nm) (.string s) (.bool g) (.int .i64 x) 23)
  have hB1 := hB.alloc (Nat.le_refl _) (.cells #[.int .i64 k, .int .i64 m, .string nm, .string s, .bool g, .int .i64 x] 23)
  have hT1 := hT.below hB1
  by_cases hl : s.size ≤ 300 ∧ f.size ≤ 300
  · obtain ⟨hl1, hl2⟩ := hl
    have hs' : s.size ≤ maxLen := by unfold maxLen; omega
    have hf' : f.size ≤ maxLen := by unfold maxLen; omega
    go_enter Tryd.func3, Tryd.ntmps3
    go_wp2_with fail
    refine (make_any g f e _ hf').mono ?_
    rintro x1 w1 ⟨rfl, hb1⟩
    have HN1 := Lib.hid (HN0.out.below hb1)
    have hB2 := hB1.trans (hb1.mono hB1.size)
    have hT2 := hT1.below hb1
    clear hb1 HN0 hB1 hT1
    generalize hmk : mk g f.data.toList e = r
    have HK := Lib.hid hmk; clear hmk
    obtain ⟨⟨a0, a1, a2, a3, a4, a5⟩, c⟩ := r
    simp only [ndv]
    obtain ⟨l1, n0, n1, n2, n3, n4, n5⟩ := HN1.out
    go_wp2_with fail
    refine (refMake_any g f e _ (by omega) h0 h1).mono ?_
    rintro x1 w2 ⟨rfl, hb2⟩
    rw [HK.out]
    simp only [ndv]
    have HX := Lib.hid ((At6.new w1 (.int .i64 a0) (.int .i64 a1) (.string ⟨a2.toArray⟩) (.string ⟨a3.toArray⟩) (.bool a4) (.int .i64 a5) 23).below hb2)
    have HN2 := Lib.hid ((HN1.out.alloc _).below hb2)
    clear l1 n0 n1 n2 n3 n4 n5
    have hB3 := (hB2.alloc hB2.size (.cells #[.int .i64 a0, .int .i64 a1, .string ⟨a2.toArray⟩, .string ⟨a3.toArray⟩, .bool a4, .int .i64 a5] 23))
    have hT3 := (hT2.below ((Below.refl _ _).alloc (Nat.le_refl _) (.cells #[.int .i64 a0, .int .i64 a1, .string ⟨a2.toArray⟩, .string ⟨a3.toArray⟩, .bool a4, .int .i64 a5] 23))).below hb2
    have hB4 := hB3.trans (hb2.mono hB3.size)
    clear hb2 hB2 hB3 hT2 HN1
    have HY := Lib.hid (At6.new w2 (.int .i64 a0) (.int .i64 a1) (.string ⟨a2.toArray⟩) (.string ⟨a3.toArray⟩) (.bool a4) (.int .i64 a5) 23)
    have HX4 := Lib.hid (HX.out.alloc (.cells #[.int .i64 a0, .int .i64 a1, .string ⟨a2.toArray⟩, .string ⟨a3.toArray⟩, .bool a4, .int .i64 a5] 23))
    have HN4 := Lib.hid (HN2.out.alloc (.cells #[.int .i64 a0, .int .i64 a1, .string ⟨a2.toArray⟩, .string ⟨a3.toArray⟩, .bool a4, .int .i64 a5] 23))
    have hT5 := hT3.below ((Below.refl _ _).alloc (Nat.le_refl _) (.cells #[.int .i64 a0, .int .i64 a1, .string ⟨a2.toArray⟩, .string ⟨a3.toArray⟩, .bool a4, .int .i64 a5] 23))
    have hB5 := hB4.alloc hB4.size (.cells #[.int .i64 a0, .int .i64 a1, .string ⟨a2.toArray⟩, .string ⟨a3.toArray⟩, .bool a4, .int .i64 a5] 23)
    clear HX HN2 hT3 hB4
    have hE := fun w => eql_node a0 a1 ⟨a2.toArray⟩ ⟨a3.toArray⟩ a4 a5 a0 a1 ⟨a2.toArray⟩ ⟨a3.toArray⟩ a4 a5 w
    rw [Nd_eq ⟨a0, a1, a2, a3, a4, a5⟩] at hE
    go_upto_region 5 with fail
    generalize w1.heap.size = q at *
    generalize hr : w2.heap.size = r at *
    clear hr
    generalize w2.alloc (.cells #[.int .i64 a0, .int .i64 a1, .string ⟨a2.toArray⟩, .string ⟨a3.toArray⟩, .bool a4, .int .i64 a5] 23) = W at *
    obtain ⟨l1, n0, n1, n2, n3, n4, n5⟩ := HN4.out
    obtain ⟨l2, x0, x1, x2, x3, x4, x5⟩ := HX4.out
    obtain ⟨l3, y0, y1, y2, y3, y4, y5⟩ := HY.out
    have hStart : Mk3 k m nm s g x a0 a1 a2 a3 a4 a5 w q r W := ⟨n0, n1, n2, n3, n4, n5, x0, x1, x2, x3, x4, x5, y0, y1, y2, y3, y4, y5, hT5, hB5, l1, l2, l3⟩
    clear HN4 HX4 HY n0 n1 n2 n3 n4 n5 x0 x1 x2 x3 x4 x5 y0 y1 y2 y3 y4 y5
    go_cut [6] (fun s6 wx => s6 = .bool true ∧ Below w.heap.size w wx)
    case first =>
      go_region_held3 (fun w' => w'.cell? ⟨w.heap.size, 0, none⟩ = some (.int .i64 k) ∧ w'.cell? ⟨w.heap.size, 1, none⟩ = some (.int .i64 m) ∧ w'.cell? ⟨w.heap.size, 2, none⟩ = some (.string nm) ∧ w'.cell? ⟨w.heap.size, 3, none⟩ = some (.string s) ∧ w'.cell? ⟨w.heap.size, 4, none⟩ = some (.bool g) ∧ w'.cell? ⟨w.heap.size, 5, none⟩ = some (.int .i64 x) ∧ w'.cell? ⟨q, 0, none⟩ = some (.int .i64 a0) ∧ w'.cell? ⟨q, 1, none⟩ = some (.int .i64 a1) ∧ w'.cell? ⟨q, 2, none⟩ = some (.string ⟨a2.toArray⟩) ∧ w'.cell? ⟨q, 3, none⟩ = some (.string ⟨a3.toArray⟩) ∧ w'.cell? ⟨q, 4, none⟩ = some (.bool a4) ∧ w'.cell? ⟨q, 5, none⟩ = some (.int .i64 a5) ∧ w'.cell? ⟨r, 0, none⟩ = some (.int .i64 a0) ∧ w'.cell? ⟨r, 1, none⟩ = some (.int .i64 a1) ∧ w'.cell? ⟨r, 2, none⟩ = some (.string ⟨a2.toArray⟩) ∧ w'.cell? ⟨r, 3, none⟩ = some (.string ⟨a3.toArray⟩) ∧ w'.cell? ⟨r, 4, none⟩ = some (.bool a4) ∧ w'.cell? ⟨r, 5, none⟩ = some (.int .i64 a5) ∧ PowTab w' ∧ Below w.heap.size w w' ∧ w.heap.size < w'.heap.size ∧ q < w'.heap.size ∧ r < w'.heap.size) (first | exact Mk3.step (by assumption : Mk3 k m nm s g x a0 a1 a2 a3 a4 a5 w q r _) hb3 | exact Mk3.step hStart (Below.refl _ _).drew | go_keep)
        (first
          | (go_at_call 10; refine (alive_any _ (by assumption : Mk3 k m nm s g x a0 a1 a2 a3 a4 a5 w q r _).pow).mono ?_; rintro e3 w3 ⟨rfl, hb3⟩)
          | (go_at_call 13; refine (right_any _ _ _ _ _ _ _ hs').mono ?_; rintro e3 w3 ⟨rfl, hb3⟩)
          | (go_at_call 14; refine (refRight_any _ _ _ _ _ _ _ hs').mono ?_; rintro e3 w3 ⟨rfl, hb3⟩))
      go_wp2_with fail
      go_meet
      refine ⟨by simp, ?_⟩
      exact Mk3.low (show Mk3 k m nm s g x a0 a1 a2 a3 a4 a5 w q r _ from by assumption)
    case rest =>
      obtain ⟨rfl, hBx⟩ := hcut
      go_wp2_with fail
      go_ret
      exact ⟨rfl, hBx⟩
  · by_cases hl3 : 300 < s.size
    · clear hl
      go_enter Tryd.func3, Tryd.ntmps3
      go_wp2_with fail
      refine (alive_any _ hT1).mono ?_
      rintro e1 w1 ⟨rfl, hb1⟩
      go_wp2_with fail
      go_ret
      exact ⟨rfl, hB1.trans (hb1.mono hB1.size)⟩
    · have hl4 : 300 < f.size := by omega
      clear hl
      go_enter Tryd.func3, Tryd.ntmps3
      go_wp2_with fail
      refine (alive_any _ hT1).mono ?_
      rintro e1 w1 ⟨rfl, hb1⟩
      go_wp2_with fail
      go_ret
      exact ⟨rfl, hB1.trans (hb1.mono hB1.size)⟩

end Go.Proofs.YtfmoigbiohbocaaDoor
