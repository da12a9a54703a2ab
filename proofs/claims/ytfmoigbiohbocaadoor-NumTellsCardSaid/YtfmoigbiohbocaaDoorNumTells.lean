/-
  The walk of the statement NumTells: it returns true.
-/
import Derived.Test.YtfmoigbiohbocaaDoorNumEq
import Derived.Test.YtfmoigbiohbocaaDoorNumW15
import Derived.Test.YtfmoigbiohbocaaDoorNumW17
import Derived.Deep.RegionHeld3
namespace Go.Proofs.YtfmoigbiohbocaaDoor
open Go.RowKit Np

/-- What the last line's operations rest on. -/
def Tl (k m : Int) (nm s : ByteArray) (g : Bool) (x : Int) (k2 m2 : Int) (nm2 s2 : ByteArray) (g2 : Bool) (x2 : Int) (w : World) (w' : World) : Prop := w'.cell? ⟨w.heap.size, 0, none⟩ = some (.int .i64 k) ∧ w'.cell? ⟨w.heap.size, 1, none⟩ = some (.int .i64 m) ∧ w'.cell? ⟨w.heap.size, 2, none⟩ = some (.string nm) ∧ w'.cell? ⟨w.heap.size, 3, none⟩ = some (.string s) ∧ w'.cell? ⟨w.heap.size, 4, none⟩ = some (.bool g) ∧ w'.cell? ⟨w.heap.size, 5, none⟩ = some (.int .i64 x) ∧ w'.cell? ⟨w.heap.size + 1, 0, none⟩ = some (.int .i64 k2) ∧ w'.cell? ⟨w.heap.size + 1, 1, none⟩ = some (.int .i64 m2) ∧ w'.cell? ⟨w.heap.size + 1, 2, none⟩ = some (.string nm2) ∧ w'.cell? ⟨w.heap.size + 1, 3, none⟩ = some (.string s2) ∧ w'.cell? ⟨w.heap.size + 1, 4, none⟩ = some (.bool g2) ∧ w'.cell? ⟨w.heap.size + 1, 5, none⟩ = some (.int .i64 x2) ∧ PowTab w' ∧ Below w.heap.size w w' ∧ w.heap.size < w'.heap.size ∧ w.heap.size + 1 < w'.heap.size
theorem Tl.step {k m : Int} {nm s : ByteArray} {g : Bool} {x : Int} {k2 m2 : Int} {nm2 s2 : ByteArray} {g2 : Bool} {x2 : Int} {w : World} {W W' : World} (h : Tl k m nm s g x k2 m2 nm2 s2 g2 x2 w W) (hb : Below W.heap.size W W') : Tl k m nm s g x k2 m2 nm2 s2 g2 x2 w W' := by
  obtain ⟨h0, h1, h2, h3, h4, h5, h6, h7, h8, h9, h10, h11, ht, hl, u1, u2⟩ := h
  exact ⟨(hb.cell (p := ⟨w.heap.size, 0, none⟩) u1).trans h0, (hb.cell (p := ⟨w.heap.size, 1, none⟩) u1).trans h1, (hb.cell (p := ⟨w.heap.size, 2, none⟩) u1).trans h2, (hb.cell (p := ⟨w.heap.size, 3, none⟩) u1).trans h3, (hb.cell (p := ⟨w.heap.size, 4, none⟩) u1).trans h4, (hb.cell (p := ⟨w.heap.size, 5, none⟩) u1).trans h5, (hb.cell (p := ⟨w.heap.size + 1, 0, none⟩) u2).trans h6, (hb.cell (p := ⟨w.heap.size + 1, 1, none⟩) u2).trans h7, (hb.cell (p := ⟨w.heap.size + 1, 2, none⟩) u2).trans h8, (hb.cell (p := ⟨w.heap.size + 1, 3, none⟩) u2).trans h9, (hb.cell (p := ⟨w.heap.size + 1, 4, none⟩) u2).trans h10, (hb.cell (p := ⟨w.heap.size + 1, 5, none⟩) u2).trans h11, ht.below hb, hl.trans (hb.mono hl.size), Nat.lt_of_lt_of_le u1 hb.size, Nat.lt_of_lt_of_le u2 hb.size⟩
theorem Tl.pow {k m : Int} {nm s : ByteArray} {g : Bool} {x : Int} {k2 m2 : Int} {nm2 s2 : ByteArray} {g2 : Bool} {x2 : Int} {w : World} {W : World} (h : Tl k m nm s g x k2 m2 nm2 s2 g2 x2 w W) : PowTab W := by
  obtain ⟨_, _, _, _, _, _, _, _, _, _, _, _, ht, _⟩ := h
  exact ht
theorem Tl.low {k m : Int} {nm s : ByteArray} {g : Bool} {x : Int} {k2 m2 : Int} {nm2 s2 : ByteArray} {g2 : Bool} {x2 : Int} {w : World} {W : World} (h : Tl k m nm s g x k2 m2 nm2 s2 g2 x2 w W) : Below w.heap.size w W := by
  obtain ⟨_, _, _, _, _, _, _, _, _, _, _, _, _, hl, _⟩ := h
  exact hl
theorem Tl.start (k m : Int) (nm s : ByteArray) (g : Bool) (x : Int) (k2 m2 : Int) (nm2 s2 : ByteArray) (g2 : Bool) (x2 : Int) (w : World) (hT : PowTab w) : Tl k m nm s g x k2 m2 nm2 s2 g2 x2 w ((w.alloc (.cells #[.int .i64 k, .int .i64 m, .string nm, .string s, .bool g, .int .i64 x] 23)).alloc (.cells #[.int .i64 k2, .int .i64 m2, .string nm2, .string s2, .bool g2, .int .i64 x2] 23)) := by
  have hl := ((Below.refl w.heap.size w).alloc (Nat.le_refl _) (.cells #[.int .i64 k, .int .i64 m, .string nm, .string s, .bool g, .int .i64 x] 23)).alloc (by simp) (.cells #[.int .i64 k2, .int .i64 m2, .string nm2, .string s2, .bool g2, .int .i64 x2] 23)
  refine ⟨?_, ?_, ?_, ?_, ?_, ?_, ?_, ?_, ?_, ?_, ?_, ?_, hT.below hl, hl, by simp; omega, by simp⟩ <;> simp [go_sem]

set_option maxRecDepth 100000 in
set_option maxHeartbeats 4000000 in
theorem numTells_any (k m : Int) (nm s : ByteArray) (g : Bool) (x : Int) (k2 m2 : Int) (nm2 s2 : ByteArray) (g2 : Bool) (x2 : Int) (w : World) (hT : PowTab w) (hs : s.size ≤ maxLen) (hs2 : s2.size ≤ maxLen) :
    Calls Tryd.prog 5 #[.agg #[.int .i64 k, .int .i64 m, .string nm, .string s, .bool g, .int .i64 x], .agg #[.int .i64 k2, .int .i64 m2, .string nm2, .string s2, .bool g2, .int .i64 x2]] w
      fun e w' => e = .returned (.bool true) ∧ Below w.heap.size w w' := by
  have H0 := Lib.hid (Tl.start k m nm s g x k2 m2 nm2 s2 g2 x2 w hT)
  go_enter Tryd.func5, Tryd.ntmps5
  go_wp2_with fail
  refine (refRight_any _ _ _ _ _ _ _ hs).mono ?_
  rintro e w1 ⟨rfl, hb1⟩
  have H1 := Lib.hid (H0.out.step hb1)
  clear hb1 H0
  obtain ⟨a0, a1, a2, a3, a4, a5, b0, b1, b2, b3, b4, b5, -, -, l1, l2⟩ := H1.out
  cases hr1 : right ⟨k, m, nm.data.toList, s.data.toList, g, x⟩
  · clear hr1
    go_wp2_with fail
    refine (alive_any _ H1.out.pow).mono ?_
    rintro e w2 ⟨rfl, hb2⟩
    have H2 := Lib.hid (H1.out.step hb2)
    clear l1 a0 a1 a2 a3 a4 a5 l2 b0 b1 b2 b3 b4 b5
    go_wp2_with fail
    go_ret
    exact ⟨rfl, H2.out.low⟩
  have R1 := Lib.hid hr1
  clear hr1
  go_wp2_with fail
  refine (refRight_any _ _ _ _ _ _ _ hs2).mono ?_
  rintro e w2 ⟨rfl, hb2⟩
  have H2 := Lib.hid (H1.out.step hb2)
  clear l1 a0 a1 a2 a3 a4 a5 l2 b0 b1 b2 b3 b4 b5 hb2 H1
  obtain ⟨a0, a1, a2, a3, a4, a5, b0, b1, b2, b3, b4, b5, -, -, l1, l2⟩ := H2.out
  cases hr2 : right ⟨k2, m2, nm2.data.toList, s2.data.toList, g2, x2⟩
  · clear hr2
    go_wp2_with fail
    refine (alive_any _ H2.out.pow).mono ?_
    rintro e w3 ⟨rfl, hb3⟩
    have H3 := Lib.hid (H2.out.step hb3)
    clear l1 a0 a1 a2 a3 a4 a5 l2 b0 b1 b2 b3 b4 b5
    go_wp2_with fail
    go_ret
    exact ⟨rfl, H3.out.low⟩
  have R2 := Lib.hid hr2
  clear hr2
  obtain ⟨p1, p2, p3⟩ := right_bounds R1.out
  obtain ⟨q1, q2, q3⟩ := right_bounds R2.out
  simp only at p1 p2 p3 q1 q2 q3
  rw [size_toList] at p1 q1
  go_upto_region 3 with fail
  have hStart : Tl k m nm s g x k2 m2 nm2 s2 g2 x2 w w2 := H2.out
  clear H2 a0 a1 a2 a3 a4 a5 b0 b1 b2 b3 b4 b5
  go_cut [4] (fun s4 wx => s4 = .bool true ∧ Below w.heap.size w wx)
  case first =>
    go_region_held3 (fun w' => w'.cell? ⟨w.heap.size, 0, none⟩ = some (.int .i64 k) ∧ w'.cell? ⟨w.heap.size, 1, none⟩ = some (.int .i64 m) ∧ w'.cell? ⟨w.heap.size, 2, none⟩ = some (.string nm) ∧ w'.cell? ⟨w.heap.size, 3, none⟩ = some (.string s) ∧ w'.cell? ⟨w.heap.size, 4, none⟩ = some (.bool g) ∧ w'.cell? ⟨w.heap.size, 5, none⟩ = some (.int .i64 x) ∧ w'.cell? ⟨w.heap.size + 1, 0, none⟩ = some (.int .i64 k2) ∧ w'.cell? ⟨w.heap.size + 1, 1, none⟩ = some (.int .i64 m2) ∧ w'.cell? ⟨w.heap.size + 1, 2, none⟩ = some (.string nm2) ∧ w'.cell? ⟨w.heap.size + 1, 3, none⟩ = some (.string s2) ∧ w'.cell? ⟨w.heap.size + 1, 4, none⟩ = some (.bool g2) ∧ w'.cell? ⟨w.heap.size + 1, 5, none⟩ = some (.int .i64 x2) ∧ PowTab w' ∧ Below w.heap.size w w' ∧ w.heap.size < w'.heap.size ∧ w.heap.size + 1 < w'.heap.size) (first | exact Tl.step (by assumption : Tl k m nm s g x k2 m2 nm2 s2 g2 x2 w _) hb3 | exact Tl.step hStart (Below.refl _ _).drew | go_keep)
      (first
        | (go_at_call 10; refine (alive_any _ (by assumption : Tl k m nm s g x k2 m2 nm2 s2 g2 x2 w _).pow).mono ?_; rintro e3 w3 ⟨rfl, hb3⟩)
        | (go_at_call 17; refine (print_any _ _ _ _ _ _ _ (by assumption : Tl k m nm s g x k2 m2 nm2 s2 g2 x2 w _).pow (by omega) (by omega) (by omega)).mono ?_; rintro e3 w3 ⟨rfl, hb3⟩)
        | (go_at_call 18; refine (refPrint_any _ _ _ _ _ _ _ R1.out).mono ?_; rintro e3 w3 ⟨rfl, hb3⟩)
        | (go_at_call 19; refine (cmp_any _ _ _ _ _ _ _ _ _ _ _ _ _ (by omega) (by omega) (by omega) (by omega) (by omega) (by omega)).mono ?_; rintro e3 w3 ⟨rfl, hb3⟩)
        | (go_at_call 20; refine (refCmp_any _ _ _ _ _ _ _ _ _ _ _ _ _ R1.out R2.out).mono ?_; rintro e3 w3 ⟨rfl, hb3⟩))
    go_wp2_with fail
    go_meet
    refine ⟨by simp, ?_⟩
    exact Tl.low (show Tl k m nm s g x k2 m2 nm2 s2 g2 x2 w _ from by assumption)
  case rest =>
    obtain ⟨rfl, hBx⟩ := hcut
    go_wp2_with fail
    go_ret
    exact ⟨rfl, hBx⟩

end Go.Proofs.YtfmoigbiohbocaaDoor
