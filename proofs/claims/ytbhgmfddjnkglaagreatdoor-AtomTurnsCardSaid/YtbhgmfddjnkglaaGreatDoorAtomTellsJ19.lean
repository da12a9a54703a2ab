/-
  Joined: NumW15, VOpen.
-/
import Derived.Test.YtbhgmfddjnkglaaGreatDoorNumR
import Derived.Test.YtbhgmfddjnkglaaGreatDoorAtomTellsJ3
import Derived.Test.YtbhgmfddjnkglaaGreatDoorAtomTellsJ18
import Derived.Deep.RegionHeld3
import Derived.Deep.LoopGhost
import Derived.Deep.DeepCutAuto
import Derived.Test.YtbhgmfddjnkglaaGreatDoorAtomTellsJ8
import Derived.ProofKit
import Derived.LaidMore
import Derived.OpenShut
import Derived.Lay
import Derived.Carry
import Derived.SevenTiedAt
import Derived.Stop.Joined
import Derived.Deep.Slices
import Derived.Deep.Fields

/-
  What the document's own answer Cmp is: as num's.
-/
namespace Go.Proofs.YtbhgmfddjnkglaaGreatDoor
open Go.RowKit Np

set_option maxHeartbeats 1000000 in
theorem refAt_any (k m : Int) (nm s : ByteArray) (g : Bool) (x p : Int) (w : World) (hf : figs s.data.toList = true) (hs : s.size ≤ 1000) (hx : -2000 ≤ x) (hx' : x ≤ 2000) (hp : -4000 ≤ p) (hp' : p ≤ 4000) :
    Calls Tryz.prog 59 #[.agg #[.int .i64 k, .int .i64 m, .string nm, .string s, .bool g, .int .i64 x], .int .i64 p] w fun e w' => e = .returned (.int .i64 (digAt s.data.toList x p)) ∧ Below w.heap.size w w' := by
  have hB : Below w.heap.size w w := Below.refl _ _
  have HF := Lib.hid hf
  clear hf
  by_cases hi : (s.size : Int) - 1 - (p - x) < 0
  · have HV : Hid (digAt s.data.toList x p = 0) := Lib.hid (by unfold digAt; rw [size_toList, if_pos hi])
    go_enter Tryz.func59, Tryz.ntmps59
    go_wp2_with fail
    go_ret
    exact ⟨ret_i64 (by rw [HV.out]; rfl), hB.alloc (Nat.le_refl _) _⟩
  · obtain ⟨i, hii⟩ : ∃ i : Nat, (s.size : Int) - 1 - (p - x) = i := ⟨((s.size : Int) - 1 - (p - x)).toNat, by omega⟩
    have HI := Lib.hid hii
    by_cases hlt : i < s.size
    · have hfk := (fig_iff _).1 (figs_at HF.out (k := i) (by simpa using hlt))
      rw [get_toList s i hlt] at hfk
      have HV : Hid (digAt s.data.toList x p = s[i].toNat - 48) := Lib.hid (by
        unfold digAt
        rw [size_toList, if_neg hi, hii, Int.toNat_natCast, List.getD_eq_getElem?_getD, List.getElem?_eq_getElem (by simpa using hlt), get_toList s i hlt]
        rfl)
      obtain ⟨f1, f2⟩ := hfk
      clear hii hi
      go_enter Tryz.func59, Tryz.ntmps59
      go_upto_region 2 with fail
      rw [HI.out]
      go_wp2_with fail
      go_ret
      exact ⟨ret_i64 (by rw [HV.out]; omega), hB.alloc (Nat.le_refl _) _⟩
    · have HV : Hid (digAt s.data.toList x p = 0) := Lib.hid (by
        unfold digAt
        rw [size_toList, if_neg hi, hii, Int.toNat_natCast, List.getD_eq_getElem?_getD, List.getElem?_eq_none (by rw [size_toList]; omega)]
        rfl)
      clear hii hi
      go_enter Tryz.func59, Tryz.ntmps59
      go_upto_region 2 with fail
      rw [HI.out]
      go_wp2_with fail
      go_ret
      exact ⟨ret_i64 (by rw [HV.out]; rfl), hB.alloc (Nat.le_refl _) _⟩

/-- How the document's Cmp ends. -/
def CmpEnd (w : World) (c : Int) (e : Ending) (w' : World) : Prop := e = .returned (.int .i64 c) ∧ Below w.heap.size w w'
theorem cmpEnd_of {w w' : World} {c d : Int} (h : c = d) (hb : Below w.heap.size w w') : CmpEnd w c (.returned (.int .i64 d)) w' := ⟨by rw [h], hb⟩

/-- What a round of Cmp rests on. -/
def Two (k m : Int) (nm s : ByteArray) (g : Bool) (x : Int) (k2 m2 : Int) (nm2 s2 : ByteArray) (x2 : Int) (w : World) (w' : World) : Prop := w'.cell? ⟨w.heap.size, 0, none⟩ = some (.int .i64 k) ∧ w'.cell? ⟨w.heap.size, 1, none⟩ = some (.int .i64 m) ∧ w'.cell? ⟨w.heap.size, 2, none⟩ = some (.string nm) ∧ w'.cell? ⟨w.heap.size, 3, none⟩ = some (.string s) ∧ w'.cell? ⟨w.heap.size, 4, none⟩ = some (.bool g) ∧ w'.cell? ⟨w.heap.size, 5, none⟩ = some (.int .i64 x) ∧ w'.cell? ⟨w.heap.size + 1, 0, none⟩ = some (.int .i64 k2) ∧ w'.cell? ⟨w.heap.size + 1, 1, none⟩ = some (.int .i64 m2) ∧ w'.cell? ⟨w.heap.size + 1, 2, none⟩ = some (.string nm2) ∧ w'.cell? ⟨w.heap.size + 1, 3, none⟩ = some (.string s2) ∧ w'.cell? ⟨w.heap.size + 1, 4, none⟩ = some (.bool g) ∧ w'.cell? ⟨w.heap.size + 1, 5, none⟩ = some (.int .i64 x2) ∧ Below w.heap.size w w' ∧ w.heap.size < w'.heap.size ∧ w.heap.size + 1 < w'.heap.size
theorem Two.step {k m : Int} {nm s : ByteArray} {g : Bool} {x : Int} {k2 m2 : Int} {nm2 s2 : ByteArray} {x2 : Int} {w : World} {W W' : World} (h : Two k m nm s g x k2 m2 nm2 s2 x2 w W) (hb : Below W.heap.size W W') : Two k m nm s g x k2 m2 nm2 s2 x2 w W' := by
  obtain ⟨h0, h1, h2, h3, h4, h5, h6, h7, h8, h9, h10, h11, hl, u1, u2⟩ := h
  exact ⟨(hb.cell (p := ⟨w.heap.size, 0, none⟩) u1).trans h0, (hb.cell (p := ⟨w.heap.size, 1, none⟩) u1).trans h1, (hb.cell (p := ⟨w.heap.size, 2, none⟩) u1).trans h2, (hb.cell (p := ⟨w.heap.size, 3, none⟩) u1).trans h3, (hb.cell (p := ⟨w.heap.size, 4, none⟩) u1).trans h4, (hb.cell (p := ⟨w.heap.size, 5, none⟩) u1).trans h5, (hb.cell (p := ⟨w.heap.size + 1, 0, none⟩) u2).trans h6, (hb.cell (p := ⟨w.heap.size + 1, 1, none⟩) u2).trans h7, (hb.cell (p := ⟨w.heap.size + 1, 2, none⟩) u2).trans h8, (hb.cell (p := ⟨w.heap.size + 1, 3, none⟩) u2).trans h9, (hb.cell (p := ⟨w.heap.size + 1, 4, none⟩) u2).trans h10, (hb.cell (p := ⟨w.heap.size + 1, 5, none⟩) u2).trans h11, hl.trans (hb.mono hl.size), Nat.lt_of_lt_of_le u1 hb.size, Nat.lt_of_lt_of_le u2 hb.size⟩
theorem Two.low {k m : Int} {nm s : ByteArray} {g : Bool} {x : Int} {k2 m2 : Int} {nm2 s2 : ByteArray} {x2 : Int} {w : World} {W : World} (h : Two k m nm s g x k2 m2 nm2 s2 x2 w W) : Below w.heap.size w W := by
  obtain ⟨_, _, _, _, _, _, _, _, _, _, _, _, hl, _⟩ := h
  exact hl
theorem Two.start (k m : Int) (nm s : ByteArray) (g : Bool) (x : Int) (k2 m2 : Int) (nm2 s2 : ByteArray) (x2 : Int) (w : World) : Two k m nm s g x k2 m2 nm2 s2 x2 w ((w.alloc (.cells #[.int .i64 k, .int .i64 m, .string nm, .string s, .bool g, .int .i64 x] 24)).alloc (.cells #[.int .i64 k2, .int .i64 m2, .string nm2, .string s2, .bool g, .int .i64 x2] 24)) := by
  have hl := ((Below.refl w.heap.size w).alloc (Nat.le_refl _) (.cells #[.int .i64 k, .int .i64 m, .string nm, .string s, .bool g, .int .i64 x] 24)).alloc (by simp) (.cells #[.int .i64 k2, .int .i64 m2, .string nm2, .string s2, .bool g, .int .i64 x2] 24)
  refine ⟨?_, ?_, ?_, ?_, ?_, ?_, ?_, ?_, ?_, ?_, ?_, ?_, hl, by simp; omega, by simp⟩ <;> simp [go_sem]

set_option maxRecDepth 100000 in
set_option maxHeartbeats 4000000 in
theorem refCmp_any (k m : Int) (nm s : ByteArray) (g : Bool) (x : Int) (k2 m2 : Int) (nm2 s2 : ByteArray) (g2 : Bool) (x2 : Int) (w : World)
    (hr : right ⟨k, m, nm.data.toList, s.data.toList, g, x⟩ = true) (hr2 : right ⟨k2, m2, nm2.data.toList, s2.data.toList, g2, x2⟩ = true) :
    Calls Tryz.prog 35 #[.agg #[.int .i64 k, .int .i64 m, .string nm, .string s, .bool g, .int .i64 x], .agg #[.int .i64 k2, .int .i64 m2, .string nm2, .string s2, .bool g2, .int .i64 x2]] w
      (CmpEnd w (cmpN s.data.toList g x s2.data.toList g2 x2)) := by
  obtain ⟨p1, p2, p3⟩ := right_bounds hr
  obtain ⟨q1, q2, q3⟩ := right_bounds hr2
  simp only at p1 p2 p3 q1 q2 q3
  rw [size_toList] at p1 q1
  have hB : Below w.heap.size w w := Below.refl _ _
  have hB2 := (hB.alloc (Nat.le_refl _) (.cells #[.int .i64 k, .int .i64 m, .string nm, .string s, .bool g, .int .i64 x] 24)).alloc (by simp) (.cells #[.int .i64 k2, .int .i64 m2, .string nm2, .string s2, .bool g2, .int .i64 x2] 24)
  have HR := Lib.hid hr
  have HR2 := Lib.hid hr2
  clear hr hr2
  by_cases hg : g = g2
  · subst hg
    have hf1 : figs s.data.toList = true := by
      by_cases h : s.data.toList = []
      · rw [h]; rfl
      · exact (right_parts HR.out h).1
    have hf2 : figs s2.data.toList = true := by
      by_cases h : s2.data.toList = []
      · rw [h]; rfl
      · exact (right_parts HR2.out h).1
    have HF1 := Lib.hid hf1
    have HF2 := Lib.hid hf2
    clear hf1 hf2
    have HD : Hid (∀ p : Int, p ≤ max (s.size + x) (s2.size + x2) → (∀ q, p < q → q ≤ max (s.size + x) (s2.size + x2) → digAt s.data.toList x q = digAt s2.data.toList x2 q) → (digAt s.data.toList x p < digAt s2.data.toList x2 p → cmpN s.data.toList g x s2.data.toList g x2 = -(if g = true then -1 else 1)) ∧ (digAt s2.data.toList x2 p < digAt s.data.toList x p → cmpN s.data.toList g x s2.data.toList g x2 = if g = true then -1 else 1) ∧ (digAt s.data.toList x p = digAt s2.data.toList x2 p → p ≤ x → p ≤ x2 → cmpN s.data.toList g x s2.data.toList g x2 = 0)) :=
      Lib.hid (fun p h1 h2 => by
        have := cmp_dig HR.out HR2.out p (by rw [size_toList, size_toList]; exact h1) (by rw [size_toList, size_toList]; exact h2)
        exact this)
    generalize cmpN s.data.toList g x s2.data.toList g x2 = cc at *
    cases g
    · have HS := Lib.hid (Two.start k m nm s false x k2 m2 nm2 s2 x2 w)
      go_enter Tryz.func35, Tryz.ntmps35
      go_wp2_with fail
      go_loopg [7, 8, 9] ((max ((s.size : Int) + x) (s2.size + x2) + 3000).toNat) (fun n v _ _ wr => ∃ p : Int, v = .int .i64 p ∧ p ≤ max ((s.size : Int) + x) (s2.size + x2) ∧ min x x2 - 1 ≤ p ∧ n = (p + 3000).toNat ∧ Hid (∀ q, p < q → q ≤ max ((s.size : Int) + x) (s2.size + x2) → digAt s.data.toList x q = digAt s2.data.toList x2 q) ∧ Hid (Two k m nm s false x k2 m2 nm2 s2 x2 w wr))
      case atStart => exact ⟨_, rfl, Int.le_refl _, by omega, rfl, Lib.hid (fun q h1 h2 => by omega), HS⟩
      case round =>
        obtain ⟨p, rfl, hpt, hpm, rfl, HE, HW⟩ := hrel
        obtain ⟨n0, n1, n2, n3, n4, n5, o0, o1, o2, o3, o4, o5, hBw, u1, u2⟩ := HW.out
        by_cases hge : min x x2 ≤ p
        · have hdp : decide (min x x2 ≤ p) = true := by simpa using hge
          go_upto_region 10 with fail
          go_cut [8, 9] (fun s8 s9 wx => s8 = .int .i64 (digAt s.data.toList x p) ∧ s9 = .int .i64 (digAt s2.data.toList x2 p) ∧ Hid (Two k m nm s false x k2 m2 nm2 s2 x2 w wx))
          case first =>
            have hStart : Two k m nm s false x k2 m2 nm2 s2 x2 w wr := HW.out
            go_region_held3 (fun w' => w'.cell? ⟨w.heap.size, 0, none⟩ = some (.int .i64 k) ∧ w'.cell? ⟨w.heap.size, 1, none⟩ = some (.int .i64 m) ∧ w'.cell? ⟨w.heap.size, 2, none⟩ = some (.string nm) ∧ w'.cell? ⟨w.heap.size, 3, none⟩ = some (.string s) ∧ w'.cell? ⟨w.heap.size, 4, none⟩ = some (.bool false) ∧ w'.cell? ⟨w.heap.size, 5, none⟩ = some (.int .i64 x) ∧ w'.cell? ⟨w.heap.size + 1, 0, none⟩ = some (.int .i64 k2) ∧ w'.cell? ⟨w.heap.size + 1, 1, none⟩ = some (.int .i64 m2) ∧ w'.cell? ⟨w.heap.size + 1, 2, none⟩ = some (.string nm2) ∧ w'.cell? ⟨w.heap.size + 1, 3, none⟩ = some (.string s2) ∧ w'.cell? ⟨w.heap.size + 1, 4, none⟩ = some (.bool false) ∧ w'.cell? ⟨w.heap.size + 1, 5, none⟩ = some (.int .i64 x2) ∧ Below w.heap.size w w' ∧ w.heap.size < w'.heap.size ∧ w.heap.size + 1 < w'.heap.size) (first | exact Two.step (by assumption : Two k m nm s false x k2 m2 nm2 s2 x2 w _) hb3 | exact Two.step hStart (Below.refl _ _).drew | go_keep)
              (first
                | (go_at_call_of 59 (Value.agg #[.int .i64 k, .int .i64 m, .string nm, .string s, .bool false, .int .i64 x]); refine (refAt_any _ _ _ _ _ _ _ _ HF1.out (by omega) (by omega) (by omega) (by omega) (by omega)).mono ?_; rintro e3 w3 ⟨rfl, hb3⟩)
                | (go_at_call 59; refine (refAt_any _ _ _ _ _ _ _ _ HF2.out (by omega) (by omega) (by omega) (by omega) (by omega)).mono ?_; rintro e3 w3 ⟨rfl, hb3⟩))
            go_wp2_with fail
            go_meet
            exact ⟨rfl, rfl, Lib.hid (show Two k m nm s false x k2 m2 nm2 s2 x2 w _ from by assumption)⟩
          case rest =>
            obtain ⟨rfl, rfl, HW2⟩ := hcut
            obtain ⟨d1, d2, d3⟩ := HD.out p hpt HE.out
            have D1 := Lib.hid d1
            have D2 := Lib.hid d2
            clear d1 d2 d3 n0 n1 n2 n3 n4 n5 o0 o1 o2 o3 o4 o5
            rcases Nat.lt_trichotomy (digAt s.data.toList x p) (digAt s2.data.toList x2 p) with hd | hd | hd
            · have HV := Lib.hid (D1.out hd)
              generalize digAt s.data.toList x p = da at *
              generalize digAt s2.data.toList x2 p = db at *
              go_wp2_with fail
              go_ret
              exact cmpEnd_of HV.out HW2.out.low
            · have HE2 : Hid (∀ q, p - 1 < q → q ≤ max ((s.size : Int) + x) (s2.size + x2) → digAt s.data.toList x q = digAt s2.data.toList x2 q) := Lib.hid (fun q h1 h2 => by
                by_cases hq : q = p
                · rw [hq]; exact hd
                · exact HE.out q (by omega) h2)
              rw [hd]
              clear hd D1 D2
              generalize digAt s2.data.toList x2 p = db
              go_wp2_with fail
              go_roundg ((p - 1 + 3000).toNat)
              case rel => exact ⟨p - 1, rfl, by omega, by omega, rfl, HE2, HW2⟩
              case measure => omega
            · have HV := Lib.hid (D2.out hd)
              generalize digAt s.data.toList x p = da at *
              generalize digAt s2.data.toList x2 p = db at *
              go_wp2_with fail
              go_ret
              exact cmpEnd_of HV.out HW2.out.low
        · have hdp : decide (min x x2 ≤ p) = false := by simp; omega
          have HV : Hid (cc = 0) := Lib.hid ((HD.out (min x x2) (by omega) (fun q h1 h2 => HE.out q (by omega) h2)).2.2 (HE.out _ (by omega) (by omega)) (by omega) (by omega))
          go_wp2_with fail
          go_ret
          exact cmpEnd_of HV.out hBw
    · have HS := Lib.hid (Two.start k m nm s true x k2 m2 nm2 s2 x2 w)
      go_enter Tryz.func35, Tryz.ntmps35
      go_wp2_with fail
      go_loopg [7, 8, 9] ((max ((s.size : Int) + x) (s2.size + x2) + 3000).toNat) (fun n v _ _ wr => ∃ p : Int, v = .int .i64 p ∧ p ≤ max ((s.size : Int) + x) (s2.size + x2) ∧ min x x2 - 1 ≤ p ∧ n = (p + 3000).toNat ∧ Hid (∀ q, p < q → q ≤ max ((s.size : Int) + x) (s2.size + x2) → digAt s.data.toList x q = digAt s2.data.toList x2 q) ∧ Hid (Two k m nm s true x k2 m2 nm2 s2 x2 w wr))
      case atStart => exact ⟨_, rfl, Int.le_refl _, by omega, rfl, Lib.hid (fun q h1 h2 => by omega), HS⟩
      case round =>
        obtain ⟨p, rfl, hpt, hpm, rfl, HE, HW⟩ := hrel
        obtain ⟨n0, n1, n2, n3, n4, n5, o0, o1, o2, o3, o4, o5, hBw, u1, u2⟩ := HW.out
        by_cases hge : min x x2 ≤ p
        · have hdp : decide (min x x2 ≤ p) = true := by simpa using hge
          go_upto_region 10 with fail
          go_cut [8, 9] (fun s8 s9 wx => s8 = .int .i64 (digAt s.data.toList x p) ∧ s9 = .int .i64 (digAt s2.data.toList x2 p) ∧ Hid (Two k m nm s true x k2 m2 nm2 s2 x2 w wx))
          case first =>
            have hStart : Two k m nm s true x k2 m2 nm2 s2 x2 w wr := HW.out
            go_region_held3 (fun w' => w'.cell? ⟨w.heap.size, 0, none⟩ = some (.int .i64 k) ∧ w'.cell? ⟨w.heap.size, 1, none⟩ = some (.int .i64 m) ∧ w'.cell? ⟨w.heap.size, 2, none⟩ = some (.string nm) ∧ w'.cell? ⟨w.heap.size, 3, none⟩ = some (.string s) ∧ w'.cell? ⟨w.heap.size, 4, none⟩ = some (.bool true) ∧ w'.cell? ⟨w.heap.size, 5, none⟩ = some (.int .i64 x) ∧ w'.cell? ⟨w.heap.size + 1, 0, none⟩ = some (.int .i64 k2) ∧ w'.cell? ⟨w.heap.size + 1, 1, none⟩ = some (.int .i64 m2) ∧ w'.cell? ⟨w.heap.size + 1, 2, none⟩ = some (.string nm2) ∧ w'.cell? ⟨w.heap.size + 1, 3, none⟩ = some (.string s2) ∧ w'.cell? ⟨w.heap.size + 1, 4, none⟩ = some (.bool true) ∧ w'.cell? ⟨w.heap.size + 1, 5, none⟩ = some (.int .i64 x2) ∧ Below w.heap.size w w' ∧ w.heap.size < w'.heap.size ∧ w.heap.size + 1 < w'.heap.size) (first | exact Two.step (by assumption : Two k m nm s true x k2 m2 nm2 s2 x2 w _) hb3 | exact Two.step hStart (Below.refl _ _).drew | go_keep)
              (first
                | (go_at_call_of 59 (Value.agg #[.int .i64 k, .int .i64 m, .string nm, .string s, .bool true, .int .i64 x]); refine (refAt_any _ _ _ _ _ _ _ _ HF1.out (by omega) (by omega) (by omega) (by omega) (by omega)).mono ?_; rintro e3 w3 ⟨rfl, hb3⟩)
                | (go_at_call 59; refine (refAt_any _ _ _ _ _ _ _ _ HF2.out (by omega) (by omega) (by omega) (by omega) (by omega)).mono ?_; rintro e3 w3 ⟨rfl, hb3⟩))
            go_wp2_with fail
            go_meet
            exact ⟨rfl, rfl, Lib.hid (show Two k m nm s true x k2 m2 nm2 s2 x2 w _ from by assumption)⟩
          case rest =>
            obtain ⟨rfl, rfl, HW2⟩ := hcut
            obtain ⟨d1, d2, d3⟩ := HD.out p hpt HE.out
            have D1 := Lib.hid d1
            have D2 := Lib.hid d2
            clear d1 d2 d3 n0 n1 n2 n3 n4 n5 o0 o1 o2 o3 o4 o5
            rcases Nat.lt_trichotomy (digAt s.data.toList x p) (digAt s2.data.toList x2 p) with hd | hd | hd
            · have HV := Lib.hid (D1.out hd)
              generalize digAt s.data.toList x p = da at *
              generalize digAt s2.data.toList x2 p = db at *
              go_wp2_with fail
              go_ret
              exact cmpEnd_of HV.out HW2.out.low
            · have HE2 : Hid (∀ q, p - 1 < q → q ≤ max ((s.size : Int) + x) (s2.size + x2) → digAt s.data.toList x q = digAt s2.data.toList x2 q) := Lib.hid (fun q h1 h2 => by
                by_cases hq : q = p
                · rw [hq]; exact hd
                · exact HE.out q (by omega) h2)
              rw [hd]
              clear hd D1 D2
              generalize digAt s2.data.toList x2 p = db
              go_wp2_with fail
              go_roundg ((p - 1 + 3000).toNat)
              case rel => exact ⟨p - 1, rfl, by omega, by omega, rfl, HE2, HW2⟩
              case measure => omega
            · have HV := Lib.hid (D2.out hd)
              generalize digAt s.data.toList x p = da at *
              generalize digAt s2.data.toList x2 p = db at *
              go_wp2_with fail
              go_ret
              exact cmpEnd_of HV.out HW2.out.low
        · have hdp : decide (min x x2 ≤ p) = false := by simp; omega
          have HV : Hid (cc = 0) := Lib.hid ((HD.out (min x x2) (by omega) (fun q h1 h2 => HE.out q (by omega) h2)).2.2 (HE.out _ (by omega) (by omega)) (by omega) (by omega))
          go_wp2_with fail
          go_ret
          exact cmpEnd_of HV.out hBw
  · have HV := Lib.hid (cmp_sides HR.out HR2.out hg)
    cases g <;> cases g2
    · exact absurd rfl hg
    · go_enter Tryz.func35, Tryz.ntmps35
      go_wp2_with fail
      go_ret
      exact cmpEnd_of HV.out hB2
    · go_enter Tryz.func35, Tryz.ntmps35
      go_wp2_with fail
      go_ret
      exact cmpEnd_of HV.out hB2
    · exact absurd rfl hg

end Go.Proofs.YtbhgmfddjnkglaaGreatDoor

/-
  A card's argument that is a value: a row of nodes.
-/
namespace Go.Proofs.YtbhgmfddjnkglaaGreatDoor
open Go.ChangeShapes Go.WideShapes Go.ChangeAt Go.RowKit Go.Deep Np

theorem list_of {α : Type} (R : Nat → α → Prop) : ∀ n, (∀ i, i < n → ∃ y, R i y) → ∃ l : List α, l.length = n ∧ ∀ i y, l[i]? = some y → R i y
  | 0, _ => ⟨[], rfl, fun i y h => by simp at h⟩
  | n + 1, h => by
    obtain ⟨l, h1, h2⟩ := list_of R n (fun i hi => h i (by omega))
    obtain ⟨y, hy⟩ := h n (by omega)
    refine ⟨l ++ [y], by simp [h1], fun i z hz => ?_⟩
    rcases Nat.lt_or_ge i l.length with hi | hi
    · rw [List.getElem?_append_left hi] at hz; exact h2 i z hz
    · rw [List.getElem?_append_right hi] at hz
      have hi0 : i - l.length = 0 := by
        rcases Nat.eq_zero_or_pos (i - l.length) with h0 | h0
        · exact h0
        · rw [List.getElem?_eq_none (by simp; omega)] at hz; cases hz
      rw [hi0] at hz
      simp at hz
      subst hz
      rw [show i = n by omega]; exact hy
section
variable {H : Type} {enc : TypeId × Value → H} {P : Program} {w : World} {base : Nat} {sp : Nat → Bool} {held : Bool}
/-- A slice whose elements read as these. -/
theorem open_rows {α : Type} {en : α → List Value} {sz : Nat} {Q : α → DataW H → Prop} {t e : TypeId} {fuel : Nat} {v : Value} {x : DataW H × List MemPlace} (ht : P.underlying t = some (.slice e)) (hc : P.cellsOf e = sz) (hp : 0 < sz) (hl : ∀ y, (en y).length = sz)
    (rd : ∀ n cs d, DataW.trod enc P w base sp held n e cs = some d → ∃ y, cs = en y ∧ Q y d.1) (h : DataW.trod enc P w base sp held fuel t [v] = some x) :
    ∃ l : List α, Row en sz w v l ∧ (x.1 = .nil ∧ l = [] ∨ ∃ ds sp', x.1 = .slice ds sp' ∧ ds.length = l.length ∧ ∀ (i : Nat) (y : α), l[i]? = some y → ∃ d ∈ ds, Q y d) := by
  rcases open_slice ht h with ⟨h1, h2⟩ | ⟨a, len, cap, m, n, D, Pl, h1, hb, hle, hm, hmm, hx, hi⟩
  · simp at h1; subst h1
    exact ⟨[], Row.nil w, .inl ⟨by rw [h2], rfl⟩⟩
  · simp at h1; subst h1
    have hlm : len ≤ m := by rw [hmm]; split <;> omega
    obtain ⟨l, hll, hR⟩ := list_of (fun i (y : α) => w.cells? base (a.add (i * sz)) sz = some (en y) ∧ Q y (D i)) len (fun i hil => by
      obtain ⟨cs', h3, h4⟩ := hi i (by omega)
      obtain ⟨y, rfl, hQ⟩ := rd n cs' _ h4
      rw [hc] at h3
      exact ⟨y, h3, hQ⟩)
    refine ⟨l, ?_, .inr ⟨(List.range len).map D, _, by rw [hx], by simp [hll], fun i y hy => ⟨D i, ?_, (hR i y hy).2⟩⟩⟩
    · refine ⟨some a, cap, by rw [hll], by rw [hll]; exact hle, hm, fun h => (by cases h), fun h0 => ?_⟩
      obtain ⟨y0, hy0⟩ : ∃ y, l[0]? = some y := ⟨_, List.getElem?_eq_getElem h0⟩
      have h5 := (World.cells?_some (hR 0 y0 hy0).1).2.2 0 hp
      rw [Nat.zero_mul] at h5
      have e0 : (a.add 0).add 0 = a := by simp [Addr.add]
      rw [e0] at h5
      obtain ⟨u0, hu0⟩ : ∃ u, (en y0)[0]? = some u := ⟨_, List.getElem?_eq_getElem (by rw [hl]; exact hp)⟩
      rw [hu0] at h5
      have hspot := World.cell?_spot h5
      have hlt := World.block_lt_of_cell? _ _ h5
      obtain ⟨g, o, s⟩ := a
      simp only at hspot hlt
      subst hspot
      refine ⟨g, o, rfl, hlt, fun k y hk j u hu => ?_⟩
      have hj : j < sz := by rw [← hl y]; exact (List.getElem?_eq_some_iff.1 hu).1
      have h6 := (World.cells?_some (hR k y hk).1).2.2 j hj
      rw [hu, add_add] at h6
      rw [Nat.add_assoc, ← h6]
      unfold Addr.add
      split
      · rename_i h7; rw [h7]; rfl
      · rfl
    · have hk := (List.getElem?_eq_some_iff.1 hy).1
      exact List.mem_map.2 ⟨i, List.mem_range.2 (by omega), rfl⟩
end
section
variable {H : Type} {enc : TypeId × Value → H} {w : World} {base : Nat} {sp : Nat → Bool} {held : Bool}
set_option maxRecDepth 100000 in
theorem rd_node : ∀ n cs (d : DataW H × List MemPlace), DataW.trod enc Tryz.prog w base sp held n 24 cs = some d → ∃ y : Nd, cs = ndc y ∧ True := by
  intro fuel l d hf
  obtain ⟨xs, n, -, -, hl, hx, hg⟩ := DataW.trod_struct Tryz.underlying24 hf
  rw [show Tryz.prog.cellsOf 24 = 6 by kernel_rfl] at hl
  have c3 : Tryz.prog.cellsOf 3 = 1 := by kernel_rfl
  have c9 : Tryz.prog.cellsOf 9 = 1 := by kernel_rfl
  have c4 : Tryz.prog.cellsOf 4 = 1 := by kernel_rfl
  have at' : ∀ i, (h : i < xs.length) → xs[i]? = some (xs[i]'h) := fun i h => List.getElem?_eq_getElem h
  have hx6 : xs.length = 6 := hx
  match l, hl with
  | [v0, v1, v2, v3, v4, v5], _ =>
    have g0 := (hg 0 _ rfl).trans (at' 0 (by omega))
    have g1 := (hg 1 _ rfl).trans (at' 1 (by omega))
    have g2 := (hg 2 _ rfl).trans (at' 2 (by omega))
    have g3 := (hg 3 _ rfl).trans (at' 3 (by omega))
    have g4 := (hg 4 _ rfl).trans (at' 4 (by omega))
    have g5 := (hg 5 _ rfl).trans (at' 5 (by omega))
    simp only [List.getElem_toArray, List.getElem_cons_zero, List.getElem_cons_succ, c3, c9, c4] at g0 g1 g2 g3 g4 g5
    obtain ⟨k, e0, -, -⟩ := DataW.trod_int Tryz.underlying3 g0
    obtain ⟨m, e1, -, -⟩ := DataW.trod_int Tryz.underlying3 g1
    obtain ⟨nm, e2, -, hnm⟩ := DataW.trod_string Tryz.underlying9 g2
    obtain ⟨s, e3, -, hs⟩ := DataW.trod_string Tryz.underlying9 g3
    obtain ⟨b, e4, -⟩ := DataW.trod_bool Tryz.underlying4 g4
    obtain ⟨x, e5, -, hxw⟩ := DataW.trod_int Tryz.underlying3 g5
    simp at e0 e1 e2 e3 e4 e5
    subst e0 e1 e2 e3 e4 e5
    exact ⟨⟨k, m, nm.data.toList, s.data.toList, b, x⟩, rfl, trivial⟩
theorem cells_node : Tryz.prog.cellsOf 24 = 6 := by kernel_rfl
set_option maxRecDepth 100000 in
/-- A row of nodes. -/
theorem open_val {r : Reach} {b0 : Nat} {v : Value} {d : DataW H} {ps : List MemPlace} (hv : Value.okWide Tryz.prog w r b0 45 v) (h : DataW.Trod enc Tryz.prog w base sp held 45 v d ps) :
    ∃ l : List Nd, Nds w v l := by
  obtain ⟨a, len, cap, rfl⟩ := okWide_slice Tryz.underlying45 hv
  obtain ⟨fuel, hf⟩ := h
  obtain ⟨l, h1, -⟩ := open_rows (Q := fun _ _ => True) Tryz.underlying45 cells_node (by decide) ndc_len (fun n cs d h => rd_node n cs d h) hf
  exact ⟨l, h1⟩
end
end Go.Proofs.YtbhgmfddjnkglaaGreatDoor
