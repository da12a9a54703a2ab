/-
  What the document's own answer power is.
-/
import Derived.Test.YtfmoigbiohbocaaDoorNumW11
namespace Go.Proofs.YtfmoigbiohbocaaDoor
open Go.RowKit Np

/-- Which side a power is of; none: 0. -/
def sideF (l : List UInt8) : Int := if exF l = true then (if downF l = true then -1 else 1) else 0

theorem ex_cases (s : ByteArray) (i : Nat) (hi : i ≤ s.size) (HI : i3F s.data.toList = i) :
    ((((i : Int) == s.size) = true ∧ ¬ i < s.size) ∧ exF s.data.toList = false) ∨ (∃ h : i < s.size, ((i : Int) == s.size) = false ∧ (((s[i].toNat : Int) != 101) = true ∧ ((s[i].toNat : Int) != 69) = true ∧ exF s.data.toList = false ∨ ((s[i].toNat : Int) != 101) = false ∧ exF s.data.toList = true ∨ ((s[i].toNat : Int) != 101) = true ∧ ((s[i].toNat : Int) != 69) = false ∧ exF s.data.toList = true)) := by
  by_cases h : i < s.size
  · right
    refine ⟨h, by rw [beq_eq_false_iff_ne]; omega, ?_⟩
    have e : exF s.data.toList = (stands s.data.toList i 101 || stands s.data.toList i 69) := by unfold exF; rw [HI]
    cases h1 : stands s.data.toList i 101
    · have n1 := stands_no h1 h
      cases h2 : stands s.data.toList i 69
      · have n2 := stands_no h2 h
        exact .inl ⟨by simpa using n1, by simpa using n2, by rw [e, h1, h2]; rfl⟩
      · obtain ⟨_, y2⟩ := stands_yes h2
        exact .inr (.inr ⟨by simpa using n1, by simpa using y2, by rw [e, h1, h2]; rfl⟩)
    · obtain ⟨_, y1⟩ := stands_yes h1
      exact .inr (.inl ⟨by simpa using y1, by rw [e, h1]; rfl⟩)
  · left
    refine ⟨⟨by rw [beq_iff_eq]; omega, h⟩, ?_⟩
    unfold exF
    rw [HI, Bool.or_eq_false_iff]
    constructor
    · cases h1 : stands s.data.toList i 101
      · rfl
      · exact absurd (stands_yes h1).1 h
    · cases h1 : stands s.data.toList i 69
      · rfl
      · exact absurd (stands_yes h1).1 h
theorem pw_cases (s : ByteArray) (i : Nat) (HI : i3F s.data.toList = i) (hx : exF s.data.toList = true) :
    (∃ h : i + 1 < s.size, ((s[i + 1].toNat : Int) == 43) = true ∧ ((s[i + 1].toNat : Int) == 45) = false ∧ sideF s.data.toList = 1 ∧ i5F s.data.toList = i + 1 + 1) ∨
    (∃ h : i + 1 < s.size, ((s[i + 1].toNat : Int) == 43) = false ∧ ((s[i + 1].toNat : Int) == 45) = true ∧ sideF s.data.toList = -1 ∧ i5F s.data.toList = i + 1 + 1) ∨
    (∃ h : i + 1 < s.size, ((s[i + 1].toNat : Int) == 43) = false ∧ ((s[i + 1].toNat : Int) == 45) = false ∧ sideF s.data.toList = 1 ∧ i5F s.data.toList = i + 1) ∨
    (¬ i + 1 < s.size ∧ sideF s.data.toList = 1 ∧ i5F s.data.toList = i + 1) := by
  cases h1 : stands s.data.toList (i + 1) 43
  · have r := at5_rest hx (by rw [HI]; exact h1)
    rw [HI] at r
    cases h2 : stands s.data.toList (i + 1) 45
    · rw [h2] at r
      have hsd : sideF s.data.toList = 1 := by simp [sideF, hx, r.1]
      by_cases h : i + 1 < s.size
      · exact .inr (.inr (.inl ⟨h, by simpa using stands_no h1 h, by simpa using stands_no h2 h, hsd, by simpa using r.2⟩))
      · exact .inr (.inr (.inr ⟨h, hsd, by simpa using r.2⟩))
    · rw [h2] at r
      obtain ⟨h, y⟩ := stands_yes h2
      exact .inr (.inl ⟨h, by simpa using stands_no h1 h, by simpa using y, by simp [sideF, hx, r.1], by simpa using r.2⟩)
  · have r := at5_plus hx (by rw [HI]; exact h1)
    rw [HI] at r
    obtain ⟨h, y⟩ := stands_yes h1
    refine .inl ⟨h, by simpa using y, ?_, by simp [sideF, hx, r.1], r.2⟩
    have y' : (s[i + 1].toNat : Int) = 43 := y
    rw [y']; rfl

/-- How the document's power ends. -/
def PowerEnd (w : World) (s : ByteArray) (e : Ending) (w' : World) : Prop :=
  e = .returned (.tuple #[.int .i64 (sideF s.data.toList), .string ⟨(powF s.data.toList).toArray⟩, .int .i64 (i6F s.data.toList)]) ∧ Below w.heap.size w w'
theorem powerEnd_no {w : World} {s : ByteArray} {i : Nat} (HI : i3F s.data.toList = i) (hx : exF s.data.toList = false) : PowerEnd w s (.returned (.tuple #[.int .i64 0, .string ⟨#[]⟩, .int .i64 i])) w := by
  obtain ⟨_, _, e1, e2⟩ := at3_no hx
  unfold PowerEnd
  rw [e1, e2, HI]
  exact ⟨by simp [sideF, hx], Below.refl _ _⟩

theorem run_take (l : List UInt8) (i : Nat) : run l i = (l.drop i).take (run l i).length := List.prefix_iff_eq_take.1 (List.takeWhile_prefix fig)
theorem powerEnd_yes {w w' : World} {s : ByteArray} {a b : Int} {j k n : Nat} {rr : List UInt8} (h1 : sideF s.data.toList = a) (h2 : powF s.data.toList = rr) (h3 : i6F s.data.toList = n) (h4 : rr = (s.data.toList.drop j).take rr.length) (h5 : b = n) (h6 : k = j + rr.length) (hb : Below w.heap.size w w') :
    PowerEnd w s (.returned (.tuple #[.int .i64 a, .string (s.extract j k), .int .i64 b])) w' := by
  unfold PowerEnd
  rw [h1, h2, h3, extract_run s j k rr (by rw [h6, Nat.add_sub_cancel_left]; exact h4), h5]
  exact ⟨rfl, hb⟩

set_option maxHeartbeats 2000000 in
theorem refPower_any (s : ByteArray) (i : Nat) (w : World) (hs : s.size ≤ 1000000) (HI : Hid (i3F s.data.toList = i)) :
    Calls Tryd.prog 32 #[.string s, .int .i64 i] w (PowerEnd w s) := by
  have hi : i ≤ s.size := by have := i3F_le s.data.toList; rw [HI.out, size_toList] at this; exact this
  rcases ex_cases s i hi HI.out with ⟨⟨q1, q2⟩, hx⟩ | ⟨hlt, q1, ⟨q2, q3, hx⟩ | hq⟩
  · have HX := Lib.hid hx; clear hx
    go_enter Tryd.func32, Tryd.ntmps32
    go_wp2_with fail
    go_ret3
    exact powerEnd_no HI.out HX.out
  · have HX := Lib.hid hx; clear hx
    go_enter Tryd.func32, Tryd.ntmps32
    go_wp2_with fail
    go_ret3
    exact powerEnd_no HI.out HX.out
  · have HX : Hid (exF s.data.toList = true) := Lib.hid (by rcases hq with ⟨_, h⟩ | ⟨_, _, h⟩ <;> exact h)
    have HQ : Hid (((s[i].toNat : Int) != 101) = false ∨ ((s[i].toNat : Int) != 101) = true ∧ ((s[i].toNat : Int) != 69) = false) := Lib.hid (by
      rcases hq with ⟨h, _⟩ | ⟨h, h2, _⟩
      · exact .inl h
      · exact .inr ⟨h, h2⟩)
    clear hq
    obtain ⟨e1, e2, e3⟩ := at3_yes HX.out
    have HP := Lib.hid e2
    have HE := Lib.hid e3
    clear e1 e2 e3
    go_enter Tryd.func32, Tryd.ntmps32
    go_upto_region 1 with fail
    go_cut [23] (fun s23 wx => s23 = .bool false ∧ wx = w)
    case first =>
      rcases HQ.out with h | ⟨h, h2⟩
      · go_wp2_with fail
        go_meet
        exact ⟨rfl, rfl⟩
      · go_wp2_with fail
        go_meet
        exact ⟨rfl, rfl⟩
    case rest =>
      obtain ⟨rfl, rfl⟩ := hcut
      rcases pw_cases s i HI.out HX.out with ⟨hl, p1, p2, p3, p4⟩ | ⟨hl, p1, p2, p3, p4⟩ | ⟨hl, p1, p2, p3, p4⟩ | ⟨hl, p3, p4⟩
      · have H3 := Lib.hid p3
        have H4 := Lib.hid p4
        have hle := i5F_le s.data.toList
        rw [size_toList, p4] at hle
        clear p3 p4
        have hrl := run_le s.data.toList (i + 1 + 1) (by rw [size_toList]; exact hle)
        rw [size_toList] at hrl
        have HC := Lib.hid (fun W : World => refRun_same s (i + 1 + 1) ((i : Int) + 1 + 1) (by omega) W hle hs)
        have HR := Lib.hid (run_take s.data.toList (i + 1 + 1))
        rw [H4.out] at HP HE
        generalize run s.data.toList (i + 1 + 1) = rr at *
        go_wp2_with fail
        go_quiet ((go_at_call 31; exact Calls.quiet_of_same (HC.out _)))
        go_wp2_with fail
        go_ret3
        exact powerEnd_yes (j := i + 1 + 1) H3.out HP.out HE.out HR.out (by omega) (by omega) ⟨rfl, rfl, rfl, Nat.le_refl _, fun _ _ => rfl⟩
      · have H3 := Lib.hid p3
        have H4 := Lib.hid p4
        have hle := i5F_le s.data.toList
        rw [size_toList, p4] at hle
        clear p3 p4
        have hrl := run_le s.data.toList (i + 1 + 1) (by rw [size_toList]; exact hle)
        rw [size_toList] at hrl
        have HC := Lib.hid (fun W : World => refRun_same s (i + 1 + 1) ((i : Int) + 1 + 1) (by omega) W hle hs)
        have HR := Lib.hid (run_take s.data.toList (i + 1 + 1))
        rw [H4.out] at HP HE
        generalize run s.data.toList (i + 1 + 1) = rr at *
        go_wp2_with fail
        go_quiet ((go_at_call 31; exact Calls.quiet_of_same (HC.out _)))
        go_wp2_with fail
        go_ret3
        exact powerEnd_yes (j := i + 1 + 1) H3.out HP.out HE.out HR.out (by omega) (by omega) ⟨rfl, rfl, rfl, Nat.le_refl _, fun _ _ => rfl⟩
      · have H3 := Lib.hid p3
        have H4 := Lib.hid p4
        have hle := i5F_le s.data.toList
        rw [size_toList, p4] at hle
        clear p3 p4
        have hrl := run_le s.data.toList (i + 1) (by rw [size_toList]; exact hle)
        rw [size_toList] at hrl
        have HC := Lib.hid (fun W : World => refRun_same s (i + 1) ((i : Int) + 1) (by omega) W hle hs)
        have HR := Lib.hid (run_take s.data.toList (i + 1))
        rw [H4.out] at HP HE
        generalize run s.data.toList (i + 1) = rr at *
        go_wp2_with fail
        go_quiet ((go_at_call 31; exact Calls.quiet_of_same (HC.out _)))
        go_wp2_with fail
        go_ret3
        exact powerEnd_yes (j := i + 1) H3.out HP.out HE.out HR.out (by omega) (by omega) ⟨rfl, rfl, rfl, Nat.le_refl _, fun _ _ => rfl⟩
      · have H3 := Lib.hid p3
        have H4 := Lib.hid p4
        have hle := i5F_le s.data.toList
        rw [size_toList, p4] at hle
        clear p3 p4
        have hrl := run_le s.data.toList (i + 1) (by rw [size_toList]; exact hle)
        rw [size_toList] at hrl
        have HC := Lib.hid (fun W : World => refRun_same s (i + 1) ((i : Int) + 1) (by omega) W hle hs)
        have HR := Lib.hid (run_take s.data.toList (i + 1))
        rw [H4.out] at HP HE
        generalize run s.data.toList (i + 1) = rr at *
        go_wp2_with fail
        go_quiet ((go_at_call 31; exact Calls.quiet_of_same (HC.out _)))
        go_wp2_with fail
        go_ret3
        exact powerEnd_yes (j := i + 1) H3.out HP.out HE.out HR.out (by omega) (by omega) ⟨rfl, rfl, rfl, Nat.le_refl _, fun _ _ => rfl⟩

end Go.Proofs.YtfmoigbiohbocaaDoor
