/-
  What the document's own answers are: run, whole, power.
-/
import Derived.Test.YtfmoigbiohbocaaDoorNumW10
import Derived.Test.YtfmoigbiohbocaaDoorNumPlain7
namespace Go.Proofs.YtfmoigbiohbocaaDoor
open Go.RowKit Np

theorem stands_yes {s : ByteArray} {i : Nat} {c : UInt8} (h : stands s.data.toList i c = true) : ∃ hi : i < s.size, (s[i].toNat : Int) = c.toNat := by
  have hlt := stands_lt h
  rw [size_toList] at hlt
  unfold stands at h
  rw [List.getElem?_eq_getElem (by rw [size_toList]; exact hlt), get_toList s i hlt] at h
  exact ⟨hlt, by simp at h; rw [h]⟩
theorem stands_no {s : ByteArray} {i : Nat} {c : UInt8} (h : stands s.data.toList i c = false) (hi : i < s.size) : ¬ (s[i].toNat : Int) = c.toNat := by
  unfold stands at h
  rw [List.getElem?_eq_getElem (by rw [size_toList]; exact hi), get_toList s i hi] at h
  intro e
  simp at h
  exact h (UInt8.toNat_inj.1 (by omega))

set_option maxHeartbeats 1000000 in
theorem refRun_any (s : ByteArray) (i : Nat) (w : World) (hi : i ≤ s.size) (hs : s.size ≤ 1000000) :
    Calls Tryd.prog 31 #[.string s, .int .i64 i] w fun e w' => e = .returned (.int .i64 (i + (run s.data.toList i).length : Nat)) ∧ w' = w := by
  go_enter Tryd.func31, Tryd.ntmps31
  go_wp2
  go_loop [1] (fun v => ∃ j : Nat, i ≤ j ∧ j ≤ s.size ∧ v = .int .i64 j ∧ figs ((s.data.toList.drop i).take (j - i)) = true) (fun v => s.size - (intOf v).toNat)
  case atStart => exact ⟨i, Nat.le_refl _, hi, rfl, by simp [figs]⟩
  case round =>
    obtain ⟨j, hj1, hj2, rfl, hf⟩ := hrel
    have HF := Lib.hid hf; clear hf
    have hlen : (s.data.toList.drop i).length = s.size - i := by simp
    by_cases hlt : j < s.size
    · have hget : (s.data.toList.drop i)[j - i]'(by omega) = s[j] := by
        rw [List.getElem_drop]; simp only [show i + (j - i) = j by omega]; exact get_toList s j hlt
      have HN : Hid (fig s[j] = false → i + (run s.data.toList i).length = j) := Lib.hid (fun h => by
        rw [run, takeWhile_stop (s.data.toList.drop i) (j - i) (by omega) HF.out (fun _ => by rw [hget]; exact h), List.length_take, hlen]; omega)
      have HY : Hid (fig s[j] = true → figs ((s.data.toList.drop i).take (j + 1 - i)) = true) := Lib.hid (fun h => by
        rw [show j + 1 - i = (j - i) + 1 by omega, take_snoc _ _ (by omega), figs_snoc, HF.out, hget, h]; rfl)
      have HL := Lib.hid hlen; clear hlen hget
      go_wp2
      · go_round
        case rel => exact ⟨j + 1, by omega, by omega, by go_num, HY.out (fig_in (by omega) (by omega))⟩
        case measure => simp [intOf]; omega
      · go_ret
        exact ⟨ret_i64 (by have := HN.out (fig_out (by omega)); omega), rfl⟩
      · go_ret
        exact ⟨ret_i64 (by have := HN.out (fig_out (by omega)); omega), rfl⟩
    · have HT : Hid (i + (run s.data.toList i).length = j) := Lib.hid (by
        rw [run, takeWhile_stop (s.data.toList.drop i) (j - i) (by omega) HF.out (fun h => absurd h (by omega)), List.length_take, hlen]; omega)
      clear hlen
      go_wp2
      go_ret
      exact ⟨ret_i64 (by have := HT.out; omega), rfl⟩

theorem refRun_same (s : ByteArray) (i : Nat) (n : Int) (hn : n = i) (w : World) (hi : i ≤ s.size) (hs : s.size ≤ 1000000) :
    Calls Tryd.prog 31 #[.string s, .int .i64 n] w fun e w' => e = .returned (.int .i64 (i + (run s.data.toList i).length : Nat)) ∧ w' = w := by
  subst hn; exact refRun_any s i w hi hs

theorem lenNo {n : Nat} (h : ¬ 0 < n) : ((n : Int) == 0) = true ∧ ((1 + (n : Int)) == 1) = true := by
  constructor <;> rw [beq_iff_eq] <;> omega
theorem lenYes {n : Nat} (h : 0 < n) : ((n : Int) == 0) = false ∧ ((1 + (n : Int)) == 1) = false := by
  constructor <;> rw [beq_eq_false_iff_ne] <;> omega
/-- How the document's whole ends. -/
def WholeEnd (w : World) (s : ByteArray) (e : Ending) (w' : World) : Prop :=
  e = .returned (.tuple (if bad1 s.data.toList = true then #[.int .i64 (i0F s.data.toList), .int .i64 (i0F s.data.toList), .bool false] else #[.int .i64 (i0F s.data.toList), .int .i64 (i1F s.data.toList), .bool true])) ∧ w' = w
theorem wholeEnd_no {w : World} {s : ByteArray} {a b : Int} (h : bad1 s.data.toList = true) (ha : a = i0F s.data.toList) (hb : b = i0F s.data.toList) : WholeEnd w s (.returned (.tuple #[.int .i64 a, .int .i64 b, .bool false])) w := by
  unfold WholeEnd; rw [if_pos h, ha, hb]; exact ⟨rfl, rfl⟩
theorem wholeEnd_yes {w : World} {s : ByteArray} {a b : Int} (h : bad1 s.data.toList = false) (ha : a = i0F s.data.toList) (hb : b = i1F s.data.toList) : WholeEnd w s (.returned (.tuple #[.int .i64 a, .int .i64 b, .bool true])) w := by
  unfold WholeEnd; rw [if_neg (by rw [h]; decide), ha, hb]; exact ⟨rfl, rfl⟩
theorem i0_cases (s : ByteArray) : (∃ h : 0 < s.size, ((s[0].toNat : Int) == 45) = true ∧ i0F s.data.toList = 1) ∨ (∃ h : 0 < s.size, ((s[0].toNat : Int) == 45) = false ∧ i0F s.data.toList = 0) ∨ (¬ 0 < s.size ∧ i0F s.data.toList = 0) := by
  cases h : stands s.data.toList 0 45
  · have e : i0F s.data.toList = 0 := by simp [i0F, h]
    by_cases h0 : 0 < s.size
    · exact .inr (.inl ⟨h0, by simpa using stands_no h h0, e⟩)
    · exact .inr (.inr ⟨h0, e⟩)
  · obtain ⟨h0, h1⟩ := stands_yes h
    exact .inl ⟨h0, by simpa using h1, by simp [i0F, h]⟩

set_option maxHeartbeats 1000000 in
theorem refWhole_tail (s : ByteArray) (i : Nat) (hi : i ≤ s.size) (HB : Hid (bad1 s.data.toList = (run s.data.toList i).isEmpty)) (HI : Hid (i0F s.data.toList = i)) :
    (¬ 0 < (run s.data.toList i).length ∧ bad1 s.data.toList = true) ∨ (∃ h : i < s.size, 0 < (run s.data.toList i).length ∧ bad1 s.data.toList = false ∧ (((s[i].toNat : Int) == 48) = true ∧ i1F s.data.toList = i + 1 ∨ ((s[i].toNat : Int) == 48) = false ∧ i1F s.data.toList = i + (run s.data.toList i).length)) := by
  cases hr : (run s.data.toList i).isEmpty
  · right
    have hb : bad1 s.data.toList = false := by rw [HB.out, hr]
    have hp : 0 < (run s.data.toList i).length := by
      cases h : run s.data.toList i with
      | nil => rw [h] at hr; cases hr
      | cons a t => simp
    have hlt : i < s.size := by
      have := run_le s.data.toList i (by rw [size_toList]; exact hi)
      rw [size_toList] at this; omega
    refine ⟨hlt, hp, hb, ?_⟩
    cases h : stands s.data.toList i 48
    · right
      have e := (at1_no (l := s.data.toList) (by rw [HI.out]; exact h)).2.2
      rw [HI.out] at e
      exact ⟨by simpa using stands_no h hlt, e⟩
    · left
      have e := (at1_yes (l := s.data.toList) (by rw [HI.out]; exact h)).2.2
      rw [HI.out] at e
      obtain ⟨_, h1⟩ := stands_yes h
      exact ⟨by simpa using h1, e⟩
  · left
    refine ⟨?_, by rw [HB.out, hr]⟩
    rw [List.isEmpty_iff.1 hr]; simp

set_option maxHeartbeats 1000000 in
theorem refWhole_any (s : ByteArray) (w : World) (hs : s.size ≤ 1000000) :
    Calls Tryd.prog 30 #[.string s] w (WholeEnd w s) := by
  have hle0 := i0F_le s.data.toList
  rw [size_toList] at hle0
  rcases i0_cases s with ⟨hp, ht, he⟩ | ⟨hp, ht, he⟩ | ⟨hp, he⟩
  case inr.inr =>
    have HB := Lib.hid (bad1_run s.data.toList)
    have HI := Lib.hid he
    rw [he] at HB hle0
    have hC := refWhole_tail s _ hle0 HB HI
    clear he HB
    rcases hC with ⟨h1, h2⟩ | ⟨hlt, _⟩
    · have H2 := Lib.hid h2
      obtain ⟨q1, q2⟩ := lenNo h1
      clear h1 h2
      go_enter Tryd.func30, Tryd.ntmps30
      go_wp2_with (go_at_call 31; refine (refRun_same s _ _ rfl _ hle0 hs).mono ?_; rintro e w1 ⟨rfl, rfl⟩)
      go_ret3
      exact wholeEnd_no H2.out (by rw [HI.out]; rfl) (by rw [HI.out]; rfl)
    · exact absurd (Nat.lt_of_le_of_lt (Nat.zero_le _) hlt) hp
  all_goals
    have HB := Lib.hid (bad1_run s.data.toList)
    have HI := Lib.hid he
    rw [he] at HB hle0
    have hC := refWhole_tail s _ hle0 HB HI
    clear he HB
    rcases hC with ⟨h1, h2⟩ | ⟨hlt, h1, h2, ⟨h3, h4⟩ | ⟨h3, h4⟩⟩
    · have H2 := Lib.hid h2
      obtain ⟨q1, q2⟩ := lenNo h1
      clear h1 h2
      go_enter Tryd.func30, Tryd.ntmps30
      go_wp2_with (go_at_call 31; refine (refRun_same s _ _ rfl _ hle0 hs).mono ?_; rintro e w1 ⟨rfl, rfl⟩)
      go_ret3
      exact wholeEnd_no H2.out (by rw [HI.out]; rfl) (by rw [HI.out]; rfl)
    · have H2 := Lib.hid h2
      have H4 := Lib.hid h4
      obtain ⟨q1, q2⟩ := lenYes h1
      clear h1 h2 h4
      go_enter Tryd.func30, Tryd.ntmps30
      go_wp2_with (go_at_call 31; refine (refRun_same s _ _ rfl _ hle0 hs).mono ?_; rintro e w1 ⟨rfl, rfl⟩)
      go_ret3
      exact wholeEnd_yes H2.out (by rw [HI.out]; rfl) (by rw [H4.out]; rfl)
    · have H2 := Lib.hid h2
      have H4 := Lib.hid h4
      obtain ⟨q1, q2⟩ := lenYes h1
      clear h1 h2 h4
      go_enter Tryd.func30, Tryd.ntmps30
      go_wp2_with (go_at_call 31; refine (refRun_same s _ _ rfl _ hle0 hs).mono ?_; rintro e w1 ⟨rfl, rfl⟩)
      go_ret3
      exact wholeEnd_yes H2.out (by rw [HI.out]; rfl) (by rw [H4.out]; omega)

end Go.Proofs.YtfmoigbiohbocaaDoor
