/-
  What num's reading functions answer: worth, scan's closures.
-/
import Derived.Test.YtafbojiojeemoaaGreatDoorNumW3
import Derived.Test.YtafbojiojeemoaaGreatDoorNumPlain2
import Derived.Deep.LoopGhost
namespace Go.Proofs.YtafbojiojeemoaaGreatDoor
open Go.RowKit Np

theorem setCell_same (w : World) (a : Addr) (v : Value) (h : w.cell? a = some v) : w.setCell a v = w := by
  unfold World.cell? at h
  have hh : (w.setCell a v).heap = w.heap := by
    unfold World.setCell
    apply Array.ext
    · simp
    intro i h1 h2
    simp only [Array.getElem_modify]
    split
    · rename_i hi
      subst hi
      rw [Array.getElem?_eq_getElem h2] at h
      split at h
      · rename_i c t f e
        simp only [Option.some.injEq] at e
        rw [e]
        split at h
        · simp at h
        · rename_i hs
          simp only [hs]
          congr 1
          apply Array.ext
          · simp
          intro j hj1 hj2
          simp only [Bool.false_eq_true, if_false] 
          rw [Array.getElem_setIfInBounds]
          split
          · rename_i hj; subst hj
            rw [Array.getElem?_eq_getElem hj2] at h
            exact (Option.some.inj h).symm
          · rfl
      · simp at h
    · rfl
  exact (show w.setCell a v = { w with heap := (w.setCell a v).heap } from rfl).trans (by rw [hh])
theorem setCell_two (w : World) (a : Addr) (v v' : Value) : (w.setCell a v).setCell a v' = w.setCell a v' := by
  unfold World.setCell
  congr 1
  apply Array.ext
  · simp
  intro i h1 h2
  simp only [Array.getElem_modify]
  split
  · split
    · rename_i c t f e
      split at e
      · rename_i c' t' f' e'
        rw [e']
        simp only [Obj.cells.injEq] at e
        obtain ⟨e1, e2, e3⟩ := e
        subst e1 e2 e3
        by_cases hs : a.spot.isSome = true
        · simp [hs]
        · simp [hs]
      · rename_i hn
        exact absurd e (hn _ _ _)
    · rename_i hn
      split
      · rename_i c' t' f' e'
        rw [e'] at hn
        exact absurd rfl (hn _ _ _)
      · rfl
  · rfl

set_option maxHeartbeats 400000 in
theorem worth_any (s : ByteArray) (w : World) (hf : figs s.data.toList = true) (hs : s.size ≤ 6) :
    Calls Tryz.prog 138 #[.string s] w fun e w' => e = .returned (.int .i64 (worth s.data.toList)) ∧ w = w' := by
  have HF := Lib.hid hf; clear hf
  go_enter Tryz.func138, Tryz.ntmps138
  go_wp2
  go_loop [3, 4] (fun n i => ∃ k : Nat, k ≤ s.size ∧ i = .int .i64 k ∧ n = .int .i64 (worth (s.data.toList.take k))) (fun _ i => s.size - (intOf i).toNat)
  case atStart => exact ⟨0, Nat.zero_le _, rfl, rfl⟩
  case round =>
    obtain ⟨k, hk, rfl, rfl⟩ := hrel
    by_cases hlt : k < s.size
    · have hfk := (fig_iff _).1 (figs_at HF.out (by simpa using hlt))
      rw [get_toList s k hlt] at hfk
      have HS : Hid (worth (s.data.toList.take (k + 1)) = 10 * worth (s.data.toList.take k) + (s[k].toNat - 48)) := Lib.hid (by
        rw [take_snoc _ k (by simpa using hlt), worth_snoc, get_toList s k hlt])
      have hwb := worth_small (s.data.toList.take k) (by simp; omega) (figs_take HF.out k)
      generalize worth (s.data.toList.take k) = n at HS hwb ⊢
      obtain ⟨hf1, hf2⟩ := hfk
      go_wp2
      go_round
      case rel => exact ⟨k + 1, by omega, by go_num, by rw [HS.out]; go_num⟩
      case measure => simp [intOf]; omega
    · go_wp2
      go_ret
      exact ⟨ret_i64 (by rw [List.take_of_length_le (by simp; omega)]), rfl⟩

set_option maxHeartbeats 400000 in
theorem mark_yes (c : Int) (pa ps : Addr) (n : Nat) (s : ByteArray) (w : World) (h1 : w.cell? pa = some (.int .i64 n)) (h2 : w.cell? ps = some (.string s)) (h3 : w.frozen? pa = false)
    (hn : n < s.size) (hs : s.size ≤ maxLen) (hc : (s[n].toNat : Int) = c) :
    Calls Tryz.prog 163 #[.int .u8 c, .pointer (some pa), .pointer (some ps)] w fun e w' => e = .returned (.bool true) ∧ w' = w.setCell pa (.int .i64 (n + 1 : Nat)) := by
  unfold maxLen at hs
  subst hc
  go_enter Tryz.func163, Tryz.ntmps163
  go_wp2_with fail
  go_ret
  exact ⟨rfl, rfl⟩

set_option maxHeartbeats 400000 in
theorem mark_no (c : Int) (pa ps : Addr) (n : Nat) (s : ByteArray) (w : World) (h1 : w.cell? pa = some (.int .i64 n)) (h2 : w.cell? ps = some (.string s))
    (hc : ∀ h : n < s.size, ((s[n].toNat : Int) == c) = false) :
    Calls Tryz.prog 163 #[.int .u8 c, .pointer (some pa), .pointer (some ps)] w fun e w' => e = .returned (.bool false) ∧ w = w' := by
  by_cases hn : n < s.size
  · have hc2 := hc hn
    clear hc
    go_enter Tryz.func163, Tryz.ntmps163
    go_wp2_with fail
    go_ret
    exact ⟨rfl, rfl⟩
  · clear hc
    go_enter Tryz.func163, Tryz.ntmps163
    go_wp2_with fail
    go_ret
    exact ⟨rfl, rfl⟩

theorem extract_run (s : ByteArray) (n j : Nat) (l : List UInt8) (h : l = (s.data.toList.drop n).take (j - n)) : s.extract n j = ⟨l.toArray⟩ := by
  rw [h, ← Lib.extract_toList, ByteArray.toList_eq]

set_option maxHeartbeats 400000 in
theorem figures_any (pa ps : Addr) (n : Nat) (s : ByteArray) (w : World) (h1 : w.cell? pa = some (.int .i64 n)) (h2 : w.cell? ps = some (.string s)) (h3 : w.frozen? pa = false) (hps : pa ≠ ps)
    (hn : n ≤ s.size) (hs : s.size ≤ maxLen) :
    Calls Tryz.prog 164 #[.pointer (some pa), .pointer (some ps)] w fun e w' => e = .returned (.string ⟨((s.data.toList.drop n).takeWhile fig).toArray⟩) ∧ w' = w.setCell pa (.int .i64 (n + ((s.data.toList.drop n).takeWhile fig).length : Nat)) := by
  unfold maxLen at hs
  go_enter Tryz.func164, Tryz.ntmps164
  go_wp2_with fail
  go_loopg [5] (s.size - n) (fun g _ wr => ∃ j : Nat, n ≤ j ∧ j ≤ s.size ∧ g = s.size - j ∧ figs ((s.data.toList.drop n).take (j - n)) = true ∧ wr = w.setCell pa (.int .i64 (j : Nat)))
  case atStart => exact ⟨n, Nat.le_refl _, hn, rfl, by simp [figs], (setCell_same _ _ _ h1).symm⟩
  case round =>
    obtain ⟨j, hj1, hj2, rfl, hf, hw⟩ := hrel
    have HF := Lib.hid hf; clear hf
    have c1 : wr.cell? pa = some (.int .i64 j) := by rw [hw]; exact World.cell?_setCell_same _ _ _ h1
    have c2 : wr.cell? ps = some (.string s) := by rw [hw, World.cell?_setCell_other _ _ _ _ hps]; exact h2
    have c3 : wr.frozen? pa = false := by rw [hw]; simp [h3]
    have HW := Lib.hid hw; clear hw
    have hlen : (s.data.toList.drop n).length = s.size - n := by simp
    by_cases hlt : j < s.size
    · have hget : (s.data.toList.drop n)[j - n]'(by omega) = s[j] := by
        rw [List.getElem_drop]; simp only [show n + (j - n) = j by omega]; exact get_toList s j hlt
      cases hfc : fig s[j]
      · have HT := Lib.hid (takeWhile_stop (s.data.toList.drop n) (j - n) (by omega) HF.out (fun h => by rw [hget]; exact hfc))
        have HC := Lib.hid hfc; clear hfc hget
        have HL := Lib.hid hlen; clear hlen
        go_wp2_with (go_at_call 165; refine (isFigure_no _ _ HC.out).mono ?_; rintro e w' ⟨rfl, rfl⟩)
        go_ret
        refine ⟨ret_str (extract_run s n j _ HT.out), ?_⟩
        rw [HW.out, HT.out, List.length_take, HL.out, show n + min (j - n) (s.size - n) = j by omega]
      · have HN : Hid (figs ((s.data.toList.drop n).take (j + 1 - n)) = true) := Lib.hid (by
          rw [show j + 1 - n = (j - n) + 1 by omega, take_snoc _ _ (by omega), figs_snoc, HF.out, hget, hfc]; rfl)
        have HC := Lib.hid hfc; clear hfc hget
        have HL := Lib.hid hlen; clear hlen
        go_wp2_with (go_at_call 165; refine (isFigure_yes _ _ HC.out).mono ?_; rintro e w' ⟨rfl, rfl⟩)
        go_roundg (s.size - (j + 1))
        case rel => exact ⟨j + 1, by omega, by omega, rfl, HN.out, by rw [HW.out, setCell_two]; go_num⟩
        case measure => omega
    · have HT := Lib.hid (takeWhile_stop (s.data.toList.drop n) (j - n) (by omega) HF.out (fun h => absurd h (by omega)))
      have HL := Lib.hid hlen; clear hlen
      go_wp2_with fail
      go_ret
      refine ⟨ret_str (extract_run s n j _ HT.out), ?_⟩
      rw [HW.out, HT.out, List.length_take, HL.out, show n + min (j - n) (s.size - n) = j by omega]

end Go.Proofs.YtafbojiojeemoaaGreatDoor
