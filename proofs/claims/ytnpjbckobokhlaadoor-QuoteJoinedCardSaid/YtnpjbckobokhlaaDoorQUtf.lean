/-
  What quote's Utf is.
-/
import Derived.Test.YtnpjbckobokhlaaDoorQEsc
namespace Go.Proofs.YtnpjbckobokhlaaDoor
open Go.RowKit Np Up Qp

theorem ext_end (s : ByteArray) (k : Nat) : (s.extract k s.size).data.toList = s.data.toList.drop k := by
  have h := Lib.extract_toList s k s.size
  rw [ByteArray.toList_eq] at h
  rw [h, List.take_of_length_le (by simp)]
theorem drop_ne (s : ByteArray) (k : Nat) (h : k < s.size) : s.data.toList.drop k ≠ [] := by
  intro h'; have := congrArg List.length h'; rw [List.length_drop, size_toList, List.length_nil] at this; omega
/-- The rune at a place, and its width. -/
theorem dec_at (s : ByteArray) (k : Nat) : Utf8.decode s k = Lib.decodeL (s.data.toList.drop k) := (Lib.decodeL_drop s k).symm
theorem dec_width (l : List UInt8) (hl : l ≠ []) : 1 ≤ (Lib.decodeL l).2 ∧ (Lib.decodeL l).2 ≤ l.length := ⟨Lib.decodeL_width l, Lib.decodeL_le l hl⟩
theorem dec_good {l : List UInt8} (h : runeN l ≠ 0) : (Lib.decodeL l).2 = runeN l := by
  rcases decode_rune l with ⟨h0, _⟩ | ⟨_, h1, _⟩
  · exact absurd h0 h
  · exact h1

set_option maxRecDepth 100000 in
set_option maxHeartbeats 4000000 in
theorem utf_any (s : ByteArray) (w : World) (hs : s.size ≤ 4096) :
    Calls Tryd.prog 11 #[.string s] w fun e w' => e = .returned (.int .i64 (ufp s.data.toList 0 : Nat)) ∧ Below w.heap.size w w' := by
  generalize hR : ufp s.data.toList 0 = R
  go_enter Tryd.func11, Tryd.ntmps11
  go_wp2
  go_loopw [] (fun wr => ∃ pos : Nat, wr.heap[w.heap.size]? = some (.stringIter s pos) ∧ Below w.heap.size w wr ∧ pos ≤ s.size ∧ Hid (ufp (s.data.toList.drop pos) pos = R)) (fun wr => s.size - wr.iterPos w.heap.size)
  case atStart =>
    refine ⟨0, ?_, (Below.refl _ w).alloc (Nat.le_refl _) _, by omega, Lib.hid hR⟩
    have := World.iter_heap w s 0
    simpa using this
  case round =>
    obtain ⟨pos, hit, hbw, hpl, HR⟩ := hrel
    by_cases hp : pos < s.size
    · have hnx : ∀ ty, (Instr.next (.pointer (some ⟨w.heap.size, 0, none⟩)) true ty).run Tryd.prog wr = _ := fun ty => Lib.run_next_any_at wr w.heap.size s pos ty hit hp
      have hne := drop_ne s pos hp
      have hwd := dec_width _ hne
      rw [List.length_drop, size_toList] at hwd
      have hdg := dec_good (l := s.data.toList.drop pos)
      have hbad := ufp_bad (l := s.data.toList.drop pos) pos
      have hst := ufp_step pos hne
      rw [List.drop_drop] at hst
      have hstr : ∀ w, Calls Tryd.prog 23 #[.int .i32 ((Utf8.decode s pos).1 : Nat), .string (s.extract pos s.size)] w fun e w' => e = .returned (.bool (decide (runeN (s.data.toList.drop pos) = 0))) ∧ w = w' := by
        intro w
        have h := stray_any (Utf8.decode s pos).1 (s.extract pos s.size) w (by rw [ext_end]; exact hne) (by rw [ext_end, dec_at])
        rw [ext_end] at h
        exact h
      rw [dec_at] at hnx hstr
      generalize hD : Lib.decodeL (s.data.toList.drop pos) = D at hnx hstr hwd hdg
      obtain ⟨r, n⟩ := D
      simp only at hnx hstr hwd hdg
      have hit2 := Lib.iterAt_heap wr w.heap.size s pos (pos + n) hit
      have hbw2 := Lib.below_iterAt hbw (k := w.heap.size) (by omega) s (pos + n)
      have HS := Lib.hid hstr
      obtain ⟨hn1, hn2⟩ := hwd
      clear hne hD hstr
      by_cases h0 : runeN (s.data.toList.drop pos) = 0
      · have HN : Hid (R = pos) := Lib.hid (by rw [← HR.out, hbad h0])
        have HD : Hid (decide (runeN (s.data.toList.drop pos) = 0) = true) := Lib.hid (decide_eq_true h0)
        clear h0 hbad hst HR hR hdg
        go_wp2_with (go_at_call 23; refine (HS.out _).mono ?_; rintro e w1 ⟨rfl, rfl⟩; rw [HD.out])
        go_ret
        exact ⟨ret_i64 (by rw [HN.out]), hbw2⟩
      · have HN : Hid (ufp (s.data.toList.drop (pos + n)) (pos + n) = R) := Lib.hid (by rw [← HR.out, hst h0, hdg h0])
        have HD : Hid (decide (runeN (s.data.toList.drop pos) = 0) = false) := Lib.hid (decide_eq_false h0)
        clear h0 hbad hst HR hR hdg
        go_wp2_with (go_at_call 23; refine (HS.out _).mono ?_; rintro e w1 ⟨rfl, rfl⟩; rw [HD.out])
        go_roundw
        case rel => exact ⟨pos + n, hit2, hbw2, by omega, HN⟩
        case measure =>
          simp only [World.iterPos, hit2, hit]
          omega
    · have hnx : ∀ ty, (Instr.next (.pointer (some ⟨w.heap.size, 0, none⟩)) true ty).run Tryd.prog wr = _ := fun ty => Lib.run_next_end_at wr w.heap.size s pos ty hit hp
      have HN : Hid (R = s.size) := Lib.hid (by rw [← HR.out, List.drop_of_length_le (by simp; omega), ufp_nil]; omega)
      clear HR hR
      go_wp2
      go_ret
      exact ⟨ret_i64 (by rw [HN.out]), hbw⟩
end Go.Proofs.YtnpjbckobokhlaaDoor
