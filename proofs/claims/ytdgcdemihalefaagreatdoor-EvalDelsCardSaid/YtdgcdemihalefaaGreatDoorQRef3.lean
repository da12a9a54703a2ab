/-
  What the document's own answers on escapes are: unit, utf, escape, taken.
-/
import Derived.Test.YtdgcdemihalefaaGreatDoorQRef2
namespace Go.Proofs.YtdgcdemihalefaaGreatDoor
open Go.RowKit Np Up Qp

theorem bt_at (s : ByteArray) (k : Nat) (h : k < s.size) : bt s.data.toList k = s[k].toNat := by
  have := bt_get s 0 k (by omega)
  simp only [Nat.zero_add, List.drop_zero] at this
  exact this.symm
theorem bt_at' (s : ByteArray) (k j : Nat) (h : k + j < s.size) : bt (s.data.toList.drop k) j = s[k + j].toNat := (bt_get s k j h).symm

/-- How great a number of so many figures is. -/
def Bd (j : Nat) (a : Nat) : Prop := j = 0 ∧ a = 0 ∨ j = 1 ∧ a < 16 ∨ j = 2 ∧ a < 256 ∨ j = 3 ∧ a < 4096 ∨ j = 4 ∧ a < 65536
theorem Bd.step {j a d : Nat} (h : Bd j a) (hj : j < 4) (hd : d < 16) : Bd (j + 1) (a * 16 + d) := by
  unfold Bd at *
  omega
theorem Bd.le {j a : Nat} (h : Bd j a) : a < 65536 := by
  unfold Bd at h
  omega
theorem hvs_none {c : UInt8} {r : List UInt8} {a : Nat} (h : hv c = none) : hvs (c :: r) a = none := by rw [hvs, h]
theorem hvs_step {c : UInt8} {r : List UInt8} {a d : Nat} (h : hv c = some d) : hvs (c :: r) a = hvs r (a * 16 + d) := by rw [hvs, h]
def unI : Option Nat → Int
  | some a => a
  | none => -1

set_option maxHeartbeats 4000000 in
theorem refUnit_any (s : ByteArray) (i : Nat) (w : World) (hs : s.size ≤ 1073741824) (hi : i ≤ 4294967296) :
    Calls Tryz.prog 309 #[.string s, .int .i64 i] w fun e w' => e = .returned (.int .i64 (unI (un (s.data.toList.drop i)))) ∧ w = w' := by
  by_cases h6 : i + 6 ≤ s.size
  · have hb0 : bt (s.data.toList.drop i) 0 = s[i].toNat := bt_at' s i 0 (by omega)
    have hb1 := bt_at' s i 1 (by omega)
    by_cases hc : s[i].toNat = 92 ∧ s[i + 1].toNat = 117
    · obtain ⟨c0, c1⟩ := hc
      have HU : Hid (un (s.data.toList.drop i) = hvs (((s.data.toList.drop i).drop 2).take 4) 0) := Lib.hid (by
        rw [un, if_pos ⟨by simp; omega, by rw [hb0, c0], by rw [hb1, c1]⟩])
      have hD : ((((s.data.toList.drop i).drop 2).take 4)).length = 4 := by simp; omega
      have hDg : ∀ (m : Nat) (h0 : i + 2 ≤ m) (hm : m < i + 6), ((((s.data.toList.drop i).drop 2).take 4))[m - (i + 2)]'(by rw [hD]; omega) = s[m]'(by omega) := by
        intro m h0 hm
        simp only [List.getElem_take, List.getElem_drop]
        show s.data.toList[_]'_ = s.data.toList[m]'_
        congr 1
        omega
      generalize ((s.data.toList.drop i).drop 2).take 4 = D at HU hD hDg
      have hlast : D.drop (i + 6 - (i + 2)) = [] := List.drop_of_length_le (by omega)
      clear hb0 hb1
      go_enter Tryz.func309, Tryz.ntmps309
      go_wp2
      go_loop [5, 6] (fun n k => ∃ m acc : Nat, i + 2 ≤ m ∧ m ≤ i + 6 ∧ n = .int .i64 acc ∧ k = .int .i64 m ∧ Hid (hvs (D.drop (m - (i + 2))) acc = hvs D 0) ∧ Bd (m - (i + 2)) acc) (fun _ k => i + 6 - (intOf k).toNat)
      case atStart => exact ⟨i + 2, 0, by omega, by omega, rfl, by go_num, Lib.hid (by simp), .inl ⟨by omega, rfl⟩⟩
      case round =>
        obtain ⟨m, acc, hm0, hm1, rfl, rfl, hH, hbd⟩ := hrel
        have hacc := hbd.le
        by_cases hm : m < i + 6
        · have hms : m < s.size := by omega
          have hdr : D.drop (m - (i + 2)) = s[m] :: D.drop (m + 1 - (i + 2)) := by
            rw [← hDg m hm0 hm, show m + 1 - (i + 2) = m - (i + 2) + 1 by omega]; exact List.drop_eq_getElem_cons (by omega)
          have HX := hH.out
          rw [hdr] at HX
          clear hdr hDg hH
          have hc256 : s[m].toNat < 256 := s[m].toNat_lt
          by_cases r1 : 48 ≤ s[m].toNat ∧ s[m].toNat ≤ 57
          · have hd : hv s[m] = some (s[m].toNat - 48) := by rw [hv, if_pos r1]
            rw [hvs_step hd] at HX
            have HX' := Lib.hid HX
            have hb' := hbd.step (by omega) (show s[m].toNat - 48 < 16 by omega)
            rw [show m - (i + 2) + 1 = m + 1 - (i + 2) by omega] at hb'
            clear HX hd hbd
            obtain ⟨r1a, r1b⟩ := r1
            go_wp2
            go_round
            case rel => exact ⟨m + 1, acc * 16 + (s[m].toNat - 48), by omega, by omega, by go_num, by go_num, HX', hb'⟩
            case measure => simp [intOf]; omega
          by_cases r2 : 97 ≤ s[m].toNat ∧ s[m].toNat ≤ 102
          · have hd : hv s[m] = some (s[m].toNat - 87) := by rw [hv, if_neg r1, if_pos r2]
            rw [hvs_step hd] at HX
            have HX' := Lib.hid HX
            have hb' := hbd.step (by omega) (show s[m].toNat - 87 < 16 by omega)
            rw [show m - (i + 2) + 1 = m + 1 - (i + 2) by omega] at hb'
            clear HX hd hbd r1
            obtain ⟨r2a, r2b⟩ := r2
            go_wp2
            go_round
            case rel => exact ⟨m + 1, acc * 16 + (s[m].toNat - 87), by omega, by omega, by go_num, by go_num, HX', hb'⟩
            case measure => simp [intOf]; omega
          by_cases r3 : 65 ≤ s[m].toNat ∧ s[m].toNat ≤ 70
          · have hd : hv s[m] = some (s[m].toNat - 55) := by rw [hv, if_neg r1, if_neg r2, if_pos r3]
            rw [hvs_step hd] at HX
            have HX' := Lib.hid HX
            have hb' := hbd.step (by omega) (show s[m].toNat - 55 < 16 by omega)
            rw [show m - (i + 2) + 1 = m + 1 - (i + 2) by omega] at hb'
            clear HX hd hbd r1 r2
            obtain ⟨r3a, r3b⟩ := r3
            go_wp2
            go_round
            case rel => exact ⟨m + 1, acc * 16 + (s[m].toNat - 55), by omega, by omega, by go_num, by go_num, HX', hb'⟩
            case measure => simp [intOf]; omega
          · have hd : hv s[m] = none := by rw [hv, if_neg r1, if_neg r2, if_neg r3]
            rw [hvs_none hd] at HX
            have HX' := Lib.hid HX
            clear HX hd hbd
            go_wp2
            all_goals go_ret
            all_goals exact ⟨ret_i64 (by rw [HU.out, ← HX'.out]; rfl), rfl⟩
        · have HX := hH.out
          have hme : m = i + 6 := by omega
          subst hme
          rw [hlast] at HX
          have HX' := Lib.hid HX
          clear HX hH hDg
          go_wp2
          go_ret
          exact ⟨ret_i64 (by rw [HU.out, ← HX'.out]; rfl), rfl⟩
    · have HU : Hid (un (s.data.toList.drop i) = none) := Lib.hid (by
        rw [un, if_neg]
        rw [hb0, hb1]
        exact fun h => hc h.2)
      clear hb0 hb1
      by_cases c0 : s[i].toNat = 92
      · have c1 : ((s[i + 1].toNat : Int) != 117) = true := by
          rw [bne_iff_ne]; omega
        clear hc
        go_enter Tryz.func309, Tryz.ntmps309
        go_wp2
        all_goals go_ret
        all_goals exact ⟨ret_i64 (by rw [HU.out]; rfl), rfl⟩
      · have c1 : ((s[i].toNat : Int) != 92) = true := by
          rw [bne_iff_ne]; omega
        clear hc c0
        go_enter Tryz.func309, Tryz.ntmps309
        go_wp2
        all_goals go_ret
        all_goals exact ⟨ret_i64 (by rw [HU.out]; rfl), rfl⟩
  · have HU : Hid (un (s.data.toList.drop i) = none) := Lib.hid (by
      rw [un, if_neg]
      rw [List.length_drop, size_toList]
      exact fun h => by omega)
    go_enter Tryz.func309, Tryz.ntmps309
    go_wp2
    go_ret
    exact ⟨ret_i64 (by rw [HU.out]; rfl), rfl⟩
theorem bytes_row (w : World) (xs : List Int) : (convert 63 9 (.slice (some ⟨w.heap.size, 0, none⟩) xs.length xs.length)).run Tryz.prog (w.alloc (.cells (xs.map (.int .u8)).toArray 5))
    = .ok (.string ⟨(xs.map fun x => x.toNat.toUInt8).toArray⟩) (w.alloc (.cells (xs.map (.int .u8)).toArray 5)) :=
  run_convert_bytes_arg _ 63 5 Tryz.underlying63 Tryz.underlying5 w.heap.size 0 xs.length xs.length xs rfl (fun i hi => by
    rw [Nat.zero_add, World.cell?_alloc_new]
    simp [List.getD, hi]) 9 Tryz.underlying9

set_option maxRecDepth 100000 in
set_option maxHeartbeats 4000000 in
theorem refUtf_code (n : Int) (w : World) (h0 : 0 ≤ n) (h1 : n ≤ 1114111) (hn : n < 55296 ∨ 57343 < n) :
    Calls Tryz.prog 310 #[.int .i64 n] w fun e w' => e = .returned (.string ⟨(Lib.encodeRune n).toArray⟩) ∧ Below w.heap.size w w' := by
  have hB : Below w.heap.size w w := Below.refl _ _
  by_cases c1 : n < 128
  · have hcv := bytes_row w [n]
    simp only [List.length_cons, List.length_nil, List.map_cons, List.map_nil, Nat.zero_add] at hcv
    go_enter Tryz.func310, Tryz.ntmps310
    go_wp2_with fail
    go_ret
    exact ⟨ret_list (by rw [Lib.encodeRune, Lib.encodeRuneZ_one h0 (by omega)]; rfl), hB.alloc (Nat.le_refl _) _⟩
  by_cases c2 : n < 2048
  · have hcv := bytes_row w [192 + n / 64, 128 + n % 64]
    simp only [List.length_cons, List.length_nil, List.map_cons, List.map_nil, Nat.zero_add, Nat.reduceAdd] at hcv
    go_enter Tryz.func310, Tryz.ntmps310
    go_wp2_with fail
    go_ret
    exact ⟨ret_list (by rw [Lib.encodeRune, Lib.encodeRuneZ_two (by omega) (by omega)]; rfl), hB.alloc (Nat.le_refl _) _⟩
  by_cases c3 : n < 65536
  · have hcv := bytes_row w [224 + n / 4096, 128 + n / 64 % 64, 128 + n % 64]
    simp only [List.length_cons, List.length_nil, List.map_cons, List.map_nil, Nat.zero_add, Nat.reduceAdd] at hcv
    have HE : Hid (Lib.encodeRune n = [224 + n / 4096, 128 + n / 64 % 64, 128 + n % 64].map fun x => x.toNat.toUInt8) := Lib.hid (by rw [Lib.encodeRune, Lib.encodeRuneZ_three (by omega)])
    clear hn
    go_enter Tryz.func310, Tryz.ntmps310
    go_wp2_with fail
    go_ret
    exact ⟨ret_list (by rw [HE.out]; rfl), hB.alloc (Nat.le_refl _) _⟩
  · have hcv := bytes_row w [240 + n / 262144, 128 + n / 4096 % 64, 128 + n / 64 % 64, 128 + n % 64]
    simp only [List.length_cons, List.length_nil, List.map_cons, List.map_nil, Nat.zero_add, Nat.reduceAdd] at hcv
    have HE : Hid (Lib.encodeRune n = [240 + n / 262144, 128 + n / 4096 % 64, 128 + n / 64 % 64, 128 + n % 64].map fun x => x.toNat.toUInt8) := Lib.hid (by rw [Lib.encodeRune, Lib.encodeRuneZ_four (by omega) h1])
    clear hn
    go_enter Tryz.func310, Tryz.ntmps310
    go_wp2_with fail
    go_ret
    exact ⟨ret_list (by rw [HE.out]; rfl), hB.alloc (Nat.le_refl _) _⟩
end Go.Proofs.YtdgcdemihalefaaGreatDoor
