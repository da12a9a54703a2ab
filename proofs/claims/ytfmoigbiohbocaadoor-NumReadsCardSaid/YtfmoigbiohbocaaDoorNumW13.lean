/-
  What the document's own answer Read is: as num's.
-/
import Derived.Test.YtfmoigbiohbocaaDoorNumW12
import Derived.Test.YtfmoigbiohbocaaDoorNumPlain8
namespace Go.Proofs.YtfmoigbiohbocaaDoor
open Go.RowKit Np

theorem side_cases (l : List UInt8) : sideF l = -1 ∨ sideF l = 0 ∨ sideF l = 1 := by
  unfold sideF; split
  · split
    · exact .inl rfl
    · exact .inr (.inr rfl)
  · exact .inr (.inl rfl)
theorem side_pow (l : List UInt8) : sideF l * (worth (Lib.trimLeftB (powF l) 48) : Int) = if downF l = true then -(worth (Lib.trimLeftB (powF l) 48) : Int) else (worth (Lib.trimLeftB (powF l) 48) : Int) := by
  unfold sideF
  cases hx : exF l
  · obtain ⟨_, _, e, _⟩ := at3_no hx
    rw [e]; simp [Lib.trimLeftB, worth]
  · cases hd : downF l <;> simp
theorem neg_byte (s : ByteArray) (h : 0 < s.size) : ((s[0].toNat : Int) == 45) = stands s.data.toList 0 45 := by
  cases h1 : stands s.data.toList 0 45
  · simpa using stands_no h1 h
  · obtain ⟨_, y⟩ := stands_yes h1
    simpa using y
theorem readEnd_at {w w' : World} {s : ByteArray} {r : Nd × Int × Int} {n : Nd} {i c : Int} (h : readF s.data.toList = r) (h2 : r = (n, i, c)) (hb : Below w.heap.size w w') : ReadEnd w s (.returned (.tuple #[ndv n, .int .i64 i, .int .i64 c])) w' := readEnd_of (h.trans h2) hb

set_option maxRecDepth 100000 in
set_option maxHeartbeats 4000000 in
theorem refRead_any (s : ByteArray) (w : World) (hs3 : s.size ≤ 300000) :
    Calls Tryd.prog 16 #[.string s] w (ReadEnd w s) := by
  have hs : s.size ≤ 1000000 := by omega
  have hB : Below w.heap.size w w := Below.refl _ _
  have hle0 := i0F_le s.data.toList
  have hle1 := i1F_le s.data.toList
  have hle3 := i3F_le s.data.toList
  have hle6 := i6F_le s.data.toList
  rw [size_toList] at hle0 hle1 hle3 hle6
  go_enter Tryd.func16, Tryd.ntmps16
  go_wp2_with fail
  refine (refWhole_any s _ hs).mono ?_
  rintro e w1 ⟨rfl, rfl⟩
  cases hb1 : bad1 s.data.toList
  case true =>
    have HV := Lib.hid (readF_form (scanF_1 hb1))
    rw [if_pos rfl]
    clear hb1
    go_wp2_with fail
    exact bodyPost_ret (v := .tuple #[ndv nd0, .int .i64 (i0F s.data.toList), .int .i64 1]) (by simp [results, Tryd.results16, go_sem, ndv, nd0]) rfl (readEnd_of HV.out (hB.alloc (Nat.le_refl _) _))
  have h01 : i0F s.data.toList < i1F s.data.toList := by
    have := bad1_run s.data.toList
    rw [hb1] at this
    cases h : stands s.data.toList (i0F s.data.toList) 48
    · have e := (at1_no h).2.2
      have : 0 < (run s.data.toList (i0F s.data.toList)).length := by
        cases hr : run s.data.toList (i0F s.data.toList) with
        | nil => rw [hr] at this; cases this
        | cons a t => simp
      omega
    · have e := (at1_yes h).2.2
      omega
  rw [if_neg (by simp)]
  have Hb1 := Lib.hid hb1
  clear hb1
  have hp : 0 < s.size := by omega
  go_upto_region 6 with fail
  go_cut [42] (fun s42 wx => s42 = .bool (stands s.data.toList (i1F s.data.toList) 46) ∧ wx = w.alloc (.cells #[.int .i64 0, .int .i64 0, .string ⟨#[]⟩, .string ⟨#[]⟩, .bool false, .int .i64 0] 23))
  case first =>
    cases hd : stands s.data.toList (i1F s.data.toList) 46
    · by_cases hlt : i1F s.data.toList < s.size
      · have hn : ((s[i1F s.data.toList].toNat : Int) == 46) = false := by simpa using stands_no hd hlt
        go_wp2_with fail
        go_meet
        exact ⟨by rw [hd], rfl⟩
      · go_wp2_with fail
        go_meet
        exact ⟨by rw [hd], rfl⟩
    · obtain ⟨hlt, hy⟩ := stands_yes hd
      have hn : ((s[i1F s.data.toList].toNat : Int) == 46) = true := by simpa using hy
      clear hy
      go_wp2_with fail
      go_meet
      exact ⟨by rw [hd], rfl⟩
  case rest =>
    obtain ⟨rfl, rfl⟩ := hcut
    go_upto_if 42 with fail
    go_cut [8, 9, 10] (fun s8 s9 s10 wx => bad2 s.data.toList = false ∧ s8 = .string ⟨(aheadF s.data.toList ++ partF s.data.toList).toArray⟩ ∧ s9 = .int .i64 (-((partF s.data.toList).length : Int)) ∧ s10 = .int .i64 (i3F s.data.toList) ∧ wx = w.alloc (.cells #[.int .i64 0, .int .i64 0, .string ⟨#[]⟩, .string ⟨#[]⟩, .bool false, .int .i64 0] 23))
    case first =>
      cases hd : stands s.data.toList (i1F s.data.toList) 46
      · obtain ⟨e1, e2, e3⟩ := at2_no hd
        have H1 := Lib.hid e1
        have H2 := Lib.hid e2
        have H3 := Lib.hid e3
        clear hd e1 e2 e3
        go_wp2_with fail
        go_meet
        refine ⟨H1.out, congrArg Value.string ?_, by rw [H2.out]; rfl, by rw [H3.out], rfl⟩
        rw [H2.out, List.append_nil]
        exact extract_run s _ _ _ rfl
      · obtain ⟨hlt, _⟩ := stands_yes hd
        obtain ⟨e1, e2, e3⟩ := at2_yes hd
        have H1 := Lib.hid e1
        have H2 := Lib.hid e2
        have H3 := Lib.hid e3
        clear hd e1 e2 e3
        have hrl := run_le s.data.toList (i1F s.data.toList + 1) (by rw [size_toList]; omega)
        rw [size_toList] at hrl
        have HR := Lib.hid (run_take s.data.toList (i1F s.data.toList + 1))
        go_wp2_with fail
        refine (refRun_same s (i1F s.data.toList + 1) _ (by omega) _ (by omega) hs).mono ?_
        rintro e w1 ⟨rfl, rfl⟩
        generalize run s.data.toList (i1F s.data.toList + 1) = rr at *
        cases hL : decide (rr.length = 0)
        · have hL' : ¬ rr.length = 0 := by simpa using hL
          have HBf : Hid (bad2 s.data.toList = false) := Lib.hid (by rw [H1.out]; cases rr with | nil => exact absurd rfl hL' | cons a t => rfl)
          have hq : (((i1F s.data.toList : Int) + 1 + (rr.length : Int)) == (i1F s.data.toList : Int) + 1) = false := by rw [beq_eq_false_iff_ne]; omega
          clear hL hL'
          have hal : (aheadF s.data.toList).length ≤ s.size := by unfold aheadF; rw [List.length_take, List.length_drop, size_toList]; omega
          have HA := Lib.hid (extract_run s (i0F s.data.toList) (i1F s.data.toList) (aheadF s.data.toList) rfl)
          go_wp2_with fail
          go_meet
          refine ⟨HBf.out, congrArg Value.string ?_, congrArg (Value.int .i64) (by rw [H2.out]; omega), congrArg (Value.int .i64) (by rw [H3.out]; omega), rfl⟩
          rw [HA.out, extract_run s (i1F s.data.toList + 1) (i1F s.data.toList + 1 + rr.length) rr (by rw [Nat.add_sub_cancel_left]; exact HR.out), H2.out]
          exact ByteArray.ext (by simp)
        · have hL' : rr.length = 0 := by simpa using hL
          obtain rfl := List.length_eq_zero_iff.1 hL'
          have HV := Lib.hid (readF_form (scanF_2 Hb1.out (by rw [H1.out]; rfl)))
          clear hL hL'
          go_wp2_with fail
          exact bodyPost_ret (v := .tuple #[ndv nd0, .int .i64 (i1F s.data.toList + 1 : Nat), .int .i64 1]) (by simp [results, Tryd.results16, go_sem, ndv, nd0]) rfl (readEnd_of HV.out (hB.alloc (Nat.le_refl _) _))
    case rest =>
      obtain ⟨hb2, rfl, rfl, rfl, rfl⟩ := hcut
      have Hb2 := Lib.hid hb2
      clear hb2
      go_wp2_with fail
      refine (refPower_any s (i3F s.data.toList) _ hs (Lib.hid rfl)).mono ?_
      rintro e w2 ⟨rfl, hb2⟩
      obtain ⟨hc2, hf2⟩ := bcell hb2
      have hz2 : w.heap.size + 1 ≤ w2.heap.size := by have := hb2.size; simp at this; omega
      have hz2' : w.heap.size < w2.heap.size := by omega
      have hB2 : Below w.heap.size w w2 := (hB.alloc (Nat.le_refl _) _).trans (hb2.mono (by simp))
      have k0 : w2.cell? ⟨w.heap.size, 0, none⟩ = some (.int .i64 0) := by rw [hc2 _ _ (by simp)]; simp
      have k1 : w2.cell? ⟨w.heap.size, 1, none⟩ = some (.int .i64 0) := by rw [hc2 _ _ (by simp)]; simp
      have k2 : w2.cell? ⟨w.heap.size, 2, none⟩ = some (.string ⟨#[]⟩) := by rw [hc2 _ _ (by simp)]; simp
      have k3 : w2.cell? ⟨w.heap.size, 3, none⟩ = some (.string ⟨#[]⟩) := by rw [hc2 _ _ (by simp)]; simp
      have k4 : w2.cell? ⟨w.heap.size, 4, none⟩ = some (.bool false) := by rw [hc2 _ _ (by simp)]; simp
      have k5 : w2.cell? ⟨w.heap.size, 5, none⟩ = some (.int .i64 0) := by rw [hc2 _ _ (by simp)]; simp
      have hfz : ∀ o, w2.frozen? ⟨w.heap.size, o, none⟩ = false := fun o => by rw [hf2 _ _ (by simp)]; simp
      clear hb2 hc2 hf2
      by_cases h6 : i6F s.data.toList < s.size
      · have HV := Lib.hid (read_short Hb1.out Hb2.out (by rw [size_toList]; exact h6))
        go_wp2_with fail
        refine bodyPost_ret (v := .tuple #[ndv nd0, .int .i64 (i6F s.data.toList), .int .i64 1]) ?_ rfl (readEnd_of HV.out ?_)
        · simp [results, Tryd.results16, go_sem, ndv, nd0, k0, k1, k2, k3, k4, k5]
        · exact ((((((hB2.setCell (Nat.le_refl _) _).setCell (Nat.le_refl _) _).setCell (Nat.le_refl _) _).setCell (Nat.le_refl _) _).setCell (Nat.le_refl _) _).setCell (Nat.le_refl _) _)
      · cases hb3 : bad3 s.data.toList
        · have Hb3 := Lib.hid hb3
          clear hb3
          have HS := Lib.hid (scan_all Hb1.out Hb2.out Hb3.out (by rw [size_toList]; omega))
          have hsd := side_cases s.data.toList
          have HP := Lib.hid (side_pow s.data.toList)
          have hfig := (scanF_figs s.data.toList).2.2
          have hplen := (scanF_len s.data.toList).2.2
          have hptl := (scanF_len s.data.toList).2.1
          rw [HS.out] at hfig hplen hptl
          rw [size_toList] at hplen hptl
          have HG := Lib.hid hfig
          have HL := Lib.hid (readF_large HS.out)
          have HO := Lib.hid (readF_ok HS.out)
          have hcond : sideF s.data.toList = 0 ∨ (powF s.data.toList).isEmpty = false := by
            have := Hb3.out
            unfold bad3 at this
            unfold sideF
            cases hx : exF s.data.toList
            · left; simp
            · right; rw [hx] at this; simpa using this
          clear hfig Hb3
          simp only at HG HL HO hplen hptl
          have hal : (aheadF s.data.toList).length ≤ s.size := by unfold aheadF; rw [List.length_take, List.length_drop, size_toList]; omega
          have HNg : Hid (((s[0].toNat : Int) == 45) = stands s.data.toList 0 45) := Lib.hid (neg_byte s hp)
          generalize powF s.data.toList = pw at *
          generalize hsf : sideF s.data.toList = sd at *
          clear hsf
          go_upto_region 13 with fail
          go_cut [82] (fun s82 wx => s82 = .bool false ∧ w2 = wx)
          case first =>
            rcases hsd with rfl | rfl | rfl
            · have hpe : pw.isEmpty = false := by rcases hcond with h | h; (cases h); exact h
              clear hcond
              go_wp2_with fail
              go_meet
              exact ⟨by simp, rfl⟩
            · clear hcond
              go_wp2_with fail
              go_meet
              exact ⟨by simp, rfl⟩
            · have hpe : pw.isEmpty = false := by rcases hcond with h | h; (cases h); exact h
              clear hcond
              go_wp2_with fail
              go_meet
              exact ⟨by simp, rfl⟩
          case rest =>
            obtain ⟨rfl, rfl⟩ := hcut
            clear hcond
            go_upto_block 0 with fail
            go_cut [12] (fun s12 wx => ∃ t : ByteArray, s12 = .string t ∧ t.data.toList = Lib.trimLeftB pw 48 ∧ t.size ≤ pw.length ∧ w2 = wx)
            case first =>
              go_wp2_with fail
              go_loop [12] (fun v => ∃ t : ByteArray, v = .string t ∧ t.size ≤ pw.length ∧ Lib.trimLeftB t.data.toList 48 = Lib.trimLeftB pw 48) (fun v => match v with | .string s => s.size | _ => 0)
              case atStart => exact ⟨⟨pw.toArray⟩, rfl, Nat.le_refl _, rfl⟩
              case round =>
                obtain ⟨t, rfl, ht, hq⟩ := hrel
                have HQ := Lib.hid hq; clear hq
                by_cases hp2 : 0 < t.size
                · by_cases hc : (t[0].toNat : Int) = 48
                  · have HT := Lib.hid ((trimLeft_step t hp2 (byte48 hc)).trans HQ.out)
                    have HLn := Lib.hid (extract_len t 1 t.size (by omega) (Nat.le_refl _))
                    have hcb : ((t[0].toNat : Int) == 48) = true := by simpa using hc
                    clear hc
                    go_wp2_with fail
                    go_round
                    case rel => exact ⟨_, rfl, by rw [HLn.out]; omega, HT.out⟩
                    case measure => simp only; rw [HLn.out]; omega
                  · have HT := Lib.hid ((trimLeft_stop t (fun _ => byteNot48 hc)).symm.trans HQ.out)
                    have hcb : ((t[0].toNat : Int) == 48) = false := by simpa using hc
                    clear hc
                    go_wp2_with fail
                    go_meet
                    exact ⟨t, rfl, HT.out, ht, rfl⟩
                · have HT := Lib.hid ((trimLeft_stop t (fun h => absurd h hp2)).symm.trans HQ.out)
                  go_wp2_with fail
                  go_meet
                  exact ⟨t, rfl, HT.out, ht, rfl⟩
            case rest =>
              obtain ⟨t, rfl, ht, htl, rfl⟩ := hcut
              have HT := Lib.hid ht
              clear ht
              by_cases h7 : 6 < t.size
              · have HV := Lib.hid (HL.out (by rw [← HT.out, size_toList]; exact h7))
                go_wp2_with fail
                refine bodyPost_ret (v := .tuple #[ndv nd0, .int .i64 0, .int .i64 2]) ?_ rfl (readEnd_of HV.out ?_)
                · simp [results, Tryd.results16, go_sem, ndv, nd0, k0, k1, k2, k3, k4, k5]
                · exact ((((((hB2.setCell (Nat.le_refl _) _).setCell (Nat.le_refl _) _).setCell (Nat.le_refl _) _).setCell (Nat.le_refl _) _).setCell (Nat.le_refl _) _).setCell (Nat.le_refl _) _)
              · have HV := Lib.hid (HO.out (by rw [← HT.out, size_toList]; exact h7))
                clear HO HL
                have HTF : Hid (figs t.data.toList = true) := Lib.hid (by rw [HT.out]; exact figs_trimLeft HG.out)
                go_wp2_with fail
                go_loop [14, 15] (fun n i => ∃ k : Nat, k ≤ t.size ∧ i = .int .i64 k ∧ n = .int .i64 (worth (t.data.toList.take k))) (fun _ i => t.size - (intOf i).toNat)
                case atStart => exact ⟨0, Nat.zero_le _, rfl, rfl⟩
                case round =>
                  obtain ⟨k, hk, rfl, rfl⟩ := hrel
                  by_cases hlt : k < t.size
                  · have hfk := (fig_iff _).1 (figs_at HTF.out (by simpa using hlt))
                    rw [get_toList t k hlt] at hfk
                    have HS2 : Hid (worth (t.data.toList.take (k + 1)) = 10 * worth (t.data.toList.take k) + (t[k].toNat - 48)) := Lib.hid (by
                      rw [take_snoc _ k (by simpa using hlt), worth_snoc, get_toList t k hlt])
                    have hwb := worth_small (t.data.toList.take k) (by simp; omega) (figs_take HTF.out k)
                    generalize worth (t.data.toList.take k) = n at HS2 hwb ⊢
                    obtain ⟨hf1, hf2⟩ := hfk
                    go_wp2
                    go_round
                    case rel => exact ⟨k + 1, by omega, by go_num, by rw [HS2.out]; go_num⟩
                    case measure => simp [intOf]; omega
                  · have HW : Hid (worth (t.data.toList.take k) = worth (Lib.trimLeftB pw 48)) := Lib.hid (by rw [List.take_of_length_le (by simp; omega), HT.out])
                    have hwb := worth_small (t.data.toList.take k) (by simp; omega) (figs_take HTF.out k)
                    generalize worth (t.data.toList.take k) = n at *
                    rcases hsd with rfl | rfl | rfl
                    · have HM : Hid (mkW ⟨stands s.data.toList 0 45, wholeF s.data.toList, partF s.data.toList, downF s.data.toList, pw⟩ = mk ((s[0].toNat : Int) == 45) (ByteArray.mk (aheadF s.data.toList ++ partF s.data.toList).toArray).data.toList (-((partF s.data.toList).length : Int) + -(n : Int))) := Lib.hid (by
                        show mk _ _ (powOf _ - _) = _
                        rw [HNg.out, show (ByteArray.mk (aheadF s.data.toList ++ partF s.data.toList).toArray).data.toList = aheadF s.data.toList ++ partF s.data.toList from rfl, mk_ahead]
                        congr 1
                        unfold powOf
                        simp only
                        rw [← HP.out, ← HW.out]; omega)
                      clear HP HW
                      go_wp2_with fail
                      refine (refMake_any _ _ _ _ (by rw [← size_toList]; simp; omega) (by omega) (by omega)).mono ?_
                      rintro e3 w3 ⟨rfl, hb3⟩
                      rw [← HM.out]
                      have hB3 : Below w.heap.size w w3 := hB2.trans (hb3.mono (by omega))
                      have hz3 : w.heap.size < w3.heap.size := by have := hb3.size; omega
                      have j0 := (hb3.cell (p := ⟨w.heap.size, 0, none⟩) hz2').trans k0
                      have j1 := (hb3.cell (p := ⟨w.heap.size, 1, none⟩) hz2').trans k1
                      have j2 := (hb3.cell (p := ⟨w.heap.size, 2, none⟩) hz2').trans k2
                      have j3 := (hb3.cell (p := ⟨w.heap.size, 3, none⟩) hz2').trans k3
                      have j4 := (hb3.cell (p := ⟨w.heap.size, 4, none⟩) hz2').trans k4
                      have j5 := (hb3.cell (p := ⟨w.heap.size, 5, none⟩) hz2').trans k5
                      have jf : ∀ o, w3.frozen? ⟨w.heap.size, o, none⟩ = false := fun o => (hb3.frozen (p := ⟨w.heap.size, o, none⟩) hz2').trans (hfz o)
                      clear hb3 k0 k1 k2 k3 k4 k5 hfz
                      generalize mkW ⟨stands s.data.toList 0 45, wholeF s.data.toList, partF s.data.toList, downF s.data.toList, pw⟩ = m at HV ⊢
                      obtain ⟨⟨a0, a1, a2, a3, a4, a5⟩, c⟩ := m
                      simp only [ndv]
                      go_wp2_with fail
                      refine bodyPost_ret (v := .tuple #[ndv ⟨a0, a1, a2, a3, a4, a5⟩, .int .i64 0, .int .i64 c]) ?_ rfl (readEnd_of HV.out ?_)
                      · simp [results, Tryd.results16, go_sem, ndv, j0, j1, j2, j3, j4, j5, hz3]
                      · exact ((((((hB3.setCell (Nat.le_refl _) _).setCell (Nat.le_refl _) _).setCell (Nat.le_refl _) _).setCell (Nat.le_refl _) _).setCell (Nat.le_refl _) _).setCell (Nat.le_refl _) _).alloc (by simp; omega) _
                    · have HM : Hid (mkW ⟨stands s.data.toList 0 45, wholeF s.data.toList, partF s.data.toList, downF s.data.toList, pw⟩ = mk ((s[0].toNat : Int) == 45) (ByteArray.mk (aheadF s.data.toList ++ partF s.data.toList).toArray).data.toList (-((partF s.data.toList).length : Int))) := Lib.hid (by
                        show mk _ _ (powOf _ - _) = _
                        rw [HNg.out, show (ByteArray.mk (aheadF s.data.toList ++ partF s.data.toList).toArray).data.toList = aheadF s.data.toList ++ partF s.data.toList from rfl, mk_ahead]
                        congr 1
                        unfold powOf
                        simp only
                        rw [← HP.out, ← HW.out]; omega)
                      clear HP HW
                      go_wp2_with fail
                      refine (refMake_any _ _ _ _ (by rw [← size_toList]; simp; omega) (by omega) (by omega)).mono ?_
                      rintro e3 w3 ⟨rfl, hb3⟩
                      rw [← HM.out]
                      have hB3 : Below w.heap.size w w3 := hB2.trans (hb3.mono (by omega))
                      have hz3 : w.heap.size < w3.heap.size := by have := hb3.size; omega
                      have j0 := (hb3.cell (p := ⟨w.heap.size, 0, none⟩) hz2').trans k0
                      have j1 := (hb3.cell (p := ⟨w.heap.size, 1, none⟩) hz2').trans k1
                      have j2 := (hb3.cell (p := ⟨w.heap.size, 2, none⟩) hz2').trans k2
                      have j3 := (hb3.cell (p := ⟨w.heap.size, 3, none⟩) hz2').trans k3
                      have j4 := (hb3.cell (p := ⟨w.heap.size, 4, none⟩) hz2').trans k4
                      have j5 := (hb3.cell (p := ⟨w.heap.size, 5, none⟩) hz2').trans k5
                      have jf : ∀ o, w3.frozen? ⟨w.heap.size, o, none⟩ = false := fun o => (hb3.frozen (p := ⟨w.heap.size, o, none⟩) hz2').trans (hfz o)
                      clear hb3 k0 k1 k2 k3 k4 k5 hfz
                      generalize mkW ⟨stands s.data.toList 0 45, wholeF s.data.toList, partF s.data.toList, downF s.data.toList, pw⟩ = m at HV ⊢
                      obtain ⟨⟨a0, a1, a2, a3, a4, a5⟩, c⟩ := m
                      simp only [ndv]
                      go_wp2_with fail
                      refine bodyPost_ret (v := .tuple #[ndv ⟨a0, a1, a2, a3, a4, a5⟩, .int .i64 0, .int .i64 c]) ?_ rfl (readEnd_of HV.out ?_)
                      · simp [results, Tryd.results16, go_sem, ndv, j0, j1, j2, j3, j4, j5, hz3]
                      · exact ((((((hB3.setCell (Nat.le_refl _) _).setCell (Nat.le_refl _) _).setCell (Nat.le_refl _) _).setCell (Nat.le_refl _) _).setCell (Nat.le_refl _) _).setCell (Nat.le_refl _) _).alloc (by simp; omega) _
                    · have HM : Hid (mkW ⟨stands s.data.toList 0 45, wholeF s.data.toList, partF s.data.toList, downF s.data.toList, pw⟩ = mk ((s[0].toNat : Int) == 45) (ByteArray.mk (aheadF s.data.toList ++ partF s.data.toList).toArray).data.toList (-((partF s.data.toList).length : Int) + (n : Int))) := Lib.hid (by
                        show mk _ _ (powOf _ - _) = _
                        rw [HNg.out, show (ByteArray.mk (aheadF s.data.toList ++ partF s.data.toList).toArray).data.toList = aheadF s.data.toList ++ partF s.data.toList from rfl, mk_ahead]
                        congr 1
                        unfold powOf
                        simp only
                        rw [← HP.out, ← HW.out]; omega)
                      clear HP HW
                      go_wp2_with fail
                      refine (refMake_any _ _ _ _ (by rw [← size_toList]; simp; omega) (by omega) (by omega)).mono ?_
                      rintro e3 w3 ⟨rfl, hb3⟩
                      rw [← HM.out]
                      have hB3 : Below w.heap.size w w3 := hB2.trans (hb3.mono (by omega))
                      have hz3 : w.heap.size < w3.heap.size := by have := hb3.size; omega
                      have j0 := (hb3.cell (p := ⟨w.heap.size, 0, none⟩) hz2').trans k0
                      have j1 := (hb3.cell (p := ⟨w.heap.size, 1, none⟩) hz2').trans k1
                      have j2 := (hb3.cell (p := ⟨w.heap.size, 2, none⟩) hz2').trans k2
                      have j3 := (hb3.cell (p := ⟨w.heap.size, 3, none⟩) hz2').trans k3
                      have j4 := (hb3.cell (p := ⟨w.heap.size, 4, none⟩) hz2').trans k4
                      have j5 := (hb3.cell (p := ⟨w.heap.size, 5, none⟩) hz2').trans k5
                      have jf : ∀ o, w3.frozen? ⟨w.heap.size, o, none⟩ = false := fun o => (hb3.frozen (p := ⟨w.heap.size, o, none⟩) hz2').trans (hfz o)
                      clear hb3 k0 k1 k2 k3 k4 k5 hfz
                      generalize mkW ⟨stands s.data.toList 0 45, wholeF s.data.toList, partF s.data.toList, downF s.data.toList, pw⟩ = m at HV ⊢
                      obtain ⟨⟨a0, a1, a2, a3, a4, a5⟩, c⟩ := m
                      simp only [ndv]
                      go_wp2_with fail
                      refine bodyPost_ret (v := .tuple #[ndv ⟨a0, a1, a2, a3, a4, a5⟩, .int .i64 0, .int .i64 c]) ?_ rfl (readEnd_of HV.out ?_)
                      · simp [results, Tryd.results16, go_sem, ndv, j0, j1, j2, j3, j4, j5, hz3]
                      · exact ((((((hB3.setCell (Nat.le_refl _) _).setCell (Nat.le_refl _) _).setCell (Nat.le_refl _) _).setCell (Nat.le_refl _) _).setCell (Nat.le_refl _) _).setCell (Nat.le_refl _) _).alloc (by simp; omega) _
        · have HV := Lib.hid (read_bad3 Hb1.out Hb2.out hb3)
          have hx : exF s.data.toList = true ∧ powF s.data.toList = [] := by
            unfold bad3 at hb3
            rw [Bool.and_eq_true] at hb3
            exact ⟨hb3.1, List.isEmpty_iff.1 hb3.2⟩
          clear hb3
          have hsd : sideF s.data.toList = -1 ∨ sideF s.data.toList = 1 := by
            unfold sideF
            rw [if_pos hx.1]
            split
            · exact .inl rfl
            · exact .inr rfl
          rw [hx.2]
          clear hx
          generalize sideF s.data.toList = sd at *
          rcases hsd with rfl | rfl
          · go_wp2_with fail
            refine bodyPost_ret (v := .tuple #[ndv nd0, .int .i64 (i6F s.data.toList), .int .i64 1]) ?_ rfl (readEnd_of HV.out ?_)
            · simp [results, Tryd.results16, go_sem, ndv, nd0, k0, k1, k2, k3, k4, k5]
            · exact ((((((hB2.setCell (Nat.le_refl _) _).setCell (Nat.le_refl _) _).setCell (Nat.le_refl _) _).setCell (Nat.le_refl _) _).setCell (Nat.le_refl _) _).setCell (Nat.le_refl _) _)
          · go_wp2_with fail
            refine bodyPost_ret (v := .tuple #[ndv nd0, .int .i64 (i6F s.data.toList), .int .i64 1]) ?_ rfl (readEnd_of HV.out ?_)
            · simp [results, Tryd.results16, go_sem, ndv, nd0, k0, k1, k2, k3, k4, k5]
            · exact ((((((hB2.setCell (Nat.le_refl _) _).setCell (Nat.le_refl _) _).setCell (Nat.le_refl _) _).setCell (Nat.le_refl _) _).setCell (Nat.le_refl _) _).setCell (Nat.le_refl _) _)

end Go.Proofs.YtfmoigbiohbocaaDoor
