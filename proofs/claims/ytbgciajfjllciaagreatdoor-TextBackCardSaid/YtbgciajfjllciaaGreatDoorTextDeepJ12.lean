/-
  Joined: NumW6, NumW7.
-/
import Derived.Test.YtbgciajfjllciaaGreatDoorNumW5
import Derived.Test.YtbgciajfjllciaaGreatDoorTextDeepJ1
import Derived.Lib.ItoaLen

/-
  What num.Read answers.
-/
namespace Go.Proofs.YtbgciajfjllciaaGreatDoor
open Go.RowKit Np

/-- How Read ends. -/
def ReadEnd (w : World) (s : ByteArray) (e : Ending) (w' : World) : Prop :=
  e = .returned (.tuple #[ndv (readF s.data.toList).1, .int .i64 (readF s.data.toList).2.1, .int .i64 (readF s.data.toList).2.2]) ∧ Below w.heap.size w w'
theorem readEnd_of {w w' : World} {s : ByteArray} {n : Nd} {i c : Int} (h : readF s.data.toList = (n, i, c)) (hb : Below w.heap.size w w') : ReadEnd w s (.returned (.tuple #[ndv n, .int .i64 i, .int .i64 c])) w' := by
  unfold ReadEnd; rw [h]; exact ⟨rfl, hb⟩

set_option maxHeartbeats 1000000 in
theorem read_any (s : ByteArray) (w : World) (hs : s.size ≤ 1000000) :
    Calls Tryz.prog 70 #[.string s] w (ReadEnd w s) := by
  have hB : Below w.heap.size w w := Below.refl _ _
  have hs2 : s.size ≤ maxLen := by unfold maxLen; omega
  go_enter Tryz.func70, Tryz.ntmps70
  go_wp2_with fail
  refine (scan_any s _ hs2).mono ?_
  rintro e w1 ⟨rfl, hb1⟩
  obtain ⟨hc1, hf1⟩ := kept_cells hb1
  have hz1 : w.heap.size + 1 ≤ w1.heap.size := by have := hb1.size; simp at this; omega
  have hz1' : w.heap.size < w1.heap.size := by omega
  have hB1 : Below w.heap.size w w1 := (hB.alloc (Nat.le_refl _) _).trans (hb1.mono (by simp))
  have k0 : w1.cell? ⟨w.heap.size, 0, none⟩ = some (.int .i64 0) := by rw [hc1 _ _ (by simp)]; simp
  have k1 : w1.cell? ⟨w.heap.size, 1, none⟩ = some (.int .i64 0) := by rw [hc1 _ _ (by simp)]; simp
  have k2 : w1.cell? ⟨w.heap.size, 2, none⟩ = some (.string ⟨#[]⟩) := by rw [hc1 _ _ (by simp)]; simp
  have k3 : w1.cell? ⟨w.heap.size, 3, none⟩ = some (.string ⟨#[]⟩) := by rw [hc1 _ _ (by simp)]; simp
  have k4 : w1.cell? ⟨w.heap.size, 4, none⟩ = some (.bool false) := by rw [hc1 _ _ (by simp)]; simp
  have k5 : w1.cell? ⟨w.heap.size, 5, none⟩ = some (.int .i64 0) := by rw [hc1 _ _ (by simp)]; simp
  have hfz : ∀ o, w1.frozen? ⟨w.heap.size, o, none⟩ = false := fun o => by rw [hf1 _ _ (by simp)]; simp
  clear hb1 hc1 hf1
  have hfig := scanF_figs s.data.toList
  have hlen := scanF_len s.data.toList
  rw [size_toList] at hlen
  generalize hr : scanF s.data.toList = r at hfig hlen ⊢
  have Hr := Lib.hid hr; clear hr
  obtain ⟨⟨g, wh, pt, dn, pw⟩, i, ok⟩ := r
  obtain ⟨hg1, hg2, hg3⟩ := hfig
  obtain ⟨hl1, hl2, hl3⟩ := hlen
  have G1 := Lib.hid hg1
  have G2 := Lib.hid hg2
  have G3 := Lib.hid hg3
  clear hg1 hg2 hg3
  simp only at hl1 hl2 hl3
  simp only [wrv]
  cases ok
  · have HV := Lib.hid (readF_form Hr.out)
    go_wp2_with fail
    refine bodyPost_ret (v := .tuple #[ndv nd0, .int .i64 i, .int .i64 1]) ?_ rfl (readEnd_of HV.out ?_)
    · simp [results, Tryz.results70, go_sem, ndv, nd0, k0, k1, k2, k3, k4, k5, hz1']
    · exact ((((((hB1.setCell (Nat.le_refl _) _).setCell (Nat.le_refl _) _).setCell (Nat.le_refl _) _).setCell (Nat.le_refl _) _).setCell (Nat.le_refl _) _).setCell (Nat.le_refl _) _).alloc (by simp; omega) _
  · go_wp2_with fail
    refine (Tryz.strings_TrimLeft_one _ 48 (by decide) _).mono ?_
    rintro e w2 ⟨rfl, rfl⟩
    have G4 := Lib.hid (figs_trimLeft G3.out)
    have hl4 : (Lib.trimLeftB pw 48).length ≤ s.size := Nat.le_trans (List.IsSuffix.length_le (List.dropWhile_suffix _)) hl3
    have HL := Lib.hid (readF_large Hr.out)
    have HO := Lib.hid (readF_ok Hr.out)
    have HM : Hid (mkW ⟨g, wh, pt, dn, pw⟩ = mk g (wh ++ pt) ((if dn = true then -(worth (Lib.trimLeftB pw 48) : Int) else (worth (Lib.trimLeftB pw 48) : Int)) - pt.length)) := Lib.hid rfl
    simp only at G4 HL HO
    generalize Lib.trimLeftB pw 48 = q at *
    by_cases h6 : 6 < q.length
    · have HV := Lib.hid (HL.out h6)
      clear HL HO HM
      go_wp2_with fail
      refine bodyPost_ret (v := .tuple #[ndv nd0, .int .i64 0, .int .i64 2]) ?_ rfl (readEnd_of HV.out ?_)
      · simp [results, Tryz.results70, go_sem, ndv, nd0, k0, k1, k2, k3, k4, k5, hz1']
      · exact ((((((hB1.setCell (Nat.le_refl _) _).setCell (Nat.le_refl _) _).setCell (Nat.le_refl _) _).setCell (Nat.le_refl _) _).setCell (Nat.le_refl _) _).setCell (Nat.le_refl _) _).alloc (by simp; omega) _
    · have HV := Lib.hid (HO.out h6)
      clear HL HO
      go_wp2_with fail
      refine (worth_any _ _ G4.out (by show q.length ≤ 6; omega)).mono ?_
      rintro e w3 ⟨rfl, rfl⟩
      have hwb := worth_small q (by omega) G4.out
      have hwn : worth (ByteArray.mk q.toArray).data.toList = worth q := rfl
      rw [hwn]
      clear hwn
      generalize worth q = n at *
      have hsz : (ByteArray.mk wh.toArray ++ ByteArray.mk pt.toArray).size ≤ maxLen := by
        rw [← size_toList]; simp; unfold maxLen; omega
      cases dn
      · have HM2 : Hid (mkW ⟨g, wh, pt, false, pw⟩ = mk g (ByteArray.mk wh.toArray ++ ByteArray.mk pt.toArray).data.toList ((n : Int) - pt.length)) := Lib.hid (by rw [HM.out]; simp)
        clear HM
        go_wp2_with fail
        refine (make_any g _ _ _ hsz).mono ?_
        rintro e w2 ⟨rfl, hb2⟩
        rw [← HM2.out]
        have hB2 : Below w.heap.size w w2 := (hB1.alloc (by omega) _).trans (hb2.mono (by simp; omega))
        obtain ⟨hc2, hf2⟩ := kept_cells hb2
        have hz2 : w.heap.size + 2 ≤ w2.heap.size := by have := hb2.size; simp at this; omega
        have hz2' : w.heap.size < w2.heap.size := by omega
        have j0 : w2.cell? ⟨w.heap.size, 0, none⟩ = some (.int .i64 0) := by rw [hc2 _ _ (by simp; omega)]; simp [go_sem, hz1', k0]
        have j1 : w2.cell? ⟨w.heap.size, 1, none⟩ = some (.int .i64 0) := by rw [hc2 _ _ (by simp; omega)]; simp [go_sem, hz1', k1]
        have j2 : w2.cell? ⟨w.heap.size, 2, none⟩ = some (.string ⟨#[]⟩) := by rw [hc2 _ _ (by simp; omega)]; simp [go_sem, hz1', k2]
        have j3 : w2.cell? ⟨w.heap.size, 3, none⟩ = some (.string ⟨#[]⟩) := by rw [hc2 _ _ (by simp; omega)]; simp [go_sem, hz1', k3]
        have j4 : w2.cell? ⟨w.heap.size, 4, none⟩ = some (.bool false) := by rw [hc2 _ _ (by simp; omega)]; simp [go_sem, hz1', k4]
        have j5 : w2.cell? ⟨w.heap.size, 5, none⟩ = some (.int .i64 0) := by rw [hc2 _ _ (by simp; omega)]; simp [go_sem, hz1', k5]
        have jf : ∀ o, w2.frozen? ⟨w.heap.size, o, none⟩ = false := fun o => by rw [hf2 _ _ (by simp; omega)]; simp [go_sem, hz1', hfz]
        clear hb2 hc2 hf2 k0 k1 k2 k3 k4 k5 hfz
        generalize mkW ⟨g, wh, pt, false, pw⟩ = m at HV ⊢
        obtain ⟨⟨a0, a1, a2, a3, a4, a5⟩, c⟩ := m
        simp only [ndv]
        go_wp2_with fail
        refine bodyPost_ret (v := .tuple #[ndv ⟨a0, a1, a2, a3, a4, a5⟩, .int .i64 0, .int .i64 c]) ?_ rfl (readEnd_of HV.out ?_)
        · simp [results, Tryz.results70, go_sem, ndv, j0, j1, j2, j3, j4, j5, hz2']
        · exact ((((((hB2.setCell (Nat.le_refl _) _).setCell (Nat.le_refl _) _).setCell (Nat.le_refl _) _).setCell (Nat.le_refl _) _).setCell (Nat.le_refl _) _).setCell (Nat.le_refl _) _).alloc (by simp; omega) _
      · have HM2 : Hid (mkW ⟨g, wh, pt, true, pw⟩ = mk g (ByteArray.mk wh.toArray ++ ByteArray.mk pt.toArray).data.toList (-(n : Int) - pt.length)) := Lib.hid (by rw [HM.out]; simp)
        clear HM
        go_wp2_with fail
        refine (make_any g _ _ _ hsz).mono ?_
        rintro e w2 ⟨rfl, hb2⟩
        rw [← HM2.out]
        have hB2 : Below w.heap.size w w2 := (hB1.alloc (by omega) _).trans (hb2.mono (by simp; omega))
        obtain ⟨hc2, hf2⟩ := kept_cells hb2
        have hz2 : w.heap.size + 2 ≤ w2.heap.size := by have := hb2.size; simp at this; omega
        have hz2' : w.heap.size < w2.heap.size := by omega
        have j0 : w2.cell? ⟨w.heap.size, 0, none⟩ = some (.int .i64 0) := by rw [hc2 _ _ (by simp; omega)]; simp [go_sem, hz1', k0]
        have j1 : w2.cell? ⟨w.heap.size, 1, none⟩ = some (.int .i64 0) := by rw [hc2 _ _ (by simp; omega)]; simp [go_sem, hz1', k1]
        have j2 : w2.cell? ⟨w.heap.size, 2, none⟩ = some (.string ⟨#[]⟩) := by rw [hc2 _ _ (by simp; omega)]; simp [go_sem, hz1', k2]
        have j3 : w2.cell? ⟨w.heap.size, 3, none⟩ = some (.string ⟨#[]⟩) := by rw [hc2 _ _ (by simp; omega)]; simp [go_sem, hz1', k3]
        have j4 : w2.cell? ⟨w.heap.size, 4, none⟩ = some (.bool false) := by rw [hc2 _ _ (by simp; omega)]; simp [go_sem, hz1', k4]
        have j5 : w2.cell? ⟨w.heap.size, 5, none⟩ = some (.int .i64 0) := by rw [hc2 _ _ (by simp; omega)]; simp [go_sem, hz1', k5]
        have jf : ∀ o, w2.frozen? ⟨w.heap.size, o, none⟩ = false := fun o => by rw [hf2 _ _ (by simp; omega)]; simp [go_sem, hz1', hfz]
        clear hb2 hc2 hf2 k0 k1 k2 k3 k4 k5 hfz
        generalize mkW ⟨g, wh, pt, true, pw⟩ = m at HV ⊢
        obtain ⟨⟨a0, a1, a2, a3, a4, a5⟩, c⟩ := m
        simp only [ndv]
        go_wp2_with fail
        refine bodyPost_ret (v := .tuple #[ndv ⟨a0, a1, a2, a3, a4, a5⟩, .int .i64 0, .int .i64 c]) ?_ rfl (readEnd_of HV.out ?_)
        · simp [results, Tryz.results70, go_sem, ndv, j0, j1, j2, j3, j4, j5, hz2']
        · exact ((((((hB2.setCell (Nat.le_refl _) _).setCell (Nat.le_refl _) _).setCell (Nat.le_refl _) _).setCell (Nat.le_refl _) _).setCell (Nat.le_refl _) _).setCell (Nat.le_refl _) _).alloc (by simp; omega) _

end Go.Proofs.YtbgciajfjllciaaGreatDoor

/-
  What num.Print answers.
-/
namespace Go.Proofs.YtbgciajfjllciaaGreatDoor
open Go.RowKit Np

theorem tab_below {n : String} {g : Nat} {k : IntKind} {zs : List Int} {w w' : World} (hg : Tryz.prog.globalNamed n = some g) (h : Lib.TabIs Tryz.prog w n k zs) (hb : Below w.heap.size w w') : Lib.TabIs Tryz.prog w' n k zs := by
  unfold Lib.TabIs World.var? at h ⊢
  simp only [hg, Option.bind_some] at h ⊢
  by_cases hlt : g < w.heap.size
  · rw [hb.block g hlt]; exact h
  · rw [Array.getElem?_eq_none (by omega)] at h; cases h
theorem grow_below' (w : World) (q : Nat) (os : Array Obj) : Below w.heap.size w (Sort.grow (w.drewN q) os) :=
  ⟨rfl, rfl, rfl, by simp [Sort.grow], fun i hi => by
    show (w.heap ++ os)[i]? = w.heap[i]?
    exact Array.getElem?_append_left hi⟩
theorem powTab : Tryz.prog.globalNamed "internal/strconv.uint64pow10" = some 4 := by kernel_rfl

/-- The table of powers of ten, as the library lays it. -/
def PowTab (w : World) : Prop := Lib.TabIs Tryz.prog w "internal/strconv.uint64pow10" .u64 Lib.pow10Tab
theorem PowTab.below {w w' : World} (h : PowTab w) (hb : Below w.heap.size w w') : PowTab w' := tab_below powTab h hb

theorem repeat_int (n : Int) (w : World) (h0 : 0 ≤ n) (h1 : n ≤ 1000000) :
    Calls Tryz.prog 109 #[.string ⟨#[48]⟩, .int .i64 n] w fun e w' => e = .returned (.string ⟨(Lib.repeatL [48] n.toNat).toArray⟩) ∧ Below w.heap.size w w' := by
  obtain ⟨c, rfl⟩ := Int.eq_ofNat_of_zero_le h0
  exact Tryz.strings_Repeat ⟨#[48]⟩ c w (by omega) (by show 1 * c ≤ _; omega)

set_option maxHeartbeats 1000000 in
theorem printPoint_any (f : ByteArray) (b : Nat) (w : World) (hf : f.size ≤ 1000000) (hb0 : 1 ≤ b) (hb1 : b ≤ 20) :
    Calls Tryz.prog 110 #[.string f, .int .i64 b] w fun e w' => e = .returned (.string ⟨(pointF f.data.toList b).toArray⟩) ∧ Below w.heap.size w w' := by
  have hB : Below w.heap.size w w := Below.refl _ _
  have hpl := padF_len f.data.toList b
  have hpu := padF_le f.data.toList b
  have HP : Hid (padF f.data.toList b = Lib.repeatL [48] (b + 1 - f.size) ++ f.data.toList) := Lib.hid (by rw [padF, size_toList])
  have HQ : Hid (pointF f.data.toList b = (padF f.data.toList b).take ((padF f.data.toList b).length - b) ++ 46 :: (padF f.data.toList b).drop ((padF f.data.toList b).length - b)) := Lib.hid rfl
  have HL : Hid (b < f.size → padF f.data.toList b = f.data.toList) := Lib.hid (fun h => padF_long (by rw [size_toList]; exact h))
  rw [size_toList] at hpu
  generalize padF f.data.toList b = pd at *
  go_enter Tryz.func110, Tryz.ntmps110
  go_upto_if 13 with fail
  go_cut [0] (fun s0 wx => s0 = .string ⟨pd.toArray⟩ ∧ Below w.heap.size w wx)
  case first =>
    by_cases hl : f.size ≤ b
    · go_wp2_with fail
      refine (repeat_int _ _ (by omega) (by omega)).mono ?_
      rintro e w1 ⟨rfl, hb⟩
      have hrl : (Lib.repeatL [48] ((b : Int) + 1 - f.size).toNat).length ≤ 21 := by rw [Lib.repeatL_length]; simp; omega
      have HR : Hid (Lib.repeatL [48] ((b : Int) + 1 - f.size).toNat = Lib.repeatL [48] (b + 1 - f.size)) := Lib.hid (by rw [show ((b : Int) + 1 - f.size).toNat = b + 1 - f.size by omega])
      generalize Lib.repeatL [48] ((b : Int) + 1 - f.size).toNat = rp at hrl HR ⊢
      go_wp2_with fail
      go_meet
      refine ⟨?_, hb⟩
      rw [HP.out, ← HR.out]
      exact congrArg Value.string (ByteArray.ext (by simp))
    · have HV := Lib.hid (HL.out (by omega))
      go_wp2_with fail
      go_meet
      refine ⟨?_, hB⟩
      rw [HV.out]
  case rest =>
    obtain ⟨rfl, hBc⟩ := hcut
    go_wp2_with fail
    have hp1 : pd.length - b ≤ pd.length := by omega
    have hp2 : ((pd.length : Int) - b) = ((pd.length - b : Nat) : Int) := by omega
    rw [hp2]
    clear hp2
    generalize pd.length - b = p at *
    go_quiet (fail)
    go_wp2_with fail
    go_ret
    refine ⟨ret_str (a := (ByteArray.mk pd.toArray).extract 0 p ++ ByteArray.mk #[46] ++ (ByteArray.mk pd.toArray).extract p pd.length) ?_, ⟨hBc.os, hBc.tape, hBc.output, hBc.size, hBc.block⟩⟩
    rw [HQ.out, extract_run (ByteArray.mk pd.toArray) 0 p (pd.take p) (by simp), extract_run (ByteArray.mk pd.toArray) p pd.length (pd.drop p) (by show pd.drop p = _; exact (List.take_of_length_le (by simp)).symm)]
    exact ByteArray.ext (by simp)

theorem itoa_any (n : Int) (w : World) (hT : PowTab w) (h0 : -1000000 ≤ n) (h1 : n ≤ 1000000) :
    Calls Tryz.prog 111 #[.int .i64 n] w fun e w' => e = .returned (.string ⟨(Lib.itoa n).toArray⟩) ∧ Below w.heap.size w w' :=
  (Tryz.strconv_Itoa n (by omega) (by omega) w hT).mono fun _ _ ⟨he, k, os, hw⟩ => ⟨he, hw ▸ grow_below' w k os⟩

theorem printPoint_int (f : ByteArray) (n : Int) (w : World) (hf : f.size ≤ 1000000) (h0 : 1 ≤ n) (h1 : n ≤ 20) :
    Calls Tryz.prog 110 #[.string f, .int .i64 n] w fun e w' => e = .returned (.string ⟨(pointF f.data.toList n.toNat).toArray⟩) ∧ Below w.heap.size w w' := by
  obtain ⟨c, rfl⟩ := Int.eq_ofNat_of_zero_le (show 0 ≤ n by omega)
  exact printPoint_any f c w hf (by omega) (by omega)

set_option maxHeartbeats 1000000 in
theorem printSize_any (f : ByteArray) (e : Int) (w : World) (hT : PowTab w) (hf : f.size ≤ 1000000) (he : -1000000 ≤ e) (he2 : e ≤ 1000000) :
    Calls Tryz.prog 76 #[.string f, .int .i64 e] w fun x w' => x = .returned (.string ⟨(printS f.data.toList e).toArray⟩) ∧ Below w.heap.size w w' := by
  have hB : Below w.heap.size w w := Below.refl _ _
  cases hne : f.data.toList.isEmpty
  · have hne2 : f.toList.isEmpty = false := by rw [ByteArray.toList_eq]; exact hne
    have HV : Hid (printS f.data.toList e = if 0 ≤ e ∧ e ≤ 20 - f.size then f.data.toList ++ Lib.repeatL [48] e.toNat
      else if -20 ≤ e ∧ e ≤ -1 then pointF f.data.toList (-e).toNat else f.data.toList ++ 101 :: Lib.itoa e) := Lib.hid (by rw [printS, if_neg (by rw [hne]; decide), size_toList])
    clear hne
    by_cases h1 : 0 ≤ e ∧ e ≤ 20 - f.size
    · have HW := Lib.hid (HV.out.trans (if_pos h1))
      obtain ⟨h1, h2⟩ := h1
      go_enter Tryz.func76, Tryz.ntmps76
      go_wp2_with fail
      refine (repeat_int _ _ (by omega) (by omega)).mono ?_
      rintro x w1 ⟨rfl, hb⟩
      have hrl : (Lib.repeatL [48] e.toNat).length ≤ 21 := by rw [Lib.repeatL_length]; simp; omega
      generalize Lib.repeatL [48] e.toNat = rp at HW hrl ⊢
      go_wp2_with fail
      go_ret
      refine ⟨ret_str (a := f ++ ByteArray.mk rp.toArray) ?_, hb⟩
      rw [HW.out]
      exact ByteArray.ext (by simp)
    · have HW := Lib.hid (HV.out.trans (if_neg h1))
      by_cases h2 : -20 ≤ e ∧ e ≤ -1
      · have HX := Lib.hid (HW.out.trans (if_pos h2))
        clear h1
        obtain ⟨h2, h3⟩ := h2
        have h4 : decide (0 ≤ e) = false := by simp; omega
        go_enter Tryz.func76, Tryz.ntmps76
        go_wp2_with fail
        refine (printPoint_int _ _ _ hf (by omega) (by omega)).mono ?_
        rintro x w1 ⟨rfl, hb⟩
        go_wp2_with fail
        go_ret
        exact ⟨ret_str (by rw [HX.out]), hb⟩
      · have HX := Lib.hid (HW.out.trans (if_neg h2))
        by_cases h0 : 0 ≤ e
        · have h3 : decide (e ≤ 20 - f.size) = false := by simp; omega
          have h4 : decide (e ≤ -1) = false := by simp; omega
          clear h1 h2
          go_enter Tryz.func76, Tryz.ntmps76
          go_wp2_with fail
          refine (itoa_any _ _ hT (by omega) (by omega)).mono ?_
          rintro x w1 ⟨rfl, hb⟩
          have hil := Lib.itoa_length_le e (by omega) (by omega)
          generalize Lib.itoa e = it at HX hil ⊢
          go_wp2_with fail
          go_ret
          refine ⟨ret_str (a := f ++ ByteArray.mk #[101] ++ ByteArray.mk it.toArray) ?_, hb⟩
          rw [HX.out]
          exact ByteArray.ext (by simp)
        · have h3 : decide (0 ≤ e) = false := by simp; omega
          have h4 : decide (-20 ≤ e) = false := by simp; omega
          clear h1 h2
          go_enter Tryz.func76, Tryz.ntmps76
          go_wp2_with fail
          refine (itoa_any _ _ hT (by omega) (by omega)).mono ?_
          rintro x w1 ⟨rfl, hb⟩
          have hil := Lib.itoa_length_le e (by omega) (by omega)
          generalize Lib.itoa e = it at HX hil ⊢
          go_wp2_with fail
          go_ret
          refine ⟨ret_str (a := f ++ ByteArray.mk #[101] ++ ByteArray.mk it.toArray) ?_, hb⟩
          rw [HX.out]
          exact ByteArray.ext (by simp)
  · have hne2 : f.toList.isEmpty = true := by rw [ByteArray.toList_eq]; exact hne
    have HV : Hid (printS f.data.toList e = [48]) := Lib.hid (by rw [printS, if_pos hne])
    clear hne
    go_enter Tryz.func76, Tryz.ntmps76
    go_wp2_with fail
    go_ret
    exact ⟨ret_str (a := ⟨#[48]⟩) (by rw [HV.out]), hB⟩

set_option maxHeartbeats 1000000 in
theorem print_any (k m : Int) (nm s : ByteArray) (g : Bool) (x : Int) (w : World) (hT : PowTab w) (hs : s.size ≤ 1000000) (hx : -1000000 ≤ x) (hx' : x ≤ 1000000) :
    Calls Tryz.prog 51 #[.agg #[.int .i64 k, .int .i64 m, .string nm, .string s, .bool g, .int .i64 x]] w
      fun e w' => e = .returned (.string ⟨(printN s.data.toList g x).toArray⟩) ∧ Below w.heap.size w w' := by
  have hB : Below w.heap.size w w := Below.refl _ _
  have hT1 := fun o => hT.below (hB.alloc (Nat.le_refl _) o)
  cases g
  · have HV : Hid (printN s.data.toList false x = printS s.data.toList x) := Lib.hid rfl
    go_enter Tryz.func51, Tryz.ntmps51
    go_wp2_with fail
    refine (printSize_any _ _ _ (hT1 _) hs hx hx').mono ?_
    rintro e w1 ⟨rfl, hb⟩
    go_wp2_with fail
    go_ret
    exact ⟨ret_str (by rw [HV.out]), (hB.alloc (Nat.le_refl _) _).trans (hb.mono (by simp))⟩
  · have HV : Hid (printN s.data.toList true x = 45 :: printS s.data.toList x) := Lib.hid rfl
    go_enter Tryz.func51, Tryz.ntmps51
    go_wp2_with fail
    refine (printSize_any _ _ _ (hT1 _) hs hx hx').mono ?_
    rintro e w1 ⟨rfl, hb⟩
    have hpl := printS_len s.data.toList x (by rw [size_toList]; exact hs) hx hx'
    generalize printS s.data.toList x = t at HV hpl ⊢
    go_wp2_with fail
    go_ret
    refine ⟨ret_str (a := ByteArray.mk #[45] ++ ByteArray.mk t.toArray) ?_, (hB.alloc (Nat.le_refl _) _).trans (hb.mono (by simp))⟩
    rw [HV.out]
    exact ByteArray.ext (by simp)

end Go.Proofs.YtbgciajfjllciaaGreatDoor
