/-
  What num.Read answers.
-/
import Derived.Test.YtfmoigbiohbocaaDoorNumW5
import Derived.Test.YtfmoigbiohbocaaDoorNumPlain3
namespace Go.Proofs.YtfmoigbiohbocaaDoor
open Go.RowKit Np

/-- How Read ends. -/
def ReadEnd (w : World) (s : ByteArray) (e : Ending) (w' : World) : Prop :=
  e = .returned (.tuple #[ndv (readF s.data.toList).1, .int .i64 (readF s.data.toList).2.1, .int .i64 (readF s.data.toList).2.2]) ∧ Below w.heap.size w w'
theorem readEnd_of {w w' : World} {s : ByteArray} {n : Nd} {i c : Int} (h : readF s.data.toList = (n, i, c)) (hb : Below w.heap.size w w') : ReadEnd w s (.returned (.tuple #[ndv n, .int .i64 i, .int .i64 c])) w' := by
  unfold ReadEnd; rw [h]; exact ⟨rfl, hb⟩

set_option maxHeartbeats 1000000 in
theorem read_any (s : ByteArray) (w : World) (hs : s.size ≤ 1000000) :
    Calls Tryd.prog 15 #[.string s] w (ReadEnd w s) := by
  have hB : Below w.heap.size w w := Below.refl _ _
  have hs2 : s.size ≤ maxLen := by unfold maxLen; omega
  go_enter Tryd.func15, Tryd.ntmps15
  go_wp2_with fail
  refine (scan_any s _ hs2).mono ?_
  rintro e w1 ⟨rfl, hb1⟩
  obtain ⟨hc1, hf1⟩ := bcell hb1
  have hz1 : w.heap.size + 1 ≤ w1.heap.size := by have := hb1.size; simp at this; omega
  have hz1' : w.heap.size < w1.heap.size := by omega
  have hB1 : Below w.heap.size w w1 := (hB.alloc (Nat.le_refl _) _).trans (hb1.mono (by simp))
  have k0 : w1.cell? ⟨w.heap.size, 0, none⟩ = some (.int .i64 0) := by rw [hc1 _ _ (by simp)]; simp
  have k1 : w1.cell? ⟨w.heap.size, 1, none⟩ = some (.int .i64 0) := by rw [hc1 _ _ (by simp)]; simp
  have k2 : w1.cell? ⟨w.heap.size, 2, none⟩ = some (.string ⟨#[]⟩) := by rw [hc1 _ _ (by simp)]; simp
  have k3 : w1.cell? ⟨w.heap.size, 3, none⟩ = some (.string ⟨#[]⟩) := by rw [hc1 _ _ (by simp)]; simp
  have k4 : w1.cell? ⟨w.heap.size, 4, none⟩ = some (.bool false) := by rw [hc1 _ _ (by simp)]; simp
  have k5 : w1.cell? ⟨w.heap.size, 5, none⟩ = some (.int .i64 0) := by rw [hc1 _ _ (by simp)]; simp
  have hfz : ∀ o, w1.frozen? ⟨w.heap.size, o, none⟩ = false := fun o => by rw [hf1 _ _ (by simp)]; simp
  clear hb1 hc1 hf1
  have hfig := scanF_figs s.data.toList
  have hlen := scanF_len s.data.toList
  rw [size_toList] at hlen
  generalize hr : scanF s.data.toList = r at hfig hlen ⊢
  have Hr := Lib.hid hr; clear hr
  obtain ⟨⟨g, wh, pt, dn, pw⟩, i, ok⟩ := r
  obtain ⟨hg1, hg2, hg3⟩ := hfig
  obtain ⟨hl1, hl2, hl3⟩ := hlen
  have G1 := Lib.hid hg1
  have G2 := Lib.hid hg2
  have G3 := Lib.hid hg3
  clear hg1 hg2 hg3
  simp only at hl1 hl2 hl3
  simp only [wrv]
  cases ok
  · have HV := Lib.hid (readF_form Hr.out)
    go_wp2_with fail
    refine bodyPost_ret (v := .tuple #[ndv nd0, .int .i64 i, .int .i64 1]) ?_ rfl (readEnd_of HV.out ?_)
    · simp [results, Tryd.results15, go_sem, ndv, nd0, k0, k1, k2, k3, k4, k5, hz1']
    · exact ((((((hB1.setCell (Nat.le_refl _) _).setCell (Nat.le_refl _) _).setCell (Nat.le_refl _) _).setCell (Nat.le_refl _) _).setCell (Nat.le_refl _) _).setCell (Nat.le_refl _) _).alloc (by simp; omega) _
  · go_wp2_with fail
    refine (Tryd.strings_TrimLeft_one _ 48 (by decide) _).mono ?_
    rintro e w2 ⟨rfl, rfl⟩
    have G4 := Lib.hid (figs_trimLeft G3.out)
    have hl4 : (Lib.trimLeftB pw 48).length ≤ s.size := Nat.le_trans (List.IsSuffix.length_le (List.dropWhile_suffix _)) hl3
    have HL := Lib.hid (readF_large Hr.out)
    have HO := Lib.hid (readF_ok Hr.out)
    have HM : Hid (mkW ⟨g, wh, pt, dn, pw⟩ = mk g (wh ++ pt) ((if dn = true then -(worth (Lib.trimLeftB pw 48) : Int) else (worth (Lib.trimLeftB pw 48) : Int)) - pt.length)) := Lib.hid rfl
    simp only at G4 HL HO
    generalize Lib.trimLeftB pw 48 = q at *
    by_cases h6 : 6 < q.length
    · have HV := Lib.hid (HL.out h6)
      clear HL HO HM
      go_wp2_with fail
      refine bodyPost_ret (v := .tuple #[ndv nd0, .int .i64 0, .int .i64 2]) ?_ rfl (readEnd_of HV.out ?_)
      · simp [results, Tryd.results15, go_sem, ndv, nd0, k0, k1, k2, k3, k4, k5, hz1']
      · exact ((((((hB1.setCell (Nat.le_refl _) _).setCell (Nat.le_refl _) _).setCell (Nat.le_refl _) _).setCell (Nat.le_refl _) _).setCell (Nat.le_refl _) _).setCell (Nat.le_refl _) _).alloc (by simp; omega) _
    · have HV := Lib.hid (HO.out h6)
      clear HL HO
      go_wp2_with fail
      refine (worth_any _ _ G4.out (by show q.length ≤ 6; omega)).mono ?_
      rintro e w3 ⟨rfl, rfl⟩
      have hwb := worth_small q (by omega) G4.out
      have hwn : worth (ByteArray.mk q.toArray).data.toList = worth q := rfl
      rw [hwn]
      clear hwn
      generalize worth q = n at *
      have hsz : (ByteArray.mk wh.toArray ++ ByteArray.mk pt.toArray).size ≤ maxLen := by
        rw [← size_toList]; simp; unfold maxLen; omega
      cases dn
      · have HM2 : Hid (mkW ⟨g, wh, pt, false, pw⟩ = mk g (ByteArray.mk wh.toArray ++ ByteArray.mk pt.toArray).data.toList ((n : Int) - pt.length)) := Lib.hid (by rw [HM.out]; simp)
        clear HM
        go_wp2_with fail
        refine (make_any g _ _ _ hsz).mono ?_
        rintro e w2 ⟨rfl, hb2⟩
        rw [← HM2.out]
        have hB2 : Below w.heap.size w w2 := (hB1.alloc (by omega) _).trans (hb2.mono (by simp; omega))
        obtain ⟨hc2, hf2⟩ := bcell hb2
        have hz2 : w.heap.size + 2 ≤ w2.heap.size := by have := hb2.size; simp at this; omega
        have hz2' : w.heap.size < w2.heap.size := by omega
        have j0 : w2.cell? ⟨w.heap.size, 0, none⟩ = some (.int .i64 0) := by rw [hc2 _ _ (by simp; omega)]; simp [go_sem, hz1', k0]
        have j1 : w2.cell? ⟨w.heap.size, 1, none⟩ = some (.int .i64 0) := by rw [hc2 _ _ (by simp; omega)]; simp [go_sem, hz1', k1]
        have j2 : w2.cell? ⟨w.heap.size, 2, none⟩ = some (.string ⟨#[]⟩) := by rw [hc2 _ _ (by simp; omega)]; simp [go_sem, hz1', k2]
        have j3 : w2.cell? ⟨w.heap.size, 3, none⟩ = some (.string ⟨#[]⟩) := by rw [hc2 _ _ (by simp; omega)]; simp [go_sem, hz1', k3]
        have j4 : w2.cell? ⟨w.heap.size, 4, none⟩ = some (.bool false) := by rw [hc2 _ _ (by simp; omega)]; simp [go_sem, hz1', k4]
        have j5 : w2.cell? ⟨w.heap.size, 5, none⟩ = some (.int .i64 0) := by rw [hc2 _ _ (by simp; omega)]; simp [go_sem, hz1', k5]
        have jf : ∀ o, w2.frozen? ⟨w.heap.size, o, none⟩ = false := fun o => by rw [hf2 _ _ (by simp; omega)]; simp [go_sem, hz1', hfz]
        clear hb2 hc2 hf2 k0 k1 k2 k3 k4 k5 hfz
        generalize mkW ⟨g, wh, pt, false, pw⟩ = m at HV ⊢
        obtain ⟨⟨a0, a1, a2, a3, a4, a5⟩, c⟩ := m
        simp only [ndv]
        go_wp2_with fail
        refine bodyPost_ret (v := .tuple #[ndv ⟨a0, a1, a2, a3, a4, a5⟩, .int .i64 0, .int .i64 c]) ?_ rfl (readEnd_of HV.out ?_)
        · simp [results, Tryd.results15, go_sem, ndv, j0, j1, j2, j3, j4, j5, hz2']
        · exact ((((((hB2.setCell (Nat.le_refl _) _).setCell (Nat.le_refl _) _).setCell (Nat.le_refl _) _).setCell (Nat.le_refl _) _).setCell (Nat.le_refl _) _).setCell (Nat.le_refl _) _).alloc (by simp; omega) _
      · have HM2 : Hid (mkW ⟨g, wh, pt, true, pw⟩ = mk g (ByteArray.mk wh.toArray ++ ByteArray.mk pt.toArray).data.toList (-(n : Int) - pt.length)) := Lib.hid (by rw [HM.out]; simp)
        clear HM
        go_wp2_with fail
        refine (make_any g _ _ _ hsz).mono ?_
        rintro e w2 ⟨rfl, hb2⟩
        rw [← HM2.out]
        have hB2 : Below w.heap.size w w2 := (hB1.alloc (by omega) _).trans (hb2.mono (by simp; omega))
        obtain ⟨hc2, hf2⟩ := bcell hb2
        have hz2 : w.heap.size + 2 ≤ w2.heap.size := by have := hb2.size; simp at this; omega
        have hz2' : w.heap.size < w2.heap.size := by omega
        have j0 : w2.cell? ⟨w.heap.size, 0, none⟩ = some (.int .i64 0) := by rw [hc2 _ _ (by simp; omega)]; simp [go_sem, hz1', k0]
        have j1 : w2.cell? ⟨w.heap.size, 1, none⟩ = some (.int .i64 0) := by rw [hc2 _ _ (by simp; omega)]; simp [go_sem, hz1', k1]
        have j2 : w2.cell? ⟨w.heap.size, 2, none⟩ = some (.string ⟨#[]⟩) := by rw [hc2 _ _ (by simp; omega)]; simp [go_sem, hz1', k2]
        have j3 : w2.cell? ⟨w.heap.size, 3, none⟩ = some (.string ⟨#[]⟩) := by rw [hc2 _ _ (by simp; omega)]; simp [go_sem, hz1', k3]
        have j4 : w2.cell? ⟨w.heap.size, 4, none⟩ = some (.bool false) := by rw [hc2 _ _ (by simp; omega)]; simp [go_sem, hz1', k4]
        have j5 : w2.cell? ⟨w.heap.size, 5, none⟩ = some (.int .i64 0) := by rw [hc2 _ _ (by simp; omega)]; simp [go_sem, hz1', k5]
        have jf : ∀ o, w2.frozen? ⟨w.heap.size, o, none⟩ = false := fun o => by rw [hf2 _ _ (by simp; omega)]; simp [go_sem, hz1', hfz]
        clear hb2 hc2 hf2 k0 k1 k2 k3 k4 k5 hfz
        generalize mkW ⟨g, wh, pt, true, pw⟩ = m at HV ⊢
        obtain ⟨⟨a0, a1, a2, a3, a4, a5⟩, c⟩ := m
        simp only [ndv]
        go_wp2_with fail
        refine bodyPost_ret (v := .tuple #[ndv ⟨a0, a1, a2, a3, a4, a5⟩, .int .i64 0, .int .i64 c]) ?_ rfl (readEnd_of HV.out ?_)
        · simp [results, Tryd.results15, go_sem, ndv, j0, j1, j2, j3, j4, j5, hz2']
        · exact ((((((hB2.setCell (Nat.le_refl _) _).setCell (Nat.le_refl _) _).setCell (Nat.le_refl _) _).setCell (Nat.le_refl _) _).setCell (Nat.le_refl _) _).setCell (Nat.le_refl _) _).alloc (by simp; omega) _

end Go.Proofs.YtfmoigbiohbocaaDoor
