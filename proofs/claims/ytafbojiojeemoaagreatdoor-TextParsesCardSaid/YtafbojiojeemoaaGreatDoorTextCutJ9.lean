/-
  Joined: NumW6, Tx2, Tx8, Tx9, Tx3.
-/
import Derived.Test.YtafbojiojeemoaaGreatDoorNumW5
import Derived.Test.YtafbojiojeemoaaGreatDoorTextCutJ1
import Derived.Test.YtafbojiojeemoaaGreatDoorTextCutJ2
import Derived.Test.YtafbojiojeemoaaGreatDoorTextCutJ3
import Derived.Test.YtafbojiojeemoaaGreatDoorTextCutJ5
import Derived.Shelf.Strings.SlTrimAscii
import Derived.StillTailTactics
import Derived.Test.YtafbojiojeemoaaGreatDoorTextCutJ8
import Derived.StringKeys
import Derived.Deep.RegionHeld3

/-
  What num.Read answers.
-/
namespace Go.Proofs.YtafbojiojeemoaaGreatDoor
open Go.RowKit Np

/-- How Read ends. -/
def ReadEnd (w : World) (s : ByteArray) (e : Ending) (w' : World) : Prop :=
  e = .returned (.tuple #[ndv (readF s.data.toList).1, .int .i64 (readF s.data.toList).2.1, .int .i64 (readF s.data.toList).2.2]) ∧ Below w.heap.size w w'
theorem readEnd_of {w w' : World} {s : ByteArray} {n : Nd} {i c : Int} (h : readF s.data.toList = (n, i, c)) (hb : Below w.heap.size w w') : ReadEnd w s (.returned (.tuple #[ndv n, .int .i64 i, .int .i64 c])) w' := by
  unfold ReadEnd; rw [h]; exact ⟨rfl, hb⟩

set_option maxHeartbeats 1000000 in
theorem read_any (s : ByteArray) (w : World) (hs : s.size ≤ 1000000) :
    Calls Tryz.prog 98 #[.string s] w (ReadEnd w s) := by
  have hB : Below w.heap.size w w := Below.refl _ _
  have hs2 : s.size ≤ maxLen := by unfold maxLen; omega
  go_enter Tryz.func98, Tryz.ntmps98
  go_wp2_with fail
  refine (scan_any s _ hs2).mono ?_
  rintro e w1 ⟨rfl, hb1⟩
  obtain ⟨hc1, hf1⟩ := kept_cells hb1
  have hz1 : w.heap.size + 1 ≤ w1.heap.size := by have := hb1.size; simp at this; omega
  have hz1' : w.heap.size < w1.heap.size := by omega
  have hB1 : Below w.heap.size w w1 := (hB.alloc (Nat.le_refl _) _).trans (hb1.mono (by simp))
  have k0 : w1.cell? ⟨w.heap.size, 0, none⟩ = some (.int .i64 0) := by rw [hc1 _ _ (by simp)]; simp
  have k1 : w1.cell? ⟨w.heap.size, 1, none⟩ = some (.int .i64 0) := by rw [hc1 _ _ (by simp)]; simp
  have k2 : w1.cell? ⟨w.heap.size, 2, none⟩ = some (.string ⟨#[]⟩) := by rw [hc1 _ _ (by simp)]; simp
  have k3 : w1.cell? ⟨w.heap.size, 3, none⟩ = some (.string ⟨#[]⟩) := by rw [hc1 _ _ (by simp)]; simp
  have k4 : w1.cell? ⟨w.heap.size, 4, none⟩ = some (.bool false) := by rw [hc1 _ _ (by simp)]; simp
  have k5 : w1.cell? ⟨w.heap.size, 5, none⟩ = some (.int .i64 0) := by rw [hc1 _ _ (by simp)]; simp
  have hfz : ∀ o, w1.frozen? ⟨w.heap.size, o, none⟩ = false := fun o => by rw [hf1 _ _ (by simp)]; simp
  clear hb1 hc1 hf1
  have hfig := scanF_figs s.data.toList
  have hlen := scanF_len s.data.toList
  rw [size_toList] at hlen
  generalize hr : scanF s.data.toList = r at hfig hlen ⊢
  have Hr := Lib.hid hr; clear hr
  obtain ⟨⟨g, wh, pt, dn, pw⟩, i, ok⟩ := r
  obtain ⟨hg1, hg2, hg3⟩ := hfig
  obtain ⟨hl1, hl2, hl3⟩ := hlen
  have G1 := Lib.hid hg1
  have G2 := Lib.hid hg2
  have G3 := Lib.hid hg3
  clear hg1 hg2 hg3
  simp only at hl1 hl2 hl3
  simp only [wrv]
  cases ok
  · have HV := Lib.hid (readF_form Hr.out)
    go_wp2_with fail
    refine bodyPost_ret (v := .tuple #[ndv nd0, .int .i64 i, .int .i64 1]) ?_ rfl (readEnd_of HV.out ?_)
    · simp [results, Tryz.results98, go_sem, ndv, nd0, k0, k1, k2, k3, k4, k5, hz1']
    · exact ((((((hB1.setCell (Nat.le_refl _) _).setCell (Nat.le_refl _) _).setCell (Nat.le_refl _) _).setCell (Nat.le_refl _) _).setCell (Nat.le_refl _) _).setCell (Nat.le_refl _) _).alloc (by simp; omega) _
  · go_wp2_with fail
    refine (Tryz.strings_TrimLeft_one _ 48 (by decide) _).mono ?_
    rintro e w2 ⟨rfl, rfl⟩
    have G4 := Lib.hid (figs_trimLeft G3.out)
    have hl4 : (Lib.trimLeftB pw 48).length ≤ s.size := Nat.le_trans (List.IsSuffix.length_le (List.dropWhile_suffix _)) hl3
    have HL := Lib.hid (readF_large Hr.out)
    have HO := Lib.hid (readF_ok Hr.out)
    have HM : Hid (mkW ⟨g, wh, pt, dn, pw⟩ = mk g (wh ++ pt) ((if dn = true then -(worth (Lib.trimLeftB pw 48) : Int) else (worth (Lib.trimLeftB pw 48) : Int)) - pt.length)) := Lib.hid rfl
    simp only at G4 HL HO
    generalize Lib.trimLeftB pw 48 = q at *
    by_cases h6 : 6 < q.length
    · have HV := Lib.hid (HL.out h6)
      clear HL HO HM
      go_wp2_with fail
      refine bodyPost_ret (v := .tuple #[ndv nd0, .int .i64 0, .int .i64 2]) ?_ rfl (readEnd_of HV.out ?_)
      · simp [results, Tryz.results98, go_sem, ndv, nd0, k0, k1, k2, k3, k4, k5, hz1']
      · exact ((((((hB1.setCell (Nat.le_refl _) _).setCell (Nat.le_refl _) _).setCell (Nat.le_refl _) _).setCell (Nat.le_refl _) _).setCell (Nat.le_refl _) _).setCell (Nat.le_refl _) _).alloc (by simp; omega) _
    · have HV := Lib.hid (HO.out h6)
      clear HL HO
      go_wp2_with fail
      refine (worth_any _ _ G4.out (by show q.length ≤ 6; omega)).mono ?_
      rintro e w3 ⟨rfl, rfl⟩
      have hwb := worth_small q (by omega) G4.out
      have hwn : worth (ByteArray.mk q.toArray).data.toList = worth q := rfl
      rw [hwn]
      clear hwn
      generalize worth q = n at *
      have hsz : (ByteArray.mk wh.toArray ++ ByteArray.mk pt.toArray).size ≤ maxLen := by
        rw [← size_toList]; simp; unfold maxLen; omega
      cases dn
      · have HM2 : Hid (mkW ⟨g, wh, pt, false, pw⟩ = mk g (ByteArray.mk wh.toArray ++ ByteArray.mk pt.toArray).data.toList ((n : Int) - pt.length)) := Lib.hid (by rw [HM.out]; simp)
        clear HM
        go_wp2_with fail
        refine (make_any g _ _ _ hsz).mono ?_
        rintro e w2 ⟨rfl, hb2⟩
        rw [← HM2.out]
        have hB2 : Below w.heap.size w w2 := (hB1.alloc (by omega) _).trans (hb2.mono (by simp; omega))
        obtain ⟨hc2, hf2⟩ := kept_cells hb2
        have hz2 : w.heap.size + 2 ≤ w2.heap.size := by have := hb2.size; simp at this; omega
        have hz2' : w.heap.size < w2.heap.size := by omega
        have j0 : w2.cell? ⟨w.heap.size, 0, none⟩ = some (.int .i64 0) := by rw [hc2 _ _ (by simp; omega)]; simp [go_sem, hz1', k0]
        have j1 : w2.cell? ⟨w.heap.size, 1, none⟩ = some (.int .i64 0) := by rw [hc2 _ _ (by simp; omega)]; simp [go_sem, hz1', k1]
        have j2 : w2.cell? ⟨w.heap.size, 2, none⟩ = some (.string ⟨#[]⟩) := by rw [hc2 _ _ (by simp; omega)]; simp [go_sem, hz1', k2]
        have j3 : w2.cell? ⟨w.heap.size, 3, none⟩ = some (.string ⟨#[]⟩) := by rw [hc2 _ _ (by simp; omega)]; simp [go_sem, hz1', k3]
        have j4 : w2.cell? ⟨w.heap.size, 4, none⟩ = some (.bool false) := by rw [hc2 _ _ (by simp; omega)]; simp [go_sem, hz1', k4]
        have j5 : w2.cell? ⟨w.heap.size, 5, none⟩ = some (.int .i64 0) := by rw [hc2 _ _ (by simp; omega)]; simp [go_sem, hz1', k5]
        have jf : ∀ o, w2.frozen? ⟨w.heap.size, o, none⟩ = false := fun o => by rw [hf2 _ _ (by simp; omega)]; simp [go_sem, hz1', hfz]
        clear hb2 hc2 hf2 k0 k1 k2 k3 k4 k5 hfz
        generalize mkW ⟨g, wh, pt, false, pw⟩ = m at HV ⊢
        obtain ⟨⟨a0, a1, a2, a3, a4, a5⟩, c⟩ := m
        simp only [ndv]
        go_wp2_with fail
        refine bodyPost_ret (v := .tuple #[ndv ⟨a0, a1, a2, a3, a4, a5⟩, .int .i64 0, .int .i64 c]) ?_ rfl (readEnd_of HV.out ?_)
        · simp [results, Tryz.results98, go_sem, ndv, j0, j1, j2, j3, j4, j5, hz2']
        · exact ((((((hB2.setCell (Nat.le_refl _) _).setCell (Nat.le_refl _) _).setCell (Nat.le_refl _) _).setCell (Nat.le_refl _) _).setCell (Nat.le_refl _) _).setCell (Nat.le_refl _) _).alloc (by simp; omega) _
      · have HM2 : Hid (mkW ⟨g, wh, pt, true, pw⟩ = mk g (ByteArray.mk wh.toArray ++ ByteArray.mk pt.toArray).data.toList (-(n : Int) - pt.length)) := Lib.hid (by rw [HM.out]; simp)
        clear HM
        go_wp2_with fail
        refine (make_any g _ _ _ hsz).mono ?_
        rintro e w2 ⟨rfl, hb2⟩
        rw [← HM2.out]
        have hB2 : Below w.heap.size w w2 := (hB1.alloc (by omega) _).trans (hb2.mono (by simp; omega))
        obtain ⟨hc2, hf2⟩ := kept_cells hb2
        have hz2 : w.heap.size + 2 ≤ w2.heap.size := by have := hb2.size; simp at this; omega
        have hz2' : w.heap.size < w2.heap.size := by omega
        have j0 : w2.cell? ⟨w.heap.size, 0, none⟩ = some (.int .i64 0) := by rw [hc2 _ _ (by simp; omega)]; simp [go_sem, hz1', k0]
        have j1 : w2.cell? ⟨w.heap.size, 1, none⟩ = some (.int .i64 0) := by rw [hc2 _ _ (by simp; omega)]; simp [go_sem, hz1', k1]
        have j2 : w2.cell? ⟨w.heap.size, 2, none⟩ = some (.string ⟨#[]⟩) := by rw [hc2 _ _ (by simp; omega)]; simp [go_sem, hz1', k2]
        have j3 : w2.cell? ⟨w.heap.size, 3, none⟩ = some (.string ⟨#[]⟩) := by rw [hc2 _ _ (by simp; omega)]; simp [go_sem, hz1', k3]
        have j4 : w2.cell? ⟨w.heap.size, 4, none⟩ = some (.bool false) := by rw [hc2 _ _ (by simp; omega)]; simp [go_sem, hz1', k4]
        have j5 : w2.cell? ⟨w.heap.size, 5, none⟩ = some (.int .i64 0) := by rw [hc2 _ _ (by simp; omega)]; simp [go_sem, hz1', k5]
        have jf : ∀ o, w2.frozen? ⟨w.heap.size, o, none⟩ = false := fun o => by rw [hf2 _ _ (by simp; omega)]; simp [go_sem, hz1', hfz]
        clear hb2 hc2 hf2 k0 k1 k2 k3 k4 k5 hfz
        generalize mkW ⟨g, wh, pt, true, pw⟩ = m at HV ⊢
        obtain ⟨⟨a0, a1, a2, a3, a4, a5⟩, c⟩ := m
        simp only [ndv]
        go_wp2_with fail
        refine bodyPost_ret (v := .tuple #[ndv ⟨a0, a1, a2, a3, a4, a5⟩, .int .i64 0, .int .i64 c]) ?_ rfl (readEnd_of HV.out ?_)
        · simp [results, Tryz.results98, go_sem, ndv, j0, j1, j2, j3, j4, j5, hz2']
        · exact ((((((hB2.setCell (Nat.le_refl _) _).setCell (Nat.le_refl _) _).setCell (Nat.le_refl _) _).setCell (Nat.le_refl _) _).setCell (Nat.le_refl _) _).setCell (Nat.le_refl _) _).alloc (by simp; omega) _

end Go.Proofs.YtafbojiojeemoaaGreatDoor

/-
  What the reader's str, number and word are.
-/
namespace Go.Proofs.YtafbojiojeemoaaGreatDoor
open Go.RowKit Np Up Qp Tp

/-- How the reading of a string ends. -/
def StE (rb : Nat) (s : ByteArray) (d : Nat) (w : World) (R : Rs (List UInt8)) (e : Ending) (w' : World) : Prop :=
  Kb w.heap.size rb w w' ∧ match R with
  | .ok v k => e = .returned (.string ⟨v.toArray⟩) ∧ Rd rb s k d w'
  | .bad c p => e = flt c p
theorem StE.ok {rb : Nat} {s : ByteArray} {d k : Nat} {w w' : World} {R : Rs (List UInt8)} {v : List UInt8} (hR : R = .ok v k) (h1 : Kb w.heap.size rb w w') (h2 : Rd rb s k d w') : StE rb s d w R (.returned (.string ⟨v.toArray⟩)) w' := by subst hR; exact ⟨h1, rfl, h2⟩
theorem StE.bad {rb : Nat} {s : ByteArray} {d p : Nat} {w w' : World} {R : Rs (List UInt8)} {c : Int} (hR : R = .bad c p) (h1 : Kb w.heap.size rb w w') : StE rb s d w R (flt c p) w' := by subst hR; exact ⟨h1, rfl⟩

theorem StE.flt {rb : Nat} {s : ByteArray} {d p : Nat} {w w' : World} {R : Rs (List UInt8)} {c : Int} (hR : R = .bad c p) (q : Int) (hq : q = p) (h1 : Kb w.heap.size rb w w') : StE rb s d w R (.panicked [{ v := .iface 53 (.agg #[.int .i64 c, .int .i64 q]), recovered := false }]) w' := by subst hq; exact StE.bad hR h1

theorem cut_end (s : ByteArray) (k : Nat) : (s.extract k s.size).data.toList = s.data.toList.drop k := ext_end s k

set_option maxRecDepth 100000 in
set_option maxHeartbeats 2000000 in
theorem str_any (rb : Nat) (s : ByteArray) (i d : Nat) (w : World) (hr : Rd rb s i d w) (hi : i ≤ s.size) (hs : s.size ≤ 400000) (hE : ∀ w', Kb w.heap.size rb w w' → Er w') :
    Calls Tryz.prog 56 #[.pointer (some ⟨rb, 0, none⟩)] w (StE rb s d w (stR s.data.toList (sk s.data.toList i))) := by
  have HX := Lib.hid (next_any rb s i d w hr hi hs)
  have hT : sk s.data.toList i ≤ s.size := sk_le (S := s.data.toList) hi
  have HRR : Hid (stR s.data.toList (sk s.data.toList i) = if (unqs (s.data.toList.drop (sk s.data.toList i))).2.2 = 0 then .ok (unqs (s.data.toList.drop (sk s.data.toList i))).1 (sk s.data.toList i + (unqs (s.data.toList.drop (sk s.data.toList i))).2.1) else .bad (unqs (s.data.toList.drop (sk s.data.toList i))).2.2 (sk s.data.toList i + (unqs (s.data.toList.drop (sk s.data.toList i))).2.1)) := Lib.hid rfl
  have hsh := unqs_shape (s.data.toList.drop (sk s.data.toList i))
  generalize stR s.data.toList (sk s.data.toList i) = R at *
  generalize sk s.data.toList i = T at *
  have hcut := cut_end s T
  have hcs : (s.extract T s.size).size ≤ 1073741824 := by
    have := congrArg List.length hcut
    rw [List.length_drop, size_toList, size_toList] at this
    omega
  have HU := Lib.hid (fun w (h : Er w) => unquote_any (s.extract T s.size) w hcs h)
  rw [hcut] at HU
  have hdl : (s.data.toList.drop T).length ≤ s.size := by rw [List.length_drop, size_toList]; omega
  generalize unqs (s.data.toList.drop T) = u at *
  have hn : u.2.1 ≤ 400000 := by rcases hsh with h | h <;> omega
  clear hcut hcs hdl hr
  have HSH := Lib.hid hsh
  clear hsh
  go_enter Tryz.func56, Tryz.ntmps56
  go_wp2_with (go_at_call 31; refine HX.out.mono ?_)
  rintro e w1 ⟨rfl, hr1, hk1⟩
  have HR := Lib.hid hr1
  have HK := Lib.hid hk1
  have c0 := hr1.c0
  have c1 := hr1.c1
  have f1 := hr1.fz 1
  clear hr1 hk1
  have hEr : Er w1 := hE _ HK.out
  obtain ⟨uv, un, uc⟩ := u
  simp only at hn HSH HRR
  have HUU : Hid (∀ w (h : Er w), Calls Tryz.prog 96 #[.string (s.extract T s.size)] w fun e w' => e = .returned (.tuple #[.string ⟨uv.toArray⟩, .int .i64 un, .int .i64 uc]) ∧ Below w.heap.size w w') := Lib.hid HU.out
  clear HU
  go_upto_region 2 with fail
  go_cut [3, 4, 5] from 8 to 21 (fun a b c wx => a = .string ⟨uv.toArray⟩ ∧ b = .int .i64 un ∧ c = .int .i64 uc ∧ Below w1.heap.size w1 wx)
  case first =>
    go_region_with (go_at_call 96; refine (HUU.out w1.drew hEr).mono ?_; rintro e w2 ⟨rfl, hb2⟩)
    all_goals go_wp2_with fail
    all_goals go_meet
    all_goals exact ⟨rfl, rfl, rfl, ((Below.refl _ _).drew).trans hb2⟩
  case rest =>
    obtain ⟨rfl, rfl, rfl, hb2⟩ := hcut
    have HK2 : Hid (Kb w.heap.size rb w wc) := Lib.hid (HK.out.trans ((Kb.of hb2).mono HK.out.size))
    have HR2 : Hid (Rd rb s T d wc) := Lib.hid (HR.out.below hb2 HR.out.lt)
    have c0 := HR2.out.c0
    have c1 := HR2.out.c1
    have f1 := HR2.out.fz 1
    clear hb2
    rcases HSH.out with ⟨h1, -⟩ | ⟨-, h1, -⟩
    · subst h1
      have HRS : Hid (R = .ok uv (T + un)) := Lib.hid (by rw [HRR.out, if_pos rfl])
      have h3 := HR2.out.to (T + un)
      rw [Int.natCast_add] at h3
      have H3 := Lib.hid h3
      clear h3
      go_wp2
      go_ret
      exact StE.ok HRS.out (HK2.out.set 1 _) H3.out
    · subst h1
      have HRS : Hid (R = .bad 1 (T + un)) := Lib.hid (by rw [HRR.out, if_neg (by decide)])
      go_wp2
      exact ⟨rfl, StE.flt HRS.out _ (by omega) HK2.out⟩
end Go.Proofs.YtafbojiojeemoaaGreatDoor

/-
  What the reader's object gathers: its closure.
-/
namespace Go.Proofs.YtafbojiojeemoaaGreatDoor
open Go.RowKit Go.Maps Np Rw Vp Up Qp Tp

theorem fdR_bad1 {rd : Nat → Rs (List Nd)} {S : List UInt8} {i p : Nat} {e : Int} (h : stR S (sk S i) = .bad e p) : fdR rd S i = .bad e p := by unfold fdR; rw [h]
theorem fdR_bad2 {rd : Nat → Rs (List Nd)} {S : List UInt8} {i k : Nat} {nm : List UInt8} (h : stR S (sk S i) = .ok nm k) (hJ : isAt S k 58 = false) : fdR rd S i = .bad 1 (sk S k) := by
  unfold fdR; rw [h]
  show (if bt S (sk S k) = 58 then _ else _) = _
  rw [if_neg (fun h' => by rw [isAt_iff.2 h'] at hJ; cases hJ)]
theorem fdR_bad3 {rd : Nat → Rs (List Nd)} {S : List UInt8} {i k p : Nat} {nm : List UInt8} {e : Int} (h : stR S (sk S i) = .ok nm k) (hJ : isAt S k 58 = true) (hr : rd (sk S k + 1) = .bad e p) : fdR rd S i = .bad e p := by
  unfold fdR; rw [h]
  show (if bt S (sk S k) = 58 then _ else _) = _
  rw [if_pos (isAt_iff.1 hJ), hr]
theorem fdR_good {rd : Nat → Rs (List Nd)} {S : List UInt8} {i k p : Nat} {nm : List UInt8} {v : List Nd} (h : stR S (sk S i) = .ok nm k) (hJ : isAt S k 58 = true) (hr : rd (sk S k + 1) = .ok v p) : fdR rd S i = .ok (nm, v) p := by
  unfold fdR; rw [h]
  show (if bt S (sk S k) = 58 then _ else _) = _
  rw [if_pos (isAt_iff.1 hJ), hr]

/-- What an object has gathered. -/
def ObSt (b0 b1 bN bL bP bm rb j i : Nat) (acc : List Pr) (W : World) : Prop :=
  FdP j (i + 1) acc ∧ ∃ vN vL zs n, n ≤ acc.length ∧ Ob0 b0 b1 bN bL bP bm n rb vN vL (ix (acc.map (·.1))) W vN (acc.map (·.1)) vL zs (acc.map (·.2))
theorem ObSt.kb {b0 b1 bN bL bP bm rb j i k x : Nat} {s : ByteArray} {acc : List Pr} {W W' : World} (h : ObSt b0 b1 bN bL bP bm rb j i acc W) (hr : Rd rb s k x W) (hk : Kb W.heap.size rb W W') : ObSt b0 b1 bN bL bP bm rb j i acc W' := by
  obtain ⟨h1, vN, vL, zs, n, h2, h3⟩ := h
  exact ⟨h1, vN, vL, zs, n, h2, h3.kb hr hk⟩
theorem ObSt.up {b0 b1 bN bL bP bm rb j i k : Nat} {acc : List Pr} {W : World} (h : ObSt b0 b1 bN bL bP bm rb j i acc W) (hk : i ≤ k) : ObSt b0 b1 bN bL bP bm rb j k acc W := ⟨h.1.up (by omega), h.2⟩

section
variable {base : World} {s : ByteArray} {j k d b0 b1 bN bL bP bm n rb m c : Nat} {uN uL : Value} {A : Option Addr} {vv : List Nd} {X : World} {vN : Value} {ns : List (List UInt8)} {vL : Value} {zs : List (Option Addr × Nat × Nat)} {L : List (List Nd)} {acc : List Pr}
theorem ob_end (h : Bfd base s k d b0 b1 bN bL bP bm n rb uN uL (ix ns) A m c vv X vN ns vL zs L) (hN : base.heap.size ≤ bN) (hL : base.heap.size ≤ bL) (e1 : acc.map (·.1) = ns) (e2 : acc.map (·.2) = L) (hP : FdP j (k + 1) acc) (hn : n ≤ acc.length) :
    PtE rb s d (ObSt b0 b1 bN bL bP bm rb j) base (.ok acc k) (.returned (.tuple #[])) ((X.setCell ⟨bN, 0, none⟩ vN).setCell ⟨bL, 0, none⟩ vL) := by
  subst e1 e2
  have h1 := h.ob.xN.ne_rd h.rd
  have h2 := h.ob.xL.ne_rd h.rd
  exact PtE.ok rfl ((h.kb.setHigh hN _).setHigh hL _) ⟨hP, vN, vL, zs, n, hn, (h.ob.setN vN).setL vL⟩ ((h.rd.other h1 _).other h2 _)
theorem ob_end' (h : Bfd base s k d b0 b1 bN bL bP bm n rb uN uL (ix ns) A m c vv X vN ns vL zs L) (hN : base.heap.size ≤ bN) (hL : base.heap.size ≤ bL) (e1 : acc.map (·.1) = ns) (e2 : acc.map (·.2) = L) (hP : FdP j (k + 1) acc) (hn : n ≤ acc.length) :
    PtE rb s d (ObSt b0 b1 bN bL bP bm rb j) base (.ok acc k) (.returned (.tuple #[])) ((X.setCell ⟨bL, 0, none⟩ vL).setCell ⟨bN, 0, none⟩ vN) := by
  subst e1 e2
  have h1 := h.ob.xN.ne_rd h.rd
  have h2 := h.ob.xL.ne_rd h.rd
  exact PtE.ok rfl ((h.kb.setHigh hL _).setHigh hN _) ⟨hP, vN, vL, zs, n, hn, (h.ob.setL vL).setN vN⟩ ((h.rd.other h2 _).other h1 _)
end
theorem i64_wf {x : Int} (h0 : 0 ≤ x) (h1 : x ≤ 1000000) : (Lit.int .i64 x).wf = true := by
  simp only [Lit.wf, IntKind.min, IntKind.max, IntKind.signed, IntKind.bits, Bool.and_eq_true, decide_eq_true_eq, if_true]
  omega

set_option maxRecDepth 100000 in
set_option maxHeartbeats 8000000 in
theorem object1_any (rd : Nat → Rs (List Nd)) (base : World) (rb : Nat) (s : ByteArray) (b0 b1 bN bL bP bm j i d : Nat) (acc : List Pr) (W : World) (hs : s.size ≤ 400000)
    (hSt : ObSt b0 b1 bN bL bP bm rb j (i - 1) acc W) (hr : Rd rb s i d W) (hb : Kb base.heap.size rb base W) (hb0 : base.heap.size ≤ b0) (hb00 : b0 ≤ base.heap.size) (hbN : base.heap.size ≤ bN) (hbL : base.heap.size ≤ bL) (hbm : base.heap.size ≤ bm) (hi : 1 ≤ i) (his : i ≤ s.size)
    (hE : ∀ w', Kb base.heap.size rb base w' → Er w') (hG : Goes s.data.toList rd)
    (HV : ∀ i' W', i' ≤ s.size → Rd rb s i' d W' → Kb base.heap.size rb base W' → Calls Tryz.prog 30 #[.pointer (some ⟨rb, 0, none⟩)] W' (VlE rb s d W' (rd i'))) :
    Calls Tryz.prog 93 #[.pointer (some ⟨b1, 0, none⟩), .pointer (some ⟨bP, 0, none⟩), .pointer (some ⟨bL, 0, none⟩), .pointer (some ⟨bN, 0, none⟩)] W (PtE rb s d (ObSt b0 b1 bN bL bP bm rb j) base (mapR (putP acc) (fdR rd s.data.toList i))) := by
  obtain ⟨hP, vN, vL, zs, n, hn, ho⟩ := hSt
  rw [show i - 1 + 1 = i by omega] at hP
  have hfew := hP.few
  have hbs : b0 ≤ W.heap.size := Nat.le_trans hb00 hb.size
  have HST := str_any rb s i d W hr his hs (fun w' h => hE w' (hb.trans (h.mono hb.size)))
  have HO := Lib.hid ho
  have HR := Lib.hid hr
  have HB := Lib.hid hb
  have a1 := ho.x1.c
  have HP := Lib.hid hP
  clear ho hr hb hP
  cases hst : stR s.data.toList (sk s.data.toList i) with
  | bad er p =>
    rw [hst] at HST
    have HS2 := Lib.hid HST
    have HF : Hid (fdR rd s.data.toList i = .bad er p) := Lib.hid (fdR_bad1 hst)
    clear hst HST HV hG
    go_enter Tryz.func93, Tryz.ntmps93
    go_wp2_with (go_at_call 56; refine HS2.out.mono ?_; rintro e w2 ⟨hk2, he⟩; unfold flt at he; subst he)
    exact ⟨rfl, by rw [HF.out]; exact PtE.bad rfl (HB.out.trans (hk2.mono HB.out.size))⟩
  | ok nm k =>
    rw [hst] at HST
    obtain ⟨hk1, hks, hvd, -, hkn⟩ := stR_ok hst
    have hks' : k ≤ s.size := hks
    have HS2 : Hid (Calls Tryz.prog 56 #[.pointer (some ⟨rb, 0, none⟩)] W (fun e w2 => Kb W.heap.size rb W w2 ∧ e = .returned (.string ⟨nm.toArray⟩) ∧ Rd rb s k d w2)) := Lib.hid HST
    have HN := fun X (h : Rd rb s k d X) => needs_any rb s k d 58 X h hks' hs
    clear HST
    cases hJ : isAt s.data.toList k 58 with
    | false =>
      have HF : Hid (fdR rd s.data.toList i = .bad 1 (sk s.data.toList k)) := Lib.hid (fdR_bad2 hst hJ)
      have HNN : Hid (∀ X, Rd rb s k d X → Calls Tryz.prog 94 #[.pointer (some ⟨rb, 0, none⟩), .int .u8 58] X fun e w' => Kb X.heap.size rb X w' ∧ e = flt 1 (sk s.data.toList k)) := Lib.hid (fun X h => (HN X h).mono (by
        rintro e w' ⟨h1, ⟨h2, -⟩ | ⟨-, h2⟩⟩
        · rw [hJ] at h2; cases h2
        · exact ⟨h1, h2⟩))
      clear hst HN HV hG hJ
      go_enter Tryz.func93, Tryz.ntmps93
      go_wp2_with (first
        | (go_at_call 56; refine HS2.out.mono ?_; rintro e w2 ⟨hk2, rfl, hr2⟩; have o2 := HO.out.kb HR.out hk2; have a2 := o2.x1.c; have HK2 := Lib.hid hk2; have HR2 := Lib.hid hr2; clear o2 hk2 hr2)
        | (go_at_call 94; refine (HNN.out _ HR2.out).mono ?_; rintro e w3 ⟨hk3, he⟩; unfold flt at he; subst he))
      exact ⟨rfl, by rw [HF.out]; exact PtE.bad rfl ((HB.out.trans (HK2.out.mono HB.out.size)).trans (hk3.mono (Nat.le_trans HB.out.size HK2.out.size)))⟩
    | true =>
      have hlt : sk s.data.toList k < s.size := bt_lt (S := s.data.toList) (k := sk s.data.toList k) (by rw [isAt_iff.1 hJ]; decide)
      have HNN : Hid (∀ X, Rd rb s k d X → Calls Tryz.prog 94 #[.pointer (some ⟨rb, 0, none⟩), .int .u8 58] X fun e w' => Kb X.heap.size rb X w' ∧ e = .returned (.tuple #[]) ∧ Rd rb s (sk s.data.toList k + 1) d w') := Lib.hid (fun X h => (HN X h).mono (by
        rintro e w' ⟨h1, ⟨-, h2⟩ | ⟨h2, -⟩⟩
        · exact ⟨h1, h2⟩
        · rw [hJ] at h2; cases h2))
      have HV3 := fun X => HV (sk s.data.toList k + 1) X (by omega)
      clear HN HV
      cases hrd : rd (sk s.data.toList k + 1) with
      | bad er p =>
        have HF : Hid (fdR rd s.data.toList i = .bad er p) := Lib.hid (fdR_bad3 hst hJ hrd)
        rw [hrd] at HV3
        have HV4 := Lib.hid HV3
        clear hst HV3 hG hJ hrd
        go_enter Tryz.func93, Tryz.ntmps93
        go_wp2_with (first
          | (go_at_call 56; refine HS2.out.mono ?_; rintro e w2 ⟨hk2, rfl, hr2⟩; have o2 := HO.out.kb HR.out hk2; have a2 := o2.x1.c; have HB2 := Lib.hid (HB.out.trans (hk2.mono HB.out.size)); have HR2 := Lib.hid hr2; have HO2 := Lib.hid o2; clear o2 hk2 hr2)
          | (go_at_call 94; refine (HNN.out _ HR2.out).mono ?_; rintro e w3 ⟨hk3, rfl, hr3⟩; have o3 := HO2.out.kb HR2.out hk3; have a3 := o3.x1.c; have HB3 := Lib.hid (HB2.out.trans (hk3.mono HB2.out.size)); have HR3 := Lib.hid hr3; clear o3 hk3 hr3)
          | (go_at_call 30; refine (HV4.out _ HR3.out HB3.out).mono ?_; rintro e w4 ⟨hk4, he⟩; unfold flt at he; subst he))
        exact ⟨rfl, by rw [HF.out]; exact PtE.bad rfl (HB3.out.trans (hk4.mono HB3.out.size))⟩
      | ok v k2 =>
        have HF : Hid (fdR rd s.data.toList i = .ok (nm, v) k2) := Lib.hid (fdR_good hst hJ hrd)
        rw [hrd] at HV3
        obtain ⟨hg1, hg2, hg3, hg4⟩ := hG _ v k2 hrd
        have HV4 : Hid (∀ X, Rd rb s (sk s.data.toList k + 1) d X → Kb base.heap.size rb base X → b0 ≤ X.heap.size → Calls Tryz.prog 30 #[.pointer (some ⟨rb, 0, none⟩)] X (fun e w4 => ∃ (A : Option Addr) (m c : Nat), e = .returned (.slice A m c) ∧ Hid (OwnN b0 w4 (.slice A m c) v) ∧ Hid (Rd rb s k2 d w4) ∧ Hid (Kb X.heap.size rb X w4))) := Lib.hid (fun X h1 h2 h3 => (HV3 X h1 h2).mono (by
          rintro e w4 ⟨hk4, V, rfl, hV, hr4⟩
          obtain ⟨A, c, rfl, -⟩ := hV.form
          exact ⟨A, v.length, c, rfl, Lib.hid (hV.mono h3), Lib.hid hr4, Lib.hid hk4⟩))
        have hkey : keyOf Tryz.prog 9 (.string ⟨nm.toArray⟩) = some (.string nm) := by
          simpa using WideMaps.keyOf_string_mk (P := Tryz.prog) Tryz.underlying9 (s := ⟨nm.toArray⟩) (by rw [mk_size]; unfold maxLen; omega)
        have hsk := sk_ge s.data.toList i
        have hsk2 := sk_ge s.data.toList k
        have HPP : Hid (FdP j (k2 + 1) (putP acc (nm, v))) := Lib.hid (HP.out.put (k := k2) hvd (by simp only; omega) (by simp only; omega) (by omega) (by omega))
        have hzl : zs.length = acc.length := by have := HO.out.eL.1; simpa using this
        have hnl : (acc.map (·.1)).length = acc.length := by simp
        by_cases hm : nm ∈ acc.map (·.1)
        · have hq : (acc.map (·.1)).idxOf nm < acc.length := by rw [← hnl]; exact List.idxOf_lt_length_of_mem hm
          have HIX : Hid (ix (acc.map (·.1)) nm = some (((acc.map (·.1)).idxOf nm : Nat) : Int)) := Lib.hid (by unfold ix; rw [if_pos hm])
          have HPN := Lib.hid (putP_names acc (nm, v) hm)
          have HPL : Hid ((putP acc (nm, v)).map (·.2) = (acc.map (·.2)).set ((acc.map (·.1)).idxOf nm) v) := Lib.hid (by
            have := putP_parts nm v acc HP.out.2.2.1
            rw [← this]
            unfold putP; rw [if_pos hm])
          obtain ⟨g, cap, rfl, -, -⟩ := HO.out.oL.opened (by omega)
          generalize (acc.map (·.1)).idxOf nm = q at *
          obtain ⟨z, hz⟩ : ∃ z, zs[q]? = some z := ⟨_, List.getElem?_eq_getElem (by omega)⟩
          have HZ := Lib.hid hz
          have hql : (q : Int) < (zs.length : Int) := by omega
          have hq0 : (0 : Int) ≤ (q : Int) := by omega
          have HZL := Lib.hid hzl
          clear hst HV3 hG hJ hrd hz hzl hnl
          go_enter Tryz.func93, Tryz.ntmps93
          go_wp2_with (first
            | (go_at_call 56; refine HS2.out.mono ?_; rintro e w2 ⟨hk2, rfl, hr2⟩; have o2 := HO.out.kb HR.out hk2; have a2 := o2.x1.c; have HB2 := Lib.hid (HB.out.trans (hk2.mono HB.out.size)); have HR2 := Lib.hid hr2; have HO2 := Lib.hid o2; have HS2a := Lib.hid hk2.size; clear o2 hk2 hr2)
            | (go_at_call 94; refine (HNN.out _ HR2.out).mono ?_; rintro e w3 ⟨hk3, rfl, hr3⟩; have o3 := HO2.out.kb HR2.out hk3; have a3 := o3.x1.c; have HB3 := Lib.hid (HB2.out.trans (hk3.mono HB2.out.size)); have HR3 := Lib.hid hr3; have HO3 := Lib.hid o3; have HS3a := Lib.hid hk3.size; clear o3 hk3 hr3)
            | (go_at_call 30; refine (HV4.out _ HR3.out HB3.out (Nat.le_trans hbs (Nat.le_trans HS2a.out HS3a.out))).mono ?_; rintro e w4 ⟨A, m, c, rfl, HV5, HR4, HK4⟩; have o4 := HO3.out.kb HR3.out HK4.out; have a4 := o4.xP.c; have l4 := o4.xL.c; have HB4 := Lib.hid (HB3.out.trans (HK4.out.mono HB3.out.size)); have HO4 := Lib.hid o4; have e4 : w4.cell? ⟨g, q, none⟩ = some (.slice z.1 z.2.1 z.2.2) := (by have := Own.cell slc_len (j := 0) o4.oL HZ.out rfl; rwa [Nat.mul_one, Nat.add_zero] at this); have f4 := o4.oL.free q; obtain ⟨D, hD, hVw⟩ := o4.map; have HH : Hid (Maps.has D (.string nm) = true) := Lib.hid (by rw [(hVw.2 nm).1, HIX.out]; rfl); have HVW := Lib.hid hVw; clear hVw o4)
            | (at_lookup; refine wpList_lookup_own_ok_int _ rfl _ _ 115 rfl 9 3 .i64 lawS Tryz.underlying115 Tryz.underlying3 (zeroS _) bm n D rfl hD _ _ rfl hkey ?_; intro cc hat hwc; rw [HH.out]; obtain rfl := HVW.out.hit HIX.out hat; clear hat hwc))
          first | go_end0 | refine bodyPost_ret (results_none rfl _ _ _) rfl ?_
          rw [HF.out]
          have hgl := HO4.out.oL.lt
          have hgr : g ≠ rb := fun e => HO4.out.oL.ne HR4.out (by decide) (by subst e; rfl)
          refine PtE.ok rfl (HB4.out.setHigh (by show base.heap.size ≤ g; omega) _) ⟨HPP.out, vN, .slice (some ⟨g, 0, none⟩) zs.length cap, zs.set q (A, m, c), n, by have := congrArg List.length HPN.out; rw [List.length_map, List.length_map] at this; omega, ?_⟩ (HR4.out.other hgr _)
          rw [HPN.out, HPL.out]
          exact HO4.out.putL HZ.out HV5.out
        · obtain ⟨A0, c0, rfl, hA0, hA1, -⟩ := HO.out.oL.form
          have HPN : Hid ((putP acc (nm, v)).map (·.1) = acc.map (·.1) ++ [nm] ∧ (putP acc (nm, v)).map (·.2) = acc.map (·.2) ++ [v] ∧ (putP acc (nm, v)).length = acc.length + 1) := Lib.hid (by rw [putP_new acc (nm, v) hm]; simp)
          have HIX : Hid (ix (acc.map (·.1)) nm = none) := Lib.hid (by unfold ix; rw [if_neg hm])
          have HIS : Hid (upS (ix (acc.map (·.1))) nm (zs.length : Nat) = ix (acc.map (·.1) ++ [nm])) := Lib.hid (by rw [hzl, ← hnl]; exact ix_snoc hm)
          have hacc : acc.length ≤ 100000 := by omega
          have hzb : zs.length ≤ 100000 := by omega
          have hwf : (Lit.int .i64 (zs.length : Int)).wf = true := i64_wf (by omega) (by omega)
          have HZL := Lib.hid hzl
          clear hst HV3 hG hJ hrd hzl hnl
          go_enter Tryz.func93, Tryz.ntmps93
          go_wp2_with (first
            | (go_at_call 56; refine HS2.out.mono ?_; rintro e w2 ⟨hk2, rfl, hr2⟩; have o2 := HO.out.kb HR.out hk2; have a2 := o2.x1.c; have HB2 := Lib.hid (HB.out.trans (hk2.mono HB.out.size)); have HR2 := Lib.hid hr2; have HO2 := Lib.hid o2; have HS2a := Lib.hid hk2.size; clear o2 hk2 hr2)
            | (go_at_call 94; refine (HNN.out _ HR2.out).mono ?_; rintro e w3 ⟨hk3, rfl, hr3⟩; have o3 := HO2.out.kb HR2.out hk3; have a3 := o3.x1.c; have HB3 := Lib.hid (HB2.out.trans (hk3.mono HB2.out.size)); have HR3 := Lib.hid hr3; have HO3 := Lib.hid o3; have HS3a := Lib.hid hk3.size; clear o3 hk3 hr3)
            | (go_at_call 30; refine (HV4.out _ HR3.out HB3.out (Nat.le_trans hbs (Nat.le_trans HS2a.out HS3a.out))).mono ?_; rintro e w4 ⟨A, m, c, rfl, HV5, HR4, HK4⟩; have o4 := HO3.out.kb HR3.out HK4.out; have a4 := o4.xP.c; have l4 := o4.xL.c; have HB4 := Lib.hid (HB3.out.trans (HK4.out.mono HB3.out.size)); have HO4 := Lib.hid o4; obtain ⟨D, hD, hVw⟩ := o4.map; have HH : Hid (Maps.has D (.string nm) = false) := Lib.hid (by rw [(hVw.2 nm).1, HIX.out]; rfl); have HVW := Lib.hid hVw; have HS4a := Lib.hid HK4.out.size; clear hVw o4)
            | (at_lookup; refine wpList_lookup_own_ok_int _ rfl _ _ 115 rfl 9 3 .i64 lawS Tryz.underlying115 Tryz.underlying3 (zeroS _) bm n D rfl hD _ _ rfl hkey ?_; intro cc hat hwc; rw [HH.out]; clear hat hwc)
            | (at_mapUpdate; refine wpList_mapUpdate_own _ rfl _ _ _ 115 rfl 9 3 lawS Tryz.underlying115 _ bm n D rfl hD (by unfold maxLen; omega) _ _ _ rfl rfl hkey _ [] (plainElem_int Tryz.underlying3 hwf) ?_; intro w5 hmap5 hgrow5))
          obtain ⟨es, clock, hmb⟩ := HO4.out.map.blk
          have hbd : Bfd base s k2 d b0 b1 bN bL bP bm (n + 1) rb vN (.slice A0 zs.length c0) (ix (acc.map (·.1) ++ [nm])) A m c v w5.drew vN (acc.map (·.1)) (.slice A0 zs.length c0) zs (acc.map (·.2)) :=
            ⟨(HB4.out.grown hgrow5 HB4.out.size (fun j hj => by injection hj with hj; omega)).drew, (show Rd rb s k2 d w5.drew from kept_map hmb hgrow5 HR4.out), (HV5.out.map hmb hgrow5).drew, (HO4.out.upd ⟨_, hmap5, by rw [← HIS.out]; exact HVW.out.put nm _⟩ hgrow5).drew⟩
          obtain ⟨d1, d2, d3, d4, -, -, d7, d8, d9, d10⟩ := hbd.cells
          replace d1 : w5.cell? ⟨bN, 0, none⟩ = some vN := d1
          replace d2 : w5.cell? ⟨bL, 0, none⟩ = some (.slice A0 zs.length c0) := d2
          replace d3 : w5.frozen? ⟨bN, 0, none⟩ = false := d3
          replace d4 : w5.frozen? ⟨bL, 0, none⟩ = false := d4
          replace d7 : bN < w5.heap.size := d7
          replace d8 : bL < w5.heap.size := d8
          have d5 : ¬ bN = w5.heap.size := by omega
          have d6 : ¬ bL = w5.heap.size := by omega
          have d5' : ¬ bN = w5.heap.size + 1 := by omega
          have d6' : ¬ bL = w5.heap.size + 1 := by omega
          have HBN : Hid ((acc.map (·.1)).length + 1 ≤ maxLen) := Lib.hid (by rw [List.length_map]; unfold maxLen; omega)
          have HBN2 : Hid (((acc.map (·.1)).length + 1) * 16 ≤ 140737488355328) := Lib.hid (by rw [List.length_map]; omega)
          have HBL : Hid (zs.length + 1 ≤ maxLen) := Lib.hid (by unfold maxLen; omega)
          have HBL2 : Hid ((zs.length + 1) * 24 ≤ 140737488355328) := Lib.hid (by omega)
          obtain ⟨ist, hist, hs0, hs1, hs2⟩ := info_parts string_info
          obtain ⟨iv, hiv, hz0, hz1, hz2⟩ := info_parts val_info
          have HNL : Hid (n + 1 ≤ (putP acc (nm, v)).length) := Lib.hid (by have := HPN.out.2.2; omega)
          clear HO HO2 HO3 HO4 HV4 HV5 HVW HIS HIX HB HB2 HB3 HB4 HR HR2 HR3 HR4 HK4 HS2 HNN HS2a HS3a HS4a hmb hmap5 hgrow5 hD a1 a2 a3 a4 l4
          generalize hns : acc.map (·.1) = ns at *
          have HNS := Lib.hid hns
          clear hns
          go_upto_region 7 with fail
          go_region_law (first
            | (refine step_append_lies _ (by rfl) _ _ _ (by rfl) b0 _ ist (.string ⟨#[]⟩) 1 16 Tryz.underlying40 hist hs0 hs1 hs2 (by decide) (by decide) vN ns.length (ns.flatMap stc) (by rfl) (show Own stc 1 9 b0 _ vN ns from (Bfd.ob (by first | assumption | exact Bfd.alD (by assumption) _ | exact Bfd.alD2 (by assumption) _ _ | exact Bfd.alloc (by assumption) _ | exact Bfd.alloc2 (by assumption) _ _)).oN) _ 1 1 [.string ⟨nm.toArray⟩] (by rfl) (by rfl) (World.news_of_block (by first | exact new_at (by simp) | exact new_at2 (by simp) | exact HKL.out _ _ _ _ (new_at (by simp)) (by decide) | exact HKL.out _ _ _ _ (new_at2 (by simp)) (by decide))) (by intro u hu; simp at hu; subst hu; rfl) (by decide) HBN.out HBN2.out (Nat.le_trans hb00 (Bfd.kb (by first | assumption | exact Bfd.alD (by assumption) _ | exact Bfd.alD2 (by assumption) _ _ | exact Bfd.alloc (by assumption) _ | exact Bfd.alloc2 (by assumption) _ _)).size) _ rfl ?_; intro gN capN w6 hownN hgrN hatN hltN; have hbd6 := Bfd.appN (by first | assumption | exact Bfd.alD (by assumption) _ | exact Bfd.alD2 (by assumption) _ _ | exact Bfd.alloc (by assumption) _ | exact Bfd.alloc2 (by assumption) _ _) hb0 hownN hgrN; obtain ⟨n1, n2, n3, n4, n5, n6, n7, n8, -, -⟩ := hbd6.cells; have n5' : ¬ bN = w6.heap.size + 1 := (by omega); have n6' : ¬ bL = w6.heap.size + 1 := (by omega); have HKN := Lib.hid (fun (B T : Nat) (cs : Array Value) (fz : Nat × Nat) h hT => keptT (b := B) (T := T) (cs := cs) (fz := fz) (Bfd.ob (by first | assumption | exact Bfd.alD (by assumption) _ | exact Bfd.alD2 (by assumption) _ _ | exact Bfd.alloc (by assumption) _ | exact Bfd.alloc2 (by assumption) _ _)).oN hgrN h hT); clear hownN hgrN hatN hltN)
            | (refine step_append_lies _ (by rfl) _ _ _ (by rfl) b0 _ iv (.slice none 0 0) 1 24 Tryz.underlying41 hiv hz0 hz1 hz2 (by decide) (by decide) (.slice A0 zs.length c0) zs.length (zs.flatMap slc) (by rfl) (show Own slc 1 24 b0 _ (.slice A0 zs.length c0) zs from (Bfd.ob (by first | assumption | exact Bfd.alD (by assumption) _ | exact Bfd.alD2 (by assumption) _ _ | exact Bfd.alloc (by assumption) _ | exact Bfd.alloc2 (by assumption) _ _)).oL) _ 1 1 [.slice A m c] (by rfl) (by rfl) (World.news_of_block (by first | exact new_at (by simp) | exact new_at2 (by simp) | exact HKN.out _ _ _ _ (new_at (by simp)) (by decide) | exact HKN.out _ _ _ _ (new_at2 (by simp)) (by decide))) (by intro u hu; simp at hu; subst hu; rfl) (by decide) HBL.out HBL2.out (Nat.le_trans hb00 (Bfd.kb (by first | assumption | exact Bfd.alD (by assumption) _ | exact Bfd.alD2 (by assumption) _ _ | exact Bfd.alloc (by assumption) _ | exact Bfd.alloc2 (by assumption) _ _)).size) _ rfl ?_; intro gL capL w7 hownL hgrL hatL hltL; have hbd7 := Bfd.appL (by first | assumption | exact Bfd.alD (by assumption) _ | exact Bfd.alD2 (by assumption) _ _ | exact Bfd.alloc (by assumption) _ | exact Bfd.alloc2 (by assumption) _ _) hb0 hownL hgrL; obtain ⟨o1, o2, o3, o4, o5, o6, o7, o8, -, -⟩ := hbd7.cells; have o5' : ¬ bN = w7.heap.size + 1 := (by omega); have o6' : ¬ bL = w7.heap.size + 1 := (by omega); have HKL := Lib.hid (fun (B T : Nat) (cs : Array Value) (fz : Nat × Nat) h hT => keptT (b := B) (T := T) (cs := cs) (fz := fz) (Bfd.ob (by first | assumption | exact Bfd.alD (by assumption) _ | exact Bfd.alD2 (by assumption) _ _ | exact Bfd.alloc (by assumption) _ | exact Bfd.alloc2 (by assumption) _ _)).oL hgrL h hT); clear hownL hgrL hatL hltL))
          all_goals go_end0
          all_goals rw [HF.out]
          all_goals first
            | exact ob_end hbd7 hbN hbL HPN.out.1 HPN.out.2.1 HPP.out HNL.out
            | exact ob_end' hbd7 hbN hbL HPN.out.1 HPN.out.2.1 HPP.out HNL.out
end Go.Proofs.YtafbojiojeemoaaGreatDoor

/-
  What the reader's object is.
-/
namespace Go.Proofs.YtafbojiojeemoaaGreatDoor
open Go.RowKit Go.Maps Np Rw Vp Up Qp Tp

theorem ob_start {rb n : Nat} {w W : World} (hn : w.heap.size = n)
    (hW : W = ((((w.alloc (.cells #[.pointer (some ⟨rb, 0, none⟩)] 91)).alloc (.cells #[.slice none 0 0] 40)).alloc (.cells #[.slice none 0 0] 41)).alloc (.map #[] 0)).alloc (.cells #[.map (some (n + 3))] 115)) (j : Nat) :
    ObSt n n (n + 1) (n + 2) (n + 4) (n + 3) rb j j [] W := by
  subst hn
  have b1 : Box w.heap.size 91 (.pointer (some ⟨rb, 0, none⟩)) W := by subst hW; exact ((((Box.new w _ _).alloc _).alloc _).alloc _).alloc _
  have e1 : (w.alloc (.cells #[.pointer (some ⟨rb, 0, none⟩)] 91)).heap.size = w.heap.size + 1 := by simp
  generalize hw1 : w.alloc (.cells #[.pointer (some ⟨rb, 0, none⟩)] 91) = w1 at hW e1
  have b2 : Box (w.heap.size + 1) 40 (.slice none 0 0) W := by subst hW; rw [← e1]; exact (((Box.new w1 _ _).alloc _).alloc _).alloc _
  have e2 : (w1.alloc (.cells #[.slice none 0 0] 40)).heap.size = w.heap.size + 2 := by simp [e1]
  generalize hw2 : w1.alloc (.cells #[.slice none 0 0] 40) = w2 at hW e2
  have b3 : Box (w.heap.size + 2) 41 (.slice none 0 0) W := by subst hW; rw [← e2]; exact ((Box.new w2 _ _).alloc _).alloc _
  have e3 : (w2.alloc (.cells #[.slice none 0 0] 41)).heap.size = w.heap.size + 3 := by simp [e2]
  generalize hw3 : w2.alloc (.cells #[.slice none 0 0] 41) = w3 at hW e3
  have b4 : SMap W (w.heap.size + 3) 0 (ix []) := by
    subst hW
    rw [← e3]
    exact ⟨.map [], (World.ownsMap_made w3 _ _ _).alloc _, ⟨_, rfl⟩, fun r => ⟨rfl, fun v h => by cases h⟩⟩
  have e4 : (w3.alloc (.map #[] 0)).heap.size = w.heap.size + 4 := by simp [e3]
  have b5 : Box (w.heap.size + 4) 115 (.map (some (w.heap.size + 3))) W := by subst hW; rw [← e4]; exact Box.new _ _ _
  exact ⟨FdP.zero (by omega), .slice none 0 0, .slice none 0 0, [], 0, Nat.le_refl _, b1, b2, b3, b5, b4, Own.nil _, Own.nil _, rfl, fun k z l h => by simp at h⟩

set_option maxRecDepth 100000 in
set_option maxHeartbeats 4000000 in
theorem rdObject_any (rd : Nat → Rs (List Nd)) (rb : Nat) (s : ByteArray) (j d : Nat) (w : World) (hr : Rd rb s j d w) (hd : d < 128) (hj : j < s.size) (hs : s.size ≤ 400000) (hG : Goes s.data.toList rd)
    (hE : ∀ w', Kb w.heap.size rb w w' → Er w') (hT : ∀ w', Kb w.heap.size rb w w' → Tabs w')
    (HV : ∀ i W, i ≤ s.size → Rd rb s i (d + 1) W → Kb w.heap.size rb w W → Calls Tryz.prog 30 #[.pointer (some ⟨rb, 0, none⟩)] W (VlE rb s (d + 1) W (rd i))) :
    Calls Tryz.prog 55 #[.pointer (some ⟨rb, 0, none⟩)] w (VlE rb s d w (mapR obV (ptR (fdR rd s.data.toList) putP [] s.data.toList 125 j))) := by
  have eK : ∀ args w, (callFunc 93 args).run Tryz.prog w = .ok (.enter 93 args) w := enters_of Tryz.func93 (by kernel_rfl) rfl
  have hmf : ∀ (fn : Fn) (first cap : Array Value) (w : World), (Instr.makeFunc fn first cap).run Tryz.prog w = .ok (.func fn first cap) w := fun _ _ _ _ => rfl
  have hmm := @run_makeMap Tryz.prog
  have HPT : Hid (∀ W, Rd rb s j d W → Kb w.heap.size rb w W → ObSt w.heap.size w.heap.size (w.heap.size + 1) (w.heap.size + 2) (w.heap.size + 4) (w.heap.size + 3) rb j j [] W → Calls Tryz.prog 90 #[.pointer (some ⟨rb, 0, none⟩), .int .u8 125, .func (.func 93) #[] #[.pointer (some ⟨w.heap.size, 0, none⟩), .pointer (some ⟨w.heap.size + 4, 0, none⟩), .pointer (some ⟨w.heap.size + 2, 0, none⟩), .pointer (some ⟨w.heap.size + 1, 0, none⟩)]] W (PtE rb s d (ObSt w.heap.size w.heap.size (w.heap.size + 1) (w.heap.size + 2) (w.heap.size + 4) (w.heap.size + 3) rb j) w (ptR (fdR rd s.data.toList) putP [] s.data.toList 125 j))) := Lib.hid (fun W h1 h2 h3 =>
    parts_any 93 _ 125 (fdR rd s.data.toList) putP [] (ObSt w.heap.size w.heap.size (w.heap.size + 1) (w.heap.size + 2) (w.heap.size + 4) (w.heap.size + 3) rb j) w rb s j d W eK (by decide) hd hj hs h1 h2 h3
      (fun i acc W W' k x a b c => a.kb b c) (fun i k acc W a b => a.up b) (fun i v k h => by have := fdR_ok hG h; exact ⟨by omega, this.2.1⟩)
      (fun i acc W a b c x y => object1_any rd w rb s w.heap.size w.heap.size (w.heap.size + 1) (w.heap.size + 2) (w.heap.size + 4) (w.heap.size + 3) j i (d + 1) acc W hs c x y (Nat.le_refl _) (Nat.le_refl _) (by omega) (by omega) (by omega) (by omega) b hE hG HV))
  have HPE : Hid (∀ p acc, ptR (fdR rd s.data.toList) putP [] s.data.toList 125 j = .ok acc p → p ≤ s.size) := Lib.hid (fun p acc h => (ptR_inv (by decide) (FdP j) (fdP_step hG j) hj (fun k hk => FdP.zero hk) h).2.1)
  have HTT := Lib.hid hT
  have HR := Lib.hid hr
  clear HV hG eK hE hT hr
  generalize ptR (fdR rd s.data.toList) putP [] s.data.toList 125 j = R at *
  go_enter Tryz.func55, Tryz.ntmps55
  go_wp2_with fail
  have HW5 : Hid (Rd rb s j d (((((w.alloc (.cells #[.pointer (some ⟨rb, 0, none⟩)] 91)).alloc (.cells #[.slice none 0 0] 40)).alloc (.cells #[.slice none 0 0] 41)).alloc (.map #[] 0)).alloc (.cells #[.map (some (w.heap.size + 3))] 115)) ∧ Kb w.heap.size rb w (((((w.alloc (.cells #[.pointer (some ⟨rb, 0, none⟩)] 91)).alloc (.cells #[.slice none 0 0] 40)).alloc (.cells #[.slice none 0 0] 41)).alloc (.map #[] 0)).alloc (.cells #[.map (some (w.heap.size + 3))] 115)) ∧ ObSt w.heap.size w.heap.size (w.heap.size + 1) (w.heap.size + 2) (w.heap.size + 4) (w.heap.size + 3) rb j j [] (((((w.alloc (.cells #[.pointer (some ⟨rb, 0, none⟩)] 91)).alloc (.cells #[.slice none 0 0] 40)).alloc (.cells #[.slice none 0 0] 41)).alloc (.map #[] 0)).alloc (.cells #[.map (some (w.heap.size + 3))] 115))) := Lib.hid
    ⟨((((HR.out.alloc _).alloc _).alloc _).alloc _).alloc _, (((((Kb.refl _ _ w).alloc (Nat.le_refl _) _).alloc (by simp) _).alloc (by simp; omega) _).alloc (by simp; omega) _).alloc (by simp; omega) _, ob_start rfl rfl j⟩
  cases R with
  | bad er p =>
    refine (HPT.out _ HW5.out.1 HW5.out.2.1 HW5.out.2.2).mono ?_
    rintro e w3 ⟨hk3, he⟩
    unfold flt at he
    subst he
    go_wp2_with fail
    exact ⟨rfl, VlE.bad rfl hk3⟩
  | ok acc p =>
    refine (HPT.out _ HW5.out.1 HW5.out.2.1 HW5.out.2.2).mono ?_
    rintro e w3 ⟨hk3, rfl, ⟨hP, vN, vL, zs, n, hn, ho⟩, hr3⟩
    have hps : p ≤ s.size := HPE.out p acc rfl
    have hfew := hP.few
    have c3 := ho.xN.c
    have c4 := ho.xL.c
    have hsum : ((acc.map (·.2)).map List.length).sum = (acc.map fun q => q.2.length).sum := by rw [List.map_map]; rfl
    have HL := Lib.hid (object_any vN vL (acc.map (·.1)) (acc.map (·.2)) w3 (ho.oN.row stc_len) (ho.eL.vls (ho.oL.row slc_len)) (by rw [List.length_map]; omega) (by rw [hsum]; omega) (fun x hx => by
      obtain ⟨q, hq, rfl⟩ := List.mem_map.1 hx
      have := (hP.2.2.2 q hq).2
      unfold maxLen; omega) (HTT.out w3 hk3))
    have HK := Lib.hid hk3
    have HRR := Lib.hid hr3
    clear HPT HW5 hk3 hr3 ho hP hfew hn hsum
    go_wp2_with (go_at_call 95; refine HL.out.mono ?_; rintro e w4 ⟨V, rfl, hV, hb4⟩)
    go_ret
    exact VlE.ok (v := obV acc) rfl (HK.out.trans ((Kb.of hb4).mono HK.out.size)) (hV.mono HK.out.size) (HRR.out.below hb4 HRR.out.lt)
end Go.Proofs.YtafbojiojeemoaaGreatDoor

/-
  What the reader's number and word are.
-/
namespace Go.Proofs.YtafbojiojeemoaaGreatDoor
open Go.RowKit Np Up Qp Tp

/-- How the reading of one node ends. -/
def NdE (rb : Nat) (s : ByteArray) (d : Nat) (w : World) (R : Rs (List Nd)) (e : Ending) (w' : World) : Prop :=
  Kb w.heap.size rb w w' ∧ match R with
  | .ok v k => ∃ n, v = [n] ∧ e = .returned (nda n) ∧ Rd rb s k d w'
  | .bad c p => e = flt c p
theorem NdE.ok {rb : Nat} {s : ByteArray} {d k : Nat} {w w' : World} {R : Rs (List Nd)} {n : Nd} (hR : R = .ok [n] k) (h1 : Kb w.heap.size rb w w') (h2 : Rd rb s k d w') : NdE rb s d w R (.returned (nda n)) w' := by subst hR; exact ⟨h1, n, rfl, rfl, h2⟩
theorem NdE.flt {rb : Nat} {s : ByteArray} {d p : Nat} {w w' : World} {R : Rs (List Nd)} {c : Int} (hR : R = .bad c p) (q : Int) (hq : q = p) (h1 : Kb w.heap.size rb w w') : NdE rb s d w R (.panicked [{ v := .iface 53 (.agg #[.int .i64 c, .int .i64 q]), recovered := false }]) w' := by subst hq; subst hR; exact ⟨h1, rfl⟩

theorem cut_mid (s : ByteArray) (i j : Nat) : (s.extract i j).data.toList = (s.data.toList.drop i).take (j - i) := by
  have h := Lib.extract_toList s i j
  rwa [ByteArray.toList_eq] at h

theorem new_lt (w : World) (Z : Obj) : w.heap.size < (w.alloc Z).drew.heap.size := by show w.heap.size < (w.alloc Z).heap.size; simp
/-- A new node is kept behind a call. -/
theorem new_node {wc w2 : World} {Z : Obj} (hZ : Z = .cells #[.int .i64 0, .int .i64 0, .string ⟨#[]⟩, .string ⟨#[]⟩, .bool false, .int .i64 0] 35) (hb : Below (wc.alloc Z).drew.heap.size (wc.alloc Z).drew w2) :
    wc.heap.size < w2.heap.size ∧ w2.cell? ⟨wc.heap.size, 0, none⟩ = some (.int .i64 0) ∧ w2.cell? ⟨wc.heap.size, 1, none⟩ = some (.int .i64 0) ∧ w2.cell? ⟨wc.heap.size, 2, none⟩ = some (.string ⟨#[]⟩) ∧ w2.cell? ⟨wc.heap.size, 3, none⟩ = some (.string ⟨#[]⟩) ∧ w2.cell? ⟨wc.heap.size, 4, none⟩ = some (.bool false) ∧ w2.cell? ⟨wc.heap.size, 5, none⟩ = some (.int .i64 0) ∧ (∀ o, w2.frozen? ⟨wc.heap.size, o, none⟩ = false) ∧ Hid (w2.heap[wc.heap.size]? = some Z) := by
  have hs : wc.heap.size < (wc.alloc Z).drew.heap.size := by show wc.heap.size < (wc.alloc Z).heap.size; simp
  have zz : w2.heap[wc.heap.size]? = some Z := (hb.block _ hs).trans (heap_alloc_new wc Z)
  subst hZ
  refine ⟨(Array.getElem?_eq_some_iff.1 zz).1, ?_, ?_, ?_, ?_, ?_, ?_, fun o => Lib.frozen_of_heap zz o, Lib.hid zz⟩ <;> (rw [Lib.cell_of_heap zz]; rfl)

theorem set6 {W : World} {b T : Nat} {a0 a1 a2 a3 a4 a5 : Value} (h : W.heap[b]? = some (.cells #[a0, a1, a2, a3, a4, a5] T (0, 0))) (v0 v1 v2 v3 v4 v5 : Value) :
    ((((((W.setCell ⟨b, 0, none⟩ v0).setCell ⟨b, 1, none⟩ v1).setCell ⟨b, 2, none⟩ v2).setCell ⟨b, 3, none⟩ v3).setCell ⟨b, 4, none⟩ v4).setCell ⟨b, 5, none⟩ v5).heap[b]? = some (.cells #[v0, v1, v2, v3, v4, v5] T (0, 0)) := by
  simp [World.setCell, Array.getElem?_modify, h]
set_option maxRecDepth 100000 in
set_option maxHeartbeats 4000000 in
theorem rdNumber_any (rb : Nat) (s : ByteArray) (T d : Nat) (w : World) (hr : Rd rb s T d w) (hT : T ≤ s.size) (hs : s.size ≤ 400000) :
    Calls Tryz.prog 57 #[.pointer (some ⟨rb, 0, none⟩)] w (NdE rb s d w (nuR s.data.toList T)) := by
  have hcut := cut_end s T
  have htt := trim_take (s.data.toList.drop T) numB
  have hle := nuT_len s.data.toList T hT
  rw [size_toList] at hle
  rw [List.length_drop, size_toList] at htt
  have hTR : ∀ w, Calls Tryz.prog 97 #[.string (s.extract T s.size), .string ⟨#[48, 49, 50, 51, 52, 53, 54, 55, 56, 57, 43, 45, 46, 101, 69]⟩] w fun e w' => e = .returned (.string ⟨(Lib.trimLeftS (s.data.toList.drop T) numB).toArray⟩) ∧ Below w.heap.size w w' := fun w => by
    have := Any.strings_TrimLeft_laid Tryz.lays161 (by kernel_rfl) (s.extract T s.size) ⟨#[48, 49, 50, 51, 52, 53, 54, 55, 56, 57, 43, 45, 46, 101, 69]⟩ w (by decide) (ascii_of_all (by decide))
    rw [hcut] at this
    exact this
  have HRR : Hid (nuR s.data.toList T = if (readF (nuT s.data.toList T)).2.2 = 0 then .ok [(readF (nuT s.data.toList T)).1] (T + (nuT s.data.toList T).length) else .bad (readF (nuT s.data.toList T)).2.2 (T + (readF (nuT s.data.toList T)).2.1.toNat)) := Lib.hid rfl
  have hmid : (s.extract T (T + (nuT s.data.toList T).length)).data.toList = nuT s.data.toList T := by
    rw [cut_mid, Nat.add_sub_cancel_left]; exact take_len_takeWhile _ _
  have hms : (s.extract T (T + (nuT s.data.toList T).length)).size ≤ 1000000 := by
    have := congrArg List.length hmid
    rw [size_toList] at this
    omega
  have hrd : ∀ w, Calls Tryz.prog 98 #[.string (s.extract T (T + (nuT s.data.toList T).length))] w fun e w' => e = .returned (.tuple #[nda (readF (nuT s.data.toList T)).1, .int .i64 (readF (nuT s.data.toList T)).2.1, .int .i64 (readF (nuT s.data.toList T)).2.2]) ∧ Below w.heap.size w w' := fun w => by
    have := read_any (s.extract T (T + (nuT s.data.toList T).length)) w hms
    unfold ReadEnd at this
    rw [hmid] at this
    exact this
  have hsz : (ByteArray.mk (Lib.trimLeftS (s.data.toList.drop T) numB).toArray).size + (nuT s.data.toList T).length = s.size - T := by rw [mk_size]; exact htt
  have hsub : IntKind.i64.wrap ((s.size : Int) - ((ByteArray.mk (Lib.trimLeftS (s.data.toList.drop T) numB).toArray).size : Int)) = ((T + (nuT s.data.toList T).length : Nat) : Int) := by
    rw [IntKind.wrap_i64]; omega
  generalize ByteArray.mk (Lib.trimLeftS (s.data.toList.drop T) numB).toArray = rest at *
  generalize nuR s.data.toList T = R at *
  generalize hnn : (nuT s.data.toList T).length = n at *
  have hat := readF_at (nuT s.data.toList T)
  rw [hnn] at hat
  generalize readF (nuT s.data.toList T) = u at *
  obtain ⟨⟨n0, n1, n2, n3, n4, n5⟩, ua, uc⟩ := u
  simp only [nda] at hrd HRR hat
  have HRD := Lib.hid hrd
  have HTR := Lib.hid hTR
  clear hrd hTR hms hmid htt hcut hnn
  have HR := Lib.hid (hr.alloc (.cells #[.int .i64 0, .int .i64 0, .string ⟨#[]⟩, .string ⟨#[]⟩, .bool false, .int .i64 0] 35))
  have HB : Hid (Kb w.heap.size rb w (w.alloc (.cells #[.int .i64 0, .int .i64 0, .string ⟨#[]⟩, .string ⟨#[]⟩, .bool false, .int .i64 0] 35))) := Lib.hid ((Kb.refl _ _ _).alloc (Nat.le_refl _) _)
  have HZ : Hid ((w.alloc (.cells #[.int .i64 0, .int .i64 0, .string ⟨#[]⟩, .string ⟨#[]⟩, .bool false, .int .i64 0] 35)).heap[w.heap.size]? = some (.cells #[.int .i64 0, .int .i64 0, .string ⟨#[]⟩, .string ⟨#[]⟩, .bool false, .int .i64 0] 35) ∧ w.heap.size ≠ rb) := Lib.hid ⟨heap_alloc_new w _, by have := hr.lt; omega⟩
  clear hr
  go_enter Tryz.func57, Tryz.ntmps57
  go_upto_region 1 with fail
  generalize w.alloc (.cells #[.int .i64 0, .int .i64 0, .string ⟨#[]⟩, .string ⟨#[]⟩, .bool false, .int .i64 0] 35) = W1 at HR HB HZ ⊢
  have c0 := HR.out.c0
  have c1 := HR.out.c1
  have f1 := HR.out.fz 1
  go_cut [3] from 7 to 23 (fun a wx => a = .int .i64 (T + n : Nat) ∧ Below W1.heap.size W1 wx)
  case first =>
    have hlt : rb < W1.heap.size := HR.out.lt
    have hne : ¬ rb = W1.heap.size := by omega
    go_region_held3 (fun w' => w'.cell? ⟨rb, 0, none⟩ = some (.string s) ∧ w'.cell? ⟨rb, 1, none⟩ = some (.int .i64 T))
      (first | go_keep | exact ⟨(HR.out.drew.below hb2 HR.out.lt).c0, (HR.out.drew.below hb2 HR.out.lt).c1⟩)
      ((go_at_call 97; refine (HTR.out W1.drew).mono ?_; rintro e w2 ⟨rfl, hb2⟩))
    all_goals go_wp2_with fail
    all_goals go_meet
    all_goals exact ⟨by first | rfl | congr 1 | (congr 1; omega), ((Below.refl _ _).drew).trans hb2⟩
  case rest =>
    obtain ⟨rfl, hb2⟩ := hcut
    have HB2 : Hid (Kb w.heap.size rb w wc) := Lib.hid (HB.out.trans ((Kb.of hb2).mono HB.out.size))
    have HR2 : Hid (Rd rb s T d wc) := Lib.hid (HR.out.below hb2 HR.out.lt)
    have HZ2 : Hid (wc.heap[w.heap.size]? = some (.cells #[.int .i64 0, .int .i64 0, .string ⟨#[]⟩, .string ⟨#[]⟩, .bool false, .int .i64 0] 35) ∧ w.heap.size ≠ rb) := Lib.hid ⟨(hb2.block _ (Array.getElem?_eq_some_iff.1 HZ.out.1).1).trans HZ.out.1, HZ.out.2⟩
    clear hb2 HR HB HZ c0 c1 f1
    have c0 := HR2.out.c0
    have c1 := HR2.out.c1
    have f1 := HR2.out.fz 1
    go_upto_region 2 with fail
    go_cut [4, 5, 6] from 24 to 38 (fun p a b wx => ∃ nb : Nat, p = .pointer (some ⟨nb, 0, none⟩) ∧ a = .int .i64 ua ∧ b = .int .i64 uc ∧ Below wc.heap.size wc wx ∧ wc.heap.size ≤ nb ∧ wx.heap[nb]? = some (.cells #[.int .i64 n0, .int .i64 n1, .string ⟨n2.toArray⟩, .string ⟨n3.toArray⟩, .bool n4, .int .i64 n5] 35 (0, 0)))
    case first =>
      have hlt : rb < wc.heap.size := HR2.out.lt
      have hne : ¬ rb = wc.heap.size := by omega
      have hne' : ¬ wc.heap.size = rb := by omega
      have g0 : (0 : Int) ≤ (T : Int) := by omega
      have g1 : (T : Int) ≤ ((T + n : Nat) : Int) := by omega
      have g2 : ((T + n : Nat) : Int) ≤ (s.size : Int) := by omega
      have g3 : ((T : Nat) : Int).toNat = T := by omega
      have g4 : ((T + n : Nat) : Int).toNat = T + n := by omega
      go_region_with (go_at_call 98; first | (refine (HRD.out wc.drew).mono ?_; rintro e w2 ⟨rfl, hb2⟩) | (refine (HRD.out (wc.alloc (.cells #[.int .i64 0, .int .i64 0, .string ⟨#[]⟩, .string ⟨#[]⟩, .bool false, .int .i64 0] 35)).drew).mono ?_; rintro e w2 ⟨rfl, hb2⟩; obtain ⟨zl, j0, j1, j2, j3, j4, j5, jf, HZZ⟩ := new_node rfl hb2))
      all_goals go_wp2_with fail
      all_goals go_meet
      all_goals first
        | exact ⟨_, rfl, rfl, rfl, (((Below.refl _ wc).drew).trans hb2).alloc hb2.size _, hb2.size, heap_alloc_new _ _⟩
        | exact ⟨_, rfl, rfl, rfl, ((((((((((Below.refl _ wc).alloc (Nat.le_refl _) _).drew).trans (hb2.mono (Nat.le_of_lt (new_lt wc _)))).setCell (Nat.le_refl _) _).setCell (Nat.le_refl _) _).setCell (Nat.le_refl _) _).setCell (Nat.le_refl _) _).setCell (Nat.le_refl _) _).setCell (Nat.le_refl _) _), Nat.le_refl _, set6 HZZ.out _ _ _ _ _ _⟩
    case rest =>
      obtain ⟨nb, rfl, rfl, rfl, hb3, hnb, hz3⟩ := hcut
      have HB3 : Hid (Kb w.heap.size rb w wc) := Lib.hid (HB2.out.trans ((Kb.of hb3).mono HB2.out.size))
      have HR3 : Hid (Rd rb s T d wc) := Lib.hid (HR2.out.below hb3 HR2.out.lt)
      have HZ3 : Hid (wc.heap[w.heap.size]? = some (.cells #[.int .i64 0, .int .i64 0, .string ⟨#[]⟩, .string ⟨#[]⟩, .bool false, .int .i64 0] 35 (0, 0))) := Lib.hid ((hb3.block _ (Array.getElem?_eq_some_iff.1 HZ2.out.1).1).trans HZ2.out.1)
      have HL3 : Hid (rb < wc.heap.size ∧ w.heap.size < wc.heap.size ∧ nb < wc.heap.size ∧ w.heap.size ≠ rb ∧ nb ≠ rb ∧ nb ≠ w.heap.size) := Lib.hid ⟨HR3.out.lt, (Array.getElem?_eq_some_iff.1 HZ3.out).1, (Array.getElem?_eq_some_iff.1 hz3).1, HZ2.out.2, by have := HR2.out.lt; omega, by have := (Array.getElem?_eq_some_iff.1 HZ2.out.1).1; omega⟩
      have c0 := HR3.out.c0
      have c1 := HR3.out.c1
      have f1 := HR3.out.fz 1
      have p0 : wc.cell? ⟨nb, 0, none⟩ = some (.int .i64 n0) := by rw [Lib.cell_of_heap hz3]; rfl
      have p1 : wc.cell? ⟨nb, 1, none⟩ = some (.int .i64 n1) := by rw [Lib.cell_of_heap hz3]; rfl
      have p2 : wc.cell? ⟨nb, 2, none⟩ = some (.string ⟨n2.toArray⟩) := by rw [Lib.cell_of_heap hz3]; rfl
      have p3 : wc.cell? ⟨nb, 3, none⟩ = some (.string ⟨n3.toArray⟩) := by rw [Lib.cell_of_heap hz3]; rfl
      have p4 : wc.cell? ⟨nb, 4, none⟩ = some (.bool n4) := by rw [Lib.cell_of_heap hz3]; rfl
      have p5 : wc.cell? ⟨nb, 5, none⟩ = some (.int .i64 n5) := by rw [Lib.cell_of_heap hz3]; rfl
      have q0 : wc.cell? ⟨w.heap.size, 0, none⟩ = some (.int .i64 0) := by rw [Lib.cell_of_heap HZ3.out]; rfl
      have q1 : wc.cell? ⟨w.heap.size, 1, none⟩ = some (.int .i64 0) := by rw [Lib.cell_of_heap HZ3.out]; rfl
      have q2 : wc.cell? ⟨w.heap.size, 2, none⟩ = some (.string ⟨#[]⟩) := by rw [Lib.cell_of_heap HZ3.out]; rfl
      have q3 : wc.cell? ⟨w.heap.size, 3, none⟩ = some (.string ⟨#[]⟩) := by rw [Lib.cell_of_heap HZ3.out]; rfl
      have q4 : wc.cell? ⟨w.heap.size, 4, none⟩ = some (.bool false) := by rw [Lib.cell_of_heap HZ3.out]; rfl
      have q5 : wc.cell? ⟨w.heap.size, 5, none⟩ = some (.int .i64 0) := by rw [Lib.cell_of_heap HZ3.out]; rfl
      have qf : ∀ o, wc.frozen? ⟨w.heap.size, o, none⟩ = false := fun o => Lib.frozen_of_heap HZ3.out o
      obtain ⟨l1, l2, l3, l4, l5, l6⟩ := HL3.out
      clear hb3 HR2 HZ2 HB2 hnb
      generalize hnw : w.heap.size = nw at *
      have HNW := Lib.hid hnw
      clear hnw
      by_cases huc : uc = 0
      · have HRS : Hid (R = .ok [⟨n0, n1, n2, n3, n4, n5⟩] (T + n)) := Lib.hid (by rw [HRR.out, if_pos huc])
        subst huc
        go_wp2
        refine bodyPost_ret (v := nda ⟨n0, n1, n2, n3, n4, n5⟩) ?_ rfl (NdE.ok HRS.out ?_ ?_)
        · simp [results, Tryz.results57, go_sem, nda, q0, q1, q2, q3, q4, q5]
        · rw [HNW.out]
          exact ((((((HB3.out.set 1 _).setHigh (Nat.le_refl _) _).setHigh (Nat.le_refl _) _).setHigh (Nat.le_refl _) _).setHigh (Nat.le_refl _) _).setHigh (Nat.le_refl _) _).setHigh (Nat.le_refl _) _
        · exact ((((((HR3.out.to (T + n)).other l4 _).other l4 _).other l4 _).other l4 _).other l4 _).other l4 _
      · have HRS : Hid (R = .bad uc (T + ua.toNat)) := Lib.hid (by rw [HRR.out, if_neg huc])
        have hw : wrap64 ((T : Int) + ua) = (T : Int) + ua := by unfold wrap64; omega
        go_wp2
        exact ⟨rfl, NdE.flt HRS.out _ (by omega) (by rw [HNW.out]; exact HB3.out)⟩
end Go.Proofs.YtafbojiojeemoaaGreatDoor
