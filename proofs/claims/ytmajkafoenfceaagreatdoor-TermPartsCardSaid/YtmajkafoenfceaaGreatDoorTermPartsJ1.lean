/-
  Joined: TermParts, TermPartsCardA.
-/
import Derived.Test.YtmajkafoenfceaaGreatDoorTermPipeJ21
import Derived.Test.YtmajkafoenfceaaGreatDoorTermPipeJ1
import Derived.Test.YtmajkafoenfceaaGreatDoorTermPipeJ12
import Derived.Test.YtmajkafoenfceaaGreatDoorTermPipeJ4

/-
  The walk of TermParts: it answers true.
-/
namespace Go.Proofs.YtmajkafoenfceaaGreatDoor
open Go.RowKit Np Rw Vp Up Qp Tp Pw Fw

/-- How many terms the first parts have. -/
def lenP (ks : List (Tr Tm)) (k : Nat) : Nat := ((ks.take k).map fun u => (flat u).length).sum
theorem lenP_all (ks : List (Tr Tm)) : lenP ks ks.length = (flats ks).length := by
  unfold lenP
  rw [List.take_length]
  induction ks with
  | nil => simp
  | cons u ks ih => simp [ih]
theorem lenP_succ {ks : List (Tr Tm)} {k : Nat} {u : Tr Tm} (h : ks[k]? = some u) : lenP ks (k + 1) = lenP ks k + (flat u).length := by
  unfold lenP
  rw [List.take_add_one, h]; simp
theorem lenP_le (ks : List (Tr Tm)) (k : Nat) : lenP ks k ≤ (flats ks).length := by
  rw [← lenP_all ks]
  unfold lenP
  conv => rhs; rw [List.take_length, ← List.take_append_drop k ks, List.map_append, List.sum_append]
  omega
/-- What is asked of a part. -/
theorem part_whole {t u : Tr Tm} (h : Flt t) (hu : u ∈ t.ks) : IsW (flat (clrF u)) ∧ rightF (flat (clrF u)) = !isC u.nd.op := by
  obtain ⟨h1, h2, -, -, -⟩ := flt_kids h.ok h.rt u hu
  have ho := okT_clr h1
  have hr : rightTF (clrF u) = true := by rw [rightTF_clr]; exact h2
  refine ⟨⟨clrF u, ho, rfl, rfl, hr⟩, ?_⟩
  rw [rightF_flat ho, hr]
  simp [clrF, noNm]
theorem part_mem {t u : Tr Tm} (hu : u ∈ t.ks) {x : Tm} (hx : x ∈ flat (clrF u)) : ∃ y ∈ flat t, x = y ∨ x = noNm y := by
  rw [flat_clrF] at hx
  have hsub : ∀ y, y ∈ flat u → y ∈ flat t := fun y hy => by
    rw [flat_eq t]
    refine List.mem_cons_of_mem _ ?_
    clear hx
    generalize t.ks = ks at hu
    induction ks with
    | nil => simp at hu
    | cons k ks ih =>
      rw [flats_cons, List.mem_append]
      rcases List.mem_cons.1 hu with rfl | hu
      · exact .inl hy
      · exact .inr (ih hu)
  rcases List.mem_cons.1 hx with rfl | hx
  · exact ⟨u.nd, hsub _ (by rw [flat_eq]; simp), .inr rfl⟩
  · exact ⟨x, hsub _ (by rw [flat_eq]; simp [hx]), .inl rfl⟩
set_option maxRecDepth 100000 in
set_option maxHeartbeats 8000000 in
theorem termParts_any (v1 : Value) (l1 : List Tm) (w : World) (h1 : Tms w v1 l1) (k1 : HeldF l1) (hT : Fv w) :
    Calls Tryz.prog 6 #[v1] w fun e w' => e = .returned (.bool true) ∧ Below w.heap.size w w' := by
  have HT := Lib.hid hT
  have H1 := Lib.hid h1
  have HAL : Hid (∀ W, Below w.heap.size w W → Calls Tryz.prog 16 #[] W fun e w' => e = .returned (.bool true) ∧ Below W.heap.size W w') := Lib.hid (fun W hW => falive_any W (HT.out.below hW))
  have HF1 := Lib.hid (refFewF_any v1 l1 30 w h1 (by decide) k1)
  obtain ⟨A1, c1, rfl⟩ : ∃ (A : Option Addr) (c : Nat), v1 = .slice A l1.length c := by obtain ⟨A, c, h, -⟩ := h1; exact ⟨A, c, h⟩
  have KK0 := Lib.hid k1
  clear h1 hT k1
  go_enter Tryz.func6, Tryz.ntmps6
  go_wp2_with fail
  refine (HF1.out).mono ?_
  rintro e w1 ⟨rfl, hb1⟩
  have HB1 := Lib.hid hb1
  clear hb1 HF1
  cases hf1 : fewF 30 l1
  · go_wp2_with fail
    refine (HAL.out _ HB1.out).mono ?_
    rintro e w2 ⟨rfl, hb2⟩
    go_wp2_with fail
    go_ret
    exact ⟨rfl, HB1.out.trans (hb2.mono HB1.out.size)⟩
  · obtain ⟨t1, ft1, e1, n1, s1⟩ := few_flt hf1
    have FT := Lib.hid ft1
    have E1 := Lib.hid e1
    have HN30 : Hid (l1.length ≤ 30) := Lib.hid n1
    have HSH : Hid (∀ u ∈ t1.ks, ∀ x ∈ flat (clrF u), FitTm x ∧ HeldT x ∧ shortT x = true) := Lib.hid (fun u hu x hx => by
      obtain ⟨y, hy, hxy⟩ := part_mem hu hx
      rw [← e1] at hy
      have a1 := KK0.out y hy
      have a2 := List.all_eq_true.1 s1 y hy
      rcases hxy with rfl | rfl
      · exact ⟨fitTm_short a2 a1, a1, a2⟩
      · have b1 : HeldT (noNm y) := ⟨Nat.zero_le _, a1.s, a1.cn, a1.cs, a1.m, a1.cm, a1.n0, a1.n1⟩
        have b2 : shortT (noNm y) = true := by unfold shortT at a2 ⊢; simp only [Bool.and_eq_true, decide_eq_true_eq] at a2 ⊢; exact ⟨⟨a2.1.1, Nat.zero_le _⟩, a2.2⟩
        exact ⟨fitTm_short b2 b1, b1, b2⟩)
    clear ft1 e1 hf1 n1 s1 KK0
    go_wp2_with fail
    refine (tparts_any _ t1 w1 (by rw [← E1.out]; exact H1.out.below HB1.out) (by rw [← E1.out]; have := HN30.out; omega) FT.out.ok).mono ?_
    rintro e w2 ⟨v2, rfl, hfl, hb2⟩
    have HB2 := Lib.hid (HB1.out.trans (hb2.mono HB1.out.size))
    obtain ⟨us, hul, hu, hur⟩ := hfl
    obtain ⟨A2, c2, rfl, hc2, hcm2, -, hx2⟩ := hu
    rw [List.length_map] at hul
    unfold maxLen at hcm2
    have HUL := Lib.hid hul
    have HUR := Lib.hid hur
    have HX2 := Lib.hid hx2
    clear hul hur hx2 hb2
    generalize hn : us.length = N at *
    have HN := Lib.hid hn
    clear hn
    go_wp2_with fail
    go_loopw [4, 5] (fun nv iv wr => ∃ k : Nat, k ≤ N ∧ nv = .int .i64 ((1 + lenP t1.ks k : Nat) : Int) ∧ iv = .int .i64 k ∧ Hid (Below w2.heap.size w2 wr)) (fun _ iv _ => N - (intOf iv).toNat)
    case atStart => exact ⟨0, Nat.zero_le _, by simp [lenP], rfl, Lib.hid (Below.refl _ _)⟩
    case round =>
      obtain ⟨k, hk, rfl, rfl, HBR⟩ := hrel
      have hle : lenP t1.ks k ≤ 30 := by
        have h1 := lenP_le t1.ks k
        have h2 := congrArg List.length E1.out
        have h3 := HN30.out
        rw [flat_eq t1] at h2
        simp at h2; omega
      by_cases hlt : k < N
      · obtain ⟨u, hu⟩ : ∃ u, t1.ks[k]? = some u := ⟨_, List.getElem?_eq_getElem (by rw [← HUL.out]; exact hlt)⟩
        obtain ⟨x, hx⟩ : ∃ x, us[k]? = some x := ⟨_, List.getElem?_eq_getElem (by rw [HN.out]; exact hlt)⟩
        have hum : u ∈ t1.ks := List.mem_of_getElem? hu
        have hrow := (HUR.out k x (flat (clrF u)) hx (by rw [List.getElem?_map, hu]; rfl))
        have hpw := part_whole FT.out hum
        obtain ⟨g2, o2, rfl, hg2, hxx⟩ := HX2.out (by omega)
        have hxk := (hxx k x hx).one
        obtain ⟨g3, o3, c3, rfl, hc3, hcm3, hg3, hx3⟩ := hrow.opened (flat_pos _)
        have htm := (hx3 0 (noNm u.nd) (by rw [flat_clrF]; rfl)).tm
        rw [Nat.zero_mul, Nat.add_zero] at htm
        have HSC := Lib.hid (lenP_succ hu)
        have hmm : (flat (clrF u)).length = (flat u).length := flat_clrF_len u
        have HWB : Hid (∀ W, Below wr.heap.size wr W → Below w2.heap.size w2 W) := Lib.hid (fun W hW => HBR.out.trans (hW.mono HBR.out.size))
        have HEL : Hid (∀ W, Below wr.heap.size wr W → W.cell? ⟨g2, o2 + k, none⟩ = some (.slice (some ⟨g3, o3, none⟩) (flat u).length c3)) := Lib.hid (fun W hW => by rw [← hmm]; exact ((HWB.out W hW).cell (p := ⟨g2, o2 + k, none⟩) hg2).trans hxk)
        have HCL : Hid (∀ W, Below wr.heap.size wr W → Tm11 W g3 o3 (noNm u.nd)) := Lib.hid (fun W hW => htm.below hg3 (HWB.out W hW))
        have hlen30 : (flat (clrF u)).length ≤ 60000 := by
          have h1 := lenP_le t1.ks (k + 1)
          have h2 := congrArg List.length E1.out
          have h3 := HN30.out
          rw [flat_eq t1] at h2
          rw [lenP_succ hu] at h1
          simp at h2; omega
        have HWH : Hid (∀ W, Below wr.heap.size wr W → Calls Tryz.prog 28 #[.slice (some ⟨g3, o3, none⟩) (flat u).length c3] W fun e w' => e = .returned (.bool true) ∧ Below W.heap.size W w') := Lib.hid (fun W hW => by
          have h1 := hrow.below (HWB.out W hW)
          rw [hmm] at h1
          refine (refWholeT_any _ (flat (clrF u)) W h1 (by omega) (short_held (List.all_eq_true.2 fun x hx => (HSH.out u hum x hx).2.2) (fun x hx => (HSH.out u hum x hx).2.1))).mono ?_
          rintro e w' ⟨b, rfl, hb, hiff⟩
          rw [hiff.2 hpw.1]
          exact ⟨rfl, hb⟩)
        have HRT : Hid (∀ W, Below wr.heap.size wr W → Calls Tryz.prog 18 #[.slice (some ⟨g3, o3, none⟩) (flat u).length c3] W fun e w' => e = .returned (.bool (!isC (noNm u.nd).op)) ∧ Below W.heap.size W w') := Lib.hid (fun W hW => by
          have h1 := hrow.below (HWB.out W hW)
          rw [hmm] at h1
          have h2 := tright_any _ (flat (clrF u)) W h1 hlen30 (fun x hx => (HSH.out u hum x hx).1) (HT.out.below (HB2.out.trans ((HWB.out W hW).mono HB2.out.size))).pv
          rwa [hpw.2] at h2)
        have HIS := Lib.hid (fun (W : World) (_ : Below wr.heap.size wr W) => refIs_any (noNm u.nd) W)
        have hm0 : 0 < (flat u).length := flat_pos u
        have hlu : (flat u).length ≤ 60000 := by omega
        clear hpw hrow hxx hxk hx3 htm hx hu hum hmm hlen30 hc3
        generalize noNm u.nd = hd at *
        generalize hbC : isC hd.op = bC at *
        generalize lenP t1.ks k = Q1 at *
        generalize (flat u).length = m at *
        have em : ((m : Int) == 0) = false := by simp; omega
        have el0 := HEL.out wr (Below.refl _ _)
        go_upto_region 9 with fail
        clear el0
        refine wp_region_held_drew (S := fun w' => Below wr.heap.size wr w') (by kernel_rfl) ((Below.refl _ _).drew) (fun hH => ?_)
        refine rtk 0 (.slice (some ⟨g2, o2, none⟩) N c2) ?_ ?_
        · intro w' hSw; go_simp
        try simp only [List.set_cons_succ, List.set_cons_zero]
        refine rtk 1 (.int .i64 (k : Int)) ?_ ?_
        · intro w' hSw; go_simp
        try simp only [List.set_cons_succ, List.set_cons_zero]
        refine rtk 2 (.pointer (some ⟨g2, o2 + k, none⟩)) ?_ ?_
        · intro w' hSw; go_simp
        try simp only [List.set_cons_succ, List.set_cons_zero]
        refine rtk 3 (.slice (some ⟨g3, o3, none⟩) m c3) ?_ ?_
        · intro w' hSw; have hel := HEL.out w' hSw; go_simp
        try simp only [List.set_cons_succ, List.set_cons_zero]
        refine rtk 4 (.int .i64 (m : Int)) ?_ ?_
        · intro w' hSw; go_simp
        try simp only [List.set_cons_succ, List.set_cons_zero]
        refine rtk 5 (.bool false) ?_ ?_
        · intro w' hSw; go_simp
        try simp only [List.set_cons_succ, List.set_cons_zero]
        refine rtk 6 (.bool false) ?_ ?_
        · intro w' hSw; go_simp
        try simp only [List.set_cons_succ, List.set_cons_zero]
        refine rtk 7 (.slice (some ⟨g2, o2, none⟩) N c2) ?_ ?_
        · intro w' hSw; go_simp
        try simp only [List.set_cons_succ, List.set_cons_zero]
        refine rtk 8 (.int .i64 (k : Int)) ?_ ?_
        · intro w' hSw; go_simp
        try simp only [List.set_cons_succ, List.set_cons_zero]
        refine rtk 9 (.pointer (some ⟨g2, o2 + k, none⟩)) ?_ ?_
        · intro w' hSw; go_simp
        try simp only [List.set_cons_succ, List.set_cons_zero]
        refine rtk 10 (.slice (some ⟨g3, o3, none⟩) m c3) ?_ ?_
        · intro w' hSw; have hel := HEL.out w' hSw; go_simp
        try simp only [List.set_cons_succ, List.set_cons_zero]
        refine wpAnyH_ready (rs := [11]) (by kernel_rfl) (by simp) ?_
        refine AllReadyH.cons rfl (fun K11 hK11 => ?_) AllReadyH.nil
        go_simp
        go_at_call 28
        refine (HWH.out _ hH).mono ?_
        rintro e w111 ⟨rfl, hb111⟩
        go_wp2_with fail
        refine hK11.out _ _ (hH.trans (hb111.mono hH.size)) (fun hHeld11 => ?_)
        clear hK11 K11
        try simp only [List.set_cons_succ, List.set_cons_zero]
        refine rtk 12 (.bool false) ?_ ?_
        · intro w' hSw; go_simp
        try simp only [List.set_cons_succ, List.set_cons_zero]
        refine rtk 13 (.bool false) ?_ ?_
        · intro w' hSw; go_simp
        try simp only [List.set_cons_succ, List.set_cons_zero]
        refine rtk 14 (.bool false) ?_ ?_
        · intro w' hSw; go_simp
        try simp only [List.set_cons_succ, List.set_cons_zero]
        refine rtk 15 (.slice (some ⟨g2, o2, none⟩) N c2) ?_ ?_
        · intro w' hSw; go_simp
        try simp only [List.set_cons_succ, List.set_cons_zero]
        refine rtk 16 (.int .i64 (k : Int)) ?_ ?_
        · intro w' hSw; go_simp
        try simp only [List.set_cons_succ, List.set_cons_zero]
        refine rtk 17 (.pointer (some ⟨g2, o2 + k, none⟩)) ?_ ?_
        · intro w' hSw; go_simp
        try simp only [List.set_cons_succ, List.set_cons_zero]
        refine rtk 18 (.slice (some ⟨g3, o3, none⟩) m c3) ?_ ?_
        · intro w' hSw; have hel := HEL.out w' hSw; go_simp
        try simp only [List.set_cons_succ, List.set_cons_zero]
        refine rtk 20 (.slice (some ⟨g2, o2, none⟩) N c2) ?_ ?_
        · intro w' hSw; go_simp
        try simp only [List.set_cons_succ, List.set_cons_zero]
        refine rtk 21 (.int .i64 (k : Int)) ?_ ?_
        · intro w' hSw; go_simp
        try simp only [List.set_cons_succ, List.set_cons_zero]
        refine rtk 22 (.pointer (some ⟨g2, o2 + k, none⟩)) ?_ ?_
        · intro w' hSw; go_simp
        try simp only [List.set_cons_succ, List.set_cons_zero]
        refine rtk 23 (.slice (some ⟨g3, o3, none⟩) m c3) ?_ ?_
        · intro w' hSw; have hel := HEL.out w' hSw; go_simp
        try simp only [List.set_cons_succ, List.set_cons_zero]
        refine rtk 24 (.pointer (some ⟨g3, o3, none⟩)) ?_ ?_
        · intro w' hSw; go_simp
        try simp only [List.set_cons_succ, List.set_cons_zero]
        refine rtk 25 (tma hd) ?_ ?_
        · intro w' hSw; obtain ⟨y0, y1, y2, y3, y4, y5, y6, y7, y8, y9, y10⟩ := HCL.out w' hSw; go_simp
        try simp only [List.set_cons_succ, List.set_cons_zero]
        refine wpAnyH_ready (rs := [19]) (by kernel_rfl) (by simp) ?_
        refine AllReadyH.cons rfl (fun K19 hK19 => ?_) AllReadyH.nil
        go_simp
        go_at_call 18
        refine (HRT.out _ hHeld11).mono ?_
        rintro e w119 ⟨rfl, hb119⟩
        go_wp2_with fail
        refine hK19.out _ _ (hHeld11.trans (hb119.mono hHeld11.size)) (fun hHeld19 => ?_)
        clear hK19 K19
        try simp only [List.set_cons_succ, List.set_cons_zero]
        refine wpAnyH_ready (rs := [26]) (by kernel_rfl) (by simp) ?_
        refine AllReadyH.cons rfl (fun K26 hK26 => ?_) AllReadyH.nil
        go_simp
        go_at_call 29
        refine (HIS.out _ hHeld19).mono ?_
        rintro e w126 ⟨rfl, hb126⟩
        go_wp2_with fail
        refine hK26.out _ _ (hHeld19.trans (hb126.mono hHeld19.size)) (fun hHeld26 => ?_)
        clear hK26 K26
        try simp only [List.set_cons_succ, List.set_cons_zero]
        refine rtk 27 (.bool false) ?_ ?_
        · intro w' hSw; go_simp
        try simp only [List.set_cons_succ, List.set_cons_zero]
        refine rtk 28 (.bool false) ?_ ?_
        · intro w' hSw; go_simp
        try simp only [List.set_cons_succ, List.set_cons_zero]
        refine wpAnyH_done (by kernel_rfl) ?_ _
        have HBQ := Lib.hid (HWB.out _ hHeld26)
        clear HWB HEL HCL HWH HRT HIS
        go_wp2_with fail
        go_roundw
        case rel => exact ⟨k + 1, by omega, by rw [HSC.out]; go_num, by go_num, HBQ⟩
        case measure => simp [intOf]; omega
      · have hkn : k = N := by omega
        have HLA := Lib.hid (lenP_all t1.ks)
        have HLK : Hid (1 + lenP t1.ks k = l1.length) := Lib.hid (by
          have h2 := congrArg List.length E1.out
          rw [flat_eq t1] at h2
          rw [hkn, HUL.out, lenP_all]
          simp at h2; omega)
        have hmany : t1.nd.many = (N : Int) := by
          have := (okT_eq.1 FT.out.ok).1
          rw [HUL.out]; exact this
        generalize lenP t1.ks k = Q at *
        subst hkn
        have HBW := Lib.hid (HB2.out.trans (HBR.out.mono HB2.out.size))
        obtain ⟨gf, of, cf, hv, -, -, hgf, hxf⟩ := H1.out.opened (by rw [E1.out]; exact flat_pos t1)
        injection hv with e1 _ e3
        subst e1 e3
        have htf := (hxf 0 t1.nd (by rw [E1.out, flat_eq]; rfl)).tm.c1
        rw [Nat.zero_mul, Nat.add_zero, hmany] at htf
        have HC1 := Lib.hid htf
        clear hxf htf hmany
        go_wp2_with fail
        refine (HAL.out _ HBW.out).mono ?_
        rintro e w3 ⟨rfl, hb3⟩
        have HB3 := Lib.hid (HBW.out.trans (hb3.mono HBW.out.size))
        have hc1 := (HB3.out.cell (p := ⟨gf, of + 1, none⟩) hgf).trans HC1.out
        have HSM := Lib.hid (tsame_any _ _ _ _ w3 (H1.out.below HB3.out) (H1.out.below HB3.out))
        rw [show decide (l1 = l1) = true by simp] at HSM
        have hQ := HLK.out
        clear hb3
        generalize l1.length = M at *
        subst hQ
        go_wp2_with fail
        refine HSM.out.mono ?_
        rintro e w4 ⟨rfl, hb4⟩
        go_wp2_with fail
        go_ret
        exact ⟨rfl, HB3.out.trans (hb4.mono HB3.out.size)⟩
end Go.Proofs.YtmajkafoenfceaaGreatDoor

/-
  The statement TermParts holds: called with any filter, whatever lies in memory, it returns true, and each argument reads as it read before. Conditions: the listed variables of the library (two tables of bits, one of powers of ten, two of UTF-8, strconv's two errors) read as the program's text lays them (the tie is given).
-/
namespace Go.Proofs.YtmajkafoenfceaaGreatDoor
open Go.ChangeShapes Go.WideShapes Go.ChangeAt Go.RowKit Go.ChangeMaps Pw

set_option maxRecDepth 100000 in
theorem termParts_lifted (os : Os) (started : os.Started) (H : Type) (enc : TypeId × Value → H) :
    ReturnsInHanded {} Tryz.checked os 6 .any (fun w args => (Rows.termPartsSpec.pre enc Tryz.prog Tryz.f6 [] false w args ∧ laidMetH Tryz.prog seatLaid w) ∧ sizedMet enc Tryz.prog Tryz.f6 (OpenSpec.ofChange Rows.termPartsSpec) false w args)
      (Rows.termPartsSpec.post enc Tryz.prog Tryz.f6 false true false false) := by
  refine returnsInHanded_of_change_and (C := Tryz.checked) (X := fun w _ => laidMetH Tryz.prog seatLaid w) (fun _ _ _ hh h => h.of_heap hh) ownKn started (by kernel_rfl) Tryz.func6
    (ChangeSpec.witness_shaped (enc := enc) (C := Tryz.checked) (os := os) (X := fun w _ => laidMetH Tryz.prog seatLaid w) false (World.laidAll Tryz.prog os seatLaid)
      #[.slice none 0 0] 8 (World.laidAll_os _ _ _)
      (World.shaped_of_ZipB (by kernel_rfl) (by kernel_rfl)) (by kernel_rfl) (by kernel_rfl) (by kernel_rfl) (laid_met os _)) ?_
  intro W base args ds gs before hval0 hW _ hwt0 hL _
  have hval : ∀ (j : Nat) t v, Tryz.f6.params[j]? = some t → args[j]? = some v → Value.okWide Tryz.prog W .any base t v := hval0
  have hW' := hW
  obtain ⟨p, q, hA0, hV, rfl, _, _⟩ := hW
  have hA : DataW.TrodAll enc Tryz.prog W 0 (fun _ => true) true Tryz.f6.params.toList args.toList ds p := hA0
  have hwt : (DataW.weightsEach Tryz.prog (Tryz.f6.params.toList ++ Rows.termPartsSpec.plain.varTypes Tryz.prog) (ds ++ gs)).all (· ≤ reachBytes) = true := hwt0
  rw [Tryz.params6] at hA hval
  obtain ⟨v0, d0, rfl, rfl, h0⟩ := trodAll_one hA
  obtain ⟨rfl, rfl⟩ := trodVars_none hV
  obtain ⟨p0, hp0, hs0⟩ := open_filter (base := 0) (sp := fun _ => true) (held := true) (hval 0 _ v0 rfl rfl) h0
  refine (termParts_any v0 p0 W hp0 hs0 (fv_of_laid hL)).mono fun e W' ⟨he, hb⟩ => ?_
  subst he
  exact ⟨_, rfl, law_post (tb := 4) laidOut hW' rfl Tryz.underlying4 (by kernel_rfl) rfl (by
    rw [Tryz.params6]
    intro t ht
    have hall : ([23].all fun t => Tryz.prog.readableRec t && decide (t < Tryz.prog.types.size)) = true := by kernel_rfl
    obtain ⟨h1, h2⟩ := Bool.and_eq_true_iff.1 (List.all_eq_true.1 hall t ht)
    exact ⟨h1, of_decide_eq_true h2⟩) hb⟩

end Go.Proofs.YtmajkafoenfceaaGreatDoor
