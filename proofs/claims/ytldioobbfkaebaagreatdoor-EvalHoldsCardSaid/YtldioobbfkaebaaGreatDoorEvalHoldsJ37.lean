/-
  Joined: ErH, ErK, EvalHolds.
-/
import Derived.Test.YtldioobbfkaebaaGreatDoorEvalHoldsJ31
import Derived.Test.YtldioobbfkaebaaGreatDoorEvalHoldsJ11
import Derived.Test.YtldioobbfkaebaaGreatDoorEvalHoldsJ19
import Derived.Test.YtldioobbfkaebaaGreatDoorEvalHoldsJ13
import Derived.BigRegion
import Derived.Test.YtldioobbfkaebaaGreatDoorEvalHoldsJ36
import Derived.Test.YtldioobbfkaebaaGreatDoorEvalHoldsJ26
import Derived.Test.YtldioobbfkaebaaGreatDoorEvalHoldsJ27
import Derived.Test.YtldioobbfkaebaaGreatDoorEvalHoldsJ35
import Derived.Test.YtldioobbfkaebaaGreatDoorEvalHoldsJ28
set_option maxHeartbeats 8000000
set_option maxRecDepth 100000
namespace Go.Proofs.YtldioobbfkaebaaGreatDoor
section
open Go.RowKit Np Rw Vp Up Qp Pw Ev
theorem kid_iff {s : St} {t : Tr Nd} (hs : s.part = false) (hk : t.nd.kind = 6) (ht : Val t) :
  (Pw.kid s t = none → ∀ i (h : i < t.ks.length), t.ks[i].nd.name ≠ s.name) ∧ ∀ j, Pw.kid s t = some j → ∀ i (h : i < t.ks.length), (t.ks[i].nd.name = s.name ↔ i = j) := by
 have hkd : Pw.kid s t = seekN s (names t.ks) 0 := by unfold Pw.kid stKind; rw [hs]; simp [hk]
 obtain ⟨h1, -⟩ := seek_field hs t.ks 0
 constructor
 ·intro hn i hi he
  rw [hkd] at hn
  have := List.filter_eq_nil_iff.1 (h1 hn) t.ks[i] (List.getElem_mem hi)
  simp [he] at this
 ·intro j hj i hi
  obtain ⟨hjl, -, u, hu, hlead⟩ := kid_lt hj
  rw [List.getElem?_eq_getElem hjl] at hu
  injection hu with hu
  have hnj : t.ks[j].nd.name = s.name := by
   rw [hu]
   unfold lead at hlead
   rw [hs] at hlead
   simpa using hlead
  constructor
  ·intro he
   have hr := List.pairwise_iff_getElem.1 (ht.named hk).1
   rcases Nat.lt_trichotomy i j with h | h | h
   ·have := hr i j hi hjl h
    rw [he, hnj] at this
    exact absurd this (List.lt_irrefl _)
   ·exact h
   ·have := hr j i hjl hi h
    rw [he, hnj] at this
    exact absurd this (List.lt_irrefl _)
  ·rintro rfl
   exact hnj
theorem at_of {s : St} {t : Tr Nd} (hs : s.part = false) (hk : t.nd.kind = 6) (ht : Val t) : ∃ AT : Nat → Nat, AT 0 = 0 ∧ (∀ i (h : i < t.ks.length), AT (i + 1) = if t.ks[i].nd.name = s.name then i else AT i) ∧ ∀ N, Pw.kid s t = some N → AT t.ks.length = N := by
 obtain ⟨h1, h2⟩ := kid_iff hs hk ht
 cases hkd : Pw.kid s t with
 | none => exact ⟨fun _ => 0, rfl, fun i hi => by rw [if_neg (h1 hkd i hi)], fun N hN => by cases hN⟩
 | some j =>
  refine ⟨fun i => if j < i then j else 0, rfl, fun i hi => ?_, fun N hN => ?_⟩
  ·by_cases he : t.ks[i].nd.name = s.name
   ·have := (h2 j hkd i hi).1 he
    subst this
    rw [if_pos he]; simp
   ·have hne : i ≠ j := fun e => he ((h2 j hkd i hi).2 e)
    rw [if_neg he]
    show (if j < i + 1 then j else 0) = (if j < i then j else 0)
    by_cases hji : j < i
    ·rw [if_pos hji, if_pos (by omega)]
    ·rw [if_neg hji, if_neg (by omega)]
  ·injection hN with hN
   subst hN
   show (if j < t.ks.length then j else 0) = j
   rw [if_pos (kid_lt hkd).1]
theorem refDelete10_field (s : St) (p : List St) (pv v : Value) (t : Tr Nd) (w : World) (hp : Sps w pv (s :: p)) (hv : Nds w v (flat t)) (hl : (flat t).length ≤ 200) (ht : Val t) (hsh : Short (flat t)) (hpt : s.part = false) (hk : t.nd.kind = 6) (hs1 : rightS s = true) (hnm : s.name.length ≤ maxLen)
  (hrec : ∀ (u : Tr Nd) (qv uv : Value) W, Sps W qv p → Nds W uv (flat u) → (flat u).length ≤ 200 → Val u → Short (flat u) → Calls Tryz.prog 14 #[qv, uv] W (OutV W (ofO (cutE p u)))) :
  Calls Tryz.prog 14 #[pv, v] w (OutV w (ofO (cutE (s :: p) t))) := by
 have HP := Lib.hid hp
 obtain ⟨g, o, c, rfl, hc, hcm, hg, hxs⟩ := hp.opened (by simp)
 obtain ⟨z0, z1, z2⟩ := (hxs 0 s rfl).sp
 rw [Nat.zero_mul, Nat.add_zero] at z0 z1 z2
 have HZ : Hid (∀ W, Below w.heap.size w W → Sp3 W g o s) := Lib.hid (fun W hb => ⟨(hb.cell (p := ⟨g, o, none⟩) hg).trans z0, (hb.cell (p := ⟨g, o + 1, none⟩) hg).trans z1, (hb.cell (p := ⟨g, o + 2, none⟩) hg).trans z2⟩)
 have HV := Lib.hid hv
 have HNA := Lib.hid (fun (W : World) (hb : Below w.heap.size w W) => refNames_any v t W (hv.below hb) (by omega) ht)
 have HPA := Lib.hid (fun (W : World) (hb : Below w.heap.size w W) => refParts_any v t W (hv.below hb) (by omega) ht)
 have HFI := Lib.hid (fun (W : World) (hb : Below w.heap.size w W) => refField_any v t s.name W (hv.below hb) (by omega) ht)
 rw [show namesT t = t.ks.map (fun k => k.nd.name) by rw [namesT, if_pos hk]] at HNA
 obtain ⟨g1, o1, c1, rfl, hc1, hcm1, hg1, hx1⟩ := hv.opened (flat_pos t)
 have k0 := (hx1 0 t.nd (by rw [flat_eq]; rfl)).nd.c0
 rw [Nat.zero_mul, Nat.add_zero] at k0
 have hfl := flat_pos t
 have hlen : (s :: p).length = p.length + 1 := rfl
 rw [hlen]
 clear hxs hx1 hp hv
 have hN : s.n = 0 := by
  unfold rightS at hs1
  rw [hpt] at hs1
  have := (Bool.and_eq_true_iff.1 (by simpa using hs1 : (decide (s.n = 0) && vld s.name) = true)).1
  simpa using this
 obtain ⟨hkf1, hkf2⟩ := kid_field (s := s) (t := t) hpt hk
 obtain ⟨AT, hat0, hatS, hatM⟩ := at_of hpt hk ht
 have HATS := Lib.hid hatS
 have HATM := Lib.hid hatM
 clear hatS hatM
 have hkl : t.ks.length ≤ 200 := by
  have h3 := flats_len t.ks
  have h4 := congrArg List.length (flat_eq t)
  rw [List.length_cons] at h4
  omega
 have HCT : Hid (cutE (s :: p) t = _) := Lib.hid (cut_kind (p := p) (by rw [hk]; simp [stKind, hpt]))
 rw [hk] at k0
 rw [hpt] at z0
 obtain ⟨R, hR⟩ : ∃ R, R = cutE (s :: p) t := ⟨_, rfl⟩
 rw [← hR]
 rw [← hR] at HCT
 clear hR
 generalize hml : (flat t).length = m at *
 have HPC : Hid (∀ w', Below w.heap.size w w' → w'.cell? ⟨g, o, none⟩ = some (.bool false) ∧ w'.cell? ⟨g1, o1, none⟩ = some (.int .i64 6)) := Lib.hid fun w' hw => ⟨(hw.cell (p := ⟨g, o, none⟩) hg).trans z0, (hw.cell (p := ⟨g1, o1, none⟩) hg1).trans k0⟩
 go_enter Tryz.func14, Tryz.ntmps14
 go_wp2_with fail
 have HB0 : Hid (Below w.heap.size w w.drew) := Lib.hid ((Below.refl _ _).drew)
 go_big_region
 all_goals go_wp2_with fail
 refine (HNA.out _ HB0.out).mono ?_
 rintro e w1 ⟨v1, rfl, hsn, hb1⟩
 have HSN := Lib.hid hsn
 obtain ⟨NA, nd, rfl, -⟩ := hsn
 have HB1 := Lib.hid (Below.after HB0.out hb1)
 clear hb1 HNA HB0
 have HLN : Hid ((t.ks.map fun k => k.nd.name).length = t.ks.length) := Lib.hid (by simp)
 rw [HLN.out]
 go_wp2_with fail
 refine (HPA.out w1 HB1.out).mono ?_
 rintro e w2 ⟨v2, rfl, ⟨us, hul, hu, hur⟩, hb2⟩
 rw [List.length_map] at hul
 have HB2 := Lib.hid (Below.after HB1.out hb2)
 have HSN2 := Lib.hid (Row.below HSN.out hb2)
 obtain ⟨t0, t1, t2⟩ := HZ.out w2 HB2.out
 rw [hpt] at t0
 rw [hN] at t2
 have HU := Lib.hid hu
 have HUR := Lib.hid hur
 obtain ⟨UA, ud, rfl, -⟩ := hu
 clear hb2 hur HPA HB1 HSN
 go_wp2_with fail
 go_loopw [8, 9] (fun av iv wr => ∃ i : Nat, i ≤ t.ks.length ∧ iv = .int .i64 i ∧ av = .int .i64 (AT i : Nat) ∧ Below w2.heap.size w2 wr) (fun _ iv _ => t.ks.length - (intOf iv).toNat)
 case atStart => exact ⟨0, Nat.zero_le _, rfl, by rw [hat0]; rfl, Below.refl _ _⟩
 case round =>
  obtain ⟨i, hi, rfl, rfl, hbw⟩ := hrel
  by_cases hlt : i < t.ks.length
  ·have i1 : (i : Int) < (t.ks.length : Int) := by omega
   have hst := HATS.out i hlt
   obtain ⟨g5, o5, c5, hNA, -, -, hg5, hx5⟩ := HSN2.out.opened (by rw [HLN.out]; omega)
   injection hNA with hNA hq1 hq2
   subst hq2
   have y5 := (hx5 i t.ks[i].nd.name (by rw [List.getElem?_map, List.getElem?_eq_getElem hlt]; rfl)).st
   rw [hNA]
   have HCC : Hid (∀ w', Below w2.heap.size w2 w' → w'.cell? ⟨g5, o5 + i, none⟩ = some (.string ⟨t.ks[i].nd.name.toArray⟩) ∧ w'.cell? ⟨g, o + 1, none⟩ = some (.string ⟨s.name.toArray⟩)) := Lib.hid fun w' hw => ⟨(hw.cell (p := ⟨g5, o5 + i, none⟩) hg5).trans y5, (HZ.out w' (Below.after HB2.out hw)).c1⟩
   have HBL := Lib.hid hbw
   clear hx5 y5 hbw
   generalize t.ks[i].nd.name = nm at *
   by_cases hnn : nm = s.name
   ·rw [if_pos hnn] at hst
    subst hnn
    go_wp2_with fail
    refine wp_region_held_drew (S := fun w' => Below wr.heap.size wr w') (by kernel_rfl) ((Below.refl _ _).drew) (fun hH => ?_)
    generalize wr.drew = Wd3 at hH ⊢
    refine rtk 0 (.slice (some ⟨g5, o5, none⟩) t.ks.length nd) ?_ ?_
    ·intro w' hSw; go_simp; try decide
    try simp only [ls1, ls0]
    refine rtk 1 (.int .i64 i) ?_ ?_
    ·intro w' hSw; go_simp; try decide
    try simp only [ls1, ls0]
    refine rtk 2 (.pointer (some ⟨g5, o5 + i, none⟩)) ?_ ?_
    ·intro w' hSw; go_simp; try decide
    try simp only [ls1, ls0]
    refine rtk 3 (.string ⟨s.name.toArray⟩) ?_ ?_
    ·intro w' hSw; obtain ⟨x0, x1⟩ := HCC.out w' (HBL.out.trans (hSw.mono HBL.out.size)); go_simp; try decide
    try simp only [ls1, ls0]
    refine rtk 4 (.slice (some ⟨g, o, none⟩) (p.length + 1) c) ?_ ?_
    ·intro w' hSw; go_simp; try decide
    try simp only [ls1, ls0]
    refine rtk 5 (.pointer (some ⟨g, o, none⟩)) ?_ ?_
    ·intro w' hSw; go_simp; try decide
    try simp only [ls1, ls0]
    refine rtk 6 (.pointer (some ⟨g, o + 1, none⟩)) ?_ ?_
    ·intro w' hSw; go_simp; try decide
    try simp only [ls1, ls0]
    refine rtk 7 (.string ⟨s.name.toArray⟩) ?_ ?_
    ·intro w' hSw; obtain ⟨x0, x1⟩ := HCC.out w' (HBL.out.trans (hSw.mono HBL.out.size)); go_simp; try decide
    try simp only [ls1, ls0]
    refine rtk 8 (.bool true) ?_ ?_
    ·intro w' hSw; go_simp; try decide
    try simp only [ls1, ls0]
    refine wpAnyH_done (by kernel_rfl) ?_ _
    have HBE := Lib.hid (HBL.out.trans (hH.mono HBL.out.size))
    clear hH
    go_wp2_with fail
    refine ⟨⟨i + 1, by omega, by go_num, by rw [hst], HBE.out⟩, ?_⟩
    simp [intOf]; omega
   ·rw [if_neg hnn] at hst
    go_wp2_with fail
    refine wp_region_held_drew (S := fun w' => Below wr.heap.size wr w') (by kernel_rfl) ((Below.refl _ _).drew) (fun hH => ?_)
    generalize wr.drew = Wd3 at hH ⊢
    refine rtk 0 (.slice (some ⟨g5, o5, none⟩) t.ks.length nd) ?_ ?_
    ·intro w' hSw; go_simp; try decide
    try simp only [ls1, ls0]
    refine rtk 1 (.int .i64 i) ?_ ?_
    ·intro w' hSw; go_simp; try decide
    try simp only [ls1, ls0]
    refine rtk 2 (.pointer (some ⟨g5, o5 + i, none⟩)) ?_ ?_
    ·intro w' hSw; go_simp; try decide
    try simp only [ls1, ls0]
    refine rtk 3 (.string ⟨nm.toArray⟩) ?_ ?_
    ·intro w' hSw; obtain ⟨x0, x1⟩ := HCC.out w' (HBL.out.trans (hSw.mono HBL.out.size)); go_simp; try decide
    try simp only [ls1, ls0]
    refine rtk 4 (.slice (some ⟨g, o, none⟩) (p.length + 1) c) ?_ ?_
    ·intro w' hSw; go_simp; try decide
    try simp only [ls1, ls0]
    refine rtk 5 (.pointer (some ⟨g, o, none⟩)) ?_ ?_
    ·intro w' hSw; go_simp; try decide
    try simp only [ls1, ls0]
    refine rtk 6 (.pointer (some ⟨g, o + 1, none⟩)) ?_ ?_
    ·intro w' hSw; go_simp; try decide
    try simp only [ls1, ls0]
    refine rtk 7 (.string ⟨s.name.toArray⟩) ?_ ?_
    ·intro w' hSw; obtain ⟨x0, x1⟩ := HCC.out w' (HBL.out.trans (hSw.mono HBL.out.size)); go_simp; try decide
    try simp only [ls1, ls0]
    refine rtk 8 (.bool false) ?_ ?_
    ·intro w' hSw; go_simp; try first | decide | (simp [hnn]; done)
    try simp only [ls1, ls0]
    refine wpAnyH_done (by kernel_rfl) ?_ _
    have HBE := Lib.hid (HBL.out.trans (hH.mono HBL.out.size))
    clear hH
    go_wp2_with fail
    refine ⟨⟨i + 1, by omega, by go_num, by rw [hst], HBE.out⟩, ?_⟩
    simp [intOf]; omega
  ·obtain rfl : i = t.ks.length := by omega
   have hAT := HATM.out
   generalize AT t.ks.length = AE at *
   have HB2r := Lib.hid (Below.after HB2.out hbw)
   have HUr := Lib.hid (Row.below HU.out hbw)
   have HBW := Lib.hid hbw
   obtain ⟨t0, t1, t2⟩ := HZ.out wr HB2r.out
   rw [hpt] at t0
   clear hbw
   go_wp2_with fail
   refine (HFI.out wr HB2r.out).mono ?_
   rintro e w3 ⟨v3, rfl, ⟨A3, d3, hv3, -⟩, hb3⟩
   rw [hv3]
   obtain ⟨s0, s1, s2⟩ := HZ.out w3 (Below.after HB2r.out hb3)
   rw [hpt] at s0
   have HB3 := Lib.hid (Below.after HB2r.out hb3)
   have HU3 := Lib.hid (Row.below HUr.out hb3)
   have HB23 := Lib.hid (Below.after HBW.out hb3)
   clear hb3 hv3 v3 t0 t1 t2
   cases hkid : Pw.kid s t with
   | none =>
    obtain ⟨-, hfb⟩ := hkf1 hkid
    rw [hfb]
    rw [hkid] at HCT
    have HR : Hid (R = some t) := Lib.hid HCT.out
    go_wp2_with fail
    exact bodyPost_ret (v := .tuple #[.slice (some ⟨g1, o1, none⟩) m c1, .int .i64 0]) (by simp [results, Tryz.results14, go_sem]) rfl (by rw [HR.out]; exact ⟨_, rfl, Row.below HV.out HB3.out, HB3.out⟩)
   | some N =>
    obtain ⟨-, hfb⟩ := hkf2 N hkid
    rw [hfb]
    rw [hkid] at HCT
    simp only at HCT
    have hNl := (kid_lt hkid).1
    obtain rfl := hAT N hkid
    have i1 : (AE : Int) < (t.ks.length : Int) := by omega
    have i2 : ¬ ((t.ks.length : Int) ≤ (AE : Int)) := by omega
    have hgd : t.ks.getD AE nullT = t.ks[AE] := by simp [List.getD, List.getElem?_eq_getElem hNl]
    rw [hgd] at HCT
    have hNu : AE < us.length := by omega
    obtain ⟨g4, o4, c4, hUA, hc4, hcm4, hg4, hx4⟩ := HU3.out.opened (by omega)
    injection hUA with hUA hq1 hq2
    subst hUA hq2
    have y0 := hx4 AE us[AE] (List.getElem?_eq_getElem hNu) 0 us[AE] rfl
    have hN0 := HUR.out AE us[AE] (flat (nmd [] t.ks[AE])) (List.getElem?_eq_getElem hNu) (by rw [List.getElem?_map, List.getElem?_eq_getElem hNl]; rfl)
    rw [Nat.mul_one, Nat.add_zero] at y0
    obtain ⟨A5, d5, hv5, -⟩ := id hN0
    rw [hv5] at y0 hN0
    have HN5 := Lib.hid (Row.below hN0 HB23.out)
    have HB23y := Lib.hid y0
    cases p with
    | nil =>
     rw [if_pos rfl] at HCT
     have HR : Hid (R = some (withK t (t.ks.eraseIdx AE))) := Lib.hid HCT.out
     obtain ⟨u0, hu0, -, -, hu1, -, -⟩ := kid_at hkid
     have HLE := Lib.hid (obj_erase ht hk hu0 (by unfold lead at hu1; rw [hpt] at hu1; simpa using hu1))
     have HWI := Lib.hid (refWithout_any (.slice (some ⟨g1, o1, none⟩) m c1) t s.name w3 (Row.below HV.out HB3.out) (by omega) ht hk)
     go_wp2_with fail
     refine HWI.out.mono ?_
     rintro e w4 ⟨v4, rfl, ho4, hb4⟩
     obtain ⟨A4, c4, rfl, -, -, -⟩ := ho4.form
     have H4 := Lib.hid (ho4.row ndc_len)
     have HB4 := Lib.hid (Below.after HB3.out hb4)
     clear ho4 hb4
     go_wp2_with fail
     exact bodyPost_ret (v := .tuple #[.slice A4 (flat (lessT s.name t)).length c4, .int .i64 0]) (by simp [results, Tryz.results14, go_sem]) rfl (by rw [HR.out]; exact ⟨_, rfl, by rw [← HLE.out]; exact H4.out, HB4.out⟩)
    | cons s2 q =>
     rw [if_neg (by simp)] at HCT
     have hcn := cut_nmd s2 q [] t.ks[AE]
     have HCN := Lib.hid hcn
     have hlq : (s2 :: q).length = q.length + 1 := rfl
     have HSQ : Hid (Sps w3 (.slice (some ⟨g, o + 3, none⟩) (q.length + 1) (c - 1)) (s2 :: q)) := Lib.hid (by
      have htl := HP.out.back 1 (by simp) hc hcm
      rw [if_neg (by rw [hlen] at hc; rw [hlq] at hc; omega)] at htl
      exact (by simpa using htl : Sps w (.slice (some ⟨g, o + 3, none⟩) (s2 :: q).length (c - 1)) (s2 :: q)).below HB3.out)
     have HS1 : Hid (Sps w3 (.slice (some ⟨g, o, none⟩) 1 c) [s]) := Lib.hid ((Row.front HP.out 1 (by simp) (by rw [hlen] at hc; omega) hcm).below HB3.out)
     have hc2 : 2 ≤ c := by rw [hlen] at hc; rw [hlq] at hc; omega
     have hc1n : ¬ c = 1 := by omega
     clear hx4 hN0 hv5
     obtain ⟨kd1, kd2, kd3⟩ := kid_down hkid ht hsh
     rw [hgd] at kd1 kd2 kd3
     rw [hml] at kd1
     have hq1 : ¬ ((q.length : Int) + 1 + 1 < 1) := by omega
     have HDE := Lib.hid (fun W (hb : Below w3.heap.size w3 W) => hrec (nmd [] t.ks[AE]) (.slice (some ⟨g, o + 3, none⟩) (q.length + 1) (c - 1)) _ W (HSQ.out.below hb) (HN5.out.below hb) (by omega) kd2 kd3)
     have HY : Hid (∀ y, cutE (s2 :: q) t.ks[AE] = some y → Val (nmd [] y) ∧ (flat (nmd [] y)).length ≤ 200 ∧ errP [s] t = 0 ∧ putP [s] t (nmd [] y) = flat (withK t (t.ks.set AE y))) := Lib.hid fun y hy => by
      have h1 : cutE (s2 :: q) (nmd [] t.ks[AE]) = some (nmd [] y) := by rw [HCN.out, hy]; rfl
      have h2 := cut_len _ h1
      obtain ⟨p1, p2⟩ := put_one (y := y) hkid ht (by rw [hgd]; exact cut_name hy)
      exact ⟨Rgt.val (cut_rgt _ (rgt_of kd2) h1) rfl, by omega, p1, p2⟩
     rw [HCN.out] at HDE
     clear kd1 kd2 kd3 hcn
     generalize (flat (nmd [] t.ks[AE])).length = m5 at *
     have HY0 : Hid (∀ w', Below w3.heap.size w3 w' → w'.cell? ⟨g4, o4 + AE, none⟩ = some (.slice A5 m5 d5)) := Lib.hid fun w' hw => (hw.cell (p := ⟨g4, o4 + AE, none⟩) (Nat.lt_of_lt_of_le hg4 (Nat.le_refl _))).trans (HB23y.out)
     cases hcq : cutE (s2 :: q) t.ks[AE] with
     | none =>
      have HDF : Hid (∀ W, Below w3.heap.size w3 W → Calls Tryz.prog 14 #[.slice (some ⟨g, o + 3, none⟩) (q.length + 1) (c - 1), .slice A5 m5 d5] W (OutV W (.bad 5))) := Lib.hid (by have := HDE.out; rw [hcq] at this; exact this)
      have HR : Hid (R = none) := Lib.hid (by rw [HCT.out, hcq])
      clear HDE HCT HCN
      go_wp2_with fail
      refine wp_region_held_drew (S := fun w' => Below w3.heap.size w3 w') (by kernel_rfl) ((Below.refl _ _).drew) (fun hG => ?_)
      generalize w3.drew = We at hG ⊢
      refine rtk 0 (.slice (some ⟨g, o, none⟩) (q.length + 1 + 1) c) ?_ ?_
      ·intro w' hSw; go_simp; try decide
      try simp only [ls1, ls0]
      refine rtk 1 (.slice (some ⟨g, o + 3, none⟩) (q.length + 1) (c - 1)) ?_ ?_
      ·intro w' hSw; go_simp; try decide
      try simp only [ls1, ls0]
      refine rtk 2 (.slice (some ⟨g4, o4, none⟩) t.ks.length ud) ?_ ?_
      ·intro w' hSw; go_simp; try decide
      try simp only [ls1, ls0]
      refine rtk 3 (.int .i64 AE) ?_ ?_
      ·intro w' hSw; go_simp; try decide
      try simp only [ls1, ls0]
      refine rtk 4 (.pointer (some ⟨g4, o4 + AE, none⟩)) ?_ ?_
      ·intro w' hSw; go_simp; try decide
      try simp only [ls1, ls0]
      refine rtk 5 (.slice A5 m5 d5) ?_ ?_
      ·intro w' hSw; have y9 := HY0.out w' hSw; go_simp; try decide
      try simp only [ls1, ls0]
      refine wpAnyH_ready (rs := [6]) (by kernel_rfl) (by simp) ?_
      refine AllReadyH.cons rfl (fun K6 hK6 => ?_) AllReadyH.nil
      go_simp
      refine (HDF.out We hG).mono ?_
      rintro e w4 ⟨rfl, hb4⟩
      go_wp2_with fail
      refine hK6.out _ _ (hG.trans (hb4.mono hG.size)) (fun hG4 => ?_)
      clear hK6 K6
      try simp only [ls1, ls0]
      refine rtk 7 (.tuple #[.slice none 0 0, .int .i64 5]) ?_ ?_
      ·intro w' hSw; go_simp; try decide
      try simp only [ls1, ls0]
      refine rtk 8 (.slice none 0 0) ?_ ?_
      ·intro w' hSw; go_simp; try decide
      try simp only [ls1, ls0]
      refine rtk 9 (.int .i64 5) ?_ ?_
      ·intro w' hSw; go_simp; try decide
      try simp only [ls1, ls0]
      refine rtk 10 (.slice none 0 0) ?_ ?_
      ·intro w' hSw; go_simp; try decide
      try simp only [ls1, ls0]
      refine rtk 11 (.int .i64 5) ?_ ?_
      ·intro w' hSw; go_simp; try decide
      try simp only [ls1, ls0]
      refine wpAnyH_done (by kernel_rfl) ?_ _
      have HBE := Lib.hid (Below.after HB3.out hG4)
      clear hG hG4 hb4
      go_wp2_with fail
      exact bodyPost_ret (v := .tuple #[.slice none 0 0, .int .i64 5]) (by simp [results, Tryz.results14, go_sem]) rfl (by rw [HR.out]; exact ⟨rfl, HBE.out⟩)
     | some y =>
      have HDF : Hid (∀ W, Below w3.heap.size w3 W → Calls Tryz.prog 14 #[.slice (some ⟨g, o + 3, none⟩) (q.length + 1) (c - 1), .slice A5 m5 d5] W (OutV W (.ok (nmd [] y)))) := Lib.hid (by have := HDE.out; rw [hcq] at this; exact this)
      have HR : Hid (R = some (withK t (t.ks.set AE y))) := Lib.hid (by rw [HCT.out, hcq])
      have HYY := Lib.hid (HY.out y hcq)
      clear HDE HCT HCN hcq HY
      go_wp2_with fail
      refine wp_region_held_drew (S := fun w' => Below w3.heap.size w3 w') (by kernel_rfl) ((Below.refl _ _).drew) (fun hG => ?_)
      generalize w3.drew = We at hG ⊢
      refine rtk 0 (.slice (some ⟨g, o, none⟩) (q.length + 1 + 1) c) ?_ ?_
      ·intro w' hSw; go_simp; try decide
      try simp only [ls1, ls0]
      refine rtk 1 (.slice (some ⟨g, o + 3, none⟩) (q.length + 1) (c - 1)) ?_ ?_
      ·intro w' hSw; go_simp; try decide
      try simp only [ls1, ls0]
      refine rtk 2 (.slice (some ⟨g4, o4, none⟩) t.ks.length ud) ?_ ?_
      ·intro w' hSw; go_simp; try decide
      try simp only [ls1, ls0]
      refine rtk 3 (.int .i64 AE) ?_ ?_
      ·intro w' hSw; go_simp; try decide
      try simp only [ls1, ls0]
      refine rtk 4 (.pointer (some ⟨g4, o4 + AE, none⟩)) ?_ ?_
      ·intro w' hSw; go_simp; try decide
      try simp only [ls1, ls0]
      refine rtk 5 (.slice A5 m5 d5) ?_ ?_
      ·intro w' hSw; have y9 := HY0.out w' hSw; go_simp; try decide
      try simp only [ls1, ls0]
      refine wpAnyH_ready (rs := [6]) (by kernel_rfl) (by simp) ?_
      refine AllReadyH.cons rfl (fun K6 hK6 => ?_) AllReadyH.nil
      go_simp
      refine (HDF.out We hG).mono ?_
      rintro e w4 h4
      obtain ⟨A6, d6, rfl, hx6, hb4⟩ := OutV.yes h4
      have HX6 := Lib.hid hx6
      clear h4 hx6
      go_wp2_with fail
      refine hK6.out _ _ (hG.trans (hb4.mono hG.size)) (fun hG4 => ?_)
      clear hK6 K6
      try simp only [ls1, ls0]
      refine rtk 7 (.tuple #[.slice A6 (flat (nmd [] y)).length d6, .int .i64 0]) ?_ ?_
      ·intro w' hSw; go_simp; try decide
      try simp only [ls1, ls0]
      refine rtk 8 (.slice A6 (flat (nmd [] y)).length d6) ?_ ?_
      ·intro w' hSw; go_simp; try decide
      try simp only [ls1, ls0]
      refine rtk 9 (.int .i64 0) ?_ ?_
      ·intro w' hSw; go_simp; try decide
      try simp only [ls1, ls0]
      refine rtk 10 (.slice A6 (flat (nmd [] y)).length d6) ?_ ?_
      ·intro w' hSw; go_simp; try decide
      try simp only [ls1, ls0]
      refine rtk 11 (.int .i64 0) ?_ ?_
      ·intro w' hSw; go_simp; try decide
      try simp only [ls1, ls0]
      refine wpAnyH_done (by kernel_rfl) ?_ _
      have HBE := Lib.hid (Below.after HB3.out hG4)
      have HB34 := Lib.hid hG4
      have HSE := Lib.hid (fun W (hb : Below w4.heap.size w4 W) => refSet_any [s] (.slice (some ⟨g, o, none⟩) 1 c) (.slice (some ⟨g1, o1, none⟩) m c1) (.slice A6 (flat (nmd [] y)).length d6) t (nmd [] y) W (Row.below HS1.out (HB34.out.trans (hb.mono HB34.out.size))) (Row.below HV.out (HBE.out.trans (hb.mono HBE.out.size))) (Row.below HX6.out hb) (by omega) HYY.out.2.1 ht HYY.out.1 hsh (by simp [hs1]) (by simp) (by intro z hz; simp at hz; subst hz; exact hnm))
      rw [HYY.out.2.2.1, HYY.out.2.2.2] at HSE
      clear hG hG4 hb4
      go_wp2_with fail
      refine (HSE.out w4 (Below.refl _ _)).mono ?_
      rintro e w5 ⟨A7, n7, c7, rfl, h7, hb7⟩
      have H7 := Lib.hid h7
      have HB7 := Lib.hid (Below.after HBE.out hb7)
      clear h7 hb7
      go_wp2_with fail
      exact bodyPost_ret (v := .tuple #[.slice A7 n7 c7, .int .i64 0]) (by simp [results, Tryz.results14, go_sem]) rfl (by rw [HR.out]; exact ⟨_, rfl, H7.out, HB7.out⟩)
end
section
open Go.RowKit Np Rw Vp Up Qp Pw Ev
theorem refDelete10_any : ∀ (p : List St) (pv v : Value) (t : Tr Nd) (w : World) (_ : Sps w pv p) (_ : Nds w v (flat t)) (_ : (flat t).length ≤ 200) (_ : Val t) (_ : Short (flat t)) (_ : ∀ s ∈ p, rightS s = true) (_ : ∀ s ∈ p, s.name.length ≤ maxLen),
  Calls Tryz.prog 14 #[pv, v] w (OutV w (ofO (cutE p t)))
 | [], pv, v, t, w, hp, hv, hl, ht, hsh, hs, hnm => by
  have HN := Lib.hid (fun W => refNull10_any W)
  obtain ⟨PA, pc, rfl, -⟩ := hp
  obtain ⟨VA, vc, rfl, -⟩ := hv
  rw [cutE]
  generalize hm : (flat t).length = m at *
  go_enter Tryz.func14, Tryz.ntmps14
  go_wp2_with fail
  refine (HN.out w).mono ?_
  rintro e w1 ⟨A, c1, rfl, h1, h2⟩
  have H1 := Lib.hid h1
  have H2 := Lib.hid h2
  clear h1 h2
  go_wp2_with fail
  exact bodyPost_ret (v := .tuple #[.slice A 1 c1, .int .i64 0]) (by simp [results, Tryz.results14, go_sem]) rfl ⟨_, rfl, H1.out, H2.out⟩
 | s :: p, pv, v, t, w, hp, hv, hl, ht, hsh, hs, hnm => by
  have hrec := fun (u : Tr Nd) (qv uv : Value) W (h1 : Sps W qv p) (h2 : Nds W uv (flat u)) (h3 : (flat u).length ≤ 200) (h4 : Val u) (h5 : Short (flat u)) => refDelete10_any p qv uv u W h1 h2 h3 h4 h5 (fun x hx => hs x (by simp [hx])) (fun x hx => hnm x (by simp [hx]))
  by_cases hk : t.nd.kind = stKind s
  ·cases hpt : s.part with
   | true => exact refDelete10_part s p pv v t w hp hv hl ht hsh hpt (by rw [hk]; simp [stKind, hpt]) (hs s (by simp)) (hnm s (by simp)) hrec
   | false => exact refDelete10_field s p pv v t w hp hv hl ht hsh hpt (by rw [hk]; simp [stKind, hpt]) (hs s (by simp)) (hnm s (by simp)) hrec
  ·exact refDelete10_no s p pv v t w hp hv hk
end
section
open Go.RowKit Go.Shelf Np Rw Vp Up Qp Pw Fw Ev
theorem few_trS {l : List Nd} (h : few 40 l = true) : ∃ t : Tr Nd, Val t ∧ l = flat t ∧ (flat t).length ≤ 40 ∧ Short (flat t) := by
 rw [few, Bool.and_eq_true, Bool.and_eq_true, decide_eq_true_eq] at h
 obtain ⟨t, ht, rfl⟩ := val_of_rightL h.2
 exact ⟨t, ht, rfl, h.1.1, few_short h.1.2⟩
def lstO : Option (Tr Nd) → List Nd
 | some u => flat u
 | none => []
def errO : Option (Tr Nd) → Int
 | some _ => 0
 | none => 5
theorem OutV.o {w w' : World} {R : Option (Tr Nd)} {e : Ending} (h : OutV w (ofO R) e w') : ∃ (A : Option Addr) (c : Nat), e = .returned (.tuple #[.slice A (lstO R).length c, .int .i64 (errO R)]) ∧ Nds w' (.slice A (lstO R).length c) (lstO R) ∧ Below w.heap.size w w' := by
 cases R with
 | some u =>
  obtain ⟨v', h1, h2, h3⟩ := h
  obtain ⟨A, c, rfl, -⟩ := id h2
  exact ⟨A, c, h1, h2, h3⟩
 | none => exact ⟨none, 0, h.1, Row.nil _, h.2⟩
theorem cond_two {l : List Tm} {v : Value} (h : fewF 40 (manyT where0 1 :: l) = true) : ∃ F : Tr Nd → Bool × Int,
  (∀ (nv : Value) (u : Tr Nd) (w : World), Tms w v l → Nds w nv (flat u) → Val u → (flat u).length ≤ 40 → Pv w →
   Calls Tryz.prog 9 #[v, nv] w fun e w' => e = .returned (.tuple #[.bool (F u).1, .int .i64 (F u).2]) ∧ Below w.heap.size w w') ∧
  (∀ (nv : Value) (u : Tr Nd) (w : World), Tms w v l → Nds w nv (flat u) → Val u → (flat u).length ≤ 40 →
   Calls Tryz.prog 10 #[v, nv] w fun e w' => e = .returned (.tuple #[.bool (F u).1, .int .i64 (F u).2]) ∧ Below w.heap.size w w') := by
 unfold fewF at h
 rw [Bool.and_eq_true, Bool.and_eq_true, decide_eq_true_eq] at h
 obtain ⟨T, hT, he⟩ := flt_of_rightF h.2
 obtain ⟨k, rfl, ho, hr, hc, hn⟩ := where_form hT he
 have hlen : (flat k).length ≤ 40 := by have := h.1.1; rw [List.length_cons] at this; omega
 have hs : ∀ x ∈ flat k, x.s.length ≤ 1000000 := fun x hx => by
  have := List.all_eq_true.1 h.1.2 x (by simp [hx])
  unfold shortT at this
  simp only [Bool.and_eq_true, decide_eq_true_eq] at this
  omega
 obtain ⟨F, hF⟩ := cnd_of_right _ k (Nat.le_refl _) ho hr hc hs
 have hd := refHolds10_any hF [] (by omega) ho (sgn_of_right ho hr)
 have hk : rnF [] k = k := by rw [← clrF_rn]; exact clrF_self hn
 rw [hk] at hd
 exact ⟨F, fun nv u w h1 h2 h3 h4 h5 => evHoldsX_any v nv k F u w h1 hF (by omega) h2 h3 (by omega) h5, fun nv u w h1 h2 h3 h4 => hd v nv u w h1 h2 (by omega) h3⟩
theorem evalHolds_any (fv qv vv : Value) (l : List Tm) (q : List St) (n : List Nd) (w : World) (hf : Tms w fv l) (hh : HeldF l) (hfl : l.length ≤ 1172812402926)
  (hq : Sps w qv q) (hqs : Stp q) (hqn : ∀ s ∈ q, s.name.length ≤ 140737488355328) (hvv : Nds w vv n) (hT : Pv w) :
  Calls Tryz.prog 3 #[fv, qv, vv] w fun e w' => e = .returned (.bool true) ∧ Below w.heap.size w w' := by
 have HT := Lib.hid hT
 have HAL : Hid (∀ W, Below w.heap.size w W → Calls Tryz.prog 8 #[] W fun e w' => e = .returned (.bool true) ∧ Below w.heap.size w w') := Lib.hid (fun W hW => (evAlive_any W (HT.out.below hW)).mono fun e w' h => ⟨h.1, Below.after hW h.2⟩)
 have HR := Lib.hid (fun (W : World) (hW : Below w.heap.size w W) => refRightP_any qv q W (hq.below hW) hqs.nm)
 have HGV := Lib.hid (fun (W : World) (hW : Below w.heap.size w W) (v' : Value) (h : Tms W v' (manyT where0 1 :: l)) => lawGiven_any v' vv (manyT where0 1 :: l) n W h (heldF_where hh) (hvv.below hW))
 have HTX : Hid (rightP q = true → ∀ W, Below w.heap.size w W → Calls Tryz.prog 7 #[qv] W fun e w' => e = .returned (.string ⟨(textP q).toArray⟩) ∧ Below W.heap.size W w') := Lib.hid (fun hr W hW => by
  rw [rightP, Bool.and_eq_true, decide_eq_true_eq] at hr
  have h1 := textP_le (fun s hs => List.all_eq_true.1 hr.1 s hs) hqn
  have h2 : q.length * (6 * 140737488355328 + 10) ≤ 20 * (6 * 140737488355328 + 10) := Nat.mul_le_mul_right _ hr.2
  exact refTextP_any qv q W (hq.below hW) hr.1 hqn (by omega) (by omega))
 have HQN := Lib.hid hqs.nm
 have HF := Lib.hid hf
 have HQ := Lib.hid hq
 have HV := Lib.hid hvv
 obtain ⟨PA, pc, rfl, -⟩ := hf
 obtain ⟨QA, qc, rfl, -⟩ := hq
 obtain ⟨VA, vc, rfl, -⟩ := hvv
 have HMD : Hid (∀ W, Below w.heap.size w W → Calls Tryz.prog 4 #[tma where0, .slice none 0 0, .slice (some ⟨W.heap.size, 0, none⟩) 1 1] (W.alloc (.cells #[.slice PA l.length pc] 23)) fun e w' => ∃ v', e = .returned v' ∧ Tms w' v' (manyT where0 1 :: l) ∧ Below w.heap.size w w') := Lib.hid (fun W hW => by
  have hb := (Below.refl W.heap.size W).alloc (Nat.le_refl _) (.cells #[.slice PA l.length pc] 23)
  refine (refMade_any where0 _ [l] _ (fls_one W _ rfl 23 _ l (HF.out.below hW)) (by simp) (by simpa using hfl)).mono ?_
  rintro e w' ⟨v', rfl, ho, hb'⟩
  have hr := Own.row tmc_len ho
  rw [show manyT where0 [l].length :: [l].flatten = manyT where0 1 :: l by simp] at hr
  exact ⟨v', rfl, hr, Below.after hW (Below.after hb hb')⟩)
 have HB : Hid (Below w.heap.size w w) := Lib.hid (Below.refl _ _)
 clear hqs hT hqn hfl hh
 go_enter Tryz.func3, Tryz.ntmps3
 go_wp2_with fail
 refine (HMD.out w HB.out).mono ?_
 rintro e w1 ⟨v1, rfl, hr1, hb1⟩
 have HB1 := Lib.hid hb1
 have hgv := HGV.out w1 hb1 _ hr1
 obtain ⟨A1, N1, c1, rfl⟩ : ∃ (A : Option Addr) (k c : Nat), v1 = .slice A k c := by obtain ⟨A, c, h, -⟩ := hr1; exact ⟨A, _, c, h⟩
 clear hr1 hb1 HMD HGV
 cases hgw : (fewF 40 (manyT where0 1 :: l) && few 40 n)
 ·rw [hgw] at hgv
  go_wp2_with fail
  refine hgv.mono ?_
  rintro e w2 ⟨rfl, hb2⟩
  have HB2 := Lib.hid (Below.after HB1.out hb2)
  clear hb2
  go_wp2_with fail
  refine (HAL.out _ HB2.out).mono ?_
  rintro e wa ⟨rfl, hba⟩
  go_wp2_with fail
  go_ret
  exact ⟨rfl, hba⟩
 ·rw [hgw] at hgv
  rw [Bool.and_eq_true] at hgw
  obtain ⟨hfw, hvw⟩ := hgw
  obtain ⟨t, ht, rfl, hl40, hsh⟩ := few_trS hvw
  obtain ⟨F, hP, hD⟩ := cond_two (v := .slice PA l.length pc) hfw
  have HP := Lib.hid hP
  have HD := Lib.hid hD
  have HVT := Lib.hid ht
  have HSH := Lib.hid hsh
  clear hfw hvw hP hD ht hsh
  go_wp2_with fail
  refine hgv.mono ?_
  rintro e w2 ⟨rfl, hb2⟩
  have HB2 := Lib.hid (Below.after HB1.out hb2)
  clear hb2 hgv HB1
  cases hr : rightP q
  ·have h := HR.out w2 HB2.out
   rw [hr] at h
   go_wp2_with fail
   refine h.mono ?_
   rintro e w3 ⟨rfl, hb3⟩
   have HB3 : Hid (Below w.heap.size w w3) := Lib.hid (by rw [hb3]; exact HB2.out)
   clear hb3
   go_wp2_with fail
   refine (HAL.out _ HB3.out).mono ?_
   rintro e wa ⟨rfl, hba⟩
   go_wp2_with fail
   go_ret
   exact ⟨rfl, hba⟩
  ·have h := HR.out w2 HB2.out
   rw [hr] at h
   have htx := HTX.out hr w2 HB2.out
   rw [rightP, Bool.and_eq_true, List.all_eq_true] at hr
   have HQR := Lib.hid hr.1
   clear hr
   go_wp2_with fail
   refine h.mono ?_
   rintro e w3 ⟨rfl, rfl⟩
   go_wp2_with fail
   refine htx.mono ?_
   rintro e w4 ⟨rfl, hb4⟩
   have HB4 := Lib.hid (Below.after HB2.out hb4)
   clear hb4 htx h HTX HR HB2
   by_cases hlt : 200 < (textP q).length
   ·have hd : decide (((textP q).length : Int) > 200) = true := by simpa using (by omega : (200 : Int) < (textP q).length)
    generalize textP q = tx at *
    go_wp2_with fail
    refine (HAL.out _ HB4.out).mono ?_
    rintro e wa ⟨rfl, hba⟩
    go_wp2_with fail
    go_ret
    exact ⟨rfl, hba⟩
   ·have hd : decide (((textP q).length : Int) > 200) = false := by simpa using (by omega : ((textP q).length : Int) ≤ 200)
    generalize textP q = tx at *
    have HVN := Lib.hid (fun (W : World) (hW : Below w.heap.size w W) => (HV.out.below hW : Nds W (.slice VA (flat t).length vc) (flat t)))
    have HH1 := Lib.hid (fun (W : World) (hW : Below w.heap.size w W) => HP.out _ t W (HF.out.below hW) (HVN.out W hW) HVT.out hl40 (HT.out.below hW))
    have HH2 := Lib.hid (fun (W : World) (hW : Below w.heap.size w W) => HD.out _ t W (HF.out.below hW) (HVN.out W hW) HVT.out hl40)
    have HF1 := Lib.hid (fun (W : World) (hW : Below w.heap.size w W) => evFollow_any _ _ q t W (HQ.out.below hW) HQR.out (HVN.out W hW) HVT.out (by omega))
    have HF2 := Lib.hid (fun (W : World) (hW : Below w.heap.size w W) => refFollow10_any q _ _ t W (HQ.out.below hW) (HVN.out W hW) (by omega) HVT.out HQR.out)
    have HD1 := Lib.hid (fun (W : World) (hW : Below w.heap.size w W) => evDelete_any _ _ q t W (HQ.out.below hW) HQR.out (HVN.out W hW) HVT.out (by omega))
    have HD2 := Lib.hid (fun (W : World) (hW : Below w.heap.size w W) => refDelete10_any q _ _ t W (HQ.out.below hW) (HVN.out W hW) (by omega) HVT.out HSH.out HQR.out HQN.out)
    clear HP HD
    generalize F t = RF at *
    obtain ⟨a, k⟩ := RF
    simp only at HH1 HH2
    go_wp2_with fail
    refine (HH1.out _ HB4.out).mono ?_
    rintro e w5 ⟨rfl, hb5⟩
    have HB5 := Lib.hid (Below.after HB4.out hb5)
    clear hb5 HB4 HH1
    go_wp2_with fail
    refine (HH2.out _ HB5.out).mono ?_
    rintro e w6 ⟨rfl, hb6⟩
    have HB6 := Lib.hid (Below.after HB5.out hb6)
    clear hb6 HB5 HH2
    go_wp2_with fail
    refine (HF1.out _ HB6.out).mono ?_
    intro e w7 h7
    obtain ⟨XA, xc, rfl, hx7, hb7⟩ := h7.o
    have HX7 := Lib.hid hx7
    have HB7 := Lib.hid (Below.after HB6.out hb7)
    clear hx7 hb7 h7 HB6 HF1
    go_wp2_with fail
    refine (HF2.out _ HB7.out).mono ?_
    intro e w8 h8
    obtain ⟨YA, yc, rfl, hy8, hb8⟩ := h8.o
    have HY8 := Lib.hid hy8
    have HX8 := Lib.hid (HX7.out.below hb8)
    have HB8 := Lib.hid (Below.after HB7.out hb8)
    clear hy8 hb8 h8 HB7 HF2 HX7
    go_wp2_with fail
    refine (HD1.out _ HB8.out).mono ?_
    intro e w9 h9
    obtain ⟨SA, sc, rfl, hs9, hb9⟩ := h9.o
    have HS9 := Lib.hid hs9
    have HX9 := Lib.hid (HX8.out.below hb9)
    have HY9 := Lib.hid (HY8.out.below hb9)
    have HB9 := Lib.hid (Below.after HB8.out hb9)
    clear hs9 hb9 h9 HB8 HD1 HX8 HY8
    go_wp2_with fail
    refine (HD2.out _ HB9.out).mono ?_
    intro e w10 h10
    obtain ⟨TA, tc, rfl, ht10, hb10⟩ := h10.o
    have HT10 := Lib.hid ht10
    have HS10 := Lib.hid (HS9.out.below hb10)
    have HX10 := Lib.hid (HX9.out.below hb10)
    have HY10 := Lib.hid (HY9.out.below hb10)
    have HB10 := Lib.hid (Below.after HB9.out hb10)
    clear ht10 hb10 h10 HB9 HD2 HS9 HX9 HY9
    generalize lstO (alongE q t) = L1 at *
    generalize lstO (cutE q t) = L2 at *
    generalize errO (alongE q t) = E1 at *
    generalize errO (cutE q t) = E2 at *
    go_wp2_with fail
    refine (evAlive_any _ (HT.out.below HB10.out)).mono ?_
    rintro e w11 ⟨rfl, hb11⟩
    have HT11 := Lib.hid (HT10.out.below hb11)
    have HS11 := Lib.hid (HS10.out.below hb11)
    have HX11 := Lib.hid (HX10.out.below hb11)
    have HY11 := Lib.hid (HY10.out.below hb11)
    have HB11 := Lib.hid (Below.after HB10.out hb11)
    clear hb11 HT10 HS10 HX10 HY10 HB10
    have hS := refSame_any _ _ _ _ w11 HX11.out HY11.out
    rw [show decide (L1 = L1) = true by simp] at hS
    have haa : (a == a) = true := by cases a <;> rfl
    go_wp2_with fail
    refine hS.mono ?_
    rintro e w12 ⟨rfl, hb12⟩
    have hS2 := refSame_any _ _ _ _ w12 (HS11.out.below hb12) (HT11.out.below hb12)
    rw [show decide (L2 = L2) = true by simp] at hS2
    have HB12 := Lib.hid (Below.after HB11.out hb12)
    clear hb12 hS HB11 HX11 HY11 HS11 HT11
    go_wp2_with fail
    refine hS2.mono ?_
    rintro e w13 ⟨rfl, hb13⟩
    go_wp2_with fail
    go_ret
    exact ⟨rfl, Below.after HB12.out hb13⟩
end
end Go.Proofs.YtldioobbfkaebaaGreatDoor
